import PyProof.Rows.All
import Wide.All
import OpenK.AllK
import Wide.FinOn
import Lean
import PyProof.EqAt
import PyProof.EqKinds
import PyProof.TupleCall
import PyProof.NeKinds
import KE.KTabLook
import KE.KIntText
import KE.KUnpack
import PyProof.StrBlock2
import KE.KLam
import PyProof.Rows.SortShellK
import PyProof.Rows.SortKeyStr
import KE.KDictSum
import KE.KItemsList
import PyProof.Rows.SortStr
import KE.KDictLaws
import PyProof.DictWalks
import PyProof.Rows.StrInSeq3
import PyProof.FactsAll.list_1
import PyProof.ZipIter
import PyProof.Draws
import PyProof.AttrMissHeap
import PyProof.DictUpdate
import PyProof.ListNew
import PyProof.FactsAll.dict_1
import PyProof.Rows.DictSet
import PyProof.ForAppend
import KE.KRevSl
import PyProof.Rows.StrNews
import PyProof.StrLawsTight
import KE.KRevIter
import PyProof.ListRange
import PyProof.DictItemsLoops
import PyProof.CompUse
import PyProof.EnumMake
import PyProof.Rows.CallKwBuiltin
import OpenK.KMore
import PyProof.Rows.SeqIn
import KE.KSortTup
import KE.KDictList
import PyProof.AutoListH
import PySem.Challenge.RW_anydelay_k24_orders_that_part
import KE.BitLaws
set_option linter.all false
set_option maxRecDepth 100000
set_option Elab.async false
namespace L2
open PySem
def du (s:Stmt):Arguments:=match s with
 | .FunctionDef _ a _ _ _ _ _ _ _ _=>a
 | _=>{ posonlyargs:=[],args:=[],vararg:=none,kwonlyargs:=[],kw_defaults:=[],kwarg:=none,defaults:=[] }
def cw (s:Stmt):List Stmt:=match s with
 | .FunctionDef _ _ b _ _ _ _ _ _ _=>b
 | _=>[]
def ay (s:Stmt):Scope:=match s with
 | .FunctionDef _ _ _ _ _ _ sc _ _ _=>sc
 | _=>{ kind:=.function,names:=[],isGenerator:=false,isCoroutine:=false }
end L2
namespace K2
open PySem L2 PySem.W
def top (i:Nat):Stmt:=PySem.Challenge.pw_anydelay_k24_orders_that_part.main.body.getD i (.Pass ⟨0,0,0,0⟩)
def kC (n:Str) (t:Nat) (l a fl:Int) (r:Addr) (x y:Value) (z:Addr) (u:Nat):Obj:={ cls:=.type "code", data:=.fields #[.str n t,.str n (t+1),.str "/claim/cut.py" (t+2),.int l 0,.int a 0,.int 0 0,.int 0 0,.int 3 0,.ref r,.bool true,.int fl 0,.ref (r+1),.none,x,y,.ref z,.int u 0,.int l 0,.str "/claim/cut.py" (u+1)] }
def kF (n:Str) (i:Nat) (m:Str) (t:Nat) (c:Addr):Obj:={ cls:=.type "function", data:=.func { name:=n,qualname:=n,params:=du (top i),body:=.stmts (cw (top i)),scope:=ay (top i),globals:=3,closure:=[],defaults:=.none,kwdefaults:=.none,pyModule:=.str m t,code:=.ref c } }
def kE (P:Params) (x:Str) (t:Nat) (v:Value):DictEntry:={ hash:=PyData.keyHash P x,key:=.str x t,val:=v }
def KF (P:Params):Frag:=[(3,{ cls:=.type "dict", data:=.dict #[kE P "__name__" 165 (.str "law_anydelay_k24_orders_that_part" 389),kE P "__doc__" 166 .none,kE P "__package__" 167 .none,kE P "__loader__" 168 (.builtin "__main__.__loader__#opaque"),kE P "__spec__" 169 .none,kE P "__annotations__" 170 (.ref 6),kE P "__builtins__" 171 (.ref 4),kE P "__file__" 173 (.str "/claim/cut.py" 172),kE P "__cached__" 174 .none,kE P "NetError" 206 (.ref 24),kE P "NoStanding" 222 (.ref 37),kE P "TURNED" 231 (.ref 40),kE P "is_row" 237 (.ref 45),kE P "gates_of" 243 (.ref 50),kE P "wires_of" 250 (.ref 57),kE P "is_standing" 258 (.ref 64),kE P "check_standing" 266 (.ref 71),kE P "rule_holds" 275 (.ref 78),kE P "rule_worth" 283 (.ref 85),kE P "signs_in" 291 (.ref 92),kE P "turned_at" 299 (.ref 99),kE P "steps_from" 311 (.ref 106),kE P "found_from" 328 (.ref 113),kE P "steps_found" 337 (.ref 120),kE P "order_to" 351 (.ref 127),kE P "rests_in" 357 (.ref 132),kE P "standings_ahead" 365 (.ref 137),kE P "most_switchings" 371 (.ref 142),kE P "round_told" 377 (.ref 147),kE P "told_parting" 388 (.ref 154),kE P "_law_draws" 404 (.ref 161),kE P "_law_names" 410 (.ref 166),kE P "_law_rule" 423 (.ref 173),kE P "_law_held" 432 (.ref 180),kE P "_law_known" 438 (.ref 185),kE P "_law_deeper" 452 (.ref 192),kE P "_law_net" 470 (.ref 199),kE P "_law_standing" 476 (.ref 204),kE P "_law_holds" 486 (.ref 211),kE P "_law_asked" 492 (.ref 216),kE P "_law_ways" 498 (.ref 221),kE P "_law_levels" 512 (.ref 228),kE P "_law_one" 518 (.ref 233),kE P "_law_copy" 525 (.ref 240),kE P "_law_end" 531 (.ref 245),kE P "_law_parts" 542 (.ref 252),kE P "law" 557 (.ref 259)] 47 }),
 (40,{ cls:=.type "dict", data:=.dict #[kE P "0" 225 (.str "1" 226),kE P "1" 227 (.str "0" 228)] 2 }),
 (44,kC "is_row" 232 8 2 181 41 .none .none 43 235),
 (45,kF "is_row" 5 "anydelay.nets" 223 44),
 (49,kC "gates_of" 238 12 1 181 46 .none .none 48 241),
 (50,kF "gates_of" 6 "anydelay.nets" 223 49),
 (56,kC "wires_of" 244 14 1 181 51 (.ref 53) (.ref 54) 55 248),
 (57,kF "wires_of" 7 "anydelay.nets" 223 56),
 (63,kC "is_standing" 251 16 2 181 58 (.ref 60) (.ref 61) 62 256),
 (64,kF "is_standing" 8 "anydelay.nets" 223 63),
 (70,kC "check_standing" 259 18 2 181 65 (.ref 67) (.ref 68) 69 264),
 (71,kF "check_standing" 9 "anydelay.nets" 223 70),
 (77,kC "rule_holds" 267 21 2 181 72 (.ref 74) (.ref 75) 76 273),
 (78,kF "rule_holds" 10 "anydelay.nets" 223 77),
 (84,kC "rule_worth" 276 30 2 181 79 (.ref 81) (.ref 82) 83 281),
 (85,kF "rule_worth" 11 "anydelay.nets" 223 84),
 (91,kC "signs_in" 284 32 2 181 86 (.ref 88) (.ref 89) 90 289),
 (92,kF "signs_in" 12 "anydelay.nets" 223 91),
 (98,kC "turned_at" 292 34 2 181 93 (.ref 95) (.ref 96) 97 297),
 (99,kF "turned_at" 13 "anydelay.nets" 223 98),
 (105,kC "steps_from" 300 36 2 181 100 (.ref 102) (.ref 103) 104 309),
 (106,kF "steps_from" 14 "anydelay.nets" 223 105),
 (112,kC "found_from" 314 44 2 181 107 (.ref 109) (.ref 110) 111 326),
 (113,kF "found_from" 16 "anydelay.orders" 312 112),
 (119,kC "steps_found" 329 59 2 181 114 (.ref 116) (.ref 117) 118 335),
 (120,kF "steps_found" 17 "anydelay.orders" 312 119),
 (126,kC "order_to" 338 61 3 181 121 (.ref 123) (.ref 124) 125 349),
 (127,kF "order_to" 18 "anydelay.orders" 312 126),
 (131,kC "rests_in" 352 72 1 181 128 .none .none 130 355),
 (132,kF "rests_in" 19 "anydelay.orders" 312 131),
 (136,kC "standings_ahead" 360 75 1 181 133 .none .none 135 363),
 (137,kF "standings_ahead" 21 "anydelay.onerest" 358 136),
 (141,kC "most_switchings" 366 81 1 181 138 .none .none 140 369),
 (142,kF "most_switchings" 22 "anydelay.onerest" 358 141),
 (146,kC "round_told" 372 96 3 181 143 .none .none 145 375),
 (147,kF "round_told" 23 "anydelay.onerest" 358 146),
 (153,kC "told_parting" 378 107 2 181 148 (.ref 150) (.ref 151) 152 386),
 (154,kF "told_parting" 24 "anydelay.onerest" 358 153),
 (160,kC "_law_draws" 391 116 2 181 155 (.ref 157) (.ref 158) 159 402),
 (161,kF "_law_draws" 26 "law_anydelay_k24_orders_that_part" 389 160),
 (165,kC "_law_names" 405 139 2 181 162 .none .none 164 408),
 (166,kF "_law_names" 27 "law_anydelay_k24_orders_that_part" 389 165),
 (172,kC "_law_rule" 411 161 4 181 167 (.ref 169) (.ref 170) 171 421),
 (173,kF "_law_rule" 28 "law_anydelay_k24_orders_that_part" 389 172),
 (179,kC "_law_held" 424 171 3 181 174 (.ref 176) (.ref 177) 178 430),
 (180,kF "_law_held" 29 "law_anydelay_k24_orders_that_part" 389 179),
 (184,kC "_law_known" 433 173 3 181 181 .none .none 183 436),
 (185,kF "_law_known" 30 "law_anydelay_k24_orders_that_part" 389 184),
 (191,kC "_law_deeper" 439 188 4 181 186 (.ref 188) (.ref 189) 190 450),
 (192,kF "_law_deeper" 31 "law_anydelay_k24_orders_that_part" 389 191),
 (198,kC "_law_net" 453 196 2 181 193 (.ref 195) (.ref 196) 197 468),
 (199,kF "_law_net" 32 "law_anydelay_k24_orders_that_part" 389 198),
 (203,kC "_law_standing" 471 217 2 181 200 .none .none 202 474),
 (204,kF "_law_standing" 33 "law_anydelay_k24_orders_that_part" 389 203),
 (210,kC "_law_holds" 477 219 2 181 205 (.ref 207) (.ref 208) 209 484),
 (211,kF "_law_holds" 34 "law_anydelay_k24_orders_that_part" 389 210),
 (215,kC "_law_asked" 487 229 2 181 212 .none .none 214 490),
 (216,kF "_law_asked" 35 "law_anydelay_k24_orders_that_part" 389 215),
 (220,kC "_law_ways" 493 239 2 181 217 .none .none 219 496),
 (221,kF "_law_ways" 36 "law_anydelay_k24_orders_that_part" 389 220),
 (227,kC "_law_levels" 499 248 2 181 222 (.ref 224) (.ref 225) 226 510),
 (228,kF "_law_levels" 37 "law_anydelay_k24_orders_that_part" 389 227),
 (232,kC "_law_one" 513 261 2 181 229 .none .none 231 516),
 (233,kF "_law_one" 38 "law_anydelay_k24_orders_that_part" 389 232),
 (239,kC "_law_copy" 519 266 1 181 234 (.ref 236) (.ref 237) 238 523),
 (240,kF "_law_copy" 39 "law_anydelay_k24_orders_that_part" 389 239),
 (244,kC "_law_end" 526 268 3 181 241 .none .none 243 529),
 (245,kF "_law_end" 40 "law_anydelay_k24_orders_that_part" 389 244),
 (251,kC "_law_parts" 532 277 3 181 246 (.ref 248) (.ref 249) 250 540),
 (252,kF "_law_parts" 41 "law_anydelay_k24_orders_that_part" 389 251),
 (258,kC "law" 543 289 1 181 253 (.ref 255) (.ref 256) 257 555),
 (259,kF "law" 42 "law_anydelay_k24_orders_that_part" 389 258)]
def hk:Hook:=kmHook KF [3,40,44,45,49,50,56,57,63,64,70,71,77,78,84,85,91,92,98,99,105,106,112,113,119,120,126,127,131,132,136,137,141,142,146,147,153,154,160,161,165,166,172,173,179,180,184,185,191,192,198,199,203,204,210,211,215,216,220,221,227,228,232,233,239,240,244,245,251,252,258,259] (λ_=>rfl) [115]
def vw:Program:={ PySem.Challenge.pw_anydelay_k24_orders_that_part with main:={ PySem.Challenge.pw_anydelay_k24_orders_that_part.main with body:=[1,2,4,5,6,7,8,9,10,11,12,13,14,16,17,18,19,21,22,23,24,26,27,28,29,30,31,32,33,34,35,36,37,38,39,40,41,42].map top } }
def LW (w:World):Prop:=(openEnds treeTable PySem.Challenge.rw_anydelay_k24_orders_that_part.prog w 3222).map (λs=>(openSeen vw [("TURNED" : Str)] (importedModules PySem.Challenge.rw_anydelay_k24_orders_that_part.prog.main.body) (λs=>xlAt vw [] s&&recOk (RowW.records PySem.Challenge.rw_anydelay_k24_orders_that_part.row.toRowW) s) true s,Hook.obs hk s))=some (openGood vw [("TURNED" : Str)],Hook.val hk w)
set_option maxHeartbeats 0 in
theorem AZ:∀w:World,LW (w.withFollow "special-get-raises" false):=λw=>by unfold LW;kernel_rfl
set_option maxHeartbeats 0 in
theorem AY:∀w:World,LW (w.withFollow "special-get-raises" true):=λw=>by unfold LW;kernel_rfl
theorem left:LeftO PySem.Challenge.rw_anydelay_k24_orders_that_part.prog vw [("TURNED" : Str)] (λs=>xlAt vw [] s&&recOk (RowW.records PySem.Challenge.rw_anydelay_k24_orders_that_part.row.toRowW) s) (Hook.obs hk) (Hook.val hk) 3222:=λw=>byRow2 (P:=LW) "special-get-raises" AZ AY w
end K2
section
variable {a b c d e f g h i j k l m n x r lo:Nat}
local macro_rules | `(tactic| walk_at "so") => `(tactic| (intros; first | solve_by_elim (maxDepth := 3) [Nat.le_of_lt, Nat.lt_of_lt_of_le, Nat.lt_of_le_of_lt, Nat.le_trans, Nat.lt_of_not_ge, Nat.lt_of_not_le, Nat.le_of_not_lt, Nat.ge_of_not_lt, Nat.le_add_right, Nat.le_add_left, Nat.sub_le, Nat.lt_succ_self, Nat.le_succ, Nat.add_le_add_left, Nat.add_le_add_right, Nat.add_lt_add_left, Nat.add_lt_add_right, Nat.succ_le_of_lt, Nat.lt_of_succ_le, Nat.le_of_eq, Nat.le_antisymm, Nat.lt_of_le_of_ne, Nat.le_refl, Nat.zero_le, Nat.sub_lt, Nat.succ_le_succ, Nat.lt_succ_of_le, Nat.le_of_lt_succ, Eq.symm, Eq.trans] | (subst_vars; solve_by_elim (maxDepth := 3) [Nat.le_of_lt, Nat.lt_of_lt_of_le, Nat.lt_of_le_of_lt, Nat.le_trans, Nat.lt_of_not_ge, Nat.lt_of_not_le, Nat.le_of_not_lt, Nat.ge_of_not_lt, Nat.le_add_right, Nat.le_add_left, Nat.sub_le, Nat.lt_succ_self, Nat.le_succ, Nat.add_le_add_left, Nat.add_le_add_right, Nat.add_lt_add_left, Nat.add_lt_add_right, Nat.succ_le_of_lt, Nat.lt_of_succ_le, Nat.le_of_eq, Nat.le_antisymm, Nat.lt_of_le_of_ne, Nat.le_refl, Nat.zero_le, Nat.sub_lt, Nat.succ_le_succ, Nat.lt_succ_of_le, Nat.le_of_lt_succ, Eq.symm, Eq.trans])))
theorem om0:a<=b->¬a<b->a=b:=by grind
theorem om1:a-b<=a-b:=by simp_all
theorem om2:¬b<a->a<=b:=by walk_at "so"
theorem om3:c=b->b=d->a<c->a<b:=by walk_at "so"
theorem om4:c<=b->c=a->a<=b:=by walk_at "so"
theorem om5:a+1≠a:=by simp_all
theorem om6:b<a->a-(b+1)<a-b:=by omega
theorem om7:c=d->c=a->d=b->a=b:=by walk_at "so"
theorem om8:a+(c+1)<b->a<b:=by grind
theorem om9:b=c->b=d->c=e->a<d->a<b:=by intros;simp_all
theorem Ca:c=b->c=d->b=e->a<d->a<b:=by intros;simp_all
theorem AO:a+(b+1)<c->a+1+b<c:=by omega
theorem w6:b=c->a<c->a<b:=by walk_at "so"
theorem Av:a<c->b=c->a<b:=by walk_at "so"
theorem Aj:c=a->d=b->c=d->a=b:=by walk_at "so"
theorem sG:a+64<b->a<b:=by grind
theorem w4:a+64<b->a+1+8<b:=by grind
theorem wZ:c=b->a<c->a<b:=by walk_at "so"
theorem wY:b<=100000->a=b->a<=16777216:=by grind
theorem B_:b<=a->a<=c->a-b<=c-0:=by grind
theorem B9:a<b->a+(b-a) / 2+1<=b:=by grind
theorem B8:a<b+(c-b) / 2+1->a<=b+(c-b) / 2:=by walk_at "so"
theorem B7:b<=c->a<b->a+(b-a) / 2<c:=by grind
theorem B6:a<=a+(b-a) / 2:=by walk_at "so"
theorem B5:b<=c->a<b->a+(b-a) / 2<=c:=by omega
theorem yG:a<=b->b-a<=c-max 0 c->a=b:=by grind
theorem B4:a<b->a+0<b:=by walk_at "so"
theorem yD:a<c->¬b>=c-a->a+b<c:=by grind
theorem yz:a<2*a+1:=by grind
theorem B3:a<d->b<c->a+b<d->a+b+1<=a+min c (d-a):=by grind
theorem B2:a<c->a+min b (c-a)<=c:=by grind
theorem B1:a<b+c+1->a<=b+c:=by walk_at "so"
theorem B0:a<d->a+min b (d-a)<=c->b<d-a->a+b<=c:=by grind
theorem wX:a<=b->a>=b->a=b:=by grind
theorem yy:b<=c->¬a>=b->a+(b-a) / 2<c:=by grind
theorem uD:¬a>=b->a<b:=by walk_at "so"
theorem wW:0<=a:=by walk_at "so"
theorem BZ:a<c->d<b->¬b>=a+1->a-b<c:=by grind
theorem BY:¬a>=b+1->a<=b:=by walk_at "so"
theorem BX:c<b->c<=a->a+1-min b (a+1)<=a-c:=by omega
theorem BW:a<c->b<=a->a-b<=c:=by grind
theorem BV:a<b+1-min c (b+1)->c<b+1->a<=b-c:=by grind
theorem BU:a<c->d<b->b<a+1->a-b<c:=by grind
theorem BT:a+1=b->a<b:=by walk_at "so"
theorem BS:a+b+1=a+(b+1):=by walk_at "so"
theorem qE:a<=b->a+1<=b+1:=by walk_at "so"
theorem BR:a+b+1=a+1+b:=by grind
theorem yx:a<min b c->a<min b c:=by walk_at "so"
theorem uC:a<min b c->a<b:=by grind
theorem yw:a+b<=c->min (a+b) c-a=b:=by intros;simp_all
theorem BQ:a+b+c=a+c+b:=by grind
theorem yu:c=d->a<=b->a<=b+c:=by grind
theorem BP:a+b+c=a+(b+c):=by grind
theorem yt:a<=b->¬a=b->a<b:=by grind
theorem yr:a+d<=c->b<d->a+b<c:=by grind
theorem BO:a+d<=c->b<=e->e<d->a+b<c:=by grind
theorem sF:a<=a+b:=by walk_at "so"
theorem BN:b<=c->a+b<=a+c:=by walk_at "so"
theorem BL:b<c->a+b<a+c:=by walk_at "so"
theorem sE:1<=a->0<a:=by walk_at "so"
theorem yq:1<=a->0<=a:=by walk_at "so"
theorem BK:1<=a->¬0+1=a->0+1<a:=by grind
theorem BJ:1<=b->1<=a->¬1=a->¬0+1=b->1<a:=by grind
theorem wV:a+1<b->a<b:=by walk_at "so"
theorem wU:a<b->¬a+1=b->a+1<b:=by omega
theorem uB:a+1+(b+1)<=a+1+b+1:=by walk_at "so"
theorem yp:a+1<b->¬a+1+1=b->a+1+1<b:=by omega
theorem BI:a+1<b->a+(b-a)<=b:=by grind
theorem BH:b+1<a->0<a-b:=by grind
theorem BG:a<b->a+1+(b-(a+1))<=b:=by omega
theorem BF:b<a->¬b+1=a->0<a-(b+1):=by omega
theorem yo:a+1+(b+1)<=a+1+b+1+1:=by walk_at "so"
theorem BE:a<c->b<=c-(a+1)->a+1+b<=c:=by grind
theorem yn:¬a>0->a=0:=by simp
theorem BD:b<a->¬b+1=a->0<=a-(b+1)->0<a-(b+1):=by grind
theorem BC:a+1<c->b<=c-a->a+b<=c:=by grind
theorem BB:b+1<a->0<=a-b->0<a-b:=by omega
theorem BA:1<=a->a=a-1+1:=by intros;simp_all
theorem ym:1<=a->a<=b->a-1<=b:=by grind
theorem Bz:1<=b->a+b+c=d+e->a+1+(b-1)+c=d+e:=by grind
theorem By:1<=c->a+b+c=d+e->a+1+b+(c-1)=d+e:=by grind
theorem Bx:a<min b c-d->a<min b c-d:=by intros;simp_all
theorem yk:b<min c d-a->a+b<c:=by omega
theorem yj:c<=a->a<=b->min a b-c=a-c:=by intros;simp_all
theorem yi:a<=c->c<=b->a<=b:=by grind
theorem yh:c=d-e->a<=b->a<=b+c:=by grind
theorem qD:1<=a->a-1<a:=by grind
theorem Bw:1<=b->1<=c->¬a=0->¬c=1->1<=a:=by grind
theorem wT:1<=a->a<=b->a-1<b:=by omega
theorem wS:2<=a->a<=b->a-1<b:=by grind
theorem sD:2<=a->1<=a:=by walk_at "so"
theorem xZ:1<=a->¬a-1=0->1<=a-1:=by omega
theorem xY:2<=a->¬a-1=1->2<=a-1:=by grind
theorem Bv:a<=b->0+a<=b:=by grind
theorem Bu:2<=a->a<=b->0+(a-1)<=b:=by grind
theorem Bt:2<=a->a-1-1<a-1:=by grind
theorem Bs:a<=b-1->a<=b-1:=by walk_at "so"
theorem Br:¬a=1->¬a=0->2<=a:=by grind
theorem Bq:2<=a->c=a-1-b->¬c>0->a-1-1<b:=by omega
theorem wR:a<=b->a<=b:=by simp
theorem AU:¬a=0->1<=a:=by grind
theorem AT:1<=a->c=a-b->¬c>0->a-1<b:=by omega
theorem AS:a<=b->b<1->a=b:=by intros;simp_all
theorem we:a<b+1->¬a<b->a=b:=by grind
theorem wc:a<=b->1<=b->¬a=b->a<=b-1:=by grind
theorem wb:1<=b->b<=a->1<=a:=by omega
theorem sI:a<b->a<=b:=by walk_at "so"
theorem AR:a<=b->max a b=b:=by intros;simp_all
theorem AQ:d<=a->b<d->¬(a<=b/\b<c):=by grind
theorem wa:1<=b->a+b-1=a+(b-1):=by grind
theorem AM:a<=b->¬a=b->max (a+1) b=b:=by grind
theorem pI:a+d<=e->b<d->c=e->a+b<c:=by omega
theorem AK:c+1<=b->a+b-1=a+(b-1):=by grind
theorem sH:b+1<=a->1<=a:=by grind
theorem v_:c+1<=b->a<=a+b-(c+1):=by omega
theorem AJ:a+d<=e->b<d->c=e->a+b<=c:=by grind
theorem v8:0+1<=a+1:=by walk_at "so"
theorem AI:b+1-(0+1)<=a->a<b+1->a=b+1-1:=by grind
theorem AG:a+1<=b->a+1+1<=b+1:=by walk_at "so"
theorem AF:a+1-1=a:=by walk_at "so"
theorem AE:a<b+1->¬a=b->a<b:=by omega
theorem AC:a+d<=e->b<=d->f=e->c=e->a+b<=c:=by grind
theorem AB:b<=d->d<c->a<=a+b/\a+b<a+c:=by grind
theorem AA:b<c->a<=a+b/\a+b<a+c:=by intros;simp_all
theorem Az:c<=b->b<a->a-1-b<=a-1-c:=by omega
theorem Ay:b<=c->c<a->a-1-b<a:=by grind
theorem Ax:b+1<=c->c<=a->1<=a:=by grind
theorem Aw:a+d<=e->b<=d->c=e->a+b<=c:=by grind
theorem Au:1<=c->a+c<=b->a<b:=by grind
theorem As:b>1->a+b-1=a+(b-1):=by grind
theorem Ar:b>1->a<b->a<=b-1:=by grind
theorem Aq:a>1->a-1<a:=by omega
theorem Ap:a+d<=c->b<=d->a+b<=c:=by grind
theorem Ao:a<=c->c<b->a<b:=by grind
theorem An:1<=c->¬c>1->a<=b->b<c->a=b:=by grind
theorem Am:a<=b->b<min (max c 1) d->c=0->a=b:=by grind
theorem Al:b<=c->a<min (max b 1) c->¬b=0->a<b:=by grind
theorem Ak:min (max (max a 1) b) b=b:=by grind
theorem Ai:a<b->min a b=a:=by grind
theorem Ag:a<=a:=by simp
theorem Af:a-0<=a-0:=by walk_at "so"
theorem Ae:¬a>=b->a<=(a+b) / 2:=by grind
theorem Ad:b<=c->¬a>=b->(a+b) / 2<=c:=by grind
theorem Ac:¬a>=b->(a+b) / 2+1<=b:=by omega
theorem Ab:a<(b+c) / 2+1->a<=(b+c) / 2:=by walk_at "so"
theorem Aa:b<=c->¬a>=b->(a+b) / 2<c:=by omega
theorem z_:c<=b->d<a->a+b-(a+c)<=a+b:=by walk_at "so"
theorem zZ:d<=c->a<b->¬a=b+c-(b+c-(b+d)):=by omega
theorem zY:a<b->min (a+1) b=a+1:=by grind
theorem v7:c<=b->a+b-(a+c)<=a+b:=by walk_at "so"
theorem zX:c<=b->a+b-(a+b-(a+c))=a+c:=by grind
theorem zW:c<b->a+b-1=a+(b-1):=by grind
theorem v5:b<c->¬a+b=a+c:=by grind
theorem v4:c<b->¬(a+b<a+c/\a+c<=a+d):=by grind
theorem zV:c<=b->a<b+1->a<c->a<b:=by grind
theorem vZ:b=c->a+b=a+c:=by walk_at "so"
theorem vY:¬b=c->¬a+b=a+c:=by simp
theorem vX:¬b<a->¬b=a->a<b:=by grind
theorem zU:a<=b->a<c->¬b<c->a<=b-1:=by grind
theorem zT:c<=b->d<=a->a<b+1->d<c->a-1<b:=by omega
theorem zS:d=c->b=c->a+b=a+c:=by walk_at "so"
theorem zR:d=c->¬b=c->¬a+b=a+c:=by intros;simp_all
theorem zQ:c<=b->c=a->¬b=a->a<b:=by omega
theorem zP:c<=b->c=a->¬b=a->a<=b-1:=by grind
theorem zO:c<=a->a<b+1->c=d->¬a=d->a-1<b:=by grind
theorem zN:d<=b->¬d<c->¬d=c->¬a+b=a+c:=by grind
theorem zM:c<=b->¬c<a->¬c=a->a<b:=by grind
theorem zL:a<=b->a-1<=b-1:=by omega
theorem zK:c<=a->a<b+1->¬c<d->¬c=d->a-1<b:=by grind
theorem zJ:c=a+b->¬a+b<c:=by intros;simp_all
theorem zI:c=a+b->a+b-c=0:=by intros;simp_all
theorem zH:a=b+c->a+1=b+(c+1):=by walk_at "so"
theorem zF:¬a+1<a:=by simp
theorem zE:1<=b->d=a+(b+(e+f))->a<=a+b+c:=by grind
theorem zD:1<=a->d=b+(a+(e+f))->a<=b+a+c-b:=by grind
theorem zC:a+b+c-a-b=c:=by grind
theorem zB:1<=b->c=d+(b+(e+f))->a<b->a<=b-1:=by grind
theorem zw:1<=d->c=a+(b+(d+e))->a+b<=c:=by walk_at "so"
theorem zu:1<=a->b=c+(a+(d+e))->0<a:=by walk_at "so"
theorem zt:a<=b->a+(b-a)=b:=by intros;simp_all
theorem zq:a<=c->c<=b->a+(b-a)=b:=by grind
theorem zp:b<=a->a<=c->a-b<=c-b:=by grind
theorem zn:c=d+(b+(e+f))->g<=b->a<g->a<b:=by grind
theorem zm:1<=a->b=c+(a+(d+e))->a-1<a:=by grind
theorem zk:d=a+(b+(c+e))->a+b+c<=d:=by grind
theorem vW:c<=b->a<c->a<b:=by grind
theorem zj:a=0->a<=b:=by intros;simp_all
theorem zi:d=a+(c+(e+f))->b<=c->a+min b c=a+b+0:=by intros;simp_all
theorem zh:c<=d->e=c->a-b+min c d=a-b+c:=by intros;simp_all
theorem zg:c=d->d<=b->a<d->a<=b:=by grind
theorem ze:a<c->c<=b->a<=b:=by grind
theorem vV:a<min b (c-d)->a<b:=by grind
theorem zd:a+1<b->min a b=a:=by grind
theorem zc:b=c+a->max 0 b<=c->a=0:=by grind
theorem zb:b=c->c=d+a->d>=c->a=0:=by grind
theorem za:c=d->¬b>=d->d=b->a<=b:=by walk_at "so"
theorem y_:c=a->a=b+d->¬b>=a->1<=a-b:=by grind
theorem y9:c=b->b=a+d->¬a>=b->a+(b-a)<=c:=by intros;simp_all
theorem y8:a<=c->1<=d->e=c->b=c+d->a+1<=b:=by grind
theorem y6:a=b->a>1->a-2+1<b:=by grind
theorem y3:a=c+d->a+b=c+(d+b):=by grind
theorem yZ:a<=c->b≠0->a+1<=b+c:=by grind
theorem yY:b=c->a<=c->a+0<=b+1:=by walk_at "so"
theorem yX:b=a->b<=1->a<=1:=by walk_at "so"
theorem yW:b=c->a+max 0 b<=b+1->a<=1:=by grind
theorem vU:a<=100000->a<=16777216:=by grind
theorem yV:a<=100000->b=a->b<2->a<=16777216+1:=by grind
theorem yU:a<=100000->b=a->¬b<2->2<=a:=by walk_at "so"
theorem yT:a<=100000->b=a->¬b<2->a<=16777216+1:=by grind
theorem yS:a<=d+c->d<=b+1->a<=b+(c+1):=by grind
theorem yR:a+2≠a+4:=by simp
theorem yQ:a+3≠a+4:=by simp_all
theorem yP:a≠a+4:=by grind
theorem yO:a+1≠a+4:=by simp_all
theorem yN:a+2≠a+3:=by simp
theorem yM:a+2≠a:=by grind
theorem yL:a+2≠a+1:=by simp
theorem yK:a+3≠a:=by simp
theorem yJ:a+3≠a+1:=by simp
theorem yI:a≠a+1:=by simp
theorem yH:b=a+5->a<=b:=by intros;simp_all
theorem yF:a<=a+1:=by simp
theorem vT:b-a=0->a<=b->a=b:=by grind
theorem yE:a-b=0->0=a-b:=by walk_at "so"
theorem vS:b-a=c+1->a<=b->a<b:=by grind
theorem vR:c<=b->a<=d->d<c->a<=b:=by grind
theorem vQ:a-b=c+1->b<a->a-(b+1)=c:=by grind
theorem vP:a<b->a+1<=b:=by walk_at "so"
theorem yC:a-b=c+1->b<a->a-(b+1)+1=a-b:=by omega
theorem yB:a+(b+1)=a+1+b:=by grind
theorem yA:a-b=c+1->b<a->a-b=a-(b+1)+1:=by omega
theorem yg (h:k-l<=n-x):k-(l+(k-l)/2+1)<=n-(x+1):=by rw[Nat.add_assoc,<-Nat.sub_sub,<-Nat.sub_sub n x 1];exact Nat.le_trans (Nat.sub_le_sub_left (Nat.le_add_left 1 _) _) (Nat.sub_le_sub_right h 1)
theorem yf (h:k-l<=n-x) (e:l<k):l+(k-l)/2-l<=n-(x+1):=by rw[Nat.add_sub_cancel_left,<-Nat.sub_sub n x 1];exact Nat.le_trans (Nat.le_sub_one_of_lt (Nat.div_lt_self (Nat.sub_pos_of_lt e) (by decide))) (Nat.sub_le_sub_right h 1)
theorem ye (h:r-l<=k-x) (c:¬l>=r):r-((l+r)/2+1)<=k-(x+1):=by rw[<-Nat.sub_sub,<-Nat.sub_sub k x 1];exact Nat.sub_le_sub_right (Nat.le_trans (Nat.sub_le_sub_left ((Nat.le_div_iff_mul_le (by decide)).mpr (by rw[Nat.mul_two];exact Nat.add_le_add_left (Nat.le_of_lt (Nat.lt_of_not_ge c)) _)) _) h) 1
theorem yd (h:r-l<=k-x) (c:¬l>=r):(l+r)/2-l<=k-(x+1):=by rw[<-Nat.sub_sub k x 1];refine Nat.le_trans ?_ (Nat.sub_le_sub_right h 1);rw[Nat.sub_sub,Nat.add_comm l 1,<-Nat.sub_sub];exact Nat.sub_le_sub_right (Nat.le_sub_one_of_lt ((Nat.div_lt_iff_lt_mul (by decide)).mpr (by rw[Nat.mul_two];exact Nat.add_lt_add_right (Nat.lt_of_not_ge c) _))) _
theorem vO (h:d<=x) (q:lo+x-d<=lo+i/\lo+i<lo+x):lo+x-d+(lo+x)-1-(lo+i)=lo+(x-d+x-1-i)/\x-d<=x-d+x-1-i/\x-d+x-1-i<x/\x-d<=i/\i<x:=by obtain⟨y,rfl⟩:∃y,x=y+d:=⟨x-d,(Nat.sub_add_cancel h).symm⟩;have e:lo+(y+d)-d=lo+y:=(by rw[<-Nat.add_assoc,Nat.add_sub_cancel]);rw[e]at q;rw[e,Nat.add_sub_cancel];obtain⟨p,rfl⟩:∃p,i=y+p:=⟨i-y,(Nat.add_sub_of_le (Nat.le_of_add_le_add_left q.1)).symm⟩;have l:=Nat.lt_of_add_lt_add_left (Nat.lt_of_add_lt_add_left q.2);obtain⟨z,rfl⟩:∃z,d=p+1+z:=⟨d-(p+1),(Nat.add_sub_of_le l).symm⟩;have t:∀u:Nat,u+y+(u+(y+(p+1+z)))-1-(u+(y+p))=u+(y+z):=(λu=>by rw[show u+y+(u+(y+(p+1+z)))=u+(y+p)+(u+(y+z))+1 by ac_rfl,Nat.add_sub_cancel,Nat.add_sub_cancel_left]);have t0:=t 0;simp only[Nat.zero_add]at t0;rw[t,t0];exact⟨rfl,Nat.le_add_right _ _,by omega,Nat.le_add_right _ _,Nat.add_lt_add_left l _⟩
theorem sC (q:i<n):lo+(lo+n)-1-(lo+i)=lo+(n-1-i):=by obtain⟨p,rfl⟩:∃p,n=i+1+p:=⟨n-(i+1),(Nat.add_sub_of_le q).symm⟩;rw[show lo+(lo+(i+1+p))=lo+i+(lo+p)+1 by ac_rfl,Nat.add_sub_cancel,Nat.add_sub_cancel_left,Nat.sub_sub,Nat.add_comm 1 i,Nat.add_sub_cancel_left]
theorem yc (h:k<=x):f+k+(x-k)-1=f+(x-1)\/x=0:=by obtain⟨y,rfl⟩:∃y,x=k+y:=⟨x-k,(Nat.add_sub_of_le h).symm⟩;rw[Nat.add_sub_cancel_left,Nat.add_assoc];cases (k+y);exact .inr rfl;exact .inl rfl
theorem yb (h:k<=x) (q:¬x-k=0) (z:m=x-k):k+(m-1)=x-1:=by subst z;rw[<-Nat.add_sub_assoc (Nat.pos_of_ne_zero q),Nat.add_sub_of_le h]
theorem ya (h:2<=n) (q:¬n-1=1):2<=n-1:=Nat.le_sub_one_of_lt (Nat.lt_of_le_of_ne h λz=>q (by rw[<-z]))
theorem x_ (h:j=n-2-1\/j=n-2) (q:¬n<=1) (e:n=m):j+1<m:=by subst e;obtain⟨z,rfl⟩:∃z,n=z+2:=⟨n-2,(Nat.sub_add_cancel (Nat.lt_of_not_le q)).symm⟩;rw[Nat.add_sub_cancel]at h;rcases h with rfl|rfl;exact Nat.lt_succ_of_le (Nat.add_le_add_right (Nat.sub_le _ _) 1);exact Nat.lt_succ_self _
end
-- CHANGE: your row's module here,as the last of these rows
namespace L2
open PySem PySem.Spec PyProof.Rows
abbrev Key:=Sum Int Str
def jk:Key->Value->Bool
 | .inl k,v=>Value.isInt k v
 | .inr x,v=>Value.isStrOf x v
def Ce (w:World):Key->Int
 | .inl k=>hashInt k
 | .inr x=>hashStr w x
theorem bx:∀{k:Key} {v:Value},jk k v=true->(∃i t,k=Sum.inl i/\v=Value.int i t)\/(∃x t,k=Sum.inr x/\v=Value.str x t)
 | .inl i,v,h=>by
  obtain⟨t,e⟩:=Value.isInt_shape (k:=i) (v:=v) h
  exact .inl ⟨i,t,rfl,e⟩
 | .inr x,v,h=>by
  obtain⟨t,e⟩:=Value.isStrOf_shape (x:=x) (v:=v) h
  exact .inr ⟨x,t,rfl,e⟩
theorem qS (i:Int) (t:Tok):jk (.inl i) (.int i t)=true:=by simp[jk,Value.isInt]
theorem qR (x:Str) (t:Tok):jk (.inr x) (.str x t)=true:=by simp[jk,Value.isStrOf]
theorem xi (a b:Int):decide ((Sum.inl a:Key)=Sum.inl b)=(a==b):=by
 by_cases e:a=b
 ·subst e;simp
 ·have h:¬(Sum.inl a:Key)=Sum.inl b:=λq=>e (Sum.inl.inj q)
  rw[decide_eq_false h]
  exact(beq_eq_false_iff_ne.mpr e).symm
theorem xf (a b:Str):decide ((Sum.inr a:Key)=Sum.inr b)=decide (a=b):=by
 by_cases e:a=b
 ·subst e;simp
 ·have h:¬(Sum.inr a:Key)=Sum.inr b:=λq=>e (Sum.inr.inj q)
  rw[decide_eq_false h,decide_eq_false e]
theorem xh (a:Int) (b:Str):decide ((Sum.inl a:Key)=Sum.inr b)=false:=decide_eq_false (λq=>nomatch q)
theorem xg (a:Str) (b:Int):decide ((Sum.inr a:Key)=Sum.inl b)=false:=decide_eq_false (λq=>nomatch q)
def bi (prog:Program) (w:World):PySem.KeyKind prog w Key where
 is:=jk
 hash:=Ce w
 inj:=λv a b ha hb=>by
  rcases bx ha with⟨i,t,rfl,rfl⟩|⟨x,t,rfl,rfl⟩
  ·rcases bx hb with⟨j,u,rfl,e⟩|⟨y,u,rfl,e⟩
   ·injection e with e1 _;rw[e1]
   ·exact nomatch e
  ·rcases bx hb with⟨j,u,rfl,e⟩|⟨y,u,rfl,e⟩
   ·exact nomatch e
   ·injection e with e1 _;rw[e1]
 byValue:=λk v h=>by
  rcases bx h with⟨i,t,rfl,rfl⟩|⟨x,t,rfl,rfl⟩ <;> rfl
 pyHash:=λhv h=>by
  rcases bx hv with⟨i,t,rfl,rfl⟩|⟨x,t,rfl,rfl⟩
  ·exact wpAny_pyHash_int h
  ·exact wpAny_pyHash_str h
 eqBool:=λhu hv h=>by
  rcases bx hu with⟨i,t,rfl,rfl⟩|⟨x,t,rfl,rfl⟩
  ·rcases bx hv with⟨j,u,rfl,rfl⟩|⟨y,u,rfl,rfl⟩
   ·rw[xi]at h;exact wpAny_eqBool_int h
   ·rw[xh]at h;exact SeqAt.EqAt.int_str i t y u _ _ _ _ h
  ·rcases bx hv with⟨j,u,rfl,rfl⟩|⟨y,u,rfl,rfl⟩
   ·rw[xg]at h;exact SeqAt.EqAt.str_int x t j u _ _ _ _ h
   ·rw[xf]at h;exact wpAny_eqBool_str h
 «strs»:=λk x t v h=>by
  rcases bx h with⟨i,u,rfl,e⟩|⟨y,u,rfl,e⟩
  ·exact nomatch e
  ·injection e with e1 _
   subst e1
   cases v <;> rfl
theorem mY (prog:Program) (w:World) (i:Int) (t:Tok):(bi prog w).is (.inl i) (.int i t)=true:=qS i t
theorem fe (prog:Program) (w:World) (x:Str) (t:Tok):(bi prog w).is (.inr x) (.str x t)=true:=qR x t
inductive V where
 | non|bl (b:Bool)|int (i:Int)|str (x:Str)|byt (b:Array UInt8)|flt (b:UInt64)|ref (a:Addr)|ty (n:String)
 deriving DecidableEq
def aS:V->Value->Prop
 | .non,u=>u=Value.none
 | .bl b,u=>u=Value.bool b
 | .int i,u=>∃t,u=Value.int i t
 | .str x,u=>∃t,u=Value.str x t
 | .byt b,u=>∃t,u=Value.bytes b t
 | .flt b,u=>∃t,u=Value.float b t
 | .ref a,u=>u=Value.ref a
 | .ty n,u=>u=Value.type n
abbrev aY:List V->List Value->Prop:=Paired aS
theorem aY.length {xs:List V} {us:List Value} (r:aY xs us):xs.length=us.length:=Paired.length r
theorem aY.get:∀{xs:List V} {us:List Value} {i:Nat} {x:V},aY xs us->xs[i]?=some x->∃u,us[i]?=some u/\aS x u
 | _,_,_,_,.nil,e=>by simp at e
 | _,_,0,_,.cons r _,e=>by simp at e;subst e;exact⟨_,rfl,r⟩
 | _,_,i+1,x,.cons _ t,e=>by
  obtain⟨u,h1,h2⟩:=aY.get (i:=i) (x:=x) t (by simpa using e)
  exact⟨u,by simpa using h1,h2⟩
variable {u cd dV doc pm cdv ct oc:Value}
theorem aY.set {x:V} (r:aS x u):∀{xs:List V} {us:List Value} (i:Nat),aY xs us->aY (xs.set i x) (us.set i u)
 | _,_,_,.nil=>.nil
 | _,_,0,.cons _ t=>.cons r t
 | _,_,i+1,.cons q t=>.cons q (aY.set r i t)
theorem aY.append:∀{xs ys:List V} {us ws:List Value},aY xs us->aY ys ws->aY (xs++ys) (us++ws)
 | _,_,_,_,.nil,s=>s
 | _,_,_,_,.cons r t,s=>.cons r (aY.append t s)
theorem aY.take:∀{xs:List V} {us:List Value} (n:Nat),aY xs us->aY (xs.take n) (us.take n)
 | _,_,0,_=>.nil
 | _,_,_+1,.nil=>.nil
 | _,_,n+1,.cons r t=>.cons r (aY.take n t)
theorem aY.drop:∀{xs:List V} {us:List Value} (n:Nat),aY xs us->aY (xs.drop n) (us.drop n)
 | _,_,0,r=>r
 | _,_,_+1,.nil=>.nil
 | _,_,n+1,.cons _ t=>aY.drop n t
def jJ:Option V->Option Value->Prop
 | some v,some u=>aS v u
 | none,none=>True
 | _,_=>False
def KV {κ:Type}:List (κ × V)->List (κ × Value)->Prop:=Paired λ(p:κ × V) (q:κ × Value)=>p.1=q.1/\aS p.2 q.2
def kV:Key->V
 | .inl i=>.int i
 | .inr x=>.str x
inductive HO where
 /-- a list -/
 | lst (xs:List V)
 /-- a tuple (never changes) -/
 | tup (xs:List V)
 /-- a dict whose keys are ints and texts;one whose keys are tuples of ints and texts (the empty one is both) -/
 | dK (kvs:List (Key × V))|dT (kvs:List (List Key × V))
 /-- a set of ints: its members,its size -/
 | set (S:Int->Bool) (n:Nat)
 /-- an instance of the class at C,its dict at dx,its attributes -/
 | ins (C dx:Addr) (fs:List (Str × V))
 /-- the dict of the instance at x -/
 | own (x:Addr)
 /-- the dict of an exception -/
 | xd (fs:List (Str × V))
 /-- a bound method,f of x -/
 | met (f x:Addr)
 /-- a range object lo,lo+1,.. below hi -/
 | rng (lo hi:Int)
 /-- a thing that is known to the object (the script;a dict while a loop walks it): read,never written while it is so -/
 | frz (o:Obj) (u:HO)
 /-- a code object's table -/
 | tbl (ps:Array Value)
 /-- any other thing,by what is true of its one object (a def of one's own: SetO a S n:=HO.ext λh=>..) -/
 | ext (φ:Heap->Prop)
abbrev Hp:=Addr->Option HO
def upd (H:Hp) (a:Addr) (o:HO):Hp:=λb=>if b=a then some o else H b
variable {o:HO} {a b it dx C f:Addr} {H H':Hp}
theorem ag:upd H a o a=some o:=by unfold upd;rw[if_pos rfl]
theorem aj (h:b≠a):upd H a o b=H b:=by unfold upd;rw[if_neg h]
theorem ue {u:HO}:upd (upd H a o) a u=upd H a u:=by
 funext b;unfold upd;split <;> rfl
theorem AV {u:HO} (h:H a=some o) (h':H b=some u) (d:o≠u):a≠b:=by
 intro e;subst e;rw[h]at h';exact d (Option.some.inj h')
theorem aq (h:H a=some o) (h':H b=none):a≠b:=by
 intro e;subst e;rw[h]at h';cases h'
section
variable (P:Program) (w:World)
def bo (H:Hp) (h:Heap) (a:Addr):HO->Prop
 | .lst xs=>xs.length<=sizeLine/\∃(its:List Value) (n:Nat),aY xs its/\h.get? a=some { cls:=.type "list", data:=.seq its.toArray n }
 | .tup xs=>xs.length<=sizeLine/\∃its:List Value,aY xs its/\IsTup h a its.toArray
 | .dK kvs=>kvs.length<=sizeLine/\(a==sysModules)=false/\∃vs,KV kvs vs/\h.DictOf (bi P w) a vs
 | .dT kvs=>kvs.length<=sizeLine/\(a==sysModules)=false/\∃xs:List (List Key × Addr × Value),
   Paired (λ(p:List Key × V) (q:List Key × Addr × Value)=>p.1=q.1/\H q.2.1=some (.tup (p.1.map kV))/\aS p.2 q.2.2) kvs xs /\
   ∃o es ep,h.get? a=some o/\o.ExactDict/\o.data=.dict es ep/\es.toList=xs.map (entryOfKey (tupleKind (bi P w)))/\(xs.map (·.1)).Nodup
 | .set S n=>h.SetOf (intKind P w) a S n
 | .ins C dx fs=>H dx=some (.own a)/\fs.length<=1000/\dx≠a/\h.get? a=some (PySem.W.instObj C dx) /\
   ∃mA,h.Ns1 dx mA/\(∀f,jJ (fs.lookup f) (mA f))/\PySem.Within mA (fs.map (·.1))
 | .own _=>∃o,h.get? a=some o
 | .xd fs=>∃mA,h.Ns1 a mA/\∀f,jJ (fs.lookup f) (mA f)
 | .rng lo hi=>∃t u v,h.get? a=some { cls:=.type "range", data:=.fields #[.int lo t,.int hi u,.int 1 v] }
 | .frz o u=>h.get? a=some o/\bo H h a u
 | .tbl ps=>h.get? a=some { cls:=.none,data:=.fields ps }
 | .met f x=>h.get? a=some (PySem.W.methodObj (.ref f) (.ref x))
 | .ext φ=>φ h/\(∃o,h.get? a=some o)/\∀h1 h2:Heap,φ h1->(∀o,h1.get? a=some o->h2.get? a=some o)->φ h2
def HOk (H:Hp) (h:Heap):Prop:=∀a o,H a=some o->bo P w H h a o
end
section
variable {P:Program} {w:World} {H H':Hp} {h h':Heap} {a:Addr} {o:HO}
theorem bo.lt (x:bo P w H h a o):a<h.objs.size:=by
 cases o with
 | lst xs=>obtain⟨_,_,_,_,e⟩:=x;exact Heap.lt_size e
 | tup xs=>obtain⟨_,_,_,p⟩:=x;exact p.lt
 | dK kvs=>obtain⟨_,_,_,_,o,_,_,e,_⟩:=x;exact Heap.lt_size e
 | dT kvs=>obtain⟨_,_,_,_,o,_,_,e,_⟩:=x;exact Heap.lt_size e
 | set S n=>obtain⟨o,_,_,_,e,_⟩:=x;exact Heap.lt_size e
 | ins C dx fs=>obtain⟨_,_,_,e,_⟩:=x;exact Heap.lt_size e
 | own y=>obtain⟨_,e⟩:=x;exact Heap.lt_size e
 | xd fs=>obtain⟨_,⟨_,_,_,e,_⟩,_⟩:=x;exact Heap.lt_size e
 | rng lo hi=>obtain⟨_,_,_,e⟩:=x;exact Heap.lt_size e
 | frz ob u=>obtain⟨e,_⟩:=x;exact Heap.lt_size e
 | tbl ps=>exact Heap.lt_size (show h.get? a=some _ from x)
 | met f y=>exact Heap.lt_size (show h.get? a=some _ from x)
 | ext φ=>obtain⟨_,⟨_,e⟩,_⟩:=x;exact Heap.lt_size e
theorem Paired.mapP {α β:Type} {F G:α->β->Prop}:∀{l₁:List α} {l₂:List β},Paired F l₁ l₂->(∀a b,F a b->G a b)->Paired G l₁ l₂
 | _,_,.nil,_=>.nil
 | _,_,.cons r t,f=>.cons (f _ _ r) (Paired.mapP t f)
theorem bo.stay (x:bo P w H h a o) (k:∀b u,(b=a\/H b=some (.own a))->h.get? b=some u->h'.get? b=some u)
  (ho:∀b,H b=some (.own a)->H' b=some (.own a)) (ht:∀b xs,H b=some (.tup xs)->H' b=some (.tup xs)):bo P w H' h' a o:=by
 induction o with
 | lst xs=>obtain⟨z,its,n,r,e⟩:=x;exact⟨z,its,n,r,k _ _ (.inl rfl) e⟩
 | tup xs=>obtain⟨z,its,r,ob,e,c⟩:=x;exact⟨z,its,r,ob,k _ _ (.inl rfl) e,c⟩
 | dK kvs=>obtain⟨z,y,vs,r,ob,es,ep,e,c⟩:=x;exact⟨z,y,vs,r,ob,es,ep,k _ _ (.inl rfl) e,c⟩
 | dT kvs =>
  obtain⟨z,y,xs,r,ob,es,ep,e,c⟩:=x
  exact⟨z,y,xs,Paired.mapP r λp q z=>⟨z.1,ht _ _ z.2.1,z.2.2⟩,ob,es,ep,k _ _ (.inl rfl) e,c⟩
 | set S n=>obtain⟨ob,es,ep,t,e,c⟩:=x;exact⟨ob,es,ep,t,k _ _ (.inl rfl) e,c⟩
 | ins C dx fs =>
  obtain⟨d,z,ne,e,mA,⟨od,es,ep,e2,c⟩,r⟩:=x
  exact⟨ho _ d,z,ne,k _ _ (.inl rfl) e,mA,⟨od,es,ep,k _ _ (.inr d) e2,c⟩,r⟩
 | own y=>obtain⟨ob,e⟩:=x;exact⟨ob,k _ _ (.inl rfl) e⟩
 | xd fs=>obtain⟨mA,⟨od,es,ep,e,c⟩,r⟩:=x;exact⟨mA,⟨od,es,ep,k _ _ (.inl rfl) e,c⟩,r⟩
 | rng lo hi=>obtain⟨t,u,v,e⟩:=x;exact⟨t,u,v,k _ _ (.inl rfl) e⟩
 | frz ob u ih=>obtain⟨e,q⟩:=x;exact⟨k _ _ (.inl rfl) e,ih q⟩
 | tbl ps =>
  have e:h.get? a=some { cls:=.none,data:=.fields ps }:=x
  show h'.get? a=some { cls:=.none,data:=.fields ps }
  exact k a _ (.inl rfl) e
 | met f y =>
  have e:h.get? a=some (PySem.W.methodObj (.ref f) (.ref y)):=x
  show h'.get? a=some (PySem.W.methodObj (.ref f) (.ref y))
  exact k a _ (.inl rfl) e
 | ext φ=>obtain⟨p,⟨o,e⟩,st⟩:=x;exact⟨st _ _ p λo q=>k _ _ (.inl rfl) q,⟨o,k _ _ (.inl rfl) e⟩,st⟩
theorem HOk.lt (x:HOk P w H h) (e:H a=some o):a<h.objs.size:=(x a o e).lt
theorem HOk.fresh (x:HOk P w H h) (e:h.objs.size<=a):H a=none:=by
 cases q:H a with
 | none=>rfl
 | some u=>exact absurd (Nat.lt_of_lt_of_le (x.lt q) e) (Nat.lt_irrefl _)
theorem HOk.kept (x:HOk P w H h) (k:∀b u,h.get? b=some u->h'.get? b=some u):HOk P w H h':=λa o e =>
 (x a o e).stay (λb u _ q=>k b u q) (λ_ q=>q) λ_ _ q=>q
theorem HOk.laid (x:HOk P w H h) (k:∀b u,h.get? b=some u->h'.get? b=some u) (hp:h.objs.size<=a) (new:bo P w (upd H a o) h' a o):HOk P w (upd H a o) h':=λb u e=>by
 have hn:=x.fresh hp
 by_cases hb:b=a
 ·subst hb;rw[ag]at e;cases e;exact new
 ·rw[aj hb]at e
  exact(x b u e).stay (λc v _ q=>k c v q) (λc q=>by rw[aj (aq q hn)];exact q) λc xs q=>by rw[aj (aq q hn)];exact q
end
def Rd (H:Hp) (a:Addr) (u:HO):Prop:=H a=some u\/∃o,H a=some (.frz o u)
variable {h base:Heap} {w:World} {P:Program}
theorem Rd.ok {u:HO} (r:Rd H a u) (x:HOk P w H h):bo P w H h a u:=by
 rcases r with r|⟨o,r⟩
 ·exact x a u r
 ·obtain⟨_,q⟩:=x a _ r
  exact q
def Mut:Option HO->Prop
 | some (.lst _)=>True
 | some (.dK _)=>True
 | some (.dT _)=>True
 | some (.set _ _)=>True
 | some (.ins _ _ _)=>True
 | some (.ext _)=>True
 | _=>False
section
variable {P:Program} {w:World} {H:Hp} {h h':Heap} {x e:Addr} {o':HO}
theorem HOk.write (ok:HOk P w H h) (mu:Mut (H x)) (he:e=x\/H e=some (.own x)) (k:∀b u,b≠e->h.get? b=some u->h'.get? b=some u) (heo:∃u,h'.get? e=some u)
  (new:bo P w (upd H x o') h' x o'):HOk P w (upd H x o') h':=λb u q=>by
 have nown:∀c y,H c=some (.own y)->c≠x:=λc y r z=>by subst z;rw[r]at mu;exact mu
 have ntup:∀c xs,H c=some (.tup xs)->c≠x:=λc xs r z=>by subst z;rw[r]at mu;exact mu
 by_cases hb:b=x
 ·subst hb;rw[ag]at q;cases q;exact new
 ·rw[aj hb]at q
  by_cases hbe:b=e
  ·have q':H b=some (.own x):=by
    rcases he with z|z
    ·exact absurd (hbe.trans z) hb
    ·rw[hbe];exact z
   rw[q]at q';cases q'
   obtain⟨v,hv⟩:=heo
   exact⟨v,by rw[hbe];exact hv⟩
  ·refine(ok b u q).stay (λc v hc r=>k c v ?_ r) (λc r=>by rw[aj (nown c b r)];exact r) λc xs r=>by rw[aj (ntup c xs r)];exact r
   rcases hc with rfl|hc
   ·exact hbe
   ·rintro rfl
    rcases he with z|z
    ·exact nown c b hc z
    ·rw[hc]at z;cases z;exact hb rfl
end
structure Un (fs ex:List Addr) (H H':Hp) (h h':Heap):Prop where
 keep:∀b o,h.get? b=some o->H b=none->b∉fs->b∉ex->h'.get? b=some o
 slot:∀b o,h.get? b=some o->H b=none->b∈fs->b∉ex->∃sl,h'.get? b=some { o with slots:=sl }
 free:∀b o,h.get? b=some o->H b=none->b∉ex->H' b=none
 there:∀b o,h.get? b=some o->b∉ex->∃o',h'.get? b=some o'
 tups:∀b xs,H b=some (.tup xs)->H' b=some (.tup xs)
 frzs:∀b o u,H b=some (.frz o u)->H' b=some (.frz o u)
 tbls:∀b ps,H b=some (.tbl ps)->∃more,H' b=some (.tbl (ps++more))
section
variable {fs fs' ex ex':List Addr} {H H1 H2:Hp} {h h1 h2 h':Heap} {a x e:Addr} {o:HO}
theorem Un.any (u:Un fs ex H H1 h h1) {b:Addr} {ob:Obj} (q:h.get? b=some ob) (n:H b=none) (hx:b∉ex):∃sl,h1.get? b=some { ob with slots:=sl }:=by
 by_cases hb:b∈fs
 ·exact u.slot b ob q n hb hx
 ·exact⟨ob.slots,u.keep b ob q n hb hx⟩
theorem Un.kept (k:∀b u,h.get? b=some u->h'.get? b=some u):Un fs ex H H h h' :=
 ⟨λb ob q _ _ _=>k b ob q,λb ob q _ _ _=>⟨ob.slots,k b ob q⟩,λ_ _ _ n _=>n,λb ob q _=>⟨ob,k b ob q⟩,λ_ _ q=>q,λ_ _ _ q=>q,λ_ ps q=>⟨#[],by rw[q];simp⟩⟩
theorem Un.refl:Un fs ex H H h h:=Un.kept λ_ _ q=>q
theorem Un.laid (k:∀b u,h.get? b=some u->h'.get? b=some u) (hp:h.objs.size<=a) (hn:H a=none):Un fs ex H (upd H a o) h h' where
 keep:=λb u q _ _ _=>k b u q
 slot:=λb u q _ _ _=>⟨u.slots,k b u q⟩
 free:=λb u q n _=>by rw[aj (Nat.ne_of_lt (Nat.lt_of_lt_of_le (Heap.lt_size q) hp))];exact n
 there:=λb u q _=>⟨u,k b u q⟩
 tups:=λb xs q=>by rw[aj (aq q hn)];exact q
 frzs:=λb u xs q=>by rw[aj (aq q hn)];exact q
 tbls:=λb ps q=>⟨#[],by rw[aj (aq q hn),q];simp⟩
theorem Un.write (mu:Mut (H x)) (he:e=x\/H e=some (.own x)) (k:∀b u,b≠e->h.get? b=some u->h'.get? b=some u) (heo:∃u,h'.get? e=some u):Un fs ex H (upd H x o) h h':=by
 have hx:∀b,H b=none->b≠x:=λb n z=>by subst z;rw[n]at mu;exact mu
 have hb:∀b,H b=none->b≠e:=λb n z=>by
  subst z
  rcases he with r|r
  ·exact hx b n r
  ·rw[n]at r;cases r
 have hm:∀b u,H b=some u->¬Mut (some u)->b≠x:=λb u q nm z=>by subst z;rw[q]at mu;exact nm mu
 refine⟨λb u q n _ _=>k b u (hb b n) q,λb u q n _ _=>⟨u.slots,k b u (hb b n) q⟩,λb u q n _=>by rw[aj (hx b n)];exact n,λb u q _=>?_,
  λb xs q=>by rw[aj (hm b _ q λz=>z)];exact q,λb u xs q=>by rw[aj (hm b _ q λz=>z)];exact q,λb ps q=>⟨#[],by rw[aj (hm b _ q λz=>z),q];simp⟩⟩
 by_cases hbe:b=e
 ·subst hbe;exact heo
 ·exact⟨u,k b u hbe q⟩
end
def trk (h:Heap) (H:Hp):List Addr:=(List.range h.objs.size).filter λa=>(H a).isSome
def jV (h:Heap) (H:Hp):Heap:=PySem.W.hideAll h (trk h H)
theorem qY (h:Heap) (H:Hp):(jV h H).objs.size=h.objs.size:=PySem.W.hideAll_size _ _
theorem tD {o:Obj} (e:h.get? b=some o) (n:H b=none):(jV h H).get? b=some o :=
 PySem.W.hideAll_get _ e λhm=>by
  have q:(H b).isSome=true:=(List.mem_filter.mp hm).2
  rw[n]at q;simp at q
theorem uO {o:Obj} (e:(jV h H).get? b=some o):h.get? b=some o/\H b=none:=by
 have e':h.get? b=some o:=PySem.W.of_hideAll (trk h H) e
 refine⟨e',?_⟩
 cases q:H b with
 | none=>rfl
 | some x =>
  have hm:b∈trk h H:=List.mem_filter.mpr ⟨List.mem_range.mpr (Heap.lt_size e'),by simp[q]⟩
  have z:(jV h H).get? b=none:=PySem.W.hideAll_none (trk h H) hm
  rw[z]at e;cases e
structure Mod (K:PySem.W.Frag) (mg:Str->Option Value) (base:Heap):Prop where
 kin:K.In base
 glob:base.Ns mainGlobals mg
 blt:∃mb,base.Ns builtinsNs mb/\∀x:Str,x ≠ "__name__" -> mb x=bootBuiltins x
 nolimit:base.NoLimit
/-- the context: a def's body (or a comprehension's block) running. base: fixed through the whole law;s₀,H₀: the eA;outer: the frames whose slots others may change (a def's callers);stack: all frames that run;
  ex: iterators that were made ahead of the eA and are walked here (a comprehension's);fn: the names whose cells were made at the eA (a def: all;a comprehension's block: its own);calm: not within an except suite;pn: pins that every state bears;xe: what is wanted of an exception that leaves the code -/
structure Cx where
 prog:Program
 w:World
 K:PySem.W.Frag
 mg:Str->Option Value
 base:Heap
 A:Around
 N:List Str
 s₀:Shared
 H₀:Hp
 env:Env
 outer:List Env
 stack:List Env
 ex:List Addr
 fn:Str->Bool
 calm:Bool
 pn:List (Addr × Obj)
 xe:Value->Shared->Prop
def frs (l:List Env):List Addr:=l.filterMap (·.frame)
abbrev Cx.fs (X:Cx):List Addr:=frs X.outer
def Vis (sc:Scope) (x:Str):Prop:=sc.names.lookup x=some .local\/sc.names.lookup x=some .cell\/sc.names.lookup x=some .free
def Loc (sc:Scope) (x:Str):Prop:=sc.names.lookup x=some .local\/sc.names.lookup x=some .cell
def Ci (env:Env) (h:Heap) (m:Str->Option Value) (x:Str) (u:Value):Prop :=
 (env.kindOf x=some .local/\m x=some u)\/((env.kindOf x=some .cell\/env.kindOf x=some .free)/\∃c,env.cells.lookup x=some c/\h.IsCell c (some u))
structure Cx.Ok (X:Cx):Prop where
 mod:Mod X.K X.mg X.base
 kind:X.env.scope.kind=.function
 glob:X.env.globals=mainGlobals
 blt:X.env.builtins=builtinsNs
 above:X.s₀.heap.objs.size<=X.env.locals
 inj:∀x y c,X.env.cells.lookup x=some c->X.env.cells.lookup y=some c->x=y
 has:∀x,(X.env.kindOf x=some .cell\/X.env.kindOf x=some .free)->∃c,X.env.cells.lookup x=some c
 cab:∀x c,X.fn x=true->X.env.cells.lookup x=some c->X.s₀.heap.objs.size<=c
 hd:X.calm=true->X.A.handled=none
 frames:X.A.frames=some X.stack
 stk:X.stack=X.outer\/(X.stack=X.env::X.outer/\X.env.frame=some X.env.locals)
 exf:∀b∈X.ex,b≠X.env.locals/\∀x c,X.env.cells.lookup x=some c->c≠b
 bs:∀b o,X.base.get? b=some o->X.s₀.heap.get? b=some o/\X.H₀ b=none
 bsz:X.base.objs.size<=X.s₀.heap.objs.size
 noex:∀b o,X.base.get? b=some o->b∉X.ex
 exfs:∀b∈X.ex,b∉X.fs
 funs:X.s₀.heap.FunFrames X.base X.outer
 frf:∀b∈X.fs,X.H₀ b=none
structure Inv (X:Cx) (pins:List (Addr × Obj)) (σ:List (Option V)) (H:Hp) (s:Shared):Prop where
 ok:X.Ok
 os:s.os=X.s₀.os
 bare:AllBare s.gens
 base:Un X.fs X.ex X.H₀ H X.s₀.heap s.heap
 loc:∃m,s.heap.Ns X.env.locals m/\∀(i:Nat) (x:Str) (v:V),X.N[i]?=some x->σ[i]?=some (some v)->Vis X.env.scope x->∃u,aS v u/\Ci X.env s.heap m x u
 cell:∀x c,X.env.cells.lookup x=some c->∃v,s.heap.IsCell c v
 free:H X.env.locals=none
 freeC:∀x c,X.env.cells.lookup x=some c->H c=none
 pin:∀p∈X.pn++pins,s.heap.get? p.1=some p.2/\H p.1=none/\p.1≠X.env.locals/\p.1∉X.fs/\∀v,p.2.data≠.cell v
 hok:HOk X.prog X.w H s.heap
 len:σ.length=X.N.length
section
variable {X:Cx} {pins:List (Addr × Obj)} {σ:List (Option V)} {H H':Hp} {s:Shared} {h':Heap}
theorem Cx.Ok.nofr (ok:X.Ok) {b:Addr} {o:Obj} (e:X.base.get? b=some o):b∉X.fs:=λhb=>by
 have:=(ok.funs.mem hb).1
 rw[e]at this;cases this
theorem Inv.bs (I:Inv X pins σ H s):∀b o,X.base.get? b=some o->s.heap.get? b=some o/\H b=none:=λb o e =>
 ⟨I.base.keep b o (I.ok.bs b o e).1 (I.ok.bs b o e).2 (I.ok.nofr e) (I.ok.noex b o e),I.base.free b o (I.ok.bs b o e).1 (I.ok.bs b o e).2 (I.ok.noex b o e)⟩
theorem Inv.bk (I:Inv X pins σ H s):∀b o,X.base.get? b=some o->s.heap.get? b=some o:=λb o e=>(I.bs b o e).1
theorem Inv.mod (I:Inv X pins σ H s):Mod X.K X.mg X.base:=I.ok.mod
theorem Inv.kIn (I:Inv X pins σ H s):X.K.In s.heap:=I.ok.mod.kin.keeps I.bk
theorem Inv.lt (I:Inv X pins σ H s):X.env.locals<s.heap.objs.size:=let ⟨_,hn,_⟩:=I.loc;hn.lt
theorem Inv.sz (I:Inv X pins σ H s):X.s₀.heap.objs.size<=s.heap.objs.size:=Nat.le_trans I.ok.above (Nat.le_of_lt I.lt)
theorem Inv.nofs (I:Inv X pins σ H s) {a:Addr} (h:s.heap.objs.size<=a):a∉X.fs:=λhb=>by
 obtain⟨_,o,ho,_⟩:=I.ok.funs.mem hb
 exact absurd (Nat.lt_of_lt_of_le (Heap.lt_size ho) (Nat.le_trans I.sz h)) (Nat.lt_irrefl _)
theorem Inv.cne (I:Inv X pins σ H s):∀x c,X.env.cells.lookup x=some c->c≠X.env.locals:=λx c e z=>by
 obtain⟨v,o,ho,hd⟩:=I.cell x c e
 obtain⟨m,⟨o',es,ep,ho',hd',_⟩,_⟩:=I.loc
 rw[z,ho']at ho;cases ho;rw[hd']at hd;cases hd
theorem Inv.funs (I:Inv X pins σ H s):s.heap.FunFrames X.base X.outer:=by
 have all:∀(l:List Env),(∀b∈frs l,b∈X.fs)->X.s₀.heap.FunFrames X.base l->s.heap.FunFrames X.base l:=by
  intro l
  induction l with
  | nil=>intro _ _;trivial
  | cons env r ih =>
   intro hs hl
   obtain⟨hk,⟨L,o,hf,hn,ho,hd⟩,hr⟩:=hl
   have hL:L∈X.fs:=hs L (by unfold frs;rw[List.filterMap_cons,hf];exact List.mem_cons_self)
   obtain⟨sl,e⟩:=I.base.slot L o ho (I.ok.frf L hL) hL λz=>I.ok.exfs L z hL
   exact⟨hk,⟨L,_,hf,hn,e,hd⟩,ih (λb hb=>hs b (by unfold frs;rw[List.filterMap_cons,hf];exact List.mem_cons_of_mem _ hb)) hr⟩
 exact all X.outer (λ_ hb=>hb) I.ok.funs
theorem Inv.stack (I:Inv X pins σ H s):s.heap.FunFrames X.base X.stack:=by
 rcases I.ok.stk with e|⟨e,hf⟩
 ·rw[e];exact I.funs
 ·rw[e]
  obtain⟨m,hn,_⟩:=I.loc
  refine .cons (by rw[I.ok.kind];decide) hf hn ?_ I.funs
  exact Heap.get?_none_of_le (Nat.le_trans I.ok.bsz I.ok.above)
theorem Inv.stkSub (I:Inv X pins σ H s):∀b∈frs X.stack,b∈X.env.locals::X.fs:=λb hb=>by
 rcases I.ok.stk with e|⟨e,hf⟩
 ·rw[e]at hb;exact List.mem_cons_of_mem _ hb
 ·rw[e]at hb
  unfold frs at hb
  rw[List.filterMap_cons,hf]at hb
  exact hb
theorem Inv.stkFree (I:Inv X pins σ H s):∀b∈frs X.stack,H b=none:=λb hb=>by
 rcases List.mem_cons.mp (I.stkSub b hb) with e|hb
 ·rw[e];exact I.free
 ·obtain⟨_,o,ho,_⟩:=I.ok.funs.mem hb
  exact I.base.free b o ho (I.ok.frf b hb) λz=>I.ok.exfs b z hb
theorem Inv.step {g':Array GenState} {t':Nat} {d':Drawn} {ch:List Addr} (I:Inv X pins σ H s)
  (hch:∀b∈ch,(b∈X.ex\/X.s₀.heap.objs.size<=b)/\b≠X.env.locals/\(∀x c,X.env.cells.lookup x=some c->c≠b)/\∀p∈X.pn++pins,p.1≠b)
  (keep:∀b o,b≠X.env.locals->b∉X.fs->b∉ch->s.heap.get? b=some o->H b=none->h'.get? b=some o)
  (slot:∀b o,b≠X.env.locals->b∈X.fs->b∉ch->s.heap.get? b=some o->H b=none->∃sl,h'.get? b=some { o with slots:=sl }) (free:∀b o,b∉ch->s.heap.get? b=some o->H b=none->H' b=none)
  (there:∀b o,b∉ch->s.heap.get? b=some o->∃o',h'.get? b=some o')
  (tups:∀b xs,H b=some (.tup xs)->H' b=some (.tup xs)) (frzs:∀b o u,H b=some (.frz o u)->H' b=some (.frz o u)) (tbls:∀b ps,H b=some (.tbl ps)->∃more,H' b=some (.tbl (ps++more)))
  (ns:∀m,s.heap.Ns X.env.locals m->h'.Ns X.env.locals m) (hok:HOk X.prog X.w H' h') (hg:AllBare g') :
  Inv X pins σ H' { s with heap:=h',gens:=g',drawn:=d',toks:=t' }:=by
 have neL:∀b o,X.s₀.heap.get? b=some o->b≠X.env.locals:=λb o e=>Nat.ne_of_lt (Nat.lt_of_lt_of_le (Heap.lt_size e) I.ok.above)
 have neC:∀b o,X.s₀.heap.get? b=some o->b∉X.ex->b∉ch:=λb o e hx hb=>by
  rcases(hch b hb).1 with z|z
  ·exact hx z
  ·exact absurd (Nat.lt_of_lt_of_le (Heap.lt_size e) z) (Nat.lt_irrefl _)
 have cellK:∀x c,X.env.cells.lookup x=some c->∀v,s.heap.IsCell c v->h'.IsCell c v:=λx c e v ⟨o,ho,hd⟩=>by
  have nch:c∉ch:=λz=>(hch c z).2.2.1 x c e rfl
  by_cases hc:c∈X.fs
  ·obtain⟨sl,q⟩:=slot c o (I.cne x c e) hc nch ho (I.freeC x c e)
   exact⟨_,q,hd⟩
  ·exact⟨o,keep c o (I.cne x c e) hc nch ho (I.freeC x c e),hd⟩
 refine⟨I.ok,I.os,hg,⟨λb o e n hb hx=>?_,λb o e n hb hx=>?_,λb o e n hx=>?_,λb o e hx=>?_,λb xs e=>tups b xs (I.base.tups b xs e),λb o xs e=>frzs b o xs (I.base.frzs b o xs e),λb ps e=>?_⟩,?_,λx c e=>?_,?_,λx c e=>?_,λp hp=>?_,hok,I.len⟩
 ·exact keep b o (neL b o e) hb (neC b o e hx) (I.base.keep b o e n hb hx) (I.base.free b o e n hx)
 ·obtain⟨sl,e1⟩:=I.base.slot b o e n hb hx
  obtain⟨sl',e2⟩:=slot b _ (neL b o e) hb (neC b o e hx) e1 (I.base.free b o e n hx)
  exact⟨sl',e2⟩
 ·obtain⟨o',e1⟩:=I.base.there b o e hx
  exact free b o' (neC b o e hx) e1 (I.base.free b o e n hx)
 ·obtain⟨o',e1⟩:=I.base.there b o e hx
  exact there b o' (neC b o e hx) e1
 ·obtain⟨m1,e1⟩:=I.base.tbls b ps e
  obtain⟨m2,e2⟩:=tbls b _ e1
  exact⟨m1++m2,by rw[e2,Array.append_assoc]⟩
 ·obtain⟨m,hn,hl⟩:=I.loc
  refine⟨m,ns m hn,λi x v e1 e2 e3=>?_⟩
  obtain⟨u,r,l⟩:=hl i x v e1 e2 e3
  refine⟨u,r,?_⟩
  rcases l with l|⟨k,c,e,z⟩
  ·exact .inl l
  ·exact .inr ⟨k,c,e,cellK x c e _ z⟩
 ·obtain⟨v,z⟩:=I.cell x c e
  exact⟨v,cellK x c e v z⟩
 ·obtain⟨m,⟨o,_,_,ho,_⟩,_⟩:=I.loc
  exact free _ o (λz=>(hch _ z).2.1 rfl) ho I.free
 ·obtain⟨v,o,ho,hd⟩:=I.cell x c e
  exact free c o (λz=>(hch c z).2.2.1 x c e rfl) ho (I.freeC x c e)
 ·obtain⟨e,n,ne,nf,d⟩:=I.pin p hp
  have nch:p.1∉ch:=λz=>(hch p.1 z).2.2.2 p hp rfl
  exact⟨keep p.1 p.2 ne nf nch e n,free p.1 p.2 nch e n,ne,nf,d⟩
theorem Inv.un {t':Nat} (I:Inv X pins σ H s) (u:Un X.fs [] H H' s.heap h') (hok:HOk X.prog X.w H' h'):Inv X pins σ H' { s with heap:=h',toks:=t' }:=by
 obtain⟨m,⟨o,es,ep,ho,r⟩,_⟩:=id I.loc
 obtain⟨sl,hL⟩:=u.any ho I.free (by simp)
 exact I.step (g':=s.gens) (d':=s.drawn) (ch:=[]) (λ_ z=>nomatch z) (λb o _ hb _ e n=>u.keep b o e n hb (by simp)) (λb o _ hb _ e n=>u.slot b o e n hb (by simp)) (λb o _ e n=>u.free b o e n (by simp)) (λb o _ e=>u.there b o e (by simp)) u.tups u.frzs u.tbls (λm' hm=>by
  obtain⟨o',es',ep',ho',r'⟩:=hm
  rw[ho]at ho';cases ho'
  exact⟨_,es',ep',hL,r'⟩) hok I.bare
theorem Inv.call {g':Array GenState} {t':Nat} {d':Drawn} {ch:List Addr} (I:Inv X pins σ H s) (u:Un (frs X.stack) ch H H' s.heap h') (hok:HOk X.prog X.w H' h') (hg:AllBare g')
  (hch:∀b∈ch,(b∈X.ex\/X.s₀.heap.objs.size<=b)/\b≠X.env.locals/\(∀x c,X.env.cells.lookup x=some c->c≠b)/\∀p∈X.pn++pins,p.1≠b) :
  Inv X pins σ H' { s with heap:=h',gens:=g',drawn:=d',toks:=t' }:=by
 obtain⟨m,⟨o,es,ep,ho,r⟩,_⟩:=id I.loc
 obtain⟨sl,hL⟩:=u.any ho I.free λz=>(hch _ z).2.1 rfl
 exact I.step (ch:=ch) hch (λb o hL hb hc e n=>u.keep b o e n (λz=>(List.mem_cons.mp (I.stkSub b z)).elim hL hb) hc) (λb o _ _ hc e n=>u.any e n hc) (λb o hc e n=>u.free b o e n hc) (λb o hc e=>u.there b o e hc) u.tups u.frzs u.tbls (λm' hm=>by
  obtain⟨o',es',ep',ho',r'⟩:=hm
  rw[ho]at ho';cases ho'
  exact⟨_,es',ep',hL,r'⟩) hok hg
theorem Inv.turned {t':Nat} {it:Addr} (I:Inv X pins σ H s) (k:∀b o,b≠it->s.heap.get? b=some o->h'.get? b=some o) (hn:H it=none) (hL:it≠X.env.locals)
  (h1:it∈X.ex\/X.s₀.heap.objs.size<=it) (h2:∀x c,X.env.cells.lookup x=some c->c≠it) (h3:∀p∈X.pn++pins,p.1≠it):Inv X pins σ H { s with heap:=h',toks:=t' }:=by
 have nit:∀b u,H b=some u->b≠it:=λb u e z=>by rw[z,hn]at e;cases e
 refine I.step (g':=s.gens) (d':=s.drawn) (ch:=[it]) (λb hb=>?_) (λb o _ _ hc e _=>k b o (λz=>hc (by simp[z])) e) (λb o _ _ hc e _=>⟨o.slots,k b o (λz=>hc (by simp[z])) e⟩) (λ_ _ _ _ n=>n)
  (λb o hc e=>⟨o,k b o (λz=>hc (by simp[z])) e⟩) (λ_ _ e=>e) (λ_ _ _ e=>e) (λb ps e=>⟨#[],by rw[e];simp⟩) (λm hm=>?_) (λb u e=>?_) I.bare
 ·have e:b=it:=by simpa using hb
  subst e
  exact⟨h1,hL,h2,h3⟩
 ·obtain⟨o,es,ep,ho,r⟩:=hm
  exact⟨o,es,ep,k _ o (Ne.symm hL) ho,r⟩
 ·refine(I.hok b u e).stay (λc v hc q=>k c v ?_ q) (λ_ q=>q) λ_ _ q=>q
  rcases hc with z|z
  ·rw[z];exact nit b u e
  ·exact nit c _ z
theorem Inv.tok (I:Inv X pins σ H s) (t:Nat):Inv X pins σ H { s with toks:=t }:=I.un (h':=s.heap) (t':=t) Un.refl I.hok
theorem Inv.kept {t':Nat} (I:Inv X pins σ H s) (k:∀b u,s.heap.get? b=some u->h'.get? b=some u):Inv X pins σ H { s with heap:=h',toks:=t' }:=I.un (Un.kept k) (I.hok.kept k)
theorem Inv.laid {a:Addr} {o:HO} {t':Nat} (I:Inv X pins σ H s) (k:∀b u,s.heap.get? b=some u->h'.get? b=some u) (hp:s.heap.objs.size<=a) (new:bo X.prog X.w (upd H a o) h' a o) :
  Inv X pins σ (upd H a o) { s with heap:=h',toks:=t' }:=I.un (Un.laid k hp (I.hok.fresh hp)) (I.hok.laid k hp new)
theorem Inv.write {x e:Addr} {o:HO} {t':Nat} (I:Inv X pins σ H s) (mu:Mut (H x)) (he:e=x\/H e=some (.own x)) (k:∀b u,b≠e->s.heap.get? b=some u->h'.get? b=some u) (heo:∃u,h'.get? e=some u)
  (new:bo X.prog X.w (upd H x o) h' x o):Inv X pins σ (upd H x o) { s with heap:=h',toks:=t' }:=I.un (Un.write mu he k heo) (I.hok.write mu he k heo new)
theorem Inv.weak {σ':List (Option V)} (I:Inv X pins σ H s) (hl:σ'.length=σ.length) (w:∀(i:Nat) v,σ'[i]?=some (some v)->σ[i]?=some (some v)):Inv X pins σ' H s :=
 ⟨I.ok,I.os,I.bare,I.base,let ⟨m,hn,hl'⟩:=I.loc;⟨m,hn,λi x v e1 e2 e3=>hl' i x v e1 (w i v e2) e3⟩,I.cell,I.free,I.freeC,I.pin,I.hok,hl.trans I.len⟩
theorem Inv.pins_of {pins':List (Addr × Obj)} (I:Inv X pins σ H s) (h:∀p∈pins',s.heap.get? p.1=some p.2/\H p.1=none/\p.1≠X.env.locals/\p.1∉X.fs/\∀v,p.2.data≠.cell v):Inv X pins' σ H s :=
 ⟨I.ok,I.os,I.bare,I.base,I.loc,I.cell,I.free,I.freeC,λp hp=>(List.mem_append.mp hp).elim (λz=>I.pin p (List.mem_append_left _ z)) (h p),I.hok,I.len⟩
theorem mT {N:List Str} (hN:N.Nodup) {i j:Nat} {x:Str} (a:N[i]?=some x) (b:N[j]?=some x):i=j:=by
 obtain⟨h1,e1⟩:=List.getElem?_eq_some_iff.mp a
 obtain⟨h2,e2⟩:=List.getElem?_eq_some_iff.mp b
 exact(List.getElem_inj hN).mp (e1.trans e2.symm)
variable {Q:Unit->Shared->Prop} {E:Value->Shared->Prop}
theorem ki {M:Model} {A:Around} {i:Nat} {x:Str} {v:V} {u:Value} (I:Inv X pins σ H s) (hN:X.N.Nodup) (hi:X.N[i]?=some x) (hx:Loc X.env.scope x) (r:aS v u)
  (h:∀s',Inv X pins (σ.set i (some v)) H s'->(∃a,Heap.SameBut a s.heap s'.heap/\(a=X.env.locals\/X.env.cells.lookup x=some a))->Q () s') (hf:X.fn x=true\/X.env.scope.names.lookup x=some .local:=by first|exact .inl rfl|exact .inr rfl|assumption):wpAny M A (storeName X.env x u) Q E s:=by
 obtain⟨m,hn,hl⟩:=id I.loc
 have hcls:(X.env.scope.kind==.class || (X.env.scope.kind==.module&&X.env.locals != X.env.globals))=false:=by rw[I.ok.kind];rfl
 have hiσ:i<σ.length:=by rw[I.len];exact(List.getElem?_eq_some_iff.mp hi).1
 have cne:=I.cne
 have tracked:∀{a:Addr} {h':Heap},(∃o,s.heap.get? a=some o/\H a=none)->Heap.SameBut a s.heap h'->HOk X.prog X.w H h':=λ{a h'} ha hs b ob e=>by
  obtain⟨_,_,hfree⟩:=ha
  refine(I.hok b ob e).stay (λc w' hc q=>(hs.2 c ?_).trans q) (λ_ q=>q) λ_ _ q=>q
  rintro rfl
  rcases hc with rfl|hc
  ·rw[hfree]at e;cases e
  ·rw[hfree]at hc;cases hc
 rcases hx with hk|hk
 ·refine wpAny_storeName_local hk hn (λh' hn' hs=>?_) hcls
  obtain⟨oL,_,_,hoL,_⟩:=id hn
  refine h _ ⟨I.ok,I.os,I.bare,⟨λb o e n hb hx=>?_,λb o e n hb hx=>?_,I.base.free,λb o e hx=>?_,I.base.tups,I.base.frzs,I.base.tbls⟩,⟨_,hn',λj y v' e1 e2 e3=>?_⟩,λy c e=>?_,I.free,I.freeC,λp hp=>?_,tracked ⟨oL,hoL,I.free⟩ hs,by simpa using I.len⟩ ⟨_,hs,.inl rfl⟩
  ·exact(hs.2 b (Nat.ne_of_lt (Nat.lt_of_lt_of_le (Heap.lt_size e) I.ok.above))).trans (I.base.keep b o e n hb hx)
  ·obtain⟨sl,e1⟩:=I.base.slot b o e n hb hx
   exact⟨sl,(hs.2 b (Nat.ne_of_lt (Nat.lt_of_lt_of_le (Heap.lt_size e) I.ok.above))).trans e1⟩
  ·obtain⟨o',e1⟩:=I.base.there b o e hx
   exact⟨o',(hs.2 b (Nat.ne_of_lt (Nat.lt_of_lt_of_le (Heap.lt_size e) I.ok.above))).trans e1⟩
  ·by_cases hj:j=i
   ·subst hj
    rw[hi]at e1;cases e1
    rw[List.getElem?_set_self hiσ]at e2
    cases e2
    exact⟨u,r,.inl ⟨hk,by simp⟩⟩
   ·rw[List.getElem?_set_ne (Ne.symm hj)]at e2
    obtain⟨u',r',q⟩:=hl j y v' e1 e2 e3
    refine⟨u',r',?_⟩
    rcases q with⟨k,e⟩|⟨k,c,e,z⟩
    ·refine .inl ⟨k,?_⟩
     have:y≠x:=λe=>hj (mT hN e1 (e▸hi))
     simp[this,e]
    ·exact .inr ⟨k,c,e,z.sameBut hs (cne y c e)⟩
  ·obtain⟨w',z⟩:=I.cell y c e
   exact⟨w',z.sameBut hs (cne y c e)⟩
  ·obtain⟨e,n,ne,nf,d⟩:=I.pin p hp
   exact⟨(hs.2 p.1 ne).trans e,n,ne,nf,d⟩
 ·have hfn:X.fn x=true:=by
   rcases hf with z|z
   ·exact z
   ·rw[z]at hk;cases hk
  obtain⟨c,hc⟩:=I.ok.has x (.inl hk)
  obtain⟨w',z⟩:=I.cell x c hc
  refine wpAny_storeName_cell I.ok.kind hk hc z (λh' hc' hs=>?_)
  obtain⟨oc,hoc,hocd⟩:=id z
  refine h { s with heap:=h' } ⟨I.ok,I.os,I.bare,⟨λb o e n hb hx=>?_,λb o e n hb hx=>?_,I.base.free,λb o e hx=>?_,I.base.tups,I.base.frzs,I.base.tbls⟩,⟨m,hn.sameBut hs (Ne.symm (cne x c hc)),λj y v' e1 e2 e3=>?_⟩,λy c' e=>?_,I.free,I.freeC,λp hp=>?_,tracked ⟨oc,hoc,I.freeC x c hc⟩ hs,by simpa using I.len⟩ ⟨c,hs,.inr hc⟩
  ·exact(hs.2 b (Nat.ne_of_lt (Nat.lt_of_lt_of_le (Heap.lt_size e) (I.ok.cab x c hfn hc)))).trans (I.base.keep b o e n hb hx)
  ·obtain⟨sl,e1⟩:=I.base.slot b o e n hb hx
   exact⟨sl,(hs.2 b (Nat.ne_of_lt (Nat.lt_of_lt_of_le (Heap.lt_size e) (I.ok.cab x c hfn hc)))).trans e1⟩
  ·obtain⟨o',e1⟩:=I.base.there b o e hx
   exact⟨o',(hs.2 b (Nat.ne_of_lt (Nat.lt_of_lt_of_le (Heap.lt_size e) (I.ok.cab x c hfn hc)))).trans e1⟩
  ·by_cases hj:j=i
   ·subst hj
    rw[hi]at e1;cases e1
    rw[List.getElem?_set_self hiσ]at e2
    cases e2
    exact⟨u,r,.inr ⟨.inl hk,c,hc,hc'⟩⟩
   ·rw[List.getElem?_set_ne (Ne.symm hj)]at e2
    obtain⟨u',r',q⟩:=hl j y v' e1 e2 e3
    refine⟨u',r',?_⟩
    rcases q with q|⟨k,c',e,z'⟩
    ·exact .inl q
    ·refine .inr ⟨k,c',e,z'.sameBut hs ?_⟩
     rintro rfl
     exact hj (mT hN e1 (I.ok.inj _ _ _ e hc▸hi))
  ·by_cases hcc:c'=c
   ·subst hcc;exact⟨_,hc'⟩
   ·obtain⟨w2,z2⟩:=I.cell y c' e
    exact⟨w2,z2.sameBut hs hcc⟩
  ·obtain⟨e,n,ne,nf,d⟩:=I.pin p hp
   refine⟨(hs.2 p.1 ?_).trans e,n,ne,nf,d⟩
   intro q
   rw[q,hoc]at e
   have q':oc=p.2:=Option.some.inj e
   exact d w' (by rw[<-q'];exact hocd)
theorem iF {M:Model} {A:Around} {i:Nat} {x:Str} {v:V} {u:Value} (I:Inv X pins σ H s) (hN:X.N.Nodup) (hi:X.N[i]?=some x) (hx:Loc X.env.scope x) (r:aS v u)
  (h:∀s',Inv X pins (σ.set i (some v)) H s'->Q () s') (hf:X.fn x=true\/X.env.scope.names.lookup x=some .local:=by first|exact .inl rfl|exact .inr rfl|assumption):wpAny M A (storeName X.env x u) Q E s :=
 ki I hN hi hx r (λs' I' _=>h s' I') hf
theorem Inv.call' {s':Shared} {ch:List Addr} (I:Inv X pins σ H s) (ho:s'.os=s.os) (u:Un (frs X.stack) ch H H' s.heap s'.heap) (hok:HOk X.prog X.w H' s'.heap) (hg:AllBare s'.gens)
  (hch:∀b∈ch,(b∈X.ex\/X.s₀.heap.objs.size<=b)/\b≠X.env.locals/\(∀x c,X.env.cells.lookup x=some c->c≠b)/\∀p∈X.pn++pins,p.1≠b):Inv X pins σ H' s':=by
 obtain⟨h',g',d',t',o'⟩:=s'
 have e:o'=s.os:=ho
 subst e
 exact I.call (g':=g') (t':=t') (d':=d') u hok hg hch
end
abbrev XK:=Value->Option Addr->Hp->Prop
abbrev St:=List (Option V)
abbrev VK:=V->Hp->Prop
abbrev TE:=St->Hp->VK->Prop
abbrev TT:=St->Hp->(Bool->Hp->Prop)->Prop
abbrev TA:=St->Hp->(List V->Hp->Prop)->Prop
structure Ends where
 nx:St->Hp->Prop
 rt:VK
 bk:St->Hp->Prop:=λ_ _=>False
 ct:St->Hp->Prop:=λ_ _=>False
abbrev TS:=Ends->St->Hp->Prop
def EP (X:Cx) (pins:List (Addr × Obj)) (σ:St) (Q:VK) (u:Value) (s':Shared):Prop:=∃v H',Inv X pins σ H' s'/\aS v u/\Q v H'
def TP (X:Cx) (pins:List (Addr × Obj)) (σ:St) (Q:Bool->Hp->Prop) (b:Bool) (s':Shared):Prop:=∃H',Inv X pins σ H' s'/\Q b H'
def AP (X:Cx) (pins:List (Addr × Obj)) (σ:St) (Q:List V->Hp->Prop) (us:List Value) (s':Shared):Prop:=∃vs H',Inv X pins σ H' s'/\aY vs us/\Q vs H'
def SP (X:Cx) (pins:List (Addr × Obj)) (D:Ends) (f:Flow) (s':Shared):Prop :=
 match f with
 | .next=>∃σ' H',Inv X pins σ' H' s'/\D.nx σ' H'
 | .brk=>∃σ' H',Inv X pins σ' H' s'/\D.bk σ' H'
 | .cont=>∃σ' H',Inv X pins σ' H' s'/\D.ct σ' H'
 | .ret u=>∃v σ' H',Inv X pins σ' H' s'/\aS v u/\D.rt v H'
def PE (X:Cx) (e:Expr) (t:TE):Prop :=
 ∀(pins:List (Addr × Obj)) (s:Shared) (σ:St) (H:Hp) (Q:VK),Inv X pins σ H s->t σ H Q->wpAny (model X.prog X.w) X.A (eval e X.env) (EP X pins σ Q) X.xe s
def PT (X:Cx) (e:Expr) (t:TT):Prop :=
 ∀(pins:List (Addr × Obj)) (s:Shared) (σ:St) (H:Hp) (Q:Bool->Hp->Prop),Inv X pins σ H s->t σ H Q->wpAny (model X.prog X.w) X.A (isTrue e X.env (eval e X.env)) (TP X pins σ Q) X.xe s
def PW (X:Cx) (e:Expr) (t:TT):Prop :=
 ∀(whole:Sem Value) (pins:List (Addr × Obj)) (s:Shared) (σ:St) (H:Hp) (Q:Bool->Hp->Prop),Inv X pins σ H s->t σ H Q->wpAny (model X.prog X.w) X.A (isTrue e X.env whole) (TP X pins σ Q) X.xe s
variable {e tg:Expr} {X:Cx}
theorem PW.pt {t:TT} (h:PW X e t):PT X e t:=h _
def PA (X:Cx) (es:List Expr) (t:TA):Prop :=
 ∀(pos:Pos) (pins:List (Addr × Obj)) (s:Shared) (σ:St) (H:Hp) (Q:List V->Hp->Prop),Inv X pins σ H s->t σ H Q->wpAny (model X.prog X.w) X.A (spliced (backTo pos (starEach es X.env))) (AP X pins σ Q) X.xe s
def PS (X:Cx) (st:Stmt) (t:TS):Prop :=
 ∀(pins:List (Addr × Obj)) (s:Shared) (σ:St) (H:Hp) (D:Ends),Inv X pins σ H s->t D σ H->wpAny (model X.prog X.w) X.A (exec st X.env) (SP X pins D) X.xe s
def PSs (X:Cx) (st:List Stmt) (t:TS):Prop :=
 ∀(pins:List (Addr × Obj)) (s:Shared) (σ:St) (H:Hp) (D:Ends),Inv X pins σ H s->t D σ H->wpAny (model X.prog X.w) X.A (execs st X.env) (SP X pins D) X.xe s
variable {s s1:Shared} {E:Value->Shared->Prop} {A:Around}
theorem thn {α:Type} {t:Sem α} {Q Q':α->Shared->Prop} {M:Model} (h:wpAny M A t Q E s) (hQ:∀a s,Q a s->Q' a s):wpAny M A t Q' E s:=wpAny_mono h hQ λ_ _ x=>x
section
variable {X:Cx}
def cI (i:Nat):TE:=λσ H Q=>∃v,σ[i]?=some (some v)/\Q v H
def tC (v:V):TE:=λ_ H Q=>Q v H
variable {x:Str}
theorem wG {i:Nat} {pos:Pos} (hN:X.N[i]?=some x) (hv:Vis X.env.scope x) (hd:(x==("__debug__" : Str))=false:=by decide) (hcd:(x==("__classdict__" : Str))=false:=by decide):PE X (.Name x pos) (cI i):=by
 intro pins s σ H Q I h
 obtain⟨v,e,h⟩:=h
 obtain⟨m,hn,hl⟩:=I.loc
 obtain⟨u,r,l⟩:=hl i x v hN e hv
 have fin:EP X pins σ Q u s:=⟨v,H,I,r,h⟩
 rcases l with⟨hk,hm⟩|⟨hk,c,hc,hcell⟩
 ·exact wpAny_Name (wpAny_loadName_local I.ok.kind hk hn hm fin) hd
 ·rcases hk with hk|hk
  ·exact wpAny_Name (wpAny_loadName_cell I.ok.kind hk hc hcell fin) hd
  ·exact wpAny_Name (wpAny_loadName_free I.ok.kind hk hc hcell fin hcd) hd
theorem ae {i j pos}:PE X (.Constant (.int i) j pos) (tC (.int i)):=λ_ _ _ H _ I h=>wpAny_Constant_int ⟨.int i,H,I.tok _,⟨_,rfl⟩,h⟩
theorem ed {b j pos}:PE X (.Constant (.bool b) j pos) (tC (.bl b)):=λ_ _ _ H _ I h=>Constant_bool ⟨.bl b,H,I,rfl,h⟩
theorem dY {j pos}:PE X (.Constant .none j pos) (tC .non):=λ_ _ _ H _ I h=>Constant_none ⟨.non,H,I,rfl,h⟩
theorem aE {x j pos}:PE X (.Constant (.str x) j pos) (tC (.str x)):=λ_ _ _ H _ I h=>Calls.Constant_str ⟨.str x,H,I.tok _,⟨_,rfl⟩,h⟩
def Gl (X:Cx) (x:Str):Prop:=X.env.kindOf x=some .globalImplicit
variable {Q E:Value->Shared->Prop} {u:Value} {pins:List (Addr × Obj)}
theorem lO {s:Shared} {σ:St} {H:Hp} {pos:Pos} (I:Inv X pins σ H s) (hg:Gl X x) (hm:X.mg x=some u) (h:Q u s)
  (hd:(x==("__debug__" : Str))=false:=by decide):wpAny (model X.prog X.w) X.A (eval (.Name x pos) X.env) Q E s :=
 Calls.Name_function_global I.ok.kind hg (Calls.loadGlobal_global (by rw[I.ok.glob];exact I.mod.glob.keeps I.bk) hm h) hd
theorem dj {s:Shared} {σ:St} {H:Hp} {pos:Pos} (I:Inv X pins σ H s) (hg:Gl X x) (hm:X.mg x=none) (hv:bootBuiltins x=some u) (h:Q u s)
  (hn:x ≠ "__name__" := by decide) (hd:(x==("__debug__" : Str))=false:=by decide):wpAny (model X.prog X.w) X.A (eval (.Name x pos) X.env) Q E s:=by
 obtain⟨mb,h1,h2⟩:=I.mod.blt
 exact Calls.Name_function_global I.ok.kind hg (Calls.loadGlobal_builtin (by rw[I.ok.glob];exact I.mod.glob.keeps I.bk) hm (by rw[I.ok.blt];exact h1.keeps I.bk) ((h2 x hn).trans hv) h) hd
theorem pE {v:V} {pos:Pos} (hg:Gl X x) (hm:X.mg x=some u) (r:aS v u) (hd:(x==("__debug__" : Str))=false:=by decide):PE X (.Name x pos) (tC v) :=
 λ_ _ _ H _ I h=>lO I hg hm ⟨v,H,I,r,h⟩ hd
theorem im {v:V} {pos:Pos} (hg:Gl X x) (hm:X.mg x=none) (hv:bootBuiltins x=some u) (r:aS v u) (hn:x ≠ "__name__" := by decide) (hd:(x==("__debug__" : Str))=false:=by decide):PE X (.Name x pos) (tC v) :=
 λ_ _ _ H _ I h=>dj I hg hm hv ⟨v,H,I,r,h⟩ hn hd
variable {a b:Expr} {ta tb:TE} {pos:Pos}
def PC (X:Cx) (op:CmpOp) (a b:Expr) (t:TE):Prop :=
 ∀(pins:List (Addr × Obj)) (s:Shared) (σ:St) (H:Hp) (Q:VK),Inv X pins σ H s->t σ H Q ->
  wpAny (model X.prog X.w) X.A (eval a X.env) (λv s₁=>wpAny (model X.prog X.w) X.A (eval b X.env) (λu s₂=>wpAny (model X.prog X.w) X.A (compareOp op v u) (EP X pins σ Q) X.xe s₂) X.xe s₁) X.xe s
def tB (t:TE):TT:=λσ H Q=>t σ H λx H1=>∃c,x=.bl c/\Q c H1
theorem iV {op:CmpOp} {t:TE} (h:PC X op a b t) (h1:behindInMarks op b=false:=by first|exact nobehind _ (by decide) (by decide)|rfl):PT X (.Compare a [op] [b] pos) (tB t):=by
 intro pins s σ H Q I hw
 refine wpAny_isTrue_Compare1 (thn (h pins s σ H _ I hw) λv s1 h1=>thn h1 λu s2 h2=>thn h2 λc s3 ⟨x,H1,I1,r1,q1⟩=>?_) h1
 obtain⟨d,rfl,q⟩:=q1
 cases r1
 exact wpAny_truthy_bool ⟨H1,I1,q⟩
theorem fN {e:Expr} {t:TE} (h:PE X e t) (he:∀whole,isTrue e X.env whole=(do let v <-whole;standAt e.pos;holding [v] (truthy v)):=by intro _;rfl):PT X e (tB t):=by
 intro pins s σ H Q I hw
 refine isTrue_plain (thn (h pins s σ H _ I hw) λv s1 ⟨x,H1,I1,r1,q1⟩=>?_) (he _)
 obtain⟨d,rfl,q⟩:=q1
 cases r1
 exact wpAny_truthy_bool ⟨H1,I1,q⟩
variable {tA tB':TT} {rest:List Expr}
def xM (t u:TT):TT:=λσ H Q=>t σ H λc H1=>if c=true then u σ H1 Q else Q false H1
def tOr (t u:TT):TT:=λσ H Q=>t σ H λc H1=>if c=true then Q true H1 else u σ H1 Q
def xD (t:TT):TT:=λσ H Q=>t σ H λc H1=>Q (!c) H1
theorem ik (ha:PT X a tA):PW X (.BoolOp .And [a] pos) tA:=by
 intro wh pins s σ H Q I h
 refine isTrue_and (thn (ha pins s σ H Q I h) λc s1 e=>?_)
 cases c with
 | true=>exact isTrue_and_nil e
 | false=>exact e
theorem fM (ha:PT X a tA):PW X (.BoolOp .Or [a] pos) tA:=by
 intro wh pins s σ H Q I h
 refine isTrue_or (thn (ha pins s σ H Q I h) λc s1 e=>?_)
 cases c with
 | false=>exact isTrue_or_nil e
 | true=>exact e
theorem lL (ha:PT X a tA) (hb:PW X (.BoolOp .And (b::rest) pos) tB'):PW X (.BoolOp .And (a::b::rest) pos) (xM tA tB'):=by
 intro wh pins s σ H Q I h
 refine isTrue_and (thn (ha pins s σ H _ I h) λc s1 ⟨H1,I1,q1⟩=>?_)
 cases c with
 | true=>exact hb wh pins s1 σ H1 Q I1 q1
 | false=>exact⟨H1,I1,q1⟩
theorem f7 (ha:PT X a tA) (hb:PW X (.BoolOp .Or (b::rest) pos) tB'):PW X (.BoolOp .Or (a::b::rest) pos) (tOr tA tB'):=by
 intro wh pins s σ H Q I h
 refine isTrue_or (thn (ha pins s σ H _ I h) λc s1 ⟨H1,I1,q1⟩=>?_)
 cases c with
 | true=>exact⟨H1,I1,q1⟩
 | false=>exact hb wh pins s1 σ H1 Q I1 q1
theorem gF (ha:PT X a tA):PT X (.UnaryOp .Not a pos) (xD tA):=by
 intro pins s σ H Q I h
 exact isTrue_not (ha pins s σ H (λc H1=>Q (!c) H1) I h)
def vA (ta tb:TE):TE:=λσ H Q=>ta σ H λx H1=>∃c,x=.bl c/\if c=true then tb σ H1 Q else Q (.bl false) H1
def xC (ta tb:TE):TE:=λσ H Q=>ta σ H λx H1=>∃c,x=.bl c/\if c=true then Q (.bl true) H1 else tb σ H1 Q
def vo (ta:TE):TE:=λσ H Q=>ta σ H λx H1=>∃c,x=.bl c/\Q (.bl (!c)) H1
theorem gJ {op} {t:TE} (h:PE X a t):PE X (.BoolOp op [a] pos) t:=λpins s σ H Q I hw=>BoolOp_one (h pins s σ H Q I hw)
theorem lN (ha:PE X a ta) (hb:PE X (.BoolOp .And (b::rest) pos) tb):PE X (.BoolOp .And (a::b::rest) pos) (vA ta tb):=by
 intro pins s σ H Q I h
 refine BoolOp_and (thn (ha pins s σ H _ I h) λv s1 ⟨x,H1,I1,r1,q1⟩=>?_)
 obtain⟨c,rfl,q1⟩:=q1
 cases r1
 refine wpAny_truthy_bool ?_
 cases c with
 | true=>exact hb pins s1 σ H1 Q I1 q1
 | false=>exact⟨.bl false,H1,I1,rfl,q1⟩
theorem vL (ha:PE X a ta) (hb:PE X (.BoolOp .Or (b::rest) pos) tb):PE X (.BoolOp .Or (a::b::rest) pos) (xC ta tb):=by
 intro pins s σ H Q I h
 refine BoolOp_or (thn (ha pins s σ H _ I h) λv s1 ⟨x,H1,I1,r1,q1⟩=>?_)
 obtain⟨c,rfl,q1⟩:=q1
 cases r1
 refine wpAny_truthy_bool ?_
 cases c with
 | false=>exact hb pins s1 σ H1 Q I1 q1
 | true=>exact⟨.bl true,H1,I1,rfl,q1⟩
theorem sk (ha:PE X a ta):PE X (.UnaryOp .Not a pos) (vo ta):=by
 intro pins s σ H Q I h
 refine UnaryOp_ (thn (ha pins s σ H _ I h) λv s1 ⟨x,H1,I1,r1,q1⟩=>?_)
 obtain⟨c,rfl,q1⟩:=q1
 cases r1
 exact not_of (wpAny_truthy_bool ⟨.bl (!c),H1,I1,rfl,q1⟩)
def tIf (t:TT) (ta tb:TE):TE:=λσ H Q=>t σ H λc H1=>if c=true then ta σ H1 Q else tb σ H1 Q
theorem mP {c:Expr} (hc:PT X c tA) (ha:PE X a ta) (hb:PE X b tb):PE X (.IfExp c a b pos) (tIf tA ta tb):=by
 intro pins s σ H Q I h
 refine wpAny_IfExp (thn (hc pins s σ H _ I h) λd s1 ⟨H1,I1,q1⟩=>?_)
 cases d with
 | true=>exact ha pins s1 σ H1 Q I1 q1
 | false=>exact hb pins s1 σ H1 Q I1 q1
end
def SqL (K:PySem.W.Frag) (H:Hp) (a:Addr) (xs:List V):Prop :=
 Rd H a (.lst xs) \/
  ∃(o:Obj) (its:Array Value) (n:Nat),K.lookup a=some o/\o.cls=.type "list" /\ o.dict=none/\o.data=.seq its n/\its.size<=sizeLine/\aY xs its.toList
def SqT (K:PySem.W.Frag) (H:Hp) (a:Addr) (xs:List V):Prop :=
 Rd H a (.tup xs) \/
  ∃(o:Obj) (its:Array Value) (n:Nat),K.lookup a=some o/\o.cls=.type "tuple" /\ o.data=.seq its n/\its.size<=sizeLine/\aY xs its.toList
def Ch:Value->Option V
 | .none=>some .non
 | .bool b=>some (.bl b)
 | .int i _=>some (.int i)
 | .str x _=>some (.str x)
 | .bytes b _=>some (.byt b)
 | .float b _=>some (.flt b)
 | .ref a=>some (.ref a)
 | .type n=>some (.ty n)
 | _=>none
theorem aS.abs {x:V} (r:aS x u):Ch u=some x:=by
 cases x with
 | non=>cases r;rfl
 | bl _=>cases r;rfl
 | int _=>obtain⟨t,rfl⟩:=r;rfl
 | str _=>obtain⟨t,rfl⟩:=r;rfl
 | byt _=>obtain⟨t,rfl⟩:=r;rfl
 | flt _=>obtain⟨t,rfl⟩:=r;rfl
 | ref _=>cases r;rfl
 | ty _=>cases r;rfl
theorem aS.inj {x y:V} (r:aS x u) (q:aS y u):x=y:=Option.some.inj (r.abs.symm.trans q.abs)
theorem aY.inj:∀{xs ys:List V} {us:List Value},aY xs us->aY ys us->xs=ys
 | _,_,_,.nil,.nil=>rfl
 | _,_,_,.cons r t,.cons r' t'=>by rw[r.inj r',aY.inj t t']
section
variable {X:Cx} {pins:List (Addr × Obj)} {σ:St} {H:Hp} {s:Shared} {a:Addr} {xs ys:List V}
theorem SqL.of {K:PySem.W.Frag} (h:H a=some (.lst xs)):SqL K H a xs:=.inl (.inl h)
theorem SqT.of {K:PySem.W.Frag} (h:H a=some (.tup xs)):SqT K H a xs:=.inl (.inl h)
theorem Inv.list (I:Inv X pins σ H s) (h:SqL X.K H a xs):∃its:List Value,aY xs its/\PlainL s.heap a its.toArray/\xs.length<=sizeLine:=by
 rcases h with h|⟨o,its,n,hk,hc,hd,hs,hz,r⟩
 ·obtain⟨z,its,n,r,e⟩:=h.ok I.hok
  exact⟨its,r,⟨_,n,e,rfl,rfl,rfl⟩,z⟩
 ·refine⟨its.toList,r,⟨o,n,I.kIn a o hk,hc,hd,by simpa using hs⟩,?_⟩
  have e:=r.length
  simp only[Array.length_toList]at e
  omega
theorem Inv.tuple (I:Inv X pins σ H s) (h:SqT X.K H a xs):∃its:List Value,aY xs its/\IsTup s.heap a its.toArray/\xs.length<=sizeLine:=by
 rcases h with h|⟨o,its,n,hk,hc,hs,hz,r⟩
 ·obtain⟨z,its,r,p⟩:=h.ok I.hok
  exact⟨its,r,p,z⟩
 ·refine⟨its.toList,r,⟨o,I.kIn a o hk,hc,n,by simpa using hs⟩,?_⟩
  have e:=r.length
  simp only[Array.length_toList]at e
  omega
theorem Inv.list_inj (I:Inv X pins σ H s) (h:SqL X.K H a xs) (h':SqL X.K H a ys):xs=ys:=by
 obtain⟨its,r,⟨o,n,e,_,_,d⟩,_⟩:=I.list h
 obtain⟨its',r',⟨o',n',e',_,_,d'⟩,_⟩:=I.list h'
 rw[e]at e';cases e'
 rw[d]at d'
 injection d' with d1 _
 have:its=its':=by simpa using congrArg Array.toList d1
 subst this
 exact r.inj r'
end
abbrev Cx.wish (X:Cx) (E:Value->Shared->Prop):Cx:={ X with xe:=E }
abbrev Cx.nox (X:Cx):Cx:=X.wish λ_ _=>False
theorem Cx.Ok.wish (ok:X.Ok) (E:Value->Shared->Prop):(X.wish E).Ok :=
 ⟨ok.mod,ok.kind,ok.glob,ok.blt,ok.above,ok.inj,ok.has,ok.cab,ok.hd,ok.frames,ok.stk,ok.exf,ok.bs,ok.bsz,ok.noex,ok.exfs,ok.funs,ok.frf⟩
theorem Cx.Ok.unwish (ok:(X.wish E).Ok):X.Ok :=
 ⟨ok.mod,ok.kind,ok.glob,ok.blt,ok.above,ok.inj,ok.has,ok.cab,ok.hd,ok.frames,ok.stk,ok.exf,ok.bs,ok.bsz,ok.noex,ok.exfs,ok.funs,ok.frf⟩
section
variable {X:Cx} {pins:List (Addr × Obj)} {σ:St} {H:Hp} {s:Shared} {E:Value->Shared->Prop}
theorem Inv.wish (I:Inv X pins σ H s) (E:Value->Shared->Prop):Inv (X.wish E) pins σ H s:=⟨I.ok.wish E,I.os,I.bare,I.base,I.loc,I.cell,I.free,I.freeC,I.pin,I.hok,I.len⟩
theorem Inv.unwish (I:Inv (X.wish E) pins σ H s):Inv X pins σ H s:=⟨I.ok.unwish,I.os,I.bare,I.base,I.loc,I.cell,I.free,I.freeC,I.pin,I.hok,I.len⟩
theorem SP.unwish {D:Ends} {f:Flow} {s':Shared} (h:SP (X.wish E) pins D f s'):SP X pins D f s':=by
 cases f with
 | next=>obtain⟨σ',H',I,q⟩:=h;exact⟨σ',H',I.unwish,q⟩
 | brk=>obtain⟨σ',H',I,q⟩:=h;exact⟨σ',H',I.unwish,q⟩
 | cont=>obtain⟨σ',H',I,q⟩:=h;exact⟨σ',H',I.unwish,q⟩
 | ret u=>obtain⟨v,σ',H',I,r,q⟩:=h;exact⟨v,σ',H',I.unwish,r,q⟩
theorem PSs.nox {st:List Stmt} {t:TS} (h:PSs X.nox st t):PSs X st t:=λpins s σ H D I hw =>
 wpAny_mono (h pins s σ H D (I.wish _) hw) (λ_ _ q=>q.unwish) λ_ _ z=>False.elim z
end
section
variable {X:Cx} {st:Stmt} {rest:List Stmt} {t u:TS} {e:Expr} {te:TE} {pos:Pos}
def vp:TS:=λD σ H=>D.nx σ H
def uk (t u:TS):TS:=λD σ H=>t { D with nx:=u D } σ H
theorem aM:PSs X [] vp:=λ_ _ σ H _ I h=>wpAny_execs_nil ⟨σ,H,I,h⟩
theorem ad (h1:PS X st t) (h2:PSs X rest u):PSs X (st::rest) (uk t u):=by
 intro pins s σ H D I h
 refine wpAny_execs_cons (thn (h1 pins s σ H { D with nx:=u D } I h) λf s1 q=>?_)
 cases f with
 | next =>
  obtain⟨σ',H',I',q⟩:=q
  exact h2 pins s1 σ' H' D I' q
 | ret v=>exact q
 | brk=>exact q
 | cont=>exact q
theorem am (h1:PS X st t):PSs X [st] t:=by
 intro pins s σ H D I h
 refine wpAny_execs_cons (thn (h1 pins s σ H D I h) λf s1 q=>?_)
 cases f with
 | next=>exact wpAny_execs_nil q
 | ret v=>exact q
 | brk=>exact q
 | cont=>exact q
theorem Inv.quiet {pins:List (Addr × Obj)} {σ:St} {H:Hp} {s:Shared} (I:Inv X pins σ H s):interactive X.env=false:=by simp[interactive,I.ok.kind]
def vv (te:TE):TS:=λD σ H=>te σ H λ_ H1=>D.nx σ H1
theorem br (he:PE X e te) (hs:swapsWith e none pos.line X.env=pure false:=by rfl):PS X (.Expr e pos) (vv te):=by
 intro pins s σ H D I h
 exact wpAny_Expr_any (thn (he pins s σ H _ I h) λv s1 ⟨x,H1,I1,r1,q1⟩=>⟨σ,H1,I1,q1⟩) I.quiet hs
def xB (te:TE):TS:=λD σ H=>te σ H D.rt
theorem aF (he:PE X e te):PS X (.Return (some e) pos) (xB te):=by
 intro pins s σ H D I h
 exact wpAny_Return_some (thn (he pins s σ H _ I h) λv s1 ⟨x,H1,I1,r1,q1⟩=>⟨x,σ,H1,I1,r1,q1⟩)
def xF (c:TT) (t u:TS):TS:=λD σ H=>c σ H λb H1=>if b=true then t D σ H1 else u D σ H1
theorem bg {c:Expr} {a b:List Stmt} {tc:TT} (hc:PT X c tc) (ha:PSs X a t) (hb:PSs X b u):PS X (.If c a b pos) (xF tc t u):=by
 intro pins s σ H D I h
 refine wpAny_If (thn (hc pins s σ H _ I h) λd s1 ⟨H1,I1,q1⟩=>?_)
 cases d with
 | true=>exact ha pins s1 σ H1 D I1 q1
 | false=>exact hb pins s1 σ H1 D I1 q1
def wu:TS:=λ_ _ _=>False
theorem qw {sts:List Stmt}:PSs X sts wu:=λ_ _ _ _ _ _ h=>h.elim
end
abbrev TG:=V->St->Hp->(St->Hp->Prop)->Prop
abbrev TGs:=List V->St->Hp->(St->Hp->Prop)->Prop
def PG (X:Cx) (target:Expr) (t:TG):Prop :=
 ∀(pins:List (Addr × Obj)) (s:Shared) (σ:St) (H:Hp) (v:V) (u:Value) (Q:St->Hp->Prop),Inv X pins σ H s->aS v u->t v σ H Q ->
  wpAny (model X.prog X.w) X.A (assign target X.env u) (λ_ s'=>∃σ' H',Inv X pins σ' H' s'/\Q σ' H') X.xe s
def PGs (X:Cx) (ts:List Expr) (t:TGs):Prop :=
 ∀(pins:List (Addr × Obj)) (s:Shared) (σ:St) (H:Hp) (vs:List V) (us:List Value) (Q:St->Hp->Prop),Inv X pins σ H s->aY vs us->t vs σ H Q ->
  wpAny (model X.prog X.w) X.A (assignInOrder ((assignEach ts X.env).map (·.2)) us) (λ_ s'=>∃σ' H',Inv X pins σ' H' s'/\Q σ' H') X.xe s
abbrev vh:=V->V->V->Hp->(Hp->Prop)->Prop
def Bh (X:Cx) (t:vh):Prop :=
 ∀(pins:List (Addr × Obj)) (s:Shared) (σ:St) (H:Hp) (o i v:V) (ov iv u:Value) (Q:Hp->Prop),Inv X pins σ H s->aS o ov->aS i iv->aS v u->t o i v H Q ->
  wpAny (model X.prog X.w) X.A (setItem ov iv u) (λ_ s'=>∃H',Inv X pins σ H' s'/\Q H') X.xe s
abbrev TIp:=V->V->Hp->VK->Prop
def PIp (X:Cx) (op:Operator) (t:TIp):Prop :=
 ∀(pins:List (Addr × Obj)) (s:Shared) (σ:St) (H:Hp) (x y:V) (v u:Value) (Q:VK),Inv X pins σ H s->aS x v->aS y u->t x y H Q ->
  wpAny (model X.prog X.w) X.A (inplaceOp op v u) (EP X pins σ Q) X.xe s
section
variable {X:Cx} {pos:Pos}
def eU (i:Nat):TG:=λv σ H Q=>Q (σ.set i (some v)) H
variable {x:Str}
theorem bt {i:Nat} (hN:X.N.Nodup) (hi:X.N[i]?=some x) (hx:Loc X.env.scope x) (hf:X.fn x=true\/X.env.scope.names.lookup x=some .local:=by first|exact .inl rfl|exact .inr rfl|assumption):PG X (.Name x pos) (eU i):=by
 intro pins s σ H v u Q I r h
 exact wpAny_assign_Name (iF I hN hi hx r (λs' I'=>⟨_,H,I',h⟩) hf)
theorem bU (i:Nat) (hN:X.N.Nodup) (hi:X.N[i]?=some x:=by rfl) (hx:Loc X.env.scope x:=by first|exact Or.inl rfl|exact Or.inr rfl) (hf:X.fn x=true\/X.env.scope.names.lookup x=some .local:=by first|exact .inl rfl|exact .inr rfl|assumption):PG X (.Name x pos) (eU i):=bt hN hi hx hf
def A6:TGs:=λvs σ H Q=>vs=[]/\Q σ H
def tF (t:TG) (u:TGs):TGs:=λvs σ H Q=>∃v r,vs=v::r/\t v σ H λσ' H'=>u r σ' H' Q
theorem dO:PGs X [] A6:=by
 intro pins s σ H vs us Q I r h
 obtain⟨e,h⟩:=h
 subst e
 cases r
 exact assignInOrder_nil ⟨σ,H,I,h⟩
variable {e o i tg:Expr}
theorem bp {es:List Expr} {t:TG} {u:TGs} (h1:PG X e t) (h2:PGs X es u)
  (hs:(assignEach (e::es) X.env).map (·.2)=assign e X.env::(assignEach es X.env).map (·.2):=by rfl):PGs X (e::es) (tF t u):=by
 intro pins s σ H vs us Q I r h
 obtain⟨v,vr,e1,h⟩:=h
 subst e1
 cases r with
 | cons r rr =>
  rw[hs]
  refine assignInOrder_cons (thn (h1 pins s σ H _ _ _ I r h) λ_ s1 ⟨σ1,H1,I1,q1⟩=>?_)
  exact h2 pins s1 σ1 H1 _ _ Q I1 rr q1
def xo (K:PySem.W.Frag) (n:Nat) (t:TGs):TG:=λv σ H Q=>∃a xs,v=.ref a/\SqT K H a xs/\xs.length=n/\t xs σ H Q
theorem gI {es:List Expr} {k:Nat} {t:TGs} {n:Nat} (hc:X.calm=true) (h:PGs X es t)
  (hn:(assignEach es X.env).length=n:=by rfl) (hst:(assignEach es X.env).findIdx? (·.1)=none:=by rfl):PG X (.Tuple es k pos) (xo X.K n t):=by
 intro pins s σ H v u Q I r hw
 obtain⟨a,xs,e1,hq,hl,hw⟩:=hw
 subst e1
 cases r
 obtain⟨its,rv,ht,hz⟩:=I.tuple hq
 refine assign_Tuple_tuple (I.ok.hd hc) ht (by simp[hn,<-hl,rv.length]) hst λh' hx=>?_
 have I1:Inv X pins σ H { s with heap:=h' }:=I.kept (t':=s.toks) λb o e=>hx b o (Nat.ne_of_lt (Heap.lt_size e)) e
 exact h pins _ σ H xs _ Q I1 (by simpa using rv) hw
def A5 (to ti:TE) (t:vh):TG:=λv σ H Q=>to σ H λo H1=>ti σ H1 λi H2=>t o i v H2 λH3=>Q σ H3
theorem si {to ti:TE} {t:vh} (ho:PE X o to) (hi:PE X i ti) (hs:Bh X t)
  (ha:∀v,assign (.Subscript o i pos) X.env v=(do
   let ov <-holding [v] (eval o X.env)
   let iv <-holding [v,ov] (eval i X.env)
   standAt pos
   holding [v,ov,iv] (setItem ov iv v)
   release [v,ov,iv] []):=by intro _;rfl):PG X (.Subscript o i pos) (A5 to ti t):=by
 intro pins s σ H v u Q I r h
 rw[ha]
 refine wpAny_bind (wpAny_holding (thn (ho pins s σ H _ I h) λov s1 ⟨x,H1,I1,r1,q1⟩=>?_))
 refine wpAny_bind (wpAny_holding (thn (hi pins s1 σ H1 _ I1 q1) λiv s2 ⟨y,H2,I2,r2,q2⟩=>?_))
 refine wpAny_bind (wpAny_standAt (wpAny_bind (wpAny_holding (thn (hs pins s2 σ H2 x y v ov iv u _ I2 r1 r2 r q2) λ_ s3 ⟨H3,I3,q3⟩=>?_))))
 exact wpAny_release ⟨σ,H3,I3,q3⟩
def qo (te:TE) (g:TG):TS:=λD σ H=>te σ H λx H1=>g x σ H1 D.nx
variable {te:TE}
theorem rY {g:TG} (he:PE X e te) (hg:PG X tg g) (hs:swapsWithSole [tg] e pos.line X.env=pure false:=by rfl) (hw:swappedStores [tg] e X.env=pure none:=by rfl)
  (h1:(assignEach [tg] X.env).map (·.2)=[assign tg X.env]:=by rfl):PS X (.Assign [tg] e pos) (qo te g):=by
 intro pins s σ H D I h
 refine wpAny_Assign_stores (thn (he pins s σ H _ I h) λv s1 ⟨x,H1,I1,r1,q1⟩=>?_) hs hw
 rw[h1]
 exact thn (hg pins s1 σ H1 x v _ I1 r1 q1) λ_ s2 q=>q
variable {pos':Pos}
theorem rV {i:Nat} (hN:X.N.Nodup) (hi:X.N[i]?=some x) (hx:Loc X.env.scope x) (he:PE X e te) (hs:swapsWith e (some (.Name x pos')) pos.line X.env=pure false:=by rfl) (hf:X.fn x=true\/X.env.scope.names.lookup x=some .local:=by first|exact .inl rfl|exact .inr rfl|assumption) :
  PS X (.Assign [.Name x pos'] e pos) (qo te (eU i)):=by
 intro pins s σ H D I h
 refine wpAny_Assign_Name (thn (he pins s σ H _ I h) λv s1 ⟨y,H1,I1,r1,q1⟩=>?_) hs
 exact iF I1 hN hi hx r1 (λs2 I2=>⟨_,H1,I2,q1⟩) hf
theorem aA (i:Nat) (hN:X.N.Nodup) (he:PE X e te) (hi:X.N[i]?=some x:=by rfl) (hx:Loc X.env.scope x:=by first|exact Or.inl rfl|exact Or.inr rfl) (hs:swapsWith e (some (.Name x pos')) pos.line X.env=pure false:=by rfl) (hf:X.fn x=true\/X.env.scope.names.lookup x=some .local:=by first|exact .inl rfl|exact .inr rfl|assumption):PS X (.Assign [.Name x pos'] e pos) (qo te (eU i)):=rV hN hi hx he hs hf
def Bn (i:Nat) (te:TE) (ti:TIp):TS:=λD σ H=>∃x,σ[i]?=some (some x)/\te σ H λy H1=>ti x y H1 λz H2=>D.nx (σ.set i (some z)) H2
theorem rX {i:Nat} {op:Operator} {ti:TIp} (hN:X.N.Nodup) (hi:X.N[i]?=some x) (hx:Loc X.env.scope x) (he:PE X e te) (ho:PIp X op ti) (hf:X.fn x=true\/X.env.scope.names.lookup x=some .local:=by first|exact .inl rfl|exact .inr rfl|assumption) :
  PS X (.AugAssign (.Name x pos') op e pos) (Bn i te ti):=by
 intro pins s σ H D I h
 obtain⟨v,e1,h⟩:=h
 obtain⟨m,hn,hl⟩:=I.loc
 have vis:Vis X.env.scope x:=by rcases hx with k|k;exact .inl k;exact .inr (.inl k)
 obtain⟨u,r,l⟩:=hl i x v hi e1 vis
 refine wpAny_AugAssign_Name ?_
 have go:wpAny (model X.prog X.w) X.A (eval e X.env) (λw s₂=>wpAny (model X.prog X.w) X.A (inplaceOp op u w) (λr s₃=>wpAny (model X.prog X.w) X.A (storeName X.env x r) (λ_=>SP X pins D .next) X.xe s₃) X.xe s₂) X.xe s:=by
  refine thn (he pins s σ H _ I h) λw s1 ⟨y,H1,I1,r1,q1⟩=>?_
  refine thn (ho pins s1 σ H1 v y u w _ I1 r r1 q1) λz s2 ⟨zv,H2,I2,r2,q2⟩=>?_
  exact iF I2 hN hi hx r2 (λs3 I3=>⟨_,H2,I3,q2⟩) hf
 rcases l with⟨hk,hm⟩|⟨hk,c,hc,hcell⟩
 ·exact wpAny_loadName_local I.ok.kind hk hn hm go
 ·rcases hk with hk|hk
  ·exact wpAny_loadName_cell I.ok.kind hk hc hcell go
  ·rcases hx with k|k
   ·have:X.env.scope.names.lookup x=some .free:=hk
    rw[k]at this;cases this
   ·have:X.env.scope.names.lookup x=some .free:=hk
    rw[k]at this;cases this
def ipI (f:Int->Int->Int):TIp:=λx y H Q=>∃i j,x=.int i/\y=.int j/\Q (.int (f i j)) H
theorem tu:PIp X .Add (ipI λi j=>i+j):=by
 intro pins s σ H x y v u Q I r1 r2 h
 obtain⟨i,j,e1,e2,q⟩:=h
 subst e1;subst e2
 obtain⟨t,rfl⟩:=r1
 obtain⟨t',rfl⟩:=r2
 exact iadd_int ⟨.int _,H,I.tok _,⟨_,rfl⟩,q⟩
end
section
variable {X:Cx} {pos:Pos}
def wt (c:TT) (tb:TS):TS:=λD σ H=>∃W:Nat->St->Hp->Prop,(∃m,W m σ H)/\∀m σ H,W m σ H ->
 c σ H λb H1=>if b=true then ∃N:St->Hp->Prop,(∀σ' H',N σ' H'->∃m',m'<m/\W m' σ' H')/\tb { D with nx:=N,ct:=N,bk:=D.nx } σ H1 else D.nx σ H1
theorem dD {c:Expr} {body:List Stmt} {tc:TT} {tb:TS} (hp:PassesOwn (model X.prog X.w) X.A X.env X.xe) (hc:PT X c tc) (hb:PSs X body tb):PS X (.While c body [] pos) (wt tc tb):=by
 intro pins s σ H D I h
 obtain⟨W,⟨m0,w0⟩,turn⟩:=h
 refine wpAny_While (codeAny_whileLoop (λn s'=>∃σ' H',Inv X pins σ' H' s'/\W n σ' H') ?_ m0 ⟨σ,H,I,w0⟩)
 rintro n s1 ⟨σ1,H1,I1,w1⟩
 refine wpAny_passesOwn hp (thn (hc pins s1 σ1 H1 _ I1 (turn n σ1 H1 w1)) λb s2 ⟨H2,I2,q2⟩=>?_)
 cases b with
 | true =>
  obtain⟨N,hN,q2⟩:=q2
  rw[if_pos rfl]
  refine wpAny_passesOwn hp (thn (hb pins s2 σ1 H2 _ I2 q2) λf s3 q3=>?_)
  cases f with
  | next =>
   obtain⟨σ3,H3,I3,n3⟩:=q3
   obtain⟨m',hm,w3⟩:=hN σ3 H3 n3
   exact⟨m',hm,σ3,H3,I3,w3⟩
  | cont =>
   obtain⟨σ3,H3,I3,n3⟩:=q3
   obtain⟨m',hm,w3⟩:=hN σ3 H3 n3
   exact⟨m',hm,σ3,H3,I3,w3⟩
  | brk=>exact q3
  | ret v=>exact q3
 | false =>
  rw[if_neg Bool.false_ne_true]
  exact wpAny_execs_nil ⟨σ1,H2,I2,q2⟩
end
structure It where
 go:Nat->Hp->Prop
 yld:Nat->Hp->V->Hp->Prop
 stop:Nat->Hp->Prop
def fU (X:Cx) (pins:List (Addr × Obj)) (H:Hp) (b:Addr):Prop :=
 H b=none/\b≠X.env.locals/\b∉X.fs/\(b∈X.ex\/X.s₀.heap.objs.size<=b)/\(∀x c,X.env.cells.lookup x=some c->c≠b)/\∀p∈X.pn++pins,p.1≠b
theorem Inv.fpOk {pins:List (Addr × Obj)} {σ:St} (I:Inv X pins σ H s) (hb:s.heap.objs.size<=b) (hn:H' b=none):fU X pins H' b:=by
 refine⟨hn,Nat.ne_of_gt (Nat.lt_of_lt_of_le I.lt hb),I.nofs hb,.inr (Nat.le_trans I.sz hb),λx c e z=>?_,λp hp z=>?_⟩
 ·obtain⟨v,q⟩:=I.cell x c e
  exact absurd (Nat.lt_of_lt_of_le q.lt (by rw[z];exact hb)) (Nat.lt_irrefl _)
 ·exact absurd (Nat.lt_of_lt_of_le (Heap.lt_size (I.pin p hp).1) (by rw[z];exact hb)) (Nat.lt_irrefl _)
structure Turn (P:Program) (w:World) (K:PySem.W.Frag) (tg:Expr) (J:It) (fp:List Addr) (it:Addr) (tn:Nat->Heap->Prop):Prop where
 mem:it∈fp
 obj:∀i h,tn i h->∀b∈fp,∃o,h.get? b=some o/\∀v,o.data≠.cell v
 keep:∀i h h',tn i h->(∀b∈fp,∀o,h.get? b=some o->h'.get? b=some o)->tn i h'
 item:∀(X:Cx),X.prog=P->X.w=w->X.K=K->X.calm=true->∀(i:Nat) (pins:List (Addr × Obj)) (s:Shared) (σ:St) (H:Hp) (E:Value->Shared->Prop),Inv X pins σ H s->(∀b∈fp,fU X pins H b)->tn i s.heap->J.go i H ->
  wpAny (model P w) X.A (pyNext (.ref it)) (λr s1=>∃u,r=some u /\
   wpAny (model P w) X.A (letOwnedTupleGo tg (.ref it) u) (λ_ s2=>∃x H',Inv X pins σ H' s2/\aS x u/\J.yld i H x H'/\tn (i+1) s2.heap/\∀b∈fp,H' b=none) E s1) E s
 done:∀(X:Cx),X.prog=P->X.w=w->X.K=K->X.calm=true->∀(i:Nat) (pins:List (Addr × Obj)) (s:Shared) (σ:St) (H:Hp) (E:Value->Shared->Prop),Inv X pins σ H s->(∀b∈fp,fU X pins H b)->tn i s.heap->J.stop i H ->
  wpAny (model P w) X.A (pyNext (.ref it)) (λr s1=>r=none/\Inv X pins σ H s1) E s
 self:∀(A:Around) (i:Nat) (s:Shared) (Q:Value->Shared->Prop) (E:Value->Shared->Prop),tn i s.heap->Q (.ref it) s->wpAny (model P w) A (pyIter (.ref it)) Q E s
abbrev TI:=St->Hp->(It->Hp->Prop)->Prop
def PIE (X:Cx) (pins:List (Addr × Obj)) (σ:St) (tg:Expr) (R:It->Hp->Prop) (itv:Value) (s2:Shared):Prop :=
 ∃(it:Addr) (fp:List Addr) (tn:Nat->Heap->Prop) (J:It) (H':Hp),itv=.ref it/\Inv X pins σ H' s2/\Turn X.prog X.w X.K tg J fp it tn/\tn 0 s2.heap/\(∀b∈fp,fU X pins H' b)/\R J H'
def PI (X:Cx) (tg iter:Expr) (wi:TI):Prop :=
 ∀(pins:List (Addr × Obj)) (s:Shared) (σ:St) (H:Hp) (R:It->Hp->Prop),Inv X pins σ H s->wi σ H R ->
  wpAny (model X.prog X.w) X.A (eval iter X.env) (λv s1=>wpAny (model X.prog X.w) X.A (pyIter v) (PIE X pins σ tg R) X.xe s1) X.xe s
theorem tE {M:Model} {s:Shared} {o:Obj} {n:String} {vs:Array Value} {Q:Unit->Shared->Prop} (ho:s.heap.get? it=some o) (hc:o.cls=.type n) (hd:o.data=.fields vs)
  (hn:["enumerate", "zip", "dict_itemiterator", "dict_reverseitemiterator", "odict_iterator", "itertools.zip_longest", "itertools.pairwise"].contains n=false) (hQ:Q () s):wpAny M A (letOwnedTupleGo tg (.ref it) u) Q E s:=by
 unfold letOwnedTupleGo
 cases tg <;> first
  | exact wpAny_pure hQ
  | (cases u <;> first
    | exact wpAny_pure hQ
    |(refine wpAny_bind (wpAny_load ho ?_)
      rw[hc,hd]
      show wpAny M A (if (["enumerate", "zip", "dict_itemiterator", "dict_reverseitemiterator", "odict_iterator", "itertools.zip_longest", "itertools.pairwise"].contains n&&vs[0]?==some (rawInt _))=true then _ else _) Q E s
      rw[if_neg (by intro h;rw[hn,Bool.false_and]at h;cases h)]
      exact wpAny_pure hQ))
def Itl (K:PySem.W.Frag) (a:Addr):It :=
 ⟨λi H=>∃xs x,SqL K H a xs/\xs[i]?=some x,λi H x H'=>H'=H/\∀xs,SqL K H a xs->xs[i]?=some x,λi H=>∃xs,SqL K H a xs/\xs.length<=i⟩
def Itr (lo:Int) (n:Nat):It:=⟨λi _=>i<n,λi H x H'=>H'=H/\x=.int (lo+i),λi _=>n<=i⟩
variable {K:PySem.W.Frag}
theorem turn_list (a it:Addr):Turn P w K tg (Itl K a) [it] it (λi h=>h.IsListIter it a i) where
 mem:=by simp
 obj:=λi h st b hb=>by
  have e:b=it:=by simpa using hb
  subst e
  obtain⟨o,e,c,d⟩:=st
  exact⟨o,e,λv z=>by rw[d]at z;cases z⟩
 keep:=λi h h' st k=>st.at λo e=>k it (by simp) o e
 item:=by
  intro X hP hw hK hc i pins s σ H E I hf st hg
  subst hP hw hK
  obtain⟨xs,x,hq,hx⟩:=hg
  obtain⟨its,rv,p,hz⟩:=I.list hq
  obtain⟨u,hu,ru⟩:=rv.get hx
  obtain⟨f0,f1,f2,f3,f4,f5⟩:=hf it (by simp)
  refine wpAny_pyNext_list_item st p.isList (x:=u) (by simpa using hu) λh' st' sb=>?_
  have I1:Inv X pins σ H { s with heap:=h' }:=I.turned (t':=s.toks) (λb o hb e=>(sb.2 b hb).trans e) f0 f1 f3 f4 f5
  obtain⟨o,e,c,d⟩:=id st'
  exact⟨u,rfl,tE (s:={ s with heap:=h' }) e c d (by decide) ⟨x,H,I1,ru,⟨rfl,λys hy=>by rw[I.list_inj hy hq];exact hx⟩,st',λb hb=>(hf b hb).1⟩⟩
 done:=by
  intro X hP hw hK hc i pins s σ H E I hf st hg
  subst hP hw hK
  obtain⟨xs,hq,hx⟩:=hg
  obtain⟨its,rv,p,hz⟩:=I.list hq
  obtain⟨f0,f1,f2,f3,f4,f5⟩:=hf it (by simp)
  have hl:=rv.length
  exact wpAny_pyNext_list_end (I.ok.hd hc) st p.isList (by simp;omega) λh' eb=>⟨rfl,I.turned (t':=s.toks) (λb o hb e=>eb b o hb e) f0 f1 f3 f4 f5⟩
 self:=λ_ _ _ _ _ st h=>wpAny_pyIter_listiter st h
theorem nM (it:Addr) (lo:Int) (n:Nat):Turn P w K tg (Itr lo n) [it] it (λi h=>IsRangeIter h it (lo+(i:Nat)*1) ((n:Int)-(i:Nat)) 1) where
 mem:=by simp
 obj:=λi h st b hb=>by
  have e:b=it:=by simpa using hb
  subst e
  exact⟨_,st,λv z=>by
   have z':Data.fields _=Data.cell v:=z
   cases z'⟩
 keep:=λi h h' st k=>k it (by simp) _ st
 item:=by
  intro X hP hw hK hc i pins s σ H E I hf st hg
  subst hP hw hK
  obtain⟨f0,f1,f2,f3,f4,f5⟩:=hf it (by simp)
  have W:=Walks.range (prog:=X.prog) (w:=X.w) (I.ok.hd hc) it lo 1 n
  refine W.item i s _ _ hg st λv h' tk hv st' kk=>?_
  obtain⟨t,rfl⟩:=hv
  have I1:Inv X pins σ H { s with heap:=h',toks:=tk }:=I.turned (λb o hb e=>kk b o (by simpa using hb) e) f0 f1 f3 f4 f5
  refine⟨_,rfl,tE (s:={ s with heap:=h',toks:=tk }) (n := "range_iterator") st' rfl rfl (by decide) ⟨.int (lo+i),H,I1,⟨t,?_⟩,⟨rfl,rfl⟩,st',λb hb=>(hf b hb).1⟩⟩
  rw[Int.mul_one]
 done:=by
  intro X hP hw hK hc i pins s σ H E I hf st hg
  subst hP hw hK
  obtain⟨f0,f1,f2,f3,f4,f5⟩:=hf it (by simp)
  exact wpAny_pyNext_range_end (I.ok.hd hc) st (by have:n<=i:=hg;omega) λh' eb=>⟨rfl,I.turned (t':=s.toks) (λb o hb e=>eb b o hb e) f0 f1 f3 f4 f5⟩
 self:=λ_ _ _ _ _ st h=>wpAny_pyIter_rangeiter st h
section
variable {X:Cx} {tg:Expr}
def np (K:PySem.W.Frag) (tl:TE):TI:=λσ H R=>tl σ H λx H1=>∃a,x=.ref a/\(∃xs,SqL K H1 a xs)/\R (Itl K a) H1
variable {l a iter:Expr}
theorem bD {tl:TE} (hl:PE X l tl):PI X tg l (np X.K tl):=by
 intro pins s σ H R I h
 refine thn (hl pins s σ H _ I h) λv s1 ⟨x,H1,I1,r1,q1⟩=>?_
 obtain⟨a,e,⟨xs,hq⟩,q⟩:=q1
 subst e
 cases r1
 obtain⟨its,rv,p,hz⟩:=I1.list hq
 refine wpAny_pyIter_list p.isList ?_
 refine⟨s1.heap.objs.size,[s1.heap.objs.size],_,_,H1,rfl,I1.kept (t':=s1.toks) λb o e=>Heap.get?_push_of_some _ e,turn_list a _,⟨_,Heap.get?_push_size _ rfl,rfl,rfl⟩,λb hb=>?_,q⟩
 have e:b=s1.heap.objs.size:=by simpa using hb
 subst e
 exact I1.fpOk (Nat.le_refl _) (I1.hok.fresh (Nat.le_refl _))
variable {s:Shared} {pins pl:List (Addr × Obj)}
theorem mK {σ:St} {H:Hp} {R:It->Hp->Prop} {E:Value->Shared->Prop} {lo hi:Int} {t u v:Tok} {tk:Nat} (I:Inv X pins σ H s) (h1:-(2 ^ 62)<=lo) (h2:lo<2 ^ 62) (h3:-(2 ^ 62)<=hi) (h4:hi<2 ^ 62)
  (q:R (Itr lo (hi-lo).toNat) H):wpAny (model X.prog X.w) X.A (pyIter (.ref s.heap.objs.size)) (PIE X pins σ tg R) E { s with heap:=s.heap.push { cls:=.type "range", data:=.fields #[.int lo t,.int hi u,.int 1 v] },toks:=tk }:=by
 refine wpAny_pyIter_range (IsRange.new ..) (small_one h1 h2 h3 h4) ?_
 have I1:Inv X pins σ H { s with heap:=s.heap.push { cls:=.type "range", data:=.fields #[.int lo t,.int hi u,.int 1 v] },toks:=tk }:=I.kept λb o e=>Heap.get?_push_of_some _ e
 refine⟨(s.heap.push { cls:=.type "range", data:=.fields #[.int lo t,.int hi u,.int 1 v] }).objs.size,[(s.heap.push { cls:=.type "range", data:=.fields #[.int lo t,.int hi u,.int 1 v] }).objs.size],_,_,H,rfl,
  I1.kept (t':=tk) λb o e=>Heap.get?_push_of_some _ e,nM _ lo (hi-lo).toNat,?_,λb hb=>?_,q⟩
 ·have e1:lo+((0:Nat):Int)*1=lo:=by simp
  have e2:(((hi-lo).toNat:Nat):Int)-((0:Nat):Int)=Builtin.Range.rangeSize lo hi 1:=by rw[rangeSize_one];split <;> omega
  show IsRangeIter _ _ (lo+((0:Nat):Int)*1) ((((hi-lo).toNat:Nat):Int)-((0:Nat):Int)) 1
  rw[e1,e2]
  exact Heap.get?_push_size _ rfl
 ·have e:b=(s.heap.push { cls:=.type "range", data:=.fields #[.int lo t,.int hi u,.int 1 v] }).objs.size:=by simpa using hb
  subst e
  exact I1.fpOk (Nat.le_refl _) (I1.hok.fresh (Nat.le_refl _))
def wm (ta:TA):TI:=λσ H R=>ta σ H λvs H1=>∃j:Int,vs=[.int j]/\-(2 ^ 62)<=j/\j<2 ^ 62/\R (Itr 0 j.toNat) H1
def A3 (ta:TA):TI:=λσ H R=>ta σ H λvs H1=>∃i j:Int,vs=[.int i,.int j]/\(-(2 ^ 62)<=i/\i<2 ^ 62/\-(2 ^ 62)<=j/\j<2 ^ 62)/\R (Itr i (j-i).toNat) H1
theorem cg {ta:TA} {p pos:Pos} (hg:Gl X "range") (hm:X.mg "range" = none) (ha:PA X [a] ta) (hs:starEach [a] X.env=[(false,eval a X.env)]:=by rfl):PI X tg (.Call (.Name "range" p) [a] [] pos) (wm ta):=by
 intro pins s σ H R I h
 refine Call_ (dj I hg hm boot_range (PyProof.Rows.callWith_type1 (thn (ha pos pins s σ H _ I h) λus s1 ⟨vs,H1,I1,r1,q1⟩=>?_) hs rfl))
 obtain⟨j,e,q1,q2,q⟩:=q1
 subst e
 cases r1 with
 | cons r rr =>
  cases rr
  obtain⟨t,rfl⟩:=r
  exact call_range_1 (mK I1 (by omega) (by omega) q1 q2 (by simpa using q))
theorem qy {b:Expr} {ta:TA} {p pos:Pos} (hg:Gl X "range") (hm:X.mg "range" = none) (ha:PA X [a,b] ta) (hs:starEach [a,b] X.env=[(false,eval a X.env),(false,eval b X.env)]:=by rfl) (hs2:starEach [b] X.env=[(false,eval b X.env)]:=by rfl) :
  PI X tg (.Call (.Name "range" p) [a,b] [] pos) (A3 ta):=by
 intro pins s σ H R I h
 refine Call_ (dj I hg hm boot_range (PyProof.Rows.callWith_type1 (thn (ha pos pins s σ H _ I h) λus s1 ⟨vs,H1,I1,r1,q1⟩=>?_) (by rw[hs,hs2]) (by rw[hs2];rfl)))
 obtain⟨i,j,e,⟨q1,q2,q3,q4⟩,q⟩:=q1
 subst e
 cases r1 with
 | cons r rr =>
  cases rr with
  | cons r' rr =>
   cases rr
   obtain⟨t,rfl⟩:=r
   obtain⟨t',rfl⟩:=r'
   exact call_range_2 (mK I1 q1 q2 q3 q4 q)
def xH (wi:TI) (g:TG) (tb:TS):TS:=λD σ H=>wi σ H λJ H1=>∃W:Nat->Nat->St->Hp->Prop,(∃m,W 0 m σ H1)/\∀i m σ H,W i m σ H ->
 (J.stop i H/\D.nx σ H)\/(J.go i H/\∃N:St->Hp->Prop,(∀σ' H',N σ' H'->∃m',m'<m/\W (i+1) m' σ' H')/\∀x H',J.yld i H x H'->g x σ H' λσ2 H2=>tb { D with nx:=N,ct:=N,bk:=D.nx } σ2 H2)
def gG (fp:List Addr) (h:Heap):List (Addr × Obj):=fp.filterMap λb=>(h.get? b).map λo=>(b,o)
variable {fp:List Addr}
theorem cW {h:Heap} {b:Addr} {o:Obj} (hb:b∈fp) (e:h.get? b=some o):(b,o)∈gG fp h:=List.mem_filterMap.mpr ⟨b,hb,by rw[e];rfl⟩
theorem qL {h:Heap} {p:Addr × Obj} (hp:p∈gG fp h):p.1∈fp/\h.get? p.1=some p.2:=by
 obtain⟨b,hb,e⟩:=List.mem_filterMap.mp hp
 cases q:h.get? b with
 | none=>rw[q]at e;cases e
 | some o =>
  rw[q]at e
  have e':(b,o)=p:=Option.some.inj e
  subst e'
  exact⟨hb,q⟩
theorem Inv.pinned {σ:St} {H:Hp} (I:Inv X pins σ H s) (hf:∀b∈fp,fU X pins H b) (ho:∀b∈fp,∃o,s.heap.get? b=some o/\∀v,o.data≠.cell v):Inv X (pins++gG fp s.heap) σ H s :=
 I.pins_of λp hp=>(List.mem_append.mp hp).elim (λz=>I.pin p (List.mem_append_right _ z)) λz=>by
  obtain⟨hb,e⟩:=qL z
  obtain⟨f0,f1,f2,_⟩:=hf p.1 hb
  obtain⟨o,e',d⟩:=ho p.1 hb
  rw[e]at e';cases e'
  exact⟨e,f0,f1,f2,d⟩
theorem Inv.unpinned {σ:St} {H:Hp} (I:Inv X (pins++pl) σ H s):Inv X pins σ H s:=I.pins_of λp hp=>I.pin p (List.mem_append_right _ (List.mem_append_left _ hp))
theorem bP {body:List Stmt} {wi:TI} {g:TG} {tb:TS} {pos:Pos} (hp:PassesOwn (model X.prog X.w) X.A X.env X.xe) (hc:X.calm=true) (hi:PI X tg iter wi) (hg:PG X tg g) (hb:PSs X body tb)
  (hs:∀x,foldedSetIterable iter X.env x=pure x:=by intro _;rfl):PS X (.For tg iter body [] pos) (xH wi g tb):=by
 intro pins s σ H D I h
 refine wpAny_For (thn (hi pins s σ H _ I h) λv s1 h1=>thn h1 λitv s2 h2=>?_) hs
 obtain⟨it,fp,tn,J,H2,e,I2,T,st2,f2,W,⟨m0,w0⟩,turn⟩:=h2
 subst e
 -- what stays true of the iterator's objects through the loop
 have stat:∀{H':Hp},(∀b∈fp,H' b=none)->∀b∈fp,fU X pins H' b:=λhn b hb=>⟨hn b hb,(f2 b hb).2⟩
 refine codeAny_forLoop_any (λn s'=>∃i σ' H',Inv X pins σ' H' s'/\tn i s'.heap/\(∀b∈fp,H' b=none)/\W i n σ' H') ?_ m0 ⟨0,σ,H2,I2,st2,λb hb=>(f2 b hb).1,w0⟩
 rintro n s3 ⟨i,σ3,H3,I3,st3,fr3,w3⟩
 rcases turn i n σ3 H3 w3 with⟨stop,qn⟩|⟨go,N,hN,step⟩
 ·refine wpAny_passesOwn hp (thn (T.done X rfl rfl rfl hc i pins s3 σ3 H3 X.xe I3 (stat fr3) st3 stop) λr s4 ⟨hr,I4⟩=>?_)
  subst hr
  exact wpAny_execs_nil ⟨σ3,H3,I4,qn⟩
 ·refine wpAny_passesOwn hp (thn (T.item X rfl rfl rfl hc i pins s3 σ3 H3 X.xe I3 (stat fr3) st3 go) λr s4 ⟨u,hr,h4⟩=>?_)
  subst hr
  refine wpAny_passesOwn hp (thn h4 λ_ s5 ⟨x,H5,I5,r5,y5,st5,fr5⟩=>?_)
  have I5':=I5.pinned (stat fr5) (T.obj _ _ st5)
  refine wpAny_passesOwn hp (thn (hg _ s5 σ3 H5 x u _ I5' r5 (step x H5 y5)) λ_ s6 ⟨σ6,H6,I6,q6⟩=>?_)
  refine wpAny_passesOwn hp (thn (hb _ s6 σ6 H6 _ I6 q6) λf s7 q7=>?_)
  have again:∀{σ7:St} {H7:Hp},Inv X (pins++gG fp s5.heap) σ7 H7 s7->N σ7 H7->∃m,m<n/\∃i σ' H',Inv X pins σ' H' s7/\tn i s7.heap/\(∀b∈fp,H' b=none)/\W i m σ' H':=λ{σ7 H7} I7 n7=>by
   obtain⟨m',hm,w7⟩:=hN σ7 H7 n7
   refine⟨m',hm,i+1,σ7,H7,I7.unpinned,T.keep _ _ _ st5 λb hb o e=>(I7.pin (b,o) (List.mem_append_right _ (List.mem_append_right _ (cW hb e)))).1,λb hb=>?_,w7⟩
   obtain⟨o,e,d⟩:=T.obj _ _ st5 b hb
   exact(I7.pin (b,o) (List.mem_append_right _ (List.mem_append_right _ (cW hb e)))).2.1
  cases f with
  | next=>obtain⟨σ7,H7,I7,n7⟩:=q7;exact again I7 n7
  | cont=>obtain⟨σ7,H7,I7,n7⟩:=q7;exact again I7 n7
  | brk=>obtain⟨σ7,H7,I7,q7⟩:=q7;exact⟨σ7,H7,I7.unpinned,q7⟩
  | ret v=>obtain⟨x7,σ7,H7,I7,r7,q7⟩:=q7;exact⟨x7,σ7,H7,I7.unpinned,r7,q7⟩
end
theorem dh {K:PySem.W.Frag} {xs:List V} {g:TG} {tb:TS} {D:Ends} {σ:St} (Pv:Nat->St->Hp->Prop) (h0:Pv 0 σ H) (hl:∀i σ H,i<=xs.length->Pv i σ H->SqL K H a xs)
  (hs:∀i x σ H,xs[i]?=some x->Pv i σ H->g x σ H λσ2 H2=>tb { D with nx:=Pv (i+1),ct:=Pv (i+1),bk:=D.nx } σ2 H2) (hd:∀σ H,Pv xs.length σ H->D.nx σ H) :
  ∃W:Nat->Nat->St->Hp->Prop,(∃m,W 0 m σ H)/\∀i m σ H,W i m σ H ->
   ((Itl K a).stop i H/\D.nx σ H)\/((Itl K a).go i H/\∃N:St->Hp->Prop,(∀σ' H',N σ' H'->∃m',m'<m/\W (i+1) m' σ' H')/\∀x H',(Itl K a).yld i H x H'->g x σ H' λσ2 H2=>tb { D with nx:=N,ct:=N,bk:=D.nx } σ2 H2):=by
 refine⟨λi m σ H=>m=xs.length-i/\i<=xs.length/\Pv i σ H,⟨xs.length,by simp,Nat.zero_le _,h0⟩,?_⟩
 rintro i m σ H ⟨rfl,hi,p⟩
 have q:=hl i σ H hi p
 by_cases hlt:i<xs.length
 ·refine .inr ⟨⟨xs,xs[i],q,by simp[hlt]⟩,Pv (i+1),λσ' H' p'=>⟨xs.length-(i+1),by omega,rfl,hlt,p'⟩,λx H' y=>?_⟩
  obtain⟨e,y⟩:=y
  subst e
  exact hs i x σ _ (y xs q) p
 ·have e:i=xs.length:=by omega
  subst e
  exact .inl ⟨⟨xs,q,Nat.le_refl _⟩,hd σ H p⟩
theorem cY {lo:Int} {n:Nat} {g:TG} {tb:TS} {D:Ends} {σ:St} (Pv:Nat->St->Hp->Prop) (h0:Pv 0 σ H)
  (hs:∀i σ H,i<n->Pv i σ H->g (.int (lo+i)) σ H λσ2 H2=>tb { D with nx:=Pv (i+1),ct:=Pv (i+1),bk:=D.nx } σ2 H2) (hd:∀σ H,Pv n σ H->D.nx σ H) :
  ∃W:Nat->Nat->St->Hp->Prop,(∃m,W 0 m σ H)/\∀i m σ H,W i m σ H ->
   ((Itr lo n).stop i H/\D.nx σ H)\/((Itr lo n).go i H/\∃N:St->Hp->Prop,(∀σ' H',N σ' H'->∃m',m'<m/\W (i+1) m' σ' H')/\∀x H',(Itr lo n).yld i H x H'->g x σ H' λσ2 H2=>tb { D with nx:=N,ct:=N,bk:=D.nx } σ2 H2):=by
 refine⟨λi m σ H=>m=n-i/\i<=n/\Pv i σ H,⟨n,by simp,Nat.zero_le _,h0⟩,?_⟩
 rintro i m σ H ⟨rfl,hi,p⟩
 by_cases hlt:i<n
 ·refine .inr ⟨hlt,Pv (i+1),λσ' H' p'=>⟨n-(i+1),by omega,rfl,hlt,p'⟩,λx H' y=>?_⟩
  obtain⟨e,y⟩:=y
  subst e y
  exact hs i σ _ hlt p
 ·have e:i=n:=by omega
  subst e
  exact .inl ⟨Nat.le_refl _,hd σ H p⟩
abbrev R2:=V->V->Hp->VK->Prop
def OpR (X:Cx) (f:Value->Value->Sem Value) (r:R2):Prop :=
 ∀(pins:List (Addr × Obj)) (s:Shared) (σ:St) (H:Hp) (x y:V) (v u:Value) (Q:VK),Inv X pins σ H s->aS x v->aS y u->r x y H Q ->
  wpAny (model X.prog X.w) X.A (f v u) (EP X pins σ Q) X.xe s
def UnR (X:Cx) (f:Value->Sem Value) (r:V->Hp->VK->Prop):Prop :=
 ∀(pins:List (Addr × Obj)) (s:Shared) (σ:St) (H:Hp) (x:V) (v:Value) (Q:VK),Inv X pins σ H s->aS x v->r x H Q ->
  wpAny (model X.prog X.w) X.A (f v) (EP X pins σ Q) X.xe s
def dX (X:Cx) (f:Value) (r:List V->Hp->VK->Prop):Prop :=
 ∀(pins:List (Addr × Obj)) (s:Shared) (σ:St) (H:Hp) (xs:List V) (us:List Value) (Q:VK),Inv X pins σ H s->aY xs us->r xs H Q ->
  wpAny (model X.prog X.w) X.A (call f us) (EP X pins σ Q) X.xe s
def tOp (r:R2) (ta tb:TE):TE:=λσ H Q=>ta σ H λx H1=>tb σ H1 λy H2=>r x y H2 Q
def tUn (r:V->Hp->VK->Prop) (ta:TE):TE:=λσ H Q=>ta σ H λx H1=>r x H1 Q
def rI (C:Int->Int->Prop) (g:Int->Int->V):R2:=λx y H Q=>∃i j,x=.int i/\y=.int j/\C i j/\Q (g i j) H
def rI0 (g:Int->Int->V):R2:=λx y H Q=>∃i j,x=.int i/\y=.int j/\Q (g i j) H
def rU (g:Int->V):V->Hp->VK->Prop:=λx H Q=>∃i,x=.int i/\Q (g i) H
section
variable {X:Cx} {a b c:Expr} {ta tb tc:TE} {pos:Pos}
variable {f:Value->Value->Sem Value}
theorem xu (ha:PE X a ta) (hb:PE X b tb) {pins:List (Addr × Obj)} {s:Shared} {σ:St} {H:Hp} {R:V->V->Hp->Prop} (I:Inv X pins σ H s)
  (h:ta σ H λx H1=>tb σ H1 λy H2=>R x y H2) {Q:Value->Shared->Prop}
  (hf:∀v u s2 x y H2,Inv X pins σ H2 s2->aS x v->aS y u->R x y H2->wpAny (model X.prog X.w) X.A (f v u) Q X.xe s2) :
  wpAny (model X.prog X.w) X.A (eval a X.env) (λv s₁=>wpAny (model X.prog X.w) X.A (eval b X.env) (λu s₂=>wpAny (model X.prog X.w) X.A (f v u) Q X.xe s₂) X.xe s₁) X.xe s:=by
 refine thn (ha pins s σ H _ I h) λv s1 ⟨x,H1,I1,r1,q1⟩=>?_
 refine thn (hb pins s1 σ H1 _ I1 q1) λu s2 ⟨y,H2,I2,r2,q2⟩=>?_
 exact hf v u s2 x y H2 I2 r1 r2 q2
theorem av {op:Operator} {r:R2} (ho:OpR X (binaryOp op) r) (ha:PE X a ta) (hb:PE X b tb):PE X (.BinOp a op b pos) (tOp r ta tb):=by
 intro pins s σ H Q I h
 exact wpAny_BinOp (xu ha hb I h λv u s2 x y H2 I2 rx ry q=>ho pins s2 σ H2 x y v u Q I2 rx ry q)
theorem sj {op:UnaryOp} {r:V->Hp->VK->Prop} (ho:UnR X (unaryOp op) r) (ha:PE X a ta):PE X (.UnaryOp op a pos) (tUn r ta):=by
 intro pins s σ H Q I h
 exact UnaryOp_ (thn (ha pins s σ H _ I h) λv s1 ⟨x,H1,I1,r1,q1⟩=>ho pins s1 σ H1 x v Q I1 r1 q1)
theorem opI {C:Int->Int->Prop} {g:Int->Int->Int}
  (rule:∀(i j:Int) (t u:Tok) (s:Shared) (Q:Value->Shared->Prop) (E:Value->Shared->Prop),C i j->Q (.int (g i j) s.toks) { s with toks:=s.toks+1 }->wpAny (model X.prog X.w) X.A (f (.int i t) (.int j u)) Q E s) :
  OpR X f (rI C λi j=>.int (g i j)):=by
 intro pins s σ H x y v u Q I rx ry h
 obtain⟨i,j,rfl,rfl,hc,q⟩:=h
 obtain⟨t,rfl⟩:=rx
 obtain⟨t',rfl⟩:=ry
 exact rule i j t t' s _ _ hc ⟨.int (g i j),H,I.tok _,⟨_,rfl⟩,q⟩
theorem wP {g:Int->Int->Int}
  (rule:∀(i j:Int) (t u:Tok) (s:Shared) (Q:Value->Shared->Prop) (E:Value->Shared->Prop),Q (.int (g i j) s.toks) { s with toks:=s.toks+1 }->wpAny (model X.prog X.w) X.A (f (.int i t) (.int j u)) Q E s) :
  OpR X f (rI0 λi j=>.int (g i j)):=by
 intro pins s σ H x y v u Q I rx ry h
 obtain⟨i,j,rfl,rfl,q⟩:=h
 obtain⟨t,rfl⟩:=rx
 obtain⟨t',rfl⟩:=ry
 exact rule i j t t' s _ _ ⟨.int (g i j),H,I.tok _,⟨_,rfl⟩,q⟩
theorem wQ {g:Int->Int->Bool}
  (rule:∀(i j:Int) (t u:Tok) (s:Shared) (Q:Value->Shared->Prop) (E:Value->Shared->Prop),Q (.bool (g i j)) s->wpAny (model X.prog X.w) X.A (f (.int i t) (.int j u)) Q E s) :
  OpR X f (rI0 λi j=>.bl (g i j)):=by
 intro pins s σ H x y v u Q I rx ry h
 obtain⟨i,j,rfl,rfl,q⟩:=h
 obtain⟨t,rfl⟩:=rx
 obtain⟨t',rfl⟩:=ry
 exact rule i j t t' s _ _ ⟨.bl (g i j),H,I,rfl,q⟩
def Bk (i j:Int):Prop:=0<j/\j<1073741824
def Cv (i j:Int):Prop:=0<=j/\j<=1000000/\i.natAbs<2 ^ 64
def xA (i j:Int):Prop:=(-(2 ^ 64)<i/\i<2 ^ 64)\/(-(2 ^ 64)<j/\j<2 ^ 64)
theorem xA.ok {i j:Int} (h:xA i j):IntMulOk i j:=by
 rcases h with⟨h1,h2⟩|⟨h1,h2⟩
 ·exact .of_left (intBits_le_64 h1 h2)
 ·exact .of_right (intBits_le_64 h1 h2)
theorem nL (k:Nat):(0:Int)<=2 ^ k:=by
 rw[two_pow_cast]
 exact Int.natCast_nonneg _
theorem aV:OpR X (binaryOp .Add) (rI0 λi j=>.int (i+j)):=wP λ_ _ _ _ _ _ _ q=>add_int q
theorem gM:OpR X (binaryOp .Sub) (rI0 λi j=>.int (i-j)):=wP λ_ _ _ _ _ _ _ q=>sub_int q
theorem dE:OpR X (binaryOp .Mult) (rI xA λi j=>.int (i*j)):=opI λ_ _ _ _ _ _ _ hc q=>mul_int q hc.ok
theorem cN:OpR X (binaryOp .FloorDiv) (rI Bk λi j=>.int (i / j)):=opI λi j _ _ _ _ _ hc q=>by
 have h1:(0:Int)<j:=hc.1
 have h2:j<1073741824:=hc.2
 exact floordiv_int (by omega) (by rw[Int.fdiv_eq_ediv_of_nonneg i (by omega)];exact q) (.inl (PyProof.noPylong_small (by omega)))
theorem aX:OpR X (binaryOp .Mod) (rI (λ_ j=>0<j) λi j=>.int (i % j)):=opI λi j _ _ _ _ _ hc q=>by
 have h1:(0:Int)<j:=hc
 exact mod_int' (by omega) (by rw[Int.fmod_eq_emod_of_nonneg i (by omega)];exact q)
theorem wM:OpR X (binaryOp .Pow) (rI Cv λi j=>.int (i ^ j.toNat)):=opI λ_ _ _ _ _ _ _ hc q=>pow_int_small hc.1 hc.2.1 hc.2.2 q
theorem wL:OpR X (binaryOp .RShift) (rI (λ_ j=>0<=j) λi j=>.int (i / 2 ^ j.toNat)):=opI λi j _ _ _ _ _ hc q =>
 rshift_int hc (by rw[Int.fdiv_eq_ediv_of_nonneg i (nL _)];exact q)
theorem wO:OpR X (binaryOp .BitAnd) (rI0 λi j=>.int (Builtin.bitAnd i j)):=wP λ_ _ _ _ _ _ _ q=>and_int q
theorem unI {f:Value->Sem Value} {g:Int->Int}
  (rule:∀(i:Int) (t:Tok) (s:Shared) (Q:Value->Shared->Prop) (E:Value->Shared->Prop),Q (.int (g i) s.toks) { s with toks:=s.toks+1 }->wpAny (model X.prog X.w) X.A (f (.int i t)) Q E s) :
  UnR X f (rU λi=>.int (g i)):=by
 intro pins s σ H x v Q I rx h
 obtain⟨i,rfl,q⟩:=h
 obtain⟨t,rfl⟩:=rx
 exact rule i t s _ _ ⟨.int (g i),H,I.tok _,⟨_,rfl⟩,q⟩
theorem nK:UnR X (unaryOp .USub) (rU λi=>.int (-i)):=unI λ_ _ _ _ _ q=>neg_int q
end
def uo:V->V->Bool
 | .non,.non=>true|.non,.int _=>true|.int _,.non=>true|.non,.bl _=>true|.bl _,.non=>true|.non,.str _=>true|.str _,.non=>true
 | .int _,.int _=>true|.bl _,.bl _=>true|.str _,.str _=>true|.byt _,.byt _=>true
 | .int _,.str _=>true|.str _,.int _=>true|.bl _,.str _=>true|.str _,.bl _=>true
 | _,_=>false
def rEq:R2:=λx y H Q=>uo x y=true/\Q (.bl (decide (x=y))) H
def rNe:R2:=λx y H Q=>uo x y=true/\Q (.bl (!decide (x=y))) H
theorem pW {i j:Int}:decide (V.int i=V.int j)=(i==j):=by
 rw[Bool.eq_iff_iff]
 simp
theorem tQ {i j:Bool}:decide (V.bl i=V.bl j)=(i==j):=by
 rw[Bool.eq_iff_iff]
 simp
theorem pV {i j:Str}:decide (V.str i=V.str j)=(i==j):=by
 rw[Bool.eq_iff_iff]
 simp
theorem pX {i j:Array UInt8}:decide (V.byt i=V.byt j)=(i.toList==j.toList):=by
 rw[Bool.eq_iff_iff]
 cases i
 cases j
 simp
section
variable {X:Cx} {a b c:Expr} {ta tb tc:TE} {pos:Pos}
theorem be {pins:List (Addr × Obj)} {σ:St} {H:Hp} {s:Shared} {Q:VK} {k k':Bool} (I:Inv X pins σ H s) (q:Q (.bl k) H) (e:k=k'):EP X pins σ Q (.bool k') s:=by
 subst e
 exact⟨.bl k,H,I,rfl,q⟩
theorem bR:OpR X (compareOp .Eq) rEq:=by
 intro pins s σ H x y v u Q I rx ry h
 obtain⟨hs,q⟩:=h
 cases x with
 | non =>
  cases rx
  cases y with
  | non=>cases ry;exact PySem.EqNone.eq_none_none (be I q (by simp))
  | bl j=>cases ry;exact PySem.EqNone.eq_none_bool (be I q (by simp))
  | int j=>obtain⟨t',rfl⟩:=ry;exact PySem.EqNone.eq_none_int (be I q (by simp))
  | str j=>obtain⟨t',rfl⟩:=ry;exact PySem.EqNone.eq_none_str (be I q (by simp))
  | _=>exact absurd (show false=true from hs) Bool.false_ne_true
 | bl i =>
  cases rx
  cases y with
  | non=>cases ry;exact PySem.EqNone.eq_bool_none (be I q (by simp))
  | bl j=>cases ry;exact eq_bool (be I q tQ)
  | str j=>obtain⟨t',rfl⟩:=ry;exact PySem.EqMixed.eq_bool_str (be I q (by simp))
  | _=>exact absurd (show false=true from hs) Bool.false_ne_true
 | int i =>
  obtain⟨t,rfl⟩:=rx
  cases y with
  | non=>cases ry;exact PySem.EqNone.eq_int_none (be I q (by simp))
  | int j=>obtain⟨t',rfl⟩:=ry;exact eq_int (be I q pW)
  | str j=>obtain⟨t',rfl⟩:=ry;exact PySem.EqMixed.eq_int_str (be I q (by simp))
  | _=>exact absurd (show false=true from hs) Bool.false_ne_true
 | str i =>
  obtain⟨t,rfl⟩:=rx
  cases y with
  | non=>cases ry;exact PySem.EqNone.eq_str_none (be I q (by simp))
  | bl j=>cases ry;exact PySem.EqMixed.eq_str_bool (be I q (by simp))
  | int j=>obtain⟨t',rfl⟩:=ry;exact PySem.EqMixed.eq_str_int (be I q (by simp))
  | str j=>obtain⟨t',rfl⟩:=ry;exact eq_str (be I q pV)
  | _=>exact absurd (show false=true from hs) Bool.false_ne_true
 | byt i =>
  obtain⟨t,rfl⟩:=rx
  cases y with
  | byt j=>obtain⟨t',rfl⟩:=ry;exact PySem.W.eq_bytes (be I q pX)
  | _=>exact absurd (show false=true from hs) Bool.false_ne_true
 | _=>cases y <;> exact absurd (show false=true from hs) Bool.false_ne_true
theorem i9:OpR X (compareOp .NotEq) rNe:=by
 intro pins s σ H x y v u Q I rx ry h
 obtain⟨hs,q⟩:=h
 cases x with
 | non =>
  cases rx
  cases y with
  | non=>cases ry;exact PySem.EqNone.ne_none_none (be I q (by simp))
  | bl j=>cases ry;exact PySem.EqNone.ne_none_bool (be I q (by simp))
  | int j=>obtain⟨t',rfl⟩:=ry;exact PySem.EqNone.ne_none_int (be I q (by simp))
  | str j=>obtain⟨t',rfl⟩:=ry;exact PySem.EqNone.ne_none_str (be I q (by simp))
  | _=>exact absurd (show false=true from hs) Bool.false_ne_true
 | bl i =>
  cases rx
  cases y with
  | non=>cases ry;exact PySem.EqNone.ne_bool_none (be I q (by simp))
  | bl j=>cases ry;exact ne_bool (be I q (congrArg not tQ))
  | str j=>obtain⟨t',rfl⟩:=ry;exact PySem.EqMixed.ne_bool_str (be I q (by simp))
  | _=>exact absurd (show false=true from hs) Bool.false_ne_true
 | int i =>
  obtain⟨t,rfl⟩:=rx
  cases y with
  | non=>cases ry;exact PySem.EqNone.ne_int_none (be I q (by simp))
  | int j=>obtain⟨t',rfl⟩:=ry;exact ne_int (be I q (congrArg not pW))
  | str j=>obtain⟨t',rfl⟩:=ry;exact PySem.EqMixed.ne_int_str (be I q (by simp))
  | _=>exact absurd (show false=true from hs) Bool.false_ne_true
 | str i =>
  obtain⟨t,rfl⟩:=rx
  cases y with
  | non=>cases ry;exact PySem.EqNone.ne_str_none (be I q (by simp))
  | bl j=>cases ry;exact PySem.EqMixed.ne_str_bool (be I q (by simp))
  | int j=>obtain⟨t',rfl⟩:=ry;exact PySem.EqMixed.ne_str_int (be I q (by simp))
  | str j=>obtain⟨t',rfl⟩:=ry;exact ne_str (be I q (congrArg not pV))
  | _=>exact absurd (show false=true from hs) Bool.false_ne_true
 | byt i =>
  obtain⟨t,rfl⟩:=rx
  cases y with
  | byt j=>obtain⟨t',rfl⟩:=ry;exact PySem.W.ne_bytes (be I q (congrArg not pX))
  | _=>exact absurd (show false=true from hs) Bool.false_ne_true
 | _=>cases y <;> exact absurd (show false=true from hs) Bool.false_ne_true
theorem kr:OpR X (compareOp .Lt) (rI0 λi j=>.bl (decide (i<j))):=wQ λ_ _ _ _ _ _ _ q=>lt_int q
theorem sv:OpR X (compareOp .Gt) (rI0 λi j=>.bl (decide (j<i))):=wQ λ_ _ _ _ _ _ _ q=>gt_int q
theorem xW:OpR X (compareOp .GtE) (rI0 λi j=>.bl (decide (j<=i))):=wQ λ_ _ _ _ _ _ _ q=>ge_int q
theorem oi:OpR X (compareOp .Is) (λx y H Q=>y=.non/\Q (.bl (decide (x=.non))) H):=by
 intro pins s σ H x y v u Q I rx ry h
 obtain⟨rfl,q⟩:=h
 cases ry
 refine is_none_gen (be I q ?_)
 cases x <;> first
  | (cases rx;rfl)
  | (obtain⟨t,rfl⟩:=rx;rfl)
theorem pG:OpR X (compareOp .IsNot) (λx y H Q=>y=.non/\Q (.bl (!decide (x=.non))) H):=by
 intro pins s σ H x y v u Q I rx ry h
 obtain⟨rfl,q⟩:=h
 cases ry
 refine isnot_none_gen (be I q ?_)
 cases x <;> first
  | (cases rx;rfl)
  | (obtain⟨t,rfl⟩:=rx;rfl)
variable {op:CmpOp}
theorem aI (b:Expr) (h:op≠.In:=by decide) (h2:op≠.NotIn:=by decide):behindInMarks op b=false:=by
 have e1:(op==CmpOp.In)=false:=by cases op <;> first|rfl|exact absurd rfl h
 have e2:(op==CmpOp.NotIn)=false:=by cases op <;> first|rfl|exact absurd rfl h2
 cases b <;> simp[behindInMarks,e1,e2]
theorem dP {r:R2} (ho:OpR X (compareOp op) r) (ha:PE X a ta) (hb:PE X b tb) (hm:behindInMarks op b=false):PE X (.Compare a [op] [b] pos) (tOp r ta tb):=by
 intro pins s σ H Q I h
 exact wpAny_Compare1 (xu ha hb I h λv u s2 x y H2 I2 rx ry q=>ho pins s2 σ H2 x y v u Q I2 rx ry q) hm
def vm (t:TE):TT:=λσ H Q=>t σ H λx H'=>∃k,x=.bl k/\Q k H'
theorem aC {r:R2} (ho:OpR X (compareOp op) r) (ha:PE X a ta) (hb:PE X b tb) (hm:behindInMarks op b=false):PT X (.Compare a [op] [b] pos) (vm (tOp r ta tb)):=by
 intro pins s σ H Q I h
 refine wpAny_isTrue_Compare1 (thn (ha pins s σ H _ I h) λv s1 ⟨x,H1,I1,r1,q1⟩=>thn (hb pins s1 σ H1 _ I1 q1) λu s2 ⟨y,H2,I2,r2,q2⟩ =>
  thn (ho pins s2 σ H2 x y v u _ I2 r1 r2 q2) λc s3 ⟨z,H3,I3,r3,k,e,q3⟩=>?_) hm
 subst e
 cases r3
 exact wpAny_truthy_bool ⟨H3,I3,q3⟩
theorem gO:(sizeLine:Nat)<2 ^ 63:=by rw[sizeLine_eq];decide
theorem ce:OpR X (binaryOp .Add) (λx y H Q=>∃i j,x=.str i/\y=.str j/\i.length+j.length<=sizeLine/\Q (.str (i++j)) H):=by
 intro pins s σ H x y v u Q I rx ry h
 obtain⟨i,j,rfl,rfl,hz,q⟩:=h
 obtain⟨t,rfl⟩:=rx
 obtain⟨t',rfl⟩:=ry
 exact add_str (λt' tk=>⟨.str (i++j),H,I.tok _,⟨_,rfl⟩,q⟩) hz
theorem eP {x:V} {us:List Value} (r:aY [x] us):∃u,us=[u]/\aS x u:=by
 cases r with
 | cons r1 r2=>cases r2;exact⟨_,rfl,r1⟩
theorem ml {x y:V} {us:List Value} (r:aY [x,y] us):∃u w',us=[u,w']/\aS x u/\aS y w':=by
 cases r with
 | cons r1 r2 =>
  cases r2 with
  | cons r3 r4=>cases r4;exact⟨_,_,rfl,r1,r3⟩
theorem tZ:dX X (.builtin "abs") (λxs H Q=>∃i,xs=[.int i]/\Q (.int (if i<0 then -i else i)) H):=by
 intro pins s σ H xs us Q I r h
 obtain⟨i,rfl,q⟩:=h
 obtain⟨u,rfl,t,rfl⟩:=eP r
 exact call_abs_int λu tk=>⟨.int (if i<0 then -i else i),H,I.tok _,⟨_,rfl⟩,q⟩
theorem kP (hc:X.calm=true):dX X (.builtin "min") (λxs H Q=>∃i j,xs=[.int i,.int j]/\Q (.int (if j<i then j else i)) H):=by
 intro pins s σ H xs us Q I r h
 obtain⟨i,j,rfl,q⟩:=h
 obtain⟨u,w',rfl,⟨t,rfl⟩,⟨t',rfl⟩⟩:=ml r
 refine min_two_ints (I.ok.hd hc) λh' tk k=>⟨_,H,I.kept k,?_,q⟩
 by_cases hj:j<i
 ·rw[if_pos hj,if_pos hj];exact⟨_,rfl⟩
 ·rw[if_neg hj,if_neg hj];exact⟨_,rfl⟩
end
structure ObjM (h:Heap) (x dx C:Addr) (mA:Str->Option Value):Prop where
 obj:h.get? x=some (PySem.W.instObj C dx)
 ns:h.Ns1 dx mA
 ne:dx≠x
variable {mA mg:Str->Option Value}
theorem qO (n:h.Ns1 dx mA):∃od,h.get? dx=some od/\∀name,PySem.W.lookIn name od=some (mA name):=by
 obtain⟨o,es,ep,ho,hd,hk,_,hm⟩:=n
 refine⟨o,ho,λname=>?_⟩
 have e:=hm name
 unfold nsFind findBy at e
 rw[<-Array.find?_toList]at e
 unfold PySem.W.lookIn
 rw[hd]
 dsimp only
 split
 ·rename_i y q
  rw[q]at e
  exact congrArg some e
 ·rename_i q
  rw[q]at e
  have a:es.toList.any (·.refKey)=false:=by
   rw[List.any_eq_false]
   intro y hy
   obtain⟨z,t,hkey⟩:=hk y (Array.mem_toList_iff.mp hy)
   simp[DictEntry.refKey,hkey]
  have a':¬es.toList.any (·.refKey)=true:=by rw[a];exact Bool.false_ne_true
  rw[if_neg a']
  exact congrArg some e
theorem ObjM.look {x:Addr} (I:ObjM h x dx C mA):∃od,PySem.W.InstAt h x (PySem.W.instObj C dx) C (some od)/\∀name,PySem.W.lookIn name od=some (mA name) :=
 let ⟨od,ho,hl⟩:=qO I.ns
 ⟨od,⟨I.obj,rfl,rfl,ho⟩,hl⟩
section
variable {prog:Program} {w:World} {A:Around} {E:Value->Shared->Prop} {s:Shared} {K:PySem.W.Frag} {x dx C f:Addr} {mA:Str->Option Value} {name:Str} {v:Value}
end
theorem jJ.some_of {v:V} {o:Option Value} (r:jJ (some v) o):∃u,o=some u/\aS v u:=by
 cases o with
 | none=>exact(show False from r).elim
 | some u=>exact⟨u,rfl,r⟩
section
variable {P:Program} {w:World} {H H':Hp} {h h':Heap} {a C dx:Addr} {fs fs':List (Str × V)}
theorem uU (hok:HOk P w H h) (e:H a=some (.ins C dx fs)):∃mA,ObjM h a dx C mA/\(∀f,jJ (fs.lookup f) (mA f))/\PySem.Within mA (fs.map (·.1))/\fs.length<=1000/\H dx=some (.own a):=by
 obtain⟨d,z,ne,ob,mA,n,r,q⟩:=(show bo P w H h a (.ins C dx fs) from hok a _ e)
 exact⟨mA,⟨ob,n,ne⟩,r,q,z,d⟩
end
structure Cls (K:PySem.W.Frag) (C:Addr):Prop where
 pg:PySem.W.plainGet K C Str.empty=true
 hd:PySem.W.hasDictIn K C=true
 po:PySem.W.plainOver K C=true
 sa:PySem.W.findIn K (.ref C) "__setattr__" = some (some (.builtin "object.__setattr__"))
theorem Cls.get (c:Cls K C) (f:Str):PySem.W.plainGet K C f=true:=c.pg
structure Con (K:PySem.W.Frag) (C:Addr) (f:Str) (v:V) (u:Value):Prop where
 at_:PySem.W.findIn K (.ref C) f=some (some u)
 rel:aS v u
 get:PySem.W.specialIn K u "__get__" = some none
 cp:PySem.W.copiedNames.contains f=false
structure Meth (K:PySem.W.Frag) (C:Addr) (m:Str) (f:Addr):Prop where
 at_:PySem.W.findIn K (.ref C) m=some (some (.ref f))
 fn:PySem.W.isFn K (.ref f)=true
 kp:PySem.W.keepIn K (.ref f)=true
section
variable {X:Cx} {pins:List (Addr × Obj)} {σ:St} {H:Hp} {s:Shared} {a C dx:Addr} {fs:List (Str × V)} {f:Str} {v:V} {A:Around} {E:Value->Shared->Prop}
end
def Bj (X:Cx) (op:Operator) (rd:V->V->Hp->VK->Prop):Prop :=
 ∀(pins:List (Addr × Obj)) (s:Shared) (σ:St) (H:Hp) (x y:V) (u v:Value) (Q:VK),Inv X pins σ H s->aS x u->aS y v->rd x y H Q->wpAny (model X.prog X.w) X.A (inplaceOp op u v) (EP X pins σ Q) X.xe s
section
variable {X:Cx} {o e value:Expr} {f:Str} {pos pos' tpos:Pos} {ta tv:TE}
def Bo:V->V->Hp->VK->Prop:=λx y H Q=>∃i j,x=.int i/\y=.int j/\Q (.int (i-j)) H
theorem xk:Bj X .Sub Bo:=by
 rintro pins s σ H x y u v Q I rx ry ⟨i,j,rfl,rfl,q⟩
 obtain⟨t,rfl⟩:=(show ∃t,u=Value.int i t from rx)
 obtain⟨t',rfl⟩:=(show ∃t',v=Value.int j t' from ry)
 exact PyProof.Rows.isub_int ⟨.int (i-j),H,I.tok _,⟨_,rfl⟩,q⟩
end
section
variable {X:Cx} {pins:List (Addr × Obj)} {σ:St} {H:Hp} {s:Shared} {A:Around} {E:Value->Shared->Prop} {Q:Value->Shared->Prop} {c:Value} {b:Bool}
inductive TyOf (K:PySem.W.Frag) (H:Hp):V->Value->Prop where
 | non:TyOf K H .non (.type "NoneType")
 | bl (x:Bool):TyOf K H (.bl x) (.type "bool")
 | int (i:Int):TyOf K H (.int i) (.type "int")
 | str (x:Str):TyOf K H (.str x) (.type "str")
 | flt (x:UInt64):TyOf K H (.flt x) (.type "float")
 | lst {a:Addr} {xs:List V} (e:H a=some (.lst xs)):TyOf K H (.ref a) (.type "list")
 | frz {a:Addr} {o:Obj} {xs:List V} (e:H a=some (.frz o (.lst xs))):TyOf K H (.ref a) (.type "list")
 | tup {a:Addr} {xs:List V} (e:H a=some (.tup xs)):TyOf K H (.ref a) (.type "tuple")
 | dK {a:Addr} {kvs:List (Key × V)} (e:H a=some (.dK kvs)):TyOf K H (.ref a) (.type "dict")
 | dT {a:Addr} {kvs:List (List Key × V)} (e:H a=some (.dT kvs)):TyOf K H (.ref a) (.type "dict")
 | ins {a C dx:Addr} {fs:List (Str × V)} (e:H a=some (.ins C dx fs)) (cl:Cls K C) (ha:PySem.W.findIn K (.ref C) "__class__" = some (some (.builtin "object.__class__")))
   (hn:PySem.W.specialIn K (.builtin "object.__class__") "__get__" = some (some (.builtin "getset_descriptor.__get__"))) (htk:PySem.W.takesIn K (.builtin "object.__class__")=some true)
   (hm:PySem.W.mroIn K C (.type "object")=some true):TyOf K H (.ref a) (.ref C)
theorem qW {x:V} {u t:Value} (I:Inv X pins σ H s) (rx:aS x u) (ty:TyOf X.K H x t) (e:PySem.W.kitOne X.K t c=some b) (h:∀tk,Q (.bool b) { s with toks:=tk }) :
  wpAny (model X.prog X.w) A (call (.builtin "isinstance") [u,c]) Q E s:=by
 cases ty with
 | non=>cases (show u=Value.none from rx);exact PySem.W.kia_one PySem.W.kitx_none I.kIn True.intro e (λz=>nomatch z) h
 | bl y=>cases (show u=Value.bool y from rx);exact PySem.W.kia_one PySem.W.kitx_bool I.kIn True.intro e (λz=>nomatch z) h
 | int i=>obtain⟨t,q⟩:=(show ∃t,u=Value.int i t from rx);cases q;exact PySem.W.kia_one PySem.W.kitx_int I.kIn True.intro e (λz=>nomatch z) h
 | str y=>obtain⟨t,q⟩:=(show ∃t,u=Value.str y t from rx);cases q;exact PySem.W.kia_one PySem.W.kitx_str I.kIn True.intro e (λz=>nomatch z) h
 | flt y=>obtain⟨t,q⟩:=(show ∃t,u=Value.float y t from rx);cases q;exact PySem.W.kia_one PySem.W.kitx_float I.kIn True.intro e (λz=>nomatch z) h
 | @lst a xs ea =>
  cases (show u=Value.ref a from rx)
  obtain⟨_,_,n,_,h1⟩:=(show bo X.prog X.w H s.heap a (.lst xs) from I.hok a _ ea)
  exact PySem.W.kia_one PySem.W.kitx_list I.kIn ⟨_,h1,rfl⟩ e (λz=>nomatch z) h
 | @frz a ob xs ea =>
  cases (show u=Value.ref a from rx)
  obtain⟨_,_,_,n,_,h1⟩:=(show bo X.prog X.w H s.heap a (.frz ob (.lst xs)) from I.hok a _ ea)
  exact PySem.W.kia_one PySem.W.kitx_list I.kIn ⟨_,h1,rfl⟩ e (λz=>nomatch z) h
 | @tup a xs ea =>
  cases (show u=Value.ref a from rx)
  obtain⟨_,_,_,p⟩:=(show bo X.prog X.w H s.heap a (.tup xs) from I.hok a _ ea)
  obtain⟨o,h1,h2,_⟩:=p
  exact PySem.W.kia_one PySem.W.kitx_tuple I.kIn ⟨o,h1,h2⟩ e (λz=>nomatch z) h
 | @dK a kvs ea =>
  cases (show u=Value.ref a from rx)
  obtain⟨_,_,vs,_,p⟩:=(show bo X.prog X.w H s.heap a (.dK kvs) from I.hok a _ ea)
  obtain⟨o,es,ep,h1,h2,_⟩:=p
  exact PySem.W.kia_one PySem.W.kitx_dict I.kIn ⟨o,h1,h2.1⟩ e (λz=>nomatch z) h
 | @dT a kvs ea =>
  cases (show u=Value.ref a from rx)
  obtain⟨_,_,xs,_,o,es,ep,h1,h2,_⟩:=(show bo X.prog X.w H s.heap a (.dT kvs) from I.hok a _ ea)
  exact PySem.W.kia_one PySem.W.kitx_dict I.kIn ⟨o,h1,h2.1⟩ e (λz=>nomatch z) h
 | @ins a C dx fs ea cl ha hn htk hm =>
  cases (show u=Value.ref a from rx)
  obtain⟨mA,O,_⟩:=uU I.hok ea
  obtain⟨od,J,_⟩:=O.look
  exact PySem.W.kia_one (PySem.W.kitx_own (cl.get _) cl.hd ha hn htk hm) I.kIn J e (λz=>nomatch z) h
end
structure Room (k:Nat) (A:Around):Prop where
 hd:A.handled=none
 dp:A.depth+3*k+5<recursionLimit
 un:A.units+16*k+200<cLine
theorem Room.mono {j k:Nat} (r:Room k A) (h:j<=k):Room j A:=⟨r.hd,by have:=r.dp;omega,by have:=r.un;omega⟩
theorem Room.deeper {k:Nat} (r:Room (k+1) A) (env:Env):Room k (A.deeper env) :=
 ⟨r.hd,by have:=r.dp;show A.depth+1+3*k+5<_;omega,by have:=r.un;show A.units+3+16*k+200<_;omega⟩
theorem Room.depth {k:Nat} (r:Room k A):A.depth<recursionLimit:=by have:=r.dp;omega
theorem Room.units {k:Nat} (r:Room k A):A.units+64<cLine:=by have:=r.un;omega
def hG:TA:=λ_ H Q=>Q [] H
def bQ (ta:TE) (tr:TA):TA:=λσ H Q=>ta σ H λx H1=>tr σ H1 λxs H2=>Q (x::xs) H2
section
variable {X:Cx} {e:Expr} {es:List Expr} {te:TE} {t:TA} {pos:Pos}
theorem af:PA X [] hG:=λ_ _ _ _ H Q I h=>Calls.spliced_nil ⟨[],H,I,.nil,h⟩
theorem aa (ha:PE X e te) (hr:PA X es t) (hs:starEach (e::es) X.env=(false,eval e X.env)::starEach es X.env:=by rfl):PA X (e::es) (bQ te t):=by
 intro pos pins s σ H Q I h
 rw[hs]
 show wpAny _ _ (spliced ((false,eval e X.env)::backTo pos (starEach es X.env))) _ _ s
 refine Calls.spliced_cons (thn (ha pins s σ H _ I h) λu s1 ⟨x,H1,I1,r1,q1⟩=>?_)
 exact thn (hr pos pins s1 σ H1 _ I1 q1) λus s2 ⟨xs,H2,I2,r2,q2⟩=>⟨x::xs,H2,I2,.cons r1 r2,q2⟩
def uh (t:TA):TE:=λσ H Q=>t σ H λxs H1=>xs.length<=sizeLine/\∀p,H1 p=none->Q (.ref p) (upd H1 p (.tup xs))
def wv (t:TA):TE:=λσ H Q=>t σ H λxs H1=>xs.length<=sizeLine/\∀p,H1 p=none->Q (.ref p) (upd H1 p (.lst xs))
theorem aL {x1} (h:PA X es t):PE X (.Tuple es x1 pos) (uh t):=by
 intro pins s σ H Q I hq
 refine wpAny_Tuple_spliced (thn (h pos pins s σ H _ I hq) λus s1 ⟨xs,H1,I1,r,z,q⟩=>⟨by rw[<-r.length];exact z,?_⟩)
 have hf:H1 s1.heap.objs.size=none:=I1.hok.fresh (Nat.le_refl _)
 refine⟨.ref s1.heap.objs.size,upd H1 s1.heap.objs.size (.tup xs),I1.laid (t':=s1.toks) (λb u e=>Heap.get?_push_of_some _ e) (Nat.le_refl _) ?_,rfl,q _ hf⟩
 exact⟨z,us,r,⟨_,Heap.get?_push_size _ rfl,rfl,_,rfl⟩⟩
theorem bd (h:PA X es t):PE X (.List es pos) (wv t):=by
 intro pins s σ H Q I hq
 refine wpAny_List_spliced (thn (h pos pins s σ H _ I hq) λus s1 ⟨xs,H1,I1,r,z,q⟩=>⟨by rw[<-r.length];exact z,?_⟩)
 have hf:H1 s1.heap.objs.size=none:=I1.hok.fresh (Nat.le_refl _)
 refine⟨.ref s1.heap.objs.size,upd H1 s1.heap.objs.size (.lst xs),I1.laid (t':=s1.toks) (λb u e=>Heap.get?_push_of_some _ e) (Nat.le_refl _) ?_,rfl,q _ hf⟩
 exact⟨z,us,0,r,Heap.get?_push_size _ rfl⟩
end
abbrev Sp:=List V->Hp->VK->XK->Prop
abbrev CXT:=List Env->Hp->Shared->XK->Value->Shared->Prop
structure Env0 (P:Program) (w:World) (K:PySem.W.Frag) (mg:Str->Option Value) (base:Heap) (A:Around) (outer:List Env) (s:Shared) (H:Hp):Prop where
 frames:A.frames=some outer
 mod:Mod K mg base
 bs:∀b o,base.get? b=some o->s.heap.get? b=some o/\H b=none
 bsz:base.objs.size<=s.heap.objs.size
 funs:s.heap.FunFrames base outer
 frf:∀b∈frs outer,H b=none
 hok:HOk P w H s.heap
 bare:AllBare s.gens
def CE (outer:List Env) (P:Program) (w:World) (H:Hp) (s:Shared) (Q:VK) (u:Value) (s':Shared):Prop :=
 ∃v H',s'.os=s.os/\AllBare s'.gens/\Un (frs outer) [] H H' s.heap s'.heap/\HOk P w H' s'.heap/\aS v u/\Q v H'
def CR (CX:CXT) (outer:List Env) (P:Program) (w:World) (H:Hp) (s:Shared) (Q:VK) (E:XK) (r:Result) (s':Shared):Prop :=
 match r with
 | .ok (.ret u)=>CE outer P w H s Q u s'
 | .ok _=>False
 | .error e=>CX outer H s E e s'
structure FnOk (P:Program) (w:World) (K:PySem.W.Frag) (mg:Str->Option Value) (base:Heap) (CX:CXT) (k:Nat) (f:Addr) (fd:FuncData) (ps:List Str) (sp:Sp):Prop where
 len:∀vs H Q E,sp vs H Q E->vs.length=ps.length
 run:∀(A:Around) (outer:List Env) (s:Shared) (H:Hp) (args:Args) (us:List Value) (vs:List V) (Q:VK) (E:XK),Room k A->Env0 P w K mg base A outer s H->BindsTo s fd args (ps.zip us)->aY vs us->sp vs H Q E ->
  codeAny (model P w) A (.call (.ref f) args) (CR CX outer P w H s Q E) s
section
variable {X:Cx} {pins:List (Addr × Obj)} {σ:St} {H:Hp} {s s':Shared}
theorem Inv.env0 (I:Inv X pins σ H s):Env0 X.prog X.w X.K X.mg X.base X.A X.stack s H :=
 ⟨I.ok.frames,I.ok.mod,I.bs,Nat.le_trans I.ok.bsz I.sz,I.stack,I.stkFree,I.hok,I.bare⟩
theorem Inv.after {Q:VK} {u:Value} (I:Inv X pins σ H s) (h:CE X.stack X.prog X.w H s Q u s'):EP X pins σ Q u s':=by
 obtain⟨v,H',os,bare,un,hok,r,q⟩:=h
 obtain⟨hh,g,d,t,os'⟩:=s'
 obtain rfl:os'=s.os:=os
 exact⟨v,H',I.call (h':=hh) (g':=g) (d':=d) (t':=t) (ch:=[]) un hok bare (λb z=>absurd z (by simp)),r,q⟩
end
def iC (sp:Sp) (dvs:List V) (E:XK) (t:TA):TE:=λσ H Q=>t σ H λvs H1=>sp (vs++dvs) H1 Q E
def gr (K:PySem.W.Frag) (fd:FuncData) (ps:List Str) (ds:List Value):Prop :=
 ∀(s:Shared) (us:List Value),K.In s.heap->(us++ds).length=ps.length->BindsTo s fd ⟨us,[]⟩ (ps.zip (us++ds))
variable {ps N:List Str}
theorem gr.all {fd:FuncData} (h:∀us:List Value,us.length=ps.length->bindArgs fd ⟨us,[]⟩=pure (ps.zip us)):gr K fd ps []:=λs us _ hl=>by
 rw[List.append_nil]at hl ⊢
 exact .of_eq (h us hl)
def jK (CX:CXT) (X:Cx) (E:XK):Prop:=∀(pins:List (Addr × Obj)) (σ:St) (H:Hp) (s:Shared) (e:Value) (s':Shared),Inv X pins σ H s->CX X.stack H s E e s'->X.xe e s'
section
variable {X:Cx} {CX:CXT} {k:Nat} {f C:Addr} {fd:FuncData} {ps:List Str} {sp:Sp} {dvs:List V} {ds:List Value} {E:XK} {x m:Str} {p pos apos:Pos} {e o:Expr} {es:List Expr} {ta:TE} {t:TA}
theorem wA {pins:List (Addr × Obj)} {σ:St} {H:Hp} {s:Shared} {Q:VK} {us:List Value} {vs:List V} (F:FnOk X.prog X.w X.K X.mg X.base CX k f fd ps sp) (hr:Room k X.A) (hb:gr X.K fd ps ds) (hd:aY dvs ds) (hx:jK CX X E)
  (I:Inv X pins σ H s) (r:aY vs us) (h:sp (vs++dvs) H Q E):wpAny (model X.prog X.w) X.A (call (.ref f) us) (EP X pins σ Q) X.xe s:=by
 have r2:aY (vs++dvs) (us++ds):=r.append hd
 have hl:(us++ds).length=ps.length:=by rw[<-r2.length];exact F.len _ _ _ _ h
 refine wpAny_call (codeAny_mono (F.run X.A X.stack s H ⟨us,[]⟩ (us++ds) (vs++dvs) Q E hr I.env0 (hb s us I.kIn hl) r2 h) λr s' hq=>?_)
 cases r with
 | error e=>exact hx pins σ H s e s' I hq
 | ok fl =>
  cases fl with
  | ret u=>exact I.after hq
  | next=>exact False.elim hq
  | brk=>exact False.elim hq
  | cont=>exact False.elim hq
theorem uz (F:FnOk X.prog X.w X.K X.mg X.base CX k f fd ps sp) (hr:Room k X.A) (hg:Gl X x) (hm:X.mg x=some (.ref f)) (hk:PySem.W.keepIn X.K (.ref f)=true) (hb:gr X.K fd ps ds) (hd:aY dvs ds) (hx:jK CX X E)
  (ha:PA X (e::es) t) (hdb:(x==("__debug__" : Str))=false:=by decide) (he:starEach (e::es) X.env=(false,eval e X.env)::starEach es X.env:=by rfl) (hpl:(backTo pos (starEach es X.env)).any (·.1)=false:=by rfl) :
  PE X (.Call (.Name x p) (e::es) [] pos) (iC sp dvs E t):=by
 intro pins s σ H Q I h
 refine wpAny_Call_Name_kw (lO I hg hm ?_ hdb)
 refine PySem.W.callWith_K (h₀:=X.base) I.ok.mod.kin hk (thn (ha pos pins s σ H _ I h) λus s1 ⟨vs,H1,I1,r,q⟩=>⟨I1.kIn,?_⟩) he hpl
 exact wA F hr hb hd hx I1 r q
structure Mk (K:PySem.W.Frag) (C f:Addr):Prop where
 makes:PySem.W.makesIn K C=true
 init:PySem.W.findIn K (.ref C) "__init__" = some (some (.ref f))
 fn:PySem.W.isFn K (.ref f)=true
 kp:PySem.W.keepIn K (.ref C)=true
end
def PK (X:Cx) (kws:List Keyword) (t:TA):Prop :=
 ∀(pos:Pos) (pins:List (Addr × Obj)) (s:Shared) (σ:St) (H:Hp) (Q:List V->Hp->Prop),Inv X pins σ H s->t σ H Q->wpAny (model X.prog X.w) X.A (evalAll ((backToKw pos (keywordEach kws X.env)).map (·.2))) (AP X pins σ Q) X.xe s
section
variable {X:Cx} {CX:CXT} {k:Nat} {f C:Addr} {fd:FuncData} {ps ks:List Str} {sp:Sp} {E:XK} {x m:Str} {p pos apos kpos:Pos} {e o:Expr} {es:List Expr} {kws:List Keyword} {te ta:TE} {t tk:TA} {nm:Option Str}
theorem wE:PK X [] hG:=λ_ _ _ _ H Q I h=>wpAny_evalAll_nil ⟨[],H,I,.nil,h⟩
theorem uu (ha:PE X e te) (hr:PK X kws t):PK X (⟨nm,e,kpos⟩::kws) (bQ te t):=by
 intro pos pins s σ H Q I h
 show wpAny _ _ (evalAll ((do let v <-eval e X.env;standAt pos;pure v)::(backToKw pos (keywordEach kws X.env)).map (·.2))) _ _ s
 refine wpAny_evalAll_cons (wpAny_bind (thn (ha pins s σ H _ I h) λu s1 ⟨x,H1,I1,r1,q1⟩=>wpAny_bind (wpAny_standAt (wpAny_pure ?_))))
 exact thn (hr pos pins s1 σ H1 _ I1 q1) λus s2 ⟨xs,H2,I2,r2,q2⟩=>⟨x::xs,H2,I2,.cons r1 r2,q2⟩
structure KBinds (K:PySem.W.Frag) (fd:FuncData) (ps ks:List Str) (g:List Value->List Value->List Value) (gV:List V->List V->List V):Prop where
 to:∀(s:Shared) (us ws:List Value),K.In s.heap->(g us ws).length=ps.length->BindsTo s fd ⟨us,ks.zip ws⟩ (ps.zip (g us ws))
 rel:∀{vs:List V} {us:List Value} {zs:List V} {ws:List Value},aY vs us->aY zs ws->aY (gV vs zs) (g us ws)
variable {g:List Value->List Value->List Value} {gV:List V->List V->List V}
end
structure FnScope (N P:List Str) (sc:Scope):Prop where
 kind:sc.kind=.function
 co:sc.isCoroutine=false
 gen:sc.isGenerator=false
 nd:N.Nodup
 pre:N.take P.length=P
 par:∀x∈P,sc.names.lookup x=some .local\/sc.names.lookup x=some .cell
 nofree:∀y∈sc.names,y.2≠.free
theorem kQ {kindOf:Str->Option NameKind} {x:Str}:∀{binds:List (Str × Value)} {m:Str->Option Value},(∀v,(x,v)∉binds)->bindL kindOf binds m x=m x
 | [],_,_=>rfl
 | (n,v)::r,m,h=>by
  unfold bindL
  rw[kQ λw hw=>h w (List.mem_cons_of_mem _ hw)]
  split
  ·have:x≠n:=by rintro rfl;exact h v List.mem_cons_self
   simp[this]
  ·rfl
theorem kS {kindOf:Str->Option NameKind} {x:Str}:∀{binds:List (Str × Value)} {m:Str->Option Value},(∀v,(x,v)∉binds)->bindC kindOf binds m x=m x
 | [],_,_=>rfl
 | (n,v)::r,m,h=>by
  unfold bindC
  rw[kS λw hw=>h w (List.mem_cons_of_mem _ hw)]
  split
  ·rfl
  ·have:x≠n:=by rintro rfl;exact h v List.mem_cons_self
   simp[this]
theorem kR {kindOf:Str->Option NameKind} {x:Str} {v:Value}:∀{P:List Str} {vs:List Value} {i:Nat} {m:Str->Option Value},P.Nodup->P[i]?=some x->vs[i]?=some v->kindOf x=some .local ->
  bindL kindOf (P.zip vs) m x=some v
 | [],_,_,_,_,h,_,_=>by simp at h
 | _::_,[],_,_,_,_,h,_=>by simp at h
 | p::P,w::vs,0,m,nd,h1,h2,hk=>by
  simp at h1 h2;subst h1;subst h2
  show bindL kindOf ((p,w)::P.zip vs) m p=_
  unfold bindL
  rw[kQ λv hv=>(List.nodup_cons.mp nd).1 (List.of_mem_zip hv).1,if_pos hk]
  simp
 | p::P,w::vs,i+1,m,nd,h1,h2,hk=>by
  show bindL kindOf ((p,w)::P.zip vs) m x=_
  unfold bindL
  exact kR (i:=i) (List.nodup_cons.mp nd).2 (by simpa using h1) (by simpa using h2) hk
theorem kT {kindOf:Str->Option NameKind} {x:Str} {v:Value}:∀{P:List Str} {vs:List Value} {i:Nat} {m:Str->Option Value},P.Nodup->P[i]?=some x->vs[i]?=some v->kindOf x≠some .local ->
  bindC kindOf (P.zip vs) m x=some v
 | [],_,_,_,_,h,_,_=>by simp at h
 | _::_,[],_,_,_,_,h,_=>by simp at h
 | p::P,w::vs,0,m,nd,h1,h2,hk=>by
  simp at h1 h2;subst h1;subst h2
  show bindC kindOf ((p,w)::P.zip vs) m p=_
  unfold bindC
  rw[kS λv hv=>(List.nodup_cons.mp nd).1 (List.of_mem_zip hv).1,if_neg hk]
  simp
 | p::P,w::vs,i+1,m,nd,h1,h2,hk=>by
  show bindC kindOf ((p,w)::P.zip vs) m x=_
  unfold bindC
  exact kT (i:=i) (List.nodup_cons.mp nd).2 (by simpa using h1) (by simpa using h2) hk
def start (N:List Str) (vs:List V):St:=vs.map some++List.replicate (N.length-vs.length) none
def cxOf (CX:CXT) (P:Program) (w:World) (K:PySem.W.Frag) (mg:Str->Option Value) (base:Heap) (N:List Str) (qual:Str) (scope:Scope) (f:Addr) (cd:Value) (A:Around) (outer:List Env) (s:Shared) (H:Hp) (E:XK):Cx where
 prog:=P
 w:=w
 K:=K
 mg:=mg
 base:=base
 A:=A.deeper (envOfC qual scope s.heap.objs.size f cd)
 N:=N
 s₀:=s
 H₀:=H
 env:=envOfC qual scope s.heap.objs.size f cd
 outer:=outer
 stack:=envOfC qual scope s.heap.objs.size f cd::outer
 ex:=[]
 calm:=true
 fn:=λ_=>true
 pn:=[]
 xe:=λe s'=>wpAny (model P w) (A.deeper (envOfC qual scope s.heap.objs.size f cd)) (leaving (envOfC qual scope s.heap.objs.size f cd) e) (λ_ s''=>CX outer H s E e s'') (λe' s''=>CX outer H s E e' s'') s'
variable {sc scope:Scope}
theorem nB {n:Nat} {x:Str} (h:sc.names.lookup x=some .cell):∃c,(cellsFrom n sc.names []).lookup x=some c:=by
 have q:=PySem.W.cellsFrom_some sc.names n [] (.inl h)
 exact Option.isSome_iff_exists.mp q
theorem qX {CX:CXT} {qual:Str} {outer:List Env} {E:XK} {us:List Value} {vs:List V}
  (S:FnScope N ps scope) (hd:A.handled=none) (e0:Env0 P w K mg base A outer s H) (hl:vs.length=ps.length) (r:aY vs us)
  (x:InCallC s s.heap.objs.size (bindL (envOfC qual scope s.heap.objs.size f cd).kindOf (ps.zip us) λ_=>none) (cellsFrom (s.heap.objs.size+1) scope.names []) (bindC (envOfC qual scope s.heap.objs.size f cd).kindOf (ps.zip us) λ_=>none) s1) :
  Inv (cxOf CX P w K mg base N qual scope f cd A outer s H E) [] (start N vs) H s1:=by
 have hpl:ps.length<=N.length:=by have:=congrArg List.length S.pre;rw[List.length_take]at this;omega
 obtain⟨h1,tk,rfl,hk⟩:=x.done
 have noA:∀b:Addr,b∉(cxOf CX P w K mg base N qual scope f cd A outer s H E).ex:=λb z=>absurd (show b∈([]:List Addr) from z) (by simp)
 refine⟨⟨e0.mod,S.kind,rfl,rfl,Nat.le_refl _,λy z c h1 h2=>?_,λy hy=>?_,λy c _ h=>?_,λ_=>hd,Around.frames_deeper e0.frames,.inr ⟨rfl,rfl⟩,λb z=>absurd z (noA b),e0.bs,e0.bsz,λb _ _=>noA b,λb z=>absurd z (noA b),e0.funs,e0.frf⟩,
  rfl,e0.bare,Un.kept hk,⟨_,x.toInCall.ns,λi y v h1 h2 h3=>?_⟩,λy c h=>⟨_,x.cell y c h⟩,e0.hok.fresh (Nat.le_refl _),λy c h=>?_,λp hp=>absurd (show p∈([]:List (Addr × Obj)) from hp) (by simp),e0.hok.kept hk,?_⟩
 ·exact name_of_addr x.apart (PySem.mem_of_lookup h1) (PySem.mem_of_lookup h2)
 ·have hy:scope.names.lookup y=some .cell\/scope.names.lookup y=some .free:=hy
  rcases hy with hy|hy
  ·exact nB hy
  ·exact absurd rfl (S.nofree _ (PySem.mem_of_lookup hy))
 ·exact Nat.le_of_lt (x.above y c (PySem.mem_of_lookup h))
 ·have hi:i<vs.length:=by
   unfold start at h2
   by_cases hi:i<vs.length
   ·exact hi
   ·rw[List.getElem?_append_right (by simpa using hi)]at h2
    rw[List.getElem?_replicate]at h2
    split at h2 <;> cases h2
  have ha:vs[i]?=some v:=by
   unfold start at h2
   rw[List.getElem?_append_left (by simpa using hi),List.getElem?_map]at h2
   cases e:vs[i]? with
   | none=>rw[e]at h2;cases h2
   | some a=>rw[e]at h2;cases h2;rfl
  obtain⟨u,hu,rv⟩:=r.get ha
  have hp:ps[i]?=some y:=by
   rw[<-S.pre,List.getElem?_take_of_lt (by omega)];exact h1
  have ndP:ps.Nodup:=by rw[<-S.pre];exact S.nd.sublist (List.take_sublist _ _)
  refine⟨u,rv,?_⟩
  rcases S.par y (List.mem_of_getElem? hp) with k|k
  ·exact .inl ⟨k,kR ndP hp hu k⟩
  ·obtain⟨c,e⟩:=nB (n:=s.heap.objs.size+1) k
   refine .inr ⟨.inl k,c,e,?_⟩
   have q:=x.cell y c e
   rw[kT ndP hp hu (by show scope.names.lookup y≠_;rw[k];decide)]at q
   exact q
 ·exact e0.hok.fresh (Nat.le_of_lt (x.above y c (PySem.mem_of_lookup h)))
 ·unfold start
  show _=N.length
  rw[List.length_append,List.length_map,List.length_replicate]
  omega
theorem wn {CX:CXT} {k:Nat} {name qual:Str} {params:Arguments} {body:List Stmt} {kV:Value} {an od:Option Addr}
  {osl:Array (Option Value)} {sp:Sp} (lk:K.lookup f=some ⟨oc,od,.func (PySem.W.fnOf name qual params body scope dV kV doc pm an cdv ct),osl⟩) (hcd:PySem.W.codeIn K cdv qual=true) (S:FnScope N ps scope)
  (len:∀vs H Q E,sp vs H Q E->vs.length=ps.length)
  (hbody:∀(A:Around) (outer:List Env) (s:Shared) (H:Hp) (vs:List V) (Q:VK) (E:XK),Room k (A.deeper (envOfC qual scope s.heap.objs.size f cdv))->sp vs H Q E ->
   ∃t,PSs (cxOf CX P w K mg base N qual scope f cdv A outer s H E) body t/\t { nx:=λ_ H'=>Q .non H',rt:=Q } (start N vs) H) :
  FnOk P w K mg base CX (k+1) f (PySem.W.fnOf name qual params body scope dV kV doc pm an cdv ct) ps sp:=by
 refine⟨len,λA outer s H args us vs Q E hr e0 hb r hsp=>?_⟩
 have hl:=len _ _ _ _ hsp
 have KX:K.In s.heap:=e0.mod.kin.keeps λb o e=>(e0.bs b o e).1
 have lim:s.heap.NoLimit:=e0.mod.nolimit.keeps λb o e=>(e0.bs b o e).1
 have hkind:∀y∈ps.zip us,scope.names.lookup y.1=some .local\/(scope.names.lookup y.1=some .cell/\((cellsFrom (s.heap.objs.size+1) scope.names []).lookup y.1).isSome=true):=λ⟨n,v⟩ hy=>by
  rcases S.par n (List.of_mem_zip hy).1 with q|q
  ·exact .inl q
  ·exact .inr ⟨q,PySem.W.cellsFrom_some _ _ _ (.inl q)⟩
 refine codeAny_call_function hr.depth (KX _ _ lk) rfl S.co S.gen rfl (PySem.W.codeRec_of KX hcd) (hb _ _ _ _ ?_)
 refine wpAny_newFunctionEnv_cells S.kind hkind λenv he s1 x=>?_
 subst he
 refine⟨lim.keeps x.toInCall.keep,codeAny_func ?_⟩
 obtain⟨t,ht,hq⟩:=hbody A outer s H vs Q E (hr.deeper _) hsp
 have I:Inv (cxOf CX P w K mg base N qual scope f cdv A outer s H E) [] (start N vs) H s1:=qX S hr.hd e0 hl r x
 refine wpAny_mono (ht [] s1 (start N vs) H _ I hq) (λfl s' hs=>?_) λe s' hs=>hs
 have fin:∀{σ':St} {H':Hp} {v:V} {u:Value},Inv (cxOf CX P w K mg base N qual scope f cdv A outer s H E) [] σ' H' s'->aS v u->Q v H'->CE outer P w H s Q u s' :=
  λ{σ' H' v u} J rv q=>⟨v,H',J.os,J.bare,J.base,J.hok,rv,q⟩
 cases fl with
 | ret u =>
  obtain⟨v,σ',H',J,rv,q⟩:=hs
  exact fin J rv q
 | next =>
  obtain⟨σ',H',J,q⟩:=hs
  exact fin (v:=V.non) (u:=Value.none) J rfl q
 | brk =>
  obtain⟨_,_,_,q⟩:=hs
  exact False.elim q
 | cont =>
  obtain⟨_,_,_,q⟩:=hs
  exact False.elim q
section
variable {X:Cx} {x:Str} {p pos:Pos} {e:Expr} {es:List Expr} {t:TA} {id T:String} {r:List V->Hp->VK->Prop}
def tCB (r:List V->Hp->VK->Prop) (t:TA):TE:=λσ H Q=>t σ H λvs H1=>r vs H1 Q
theorem aH (hc:dX X (.builtin id) r) (hg:Gl X x) (hm:X.mg x=none) (hv:bootBuiltins x=some (.builtin id)) (ha:PA X (e::es) t) (hn:x ≠ "__name__" := by decide) (hdb:(x==("__debug__" : Str))=false:=by decide)
  (he:starEach (e::es) X.env=(false,eval e X.env)::starEach es X.env:=by rfl) (hpl:(backTo pos (starEach es X.env)).any (·.1)=false:=by rfl):PE X (.Call (.Name x p) (e::es) [] pos) (tCB r t):=by
 intro pins s σ H Q I h
 refine wpAny_Call_Name_kw (dj I hg hm hv ?_ hn hdb)
 exact PyProof.Rows.callWith_builtin1 (thn (ha pos pins s σ H _ I h) λus s1 ⟨vs,H1,I1,r1,q1⟩=>hc pins s1 σ H1 vs us Q I1 r1 q1) he hpl
theorem cV (hc:dX X (.type T) r) (hg:Gl X x) (hm:X.mg x=none) (hv:bootBuiltins x=some (.type T)) (ha:PA X (e::es) t) (hn:x ≠ "__name__" := by decide) (hdb:(x==("__debug__" : Str))=false:=by decide)
  (he:starEach (e::es) X.env=(false,eval e X.env)::starEach es X.env:=by rfl) (hpl:(backTo pos (starEach es X.env)).any (·.1)=false:=by rfl):PE X (.Call (.Name x p) (e::es) [] pos) (tCB r t):=by
 intro pins s σ H Q I h
 refine wpAny_Call_Name_kw (dj I hg hm hv ?_ hn hdb)
 exact PyProof.Rows.callWith_type1 (thn (ha pos pins s σ H _ I h) λus s1 ⟨vs,H1,I1,r1,q1⟩=>hc pins s1 σ H1 vs us Q I1 r1 q1) he hpl
end
end L2
namespace HT
open PySem PyProof.Rows
section
open PySem.SeqAt
open PySem.AutoSeq1 (wpAny_loadPart')
open PySem.MeetsSeq PySem.MeetsSeq2 PySem.MeetsSeq3
end
section
variable {prog:Program} {w:World} {A:Around} {E:Value->Shared->Prop} {s:Shared}
def sIx (n d:Nat):Option Int->Nat
 | none=>d
 | some v=>if v<0 then (v+(n:Int)).toNat else min v.toNat n
theorem iU (n d:Nat):sIx n d none=d:=rfl
theorem lG (n d k:Nat):sIx n d (some (k:Int))=min k n:=by
 show (if (k:Int)<0 then ((k:Int)+(n:Int)).toNat else min (k:Int).toNat n)=min k n
 rw[if_neg (by omega),Int.toNat_natCast]
end
end HT
namespace L2
open PySem PySem.Spec PyProof.Rows
abbrev TO:=St->Hp->(Option Int->Hp->Prop)->Prop
def PO (X:Cx) (e:Option Expr) (t:TO):Prop :=
 ∀(pins:List (Addr × Obj)) (s:Shared) (σ:St) (H:Hp) (Q:Option Int->Hp->Prop),Inv X pins σ H s->t σ H Q ->
  wpAny (model X.prog X.w) X.A (evalPart e X.env) (λu s'=>∃o H',Inv X pins σ H' s'/\IsPart u o/\Q o H') X.xe s
def pb:TO:=λ_ H Q=>Q none H
def vn (t:TE):TO:=λσ H Q=>t σ H λx H1=>∃i,x=.int i/\Q (some i) H1
section
variable {X:Cx} {e:Expr} {te:TE} {lo hi:Option Expr} {tl th:TO} {pos p2:Pos}
theorem bK:PO X none pb:=by
 intro pins s σ H Q I h
 rw[evalPart_none]
 exact wpAny_pure ⟨none,H,I,.none,h⟩
theorem bJ (h:PE X e te):PO X (some e) (vn te):=by
 intro pins s σ H Q I hw
 rw[evalPart_some]
 refine thn (h pins s σ H _ I hw) λu s1 ⟨x,H1,I1,r1,q1⟩=>?_
 obtain⟨i,rfl,q⟩:=q1
 obtain⟨t,rfl⟩:=r1
 exact⟨some i,H1,I1,.int i t,q⟩
def SlR (X:Cx) (r:V->Option Int->Option Int->Hp->VK->Prop):Prop :=
 ∀(pins:List (Addr × Obj)) (s:Shared) (σ:St) (H:Hp) (x:V) (v vl vu:Value) (lo hi:Option Int) (sl:Addr) (Q:VK),Inv X pins σ H s->aS x v->s.heap.IsSliceOf sl vl vu .none->IsPart vl lo->IsPart vu hi->r x lo hi H Q ->
  ∃T id,typeLookup (.type T) "__getitem__" = pure (some (.builtin id))/\s.TypeIs v T/\wpAny (model X.prog X.w) X.A (getItem v (.ref sl)) (EP X pins σ Q) X.xe s
def tSl (r:V->Option Int->Option Int->Hp->VK->Prop) (te:TE) (tl th:TO):TE:=λσ H Q=>te σ H λx H1=>tl σ H1 λl H2=>th σ H2 λu H3=>r x l u H3 Q
theorem bq {r:V->Option Int->Option Int->Hp->VK->Prop} (hr:SlR X r) (he:PE X e te) (hl:PO X lo tl) (hu:PO X hi th):PE X (.Subscript e (.Slice lo hi none p2) pos) (tSl r te tl th):=by
 intro pins s σ H Q I h
 refine Subscript_ (thn (he pins s σ H _ I h) λv s1 ⟨x,H1,I1,r1,q1⟩=>?_)
 refine wpAny_Slice (thn (hl pins s1 σ H1 _ I1 q1) λvl s2 ⟨l,H2,I2,pl,q2⟩=>thn (hu pins s2 σ H2 _ I2 q2) λvu s3 ⟨u,H3,I3,pu,q3⟩=>?_)
 rw[evalPart_none]
 refine wpAny_pure ?_
 have I4:Inv X pins σ H3 { s3 with heap:=s3.heap.push { cls:=.type "slice", data:=.fields #[vl,vu,.none] } }:=I3.kept (t':=s3.toks) λb ob q=>Heap.get?_push_of_some _ q
 obtain⟨T,id,hT,ht,hg⟩:=hr pins { s3 with heap:=s3.heap.push { cls:=.type "slice", data:=.fields #[vl,vu,.none] } } σ H3 x v vl vu l u s3.heap.objs.size Q I4 r1 (Heap.IsSliceOf.new ..) pl pu q3
 show wpAny (model X.prog X.w) X.A (subscriptTail e (.Slice lo hi none p2) v (.ref s3.heap.objs.size)) (EP X pins σ Q) X.xe { s3 with heap:=s3.heap.push { cls:=.type "slice", data:=.fields #[vl,vu,.none] } }
 exact tail_any (ops:=[.ref s3.heap.objs.size,v]) ht hT hg (by with_unfolding_all rfl)
def fh (xs:List V) (lo hi:Option Int):List V:=(xs.drop (HT.sIx xs.length 0 lo)).take (HT.sIx xs.length xs.length hi-HT.sIx xs.length 0 lo)
theorem gX (xs:List V) (lo hi:Option Int):(fh xs lo hi).length<=xs.length:=by
 unfold fh
 rw[List.length_take,List.length_drop]
 omega
end
def ixN (n:Nat) (i:Int):Option Nat:=if 0<=i then (if i<n then some i.toNat else none) else if -(n:Int)<=i then some (i+n).toNat else none
def atI {α:Type} (xs:List α) (i:Int):Option α:=(ixN xs.length i).bind λj=>xs[j]?
theorem pP {n:Nat} {i:Int} {j:Nat} (h:ixN n i=some j):seqIndex? i n=some j/\j<n/\-(n:Int)<=i/\i<n:=by
 unfold ixN at h
 by_cases h0:0<=i
 ·rw[if_pos h0]at h
  by_cases h1:i<n
  ·rw[if_pos h1]at h
   have e:i.toNat=j:=Option.some.inj h
   exact⟨by rw[seqIndex_of h0 h1,e],by omega,by omega,h1⟩
  ·rw[if_neg h1]at h;cases h
 ·rw[if_neg h0]at h
  by_cases h1:-(n:Int)<=i
  ·rw[if_pos h1]at h
   have e:(i+n).toNat=j:=Option.some.inj h
   exact⟨by rw[seqIndex_neg (by omega) h1,e],by omega,h1,by omega⟩
  ·rw[if_neg h1]at h;cases h
theorem lZ {α:Type} {xs:List α} {i:Int} {v:α} (h:atI xs i=some v):∃j,seqIndex? i xs.length=some j/\xs[j]?=some v/\j<xs.length/\-(xs.length:Int)<=i/\i<xs.length:=by
 unfold atI at h
 cases e:ixN xs.length i with
 | none=>rw[e]at h;cases h
 | some j =>
  rw[e]at h
  obtain⟨h1,h2,h3,h4⟩:=pP e
  exact⟨j,h1,h,h2,h3,h4⟩
theorem bB {α:Type} {xs:List α} {j:Nat} {v:α} (h:xs[j]?=some v):atI xs (j:Int)=some v:=by
 have hj:j<xs.length:=(List.getElem?_eq_some_iff.mp h).1
 have e:ixN xs.length (j:Int)=some j:=by
  unfold ixN
  rw[if_pos (by omega),if_pos (by omega)];simp
 unfold atI;rw[e];exact h
def vi (b:Expr):Prop:=∀o i,subscripted b false o i=operate [o,i] (getItem o i)
def IxR (X:Cx) (r:R2):Prop :=
 ∀(value slice:Expr) (pins:List (Addr × Obj)) (s:Shared) (σ:St) (H:Hp) (x y:V) (v u:Value) (Q:VK),Inv X pins σ H s->aS x v->aS y u->r x y H Q ->
  subscripted slice false v u=operate [v,u] (getItem v u)->wpAny (model X.prog X.w) X.A (subscriptTail value slice v u) (EP X pins σ Q) X.xe s
def MtR (X:Cx) (id:String) (r:V->List V->Hp->VK->Prop):Prop :=
 ∀(pins:List (Addr × Obj)) (s:Shared) (σ:St) (H:Hp) (x:V) (xs:List V) (v:Value) (us:List Value) (Q:VK),Inv X pins σ H s->aS x v->aY xs us->r x xs H Q ->
  wpAny (model X.prog X.w) X.A (call (.builtin id) (v::us)) (EP X pins σ Q) X.xe s
section
variable {X:Cx} {a b:Expr} {ta tb:TE} {pos:Pos}
theorem ax {r:R2} (hr:IxR X r) (ha:PE X a ta) (hb:PE X b tb) (hs:vi b):PE X (.Subscript a b pos) (tOp r ta tb):=by
 intro pins s σ H Q I h
 exact Subscript_ (xu ha hb I h λv u s2 x y H2 I2 rx ry q=>hr a b pins s2 σ H2 x y v u Q I2 rx ry q (hs _ _))
def uq (K:PySem.W.Frag):R2:=λx y H Q=>∃p xs i v,x=.ref p/\y=.int i/\SqL K H p xs/\atI xs i=some v/\Q v H
def mL (K:PySem.W.Frag):R2:=λx y H Q=>∃p xs i v,x=.ref p/\y=.int i/\SqT K H p xs/\atI xs i=some v/\Q v H
def xS:R2:=λx y H Q=>∃z i c,x=.str z/\y=.int i/\z.length<=sizeLine/\atI z.cps.toList i=some c/\Q (.str ⟨#[c]⟩) H
theorem aD:IxR X (uq X.K):=by
 intro value slice pins s σ H x y v u Q I rx ry h hs
 obtain⟨p,xs,i,z,rfl,rfl,hq,he,q⟩:=h
 cases rx
 obtain⟨t,rfl⟩:=ry
 obtain⟨its,r,pl,hz⟩:=I.list hq
 obtain⟨j,h1,h2,h3,h4,h5⟩:=lZ he
 obtain⟨w,ew,rw'⟩:=r.get h2
 have hl:=r.length
 have hn:=gO
 have fin:EP X pins σ Q w s:=⟨z,H,I,rw',q⟩
 by_cases h0:0<=i
 ·have hj:i.toNat=j:=by
   rw[seqIndex_of h0 h5]at h1
   exact Option.some.inj h1
  exact item_listR pl.isList h0 (by omega) (by rw[hj];simpa using ew) fin hs
 ·have hj:(i+(its.toArray.size:Int)).toNat=j:=by
   rw[seqIndex_neg (by omega) h4]at h1
   rw[List.size_toArray,<-hl]
   exact Option.some.inj h1
  exact subscriptTail_builtinR (x:=w) pl.isList.typeIs slot_list_getitem.lookup
   (wpAny_getItem_list_neg (Q:=λr s'=>r=w/\EP X pins σ Q r s') pl.isList (by omega) (by rw[List.size_toArray] <;> omega) (by omega) (by rw[hj];simpa using ew) ⟨rfl,fin⟩) hs
theorem aJ:IxR X (mL X.K):=by
 intro value slice pins s σ H x y v u Q I rx ry h hs
 obtain⟨p,xs,i,z,rfl,rfl,hq,he,q⟩:=h
 cases rx
 obtain⟨t,rfl⟩:=ry
 obtain⟨its,r,pl,hz⟩:=I.tuple hq
 obtain⟨j,h1,h2,h3,h4,h5⟩:=lZ he
 obtain⟨w,ew,rw'⟩:=r.get h2
 have hl:=r.length
 have hn:=gO
 have fin:EP X pins σ Q w s:=⟨z,H,I,rw',q⟩
 exact subscriptTail_builtinR (x:=w) pl.typeIs slot_tuple_getitem.lookup
  (getItem_tuple (j:=j) (Q:=λr s'=>r=w/\EP X pins σ Q r s') pl (by omega) (by omega) (by rw[List.size_toArray,<-hl];exact h1) (by simpa using ew) ⟨rfl,fin⟩) hs
theorem d5:IxR X xS:=by
 intro value slice pins s σ H x y v u Q I rx ry h hs
 obtain⟨z,i,c,rfl,rfl,hz,he,q⟩:=h
 obtain⟨t,rfl⟩:=rx
 obtain⟨t',rfl⟩:=ry
 obtain⟨j,h1,h2,h3,h4,h5⟩:=lZ he
 have hl:z.cps.toList.length=z.length:=by simp[Str.length]
 rw[hl]at h1 h4 h5
 have hn:=gO
 exact tail_any (typeIs_str s z t) slot_str_getitem.lookup (getItem_str (c:=c) (by
  have e1:decide (i < -(2 ^ 63:Int))=false:=decide_eq_false (by omega)
  have e2:decide (i>=2 ^ 63)=false:=decide_eq_false (by omega)
  rw[e1,e2,Bool.or_false]) (by rw[h1];simpa using h2) ⟨.str ⟨#[c]⟩,H,I.tok _,⟨_,rfl⟩,q⟩) hs
theorem oA (its:List Value) (n j:Nat) (u:Value):Obj.mapSeq (·.setIfInBounds j u) { cls:=.type "list", data:=.seq its.toArray n }={ cls:=.type "list", data:=.seq (its.set j u).toArray n }:=by
 simp[Obj.mapSeq]
variable {s:Shared} {pins:List (Addr × Obj)}
theorem Inv.lst {σ:St} {H:Hp} {p:Addr} {xs:List V} (I:Inv X pins σ H s) (h:H p=some (.lst xs)) :
  ∃(its:List Value) (n:Nat),aY xs its/\s.heap.get? p=some { cls:=.type "list", data:=.seq its.toArray n }/\xs.length<=sizeLine:=by
 obtain⟨z,its,n,r,e⟩:=I.hok p _ h
 exact⟨its,n,r,e,z⟩
theorem Inv.lstUpd {σ:St} {H:Hp} {p:Addr} {xs ys:List V} {its its':List Value} {n n':Nat} {f:Obj->Obj} (I:Inv X pins σ H s) (h:H p=some (.lst xs))
  (ho:s.heap.get? p=some { cls:=.type "list", data:=.seq its.toArray n }) (hf:f { cls:=.type "list", data:=.seq its.toArray n }={ cls:=.type "list", data:=.seq its'.toArray n' }) (r:aY ys its') (hz:ys.length<=sizeLine) (t:Nat) :
  Inv X pins σ (upd H p (.lst ys)) { s with heap:=s.heap.update p f,toks:=t }:=by
 have e:(s.heap.update p f).get? p=some { cls:=.type "list", data:=.seq its'.toArray n' }:=by
  rw[Heap.get?_update_self f ho (by rw[hf] <;> rfl),hf]
 refine I.write (x:=p) (e:=p) (by rw[h];trivial) (.inl rfl) (λb u hb q=>(Heap.get?_update_other _ _ (Ne.symm hb)).trans q) ⟨_,e⟩ ?_
 exact⟨hz,its',n',r,e⟩
def vH:V->V->V->Hp->(Hp->Prop)->Prop:=λo i v H Q=>∃p xs k j,o=.ref p/\i=.int k/\H p=some (.lst xs)/\ixN xs.length k=some j/\Q (upd H p (.lst (xs.set j v)))
theorem mw:Bh X vH:=by
 intro pins s σ H o i v ov iv u Q I ro ri rv h
 obtain⟨p,xs,k,j,rfl,rfl,hp,hj,q⟩:=h
 cases ro
 obtain⟨t,rfl⟩:=ri
 obtain⟨its,n,r,ho,hz⟩:=I.lst hp
 obtain⟨h1,h2,h3,h4⟩:=pP hj
 have hl:=r.length
 have hn:=gO
 have I':Inv X pins σ (upd H p (.lst (xs.set j v))) { s with heap:=s.heap.update p (Obj.mapSeq (·.setIfInBounds j u)) } :=
  I.lstUpd hp ho (oA its n j u) (r.set rv j) (by rw[List.length_set];exact hz) s.toks
 by_cases h0:0<=k
 ·have hk:k.toNat=j:=by
   rw[seqIndex_of h0 h4]at h1
   exact Option.some.inj h1
  exact PySem.W.ki_setAt ho h0 (by omega) (by rw[List.size_toArray,<-hl];exact h4) (by rw[hk];exact⟨_,I',q⟩)
 ·have hk:(k+(its.toArray.size:Int)).toNat=j:=by
   rw[seqIndex_neg (by omega) h3]at h1
   rw[List.size_toArray,<-hl]
   exact Option.some.inj h1
  exact PySem.W.ki_setBack ho (by omega) (by rw[List.size_toArray,<-hl];exact h3) (by omega) (by rw[hk];exact⟨_,I',q⟩)
theorem vB (i:Int) (n:Nat):max 0 (min (if i<0 then i+(n:Int) else i) (n:Int))=(((if i<0 then (i+(n:Int)).toNat else min i.toNat n):Nat):Int):=by
 by_cases h:i<0
 ·rw[if_pos h,if_pos h,Int.min_eq_left (by omega)]
  omega
 ·obtain⟨k,rfl⟩:=Int.eq_ofNat_of_zero_le (Int.not_lt.mp h)
  rw[if_neg h,if_neg h,Int.toNat_natCast]
  omega
theorem lx (lo hi:Option Int) (n:Nat):(sliceBounds lo hi none n).1=((HT.sIx n 0 lo:Nat):Int)/\(sliceBounds lo hi none n).2.1=((HT.sIx n n hi:Nat):Int)/\(sliceBounds lo hi none n).2.2=1:=by
 refine⟨?_,?_,rfl⟩
 ·cases lo with
  | none=>simp[sliceBounds,HT.sIx]
  | some i =>
   simp only[sliceBounds,HT.sIx,Option.getD_none,show (1:Int)>0 by decide,if_true]
   exact vB i n
 ·cases hi with
  | none=>simp[sliceBounds,HT.sIx]
  | some i =>
   simp only[sliceBounds,HT.sIx,Option.getD_none,show (1:Int)>0 by decide,if_true]
   exact vB i n
theorem jN (its:List Value) (lo hi:Option Int):slicePick its.toArray lo hi none=((its.drop (HT.sIx its.length 0 lo)).take (HT.sIx its.length its.length hi-HT.sIx its.length 0 lo)).toArray:=by
 obtain⟨h1,h2,h3⟩:=lx lo hi its.toArray.size
 unfold slicePick
 rw[h1,h2,h3]
 simp only[sliceRange_one,pick_run,List.size_toArray] <;> rfl
def xQ (K:PySem.W.Frag):V->Option Int->Option Int->Hp->VK->Prop:=λx lo hi H Q=>∃a xs,x=.ref a/\SqL K H a xs/\∀p,H p=none->Q (.ref p) (upd H p (.lst (fh xs lo hi)))
theorem dN:SlR X (xQ X.K):=by
 intro pins s σ H x v vl vu lo hi sl Q I rx hs pl pu h
 obtain⟨a,xs,rfl,hx,q⟩:=h
 cases rx
 obtain⟨its,r,ht,hz⟩:=I.list hx
 have hlen:=r.length
 refine⟨"list", _,slot_list_getitem.lookup,ht.isList.typeIs,?_⟩
 refine wpAny_getItem_list_slice ht.isList hs pl pu .none (by simp) ?_ (by rw[List.size_toArray] <;> omega)
 rw[jN,<-hlen]
 refine⟨.ref s.heap.objs.size,_,I.laid (t':=s.toks) (o:=.lst (fh xs lo hi)) (λb ob q=>Heap.get?_push_of_some _ q) (Nat.le_refl _) ?_,rfl,q _ (I.hok.fresh (Nat.le_refl _))⟩
 exact⟨Nat.le_trans (gX xs lo hi) hz,_,0,(r.drop (HT.sIx xs.length 0 lo)).take (HT.sIx xs.length xs.length hi-HT.sIx xs.length 0 lo),Heap.get?_push_size _ rfl⟩
def cT:V->Bool
 | .non=>true
 | .bl _=>true
 | .int _=>true
 | .str _=>true
 | _=>false
def eqV:V->V->Bool
 | .non,.non=>true
 | .bl a,.bl b=>a==b
 | .bl a,.int b=>(if a then 1 else 0)==b
 | .int a,.bl b=>a==(if b then 1 else 0)
 | .int a,.int b=>a==b
 | .str a,.str b=>a==b
 | _,_=>false
variable {u v:Value}
theorem tO {A:Around} {y x:V} (ry:aS y u) (rx:aS x v) (fy:cT y=true) (fx:cT x=true):SeqAt.EqAt A s u v (eqV y x):=by
 cases y with
 | non =>
  cases ry
  cases x with
  | non=>cases rx;exact SeqAt.EqAt.same _
  | bl b=>cases rx;exact SeqAt.EqAt.none_bool b
  | int b=>obtain⟨t,rfl⟩:=rx;exact SeqAt.EqAt.none_int b t
  | str b=>obtain⟨t,rfl⟩:=rx;exact SeqAt.EqAt.none_str b t
  | _=>exact absurd (show false=true from fx) Bool.false_ne_true
 | bl a =>
  cases ry
  cases x with
  | non=>cases rx;exact SeqAt.EqAt.bool_none a
  | bl b=>cases rx;exact SeqAt.EqAt.bool_bool a b
  | int b=>obtain⟨t,rfl⟩:=rx;exact SeqAt.EqAt.bool_int a b t
  | str b=>obtain⟨t,rfl⟩:=rx;exact SeqAt.EqAt.bool_str a b t
  | _=>exact absurd (show false=true from fx) Bool.false_ne_true
 | int a =>
  obtain⟨t',rfl⟩:=ry
  cases x with
  | non=>cases rx;exact SeqAt.EqAt.int_none a t'
  | bl b=>cases rx;exact SeqAt.EqAt.int_bool a t' b
  | int b=>obtain⟨t,rfl⟩:=rx;exact SeqAt.EqAt.int_int a t' b t
  | str b=>obtain⟨t,rfl⟩:=rx;exact SeqAt.EqAt.int_str a t' b t
  | _=>exact absurd (show false=true from fx) Bool.false_ne_true
 | str a =>
  obtain⟨t',rfl⟩:=ry
  cases x with
  | non=>cases rx;exact SeqAt.EqAt.str_none a t'
  | bl b=>cases rx;exact SeqAt.EqAt.str_bool a t' b
  | int b=>obtain⟨t,rfl⟩:=rx;exact SeqAt.EqAt.str_int a t' b t
  | str b=>obtain⟨t,rfl⟩:=rx;exact SeqAt.EqAt.str_str a t' b t
  | _=>exact absurd (show false=true from fx) Bool.false_ne_true
 | _=>exact absurd (show false=true from fy) Bool.false_ne_true
def eqU (x:V) (u:Value):Bool:=match u with
 | .none=>eqV .non x
 | .bool b=>eqV (.bl b) x
 | .int i _=>eqV (.int i) x
 | .str z _=>eqV (.str z) x
 | _=>false
theorem tM {x y:V} (r:aS y u) (f:cT y=true):eqU x u=eqV y x:=by
 cases y with
 | non=>cases r;rfl
 | bl b=>cases r;rfl
 | int i=>obtain⟨t,rfl⟩:=r;rfl
 | str z=>obtain⟨t,rfl⟩:=r;rfl
 | _=>exact absurd (show false=true from f) Bool.false_ne_true
theorem l6 {x:V}:∀{xs:List V} {us:List Value},aY xs us->xs.all cT=true->us.any (eqU x)=xs.any λy=>eqV y x
 | _,_,.nil,_=>rfl
 | y::xs,u::us,.cons r t,f=>by
  rw[List.all_cons,Bool.and_eq_true]at f
  rw[List.any_cons,List.any_cons,tM r f.1,l6 t f.2]
theorem je {A:Around} {s:Shared} {x:V} {v:Value} (rx:aS x v) (fx:cT x=true):∀{xs:List V} {us:List Value},aY xs us->xs.all cT=true->∀u∈us,SeqAt.EqAt A s u v (eqU x u)
 | _,_,.nil,_=>λu hu=>by cases hu
 | y::xs,u::us,.cons r t,f=>λu' hu=>by
  rw[List.all_cons,Bool.and_eq_true]at f
  rcases List.mem_cons.mp hu with rfl|hu
  ·rw[tM r f.1];exact tO r rx f.1 fx
  ·exact je rx fx t f.2 u' hu
def inV (x:V) (xs:List V):Bool:=xs.any λy=>eqV y x
def rIn (K:PySem.W.Frag) (neg:Bool):R2:=λx y H Q=>∃p xs,y=.ref p/\(SqL K H p xs\/SqT K H p xs)/\cT x=true/\xs.all cT=true/\Q (.bl (if neg then !inV x xs else inV x xs)) H
theorem qC:OpR X (compareOp .In) (rIn X.K false):=by
 intro pins s σ H x y v u Q I rx ry h
 obtain⟨p,xs,rfl,hq,fx,fs,q⟩:=h
 cases ry
 rcases hq with hq|hq
 ·obtain⟨its,r,pl,hz⟩:=I.list hq
  refine SeqAt.in_listAt (eqU x) pl.isList (λw hw=>je rx fx r fs w (by simpa using hw)) ⟨.bl _,H,I,rfl,?_⟩
  rw[show its.toArray.any (eqU x)=its.any (eqU x) by simp,l6 r fs]
  exact q
 ·obtain⟨its,r,pl,hz⟩:=I.tuple hq
  refine SeqAt.in_tupleAt (eqU x) pl (λw hw=>je rx fx r fs w (by simpa using hw)) ⟨.bl _,H,I,rfl,?_⟩
  rw[show its.toArray.any (eqU x)=its.any (eqU x) by simp,l6 r fs]
  exact q
theorem aG:dX X (.builtin "len") (λxs H Q=>∃p ys,xs=[.ref p]/\(SqL X.K H p ys\/SqT X.K H p ys)/\Q (.int ys.length) H):=by
 intro pins s σ H xs us Q I r h
 obtain⟨p,ys,rfl,hq,q⟩:=h
 obtain⟨u,rfl,rx⟩:=eP r
 cases rx
 have hn:=gO
 rcases hq with hq|hq
 ·obtain⟨its,r',pl,hz⟩:=I.list hq
  have hlen:=r'.length
  exact Calls.call_len_list pl.isList (by simp only[List.size_toArray] <;> omega) ⟨.int ys.length,H,I.tok _,⟨s.toks+1,by rw[List.size_toArray,hlen]⟩,q⟩
 ·obtain⟨its,r',pl,hz⟩:=I.tuple hq
  have hlen:=r'.length
  exact len_tuple pl (by simp only[List.size_toArray] <;> omega) ⟨.int ys.length,H,I.tok _,⟨s.toks+1,by rw[List.size_toArray,hlen]⟩,q⟩
theorem gn:dX X (.builtin "len") (λxs H Q=>∃z,xs=[.str z]/\z.length<=sizeLine/\Q (.int z.length) H):=by
 intro pins s σ H xs us Q I r h
 obtain⟨z,rfl,hz,q⟩:=h
 obtain⟨u,rfl,t,rfl⟩:=eP r
 have hn:=gO
 exact len_str (by omega) ⟨.int z.length,H,I.tok _,⟨_,rfl⟩,q⟩
theorem cS:dX X (.type "list") (λxs H Q=>∃p ys,xs=[.ref p]/\(SqL X.K H p ys\/SqT X.K H p ys)/\∀l,H l=none->Q (.ref l) (upd H l (.lst ys))):=by
 intro pins s σ H xs us Q I r h
 obtain⟨p,ys,rfl,hq,q⟩:=h
 obtain⟨u,rfl,rx⟩:=eP r
 cases rx
 have fin:∀(its:List Value),aY ys its->ys.length<=sizeLine->∀(h':Heap) (c':Nat),(∀b o',s.heap.get? b=some o'->h'.get? b=some o') ->
   h'.get? s.heap.objs.size=some { cls:=.type "list", dict:=none,data:=.seq its.toArray c',slots:=#[] }->EP X pins σ Q (.ref s.heap.objs.size) { s with heap:=h' }:=λits r' hz h' c' kp e =>
  ⟨.ref s.heap.objs.size,_,I.laid (t':=s.toks) kp (Nat.le_refl _) (show bo X.prog X.w _ h' _ (.lst ys) from⟨hz,its,c',r',e⟩),rfl,q _ (I.hok.fresh (Nat.le_refl _))⟩
 rcases hq with hq|hq
 ·obtain⟨its,r',pl,hz⟩:=I.list hq
  have hlen:=r'.length
  obtain⟨o,ho,hc,n,hd⟩:=pl.isList
  exact call_list_seq p (.inl rfl) ho hc hd (λh' c' kp e=>fin its r' hz h' c' kp e) (by simp only[List.size_toArray] <;> omega)
 ·obtain⟨its,r',pl,hz⟩:=I.tuple hq
  have hlen:=r'.length
  obtain⟨o,ho,hc,n,hd⟩:=pl
  exact call_list_seq p (.inr rfl) ho hc hd (λh' c' kp e=>fin its r' hz h' c' kp e) (by simp only[List.size_toArray] <;> omega)
def tyV (K:PySem.W.Frag) (T:String) (x:V) (H:Hp):Prop:=match x with
 | .str _=>T = "str"
 | .int _=>T = "int"
 | .ref p=>(T = "list" /\ ∃xs,SqL K H p xs)\/(T = "tuple" /\ ∃o,K.lookup p=some o/\o.cls=.type "tuple" /\ o.dict=none) \/
   (T = "dict" /\ ((∃kvs,H p=some (.dK kvs))\/∃kvs,H p=some (.dT kvs)))\/(T = "set" /\ ∃S n,H p=some (.set S n))
 | _=>False
theorem rE {σ:St} {H:Hp} {T:String} {x:V} (I:Inv X pins σ H s) (r:aS x v) (ty:tyV X.K T x H) :
  s.TypeIs v T/\∀a,v=.ref a->∃ob,s.heap.get? a=some ob/\ob.dict=none:=by
 cases x with
 | str z =>
  obtain⟨t,rfl⟩:=r
  cases (show T = "str" from ty)
  exact⟨typeIs_str s z t,λ_ e=>nomatch e⟩
 | int i =>
  obtain⟨t,rfl⟩:=r
  cases (show T = "int" from ty)
  exact⟨typeIs_int s i t,λ_ e=>nomatch e⟩
 | ref p =>
  cases r
  rcases ty with⟨rfl,xs,hq⟩|⟨rfl,o,hk,hc,hd⟩|⟨rfl,hk⟩|⟨rfl,S,n,hk⟩
  ·obtain⟨its,_,pl,_⟩:=I.list hq
   refine⟨pl.isList.typeIs,λa e=>?_⟩
   cases e
   obtain⟨o,n,e,c,hd,_⟩:=pl
   exact⟨o,e,hd⟩
  ·refine⟨⟨o,I.kIn p o hk,hc⟩,λa e=>?_⟩
   cases e
   exact⟨o,I.kIn _ o hk,hd⟩
  ·have z:∃o,s.heap.get? p=some o/\o.ExactDict:=by
    rcases hk with⟨kvs,hk⟩|⟨kvs,hk⟩
    ·obtain⟨_,_,_,_,o,_,_,e,ex,_⟩:=I.hok p _ hk
     exact⟨o,e,ex⟩
    ·obtain⟨_,_,_,_,o,_,_,e,ex,_⟩:=I.hok p _ hk
     exact⟨o,e,ex⟩
   obtain⟨o,e,ex⟩:=z
   refine⟨⟨o,e,ex.1⟩,λa e2=>?_⟩
   cases e2
   exact⟨o,e,ex.2.1⟩
  ·obtain⟨o,_,_,_,e,ex,_⟩:=I.hok p _ hk
   refine⟨⟨o,e,ex.1⟩,λa e2=>?_⟩
   cases e2
   exact⟨o,e,ex.2.1⟩
 | _=>exact False.elim ty
def xL (K:PySem.W.Frag) (T:String) (r:V->List V->Hp->VK->Prop) (to:TE):TE:=λσ H Q=>to σ H λx H1=>tyV K T x H1/\r x [] H1 Q
def tBM (K:PySem.W.Frag) (T:String) (r:V->List V->Hp->VK->Prop) (to:TE) (t:TA):TE:=λσ H Q=>to σ H λx H1=>tyV K T x H1/\t σ H1 λxs H2=>r x xs H2 Q
variable {o e:Expr} {es:List Expr} {to:TE} {t:TA} {name:Str} {apos cpos:Pos} {T id:String} {r:V->List V->Hp->VK->Prop}
theorem wJ (pa:PlainAttrs T) (slot:Slot T name id) (hty:typeOf (.builtin id)=pure (.type "method_descriptor")) (hm:MtR X id r) (ho:PE X o to)
  (hbase:attributeBase o name X.env (eval o X.env)=eval o X.env:=by rfl) (hline:(apos.endLine==cpos.line)=true:=by rfl):PE X (.Call (.Attribute o name apos) [] [] cpos) (xL X.K T r to):=by
 intro pins s σ H Q I h
 refine wpAny_Call_method0_late hbase hline (thn (ho pins s σ H _ I h) λv s1 ⟨x,H1,I1,r1,ty,q1⟩=>?_)
 obtain⟨h1,h2⟩:=rE I1 r1 ty
 exact⟨T,id,pa,slot,hty,h1,h2,Calls.callWith_builtin rfl (PySem.evalArgs_none (hm pins s1 σ H1 x [] v [] Q I1 r1 .nil q1))⟩
theorem cM (pa:PlainAttrs T) (slot:Slot T name id) (hty:typeOf (.builtin id)=pure (.type "method_descriptor")) (hm:MtR X id r) (ho:PE X o to) (ha:PA X (e::es) t)
  (hbase:attributeBase o name X.env (eval o X.env)=eval o X.env:=by rfl)
  (hfew:((backTo cpos (starEach (e::es) X.env)).all (fun x=>!x.1)&&(backToKw cpos (keywordEach [] X.env)).all (fun x=>x.1.isSome)
   && decide ((e::es).length+([]:List Keyword).length+(if ([]:List Keyword).isEmpty then 0 else 1)<30))=true:=by rfl)
  (hline:(apos.endLine==cpos.line)=true:=by rfl) (hs:starEach (e::es) X.env=(false,eval e X.env)::starEach es X.env:=by rfl) (hplain:(backTo cpos (starEach es X.env)).any (·.1)=false:=by rfl) :
  PE X (.Call (.Attribute o name apos) (e::es) [] cpos) (tBM X.K T r to t):=by
 intro pins s σ H Q I h
 refine wpAny_Call_method_late hbase hfew hline rfl (thn (ho pins s σ H _ I h) λv s1 ⟨x,H1,I1,r1,ty,q1⟩=>?_)
 obtain⟨h1,h2⟩:=rE I1 r1 ty
 refine⟨T,id,pa,slot,hty,h1,h2,?_⟩
 have hA:=ha cpos pins s1 σ H1 _ I1 q1
 rw[hs]at hA ⊢
 refine Calls.callWith_builtin (by show (false || (backTo cpos (starEach es X.env)).any (·.1))=false;rw[hplain] <;> rfl) (Calls.evalArgs_plain ?_)
 exact thn hA λus s2 ⟨vs,H2,I2,r2,q2⟩=>hm pins s2 σ H2 x vs v us Q I2 r1 r2 q2
end
def MtM (X:Cx) (id:String) (r:V->List V->Hp->VK->Prop):Prop :=
 ∀(pins:List (Addr × Obj)) (s:Shared) (σ:St) (H:Hp) (x:V) (xs:List V) (v:Value) (us:List Value) (Q:VK),Inv X pins σ H s->aS x v->aY xs us->r x xs H Q ->
  wpAny (model X.prog X.w) X.A (call (.builtin id) (v::us)) (EP X pins σ Q) X.xe s
theorem aY.one:∀{x:V} {us:List Value},aY [x] us->∃u,us=[u]/\aS x u
 | _,_,.cons r .nil=>⟨_,rfl,r⟩
theorem aY.zero:∀{us:List Value},aY [] us->us=[]
 | _,.nil=>rfl
theorem aY.dropLast {xs:List V} {us:List Value} (h:aY xs us):aY xs.dropLast us.dropLast:=by
 induction h with
 | nil=>exact .nil
 | cons r t ih =>
  cases t with
  | nil=>exact .nil
  | cons q t'=>exact .cons r ih
theorem oN {α:Type} (l:List α):l.eraseIdx (l.length-1)=l.dropLast:=by
 induction l with
 | nil=>rfl
 | cons a r ih =>
  cases r with
  | nil=>rfl
  | cons b r =>
   have e:(a::b::r).length-1=((b::r).length-1)+1:=by
    have h1:(a::b::r).length=r.length+2:=rfl
    have h2:(b::r).length=r.length+1:=rfl
    omega
   rw[e,List.eraseIdx_cons_succ,ih]
   all_goals rfl
section
variable {X:Cx} {pins:List (Addr × Obj)} {σ:St} {H:Hp} {s:Shared} {l b:Addr} {xs ys zs:List V}
theorem Inv.lset {its its':List Value} {n:Nat} {f:Array Value->Array Value} {t':Nat} (I:Inv X pins σ H s) (hH:H l=some (.lst xs))
  (e:s.heap.get? l=some { cls:=.type "list", data:=.seq its.toArray n }) (hf:f its.toArray=its'.toArray) (hv:aY ys its') (hz:ys.length<=sizeLine) :
  Inv X pins σ (upd H l (.lst ys)) { s with heap:=s.heap.update l (Obj.mapSeq f),toks:=t' }:=by
 have q:=PySem.IsL.update e f
 rw[hf]at q
 refine I.write (x:=l) (e:=l) (by rw[hH];exact trivial) (.inl rfl) (λb' u hb hu=>(Heap.get?_update_other s.heap (Obj.mapSeq f) (Ne.symm hb)).trans hu) ⟨_,q⟩ ?_
 exact⟨hz,its',_,hv,q⟩
theorem Inv.lnew {its:List Value} {t':Nat} (I:Inv X pins σ H s) (hv:aY ys its) (hz:ys.length<=sizeLine) :
  Inv X pins σ (upd H s.heap.objs.size (.lst ys)) { s with heap:=s.heap.push { cls:=.type "list", data:=.seq its.toArray },toks:=t' } :=
 I.laid (λ_ _ q=>Heap.get?_push_of_some _ q) (Nat.le_refl _) ⟨hz,its,0,hv,Heap.get?_push_size _ rfl⟩
theorem Inv.fresh (I:Inv X pins σ H s):H s.heap.objs.size=none:=I.hok.fresh (Nat.le_refl _)
theorem Inv.lstM (I:Inv X pins σ H s) (hH:H l=some (.lst xs)):xs.length<=sizeLine/\∃(its:List Value) (n:Nat),aY xs its/\xs.length=its.length/\s.heap.get? l=some { cls:=.type "list", data:=.seq its.toArray n }:=by
 obtain⟨z,its,n,r,e⟩:=I.hok l _ hH
 exact⟨z,its,n,r,r.length,e⟩
end
section
variable {X:Cx}
def lJ:V->List V->Hp->VK->Prop:=λx vs H Q=>∃l xs y,x=.ref l/\vs=[y]/\H l=some (.lst xs)/\xs.length<sizeLine/\Q .non (upd H l (.lst (xs++[y])))
theorem ba:MtM X "list.append" lJ:=by
 intro pins s σ H x vs v us Q I rx rv h
 obtain⟨l,xs,y,rfl,rfl,hH,hz,q⟩:=h
 cases rx
 obtain⟨u,rfl,ru⟩:=rv.one
 obtain⟨z,its,n,r,hl,e⟩:=I.lstM hH
 refine call_meets F.slot_list_append ⟨_,e,rfl⟩ F.entry_list_append (F.args_list_append_2 _ _) (PySem.list_append l its.toArray n u (by rw[List.size_toArray];omega)) ⟨e,?_⟩
 refine⟨.non,_,I.lset (its':=its++[u]) hH e (by simp) (r.append (.cons ru .nil)) ?_,rfl,q⟩
 rw[List.length_append,List.length_singleton]
 omega
def Bp:V->List V->Hp->VK->Prop:=λx vs H Q=>∃l xs y,x=.ref l/\vs=[]/\H l=some (.lst xs)/\xs[xs.length-1]?=some y/\Q y (upd H l (.lst xs.dropLast))
theorem xa:MtM X "list.pop" Bp:=by
 intro pins s σ H x vs v us Q I rx rv h
 obtain⟨l,xs,y,rfl,rfl,hH,hy,q⟩:=h
 cases rx
 have hus:=rv.zero
 subst hus
 obtain⟨z,its,n,r,hl,e⟩:=I.lstM hH
 obtain⟨u,hu,ru⟩:=r.get hy
 have hy':its.toArray[its.toArray.size-1]?=some u:=by
  show its.toArray[its.length-1]?=some u
  rw[<-Array.getElem?_toList,<-hl]
  exact hu
 refine call_meets F.slot_list_pop ⟨_,e,rfl⟩ F.entry_list_pop (F.args_list_pop_1 _) (MeetsSeq.list_pop_last l its.toArray n u hy' (by rw[List.size_toArray];omega)) ⟨e,?_⟩
 refine⟨y,_,I.lset (its':=its.dropLast) hH e ?_ r.dropLast ?_,ru,q⟩
 ·show its.toArray.eraseIdxIfInBounds (its.toArray.size-1)=its.dropLast.toArray
  rw[List.size_toArray,List.eraseIdxIfInBounds_toArray,oN]
 ·rw[List.length_dropLast]
  omega
def wD:R2:=λx y H Q=>∃l b xs zs,x=.ref l/\y=.ref b/\H l=some (.lst xs)/\H b=some (.lst zs)/\xs.length+zs.length<=sizeLine/\∀p,H p=none->Q (.ref p) (upd H p (.lst (xs++zs)))
theorem gN:OpR X (binaryOp .Add) wD:=by
 intro pins s σ H x y v u Q I rx ry h
 obtain⟨l,b,xs,zs,rfl,rfl,hH,hB,hz,q⟩:=h
 cases rx
 cases ry
 obtain⟨z,its,n,r,hl,e⟩:=I.lstM hH
 obtain⟨z2,its2,n2,r2,hl2,e2⟩:=I.lstM hB
 refine PySem.P.add_list e e2 ?_ (by rw[List.size_toArray,List.size_toArray];omega)
 have ea:its.toArray++its2.toArray=(its++its2).toArray:=by simp
 rw[ea]
 exact⟨.ref _,_,I.lnew (t':=s.toks) (r.append r2) (by rw[List.length_append];omega),rfl,q _ I.fresh⟩
theorem uQ {α:Type} (xs:List α) (k:Nat):(List.replicate k xs).flatten.length=k*xs.length:=by
 induction k with
 | zero=>simp
 | succ k ih=>rw[List.replicate_succ,List.flatten_cons,List.length_append,ih,Nat.succ_mul,Nat.add_comm]
end
section
variable {prog:Program} {w:World} {A:Around} {E:Value->Shared->Prop} {s:Shared}
end
section
variable {X:Cx}
end
section
variable {κ:Type} [DecidableEq κ]
def bh (kvs:List (κ × V)) (k:κ):Option V:=(kvs.find? λkv=>decide (kv.1=k)).map (·.2)
def bI (kvs:List (κ × V)) (k:κ) (v:V):List (κ × V) :=
 if (kvs.any λkv=>decide (kv.1=k))=true then kvs.map (λkv=>if kv.1=k then (kv.1,v) else kv) else kvs++[(k,v)]
variable {r kvs:List (κ × V)}
theorem bM {p:κ × V} {k:κ} (e:p.1=k):bh (p::r) k=some p.2:=by simp[bh,List.find?_cons,e]
theorem bO {p:κ × V} {k:κ} (e:¬p.1=k):bh (p::r) k=bh r k:=by simp[bh,List.find?_cons,e]
theorem cK (k:κ):∀kvs:List (κ × V),(kvs.any λkv=>decide (kv.1=k))=(bh kvs k).isSome
 | []=>rfl
 | p::r=>by
  rw[List.any_cons]
  by_cases e:p.1=k
  ·simp only[bM e,decide_eq_true e,Bool.true_or,Option.isSome_some]
  ·rw[bO e,decide_eq_false e,Bool.false_or];exact cK k r
theorem mm (k j:κ) (y:V):∀kvs:List (κ × V),bh (kvs.map λkv=>if kv.1=k then (kv.1,y) else kv) j=(bh kvs j).map λx=>if j=k then y else x
 | []=>rfl
 | p::r=>by
  have ih:=mm k j y r
  rw[List.map_cons]
  by_cases h:p.1=k
  ·rw[if_pos h]
   by_cases e:p.1=j
   ·rw[bM (p:=(p.1,y)) e,bM e,Option.map_some,if_pos (e.symm.trans h)]
   ·rw[bO (p:=(p.1,y)) e,bO e,ih]
  ·rw[if_neg h]
   by_cases e:p.1=j
   ·rw[bM (p:=p) e,bM e,Option.map_some,if_neg (λz=>h (e.trans z))]
   ·rw[bO (p:=p) e,bO e,ih]
theorem kg (k j:κ) (y:V):∀kvs:List (κ × V),bh kvs k=none->bh (kvs++[(k,y)]) j=if j=k then some y else bh kvs j
 | [],_=>by
  by_cases e:k=j
  ·rw[if_pos e.symm];exact bM (p:=(k,y)) e
  ·rw[if_neg (λz=>e z.symm)];exact bO (p:=(k,y)) e
 | p::r,hn=>by
  rw[List.cons_append]
  have hk:¬p.1=k:=λz=>by rw[bM z]at hn;cases hn
  rw[bO hk]at hn
  have ih:=kg k j y r hn
  by_cases e:p.1=j
  ·rw[bM e,bM e,if_neg (λz=>hk (e.trans z))]
  ·rw[bO e,bO e,ih]
theorem eX (kvs:List (κ × V)) (k j:κ) (y:V):bh (bI kvs k y) j=if j=k then some y else bh kvs j:=by
 unfold bI
 by_cases a:(kvs.any λkv=>decide (kv.1=k))=true
 ·rw[if_pos a,mm]
  rw[cK]at a
  by_cases e:j=k
  ·obtain⟨x,hx⟩:=Option.isSome_iff_exists.mp a
   rw[if_pos e,e,hx,Option.map_some,if_pos rfl]
  ·rw[if_neg e]
   cases bh kvs j with
   | none=>rfl
   | some x=>rw[Option.map_some,if_neg e]
 ·rw[if_neg a]
  refine kg k j y kvs ?_
  rw[cK]at a
  cases q:bh kvs k with
  | none=>rfl
  | some x=>rw[q]at a;exact(a rfl).elim
theorem dQ (kvs:List (κ × V)) (k:κ) (v:V):(bI kvs k v).length<=kvs.length+1:=by
 unfold bI
 split
 ·rw[List.length_map];omega
 ·rw[List.length_append,List.length_cons,List.length_nil];omega
theorem c_ {k:κ} (v:V) (h:bh kvs k=none):bI kvs k v=kvs++[(k,v)]:=by
 unfold bI
 rw[cK,h]
 exact if_neg (by decide)
theorem jJ.isSome_eq {o:Option V} {u:Option Value} (r:jJ o u):o.isSome=u.isSome:=by
 cases o with
 | none=>cases u with
  | none=>rfl
  | some _=>exact(show False from r).elim
 | some _=>cases u with
  | none=>exact(show False from r).elim
  | some _=>rfl
variable {vs:List (κ × Value)}
theorem KV.val (r:KV kvs vs) (k:κ):jJ (bh kvs k) (valueAt vs k):=by
 unfold KV at r
 induction r with
 | nil=>exact True.intro
 | @cons p q ps qs h t ih =>
  obtain⟨h1,h2⟩:=h
  by_cases e:p.1=k
  ·have e':q.1=k:=h1.symm.trans e
   have b:valueAt (q::qs) k=some q.2:=by simp[valueAt,List.find?_cons,e']
   rw[bM e,b];exact h2
  ·have e':¬q.1=k:=λz=>e (h1.trans z)
   have b:valueAt (q::qs) k=valueAt qs k:=by simp[valueAt,List.find?_cons,e']
   rw[bO e,b];exact ih
theorem KV.any (r:KV kvs vs) (k:κ):(kvs.any λkv=>decide (kv.1=k))=vs.any λkv=>decide (kv.1=k):=by
 unfold KV at r
 induction r with
 | nil=>rfl
 | cons h t ih=>rw[List.any_cons,List.any_cons,ih,h.1]
theorem KV.repl (r:KV kvs vs) (k:κ) {y:V} {u:Value} (ry:aS y u) :
  KV (kvs.map λkv=>if kv.1=k then (kv.1,y) else kv) (vs.map λkv=>if kv.1=k then (kv.1,u) else kv):=by
 unfold KV at r ⊢
 induction r with
 | nil=>exact .nil
 | @cons p q ps qs h t ih =>
  rw[List.map_cons,List.map_cons]
  refine .cons ?_ ih
  obtain⟨h1,h2⟩:=h
  by_cases e:p.1=k
  ·rw[if_pos e,if_pos (h1.symm.trans e)];exact⟨h1,ry⟩
  ·rw[if_neg e,if_neg (λz=>e (h1.trans z))];exact⟨h1,h2⟩
theorem KV.put (r:KV kvs vs) (k:κ) {y:V} {u:Value} (ry:aS y u):KV (bI kvs k y) (stored vs k u):=by
 unfold bI stored
 rw[r.any k]
 by_cases e:(vs.any λkv=>decide (kv.1=k))=true
 ·rw[if_pos e,if_pos e];exact r.repl k ry
 ·rw[if_neg e,if_neg e];exact Paired.snoc r ⟨rfl,ry⟩
theorem KV.length (r:KV kvs vs):kvs.length=vs.length:=Paired.length r
end
variable {u:Value} {w:World} {P prog:Program}
theorem jl {k:Key} (r:aS (kV k) u):(bi P w).is k u=true:=by
 cases k with
 | inl i=>obtain⟨t,e⟩:=(show ∃t,u=Value.int i t from r);subst e;exact mY P w i t
 | inr x=>obtain⟨t,e⟩:=(show ∃t,u=Value.str x t from r);subst e;exact fe P w x t
theorem kD {P:Program} {w:World}:∀{ks:List Key} {us:List Value},aY (ks.map kV) us->ItemsAre (bi P w) ks us
 | [],_,r=>by rw[List.map_nil]at r;cases r;exact .nil
 | k::ks,_,r=>by
  rw[List.map_cons]at r
  cases r with
  | cons h t=>exact .cons (jl h) (kD t)
abbrev KT (H:Hp):List (List Key × V)->List (List Key × Addr × Value)->Prop:=Paired λp q=>p.1=q.1/\H q.2.1=some (.tup (p.1.map kV))/\aS p.2 q.2.2
variable {xs:List (List Key × Addr × Value)} {kvs:List (List Key × V)} {H H':Hp}
theorem KT.val (r:KT H kvs xs) (k:List Key):jJ (bh kvs k) ((atKey xs k).map (·.2)):=by
 induction r with
 | nil=>exact True.intro
 | @cons p q ps qs h t ih =>
  obtain⟨h1,_,h2⟩:=h
  by_cases e:p.1=k
  ·have e':q.1=k:=h1.symm.trans e
   have b:atKey (q::qs) k=some q.2:=by simp[atKey,List.find?_cons,e']
   rw[bM e,b];exact h2
  ·have e':¬q.1=k:=λz=>e (h1.trans z)
   have b:atKey (q::qs) k=atKey qs k:=by simp[atKey,List.find?_cons,e']
   rw[bO e,b];exact ih
theorem KT.repl (r:KT H kvs xs) (k:List Key) {y:V} (ry:aS y u) :
  KT H (kvs.map λkv=>if kv.1=k then (kv.1,y) else kv) (xs.map (putAt k u)):=by
 induction r with
 | nil=>exact .nil
 | @cons p q ps qs h t ih =>
  rw[List.map_cons,List.map_cons]
  refine .cons ?_ ih
  obtain⟨h1,h2,h3⟩:=h
  unfold putAt
  by_cases e:p.1=k
  ·rw[if_pos e,if_pos (h1.symm.trans e)];exact⟨h1,h2,ry⟩
  ·rw[if_neg e,if_neg (λz=>e (h1.trans z))];exact⟨h1,h2,h3⟩
theorem KT.put (r:KT H kvs xs) (k:List Key) {b:Addr} {y:V} (hb:H b=some (.tup (k.map kV))) (ry:aS y u) :
  KT H (bI kvs k y) (storedH xs k b u):=by
 have e:(kvs.any λkv=>decide (kv.1=k))=(atKey xs k).isSome:=by
  rw[cK,(r.val k).isSome_eq,Option.isSome_map]
 unfold bI storedH
 rw[e]
 by_cases q:(atKey xs k).isSome=true
 ·rw[if_pos q,if_pos q];exact r.repl k ry
 ·rw[if_neg q,if_neg q];exact Paired.snoc r ⟨rfl,hb,ry⟩
theorem KT.keeps (r:KT H kvs xs) (ht:∀b ys,H b=some (.tup ys)->H' b=some (.tup ys)):KT H' kvs xs :=
 Paired.mapP r λ_ _ z=>⟨z.1,ht _ _ z.2.1,z.2.2⟩
section
variable {P:Program} {w:World} {H:Hp} {h:Heap} {a:Addr}
theorem vF {u:HO} (ok:HOk P w H h) (e:Rd H a u):bo P w H h a u:=e.ok ok
theorem gj {kvs:List (Key × V)} (ok:HOk P w H h) (e:Rd H a (.dK kvs)):kvs.length<=sizeLine/\(a==sysModules)=false/\∃vs,KV kvs vs/\h.DictOf (bi P w) a vs :=
 show bo P w H h a (.dK kvs) from vF ok e
theorem tP {kvs:List (Key × V)} (ok:HOk P w H h) (e:H a=some (.dK kvs)):kvs.length<=sizeLine/\(a==sysModules)=false/\∃vs,KV kvs vs/\h.DictOf (bi P w) a vs:=gj ok (.inl e)
theorem jj {ks:List Key} (ok:HOk P w H h) (e:H a=some (.tup (ks.map kV))):(tupleKind (bi P w)).is h ks a:=by
 obtain⟨_,its,r,o,h1,h2,n,h3⟩:=(show bo P w H h a (.tup (ks.map kV)) from ok a _ e)
 exact⟨o,its.toArray,n,h1,h2,h3,by simpa using kD r⟩
variable {kvs:List (List Key × V)}
theorem kJ (ok:HOk P w H h) (e:Rd H a (.dT kvs)):kvs.length<=sizeLine/\(a==sysModules)=false /\
  ∃xs,KT H kvs xs/\h.DictOfH (tupleKind (bi P w)) a xs:=by
 obtain⟨z,y,xs,r,o,es,ep,h1,h2,h3,h4,h5⟩:=(show bo P w H h a (.dT kvs) from vF ok e)
 refine⟨z,y,xs,r,o,es,ep,h1,h2,h3,h4,λx hx=>?_,h5⟩
 have all:∀{l:List (List Key × V)} {m:List (List Key × Addr × Value)},KT H l m->∀x∈m,(tupleKind (bi P w)).is h x.1 x.2.1:=by
  intro l m q
  induction q with
  | nil=>intro x hx;exact nomatch hx
  | @cons p q ps qs hq t ih =>
   intro x hx
   rcases List.mem_cons.mp hx with e|hx
   ·subst e
    exact jj ok (by rw[<-hq.1];exact hq.2.1)
   ·exact ih x hx
 exact all r x hx
theorem A8 (ok:HOk P w H h) (e:H a=some (.dT kvs)):kvs.length<=sizeLine/\(a==sysModules)=false /\
  ∃xs,KT H kvs xs/\h.DictOfH (tupleKind (bi P w)) a xs:=kJ ok (.inl e)
end
def cq (H:Hp) (a:Addr) (y:V) (r:Option V):Prop :=
 (∃kvs k,Rd H a (.dK kvs)/\y=kV k/\r=bh kvs k)\/∃kvs k b,Rd H a (.dT kvs)/\y=.ref b/\H b=some (.tup (k.map kV))/\r=bh kvs k
def fV (H:Hp) (a:Addr) (y v:V) (H':Hp):Prop :=
 (∃kvs k,H a=some (.dK kvs)/\y=kV k/\kvs.length<sizeLine/\H'=upd H a (.dK (bI kvs k v))) \/
 ∃kvs k b,H a=some (.dT kvs)/\y=.ref b/\H b=some (.tup (k.map kV))/\kvs.length<sizeLine/\H'=upd H a (.dT (bI kvs k v))
theorem cq.k {H:Hp} {a:Addr} {kvs:List (Key × V)} {k:Key} (e:H a=some (.dK kvs)):cq H a (kV k) (bh kvs k):=.inl ⟨kvs,k,.inl e,rfl,rfl⟩
theorem fV.k {H:Hp} {a:Addr} {kvs:List (Key × V)} {k:Key} {v:V} (e:H a=some (.dK kvs)) (hl:kvs.length<sizeLine):fV H a (kV k) v (upd H a (.dK (bI kvs k v))):=.inl ⟨kvs,k,e,rfl,hl,rfl⟩
section
variable {X:Cx} {pins:List (Addr × Obj)} {σ:St} {H:Hp} {s:Shared} {a:Addr} {y v:V} {u r:Value} {o:Option V} {A:Around} {E:Value->Shared->Prop}
theorem Inv.big (I:Inv X pins σ H s):sysModules<s.heap.objs.size:=by
 have h:mainGlobals<s.heap.objs.size:=(I.mod.glob.keeps I.bk).lt
 exact Nat.lt_trans (by decide) h
variable {Q:Value->Shared->Prop}
theorem kL (hu:A.units+1<cLine) (I:Inv X pins σ H s) (g:cq H a y (some v)) (ry:aS y u) (h:∀w' s',Inv X pins σ H s'->aS v w'->Q w' s') :
  wpAny (model X.prog X.w) A (getItem (.ref a) u) Q E s:=by
 rcases g with⟨kvs,k,e,ey,l⟩|⟨kvs,k,b,e,ey,eb,l⟩
 ·subst ey
  obtain⟨z,hd,vs,rel,dd⟩:=gj I.hok e
  obtain⟨w',hw,rw'⟩:=jJ.some_of (v:=v) (o:=valueAt vs k) (by rw[l];exact rel.val k)
  exact wpAny_getItem_of (jl ry) dd.mapOf hw (h w' _ (I.tok _) rw')
 ·subst ey
  cases (show u=Value.ref b from ry)
  obtain⟨z,hd,xs,rel,dd⟩:=kJ I.hok e
  obtain⟨w',hw,rw'⟩:=jJ.some_of (v:=v) (o:=(atKey xs k).map (·.2)) (by rw[l];exact rel.val k)
  obtain⟨p,hp,hp2⟩:=Option.map_eq_some_iff.mp hw
  refine wpAny_getItem_heap (tupleKind_room_in1 hu) (jj I.hok eb) dd hp ?_
  rw[hp2]
  exact h w' _ (I.tok _) rw'
theorem Cg (hu:A.units+1<cLine) (I:Inv X pins σ H s) (g:cq H a y o) (ry:aS y u) (h:∀s',Inv X pins σ H s'->Q (.bool o.isSome) s') :
  wpAny (model X.prog X.w) A (compareOp .In u (.ref a)) Q E s:=by
 rcases g with⟨kvs,k,e,ey,l⟩|⟨kvs,k,b,e,ey,eb,l⟩
 ·subst ey
  obtain⟨z,hd,vs,rel,dd⟩:=gj I.hok e
  refine wpAny_in_of (jl ry) hd dd.mapOf ?_
  rw[<-(rel.val k).isSome_eq,<-l]
  exact h _ (I.tok _)
 ·subst ey
  cases (show u=Value.ref b from ry)
  obtain⟨z,hd,xs,rel,dd⟩:=kJ I.hok e
  refine wpAny_in_heap (tupleKind_room_in1 hu) (jj I.hok eb) hd dd ?_
  have q:=(rel.val k).isSome_eq
  rw[Option.isSome_map]at q
  rw[<-q,<-l]
  exact h _ (I.tok _)
theorem uZ (hu:A.units+1<cLine) (I:Inv X pins σ H s) (g:cq H a y o) (ry:aS y u) (h:∀s',Inv X pins σ H s'->Q (.bool (!o.isSome)) s') :
  wpAny (model X.prog X.w) A (compareOp .NotIn u (.ref a)) Q E s:=by
 rcases g with⟨kvs,k,e,ey,l⟩|⟨kvs,k,b,e,ey,eb,l⟩
 ·subst ey
  obtain⟨z,hd,vs,rel,dd⟩:=gj I.hok e
  refine wpAny_notIn_of (jl ry) hd dd.mapOf ?_
  rw[<-(rel.val k).isSome_eq,<-l]
  exact h _ (I.tok _)
 ·subst ey
  cases (show u=Value.ref b from ry)
  obtain⟨z,hd,xs,rel,dd⟩:=kJ I.hok e
  refine wpAny_notIn_heap (tupleKind_room_in1 hu) (jj I.hok eb) hd dd ?_
  have q:=(rel.val k).isSome_eq
  rw[Option.isSome_map]at q
  rw[<-q,<-l]
  exact h _ (I.tok _)
theorem ir {h':Heap} {t':Nat} {ob:HO} (I:Inv X pins σ H s) (mu:Mut (H a)) (hs:Heap.SameBut a s.heap h') (he:∃q,h'.get? a=some q) (new:bo X.prog X.w (upd H a ob) h' a ob) :
  Inv X pins σ (upd H a ob) { s with heap:=h',toks:=t' } :=
 I.write (x:=a) (e:=a) mu (.inl rfl) (λb q hb z=>(hs.2 b hb).trans z) he new
theorem oP {P:Program} {w:World} {H':Hp} {h':Heap} {kvs:List (Key × V)} {vs:List (Key × Value)} (z:kvs.length<=sizeLine) (hd:(a==sysModules)=false) (rel:KV kvs vs) (dd:h'.DictOf (bi P w) a vs) :
  bo P w H' h' a (.dK kvs):=⟨z,hd,vs,rel,dd⟩
theorem kK {H':Hp} {Q:Unit->Shared->Prop} (hu:A.units+1<cLine) (I:Inv X pins σ H s) (g:fV H a y v H') (ry:aS y u) (rv:aS v r) (h:∀s',Inv X pins σ H' s'->Q () s') :
  wpAny (model X.prog X.w) A (setItem (.ref a) u r) Q E s:=by
 rcases g with⟨kvs,k,e,ey,l,eH⟩|⟨kvs,k,b,e,ey,eb,l,eH⟩
 ·subst ey eH
  obtain⟨z,hd,vs,rel,dd⟩:=tP I.hok e
  have hz:vs.length<=sizeLine:=by rw[<-rel.length];exact z
  have hl:(bI kvs k v).length<=sizeLine:=by have:=dQ kvs k v;omega
  refine wpAny_setItem_pairs (hsz:=hz) (jl ry) dd λh' dd' hs=>h _ ?_
  have he:∃q,h'.get? a=some q:=let ⟨q,_,_,hq,_⟩:=dd';⟨q,hq⟩
  exact ir I (by rw[e];exact True.intro) hs he (oP hl hd (rel.put k rv) dd')
 ·subst ey eH
  cases (show u=Value.ref b from ry)
  obtain⟨z,hd,xs,rel,dd⟩:=A8 I.hok e
  have hz:xs.length<=sizeLine:=by rw[<-Paired.length rel];exact z
  have hl:(bI kvs k v).length<=sizeLine:=by have:=dQ kvs k v;omega
  refine wpAny_setItem_heap (hsz:=hz) (tupleKind_room_in1 hu) (jj I.hok eb) dd λh' dd' hs=>h _ ?_
  obtain⟨q,es,ep,hq,h2,h3,h4,_,h5⟩:=dd'
  refine ir I (by rw[e];exact True.intro) hs ⟨q,hq⟩ ⟨hl,hd,_,(rel.put k eb rv).keeps λc ys ec=>?_,q,es,ep,hq,h2,h3,h4,h5⟩
  rw[aj (AV ec e (λz=>nomatch z))]
  exact ec
end
section
variable {X:Cx} {pins:List (Addr × Obj)} {σ:St} {H:Hp} {s:Shared} {a:Addr} {kvs:List (Key × V)} {k:Key} {u:Value} {A:Around} {E:Value->Shared->Prop}
theorem A9 {Q:Value->Shared->Prop} (I:Inv X pins σ H s) (e:Rd H a (.dK kvs)) (h:∀t s',Inv X pins σ H s'->Q (.int kvs.length t) s'):wpAny (model X.prog X.w) A (call (.builtin "len") [.ref a]) Q E s:=by
 obtain⟨z,hd,vs,rel,dd⟩:=gj I.hok e
 refine call_len_dict hd dd (by rw[<-rel.length];rw[sizeLine_eq]at z;omega) ?_
 rw[<-rel.length]
 exact h _ _ (I.tok _)
end
def Bi (i:Expr):Prop:=∀ov iv,subscripted i false ov iv=operate [ov,iv] (getItem ov iv)
variable {Q E:Value->Shared->Prop} {pos:Pos} {s:Shared}
theorem um {A:Around} {env:Env} {value slice:Expr} {T id:String}
  (hl:typeLookup (.type T) "__getitem__" = pure (some (.builtin id))) (hs:Bi slice)
  (h:wpAny (model prog w) A (eval value env) (λo s₁=>wpAny (model prog w) A (eval slice env) (λi s₂=>s₂.TypeIs o T/\wpAny (model prog w) A (getItem o i) Q E s₂) E s₁) E s) :
  wpAny (model prog w) A (eval (.Subscript value slice pos) env) Q E s:=by
 refine Subscript_ (wpAny_mono h (λo s₁ h₁=>wpAny_mono h₁ (λi s₂ h₂=>?_) λ_ _ x=>x) λ_ _ x=>x)
 obtain⟨hT,h₂⟩:=h₂
 unfold subscriptTail
 refine wpAny_bind ?_
 rw[getitemInPython_of_ne hT.not_modules]
 refine wpAny_bind (wpAny_specialOf hT hl ?_)
 have fin:wpAny (model prog w) A (subscripted slice false o i) (λr s₃=>wpAny (model prog w) A (letTemporaryGo value o r >>= λ_=>pure r) Q E s₃) E s₂:=by
  rw[hs o i]
  exact wpAny_operating (wpAny_mono h₂ (λr s₃ h₃=>wpAny_bind (wpAny_letTemporaryGo (wpAny_pure h₃))) λ_ _ x=>x)
 first
  | exact wpAny_pure (wpAny_bind fin)
  | exact wpAny_bind (wpAny_pure (wpAny_bind fin))
  | exact wpAny_bind fin
variable {pins:List (Addr × Obj)} {X:Cx}
theorem nz {σ:St} {a:Addr} {y:V} {o:Option V} (I:Inv X pins σ H s) (g:cq H a y o):s.TypeIs (.ref a) "dict" := by
 rcases g with⟨kvs,k,e,_,_⟩|⟨kvs,k,b,e,_,_,_⟩
 ·obtain⟨_,_,vs,_,dd⟩:=gj I.hok e
  exact dd.typeIs
 ·obtain⟨_,_,xs,_,dd⟩:=kJ I.hok e
  exact dd.typeIs
def vz (td ty:TE):TE:=λσ H Q=>td σ H λx H1=>ty σ H1 λy H2=>∃a v,x=.ref a/\cq H2 a y (some v)/\Q v H2
def xK (ty td:TE):TE:=λσ H Q=>ty σ H λy H1=>td σ H1 λx H2=>∃a o,x=.ref a/\cq H2 a y o/\Q (.bl o.isSome) H2
def pd (ty td:TE):TE:=λσ H Q=>ty σ H λy H1=>td σ H1 λx H2=>∃a o,x=.ref a/\cq H2 a y o/\Q (.bl (!o.isSome)) H2
def vD (td ty tv:TE):TS:=λD σ H=>tv σ H λv H1=>td σ H1 λx H2=>ty σ H2 λy H3=>∃a H4,x=.ref a/\fV H3 a y v H4/\D.nx σ H4
def vE (td ty tv:TE) (rd:V->V->Hp->VK->Prop):TS:=λD σ H=>td σ H λx H1=>ty σ H1 λy H2=>∃a v,x=.ref a/\cq H2 a y (some v) /\
 tv σ H2 λy2 H3=>rd v y2 H3 λz H4=>∃H5,fV H4 a y z H5/\D.nx σ H5
section
variable {X:Cx} {o i e value:Expr} {pos pos' tpos:Pos} {td ty tv:TE}
theorem bA (hu:X.A.units+1<cLine) (ho:PE X o td) (hi:PE X i ty) (hs:Bi i):PE X (.Subscript o i pos) (vz td ty):=by
 intro pins s σ H Q I h
 refine um PySem.F.slot_dict_getitem.lookup hs (thn (ho pins s σ H _ I h) λu s1 ⟨x,H1,I1,rx,q1⟩=>thn (hi pins s1 σ H1 _ I1 q1) λiv s2 ⟨y,H2,I2,ry,a,v,ex,g,q2⟩=>?_)
 subst ex
 obtain rfl:u=Value.ref a:=rx
 exact⟨nz I2 g,kL hu I2 g ry λw' s3 I3 rw'=>⟨v,H2,I3,rw',q2⟩⟩
theorem wK (hu:X.A.units+1<cLine) (hi:PE X i ty) (ho:PE X o td):PC X .In i o (xK ty td):=by
 intro pins s σ H Q I h
 refine thn (hi pins s σ H _ I h) λiv s1 ⟨y,H1,I1,ry,q1⟩=>thn (ho pins s1 σ H1 _ I1 q1) λu s2 ⟨x,H2,I2,rx,a,ov,ex,g,q2⟩=>?_
 subst ex
 obtain rfl:u=Value.ref a:=rx
 exact Cg hu I2 g ry λs3 I3=>⟨.bl ov.isSome,H2,I3,rfl,q2⟩
theorem fu (hu:X.A.units+1<cLine) (hi:PE X i ty) (ho:PE X o td):PC X .NotIn i o (pd ty td):=by
 intro pins s σ H Q I h
 refine thn (hi pins s σ H _ I h) λiv s1 ⟨y,H1,I1,ry,q1⟩=>thn (ho pins s1 σ H1 _ I1 q1) λu s2 ⟨x,H2,I2,rx,a,ov,ex,g,q2⟩=>?_
 subst ex
 obtain rfl:u=Value.ref a:=rx
 exact uZ hu I2 g ry λs3 I3=>⟨.bl (!ov.isSome),H2,I3,rfl,q2⟩
theorem eF (hu:X.A.units+1<cLine) (ho:PE X o td) (hi:PE X i ty) (hv:PE X value tv) (hs:swapsWith value (some (.Subscript o i pos')) pos.line X.env=pure false) :
  PS X (.Assign [.Subscript o i pos'] value pos) (vD td ty tv):=by
 intro pins s σ H D I h
 refine wpAny_Assign_Subscript (thn (hv pins s σ H _ I h) λr s1 ⟨v,H1,I1,rv,q1⟩=>thn (ho pins s1 σ H1 _ I1 q1) λu s2 ⟨x,H2,I2,rx,q2⟩=>thn (hi pins s2 σ H2 _ I2 q2) λiv s3 ⟨y,H3,I3,ry,a,H4,ex,g,q3⟩=>?_) hs
 subst ex
 obtain rfl:u=Value.ref a:=rx
 exact kK hu I3 g ry rv λs4 I4=>⟨σ,H4,I4,q3⟩
theorem ur {op:Operator} {rd:V->V->Hp->VK->Prop} (hu:X.A.units+1<cLine) (ho:PE X o td) (hi:PE X i ty) (hv:PE X value tv) (hop:Bj X op rd)
  (ha:∀ov iv new,augStore i ov iv new=(do holding [new,ov,iv] (setItem ov iv new);release [new,ov,iv] [];pure .next)):PS X (.AugAssign (.Subscript o i tpos) op value pos) (vE td ty tv rd):=by
 intro pins s σ H D I h
 refine wpAny_AugAssign_SubscriptAny (thn (ho pins s σ H _ I h) λu s1 ⟨x,H1,I1,rx,q1⟩=>thn (hi pins s1 σ H1 _ I1 q1) λiv s2 ⟨y,H2,I2,ry,a,v,ex,g,q2⟩=>?_) ha
 subst ex
 obtain rfl:u=Value.ref a:=rx
 refine kL hu I2 g ry λw' s3 I3 rw'=>thn (hv pins s3 σ H2 _ I3 q2) λw2 s4 ⟨y2,H3,I4,ry2,q3⟩=>thn (hop pins s4 σ H3 v y2 w' w2 _ I4 rw' ry2 q3) λw3 s5 ⟨z,H4,I5,rz,H5,g5,q4⟩=>?_
 exact kK hu I5 g5 ry rz λs6 I6=>⟨σ,H5,I6,q4⟩
end
theorem ny (h:Heap) (hb:sysModules<h.objs.size):bo P w H (h.push { cls:=.type "dict", data:=.dict #[] }) h.objs.size (.dK []) :=
 ⟨Nat.zero_le _,beq_eq_false_iff_ne.mpr (Ne.symm (Nat.ne_of_lt hb)),[],.nil,Heap.DictOf.new h⟩
def ww:TE:=λ_ H Q=>∀p,H p=none->Q (.ref p) (upd H p (.dK []))
section
variable {X:Cx} {pos:Pos}
theorem d_:PE X (.Dict [] [] pos) ww:=λpins s σ H Q I h =>
 wpAny_Dict_empty ⟨.ref s.heap.objs.size,_,I.laid (a:=s.heap.objs.size) (o:=.dK []) (t':=s.toks) (λ_ _ q=>Heap.get?_push_of_some _ q) (Nat.le_refl _) (ny s.heap I.big),rfl,h _ (I.hok.fresh (Nat.le_refl _))⟩
end
def nO:List (TE × TE)->St->Hp->(List (V × V)->Hp->Prop)->Prop
 | [],_,H,Q=>Q [] H
 | (tk,tv)::r,σ,H,Q=>tk σ H λx H1=>tv σ H1 λy H2=>nO r σ H2 λps H3=>Q ((x,y)::ps) H3
abbrev VV:List (V × V)->List (Value × Value)->Prop:=Paired λp q=>aS p.1 q.1/\aS p.2 q.2
def PPs (X:Cx) (pos:Pos) (keys:List (Option Expr)) (values:List Expr) (trs:List (TE × TE)):Prop :=
 ∀(pins:List (Addr × Obj)) (s:Shared) (σ:St) (H:Hp) (Q:List (V × V)->Hp->Prop),Inv X pins σ H s->nO trs σ H Q ->
  wpAny (model X.prog X.w) X.A (evalPairs (pairTrees keys values X.env pos)) (λvs s'=>∃ps H',Inv X pins σ H' s'/\VV ps vs/\Q ps H') X.xe s
theorem ut:PPs X pos [] [] []:=λpins s σ H Q I h=>pairTrees_nil_walk ⟨[],H,I,.nil,h⟩
variable {trs:List (TE × TE)}
theorem se {k v:Expr} {ks:List (Option Expr)} {vs:List Expr} {tk tv:TE} (hk:PE X k tk) (hv:PE X v tv) (hr:PPs X pos ks vs trs) :
  PPs X pos (some k::ks) (v::vs) ((tk,tv)::trs):=λpins s σ H Q I h =>
 pairTrees_cons_walk (thn (hk pins s σ H _ I h) λu s1 ⟨x,H1,I1,rx,q1⟩=>thn (hv pins s1 σ H1 _ I1 q1) λw2 s2 ⟨y,H2,I2,ry,q2⟩ =>
  thn (hr pins s2 σ H2 _ I2 q2) λws s3 ⟨ps,H3,I3,rel,q3⟩=>⟨(x,y)::ps,H3,I3,.cons ⟨rx,ry⟩ rel,q3⟩)
def jd (kvs more:List (Key × V)):List (Key × V):=more.foldl (λacc kv=>bI acc kv.1 kv.2) kvs
theorem KV.merge:∀{more:List (Key × V)} {rs:List (Key × Value)} {kvs:List (Key × V)} {vs:List (Key × Value)},KV more rs->KV kvs vs->KV (jd kvs more) (merged vs rs):=by
 intro more rs kvs vs r
 unfold KV at r
 induction r generalizing kvs vs with
 | nil=>intro q;exact q
 | @cons p q ps qs h t ih =>
  intro r0
  have e:KV (bI kvs p.1 p.2) (stored vs q.1 q.2):=by
   have:=r0.put p.1 h.2
   rw[<-h.1];exact this
  exact ih e
theorem fD:∀(more kvs:List (Key × V)),(jd kvs more).length<=kvs.length+more.length
 | [],kvs=>by show kvs.length<=kvs.length+0;omega
 | p::r,kvs=>by
  have h1:=fD r (bI kvs p.1 p.2)
  have h2:=dQ kvs p.1 p.2
  show (jd (bI kvs p.1 p.2) r).length<=_
  rw[List.length_cons];omega
theorem jw {P:Program} {w:World}:∀{kvs:List (Key × V)} {ws:List (Value × Value)},VV (kvs.map λkv=>(kV kv.1,kv.2)) ws->∃rs,Carries (bi P w) ws rs/\KV kvs rs
 | [],_,r=>by rw[List.map_nil]at r;cases r;exact⟨[],True.intro,.nil⟩
 | p::kvs,_,r=>by
  rw[List.map_cons]at r
  cases r with
  | @cons a b as bs h t =>
   obtain⟨rs,c,q⟩:=jw (P:=P) (w:=w) t
   obtain⟨b1,b2⟩:=b
   exact⟨(p.1,b2)::rs,⟨jl h.1,rfl,c⟩,.cons ⟨rfl,h.2⟩ q⟩
def xJ (trs:List (TE × TE)):TE:=λσ H Q=>∀p,H p=none->nO trs σ (upd H p (.dK [])) λps H2=>H2 p=some (.dK [])/\∃kvs:List (Key × V),ps=kvs.map (λkv=>(kV kv.1,kv.2))/\kvs.length<=15/\Q (.ref p) (upd H2 p (.dK (jd [] kvs)))
theorem ux {keys:List (Option Expr)} {values:List Expr} (h:PPs X pos keys values trs) (hall:keys.all (·.isSome)=true) (hl:keys.length=values.length) (h0:keys≠[])
  (h15:keys.length<=15):PE X (.Dict keys values pos) (xJ trs):=by
 intro pins s σ H Q I q
 have hn:=I.hok.fresh (Nat.le_refl s.heap.objs.size)
 have I1:=I.laid (a:=s.heap.objs.size) (o:=.dK []) (h':=s.heap.push { cls:=.type "dict", data:=.dict #[] }) (t':=s.toks) (λ_ _ q=>Heap.get?_push_of_some _ q) (Nat.le_refl _) (ny s.heap I.big)
 refine wpAny_Dict_walk (knd:=bi X.prog X.w) hall hl h0 h15 (thn (h pins _ σ _ _ I1 (q _ hn)) λws s2 ⟨ps,H2,I2,rel,e,kvs,ep,lk,q2⟩=>?_)
 subst ep
 obtain⟨rs,c,rk⟩:=jw (P:=X.prog) (w:=X.w) rel
 obtain⟨z,hd,vs0,r0,dd⟩:=tP I2.hok e
 cases r0
 refine⟨rs,c,dd,λh' dd' hs=>⟨.ref s.heap.objs.size,_,?_,rfl,q2⟩⟩
 have hz:(jd [] kvs).length<=sizeLine:=by
  have h1:=fD kvs []
  rw[List.length_nil]at h1
  rw[sizeLine_eq];omega
 have he:∃q,h'.get? s.heap.objs.size=some q:=let ⟨q,_,_,hq,_⟩:=dd';⟨q,hq⟩
 exact ir I2 (by rw[e];exact True.intro) hs he (oP hz hd (rk.merge .nil) dd')
structure M1 (X:Cx) (o:Expr) (m:Str) (apos:Pos) (e:Expr) (cpos:Pos):Prop where
 base:attributeBase o m X.env (eval o X.env)=eval o X.env
 few:((backTo cpos (starEach [e] X.env)).all (λx=>!x.1)&&(backToKw cpos (keywordEach [] X.env)).all (λx=>x.1.isSome)
  && decide (([e]:List Expr).length+([]:List Keyword).length+(if ([]:List Keyword).isEmpty then 0 else 1)<30))=true
 line:(apos.endLine==cpos.line)=true
 trees:backTo cpos (starEach [e] X.env)=[(false,eval e X.env)]
structure M2 (X:Cx) (o:Expr) (m:Str) (apos:Pos) (e f:Expr) (cpos:Pos):Prop where
 base:attributeBase o m X.env (eval o X.env)=eval o X.env
 few:((backTo cpos (starEach [e,f] X.env)).all (λx=>!x.1)&&(backToKw cpos (keywordEach [] X.env)).all (λx=>x.1.isSome)
  && decide (([e,f]:List Expr).length+([]:List Keyword).length+(if ([]:List Keyword).isEmpty then 0 else 1)<30))=true
 line:(apos.endLine==cpos.line)=true
 trees:backTo cpos (starEach [e,f] X.env)=[(false,eval e X.env),(false,eval f X.env)]
def IsD (H:Hp) (a:Addr):Prop:=(∃kvs,Rd H a (.dK kvs))\/∃kvs,Rd H a (.dT kvs)
theorem xj {σ:St} {a:Addr} (I:Inv X pins σ H s) (d:IsD H a) :
  s.TypeIs (.ref a) "dict" /\ (∀b,Value.ref a=.ref b->∃ob,s.heap.get? b=some ob/\ob.dict=none)/\(a==sysModules)=false:=by
 rcases d with⟨kvs,e⟩|⟨kvs,e⟩
 ·obtain⟨_,hd,vs,_,dd⟩:=gj I.hok e
  refine⟨dd.typeIs,λb q=>?_,hd⟩
  cases q
  obtain⟨ob,_,_,h1,h2,_⟩:=dd
  exact⟨ob,h1,h2.2.1⟩
 ·obtain⟨_,hd,xs,_,dd⟩:=kJ I.hok e
  refine⟨dd.typeIs,λb q=>?_,hd⟩
  cases q
  obtain⟨ob,_,_,h1,h2,_⟩:=dd
  exact⟨ob,h1,h2.2.1⟩
section
variable {X:Cx} {pins:List (Addr × Obj)} {σ:St} {H:Hp} {s:Shared} {a:Addr} {y d:V} {u r:Value} {o:Option V} {A:Around} {E:Value->Shared->Prop}
end
section
variable {X:Cx} {o e f:Expr} {apos cpos:Pos} {td ty tx:TE}
end
section
variable {X:Cx} {pins:List (Addr × Obj)} {σ:St} {H:Hp} {s:Shared} {a:Addr} {kvs:List (Key × V)} {A:Around} {E:Value->Shared->Prop}
end
section
variable {X:Cx} {pins:List (Addr × Obj)} {σ:St} {H:Hp} {s:Shared} {a:Addr} {y:V} {u:Value} {A:Around} {E:Value->Shared->Prop}
end
end L2
namespace Att
open PySem PySem.W PySem.Calls PyProof.Rows
theorem h_ {P:Params} {h:Heap}:∀(ns:List Int) (vs:List Value),WellAll P h vs (ns.map WData.int)->IntsAre vs ns:=by
 intro ns
 induction ns with
 | nil =>
  intro vs w
  rw[List.map_nil]at w
  cases w
  exact .nil
 | cons n ns ih =>
  intro vs w
  rw[List.map_cons]at w
  cases w with
  | cons a b =>
   cases a
   exact .cons _ _ (ih _ b)
theorem qt {l:OpenLaw} {n:Nat} (hn:l.most=some n) {P:Params} {h:Heap} {args:List WData} {vals:List Value}
  (hpre:l.row.toRowW.claim.pre args=true) (hwl:WellAll P h vals args) :
  ∃a vs ns,vals=[Value.ref a]/\args=[WData.list (ns.map WData.int)]/\h.get? a=some { cls:=.type "list", data:=.seq vs.toArray }/\IntsAre vs ns/\ns.length<=n:=by
 have hsh:WShape.hasAll [] args [.list .int]=true:=(pre_splitW hpre).1
 have hc:l.pre.holds [] { args:=args }=true:=(pre_splitW hpre).2
 obtain⟨d,r,rfl,h1,h2⟩:=hasAllW_cons hsh
 obtain rfl:=hasAllW_nil h2
 obtain⟨xs,rfl,h3⟩:=hasW_list h1
 obtain⟨ns,rfl⟩:=items_int h3
 have hlen:ns.length<=n:=by
  unfold OpenLaw.pre at hc
  have h4:(WTm.not (.lt (.lit (.int (n:Int))) (.len (.arg 0)))).holds [] { args:=[.list (ns.map .int)] }=true:=by
   have h4:=(holds_andW hc).1
   rw[hn]at h4
   exact h4
  have h5:=condW_of h4 (w_not (w_lt w_lit (w_len_list (w_arg rfl))))
  rw[List.length_map]at h5
  refine Nat.le_of_not_lt λq=>?_
  have q':(n:Int)<((ns.length:Nat):Int):=by omega
  first
   | (rw[decide_eq_true q']at h5;exact absurd h5 (by decide))
   | (simp at h5;omega)
 cases hwl with
 | cons w1 w2 =>
  cases w2
  cases w1 with
  | list ho hall=>exact⟨_,_,ns,rfl,rfl,ho,h_ ns _ hall,hlen⟩
theorem qx (l:OpenLaw) (args:List WData):l.row.toRowW.claim.post args (.bool true) args=true :=
 postW_of (r:=l.row.toRowW) (X:=(true==true))
  (show WShape.has [] (.bool true) .bool=true by first|rfl|decide|simp[WShape.has,WShape.arms,WShape.armsAll])
  (show (WTm.eq .res (.lit (.bool true))).value [] { args:=args,res:=some (.bool true),after:=args }=some (.bool (true==true)) from w_eq_bool (w_res rfl) w_lit) rfl
theorem nG {l:OpenLaw} {n:Nat} {q:Program} {loose:List Str} {XP:(Str->Option Value)->Heap->Prop} {YP:World->Heap->Prop} {d:DefRec}
  (hn:l.most=some n) (hdf:d.params.defaults=[])
  (call:∀(w:World) (s₀ s₁:Shared) (mg mb:Str->Option Value) (fa:Addr) (o:Obj) (pm cd doc:Value) (a:Addr) (vs:List Value) (ns:List Int),
   Ground q loose [] XP w s₀ mg mb s₁.heap->YP w s₁.heap ->
   s₁.heap.get? fa=some o->o.data=.func (docDef d.name d.params d.body d.scope pm cd doc)->s₁.heap.CodeRec cd d.name->mg d.name=some (.ref fa) ->
   s₁.heap.get? a=some { cls:=.type "list", data:=.seq vs.toArray }->IntsAre vs ns->ns.length<=n->s₁.gens=#[] ->
   codeAny (model l.prog w) callerA (.call (.ref fa) ⟨[.ref a],[]⟩) (λr s'=>r=.ok (.ret (.bool true))/\OldK s₁.heap s'.heap/\s'.os=s₁.os/\AllBare s'.gens) s₁) :
  WalkO q loose XP YP l.row.toRowW d [] (λf vs=>PySem.call f vs):=by
 intro w s₀ s₁ mg mb G Y fa o pm cd doc dV kV ho hd hcd hD hmg hg args vals as hpre hlay hrd hwl hlo
 obtain rfl:dV=.none:=Dflts.none hD hdf
 obtain rfl:kV=.none:=Dflts.noKw hD
 obtain⟨a,vs,ns,rfl,rfl,hobj,hints,hlen⟩:=qt hn hpre hwl
 refine enter_call (codeAny_mono (call w s₀ s₁ mg mb fa o pm cd doc a vs ns G Y ho (fd_plain hd) hcd hmg hobj hints hlen hg) λr s' hq=>?_)
 obtain⟨rfl,h2,h3,h4⟩:=hq
 exact⟨.inl ⟨.bool true,.bool true,[],rfl,λ_=>rfl,.bool true,qx l _,λ_=>⟨List.Pairwise.nil,λ_ hm=>(nomatch hm)⟩⟩,h2,h3,h4⟩
section
variable {prog:Program} {w:World} {A:Around} {E:Value->Shared->Prop} {s:Shared} {K:Frag}
end
end Att
namespace L2
open PySem PySem.Spec PyProof.Rows
theorem kf:∀{vs:List Value} {ns:List Int},IntsAre vs ns->aY (ns.map V.int) vs
 | _,_,.nil=>.nil
 | _,_,.cons n t h=>.cons ⟨t,rfl⟩ (kf h)
end L2
/- THE LAST THEOREM (shape;LID,My.* are yours):
  My.Adr: a structure of the addresses that your layer names (classes,functions);My.Txt K t: a structure (Prop) of the equations over K;
  My.txt_mk:{K} {implicit addresses ..} (e1:nsIn K mainGlobals "law" = some (some (.ref f))) (e2:K.lookup f=some ⟨oc,od,.func (fnOf "law" "law" params body scope dV kV doc pm an cdv ct),sl⟩) (e3:codeIn K cdv "law" = true) ..:∃t,My.Txt K t
(the tactic k_is has no namespace: write k_is) -/
namespace L2
open PySem PySem.Spec PyProof.Rows
abbrev CX0:CXT:=λ_ _ _ _ _ _=>False
abbrev E0:XK:=λ_ _ _=>False
theorem vN {X:Cx}:jK CX0 X E0:=λ_ _ _ _ _ _ _ h=>h.elim
structure Fun (K:PySem.W.Frag) (x qual:Str) (st:Stmt) (f:Addr) (fd:FuncData):Prop where
 ex:∃(oc:Value) (od:Option Addr) (kV doc pm:Value) (an:Option Addr) (cdv ct:Value) (osl:Array (Option Value)),
  fd=PySem.W.fnOf x qual (du st) (cw st) (ay st) .none kV doc pm an cdv ct/\K.lookup f=some ⟨oc,od,.func fd,osl⟩/\PySem.W.codeIn K cdv qual=true
 kp:PySem.W.keepIn K (.ref f)=true
section
variable {P:Program} {w:World} {K:PySem.W.Frag} {mg:Str->Option Value} {base:Heap}
variable {x qual:Str}
theorem Fun.ok {st:Stmt} {f:Addr} {fd:FuncData} {N ps:List Str} {k:Nat} {sp:Sp} (F:Fun K x qual st f fd) (S:FnScope N ps (ay st)) (len:∀vs H Q E,sp vs H Q E->vs.length=ps.length)
  (hbody:∀(cdv:Value) (A:Around) (outer:List Env) (s:Shared) (H:Hp) (vs:List V) (Q:VK) (E:XK),Room k (A.deeper (envOfC qual (ay st) s.heap.objs.size f cdv))->sp vs H Q E ->
   ∃t,PSs (cxOf CX0 P w K mg base N qual (ay st) f cdv A outer s H E).nox (cw st) t/\t { nx:=λ_ H'=>Q .non H',rt:=Q } (start N vs) H):FnOk P w K mg base CX0 (k+1) f fd ps sp:=by
 obtain⟨oc,od,kV,doc,pm,an,cdv,ct,osl,rfl,lk,hcd⟩:=F.ex
 refine wn lk hcd S len λA outer s H vs Q E hr hsp=>?_
 obtain⟨t,h,q⟩:=hbody cdv A outer s H vs Q E hr hsp
 exact⟨t,h.nox,q⟩
theorem Fun.binds {st:Stmt} {f:Addr} {fd:FuncData} {ps:List Str} (F:Fun K x qual st f fd)
  (h:∀(kV doc pm:Value) (an:Option Addr) (cdv ct:Value) (us:List Value),us.length=ps.length->bindArgs (PySem.W.fnOf x qual (du st) (cw st) (ay st) .none kV doc pm an cdv ct) ⟨us,[]⟩=pure (ps.zip us)):gr K fd ps []:=by
 obtain⟨oc,od,kV,doc,pm,an,cdv,ct,osl,rfl,lk,hcd⟩:=F.ex
 exact .all (h kV doc pm an cdv ct)
theorem oM {st:Stmt} {f:Addr} {oc:Value} {od an:Option Addr} {osl:Array (Option Value)} {kV doc pm cdv ct:Value} (l:K.lookup f=some ⟨oc,od,.func (PySem.W.fnOf x qual (du st) (cw st) (ay st) .none kV doc pm an cdv ct),osl⟩)
  (c:PySem.W.codeIn K cdv qual=true) (k:PySem.W.keepIn K (.ref f)=true):Fun K x qual st f (PySem.W.fnOf x qual (du st) (cw st) (ay st) .none kV doc pm an cdv ct):=⟨⟨oc,od,kV,doc,pm,an,cdv,ct,osl,rfl,l,c⟩,k⟩
end
theorem de {A:Around} {k:Nat} (hr:Room k A):A.units+1<cLine:=Nat.lt_of_le_of_lt (Nat.add_le_add_left (by decide:1<=64) _) hr.units
section
variable {X:Cx}
theorem pv (i:Nat) {x:Str} {pos:Pos} (hN:X.N[i]?=some x:=by rfl) (hv:Vis X.env.scope x:=by first|exact Or.inl rfl|exact Or.inr (Or.inl rfl)|exact Or.inr (Or.inr rfl)) (hd:(x==("__debug__" : Str))=false:=by decide)
  (hcd:(x==("__classdict__" : Str))=false:=by decide):PE X (.Name x pos) (cI i):=wG hN hv hd hcd
end
variable {A B c:Prop}
theorem iteF (h:B):if false=true then A else B:=by
 rw[if_neg Bool.false_ne_true]
 exact h
theorem iteT (h:A):if true=true then A else B:=by
 rw[if_pos rfl]
 exact h
theorem d6 [Decidable c] (h1:c->A) (h2:¬c->B):if c then A else B:=by
 by_cases h:c
 ·rw[if_pos h]
  exact h1 h
 ·rw[if_neg h]
  exact h2 h
def ao (H H':Hp):Prop:=∀b o,H b=some o->H' b=some o
theorem ao.refl (H:Hp):ao H H:=λ_ _ h=>h
theorem ao.trans {H H1 H2:Hp} (a:ao H H1) (b:ao H1 H2):ao H H2:=λc o h=>b c o (a c o h)
theorem ao.free {H H':Hp} (e:ao H H') {l:Addr} (h:H' l=Option.none):H l=Option.none:=by
 cases q:H l with
 | none=>rfl
 | some o =>
  rw[e l o q]at h
  cases h
theorem ao.seq {K:PySem.W.Frag} {H H':Hp} {a:Addr} {xs:List V} (e:ao H H') (h:SqL K H a xs):SqL K H' a xs:=by
 rcases h with(h|⟨o,h⟩)|h
 ·exact .inl (.inl (e _ _ h))
 ·exact .inl (.inr ⟨o,e _ _ h⟩)
 ·exact .inr h
section
variable {κ:Type} [DecidableEq κ]
variable {kvs:List (κ × V)}
theorem rD {k:κ} (h:bh kvs k=none):¬k∈kvs.map (·.1):=by
 intro m
 obtain⟨p,hp,e⟩:=List.mem_map.mp m
 have q:(kvs.any λkv=>decide (kv.1=k))=true:=List.any_eq_true.mpr ⟨p,hp,decide_eq_true e⟩
 rw[cK,h]at q
 exact absurd q (by simp)
theorem ud {k:κ} {v:V} (h:bh kvs k=some v):k∈kvs.map (·.1):=by
 have q:(kvs.any λkv=>decide (kv.1=k))=true:=by
  rw[cK,h]
  all_goals rfl
 obtain⟨p,hp,e⟩:=List.any_eq_true.mp q
 exact List.mem_map.mpr ⟨p,hp,of_decide_eq_true e⟩
end
section
variable {X:Cx}
theorem rg:dX X (.builtin "len") (λxs H Q=>∃a kvs,xs=[V.ref a]/\H a=some (.dK kvs)/\Q (.int kvs.length) H):=by
 intro pins s σ H xs us Q I r h
 obtain⟨a,kvs,rfl,ha,q⟩:=h
 obtain⟨u,rfl,ru⟩:=eP r
 cases ru
 exact A9 I (.inl ha) λt s' I'=>⟨.int kvs.length,H,I',⟨t,rfl⟩,q⟩
end
end L2
set_option maxHeartbeats 4000000
namespace L2
open PySem PySem.Spec PyProof.Rows
def wk:St->St->Prop
 | [],[]=>True
 | none::a,_::b=>wk a b
 | some x::a,y::b=>y=some x/\wk a b
 | _,_=>False
theorem kW:∀{a b:St},wk a b->a.length=b.length
 | [],[],_=>rfl
 | [],_::_,h=>h.elim
 | none::_,[],h=>h.elim
 | some _::_,[],h=>h.elim
 | none::a,_::b,h=>congrArg (·+1) (kW (a:=a) (b:=b) h)
 | some _::a,_::b,h=>congrArg (·+1) (kW (a:=a) (b:=b) h.2)
theorem kX:∀{a b:St},wk a b->∀(i:Nat) (v:V),a[i]?=some (some v)->b[i]?=some (some v)
 | [],[],_,i,v,e=>by simp at e
 | [],_::_,h,_,_,_=>h.elim
 | none::_,[],h,_,_,_=>h.elim
 | some _::_,[],h,_,_,_=>h.elim
 | none::a,y::b,h,0,v,e=>by simp at e
 | none::a,y::b,h,i+1,v,e=>by
  have:=kX (a:=a) (b:=b) h i v (by simpa using e)
  simpa using this
 | some x::a,y::b,h,0,v,e=>by
  have e':x=v:=by simpa using e
  subst e'
  rw[h.1];rfl
 | some x::a,y::b,h,i+1,v,e=>by
  have:=kX (a:=a) (b:=b) h.2 i v (by simpa using e)
  simpa using this
def cU (env:Env):List (Str × NameKind)->List (Str × Addr)->List (Str × Addr)
 | [],acc=>acc
 | (n,k)::r,acc=>cU env r (if (k==.free)=true then (n,(env.cells.lookup n).getD 0)::acc else acc)
theorem ju {env:Env}:∀(ns:List (Str × NameKind)) (acc:List (Str × Addr)),(∀y∈ns,y.2=.free->∃c,env.cells.lookup y.1=some c) ->
  (forIn ns acc (fun x r=>match x with
   | (name,kind)=>if (kind==NameKind.free)=true then (do let c <-cellOf env name;pure (ForInStep.yield ((name,c)::r))) else pure (ForInStep.yield r)):Sem (List (Str × Addr)))=pure (cU env ns acc)
 | [],acc,_=>rfl
 | (n,k)::r,acc,h=>by
  rw[List.forIn_cons]
  have ih:=λa=>ju (env:=env) r a λy hy=>h y (List.mem_cons_of_mem _ hy)
  by_cases hk:(k==NameKind.free)=true
  ·obtain⟨c,hc⟩:=h (n,k) List.mem_cons_self (by simpa using hk)
   have e1:cellOf env n=pure c:=by unfold cellOf;rw[hc]
   simp only[hk,if_true,e1,pure_bind]
   unfold cU
   simp only[hk,if_true,hc,Option.getD_some]
   exact ih _
  ·simp only[hk,if_false,pure_bind]
   unfold cU
   simp only[hk,if_false]
   exact ih _
variable {env:Env} {scope:Scope}
theorem jv (h:∀y∈scope.names,y.2=.free->∃c,env.cells.lookup y.1=some c):closureFor scope env=pure (cU env scope.names []):=by
 have e:=ju scope.names [] h
 unfold closureFor
 first
  | (rw[show (forIn scope.names ([]:List (Str × Addr)) _:Sem (List (Str × Addr)))=pure (cU env scope.names []) from e];rfl)
  | (simp only[bind_pure];exact e)
  | exact(congrArg (· >>= pure) e)
theorem gQ {env:Env}:∀(ns:List (Str × NameKind)) (acc:List (Str × Addr)) (n:Str) (a:Addr),(n,a)∈cU env ns acc->(n,a)∈acc\/(a=(env.cells.lookup n).getD 0/\(n,NameKind.free)∈ns)
 | [],acc,n,a,h=>.inl h
 | (m,k)::r,acc,n,a,h=>by
  unfold cU at h
  by_cases hk:(k==NameKind.free)=true
  ·rw[if_pos hk]at h
   rcases gQ r _ n a h with q|⟨q1,q2⟩
   ·rcases List.mem_cons.mp q with q|q
    ·cases q
     have hk':k=.free:=by simpa using hk
     subst hk'
     exact .inr ⟨rfl,List.mem_cons_self⟩
    ·exact .inl q
   ·exact .inr ⟨q1,List.mem_cons_of_mem _ q2⟩
  ·rw[if_neg hk]at h
   rcases gQ r _ n a h with q|⟨q1,q2⟩
   ·exact .inl q
   ·exact .inr ⟨q1,List.mem_cons_of_mem _ q2⟩
theorem kO {env:Env}:∀(ns:List (Str × NameKind)) (acc:List (Str × Addr)) (p:Str × Addr),p∈acc->p∈cU env ns acc
 | [],_,_,h=>h
 | (m,k)::r,acc,p,h=>by
  unfold cU
  refine kO r _ p ?_
  split
  ·exact List.mem_cons_of_mem _ h
  ·exact h
theorem jt {env:Env}:∀(ns:List (Str × NameKind)) (acc:List (Str × Addr)) (n:Str),(n,NameKind.free)∈ns->(n,(env.cells.lookup n).getD 0)∈cU env ns acc
 | [],_,_,h=>nomatch h
 | (m,k)::r,acc,n,h=>by
  unfold cU
  rcases List.mem_cons.mp h with q|q
  ·cases q
   refine kO r _ _ ?_
   rw[if_pos (by rfl)]
   exact List.mem_cons_self
  ·exact jt r _ n q
theorem dG {α β:Type} [BEq α] [LawfulBEq α]:∀{l:List (α × β)} {x:α} {y:β},l.lookup x=some y->(x,y)∈l
 | [],_,_,h=>by simp at h
 | (a,b)::r,x,y,h=>by
  rw[List.lookup_cons]at h
  by_cases e:(x==a)=true
  ·rw[e]at h
   have e':x=a:=by simpa using e
   have h':b=y:=by simpa using h
   subst e' h'
   exact List.mem_cons_self
  ·have e2:(x==a)=false:=by simpa using e
   rw[e2]at h
   exact List.mem_cons_of_mem _ (dG (by simpa using h))
theorem fB {α β:Type} [BEq α] [LawfulBEq α]:∀{l:List (α × β)} {x:α} {y:β},(x,y)∈l->∃z,l.lookup x=some z
 | [],_,_,h=>nomatch h
 | (a,b)::r,x,y,h=>by
  rw[List.lookup_cons]
  by_cases e:(x==a)=true
  ·rw[e];exact⟨b,rfl⟩
  ·have e2:(x==a)=false:=by simpa using e
   rw[e2]
   rcases List.mem_cons.mp h with q|q
   ·cases q;simp at e
   ·exact fB q
variable {c it e T a p:Addr} {x z:Str} {ns:List (Str × NameKind)}
theorem tV (h:(cU env ns []).lookup x=some c) (hall:∀y∈ns,y.2=.free->∃c,env.cells.lookup y.1=some c):env.cells.lookup x=some c:=by
 rcases gQ ns [] x c (dG h) with q|⟨q1,q2⟩
 ·nomatch q
 ·obtain⟨c',hc⟩:=hall _ q2 rfl
  have hc':env.cells.lookup x=some c':=hc
  rw[hc']at q1
  rw[hc',q1];rfl
theorem pZ {env:Env} (h:(x,NameKind.free)∈ns):∃c,(cU env ns []).lookup x=some c:=fB (jt ns [] x h)
def Cx.block (X:Cx) (N:List Str) (scope:Scope) (C:Addr) (s:Shared) (H:Hp) (fp:List Addr):Cx :=
 { X with N:=N,s₀:=s,H₀:=H,env:=compEnvC scope (cU X.env scope.names []) C X.env,outer:=X.stack,ex:=fp,fn:=λ_=>false,pn:=[],xe:=λ_ _=>False }
theorem lH {k:NameKind} (h:(relabel scope env).names.lookup x=some k):∃k',scope.names.lookup x=some k'/\(k=k'\/(k'=.free/\k=.cell)):=by
 unfold relabel at h
 generalize scope.names=ns at h
 induction ns with
 | nil=>simp at h
 | cons p r ih =>
  obtain⟨n,k0⟩:=p
  rw[List.map_cons]at h
  by_cases e:(x==n)=true
  ·refine⟨k0,by rw[List.lookup_cons,e],?_⟩
   by_cases c:(k0==NameKind.free&&env.scope.kind==.function&&env.kindOf n==some .cell)=true
   ·have h1:some NameKind.cell=some k:=by
     have h2:=h
     simp only[c,if_true]at h2
     rw[List.lookup_cons,e]at h2
     exact h2
    have h3:k0=.free:=by
     simp only[Bool.and_eq_true,beq_iff_eq]at c
     exact c.1.1
    exact .inr ⟨h3,(Option.some.inj h1).symm⟩
   ·have h1:some k0=some k:=by
     have h2:=h
     simp only[c,Bool.false_eq_true,if_false]at h2
     rw[List.lookup_cons,e]at h2
     exact h2
    exact .inl (Option.some.inj h1).symm
  ·have e2:(x==n)=false:=by simpa using e
   rw[List.lookup_cons,e2]
   refine ih ?_
   by_cases c:(k0==NameKind.free&&env.scope.kind==.function&&env.kindOf n==some .cell)=true
   ·have h2:=h
    simp only[c,if_true]at h2
    rw[List.lookup_cons,e2]at h2
    exact h2
   ·have h2:=h
    simp only[c,Bool.false_eq_true,if_false]at h2
    rw[List.lookup_cons,e2]at h2
    exact h2
theorem lI (h:scope.names.lookup x=some .free):(relabel scope env).names.lookup x=some .cell\/(relabel scope env).names.lookup x=some .free:=by
 unfold relabel
 show List.lookup x (scope.names.map _)=_\/List.lookup x (scope.names.map _)=_
 generalize scope.names=ns at h
 induction ns with
 | nil=>simp at h
 | cons p r ih =>
  obtain⟨n,k0⟩:=p
  rw[List.map_cons]
  by_cases e:(x==n)=true
  ·rw[List.lookup_cons,e]at h
   have h':k0=.free:=by simpa using h
   subst h'
   by_cases c:(NameKind.free==NameKind.free&&env.scope.kind==.function&&env.kindOf n==some .cell)=true
   ·left
    simp only[c,if_true]
    rw[List.lookup_cons,e]
   ·right
    simp only[c,Bool.false_eq_true,if_false]
    rw[List.lookup_cons,e]
  ·have e2:(x==n)=false:=by simpa using e
   rw[List.lookup_cons,e2]at h
   have h3:=ih h
   by_cases c:(k0==NameKind.free&&env.scope.kind==.function&&env.kindOf n==some .cell)=true
   ·simp only[c,if_true]
    rw[List.lookup_cons,e2]
    exact h3
   ·simp only[c,Bool.false_eq_true,if_false]
    rw[List.lookup_cons,e2]
    exact h3
def vj (X:Cx) (ifs:List Expr) (t:TT):Prop :=
 ∀(pins:List (Addr × Obj)) (s:Shared) (σ:St) (H:Hp) (Q:Bool->Hp->Prop),Inv X pins σ H s->t σ H Q ->
  wpAny (model X.prog X.w) X.A (forIn ifs true λc r=>if r=true then do let ok <-isTrue c X.env (eval c X.env);pure (ForInStep.yield ok) else pure (ForInStep.yield r)) (TP X pins σ Q) X.xe s
def gv:TT:=λ_ H Q=>Q true H
theorem b_ {X:Cx}:vj X [] gv:=λ_ _ _ H _ I h=>wpAny_tests_nil ⟨H,I,h⟩
theorem f8 {X:Cx} {c:Expr} {t:TT} (h:PT X c t):vj X [c] t:=λpins s σ H Q I hw=>wpAny_tests_one (h pins s σ H Q I hw)
variable {pos px:Pos} {w:World} {prog P:Program}
theorem gk {A:Around} {R:Result->Shared->Prop} {s:Shared} {elt target iter:Expr} {ifs:List Expr} {it acc:Value} (I:Nat->Shared->Prop)
  (turn:∀n s,I n s->wpAny (model prog w) A (pyNext it) (fun r s1=>match r with
   | none=>R (.ok .next) s1
   | some v=>wpAny (model prog w) A (letOwnedTupleGo target it v) (λ_ s2=>wpAny (model prog w) A (assign target env v) (λ_ s3 =>
     wpAny (model prog w) A (forIn ifs true λc r=>if r=true then do let ok <-isTrue c env (eval c env);pure (ForInStep.yield ok) else pure (ForInStep.yield r)) (λok s4 =>
      if ok=true then wpAny (model prog w) A (eval elt env) (λx s5 =>
       wpAny (model prog w) A (call (.builtin "list.append") [acc,x]) (λ_ s6=>∃m,m<n/\I m s6) (λ_ _=>False) s5) (λ_ _=>False) s4
      else ∃m,m<n/\I m s4) (λ_ _=>False) s3) (λ_ _=>False) s2) (λ_ _=>False) s1) (λ_ _=>False) s)
  (n:Nat) (h:I n s):codeAny (model prog w) A (.compLoop (.ListComp elt [⟨target,iter,ifs,0⟩] scope pos) 0 it acc env) R s:=by
 refine codeAny_loop rfl I (λn s hI=>?_) n h
 show wpAny _ A ((compTurn (.ListComp elt [⟨target,iter,ifs,0⟩] scope pos) 0 it acc env).onRaise (λx=>do noteFrame x env;theTreesLotGoes x)) _ _ s
 refine wpAny_noted ?_
 rw[compTurn_list]
 have no:∀{E:Value->Shared->Prop},∀e s',(λ(_:Value) (_:Shared)=>False) e s'->E e s':=λ_ _ z=>False.elim z
 refine wpAny_bind (wpAny_standAt (wpAny_bind (wpAny_mono (turn n s hI) (λr s1 h1=>?_) no)))
 cases r with
 | none=>exact wpAny_pure h1
 | some v =>
  refine wpAny_bind (wpAny_mono h1 (λ_ s2 h2=>?_) no)
  refine wpAny_bind (wpAny_mono h2 (λ_ s3 h3=>wpAny_bind (wpAny_mono h3 (λok s4 h4=>?_) no)) no)
  cases ok with
  | false=>exact wpAny_pure ⟨rfl,h4⟩
  | true =>
   exact wpAny_bind (wpAny_bind (wpAny_mono h4 (λx s5 h5=>wpAny_bind (wpAny_mono h5 (λ_ s6 h6=>wpAny_pure (wpAny_pure ⟨rfl,h6⟩)) no)) no))
def bS (tgs:List Str) (cap:List (Str × Nat)) (σ:St):St:=tgs.map (λ_=>none)++cap.map λc=>(σ[c.2]?).join
def kh (wi:TI) (g:TG) (tt:TT) (te:TE) (f:St->St):TE:=λσ H Q=>wi σ H λJ H1=>∀D,H1 D=none->∃W:Nat->Nat->Hp->List V->Prop,(∃m,W 0 m (upd H1 D (.lst [])) []) /\
 ∀i m H ys,W i m H ys->H D=some (.lst ys)/\((J.stop i H/\Q (.ref D) H)\/(J.go i H/\∀x H',J.yld i H x H'->g x (f σ) H' λσ2 H2=>wk (f σ) σ2/\tt σ2 H2 λb H3 =>
  if b=true then te σ2 H3 λv H4=>H4 D=some (.lst ys)/\ys.length<sizeLine/\∃m',m'<m/\W (i+1) m' (upd H4 D (.lst (ys++[v]))) (ys++[v])
  else ∃m',m'<m/\W (i+1) m' H3 ys))
structure BlockOk (X:Cx) (scope:Scope) (tgs:List Str) (cap:List (Str × Nat)):Prop where
 kind:scope.kind=.function
 nocell:(scope.names.all λy=>!(y.2==NameKind.cell))=true
 names:(scope.names.all λy=>!(y.2==NameKind.local) || (scope.names.lookup y.1==some .local))=true
 free:(scope.names.all λy=>!(y.2==NameKind.free) || (X.env.scope.names.lookup y.1==some .cell) || (X.env.scope.names.lookup y.1==some .free))=true
 caps:(cap.all λc=>decide (X.N[c.2]?=some c.1)&&(scope.names.lookup c.1==some .free)&&(decide (X.env.scope.names.lookup c.1=some .cell) || decide (X.env.scope.names.lookup c.1=some .free)))=true
 tgl:(tgs.all λx=>(scope.names.lookup x==some .local))=true
section
variable {X:Cx} {scope:Scope} {tgs:List Str} {cap:List (Str × Nat)}
theorem BlockOk.cellAt (B:BlockOk X scope tgs cap) (ok:X.Ok):∀y∈scope.names,y.2=.free->∃c,X.env.cells.lookup y.1=some c:=λy hy hk=>by
 have q:=List.all_eq_true.mp B.free y hy
 rw[hk]at q
 refine ok.has y.1 ?_
 simp only[beq_self_eq_true,Bool.not_true,Bool.false_or,Bool.or_eq_true,beq_iff_eq]at q
 exact q
theorem BlockOk.noc (B:BlockOk X scope tgs cap):∀y∈scope.names,y.2≠.cell:=λy hy hk=>by
 have q:=List.all_eq_true.mp B.nocell y hy
 rw[hk]at q
 simp at q
theorem BlockOk.locs (B:BlockOk X scope tgs cap):∀y∈scope.names,y.2=.local->scope.names.lookup y.1=some .local:=λy hy hk=>by
 have q:=List.all_eq_true.mp B.names y hy
 rw[hk]at q
 simpa using q
variable {pins:List (Addr × Obj)}
theorem Inv.enter {σ:St} {H:Hp} {s:Shared} {h1:Heap} {tk:Nat} {fp:List Addr} (B:BlockOk X scope tgs cap) (I:Inv X pins σ H s) (hfp:∀b∈fp,fU X pins H b) (hlt:∀b∈fp,b<s.heap.objs.size)
  (hns:h1.Ns s.heap.objs.size (λ_=>none)) (old:∀b o,s.heap.get? b=some o->h1.get? b=some o) :
  Inv (X.block (tgs++cap.map (·.1)) scope s.heap.objs.size s H fp) [] (bS tgs cap σ) H { s with heap:=h1,toks:=tk }:=by
 have cellsIn:∀x c,(cU X.env scope.names []).lookup x=some c->X.env.cells.lookup x=some c:=λx c e=>tV e (B.cellAt I.ok)
 have kindIn:∀x,((relabel scope X.env).names.lookup x=some .cell\/(relabel scope X.env).names.lookup x=some .free)->(x,NameKind.free)∈scope.names:=λx hx=>by
  have go:∀k,(relabel scope X.env).names.lookup x=some k->(k=.cell\/k=.free)->(x,NameKind.free)∈scope.names:=λk hk hc=>by
   obtain⟨k',e1,e2⟩:=lH hk
   have m:=dG e1
   rcases e2 with e2|⟨e2,_⟩
   ·subst e2
    rcases hc with z|z
    ·exact absurd z (B.noc _ m)
    ·subst z;exact m
   ·subst e2;exact m
  rcases hx with h|h
  ·exact go _ h (.inl rfl)
  ·exact go _ h (.inr rfl)
 have nocl:∀x c,X.env.cells.lookup x=some c->c≠s.heap.objs.size:=λx c e=>by
  obtain⟨v,q⟩:=I.cell x c e
  exact Nat.ne_of_lt q.lt
 refine⟨⟨I.ok.mod,?_,I.ok.glob,I.ok.blt,Nat.le_refl _,λx y c e1 e2=>I.ok.inj x y c (cellsIn x c e1) (cellsIn y c e2),λx hx=>?_,λx c hf _=>absurd (show false=true from hf) Bool.false_ne_true,I.ok.hd,I.ok.frames,.inl rfl,
  λb hb=>⟨Nat.ne_of_lt (hlt b hb),λx c e=>?_⟩,I.bs,Nat.le_trans I.ok.bsz I.sz,λb o e hb=>?_,λb hb hf=>?_,I.stack,I.stkFree⟩,
  rfl,I.bare,Un.kept old,⟨_,hns,λi x v h2 h3 h4=>?_⟩,λx c e=>?_,?_,λx c e=>I.freeC x c (cellsIn x c e),λp hp=>absurd (show p∈([]:List (Addr × Obj)) from hp) (by simp),I.hok.kept old,?_⟩
 ·exact B.kind
 ·exact pZ (kindIn x hx)
 ·exact(hfp b hb).2.2.2.2.1 x c (cellsIn x c e)
 ·-- no object of the base is an iterator of ours
  rcases(hfp b hb).2.2.2.1 with z|z
  ·exact I.ok.noex b o e z
  ·have q:=I.ok.bs b o e
   exact absurd (Nat.lt_of_lt_of_le (Heap.lt_size q.1) z) (Nat.lt_irrefl _)
 ·have hf':b∈frs X.stack:=hf
  rcases List.mem_cons.mp (I.stkSub b hf') with z|z
  ·exact(hfp b hb).2.1 z
  ·exact(hfp b hb).2.2.1 z
 ·-- a name that is known: one of the captured ones
  have hi:tgs.length<=i:=by
   by_cases hl:i<tgs.length
   ·exfalso
    unfold bS at h3
    rw[List.getElem?_append_left (by simpa using hl),List.getElem?_map]at h3
    cases e:tgs[i]? with
    | none=>rw[e]at h3;cases h3
    | some z=>rw[e]at h3;cases h3
   ·exact om2 hl
  unfold bS at h3
  rw[List.getElem?_append_right (by simpa using hi),List.length_map,List.getElem?_map]at h3
  have h2':(tgs++cap.map (·.1))[i]?=some x:=h2
  rw[List.getElem?_append_right hi,List.getElem?_map]at h2'
  cases e:cap[i-tgs.length]? with
  | none=>rw[e]at h2';cases h2'
  | some c =>
   rw[e]at h2' h3
   have hx:c.1=x:=by simpa using h2'
   have hv:(σ[c.2]?).join=some v:=by simpa using h3
   have hm:c∈cap:=List.mem_of_getElem? e
   have q:=List.all_eq_true.mp B.caps c hm
   simp only[Bool.and_eq_true,decide_eq_true_eq,beq_iff_eq,Bool.or_eq_true]at q
   obtain⟨⟨q1,q2⟩,q3⟩:=q
   have hσ:σ[c.2]?=some (some v):=by
    cases z:σ[c.2]? with
    | none=>rw[z]at hv;cases hv
    | some o =>
     rw[z]at hv
     have:o=some v:=by simpa using hv
     rw[this]
   obtain⟨m,_,hl⟩:=I.loc
   obtain⟨u,r,l⟩:=hl c.2 c.1 v q1 hσ (by
    rcases q3 with z|z
    ·exact .inr (.inl z)
    ·exact .inr (.inr z))
   subst hx
   refine⟨u,r,.inr ⟨lI q2,?_⟩⟩
   have nl:¬X.env.kindOf c.1=some .local:=λz=>by
    rcases q3 with y|y
    ·have:X.env.kindOf c.1=some .cell:=y
     rw[this]at z;cases z
    ·have:X.env.kindOf c.1=some .free:=y
     rw[this]at z;cases z
   rcases l with⟨l1,_⟩|⟨_,d,l2,l3⟩
   ·exact absurd l1 nl
   ·obtain⟨d',e'⟩:=pZ (env:=X.env) (dG q2)
    have:d=d':=Option.some.inj (l2.symm.trans (cellsIn _ _ e'))
    subst this
    obtain⟨oc,ho,hd⟩:=l3
    exact⟨d,e',oc,old d oc ho,hd⟩
 ·obtain⟨v,oc,ho,hd⟩:=I.cell x c (cellsIn x c e)
  exact⟨v,oc,old c oc ho,hd⟩
 ·exact I.hok.fresh (Nat.le_refl _)
 ·unfold bS
  show _=(tgs++cap.map (·.1)).length
  simp
theorem Inv.leave {σ σ':St} {H H':Hp} {s s':Shared} {h2:Heap} {fp:List Addr} {N:List Str} (I:Inv X pins σ H s) (hfp:∀b∈fp,fU X pins H b)
  (J:Inv (X.block N scope s.heap.objs.size s H fp) [] σ' H' s') (hs:Heap.SameBut s.heap.objs.size s'.heap h2):Inv X pins σ H' { s' with heap:=h2 }:=by
 have u:Un (frs X.stack) fp H H' s.heap s'.heap:=J.base
 have ne:∀b o,s.heap.get? b=some o->b≠s.heap.objs.size:=λb o e=>Nat.ne_of_lt (Heap.lt_size e)
 have hf:H' s.heap.objs.size=none:=J.free
 have k:∀b o,b≠s.heap.objs.size->s'.heap.get? b=some o->h2.get? b=some o:=λb o hb e=>(hs.2 b hb).trans e
 have u2:Un (frs X.stack) fp H H' s.heap h2 :=
  ⟨λb o e n h1 h3=>k b o (ne b o e) (u.keep b o e n h1 h3),λb o e n h1 h3=>let ⟨sl,q⟩:=u.slot b o e n h1 h3;⟨sl,k b _ (ne b o e) q⟩,u.free,λb o e h3=>let ⟨o',q⟩:=u.there b o e h3;⟨o',k b o' (ne b o e) q⟩,u.tups,u.frzs,u.tbls⟩
 have hok:HOk X.prog X.w H' h2:=λb ob e=>(J.hok b ob e).stay (λc v hc q=>k c v (by
  rcases hc with z|z
  ·subst z
   intro y
   rw[y,hf]at e;cases e
  ·intro y
   rw[y,hf]at z;cases z) q) (λ_ q=>q) λ_ _ q=>q
 exact Inv.call' I (s':={ s' with heap:=h2 }) J.os u2 hok J.bare λb hb=>by
  obtain⟨f0,f1,f2,f3,f4,f5⟩:=hfp b hb
  exact⟨f3,f1,f4,f5⟩
theorem fc {elt tg iter:Expr} {ifs:List Expr} {pos:Pos} {wi:TI} {g:TG} {tt:TT} {te:TE} (hc:X.calm=true) (B:BlockOk X scope tgs cap) (hi:PI X tg iter wi)
  (hg:∀C s H fp,PG (X.block (tgs++cap.map (·.1)) scope C s H fp) tg g) (ht:∀C s H fp,vj (X.block (tgs++cap.map (·.1)) scope C s H fp) ifs tt) (he:∀C s H fp,PE (X.block (tgs++cap.map (·.1)) scope C s H fp) elt te)
  (hs:∀x,foldedSetIterable iter X.env x=pure x:=by intro _;rfl):PE X (.ListComp elt [⟨tg,iter,ifs,0⟩] scope pos) (kh wi g tt te (bS tgs cap)):=by
 intro pins s σ H Q I h
 rw[eval_ListComp]
 refine wpAny_comprehension_free (use:=none) rfl hs (jv (B.cellAt I.ok)) B.kind B.locs (thn (hi pins s σ H _ I h) λv s1 h1=>thn h1 λitv s2 h2=>?_)
 obtain⟨it,fp,tn,J,H2,e,I2,T,st2,f2,q⟩:=h2
 subst e
 have lt2:∀b∈fp,b<s2.heap.objs.size:=λb hb=>let ⟨o,e,_⟩:=T.obj _ _ st2 b hb;Heap.lt_size e
 have hD:H2 s2.heap.objs.size=none:=I2.hok.fresh (Nat.le_refl _)
 obtain⟨W,⟨m0,w0⟩,turn⟩:=q s2.heap.objs.size hD
 refine wpAny_newObj_type ?_
 have I3:Inv X pins σ (upd H2 s2.heap.objs.size (.lst [])) { s2 with heap:=s2.heap.push { cls:=.type "list", dict:=none,data:=.seq ([]:List Value).toArray } }:=I2.lnew (t':=s2.toks) (ys:=[]) (its:=[]) .nil (Nat.zero_le _)
 have st3:tn 0 (s2.heap.push { cls:=.type "list", dict:=none,data:=.seq ([]:List Value).toArray }):=T.keep _ _ _ st2 λb _ o e=>Heap.get?_push_of_some _ e
 have nD:∀b∈fp,b≠s2.heap.objs.size:=λb hb=>Nat.ne_of_lt (lt2 b hb)
 have f3:∀b∈fp,fU X pins (upd H2 s2.heap.objs.size (.lst [])) b:=λb hb=>⟨by rw[aj (nD b hb)];exact(f2 b hb).1,(f2 b hb).2⟩
 generalize hs3:({ s2 with heap:=s2.heap.push { cls:=.type "list", dict:=none,data:=.seq ([]:List Value).toArray } }:Shared)=s3 at I3 st3 ⊢
 have st3':tn 0 s3.heap:=by rw[<-hs3];exact st3
 have lt3:∀b∈fp,b<s3.heap.objs.size:=λb hb=>let ⟨o,e,_⟩:=T.obj _ _ st3' b hb;Heap.lt_size e
 generalize hH3:upd H2 s2.heap.objs.size (.lst [])=H3 at I3 f3 w0
 generalize s2.heap.objs.size=D at *
 refine wpAny_newFunctionEnv B.noc (by intro y hy;simp at hy) (λh1 hns hsb=>?_) B.kind
 have old:∀b o,s3.heap.get? b=some o->h1.get? b=some o:=λb o e=>hsb.extBut b o (Nat.ne_of_lt (Heap.lt_size e)) (Heap.get?_push_of_some _ e)
 have I4:=Inv.enter (tk:=s3.toks+([]:List (Str × Value)).length) (h1:=h1) B I3 f3 lt3 hns old
 have st4:tn 0 h1:=T.keep _ _ _ st3' λb _ o e=>old b o e
 have fpB:∀{H':Hp},(∀b∈fp,H' b=none)->∀b∈fp,fU (X.block (tgs++cap.map (·.1)) scope s3.heap.objs.size s3 H3 fp) [] H' b:=λ{H'} hn b hb =>
  ⟨hn b hb,Nat.ne_of_lt (lt3 b hb),I4.ok.exfs b hb,.inl hb,λx c e=>(I4.ok.exf b hb).2 x c e,λp hp=>absurd (show p∈([]:List (Addr × Obj)) from hp) (by simp)⟩
 have loop:codeAny (model X.prog X.w) X.A (.compLoop (.ListComp elt [⟨tg,iter,ifs,0⟩] scope pos) 0 (.ref it) (.ref D) (compEnvC scope (cU X.env scope.names []) s3.heap.objs.size X.env))
   (compPost (model X.prog X.w) X.A X.xe none (EP X pins σ Q) (.ref D) s3.heap.objs.size) { s3 with heap:=h1,toks:=s3.toks+([]:List (Str × Value)).length }:=by
  refine gk (λn s'=>∃i H' ys,Inv (X.block (tgs++cap.map (·.1)) scope s3.heap.objs.size s3 H3 fp) [] (bS tgs cap σ) H' s'/\tn i s'.heap/\(∀b∈fp,H' b=none)/\W i n H' ys) ?_ m0 ⟨0,H3,[],I4,st4,λb hb=>(f3 b hb).1,w0⟩
  rintro n s5 ⟨i,H5,ys,I5,st5,fr5,w5⟩
  obtain⟨hl,ht5⟩:=turn i n H5 ys w5
  rcases ht5 with⟨stop,qd⟩|⟨go,step⟩
  ·refine thn (T.done (X.block (tgs++cap.map (·.1)) scope s3.heap.objs.size s3 H3 fp) rfl rfl rfl hc i [] s5 _ H5 _ I5 (fpB fr5) st5 stop) λr s6 ⟨hr,I6⟩=>?_
   subst hr
   obtain⟨m6,n6,_⟩:=I6.loc
   exact⟨m6,n6,λh' hs'=>⟨.ref D,H5,Inv.leave I3 f3 I6 hs',rfl,qd⟩⟩
  ·refine thn (T.item (X.block (tgs++cap.map (·.1)) scope s3.heap.objs.size s3 H3 fp) rfl rfl rfl hc i [] s5 _ H5 _ I5 (fpB fr5) st5 go) λr s6 ⟨u,hr,h6⟩=>?_
   subst hr
   refine thn h6 λ_ s7 ⟨x,H7,I7,r7,y7,st7,fr7⟩=>?_
   have I7':=I7.pinned (fpB fr7) (T.obj _ _ st7)
   have again:∀{σ8:St} {H8:Hp} {s8:Shared} {ys8:List V},Inv (X.block (tgs++cap.map (·.1)) scope s3.heap.objs.size s3 H3 fp) ([]++gG fp s7.heap) σ8 H8 s8->wk (bS tgs cap σ) σ8->(∃m',m'<n/\W (i+1) m' H8 ys8) ->
     ∃m,m<n/\∃i H' ys,Inv (X.block (tgs++cap.map (·.1)) scope s3.heap.objs.size s3 H3 fp) [] (bS tgs cap σ) H' s8/\tn i s8.heap/\(∀b∈fp,H' b=none)/\W i m H' ys:=λ{σ8 H8 s8 ys8} I8 k8 ⟨m',hm,w8⟩=>by
    refine⟨m',hm,i+1,H8,ys8,I8.unpinned.weak (kW k8) (kX k8),T.keep _ _ _ st7 λb hb o e=>(I8.pin (b,o) (List.mem_append_right _ (List.mem_append_right _ (cW hb e)))).1,λb hb=>?_,w8⟩
    obtain⟨o,e,d⟩:=T.obj _ _ st7 b hb
    exact(I8.pin (b,o) (List.mem_append_right _ (List.mem_append_right _ (cW hb e)))).2.1
   refine thn (hg _ _ _ _ _ s7 _ H7 x u _ I7' r7 (step x H7 y7)) λ_ s8 ⟨σ8,H8,I8,k8,q8⟩=>?_
   refine thn (ht _ _ _ _ _ s8 σ8 H8 _ I8 q8) λok s9 ⟨H9,I9,q9⟩=>?_
   cases ok with
   | false =>
    rw[if_neg Bool.false_ne_true]at q9 ⊢
    exact again I9 k8 q9
   | true =>
    rw[if_pos rfl]at q9 ⊢
    refine thn (he _ _ _ _ _ s9 σ8 H9 _ I9 q9) λy sA ⟨yv,HA,IA,rA,hA,zA,qA⟩=>?_
    exact thn (ba _ sA σ8 HA (.ref D) [yv] (.ref D) [y] (λv H'=>v=.non/\∃m',m'<n/\W (i+1) m' H' (ys++[yv])) IA rfl (.cons rA .nil) ⟨D,ys,yv,rfl,rfl,hA,zA,rfl,qA⟩) λ_ sB ⟨_,HB,IB,_,_,qB⟩=>again IB k8 qB
 exact codeAny_compStart_list loop (T.self _ 0 _ _ _ st4 loop)
end
def Itf (n:Nat) (f:Nat->V):It:=⟨λi _=>i<n,λi H x H'=>H'=H/\x=f i,λi _=>i=n⟩
variable {n i:Nat} {K:PySem.W.Frag}
theorem iB {f:Nat->V} {Pv:Nat->Value->Prop} {St:Nat->Heap->Prop}
  (W:∀A:Around,A.handled=none->Walks P w A it [it] [it] n Pv St) (hP:∀i v,Pv i v->aS (f i) v) (hobj:∀i h,St i h->∃o,h.get? it=some o/\∀v,o.data≠.cell v)
  (hfr:∀i h h',St i h->(∀o,h.get? it=some o->h'.get? it=some o)->St i h')
  (hself:∀(A:Around) (i:Nat) (s:Shared) (Q:Value->Shared->Prop) (E:Value->Shared->Prop),St i s.heap->Q (.ref it) s->wpAny (model P w) A (pyIter (.ref it)) Q E s) :
  Turn P w K (.Name x px) (Itf n f) [it] it St where
 mem:=by simp
 obj:=λi h st b hb=>by
  have e:b=it:=by simpa using hb
  subst e
  exact hobj i h st
 keep:=λi h h' st k=>hfr i h h' st λo e=>k it (by simp) o e
 item:=by
  intro X hP' hw hK hc i pins s σ H E I hf st hg
  subst hP' hw hK
  obtain⟨f0,f1,f2,f3,f4,f5⟩:=hf it (by simp)
  refine(W X.A (I.ok.hd hc)).item i s _ _ hg st λv h' tk hv st' kk=>?_
  have I1:Inv X pins σ H { s with heap:=h',toks:=tk }:=I.turned (λb o hb e=>kk b o (by simpa using hb) e) f0 f1 f3 f4 f5
  refine⟨v,rfl,wpAny_of_eq (a:=()) (by rfl) ⟨f i,H,I1,hP i v hv,⟨rfl,rfl⟩,st',λb hb=>(hf b hb).1⟩⟩
 done:=by
  intro X hP' hw hK hc i pins s σ H E I hf st hg
  subst hP' hw hK
  obtain⟨f0,f1,f2,f3,f4,f5⟩:=hf it (by simp)
  have e:i=n:=hg
  subst e
  exact(W X.A (I.ok.hd hc)).done s _ _ st λh' tk kk=>⟨rfl,I.turned (λb o hb e=>kk b o (by simpa using hb) e) f0 f1 f3 f4 f5⟩
 self:=λA i s Q E st h=>hself A i s Q E st h
def eT (z:Str) (i:Nat):V:=.str ⟨#[z.cps.getD i 0]⟩
theorem iQ {v:Value} (h:SignAt z i v):aS (eT z i) v:=by
 obtain⟨c,u,h1,h2⟩:=h
 subst h2
 refine⟨u,?_⟩
 have:z.cps.getD i 0=c:=by rw[Array.getD_eq_getD_getElem?,h1];rfl
 rw[this]
theorem rF {t:Tok} {ty:String} (hty:ty = "str_ascii_iterator" \/ ty = "str_iterator") :
  Turn P w K (.Name x px) (Itf z.cps.size (eT z)) [it] it (λi h=>h.IsStrIter it ty z t i):=by
 rcases hty with e|e
 ·subst e
  exact iB (λA hA=>Walks.strAscii hA it z t) (λi v h=>iQ h) (λi h st=>let ⟨o,e,_,d⟩:=st;⟨o,e,λv q=>by rw[d]at q;cases q⟩)
   (λi h h' st k=>let ⟨o,e,r⟩:=st;⟨o,k o e,r⟩) λA i s Q E st q=>wpAny_pyIter_striter_ascii st q
 ·subst e
  exact iB (λA hA=>Walks.strWide hA it z t) (λi v h=>iQ h) (λi h st=>let ⟨o,e,_,d⟩:=st;⟨o,e,λv q=>by rw[d]at q;cases q⟩)
   (λi h h' st k=>let ⟨o,e,r⟩:=st;⟨o,k o e,r⟩) λA i s Q E st q=>wpAny_pyIter_striter_wide st q
section
variable {X:Cx} {x:Str} {px:Pos}
def A2 (tl:TE):TI:=λσ H R=>tl σ H λv H1=>∃z:Str,v=.str z/\R (Itf z.cps.size (eT z)) H1
theorem wF {l:Expr} {tl:TE} (hl:PE X l tl):PI X (.Name x px) l (A2 tl):=by
 intro pins s σ H R I h
 refine thn (hl pins s σ H _ I h) λv s1 ⟨y,H1,I1,r1,q1⟩=>?_
 obtain⟨z,e,q⟩:=q1
 subst e
 obtain⟨t,e⟩:=r1
 subst e
 have fin:∀ty:String,(ty = "str_ascii_iterator" \/ ty = "str_iterator")->PIE X pins σ (.Name x px) R (.ref s1.heap.objs.size) { s1 with heap:=s1.heap.push { cls:=.type ty,data:=.fields #[.str z t,.int 0 0] } }:=λty hty=>by
  refine⟨s1.heap.objs.size,[s1.heap.objs.size],_,_,H1,rfl,I1.kept (t':=s1.toks) λb o e=>Heap.get?_push_of_some _ e,rF (t:=t) hty,⟨_,Heap.get?_push_size _ rfl,rfl,rfl⟩,λb hb=>?_,q⟩
  have e:b=s1.heap.objs.size:=by simpa using hb
  subst e
  exact I1.fpOk (Nat.le_refl _) (I1.hok.fresh (Nat.le_refl _))
 cases ha:z.cps.all (·<128) with
 | false=>exact wpAny_pyIter_wide ha (fin _ (.inr rfl))
 | true=>exact wpAny_pyIter_ascii ha (fin _ (.inl rfl))
end
section
variable {X:Cx}
def xP:V->Option Int->Option Int->Hp->VK->Prop:=λx lo hi H Q=>∃z:Str,x=.str z/\z.length<=sizeLine/\Q (.str (Txt.slice z lo hi)) H
theorem eZ:SlR X xP:=by
 intro pins s σ H x v vl vu lo hi sl Q I rx hs pl pu h
 obtain⟨z,e,hz,q⟩:=h
 subst e
 obtain⟨t,e⟩:=rx
 subst e
 refine⟨"str", _,F.slot_str_getitem.lookup,typeIs_str _ _ _,?_⟩
 have fin:∀(t':Tok) (k:Nat),EP X pins σ Q (.str (Txt.slice z lo hi) t') { s with toks:=k }:=λt' k=>⟨.str _,H,I.tok k,⟨t',rfl⟩,q⟩
 cases pl with
 | none =>
  cases pu with
  | none=>exact wpAny_getItem_str_slice (l:=none) (u:=none) (st:=none) hs rfl (post_val_or_str ⟨Nat.le_trans (Txt.slice_le z _ _) hz,fin⟩)
  | int j uj=>exact wpAny_getItem_str_slice (l:=none) (u:=some (j,uj)) (st:=none) hs rfl (post_val_or_str ⟨Nat.le_trans (Txt.slice_le z _ _) hz,fin⟩)
 | int i ui =>
  cases pu with
  | none=>exact wpAny_getItem_str_slice (l:=some (i,ui)) (u:=none) (st:=none) hs rfl (post_val_or_str ⟨Nat.le_trans (Txt.slice_le z _ _) hz,fin⟩)
  | int j uj=>exact wpAny_getItem_str_slice (l:=some (i,ui)) (u:=some (j,uj)) (st:=none) hs rfl (post_val_or_str ⟨Nat.le_trans (Txt.slice_le z _ _) hz,fin⟩)
theorem fH:∀{ys:List Str} {us:List Value},aY (ys.map V.str) us->StrsAre us ys
 | [],_,r=>by
  rw[List.map_nil]at r;cases r;exact .nil
 | y::ys,_,r=>by
  rw[List.map_cons]at r
  cases r with
  | cons r1 r2 =>
   obtain⟨t,e⟩:=r1
   subst e
   exact .cons y t (fH r2)
def xR (K:PySem.W.Frag):V->List V->Hp->VK->Prop:=λx vs H Q=>∃(z:Str) (l:Addr) (ys:List Str),x=.str z/\vs=[.ref l]/\SqL K H l (ys.map V.str)/\(ys.map (·.length)).sum+ys.length*z.length<=16777216/\Q (.str (Txt.join z ys)) H
theorem pJ:MtR X "str.join" (xR X.K):=by
 intro pins s σ H x vs v us Q I rx rv h
 obtain⟨z,l,ys,e1,e2,hl,hz,q⟩:=h
 subst e1 e2
 obtain⟨t,e⟩:=rx
 subst e
 obtain⟨u,e,ru⟩:=rv.one
 subst e
 cases ru
 obtain⟨its,r,pl,_⟩:=I.list hl
 exact join_list pl.isList (by simpa using fH r) hz λt' k=>⟨.str _,H,I.tok k,⟨t',rfl⟩,q⟩
theorem kH (ys:List Str):(Txt.join Str.empty ys).cps.toList=(ys.map (·.cps.toList)).flatten:=by
 unfold Txt.join
 rw[PySem.StrLaws.glued_eq_join]
 induction ys with
 | nil=>rfl
 | cons y r ih =>
  cases r with
  | nil=>simp[Str.join]
  | cons y2 r2 =>
   show (y++Str.empty++Str.join Str.empty (y2::r2)).cps.toList=_
   rw[List.map_cons,List.flatten_cons,<-ih]
   show (y.cps++Str.empty.cps++(Str.join Str.empty (y2::r2)).cps).toList=_
   simp[Str.empty]
end
inductive EqD (K:PySem.W.Frag) (H:Hp):Nat->V->V->Bool->Prop
 | flat {n:Nat} {x y:V}:cT x=true->cT y=true->EqD K H n x y (eqV x y)
 | same {n:Nat} {a:Addr}:EqD K H n (.ref a) (.ref a) true
 | lists {n:Nat} {a b:Addr} {xs ys:List V} {e:Nat->Bool}:SqL K H a xs->SqL K H b ys->xs.length=ys.length->(∀(j:Nat) x y,xs[j]?=some x->ys[j]?=some y->EqD K H n x y (e j))->a≠b ->
   EqD K H (n+1) (.ref a) (.ref b) ((List.range xs.length).all e)
 | tups {n:Nat} {a b:Addr} {xs ys:List V} {e:Nat->Bool}:SqT K H a xs->SqT K H b ys->(∀(j:Nat) x y,xs[j]?=some x->ys[j]?=some y->EqD K H n x y (e j))->a≠b ->
   EqD K H (n+1) (.ref a) (.ref b) ((List.range (min xs.length ys.length)).all e&&xs.length==ys.length)
theorem EqD.at {X:Cx} {pins:List (Addr × Obj)} {σ:St} {H:Hp} {s:Shared} (I:Inv X pins σ H s) {n:Nat} {x y:V} {b:Bool} (h:EqD X.K H n x y b) :
  ∀{A:Around} {u v:Value},A.units+n<cLine->aS x u->aS y v->SeqAt.EqAt A s u v b:=by
 induction h with
 | flat fx fy=>intro A u v _ rx ry;exact tO rx ry fx fy
 | same =>
  intro A u v _ rx ry
  cases rx
  cases ry
  exact SeqAt.EqAt.same _
 | @lists n a c xs ys e ha hb hl hi hne ih =>
  intro A u v hu rx ry
  cases rx
  cases ry
  obtain⟨its,r1,p1,_⟩:=I.list ha
  obtain⟨its2,r2,p2,_⟩:=I.list hb
  have l1:=r1.length
  have l2:=r2.length
  refine SeqAt.EqAt.of_refs hne ?_
  have q:=SeqAt.RcAt.lists (A:=A) (e:=e) p1.isList p2.isList (by rw[List.size_toArray,List.size_toArray];exact om7 hl l1 l2) (by exact om8 hu) λj h1 h2=>by
   rw[List.size_toArray]at h1 h2
   have e1:xs[j]?=some xs[j]:=List.getElem?_eq_getElem (by exact om9 hl l1 l2 h1)
   have e2:ys[j]?=some ys[j]:=List.getElem?_eq_getElem (by exact Ca hl l1 l2 h1)
   obtain⟨w1,g1,rr1⟩:=r1.get e1
   obtain⟨w2,g2,rr2⟩:=r2.get e2
   have g1':its.toArray[j]=w1:=by
    have:=(List.getElem?_eq_some_iff.mp g1).2
    simpa using this
   have g2':its2.toArray[j]=w2:=by
    have:=(List.getElem?_eq_some_iff.mp g2).2
    simpa using this
   rw[g1',g2']
   exact ih j _ _ e1 e2 (by show A.units+1+n<cLine;exact AO hu) rr1 rr2
  rw[List.size_toArray,<-l1]at q
  exact q
 | @tups n a c xs ys e ha hb hi hne ih =>
  intro A u v hu rx ry
  cases rx
  cases ry
  obtain⟨its,r1,p1,_⟩:=I.tuple ha
  obtain⟨its2,r2,p2,_⟩:=I.tuple hb
  have l1:=r1.length
  have l2:=r2.length
  refine SeqAt.EqAt.of_refs hne ?_
  have q:=SeqAt.RcAt.tuples (A:=A) (e:=e) (show s.heap.IsTuple a its.toArray from p1) (show s.heap.IsTuple c its2.toArray from p2) (by exact om8 hu) λj h1 h2=>by
   rw[List.size_toArray]at h1 h2
   have e1:xs[j]?=some xs[j]:=List.getElem?_eq_getElem (by exact w6 l1 h1)
   have e2:ys[j]?=some ys[j]:=List.getElem?_eq_getElem (by exact w6 l2 h2)
   obtain⟨w1,g1,rr1⟩:=r1.get e1
   obtain⟨w2,g2,rr2⟩:=r2.get e2
   have g1':its.toArray[j]=w1:=by
    have:=(List.getElem?_eq_some_iff.mp g1).2
    simpa using this
   have g2':its2.toArray[j]=w2:=by
    have:=(List.getElem?_eq_some_iff.mp g2).2
    simpa using this
   rw[g1',g2']
   exact ih j _ _ e1 e2 (by show A.units+1+n<cLine;exact AO hu) rr1 rr2
  rw[List.size_toArray,List.size_toArray,<-l1,<-l2]at q
  exact q
section
variable {X:Cx}
theorem EqD.items {pins:List (Addr × Obj)} {σ:St} {H:Hp} {s:Shared} (I:Inv X pins σ H s) {n:Nat} {A:Around} (hu:A.units+1+n<cLine) {xs ys:List V} {its its2:List Value} (r1:aY xs its) (r2:aY ys its2) {e:Nat->Bool}
  (h:∀(j:Nat) x y,xs[j]?=some x->ys[j]?=some y->EqD X.K H n x y (e j)) (j:Nat) (h1:j<its.toArray.size) (h2:j<its2.toArray.size):SeqAt.EqAt A.in1 s its.toArray[j] its2.toArray[j] (e j):=by
 have l1:=r1.length
 have l2:=r2.length
 rw[List.size_toArray]at h1 h2
 have e1:xs[j]?=some xs[j]:=List.getElem?_eq_getElem (by exact Av h1 l1)
 have e2:ys[j]?=some ys[j]:=List.getElem?_eq_getElem (by exact Av h2 l2)
 obtain⟨w1,g1,rr1⟩:=r1.get e1
 obtain⟨w2,g2,rr2⟩:=r2.get e2
 have g1':its.toArray[j]=w1:=by
  have:=(List.getElem?_eq_some_iff.mp g1).2
  simpa using this
 have g2':its2.toArray[j]=w2:=by
  have:=(List.getElem?_eq_some_iff.mp g2).2
  simpa using this
 rw[g1',g2']
 exact EqD.at I (h j _ _ e1 e2) (by show A.units+1+n<cLine;exact hu) rr1 rr2
def rR (K:PySem.W.Frag) (neg:Bool):R2:=λx y H Q=>∃a b xs ys e,x=.ref a/\y=.ref b/\SqL K H a xs/\SqL K H b ys/\(∀(j:Nat) x y,xs[j]?=some x->ys[j]?=some y->EqD K H 8 x y (e j)) /\
 Q (.bl (if neg then !(xs.length==ys.length&&(List.range xs.length).all e) else (xs.length==ys.length&&(List.range xs.length).all e))) H
def xT (K:PySem.W.Frag) (neg:Bool):R2:=λx y H Q=>∃a b xs ys e,x=.ref a/\y=.ref b/\SqT K H a xs/\SqT K H b ys/\(∀(j:Nat) x y,xs[j]?=some x->ys[j]?=some y->EqD K H 8 x y (e j)) /\
 Q (.bl (if neg then !((List.range (min xs.length ys.length)).all e&&xs.length==ys.length) else ((List.range (min xs.length ys.length)).all e&&xs.length==ys.length))) H
theorem i_ (hu:X.A.units+64<cLine):OpR X (compareOp .Eq) (rR X.K false):=by
 intro pins s σ H x y v u Q I rx ry h
 obtain⟨a,b,xs,ys,e,e1,e2,ha,hb,hi,q⟩:=h
 subst e1 e2
 cases rx
 cases ry
 obtain⟨its,r1,p1,_⟩:=I.list ha
 obtain⟨its2,r2,p2,_⟩:=I.list hb
 have l1:=r1.length
 have l2:=r2.length
 by_cases hl:xs.length=ys.length
 ·refine SeqAt.eq_listAt (e:=e) p1.isList p2.isList (by rw[List.size_toArray,List.size_toArray];exact Aj l1 l2 hl) (by exact sG hu) (EqD.items I (by exact w4 hu) r1 r2 hi) ⟨.bl _,H,I,rfl,?_⟩
  rw[List.size_toArray,<-l1]
  have:(xs.length==ys.length)=true:=by simpa using hl
  rw[this]at q
  exact q
 ·refine SeqAt.eq_list_lengthsAt p1.isList p2.isList (by rw[List.size_toArray,List.size_toArray,<-l1,<-l2];simpa using hl) (by exact sG hu) ⟨.bl _,H,I,rfl,?_⟩
  have:(xs.length==ys.length)=false:=by simpa using hl
  rw[this]at q
  exact q
theorem i0 (hu:X.A.units+64<cLine):OpR X (compareOp .NotEq) (rR X.K true):=by
 intro pins s σ H x y v u Q I rx ry h
 obtain⟨a,b,xs,ys,e,e1,e2,ha,hb,hi,q⟩:=h
 subst e1 e2
 cases rx
 cases ry
 obtain⟨its,r1,p1,_⟩:=I.list ha
 obtain⟨its2,r2,p2,_⟩:=I.list hb
 have l1:=r1.length
 have l2:=r2.length
 by_cases hl:xs.length=ys.length
 ·refine SeqAt.RcNeAt.lists (e:=e) p1.isList p2.isList (by rw[List.size_toArray,List.size_toArray];exact Aj l1 l2 hl) (by exact sG hu) (EqD.items I (by exact w4 hu) r1 r2 hi) _ _ _ _ ⟨.bl _,H,I,rfl,?_⟩
  rw[List.size_toArray,<-l1]
  have:(xs.length==ys.length)=true:=by simpa using hl
  rw[this]at q
  exact q
 ·refine SeqAt.RcNeAt.lists_lengths p1.isList p2.isList (by rw[List.size_toArray,List.size_toArray,<-l1,<-l2];simpa using hl) (by exact sG hu) _ _ _ _ ⟨.bl _,H,I,rfl,?_⟩
  have:(xs.length==ys.length)=false:=by simpa using hl
  rw[this]at q
  exact q
theorem su (hu:X.A.units+64<cLine):OpR X (compareOp .NotEq) (xT X.K true):=by
 intro pins s σ H x y v u Q I rx ry h
 obtain⟨a,b,xs,ys,e,e1,e2,ha,hb,hi,q⟩:=h
 subst e1 e2
 cases rx
 cases ry
 obtain⟨its,r1,p1,_⟩:=I.tuple ha
 obtain⟨its2,r2,p2,_⟩:=I.tuple hb
 have l1:=r1.length
 have l2:=r2.length
 refine SeqAt.RcNeAt.tuples (e:=e) (show s.heap.IsTuple a its.toArray from p1) (show s.heap.IsTuple b its2.toArray from p2) (by exact sG hu) (EqD.items I (by exact w4 hu) r1 r2 hi) _ _ _ _ ⟨.bl _,H,I,rfl,?_⟩
 rw[List.size_toArray,List.size_toArray,<-l1,<-l2]
 exact q
end
section
variable {X:Cx}
theorem dW:dX X (.builtin "isinstance") (λxs H Q=>∃x T ty b,xs=[x,.ty T]/\TyOf X.K H x ty/\PySem.W.kitOne X.K ty (.type T)=some b/\Q (.bl b) H):=by
 intro pins s σ H xs us Q I r h
 obtain⟨x,T,ty,b,e,t,k,q⟩:=h
 subst e
 obtain⟨u1,u2,e,r1,r2⟩:=ml r
 subst e
 cases r2
 exact qW I r1 t k λtk=>⟨.bl b,H,I.tok tk,rfl,q⟩
theorem gc {K:PySem.W.Frag} (T:String):PySem.W.kitOne K (.type T) (.type T)=some true:=by
 unfold PySem.W.kitOne
 rw[if_pos (by simp)]
theorem rl (bs:List Bool):(List.range bs.length).all (λi=>bs.getD i false)=bs.all id:=by
 rw[Bool.eq_iff_iff]
 simp only[List.all_eq_true,List.mem_range]
 constructor
 ·intro h x hx
  obtain⟨i,hi,e⟩:=List.mem_iff_getElem.mp hx
  have q:=h i hi
  rw[List.getD_eq_getElem?_getD,List.getElem?_eq_getElem hi,Option.getD_some,e]at q
  exact q
 ·intro h i hi
  rw[List.getD_eq_getElem?_getD,List.getElem?_eq_getElem hi,Option.getD_some]
  exact h _ (List.getElem_mem hi)
theorem tY (hc:X.calm=true):dX X (.builtin "all") (λxs H Q=>∃(l:Addr) (bs:List Bool),xs=[.ref l]/\SqL X.K H l (bs.map V.bl)/\Q (.bl (bs.all id)) H):=by
 intro pins s σ H xs us Q I r h
 obtain⟨l,bs,e,hl,q⟩:=h
 subst e
 obtain⟨u,e,ru⟩:=eP r
 subst e
 cases ru
 obtain⟨its,rv,pl,hz⟩:=I.list hl
 have hlen:=rv.length
 rw[List.length_map]at hlen
 have ne:l≠s.heap.objs.size:=by
  obtain⟨o,ho,_⟩:=pl.isList
  exact Nat.ne_of_lt (Heap.lt_size ho)
 refine call_all_walk (wpAny_pyIter_list pl.isList ?_)
 refine⟨s.heap.objs.size,_,_,_,_,_,(λi=>bs.getD i false),rfl,Walks.list (show X.A.in1.handled=none from I.ok.hd hc) s.heap.objs.size l ne its.toArray,⟨⟨_,Heap.get?_push_size _ rfl,rfl,rfl⟩,pl.isList.push _⟩,?_,λh' tk hk=>?_⟩
 ·intro i v s' Q' E' hP hQ
  have hP':its[i]?=some v:=by simpa using hP
  have hi:i<bs.length:=by
   have:=(List.getElem?_eq_some_iff.mp hP').1
   exact w6 hlen this
  have e1:(bs.map V.bl)[i]?=some (.bl (bs.getD i false)):=by
   rw[List.getElem?_map,List.getElem?_eq_getElem hi,List.getD_eq_getElem?_getD,List.getElem?_eq_getElem hi];rfl
  obtain⟨u,hu,ru⟩:=rv.get e1
  rw[hP']at hu
  cases hu
  cases ru
  exact wpAny_truthy_bool hQ
 ·have hs:its.toArray.size=bs.length:=by rw[List.size_toArray];exact hlen.symm
  rw[hs,rl]
  exact⟨.bl _,H,I.kept λb o e=>hk b o (by
   have:=Heap.lt_size e
   simp only[List.mem_singleton]
   exact Nat.ne_of_lt this) (Heap.get?_push_of_some _ e),rfl,q⟩
abbrev o_ (K:PySem.W.Frag) (T:Addr) (D:List (Str × KTD.Dat)):Prop:=KTD.tabLook (KTD.datLooks λa=>K.lookup a) (λa=>K.lookup a) T D=true
theorem qz {T:Addr} {D:List (Str × KTD.Dat)} (hT:o_ X.K T D):OpR X (compareOp .In) (λx y H Q=>∃z,x=.str z/\y=.ref T/\Q (.bl (KTD.inKeys z D)) H):=by
 intro pins s σ H x y v u Q I rx ry h
 obtain⟨z,e1,e2,q⟩:=h
 subst e1 e2
 obtain⟨t,e⟩:=rx
 subst e
 cases ry
 exact KTD.in_text (h₀:=X.base) ⟨KTD.text_of_look (get:=λa=>X.K.lookup a) (λa o e=>I.mod.kin a o e) hT,I.bk⟩ ⟨.bl _,H,I.tok _,rfl,q⟩
theorem oh:OpR X (binaryOp .Mult) (λx y H Q=>∃z n,x=.str z/\y=.int n/\MulOk z n/\Q (.str (Txt.mul z n)) H):=by
 intro pins s σ H x y v u Q I rx ry h
 obtain⟨z,n,e1,e2,hm,q⟩:=h
 subst e1 e2
 obtain⟨t,e⟩:=rx
 subst e
 obtain⟨t',e⟩:=ry
 subst e
 exact SB.mul hm λt' k=>⟨.str _,H,I.tok k,⟨t',rfl⟩,q⟩
theorem jW:dX X (.type "int") (λxs H Q=>∃z n,xs=[.str z]/\PySem.intText? z=some n/\z.length<=640/\Q (.int n) H):=by
 intro pins s σ H xs us Q I r h
 obtain⟨z,n,e,h1,h2,q⟩:=h
 subst e
 obtain⟨u,e,ru⟩:=eP r
 subst e
 obtain⟨t,e⟩:=ru
 subst e
 exact PySem.W.KIN.call_text h1 h2 ⟨.int n,H,I.tok _,⟨_,rfl⟩,q⟩
end
theorem Inv.turned2 {X:Cx} {pins:List (Addr × Obj)} {σ:St} {H:Hp} {s:Shared} {h':Heap} {t':Nat} {o:HO} (I:Inv X pins σ H s) (k:∀b o,b≠e->b≠it->s.heap.get? b=some o->h'.get? b=some o)
  (f1:fU X pins H e) (f2:fU X pins H it) (hT:s.heap.objs.size<=T) (new:bo X.prog X.w (upd H T o) h' T o):Inv X pins σ (upd H T o) { s with heap:=h',toks:=t' }:=by
 have hn:H T=none:=I.hok.fresh hT
 have nT:∀b u,s.heap.get? b=some u->b≠T:=λb u q=>Nat.ne_of_lt (Nat.lt_of_lt_of_le (Heap.lt_size q) hT)
 have n1:∀b u,H b=some u->b≠e:=λb u q z=>by rw[z,f1.1]at q;cases q
 have n2:∀b u,H b=some u->b≠it:=λb u q z=>by rw[z,f2.1]at q;cases q
 have kk:∀b u,b∉[e,it]->s.heap.get? b=some u->h'.get? b=some u:=λb u hc q=>k b u (λz=>hc (by simp[z])) (λz=>hc (by simp[z])) q
 refine I.step (g':=s.gens) (d':=s.drawn) (ch:=[e,it]) (λb hb=>?_) (λb u _ _ hc q _=>kk b u hc q) (λb u _ _ hc q _=>⟨u.slots,kk b u hc q⟩) (λb u _ q n=>by rw[aj (nT b u q)];exact n)
  (λb u hc q=>⟨u,kk b u hc q⟩) (λb xs q=>by rw[aj (aq q hn)];exact q) (λb u xs q=>by rw[aj (aq q hn)];exact q) (λb ps q=>⟨#[],by rw[aj (aq q hn),q];simp⟩) (λm hm=>?_) (λb u q=>?_) I.bare
 ·have z:b=e\/b=it:=by simpa using hb
  rcases z with z|z
  ·subst z
   obtain⟨_,a2,_,a4,a5,a6⟩:=f1
   exact⟨a4,a2,a5,a6⟩
  ·subst z
   obtain⟨_,a2,_,a4,a5,a6⟩:=f2
   exact⟨a4,a2,a5,a6⟩
 ·obtain⟨ob,es,ep,ho,r⟩:=hm
  exact⟨ob,es,ep,k _ ob (Ne.symm f1.2.1) (Ne.symm f2.2.1) ho,r⟩
 ·by_cases hb:b=T
  ·subst hb
   rw[ag]at q
   cases q
   exact new
  ·rw[aj hb]at q
   refine(I.hok b u q).stay (λc v hc z=>k c v ?_ ?_ z) (λc z=>by rw[aj (aq z hn)];exact z) λc xs z=>by rw[aj (aq z hn)];exact z
   ·rcases hc with z|z
    ·rw[z];exact n1 b u q
    ·exact n1 c _ z
   ·rcases hc with z|z
    ·rw[z];exact n2 b u q
    ·exact n2 c _ z
def Ite (K:PySem.W.Frag) (a:Addr):It :=
 ⟨λi H=>∃xs x,SqL K H a xs/\xs[i]?=some x,λi H x H'=>∃T v,H T=none/\x=.ref T/\H'=upd H T (.tup [.int (i:Nat),v])/\∀xs,SqL K H a xs->xs[i]?=some v,λi H=>∃xs,SqL K H a xs/\xs.length<=i⟩
theorem ql {elts:List Expr} {k:Nat} (a e it:Addr) (hne:e≠it) :
  Turn P w K (.Tuple elts k pos) (Ite K a) [e,it] e (λi h=>(∃old,IsEnum h e it (i:Nat) old)/\h.IsListIter it a i) where
 mem:=by simp
 obj:=λi h st b hb=>by
  obtain⟨⟨old,he⟩,o,ho,hc,hd⟩:=st
  have z:b=e\/b=it:=by simpa using hb
  rcases z with z|z
  ·subst z
   exact⟨_,he,λv q=>by
    have q':Data.fields _=Data.cell v:=q
    cases q'⟩
  ·subst z
   exact⟨o,ho,λv q=>by rw[hd]at q;cases q⟩
 keep:=λi h h' st kk=>by
  obtain⟨⟨old,he⟩,hl⟩:=st
  exact⟨⟨old,kk e (by simp) _ he⟩,hl.at λo q=>kk it (by simp) o q⟩
 item:=by
  intro X hP hw hK hc i pins s σ H E I hf st hg
  subst hP hw hK
  obtain⟨xs,x,hq,hx⟩:=hg
  obtain⟨its,rv,p,hz⟩:=I.list hq
  obtain⟨u,hu,ru⟩:=rv.get hx
  obtain⟨⟨old,he⟩,hl⟩:=st
  have f1:=hf e (by simp)
  have f2:=hf it (by simp)
  refine wpAny_pyNext_enum_item he hl p.isList (x:=u) (by simpa using hu) hne λh1 a1 a2 a3 a4 a5=>⟨_,rfl,?_⟩
  refine wpAny_letOwnedTupleGo_enum a1 λh2 b1 b2=>?_
  have nTe:s.heap.objs.size≠e:=λz=>by
   have q:=Heap.lt_size (show s.heap.get? e=some _ from he)
   rw[<-z]at q;exact Nat.lt_irrefl _ q
  have keep2:∀b o,b≠e->b≠it->s.heap.get? b=some o->h2.get? b=some o:=λb o n1 n2 q=>b2.extBut b o n1 (a5 b o n1 n2 q)
  have tup2:h2.get? s.heap.objs.size=some { cls:=.type "tuple", data:=.seq #[.int i s.toks,u] }:=b2.extBut _ _ nTe a3
  have I2:Inv X pins σ (upd H s.heap.objs.size (.tup [.int (i:Nat),x])) { s with heap:=h2,toks:=s.toks+1 } :=
   I.turned2 keep2 f1 f2 (Nat.le_refl _) ⟨(by show 2<=sizeLine;decide),[.int i s.toks,u],.cons ⟨_,rfl⟩ (.cons ru .nil),⟨_,tup2,rfl,_,rfl⟩⟩
  refine⟨.ref s.heap.objs.size,_,I2,rfl,⟨s.heap.objs.size,x,I.hok.fresh (Nat.le_refl _),rfl,rfl,λys hy=>by rw[I.list_inj hy hq];exact hx⟩,⟨⟨u,?_⟩,(a2.extBut b2.extBut (Ne.symm hne))⟩,λb hb=>?_⟩
  ·have q:IsEnum h2 e it ((i:Int)+1) u:=b1
   have c:(((i+1:Nat):Nat):Int)=(i:Int)+1:=by omega
   rw[c];exact q
  ·have z:b=e\/b=it:=by simpa using hb
   have nT:b≠s.heap.objs.size:=by
    rcases z with z|z
    ·rw[z];exact Ne.symm nTe
    ·rw[z]
     obtain⟨o,ho,_⟩:=hl
     exact Nat.ne_of_lt (Heap.lt_size ho)
   rw[aj nT]
   exact(hf b hb).1
 done:=by
  intro X hP hw hK hc i pins s σ H E I hf st hg
  subst hP hw hK
  obtain⟨xs,hq,hx⟩:=hg
  obtain⟨its,rv,p,hz⟩:=I.list hq
  obtain⟨⟨old,he⟩,hl⟩:=st
  obtain⟨f0,f1,f2,f3,f4,f5⟩:=hf it (by simp)
  have hlen:=rv.length
  exact wpAny_pyNext_enum_end (I.ok.hd hc) he hl p.isList (by simp;exact om4 hx hlen) λh' eb=>⟨rfl,I.turned (t':=s.toks) (λb o hb q=>eb b o hb q) f0 f1 f3 f4 f5⟩
 self:=λ_ _ _ _ _ st h=>by
  obtain⟨⟨old,he⟩,_⟩:=st
  exact wpAny_pyIter_enum he h
section
variable {X:Cx} {elts:List Expr} {k:Nat} {tpos:Pos}
def A4 (K:PySem.W.Frag) (ta:TA):TI:=λσ H R=>ta σ H λvs H1=>∃a,vs=[.ref a]/\(∃xs,SqL K H1 a xs)/\R (Ite K a) H1
theorem pD {a:Expr} {ta:TA} {p pos:Pos} (hg:Gl X "enumerate") (hm:X.mg "enumerate" = none) (ha:PA X [a] ta) (hs:starEach [a] X.env=[(false,eval a X.env)]:=by rfl):PI X (.Tuple elts k tpos) (.Call (.Name "enumerate" p) [a] [] pos) (A4 X.K ta):=by
 intro pins s σ H R I h
 refine Call_ (dj I hg hm boot_enumerate (PyProof.Rows.callWith_type1 (thn (ha pos pins s σ H _ I h) λus s1 ⟨vs,H1,I1,r1,q1⟩=>?_) hs rfl))
 obtain⟨l,e,⟨xs,hq⟩,q⟩:=q1
 subst e
 cases r1 with
 | cons r rr =>
  cases rr
  cases r
  obtain⟨its,rv,pl,hz⟩:=I1.list hq
  refine call_enumerate_list pl.isList λh' b1 b2 b3 b4=>?_
  refine wpAny_pyIter_enum b1 ?_
  have I2:Inv X pins σ H1 { s1 with heap:=h' }:=I1.kept (t':=s1.toks) b4
  refine⟨s1.heap.objs.size+1,[s1.heap.objs.size+1,s1.heap.objs.size],_,_,H1,rfl,I2,ql l (s1.heap.objs.size+1) s1.heap.objs.size (by show @Ne Nat _ _;exact om5),⟨⟨_,b1⟩,b2⟩,λb hb=>?_,q⟩
  have z:b=s1.heap.objs.size+1\/b=s1.heap.objs.size:=by simpa using hb
  have hle:s1.heap.objs.size<=b:=by
   rcases z with z|z
   ·rw[z];exact Nat.le_succ _
   ·rw[z];exact Nat.le_refl _
  exact I1.fpOk hle (I1.hok.fresh hle)
end
theorem nr {xs:List V} {g:TG} {tb:TS} {D:Ends} {σ:St} {H:Hp} (Pv:Nat->St->Hp->Prop) (h0:Pv 0 σ H) (hl:∀i σ H,i<=xs.length->Pv i σ H->SqL K H a xs)
  (hs:∀i x σ H T,xs[i]?=some x->Pv i σ H->H T=none->g (.ref T) σ (upd H T (.tup [.int (i:Nat),x])) λσ2 H2=>tb { D with nx:=Pv (i+1),ct:=Pv (i+1),bk:=D.nx } σ2 H2) (hd:∀σ H,Pv xs.length σ H->D.nx σ H) :
  ∃W:Nat->Nat->St->Hp->Prop,(∃m,W 0 m σ H)/\∀i m σ H,W i m σ H ->
   ((Ite K a).stop i H/\D.nx σ H)\/((Ite K a).go i H/\∃N:St->Hp->Prop,(∀σ' H',N σ' H'->∃m',m'<m/\W (i+1) m' σ' H')/\∀x H',(Ite K a).yld i H x H'->g x σ H' λσ2 H2=>tb { D with nx:=N,ct:=N,bk:=D.nx } σ2 H2):=by
 refine⟨λi m σ H=>m=xs.length-i/\i<=xs.length/\Pv i σ H,⟨xs.length,by simp,Nat.zero_le _,h0⟩,?_⟩
 rintro i m σ H ⟨rfl,hi,p⟩
 have q:=hl i σ H hi p
 by_cases hlt:i<xs.length
 ·refine .inr ⟨⟨xs,xs[i],q,by simp[hlt]⟩,Pv (i+1),λσ' H' p'=>⟨xs.length-(i+1),by exact om6 hlt,rfl,hlt,p'⟩,λx H' y=>?_⟩
  obtain⟨T,v,hT,ex,eH,y⟩:=y
  subst ex eH
  exact hs i v σ H T (y xs q) p hT
 ·have e:i=xs.length:=by exact om0 hi hlt
  subst e
  exact .inl ⟨⟨xs,q,Nat.le_refl _⟩,hd σ H p⟩
structure Fn (P:Program) (w:World) (K:PySem.W.Frag) (mg:Str->Option Value) (base:Heap) (x:Str) (ps:List Str) (k:Nat) (sp:Sp):Prop where
 ex:∃f fd,FnOk P w K mg base CX0 k f fd ps sp/\mg x=some (.ref f)/\PySem.W.keepIn K (.ref f)=true/\gr K fd ps []
section
variable {X:Cx}
theorem vM {x:Str} {ps:List Str} {k:Nat} {sp:Sp} {e:Expr} {es:List Expr} {t:TA} {p pos:Pos} (F:Fn X.prog X.w X.K X.mg X.base x ps k sp) (hr:Room k X.A) (hg:Gl X x) (ha:PA X (e::es) t)
  (hdb:(x==("__debug__" : Str))=false:=by decide) (he:starEach (e::es) X.env=(false,eval e X.env)::starEach es X.env:=by rfl) (hpl:(backTo pos (starEach es X.env)).any (·.1)=false:=by rfl) :
  PE X (.Call (.Name x p) (e::es) [] pos) (iC sp [] E0 t):=by
 obtain⟨f,fd,G,hm,hk,hb⟩:=F.ex
 exact uz G hr hg hm hk hb .nil vN ha hdb he hpl
theorem aU {x:Str} {ps:List Str} {k j:Nat} {sp:Sp} {e:Expr} {es:List Expr} {t:TA} {p pos:Pos} (F:Fn X.prog X.w X.K X.mg X.base x ps k sp) (hr:Room j X.A) (ha:PA X (e::es) t) (hk:k<=j:=by first|decide|omega) (hg:Gl X x:=by rfl) (hdb:(x==("__debug__" : Str))=false:=by decide) (he:starEach (e::es) X.env=(false,eval e X.env)::starEach es X.env:=by rfl) (hpl:(backTo pos (starEach es X.env)).any (·.1)=false:=by rfl):PE X (.Call (.Name x p) (e::es) [] pos) (iC sp [] E0 t):=vM F (hr.mono hk) hg ha hdb he hpl
end
section
variable {σ:St} {H:Hp} {Q:VK} {K:PySem.W.Frag}
variable {v x y:V}
theorem i_var {i:Nat} (h:σ[i]?=some (some v)) (q:Q v H):cI i σ H Q:=⟨v,h,q⟩
theorem i_c (q:Q v H):tC v σ H Q:=q
variable {ta tb te ti tl:TE}
theorem i_op {r:R2} (q:ta σ H λx H1=>tb σ H1 λy H2=>r x y H2 Q):tOp r ta tb σ H Q:=q
variable {i j:Int}
theorem i_rI0 {g:Int->Int->V} (q:Q (g i j) H):rI0 g (.int i) (.int j) H Q:=⟨i,j,rfl,rfl,q⟩
theorem i_rI {C:Int->Int->Prop} {g:Int->Int->V} (c:C i j) (q:Q (g i j) H):rI C g (.int i) (.int j) H Q:=⟨i,j,rfl,rfl,c,q⟩
theorem i_eq (h:uo x y=true) (q:Q (.bl (decide (x=y))) H):rEq x y H Q:=⟨h,q⟩
theorem i_ne (h:uo x y=true) (q:Q (.bl (!decide (x=y))) H):rNe x y H Q:=⟨h,q⟩
variable {R:Bool->Hp->Prop}
theorem i_test {t:TE} (q:t σ H λx H'=>∃k,x=.bl k/\R k H'):vm t σ H R:=q
theorem i_tB {t:TE} (q:t σ H λx H'=>∃k,x=.bl k/\R k H'):tB t σ H R:=q
theorem i_and {t u:TT} (q:t σ H λc H1=>if c=true then u σ H1 R else R false H1):xM t u σ H R:=q
theorem i_or {t u:TT} (q:t σ H λc H1=>if c=true then R true H1 else u σ H1 R):tOr t u σ H R:=q
theorem i_not {t:TT} (q:t σ H λc H1=>R (!c) H1):xD t σ H R:=q
theorem i_andV (q:ta σ H λx H1=>∃c,x=.bl c/\if c=true then tb σ H1 Q else Q (.bl false) H1):vA ta tb σ H Q:=q
theorem i_orV (q:ta σ H λx H1=>∃c,x=.bl c/\if c=true then Q (.bl true) H1 else tb σ H1 Q):xC ta tb σ H Q:=q
theorem i_notV (q:ta σ H λx H1=>∃c,x=.bl c/\Q (.bl (!c)) H1):vo ta σ H Q:=q
theorem i_ifE {t:TT} (q:t σ H λc H1=>if c=true then ta σ H1 Q else tb σ H1 Q):tIf t ta tb σ H Q:=q
theorem i_nil {R:List V->Hp->Prop} (q:R [] H):hG σ H R:=q
variable {tr t:TA}
theorem i_cons {R:List V->Hp->Prop} (q:te σ H λx H1=>tr σ H1 λxs H2=>R (x::xs) H2):bQ te tr σ H R:=q
theorem i_call {sp:Sp} {E:XK} (q:t σ H λvs H1=>sp vs H1 Q E):iC sp [] E t σ H Q:=by
 show t σ H λvs H1=>sp (vs++[]) H1 Q E
 simpa only[List.append_nil] using q
theorem i_cb {r:List V->Hp->VK->Prop} (q:t σ H λvs H1=>r vs H1 Q):tCB r t σ H Q:=q
theorem i_tup (q:t σ H λxs H1=>xs.length<=sizeLine/\∀p,H1 p=none->Q (.ref p) (upd H1 p (.tup xs))):uh t σ H Q:=q
theorem i_lst (q:t σ H λxs H1=>xs.length<=sizeLine/\∀p,H1 p=none->Q (.ref p) (upd H1 p (.lst xs))):wv t σ H Q:=q
theorem i_bm {T:String} {r:V->List V->Hp->VK->Prop} {to:TE} (q:to σ H λx H1=>tyV K T x H1/\t σ H1 λxs H2=>r x xs H2 Q):tBM K T r to t σ H Q:=q
theorem i_sl {r:V->Option Int->Option Int->Hp->VK->Prop} {tl th:TO} (q:te σ H λx H1=>tl σ H1 λl H2=>th σ H2 λu H3=>r x l u H3 Q):tSl r te tl th σ H Q:=q
theorem i_nopart {R:Option Int->Hp->Prop} (q:R none H):pb σ H R:=q
theorem i_part {t:TE} {R:Option Int->Hp->Prop} (q:t σ H λx H1=>∃i,x=.int i/\R (some i) H1):vn t σ H R:=q
variable {xs:List V}
theorem i_ixL {p:Addr} {v:V} (h:SqL K H p xs) (e:atI xs i=some v) (q:Q v H):uq K (.ref p) (.int i) H Q:=⟨p,xs,i,v,rfl,rfl,h,e,q⟩
theorem i_ixT {p:Addr} (h:H p=some (.tup xs)) (e:atI xs i=some v) (q:Q v H):mL K (.ref p) (.int i) H Q:=⟨p,xs,i,v,rfl,rfl,SqT.of h,e,q⟩
theorem fE {z:Str} {c:Nat} (hz:z.length<=sizeLine) (e:atI z.cps.toList i=some c) (q:Q (.str ⟨#[c]⟩) H):xS (.str z) (.int i) H Q:=⟨z,i,c,rfl,rfl,hz,e,q⟩
variable {D:Ends}
theorem aP {t u:TS} (q:t { D with nx:=u D } σ H):uk t u D σ H:=q
theorem s_asg {g:TG} (q:te σ H λx H1=>g x σ H1 D.nx):qo te g D σ H:=q
theorem s_name {i:Nat} {R:St->Hp->Prop} (q:R (σ.set i (some v)) H):eU i v σ H R:=q
theorem s_drop (q:te σ H λ_ H1=>D.nx σ H1):vv te D σ H:=q
theorem s_ret {te:TE} (q:te σ H D.rt):xB te D σ H:=q
theorem s_next (q:D.nx σ H):vp D σ H:=q
theorem s_if {c:TT} {t u:TS} (q:c σ H λb H1=>if b=true then t D σ H1 else u D σ H1):xF c t u D σ H:=q
theorem s_sub {to:TE} {t:vh} {R:St->Hp->Prop} (q:to σ H λo H1=>ti σ H1 λi H2=>t o i v H2 λH3=>R σ H3):A5 to ti t v σ H R:=q
theorem s_setL {p:Addr} {k:Int} {j:Nat} {R:Hp->Prop} (h:H p=some (.lst xs)) (e:ixN xs.length k=some j) (q:R (upd H p (.lst (xs.set j v)))):vH (.ref p) (.int k) v H R:=⟨p,xs,k,j,rfl,rfl,h,e,q⟩
theorem s_for {wi:TI} {g:TG} {tb:TS} (q:wi σ H λJ H1=>∃W:Nat->Nat->St->Hp->Prop,(∃m,W 0 m σ H1)/\∀i m σ H,W i m σ H ->
 (J.stop i H/\D.nx σ H)\/(J.go i H/\∃N:St->Hp->Prop,(∀σ' H',N σ' H'->∃m',m'<m/\W (i+1) m' σ' H')/\∀x H',J.yld i H x H'->g x σ H' λσ2 H2=>tb { D with nx:=N,ct:=N,bk:=D.nx } σ2 H2)):xH wi g tb D σ H:=q
theorem s_rng1 {ta:TA} {R:It->Hp->Prop} (q:ta σ H λvs H1=>∃j:Int,vs=[.int j]/\-(2 ^ 62)<=j/\j<2 ^ 62/\R (Itr 0 j.toNat) H1):wm ta σ H R:=q
theorem s_list {R:It->Hp->Prop} (q:tl σ H λx H1=>∃a,x=.ref a/\(∃xs,SqL K H1 a xs)/\R (Itl K a) H1):np K tl σ H R:=q
theorem s_str {R:It->Hp->Prop} (q:tl σ H λv H1=>∃z:Str,v=.str z/\R (Itf z.cps.size (eT z)) H1):A2 tl σ H R:=q
theorem cB {wi:TI} {g:TG} {tt:TT} {f:St->St} (q:wi σ H λJ H1=>∀D,H1 D=none->∃W:Nat->Nat->Hp->List V->Prop,(∃m,W 0 m (upd H1 D (.lst [])) []) /\
 ∀i m H ys,W i m H ys->H D=some (.lst ys)/\((J.stop i H/\Q (.ref D) H)\/(J.go i H/\∀x H',J.yld i H x H'->g x (f σ) H' λσ2 H2=>wk (f σ) σ2/\tt σ2 H2 λb H3 =>
  if b=true then te σ2 H3 λv H4=>H4 D=some (.lst ys)/\ys.length<sizeLine/\∃m',m'<m/\W (i+1) m' (upd H4 D (.lst (ys++[v]))) (ys++[v])
  else ∃m',m'<m/\W (i+1) m' H3 ys))):kh wi g tt te f σ H Q:=q
end
def ck (Pv:Nat->Hp->List V->Prop) (n:Nat) (D:Addr) (i:Nat) (ys:List V):VK:=λv H4=>H4 D=some (.lst ys)/\ys.length<sizeLine/\∃m',m'<n-i/\(m'=n-(i+1)/\i+1<=n/\Pv (i+1) (upd H4 D (.lst (ys++[v]))) (ys++[v]))
theorem ck.mk {Pv:Nat->Hp->List V->Prop} {D:Addr} {ys:List V} {v:V} {H4:Hp} (hd:H4 D=some (.lst ys)) (hi:i<n) (hl:ys.length<sizeLine) (p:Pv (i+1) (upd H4 D (.lst (ys++[v]))) (ys++[v])):ck Pv n D i ys v H4 :=
 ⟨hd,hl,n-(i+1),by exact om6 hi,rfl,hi,p⟩
section
variable {K:PySem.W.Frag} {g:TG} {te:TE} {σ0:St} {QD:Hp->Prop} {H1:Hp} {D:Addr}
theorem fQ {lo:Int} {n:Nat} (Pv:Nat->Hp->List V->Prop) (h0:Pv 0 (upd H1 D (.lst [])) []) (hD:∀i H ys,Pv i H ys->H D=some (.lst ys))
  (hs:∀i H ys,i<n->Pv i H ys->g (.int (lo+i)) σ0 H λσ2 H2=>wk σ0 σ2/\gv σ2 H2 λb H3=>if b=true then te σ2 H3 (ck Pv n D i ys) else ∃m',m'<n-i/\(m'=n-(i+1)/\i+1<=n/\Pv (i+1) H3 ys)) (hd:∀H ys,Pv n H ys->QD H) :
  ∃W:Nat->Nat->Hp->List V->Prop,(∃m,W 0 m (upd H1 D (.lst [])) [])/\∀i m H ys,W i m H ys->H D=some (.lst ys)/\(((Itr lo n).stop i H/\QD H)\/((Itr lo n).go i H/\∀x H',(Itr lo n).yld i H x H'->g x σ0 H' λσ2 H2=>wk σ0 σ2/\gv σ2 H2 λb H3 =>
   if b=true then te σ2 H3 λv H4=>H4 D=some (.lst ys)/\ys.length<sizeLine/\∃m',m'<m/\W (i+1) m' (upd H4 D (.lst (ys++[v]))) (ys++[v]) else ∃m',m'<m/\W (i+1) m' H3 ys)):=by
 refine⟨λi m H ys=>m=n-i/\i<=n/\Pv i H ys,⟨n,by simp,Nat.zero_le _,h0⟩,?_⟩
 rintro i m H ys ⟨rfl,hi,p⟩
 refine⟨hD i H ys p,?_⟩
 by_cases hlt:i<n
 ·refine .inr ⟨hlt,λx H' y=>?_⟩
  obtain⟨e,y⟩:=y
  subst e y
  exact hs i _ ys hlt p
 ·have e:i=n:=by exact om0 hi hlt
  subst e
  exact .inl ⟨Nat.le_refl _,hd H ys p⟩
theorem eB {a:Addr} {xs:List V} (Pv:Nat->Hp->List V->Prop) (h0:Pv 0 (upd H1 D (.lst [])) []) (hD:∀i H ys,Pv i H ys->H D=some (.lst ys)/\SqL K H a xs)
  (hs:∀i x H ys,xs[i]?=some x->Pv i H ys->g x σ0 H λσ2 H2=>wk σ0 σ2/\gv σ2 H2 λb H3=>if b=true then te σ2 H3 (ck Pv xs.length D i ys) else ∃m',m'<xs.length-i/\(m'=xs.length-(i+1)/\i+1<=xs.length/\Pv (i+1) H3 ys)) (hd:∀H ys,Pv xs.length H ys->QD H) :
  ∃W:Nat->Nat->Hp->List V->Prop,(∃m,W 0 m (upd H1 D (.lst [])) [])/\∀i m H ys,W i m H ys->H D=some (.lst ys)/\(((Itl K a).stop i H/\QD H)\/((Itl K a).go i H/\∀x H',(Itl K a).yld i H x H'->g x σ0 H' λσ2 H2=>wk σ0 σ2/\gv σ2 H2 λb H3 =>
   if b=true then te σ2 H3 λv H4=>H4 D=some (.lst ys)/\ys.length<sizeLine/\∃m',m'<m/\W (i+1) m' (upd H4 D (.lst (ys++[v]))) (ys++[v]) else ∃m',m'<m/\W (i+1) m' H3 ys)):=by
 refine⟨λi m H ys=>m=xs.length-i/\i<=xs.length/\Pv i H ys,⟨xs.length,by simp,Nat.zero_le _,h0⟩,?_⟩
 rintro i m H ys ⟨rfl,hi,p⟩
 obtain⟨d1,d2⟩:=hD i H ys p
 refine⟨d1,?_⟩
 by_cases hlt:i<xs.length
 ·refine .inr ⟨⟨xs,xs[i],d2,by simp[hlt]⟩,λx H' y=>?_⟩
  obtain⟨e,y⟩:=y
  subst e
  exact hs i x _ ys (y xs d2) p
 ·have e:i=xs.length:=by exact om0 hi hlt
  subst e
  exact .inl ⟨⟨xs,d2,Nat.le_refl _⟩,hd H ys p⟩
theorem tS {n:Nat} {f:Nat->V} (Pv:Nat->Hp->List V->Prop) (h0:Pv 0 (upd H1 D (.lst [])) []) (hD:∀i H ys,Pv i H ys->H D=some (.lst ys))
  (hs:∀i H ys,i<n->Pv i H ys->g (f i) σ0 H λσ2 H2=>wk σ0 σ2/\gv σ2 H2 λb H3=>if b=true then te σ2 H3 (ck Pv n D i ys) else ∃m',m'<n-i/\(m'=n-(i+1)/\i+1<=n/\Pv (i+1) H3 ys)) (hd:∀H ys,Pv n H ys->QD H) :
  ∃W:Nat->Nat->Hp->List V->Prop,(∃m,W 0 m (upd H1 D (.lst [])) [])/\∀i m H ys,W i m H ys->H D=some (.lst ys)/\(((Itf n f).stop i H/\QD H)\/((Itf n f).go i H/\∀x H',(Itf n f).yld i H x H'->g x σ0 H' λσ2 H2=>wk σ0 σ2/\gv σ2 H2 λb H3 =>
   if b=true then te σ2 H3 λv H4=>H4 D=some (.lst ys)/\ys.length<sizeLine/\∃m',m'<m/\W (i+1) m' (upd H4 D (.lst (ys++[v]))) (ys++[v]) else ∃m',m'<m/\W (i+1) m' H3 ys)):=by
 refine⟨λi m H ys=>m=n-i/\i<=n/\Pv i H ys,⟨n,by simp,Nat.zero_le _,h0⟩,?_⟩
 rintro i m H ys ⟨rfl,hi,p⟩
 refine⟨hD i H ys p,?_⟩
 by_cases hlt:i<n
 ·refine .inr ⟨hlt,λx H' y=>?_⟩
  obtain⟨e,y⟩:=y
  subst e y
  exact hs i _ ys hlt p
 ·have e:i=n:=by exact om0 hi hlt
  subst e
  exact .inl ⟨rfl,hd H ys p⟩
end
section
variable {H:Hp} {Q:VK} {K:PySem.W.Frag}
theorem gU {z:Str} {lo hi:Option Int} (h:z.length<=sizeLine) (q:Q (.str (Txt.slice z lo hi)) H):xP (.str z) lo hi H Q:=⟨z,rfl,h,q⟩
variable {xs zs:List V} {a p l b:Addr}
theorem gW {lo hi:Option Int} (h:SqL K H a xs) (q:∀p,H p=none->Q (.ref p) (upd H p (.lst (fh xs lo hi)))):xQ K (.ref a) lo hi H Q:=⟨a,xs,rfl,h,q⟩
theorem Cf {x:V} (h:SqL K H p xs) (fx:cT x=true) (fs:xs.all cT=true) (q:Q (.bl (inV x xs)) H):rIn K false x (.ref p) H Q:=⟨p,xs,rfl,.inl h,fx,fs,q⟩
theorem kG (h1:H l=some (.lst xs)) (h2:H b=some (.lst zs)) (hz:xs.length+zs.length<=sizeLine) (q:∀p,H p=none->Q (.ref p) (upd H p (.lst (xs++zs)))):wD (.ref l) (.ref b) H Q:=⟨l,b,xs,zs,rfl,rfl,h1,h2,hz,q⟩
theorem dS {y:V} (h:H l=some (.lst xs)) (hz:xs.length<sizeLine) (q:Q .non (upd H l (.lst (xs++[y])))):lJ (.ref l) [y] H Q:=⟨l,xs,y,rfl,rfl,h,hz,q⟩
theorem i_tyL (h:H p=some (.lst xs)):tyV K "list" (.ref p) H:=.inl ⟨rfl,xs,SqL.of h⟩
end
theorem ak {H:Hp} {o:HO} (hp:H p=none):ao H (upd H p o):=λb u e=>by rw[aj (aq e hp)];exact e
end L2
namespace L2
open PySem
section
variable {σ:St} {H:Hp} {D:Ends}
theorem s_seqT {t u:TS} (q:let D':Ends:={ D with nx:=u D };t D' σ H):uk t u D σ H:=q
theorem s_nameT {i:Nat} {v:V} {R:St->Hp->Prop} (q:let σ':St:=σ.set i (some v);R σ' H):eU i v σ H R:=q
end
variable {H:Hp}
theorem i_yes {σ:St} {R:Bool->Hp->Prop} (q:R true H):gv σ H R:=q
theorem i_dget {td ty:TE} {σ:St} {Q:VK} (q:td σ H λx H1=>ty σ H1 λy H2=>∃a v,x=.ref a/\cq H2 a y (some v)/\Q v H2):vz td ty σ H Q:=q
theorem i_un {r:V->Hp->VK->Prop} {ta:TE} {σ:St} {Q:VK} (q:ta σ H λx H1=>r x H1 Q):tUn r ta σ H Q:=q
theorem i_rU {g:Int->V} {i:Int} {Q:VK} (q:Q (g i) H):rU g (.int i) H Q:=⟨i,rfl,q⟩
end L2
namespace L2
open PySem PySem.Spec PyProof.Rows
def dr (H:Hp) (c:Addr):Hp:=λb=>if b=c then none else H b
variable {c b f cell fa a T:Addr} {H:Hp}
theorem cZ:dr H c c=none:=if_pos rfl
theorem bu (h:b≠c):dr H c b=H b:=if_neg h
theorem rc {o:HO} (h:dr H c b=some o):b≠c/\H b=some o:=by
 by_cases e:b=c
 ·subst e;rw[cZ]at h;cases h
 ·rw[bu e]at h;exact⟨e,h⟩
def d8 (o:Obj):HO:=.frz o (.ext λ_=>True)
section
variable {P:Program} {w:World} {H H1:Hp} {h h1:Heap} {c:Addr} {o:Obj} {fs ex:List Addr}
theorem vf {H:Hp} (e:h.get? c=some o):bo P w H h c (d8 o):=⟨e,trivial,⟨o,e⟩,λ_ _ _ _=>trivial⟩
theorem HOk.drop (x:HOk P w H h) (hc:H c=some (d8 o)):HOk P w (dr H c) h:=λb u e=>by
 obtain⟨_,e⟩:=rc e
 refine(x b u e).stay (λ_ _ _ q=>q) (λd q=>?_) λd xs q=>?_
 ·rw[bu];exact q;intro z;subst z;rw[hc]at q;cases q
 ·rw[bu];exact q;intro z;subst z;rw[hc]at q;cases q
theorem HOk.take (x:HOk P w H h) (hc:H c=none) (e:h.get? c=some o):HOk P w (upd H c (d8 o)) h:=λb u q=>by
 by_cases hb:b=c
 ·subst hb;rw[ag]at q;cases q;exact vf e
 ·rw[aj hb]at q
  refine(x b u q).stay (λ_ _ _ r=>r) (λd r=>?_) λd xs r=>?_
  ·rw[aj (aq r hc)];exact r
  ·rw[aj (aq r hc)];exact r
theorem Un.back (u:Un fs ex (dr H c) H1 h h1) (hc:H c=some (d8 o)) (e:h.get? c=some o) (nf:c∉fs) (nx:c∉ex):Un fs ex H (upd H1 c (d8 o)) h h1/\H1 c=none/\h1.get? c=some o:=by
 have h1c:=u.free c o e cZ nx
 have e1:=u.keep c o e cZ nf nx
 have ne:∀{b v},H b=some v->v≠d8 o->b≠c:=λq n z=>by subst z;rw[hc]at q;cases q;exact n rfl
 have nn:∀{b},H b=none->b≠c:=λq z=>by subst z;rw[hc]at q;cases q
 refine⟨⟨λb ob q n hb hx=>?_,λb ob q n hb hx=>?_,λb ob q n hx=>?_,λb ob q hx=>u.there b ob q hx,λb xs q=>?_,λb ob v q=>?_,λb ps q=>?_⟩,h1c,e1⟩
 ·exact u.keep b ob q (by rw[bu (nn n)];exact n) hb hx
 ·exact u.slot b ob q (by rw[bu (nn n)];exact n) hb hx
 ·rw[aj (nn n)];exact u.free b ob q (by rw[bu (nn n)];exact n) hx
 ·have nb:=ne q (λz=>by cases z)
  rw[aj nb];exact u.tups b xs (by rw[bu nb];exact q)
 ·by_cases nb:b=c
  ·subst nb;rw[hc]at q;cases q;exact ag
  ·rw[aj nb];exact u.frzs b ob v (by rw[bu nb];exact q)
 ·have nb:=ne q (λz=>by cases z)
  rw[aj nb];exact u.tbls b ps (by rw[bu nb];exact q)
theorem Un.out (u:Un fs ex (upd H c (d8 o)) H1 h h1) (k1:HOk P w H1 h1) (hc:H c=none) (e:h.get? c=some o) (nf:c∉fs):Un fs ex H (dr H1 c) h h1/\HOk P w (dr H1 c) h1/\H1 c=some (d8 o):=by
 have h1c:=u.frzs c o _ ag
 have e1:=(k1 c _ h1c).1
 refine⟨⟨λb ob q n hb hx=>?_,λb ob q n hb hx=>?_,λb ob q n hx=>?_,λb ob q hx=>u.there b ob q hx,λb xs q=>?_,λb ob v q=>?_,λb ps q=>?_⟩,k1.drop h1c,h1c⟩
 ·by_cases nb:b=c
  ·subst nb;rw[e]at q;cases q;exact e1
  ·exact u.keep b ob q (by rw[aj nb];exact n) hb hx
 ·have nb:b≠c:=λz=>by subst z;exact nf hb
  exact u.slot b ob q (by rw[aj nb];exact n) hb hx
 ·by_cases nb:b=c
  ·subst nb;exact cZ
  ·rw[bu nb];exact u.free b ob q (by rw[aj nb];exact n) hx
 ·have nb:=aq q hc
  rw[bu nb];exact u.tups b xs (by rw[aj nb];exact q)
 ·have nb:=aq q hc
  rw[bu nb];exact u.frzs b ob v (by rw[aj nb];exact q)
 ·have nb:=aq q hc
  rw[bu nb]
  exact u.tbls b ps (by rw[aj nb];exact q)
end
structure Lm where
 qual:Str
 params:Arguments
 body:Expr
 scope:Scope
 pos:Pos
def gZ (c:Addr) (qual:Str):HO:=.ext λh=>h.CodeRec (.ref c) qual
def gS (f:Addr) (l:Lm) (cl:List (Str × Addr)) (c:Addr):HO:=.ext λh=>∃pm ctv,h.get? f=some (PySem.W.kla_obj "<lambda>" l.qual l.params l.body l.scope cl pm c ctv)
variable {qual y z x n:Str} {h h1 base:Heap} {w:World} {P p q:Program}
theorem tU (r:h.CodeRec (.ref c) qual):bo P w H h c (gZ c qual):=by
 obtain⟨d,oc,vs,t,e1,e2,r2⟩:=id r
 cases e1
 refine⟨r,⟨oc,e2⟩,λh1 h2 p k=>?_⟩
 obtain⟨d,oc,vs,t,e1,e2,r2⟩:=p
 cases e1
 exact⟨_,oc,vs,t,rfl,k _ e2,r2⟩
variable {pm ctv u uy:Value} {cl:List (Str × Addr)}
theorem pN {l:Lm} (e:h.get? f=some (PySem.W.kla_obj "<lambda>" l.qual l.params l.body l.scope cl pm c ctv)):bo P w H h f (gS f l cl c) :=
 ⟨⟨pm,ctv,e⟩,⟨_,e⟩,λ_ _ ⟨pm,ctv,q⟩ k=>⟨pm,ctv,k _ q⟩⟩
def eA (l:Lm) (c:Addr):Array Value:=#[rawInt l.pos.line,rawInt l.pos.col,.ref c]
def gq (T:Addr) (l:Lm) (H:Hp):Prop:=H T=some (.tbl #[])\/∃c,H T=some (.tbl (eA l c))/\H c=some (gZ c l.qual)
structure Made (T:Addr) (l:Lm) (cl:List (Str × Addr)) (H:Hp) (f c:Addr) (H':Hp):Prop where
 new:H f=none
 fn:H' f=some (gS f l cl c)
 code:H' c=some (gZ c l.qual)
 tab:H' T=some (.tbl (eA l c))
 old:∀b o,H b=some o->b≠T->H' b=some o
def fG (base:Heap) (mg:Str->Option Value):Prop:=∃bm ob,mg "__builtins__" = some (.ref bm)/\bm≠builtinsNs/\bm≠mainGlobals/\base.get? bm=some ob/\ob.cls=.type "module" /\ ob.dict=some builtinsNs/\ob.data=.plain
def xE (T:Addr) (l:Lm) (cl:List (Str × Addr)):TE:=λ_ H Q=>gq T l H/\∀f c H',Made T l cl H f c H'->Q (.ref f) H'
section
variable {X:Cx}
theorem wH {params:Arguments} {body:Expr} {scope:Scope} {pos:Pos} {cc T:Addr} {cl:List (Str × Addr)} (hcode:X.env.code=.ref cc) (C:PySem.W.CodeHd X.base cc T) (B:fG X.base X.mg) (hcl:closureFor scope X.env=pure cl) (hdef:defaultsOf params X.env=([],[]):=by rfl) :
  PE X (.Lambda params body scope pos) (xE T ⟨X.env.qual ++ "<lambda>", params,body,scope,pos⟩ cl):=by
 intro pins s σ H Q I h
 obtain⟨tb,q⟩:=h
 refine PySem.W.kla_eval hdef ?_
 have hg:s.heap.Ns mainGlobals X.mg:=I.mod.glob.keeps I.bk
 have hT:∃ps,H T=some (.tbl ps):=by rcases tb with e|⟨c,e,_⟩ <;> exact⟨_,e⟩
 obtain⟨ps0,hps0⟩:=hT
 have bne:∀{b ob},X.base.get? b=some ob->b≠T:=λe z=>by
  subst z
  rw[(I.bs _ _ e).2]at hps0
  cases hps0
 have hgP:mainGlobals≠T:=by
  obtain⟨o,es,ep,e,_⟩:=I.mod.glob
  exact bne e
 obtain⟨bm,ob,b1,b2,b3,b4,b5,b6,b7⟩:=B
 have hB:s.heap.BuiltinsAt X.mg T:=⟨bm,ob,b1,b2,b3,bne b4,I.bk _ _ b4,b5,b6,b7⟩
 have CH:=C.keeps I.bk
 rcases tb with e|⟨c,e,hc⟩
 ·have hP:s.heap.get? T=some (PySem.W.tabObj #[]):=I.hok T _ e
  refine PySem.W.kla_makeFunction (mg:=X.mg) hcl I.ok.glob hg hcode CH hP trivial rfl hgP hB λc' ctv h' tk hx hge hlt hrec htb=>?_
  have hsz:s.heap.objs.size<=h'.objs.size:=Nat.le_of_lt (Nat.lt_of_le_of_lt hge hlt)
  have nT:T<s.heap.objs.size:=Heap.lt_size hP
  let f:Addr:=h'.objs.size
  have Hf:H f=none:=I.hok.fresh hsz
  have Hc:H c'=none:=I.hok.fresh hge
  have nfc:c'≠f:=Nat.ne_of_lt hlt
  have nTf:T≠f:=Nat.ne_of_lt (Nat.lt_of_lt_of_le nT hsz)
  have nTc:T≠c':=Nat.ne_of_lt (Nat.lt_of_lt_of_le nT hge)
  let H':Hp:=upd (upd (upd H T (.tbl (eA ⟨X.env.qual ++ "<lambda>", params,body,scope,pos⟩ c'))) c' (gZ c' (X.env.qual ++ "<lambda>"))) f (gS f ⟨X.env.qual ++ "<lambda>", params,body,scope,pos⟩ cl c')
  have hH:∀b o,H b=some o->b≠T->H' b=some o:=λb o e n=>by
   show upd (upd (upd H T _) c' _) f _ b=_
   rw[aj (aq e Hf),aj (aq e Hc),aj n]
   exact e
  have hHT:H' T=some (.tbl (eA ⟨X.env.qual ++ "<lambda>", params,body,scope,pos⟩ c')):=by
   show upd (upd (upd H T _) c' _) f _ T=_
   rw[aj nTf,aj nTc,ag]
  have hHc:H' c'=some (gZ c' (X.env.qual ++ "<lambda>")):=by
   show upd (upd (upd H T _) c' _) f _ c'=_
   rw[aj nfc,ag]
  have kx:∀b o,b≠T->s.heap.get? b=some o->(h'.push (PySem.W.kla_obj "<lambda>" (X.env.qual ++ "<lambda>") params body scope cl ((X.mg "__name__").getD .none) c' ctv)).get? b=some o:=λb o n e=>Heap.get?_push_of_some _ (hx b o n e)
  have htb':h'.get? T=some (PySem.W.tabObj (eA ⟨X.env.qual ++ "<lambda>", params,body,scope,pos⟩ c')):=by simpa[eA] using htb
  have ntb:∀{b u},H b=some u->(∀ps,u≠.tbl ps)->b≠T:=λr n z=>by
   subst z
   rw[e]at r
   cases r
   exact n _ rfl
  have un:Un X.fs [] H H' s.heap (h'.push (PySem.W.kla_obj "<lambda>" (X.env.qual ++ "<lambda>") params body scope cl ((X.mg "__name__").getD .none) c' ctv)):=by
   have nn:∀{b},H b=none->b≠T:=λn z=>by subst z;rw[e]at n;cases n
   refine⟨λb o r n _ _=>kx b o (nn n) r,λb o r n _ _=>⟨o.slots,kx b o (nn n) r⟩,λb o r n _=>?_,λb o r _=>?_,λb xs r=>hH b _ r (ntb r λ_ z=>nomatch z),λb o v r=>hH b _ r (ntb r λ_ z=>nomatch z),λb ps r=>?_⟩
   ·have lb:b<s.heap.objs.size:=Heap.lt_size r
    show upd (upd (upd H T _) c' _) f _ b=none
    rw[aj (Nat.ne_of_lt (Nat.lt_of_lt_of_le lb hsz)),aj (Nat.ne_of_lt (Nat.lt_of_lt_of_le lb hge)),aj (nn n)]
    exact n
   ·by_cases z:b=T
    ·subst z;exact⟨_,Heap.get?_push_of_some _ htb'⟩
    ·exact⟨o,kx b o z r⟩
   ·by_cases z:b=T
    ·subst z
     rw[e]at r
     cases r
     exact⟨eA ⟨X.env.qual ++ "<lambda>", params,body,scope,pos⟩ c',by rw[hHT,Array.empty_append]⟩
    ·exact⟨#[],by rw[hH b _ r z];simp⟩
  have hok:HOk X.prog X.w H' (h'.push (PySem.W.kla_obj "<lambda>" (X.env.qual ++ "<lambda>") params body scope cl ((X.mg "__name__").getD .none) c' ctv)):=λb u qb=>by
   have qb:upd (upd (upd H T (.tbl (eA ⟨X.env.qual ++ "<lambda>", params,body,scope,pos⟩ c'))) c' (gZ c' (X.env.qual ++ "<lambda>"))) f (gS f ⟨X.env.qual ++ "<lambda>", params,body,scope,pos⟩ cl c') b=some u:=qb
   by_cases z1:b=f
   ·subst z1
    rw[ag]at qb
    cases qb
    exact pN (Heap.get?_push_size _ rfl)
   ·rw[aj z1]at qb
    by_cases z2:b=c'
    ·subst z2
     rw[ag]at qb
     cases qb
     obtain⟨d,oc,vs,t,e1,e2,r2⟩:=hrec
     exact tU ⟨d,oc,vs,t,e1,Heap.get?_push_of_some _ e2,r2⟩
    ·rw[aj z2]at qb
     by_cases z3:b=T
     ·subst z3
      rw[ag]at qb
      cases qb
      exact Heap.get?_push_of_some _ htb'
     ·rw[aj z3]at qb
      refine(I.hok b u qb).stay (λd v hd r=>kx d v ?_ r) (λd r=>hH d _ r (ntb r λ_ z=>nomatch z)) λd xs r=>hH d _ r (ntb r λ_ z=>nomatch z)
      rcases hd with z|z
      ·rw[z];exact z3
      ·intro y;subst y;rw[e]at z;cases z
  refine⟨.ref f,H',I.un (t':=tk) un hok,rfl,q f c' H' ⟨Hf,ag,hHc,hHT,hH⟩⟩
 ·have hP:s.heap.get? T=some (PySem.W.tabObj (eA ⟨X.env.qual ++ "<lambda>", params,body,scope,pos⟩ c)):=I.hok T _ e
  refine PySem.W.kla_makeFunctionHit (mg:=X.mg) (cv:=.ref c) hcl I.ok.glob hg hcode CH hP trivial (by simp[eA,codeAmong,rawInt]) hB λctv h' tk hk hsz=>?_
  let f:Addr:=h'.objs.size
  have Hf:H f=none:=I.hok.fresh hsz
  refine⟨.ref f,_,I.laid (t':=tk) (a:=f) (o:=gS f ⟨X.env.qual ++ "<lambda>", params,body,scope,pos⟩ cl c) (λb o e=>Heap.get?_push_of_some _ (hk b o e)) hsz (pN (Heap.get?_push_size _ rfl)),rfl,q f c _ ⟨Hf,ag,?_,?_,λb o e _=>?_⟩⟩
  ·rw[aj (aq hc Hf)];exact hc
  ·rw[aj (aq e Hf)];exact e
  ·rw[aj (aq e Hf)];exact e
end
structure LmScope (x y:Str) (sc:Scope):Prop where
 kind:sc.kind=.function
 co:sc.isCoroutine=false
 gen:sc.isGenerator=false
 par:sc.names.lookup x=some .local
 fre:sc.names.lookup y=some .free
 ne:x≠y
 nocell:∀z∈sc.names,z.2≠.cell
 only:∀z,sc.names.lookup z=some .free->z=y
def pY (P:Program) (w:World) (K:PySem.W.Frag) (mg:Str->Option Value) (base:Heap) (x y:Str) (l:Lm) (f c cell:Addr) (A:Around) (outer:List Env) (s:Shared) (H:Hp) (E:XK):Cx where
 prog:=P
 w:=w
 K:=K
 mg:=mg
 base:=base
 A:=A.deeper (PySem.W.envX l.qual l.scope s.heap.objs.size f (.ref c) [(y,cell)])
 N:=[x,y]
 s₀:=s
 H₀:=H
 env:=PySem.W.envX l.qual l.scope s.heap.objs.size f (.ref c) [(y,cell)]
 outer:=outer
 stack:=PySem.W.envX l.qual l.scope s.heap.objs.size f (.ref c) [(y,cell)]::outer
 ex:=[]
 calm:=true
 fn:=λ_=>false
 pn:=[]
 xe:=λe s'=>wpAny (model P w) (A.deeper (PySem.W.envX l.qual l.scope s.heap.objs.size f (.ref c) [(y,cell)])) (leaving (PySem.W.envX l.qual l.scope s.heap.objs.size f (.ref c) [(y,cell)]) e) (λ_ s''=>CX0 outer H s E e s'') (λe' s''=>CX0 outer H s E e' s'') s'
theorem lk1 (h:[(y,cell)].lookup z=some c):z=y/\c=cell:=by
 rw[List.lookup_cons]at h
 by_cases e:(z==y)=true
 ·rw[e]at h
  cases h
  exact⟨eq_of_beq e,rfl⟩
 ·have e:(z==y)=false:=by simpa using e
  rw[e]at h
  cases h
theorem nc:[(y,cell)].lookup y=some cell:=by
 rw[List.lookup_cons,beq_self_eq_true]
variable {s s₁:Shared} {mg mb:Str->Option Value} {K:PySem.W.Frag}
theorem uT {l:Lm} {f c:Addr} {A:Around} {outer:List Env} {E:XK} {vx vy:V} {tk:Nat}
  (S:LmScope x y l.scope) (hd:A.handled=none) (e0:Env0 P w K mg base A outer s H) (rx:aS vx u) (ry:aS vy uy) (hc:s.heap.IsCell cell (some uy)) (hH:H cell=none)
  (hns:h1.Ns s.heap.objs.size (λz=>[(x,u)].reverse.lookup z)) (hk:∀b o,s.heap.get? b=some o->h1.get? b=some o) :
  Inv (pY P w K mg base x y l f c cell A outer s H E) [] [some vx,some vy] H { s with heap:=h1,toks:=tk }:=by
 have noA:∀b:Addr,b∉(pY P w K mg base x y l f c cell A outer s H E).ex:=λb z=>absurd (show b∈([]:List Addr) from z) (by simp)
 have hc1:h1.IsCell cell (some uy):=by obtain⟨o,e1,e2⟩:=hc;exact⟨o,hk _ _ e1,e2⟩
 refine⟨⟨e0.mod,S.kind,rfl,rfl,Nat.le_refl _,λy' z c h1 h2=>(lk1 h1).1.trans (lk1 h2).1.symm,λz hz=>?_,(λy c h _=>nomatch h),λ_=>hd,Around.frames_deeper e0.frames,.inr ⟨rfl,rfl⟩,λb z=>absurd z (noA b),e0.bs,e0.bsz,λb _ _=>noA b,λb z=>absurd z (noA b),e0.funs,e0.frf⟩,
  rfl,e0.bare,Un.kept hk,⟨_,hns,λi z v h1 h2 h3=>?_⟩,λz c h=>?_,e0.hok.fresh (Nat.le_refl _),λz c h=>?_,λp hp=>absurd (show p∈([]:List (Addr × Obj)) from hp) (by simp),e0.hok.kept hk,rfl⟩
 ·have hz:l.scope.names.lookup z=some .cell\/l.scope.names.lookup z=some .free:=hz
  rcases hz with hz|hz
  ·exact absurd rfl (S.nocell _ (PySem.mem_of_lookup hz))
  ·rw[S.only z hz];exact⟨cell,nc⟩
 ·match i with
  | 0 =>
   cases h1
   cases h2
   refine⟨u,rx,.inl ⟨S.par,?_⟩⟩
   show [(x,u)].reverse.lookup x=some u
   simp[List.lookup]
  | 1 =>
   cases h1
   cases h2
   exact⟨uy,ry,.inr ⟨.inr S.fre,cell,nc,hc1⟩⟩
  | i+2 =>
   exact absurd h1 (by show ([x,y]:List Str)[i+2]?≠some z;simp)
 ·rw[(lk1 h).2];exact⟨_,hc1⟩
 ·rw[(lk1 h).2];exact hH
theorem uR {l:Lm} {A:Around} {outer:List Env} {Q:VK} {E:XK} {vx vy:V} {k:Nat} {t:TE} {args:Args}
  (S:LmScope x y l.scope) (hr:Room (k+1) A) (e0:Env0 P w K mg base A outer s H) (rx:aS vx u) (ry:aS vy uy) (hc:s.heap.IsCell cell (some uy)) (hH:H cell=none)
  (hf:s.heap.get? f=some (PySem.W.kla_obj "<lambda>" l.qual l.params l.body l.scope [(y,cell)] pm c ctv)) (hcd:s.heap.CodeRec (.ref c) l.qual) (hb:bindArgs (PySem.W.kla_fn "<lambda>" l.qual l.params l.body l.scope [(y,cell)] pm (.ref c) ctv) args=pure [(x,u)])
  (body:Room k (A.deeper (PySem.W.envX l.qual l.scope s.heap.objs.size f (.ref c) [(y,cell)]))->PE (pY P w K mg base x y l f c cell A outer s H E) l.body t) (q:t [some vx,some vy] H Q):codeAny (model P w) A (.call (.ref f) args) (CR CX0 outer P w H s Q E) s:=by
 have lim:s.heap.NoLimit:=e0.mod.nolimit.keeps λb o e=>(e0.bs b o e).1
 refine PySem.W.kla_callFunE hr.depth hf rfl S.co S.gen rfl hcd ?_
 rw[hb]
 refine wpAny_pure (wpAny_newFunctionEnv S.nocell (λz hz=>by rw[List.mem_singleton.mp hz];exact S.par) (λh1 hns hsb=>?_) S.kind)
 have hk1:∀b o,s.heap.get? b=some o->h1.get? b=some o:=λb o e=>hsb.extBut b o (Nat.ne_of_lt (Heap.lt_size e)) (Heap.get?_push_of_some _ e)
 refine⟨lim.keeps hk1,?_⟩
 show codeAny _ _ (.expr l.body (PySem.W.envX l.qual l.scope s.heap.objs.size f (.ref c) [(y,cell)])) _ _
 have I:=uT (f:=f) (c:=c) (E:=E) (tk:=s.toks+[(x,u)].length) S hr.hd e0 rx ry hc hH hns hk1
 refine PySem.W.kla_codeExpr (wpAny_mono (body (hr.deeper _) [] _ _ H Q I q) (λv s' hs=>?_) λe s' hs=>hs)
 obtain⟨v',H',J,rv,qv⟩:=hs
 exact⟨v',H',J.os,J.bare,J.base,J.hok,rv,qv⟩
def Calls (P:Program) (w:World) (K:PySem.W.Frag) (mg:Str->Option Value) (base:Heap) (k:Nat) (f:Addr) (r:V->Hp->VK->Prop):Prop :=
 ∀(X:Cx),X.prog=P->X.w=w->X.K=K->X.mg=mg->X.base=base->jK CX0 X E0->Room k X.A->∀pins s σ H vx u (Q:VK),Inv X pins σ H s->aS vx u->r vx H Q->wpAny (model X.prog X.w) X.A (call (.ref f) [u]) (EP X pins σ Q) X.xe s
def rH (P:Program) (w:World) (K:PySem.W.Frag) (mg:Str->Option Value) (base:Heap) (k i:Nat) (te:TE):TE:=λσ H Q=>∃f l cl c r,σ[i]?=some (some (.ref f))/\Calls P w K mg base k f r/\H f=some (gS f l cl c)/\te σ H λv H1=>H1 f=some (gS f l cl c)/\r v H1 Q
variable {pins:List (Addr × Obj)} {X:Cx}
theorem nv {σ:St} {l:Lm} (I:Inv X pins σ H s) (h:H f=some (gS f l cl c)):PySem.W.FnAt f s.heap:=by
 obtain⟨pm,ctv,e⟩:=(I.hok f _ h).1
 exact⟨_,_,_,_,e⟩
theorem sq {k i:Nat} {e:Expr} {te:TE} {p pos:Pos} (hr:Room k X.A) (hx:jK CX0 X E0) (hn:PE X (.Name n p) (cI i)) (he:PE X e te) (hs:starEach [e] X.env=[(false,eval e X.env)]:=by rfl) (hs0:starEach ([]:List Expr) X.env=[]:=by rfl) (hpl:(backTo pos (starEach [] X.env)).any (·.1)=false:=by rfl) :
  PE X (.Call (.Name n p) [e] [] pos) (rH X.prog X.w X.K X.mg X.base k i te):=by
 intro pins s σ H Q I h
 obtain⟨f,l,cl,c,r,hi,C,hf,h⟩:=h
 refine wpAny_Call_Name_kw (thn (hn pins s σ H (λv H1=>v=.ref f/\H1=H) I ⟨_,hi,rfl,rfl⟩) λu s1 ⟨v,H1,I1,ru,ev,eh⟩=>?_)
 subst ev eh
 obtain rfl:u=Value.ref f:=ru
 refine PySem.W.callWith_F (nv I1 hf) ?_ (by rw[hs,hs0]) hpl
 rw[hs]
 refine Calls.spliced_cons (thn (he pins s1 σ H1 _ I1 h) λiv s2 ⟨v,H2,I2,rv,hf2,q⟩=>?_)
 refine Calls.spliced_nil ⟨nv I2 hf2,?_⟩
 exact C X rfl rfl rfl rfl rfl hx hr pins s2 σ H2 v iv Q I2 rv q
theorem Inv.cellAt {σ:St} {i:Nat} {vy:V} (I:Inv X pins σ H s) (hN:X.N[i]?=some y) (hi:σ[i]?=some (some vy)) (hk:X.env.kindOf y=some .cell) (hv:Vis X.env.scope y) (hl:X.env.cells.lookup y=some cell) :
  ∃o uy,s.heap.get? cell=some o/\o.data=.cell (some uy)/\aS vy uy/\H cell=none:=by
 obtain⟨m,_,loc⟩:=I.loc
 obtain⟨u,ru,lk⟩:=loc i y vy hN hi hv
 rcases lk with⟨k,_⟩|⟨_,c,e,o,e1,e2⟩
 ·rw[hk]at k;cases k
 ·rw[hl]at e
  cases e
  exact⟨o,u,e1,e2,ru,I.freeC y cell hl⟩
theorem Inv.cellOut {σ:St} (I:Inv X pins σ H s) (hf:X.fn y=true) (hl:X.env.cells.lookup y=some cell):cell∉frs X.stack:=λz=>by
 have ab:=I.ok.cab y cell hf hl
 have no:cell∉frs X.outer:=λz=>by
  obtain⟨_,o,ho,_⟩:=I.ok.funs.mem z
  exact absurd (Heap.lt_size ho) (Nat.not_lt.mpr ab)
 rcases I.ok.stk with e|⟨e,fr⟩
 ·rw[e]at z;exact no z
 ·rw[e]at z
  unfold frs at z
  rw[List.filterMap_cons,fr]at z
  rcases List.mem_cons.mp z with z|z
  ·exact I.cne y cell hl z
  ·exact no z
def wx (sp:Sp) (i:Nat) (cell:Addr) (t:TA):TE:=λσ H Q=>t σ H λvs H1=>∃vy,σ[i]?=some (some vy)/\∀o uy,o.data=.cell (some uy)->aS vy uy->H1 cell=none->sp vs (upd H1 cell (d8 o)) (λv H2=>Q v (dr H2 cell)) E0
variable {ps loose:List Str}
theorem wI {k i:Nat} {sp:Sp} {e:Expr} {es:List Expr} {t:TA} {p pos:Pos} (F:Fn X.prog X.w X.K X.mg X.base x ps k sp) (hr:Room k X.A) (hg:Gl X x) (ha:PA X (e::es) t)
  (hN:X.N[i]?=some y) (hky:X.env.kindOf y=some .cell) (hv:Vis X.env.scope y) (hl:X.env.cells.lookup y=some cell) (hfn:X.fn y=true)
  (hdb:(x==("__debug__" : Str))=false:=by decide) (he:starEach (e::es) X.env=(false,eval e X.env)::starEach es X.env:=by rfl) (hpl:(backTo pos (starEach es X.env)).any (·.1)=false:=by rfl) :
  PE X (.Call (.Name x p) (e::es) [] pos) (wx sp i cell t):=by
 obtain⟨f,fd,G,hm,hk,hb⟩:=F.ex
 intro pins s σ H Q I h
 refine wpAny_Call_Name_kw (lO I hg hm ?_ hdb)
 refine PySem.W.callWith_K (h₀:=X.base) I.ok.mod.kin hk (thn (ha pos pins s σ H _ I h) λus s1 ⟨vs,H1,I1,r,q⟩=>⟨I1.kIn,?_⟩) he hpl
 obtain⟨vy,hi,q⟩:=q
 obtain⟨o,uy,e1,e2,ry,hn⟩:=I1.cellAt hN hi hky hv hl
 have nf:=I1.cellOut hfn hl
 have ab:=I1.ok.cab y cell hfn hl
 have e0:=I1.env0
 have e0':Env0 X.prog X.w X.K X.mg X.base X.A X.stack s1 (upd H1 cell (d8 o)):=⟨e0.frames,e0.mod,λb ob e=>⟨(e0.bs b ob e).1,by
  rw[aj]
  ·exact(e0.bs b ob e).2
  ·intro z
   have:=Heap.lt_size (I1.ok.bs b ob e).1
   rw[z]at this
   exact absurd this (Nat.not_lt.mpr ab)⟩,e0.bsz,e0.funs,λb hb=>by
  rw[aj]
  ·exact e0.frf b hb
  ·intro z;rw[z]at hb;exact nf hb,e0.hok.take hn e1,e0.bare⟩
 have hl2:us.length=ps.length:=by rw[<-r.length];exact G.len _ _ _ _ (q o uy e2 ry hn)
 refine wpAny_call (codeAny_mono (G.run X.A X.stack s1 _ ⟨us,[]⟩ us vs _ E0 hr e0' (by have:=hb s1 us I1.kIn (by rw[List.append_nil];exact hl2);rwa [List.append_nil]at this) r (q o uy e2 ry hn)) λrr s' hq=>?_)
 cases rr with
 | error e=>exact False.elim hq
 | ok fl =>
  cases fl with
  | ret u =>
   obtain⟨v,H',os,bare,un,hok,rv,qv⟩:=hq
   obtain⟨un',hok',_⟩:=un.out hok hn e1 nf
   exact I1.after ⟨v,_,os,bare,un',hok',rv,qv⟩
  | next=>exact False.elim hq
  | brk=>exact False.elim hq
  | cont=>exact False.elim hq
structure FunC (K:PySem.W.Frag) (x qual:Str) (st:Stmt) (f:Addr) (fd:FuncData) (c:Addr):Prop where
 ex:∃oc od kV doc pm an ct osl,fd=PySem.W.fnOf x qual (du st) (cw st) (ay st) .none kV doc pm an (.ref c) ct/\K.lookup f=some ⟨oc,od,.func (PySem.W.fnOf x qual (du st) (cw st) (ay st) .none kV doc pm an (.ref c) ct),osl⟩/\PySem.W.codeIn K (.ref c) qual=true
section
variable {P:Program} {w:World} {K:PySem.W.Frag} {mg:Str->Option Value} {base:Heap}
theorem FunC.ok {x qual:Str} {st:Stmt} {f c:Addr} {fd:FuncData} {N ps:List Str} {k:Nat} {sp:Sp} (F:FunC K x qual st f fd c) (S:FnScope N ps (ay st)) (len:∀vs H Q E,sp vs H Q E->vs.length=ps.length)
  (hbody:∀(A:Around) (outer:List Env) (s:Shared) (H:Hp) (vs:List V) (Q:VK) (E:XK),Room k (A.deeper (envOfC qual (ay st) s.heap.objs.size f (.ref c)))->sp vs H Q E ->
   ∃t,PSs (cxOf CX0 P w K mg base N qual (ay st) f (.ref c) A outer s H E).nox (cw st) t/\t { nx:=λ_ H'=>Q .non H',rt:=Q } (start N vs) H):FnOk P w K mg base CX0 (k+1) f fd ps sp:=by
 obtain⟨oc,od,kV,doc,pm,an,ct,osl,rfl,lk,hcd⟩:=F.ex
 refine wn lk hcd S len λA outer s H vs Q E hr hsp=>?_
 obtain⟨t,h,q⟩:=hbody A outer s H vs Q E hr hsp
 exact⟨t,h.nox,q⟩
end
structure OnlyT (tabs:List (Addr × Addr)) (H:Hp):Prop where
 tab:∀q∈tabs,H q.2=some (.tbl #[])
 other:∀b,b∉tabs.map (·.2)->H b=none\/∃o xs,H b=some (.frz o (.lst xs))
theorem qP {CX:CXT} {k:Nat} {fd:FuncData} {sp:Sp} {vs:List Value} {ns:List Int} {tabs:List (Addr × Addr)}
  (KX:K.In s₁.heap) (hns:s₁.heap.Ns mainGlobals mg) (hb:s₁.heap.Ns builtinsNs mb) (hbb:∀x:Str,x ≠ "__name__" -> mb x=bootBuiltins x) (hlim:s₁.heap.NoLimit) (hg:s₁.gens=#[])
  (hbm:fG s₁.heap mg) (hT:PySem.W.TabsAt tabs s₁.heap) (hTK:∀q∈tabs,K.lookup q.2=none)
  (ha:s₁.heap.get? a=some { cls:=.type "list", data:=.seq vs.toArray }) (hi:IntsAre vs ns) (hl:ns.length<=sizeLine) (hr:Room k callerA)
  (F:∀base:Heap,K.In base->base.Ns mainGlobals mg->fG base mg->FnOk P w K mg base CX k fa fd [x] sp) (hbind:∀(s:Shared) (u:Value),BindsTo s fd ⟨[u],[]⟩ [(x,u)])
  (hsp:∀H:Hp,OnlyT tabs H->SqL K H a (ns.map V.int)->sp [.ref a] H (λv _=>v=.bl true) λ_ _ _=>False)
  (hCX:∀H e s',CX [] H s₁ (λ_ _ _=>False) e s'->False) :
  codeAny (model P w) callerA (.call (.ref fa) ⟨[.ref a],[]⟩) (λr s'=>r=.ok (.ret (.bool true))/\OldK s₁.heap s'.heap/\s'.os=s₁.os/\AllBare s'.gens) s₁:=by
 have rv:=kf hi
 have lenV:=hi.length
 have naT:a∉tabs.map (·.2):=λq=>by
  obtain⟨r,hr,e⟩:=List.mem_map.mp q
  have e2:=(hT r hr).2
  rw[e,ha]at e2
  cases e2
 have core:∀H:Hp,OnlyT tabs H->SqL K H a (ns.map V.int)->HOk P w H s₁.heap->(∀b,H b≠none->b=a\/b∈tabs.map (·.2))->(H a≠none->K.lookup a=none) ->
   codeAny (model P w) callerA (.call (.ref fa) ⟨[.ref a],[]⟩) (λr s'=>r=.ok (.ret (.bool true))/\OldK s₁.heap s'.heap/\s'.os=s₁.os/\AllBare s'.gens) s₁:=by
  intro H hO hS hok hA hK
  have base_of:∀{b:Addr} {o:Obj},s₁.heap.get? b=some o->H b=none->(jV s₁.heap H).get? b=some o:=λe n=>tD e n
  have noA:∀{b:Addr} {o:Obj},s₁.heap.get? b=some o->(∀ps n,o.data≠.seq ps n)->(∀ps,o.data≠.fields ps)->H b=none:=λ{b o} e d1 d2=>by
   cases q:H b with
   | none=>rfl
   | some u =>
    rcases hA b (by rw[q];simp) with e'|e'
    ·subst e'
     rw[ha]at e;cases e
     exact absurd rfl (d1 _ _)
    ·obtain⟨r,hr,er⟩:=List.mem_map.mp e'
     have e2:=(hT r hr).2
     rw[er,e]at e2
     cases e2
     exact absurd rfl (d2 _)
  have nsK:∀{b:Addr} {m:Str->Option Value},s₁.heap.Ns b m->(jV s₁.heap H).Ns b m:=λ{b m} ⟨o,es,ep,e,d,r⟩=>⟨o,es,ep,base_of e (noA e (λ_ _ z=>by rw[d]at z;cases z) (λ_ z=>by rw[d]at z;cases z)),d,r⟩
  have hKb:K.In (jV s₁.heap H):=λb o e=>base_of (KX b o e) (by
   cases q:H b with
   | none=>rfl
   | some u =>
    rcases hA b (by rw[q];simp) with e'|e'
    ·subst e'
     rw[hK (by rw[q];simp)]at e;cases e
    ·obtain⟨r,hr,er⟩:=List.mem_map.mp e'
     have e2:=hTK r hr
     rw[er,e]at e2
     cases e2)
  have hM:Mod K mg (jV s₁.heap H):=⟨hKb,nsK hns,⟨mb,nsK hb,hbb⟩,let ⟨mc,h1,h2⟩:=hlim;⟨mc,nsK h1,h2⟩⟩
  have hB:fG (jV s₁.heap H) mg:=by
   obtain⟨bm,ob,b1,b2,b3,b4,b5,b6,b7⟩:=hbm
   exact⟨bm,ob,b1,b2,b3,base_of b4 (noA b4 (λ_ _ z=>by rw[b7]at z;cases z) (λ_ z=>by rw[b7]at z;cases z)),b5,b6,b7⟩
  have e0:Env0 P w K mg (jV s₁.heap H) callerA [] s₁ H:=⟨rfl,hM,λb o e=>uO e,Nat.le_of_eq (qY _ _),trivial,λb hb=>absurd (show b∈([]:List Addr) from hb) (by simp),hok,.of_eq hg⟩
  refine codeAny_mono ((F _ hKb (nsK hns) hB).run callerA [] s₁ H ⟨[.ref a],[]⟩ [.ref a] [.ref a] _ _ hr e0 (hbind s₁ (.ref a)) (.cons rfl .nil) (hsp H hO hS)) λr s' h=>?_
  cases r with
  | error e=>exact(hCX H e s' h).elim
  | ok fl =>
   cases fl with
   | next=>exact False.elim h
   | brk=>exact False.elim h
   | cont=>exact False.elim h
   | ret u =>
    obtain⟨v,H',os,bare,un,hok',r',q⟩:=h
    have q':v=.bl true:=q
    subst q'
    obtain rfl:u=Value.bool true:=r'
    refine⟨rfl,⟨λb o e=>?_,λb o e=>un.there b o e (by simp)⟩,os,bare⟩
    cases q:H b with
    | none=>exact .inl (un.keep b o e q (by intro z;exact absurd (show b∈([]:List Addr) from z) (by simp)) (by simp))
    | some u =>
     by_cases hb:b∈tabs.map (·.2)
     ·obtain⟨r,hr,er⟩:=List.mem_map.mp hb
      have t1:=hO.tab r hr
      have e2:=(hT r hr).2
      have ict:=((hT r hr).1.tab (hT r hr).2).isCodeTable
      rw[er]at t1 e2 ict
      rw[e]at e2
      cases e2
      obtain⟨more,t2⟩:=un.tbls b _ t1
      have t3:s'.heap.get? b=some { cls:=.none,data:=.fields (#[]++more) }:=hok' b _ t2
      exact .inr (.inl ⟨ict,rfl,#[],more,rfl,t3⟩)
     ·rcases hO.other b hb with z|⟨ob,xs,z⟩
      ·rw[q]at z;cases z
      ·have z2:=un.frzs b ob _ z
       obtain⟨e1,_⟩:=hok b _ z
       obtain⟨e2,_⟩:=hok' b _ z2
       rw[e]at e1;cases e1
       exact .inl e2
 let HT:Hp:=λb=>if b∈tabs.map (·.2) then some (.tbl #[]) else none
 have htab:∀b,b∈tabs.map (·.2)->s₁.heap.get? b=some (PySem.W.tabObj #[]):=λb hb=>by
  obtain⟨r,hr,er⟩:=List.mem_map.mp hb
  rw[<-er];exact(hT r hr).2
 cases hk:K.lookup a with
 | some o =>
  have e:=KX a o hk
  rw[ha]at e
  cases e
  refine core HT ⟨λq hq=>if_pos (List.mem_map.mpr ⟨q,hq,rfl⟩),λb hb=>.inl (if_neg hb)⟩ (.inr ⟨_,vs.toArray,_,hk,rfl,rfl,rfl,by rw[List.size_toArray,lenV];exact hl,by simpa using rv⟩) (λb u z=>?_) (λb z=>?_) λz=>absurd (if_neg naT) z
  ·by_cases hb:b∈tabs.map (·.2)
   ·have z':=(if_pos hb).symm.trans z
    cases z'
    exact htab b hb
   ·have z':=(if_neg hb).symm.trans z
    cases z'
  ·by_cases hb:b∈tabs.map (·.2)
   ·exact .inr hb
   ·exact absurd (if_neg hb) z
 | none =>
  let HA:Hp:=λb=>if b=a then some (.frz { cls:=.type "list", data:=.seq vs.toArray } (.lst (ns.map V.int))) else HT b
  have hA1:HA a=some (.frz { cls:=.type "list", data:=.seq vs.toArray } (.lst (ns.map V.int))):=if_pos rfl
  have hA2:∀b,b≠a->HA b=HT b:=λb h=>if_neg h
  refine core HA ⟨λq hq=>?_,λb hb=>?_⟩ (.inl (.inr ⟨{ cls:=.type "list", data:=.seq vs.toArray },hA1⟩)) (λb u z=>?_) (λb z=>?_) λ_=>hk
  ·rw[hA2 _ λz=>naT (List.mem_map.mpr ⟨q,hq,z⟩)]
   exact if_pos (List.mem_map.mpr ⟨q,hq,rfl⟩)
  ·by_cases hba:b=a
   ·subst hba;exact .inr ⟨_,_,hA1⟩
   ·rw[hA2 b hba];exact .inl (if_neg hb)
  ·by_cases hba:b=a
   ·subst hba
    rw[hA1]at z
    cases z
    exact⟨ha,by rw[List.length_map];exact hl,vs,_,rv,ha⟩
   ·rw[hA2 b hba]at z
    by_cases hb:b∈tabs.map (·.2)
    ·have z':=(if_pos hb).symm.trans z
     cases z'
     exact htab b hb
    ·have z':=(if_neg hb).symm.trans z
     cases z'
  ·by_cases hba:b=a
   ·exact .inl hba
   ·rw[hA2 b hba]at z
    by_cases hb:b∈tabs.map (·.2)
    ·exact .inr hb
    ·exact absurd (if_neg hb) z
theorem t5 {mean:ExcName->Option Value} (T:Top p loose mean mg mb h):fG h mg:=by
 obtain⟨bm,ob,b1,b2,b3,b4,b5,b6⟩:=T.bmain
 refine⟨bm,ob,b1,b2,λq=>?_,b3,b4,b5,b6⟩
 obtain⟨o,es,ep,e,hd,_⟩:=T.g
 rw[q,e]at b3;cases b3;rw[hd]at b6;cases b6
variable {XP:(Str->Option Value)->Heap->Prop} {l:PySem.W.OpenLaw}
theorem rB {n k:Nat} {YP:World->Heap->Prop} {d:DefRec} {K:Params->PySem.W.Frag} {CX:World->CXT} {sp:World->Sp} (tabs:World->List (Addr × Addr))
  (hn:l.most=some n) (hn2:n<=sizeLine) (hdf:d.params.defaults=[]) (hr:Room k callerA)
  (hY:∀(w:World) (h:Heap),YP w h->(K w.params).In h) (hY2:∀(w:World) (h:Heap),YP w h->PySem.W.TabsAt (tabs w) h) (hTK:∀(w:World),∀q∈tabs w,(K w.params).lookup q.2=none)
  (F:∀(w:World) (mg:Str->Option Value) (fa:Addr) (h:Heap),(K w.params).In h->h.Ns mainGlobals mg->mg d.name=some (.ref fa) ->
   ∃fd:FuncData,(∀(s:Shared) (u:Value),BindsTo s fd ⟨[u],[]⟩ [(x,u)]) /\
    ∀base:Heap,(K w.params).In base->base.Ns mainGlobals mg->fG base mg->FnOk l.prog w (K w.params) mg base (CX w) k fa fd [x] (sp w))
  (hsp:∀(w:World) (H:Hp) (a:Addr) (ns:List Int),ns.length<=n->OnlyT (tabs w) H->SqL (K w.params) H a (ns.map V.int)->sp w [.ref a] H (λv _=>v=.bl true) λ_ _ _=>False)
  (hCX:∀(w:World) (H:Hp) (s:Shared) (e:Value) (s':Shared),CX w [] H s (λ_ _ _=>False) e s'->False) :
  PySem.W.WalkO q loose XP YP l.row.toRowW d [] (λf vs=>PySem.call f vs):=by
 refine Att.nG hn hdf λw s₀ s₁ mg mb fa o pm cd doc a vs ns G Y ho hd hcd hmg hobj hints hlen hg=>?_
 have KX:=hY w _ Y
 obtain⟨fd,hb,hF⟩:=F w mg fa _ KX G.T.g hmg
 exact qP KX G.T.g G.T.b G.T.builtins G.T.nolimit hg (t5 G.T) (hY2 w _ Y) (hTK w) hobj hints (Nat.le_trans hlen hn2) hr hF hb (λH hO hS=>hsp w H a ns hlen hO hS) λH e s'=>hCX w H s₁ e s'
def oD (K:PySem.W.Frag) (ts:List Addr):List (Addr × Addr):=ts.flatMap λT=>(K.filter λp=>PySem.W.codeHdIn K p.1 T).map λp=>(p.1,T)
def ga (K:PySem.W.Frag) (ts:List Addr):Bool:=ts.all λT=>(K.any λp=>PySem.W.codeHdIn K p.1 T)&&(K.lookup T).isNone
variable {ts as:List Addr}
theorem jg {q:Addr × Addr} (h:q∈oD K ts):q.2∈ts/\PySem.W.codeHdIn K q.1 q.2=true:=by
 obtain⟨T,hT,h⟩:=List.mem_flatMap.mp h
 obtain⟨p,hp,rfl⟩:=List.mem_map.mp h
 exact⟨hT,(List.mem_filter.mp hp).2⟩
theorem oC (ok:ga K ts=true) (hT:T∈ts):∃c,(c,T)∈oD K ts:=by
 have h:=List.all_eq_true.mp ok T hT
 rw[Bool.and_eq_true]at h
 obtain⟨p,hp,e⟩:=List.any_eq_true.mp h.1
 exact⟨p.1,List.mem_flatMap.mpr ⟨T,hT,List.mem_map.mpr ⟨p,List.mem_filter.mpr ⟨hp,e⟩,rfl⟩⟩⟩
theorem oB (ok:ga K ts=true) (hT:T∈ts):K.lookup T=none:=by
 have h:=List.all_eq_true.mp ok T hT
 rw[Bool.and_eq_true]at h
 exact Option.isNone_iff_eq_none.mp h.2
theorem rC {n k:Nat} {d:DefRec} {K:Params->PySem.W.Frag} {e:∀P,as=(K P).map (·.1)} {CX:World->CXT} {sp:World->Sp}
  (hn:l.most=some n) (hn2:n<=sizeLine) (hdf:d.params.defaults=[]) (hr:Room k callerA) (ok:∀w:World,ga (K w.params) ts=true)
  (F:∀(w:World) (mg:Str->Option Value) (fa:Addr) (h:Heap),(K w.params).In h->h.Ns mainGlobals mg->mg d.name=some (.ref fa) ->
   ∃fd:FuncData,(∀(s:Shared) (u:Value),BindsTo s fd ⟨[u],[]⟩ [(x,u)]) /\
    ∀base:Heap,(K w.params).In base->base.Ns mainGlobals mg->fG base mg->FnOk l.prog w (K w.params) mg base (CX w) k fa fd [x] (sp w))
  (hsp:∀(w:World) (H:Hp) (a:Addr) (ns:List Int),ns.length<=n->(∀T∈ts,H T=some (.tbl #[]))->SqL (K w.params) H a (ns.map V.int)->sp w [.ref a] H (λv _=>v=.bl true) λ_ _ _=>False)
  (hCX:∀(w:World) (H:Hp) (s:Shared) (e:Value) (s':Shared),CX w [] H s (λ_ _ _=>False) e s'->False) :
  PySem.W.WalkO q loose XP (PySem.W.kmHook K as e ts).says l.row.toRowW d [] (λf vs=>PySem.call f vs):=by
 refine rB (λw=>oD (K w.params) ts) hn hn2 hdf hr (λw h Y=>PySem.W.km_in_of Y) (λw h Y q hq=>?_) (λw q hq=>oB (ok w) (jg hq).1) F (λw H a ns h1 hO hS=>hsp w H a ns h1 (λT hT=>?_) hS) hCX
 ·obtain⟨h1,h2⟩:=jg hq
  exact⟨PySem.W.codeHd_of_K (PySem.W.km_in_of Y) h2,PySem.W.km_tabs_of Y _ h1⟩
 ·obtain⟨c,hc⟩:=oC (ok w) hT
  exact hO.tab _ hc
end L2
set_option maxHeartbeats 1000000
namespace Tm
open PySem PyProof.Rows
def lQ:Bool->Keyed->Array Keyed->Nat->Nat->Nat->StateT SortSt Sem (Option Nat):=sortPriv% PySem.Builtin.gallop
def mZ:Array Keyed->Array Keyed->StateT SortSt Sem (Array Keyed):=sortPriv% PySem.Builtin.mergeLo
def m_:Array Keyed->Array Keyed->StateT SortSt Sem (Array Keyed):=sortPriv% PySem.Builtin.mergeHi
def ic (κ:KeyKind) (kd:SortKind) (prog:Program) (w:World) (A:Around) (s:Shared):Prop :=
 ∀(E:Value->Shared->Prop) (x y:Value) (a b:κ.α) (Q:Bool->Shared->Prop),κ.keyOf x=some a->κ.keyOf y=some b->Q (κ.blt a b) s->wpAny (model prog w) A (keyLt' kd x y) Q E s
def kv (κ:KeyKind) (p:Keyed):κ.α:=(κ.keyOf p.1).getD κ.dflt
def Hk (κ:KeyKind) (p:Keyed):Prop:=∃a,κ.keyOf p.1=some a
variable {prog:Program} {w:World} {A:Around} {E:Value->Shared->Prop} {s:Shared} {κ:KeyKind} {kd:SortKind}
section
theorem aQ {σ α:Type} {M:Model} {Q:α->σ->Prop} {st:σ} {c:Prop} [Decidable c] {t e:StateT σ Sem α} (h:c) (q:wpS M A E s t Q st):wpS M A E s (if c then t else e) Q st:=by rw[if_pos h];exact q
theorem aO {σ α:Type} {M:Model} {Q:α->σ->Prop} {st:σ} {c:Prop} [Decidable c] {t e:StateT σ Sem α} (h:¬c) (q:wpS M A E s e Q st):wpS M A E s (if c then t else e) Q st:=by rw[if_neg h];exact q
variable {i j base n hint:Nat}
theorem bT (h:i=j):(i==j)=true:=by simp[h]
theorem bF (h:¬i=j):¬(i==j)=true:=by simpa using h
variable {Q:Option Bool->SortSt->Prop} {x y p key:Keyed} {st:SortSt}
theorem iz (hL:ic κ kd prog w A s) (hk:kindOf st=kd) (hx:Hk κ x) (hy:Hk κ y) (h:Q (some (κ.blt (kv κ x) (kv κ y))) st):wpS (model prog w) A E s (lt' x y) Q st:=by
 obtain⟨a,ha⟩:=hx
 obtain⟨b,hb⟩:=hy
 rw[lt'_eq]
 refine wpS_bind (wpS_get ?_)
 rw[hk]
 refine wpS_bind (wpS_lift (wpAny_attempt (hL _ _ _ _ _ _ ha hb ⟨rfl,?_⟩)))
 unfold kv at h
 rw[ha,hb]at h
 exact wpS_pure h
variable {arr:Array Keyed}
theorem aZ {Q:Keyed->SortSt->Prop} (h:arr[i]?=some p) (q:Q p st):wpS (model prog w) A E s (elem' arr i) Q st:=by
 rw[elem'_eq,h]
 exact wpS_pure q
def bey (κ:KeyKind) (left:Bool) (key p:Keyed):Bool:=if left then κ.blt (kv κ p) (kv κ key) else !κ.blt (kv κ key) (kv κ p)
theorem dB (hL:ic κ kd prog w A s) {left:Bool} {b:Bool} (hk:kindOf st=kd) (hkey:Hk κ key)
  (hP:∃p,arr[j]?=some p/\Hk κ p/\bey κ left key p=b) (h:Q (some b) st) :
  wpS (model prog w) A E s (elem' arr j >>= λx=>if left=true then lt' x key else lt' key x >>= λr=>pure (Option.map (λz=>!z) r)) Q st:=by
 obtain⟨p,hp,hkp,rfl⟩:=hP
 refine wpS_bind (aZ hp ?_)
 unfold bey at h
 cases left with
 | true=>exact iz hL hk hkp hkey h
 | false=>exact wpS_bind (iz hL hk hkey hkp (wpS_pure h))
theorem nJ (hL:ic κ kd prog w A s) {left:Bool} {Q:Option Nat->SortSt->Prop} (P:Nat->Bool) (hk:kindOf st=kd) (hkey:Hk κ key)
  (hP:∀i,i<n->∃p,arr[base+i]?=some p/\Hk κ p/\bey κ left key p=P i) (mono:∀i j,i<=j->j<n->P j=true->P i=true) (hh:hint<n)
  (h:∀k,k<=n->(∀i,i<k->P i=true)->(∀i,k<=i->i<n->P i=false)->Q (some k) st):wpS (model prog w) A E s (lQ left key arr base n hint) Q st:=by
 have monoF:∀i j,i<=j->j<n->P i=false->P j=false:=λi j h1 h2 h3=>by
  cases e:P j with
  | false=>rfl
  | true=>rw[mono i j h1 h2 e]at h3;cases h3
 unfold lQ
 refine wpS_bind (dB hL hk hkey (hP hint hh) ?_)
 have fin:∀(lo hi:Nat) (F:(Option (Option Nat) × Nat × Nat)->StateT SortSt Sem (Option Nat)) (body:Nat->(Option (Option Nat) × Nat × Nat)->StateT SortSt Sem (ForInStep (Option (Option Nat) × Nat × Nat))),lo<=hi->hi<=n->(∀i,i<lo->P i=true)->(∀i,hi<=i->i<n->P i=false) ->
   (∀l k,F (none,l,k)=pure (some k))->(∀x l k (R:ForInStep (Option (Option Nat) × Nat × Nat)->SortSt->Prop),l<=k->k<=n->(l=k->R (.done (none,l,k)) st)->(l<k->P (l+(k-l) / 2)=true->R (.yield (none,l+(k-l) / 2+1,k)) st)->(l<k->P (l+(k-l) / 2)=false->R (.yield (none,l,l+(k-l) / 2)) st)->wpS (model prog w) A E s (body x (none,l,k)) R st) ->
   wpS (model prog w) A E s (forIn [0:n] (none,lo,hi) body >>= F) Q st:=λlo hi F body h1 h2 h3 h4 hF hb=>by
  refine wpS_bind (wpS_mono (wpS_forRange (I:=λx c st'=>st'=st/\∃l k,c=(none,l,k)/\l<=k/\k<=n/\k-l<=n-x/\(∀i,i<l->P i=true)/\(∀i,k<=i->i<n->P i=false))
   (Q:=λc st'=>st'=st/\∃k,c=(none,k,k)/\k<=n/\(∀i,i<k->P i=true)/\(∀i,k<=i->i<n->P i=false)) ?_ ?_ ⟨rfl,lo,hi,rfl,h1,h2,by exact B_ h1 h2,h3,h4⟩) ?_)
  ·rintro x c st' _ hx ⟨rfl,l,k,rfl,a1,a2,a3,a4,a5⟩
   refine hb x l k _ a1 a2 (λe=>?_) (λe p=>?_) (λe p=>?_)
   ·subst e;exact⟨rfl,l,rfl,a2,a4,a5⟩
   ·exact⟨rfl,_,k,rfl,by exact B9 e,a2,yg a3,λi hi=>mono i _ (by exact B8 hi) (by exact B7 a2 e) p,a5⟩
   ·exact⟨rfl,l,_,rfl,by exact B6,by exact B5 a2 e,yf a3 e,a4,λi h1 h2=>monoF _ i h1 h2 p⟩
  ·rintro c st' ⟨rfl,l,k,rfl,a1,a2,a3,a4,a5⟩
   have:l=k:=by exact yG a1 a3
   subst this
   exact⟨rfl,l,rfl,a2,a4,a5⟩
  ·rintro c st' ⟨rfl,k,rfl,a2,a4,a5⟩
   rw[hF]
   exact wpS_pure (h k a2 a4 a5)
 dsimp only
 cases hp:P hint with
 | true =>
  refine aQ rfl ?_
  refine wpS_bind (wpS_mono (wpS_forRange (I:=λx c st'=>st'=st/\∃l o,c=(none,l,o)/\l<o/\x+1<=o/\hint+l<n/\P (hint+l)=true)
   (Q:=λc st'=>st'=st/\∃l o,c=(none,l,o)/\l<o/\hint+l<n/\P (hint+l)=true/\(o<n-hint->P (hint+o)=false)) ?_ ?_ ⟨rfl,0,1,rfl,by omega,by omega,by exact B4 hh,hp⟩) ?_)
  ·rintro x c st' _ hx ⟨rfl,l,o,rfl,a1,a2,a3,a4⟩
   dsimp only
   by_cases c1:o>=n-hint
   ·refine aQ c1 ?_
    exact wpS_pure ⟨rfl,l,o,rfl,a1,a3,a4,λz=>by omega⟩
   ·refine aO c1 ?_
    refine wpS_bind (dB hL hk hkey (hP (hint+o) (by exact yD hh c1)) ?_)
    dsimp only
    cases e:P (hint+o) with
    | true =>
     refine aO Bool.false_ne_true ?_
     exact wpS_pure ⟨rfl,o,2*o+1,rfl,by exact yz,by omega,by exact yD hh c1,e⟩
    | false =>
     refine aQ rfl ?_
     exact wpS_pure ⟨rfl,l,o,rfl,a1,a3,a4,λ_=>e⟩
  ·rintro c st' ⟨rfl,l,o,rfl,a1,a2,a3,a4⟩
   exact⟨rfl,l,o,rfl,a1,a3,a4,λz=>by omega⟩
  ·rintro c st' ⟨rfl,l,o,rfl,a1,a3,a4,a5⟩
   dsimp only
   refine fin _ _ _ _ (by exact B3 hh a1 a3) (by exact B2 hh) (λi hi=>mono i (hint+l) (by exact B1 hi) a3 a4) (λi h1 h2=>?_) (λl k=>rfl) ?_
   ·by_cases z:o<n-hint
    ·exact monoF (hint+o) i (by exact B0 hh h1 z) h2 (a5 z)
    ·omega
   ·intro x l k R h1 h2 q1 q2 q3
    dsimp only
    by_cases c:l>=k
    ·refine aQ c ?_;exact wpS_pure (q1 (by exact wX h1 c))
    ·refine aO c ?_
     refine wpS_bind (dB hL hk hkey (hP _ (by exact yy h2 c)) ?_)
     dsimp only
     cases e:P (l+(k-l) / 2) with
     | true=>refine aQ rfl ?_;exact wpS_pure (q2 (by exact uD c) e)
     | false=>refine aO Bool.false_ne_true ?_;exact wpS_pure (q3 (by exact uD c) e)
 | false =>
  refine aO Bool.false_ne_true ?_
  refine wpS_bind (wpS_mono (wpS_forRange (I:=λx c st'=>st'=st/\∃l o,c=(none,l,o)/\l<o/\x+1<=o/\l<=hint/\P (hint-l)=false)
   (Q:=λc st'=>st'=st/\∃l o,c=(none,l,o)/\l<o/\l<=hint/\P (hint-l)=false/\(o<hint+1->P (hint-o)=true)) ?_ ?_ ⟨rfl,0,1,rfl,by omega,by omega,by exact wW,hp⟩) ?_)
  ·rintro x c st' _ hx ⟨rfl,l,o,rfl,a1,a2,a3,a4⟩
   dsimp only
   by_cases c1:o>=hint+1
   ·refine aQ c1 ?_
    exact wpS_pure ⟨rfl,l,o,rfl,a1,a3,a4,λz=>by omega⟩
   ·refine aO c1 ?_
    refine wpS_bind (dB hL hk hkey (hP (hint-o) (by exact BZ hh a1 c1)) ?_)
    dsimp only
    cases e:P (hint-o) with
    | true =>
     refine aQ rfl ?_
     exact wpS_pure ⟨rfl,l,o,rfl,a1,a3,a4,λ_=>e⟩
    | false =>
     refine aO Bool.false_ne_true ?_
     exact wpS_pure ⟨rfl,o,2*o+1,rfl,by exact yz,by omega,by exact BY c1,e⟩
  ·rintro c st' ⟨rfl,l,o,rfl,a1,a2,a3,a4⟩
   exact⟨rfl,l,o,rfl,a1,a3,a4,λz=>by omega⟩
  ·rintro c st' ⟨rfl,l,o,rfl,a1,a3,a4,a5⟩
   dsimp only
   refine fin _ _ _ _ (by exact BX a1 a3) (by exact BW hh a3) (λi hi=>?_) (λi h1 h2=>monoF (hint-l) i h1 h2 a4) (λl k=>rfl) ?_
   ·by_cases z:o<hint+1
    ·exact mono i (hint-o) (by exact BV hi z) (by exact BU hh a1 z) (a5 z)
    ·omega
   ·intro x l k R h1 h2 q1 q2 q3
    dsimp only
    by_cases c:l>=k
    ·refine aQ c ?_;exact wpS_pure (q1 (by exact wX h1 c))
    ·refine aO c ?_
     refine wpS_bind (dB hL hk hkey (hP _ (by exact yy h2 c)) ?_)
     dsimp only
     cases e:P (l+(k-l) / 2) with
     | true=>refine aQ rfl ?_;exact wpS_pure (q2 (by exact uD c) e)
     | false=>refine aO Bool.false_ne_true ?_;exact wpS_pure (q3 (by exact uD c) e)
end
section
variable {κ:KeyKind}
def le (κ:KeyKind) (p q:Keyed):Prop:=κ.kle (kv κ p) (kv κ q)
structure MI (κ:KeyKind) (L o x y:List Keyed):Prop where
 perm:(o++(x++y)).Perm L
 so:o.Pairwise (le κ)
 sx:x.Pairwise (le κ)
 sy:y.Pairwise (le κ)
 ox:∀p∈o,∀q∈x,le κ p q
 oy:∀p∈o,∀q∈y,le κ p q
 last:∀q∈y,∀l,x.getLast?=some l->le κ q l
variable {L o x2 y x y2:List Keyed}
theorem MI.takeXs {x1:List Keyed} (h:MI κ L o (x1++x2) y) (hq:∀p∈x1,∀q∈y,le κ p q):MI κ L (o++x1) x2 y:=by
 have sx:=List.pairwise_append.mp h.sx
 refine⟨?_,List.pairwise_append.mpr ⟨h.so,sx.1,λp hp q hq=>h.ox p hp q (List.mem_append.mpr (.inl hq))⟩,sx.2.1,h.sy,λp hp q hq'=>?_,λp hp q hq'=>?_,λq hq' l hl=>?_⟩
 ·have:=h.perm
  rwa [List.append_assoc,<-List.append_assoc o]at this
 ·rcases List.mem_append.mp hp with a|a
  ·exact h.ox p a q (List.mem_append.mpr (.inr hq'))
  ·exact sx.2.2 p a q hq'
 ·rcases List.mem_append.mp hp with a|a
  ·exact h.oy p a q hq'
  ·exact hq p a q hq'
 ·refine h.last q hq' l ?_
  rw[List.getLast?_append,hl];rfl
theorem MI.takeYs {y1:List Keyed} (h:MI κ L o x (y1++y2)) (hq:∀q∈y1,∀p∈x,le κ q p):MI κ L (o++y1) x y2:=by
 have sy:=List.pairwise_append.mp h.sy
 refine⟨?_,List.pairwise_append.mpr ⟨h.so,sy.1,λp hp q hq=>h.oy p hp q (List.mem_append.mpr (.inl hq))⟩,h.sx,sy.2.1,λp hp q hq'=>?_,λp hp q hq'=>?_,λq hq' l hl=>?_⟩
 ·refine List.Perm.trans ?_ h.perm
  rw[List.append_assoc]
  refine List.Perm.append_left _ ?_
  rw[<-List.append_assoc,<-List.append_assoc]
  exact List.Perm.append_right _ List.perm_append_comm
 ·rcases List.mem_append.mp hp with a|a
  ·exact h.ox p a q hq'
  ·exact hq p a q hq'
 ·rcases List.mem_append.mp hp with a|a
  ·exact h.oy p a q (List.mem_append.mpr (.inr hq'))
  ·exact sy.2.2 p a q hq'
 ·exact h.last q (List.mem_append.mpr (.inr hq')) l hl
variable {p q r l:Keyed}
theorem le_trans (a:le κ p q) (b:le κ q r):le κ p r:=KeyOrd.kle_trans a b
theorem fw (s:(p::x).Pairwise (le κ)) (h:le κ q p) (hr:r∈p::x):le κ q r:=by
 rcases List.mem_cons.mp hr with e|e
 ·rw[e];exact h
 ·exact le_trans h ((List.pairwise_cons.mp s).1 r e)
theorem MI.takeY (h:MI κ L o (p::x) (q::y)) (c:le κ q p):MI κ L (o++[q]) (p::x) y :=
 MI.takeYs (y1:=[q]) h λr hr s hs=>by
  have e:r=q:=by simpa using hr
  subst e
  exact fw h.sx c hs
theorem MI.takeX (h:MI κ L o (p::x) (q::y)) (c:le κ p q):MI κ L (o++[p]) x (q::y) :=
 MI.takeXs (x1:=[p]) h λr hr s hs=>by
  have e:r=p:=by simpa using hr
  subst e
  exact fw h.sy c hs
def Srt (κ:KeyKind) (L r:List Keyed):Prop:=r.Perm L/\r.Pairwise (le κ)
theorem MI.endY (h:MI κ L o x []):Srt κ L (o++x):=⟨by simpa using h.perm,List.pairwise_append.mpr ⟨h.so,h.sx,h.ox⟩⟩
theorem MI.endX (h:MI κ L o [] y):Srt κ L (o++y):=⟨by simpa using h.perm,List.pairwise_append.mpr ⟨h.so,h.sy,h.oy⟩⟩
theorem MI.lastX (h:MI κ L o [l] y):Srt κ L (o++y++[l]):=by
 refine⟨List.Perm.trans ?_ h.perm,List.pairwise_append.mpr ⟨List.pairwise_append.mpr ⟨h.so,h.sy,h.oy⟩,by simp,λp hp q hq=>?_⟩⟩
 ·rw[List.append_assoc]
  exact List.Perm.append_left _ List.perm_append_comm
 ·have e:q=l:=by simpa using hq
  subst e
  rcases List.mem_append.mp hp with a|a
  ·exact h.ox p a q (by simp)
  ·exact h.last p a q rfl
end
section
structure Gs (st st':SortSt):Prop where
 kind:kindOf st'=kindOf st
 arr:arrOf st'=arrOf st
 pend:pendingOf st'=pendingOf st
 fail:failedOf st'=failedOf st
theorem Gs.refl (st:SortSt):Gs st st:=⟨rfl,rfl,rfl,rfl⟩
theorem Gs.trans {a b c:SortSt} (x:Gs a b) (y:Gs b c):Gs a c:=⟨y.kind.trans x.kind,y.arr.trans x.arr,y.pend.trans x.pend,y.fail.trans x.fail⟩
def pj:Nat->StateT SortSt Sem Unit:=sortPriv% PySem.Builtin.setMinGallop
variable {g ia ib n m i j:Nat}
theorem eE {st:SortSt} {Q:Unit->SortSt->Prop} (h:∀st',Gs st st'->Q () st'):wpS (model prog w) A E s (pj g) Q st:=by
 unfold pj
 exact wpS_modify (h _ ⟨rfl,rfl,rfl,rfl⟩)
theorem gP (a:Array Keyed) (i:Nat):(a.extract i a.size).toList=a.toList.drop i:=by
 have:(a.toList.drop i).length<=a.size-i:=by simp
 simpa using List.take_of_length_le this
theorem iq (a:Array Keyed) (i k:Nat):(a.extract i (i+k)).toList=(a.toList.drop i).take k:=by
 simp
theorem aW {a:Array Keyed} {i:Nat} (h:i<a.size):∃p,a[i]?=some p/\a.toList.drop i=p::a.toList.drop (i+1)/\p∈a.toList :=
 ⟨a[i],Array.getElem?_eq_getElem h,by rw[List.drop_eq_getElem_cons (by simpa using h)];simp,by simp⟩
structure LJ (κ:KeyKind) (a b:Array Keyed) (n:Nat) (out:Array Keyed) (ia ib:Nat):Prop where
 mi:MI κ (a.toList++b.toList) out.toList (a.toList.drop ia) (b.toList.drop ib)
 la:ia<=a.size
 lb:ib<=b.size
 lo:out.size=ia+ib
 n:n<=out.size
variable {a b:Array Keyed}
theorem LJ.less {out:Array Keyed} (h:LJ κ a b n out ia ib) (hm:m<=n):LJ κ a b m out ia ib:=⟨h.mi,h.la,h.lb,h.lo,Nat.le_trans hm h.n⟩
theorem LJ.doneB {out:Array Keyed} (h:LJ κ a b n out ia ib) (e:ib=b.size):Srt κ (a.toList++b.toList) (out++a.extract ia a.size++b.extract ib b.size).toList:=by
 have m:=h.mi
 have d:b.toList.drop ib=[]:=by rw[e];simp
 rw[d]at m
 rw[Array.toList_append,Array.toList_append,gP,gP,d,List.append_nil]
 exact m.endY
theorem LJ.doneA {out:Array Keyed} (h:LJ κ a b n out ia ib) (e:ia=a.size):Srt κ (a.toList++b.toList) (out++a.extract ia a.size++b.extract ib b.size).toList:=by
 have m:=h.mi
 have d:a.toList.drop ia=[]:=by rw[e];simp
 rw[d]at m
 rw[Array.toList_append,Array.toList_append,gP,gP,d,List.append_nil]
 exact m.endX
theorem LJ.lastA {out:Array Keyed} (h:LJ κ a b n out ia ib) (e:ia+1=a.size):Srt κ (a.toList++b.toList) (out++b.extract ib b.size++a.extract ia a.size).toList:=by
 have m:=h.mi
 obtain⟨p,_,d,_⟩:=aW (a:=a) (i:=ia) (by exact BT e)
 have d2:a.toList.drop (ia+1)=[]:=by rw[e];simp
 rw[d2]at d
 rw[d]at m
 rw[Array.toList_append,Array.toList_append,gP,gP,d]
 exact m.lastX
variable {p q key:Keyed}
theorem LJ.pushB {out:Array Keyed} (h:LJ κ a b n out ia ib) (ha:a[ia]?=some p) (hb:b[ib]?=some q) (c:le κ q p):LJ κ a b (n+1) (out.push q) ia (ib+1):=by
 have lb:=(Array.getElem?_eq_some_iff.mp hb).1
 have la:=(Array.getElem?_eq_some_iff.mp ha).1
 obtain⟨p',e1,d1,_⟩:=aW la
 obtain⟨q',e2,d2,_⟩:=aW lb
 rw[ha]at e1
 rw[hb]at e2
 cases e1
 cases e2
 have m:=h.mi
 rw[d1,d2]at m
 have m:=m.takeY c
 rw[<-d1]at m
 refine⟨by rw[Array.toList_push];exact m,h.la,lb,by rw[Array.size_push,h.lo];exact BS,by rw[Array.size_push];have:=h.n;exact qE this⟩
theorem LJ.pushA {out:Array Keyed} (h:LJ κ a b n out ia ib) (ha:a[ia]?=some p) (hb:b[ib]?=some q) (c:le κ p q):LJ κ a b (n+1) (out.push p) (ia+1) ib:=by
 have lb:=(Array.getElem?_eq_some_iff.mp hb).1
 have la:=(Array.getElem?_eq_some_iff.mp ha).1
 obtain⟨p',e1,d1,_⟩:=aW la
 obtain⟨q',e2,d2,_⟩:=aW lb
 rw[ha]at e1
 rw[hb]at e2
 cases e1
 cases e2
 have m:=h.mi
 rw[d1,d2]at m
 have m:=m.takeX c
 rw[<-d2]at m
 refine⟨by rw[Array.toList_push];exact m,la,h.lb,by rw[Array.size_push,h.lo];exact BR,by rw[Array.size_push];have:=h.n;exact qE this⟩
theorem LJ.runA {out:Array Keyed} {k:Nat} (h:LJ κ a b n out ia ib) (hb:b[ib]?=some q) (hk:ia+k<=a.size) (c:∀i,i<k->∀p,a[ia+i]?=some p->le κ p q):LJ κ a b n (out++a.extract ia (ia+k)) (ia+k) ib:=by
 have lb:=(Array.getElem?_eq_some_iff.mp hb).1
 obtain⟨q',e2,d2,_⟩:=aW lb
 rw[hb]at e2
 cases e2
 have m:=h.mi
 have sy:=m.sy
 rw[<-List.take_append_drop k (a.toList.drop ia)]at m
 have m:=m.takeXs λp hp r hr=>by
  obtain⟨i,hi,e⟩:=List.mem_iff_getElem.mp hp
  rw[List.length_take]at hi
  have e3:=List.getElem?_eq_getElem (l:=(a.toList.drop ia).take k) (i:=i) (by rw[List.length_take];exact yx hi)
  rw[e,List.getElem?_take,if_pos (by exact uC hi),List.getElem?_drop,Array.getElem?_toList]at e3
  rw[d2]at hr sy
  exact fw sy (c i (by exact uC hi) p e3) hr
 rw[List.drop_drop]at m
 have sz:(a.extract ia (ia+k)).size=k:=by rw[Array.size_extract];exact yw hk
 refine⟨by rw[Array.toList_append,iq];exact m,hk,h.lb,by rw[Array.size_append,sz,h.lo];exact BQ,by rw[Array.size_append];have:=h.n;exact yu sz this⟩
theorem LJ.runB {out:Array Keyed} {k:Nat} (h:LJ κ a b n out ia ib) (ha:a[ia]?=some p) (hk:ib+k<=b.size) (c:∀i,i<k->∀q,b[ib+i]?=some q->le κ q p):LJ κ a b n (out++b.extract ib (ib+k)) ia (ib+k):=by
 have la:=(Array.getElem?_eq_some_iff.mp ha).1
 obtain⟨p',e2,d2,_⟩:=aW la
 rw[ha]at e2
 cases e2
 have m:=h.mi
 have sx:=m.sx
 rw[<-List.take_append_drop k (b.toList.drop ib)]at m
 have m:=m.takeYs λq hq r hr=>by
  obtain⟨i,hi,e⟩:=List.mem_iff_getElem.mp hq
  rw[List.length_take]at hi
  have e3:=List.getElem?_eq_getElem (l:=(b.toList.drop ib).take k) (i:=i) (by rw[List.length_take];exact yx hi)
  rw[e,List.getElem?_take,if_pos (by exact uC hi),List.getElem?_drop,Array.getElem?_toList]at e3
  rw[d2]at hr sx
  exact fw sx (c i (by exact uC hi) q e3) hr
 rw[List.drop_drop]at m
 have sz:(b.extract ib (ib+k)).size=k:=by rw[Array.size_extract];exact yw hk
 refine⟨by rw[Array.toList_append,iq];exact m,h.la,hk,by rw[Array.size_append,sz,h.lo];exact BP,by rw[Array.size_append];have:=h.n;exact yu sz this⟩
theorem pM (s:a.toList.Pairwise (le κ)) (h:i<=j) (hi:a[i]?=some p) (hj:a[j]?=some q):le κ p q:=by
 by_cases e:i=j
 ·subst e
  rw[hi]at hj
  cases hj
  exact KeyOrd.kle_refl _
 ·have li:=(Array.getElem?_eq_some_iff.mp hi).1
  have lj:=(Array.getElem?_eq_some_iff.mp hj).1
  have:=(List.pairwise_iff_getElem.mp s) i j (by simpa using li) (by simpa using lj) (by exact yt h e)
  rw[Array.getElem?_eq_getElem li]at hi
  rw[Array.getElem?_eq_getElem lj]at hj
  cases hi
  cases hj
  simpa using this
theorem fm (hL:ic κ kd prog w A s) {st:SortSt} {left:Bool} {a:Array Keyed} {base n hint:Nat} {Q:Option Nat->SortSt->Prop} (hk:kindOf st=kd) (hkey:Hk κ key) (ha:∀p∈a.toList,Hk κ p) (hn:base+n<=a.size)
  (sa:∀i j p q,base<=i->i<=j->j<base+n->a[i]?=some p->a[j]?=some q->le κ p q) (hh:hint<n)
  (h:∀k,k<=n->(∀i,i<k->∀p,a[base+i]?=some p->bey κ left key p=true)->(∀i,k<=i->i<n->∀p,a[base+i]?=some p->bey κ left key p=false)->Q (some k) st):wpS (model prog w) A E s (lQ left key a base n hint) Q st:=by
 refine nJ hL (λi=>match a[base+i]? with|some p=>bey κ left key p|none=>false) hk hkey (λi hi=>?_) (λi j h1 h2 h3=>?_) hh (λk h1 h2 h3=>h k h1 (λi hi p e=>?_) (λi hi hj p e=>?_))
 ·have:base+i<a.size:=by exact yr hn hi
  obtain⟨p,e,_,m⟩:=aW this
  exact⟨p,e,ha p m,by rw[e]⟩
 ·obtain⟨p,e,_⟩:=aW (a:=a) (i:=base+i) (by exact BO hn h1 h2)
  obtain⟨q,e2,_⟩:=aW (a:=a) (i:=base+j) (by exact yr hn h2)
  have l:=sa _ _ p q (by exact sF) (show base+i<=base+j by exact BN h1) (by exact BL h2) e e2
  rw[e2]at h3
  rw[e]
  dsimp only at h3 ⊢
  unfold bey at h3 ⊢
  cases left with
  | true =>
   rw[if_pos rfl]at h3 ⊢
   exact KeyOrd.klt_of_kle_of_klt l h3
  | false =>
   rw[if_neg (by simp)]at h3 ⊢
   have h3:κ.kle (kv κ q) (kv κ key):=by simpa[KeyOrd.kle] using h3
   have:=KeyOrd.kle_trans l h3
   simpa[KeyOrd.kle] using this
 ·have:=h2 i hi
  rwa [e]at this
 ·have:=h3 i hi hj
  rwa [e]at this
theorem lU (h:bey κ false key p=true):le κ p key:=by
 unfold bey at h
 rw[if_neg (by simp)]at h
 simpa[le,KeyOrd.kle] using h
theorem lT (h:bey κ true key p=true):le κ p key:=by
 unfold bey at h
 rw[if_pos rfl]at h
 exact KeyOrd.kle_of_klt h
theorem lV (h:bey κ false key p=false):le κ key p:=by
 unfold bey at h
 rw[if_neg (by simp)]at h
 exact KeyOrd.kle_of_klt (show κ.blt (kv κ key) (kv κ p)=true by simpa using h)
theorem lW (h:bey κ true key p=false):le κ key p:=by
 unfold bey at h
 rw[if_pos rfl]at h
 exact h
end
section
theorem gu {σ α β:Type} {M:Model} {Q:α->σ->Prop} {st:σ} {m:StateT σ Sem α} (f:β->StateT σ Sem α) (I:β->Prop) (J:∀z,I z->wpS M A E s (f z) Q st) (h:(∀z,I z->wpS M A E s (f z) Q st)->wpS M A E s m Q st):wpS M A E s m Q st:=h J
@[reducible] def Co (κ:KeyKind) (a b:Array Keyed) (st:SortSt) (x:Nat) (c:Option (Array Keyed) × Array Keyed × Nat × Nat × Nat) (st':SortSt):Prop:=Gs st st'/\∃out ia ib mg,c=(none,out,ia,ib,mg)/\LJ κ a b (x+1) out ia ib/\ia+1<a.size/\ib<b.size
@[reducible] def Cn (κ:KeyKind) (a b:Array Keyed) (st:SortSt)  (c:Option (Array Keyed) × Array Keyed × Nat × Nat × Nat) (st':SortSt):Prop:=Gs st st'/\∃r rest,c=(some r,rest)/\Srt κ (a.toList++b.toList) r.toList
@[reducible] def Cm (κ:KeyKind) (a b:Array Keyed) (st:SortSt) (x x':Nat) (c:Option (Array Keyed) × Array Keyed × Nat × Nat × Nat × Nat) (st':SortSt):Prop:=st'=st/\∃out ia ib ac bc,c=(none,out,ia,ib,ac,bc)/\LJ κ a b (x+1+x') out ia ib/\ia+1<a.size/\ib<b.size
@[reducible] def Cl (κ:KeyKind) (a b:Array Keyed) (st:SortSt) (x:Nat) (c:Option (Array Keyed) × Array Keyed × Nat × Nat × Nat × Nat) (st':SortSt):Prop:=st'=st/\((∃r rest,c=(some r,rest)/\Srt κ (a.toList++b.toList) r.toList)\/∃out ia ib ac bc,c=(none,out,ia,ib,ac,bc)/\LJ κ a b (x+1) out ia ib/\ia+1<a.size/\ib<b.size)
@[reducible] def Ck (κ:KeyKind) (a b:Array Keyed) (st:SortSt) (x x':Nat) (c:Option (Array Keyed) × Array Keyed × Nat × Nat × Nat × Nat × Nat) (st':SortSt):Prop:=Gs st st'/\∃out ia ib mg ac bc,c=(none,out,ia,ib,mg,ac,bc)/\LJ κ a b (x+1+x') out ia ib/\ia+1<a.size/\ib<b.size
@[reducible] def Cj (κ:KeyKind) (a b:Array Keyed) (st:SortSt) (x:Nat) (c:Option (Array Keyed) × Array Keyed × Nat × Nat × Nat × Nat × Nat) (st':SortSt):Prop:=Gs st st'/\((∃r rest,c=(some r,rest)/\Srt κ (a.toList++b.toList) r.toList)\/∃out ia ib mg ac bc,c=(none,out,ia,ib,mg,ac,bc)/\LJ κ a b (x+2) out ia ib/\ia+1<a.size/\ib<b.size)
theorem mf (hL:ic κ kd prog w A s) {st:SortSt} {a b:Array Keyed} {Q:Array Keyed->SortSt->Prop} (hk:kindOf st=kd) (ha:∀p∈a.toList,Hk κ p) (hb:∀p∈b.toList,Hk κ p)
  (na:1<=a.size) (nb:1<=b.size) (mi:MI κ (a.toList++b.toList) [] a.toList b.toList) (first:∀p∈a.toList,∀q,b[0]?=some q->le κ q p)
  (h:∀r st',Gs st st'->Srt κ (a.toList++b.toList) r.toList->Q r st'):wpS (model prog w) A E s (mZ a b) Q st:=by
 have sa:=mi.sx
 have sb:=mi.sy
 unfold mZ
 refine wpS_bind (wpS_lift (wpAny_rule ⟨rfl,?_⟩))
 obtain⟨q0,hq0,_⟩:=aW (a:=b) (i:=0) (by exact sE nb)
 obtain⟨p0,hp0,_,mp0⟩:=aW (a:=a) (i:=0) (by exact sE na)
 have j0:LJ κ a b 0 #[] 0 0:=⟨by simpa using mi,by exact yq na,by exact yq nb,rfl,Nat.zero_le _⟩
 have j1:=j0.pushB hp0 hq0 (first p0 mp0 q0 hq0)
 have j1:LJ κ a b 1 #[q0] 0 1:=j1
 refine wpS_bind (aZ hq0 ?_)
 refine wpS_mono (Q:=λr st'=>Gs st st'/\Srt κ (a.toList++b.toList) r.toList) ?_ (λr st' z=>h r st' z.1 z.2)
 clear h
 extract_lets out0
 by_cases c1:1=b.size
 ·refine aQ (bT c1) ?_
  exact wpS_pure ⟨.refl _,j1.doneB c1⟩
 refine aO (bF c1) ?_
 by_cases c2:0+1=a.size
 ·refine aQ (bT c2) ?_
  exact wpS_pure ⟨.refl _,j1.lastA c2⟩
 refine aO (bF c2) ?_
 refine wpS_bind (wpS_get ?_)
 extract_lets mg0
 refine wpS_bind (wpS_mono (wpS_forRange (I:=Co κ a b st)
  (Q:=Cn κ a b st) ?step ?fin ⟨.refl _,out0,0,1,mg0,rfl,j1,by exact BK na c2,by exact BJ na nb c1 c2⟩) ?post)
 case post =>
  rintro c st' ⟨g,r,rest,rfl,hr⟩
  exact wpS_pure ⟨g,hr⟩
 case fin =>
  rintro c st' ⟨g,out,ia,ib,mg,rfl,j,l1,l2⟩
  have:=j.n
  have:=j.lo
  omega
 case step =>
  rintro x c st1 _ hx ⟨g,out,ia,ib,mg,rfl,j,l1,l2⟩
  refine wpS_bind (wpS_mono (wpS_forRange (I:=Cm κ a b st1 x)
   (Q:=Cl κ a b st1 x) ?step1 ?fin1 ⟨rfl,out,ia,ib,0,0,rfl,j,l1,l2⟩) ?post1)
  case fin1 =>
   rintro c st' ⟨rfl,out,ia,ib,ac,bc,rfl,j,l1,l2⟩
   have:=j.n
   have:=j.lo
   omega
  case step1 =>
   clear j l1 l2
   rintro x' c st' _ hx' ⟨rfl,out,ia,ib,ac,bc,rfl,j,l1,l2⟩
   obtain⟨p,hp,_,mp⟩:=aW (a:=a) (i:=ia) (by exact wV l1)
   obtain⟨q,hq,_,mq⟩:=aW (a:=b) (i:=ib) l2
   refine wpS_bind (aZ hq (wpS_bind (aZ hp (wpS_bind (iz hL (by rw[g.kind];exact hk) (hb q mq) (ha p mp) ?_)))))
   dsimp only
   cases e:κ.blt (kv κ q) (kv κ p) with
   | true =>
    refine aQ rfl ?_
    refine wpS_bind (aZ hq ?_)
    have j2:=j.pushB hp hq (KeyOrd.kle_of_klt e)
    by_cases d1:ib+1=b.size
    ·refine aQ (bT d1) ?_
     exact wpS_pure ⟨rfl,.inl ⟨_,_,rfl,j2.doneB d1⟩⟩
    refine aO (bF d1) ?_
    by_cases d2:bc+1>=mg
    ·refine aQ d2 ?_
     exact wpS_pure ⟨rfl,.inr ⟨_,_,_,_,_,rfl,j2.less (by omega),l1,by exact wU l2 d1⟩⟩
    ·refine aO d2 ?_
     exact wpS_pure ⟨rfl,_,_,_,_,_,rfl,j2.less (by exact uB),l1,by exact wU l2 d1⟩
   | false =>
    refine aO Bool.false_ne_true ?_
    refine wpS_bind (aZ hp ?_)
    have j2:=j.pushA hp hq e
    by_cases d1:ia+1+1=a.size
    ·refine aQ (bT d1) ?_
     exact wpS_pure ⟨rfl,.inl ⟨_,_,rfl,j2.lastA d1⟩⟩
    refine aO (bF d1) ?_
    by_cases d2:ac+1>=mg
    ·refine aQ d2 ?_
     exact wpS_pure ⟨rfl,.inr ⟨_,_,_,_,_,rfl,j2.less (by omega),by exact yp l1 d1,l2⟩⟩
    ·refine aO d2 ?_
     exact wpS_pure ⟨rfl,_,_,_,_,_,rfl,j2.less (by exact uB),by exact yp l1 d1,l2⟩
  case post1 =>
   clear j l1 l2
   rintro c st' ⟨rfl,⟨r,rest,rfl,hr⟩|⟨out,ia,ib,ac,bc,rfl,j,l1,l2⟩⟩
   ·exact wpS_pure ⟨g,r,_,rfl,hr⟩
   refine wpS_bind (wpS_lift (wpAny_rule ⟨rfl,?_⟩))
   refine wpS_bind (wpS_mono (wpS_forRange (I:=Ck κ a b st x)
    (Q:=Cj κ a b st x) ?step2 ?fin2 ⟨g,out,ia,ib,_,ac,bc,rfl,j,l1,l2⟩) ?post2)
   case fin2 =>
    rintro c st' ⟨g,out,ia,ib,mg,ac,bc,rfl,j,l1,l2⟩
    have:=j.n
    have:=j.lo
    omega
   case post2 =>
    rintro c st' ⟨g,⟨r,rest,rfl,hr⟩|⟨out,ia,ib,mg,ac,bc,rfl,j,l1,l2⟩⟩
    ·exact wpS_pure ⟨g,r,_,rfl,hr⟩
    refine wpS_bind (eE λst2 g2=>?_)
    exact wpS_pure ⟨g.trans g2,_,_,_,_,rfl,j,l1,l2⟩
   case step2 =>
    clear j l1 l2 g
    rintro x' c st2 _ hx' ⟨g,out,ia,ib,mg,ac,bc,rfl,j,l1,l2⟩
    obtain⟨p,hp,_,mp⟩:=aW (a:=a) (i:=ia) (by exact wV l1)
    obtain⟨q,hq,_,mq⟩:=aW (a:=b) (i:=ib) l2
    extract_lets s1 o1 s2 x1 s3 y1 s4 m1 s5 ac1 bc1 ib2 jp mgm
    refine gu (λm=>jp () m) (λ_=>True) (λm _=>?_) (λJ=>?_)
    ·refine wpS_bind (eE λst3 g3=>?_)
     have g4:=g.trans g3
     have hk3:kindOf st3=kd:=by rw[g4.kind];exact hk
     refine wpS_bind (aZ hq ?_)
     refine wpS_bind (fm (a:=a) (base:=ia) (n:=a.size-ia) hL hk3 (hb q mq) ha (by exact BI l1) (λi j p q _ h _ e1 e2=>pM sa h e1 e2) (by exact BH l1) λk k1 k2 k3=>?_)
     dsimp -zeta only
     extract_lets ac2 jp2 o2 x2
     refine gu (λz:Array Keyed × Nat=>jp2 () z.1 z.2) (λz=>LJ κ a b (x+1+x') z.1 z.2 ib/\z.2+1<a.size/\∀p,a[z.2]?=some p->le κ q p) (λz hz=>?_) (λJ2=>?_)
     ·obtain⟨o3,x3⟩:=z
      obtain⟨j3,l3,f3⟩:=hz
      dsimp only at j3 l3 f3
      obtain⟨p3,hp3,_,mp3⟩:=aW (a:=a) (i:=x3) (by exact wV l3)
      refine wpS_bind (aZ hq ?_)
      have j4:=j3.pushB hp3 hq (f3 p3 hp3)
      by_cases d1:ib+1=b.size
      ·refine aQ (bT d1) ?_
       exact wpS_pure ⟨g4,.inl ⟨_,_,rfl,j4.doneB d1⟩⟩
      refine aO (bF d1) ?_
      refine wpS_bind (aZ hp3 ?_)
      refine wpS_bind (fm (a:=b) (base:=ib+1) (n:=b.size-(ib+1)) hL hk3 (ha p3 mp3) hb (by exact BG l2) (λi j p q _ h _ e1 e2=>pM sb h e1 e2) (by exact BF l2 d1) λk' k1' k2' k3'=>?_)
      dsimp -zeta only
      extract_lets bc2 ia2 jp3 o4 y4
      refine gu (λz:Array Keyed × Nat=>jp3 () z.1 z.2) (λz=>LJ κ a b (x+1+x'+1) z.1 x3 z.2/\z.2<b.size/\∀q,b[z.2]?=some q->le κ p3 q) (λz hz=>?_) (λJ3=>?_)
      ·obtain⟨o5,y5⟩:=z
       obtain⟨j5,l5,f5⟩:=hz
       dsimp only at j5 l5 f5
       obtain⟨q5,hq5,_,mq5⟩:=aW (a:=b) (i:=y5) l5
       refine wpS_bind (aZ hp3 ?_)
       have j6:=j5.pushA hp3 hq5 (f5 q5 hq5)
       by_cases d2:x3+1+1=a.size
       ·refine aQ (bT d2) ?_
        exact wpS_pure ⟨g4,.inl ⟨_,_,rfl,j6.lastA d2⟩⟩
       refine aO (bF d2) ?_
       by_cases d3:(decide (ac2<7)&&decide (bc2<7))=true
       ·refine aQ d3 ?_
        exact wpS_pure ⟨g4,.inr ⟨_,_,_,_,_,_,rfl,j6.less (by omega),by omega,l5⟩⟩
       ·refine aO d3 ?_
        exact wpS_pure ⟨g4,_,_,_,_,_,_,rfl,j6.less (by exact yo),by omega,l5⟩
      by_cases d2:k'>0
      ·refine aQ d2 ?_
       have j5:LJ κ a b (x+1+x'+1) o4 x3 y4:=j4.runB hp3 (by exact BE l2 k1') λi hi p e=>lT (k2' i hi p e)
       have e2:y4=ib+1+k':=rfl
       by_cases d3:y4=b.size
       ·refine aQ (bT d3) ?_
        exact wpS_pure ⟨g4,.inl ⟨_,_,rfl,j5.doneB d3⟩⟩
       refine aO (bF d3) ?_
       exact J3 (o4,y4) ⟨j5,by dsimp only;omega,λp e=>lW (k3' k' (Nat.le_refl _) (by omega) p e)⟩
      ·refine aO d2 ?_
       have:k'=0:=by exact yn d2
       subst this
       exact J3 (_,ib+1) ⟨j4,by dsimp only;exact wU l2 d1,λp e=>lW (k3' 0 (Nat.le_refl _) (by exact BD l2 d1 k1') p e)⟩
     by_cases d1:k>0
     ·refine aQ d1 ?_
      have j3:LJ κ a b (x+1+x') o2 x2 ib:=j.runA hq (by exact BC l1 k1) λi hi p e=>lU (k2 i hi p e)
      have e2:x2=ia+k:=rfl
      by_cases d2:x2+1=a.size
      ·refine aQ (bT d2) ?_
       exact wpS_pure ⟨g4,.inl ⟨_,_,rfl,j3.lastA d2⟩⟩
      refine aO (bF d2) ?_
      by_cases d3:x2=a.size
      ·refine aQ (bT d3) ?_
       exact wpS_pure ⟨g4,.inl ⟨_,_,rfl,j3.doneA d3⟩⟩
      refine aO (bF d3) ?_
      exact J2 (o2,x2) ⟨j3,by dsimp only;omega,λp e=>lV (k3 k (Nat.le_refl _) (by omega) p e)⟩
     ·refine aO d1 ?_
      have:k=0:=by exact yn d1
      subst this
      exact J2 (o1,x1) ⟨j,l1,λp e=>lV (k3 0 (Nat.le_refl _) (by exact BB l1 k1) p e)⟩
    by_cases d:m1>1
    ·refine aQ d ?_;exact J _ trivial
    ·refine aO d ?_;exact J _ trivial
end
def xr (κ:KeyKind):KeyKind where
 α:=κ.α
 blt a b:=κ.blt b a
 irrefl a:=κ.irrefl a
 trans a b c h1 h2:=κ.trans c b a h2 h1
 negTrans a b c h:=(κ.negTrans c b a h).symm
 total a b h1 h2:=(κ.total a b h2 h1)
 keyOf:=κ.keyOf
 dflt:=κ.dflt
section
variable {κ:KeyKind}
theorem rS {l:List Keyed} (h:l.Pairwise (le κ)):l.reverse.Pairwise (le (xr κ)):=List.pairwise_reverse.mpr h
theorem kZ {L r:List Keyed} (h:Srt (xr κ) L r):Srt κ L r.reverse:=⟨(List.reverse_perm r).trans h.1,List.pairwise_reverse.mpr h.2⟩
variable {p q:Keyed}
theorem cL {a:Array Keyed} {i:Nat} (hi:1<=i) (h:a[i-1]?=some p):(a.toList.take i).reverse=p::(a.toList.take (i-1)).reverse:=by
 obtain⟨j,rfl⟩:∃j,i=j+1:=⟨i-1,by exact BA hi⟩
 rw[Nat.add_sub_cancel]at h ⊢
 rw[List.take_succ,Array.getElem?_toList,h,List.reverse_append]
 rfl
structure HJ (κ:KeyKind) (a b:Array Keyed) (n:Nat) (out:Array Keyed) (na nb:Nat):Prop where
 mi:MI (xr κ) (a.toList++b.toList) out.toList (b.toList.take nb).reverse (a.toList.take na).reverse
 la:na<=a.size
 lb:nb<=b.size
 lo:out.size+na+nb=a.size+b.size
 n:n<=out.size
variable {na nb n m i j:Nat} {a b:Array Keyed}
theorem HJ.less {out:Array Keyed} (h:HJ κ a b n out na nb) (hm:m<=n):HJ κ a b m out na nb:=⟨h.mi,h.la,h.lb,h.lo,Nat.le_trans hm h.n⟩
theorem ee (a:Array Keyed) (i:Nat):(a.extract 0 i).toList=a.toList.take i:=by simp
theorem HJ.doneA {out:Array Keyed} (h:HJ κ a b n out na nb) (e:na=0):Srt κ (a.toList++b.toList) (a.extract 0 na++b.extract 0 nb++out.reverse).toList:=by
 subst e
 have:=kZ (MI.endY (by simpa using h.mi))
 rw[Array.toList_append,Array.toList_append,ee,ee,Array.toList_reverse]
 simpa using this
theorem HJ.doneB {out:Array Keyed} (h:HJ κ a b n out na nb) (e:nb=0):Srt κ (a.toList++b.toList) (a.extract 0 na++b.extract 0 nb++out.reverse).toList:=by
 subst e
 have:=kZ (MI.endX (by simpa using h.mi))
 rw[Array.toList_append,Array.toList_append,ee,ee,Array.toList_reverse]
 simpa using this
theorem HJ.firstB {out:Array Keyed} (h:HJ κ a b n out na nb) (e:nb=1):Srt κ (a.toList++b.toList) (b.extract 0 nb++a.extract 0 na++out.reverse).toList:=by
 subst e
 obtain⟨q,hq,_⟩:=aW (a:=b) (i:=0) (by have:=h.lb;exact sE this)
 have m:=h.mi
 have tr:=cL (a:=b) (i:=1) (Nat.le_refl _) hq
 rw[Nat.sub_self,List.take_zero,List.reverse_nil]at tr
 rw[tr]at m
 have:=kZ m.lastX
 have t1:b.toList.take 1=[q]:=by
  have:=congrArg List.reverse tr
  simpa using this
 rw[Array.toList_append,Array.toList_append,ee,ee,Array.toList_reverse,t1]
 simpa using this
theorem HJ.pushA {out:Array Keyed} (h:HJ κ a b n out na nb) (n1:1<=na) (n2:1<=nb) (ha:a[na-1]?=some p) (hb:b[nb-1]?=some q) (c:le κ q p):HJ κ a b (n+1) (out.push p) (na-1) nb:=by
 have m:=h.mi
 rw[cL n1 ha,cL n2 hb]at m
 have m:=m.takeY c
 rw[<-cL n2 hb]at m
 refine⟨by rw[Array.toList_push];exact m,by have:=h.la;exact ym n1 this,h.lb,by rw[Array.size_push];have:=h.lo;exact Bz n1 this,by rw[Array.size_push];have:=h.n;exact qE this⟩
theorem HJ.pushB {out:Array Keyed} (h:HJ κ a b n out na nb) (n1:1<=na) (n2:1<=nb) (ha:a[na-1]?=some p) (hb:b[nb-1]?=some q) (c:le κ p q):HJ κ a b (n+1) (out.push q) na (nb-1):=by
 have m:=h.mi
 rw[cL n1 ha,cL n2 hb]at m
 have m:=m.takeX c
 rw[<-cL n1 ha]at m
 refine⟨by rw[Array.toList_push];exact m,h.la,by have:=h.lb;exact ym n2 this,by rw[Array.size_push];have:=h.lo;exact By n2 this,by rw[Array.size_push];have:=h.n;exact qE this⟩
theorem mn (l:List Keyed) (h:i<=j):(l.take j).reverse=((l.take j).drop i).reverse++(l.take i).reverse:=by
 rw[<-List.reverse_append]
 congr 1
 have:=List.take_append_drop i (l.take j)
 rw[List.take_take,Nat.min_eq_left h]at this
 exact this.symm
theorem pS (a:Array Keyed) (h:i<=j):(a.extract i j).reverse.toList=((a.toList.take j).drop i).reverse:=by
 simp[List.drop_take]
theorem pK (h:p∈((a.toList.take j).drop i).reverse):∃k,i<=k/\k<j/\a[k]?=some p:=by
 rw[List.mem_reverse]at h
 obtain⟨m,hm,e⟩:=List.mem_iff_getElem.mp h
 rw[List.length_drop,List.length_take]at hm
 have e3:=List.getElem?_eq_getElem (l:=(a.toList.take j).drop i) (i:=m) (by rw[List.length_drop,List.length_take];exact Bx hm)
 rw[e,List.getElem?_drop,List.getElem?_take,if_pos (by exact yk hm),Array.getElem?_toList]at e3
 exact⟨i+m,by exact sF,by exact yk hm,e3⟩
theorem HJ.runA {out:Array Keyed} {k:Nat} (h:HJ κ a b n out na nb) (n2:1<=nb) (hb:b[nb-1]?=some q) (hk:k<=na) (c:∀i,k<=i->i<na->∀p,a[i]?=some p->le κ q p):HJ κ a b n (out++(a.extract k na).reverse) k nb:=by
 have m:=h.mi
 have sx:=m.sx
 rw[mn _ hk]at m
 have m:=m.takeYs λp hp r hr=>by
  obtain⟨i,h1,h2,e⟩:=pK hp
  rw[cL n2 hb]at hr sx
  exact fw sx (c i h1 h2 p e) hr
 have sz:(a.extract k na).reverse.size=na-k:=by rw[Array.size_reverse,Array.size_extract];have:=h.la;exact yj hk this
 refine⟨by rw[Array.toList_append,pS _ hk];exact m,by have:=h.la;exact yi hk this,h.lb,by rw[Array.size_append,sz];have:=h.lo;omega,by rw[Array.size_append];have:=h.n;exact yh sz this⟩
theorem HJ.runB {out:Array Keyed} {k:Nat} (h:HJ κ a b n out na nb) (n1:1<=na) (ha:a[na-1]?=some p) (hk:k<=nb) (c:∀i,k<=i->i<nb->∀q,b[i]?=some q->le κ p q):HJ κ a b n (out++(b.extract k nb).reverse) na k:=by
 have m:=h.mi
 have sy:=m.sy
 rw[mn _ hk]at m
 have m:=m.takeXs λq hq r hr=>by
  obtain⟨i,h1,h2,e⟩:=pK hq
  rw[cL n1 ha]at hr sy
  exact fw sy (c i h1 h2 q e) hr
 have sz:(b.extract k nb).reverse.size=nb-k:=by rw[Array.size_reverse,Array.size_extract];have:=h.lb;exact yj hk this
 refine⟨by rw[Array.toList_append,pS _ hk];exact m,h.la,by have:=h.lb;exact yi hk this,by rw[Array.size_append,sz];have:=h.lo;omega,by rw[Array.size_append];have:=h.n;exact yh sz this⟩
end
section
@[reducible] def Cu (κ:KeyKind) (a b:Array Keyed) (st:SortSt) (x:Nat) (c:Option (Array Keyed) × Nat × Nat × Array Keyed × Nat) (st':SortSt):Prop:=Gs st st'/\∃na nb out mg,c=(none,na,nb,out,mg)/\HJ κ a b (x+1) out na nb/\1<=na/\2<=nb
@[reducible] def Ct (κ:KeyKind) (a b:Array Keyed) (st:SortSt)  (c:Option (Array Keyed) × Nat × Nat × Array Keyed × Nat) (st':SortSt):Prop:=Gs st st'/\∃r rest,c=(some r,rest)/\Srt κ (a.toList++b.toList) r.toList
@[reducible] def Cs (κ:KeyKind) (a b:Array Keyed) (st:SortSt) (x x':Nat) (c:Option (Array Keyed) × Nat × Nat × Array Keyed × Nat × Nat) (st':SortSt):Prop:=st'=st/\∃na nb out ac bc,c=(none,na,nb,out,ac,bc)/\HJ κ a b (x+1+x') out na nb/\1<=na/\2<=nb
@[reducible] def Cr (κ:KeyKind) (a b:Array Keyed) (st:SortSt) (x:Nat) (c:Option (Array Keyed) × Nat × Nat × Array Keyed × Nat × Nat) (st':SortSt):Prop:=st'=st/\((∃r rest,c=(some r,rest)/\Srt κ (a.toList++b.toList) r.toList)\/∃na nb out ac bc,c=(none,na,nb,out,ac,bc)/\HJ κ a b (x+1) out na nb/\1<=na/\2<=nb)
@[reducible] def Cq (κ:KeyKind) (a b:Array Keyed) (st:SortSt) (x x':Nat) (c:Option (Array Keyed) × Nat × Nat × Array Keyed × Nat × Nat × Nat) (st':SortSt):Prop:=Gs st st'/\∃na nb out mg ac bc,c=(none,na,nb,out,mg,ac,bc)/\HJ κ a b (x+1+x') out na nb/\1<=na/\2<=nb
@[reducible] def Cp (κ:KeyKind) (a b:Array Keyed) (st:SortSt) (x:Nat) (c:Option (Array Keyed) × Nat × Nat × Array Keyed × Nat × Nat × Nat) (st':SortSt):Prop:=Gs st st'/\((∃r rest,c=(some r,rest)/\Srt κ (a.toList++b.toList) r.toList)\/∃na nb out mg ac bc,c=(none,na,nb,out,mg,ac,bc)/\HJ κ a b (x+2) out na nb/\1<=na/\2<=nb)
theorem mh (hL:ic κ kd prog w A s) {st:SortSt} {a b:Array Keyed} {Q:Array Keyed->SortSt->Prop} (hk:kindOf st=kd) (ha:∀p∈a.toList,Hk κ p) (hb:∀p∈b.toList,Hk κ p)
  (na:1<=a.size) (nb:1<=b.size) (sa:a.toList.Pairwise (le κ)) (sb:b.toList.Pairwise (le κ)) (first:∀p∈a.toList,∀q,b[0]?=some q->le κ q p) (last:∀q∈b.toList,∀p,a[a.size-1]?=some p->le κ q p)
  (h:∀r st',Gs st st'->Srt κ (a.toList++b.toList) r.toList->Q r st'):wpS (model prog w) A E s (m_ a b) Q st:=by
 unfold m_
 refine wpS_bind (wpS_lift (wpAny_rule ⟨rfl,?_⟩))
 obtain⟨q0,hq0,_,mq0⟩:=aW (a:=b) (i:=b.size-1) (by exact qD nb)
 obtain⟨qf,hqf,_,mqf⟩:=aW (a:=b) (i:=0) (by exact sE nb)
 obtain⟨p0,hp0,_,mp0⟩:=aW (a:=a) (i:=a.size-1) (by exact qD na)
 have j0:HJ κ a b 0 #[] a.size b.size:=by
  have e1:a.toList.take a.size=a.toList:=List.take_of_length_le (by simp)
  have e2:b.toList.take b.size=b.toList:=List.take_of_length_le (by simp)
  refine⟨⟨?_,List.Pairwise.nil,by rw[e2];exact rS sb,by rw[e1];exact rS sa,λp hp=>(nomatch hp),λp hp=>(nomatch hp),λq hq l hl=>?_⟩,Nat.le_refl _,Nat.le_refl _,by simp,Nat.zero_le _⟩
  ·rw[e1,e2]
   show ([]++(b.toList.reverse++a.toList.reverse)).Perm _
   rw[List.nil_append,<-List.reverse_append]
   exact List.reverse_perm _
  ·rw[e1,List.mem_reverse]at hq
   rw[e2,List.getLast?_reverse]at hl
   refine first q hq l ?_
   rw[<-Array.getElem?_toList,<-List.head?_eq_getElem?]
   exact hl
 have j1:=j0.pushA na nb hp0 hq0 (last q0 mq0 p0 hp0)
 have j1:HJ κ a b 1 #[p0] (a.size-1) b.size:=j1
 extract_lets tot dn fb na0 nb0 z0
 refine wpS_bind (aZ hp0 ?_)
 refine wpS_mono (Q:=λr st'=>Gs st st'/\Srt κ (a.toList++b.toList) r.toList) ?_ (λr st' z=>h r st' z.1 z.2)
 clear h
 extract_lets out0
 by_cases c1:na0=0
 ·refine aQ (bT c1) ?_
  exact wpS_pure ⟨.refl _,j1.doneA c1⟩
 refine aO (bF c1) ?_
 by_cases c2:b.size=1
 ·refine aQ (bT c2) ?_
  exact wpS_pure ⟨.refl _,j1.firstB c2⟩
 refine aO (bF c2) ?_
 refine wpS_bind (wpS_get ?_)
 extract_lets mg0
 have e0:na0=a.size-1:=rfl
 refine wpS_bind (wpS_mono (wpS_forRange (I:=Cu κ a b st)
  (Q:=Ct κ a b st) ?step ?fin ⟨.refl _,na0,nb0,out0,mg0,rfl,j1,by exact Bw na nb c1 c2,by omega⟩) ?post)
 case post =>
  rintro c st' ⟨g,r,rest,rfl,hr⟩
  exact wpS_pure ⟨g,hr⟩
 case fin =>
  rintro c st' ⟨g,na,nb,out,mg,rfl,j,l1,l2⟩
  have:=j.n
  have:=j.lo
  omega
 case step =>
  rintro x c st1 _ hx ⟨g,na,nb,out,mg,rfl,j,l1,l2⟩
  refine wpS_bind (wpS_mono (wpS_forRange (I:=Cs κ a b st1 x)
   (Q:=Cr κ a b st1 x) ?step1 ?fin1 ⟨rfl,na,nb,out,0,0,rfl,j,l1,l2⟩) ?post1)
  case fin1 =>
   rintro c st' ⟨rfl,na,nb,out,ac,bc,rfl,j,l1,l2⟩
   have:=j.n
   have:=j.lo
   omega
  case step1 =>
   clear j l1 l2
   rintro x' c st' _ hx' ⟨rfl,na,nb,out,ac,bc,rfl,j,l1,l2⟩
   have la:=j.la
   have lb:=j.lb
   obtain⟨p,hp,_,mp⟩:=aW (a:=a) (i:=na-1) (by exact wT l1 la)
   obtain⟨q,hq,_,mq⟩:=aW (a:=b) (i:=nb-1) (by exact wS l2 lb)
   refine wpS_bind (aZ hq (wpS_bind (aZ hp (wpS_bind (iz hL (by rw[g.kind];exact hk) (hb q mq) (ha p mp) ?_)))))
   dsimp -zeta only
   cases e:κ.blt (kv κ q) (kv κ p) with
   | true =>
    refine aQ rfl ?_
    refine wpS_bind (aZ hp ?_)
    have j2:=j.pushA l1 (by exact sD l2) hp hq (KeyOrd.kle_of_klt e)
    by_cases d1:na-1=0
    ·refine aQ (bT d1) ?_
     exact wpS_pure ⟨rfl,.inl ⟨_,_,rfl,j2.doneA d1⟩⟩
    refine aO (bF d1) ?_
    by_cases d2:ac+1>=mg
    ·refine aQ d2 ?_
     exact wpS_pure ⟨rfl,.inr ⟨_,_,_,_,_,rfl,j2.less (by omega),by exact xZ l1 d1,l2⟩⟩
    ·refine aO d2 ?_
     exact wpS_pure ⟨rfl,_,_,_,_,_,rfl,j2.less (by exact uB),by exact xZ l1 d1,l2⟩
   | false =>
    refine aO Bool.false_ne_true ?_
    refine wpS_bind (aZ hq ?_)
    have j2:=j.pushB l1 (by exact sD l2) hp hq e
    by_cases d1:nb-1=1
    ·refine aQ (bT d1) ?_
     exact wpS_pure ⟨rfl,.inl ⟨_,_,rfl,j2.firstB d1⟩⟩
    refine aO (bF d1) ?_
    by_cases d2:bc+1>=mg
    ·refine aQ d2 ?_
     exact wpS_pure ⟨rfl,.inr ⟨_,_,_,_,_,rfl,j2.less (by omega),l1,by exact xY l2 d1⟩⟩
    ·refine aO d2 ?_
     exact wpS_pure ⟨rfl,_,_,_,_,_,rfl,j2.less (by exact uB),l1,by exact xY l2 d1⟩
  case post1 =>
   clear j l1 l2
   rintro c st' ⟨rfl,⟨r,rest,rfl,hr⟩|⟨na,nb,out,ac,bc,rfl,j,l1,l2⟩⟩
   ·exact wpS_pure ⟨g,r,_,rfl,hr⟩
   refine wpS_bind (wpS_lift (wpAny_rule ⟨rfl,?_⟩))
   refine wpS_bind (wpS_mono (wpS_forRange (I:=Cq κ a b st x)
    (Q:=Cp κ a b st x) ?step2 ?fin2 ⟨g,na,nb,out,_,ac,bc,rfl,j,l1,l2⟩) ?post2)
   case fin2 =>
    rintro c st' ⟨g,na,nb,out,mg,ac,bc,rfl,j,l1,l2⟩
    have:=j.n
    have:=j.lo
    omega
   case post2 =>
    rintro c st' ⟨g,⟨r,rest,rfl,hr⟩|⟨na,nb,out,mg,ac,bc,rfl,j,l1,l2⟩⟩
    ·exact wpS_pure ⟨g,r,_,rfl,hr⟩
    refine wpS_bind (eE λst2 g2=>?_)
    exact wpS_pure ⟨g.trans g2,_,_,_,_,rfl,j,l1,l2⟩
   case step2 =>
    clear j l1 l2 g
    rintro x' c st2 _ hx' ⟨g,na,nb,out,mg,ac,bc,rfl,j,l1,l2⟩
    have la:=j.la
    have lb:=j.lb
    obtain⟨p,hp,_,mp⟩:=aW (a:=a) (i:=na-1) (by exact wT l1 la)
    obtain⟨q,hq,_,mq⟩:=aW (a:=b) (i:=nb-1) (by exact wS l2 lb)
    extract_lets s1 x1 s2 y1 s3 o1 s4 m1 s5 ac1 bc1 nb2 jp mgm
    refine gu (λm=>jp () m) (λ_=>True) (λm _=>?_) (λJ=>?_)
    ·refine wpS_bind (eE λst3 g3=>?_)
     have g4:=g.trans g3
     have hk3:kindOf st3=kd:=by rw[g4.kind];exact hk
     refine wpS_bind (aZ hq ?_)
     refine wpS_bind (fm (a:=a) (base:=0) (n:=na) (hint:=na-1) hL hk3 (hb q mq) ha (by exact Bv la) (λi j p q _ h _ e1 e2=>pM sa h e1 e2) (by exact qD l1) λk k1 k2 k3=>?_)
     simp only[Nat.zero_add]at k2 k3
     dsimp -zeta only
     extract_lets kk ac2 jp2 o2 x2
     refine gu (λz:Nat × Array Keyed=>jp2 () z.1 z.2) (λz=>HJ κ a b (x+1+x') z.2 z.1 nb/\1<=z.1/\∀p,a[z.1-1]?=some p->le κ p q) (λz hz=>?_) (λJ2=>?_)
     ·obtain⟨x3,o3⟩:=z
      obtain⟨j3,l3,f3⟩:=hz
      dsimp only at j3 l3 f3
      have la3:=j3.la
      obtain⟨p3,hp3,_,mp3⟩:=aW (a:=a) (i:=x3-1) (by exact wT l3 la3)
      refine wpS_bind (aZ hq ?_)
      have j4:=j3.pushB l3 (by exact sD l2) hp3 hq (f3 p3 hp3)
      by_cases d1:nb-1=1
      ·refine aQ (bT d1) ?_
       exact wpS_pure ⟨g4,.inl ⟨_,_,rfl,j4.firstB d1⟩⟩
      refine aO (bF d1) ?_
      refine wpS_bind (aZ hp3 ?_)
      refine wpS_bind (fm (a:=b) (base:=0) (n:=nb-1) (hint:=nb-1-1) hL hk3 (ha p3 mp3) hb (by exact Bu l2 lb) (λi j p q _ h _ e1 e2=>pM sb h e1 e2) (by exact Bt l2) λk' k1' k2' k3'=>?_)
      simp only[Nat.zero_add]at k2' k3'
      dsimp -zeta only
      extract_lets kk' bc2 na4 jp3 o4 y4
      refine gu (λz:Nat × Array Keyed=>jp3 () z.1 z.2) (λz=>HJ κ a b (x+1+x'+1) z.2 x3 z.1/\2<=z.1/\∀q,b[z.1-1]?=some q->le κ q p3) (λz hz=>?_) (λJ3=>?_)
      ·obtain⟨y5,o5⟩:=z
       obtain⟨j5,l5,f5⟩:=hz
       dsimp only at j5 l5 f5
       have lb5:=j5.lb
       obtain⟨q5,hq5,_,mq5⟩:=aW (a:=b) (i:=y5-1) (by exact wS l5 lb5)
       refine wpS_bind (aZ hp3 ?_)
       have j6:=j5.pushA l3 (by exact sD l5) hp3 hq5 (f5 q5 hq5)
       by_cases d2:x3-1=0
       ·refine aQ (bT d2) ?_
        exact wpS_pure ⟨g4,.inl ⟨_,_,rfl,j6.doneA d2⟩⟩
       refine aO (bF d2) ?_
       by_cases d3:(decide (ac2<7)&&decide (bc2<7))=true
       ·refine aQ d3 ?_
        exact wpS_pure ⟨g4,.inr ⟨_,_,_,_,_,_,rfl,j6.less (by omega),by omega,l5⟩⟩
       ·refine aO d3 ?_
        exact wpS_pure ⟨g4,_,_,_,_,_,_,rfl,j6.less (by exact yo),by omega,l5⟩
      have ek':kk'=nb-1-k':=rfl
      by_cases d2:kk'>0
      ·refine aQ d2 ?_
       have j5:HJ κ a b (x+1+x'+1) o4 x3 y4:=j4.runB l3 hp3 (by exact Bs k1') λi h1 h2 p e=>lW (k3' i h1 h2 p e)
       have e2:y4=k':=rfl
       by_cases d3:y4=1
       ·refine aQ (bT d3) ?_
        exact wpS_pure ⟨g4,.inl ⟨_,_,rfl,j5.firstB d3⟩⟩
       refine aO (bF d3) ?_
       by_cases d4:y4=0
       ·refine aQ (bT d4) ?_
        exact wpS_pure ⟨g4,.inl ⟨_,_,rfl,j5.doneB d4⟩⟩
       refine aO (bF d4) ?_
       exact J3 (y4,o4) ⟨j5,by dsimp only;exact Br d3 d4,λq e=>lT (k2' (y4-1) (by omega) q e)⟩
      ·refine aO d2 ?_
       exact J3 (nb-1,_) ⟨j4,ya l2 d1,λq e=>lT (k2' (nb-1-1) (by exact Bq l2 ek' d2) q e)⟩
     have ek:kk=na-k:=rfl
     by_cases d1:kk>0
     ·refine aQ d1 ?_
      have j3:HJ κ a b (x+1+x') o2 x2 nb:=j.runA (by exact sD l2) hq (by exact wR k1) λi h1 h2 p e=>lV (k3 i h1 h2 p e)
      have e2:x2=k:=rfl
      by_cases d2:x2=0
      ·refine aQ (bT d2) ?_
       exact wpS_pure ⟨g4,.inl ⟨_,_,rfl,j3.doneA d2⟩⟩
      refine aO (bF d2) ?_
      exact J2 (x2,o2) ⟨j3,by dsimp only;exact AU d2,λp e=>lU (k2 (x2-1) (by omega) p e)⟩
     ·refine aO d1 ?_
      exact J2 (na,out) ⟨j,l1,λp e=>lU (k2 (na-1) (by exact AT l1 ek d1) p e)⟩
    by_cases d:m1>1
    ·refine aQ d ?_;exact J _ trivial
    ·refine aO d ?_;exact J _ trivial
end
section
structure Sg (lo:Nat) (st st':SortSt):Prop where
 kind:kindOf st'=kindOf st
 pend:pendingOf st'=pendingOf st
 fail:failedOf st'=failedOf st
 head:∀i,i<lo->(arrOf st')[i]?=(arrOf st)[i]?
 perm:(arrOf st').Perm (arrOf st)
theorem Sg.refl (lo:Nat) (st:SortSt):Sg lo st st:=⟨rfl,rfl,rfl,λ_ _=>rfl,Array.Perm.refl _⟩
variable {a b c st:SortSt} {lo i n nrem:Nat}
theorem Sg.trans (x:Sg lo a b) (y:Sg lo b c):Sg lo a c:=⟨y.kind.trans x.kind,y.pend.trans x.pend,y.fail.trans x.fail,λi h=>(y.head i h).trans (x.head i h),y.perm.trans x.perm⟩
theorem Sg.size (x:Sg lo a b):(arrOf b).size=(arrOf a).size:=x.perm.size_eq
theorem Sg.keys (x:Sg lo a b) (h:∀p∈(arrOf a).toList,Hk κ p):∀p∈(arrOf b).toList,Hk κ p:=λp hp=>h p ((Array.perm_iff_toList_perm.mp x.perm).mem_iff.mp hp)
variable {xs:Array Keyed}
theorem tj {p:Keyed} (h:xs[i]?=some p):KK κ xs i=kv κ p:=by unfold KK kv;rw[h]
theorem fk (hL:ic κ kd prog w A s) {i j:Nat} {Q:Option Bool->SortSt->Prop} (hk:kindOf st=kd) (ha:∀p∈(arrOf st).toList,Hk κ p) (hi:i<(arrOf st).size) (hj:j<(arrOf st).size)
  (h:Q (some (κ.blt (KK κ (arrOf st) i) (KK κ (arrOf st) j))) st):wpS (model prog w) A E s (ltAt' i j) Q st:=by
 obtain⟨p,hp,_,mp⟩:=aW hi
 obtain⟨q,hq,_,mq⟩:=aW hj
 rw[tj hp,tj hq]at h
 rw[ltAt'_eq]
 exact wpS_bind (wpS_get (wpS_bind (aZ hp (wpS_bind (aZ hq (iz hL hk (ha p mp) (ha q mq) h))))))
def Up (κ:KeyKind) (xs:Array Keyed) (lo n:Nat):Prop:=∀i j,i<=j->j<n->κ.kle (KK κ xs (lo+i)) (KK κ xs (lo+j))
def l_ (κ:KeyKind) (xs:Array Keyed) (lo n:Nat):Prop:=∀i j,i<=j->j<n->κ.kle (KK κ xs (lo+j)) (KK κ xs (lo+i))
theorem Up.one:Up κ xs lo 1:=λi j h1 h2=>by
 have:i=j:=by exact AS h1 h2
 subst this
 exact KeyOrd.kle_refl _
theorem Up.more (h:Up κ xs lo n) (h1:1<=n) (c:κ.kle (KK κ xs (lo+(n-1))) (KK κ xs (lo+n))):Up κ xs lo (n+1):=λi j hij hj=>by
 by_cases e:j<n
 ·exact h i j hij e
 have:j=n:=by exact we hj e
 subst this
 by_cases e2:i=j
 ·subst e2;exact KeyOrd.kle_refl _
 exact KeyOrd.kle_trans (h i (j-1) (by exact wc hij h1 e2) (by exact qD h1)) c
theorem l_.more (h:l_ κ xs lo n) (h1:1<=n) (c:κ.kle (KK κ xs (lo+n)) (KK κ xs (lo+(n-1)))):l_ κ xs lo (n+1):=λi j hij hj=>by
 by_cases e:j<n
 ·exact h i j hij e
 have:j=n:=by exact we hj e
 subst this
 by_cases e2:i=j
 ·subst e2;exact KeyOrd.kle_refl _
 exact KeyOrd.kle_trans c (h i (j-1) (by exact wc hij h1 e2) (by exact qD h1))
theorem oZ {lo a:Nat} {f:Nat->Option (Option Nat) × Nat->StateT SortSt Sem (ForInStep (Option (Option Nat) × Nat))} {Q:Option (Option Nat) × Nat->SortSt->Prop} (h1:1<=a) (h2:a<=nrem) (up:Up κ (arrOf st) lo a)
  (hf:∀x n (R:ForInStep (Option (Option Nat) × Nat)->SortSt->Prop),1<=n->n<nrem->(κ.klt (KK κ (arrOf st) (lo+n)) (KK κ (arrOf st) (lo+(n-1)))->R (.done (none,n)) st)->(κ.kle (KK κ (arrOf st) (lo+(n-1))) (KK κ (arrOf st) (lo+n))->R (.yield (none,n+1)) st)->wpS (model prog w) A E s (f x (none,n)) R st)
  (h:∀n,a<=n->n<=nrem->Up κ (arrOf st) lo n->(n=nrem\/κ.klt (KK κ (arrOf st) (lo+n)) (KK κ (arrOf st) (lo+(n-1))))->Q (none,n) st):wpS (model prog w) A E s (forIn [a:nrem] (none,a) f) Q st:=by
 refine wpS_forRange (I:=λx c st'=>st'=st/\c=(none,x)/\Up κ (arrOf st) lo x) ?_ ?_ ⟨rfl,rfl,up⟩
 ·rintro x c st' hax hx ⟨rfl,rfl,u⟩
  exact hf x x _ (by exact wb h1 hax) hx (λe=>h x hax (by exact sI hx) u (.inr e)) λe=>⟨rfl,rfl,u.more (by exact wb h1 hax) e⟩
 ·rintro c st' ⟨rfl,rfl,u⟩
  rw[show max a nrem=nrem by exact AR h2]at u ⊢
  exact h nrem h2 (Nat.le_refl _) u (.inl rfl)
theorem ie {lo i j:Nat} {Q:Unit->SortSt->Prop} (hi:lo<=i) (hj:j<=(arrOf st).size) (h:∀st',Sg lo st st'->(∀k,KK κ (arrOf st') k=if i<=k/\k<j then KK κ (arrOf st) (i+j-1-k) else KK κ (arrOf st) k)->Q () st'):wpS (model prog w) A E s (reverseSlice' i j) Q st:=by
 rw[reverseSlice'_eq]
 refine wpS_modify (h _ ⟨rfl,rfl,rfl,λk hk=>?_,mirror_perm _ _ _ _⟩ λk=>KK_mirror hj k)
 show (mirror (arrOf st) i j ((j-i) / 2))[k]?=_
 rw[getElem?_mirror_all hj,if_neg (by exact AQ hi hk)]
theorem fW {σ α β:Type} {M:Model} {Q:α->σ->Prop} {st:σ} {m:StateT σ Sem α} (f:β->StateT σ Sem α) (I:β->σ->Prop) (J:∀z st',I z st'->wpS M A E s (f z) Q st') (h:(∀z st',I z st'->wpS M A E s (f z) Q st')->wpS M A E s m Q st):wpS M A E s m Q st:=h J
def kM:Nat->Nat->StateT SortSt Sem (Option Nat):=sortPriv% PySem.Builtin.countRun
theorem qj (hL:ic κ kd prog w A s) {lo nrem:Nat} {Q:Option Nat->SortSt->Prop} (hk:kindOf st=kd) (ha:∀p∈(arrOf st).toList,Hk κ p) (h1:1<=nrem) (hn:lo+nrem<=(arrOf st).size)
  (h:∀m st',Sg lo st st'->1<=m->m<=nrem->Up κ (arrOf st') lo m->Q (some m) st'):wpS (model prog w) A E s (kM lo nrem) Q st:=by
 unfold kM
 refine wpS_bind (oZ (κ:=κ) (lo:=lo) (Nat.le_refl 1) h1 Up.one (λx n R a1 a2 r1 r2=>?_) λn a1 a2 up stop=>?_)
 ·extract_lets
  refine wpS_bind (fk hL hk ha (by omega) (by omega) ?_)
  rw[show lo+n-1=lo+(n-1) by exact wa a1]
  dsimp -zeta only
  cases e:κ.blt (KK κ (arrOf st) (lo+n)) (KK κ (arrOf st) (lo+(n-1))) with
  | true=>refine aQ rfl ?_;exact wpS_pure (r1 e)
  | false=>refine aO Bool.false_ne_true ?_;exact wpS_pure (r2 e)
 show wpS _ _ _ _ (if (n==nrem)=true then pure (some n) else _) _ _
 by_cases hnn:n=nrem
 ·refine aQ (bT hnn) ?_
  exact wpS_pure (h n st (.refl _ _) a1 a2 up)
 refine aO (bF hnn) ?_
 have lt0:=stop.resolve_left hnn
 extract_lets jn jq jp
 refine fW (λ_:Unit=>jp ()) (λ_ st'=>Sg lo st st'/\l_ κ (arrOf st') lo (n+1)) (λ_ st1 hz=>?_) (λJ=>?_)
 ·obtain⟨g1,dn⟩:=hz
  refine wpS_bind (wpS_lift (wpAny_rule ⟨rfl,?_⟩))
  refine wpS_bind (wpS_mono (wpS_forRange (I:=λx c st'=>∃neq,c=(none,x,neq)/\Sg lo st st'/\l_ κ (arrOf st') lo x/\neq+1<=x/\∀i,x-(neq+1)<=i->i<x->KK κ (arrOf st') (lo+i)=KK κ (arrOf st') (lo+(x-1)))
   (Q:=λc st'=>∃x neq,c=(none,x,neq)/\Sg lo st st'/\x<=nrem/\l_ κ (arrOf st') lo x/\neq+1<=x/\∀i,x-(neq+1)<=i->i<x->KK κ (arrOf st') (lo+i)=KK κ (arrOf st') (lo+(x-1))) ?step ?fin ⟨0,rfl,g1,dn,by omega,λi i1 i2=>by rw[show i=n+1-1 by omega]⟩) ?post)
  case fin =>
   rintro c st' ⟨neq,rfl,b1,b2,b3,b4⟩
   rw[show max (n+1) nrem=nrem by exact AM a2 hnn]at b2 b3 b4 ⊢
   exact⟨nrem,neq,rfl,b1,Nat.le_refl _,b2,b3,b4⟩
  case step =>
   rintro x c st' hax hx ⟨neq,rfl,b1,b2,b3,b4⟩
   have sz:=b1.size
   have hk':kindOf st'=kd:=b1.kind.trans hk
   have ha':=b1.keys ha
   refine wpS_bind (fk (i:=lo+x) (j:=lo+x-1) hL hk' ha' (by exact pI hn hx sz) (by omega) ?_)
   rw[show lo+x-1=lo+(x-1) by exact AK b3]
   dsimp -zeta only
   extract_lets
   cases e:κ.blt (KK κ (arrOf st') (lo+x)) (KK κ (arrOf st') (lo+(x-1))) with
   | true =>
    refine aQ rfl ?_
    have d1:=b2.more (by exact sH b3) (KeyOrd.kle_of_klt e)
    by_cases c:neq>0
    ·refine aQ c ?_
     refine wpS_bind (ie (κ:=κ) (lo:=lo) (by exact v_ b3) (by exact AJ hn hx sz) λst2 g2 kk=>?_)
     have kk:∀i,KK κ (arrOf st2) (lo+i)=KK κ (arrOf st') (lo+i):=λi=>by
      rw[kk]
      split
      ·rename_i q
       obtain⟨e1,e2,e3,e4,e5⟩:=vO b3 q
       rw[e1,b4 _ e2 e3,b4 i e4 e5]
      ·rfl
     exact wpS_pure ⟨0,rfl,b1.trans g2,λi j h1 h2=>by rw[kk,kk];exact d1 i j h1 h2,by exact v8,λi i1 i2=>by rw[show i=x+1-1 by exact AI i1 i2]⟩
    ·refine aO c ?_
     exact wpS_pure ⟨0,rfl,b1,d1,by exact v8,λi i1 i2=>by rw[show i=x+1-1 by omega]⟩
   | false =>
    refine aO Bool.false_ne_true ?_
    refine wpS_bind (fk (i:=lo+(x-1)) (j:=lo+x) hL hk' ha' (by omega) (by exact pI hn hx sz) ?_)
    dsimp -zeta only
    cases e2:κ.blt (KK κ (arrOf st') (lo+(x-1))) (KK κ (arrOf st') (lo+x)) with
    | true =>
     refine aQ rfl ?_
     exact wpS_pure ⟨x,neq,rfl,b1,by exact sI hx,b2,b3,b4⟩
    | false =>
     refine aO Bool.false_ne_true ?_
     have eq:KK κ (arrOf st') (lo+x)=KK κ (arrOf st') (lo+(x-1)):=KeyOrd.kle_antisymm e2 e
     refine wpS_pure ⟨neq+1,rfl,b1,b2.more (by exact sH b3) (by rw[eq];exact KeyOrd.kle_refl _),by exact AG b3,λi i1 i2=>?_⟩
     rw[show x+1-1=x by exact AF]
     by_cases ix:i=x
     ·rw[ix]
     ·rw[b4 i (by omega) (by exact AE i2 ix),eq]
  case post =>
   rintro c st2 ⟨x,neq,rfl,b1,b2,b3,b4,b5⟩
   extract_lets r2 s2 n2 q2 jp2
   have sz:=b1.size
   refine fW (λ_:Unit=>jp2 ()) (λ_ st'=>Sg lo st st'/\l_ κ (arrOf st') lo x) (λ_ st3 hz=>?_) (λJ2=>?_)
   ·obtain⟨g3,dn3⟩:=hz
    have sz3:=g3.size
    refine wpS_bind (ie (κ:=κ) (lo:=lo) (Nat.le_refl _) (show lo+x<=_ by exact AC hn b2 sz sz3) λst4 g4 kk=>?_)
    have g5:=g3.trans g4
    have sz5:=g5.size
    refine wpS_bind (oZ (κ:=κ) (lo:=lo) (show 1<=x by exact sH b4) b2 (λi j h1 h2=>?_) (λy n R a1 a2 r1 r2=>?_) λn a1 a2 up stop=>?_)
    ·have h2:j<x:=h2
     rw[kk,kk,if_pos (by exact AB h1 h2),if_pos (by exact AA h2),show lo+(lo+x)-1-(lo+i)=lo+(x-1-i) by exact sC (Nat.lt_of_le_of_lt h1 h2),show lo+(lo+x)-1-(lo+j)=lo+(x-1-j) by exact sC h2]
     exact dn3 _ _ (by exact Az h1 h2) (by exact Ay h1 h2)
    ·refine wpS_bind (fk hL (g5.kind.trans hk) (g5.keys ha) (by omega) (by omega) ?_)
     rw[show lo+n-1=lo+(n-1) by exact wa a1]
     dsimp -zeta only
     cases e:κ.blt (KK κ (arrOf st4) (lo+n)) (KK κ (arrOf st4) (lo+(n-1))) with
     | true=>refine aQ rfl ?_;exact wpS_pure (r1 e)
     | false=>refine aO Bool.false_ne_true ?_;exact wpS_pure (r2 e)
    ·have a1:x<=n:=a1
     exact wpS_pure (h n st4 g5 (by exact Ax b4 a1) a2 up)
   by_cases c:neq>0
   ·show wpS _ _ _ _ (if neq>0 then _ else _) _ _
    refine aQ c ?_
    refine wpS_bind (ie (κ:=κ) (lo:=lo) (i:=lo+x-(neq+1)) (j:=lo+x) (show lo<=lo+x-(neq+1) by exact v_ b4) (show lo+x<=_ by exact Aw hn b2 sz) λst3 g3 kk=>?_)
    have kk:∀i,KK κ (arrOf st3) (lo+i)=KK κ (arrOf st2) (lo+i):=λi=>by
     rw[kk]
     split
     ·rename_i q
      obtain⟨e1,e2,e3,e4,e5⟩:=vO b4 q
      rw[e1,b5 _ e2 e3,b5 i e4 e5]
     ·rfl
    exact J2 () st3 ⟨b1.trans g3,λi j h1 h2=>by rw[kk,kk];exact b3 i j h1 h2⟩
   ·show wpS _ _ _ _ (if neq>0 then _ else _) _ _
    refine aO c ?_
    exact J2 () st2 ⟨b1,b3⟩
 by_cases c:n>1
 ·refine aQ c ?_
  refine wpS_bind (fk hL hk ha (by exact Au h1 hn) (by omega) ?_)
  rw[show lo+n-1=lo+(n-1) by exact As c]
  dsimp -zeta only
  cases e:κ.blt (KK κ (arrOf st) lo) (KK κ (arrOf st) (lo+(n-1))) with
  | true =>
   refine aQ rfl ?_
   exact wpS_pure (h n st (.refl _ _) a1 a2 up)
  | false =>
   refine aO Bool.false_ne_true ?_
   have all:∀i,i<n->KK κ (arrOf st) (lo+i)=KK κ (arrOf st) (lo+(n-1)):=λi hi =>
    KeyOrd.kle_antisymm (up i (n-1) (by exact Ar c hi) (by exact Aq c)) (KeyOrd.kle_trans e (by have:=up 0 i (by exact wW) hi;rwa [Nat.add_zero]at this))
   refine wpS_bind (ie (κ:=κ) (lo:=lo) (Nat.le_refl _) (show lo+n<=_ by exact Ap hn a2) λst3 g3 kk=>?_)
   have kk:∀i,KK κ (arrOf st3) (lo+i)=KK κ (arrOf st) (lo+i):=λi=>by
    rw[kk]
    split
    ·rename_i q
     have l:=Nat.lt_of_add_lt_add_left q.2
     rw[sC l,all _ (Nat.lt_of_le_of_lt (Nat.sub_le _ _) (Nat.sub_lt (Nat.lt_of_le_of_lt (Nat.zero_le _) l) Nat.zero_lt_one)),all i l]
    ·rfl
   refine J () st3 ⟨g3,l_.more (λi j h1 h2=>?_) a1 ?_⟩
   ·rw[kk,kk,all i (by exact Ao h1 h2),all j h2];exact KeyOrd.kle_refl _
   ·rw[kk,kk];exact KeyOrd.kle_of_klt lt0
 ·refine aO c ?_
  refine J () st ⟨.refl _ _,l_.more (λi j h1 h2=>?_) a1 (KeyOrd.kle_of_klt lt0)⟩
  have:i=j:=by exact An a1 c h1 h2
  subst this
  exact KeyOrd.kle_refl _
end
section
def Ba:Nat->Nat->Nat->StateT SortSt Sem Bool:=sortPriv% PySem.Builtin.binarySort
theorem uc (hL:ic κ kd prog w A s) {st:SortSt} {lo n ok:Nat} {Q:Bool->SortSt->Prop} (hk:kindOf st=kd) (ha:∀p∈(arrOf st).toList,Hk κ p) (h1:ok<=n) (hn:lo+n<=(arrOf st).size) (up:Up κ (arrOf st) lo ok)
  (h:∀st',Sg lo st st'->Up κ (arrOf st') lo n->Q true st'):wpS (model prog w) A E s (Ba lo n ok) Q st:=by
 unfold Ba
 refine wpS_bind (wpS_mono (wpS_forRange (I:=λk c st'=>c=(none,())/\Sg lo st st'/\Up κ (arrOf st') lo (min k n)) (Q:=λc st'=>c=(none,())/\Sg lo st st'/\Up κ (arrOf st') lo n) ?step ?fin ?init) ?post)
 case post =>
  rintro c st' ⟨rfl,g,u⟩
  exact wpS_pure (h st' g u)
 case init =>
  refine⟨rfl,.refl _ _,λi j hij hj=>?_⟩
  by_cases e:ok=0
  ·have:i=j:=by exact Am hij hj e
   subst this
   exact KeyOrd.kle_refl _
  ·exact up i j hij (by exact Al h1 hj e)
 case fin =>
  rintro c st' ⟨rfl,g,u⟩
  rw[show min (max (max ok 1) n) n=n by exact Ak]at u
  exact⟨rfl,g,u⟩
 case step =>
  rintro k c st' k1 k2 ⟨rfl,g,u⟩
  rw[show min k n=k by exact Ai k2]at u
  have sz:=g.size
  refine wpS_bind (wpS_mono (wpS_forRange (I:=λx c st2=>st2=st'/\∃l r,c=(none,l,r)/\l<=r/\r<=k/\r-l<=k-x/\(∀i,i<l->κ.kle (KK κ (arrOf st') (lo+i)) (KK κ (arrOf st') (lo+k)))/\(∀i,r<=i->i<k->κ.kle (KK κ (arrOf st') (lo+k)) (KK κ (arrOf st') (lo+i))))
   (Q:=λc st2=>st2=st'/\∃l,c=(none,l,l)/\l<=k/\(∀i,i<l->κ.kle (KK κ (arrOf st') (lo+i)) (KK κ (arrOf st') (lo+k)))/\(∀i,l<=i->i<k->κ.kle (KK κ (arrOf st') (lo+k)) (KK κ (arrOf st') (lo+i)))) ?istep ?ifin ⟨rfl,0,k,rfl,by exact wW,by exact Ag,by exact Af,λi hi=>by omega,λi a b=>by omega⟩) ?ipost)
  case ifin =>
   rintro c st2 ⟨rfl,l,r,rfl,a1,a2,a3,a4,a5⟩
   have:l=r:=by exact yG a1 a3
   subst this
   exact⟨rfl,l,rfl,a2,a4,a5⟩
  case istep =>
   rintro x c st2 _ hx ⟨rfl,l,r,rfl,a1,a2,a3,a4,a5⟩
   dsimp -zeta only
   extract_lets
   by_cases c:l>=r
   ·show wpS _ _ _ _ (if l>=r then _ else _) _ _
    refine aQ c ?_
    have:l=r:=by exact wX a1 c
    subst this
    exact wpS_pure ⟨rfl,l,rfl,a2,a4,a5⟩
   ·show wpS _ _ _ _ (if l>=r then _ else _) _ _
    refine aO c ?_
    refine wpS_bind (fk (i:=lo+k) (j:=lo+(l+r) / 2) hL (g.kind.trans hk) (g.keys ha) (by exact pI hn k2 sz) (by omega) ?_)
    dsimp -zeta only
    cases e:κ.blt (KK κ (arrOf st2) (lo+k)) (KK κ (arrOf st2) (lo+(l+r) / 2)) with
    | true =>
     refine aQ rfl ?_
     refine wpS_pure ⟨rfl,l,(l+r) / 2,rfl,by exact Ae c,by exact Ad a2 c,yd a3 c,a4,λi b1 b2=>?_⟩
     exact KeyOrd.kle_trans (KeyOrd.kle_of_klt e) (u _ _ b1 b2)
    | false =>
     refine aO Bool.false_ne_true ?_
     refine wpS_pure ⟨rfl,(l+r) / 2+1,r,rfl,by exact Ac c,by exact wR a2,ye a3 c,λi b1=>?_,a5⟩
     exact KeyOrd.kle_trans (u i ((l+r) / 2) (by exact Ab b1) (by exact Aa a2 c)) e
  case ipost =>
   rintro c st2 ⟨rfl,l,rfl,a2,a4,a5⟩
   show wpS _ _ _ _ (moveDown' (lo+k) (lo+l) >>= _) _ _
   rw[moveDown'_eq]
   have hks:lo+k<(arrOf st2).size:=by exact pI hn k2 sz
   refine wpS_bind (wpS_modify (wpS_pure ⟨rfl,g.trans ⟨rfl,rfl,rfl,λi hi=>?_,bubble_perm _ _ _⟩,λi j hij hj=>?_⟩))
   ·show (bubble (arrOf st2) (lo+k) (lo+k-(lo+l)))[i]?=_
    rw[getElem?_bubble hks _ (by exact z_ a2 hi),if_neg (by exact zZ a2 hi),if_neg (by omega)]
   ·rw[show min (k+1) n=k+1 by exact zY k2]at hj
    show κ.kle (KK κ (bubble (arrOf st2) (lo+k) (lo+k-(lo+l))) (lo+i)) (KK κ (bubble (arrOf st2) (lo+k) (lo+k-(lo+l))) (lo+j))
    rw[KK_bubble hks (by exact v7 a2),KK_bubble hks (by exact v7 a2),show lo+k-(lo+k-(lo+l))=lo+l by exact zX a2]
    have sh:∀i,l<i->lo+i-1=lo+(i-1):=λi hi=>by exact zW hi
    by_cases ci:i<l
    ·rw[if_neg (by exact v5 ci),if_neg (by exact v4 ci)]
     by_cases cj:j<l
     ·rw[if_neg (by exact v5 cj),if_neg (by exact v4 cj)];exact u i j hij (by exact zV a2 hj cj)
     by_cases cj2:j=l
     ·rw[if_pos (by exact vZ cj2)];exact a4 i ci
     ·rw[if_neg (by exact vY cj2),if_pos (by omega),sh j (by exact vX cj cj2)];exact u i (j-1) (by exact zU hij ci cj) (by exact zT a2 hij hj ci)
    by_cases ci2:i=l
    ·rw[if_pos (by exact vZ ci2)]
     by_cases cj2:j=l
     ·rw[if_pos (by exact zS ci2 cj2)];exact KeyOrd.kle_refl _
     ·rw[if_neg (by exact zR ci2 cj2),if_pos (by omega),sh j (by exact zQ hij ci2 cj2)];exact a5 (j-1) (by exact zP hij ci2 cj2) (by exact zO hij hj ci2 cj2)
    ·rw[if_neg (by exact vY ci2),if_pos (by omega),if_neg (by exact zN hij ci ci2),if_pos (by omega),sh i (by exact vX ci ci2),sh j (by exact zM hij ci ci2)]
     exact u (i-1) (j-1) (by exact zL hij) (by exact zK hij hj ci ci2)
end
theorem mM (o:Nat):∀(M:List Keyed) (j:Nat) (arr:Array Keyed) (P S T:List Keyed),arr.toList=P++(S++T)->P.length=o+j->S.length=M.length->((M.zipIdx j).foldl (λa (x:Keyed × Nat)=>a.setIfInBounds (o+x.2) x.1) arr).toList=P++(M++T)
 | [],j,arr,P,S,T,h,hp,hs=>by
  have:S=[]:=List.eq_nil_of_length_eq_zero hs
  subst this
  exact h
 | p::M,j,arr,P,[],T,h,hp,hs=>by simp at hs
 | p::M,j,arr,P,q::S,T,h,hp,hs=>by
  rw[List.zipIdx_cons,List.foldl_cons]
  have e:(arr.setIfInBounds (o+j) p).toList=(P++[p])++(S++T):=by
   rw[Array.toList_setIfInBounds,h,List.set_append,if_neg (by exact zJ hp),show o+j-P.length=0 by exact zI hp]
   simp
  have:=mM o M (j+1) (arr.setIfInBounds (o+j) p) (P++[p]) S T e (by rw[List.length_append];simp;exact zH hp) (by simpa using hs)
  rw[this]
  simp
def eG:Nat->List (List Keyed)->List (Nat × Nat)
 | _,[]=>[]
 | b,r::rs=>(b,r.length)::eG (b+r.length) rs
theorem f_ (u w:List (List Keyed)):∀b,eG b (u++w)=eG b u++eG (b+u.flatten.length) w:=by
 induction u with
 | nil=>intro b;simp[eG]
 | cons r u ih =>
  intro b
  show (b,r.length)::eG (b+r.length) (u++w)=_
  rw[ih]
  show _=(b,r.length)::(eG (b+r.length) u++_)
  rw[List.flatten_cons,List.length_append,Nat.add_assoc]
theorem mS (u:List (List Keyed)):∀b,(eG b u).length=u.length:=by
 induction u with
 | nil=>intro b;rfl
 | cons r u ih=>intro b;show (eG _ u).length+1=_;rw[ih];rfl
structure RI (κ:KeyKind) (kd:SortKind) (a₀:Array Keyed) (st:SortSt) (rs:List (List Keyed)) (rest:List Keyed):Prop where
 arr:(arrOf st).toList=rs.flatten++rest
 perm:(arrOf st).Perm a₀
 ok:∀r∈rs,r≠[]/\r.Pairwise (le κ)
 pend:(pendingOf st).toList.map (λp=>(p.1,p.2.1))=eG 0 rs
 kind:kindOf st=kd
 fail:failedOf st=none
theorem uv {ps:Array (Nat × Nat × Nat)} {u v:List (List Keyed)} {X Y:List Keyed} (h:ps.toList.map (λp=>(p.1,p.2.1))=eG 0 (u++X::Y::v)) :
  ∃p1 p2,ps[u.length]?=some (u.flatten.length,X.length,p1)/\ps[u.length+1]?=some (u.flatten.length+X.length,Y.length,p2) /\
   ((ps.setIfInBounds u.length (u.flatten.length,X.length+Y.length,p1)).eraseIdxIfInBounds (u.length+1)).toList.map (λp=>(p.1,p.2.1))=eG 0 u++(u.flatten.length,X.length+Y.length)::eG (u.flatten.length+X.length+Y.length) v:=by
 rw[f_,Nat.zero_add]at h
 have h:ps.toList.map (λp=>(p.1,p.2.1))=eG 0 u++(u.flatten.length,X.length)::(u.flatten.length+X.length,Y.length)::eG (u.flatten.length+X.length+Y.length) v:=h
 have lu:=mS u 0
 obtain⟨l1,l2,e,e1,e2⟩:=List.map_eq_append_iff.mp h
 cases l2 with
 | nil=>simp at e2
 | cons a l2 =>
  cases l2 with
  | nil=>simp at e2
  | cons b l2 =>
   obtain⟨a1,a2,a3⟩:=a
   obtain⟨b1,b2,b3⟩:=b
   simp only[List.map_cons,List.cons.injEq,Prod.mk.injEq]at e2
   obtain⟨⟨rfl,rfl⟩,⟨rfl,rfl⟩,e3⟩:=e2
   have l1l:l1.length=u.length:=by rw[<-lu,<-e1,List.length_map]
   have pe:ps=(l1++(u.flatten.length,X.length,a3)::(u.flatten.length+X.length,Y.length,b3)::l2).toArray:=by rw[<-e]
   subst pe
   refine⟨a3,b3,?_,?_,?_⟩
   ·rw[<-l1l];simp
   ·rw[<-l1l];simp[List.getElem?_append_right]
   ·rw[<-l1l,<-e1,<-e3]
    simp[Array.eraseIdxIfInBounds,List.set_append,List.eraseIdx_append]
    rw[if_neg (by exact zF)]
    simp
section
theorem ub {σ:Type} {M:Model} {x:σ} {Q:PUnit->σ->Prop} {st:σ} (h:Q ⟨⟩ x):wpS M A E s (set x:StateT σ Sem PUnit) Q st:=by
 unfold wpS;rw[StateT.run_set];exact wpAny_pure ⟨rfl,h⟩
theorem gT (hL:ic κ kd prog w A s) {st:SortSt} {a₀:Array Keyed} {u v:List (List Keyed)} {X Y rest:List Keyed} {Q:Bool->SortSt->Prop} (ha:∀p∈a₀.toList,Hk κ p) (I:RI κ kd a₀ st (u++X::Y::v) rest)
  (h:∀Z st',Z.length=X.length+Y.length->RI κ kd a₀ st' (u++Z::v) rest->Q true st'):wpS (model prog w) A E s (mergeAt' u.length) Q st:=by
 obtain⟨earr,perm,ok,pend,kind,fail⟩:=I
 obtain⟨p1,p2,e1,e2,e3⟩:=uv pend
 obtain⟨xne,sx⟩:=ok X (by simp)
 obtain⟨yne,sy⟩:=ok Y (by simp)
 have xl:1<=X.length:=Nat.pos_of_ne_zero λz=>xne (List.eq_nil_of_length_eq_zero z)
 have yl:1<=Y.length:=Nat.pos_of_ne_zero λz=>yne (List.eq_nil_of_length_eq_zero z)
 have ha':∀p∈(arrOf st).toList,Hk κ p:=λp hp=>ha p ((Array.perm_iff_toList_perm.mp perm).mem_iff.mp hp)
 have earr:(arrOf st).toList=u.flatten++(X++(Y++(v.flatten++rest))):=by rw[earr];simp
 have sz:(arrOf st).size=u.flatten.length+(X.length+(Y.length+(v.flatten++rest).length)):=by rw[<-Array.length_toList,earr];simp only[List.length_append]
 have atX:∀i,i<X.length->(arrOf st)[u.flatten.length+i]?=X[i]?:=λi hi=>by rw[<-Array.getElem?_toList,earr,List.getElem?_append_right (by exact sF),Nat.add_sub_cancel_left,List.getElem?_append_left hi]
 have atY:∀i,i<Y.length->(arrOf st)[u.flatten.length+X.length+i]?=Y[i]?:=λi hi=>by rw[<-Array.getElem?_toList,earr,List.getElem?_append_right (by exact zE xl sz),List.getElem?_append_right (by exact zD xl sz),show u.flatten.length+X.length+i-u.flatten.length-X.length=i by exact zC,List.getElem?_append_left hi]
 obtain⟨y0,hy0⟩:∃y0,Y[0]?=some y0:=⟨Y[0],by rw[List.getElem?_eq_getElem]⟩
 obtain⟨xz,hxz⟩:∃xz,X[X.length-1]?=some xz:=⟨X[X.length-1],by rw[List.getElem?_eq_getElem]⟩
 have key0:(arrOf st)[u.flatten.length+X.length]?=some y0:=by have:=atY 0 (by exact sE yl);rw[Nat.add_zero]at this;rw[this,hy0]
 have pwi:∀{L:List Keyed},L.Pairwise (le κ)->∀{i j:Nat} {p q:Keyed},i<=j->L[i]?=some p->L[j]?=some q->le κ p q:=λ{L} sl {i j p q} hij hi hj=>by
  by_cases e:i=j
  ·subst e
   rw[hi]at hj
   cases hj
   exact KeyOrd.kle_refl _
  ·obtain⟨li,ei⟩:=List.getElem?_eq_some_iff.mp hi
   obtain⟨lj,ej⟩:=List.getElem?_eq_some_iff.mp hj
   have:=(List.pairwise_iff_getElem.mp sl) i j li lj (by exact yt hij e)
   rwa [ei,ej]at this
 have leY:∀q∈Y,le κ y0 q:=λq hq=>by
  obtain⟨j,hj,ej⟩:=List.mem_iff_getElem.mp hq
  exact pwi sy (Nat.zero_le j) hy0 (by rw[List.getElem?_eq_getElem hj,ej])
 have leX:∀p∈X,le κ p xz:=λp hp=>by
  obtain⟨j,hj,ej⟩:=List.mem_iff_getElem.mp hp
  exact pwi sx (show j<=X.length-1 by exact zB xl sz hj) (by rw[List.getElem?_eq_getElem hj,ej]) hxz
 have same:∀st',arrOf st'=arrOf st->kindOf st'=kindOf st->failedOf st'=failedOf st->(pendingOf st').toList.map (λp=>(p.1,p.2.1))=eG 0 u++(u.flatten.length,X.length+Y.length)::eG (u.flatten.length+X.length+Y.length) v->(∀p∈X,∀q∈Y,le κ p q)->Q true st':=λst' h1 h2 h3 h4 h5=>by
  refine h (X++Y) st' (by simp) ⟨by rw[h1,earr];simp,by rw[h1];exact perm,λr hr=>?_,?_,h2.trans kind,h3.trans fail⟩
  ·rcases List.mem_append.mp hr with e|e
   ·exact ok r (by simp[e])
   rcases List.mem_cons.mp e with e|e
   ·subst e
    exact⟨by simp[xne],List.pairwise_append.mpr ⟨sx,sy,h5⟩⟩
   ·exact ok r (by simp[e])
  ·rw[h4,f_,Nat.zero_add]
   show _=_++(u.flatten.length,(X++Y).length)::eG (u.flatten.length+(X++Y).length) v
   rw[List.length_append,Nat.add_assoc]
 unfold mergeAt'
 refine wpS_bind (wpS_get ?_)
 show wpS _ _ _ _ (match ((pendingOf st)[u.length]?,(pendingOf st)[u.length+1]?) with|(some (sa,na,power),some (sb,nb,_))=>_|x=>_) _ _
 rw[e1,e2]
 dsimp -zeta only
 refine wpS_bind (ub ?_)
 refine wpS_bind (aZ key0 ?_)
 have hk0:Hk κ y0:=ha' y0 (by rw[Array.mem_toList_iff];exact Array.mem_of_getElem? key0)
 refine wpS_bind (fm (a:=arrOf st) (base:=u.flatten.length) (n:=X.length) (hint:=0) hL (by exact kind) hk0 ha' (by exact zw yl sz) (λi j p q b1 b2 b3 c1 c2=>?_) (by exact zu xl sz) λk k1 k2 k3=>?_)
 ·have f1:=atX (i-u.flatten.length) (by omega)
  have f2:=atX (j-u.flatten.length) (by omega)
  rw[show u.flatten.length+(i-u.flatten.length)=i by exact zt b1,c1]at f1
  rw[show u.flatten.length+(j-u.flatten.length)=j by exact zq b1 b2,c2]at f2
  exact pwi sx (show i-u.flatten.length<=j-u.flatten.length by exact zp b1 b2) f1.symm f2.symm
 dsimp -zeta only
 have k2':∀i,i<k->∀p,X[i]?=some p->le κ p y0:=λi hi p e=>lU (k2 i hi p (by rw[atX i (by exact zn sz k1 hi)];exact e))
 have k3':∀i,k<=i->∀p,X[i]?=some p->le κ y0 p:=λi hi p e=>by
  have hl:=(List.getElem?_eq_some_iff.mp e).1
  exact lV (k3 i hi hl p (by rw[atX i hl];exact e))
 by_cases d1:X.length-k=0
 ·refine aQ (bT d1) ?_
  refine wpS_pure (same _ rfl rfl rfl e3 λp hp q hq=>?_)
  obtain⟨j,hj,ej⟩:=List.mem_iff_getElem.mp hp
  exact le_trans (k2' j (by omega) p (by rw[List.getElem?_eq_getElem hj,ej])) (leY q hq)
 refine aO (bF d1) ?_
 have keyz:(arrOf st)[u.flatten.length+k+(X.length-k)-1]?=some xz:=by
  rw[(yc (f:=u.flatten.length) k1).resolve_right (λz=>by rw[z]at xl;exact absurd xl (by decide)),atX _ (by exact zm xl sz),hxz]
 refine wpS_bind (aZ keyz ?_)
 have hkz:Hk κ xz:=ha' xz (by rw[Array.mem_toList_iff];exact Array.mem_of_getElem? keyz)
 refine wpS_bind (fm (a:=arrOf st) (base:=u.flatten.length+X.length) (n:=Y.length) (hint:=Y.length-1) hL (by exact kind) hkz ha' (by exact zk sz) (λi j p q b1 b2 b3 c1 c2=>?_) (by exact qD yl) λm m1 m2 m3=>?_)
 ·have f1:=atY (i-(u.flatten.length+X.length)) (by omega)
  have f2:=atY (j-(u.flatten.length+X.length)) (by omega)
  rw[show u.flatten.length+X.length+(i-(u.flatten.length+X.length))=i by omega,c1]at f1
  rw[show u.flatten.length+X.length+(j-(u.flatten.length+X.length))=j by omega,c2]at f2
  exact pwi sy (show i-(u.flatten.length+X.length)<=j-(u.flatten.length+X.length) by omega) f1.symm f2.symm
 dsimp -zeta only
 have m2':∀i,i<m->∀p,Y[i]?=some p->le κ p xz:=λi hi p e=>lT (m2 i hi p (by rw[atY i (by exact vW m1 hi)];exact e))
 have m3':∀i,m<=i->∀p,Y[i]?=some p->le κ xz p:=λi hi p e=>by
  have hl:=(List.getElem?_eq_some_iff.mp e).1
  exact lW (m3 i hi hl p (by rw[atY i hl];exact e))
 by_cases d2:m=0
 ·refine aQ (bT d2) ?_
  refine wpS_pure (same _ rfl rfl rfl e3 λp hp q hq=>?_)
  obtain⟨j,hj,ej⟩:=List.mem_iff_getElem.mp hq
  exact le_trans (leX p hp) (m3' j (by exact zj d2) q (by rw[List.getElem?_eq_getElem hj,ej]))
 refine aO (bF d2) ?_
 extract_lets x y jp
 have ex:x.toList=X.drop k:=by
  show ((arrOf st).extract (u.flatten.length+k) (u.flatten.length+X.length)).toList=_
  rw[show u.flatten.length+X.length=(u.flatten.length+k)+(X.length-k) by omega,iq,earr,<-List.drop_drop,List.drop_left,List.drop_append_of_le_length (by exact wR k1),List.take_append_of_le_length (by rw[List.length_drop];exact om1),List.take_of_length_le (by rw[List.length_drop];exact om1)]
 have ey:y.toList=Y.take m:=by
  show ((arrOf st).extract (u.flatten.length+X.length) (u.flatten.length+X.length+m)).toList=_
  rw[iq,earr,<-List.drop_drop,List.drop_left,List.drop_left,List.take_append_of_le_length m1]
 have zx:x.size=X.length-k:=by rw[<-Array.length_toList,ex,List.length_drop]
 have zy:y.size=m:=by rw[<-Array.length_toList,ey,List.length_take];omega
 have atx:∀{i p},x[i]?=some p->X[k+i]?=some p:=λ{i p} e=>by rw[<-Array.getElem?_toList,ex,List.getElem?_drop]at e;exact e
 have aty:∀{i p},y[i]?=some p->Y[i]?=some p:=λ{i p} e=>by
  have hl:=(Array.getElem?_eq_some_iff.mp e).1
  rw[<-Array.getElem?_toList,ey,List.getElem?_take,if_pos (by exact wZ zy hl)]at e
  exact e
 have inX:∀p∈x.toList,∃i,k<=i/\X[i]?=some p:=λp hp=>by
  obtain⟨i,hi,ei⟩:=List.mem_iff_getElem.mp hp
  exact⟨k+i,by exact sF,atx (by rw[<-Array.getElem?_toList,List.getElem?_eq_getElem hi,ei])⟩
 have inY:∀p∈y.toList,∃i,i<m/\Y[i]?=some p:=λp hp=>by
  obtain⟨i,hi,ei⟩:=List.mem_iff_getElem.mp hp
  rw[Array.length_toList]at hi
  exact⟨i,by exact wZ zy hi,aty (by rw[<-Array.getElem?_toList,List.getElem?_eq_getElem (by rw[Array.length_toList];exact hi),ei])⟩
 have mX:∀{p i},X[i]?=some p->p∈X:=λe=>List.mem_of_getElem? e
 have hx:∀p∈x.toList,Hk κ p:=λp hp=>by
  obtain⟨i,_,e⟩:=inX p hp
  exact ha' p (by rw[earr];simp[List.mem_of_getElem? e])
 have hy:∀p∈y.toList,Hk κ p:=λp hp=>by
  obtain⟨i,_,e⟩:=inY p hp
  exact ha' p (by rw[earr];simp[List.mem_of_getElem? e])
 have ssx:x.toList.Pairwise (le κ):=by rw[ex];exact sx.sublist (List.drop_sublist _ _)
 have ssy:y.toList.Pairwise (le κ):=by rw[ey];exact sy.sublist (List.take_sublist _ _)
 have first:∀p∈x.toList,∀q,y[0]?=some q->le κ q p:=λp hp q hq=>by
  obtain⟨i,hi,e⟩:=inX p hp
  have:=aty hq
  rw[hy0]at this
  cases this
  exact k3' i hi p e
 have last:∀q∈y.toList,∀p,x[x.size-1]?=some p->le κ q p:=λq hq p hp=>by
  obtain⟨i,hi,e⟩:=inY q hq
  have:=atx hp
  rw[yb k1 d1 zx,hxz]at this
  cases this
  exact m2' i hi q e
 refine fW (λz:Array Keyed=>jp z) (λz st'=>Gs (setPending st (((pendingOf st).setIfInBounds u.length (u.flatten.length,X.length+Y.length,p1)).eraseIdxIfInBounds (u.length+1))) st'/\Srt κ (x.toList++y.toList) z.toList) (λz st1 hz=>?_) (λJ=>?_)
 ·obtain⟨g,so⟩:=hz
  refine wpS_bind (wpS_modify ?_)
  refine wpS_bind (wpS_get ?_)
  have f1:failedOf st1=none:=g.fail.trans fail
  have lz:z.toList.length=(X.length-k)+m:=by rw[so.1.length_eq,List.length_append,Array.length_toList,Array.length_toList,zx,zy]
  have ar:(List.foldl (λa (x:Keyed × Nat)=>a.setIfInBounds (u.flatten.length+k+x.snd) x.fst) (arrOf st1) z.toList.zipIdx).toList=u.flatten++((X.take k++(z.toList++Y.drop m))++(v.flatten++rest)):=by
   rw[mM (u.flatten.length+k) z.toList 0 (arrOf st1) (u.flatten++X.take k) (X.drop k++Y.take m) (Y.drop m++(v.flatten++rest)) ?_ ?_ ?_]
   ·simp only[List.append_assoc]
   ·rw[show arrOf st1=arrOf st from g.arr,earr]
    conv=>lhs;rw[<-List.take_append_drop k X,<-List.take_append_drop m Y]
    simp only[List.append_assoc]
   ·rw[List.length_append,List.length_take];exact zi sz k1
   ·rw[lz,List.length_append,List.length_drop,List.length_take];exact zh m1 zy
  have pz:(X.take k++(z.toList++Y.drop m)).Perm (X++Y):=by
   conv=>rhs;rw[<-List.take_append_drop k X,<-List.take_append_drop m Y]
   rw[List.append_assoc]
   refine List.Perm.append_left _ ?_
   rw[<-List.append_assoc]
   refine List.Perm.append_right _ ?_
   rw[<-ex,<-ey]
   exact so.1
  have mz:∀p∈z.toList,(∃i,k<=i/\X[i]?=some p)\/∃i,i<m/\Y[i]?=some p:=λp hp=>by
   rcases List.mem_append.mp (so.1.mem_iff.mp hp) with e|e
   ·exact .inl (inX p e)
   ·exact .inr (inY p e)
  have tk:∀p∈X.take k,∃i,i<k/\X[i]?=some p:=λp hp=>by
   obtain⟨i,hi,ei⟩:=List.mem_iff_getElem.mp hp
   have:=List.getElem?_eq_getElem hi
   rw[ei,List.getElem?_take]at this
   rw[List.length_take]at hi
   rw[if_pos (by omega)]at this
   exact⟨i,by omega,this⟩
  have dm:∀p∈Y.drop m,∃i,m<=i/\Y[i]?=some p:=λp hp=>by
   obtain⟨i,hi,ei⟩:=List.mem_iff_getElem.mp hp
   have:=List.getElem?_eq_getElem hi
   rw[ei,List.getElem?_drop]at this
   exact⟨m+i,by exact sF,this⟩
  have sz':(X.take k++(z.toList++Y.drop m)).Pairwise (le κ):=by
   refine List.pairwise_append.mpr ⟨sx.sublist (List.take_sublist _ _),List.pairwise_append.mpr ⟨so.2,sy.sublist (List.drop_sublist _ _),λp hp q hq=>?_⟩,λp hp q hq=>?_⟩
   ·obtain⟨j,hj,ej⟩:=dm q hq
    rcases mz p hp with⟨i,hi,ei⟩|⟨i,hi,ei⟩
    ·exact le_trans (leX p (mX ei)) (m3' j hj q ej)
    ·exact pwi sy (by exact zg zy hj hi) ei ej
   ·obtain⟨i,hi,ei⟩:=tk p hp
    rcases List.mem_append.mp hq with e|e
    ·rcases mz q e with⟨j,hj,ej⟩|⟨j,hj,ej⟩
     ·exact pwi sx (by exact ze hi hj) ei ej
     ·exact le_trans (k2' i hi p ei) (leY q (List.mem_of_getElem? ej))
    ·obtain⟨j,hj,ej⟩:=dm q e
     exact le_trans (k2' i hi p ei) (leY q (List.mem_of_getElem? ej))
  have fin:∀st',arrOf st'=List.foldl (λa (x:Keyed × Nat)=>a.setIfInBounds (u.flatten.length+k+x.snd) x.fst) (arrOf st1) z.toList.zipIdx->kindOf st'=kindOf st1->failedOf st'=failedOf st1->pendingOf st'=pendingOf st1->Q true st':=λst' h1 h2 h3 h4=>by
   refine h (X.take k++(z.toList++Y.drop m)) st' (by rw[pz.length_eq,List.length_append]) ⟨?_,?_,λr hr=>?_,?_,h2.trans (g.kind.trans kind),h3.trans f1⟩
   ·rw[h1,ar];simp
   ·refine Array.Perm.trans ?_ perm
    rw[Array.perm_iff_toList_perm,h1,ar,earr]
    refine List.Perm.append_left _ ?_
    rw[<-List.append_assoc X]
    exact List.Perm.append_right _ pz
   ·rcases List.mem_append.mp hr with e|e
    ·exact ok r (by simp[e])
    rcases List.mem_cons.mp e with e|e
    ·subst e
     refine⟨λz0=>?_,sz'⟩
     have:=pz.length_eq
     rw[z0,List.length_append]at this
     simp at this
     omega
    ·exact ok r (by simp[e])
   ·rw[h4,show pendingOf st1=_ from g.pend]
    rw[f_,Nat.zero_add]
    show _=_++(u.flatten.length,(X.take k++(z.toList++Y.drop m)).length)::eG (u.flatten.length+(X.take k++(z.toList++Y.drop m)).length) v
    rw[pz.length_eq,List.length_append,<-Nat.add_assoc]
    exact e3
  refine wpS_pure ?_
  show Q (failedOf st1).isNone (setArr st1 (List.foldl (λa (x:Keyed × Nat)=>a.setIfInBounds (u.flatten.length+k+x.snd) x.fst) (arrOf st1) z.toList.zipIdx))
  rw[show (failedOf st1).isNone=true by rw[f1];rfl]
  exact fin _ rfl rfl rfl rfl
 by_cases d3:X.length-k<=m
 ·refine aQ d3 ?_
  refine wpS_bind (mf hL (by exact kind) hx hy (by omega) (by omega) ⟨by simp,List.Pairwise.nil,ssx,ssy,λp hp=>(nomatch hp),λp hp=>(nomatch hp),λq hq l hl=>last q hq l ?_⟩ first λr st' g so=>J r st' ⟨g,so⟩)
  rw[List.getLast?_eq_getElem?,Array.getElem?_toList,Array.length_toList]at hl
  exact hl
 ·refine aO d3 ?_
  exact wpS_bind (mh hL (by exact kind) hx hy (by omega) (by omega) ssx ssy first last λr st' g so=>J r st' ⟨g,so⟩)
end
section
variable {xs a₀:Array Keyed}
theorem uf {lo n:Nat} (h:Up κ xs lo n) (hn:lo+n<=xs.size):((xs.toList.drop lo).take n).Pairwise (le κ):=by
 rw[List.pairwise_iff_getElem]
 intro i j hi hj hij
 rw[List.length_take,List.length_drop,Array.length_toList]at hi hj
 have at_:∀(m:Nat) (hm:m<((xs.toList.drop lo).take n).length),kv κ ((xs.toList.drop lo).take n)[m]=KK κ xs (lo+m):=λm hm=>by
  have e:=List.getElem?_eq_getElem hm
  rw[List.length_take,List.length_drop,Array.length_toList]at hm
  rw[List.getElem?_take,if_pos (by exact vV hm),List.getElem?_drop,Array.getElem?_toList]at e
  exact(tj e).symm
 unfold le
 rw[at_,at_]
 exact h i j (by exact sI hij) (by exact vV hj)
variable {rs:List (List Keyed)} {st st2:SortSt}
theorem mO {rest:List Keyed} (I:RI κ kd a₀ st rs rest):(pendingOf st).size=rs.length:=by
 have:=congrArg List.length I.pend
 rwa [List.length_map,mS,Array.length_toList]at this
theorem rM {rs:List (List Keyed)} {i:Nat} (h:i+1<rs.length):∃u X Y v,rs=u++X::Y::v/\u.length=i:=by
 refine⟨rs.take i,rs[i],rs[i+1],rs.drop (i+2),?_,by rw[List.length_take];exact zd h⟩
 rw[<-List.drop_eq_getElem_cons,<-List.drop_eq_getElem_cons,List.take_append_drop]
theorem RI.seg {rest:List Keyed} (I:RI κ kd a₀ st rs rest) (g:Sg rs.flatten.length st st2):RI κ kd a₀ st2 rs ((arrOf st2).toList.drop rs.flatten.length):=by
 refine⟨?_,g.perm.trans I.perm,I.ok,by rw[g.pend];exact I.pend,g.kind.trans I.kind,g.fail.trans I.fail⟩
 have:(arrOf st2).toList.take rs.flatten.length=rs.flatten:=by
  refine List.ext_getElem? λi=>?_
  rw[List.getElem?_take]
  split
  ·rename_i hi
   rw[Array.getElem?_toList,g.head i hi,<-Array.getElem?_toList,I.arr,List.getElem?_append_left hi]
  ·rename_i hi
   rw[List.getElem?_eq_none (by exact om2 hi)]
 conv=>lhs;rw[<-List.take_append_drop rs.flatten.length (arrOf st2).toList]
 rw[this]
variable {ps:Array (Nat × Nat × Nat)}
theorem RI.power {rest:List Keyed} (I:RI κ kd a₀ st rs rest) (h:ps.toList.map (λp=>(p.1,p.2.1))=(pendingOf st).toList.map (λp=>(p.1,p.2.1))):RI κ kd a₀ (setPending st ps) rs rest :=
 ⟨I.arr,I.perm,I.ok,h.trans I.pend,I.kind,I.fail⟩
theorem ow {i pw:Nat}:(ps.modify i λx=>match x with|(st,len,_)=>(st,len,pw)).toList.map (λp=>(p.1,p.2.1))=ps.toList.map (λp=>(p.1,p.2.1)):=by
 refine List.ext_getElem? λj=>?_
 rw[List.getElem?_map,List.getElem?_map,Array.getElem?_toList,Array.getElem?_toList,Array.getElem?_modify]
 split
 ·cases ps[j]? with
  | none=>rfl
  | some p=>rfl
 ·rfl
theorem rq (hL:ic κ kd prog w A s) {st:SortSt} {a₀:Array Keyed} {Q:Unit->SortSt->Prop} (ha:∀p∈a₀.toList,Hk κ p) (I:RI κ kd a₀ st [] a₀.toList)
  (h:∀st',(arrOf st').Perm a₀->failedOf st'=none->(arrOf st').toList.Pairwise (le κ)->Q () st'):wpS (model prog w) A E s sortRuns' Q st:=by
 have ha2:∀{st:SortSt} {rs:List (List Keyed)} {rest:List Keyed},RI κ kd a₀ st rs rest->∀p∈(arrOf st).toList,Hk κ p:=λI p hp=>ha p ((Array.perm_iff_toList_perm.mp I.perm).mem_iff.mp hp)
 have sz:∀{st:SortSt} {rs:List (List Keyed)} {rest:List Keyed},RI κ kd a₀ st rs rest->(arrOf st).size=a₀.size/\a₀.size=rs.flatten.length+rest.length:=λI=>by
  have:=I.perm.size_eq
  refine⟨this,?_⟩
  rw[<-this,<-Array.length_toList,I.arr,List.length_append]
 unfold sortRuns'
 refine wpS_bind (wpS_get ?_)
 extract_lets szv mr lo0
 have ez:szv=a₀.size:=(sz I).1
 clear_value szv mr
 subst ez
 refine wpS_bind (wpS_mono (wpS_forRange (I:=λx c st'=>∃rs rest,c=(none,rs.flatten.length)/\RI κ kd a₀ st' rs rest/\(x<=rs.flatten.length\/rest=[])) (Q:=λc st'=>∃rs lo,c=(none,lo)/\RI κ kd a₀ st' rs []) ?step ?fin ⟨[],_,rfl,I,.inl (Nat.zero_le _)⟩) ?post)
 case fin =>
  rintro c st' ⟨rs,rest,rfl,J,o⟩
  have:=(sz J).2
  have e:rest=[]:=by
   rcases o with o|o
   ·exact List.eq_nil_of_length_eq_zero (by exact zc this o)
   ·exact o
  subst e
  exact⟨rs,_,rfl,J⟩
 case step =>
  rintro x c st' _ hx ⟨rs,rest,rfl,J,o⟩
  have zz:=(sz J).2
  have zs:=(sz J).1
  generalize hlo:rs.flatten.length=lo at *
  by_cases c1:lo>=a₀.size
  ·show wpS _ _ _ _ (if lo>=a₀.size then _ else _) _ _
   refine aQ c1 ?_
   have e:rest=[]:=List.eq_nil_of_length_eq_zero (by exact zb zs zz c1)
   subst e
   exact wpS_pure ⟨rs,_,rfl,J⟩
  show wpS _ _ _ _ (if lo>=a₀.size then _ else _) _ _
  refine aO c1 ?_
  have xlo:x<=lo:=by
   rcases o with o|o
   ·exact o
   ·subst o;simp at zz;exact za zs c1 zz
  refine wpS_bind (qj (lo:=lo) (nrem:=a₀.size-lo) hL J.kind (ha2 J) (by exact y_ zs zz c1) (by exact y9 zs zz c1) λm st1 g1 m1 m2 up=>?_)
  dsimp -zeta only
  extract_lets n jp
  refine fW (λz:Nat=>jp () z) (λz st2=>Sg lo st' st2/\1<=z/\lo+z<=a₀.size/\Up κ (arrOf st2) lo z) (λn st2 hz=>?_) (λJJ=>?_)
  ·obtain⟨g2,n1,n2,up2⟩:=hz
   have J2:=J.seg (by rw[hlo];exact g2)
   rw[hlo]at J2
   have z2:=(sz J2).2
   have up3:=uf up2 (by rw[(sz J2).1];exact n2)
   generalize hr2:(arrOf st2).toList.drop lo=rest2 at J2 up3 z2
   rw[hlo]at z2
   refine wpS_bind (wpS_get ?_)
   extract_lets ln jp2
   refine fW (λ_:Unit=>jp2 ()) (λ_ st3=>∃rs3,RI κ kd a₀ st3 rs3 rest2/\rs3.flatten.length=lo) (λ_ st3 hz=>?_) (λJP=>?_)
   ·obtain⟨rs3,J3,l3⟩:=hz
    refine wpS_bind (wpS_modify ?_)
    refine wpS_pure ⟨rs3++[rest2.take n],rest2.drop n,?_,⟨?_,J3.perm,λr hr=>?_,?_,J3.kind,J3.fail⟩,.inl ?_⟩
    ·have:(rs3++[rest2.take n]).flatten.length=lo+n:=by rw[List.flatten_append,List.length_append,l3];simp;omega
     rw[this]
    ·rw[List.flatten_append]
     show (arrOf st3).toList=_
     rw[J3.arr]
     simp
    ·rcases List.mem_append.mp hr with e|e
     ·exact J3.ok r e
     ·have e:r=rest2.take n:=by simpa using e
      subst e
      refine⟨λz0=>?_,up3⟩
      have:=congrArg List.length z0
      rw[List.length_take,List.length_nil]at this
      omega
    ·show ((pendingOf st3).push (lo,n,0)).toList.map _=_
     rw[Array.toList_push,List.map_append,J3.pend,f_,Nat.zero_add,l3]
     show _=_++[(lo,(rest2.take n).length)]
     rw[List.length_take,show min n rest2.length=n by omega]
     rfl
    ·have:(rs3++[rest2.take n]).flatten.length=lo+n:=by rw[List.flatten_append,List.length_append,l3];simp;omega
     exact y8 xlo n1 l3 this
   cases hb:(pendingOf st2).back? with
   | none=>exact JP () st2 ⟨rs,J2,hlo⟩
   | some p =>
    obtain⟨s1,l1,pw1⟩:=p
    dsimp -zeta only
    extract_lets pw
    refine wpS_bind (wpS_mono (wpS_forRange (I:=λ_ c st3=>c=(none,())/\∃rs3,RI κ kd a₀ st3 rs3 rest2/\rs3.flatten.length=lo) (Q:=λc st3=>c=(none,())/\∃rs3,RI κ kd a₀ st3 rs3 rest2/\rs3.flatten.length=lo) ?_ (λ_ _ z=>z) ⟨rfl,rs,J2,hlo⟩) ?_)
    ·rintro y c st3 _ _ ⟨rfl,rs3,J3,l3⟩
     have pl:=mO J3
     refine wpS_bind (wpS_get ?_)
     show wpS _ _ _ _ (match (if (pendingOf st3).size>1 then (pendingOf st3)[(pendingOf st3).size-2]? else none) with|some (_,_,older)=>_|x=>_) _ _
     by_cases c2:(pendingOf st3).size>1
     ·rw[if_pos c2]
      obtain⟨q,hq⟩:∃q,(pendingOf st3)[(pendingOf st3).size-2]?=some q:=⟨(pendingOf st3)[(pendingOf st3).size-2],by rw[Array.getElem?_eq_getElem]⟩
      rw[hq]
      obtain⟨q1,q2,older⟩:=q
      dsimp -zeta only
      by_cases c3:older<=pw
      ·refine aQ c3 ?_
       exact wpS_pure ⟨rfl,rs3,J3,l3⟩
      ·refine aO c3 ?_
       obtain⟨u,X,Y,v,rfl,ul⟩:=rM (rs:=rs3) (i:=(pendingOf st3).size-2) (by exact y6 pl c2)
       rw[<-ul]
       refine wpS_bind (gT hL ha J3 λZ st4 lz J4=>?_)
       refine aO Bool.false_ne_true ?_
       refine wpS_pure ⟨rfl,_,J4,?_⟩
       rw[<-l3]
       simp
       exact y3 lz
     ·rw[if_neg c2]
      exact wpS_pure ⟨rfl,rs3,J3,l3⟩
    ·rintro c st3 ⟨rfl,rs3,J3,l3⟩
     refine wpS_bind (wpS_modify ?_)
     exact JP () _ ⟨rs3,J3.power ow,l3⟩
  have z1:=g1.size
  by_cases c2:n<mr
  ·refine aQ c2 ?_
   refine wpS_bind (wpS_lift (wpAny_rule ⟨rfl,?_⟩))
   have en:n=m:=rfl
   refine wpS_bind (uc (lo:=lo) (n:=min (a₀.size-lo) mr) (ok:=m) hL (g1.kind.trans J.kind) (g1.keys (ha2 J)) (by omega) (by omega) up λst2 g2 up2=>?_)
   refine aO Bool.false_ne_true ?_
   exact JJ _ st2 ⟨g1.trans g2,by omega,by omega,up2⟩
  ·refine aO c2 ?_
   exact JJ m st1 ⟨g1,m1,by omega,up⟩
 case post =>
  rintro c st1 ⟨rs,lo,rfl,J⟩
  have zz:=(sz J).2
  have short:∀(rs:List (List Keyed)),(∀r∈rs,r≠[]/\r.Pairwise (le κ))->rs.length<=rs.flatten.length:=λrs=>by
   induction rs with
   | nil=>intro _;simp
   | cons r rs ih =>
    intro hr
    have h1:=(hr r (by simp)).1
    have h2:=ih λr' h'=>hr r' (by simp[h'])
    have:r.length≠0:=λe=>h1 (List.eq_nil_of_length_eq_zero e)
    rw[List.flatten_cons,List.length_append,List.length_cons]
    exact yZ h2 this
  have len0:=short rs J.ok
  simp only[List.length_nil,Nat.add_zero]at zz
  refine wpS_bind (wpS_mono (wpS_forRange (I:=λx c st'=>c=(none,())/\∃rs,RI κ kd a₀ st' rs []/\rs.length+x<=a₀.size+1) (Q:=λc st'=>c=(none,())/\∃rs,RI κ kd a₀ st' rs []/\rs.length<=1) ?_ ?_ ⟨rfl,rs,J,by exact yY zz len0⟩) ?_)
  ·rintro x c st' _ hx ⟨rfl,rs,J,l⟩
   have pl:=mO J
   refine wpS_bind (wpS_get ?_)
   show wpS _ _ _ _ (if (pendingOf st').size<=1 then _ else _) _ _
   by_cases c2:(pendingOf st').size<=1
   ·refine aQ c2 ?_
    exact wpS_pure ⟨rfl,rs,J,by exact yX pl c2⟩
   ·refine aO c2 ?_
    extract_lets i bf j
    have hj:j+1<rs.length:=by
     have h1:j=i-1\/j=i:=by
      show (if _ then i-1 else i)=i-1\/(if _ then i-1 else i)=i
      split
      ·exact .inl rfl
      ·exact .inr rfl
     exact x_ h1 c2 pl
    obtain⟨u,X,Y,v,rfl,ul⟩:=rM hj
    clear_value j
    subst ul
    refine wpS_bind (gT hL ha J λZ st4 lz J4=>?_)
    refine aO Bool.false_ne_true ?_
    refine wpS_pure ⟨rfl,_,J4,?_⟩
    simp only[List.length_append,List.length_cons]at l ⊢
    omega
  ·rintro c st' ⟨rfl,rs,J,l⟩
   exact⟨rfl,rs,J,by exact yW zz l⟩
  ·rintro c st' ⟨rfl,rs,J,l⟩
   refine wpS_pure (h st' J.perm J.fail ?_)
   rw[J.arr,List.append_nil]
   match rs,l,J.ok with
   | [],_,_=>exact List.Pairwise.nil
   | [r],_,ok=>simpa using(ok r (by simp)).2
end
end Tm
namespace Tm
open PySem PySem.Spec PyProof.Rows
def leV (κ:PyProof.Rows.KeyKind) (u v:Value):Prop:=le κ (u,u) (v,v)
theorem me {vs:List Value} {p:Keyed} (h:p∈vs.zip vs):p.1=p.2/\p.1∈vs:=by
 obtain⟨i,hi,e⟩:=List.mem_iff_getElem.mp h
 rw[List.getElem_zip]at e
 subst e
 exact⟨rfl,List.getElem_mem _⟩
theorem sr {κ:PyProof.Rows.KeyKind} {vs:List Value} {xs:Array Keyed} (hp:xs.Perm (pairsOf vs)) (hs:xs.toList.Pairwise (le κ)):((xs.map (·.2)).toList).Perm vs/\((xs.map (·.2)).toList).Pairwise (leV κ):=by
 have hl:xs.toList.Perm (vs.zip vs):=by rw[<-pairsOf_toList];exact Array.perm_iff_toList_perm.mp hp
 have self:∀p∈xs.toList,p.1=p.2:=λp h=>(me (hl.mem_iff.mp h)).1
 have e:vs=(vs.zip vs).map (·.2):=by
  rw[List.map_snd_zip]
  exact Nat.le_refl _
 refine⟨?_,?_⟩
 ·rw[Array.toList_map]
  conv=>rhs;rw[e]
  exact hl.map _
 ·rw[Array.toList_map,List.pairwise_map]
  refine hs.imp_of_mem λ{a b} ha hb h=>?_
  have h1:=self a ha
  have h2:=self b hb
  unfold leV le kv at *
  rw[<-h1,<-h2]
  exact h
section
variable {prog:Program} {w:World} {A:Around} {E:Value->Shared->Prop} {s:Shared}
structure Can (prog:Program) (w:World) (κ:PyProof.Rows.KeyKind) (kd:SortKind) (h:Heap) (a:Addr) (vs:List Value):Prop where
 key:∀v∈vs,∃x,κ.keyOf v=some x
 lt:∀(A:Around) (s:Shared),(∀b o,b≠a->h.get? b=some o->s.heap.get? b=some o)->ic κ kd prog w A s
 kind:2<=vs.length->∀(A:Around) (E:Value->Shared->Prop) (s:Shared) (Q:SortKind->Shared->Prop),(∀b o,b≠a->h.get? b=some o->s.heap.get? b=some o)->Q kd s->wpAny (model prog w) A (keyKind' vs.toArray) Q E s
variable {vs:List Value} {a b d:Addr}
theorem oF {κ:PyProof.Rows.KeyKind} {kd:SortKind} {n:Nat} {P:Fin->Shared->Prop} (ho:s.heap.get? a=some (seqObj "list" vs.toArray n)) (c:Can prog w κ kd s.heap a vs) (hn:vs.length<=100000)
  (h:∀out:Array Value,out.toList.Perm vs->out.toList.Pairwise (leV κ)->P (.done (.ret .none)) { s with heap:=sortedHeap s.heap a vs out }):wpAny (model prog w) A (Builtin.«list.sort» ⟨[.ref a],[]⟩) P E s:=by
 rw[list_sort_plain]
 have ha:a<s.heap.objs.size:=Heap.lt_size ho
 refine wpAny_bind (listItems_at ho rfl (wpAny_bind (listUpdate_at ho rfl ?_)))
 obtain⟨e1,ho1⟩:∃e1,(s.heap.update a (Obj.mapSeq λ_=>#[])).get? a=some (seqObj "list" #[] e1):=⟨_,get?_update_seq ho (λ_=>#[])⟩
 refine wpAny_bind (seqEpoch_at ho1 rfl (wpAny_bind (wpAny_newTuple (wpAny_bind (wpAny_newList (wpAny_holding ?_))) (by rw[sizeLine_eq];show vs.length<=_;exact vU hn))))
 have keep:∀b o,b≠a->s.heap.get? b=some o->(((s.heap.update a (Obj.mapSeq λ_=>#[])).push (seqObj "tuple" vs.toArray 0)).push (seqObj "list" #[] 0)).get? b=some o:=λb o hb e =>
  Heap.get?_push_of_some _ (Heap.get?_push_of_some _ ((Heap.get?_update_other _ _ (Ne.symm hb)).trans e))
 have ho6:(((s.heap.update a (Obj.mapSeq λ_=>#[])).push (seqObj "tuple" vs.toArray 0)).push (seqObj "list" #[] 0)).get? a=some (seqObj "list" #[] e1):=Heap.get?_push_of_some _ (Heap.get?_push_of_some _ ho1)
 show wpAny (model prog w) A _ P E { s with heap:=((s.heap.update a (Obj.mapSeq λ_=>#[])).push (seqObj "tuple" vs.toArray 0)).push (seqObj "list" #[] 0) }
 dsimp only
 have zs:vs.toArray.size=vs.length:=by simp
 by_cases c2:vs.toArray.size<2
 ·rw[if_pos c2,if_pos c2]
  refine wpAny_bind (wpAny_pure ?_)
  rw[StateT.run_pure]
  refine wpAny_bind (wpAny_pure (wpAny_bind (seqEpoch_at ho6 rfl (wpAny_bind (listUpdate_at ho6 rfl ?_ (hsz2:=by rw[Array.size_map];show (pairsOf vs).size<=_;rw[pairsOf_size,sizeLine_eq];exact yV hn zs c2))))))
  simp only[bne_self_eq_false,Bool.false_eq_true,if_false]
  have sh:(pairsOf vs).toList.Pairwise (le κ):=by
   rw[pairsOf_toList]
   match vs,zs,c2 with
   | [],_,_=>exact List.Pairwise.nil
   | [v],_,_=>exact List.pairwise_singleton _ _
   | v::u::r,zs,c2=>exact absurd c2 (by simp)
  obtain⟨p1,p2⟩:=sr (Array.Perm.refl _) sh
  exact wpAny_pure (h _ p1 p2)
 ·rw[if_neg c2,if_neg c2]
  refine wpAny_bind (c.kind (by exact yU hn zs c2) _ _ _ _ keep ?_)
  refine wpAny_bind (wpAny_mono (rq (κ:=κ) (kd:=kd) (a₀:=pairsOf vs) (st:=SortSt.mk' kd (vs.toArray.zip vs.toArray) #[] 7 none) (Q:=λ_ st'=>(arrOf st').Perm (pairsOf vs)/\failedOf st'=none/\(arrOf st').toList.Pairwise (le κ))
   (c.lt _ _ keep) (λp hp=>?_) ⟨rfl,Array.Perm.refl _,λr hr=>(nomatch hr),rfl,rfl,rfl⟩ λst' a1 a2 a3=>⟨a1,a2,a3⟩) ?_ λ_ _ e=>e)
  ·rw[pairsOf_toList]at hp
   exact c.key _ (me hp).2
  rintro⟨⟨⟩,st'⟩ s' ⟨rfl,hp,hf,hs⟩
  dsimp only
  refine wpAny_bind (seqEpoch_at ho6 rfl (wpAny_bind (listUpdate_at ho6 rfl ?_ (hsz2:=by refine Nat.le_trans (Nat.le_of_eq ((Array.size_map ..).trans (hp.size_eq.trans (pairsOf_size _)))) ?_;rw[sizeLine_eq];exact yT hn zs c2))))
  rw[hf]
  simp only[bne_self_eq_false,Bool.false_eq_true,if_false]
  obtain⟨p1,p2⟩:=sr hp hs
  exact wpAny_pure (h _ p1 p2)
theorem iL {h:Heap} {out:Array Value} {o:Obj} (hb:b≠a) (e:h.get? b=some o):(sortedHeap h a vs out).get? b=some o:=by
 unfold sortedHeap
 exact(Heap.get?_update_other _ _ (Ne.symm hb)).trans (Heap.get?_push_of_some _ (Heap.get?_push_of_some _ ((Heap.get?_update_other _ _ (Ne.symm hb)).trans e)))
theorem jM {h:Heap} {vs:List Value} {out:Array Value} {n:Nat} (e:h.get? a=some (seqObj "list" vs.toArray n)):∃m,(sortedHeap h a vs out).get? a=some (seqObj "list" out m):=by
 unfold sortedHeap
 exact⟨_,get?_update_seq (Heap.get?_push_of_some _ (Heap.get?_push_of_some _ (get?_update_seq e (λ_=>#[])))) (λ_=>out)⟩
theorem kn {κ:Heap->PyProof.Rows.KeyKind} {kd:SortKind} {r:Value} {Q:Value->Shared->Prop} {G:Heap->List Value->Prop}
  (col:∀(A:Around) (E:Value->Shared->Prop) (R:List Value->Shared->Prop),A.handled=none->(∀h' tk vs,(∀b o,s.heap.get? b=some o->h'.get? b=some o)->s.heap.objs.size<=h'.objs.size->G h' vs->R vs { s with heap:=h',toks:=tk })->wpAny (model prog w) A (collect r) R E s)
  (hh:A.handled=none) (can:∀h' vs D,(∀b o,s.heap.get? b=some o->h'.get? b=some o)->G h' vs->D=h'.objs.size->vs.length<=100000/\Can prog w (κ h') kd (h'.push (seqObj "list" vs.toArray 0)) D vs)
  (h:∀D h' tk vs h1 (out:Array Value) m,(∀b o,s.heap.get? b=some o->h1.get? b=some o)->G h1 vs->(∀b o,h1.get? b=some o->h'.get? b=some o)->s.heap.objs.size<=D->h1.objs.size<=D->h'.get? D=some (seqObj "list" out m)->out.toList.Perm vs->out.toList.Pairwise (leV (κ h1))->Q (.ref D) { s with heap:=h',toks:=tk }) :
  wpAny (model prog w) A (call (.builtin "sorted") [r]) Q E s:=by
 refine Calls.call_function_entry kind_sorted plain_sorted entry_sorted (args_sorted1 _) ?_
 unfold Builtin.«sorted»
 refine wpAny_bind (m:=checkCount "sorted" 1 1 _) (wpAny_pure ?_)
 refine wpAny_bind (col A.in1 E _ hh λh1 tk vs k1 z1 g1=>?_)
 obtain⟨len,_⟩:=can h1 vs h1.objs.size k1 g1 rfl
 refine wpAny_bind (wpAny_newList ?_ (by rw[sizeLine_eq];exact vU len))
 obtain⟨_,cn⟩:=can h1 vs h1.objs.size k1 g1 rfl
 have hoL:(h1.push (seqObj "list" vs.toArray 0)).get? h1.objs.size=some (seqObj "list" vs.toArray 0):=Heap.get?_push_size _ rfl
 refine wpAny_bind (wpAny_holding (wpAny_call_entry (s:={ s with heap:=h1.push (seqObj "list" vs.toArray 0),toks:=tk }) slot_list_sort ⟨_,hoL,rfl⟩ entry_list_sort (oF hoL cn len λout p1 p2=>⟨_,rfl,?_⟩) (args_list_sort _)))
 obtain⟨m,at'⟩:=jM (vs:=vs) (out:=out) hoL
 exact wpAny_pure ⟨_,rfl,h _ _ _ vs h1 out m k1 g1 (λb o e=>iL (Nat.ne_of_lt (Heap.lt_size e)) (Heap.get?_push_of_some _ e)) z1 (Nat.le_refl _) at' p1 p2⟩
theorem tT {T:String} {r:Addr} {n:Nat} {P:Nat->Value->Prop} {OK:Heap->Prop} {R:List Value->Shared->Prop} (K:PySem.W.KdlSrc prog w T r d n P OK) (hh:A.handled=none) (ok:OK s.heap) (hn:n<=sizeLine)
  (h:∀(g:Heap) (tk:Nat) (acc:Array Value),(∀b o,s.heap.get? b=some o->g.get? b=some o)->s.heap.objs.size<=g.objs.size->PySem.ItemsOf P acc n->R acc.toList { s with heap:=g,toks:=tk }):wpAny (model prog w) A (collect (.ref r)) R E s:=by
 obtain⟨l1,l2⟩:=K.there _ ok
 unfold collect
 refine wpAny_bind (wpAny_runValue (codeAny_builtin entry_proto_collect' ?_))
 rw[Around.under_plainId PySem.F.plain_proto_collect _]
 refine wpAny_bind (wpAny_newObj_type (wpAny_pure ⟨plainId_quiet PySem.F.plain_list_iadd _,codeAny_builtin entry_list_iadd' ?_⟩))
 rw[Around.under_plainId PySem.F.plain_list_iadd _]
 refine wpAny_mono (PySem.W.kdl_extend (A:=A) (s:={ s with heap:=s.heap.push { cls:=.type "list", data:=.seq ([]:List Value).toArray } }) (R:=λq s'=>∃(g:Heap) (tk:Nat) (acc:Array Value) (c:Nat),q=.ok (.ret (.ref s.heap.objs.size))/\s'={ s with heap:=g,toks:=tk } /\
   (∀b o,s.heap.get? b=some o->g.get? b=some o)/\g.get? s.heap.objs.size=some { cls:=.type "list", dict:=none,data:=.seq acc c,slots:=#[] }/\PySem.ItemsOf P acc n)
  K hh (K.keep _ _ ok λb _ o e=>Heap.get?_push_of_some _ e) s.heap.objs.size (Nat.ne_of_gt l1) (Nat.ne_of_gt l2) (.ref s.heap.objs.size) 0 (Heap.get?_push_size _ rfl)
  (λg tk acc c k at' it=>⟨g,tk,acc,c,rfl,rfl,λb o e=>k b o (Nat.ne_of_lt (Heap.lt_size e)) (Heap.get?_push_of_some _ e),at',it⟩) hn) (λfn s' x=>?_) λe s' x=>?_
 ·cases fn with
  | done f =>
   obtain⟨g,tk,acc,c,e,rfl,k,at',it⟩:=x
   cases e
   exact wpAny_bind (wpAny_load at' (wpAny_pure (h g tk acc k (Nat.le_of_lt (Heap.lt_size at')) it)))
  | again c1 =>
   refine⟨x.1,codeAny_mono x.2 λq s2 y=>?_⟩
   obtain⟨g,tk,acc,c,rfl,rfl,k,at',it⟩:=y
   exact wpAny_bind (wpAny_load at' (wpAny_pure (h g tk acc k (Nat.le_of_lt (Heap.lt_size at')) it)))
 ·obtain⟨_,_,_,_,z,_⟩:=x
  cases z
theorem nE {h:Heap} {ss:List Str} (hS:StrsAre vs ss):Can prog w PyProof.Rows.strKind oneType' h a vs where
 key v hv:=by
  obtain⟨x,t,e⟩:=hS.all v hv
  exact⟨x.cps.toList,by rw[e]⟩
 lt A s _:=λE x y a b Q ha hb hq=>by rw[keyLt'_oneType];exact strKind_oneLt prog w A E s x y a b ha hb hq
 kind h2 A E s Q _ hq:=by
  match vs,hS,h2 with
  | v₁::v₂::rest,hS,_=>rw[keyKind_strs hS];exact wpAny_pure hq
end
end Tm
set_option maxHeartbeats 4000000
namespace L2
open PySem PySem.Spec PyProof.Rows
def Fz:HO->Prop
 | .dK _=>True
 | .dT _=>True
 | .lst _=>True
 | _=>False
def back (H:Hp) (a:Addr) (H':Hp):Hp:=λb=>if b=a then H a else H' b
variable {a b:Addr} {H H':Hp}
theorem eD:back H a H' a=H a:=if_pos rfl
theorem bw (h:b≠a):back H a H' b=H' b:=if_neg h
section
variable {X:Cx} {pins:List (Addr × Obj)} {σ σ':St} {H H':Hp} {s s':Shared} {a:Addr} {u:HO} {o:Obj}
theorem f6 (r:Rd H a u):∃v,H a=some v:=by
 rcases r with r|⟨o,r⟩ <;> exact⟨_,r⟩
theorem vG (r:Rd H a u) (f:Fz u):(∀xs,H a≠some (.tup xs))/\(∀ps,H a≠some (.tbl ps))/\(∀x,H a≠some (.own x))/\∀ob v,H a=some (.frz ob v)->v=u:=by
 rcases r with r|⟨o,r⟩
 ·refine⟨λxs z=>?_,λps z=>?_,λx z=>?_,λob v z=>?_⟩ <;> (rw[r]at z;cases z;exact f.elim)
 ·refine⟨λxs z=>?_,λps z=>?_,λx z=>?_,λob v z=>?_⟩ <;> (rw[r]at z;cases z)
  rfl
theorem Inv.freeze (I:Inv X pins σ H s) (r:Rd H a u) (f:Fz u) (e:s.heap.get? a=some o):Inv X pins σ (upd H a (.frz o u)) s:=by
 obtain⟨v,hv⟩:=f6 r
 obtain⟨n1,n2,n3,n4⟩:=vG r f
 have ne:∀{b},H b=none->b≠a:=λh z=>by rw[z,hv]at h;cases h
 have ok:=r.ok I.hok
 refine⟨I.ok,I.os,I.bare,⟨I.base.keep,I.base.slot,λb ob q n hx=>?_,I.base.there,λb xs q=>?_,λb ob w q=>?_,λb ps q=>?_⟩,I.loc,I.cell,?_,λx c h=>?_,λp hp=>?_,λb w q=>?_,I.len⟩
 ·have:=I.base.free b ob q n hx
  rw[aj (ne this)];exact this
 ·have:=I.base.tups b xs q
  rw[aj (λz=>n1 xs (by rw[<-z];exact this))];exact this
 ·have z:=I.base.frzs b ob w q
  by_cases hb:b=a
  ·subst hb
   have ew:=n4 ob w z
   subst ew
   obtain⟨e1,_⟩:=I.hok b _ z
   rw[e]at e1
   cases e1
   exact ag
  ·rw[aj hb];exact z
 ·obtain⟨more,z⟩:=I.base.tbls b ps q
  exact⟨more,by rw[aj (λy=>n2 _ (by rw[<-y];exact z))];exact z⟩
 ·rw[aj (ne I.free)];exact I.free
 ·rw[aj (ne (I.freeC x c h))];exact I.freeC x c h
 ·obtain⟨p1,p2,p3,p4,p5⟩:=I.pin p hp
  exact⟨p1,by rw[aj (ne p2)];exact p2,p3,p4,p5⟩
 ·have st:∀{b w},bo X.prog X.w H s.heap b w->bo X.prog X.w (upd H a (.frz o u)) s.heap b w:=λh=>h.stay (λ_ _ _ q=>q) (λd q=>by rw[aj (λz=>n3 _ (by rw[<-z];exact q))];exact q) λd xs q=>by rw[aj (λz=>n1 _ (by rw[<-z];exact q))];exact q
  by_cases hb:b=a
  ·subst hb
   rw[ag]at q
   cases q
   exact⟨e,st ok⟩
  ·rw[aj hb]at q
   exact st (I.hok b w q)
theorem Inv.thaw (I:Inv X pins σ H s) (r:Rd H a u) (f:Fz u) (e:s.heap.get? a=some o) (J:Inv X pins σ' H' s') (h':H' a=some (.frz o u)):Inv X pins σ' (back H a H') s':=by
 obtain⟨v,hv⟩:=f6 r
 obtain⟨n1,n2,n3,n4⟩:=vG r f
 have ne:∀{b},H' b=none->b≠a:=λh z=>by rw[z,h']at h;cases h
 have ok:=J.hok a _ h'
 refine⟨J.ok,J.os,J.bare,⟨J.base.keep,J.base.slot,λb ob q n hx=>?_,J.base.there,λb xs q=>?_,λb ob w q=>?_,λb ps q=>?_⟩,J.loc,J.cell,?_,λx c h=>?_,λp hp=>?_,λb w q=>?_,J.len⟩
 ·have:=J.base.free b ob q n hx
  rw[bw (ne this)];exact this
 ·have:=J.base.tups b xs q
  rw[bw (λz=>by rw[z,h']at this;cases this)];exact this
 ·by_cases hb:b=a
  ·subst hb
   rw[eD]
   exact I.base.frzs b ob w q
  ·rw[bw hb];exact J.base.frzs b ob w q
 ·obtain⟨more,z⟩:=J.base.tbls b ps q
  exact⟨more,by rw[bw (λy=>by rw[y,h']at z;cases z)];exact z⟩
 ·rw[bw (ne J.free)];exact J.free
 ·rw[bw (ne (J.freeC x c h))];exact J.freeC x c h
 ·obtain⟨p1,p2,p3,p4,p5⟩:=J.pin p hp
  exact⟨p1,by rw[bw (ne p2)];exact p2,p3,p4,p5⟩
 ·have st:∀{b w},bo X.prog X.w H' s'.heap b w->bo X.prog X.w (back H a H') s'.heap b w:=λh=>h.stay (λ_ _ _ q=>q) (λd q=>by rw[bw (λz=>by rw[z,h']at q;cases q)];exact q) λd xs q=>by rw[bw (λz=>by rw[z,h']at q;cases q)];exact q
  by_cases hb:b=a
  ·subst hb
   rw[eD]at q
   rcases r with r|⟨o2,r⟩
   ·rw[r]at q
    cases q
    exact st ok.2
   ·obtain⟨e2,_⟩:=I.hok b _ r
    rw[e]at e2
    cases e2
    rw[r]at q
    cases q
    exact⟨ok.1,st ok.2⟩
  ·rw[bw hb]at q
   exact st (J.hok b w q)
def vk (D:Ends) (H:Hp) (a:Addr) (o:Obj) (u:HO):Ends where
 nx:=λσ' H'=>H' a=some (.frz o u)/\D.nx σ' (back H a H')
 bk:=λσ' H'=>H' a=some (.frz o u)/\D.bk σ' (back H a H')
 ct:=λσ' H'=>H' a=some (.frz o u)/\D.ct σ' (back H a H')
 rt:=λv H'=>H' a=some (.frz o u)/\D.rt v (back H a H')
def xG (t:TS):TS:=λD σ H=>∃a u,Rd H a u/\Fz u/\∀o,t (vk D H a o u) σ (upd H a (.frz o u))
theorem rW {st:Stmt} {t:TS} (h:PS X st t):PS X st (xG t):=by
 intro pins s σ H D I q
 obtain⟨a,u,r,f,q⟩:=q
 obtain⟨v,hv⟩:=f6 r
 obtain⟨o,e⟩:∃o,s.heap.get? a=some o:=by
  rcases r with r|⟨o,r⟩
  ·have:=(I.hok a _ r)
   cases u with
   | lst xs=>obtain⟨_,_,_,_,e⟩:=this;exact⟨_,e⟩
   | dK kvs=>obtain⟨_,_,_,_,o,_,_,e,_⟩:=this;exact⟨_,e⟩
   | dT kvs=>obtain⟨_,_,_,_,o,_,_,e,_⟩:=this;exact⟨_,e⟩
   | _=>exact f.elim
  ·exact⟨o,(I.hok a _ r).1⟩
 refine wpAny_mono (h pins s σ _ _ (I.freeze r f e) (q o)) (λfl s' z=>?_) λ_ _ z=>z
 cases fl with
 | next=>obtain⟨σ',H',J,h1,h2⟩:=z;exact⟨σ',_,I.thaw r f e J h1,h2⟩
 | brk=>obtain⟨σ',H',J,h1,h2⟩:=z;exact⟨σ',_,I.thaw r f e J h1,h2⟩
 | cont=>obtain⟨σ',H',J,h1,h2⟩:=z;exact⟨σ',_,I.thaw r f e J h1,h2⟩
 | ret w=>obtain⟨v,σ',H',J,rv,h1,h2⟩:=z;exact⟨v,σ',_,I.thaw r f e J h1,rv,h2⟩
def vt (t:TE):TE:=λσ H Q=>∃a u,Rd H a u/\Fz u/\∀o,t σ (upd H a (.frz o u)) λv H'=>H' a=some (.frz o u)/\Q v (back H a H')
theorem sm {ex:Expr} {t:TE} (h:PE X ex t):PE X ex (vt t):=by
 intro pins s σ H Q I q
 obtain⟨a,u,r,f,q⟩:=q
 obtain⟨o,e⟩:∃o,s.heap.get? a=some o:=by
  rcases r with r|⟨o,r⟩
  ·have:=(I.hok a _ r)
   cases u with
   | lst xs=>obtain⟨_,_,_,_,e⟩:=this;exact⟨_,e⟩
   | dK kvs=>obtain⟨_,_,_,_,o,_,_,e,_⟩:=this;exact⟨_,e⟩
   | dT kvs=>obtain⟨_,_,_,_,o,_,_,e,_⟩:=this;exact⟨_,e⟩
   | _=>exact f.elim
  ·exact⟨o,(I.hok a _ r).1⟩
 refine wpAny_mono (h pins s σ _ _ (I.freeze r f e) (q o)) (λv s' z=>?_) λ_ _ z=>z
 obtain⟨v',H',J,rv,h1,h2⟩:=z
 exact⟨v',_,I.thaw r f e J h1,rv,h2⟩
end
def Itd (a:Addr) (o:Obj) (kvs:List (Key × V)):It :=
 ⟨λi H=>H a=some (.frz o (.dK kvs))/\i<kvs.length,λi H x H'=>H'=H/\∃k v,kvs[i]?=some (k,v)/\x=kV k,λi H=>H a=some (.frz o (.dK kvs))/\kvs.length<=i⟩
theorem tq {P:Program} {w:World} {k:Key} {u:Value} (h:(bi P w).is k u=true):aS (kV k) u:=by
 rcases bx (show jk k u=true from h) with⟨i,t,rfl,rfl⟩|⟨x,t,rfl,rfl⟩
 ·exact⟨t,rfl⟩
 ·exact⟨t,rfl⟩
theorem KV.len {κ:Type} {xs:List (κ × V)} {ys:List (κ × Value)} (r:KV xs ys):xs.length=ys.length:=Paired.length r
theorem KV.get {κ:Type}:∀{xs:List (κ × V)} {ys:List (κ × Value)} {i:Nat} {k:κ} {v:V},KV xs ys->xs[i]?=some (k,v)->∃u,ys[i]?=some (k,u)/\aS v u
 | _,_,_,_,_,.nil,e=>by simp at e
 | _,(k',u)::_,0,k,v,.cons r _,e=>by
  simp at e
  subst e
  obtain⟨r1,r2⟩:=r
  have r1:k=k':=r1
  subst r1
  exact⟨u,rfl,r2⟩
 | _,_,i+1,k,v,.cons _ t,e=>by
  obtain⟨u,h1,h2⟩:=KV.get (i:=i) t (by simpa using e)
  exact⟨u,by simpa using h1,h2⟩
variable {kvs:List (Key × V)}
theorem fO {X:Cx} {pins:List (Addr × Obj)} {σ:St} {s:Shared} {o:Obj} {es:Array DictEntry} {ep:Nat} (I:Inv X pins σ H s) (h:H a=some (.frz o (.dK kvs))) (hd:o.data=.dict es ep) :
  ∃vs,KV kvs vs/\s.heap.DictAt (bi X.prog X.w) a vs ep/\(a==sysModules)=false:=by
 obtain⟨e1,z,y,vs,rel,ob,es',ep',e2,c,d,r⟩:=I.hok a _ h
 rw[e1]at e2
 cases e2
 rw[hd]at d
 cases d
 exact⟨vs,rel,⟨o,es,e1,c,hd,r⟩,y⟩
theorem qm {P:Program} {w:World} {K:PySem.W.Frag} {tg:Expr} (a it:Addr) (o:Obj) (kvs:List (Key × V)) (es:Array DictEntry) (ep:Nat) (hd:o.data=.dict es ep):Turn P w K tg (Itd a o kvs) [it] it (λi h=>h.IsKeyIter it a i kvs.length ep) where
 mem:=by simp
 obj:=λi h st b hb=>by
  have e:b=it:=by simpa using hb
  subst e
  obtain⟨ob,e,c,d⟩:=st
  exact⟨ob,e,λv z=>by rw[d]at z;cases z⟩
 keep:=λi h h' st k=>st.at λo e=>k it (by simp) o e
 item:=by
  intro X hP hw hK hc i pins s σ H E I hf st hg
  subst hP hw hK
  obtain⟨hz,hi⟩:=hg
  obtain⟨vs,rel,da,_⟩:=fO I hz hd
  obtain⟨⟨k,v⟩,hx⟩:∃p,kvs[i]?=some p:=⟨kvs[i],by simp[hi]⟩
  obtain⟨u,hu,ru⟩:=rel.get hx
  obtain⟨f0,f1,f2,f3,f4,f5⟩:=hf it (by simp)
  have st0:=st
  rw[rel.len]at st
  refine wpAny_pyNext_dict_item st da hu λkey h' hkey st' sb=>?_
  have I1:Inv X pins σ H { s with heap:=h' }:=I.turned (t':=s.toks) (λb o hb e=>(sb.2 b hb).trans e) f0 f1 f3 f4 f5
  rw[<-rel.len]at st'
  obtain⟨ob,e,c,d⟩:=id st'
  exact⟨key,rfl,tE (s:={ s with heap:=h' }) e c d (by decide) ⟨kV k,H,I1,tq hkey,⟨rfl,k,v,hx,rfl⟩,st',λb hb=>(hf b hb).1⟩⟩
 done:=by
  intro X hP hw hK hc i pins s σ H E I hf st hg
  subst hP hw hK
  obtain⟨hz,hi⟩:=hg
  obtain⟨vs,rel,da,_⟩:=fO I hz hd
  obtain⟨f0,f1,f2,f3,f4,f5⟩:=hf it (by simp)
  rw[rel.len]at st
  exact wpAny_pyNext_dict_end (I.ok.hd hc) st da (List.getElem?_eq_none (by rw[<-rel.len];exact hi)) λh' eb=>⟨rfl,I.turned (t':=s.toks) (λb o hb e=>eb b o hb e) f0 f1 f3 f4 f5⟩
 self:=λ_ _ _ _ _ st h=>wpAny_pyIter_keyiter st h
def tz (tl:TE):TI:=λσ H R=>tl σ H λx H1=>∃a o kvs,x=.ref a/\H1 a=some (.frz o (.dK kvs))/\R (Itd a o kvs) H1
section
variable {X:Cx} {tg:Expr}
theorem f9 {l:Expr} {tl:TE} (hl:PE X l tl):PI X tg l (tz tl):=by
 intro pins s σ H R I h
 refine thn (hl pins s σ H _ I h) λv s1 ⟨x,H1,I1,r1,q1⟩=>?_
 obtain⟨a,o,kvs,e,hz,q⟩:=q1
 subst e
 cases r1
 obtain⟨e1,_,_,vs,rel,ob,es,ep,e2,c,d,r⟩:=I1.hok a _ hz
 rw[e1]at e2
 cases e2
 obtain⟨vs,rel,da,hm⟩:=fO I1 hz d
 refine wpAny_pyIter_dict hm da ?_
 refine⟨s1.heap.objs.size,[s1.heap.objs.size],_,_,H1,rfl,I1.kept (t':=s1.toks) λb o e=>Heap.get?_push_of_some _ e,qm a _ o kvs es ep d,⟨_,Heap.get?_push_size _ rfl,rfl,by rw[rel.len];rfl⟩,λb hb=>?_,q⟩
 have e:b=s1.heap.objs.size:=by simpa using hb
 subst e
 exact I1.fpOk (Nat.le_refl _) (I1.hok.fresh (Nat.le_refl _))
end
theorem nt {o:Obj} {g:TG} {tb:TS} {D:Ends} {σ:St} (Pv:Nat->St->Hp->Prop) (h0:Pv 0 σ H) (hl:∀i σ H,i<=kvs.length->Pv i σ H->H a=some (.frz o (.dK kvs)))
  (hs:∀i k v σ H,kvs[i]?=some (k,v)->Pv i σ H->g (kV k) σ H λσ2 H2=>tb { D with nx:=Pv (i+1),ct:=Pv (i+1),bk:=D.nx } σ2 H2) (hd:∀σ H,Pv kvs.length σ H->D.nx σ H) :
  ∃W:Nat->Nat->St->Hp->Prop,(∃m,W 0 m σ H)/\∀i m σ H,W i m σ H ->
   ((Itd a o kvs).stop i H/\D.nx σ H)\/((Itd a o kvs).go i H/\∃N:St->Hp->Prop,(∀σ' H',N σ' H'->∃m',m'<m/\W (i+1) m' σ' H')/\∀x H',(Itd a o kvs).yld i H x H'->g x σ H' λσ2 H2=>tb { D with nx:=N,ct:=N,bk:=D.nx } σ2 H2):=by
 refine⟨λi m σ H=>m=kvs.length-i/\i<=kvs.length/\Pv i σ H,⟨kvs.length,by simp,Nat.zero_le _,h0⟩,?_⟩
 rintro i m σ H ⟨rfl,hi,p⟩
 have q:=hl i σ H hi p
 by_cases hlt:i<kvs.length
 ·refine .inr ⟨⟨q,hlt⟩,Pv (i+1),λσ' H' p'=>⟨kvs.length-(i+1),by exact om6 hlt,rfl,hlt,p'⟩,λx H' y=>?_⟩
  obtain⟨e,k,v,hk,ex⟩:=y
  subst e ex
  exact hs i k v σ _ hk p
 ·have e:i=kvs.length:=by exact om0 hi hlt
  subst e
  exact .inl ⟨⟨q,Nat.le_refl _⟩,hd σ H p⟩
def rG (td ty tx:TE):TE:=λσ H Q=>td σ H λx H1=>∃a,x=.ref a/\IsD H1 a/\ty σ H1 λy H2=>tx σ H2 λz H3=>∃kvs k,H3 a=some (.dK kvs)/\y=kV k /\
 (∀v,bh kvs k=some v->Q v H3)/\(bh kvs k=none->kvs.length<sizeLine/\Q z (upd H3 a (.dK (bI kvs k z))))
section
variable {X:Cx} {o e f:Expr} {apos cpos:Pos} {td ty tx:TE}
theorem sn (ho:PE X o td) (he:PE X e ty) (hf:PE X f tx) (m:M2 X o "setdefault" apos e f cpos):PE X (.Call (.Attribute o "setdefault" apos) [e,f] [] cpos) (rG td ty tx):=by
 intro pins s σ H Q I h
 refine wpAny_Call_method m.base m.few m.line PySem.F.plainAttrs_dict PySem.F.slot_dict_setdefault PySem.F.type_dict_setdefault (thn (ho pins s σ H _ I h) λu s1 ⟨x,H1,I1,rx,a,ex,d,q1⟩=>?_)
 subst ex
 obtain rfl:u=Value.ref a:=rx
 obtain⟨t1,t2,_⟩:=xj I1 d
 refine⟨t1,t2,?_⟩
 rw[m.trees]
 refine Calls.callWith_builtin rfl (Calls.evalArgs_plain (Calls.spliced_cons (thn (he pins s1 σ H1 _ I1 q1) λiv s2 ⟨y,H2,I2,ry,q2⟩ =>
  Calls.spliced_cons (thn (hf pins s2 σ H2 _ I2 q2) λfv s3 ⟨z,H3,I3,rz,kvs,k,ea,ey,q3,q4⟩=>Calls.spliced_nil ?_))))
 subst ey
 obtain⟨zl,hd,vs,rel,dd⟩:=tP I3.hok ea
 refine call_meetsIn PySem.F.slot_dict_setdefault dd.typeIs PySem.F.entry_dict_setdefault (PySem.F.args_dict_setdefault_3 _ _ _) (kt_meets_setdefault (bi X.prog X.w) a (jl ry) hd fv)
  ⟨vs,dd,by rw[<-rel.length];exact zl,λv' hv'=>?_,λhn h' dd' hs=>?_⟩
 ·have r:=rel.val k
  rw[hv']at r
  cases l:bh kvs k with
  | none=>rw[l]at r;exact r.elim
  | some v=>rw[l]at r;exact⟨v,H3,I3.tok _,r,q3 v l⟩
 ·have r:=rel.val k
  rw[hn]at r
  cases l:bh kvs k with
  | some v=>rw[l]at r;exact r.elim
  | none =>
   obtain⟨zl',q5⟩:=q4 l
   have he:∃q,h'.get? a=some q:=let ⟨q,_,_,hq,_⟩:=dd';⟨q,hq⟩
   have hl:(bI kvs k z).length<=sizeLine:=by
    rw[c_ z l,List.length_append]
    exact zl'
   exact⟨z,_,ir I3 (by rw[ea];exact True.intro) hs he (oP hl hd (rel.put k rz) dd'),rz,q5⟩
end
def leT (a b:Str):Prop:=¬(b.cps.toList<a.cps.toList)
theorem tf {a b:Str} (h1:leT a b) (h2:leT b a):a=b:=by
 have e:=List.le_antisymm (List.not_lt.mp h1) (List.not_lt.mp h2)
 cases a;cases b
 exact congrArg Str.mk (Array.toList_inj.mp e)
theorem iM {xs ys:List Str} (hx:xs.Pairwise leT) (hy:ys.Pairwise leT) (p:xs.Perm ys):xs=ys:=List.Perm.eq_of_pairwise (λa b _ _ h1 h2=>tf h1 h2) hx hy p
theorem nY {ts:List Str} {out:List Value}:∀{us:List Value},StrsAre us ts->out.Perm us->out.Pairwise (Tm.leV PyProof.Rows.strKind)->∃ss,StrsAre out ss/\ss.Perm ts/\ss.Pairwise leT:=λ{us} h p s=>by
 have all:∀v∈out,∃x t,v=.str x t:=λv hv=>h.all v (p.mem_iff.mp hv)
 refine⟨out.map strOf,strsAre_map out all,by rw[<-h.strs];exact p.map _,?_⟩
 rw[List.pairwise_map]
 refine s.imp_of_mem λ{a b} ha hb q=>?_
 obtain⟨x,t,rfl⟩:=all a ha
 obtain⟨y,u,rfl⟩:=all b hb
 have q:decide (y.cps.toList<x.cps.toList)=false:=q
 show ¬(y.cps.toList<x.cps.toList)
 simpa using q
theorem iD:∀{ys:List Str} {us:List Value},StrsAre us ys->aY (ys.map V.str) us
 | _,_,.nil=>.nil
 | _,_,.cons x t h=>.cons ⟨t,rfl⟩ (iD h)
theorem pf:∀{as:List Value} {ss:List Str},as.length=ss.length->(∀(j:Nat) v,as[j]?=some v->∃x t,ss[j]?=some x/\v=.str x t)->StrsAre as ss
 | [],[],_,_=>.nil
 | [],_::_,h,_=>by simp at h
 | _::_,[],h,_=>by simp at h
 | a::as,x::ss,h,f=>by
  obtain⟨y,t,e1,e2⟩:=f 0 a rfl
  cases e1
  subst e2
  exact .cons x t (pf (by simpa using h) λj v e=>by obtain⟨y,t,e1,e2⟩:=f (j+1) v (by simpa using e);exact⟨y,t,by simpa using e1,e2⟩)
section
variable {X:Cx}
def Bg (K:PySem.W.Frag) (H:Hp) (l:Addr) (ss:List Str):Prop:=SqL K H l (ss.map V.str)\/∃kvs,Rd H l (.dK kvs)/\kvs.map (·.1)=ss.map Sum.inr
def wB (K:PySem.W.Frag):List V->Hp->VK->Prop:=λxs H Q=>∃(l:Addr) (ss:List Str),xs=[.ref l]/\Bg K H l ss/\ss.length<=100000/\∀(p:Addr) (ss':List Str),H p=none->ss'.Perm ss->ss'.Pairwise leT->Q (.ref p) (upd H p (.lst (ss'.map V.str)))
theorem jy (hc:X.calm=true):dX X (.builtin "sorted") (wB X.K):=by
 intro pins s σ H xs us Q I r h
 obtain⟨l,ss,rfl,src,hz,q⟩:=h
 obtain⟨u,rfl,ru⟩:=eP r
 cases ru
 have fin:∀(D:Addr) (h':Heap) (tk:Nat) (vs:List Value) (h1:Heap) (out:Array Value) (m:Nat),(∀b o,s.heap.get? b=some o->h1.get? b=some o)->StrsAre vs ss->(∀b o,h1.get? b=some o->h'.get? b=some o)->s.heap.objs.size<=D->h1.objs.size<=D->h'.get? D=some (seqObj "list" out m)->out.toList.Perm vs->out.toList.Pairwise (Tm.leV PyProof.Rows.strKind)->EP X pins σ Q (.ref D) { s with heap:=h',toks:=tk }:=λD h' tk vs h1 out m k1 g1 k2 hle hD at' p1 p2=>by
  obtain⟨ss',so,pm,st⟩:=nY g1 p1 p2
  have lo:ss'.length=ss.length:=pm.length_eq
  exact⟨.ref D,_,I.laid (o:=.lst (ss'.map V.str)) (t':=tk) (λb o g=>k2 b o (k1 b o g)) hle ⟨by rw[List.length_map,sizeLine_eq];exact wY hz lo,out.toList,m,iD so,at'⟩,rfl,q _ ss' (I.hok.fresh hle) pm st⟩
 rcases src with hl|⟨kvs,rd,ek⟩
 ·obtain⟨its,rv,pl,_⟩:=I.list hl
  have sa:=fH rv
  have hlen:its.length=ss.length:=by rw[<-rv.length,List.length_map]
  refine Tm.kn (s:=s) (κ:=λ_=>PyProof.Rows.strKind) (kd:=oneType') (G:=λ_ vs=>StrsAre vs ss) (λA E R _ hR=>collect_list pl.isList (hR _ _ its (λb o e=>?_) (by rw[Heap.size_update,size_push'];exact Nat.le_succ _) sa) (by rw[sizeLine_eq];exact wY hz hlen)) (I.ok.hd hc) (λh' vs D k g _=>⟨by rw[g.length];exact hz,Tm.nE g⟩) fin
  exact(Heap.get?_update_other _ _ (Nat.ne_of_gt (Heap.lt_size e))).trans (Heap.get?_push_of_some _ e)
 ·obtain⟨z,hm,vs,rel,dd⟩:=gj I.hok rd
  obtain⟨ep,da⟩:=dd.dictAt
  have kl:vs.length=ss.length:=by
   have:=congrArg List.length ek
   rw[List.length_map,List.length_map]at this
   rw[<-this]
   exact(KV.len rel).symm
  refine Tm.kn (s:=s) (κ:=λ_=>PyProof.Rows.strKind) (kd:=oneType') (G:=λ_ vs=>StrsAre vs ss) (λA E R hA hR=>Tm.tT (PySem.W.kdl_dict (knd:=bi X.prog X.w) (kvs:=vs) (ep:=ep) hm) hA da (by rw[sizeLine_eq];exact wY hz kl) λh' tk acc k z it=>hR h' tk acc.toList k z ?_) (I.ok.hd hc) (λh' vs D k g _=>⟨by rw[g.length];exact hz,Tm.nE g⟩) fin
  have al:acc.toList.length=ss.length:=by rw[Array.length_toList,it.1,kl]
  have at_:∀(j:Nat) v,acc.toList[j]?=some v->∃x t,ss[j]?=some x/\v=.str x t:=λj v e=>by
   obtain⟨k,x,e1,e2⟩:=it.2 j v (by rw[<-Array.getElem?_toList];exact e)
   obtain⟨y,e3⟩:∃y,kvs[j]?=some (k,y):=by
    have hj:j<kvs.length:=by rw[KV.len rel];exact(List.getElem?_eq_some_iff.mp e1).1
    obtain⟨u,hu,_⟩:=KV.get (i:=j) (k:=kvs[j].1) (v:=kvs[j].2) rel (by rw[List.getElem?_eq_getElem hj])
    rw[e1]at hu
    cases hu
    exact⟨kvs[j].2,by rw[List.getElem?_eq_getElem hj]⟩
   have e4:=congrArg (·[j]?) ek
   simp only[List.getElem?_map,e3]at e4
   cases e5:ss[j]? with
   | none=>rw[e5]at e4;cases e4
   | some y' =>
    rw[e5]at e4
    have e6:k=Sum.inr y':=Option.some.inj e4
    subst e6
    obtain⟨t,e7⟩:=tq e2
    exact⟨y',t,rfl,e7⟩
  exact pf al at_
end
section
variable {X:Cx}
end
section
variable {X:Cx}
def pA (T:Addr):R2:=λx y H Q=>x=.ref T/\((y=.str "0" /\ Q (.str "1") H)\/(y=.str "1" /\ Q (.str "0") H))
theorem uS {T:Addr} (hT:o_ X.K T [("0", .flat (.str "1")),("1", .flat (.str "0"))]):IxR X (pA T):=by
 intro value slice pins s σ H x y v u Q I rx ry h hs
 obtain⟨e1,h⟩:=h
 subst e1
 cases rx
 have here:KTD.Here X.base s.heap T [("0", .flat (.str "1")),("1", .flat (.str "0"))]:=⟨KTD.text_of_look (get:=λa=>X.K.lookup a) (λa o e=>I.mod.kin a o e) hT,I.bk⟩
 rcases h with⟨e,q⟩|⟨e,q⟩
 ·subst e
  obtain⟨t,e⟩:=ry
  subst e
  refine KTD.item_textA here (by rfl) (by decide +kernel) ?_ hs
  have e:decide (("0" : Str) = "0")=true:=by decide +kernel
  simp only[KTD.EachL,e,if_true]
  exact λt=>⟨.str "1", H,I.tok _,⟨_,rfl⟩,q⟩
 ·subst e
  obtain⟨t,e⟩:=ry
  subst e
  refine KTD.item_textA here (by rfl) (by decide +kernel) ?_ hs
  have e:decide (("1" : Str) = "0")=false:=by decide +kernel
  simp only[KTD.EachL,e,Bool.false_eq_true,if_false]
  exact λ_ t=>⟨.str "0", H,I.tok _,⟨_,rfl⟩,q⟩
end
end L2
namespace LZ
open PySem
section
variable {prog:Program} {w:World} {A:Around} {E:Value->Shared->Prop} {s:Shared}
abbrev IsZ (h:Heap) (z TI TO:Addr) (f0:Value) (f1:Bool):Prop :=
 h.get? z=some { cls:=.type "zip", dict:=none,data:=.fields #[f0,.bool f1,.bool false,.ref TI,.ref TO],slots:=#[] }
structure Apart5 (z TI TO i1 i2 l:Addr):Prop where
 TIz:TI≠z
 TOz:TO≠z
 i1z:i1≠z
 i2z:i2≠z
 TITO:TI≠TO
 TIi1:TI≠i1
 TIi2:TI≠i2
 TOi1:TO≠i1
 TOi2:TO≠i2
 i12:i1≠i2
 lz:l≠z
 lTO:l≠TO
 li1:l≠i1
 li2:l≠i2
variable {t:Tok} {x:Str} {it z i1 i2 l a:Addr} {ty:String}
theorem gB (hty:ty = "str_ascii_iterator" \/ ty = "str_iterator") {i c:Nat} {Q:Value->Shared->Prop} (hit:s.heap.IsStrIter it ty x t i) (hx:x.cps[i]?=some c)
  (hQ:∀h',h'.IsStrIter it ty x t (i+1)->Heap.SameBut it s.heap h'->Q (.str ⟨#[c]⟩ s.toks) { s with heap:=h',toks:=s.toks+1 }) :
  wpAny (model prog w) A (Builtin.SmallTypes.nextOf (.ref it)) Q E s:=by
 rcases hty with e|e
 ·subst e;exact wpAny_nextOf_ascii_item hit hx hQ
 ·subst e;exact wpAny_nextOf_wide_item hit hx hQ
variable {Q:Option Value->Shared->Prop} {xs:Array Value}
theorem ot (hty:ty = "str_ascii_iterator" \/ ty = "str_iterator") {TI TO:Addr} {k c:Nat} {v a b:Value} (D:Apart5 z TI TO i1 i2 l)
  (hz:IsZ s.heap z TI TO .none false) (hTI:IsPair s.heap TI (.ref i1) (.ref i2)) (hTO:IsPair s.heap TO a b) (h1:s.heap.IsListIter i1 l k) (h2:s.heap.IsStrIter i2 ty x t k) (hl:s.heap.IsList l xs) (hv:xs[k]?=some v) (hc:x.cps[k]?=some c)
  (hQ:∀h',IsZ h' z TI TO (rawInt s.heap.objs.size) false->(∃a b,IsPair h' TO a b)->h'.IsListIter i1 l (k+1)->h'.IsStrIter i2 ty x t (k+1)->IsPair h' s.heap.objs.size v (.str ⟨#[c]⟩ s.toks)->h'.objs.size=s.heap.objs.size+1 ->
   (∀c o,c≠z->c≠TO->c≠i1->c≠i2->s.heap.get? c=some o->h'.get? c=some o)->Q (some (.ref s.heap.objs.size)) { s with heap:=h',toks:=s.toks+1 }) :
  wpAny (model prog w) A (pyNext (.ref z)) Q E s:=by
 have hT:s.TypeIs (.ref z) "zip" := ⟨_,hz,rfl⟩
 unfold pyNext
 refine wpAny_bind (wpAny_attempt (wpAny_callSpecial?_slot (name:=Str.ofString "__next__") hT F.slot_zip_next
  (wpAny_call_entry F.slot_zip_next hT F.entry_zip_next ?_ (F.args_zip_next_1 _))))
 show wpAny _ _ (field (.ref z) 2 >>= _) _ _ _
 refine wpAny_bind (wpAny_field hz rfl (x:=.bool false) rfl ?_)
 show wpAny _ _ (field (.ref z) 3 >>= _) _ _ _
 refine wpAny_bind (wpAny_field hz rfl (x:=.ref TI) rfl ?_)
 refine wpAny_bind (wpAny_seqItems hTI rfl ?_)
 show wpAny _ _ (Builtin.SmallTypes.ownedTupleIsFree (.ref z) >>= _) _ _ _
 refine wpAny_bind ?_
 unfold Builtin.SmallTypes.ownedTupleIsFree
 refine wpAny_bind (wpAny_field hz rfl (x:=.none) rfl (wpAny_pure ?_))
 simp only[if_true]
 refine wpAny_bind (wpAny_rule ?_)
 refine wpAny_bind (wpAny_field hz rfl (x:=.ref TO) rfl ?_)
 refine wpAny_bind (wpAny_setField_rec hz (by simp) λh₁ hz₁ hs₁=>?_)
 replace hz₁:IsZ h₁ z TI TO .ellipsis false:=hz₁
 refine wpAny_bind ?_
 simp only[List.zipIdx_cons,List.zipIdx_nil,List.forIn_cons,List.forIn_nil]
 refine wpAny_bind (wpAny_bind (wpAny_onRaise ?_))
 show wpAny _ _ (Builtin.SmallTypes.nextOf (.ref i1) >>= _) _ _ _
 refine wpAny_bind (wpAny_nextOf_list_item (h1.extBut hs₁.extBut D.i1z) (hl.extBut hs₁.extBut D.lz) hv λh₂ h1₂ hs₂=>wpAny_pure ?_)
 have hTO₂:IsPair h₂ TO a b:=hs₂.extBut _ _ D.TOi1 (hs₁.extBut _ _ D.TOz hTO)
 refine wpAny_bind (wpAny_seqItems hTO₂ rfl ?_)
 refine wpAny_bind (wpAny_updateSeq_pair hTO₂ λh₃ hTO₃ hs₃=>?_)
 replace hTO₃:IsPair h₃ TO v b:=hTO₃
 refine wpAny_bind (wpAny_letGo (wpAny_pure ?_))
 refine wpAny_bind (wpAny_bind (wpAny_onRaise ?_))
 show wpAny _ _ (Builtin.SmallTypes.nextOf (.ref i2) >>= _) _ _ _
 have h2₃:h₃.IsStrIter i2 ty x t k:=((h2.extBut hs₁.extBut D.i2z).extBut hs₂.extBut D.i12.symm).extBut hs₃.extBut D.TOi2.symm
 refine wpAny_bind (gB hty h2₃ hc λh₄ h2₄ hs₄=>wpAny_pure ?_)
 have hTO₄:IsPair h₄ TO v b:=hs₄.extBut _ _ D.TOi2 hTO₃
 refine wpAny_bind (wpAny_seqItems hTO₄ rfl ?_)
 refine wpAny_bind (wpAny_updateSeq_pair hTO₄ λh₅ hTO₅ hs₅=>?_)
 replace hTO₅:IsPair h₅ TO v (.str ⟨#[c]⟩ s.toks):=hTO₅
 refine wpAny_bind (wpAny_letGo (wpAny_pure (wpAny_pure ?_)))
 refine wpAny_bind (wpAny_seqItems hTO₅ rfl ?_)
 refine wpAny_bind (wpAny_newTuple ?_)
 have hsz:h₅.objs.size=s.heap.objs.size:=by rw[hs₅.1,hs₄.1,hs₃.1,hs₂.1,hs₁.1]
 have hz₅:IsZ h₅ z TI TO .ellipsis false:=hs₅.extBut _ _ D.TOz.symm (hs₄.extBut _ _ D.i2z.symm (hs₃.extBut _ _ D.TOz.symm (hs₂.extBut _ _ D.i1z.symm hz₁)))
 have hk₅:∀c o,c≠z->c≠TO->c≠i1->c≠i2->s.heap.get? c=some o->h₅.get? c=some o:=λc o c1 c2 c3 c4 e =>
  hs₅.extBut _ _ c2 (hs₄.extBut _ _ c4 (hs₃.extBut _ _ c2 (hs₂.extBut _ _ c3 (hs₁.extBut _ _ c1 e))))
 have h1₅:h₅.IsListIter i1 l (k+1):=((h1₂.extBut hs₃.extBut D.TOi1.symm).extBut hs₄.extBut D.i12).extBut hs₅.extBut D.TOi1.symm
 have h2₅:h₅.IsStrIter i2 ty x t (k+1):=h2₄.extBut hs₅.extBut D.TOi2.symm
 have hzlt:z<h₅.objs.size:=Heap.lt_size hz₅
 show wpAny _ _ (Builtin.SmallTypes.ownedTupleHandOut (.ref z) (.ref h₅.objs.size) >>= _) _ _ _
 refine wpAny_bind ?_
 unfold Builtin.SmallTypes.ownedTupleHandOut
 have hz₆:IsZ (h₅.push { cls:=.type "tuple", data:=.seq #[v,.str ⟨#[c]⟩ s.toks] }) z TI TO .ellipsis false:=Heap.get?_push_of_some _ hz₅
 refine wpAny_bind (wpAny_setField_rec hz₆ (by simp) λh₇ hz₇ hs₇=>?_)
 replace hz₇:IsZ h₇ z TI TO (rawInt h₅.objs.size) false:=hz₇
 refine wpAny_setField_rec hz₇ (by simp) λh₈ hz₈ hs₈=>?_
 replace hz₈:IsZ h₈ z TI TO (rawInt h₅.objs.size) false:=hz₈
 have up:∀c o,c≠z->h₅.get? c=some o->h₈.get? c=some o:=λc o c1 e=>hs₈.extBut _ _ c1 (hs₇.extBut _ _ c1 (Heap.get?_push_of_some _ e))
 have hT₈:IsPair h₈ h₅.objs.size v (.str ⟨#[c]⟩ s.toks):=hs₈.extBut _ _ (Nat.ne_of_gt hzlt) (hs₇.extBut _ _ (Nat.ne_of_gt hzlt) (Heap.get?_push_size _ rfl))
 have hz8:h₈.objs.size=h₅.objs.size+1:=by rw[hs₈.1,hs₇.1,Heap.size_push]
 rw[hsz]at hz₈ hT₈ hz8
 refine wpAny_pure ⟨_,rfl,wpAny_pure ?_⟩
 show Q (some (.ref h₅.objs.size)) _
 rw[hsz]
 exact hQ h₈ hz₈ ⟨_,_,up _ _ D.TOz hTO₅⟩ (h1₅.at λo e=>up _ o D.i1z e) (let ⟨o,e,r⟩:=h2₅;⟨o,up _ o D.i2z e,r⟩) hT₈ hz8 λc o c1 c2 c3 c4 e=>up c o c1 (hk₅ c o c1 c2 c3 c4 e)
theorem wo {o:Obj} {Q:Option Obj->Shared->Prop} (ho:s.heap.get? a=some o) (h:Q (some o) s):wpAny (model prog w) A (loadIfAlive a) Q E s:=by
 have h':Q (s.heap.get? a) s:=by rw[ho];exact h
 exact λ_ _ _=>h'
theorem oq (hty:ty = "str_ascii_iterator" \/ ty = "str_iterator") {TI TO T:Addr} {f1:Bool} {oT:Obj} {k c:Nat} {v:Value} (D:Apart5 z TI TO i1 i2 l)
  (hz:IsZ s.heap z TI TO (rawInt T) f1) (hT:s.heap.get? T=some oT) (hTI:IsPair s.heap TI (.ref i1) (.ref i2)) (h1:s.heap.IsListIter i1 l k) (h2:s.heap.IsStrIter i2 ty x t k) (hl:s.heap.IsList l xs) (hv:xs[k]?=some v) (hc:x.cps[k]?=some c)
  (hQ:∀h',IsZ h' z TI TO (rawInt T) true->h'.IsListIter i1 l (k+1)->h'.IsStrIter i2 ty x t (k+1)->IsPair h' s.heap.objs.size v (.str ⟨#[c]⟩ s.toks)->h'.objs.size=s.heap.objs.size+1 ->
   (∀c o,c≠z->c≠i1->c≠i2->s.heap.get? c=some o->h'.get? c=some o)->Q (some (.ref s.heap.objs.size)) { s with heap:=h',toks:=s.toks+1 }) :
  wpAny (model prog w) A (pyNext (.ref z)) Q E s:=by
 have hTy:s.TypeIs (.ref z) "zip" := ⟨_,hz,rfl⟩
 unfold pyNext
 refine wpAny_bind (wpAny_attempt (wpAny_callSpecial?_slot (name:=Str.ofString "__next__") hTy F.slot_zip_next
  (wpAny_call_entry F.slot_zip_next hTy F.entry_zip_next ?_ (F.args_zip_next_1 _))))
 show wpAny _ _ (field (.ref z) 2 >>= _) _ _ _
 refine wpAny_bind (wpAny_field hz rfl (x:=.bool false) rfl ?_)
 show wpAny _ _ (field (.ref z) 3 >>= _) _ _ _
 refine wpAny_bind (wpAny_field hz rfl (x:=.ref TI) rfl ?_)
 refine wpAny_bind (wpAny_seqItems hTI rfl ?_)
 show wpAny _ _ (Builtin.SmallTypes.ownedTupleIsFree (.ref z) >>= _) _ _ _
 refine wpAny_bind ?_
 unfold Builtin.SmallTypes.ownedTupleIsFree
 refine wpAny_bind (wpAny_field hz rfl (x:=rawInt T) rfl ?_)
 show wpAny _ _ (loadIfAlive ((T:Int).toNat) >>= _) _ _ _
 rw[Int.toNat_natCast]
 refine wpAny_bind (wo hT ?_)
 simp only[Option.isNone_some,Bool.false_eq_true,if_false]
 refine wpAny_bind (wpAny_field hz rfl (x:=.bool f1) rfl ?_)
 cases f1 with
 | false =>
  simp only[show (Value.bool false != Value.bool true)=true from rfl,if_true]
  refine wpAny_bind (wpAny_setField_rec hz (by simp) λh₁ hz₁ hs₁=>wpAny_pure ?_)
  replace hz₁:IsZ h₁ z TI TO (rawInt T) true:=hz₁
  simp only[Bool.false_eq_true,if_false,List.forIn_toArray,List.forIn_cons,List.forIn_nil]
  refine wpAny_bind (wpAny_bind (wpAny_bind (wpAny_holding ?_)))
  show wpAny _ _ (Builtin.SmallTypes.nextOf (.ref i1) >>= _) _ _ _
  refine wpAny_bind (wpAny_nextOf_list_item (h1.extBut hs₁.extBut D.i1z) (hl.extBut hs₁.extBut D.lz) hv λh₂ h1₂ hs₂=>wpAny_pure ?_)
  refine wpAny_pure ?_
  dsimp only
  refine wpAny_bind (wpAny_bind (wpAny_holding ?_))
  show wpAny _ _ (Builtin.SmallTypes.nextOf (.ref i2) >>= _) _ _ _
  have h2₂:h₂.IsStrIter i2 ty x t k:=(h2.extBut hs₁.extBut D.i2z).extBut hs₂.extBut D.i12.symm
  refine wpAny_bind (gB hty h2₂ hc λh₄ h2₄ hs₄=>wpAny_pure ?_)
  refine wpAny_pure (wpAny_pure ?_)
  dsimp only
  show wpAny _ _ (newTuple [v,.str ⟨#[c]⟩ s.toks] >>= _) _ _ _
  refine wpAny_bind (wpAny_newTuple ?_)
  have hsz:h₄.objs.size=s.heap.objs.size:=by rw[hs₄.1,hs₂.1,hs₁.1]
  have hz₄:IsZ h₄ z TI TO (rawInt T) true:=hs₄.extBut _ _ D.i2z.symm (hs₂.extBut _ _ D.i1z.symm hz₁)
  have hk₄:∀c o,c≠z->c≠i1->c≠i2->s.heap.get? c=some o->h₄.get? c=some o:=λc o c1 c3 c4 e=>hs₄.extBut _ _ c4 (hs₂.extBut _ _ c3 (hs₁.extBut _ _ c1 e))
  refine wpAny_pure ⟨_,rfl,wpAny_pure ?_⟩
  show Q (some (.ref h₄.objs.size)) _
  rw[hsz]
  exact hQ _ (Heap.get?_push_of_some _ hz₄) ((h1₂.extBut hs₄.extBut D.i12).at λo e=>Heap.get?_push_of_some _ e) (let ⟨o,e,r⟩:=h2₄;⟨o,Heap.get?_push_of_some _ e,r⟩) (by rw[<-hsz];exact Heap.get?_push_size _ rfl) (by rw[Heap.size_push,hsz]) λc o c1 c3 c4 e=>Heap.get?_push_of_some _ (hk₄ c o c1 c3 c4 e)
 | true =>
  simp only[show (Value.bool true != Value.bool true)=false from rfl,Bool.false_eq_true,if_false]
  refine wpAny_pure ?_
  have hz₁:IsZ s.heap z TI TO (rawInt T) true:=hz
  have hs₁:Heap.SameBut z s.heap s.heap:=.refl ..
  simp only[Bool.false_eq_true,if_false,List.forIn_toArray,List.forIn_cons,List.forIn_nil]
  refine wpAny_bind (wpAny_bind (wpAny_bind (wpAny_holding ?_)))
  show wpAny _ _ (Builtin.SmallTypes.nextOf (.ref i1) >>= _) _ _ _
  refine wpAny_bind (wpAny_nextOf_list_item (h1.extBut hs₁.extBut D.i1z) (hl.extBut hs₁.extBut D.lz) hv λh₂ h1₂ hs₂=>wpAny_pure ?_)
  refine wpAny_pure ?_
  dsimp only
  refine wpAny_bind (wpAny_bind (wpAny_holding ?_))
  show wpAny _ _ (Builtin.SmallTypes.nextOf (.ref i2) >>= _) _ _ _
  have h2₂:h₂.IsStrIter i2 ty x t k:=(h2.extBut hs₁.extBut D.i2z).extBut hs₂.extBut D.i12.symm
  refine wpAny_bind (gB hty h2₂ hc λh₄ h2₄ hs₄=>wpAny_pure ?_)
  refine wpAny_pure (wpAny_pure ?_)
  dsimp only
  show wpAny _ _ (newTuple [v,.str ⟨#[c]⟩ s.toks] >>= _) _ _ _
  refine wpAny_bind (wpAny_newTuple ?_)
  have hsz:h₄.objs.size=s.heap.objs.size:=by rw[hs₄.1,hs₂.1,hs₁.1]
  have hz₄:IsZ h₄ z TI TO (rawInt T) true:=hs₄.extBut _ _ D.i2z.symm (hs₂.extBut _ _ D.i1z.symm hz₁)
  have hk₄:∀c o,c≠z->c≠i1->c≠i2->s.heap.get? c=some o->h₄.get? c=some o:=λc o c1 c3 c4 e=>hs₄.extBut _ _ c4 (hs₂.extBut _ _ c3 (hs₁.extBut _ _ c1 e))
  refine wpAny_pure ⟨_,rfl,wpAny_pure ?_⟩
  show Q (some (.ref h₄.objs.size)) _
  rw[hsz]
  exact hQ _ (Heap.get?_push_of_some _ hz₄) ((h1₂.extBut hs₄.extBut D.i12).at λo e=>Heap.get?_push_of_some _ e) (let ⟨o,e,r⟩:=h2₄;⟨o,Heap.get?_push_of_some _ e,r⟩) (by rw[<-hsz];exact Heap.get?_push_size _ rfl) (by rw[Heap.size_push,hsz]) λc o c1 c3 c4 e=>Heap.get?_push_of_some _ (hk₄ c o c1 c3 c4 e)
theorem mU {TI TO:Addr} {f0:Value} {f1:Bool} {k:Nat} {a b:Value} (hh:A.handled=none) (D:Apart5 z TI TO i1 i2 l)
  (hz:IsZ s.heap z TI TO f0 f1) (hf:(f0=.none/\f1=false/\∃a b,IsPair s.heap TO a b)\/∃(T:Addr) (oT:Obj),f0=rawInt (T:Nat)/\s.heap.get? T=some oT) (hTI:IsPair s.heap TI (.ref i1) (.ref i2)) (h1:s.heap.IsListIter i1 l k) (hl:s.heap.IsList l xs) (hv:xs[k]?=none)
  (hQ:∀h',(∀c o,c≠z->c≠i1->s.heap.get? c=some o->h'.get? c=some o)->Q none { s with heap:=h' }):wpAny (model prog w) A (pyNext (.ref z)) Q E s:=by
 have hTy:s.TypeIs (.ref z) "zip" := ⟨_,hz,rfl⟩
 unfold pyNext
 refine wpAny_bind (wpAny_attempt (wpAny_callSpecial?_slot (name:=Str.ofString "__next__") hTy F.slot_zip_next
  (wpAny_call_entry F.slot_zip_next hTy F.entry_zip_next ?_ (F.args_zip_next_1 _))))
 show wpAny _ _ (field (.ref z) 2 >>= _) _ _ _
 refine wpAny_bind (wpAny_field hz rfl (x:=.bool false) rfl ?_)
 show wpAny _ _ (field (.ref z) 3 >>= _) _ _ _
 refine wpAny_bind (wpAny_field hz rfl (x:=.ref TI) rfl ?_)
 refine wpAny_bind (wpAny_seqItems hTI rfl ?_)
 show wpAny _ _ (Builtin.SmallTypes.ownedTupleIsFree (.ref z) >>= _) _ _ _
 refine wpAny_bind ?_
 unfold Builtin.SmallTypes.ownedTupleIsFree
 refine wpAny_bind (wpAny_field hz rfl (x:=f0) rfl ?_)
 have fin:∀h' e,(∀c o,c≠z->c≠i1->s.heap.get? c=some o->h'.get? c=some o)->(∃o,h'.get? e=some o/\o.cls=.type "StopIteration") ->
   wpAny (model prog w) A (do if <-isInstance (.ref e) (.type "StopIteration") then pure none else throw (.ref e)) Q E { s with heap:=h' }:=λh' e hk ⟨o,ho,hc⟩ =>
  wpAny_bind (wpAny_isInstance (T := "StopIteration") (b:=true) ⟨o,ho,hc⟩ isSubtype_stop (wpAny_pure (hQ _ hk)))
 rcases hf with⟨e1,e2,a,b,hTO⟩|⟨T,oT,e1,hT⟩
 ·subst e1 e2
  refine wpAny_pure ?_
  simp only[if_true]
  refine wpAny_bind (wpAny_rule ?_)
  refine wpAny_bind (wpAny_field hz rfl (x:=.ref TO) rfl ?_)
  refine wpAny_bind (wpAny_setField_rec hz (by simp) λh₁ hz₁ hs₁=>?_)
  replace hz₁:IsZ h₁ z TI TO .ellipsis false:=hz₁
  refine wpAny_bind ?_
  simp only[List.zipIdx_cons,List.zipIdx_nil,List.forIn_cons,List.forIn_nil]
  refine wpAny_bind (wpAny_bind (wpAny_onRaise ?_))
  show wpAny _ _ (Builtin.SmallTypes.nextOf (.ref i1) >>= _) _ _ _
  refine wpAny_bind (wpAny_nextOf_list_end hh (h1.extBut hs₁.extBut D.i1z) (hl.extBut hs₁.extBut D.lz) hv λh₂ e hs₂ he=>?_)
  obtain⟨oe,hoe,hce⟩:=he
  have hz₂:IsZ h₂ z TI TO .ellipsis false:=hs₂ _ _ D.i1z.symm hz₁
  have hez:e≠z:=λx=>by subst x;rw[hz₂]at hoe;cases hoe;simp at hce
  refine wpAny_setField_rec hz₂ (by simp) λh₃ _ hs₃=>?_
  exact fin h₃ e (λc o c1 c3 x=>hs₃.extBut _ _ c1 (hs₂ _ _ c3 (hs₁.extBut _ _ c1 x))) ⟨oe,hs₃.extBut _ _ hez hoe,hce⟩
 ·subst e1
  show wpAny _ _ (loadIfAlive ((T:Int).toNat) >>= _) _ _ _
  rw[Int.toNat_natCast]
  refine wpAny_bind (wo hT ?_)
  simp only[Option.isNone_some,Bool.false_eq_true,if_false]
  refine wpAny_bind (wpAny_field hz rfl (x:=.bool f1) rfl ?_)
  cases f1 with
  | false =>
   simp only[show (Value.bool false != Value.bool true)=true from rfl,if_true]
   refine wpAny_bind (wpAny_setField_rec hz (by simp) λh₁ hz₁ hs₁=>wpAny_pure ?_)
   replace hz₁:IsZ h₁ z TI TO (rawInt T) true:=hz₁
   simp only[Bool.false_eq_true,if_false,List.forIn_toArray,List.forIn_cons,List.forIn_nil]
   refine wpAny_bind (wpAny_bind (wpAny_bind (wpAny_holding ?_)))
   show wpAny _ _ (Builtin.SmallTypes.nextOf (.ref i1) >>= _) _ _ _
   refine wpAny_bind (wpAny_nextOf_list_end hh (h1.extBut hs₁.extBut D.i1z) (hl.extBut hs₁.extBut D.lz) hv λh₂ e hs₂ he=>?_)
   exact fin h₂ e (λc o c1 c3 x=>hs₂ _ _ c3 (hs₁.extBut _ _ c1 x)) he
  | true =>
   simp only[show (Value.bool true != Value.bool true)=false from rfl,Bool.false_eq_true,if_false]
   refine wpAny_pure ?_
   simp only[Bool.false_eq_true,if_false,List.forIn_toArray,List.forIn_cons,List.forIn_nil]
   refine wpAny_bind (wpAny_bind (wpAny_bind (wpAny_holding ?_)))
   show wpAny _ _ (Builtin.SmallTypes.nextOf (.ref i1) >>= _) _ _ _
   refine wpAny_bind (wpAny_nextOf_list_end hh h1 hl hv λh₂ e hs₂ he=>?_)
   exact fin h₂ e (λc o c1 c3 x=>hs₂ _ _ c3 x) he
abbrev zH1 (h:Heap) (l:Addr):Heap:=h.push { cls:=.type "list_iterator", data:=.fields #[.ref l,.int 0 0] }
abbrev zH2 (h:Heap) (l:Addr) (ty:String) (x:Str) (t:Tok):Heap:=(zH1 h l).push { cls:=.type ty,data:=.fields #[.str x t,.int 0 0] }
abbrev zH3 (h:Heap) (l:Addr) (ty:String) (x:Str) (t:Tok):Heap:=(zH2 h l ty x t).push { cls:=.type "tuple", data:=.seq #[.ref h.objs.size,.ref (zH1 h l).objs.size] }
abbrev zH4 (h:Heap) (l:Addr) (ty:String) (x:Str) (t:Tok):Heap:=(zH3 h l ty x t).push { cls:=.type "tuple", data:=.seq #[.none,.none] }
abbrev zH5 (h:Heap) (l:Addr) (ty:String) (x:Str) (t:Tok):Heap:=(zH4 h l ty x t).push { cls:=.type "zip", data:=.fields #[.none,.bool false,.bool false,.ref (zH2 h l ty x t).objs.size,.ref (zH3 h l ty x t).objs.size] }
def d9 (x:Str):String:=if x.cps.all (·<128)=true then "str_ascii_iterator" else "str_iterator"
theorem qV {Q:Value->Shared->Prop} (hQ:Q (.ref s.heap.objs.size) { s with heap:=s.heap.push { cls:=.type (d9 x),data:=.fields #[.str x t,.int 0 0] } }):wpAny (model prog w) A (pyIter (.str x t)) Q E s:=by
 unfold d9 at hQ
 cases ha:x.cps.all (·<128) with
 | true=>rw[ha,if_pos rfl]at hQ;exact wpAny_pyIter_ascii ha hQ
 | false=>rw[ha,if_neg Bool.false_ne_true]at hQ;exact wpAny_pyIter_wide ha hQ
theorem ug (x:Str):d9 x = "str_ascii_iterator" \/ d9 x = "str_iterator" := by
 unfold d9
 split
 ·exact .inl rfl
 ·exact .inr rfl
theorem qN (l:Addr) (xs:Array Value) (x:Str) (t:Tok) :
  Meets (Builtin.«zip.__new__» ⟨[.type "zip", .ref l,.str x t],[]⟩) (λ_ R s=>s.heap.IsList l xs/\R (.ok (.ret (.ref (zH4 s.heap l (d9 x) x t).objs.size))) { s with heap:=zH5 s.heap l (d9 x) x t }) :=
 .of_wp λprog w A R s h=>by
  obtain⟨hp,g,d,tk,os⟩:=s;obtain⟨hl1,h⟩:=h
  have hsub:=sub_zip
  have hL1:Heap.IsList (Shared.heap ⟨hp,g,d,tk,os⟩) l xs:=hl1
  wp_walk using wpAny_pyIter_list hL1,qV
  exact⟨_,rfl,h⟩
theorem tX {Q:Value->Shared->Prop} (hl1:s.heap.IsList l xs)
  (h:∀h',IsZ h' (s.heap.objs.size+4) (s.heap.objs.size+2) (s.heap.objs.size+3) .none false->IsPair h' (s.heap.objs.size+2) (.ref s.heap.objs.size) (.ref (s.heap.objs.size+1)) ->
   IsPair h' (s.heap.objs.size+3) .none .none->h'.IsListIter s.heap.objs.size l 0->h'.IsStrIter (s.heap.objs.size+1) (d9 x) x t 0->h'.objs.size=s.heap.objs.size+5 ->
   (∀c o,s.heap.get? c=some o->h'.get? c=some o)->Q (.ref (s.heap.objs.size+4)) { s with heap:=h' }) :
  wpAny (model prog w) A (call (.type "zip") [.ref l,.str x t]) Q E s:=by
 refine callType_new F.called_zip (by decide) (F.typeCall_zip_2 _ _) (F.newCall_zip_2 _ _) (λobj=>F.args_object_init_3 obj _ _) F.entry_zip_new (qN l xs x t) ⟨hl1,?_⟩
 have z1:(zH1 s.heap l).objs.size=s.heap.objs.size+1:=Heap.size_push ..
 have z2:(zH2 s.heap l (d9 x) x t).objs.size=s.heap.objs.size+2:=by rw[Heap.size_push,z1]
 have z3:(zH3 s.heap l (d9 x) x t).objs.size=s.heap.objs.size+3:=by rw[Heap.size_push,z2]
 have z4:(zH4 s.heap l (d9 x) x t).objs.size=s.heap.objs.size+4:=by rw[Heap.size_push,z3]
 have z5:(zH5 s.heap l (d9 x) x t).objs.size=s.heap.objs.size+5:=by rw[Heap.size_push,z4]
 have g5:(zH5 s.heap l (d9 x) x t).get? (zH4 s.heap l (d9 x) x t).objs.size=some _:=Heap.get?_push_size _ rfl
 have g4:(zH5 s.heap l (d9 x) x t).get? (zH3 s.heap l (d9 x) x t).objs.size=some _:=Heap.get?_push_of_some _ (Heap.get?_push_size _ rfl)
 have g3:(zH5 s.heap l (d9 x) x t).get? (zH2 s.heap l (d9 x) x t).objs.size=some _:=Heap.get?_push_of_some _ (Heap.get?_push_of_some _ (Heap.get?_push_size _ rfl))
 have g2:(zH5 s.heap l (d9 x) x t).get? (zH1 s.heap l).objs.size=some _:=Heap.get?_push_of_some _ (Heap.get?_push_of_some _ (Heap.get?_push_of_some _ (Heap.get?_push_size _ rfl)))
 have g1:(zH5 s.heap l (d9 x) x t).get? s.heap.objs.size=some _:=Heap.get?_push_of_some _ (Heap.get?_push_of_some _ (Heap.get?_push_of_some _ (Heap.get?_push_of_some _ (Heap.get?_push_size _ rfl))))
 show _/\_
 rw[z2,z3,z4]at g5
 rw[z1,z2]at g3
 rw[z3]at g4
 rw[z1]at g2
 rw[z4]
 exact⟨⟨_,g5,rfl⟩,h _ g5 g3 g4 ⟨_,g1,rfl,rfl⟩ ⟨_,g2,rfl,rfl⟩ z5 λc o x =>
  Heap.get?_push_of_some _ (Heap.get?_push_of_some _ (Heap.get?_push_of_some _ (Heap.get?_push_of_some _ (Heap.get?_push_of_some _ x))))⟩
theorem gt:typeLookup (.type "zip") "__getattr__" = pure none:=by rw[typeLookup_type,builtinLookup_eq_fast];kernel_rfl
theorem jL:typeLookup (.type "zip") "keys" = pure none:=by rw[typeLookup_type,builtinLookup_eq_fast];kernel_rfl
theorem eL:entryFor table "zip.__getattribute__" = some Builtin.«object.__getattribute__» :=
 entryFor_alias (id' := "object.__getattribute__") (by kernel_rfl) (by decide +kernel) (by decide +kernel) (by kernel_rfl)
theorem jf (a:Addr) (xs:Array Value) (sl:Array (Option Value)) (u:Tok) :
  Meets (Builtin.«object.__getattribute__» ⟨[.ref a,.str "keys" u],[]⟩) (λA R s=>s.heap.get? a=some { cls:=.type "zip", dict:=none,data:=.fields xs,slots:=sl }/\raisesAttr (.ref a) "keys" A R s) :=
 Meets.of_wp λprog w A R s hs=>by
  obtain⟨hp,g,d,tk,os⟩:=s
  obtain⟨hx,hs⟩:=hs
  have hT:(⟨hp,g,d,tk,os⟩:Shared).TypeIs (.ref a) "zip" := ⟨_,hx,rfl⟩
  have hmiss:=jL
  have hname:(["__module__", "__name__", "__qualname__", "__doc__", "__annotations__"]:List Str).contains "keys" = false:=by decide +kernel
  unfold Builtin.«object.__getattribute__»
  repeat (any_goals (first|assumption|wp_step))
  try simp only[hname,Bool.false_eq_true,if_false]
  repeat (any_goals (first|assumption|wp_step))
  exact wpAny_raiseAttrError hs.1 hs.2 (attrMsg_fits (by decide +kernel) (by decide +kernel))
theorem qQ {sl:Array (Option Value)} (hx:s.heap.get? a=some { cls:=.type "zip", dict:=none,data:=.fields xs,slots:=sl }) (hA:A.handled=none)
  (h:∀h' tk,(∀c o,s.heap.get? c=some o->h'.get? c=some o)->Q none { s with heap:=h',toks:=tk }):wpAny (model prog w) A (getAttr? (.ref a) "keys") Q E s:=by
 obtain⟨hp,g,d,tk,os⟩:=s
 have hT:∀tk',(⟨hp,g,d,tk',os⟩:Shared).TypeIs (.ref a) "zip" := λ_=>⟨_,hx,rfl⟩
 have f1:=sub_AttributeError
 have f3:=F.slot_zip_getattribute.lookup
 have f4:=F.slot_zip_getattribute.bind (.ref a)
 have f5:=gt
 unfold getAttr? getAttrBy? getAttrBy
 repeat (any_goals (first|assumption|exact hT _|((with_reducible show wpAny _ _ (call (Value.builtin "zip.__getattribute__") _ _) _ _ _);refine call_meets F.slot_zip_getattribute (hT _) eL (F.args_zip_getattribute_2 _ _) (jf a xs sl _) ⟨hx,hA,λh' tk' e hx'=>?_⟩)|wp_step))
 obtain⟨t',u',he⟩:=hx'.there
 show wpAny _ _ (getattributeRaised _ _ _ _ _ _ _) _ _ _
 unfold getattributeRaised
 repeat (any_goals (first|assumption|wp_step))
 all_goals exact h _ _ hx'.keeps
end
theorem jc:mroOf (.type "dict")=pure [.type "dict", .type "object"]:=by rw[mroOf_type];kernel_rfl
theorem hZ:typeLookup (.type "dict") "__new__" = pure (some (.builtin "dict.__new__")):=by rw[typeLookup_type,builtinLookup_eq_fast];kernel_rfl
theorem gY:TypeCalled "dict" "dict.__new__" "dict.__init__" :=
 ⟨by decide +kernel,by decide +kernel,⟨_,_,jc⟩,madeBy_type jc hZ (by decide +kernel),by decide +kernel,by rw[isSubtype_type];kernel_rfl,F.slot_dict_init⟩
theorem eR (a:Value):checkTypeCall "dict" ⟨[a],[]⟩=pure ():=by kernel_rfl
theorem ja (a:Value):checkBuiltinCall "dict.__new__" ⟨[.type "dict", a],[]⟩=pure ():=by kernel_rfl
theorem js:entryFor table "dict.__new__" = some Builtin.«dict.__new__»:=entryFor_of_tree (by kernel_rfl)
theorem iY:plainId "dict.__new__" = true:=by decide +kernel
theorem rJ:isSubtype (.type "dict") (.type "dict")=pure true:=by rw[isSubtype_type];kernel_rfl
theorem fA:entryFor table "dict.update.loop" = some Builtin.«dict.update.loop»:=entryFor_of_tree (by kernel_rfl)
theorem cC:plainId "dict.update.loop" = true:=by decide +kernel
structure ApartD (z TI TO i1 i2 l d:Addr):Prop extends Apart5 z TI TO i1 i2 l where
 dz:d≠z
 dTI:d≠TI
 dTO:d≠TO
 di1:d≠i1
 di2:d≠i2
 dl:d≠l
structure ZS (h:Heap) (z TI TO i1 i2 l d:Addr) (ty:String) (x:Str) (t:Tok) (xs:Array Value) (k:Nat):Prop where
 zf:(IsZ h z TI TO .none false/\∃a b,IsPair h TO a b)\/∃(T:Addr) (f1:Bool) (oT:Obj),IsZ h z TI TO (rawInt (T:Nat)) f1/\h.get? T=some oT/\T≠z/\T≠i1/\T≠i2/\T≠d
 ti:IsPair h TI (.ref i1) (.ref i2)
 a1:h.IsListIter i1 l k
 a2:h.IsStrIter i2 ty x t k
 li:h.IsList l xs
section
variable {prog:Program} {w:World} {K:Type} [DecidableEq K] {knd:KeyKind prog w K} {A:Around} {R:Result->Shared->Prop}
variable {Q:Option Value->Shared->Prop} {xs:Array Value} {t:Tok} {x:Str} {z i1 i2 l d:Addr} {ty:String} {s:Shared} {E:Value->Shared->Prop}
theorem ua (hty:ty = "str_ascii_iterator" \/ ty = "str_iterator") {TI TO:Addr} {k c:Nat} {v:Value} {od:Obj} (D:ApartD z TI TO i1 i2 l d)
  (Z:ZS s.heap z TI TO i1 i2 l d ty x t xs k) (hod:s.heap.get? d=some od) (hv:xs[k]?=some v) (hc:x.cps[k]?=some c)
  (hQ:∀h' T u,ZS h' z TI TO i1 i2 l d ty x t xs (k+1)->IsPair h' T v (.str ⟨#[c]⟩ u)->T≠d->(∀c o,c≠z->c≠TO->c≠i1->c≠i2->s.heap.get? c=some o->h'.get? c=some o)->Q (some (.ref T)) { s with heap:=h',toks:=s.toks+1 }) :
  wpAny (model prog w) A (pyNext (.ref z)) Q E s:=by
 have lt:∀{c o},s.heap.get? c=some o->s.heap.objs.size≠c:=λe=>Nat.ne_of_gt (Heap.lt_size e)
 have l1:s.heap.objs.size≠i1:=by obtain⟨_,e,_⟩:=Z.a1;exact lt e
 have l2:s.heap.objs.size≠i2:=by obtain⟨_,e,_⟩:=Z.a2;exact lt e
 rcases Z.zf with⟨hz,a,b,hTO⟩|⟨T,f1,oT,hz,hT,n1,n2,n3,n4⟩
 ·refine ot hty D.toApart5 hz Z.ti hTO Z.a1 Z.a2 Z.li hv hc λh' b1 b2 b3 b4 b5 b6 b7=>?_
  exact hQ h' _ _ ⟨.inr ⟨_,_,_,b1,b5,lt hz,l1,l2,lt hod⟩,b7 _ _ D.TIz D.TITO D.TIi1 D.TIi2 Z.ti,b3,b4,Z.li.at λo e=>b7 _ o D.lz D.lTO D.li1 D.li2 e⟩ b5 (lt hod) b7
 ·refine oq hty D.toApart5 hz hT Z.ti Z.a1 Z.a2 Z.li hv hc λh' b1 b3 b4 b5 b6 b7=>?_
  exact hQ h' _ _ ⟨.inr ⟨T,_,oT,b1,b7 _ _ n1 n2 n3 hT,n1,n2,n3,n4⟩,b7 _ _ D.TIz D.TIi1 D.TIi2 Z.ti,b3,b4,Z.li.at λo e=>b7 _ o D.lz D.li1 D.li2 e⟩ b5 (lt hod) λc o c1 _ c3 c4 e=>b7 c o c1 c3 c4 e
theorem wq {TI TO:Addr} {k:Nat} (hh:A.handled=none) (D:ApartD z TI TO i1 i2 l d)
  (Z:ZS s.heap z TI TO i1 i2 l d ty x t xs k) (hv:xs[k]?=none) (hQ:∀h',(∀c o,c≠z->c≠i1->s.heap.get? c=some o->h'.get? c=some o)->Q none { s with heap:=h' }):wpAny (model prog w) A (pyNext (.ref z)) Q E s:=by
 rcases Z.zf with⟨hz,a,b,hTO⟩|⟨T,f1,oT,hz,hT,n1,n2,n3,n4⟩
 ·exact mU (a:=a) (b:=b) hh D.toApart5 hz (.inl ⟨rfl,rfl,a,b,hTO⟩) Z.ti Z.a1 Z.li hv hQ
 ·exact mU (a:=.none) (b:=.none) hh D.toApart5 hz (.inr ⟨T,oT,rfl,hT⟩) Z.ti Z.a1 Z.li hv hQ
theorem ZS.dict {h h':Heap} {TI TO:Addr} {k:Nat} (D:ApartD z TI TO i1 i2 l d) (Z:ZS h z TI TO i1 i2 l d ty x t xs k) (hs:Heap.SameBut d h h'):ZS h' z TI TO i1 i2 l d ty x t xs k:=by
 refine⟨?_,hs.extBut _ _ D.dTI.symm Z.ti,Z.a1.extBut hs.extBut D.di1.symm,Z.a2.extBut hs.extBut D.di2.symm,Z.li.extBut hs.extBut D.dl.symm⟩
 rcases Z.zf with⟨hz,a,b,hTO⟩|⟨T,f1,oT,hz,hT,n1,n2,n3,n4⟩
 ·exact .inl ⟨hs.extBut _ _ D.dz.symm hz,a,b,hs.extBut _ _ D.dTO.symm hTO⟩
 ·exact .inr ⟨T,f1,oT,hs.extBut _ _ D.dz.symm hz,hs.extBut _ _ n4 hT,n1,n2,n3,n4⟩
def dy (kvs:List (K × Value)) (ps:List (K × Value)):List (K × Value):=ps.foldl (λacc p=>stored acc p.1 p.2) kvs
theorem iE (kvs:List (K × Value)) (k:K) (v:Value):(stored kvs k v).length<=kvs.length+1:=by
 unfold stored
 split
 ·rw[List.length_map];exact yF
 ·rw[List.length_append];simp
theorem re (hty:ty = "str_ascii_iterator" \/ ty = "str_iterator") {TI TO:Addr} (D:ApartD z TI TO i1 i2 l d) (hh:A.handled=none) (ks:Nat->K) (hk:∀k v,xs[k]?=some v->knd.is (ks k) v=true)
  (hlen:xs.size<=x.cps.size) (hsz:xs.size<=sizeLine):∀(m k:Nat) (i:Int) (s:Shared) (kvs:List (K × Value)),xs.size-k=m->k<=xs.size->ZS s.heap z TI TO i1 i2 l d ty x t xs k->s.heap.DictOf knd d kvs->kvs.length<=k ->
  (∀h' tk (ps:List (K × Value)),ps.length=xs.size-k->(∀(j:Nat) p,ps[j]?=some p->p.1=ks (k+j)/\∃c u,x.cps[k+j]?=some c/\p.2=.str ⟨#[c]⟩ u)->h'.DictOf knd d (dy kvs ps) ->
   (∀c o,c≠z->c≠TO->c≠i1->c≠i2->c≠d->s.heap.get? c=some o->h'.get? c=some o)->R (.ok (.ret .none)) { s with heap:=h',toks:=tk }) ->
  codeAny (model prog w) A (.builtin "dict.update.loop" ⟨[.ref d,.ref z,rawInt i,.none],[]⟩) R s:=by
 intro m
 induction m with
 | zero =>
  intro k i s kvs hm hkk Z hd hkl hR
  have hin:k=xs.size:=by exact vT hm hkk
  refine codeAny_builtin fA ?_
  rw[Around.under_plainId cC _]
  show wpAny _ A.in1 (pyNext (.ref z) >>= _) _ _ s
  refine wpAny_bind (wq (show A.in1.handled=none from hh) D Z (by rw[hin];simp) λh' hkeep=>?_)
  show wpAny _ _ (Builtin.Dict.addKeywords d [] >>= _) _ _ _
  refine wpAny_bind (wpAny_pure (wpAny_pure ?_))
  have hdn:d≠z:=D.dz
  have hd':h'.DictOf knd d kvs:=by
   obtain⟨o,es,ep,e1,r⟩:=hd
   exact⟨o,es,ep,hkeep d o D.dz D.di1 e1,r⟩
  exact hR h' s.toks [] (by simp;exact yE hm) (λj p e=>by simp at e) hd' λc o c1 _ c3 _ _ e=>hkeep c o c1 c3 e
 | succ m ih =>
  intro k i s kvs hm hkk Z hd hkl hR
  have hlt:k<xs.size:=by exact vS hm hkk
  have hv:xs[k]?=some xs[k]:=by simp[hlt]
  have hltc:k<x.cps.size:=by exact vW hlen hlt
  have hc:x.cps[k]?=some x.cps[k]:=by simp[hltc]
  obtain⟨od,es0,ep0,hod,_⟩:=id hd
  refine codeAny_builtin fA ?_
  rw[Around.under_plainId cC _]
  show wpAny _ A.in1 (pyNext (.ref z) >>= _) _ _ s
  refine wpAny_bind (ua hty D Z hod hv hc λh1 T u Z1 hT hTd hkeep=>?_)
  have hd1:h1.DictOf knd d kvs:=by
   obtain⟨o,es,ep,e1,r⟩:=hd
   exact⟨o,es,ep,hkeep d o D.dz D.dTO D.di1 D.di2 e1,r⟩
  refine wpAny_bind (wpAny_holding ?_)
  have hTy:(Shared.TypeIs { s with heap:=h1,toks:=s.toks+1 } (.ref T) "tuple"):=⟨_,hT,rfl⟩
  refine wpAny_bind (wpAny_tryCatch ?_)
  unfold Builtin.Dict.pairItems
  refine wpAny_bind (wpAny_typeOf hTy ?_)
  rw[if_pos (by decide)]
  refine wpAny_bind (wpAny_seqItems hT rfl (wpAny_pure ?_))
  show wpAny _ _ (holding [xs[k],_] (dictSet d xs[k] _)) _ _ _
  refine wpAny_holding (wpAny_dictSet_pairs (hk k _ hv) hd1 (λh2 hd2 hs2=>?_) (by exact vR hsz hkl hlt))
  refine wpAny_pure ⟨plainId_quiet cC _,ih (k+1) (i+1) _ _ (by exact vQ hm hlt) (by exact vP hlt) (ZS.dict D Z1 hs2) hd2 (Nat.le_trans (iE _ _ _) (by exact qE hkl)) λh3 tk ps hl hp hd3 hk3=>?_⟩
  refine hR h3 tk ((ks k,.str ⟨#[x.cps[k]]⟩ u)::ps) (by rw[List.length_cons,hl];exact yC hm hlt) (λj p e=>?_) hd3 λc o c1 c2 c3 c4 c5 e=>hk3 c o c1 c2 c3 c4 c5 (hs2.extBut c o c5 (hkeep c o c1 c2 c3 c4 e))
  cases j with
  | zero =>
   have e':(ks k,Value.str ⟨#[x.cps[k]]⟩ u)=p:=by simpa using e
   subst e'
   exact⟨rfl,x.cps[k],u,hc,rfl⟩
  | succ j =>
   have q:=hp j p (by simpa using e)
   rw[show k+(j+1)=k+1+j by exact yB]
   exact q
theorem fF (a:Value) {Q:Value->Shared->Prop} (h:Q (.ref s.heap.objs.size) { s with heap:=s.heap.push { cls:=.type "dict", data:=.dict #[] } }) :
  codeAny (model prog w) A (.call (.builtin "dict.__new__") ⟨[.type "dict", a],[]⟩) (wants Q E) s:=by
 refine codeAny_call_builtin iY js (wpAny_of_eq (ja a) ?_)
 have hsub:=rJ
 have hmro:=jc
 obtain⟨hp,g,d,tk,os⟩:=s
 unfold Builtin.«dict.__new__»
 wp_walk
 exact h
theorem rh (hty:ty = "str_ascii_iterator" \/ ty = "str_iterator") {TI TO:Addr} {Q:Value->Shared->Prop} (D:Apart5 z TI TO i1 i2 l) (hh:A.handled=none) (ks:Nat->K)
  (hk:∀k v,xs[k]?=some v->knd.is (ks k) v=true) (hlen:xs.size<=x.cps.size) (hsz:xs.size<=sizeLine) (hz:IsZ s.heap z TI TO .none false) (hTI:IsPair s.heap TI (.ref i1) (.ref i2)) (hTO:∃a b,IsPair s.heap TO a b)
  (h1:s.heap.IsListIter i1 l 0) (h2:s.heap.IsStrIter i2 ty x t 0) (hl:s.heap.IsList l xs)
  (h:∀h' tk (ps:List (K × Value)),ps.length=xs.size->(∀(j:Nat) p,ps[j]?=some p->p.1=ks j/\∃c u,x.cps[j]?=some c/\p.2=.str ⟨#[c]⟩ u)->h'.DictOf knd s.heap.objs.size (dy [] ps) ->
   (∀c o,c≠z->c≠TO->c≠i1->c≠i2->s.heap.get? c=some o->h'.get? c=some o)->Q (.ref s.heap.objs.size) { s with heap:=h',toks:=tk }) :
  wpAny (model prog w) A (call (.type "dict") [.ref z]) Q E s:=by
 refine callType_codes (Q₁:=λobj s1=>obj=.ref s.heap.objs.size/\s1={ s with heap:=s.heap.push { cls:=.type "dict", data:=.dict #[] } }) gY (eR _) F.entry_dict_init (fF _ ⟨rfl,rfl⟩) ?_
 rintro obj s1 ⟨rfl,rfl⟩
 have up:∀c o,s.heap.get? c=some o->(s.heap.push { cls:=.type "dict", data:=.dict #[] }).get? c=some o:=λc o e=>Heap.get?_push_of_some _ e
 have hnew:(s.heap.push { cls:=.type "dict", data:=.dict #[] }).DictOf knd s.heap.objs.size []:=Heap.DictOf.new s.heap
 have lt:∀{c o},s.heap.get? c=some o->s.heap.objs.size≠c:=λe=>Nat.ne_of_gt (Heap.lt_size e)
 have l1:s.heap.objs.size≠i1:=by obtain⟨_,e,_⟩:=h1;exact lt e
 have l2:s.heap.objs.size≠i2:=by obtain⟨_,e,_⟩:=h2;exact lt e
 have ll:s.heap.objs.size≠l:=by obtain⟨_,e,_⟩:=hl;exact lt e
 obtain⟨a0,b0,hTO'⟩:=hTO
 have DD:ApartD z TI TO i1 i2 l s.heap.objs.size:=⟨D,lt hz,lt hTI,lt hTO',l1,l2,ll⟩
 refine⟨hnew.typeIs,F.args_dict_init_2 _ _,?_⟩
 unfold Builtin.«dict.__init__»
 refine wpAny_bind ?_
 unfold Builtin.Dict.selfAndRest
 refine wpAny_bind (wpAny_notOrdered_dict hnew.typeIs ?_)
 show wpAny _ _ (pure (s.heap.objs.size,[Value.ref z])) _ _ _
 refine wpAny_pure ?_
 show wpAny _ _ (Builtin.Dict.updateFrom "dict.__init__" s.heap.objs.size (.ref z) [] .none) _ _ _
 unfold Builtin.Dict.updateFrom
 have hzT:Shared.TypeIs { s with heap:=s.heap.push { cls:=.type "dict", data:=.dict #[] } } (.ref z) "zip" := ⟨_,up _ _ hz,rfl⟩
 refine wpAny_bind (wpAny_typeOf hzT ?_)
 rw[if_pos (by decide)]
 refine wpAny_bind (qQ (up _ _ hz) (show A.in1.in1.handled=none from hh) λh3 tk k3=>?_)
 simp only[Option.isNone_none,if_true]
 refine wpAny_bind (wpAny_rule ?_)
 have hz3:IsZ h3 z TI TO .none false:=k3 _ _ (up _ _ hz)
 refine wpAny_bind (wpAny_pyIter_zip (z:=z) (TI:=TI) (TO:=TO) (f0:=.none) hz3 ?_)
 refine wpAny_pure ⟨plainId_quiet cC _,?_⟩
 have Z3:ZS h3 z TI TO i1 i2 l s.heap.objs.size ty x t xs 0:=⟨.inl ⟨hz3,a0,b0,k3 _ _ (up _ _ hTO')⟩,k3 _ _ (up _ _ hTI),h1.at λo e=>k3 _ o (up _ o e),(let ⟨o,e,r⟩:=h2;⟨o,k3 _ o (up _ o e),r⟩),hl.at λo e=>k3 _ o (up _ o e)⟩
 have hd3:h3.DictOf knd s.heap.objs.size []:=by
  obtain⟨o,es,ep,e1,r⟩:=hnew
  exact⟨o,es,ep,k3 _ _ e1,r⟩
 refine re hty DD (show A.in1.handled=none from hh) ks hk hlen hsz xs.size 0 0 _ [] (by simp) (Nat.zero_le _) Z3 hd3 (Nat.le_refl _) λh4 tk4 ps hp1 hp2 hd4 hk4=>?_
 refine⟨rfl,h h4 tk4 ps (by simpa using hp1) (λj p e=>by simpa using hp2 j p e) hd4 λc o c1 c2 c3 c4 e=>hk4 c o c1 c2 c3 c4 (lt e).symm (k3 _ _ (up _ _ e))⟩
end
end LZ
namespace L2
open PySem PySem.Spec PyProof.Rows
def bH (kvs:List (Key × V)):List (Key × V)->List (Key × V)
 | []=>kvs
 | p::r=>bH (bI kvs p.1 p.2) r
def cJ (ns:List Str) (z:Str):List (Key × V):=(ns.zipIdx).map λp=>(Sum.inr p.1,eT z p.2)
theorem oG:∀{qs:List (Key × V)} {ps:List (Key × Value)} {kvs:List (Key × V)} {vs:List (Key × Value)},KV qs ps->KV kvs vs->KV (bH kvs qs) (LZ.dy vs ps)
 | [],_,_,_,h,r=>by cases h;exact r
 | q::qs,p::ps,kvs,vs,h,r=>by
  cases h with
  | cons h1 h2 =>
   show KV (bH (bI kvs q.1 q.2) qs) (LZ.dy (stored vs p.1 p.2) ps)
   rw[<-h1.1]
   exact oG h2 (r.put q.1 h1.2)
theorem paired_get {α β:Type} {F:α->β->Prop}:∀{xs:List α} {ys:List β},xs.length=ys.length->(∀(j:Nat) x y,xs[j]?=some x->ys[j]?=some y->F x y)->Paired F xs ys
 | [],[],_,_=>.nil
 | x::xs,y::ys,hl,h=>.cons (h 0 x y rfl rfl) (paired_get (by simpa using hl) λj a b e1 e2=>h (j+1) a b (by simpa using e1) (by simpa using e2))
theorem dZ:∀(qs kvs:List (Key × V)),(bH kvs qs).length<=kvs.length+qs.length
 | [],kvs=>Nat.le_refl _
 | q::qs,kvs=>by
  have h1:=dZ qs (bI kvs q.1 q.2)
  have h2:=dQ kvs q.1 q.2
  show (bH (bI kvs q.1 q.2) qs).length<=_
  rw[List.length_cons]
  exact yS h1 h2
section
variable {X:Cx} {a b:Expr} {ta:TA} {p1 p2 pos1 pos2:Pos}
def xI (K:PySem.W.Frag) (ta:TA):TE:=λσ H Q=>ta σ H λvs H1=>∃l ns z,vs=[.ref l,.str z]/\SqL K H1 l (ns.map V.str)/\ns.length<=z.cps.size/\ns.length<1000/\∀d,H1 d=none->Q (.ref d) (upd H1 d (.dK (bH [] (cJ ns z))))
theorem pF (hc:X.calm=true) (hg:Gl X "dict") (hm:X.mg "dict" = none) (hg2:Gl X "zip") (hm2:X.mg "zip" = none) (ha:PA X [a,b] ta)
  (hs:starEach [a,b] X.env=[(false,eval a X.env),(false,eval b X.env)]:=by rfl) (hs2:starEach [b] X.env=[(false,eval b X.env)]:=by rfl)
  (hs0:starEach [.Call (.Name "zip" p2) [a,b] [] pos2] X.env=[(false,eval (.Call (.Name "zip" p2) [a,b] [] pos2) X.env)]:=by rfl) :
  PE X (.Call (.Name "dict" p1) [.Call (.Name "zip" p2) [a,b] [] pos2] [] pos1) (xI X.K ta):=by
 intro pins s σ H Q I h
 refine Call_ (dj I hg hm PyProof.Rows.boot_dict (PyProof.Rows.callWith_type1 ?_ hs0 rfl))
 rw[hs0]
 show wpAny _ _ (spliced [(false,eval (.Call (.Name "zip" p2) [a,b] [] pos2) X.env)]) _ _ s
 refine Calls.spliced_cons ?_
 refine Call_ (dj I hg2 hm2 PyProof.Rows.boot_zip (PyProof.Rows.callWith_type1 (thn (ha pos2 pins s σ H _ I h) λus s1 ⟨vs,H1,I1,r1,q1⟩=>?_) (by rw[hs,hs2]) (by rw[hs2];rfl)))
 obtain⟨l,ns,z,e,hl,hlen,hsm,q⟩:=q1
 subst e
 obtain⟨u1,u2,e,ru1,ru2⟩:=ml r1
 subst e
 cases ru1
 obtain⟨t,e⟩:=ru2
 subst e
 obtain⟨its,rv,pl,_⟩:=I1.list hl
 have hits:its.length=ns.length:=by have:=rv.length;rw[List.length_map]at this;exact this.symm
 refine LZ.tX pl.isList λh2 b1 b2 b3 b4 b5 b6 b7=>?_
 refine Calls.spliced_nil ?_
 have I2:Inv X pins σ H1 { s1 with heap:=h2 }:=I1.kept (t':=s1.toks) b7
 have ltl:@LT.lt Nat _ l s1.heap.objs.size:=by obtain⟨o,ho,_⟩:=pl.isList;exact Heap.lt_size ho
 have big:1000<sizeLine:=by decide
 refine LZ.rh (knd:=bi X.prog X.w) (LZ.ug z) (i1:=s1.heap.objs.size) (i2:=s1.heap.objs.size+1) (l:=l) (xs:=its.toArray) ⟨(by show @Ne Nat _ _;exact yR),(by show @Ne Nat _ _;exact yQ),(by show @Ne Nat _ _;exact yP),(by show @Ne Nat _ _;exact yO),(by show @Ne Nat _ _;exact yN),(by show @Ne Nat _ _;exact yM),(by show @Ne Nat _ _;exact yL),(by show @Ne Nat _ _;exact yK),(by show @Ne Nat _ _;exact yJ),(by show @Ne Nat _ _;exact yI),(by show @Ne Nat _ _;omega),(by show @Ne Nat _ _;omega),(by show @Ne Nat _ _;omega),(by show @Ne Nat _ _;omega)⟩ (I.ok.hd hc) (λk=>Sum.inr (ns.getD k Str.empty)) (λk v hv=>?_)
  (by rw[List.size_toArray,hits];exact hlen) (by rw[List.size_toArray,hits];omega) b1 b2 ⟨_,_,b3⟩ b4 b5 (pl.isList.at λo e=>b7 _ o e) λh3 tk ps hp1 hp2 hd3 hk3=>?_
 ·have hv':its[k]?=some v:=by simpa using hv
  have hk:k<ns.length:=by have:=(List.getElem?_eq_some_iff.mp hv').1;exact wZ hits this
  have e1:(ns.map V.str)[k]?=some (.str (ns.getD k Str.empty)):=by
   rw[List.getElem?_map,List.getElem?_eq_getElem hk,List.getD_eq_getElem?_getD,List.getElem?_eq_getElem hk];rfl
  obtain⟨u,hu,ru⟩:=rv.get e1
  rw[hv']at hu
  cases hu
  obtain⟨t',e⟩:=ru
  subst e
  exact fe _ _ _ _
 ·have hlenz:(cJ ns z).length=ns.length:=by unfold cJ;simp
  have kv:KV (cJ ns z) ps:=by
   refine paired_get (by rw[hlenz,hp1,List.size_toArray,hits]) λj x y e1 e2=>?_
   obtain⟨f1,c,u,f2,f3⟩:=hp2 j y e2
   unfold cJ at e1
   rw[List.getElem?_map,List.getElem?_zipIdx]at e1
   cases e:ns[j]? with
   | none=>rw[e]at e1;simp at e1
   | some n =>
    rw[e]at e1
    simp at e1
    subst e1
    refine⟨?_,?_⟩
    ·rw[f1]
     show (Sum.inr n:Key)=Sum.inr (ns.getD j Str.empty)
     rw[List.getD_eq_getElem?_getD,e];rfl
    ·rw[f3]
     refine⟨u,?_⟩
     show Value.str ⟨#[c]⟩ u=Value.str ⟨#[z.cps.getD j 0]⟩ u
     rw[Array.getD_eq_getD_getElem?,f2];rfl
  have hnew:H1 h2.objs.size=none:=I2.hok.fresh (Nat.le_refl _)
  have kept:∀c o,s1.heap.get? c=some o->h3.get? c=some o:=λc o e=>by
   have:@LT.lt Nat _ c s1.heap.objs.size:=Heap.lt_size e
   exact hk3 c o (by show @Ne Nat _ _;omega) (by show @Ne Nat _ _;omega) (by show @Ne Nat _ _;omega) (by show @Ne Nat _ _;omega) (b7 c o e)
  have hle:s1.heap.objs.size<=h2.objs.size:=by exact yH b6
  have I3:Inv X pins σ (upd H1 h2.objs.size (.dK (bH [] (cJ ns z)))) { s1 with heap:=h3,toks:=tk }:=I1.laid kept hle ⟨by
    have:=dZ (cJ ns z) []
    rw[hlenz]at this
    simp only[List.length_nil]at this
    omega,beq_eq_false_iff_ne.mpr (by
    have:@LT.lt Nat _ sysModules s1.heap.objs.size:=I1.big
    intro e
    have e':@Eq Nat h2.objs.size sysModules:=e
    omega),_,oG kv .nil,hd3⟩
  exact⟨.ref h2.objs.size,_,I3,rfl,q _ hnew⟩
end
end L2
namespace LZ
open PySem
section
variable {prog:Program} {w:World} {A:Around} {E:Value->Shared->Prop} {s:Shared}
theorem gb:typeLookup (.type "list") "__getattr__" = pure none:=by rw[typeLookup_type,builtinLookup_eq_fast];kernel_rfl
theorem jh:typeLookup (.type "list") "keys" = pure none:=by rw[typeLookup_type,builtinLookup_eq_fast];kernel_rfl
theorem eg:entryFor table "list.__getattribute__" = some Builtin.«object.__getattribute__» :=
 entryFor_alias (id' := "object.__getattribute__") (by kernel_rfl) (by decide +kernel) (by decide +kernel) (by kernel_rfl)
theorem hX (a:Addr) (xs:Array Value) (m:Nat) (sl:Array (Option Value)) (u:Tok) :
  Meets (Builtin.«object.__getattribute__» ⟨[.ref a,.str "keys" u],[]⟩) (λA R s=>s.heap.get? a=some { cls:=.type "list", dict:=none,data:=.seq xs m,slots:=sl }/\raisesAttr (.ref a) "keys" A R s) :=
 Meets.of_wp λprog w A R s hs=>by
  obtain⟨hp,g,d,tk,os⟩:=s
  obtain⟨hx,hs⟩:=hs
  have hT:(⟨hp,g,d,tk,os⟩:Shared).TypeIs (.ref a) "list" := ⟨_,hx,rfl⟩
  have hmiss:=jh
  have hname:(["__module__", "__name__", "__qualname__", "__doc__", "__annotations__"]:List Str).contains "keys" = false:=by decide +kernel
  unfold Builtin.«object.__getattribute__»
  repeat (any_goals (first|assumption|wp_step))
  try simp only[hname,Bool.false_eq_true,if_false]
  repeat (any_goals (first|assumption|wp_step))
  exact wpAny_raiseAttrError hs.1 hs.2 (attrMsg_fits (by decide +kernel) (by decide +kernel))
theorem oH {a:Addr} {xs:Array Value} {m:Nat} {sl:Array (Option Value)} {Q:Option Value->Shared->Prop} (hx:s.heap.get? a=some { cls:=.type "list", dict:=none,data:=.seq xs m,slots:=sl }) (hA:A.handled=none)
  (h:∀h' tk,(∀c o,s.heap.get? c=some o->h'.get? c=some o)->Q none { s with heap:=h',toks:=tk }):wpAny (model prog w) A (getAttr? (.ref a) "keys") Q E s:=by
 obtain⟨hp,g,d,tk,os⟩:=s
 have hT:∀tk',(⟨hp,g,d,tk',os⟩:Shared).TypeIs (.ref a) "list" := λ_=>⟨_,hx,rfl⟩
 have f1:=sub_AttributeError
 have f3:=F.slot_list_getattribute.lookup
 have f4:=F.slot_list_getattribute.bind (.ref a)
 have f5:=gb
 unfold getAttr? getAttrBy? getAttrBy
 repeat (any_goals (first|assumption|exact hT _|((with_reducible show wpAny _ _ (call (Value.builtin "list.__getattribute__") _ _) _ _ _);refine call_meets F.slot_list_getattribute (hT _) eg (F.args_list_getattribute_2 _ _) (hX a xs m sl _) ⟨hx,hA,λh' tk' e hx'=>?_⟩)|wp_step))
 obtain⟨t',u',he⟩:=hx'.there
 show wpAny _ _ (getattributeRaised _ _ _ _ _ _ _) _ _ _
 unfold getattributeRaised
 repeat (any_goals (first|assumption|wp_step))
 all_goals exact h _ _ hx'.keeps
end
section
variable {prog:Program} {w:World} {K:Type} [DecidableEq K] {knd:KeyKind prog w K} {A:Around} {R:Result->Shared->Prop}
def iy (h:Heap) (xs:Array Value) (ka va:Nat->Value) (it d:Addr):Prop:=∀k,k<xs.size->∃(T:Addr) (o:Obj) (n:Nat),xs[k]?=some (.ref T)/\h.get? T=some o/\o.cls=.type "tuple" /\ o.data=.seq #[ka k,va k] n/\T≠it/\T≠d
theorem iy.keep {h h':Heap} {xs:Array Value} {ka va:Nat->Value} {it d:Addr} (p:iy h xs ka va it d) (hk:∀c o,c≠it->c≠d->h.get? c=some o->h'.get? c=some o):iy h' xs ka va it d:=λk hlt =>
 let ⟨T,o,n,e1,e2,e3,e4,e5,e6⟩:=p k hlt;⟨T,o,n,e1,hk T o e5 e6 e2,e3,e4,e5,e6⟩
theorem oQ {it l d:Addr} {xs:Array Value} {ka va:Nat->Value} (nid:d≠it) (nil:l≠it) (ndl:l≠d) (hh:A.handled=none) (ks:Nat->K) (hk:∀k,k<xs.size->knd.is (ks k) (ka k)=true) (hsz:xs.size<=sizeLine) :
  ∀(m k:Nat) (i:Int) (s:Shared) (kvs:List (K × Value)),xs.size-k=m->k<=xs.size->s.heap.IsListIter it l k->s.heap.IsList l xs->iy s.heap xs ka va it d->s.heap.DictOf knd d kvs->kvs.length<=k ->
  (∀h' tk,h'.DictOf knd d (dy kvs ((List.range (xs.size-k)).map λj=>(ks (k+j),va (k+j))))->(∀c o,c≠it->c≠d->s.heap.get? c=some o->h'.get? c=some o)->R (.ok (.ret .none)) { s with heap:=h',toks:=tk }) ->
  codeAny (model prog w) A (.builtin "dict.update.loop" ⟨[.ref d,.ref it,rawInt i,.none],[]⟩) R s:=by
 intro m
 induction m with
 | zero =>
  intro k i s kvs hm hkk hit hl hp hd hkl hR
  have hin:k=xs.size:=by exact vT hm hkk
  refine codeAny_builtin fA ?_
  rw[Around.under_plainId cC _]
  show wpAny _ A.in1 (pyNext (.ref it) >>= _) _ _ s
  refine wpAny_bind (wpAny_pyNext_list_end (show A.in1.handled=none from hh) hit hl (by rw[hin];simp) λh' hkeep=>?_)
  show wpAny _ _ (Builtin.Dict.addKeywords d [] >>= _) _ _ _
  refine wpAny_bind (wpAny_pure (wpAny_pure ?_))
  have hd':h'.DictOf knd d kvs:=by
   obtain⟨o,es,ep,e1,r⟩:=hd
   exact⟨o,es,ep,hkeep d o nid e1,r⟩
  refine hR h' s.toks ?_ λc o c1 _ e=>hkeep c o c1 e
  rw[hm]
  exact hd'
 | succ m ih =>
  intro k i s kvs hm hkk hit hl hp hd hkl hR
  have hlt:k<xs.size:=by exact vS hm hkk
  obtain⟨T,oT,n,hx,hT,hTc,hTd,nTi,nTd⟩:=hp k hlt
  refine codeAny_builtin fA ?_
  rw[Around.under_plainId cC _]
  show wpAny _ A.in1 (pyNext (.ref it) >>= _) _ _ s
  refine wpAny_bind (wpAny_pyNext_list_item hit hl hx λh1 hit1 hs1=>?_)
  have k1:∀c o,c≠it->s.heap.get? c=some o->h1.get? c=some o:=λc o n1 e=>hs1.extBut c o n1 e
  have hd1:h1.DictOf knd d kvs:=by
   obtain⟨o,es,ep,e1,r⟩:=hd
   exact⟨o,es,ep,k1 d o nid e1,r⟩
  have hT1:=k1 T oT nTi hT
  refine wpAny_bind (wpAny_holding ?_)
  have hTy:(Shared.TypeIs { s with heap:=h1 } (.ref T) "tuple"):=⟨_,hT1,hTc⟩
  refine wpAny_bind (wpAny_tryCatch ?_)
  unfold Builtin.Dict.pairItems
  refine wpAny_bind (wpAny_typeOf hTy ?_)
  rw[if_pos (by decide)]
  refine wpAny_bind (wpAny_seqItems hT1 hTd (wpAny_pure ?_))
  show wpAny _ _ (holding [ka k,va k] (dictSet d (ka k) (va k))) _ _ _
  refine wpAny_holding (wpAny_dictSet_pairs (hk k hlt) hd1 (λh2 hd2 hs2=>?_) (by exact vR hsz hkl hlt))
  have k2:∀c o,c≠it->c≠d->s.heap.get? c=some o->h2.get? c=some o:=λc o n1 n2 e=>hs2.extBut c o n2 (k1 c o n1 e)
  refine wpAny_pure ⟨plainId_quiet cC _,ih (k+1) (i+1) _ _ (by exact vQ hm hlt) (by exact vP hlt) (hit1.extBut hs2.extBut (Ne.symm nid)) (hl.at λo e=>k2 l o nil ndl e) (hp.keep k2) hd2 (Nat.le_trans (iE _ _ _) (by exact qE hkl)) λh3 tk hd3 hk3=>?_⟩
  refine hR h3 tk ?_ λc o c1 c2 e=>hk3 c o c1 c2 (k2 c o c1 c2 e)
  rw[show xs.size-k=(xs.size-(k+1))+1 from by exact yA hm hlt,List.range_succ_eq_map,List.map_cons,List.map_map]
  have e:(List.range (xs.size-(k+1))).map (λj=>(ks (k+1+j),va (k+1+j)))=(List.range (xs.size-(k+1))).map ((λj=>(ks (k+j),va (k+j)))∘Nat.succ):=List.map_congr_left λj _=>by simp[Function.comp,Nat.add_assoc,Nat.add_comm 1]
  rw[e]at hd3
  exact hd3
variable {Q E:Value->Shared->Prop}
theorem oX {s:Shared} {l:Addr} {xs:Array Value} {ka va:Nat->Value} (hh:A.handled=none) (ks:Nat->K) (hk:∀k,k<xs.size->knd.is (ks k) (ka k)=true) (hsz:xs.size<=sizeLine) (hl:PlainL s.heap l xs)
  (hp:∀k,k<xs.size->∃(T:Addr) (o:Obj) (n:Nat),xs[k]?=some (.ref T)/\s.heap.get? T=some o/\o.cls=.type "tuple" /\ o.data=.seq #[ka k,va k] n)
  (h:∀h' tk,h'.DictOf knd s.heap.objs.size (dy [] ((List.range xs.size).map λj=>(ks j,va j)))->(∀c o,s.heap.get? c=some o->h'.get? c=some o)->Q (.ref s.heap.objs.size) { s with heap:=h',toks:=tk }) :
  wpAny (model prog w) A (call (.type "dict") [.ref l]) Q E s:=by
 refine callType_codes (Q₁:=λobj s1=>obj=.ref s.heap.objs.size/\s1={ s with heap:=s.heap.push { cls:=.type "dict", data:=.dict #[] } }) gY (eR _) F.entry_dict_init (fF _ ⟨rfl,rfl⟩) ?_
 rintro obj s1 ⟨rfl,rfl⟩
 have up:∀c o,s.heap.get? c=some o->(s.heap.push { cls:=.type "dict", data:=.dict #[] }).get? c=some o:=λc o e=>Heap.get?_push_of_some _ e
 have hnew:(s.heap.push { cls:=.type "dict", data:=.dict #[] }).DictOf knd s.heap.objs.size []:=Heap.DictOf.new s.heap
 have lt:∀{c o},s.heap.get? c=some o->s.heap.objs.size≠c:=λe=>Nat.ne_of_gt (Heap.lt_size e)
 obtain⟨⟨c0,d0,dt0,sl0⟩,n0,ho,hoc,hod,hos⟩:=hl
 have hoc:c0=.type "list" := hoc
 have hod:d0=none:=hod
 have hos:dt0=.seq xs n0:=hos
 subst hoc hod hos
 refine⟨hnew.typeIs,F.args_dict_init_2 _ _,?_⟩
 unfold Builtin.«dict.__init__»
 refine wpAny_bind ?_
 unfold Builtin.Dict.selfAndRest
 refine wpAny_bind (wpAny_notOrdered_dict hnew.typeIs ?_)
 show wpAny _ _ (pure (s.heap.objs.size,[Value.ref l])) _ _ _
 refine wpAny_pure ?_
 show wpAny _ _ (Builtin.Dict.updateFrom "dict.__init__" s.heap.objs.size (.ref l) [] .none) _ _ _
 unfold Builtin.Dict.updateFrom
 have hzT:Shared.TypeIs { s with heap:=s.heap.push { cls:=.type "dict", data:=.dict #[] } } (.ref l) "list" := ⟨_,up _ _ ho,rfl⟩
 refine wpAny_bind (wpAny_typeOf hzT ?_)
 rw[if_pos (by decide)]
 refine wpAny_bind (oH (up _ _ ho) (show A.in1.in1.handled=none from hh) λh3 tk k3=>?_)
 simp only[Option.isNone_none,if_true]
 refine wpAny_bind (wpAny_rule ?_)
 have hL3:h3.IsList l xs:=⟨_,k3 _ _ (up _ _ ho),rfl,n0,rfl⟩
 have hd3:h3.DictOf knd s.heap.objs.size []:=by
  obtain⟨o,es,ep,e1,r⟩:=hnew
  exact⟨o,es,ep,k3 _ _ e1,r⟩
 obtain⟨od,es,ep,hd3',r3⟩:=id hd3
 refine wpAny_bind (wpAny_pyIter_list hL3 ?_)
 refine wpAny_pure ⟨plainId_quiet cC _,?_⟩
 have up4:∀c o,h3.get? c=some o->(h3.push { cls:=.type "list_iterator", data:=.fields #[.ref l,.int 0 0] }).get? c=some o:=λc o e=>Heap.get?_push_of_some _ e
 have lt3:∀{c o},h3.get? c=some o->c≠h3.objs.size:=λe=>Nat.ne_of_lt (Heap.lt_size e)
 refine oQ (it:=h3.objs.size) (l:=l) (d:=s.heap.objs.size) (ka:=ka) (va:=va) (lt3 hd3') (lt3 (k3 _ _ (up _ _ ho))) (lt ho).symm (show A.in1.handled=none from hh) ks hk hsz xs.size 0 0 _ [] (by simp) (Nat.zero_le _) ⟨_,Heap.get?_push_size _ rfl,rfl,rfl⟩ (hL3.at λo e=>up4 _ o e) (λk hlt=>?_) ⟨od,es,ep,up4 _ _ hd3',r3⟩ (Nat.le_refl _) λh5 tk5 hd5 hk5=>?_
 ·obtain⟨T,o,n,e1,e2,e3,e4⟩:=hp k hlt
  exact⟨T,o,n,e1,up4 _ _ (k3 _ _ (up _ _ e2)),e3,e4,lt3 (k3 _ _ (up _ _ e2)),(lt e2).symm⟩
 ·refine⟨rfl,h h5 tk5 (by simpa using hd5) λc o e=>hk5 c o (lt3 (k3 _ _ (up _ _ e))) (lt e).symm (up4 _ _ (k3 _ _ (up _ _ e)))⟩
end
end LZ
namespace L2
open PySem PySem.Spec PyProof.Rows
def rm (H:Hp) (v:V) (p:Str × V):Prop:=∃b,v=.ref b/\H b=some (.tup [.str p.1,p.2])
def dR (ps:List (Str × V)):List (Key × V):=ps.map λp=>((Sum.inr p.1:Key),p.2)
section
variable {X:Cx} {a:Expr} {ta:TA} {p1 pos1:Pos}
def pc (K:PySem.W.Frag) (ta:TA):TE:=λσ H Q=>ta σ H λvs H1=>∃l xs ps,vs=[.ref l]/\SqL K H1 l xs/\xs.length<10000/\Paired (rm H1) xs ps/\∀d,H1 d=none->Q (.ref d) (upd H1 d (.dK (bH [] (dR ps))))
theorem vJ {H:Hp}:∀{xs:List V} {ps:List (Str × V)},Paired (rm H) xs ps->∀(j:Nat) x,xs[j]?=some x->∃y,ps[j]?=some y/\rm H x y
 | _,_,.nil=>λj x e=>by simp at e
 | _,_,.cons (a:=a) (b:=b) h t=>λj x e=>by
  cases j with
  | zero=>simp at e;subst e;exact⟨_,rfl,h⟩
  | succ j=>simp at e;obtain⟨y,e',f⟩:=vJ t j x e;exact⟨y,by simpa using e',f⟩
theorem r_ {H:Hp}:∀{xs:List V} {ps:List (Str × V)},Paired (rm H) xs ps->xs.length=ps.length
 | _,_,.nil=>rfl
 | _,_,.cons h t=>by simp[r_ t]
theorem gK (hc:X.calm=true) (hg:Gl X "dict") (hm:X.mg "dict" = none) (ha:PA X [a] ta) (hs:starEach [a] X.env=[(false,eval a X.env)]:=by rfl):PE X (.Call (.Name "dict" p1) [a] [] pos1) (pc X.K ta):=by
 intro pins s σ H Q I h
 refine Call_ (dj I hg hm PyProof.Rows.boot_dict (PyProof.Rows.callWith_type1 (thn (ha pos1 pins s σ H _ I h) λus s1 ⟨vs,H1,I1,r1,q1⟩=>?_) hs rfl))
 obtain⟨l,xs,ps,e,hl,hsm,hpr,q⟩:=q1
 subst e
 obtain⟨u1,e,ru1⟩:=eP r1
 subst e
 cases ru1
 obtain⟨its,rv,pl,_⟩:=I1.list hl
 have hits:its.length=xs.length:=rv.length.symm
 have hps:=r_ hpr
 have big:10000<sizeLine:=by decide
 have each:∀k,∃g:Value × Value × Str,k<its.length->∃(T:Addr) (o:Obj) (m:Nat) (v:V) (t:Tok),its[k]?=some (.ref T)/\s1.heap.get? T=some o/\o.cls=.type "tuple" /\ o.data=.seq #[g.1,g.2.1] m/\g.1=.str g.2.2 t/\ps[k]?=some (g.2.2,v)/\aS v g.2.1:=λk=>by
  by_cases hk:k<its.length
  ·have hx:xs[k]?=some (xs[k]'(by exact om3 hits hps hk)):=by simp
   obtain⟨y,hy,b,eb,hb⟩:=vJ hpr k _ hx
   obtain⟨u,hu,ru⟩:=rv.get hx
   rw[eb]at ru
   cases ru
   obtain⟨its2,rv2,⟨o,e1,e2,n,e3⟩,_⟩:=I1.tuple (SqT.of hb)
   obtain⟨w1,w2,e4,r1,r2⟩:=ml rv2
   subst e4
   obtain⟨t,et⟩:=r1
   subst et
   exact⟨(.str y.1 t,w2,y.1),λ_=>⟨b,o,n,y.2,t,hu,e1,e2,e3,rfl,hy,r2⟩⟩
  ·exact⟨(.none,.none,Str.empty),λh=>absurd h hk⟩
 let g:=λk=>Classical.choose (each k)
 have hg':∀k,k<its.length->∃(T:Addr) (o:Obj) (m:Nat) (v:V) (t:Tok),its[k]?=some (.ref T)/\s1.heap.get? T=some o/\o.cls=.type "tuple" /\ o.data=.seq #[(g k).1,(g k).2.1] m/\(g k).1=.str (g k).2.2 t/\ps[k]?=some ((g k).2.2,v)/\aS v (g k).2.1:=λk=>Classical.choose_spec (each k)
 refine LZ.oX (knd:=bi X.prog X.w) (l:=l) (xs:=its.toArray) (ka:=λk=>(g k).1) (va:=λk=>(g k).2.1) (I1.ok.hd hc) (λk=>(Sum.inr (g k).2.2:Key)) (λk hk=>?_) (by rw[List.size_toArray,hits];omega) pl (λk hk=>?_) λh3 tk hd3 kept=>?_
 ·rw[List.size_toArray]at hk
  obtain⟨T,o,m,v,t,_,_,_,_,e5,_⟩:=hg' k hk
  show (bi X.prog X.w).is _ (g k).1=true
  rw[e5]
  exact fe _ _ _ _
 ·rw[List.size_toArray]at hk
  obtain⟨T,o,m,v,t,e1,e2,e3,e4,_⟩:=hg' k hk
  exact⟨T,o,m,by simpa using e1,e2,e3,e4⟩
 ·rw[List.size_toArray]at hd3
  have kv:KV (dR ps) ((List.range its.length).map λj=>((Sum.inr (g j).2.2:Key),(g j).2.1)):=by
   unfold dR
   refine paired_get (by simp[hits,hps]) λj x y e1 e2=>?_
   rw[List.getElem?_map]at e1 e2
   have hj:j<its.length:=by
    cases e:(List.range its.length)[j]? with
    | none=>rw[e]at e2;cases e2
    | some q=>have:=(List.getElem?_eq_some_iff.mp e).1;simpa using this
   obtain⟨T,o,m,v,t,_,_,_,_,_,e6,e7⟩:=hg' j hj
   rw[e6]at e1
   rw[List.getElem?_range hj]at e2
   cases e1
   cases e2
   exact⟨rfl,e7⟩
  have hnew:H1 s1.heap.objs.size=none:=I1.hok.fresh (Nat.le_refl _)
  have I3:Inv X pins σ (upd H1 s1.heap.objs.size (.dK (bH [] (dR ps)))) { s1 with heap:=h3,toks:=tk }:=I1.laid kept (Nat.le_refl _) ⟨by
    have:=dZ (dR ps) []
    have e:(dR ps).length=ps.length:=by unfold dR;simp
    simp only[List.length_nil]at this
    omega,beq_eq_false_iff_ne.mpr (by
    have:@LT.lt Nat _ sysModules s1.heap.objs.size:=I1.big
    intro e
    have e':@Eq Nat s1.heap.objs.size sysModules:=e
    omega),_,oG kv .nil,hd3⟩
  exact⟨.ref s1.heap.objs.size,_,I3,rfl,q _ hnew⟩
end
section
variable {X:Cx} {o e:Expr} {apos cpos:Pos} {ty:TE} {T:Addr}
end
section
variable {K:PySem.W.Frag} {g:TG} {te:TE} {σ0:St} {QD:Hp->Prop} {H1:Hp} {D:Addr}
end
section
variable {X:Cx}
end
section
variable {K:PySem.W.Frag} {g:TG} {te:TE} {tt:TT} {σ0:St} {QD:Hp->Prop} {H1:Hp} {D:Addr}
end
def vI (f:Addr) (l:Lm) (y:Str) (cell c:Addr) (t:TE):V->Hp->VK->Prop:=λvx H Q=>∃(o:Obj) (uy:Value) (vy:V),H f=some (gS f l [(y,cell)] c)/\H c=some (gZ c l.qual)/\H cell=some (d8 o)/\o.data=.cell (some uy)/\aS vy uy /\
 t [some vx,some vy] (dr H cell) λv H'=>H' cell=none->Q v (upd H' cell (d8 o))
theorem oV {P:Program} {w:World} {K:PySem.W.Frag} {mg:Str->Option Value} {base:Heap} {x y:Str} {l:Lm} {f c cell:Addr} {k:Nat} {t:TE} (S:LmScope x y l.scope)
  (hb:∀(pm ctv u:Value),bindArgs (PySem.W.kla_fn "<lambda>" l.qual l.params l.body l.scope [(y,cell)] pm (.ref c) ctv) ⟨[u],[]⟩=pure [(x,u)])
  (body:∀(A:Around) (outer:List Env) (s:Shared) (H:Hp),Room k (A.deeper (PySem.W.envX l.qual l.scope s.heap.objs.size f (.ref c) [(y,cell)]))->PE (pY P w K mg base x y l f c cell A outer s H E0) l.body t) :
  Calls P w K mg base (k+1) f (vI f l y cell c t):=by
 intro X e1 e2 e3 e4 e5 hx hr pins s σ H vx u Q I rx h
 subst e1 e2 e3 e4 e5
 obtain⟨o,uy,vy,hf,hc,hcell,hd,ry,q⟩:=h
 obtain⟨pm,ctv,ef⟩:=(I.hok f _ hf).1
 have ec:s.heap.CodeRec (.ref c) l.qual:=(I.hok c _ hc).1
 have eo:s.heap.get? cell=some o:=(I.hok cell _ hcell).1
 have e0:=I.env0
 have nf:cell∉frs X.stack:=λz=>by
  have:=e0.frf cell z
  rw[hcell]at this
  cases this
 have e0':Env0 X.prog X.w X.K X.mg X.base X.A X.stack s (dr H cell):=⟨e0.frames,e0.mod,λb ob e=>⟨(e0.bs b ob e).1,by
  by_cases z:b=cell
  ·rw[z];exact cZ
  ·rw[bu z];exact(e0.bs b ob e).2⟩,e0.bsz,e0.funs,λb hb=>by
  by_cases z:b=cell
  ·rw[z];exact cZ
  ·rw[bu z];exact e0.frf b hb,e0.hok.drop hcell,e0.bare⟩
 refine wpAny_call (codeAny_mono (uR (E:=E0) S hr e0' rx ry ⟨o,eo,hd⟩ cZ ef ec (hb pm ctv u) (body X.A X.stack s (dr H cell)) q) λr s' hq=>?_)
 cases r with
 | error e=>exact False.elim hq
 | ok fl =>
  cases fl with
  | ret u =>
   obtain⟨v,H',os,bare,un,hok,rv,qv⟩:=hq
   obtain⟨un',n',e'⟩:=un.back hcell eo nf (by simp)
   exact I.after ⟨v,_,os,bare,un',hok.take n' e',rv,qv n'⟩
  | next=>exact False.elim hq
  | brk=>exact False.elim hq
  | cont=>exact False.elim hq
end L2
namespace LR
open PySem
theorem oE:typeLookup (.type "list_reverseiterator") "__len__" = pure none:=by rw[typeLookup_type,builtinLookup_eq_fast];kernel_rfl
theorem s0:typeLookup (.type "list_reverseiterator") "__length_hint__" = pure (some (.builtin "list_reverseiterator.__length_hint__")):=by rw[typeLookup_type,builtinLookup_eq_fast];kernel_rfl
section
variable {prog:Program} {w:World} {A:Around} {E:Value->Shared->Prop} {s:Shared}
theorem iA {I:Addr} {Q:Bool->Shared->Prop} (hT:s.TypeIs (.ref I) "list_reverseiterator") (h:Q false s):wpAny (model prog w) A (Builtin.List.listLengthHint (.ref I)) Q E s:=by
 unfold Builtin.List.listLengthHint
 refine wpAny_bind (wpAny_specialOf hT oE ?_)
 show wpAny _ A (specialOf (Value.ref I) (Str.ofString "__length_hint__") >>= _) _ _ _
 refine wpAny_bind (wpAny_specialOf hT s0 ?_)
 generalize hid:("list_reverseiterator.__length_hint__" : String)=id0
 wp_delta
 rw[show splitId id0=some ("list_reverseiterator", "__length_hint__") from by subst hid;decide +kernel]
 subst hid
 refine wpAny_bind (wpAny_isInstance (T := "list_reverseiterator") (b:=true) hT (by rw[isSubtype_type];kernel_rfl) ?_)
 refine wpAny_ite_split (λhab=>absurd hab (by decide)) (λ_=>?_)
 refine wpAny_ite_split (λ_=>?_) (λhab=>absurd (by decide +kernel) hab)
 refine wpAny_ite_split (λhab=>absurd hab (by decide +kernel)) (λ_=>wpAny_pure h)
theorem call_list_rev {l:Addr} {items:Array Value} {Q:Value->Shared->Prop} (hh:A.handled=none) {I:Addr} (hit:s.heap.IsRevIter I l ((items.size:Int)-1)) (hl:s.heap.IsList l items) (hne:l≠I) (hn:items.size<=sizeLine)
  (hQ:∀h' tk acc' c',(∀b o,b≠I->s.heap.get? b=some o->h'.get? b=some o)->h'.get? s.heap.objs.size=some { cls:=.type "list", dict:=none,data:=.seq acc' c',slots:=#[] }->ItemsOf (λi v=>items[items.size-1-i]?=some v) acc' items.size->Q (.ref s.heap.objs.size) { s with heap:=h',toks:=tk }) :
  wpAny (model prog w) A (call (.type "list") [.ref I]) Q E s:=by
 have W:=(Walks.listRev (prog:=prog) (w:=w) (A:=A.in1.in1) hh I l hne items).toS
 have hIlt:I<s.heap.objs.size:=by obtain⟨o,ho,_⟩:=hit;exact Heap.lt_size ho
 have hllt:l<s.heap.objs.size:=by obtain⟨o,ho,_⟩:=hl;exact Heap.lt_size ho
 have hst:s.heap.IsRevIter I l ((items.size:Int)-1-((0:Nat):Int)):=by simpa using hit
 have hSf:s.heap.objs.size∉[I,l]:=λhm=>by
  rcases List.mem_cons.mp hm with e|hm
  ·exact absurd hIlt (by rw[<-e];exact Nat.lt_irrefl _)
  ·exact absurd hllt (by rw[<-List.mem_singleton.mp hm];exact Nat.lt_irrefl _)
 have hSI:s.heap.objs.size≠I:=λe=>hSf (by rw[e];simp)
 refine callType_codes (Q₁:=λobj s₁=>obj=.ref s.heap.objs.size/\s₁={ s with heap:=s.heap.push { cls:=.type "list", data:=.seq #[] } }) F.called_list (F.typeCall_list_1 _) F.entry_list_init
  (code_list_new _ ⟨rfl,rfl⟩) λobj s₁ h₁=>?_
 obtain⟨rfl,rfl⟩:=h₁
 have hS:(s.heap.push { cls:=.type "list", data:=.seq #[] }).get? s.heap.objs.size=some { cls:=.type "list", data:=.seq #[] }:=Heap.get?_push_size _ rfl
 refine⟨⟨_,hS,rfl⟩,F.args_list_init_2 _ _,?_⟩
 generalize hS0:s.heap.objs.size=S at *
 show wpAny _ A.in1.in1 (do let old <-Builtin.List.listItems (.ref S);Builtin.List.listUpdate (.ref S) (λ_=>#[]);letGo old.toList.reverse;Builtin.List.listExtendWith (.ref S) (.ref I) .none) _ _ _
 refine wpAny_bind ?_
 unfold Builtin.List.listItems
 refine wpAny_bind (wpAny_seqItems hS rfl (wpAny_pure ?_))
 show wpAny _ _ (updateSeq S (λ_=>#[]) >>= λ_=>letGo (#[]:Array Value).toList.reverse >>= λ_=>Builtin.List.listExtendWith (.ref S) (.ref I) .none) _ _ _
 refine wpAny_bind (wpAny_updateSeq hS rfl ?_)
 have hS₂:=Heap.get?_update_self (Obj.mapSeq (λ_=>(#[]:Array Value))) hS rfl
 have oth:∀b o,b≠S->s.heap.get? b=some o->((s.heap.push { cls:=.type "list", data:=.seq #[] }).update S (Obj.mapSeq (λ_=>(#[]:Array Value)))).get? b=some o :=
  λb o hb e=>(Heap.get?_update_other _ _ (Ne.symm hb)).trans (Heap.get?_push_of_some _ e)
 refine wpAny_bind (wpAny_letGo ?_)
 have hit₂:((s.heap.push { cls:=.type "list", data:=.seq #[] }).update S (Obj.mapSeq (λ_=>(#[]:Array Value)))).IsRevIter I l ((items.size:Int)-1-((0:Nat):Int)):=hst.at λo e=>oth I o (Ne.symm hSI) e
 have hl₂:((s.heap.push { cls:=.type "list", data:=.seq #[] }).update S (Obj.mapSeq (λ_=>(#[]:Array Value)))).IsList l items:=hl.at λo e=>oth l o (λz=>hSf (by rw[<-z];simp)) e
 have hT:Shared.TypeIs { s with heap:=(s.heap.push { cls:=.type "list", data:=.seq #[] }).update S (Obj.mapSeq (λ_=>(#[]:Array Value))) } (.ref I) "list_reverseiterator" := hit₂.typeIs
 unfold Builtin.List.listExtendWith
 refine wpAny_bind (wpAny_typeOf hT ?_)
 have h1:Builtin.List.listSameRef (.ref S) (.ref I)=false:=by simp[Builtin.List.listSameRef,hSI]
 have h2:(Value.type "list_reverseiterator" == Value.type "list")=false:=by decide
 have h3:(Value.type "list_reverseiterator" == Value.type "tuple")=false:=by decide
 simp only[h1,h2,h3,Bool.or_false,Bool.false_eq_true,if_false]
 refine wpAny_bind (wpAny_pyIter_revIter hit₂ ?_)
 refine wpAny_bind (wpAny_holding (iA hT ?_))
 refine wpAny_ite_split (λhab=>absurd hab (by decide)) (λ_=>?_)
 refine wpAny_pure ⟨plainId_quiet F.plain_extend_loop _,codeAny_extend_loopS W hn S hSf .none items.size 0 _ #[] _ rfl (Nat.zero_le _) ⟨Nat.zero_le _,hit₂,hl₂⟩ hS₂ (ItemsOf.nil _) λs' acc' c' hm hS' hacc=>?_⟩
 rw[Moved.eq_with hm]
 refine⟨rfl,hQ s'.heap s'.toks acc' c' (λb o hb e=>hm.heap b o (λhmem=>?_) (oth b o (λz=>?_) e)) hS' hacc⟩
 ·rcases List.mem_cons.mp hmem with e'|hmem
  ·rw[e',<-hS0]at e;exact absurd (Heap.lt_size e) (Nat.lt_irrefl _)
  ·exact hb (List.mem_singleton.mp hmem)
 ·rw[z,<-hS0]at e;exact absurd (Heap.lt_size e) (Nat.lt_irrefl _)
end
end LR
namespace L2
open PySem PySem.Spec PyProof.Rows
section
variable {X:Cx}
def vq (K:PySem.W.Frag) (ta:TA):TE:=λσ H Q=>ta σ H λvs H1=>∃l xs,vs=[.ref l]/\SqL K H1 l xs/\∀p,H1 p=none->Q (.ref p) (upd H1 p (.lst xs.reverse))
theorem uw {a:Expr} {ta:TA} {p1 p2 pos1 pos2:Pos} (hc:X.calm=true) (hg:Gl X "list") (hm:X.mg "list" = none) (hg2:Gl X "reversed") (hm2:X.mg "reversed" = none) (ha:PA X [a] ta)
  (hs:starEach [a] X.env=[(false,eval a X.env)]:=by rfl)
  (hs0:starEach [.Call (.Name "reversed" p2) [a] [] pos2] X.env=[(false,eval (.Call (.Name "reversed" p2) [a] [] pos2) X.env)]:=by rfl) :
  PE X (.Call (.Name "list" p1) [.Call (.Name "reversed" p2) [a] [] pos2] [] pos1) (vq X.K ta):=by
 intro pins s σ H Q I h
 refine Call_ (dj I hg hm PyProof.Rows.boot_list (PyProof.Rows.callWith_type1 ?_ hs0 rfl))
 rw[hs0]
 show wpAny _ _ (spliced [(false,eval (.Call (.Name "reversed" p2) [a] [] pos2) X.env)]) _ _ s
 refine Calls.spliced_cons ?_
 refine Call_ (dj I hg2 hm2 PyProof.Rows.boot_reversed (PyProof.Rows.callWith_type1 (thn (ha pos2 pins s σ H _ I h) λws s1 ⟨vs,H1,I1,r1,q1⟩=>?_) hs rfl))
 obtain⟨l,xs,e,hq,q⟩:=q1
 subst e
 obtain⟨u,e,ru⟩:=eP r1
 subst e
 cases (show u=Value.ref l from ru)
 obtain⟨its,rv,pl,hz⟩:=I1.list hq
 have ll:l<s1.heap.objs.size:=by obtain⟨o,ho,_⟩:=pl.isList;exact Heap.lt_size ho
 refine call_reversed_list pl.isList ?_
 refine Calls.spliced_nil ?_
 have I2:Inv X pins σ H1 { s1 with heap:=s1.heap.push (revObj l ((its.toArray.size:Int)-1)) }:=I1.kept (t':=s1.toks) λb o e=>Heap.get?_push_of_some _ e
 have hit:(s1.heap.push (revObj l ((its.toArray.size:Int)-1))).IsRevIter s1.heap.objs.size l ((its.toArray.size:Int)-1):=⟨_,Heap.get?_push_size _ rfl,rfl,rfl⟩
 refine LR.call_list_rev (A:=X.A) (items:=its.toArray) (I2.ok.hd hc) hit (pl.isList.at λo e=>Heap.get?_push_of_some _ e) (Nat.ne_of_lt ll) (by rw[List.size_toArray,<-rv.length];exact hz) λh' tk acc' c' hk hS' hacc=>?_
 have r:aY xs.reverse acc'.toList:=by
  refine paired_get (by rw[List.length_reverse,show acc'.toList.length=acc'.size from Array.length_toList,hacc.1];exact rv.length) λj x y e1 e2=>?_
  have e3:=hacc.2 j y (by simpa using e2)
  have hj:j<xs.length:=by have:=(List.getElem?_eq_some_iff.mp e1).1;rwa [List.length_reverse]at this
  rw[List.getElem?_reverse hj]at e1
  obtain⟨u,hu,ru⟩:=rv.get e1
  rw[List.size_toArray,<-rv.length]at e3
  have e3':its[xs.length-1-j]?=some y:=by simpa using e3
  rw[hu]at e3'
  cases e3'
  exact ru
 have kp:∀b o,s1.heap.get? b=some o->h'.get? b=some o:=λb o e=>hk b o (Nat.ne_of_lt (Heap.lt_size e)) (Heap.get?_push_of_some _ e)
 have hle:s1.heap.objs.size<=(s1.heap.push (revObj l ((its.toArray.size:Int)-1))).objs.size:=by rw[Heap.size_push];exact Nat.le_succ _
 exact⟨.ref _,_,I1.laid (t':=tk) kp hle (show bo X.prog X.w _ h' _ (.lst _) from⟨by rw[List.length_reverse];exact hz,acc'.toList,c',r,by simpa using hS'⟩),rfl,q _ (I1.hok.fresh hle)⟩
end
section
variable {X:Cx} {elts:List Expr} {k:Nat} {tpos:Pos}
end
section
variable {X:Cx}
end
section
variable {X:Cx} {elts:List Expr} {k:Nat} {tpos:Pos}
end
end L2
namespace Bf
section
variable {κ:Type} [DecidableEq κ]
def a9 (w:List κ):List κ->List κ
 | []=>w
 | k::ks=>a9 (if k∈w then w else w++[k]) ks
def bfs (nx:κ->List κ) (s:κ):Nat->List κ
 | 0=>[s]
 | n+1=>match (bfs nx s n)[n]? with
  | some h=>a9 (bfs nx s n) (nx h)
  | none=>bfs nx s n
inductive Reach (nx:κ->List κ) (s:κ):κ->Prop
 | start:Reach nx s s
 | step {a b:κ}:Reach nx s a->b∈nx a->Reach nx s b
theorem c7:∀(ks w:List κ),w <+: a9 w ks
 | [],w=>List.prefix_refl w
 | k::ks,w=>by
  unfold a9
  refine List.IsPrefix.trans ?_ (c7 ks _)
  split
  ·exact List.prefix_refl w
  ·exact List.prefix_append w [k]
theorem dH:∀(ks w:List κ) (x:κ),x∈a9 w ks↔x∈w\/x∈ks
 | [],w,x=>by simp[a9]
 | k::ks,w,x=>by
  unfold a9
  rw[dH ks]
  split
  ·rename_i h
   constructor
   ·rintro(q|q)
    ·exact .inl q
    ·exact .inr (List.mem_cons_of_mem _ q)
   ·rintro(q|q)
    ·exact .inl q
    ·rcases List.mem_cons.mp q with e|q
     ·subst e;exact .inl h
     ·exact .inr q
  ·rw[List.mem_append,List.mem_singleton,List.mem_cons,or_assoc]
theorem dv:∀(ks w:List κ),w.Nodup->(a9 w ks).Nodup
 | [],w,h=>h
 | k::ks,w,h=>by
  unfold a9
  refine dv ks _ ?_
  split
  ·exact h
  ·rename_i hk
   rw[List.nodup_append]
   refine⟨h,by simp,λa ha b hb=>?_⟩
   rw[List.mem_singleton]at hb
   subst hb
   intro e
   subst e
   exact hk ha
theorem jX (w ks ls:List κ):a9 w (ks++ls)=a9 (a9 w ks) ls:=by
 induction ks generalizing w with
 | nil=>rfl
 | cons k ks ih=>exact ih _
variable {w xs ys:List κ}
theorem jI {k:κ} (h:k∈w):a9 w [k]=w:=by simp[a9,h]
theorem jH {k:κ} (h:k∉w):a9 w [k]=w++[k]:=by simp[a9,h]
variable {nx:κ->List κ} {s:κ}
variable {n i m:Nat}
theorem eC {h:κ} (e:(bfs nx s n)[n]?=some h):bfs nx s (n+1)=a9 (bfs nx s n) (nx h):=by
 show (match (bfs nx s n)[n]? with|some h=>a9 (bfs nx s n) (nx h)|none=>bfs nx s n)=_
 rw[e]
theorem fj (e:(bfs nx s n)[n]?=none):bfs nx s (n+1)=bfs nx s n:=by
 show (match (bfs nx s n)[n]? with|some h=>a9 (bfs nx s n) (nx h)|none=>bfs nx s n)=_
 rw[e]
theorem jC (n:Nat):bfs nx s n <+: bfs nx s (n+1):=by
 cases e:(bfs nx s n)[n]? with
 | none=>rw[fj e];exact List.prefix_refl _
 | some h=>rw[eC e];exact c7 _ _
theorem iu (n:Nat):∀m,bfs nx s n <+: bfs nx s (n+m)
 | 0=>List.prefix_refl _
 | m+1=>(iu n m).trans (jC (n+m))
theorem il (h:xs <+: ys) {x:κ} (e:xs[i]?=some x):ys[i]?=some x:=by
 obtain⟨t,rfl⟩:=h
 rw[List.getElem?_append_left (List.getElem?_eq_some_iff.mp e).1]
 exact e
theorem iX (h:xs <+: ys) {x:κ} (hi:i<xs.length) (e:ys[i]?=some x):xs[i]?=some x:=by
 obtain⟨t,rfl⟩:=h
 rw[List.getElem?_append_left hi]at e
 exact e
theorem bV:∀n,(bfs nx s n).Nodup
 | 0=>by simp[bfs]
 | n+1=>by
  cases e:(bfs nx s n)[n]? with
  | none=>rw[fj e];exact bV n
  | some h=>rw[eC e];exact dv _ _ (bV n)
theorem cH:∀n x,x∈bfs nx s n->Reach nx s x
 | 0,x,h=>by
  have:x=s:=by simpa[bfs] using h
  subst this
  exact .start
 | n+1,x,hx=>by
  cases e:(bfs nx s n)[n]? with
  | none=>rw[fj e]at hx;exact cH n x hx
  | some h =>
   rw[eC e]at hx
   rcases(dH _ _ _).mp hx with q|q
   ·exact cH n x q
   ·exact .step (cH n h (List.mem_of_getElem? e)) q
theorem nF (n:Nat):(bfs nx s n)[0]?=some s:=il (by have:=iu (nx:=nx) (s:=s) 0 n;rwa [Nat.zero_add]at this) rfl
theorem rj (n:Nat):s∈bfs nx s n:=List.mem_of_getElem? (nF n)
theorem jD {n i:Nat} {h:κ} (hi:i<n) (e:(bfs nx s n)[i]?=some h):∀k∈nx h,k∈bfs nx s n:=by
 have h1:bfs nx s i <+: bfs nx s n:=by
  have:=iu (nx:=nx) (s:=s) i (n-i)
  rwa [Nat.add_sub_cancel' (Nat.le_of_lt hi)]at this
 have h2:bfs nx s (i+1) <+: bfs nx s n:=by
  have:=iu (nx:=nx) (s:=s) (i+1) (n-(i+1))
  rwa [Nat.add_sub_cancel' hi]at this
 intro k hk
 cases q:(bfs nx s i)[i]? with
 | some h' =>
  have:some h'=some h:=(il h1 q).symm.trans e
  cases this
  refine h2.subset ?_
  rw[eC q]
  exact(dH _ _ _).mpr (.inr hk)
 | none =>
  -- then nothing is added any more
  exfalso
  have stay:∀m,bfs nx s (i+m)=bfs nx s i:=by
   intro m
   induction m with
   | zero=>rfl
   | succ m ih =>
    have:(bfs nx s (i+m))[i+m]?=none:=by
     rw[ih]
     exact List.getElem?_eq_none (Nat.le_trans (List.getElem?_eq_none_iff.mp q) (Nat.le_add_right i m))
    exact(fj this).trans ih
  have:=stay (n-i)
  rw[Nat.add_sub_cancel' (Nat.le_of_lt hi)]at this
  rw[this,q]at e
  cases e
theorem p_ (hn:(bfs nx s n).length<=n) (x:κ):x∈bfs nx s n↔Reach nx s x:=by
 refine⟨cH n x,λr=>?_⟩
 induction r with
 | start=>exact rj n
 | step r hb ih =>
  obtain⟨i,hi,e⟩:=List.mem_iff_getElem.mp ih
  exact jD (i:=i) (by omega) (by rw[List.getElem?_eq_getElem hi,e]) _ hb
theorem fS:∀(ks w:List κ) (j:Nat) (x:κ),w.length<=j->(a9 w ks)[j]?=some x->x∈ks
 | [],w,j,x,hj,e=>by
  have:w[j]?=some x:=e
  rw[List.getElem?_eq_none hj]at this
  cases this
 | k::ks,w,j,x,hj,e=>by
  unfold a9 at e
  split at e
  ·exact List.mem_cons_of_mem _ (fS ks w j x hj e)
  ·by_cases c:j=w.length
   ·subst c
    have:=iX (c7 ks (w++[k])) (i:=w.length) (by simp) e
    rw[List.getElem?_append_right (Nat.le_refl _)]at this
    simp at this
    exact this▸List.mem_cons_self
   ·exact List.mem_cons_of_mem _ (fS ks (w++[k]) j x (by simp;omega) e)
theorem jB:∀(n j:Nat) (x:κ),0<j->(bfs nx s n)[j]?=some x->∃i h,i<j/\i<n/\(bfs nx s n)[i]?=some h/\x∈nx h
 | 0,j,x,hj,e=>by
  have:([s]:List κ)[j]?=some x:=e
  rw[List.getElem?_eq_none (by simp;omega)]at this
  cases this
 | n+1,j,x,hj,e=>by
  cases q:(bfs nx s n)[n]? with
  | none =>
   rw[fj q]at e ⊢
   obtain⟨i,h,h1,h2,h3,h4⟩:=jB n j x hj e
   exact⟨i,h,h1,by omega,h3,h4⟩
  | some h =>
   rw[eC q]at e ⊢
   by_cases c:j<(bfs nx s n).length
   ·have e':=iX (c7 (nx h) (bfs nx s n)) c e
    obtain⟨i,h',h1,h2,h3,h4⟩:=jB n j x hj e'
    exact⟨i,h',h1,by omega,il (c7 _ _) h3,h4⟩
   ·have hn:n<(bfs nx s n).length:=(List.getElem?_eq_some_iff.mp q).1
    exact⟨n,h,by omega,by omega,il (c7 _ _) q,fS _ _ j x (by omega) e⟩
theorem vb (hn:(bfs nx s n).length=n) (hm:(bfs nx s m).length=m):n=m:=by
 have a:∀x,x∈bfs nx s n↔x∈bfs nx s m:=λx=>(p_ (Nat.le_of_eq hn) x).trans (p_ (Nat.le_of_eq hm) x).symm
 have:=(List.perm_ext_iff_of_nodup (bV n) (bV m)).mpr a
 have:=this.length_eq
 omega
theorem pigeon:∀(xs ys:List κ),xs.Nodup->(∀x∈xs,x∈ys)->xs.length<=ys.length
 | [],_,_,_=>Nat.zero_le _
 | x::xs,ys,nd,h=>by
  rw[List.nodup_cons]at nd
  have hx:x∈ys:=h x List.mem_cons_self
  have:=pigeon xs (ys.erase x) nd.2 λy hy=>(List.mem_erase_of_ne (λz:y=x=>nd.1 (by rw[<-z];exact hy))).mpr (h y (List.mem_cons_of_mem _ hy))
  rw[List.length_erase_of_mem hx]at this
  have:0<ys.length:=List.length_pos_of_mem hx
  simp only[List.length_cons]
  omega
end
section
variable {κ:Type} [DecidableEq κ] {nx:κ->List κ} {s:κ}
end
end Bf
namespace L2
open PySem PySem.Spec PyProof.Rows
section
variable {X:Cx}
end
section
variable {X:Cx} {scope:Scope} {tgs:List Str} {cap:List (Str × Nat)}
theorem pB {j:Nat} {x:Str} {pos' spos:Pos} {elt tg iter:Expr} {ifs:List Expr} {pos:Pos} {wi:TI} {g:TG} {tt:TT} {te:TE} (hN:X.N.Nodup) (hj:X.N[j]?=some x) (hx:Loc X.env.scope x) (hc:X.calm=true) (B:BlockOk X scope tgs cap) (hi:PI X tg iter wi)
  (hg:∀C s H fp,PG (X.block (tgs++cap.map (·.1)) scope C s H fp) tg g) (ht:∀C s H fp,vj (X.block (tgs++cap.map (·.1)) scope C s H fp) ifs tt) (he:∀C s H fp,PE (X.block (tgs++cap.map (·.1)) scope C s H fp) elt te)
  (hs:∀x,foldedSetIterable iter X.env x=pure x:=by intro _;rfl) (hsw:swapsWith (.ListComp elt [⟨tg,iter,ifs,0⟩] scope pos) (some (.Name x pos')) spos.line X.env=pure true:=by rfl)
  (hf:X.fn x=true\/X.env.scope.names.lookup x=some .local:=by first|exact .inl rfl|exact .inr rfl|assumption):PS X (.Assign [.Name x pos'] (.ListComp elt [⟨tg,iter,ifs,0⟩] scope pos) spos) (qo (kh wi g tt te (bS tgs cap)) (eU j)):=by
 intro pins s σ H D I h
 rw[exec_Assign_Name_used _ _ _ _ hsw]
 refine wpAny_bind (wpAny_standAt (wpAny_bind ?_))
 show wpAny _ _ (comprehension _ _ _ _ _ _ _ _ >>= _) _ _ _
 refine wpAny_bind (thn (Q:=λ_ s'=>SP X pins D .next s') ?_ λ_ s' q=>wpAny_pure (wpAny_pure q))
 refine wpAny_comprehension_free (use:=some (assign (.Name x pos') X.env)) rfl hs (jv (B.cellAt I.ok)) B.kind B.locs (thn (hi pins s σ H _ I h) λv s1 h1=>thn h1 λitv s2 h2=>?_)
 obtain⟨it,fp,tn,J,H2,e,I2,T,st2,f2,q⟩:=h2
 subst e
 have lt2:∀b∈fp,b<s2.heap.objs.size:=λb hb=>let ⟨o,e,_⟩:=T.obj _ _ st2 b hb;Heap.lt_size e
 have hD:H2 s2.heap.objs.size=none:=I2.hok.fresh (Nat.le_refl _)
 obtain⟨W,⟨m0,w0⟩,turn⟩:=q s2.heap.objs.size hD
 refine wpAny_newObj_type ?_
 have I3:Inv X pins σ (upd H2 s2.heap.objs.size (.lst [])) { s2 with heap:=s2.heap.push { cls:=.type "list", dict:=none,data:=.seq ([]:List Value).toArray } }:=I2.lnew (t':=s2.toks) (ys:=[]) (its:=[]) .nil (Nat.zero_le _)
 have st3:tn 0 (s2.heap.push { cls:=.type "list", dict:=none,data:=.seq ([]:List Value).toArray }):=T.keep _ _ _ st2 λb _ o e=>Heap.get?_push_of_some _ e
 have nD:∀b∈fp,b≠s2.heap.objs.size:=λb hb=>Nat.ne_of_lt (lt2 b hb)
 have f3:∀b∈fp,fU X pins (upd H2 s2.heap.objs.size (.lst [])) b:=λb hb=>⟨by rw[aj (nD b hb)];exact(f2 b hb).1,(f2 b hb).2⟩
 generalize hs3:({ s2 with heap:=s2.heap.push { cls:=.type "list", dict:=none,data:=.seq ([]:List Value).toArray } }:Shared)=s3 at I3 st3 ⊢
 have st3':tn 0 s3.heap:=by rw[<-hs3];exact st3
 have lt3:∀b∈fp,b<s3.heap.objs.size:=λb hb=>let ⟨o,e,_⟩:=T.obj _ _ st3' b hb;Heap.lt_size e
 generalize hH3:upd H2 s2.heap.objs.size (.lst [])=H3 at I3 f3 w0
 generalize s2.heap.objs.size=DD at *
 refine wpAny_newFunctionEnv B.noc (by intro y hy;simp at hy) (λh1 hns hsb=>?_) B.kind
 have old:∀b o,s3.heap.get? b=some o->h1.get? b=some o:=λb o e=>hsb.extBut b o (Nat.ne_of_lt (Heap.lt_size e)) (Heap.get?_push_of_some _ e)
 have I4:=Inv.enter (tk:=s3.toks+([]:List (Str × Value)).length) (h1:=h1) B I3 f3 lt3 hns old
 have st4:tn 0 h1:=T.keep _ _ _ st3' λb _ o e=>old b o e
 have fpB:∀{H':Hp},(∀b∈fp,H' b=none)->∀b∈fp,fU (X.block (tgs++cap.map (·.1)) scope s3.heap.objs.size s3 H3 fp) [] H' b:=λ{H'} hn b hb =>
  ⟨hn b hb,Nat.ne_of_lt (lt3 b hb),I4.ok.exfs b hb,.inl hb,λx c e=>(I4.ok.exf b hb).2 x c e,λp hp=>absurd (show p∈([]:List (Addr × Obj)) from hp) (by simp)⟩
 have loop:codeAny (model X.prog X.w) X.A (.compLoop (.ListComp elt [⟨tg,iter,ifs,0⟩] scope pos) 0 (.ref it) (.ref DD) (compEnvC scope (cU X.env scope.names []) s3.heap.objs.size X.env))
   (compPost (model X.prog X.w) X.A X.xe (some (assign (.Name x pos') X.env)) (λ_ s'=>SP X pins D .next s') (.ref DD) s3.heap.objs.size) { s3 with heap:=h1,toks:=s3.toks+([]:List (Str × Value)).length }:=by
  refine gk (λn s'=>∃i H' ys,Inv (X.block (tgs++cap.map (·.1)) scope s3.heap.objs.size s3 H3 fp) [] (bS tgs cap σ) H' s'/\tn i s'.heap/\(∀b∈fp,H' b=none)/\W i n H' ys) ?_ m0 ⟨0,H3,[],I4,st4,λb hb=>(f3 b hb).1,w0⟩
  rintro n s5 ⟨i,H5,ys,I5,st5,fr5,w5⟩
  obtain⟨hl,ht5⟩:=turn i n H5 ys w5
  rcases ht5 with⟨stop,qd⟩|⟨go,step⟩
  ·refine thn (T.done (X.block (tgs++cap.map (·.1)) scope s3.heap.objs.size s3 H3 fp) rfl rfl rfl hc i [] s5 _ H5 _ I5 (fpB fr5) st5 stop) λr s6 ⟨hr,I6⟩=>?_
   subst hr
   obtain⟨m6,n6,_⟩:=I6.loc
   have IO:Inv X pins σ H5 s6:=Inv.leave (h2:=s6.heap) I3 f3 I6 ⟨rfl,λ_ _=>rfl⟩
   have fC:fU X pins H5 s3.heap.objs.size:=⟨I6.free,(I3.fpOk (Nat.le_refl _) (I3.hok.fresh (Nat.le_refl _))).2⟩
   obtain⟨f0,f1,f2',f3',f4,f5⟩:=fC
   refine wpAny_assign_Name (ki IO hN hj hx (show aS (.ref DD) (.ref DD) from rfl) (λs7 I7 ⟨a,sb,ha⟩=>?_) hf)
   have na:s3.heap.objs.size≠a:=by
    rcases ha with z|z
    ·rw[z];exact f1
    ·exact λy=>f4 x a z y.symm
   obtain⟨o6,es6,ep6,ho6,r6⟩:=n6
   refine⟨m6,⟨o6,es6,ep6,(sb.2 _ na).trans ho6,r6⟩,λh' hs'=>⟨_,H5,I7.turned (t':=s7.toks) (λb o hb q=>(hs'.2 b hb).trans q) f0 f1 f3' f4 f5,qd⟩⟩
  ·refine thn (T.item (X.block (tgs++cap.map (·.1)) scope s3.heap.objs.size s3 H3 fp) rfl rfl rfl hc i [] s5 _ H5 _ I5 (fpB fr5) st5 go) λr s6 ⟨u,hr,h6⟩=>?_
   subst hr
   refine thn h6 λ_ s7 ⟨x,H7,I7,r7,y7,st7,fr7⟩=>?_
   have I7':=I7.pinned (fpB fr7) (T.obj _ _ st7)
   have again:∀{σ8:St} {H8:Hp} {s8:Shared} {ys8:List V},Inv (X.block (tgs++cap.map (·.1)) scope s3.heap.objs.size s3 H3 fp) ([]++gG fp s7.heap) σ8 H8 s8->wk (bS tgs cap σ) σ8->(∃m',m'<n/\W (i+1) m' H8 ys8) ->
     ∃m,m<n/\∃i H' ys,Inv (X.block (tgs++cap.map (·.1)) scope s3.heap.objs.size s3 H3 fp) [] (bS tgs cap σ) H' s8/\tn i s8.heap/\(∀b∈fp,H' b=none)/\W i m H' ys:=λ{σ8 H8 s8 ys8} I8 k8 ⟨m',hm,w8⟩=>by
    refine⟨m',hm,i+1,H8,ys8,I8.unpinned.weak (kW k8) (kX k8),T.keep _ _ _ st7 λb hb o e=>(I8.pin (b,o) (List.mem_append_right _ (List.mem_append_right _ (cW hb e)))).1,λb hb=>?_,w8⟩
    obtain⟨o,e,d⟩:=T.obj _ _ st7 b hb
    exact(I8.pin (b,o) (List.mem_append_right _ (List.mem_append_right _ (cW hb e)))).2.1
   refine thn (hg _ _ _ _ _ s7 _ H7 x u _ I7' r7 (step x H7 y7)) λ_ s8 ⟨σ8,H8,I8,k8,q8⟩=>?_
   refine thn (ht _ _ _ _ _ s8 σ8 H8 _ I8 q8) λok s9 ⟨H9,I9,q9⟩=>?_
   cases ok with
   | false =>
    rw[if_neg Bool.false_ne_true]at q9 ⊢
    exact again I9 k8 q9
   | true =>
    rw[if_pos rfl]at q9 ⊢
    refine thn (he _ _ _ _ _ s9 σ8 H9 _ I9 q9) λy sA ⟨yv,HA,IA,rA,hA,zA,qA⟩=>?_
    exact thn (ba _ sA σ8 HA (.ref DD) [yv] (.ref DD) [y] (λv H'=>v=.non/\∃m',m'<n/\W (i+1) m' H' (ys++[yv])) IA rfl (.cons rA .nil) ⟨DD,ys,yv,rfl,rfl,hA,zA,rfl,qA⟩) λ_ sB ⟨_,HB,IB,_,_,qB⟩=>again IB k8 qB
 exact codeAny_compStart_list loop (T.self _ 0 _ _ _ st4 loop)
end
end L2
namespace L2
open PySem PySem.Spec PyProof.Rows
open AutoSeq1 (wpAny_loadPart')
section
variable {P:Program} {w:World} {A:Around} {E:Value->Shared->Prop} {s:Shared}
theorem rb (l:Addr) (c:Int) (tc:Tok) (hc:Builtin.SmallTypes.fitsIndex c=true) (its:Array Value) (m:Nat) (dd:Option Addr) (ss:Array (Option Value)) :
  Meets (Builtin.«enumerate.__new__» ⟨[.type "enumerate", .ref l],[("start", .int c tc)]⟩) (λ_ R t=>t.heap.get? l=some { cls:=.type "list", dict:=dd,data:=.seq its m,slots:=ss } /\
   R (.ok (.ret (.ref (t.heap.push { cls:=.type "list_iterator", data:=.fields #[.ref l,.int 0 0] }).objs.size)))
    { t with heap:=(t.heap.push { cls:=.type "list_iterator", data:=.fields #[.ref l,.int 0 0] }).push { cls:=.type "enumerate", data:=.fields #[.none,.bool false,.ref t.heap.objs.size,rawInt c,.none,.none] } }):=by
 refine .of_wp λP w A R t ht=>?_
 obtain⟨hp,g,d,tk,os⟩:=t
 obtain⟨hl,h⟩:=ht
 have sub:=sub_enumerate
 have hL:Heap.IsList (Shared.heap ⟨hp,g,d,tk,os⟩) l its:=⟨_,hl,rfl,m,rfl⟩
 wp_walk using wpAny_loadPart' hl
 refine wpAny_stack_any λst=>wpAny_pure ?_
 have nf:(!Builtin.SmallTypes.fitsIndex c)=false:=by rw[hc];rfl
 split
 rotate_left
 ·(wp_walk using wpAny_loadPart' hl,wpAny_pyIter_list hL);exact⟨_,rfl,h⟩
 ·rename_i k _ _ _ _ _
  cases (k==Value.type "enumerate") <;> ((wp_walk using wpAny_loadPart' hl,wpAny_pyIter_list hL);exact⟨_,rfl,h⟩)
theorem qk (a b:Value):checkTypeCall "enumerate" ⟨[a],[("start", b)]⟩=pure ():=by kernel_rfl
theorem sW (a b:Value):checkBuiltinCall "enumerate.__new__" ⟨[.type "enumerate", a],[("start", b)]⟩=pure ():=by kernel_rfl
theorem Bc (a b c:Value):argsOk "object.__init__" ⟨[a,b],[("start", c)]⟩:=by
 show Bind.checkArgs _ _ _=_
 kernel_rfl
theorem sU {T nid:String} {o a b:Value} (hl:typeLookup (.type T) "__init__" = pure (some (.builtin "object.__init__"))) (hm:Bind.madeBy (.type T)=pure (some nid)) (ne:(some nid != some "object.__new__")=true) :
  Meets (Builtin.«object.__init__» ⟨[o,a],[("start", b)]⟩) (λ_ R t=>t.TypeIs o T/\R (.ok (.ret .none)) t):=by
 refine .of_wp λP w A R t ⟨hT,hq⟩=>?_
 repeat (any_goals (first|assumption|wp_step))
 exact⟨_,rfl,hq⟩
end
end L2
namespace L2
open PySem PySem.Spec PyProof.Rows
variable {P:Program} {w:World} {A:Around} {E:Value->Shared->Prop} {s:Shared}
section
theorem oW {l:Addr} {c:Int} {tc:Tok} {its:Array Value} {Q:Value->Shared->Prop} (hc:Builtin.SmallTypes.fitsIndex c=true) (hL:s.heap.IsList l its)
  (h:∀h',IsEnum h' (s.heap.objs.size+1) s.heap.objs.size c .none->h'.IsListIter s.heap.objs.size l 0->(∀b o,s.heap.get? b=some o->h'.get? b=some o)->Q (.ref (s.heap.objs.size+1)) { s with heap:=h' }) :
  wpAny (model P w) A (call (.type "enumerate") [.ref l] [("start", .int c tc)]) Q E s:=by
 obtain⟨⟨k,dd,dt,ss⟩,hl,hk,m,hd⟩:=hL
 have hk:k=.type "list" := hk
 have hd:dt=.seq its m:=hd
 subst hk hd
 have ft:=F.called_enumerate
 obtain⟨c0,tl,hmro⟩:=ft.mro
 have hmade:=ft.made
 have hsub:=ft.sub
 have h1:=ft.notType
 have h2:=ft.canCreate
 have hct:=qk (.ref l) (.int c tc)
 refine wpAny_call (codeAny_of_tree ?_)
 show wpAny _ _ (callAny (.type "enumerate") _) _ _ _
 refine wpAny_pure ⟨Code.quiet_builtin _ (by decide +kernel),codeAny_builtin F.entry_type_call ?_⟩
 rw[Around.under_plain (weight_type_call_type "enumerate" [.ref l] [("start", .int c tc)]) (units_type_call_type "enumerate" [.ref l] [("start", .int c tc)])]
 repeat (any_goals (first|assumption|wp_step))
 have hcn:=sW (.ref l) (.int c tc)
 refine codeAny_mono (codeAny_call_builtin ft.plain F.entry_enumerate_new (wpAny_of_eq hcn ((rb l c tc hc its m dd ss) P w A.in1 (wants (λobj s₁=>s₁.TypeIs obj "enumerate" /\ Q obj s₁) E) s ⟨hl,?_⟩))) λr s₁ hr=>?_
 ·have hz:(s.heap.push { cls:=.type "list_iterator", data:=.fields #[.ref l,.int 0 0] }).objs.size=s.heap.objs.size+1:=Heap.size_push ..
  show _/\_
  rw[hz]
  have he:=Heap.get?_push_size (s.heap.push { cls:=.type "list_iterator", data:=.fields #[.ref l,.int 0 0] }) (o:={ cls:=.type "enumerate", data:=.fields #[.none,.bool false,.ref s.heap.objs.size,rawInt c,.none,.none] }) rfl
  rw[hz]at he
  exact⟨⟨_,he,rfl⟩,h _ he ⟨_,Heap.get?_push_of_some _ (Heap.get?_push_size _ rfl),rfl,rfl⟩ λb o x=>Heap.get?_push_of_some _ (Heap.get?_push_of_some _ x)⟩
 ·cases r with
  | error e=>exact hr
  | ok fl =>
   cases fl with
   | ret obj =>
    obtain⟨hT,hq⟩:=hr
    have hli:=ft.init.lookup
    have hbi:=ft.init.bind obj
    repeat (any_goals (first|assumption|wp_step))
    refine codeAny_mono (codeAny_call_builtin ft.init.plain F.entry_object_init (ft.init.check _ _ _ _ _ _ _ _ hT (Bc obj _ _) ((sU ft.init.lookup ft.made (by decide)) P w A.in1 (wants (λr s₂=>r=.none/\Q obj s₂) E) s₁ ⟨hT,rfl,hq⟩))) λr₂ s₂ hr₂=>?_
    cases r₂ with
    | error e=>exact hr₂
    | ok fl₂ =>
     cases fl₂ with
     | ret r=>obtain⟨rfl,hq⟩:=hr₂;repeat (any_goals (first|assumption|wp_step))
     | _=>exact hr₂.elim
   | _=>exact hr.elim
end
section
variable {its:Array Value} {e it l:Addr}
theorem oO {i:Nat} {c:Int} {x old:Value} {Q:Value->Shared->Prop} (he:IsEnum s.heap e it c old) (hit:s.heap.IsListIter it l i) (hl:s.heap.IsList l its) (hx:its[i]?=some x) (hne:e≠it)
  (hQ:∀h',IsEnumOut h' e it (c+1) x s.heap.objs.size->h'.IsListIter it l (i+1)->h'.get? s.heap.objs.size=some { cls:=.type "tuple", data:=.seq #[.int c s.toks,x] } ->
   (∀b o,b≠e->b≠it->s.heap.get? b=some o->h'.get? b=some o)->Q (.ref s.heap.objs.size) { s with heap:=h',toks:=s.toks+1 }) :
  wpAny (model P w) A (Builtin.«enumerate.__next__» ⟨[.ref e],[]⟩) (λfin s'=>∃v,fin=.done (.ret v)/\Q v s') E s:=by
 obtain⟨hp,g,d,tk,os⟩:=s
 show wpAny _ _ (field (.ref e) 2 >>= _) _ _ _
 refine wpAny_bind (wpAny_field he rfl (x:=.ref it) rfl (wpAny_bind (wpAny_nextOf_list_item hit hl hx λk1 i1 s1=>?_)))
 have s1:Heap.SameBut it hp k1:=s1
 have e1:IsEnum k1 e it c old:=(s1.2 e hne).trans he
 show wpAny _ _ (field (.ref e) 3 >>= _) _ _ ⟨k1,g,d,tk,os⟩
 refine wpAny_bind (wpAny_field e1 rfl (x:=rawInt c) rfl ?_)
 show wpAny _ _ (field (.ref e) 4 >>= _) _ _ ⟨k1,g,d,tk,os⟩
 refine wpAny_bind (wpAny_field e1 rfl (x:=.none) rfl ?_)
 show wpAny _ _ (mkInt c >>= _) _ _ ⟨k1,g,d,tk,os⟩
 refine wpAny_bind (wpAny_mkInt ?_)
 show wpAny _ _ (setField (.ref e) 3 (rawInt (c+1)) >>= _) _ _ ⟨k1,g,d,tk+1,os⟩
 refine wpAny_bind (wpAny_setField_rec e1 (by simp) λk2 e2 s2=>?_)
 have s2:Heap.SameBut e k1 k2:=s2
 have e2:IsEnum k2 e it (c+1) old:=e2
 show wpAny _ _ (setField (.ref e) 4 .none >>= _) _ _ ⟨k2,g,d,tk+1,os⟩
 refine wpAny_bind (wpAny_setField_rec e2 (by simp) λk3 e3 s3=>?_)
 have s3:Heap.SameBut e k2 k3:=s3
 have e3:IsEnum k3 e it (c+1) old:=e3
 show wpAny _ _ (newTuple [.int c tk,x] >>= _) _ _ ⟨k3,g,d,tk+1,os⟩
 refine wpAny_bind (wpAny_newTuple ?_)
 have e4:IsEnum (k3.push { cls:=.type "tuple", data:=.seq #[.int c tk,x] }) e it (c+1) old:=Heap.get?_push_of_some _ e3
 generalize hh:k3.push { cls:=.type "tuple", data:=.seq #[.int c tk,x] }=k4 at e4
 have sz:k3.objs.size=hp.objs.size:=by rw[s3.1,s2.1,s1.1]
 have el:e<hp.objs.size:=Heap.lt_size he
 have t4:k4.get? hp.objs.size=some { cls:=.type "tuple", data:=.seq #[.int c tk,x] }:=by rw[<-hh,<-sz];exact Heap.get?_push_size _ rfl
 have kp:∀b o,b≠e->b≠it->hp.get? b=some o->k4.get? b=some o:=λb o n1 n2 q=>by rw[<-hh];exact Heap.get?_push_of_some _ (s3.extBut b o n1 (s2.extBut b o n1 (s1.extBut b o n2 q)))
 have i4:k4.IsListIter it l (i+1):=by
  obtain⟨o,ho,r⟩:=(i1.extBut s2.extBut (Ne.symm hne)).extBut s3.extBut (Ne.symm hne)
  exact⟨o,by rw[<-hh];exact Heap.get?_push_of_some _ ho,r⟩
 show wpAny _ _ (Builtin.SmallTypes.ownedTupleIsFree (.ref e) >>= _) _ _ ⟨k4,g,d,tk+1,os⟩
 rw[sz]
 refine wpAny_bind ?_
 unfold Builtin.SmallTypes.ownedTupleIsFree
 refine wpAny_bind (wpAny_field e4 rfl (x:=.none) rfl (wpAny_pure ?_))
 simp only[if_true]
 refine wpAny_bind (wpAny_rule (wpAny_bind (wpAny_field e4 rfl (x:=old) rfl (wpAny_bind (wpAny_setField_rec e4 (by simp) λk5 e5 s5=>?_)))))
 have s5:Heap.SameBut e k4 k5:=s5
 have e5:IsEnum k5 e it (c+1) x:=e5
 show wpAny _ _ (Builtin.SmallTypes.ownedTupleHandOut (.ref e) (.ref hp.objs.size) >>= _) _ _ ⟨k5,g,d,tk+1,os⟩
 refine wpAny_bind ?_
 unfold Builtin.SmallTypes.ownedTupleHandOut
 refine wpAny_bind (wpAny_setField_rec e5 (by simp) λk6 e6 s6=>?_)
 have s6:Heap.SameBut e k5 k6:=s6
 have e6:IsEnumOut k6 e it (c+1) x hp.objs.size:=e6
 refine wpAny_setField_rec e6 (by simp) λk7 e7 s7=>?_
 have s7:Heap.SameBut e k6 k7:=s7
 have e7:IsEnumOut k7 e it (c+1) x hp.objs.size:=e7
 have far:∀b o,b≠e->k4.get? b=some o->k7.get? b=some o:=λb o n q=>s7.extBut b o n (s6.extBut b o n (s5.extBut b o n q))
 exact wpAny_bind (wpAny_letGo (wpAny_pure ⟨_,rfl,hQ k7 e7 (((i4.extBut s5.extBut (Ne.symm hne)).extBut s6.extBut (Ne.symm hne)).extBut s7.extBut (Ne.symm hne)) (far _ _ (Nat.ne_of_gt el) t4) λb o n1 n2 q=>far b o n1 (kp b o n1 n2 q)⟩))
variable {Q:Option Value->Shared->Prop}
theorem lK {i:Nat} {c:Int} {x old:Value} (he:IsEnum s.heap e it c old) (hit:s.heap.IsListIter it l i) (hl:s.heap.IsList l its) (hx:its[i]?=some x) (hne:e≠it)
  (hQ:∀h',IsEnumOut h' e it (c+1) x s.heap.objs.size->h'.IsListIter it l (i+1)->h'.get? s.heap.objs.size=some { cls:=.type "tuple", data:=.seq #[.int c s.toks,x] } ->
   (∀b o,b≠e->b≠it->s.heap.get? b=some o->h'.get? b=some o)->Q (some (.ref s.heap.objs.size)) { s with heap:=h',toks:=s.toks+1 }):wpAny (model P w) A (pyNext (.ref e)) Q E s:=by
 have ty:s.TypeIs (.ref e) "enumerate" := ⟨_,he,rfl⟩
 unfold pyNext
 refine wpAny_bind (wpAny_attempt (wpAny_callSpecial?_slot (name:=Str.ofString "__next__") ty F.slot_enumerate_next (wpAny_call_entry F.slot_enumerate_next ty F.entry_enumerate_next (oO he hit hl hx hne λh' a b c k=>?_) (F.args_enumerate_next_1 _))))
 exact wpAny_pure (hQ h' a b c k)
theorem gC {i:Nat} {c:Int} {old:Value} (hh:A.handled=none) (he:IsEnum s.heap e it c old) (hit:s.heap.IsListIter it l i) (hl:s.heap.IsList l its) (hx:its[i]?=none)
  (hQ:∀h',Heap.ExtBut it s.heap h'->Q none { s with heap:=h' }):wpAny (model P w) A (pyNext (.ref e)) Q E s:=by
 have ty:s.TypeIs (.ref e) "enumerate" := ⟨_,he,rfl⟩
 unfold pyNext
 refine wpAny_bind (wpAny_attempt (wpAny_callSpecial?_slot (name:=Str.ofString "__next__") ty F.slot_enumerate_next (wpAny_call_entry F.slot_enumerate_next ty F.entry_enumerate_next ?_ (F.args_enumerate_next_1 _))))
 show wpAny _ _ (field (.ref e) 2 >>= _) _ _ _
 refine wpAny_bind (wpAny_field he rfl (x:=.ref it) rfl (wpAny_bind (wpAny_nextOf_list_end hh hit hl hx λh' y hx' ⟨o,ho,ko⟩=>?_)))
 exact wpAny_bind (wpAny_isInstance (T := "StopIteration") (b:=true) ⟨o,ho,ko⟩ isSubtype_stop (wpAny_pure (hQ _ hx')))
end
def t_ (K:PySem.W.Frag) (a:Addr) (n:Int):It :=
 ⟨λi H=>∃xs x,SqL K H a xs/\xs[i]?=some x,λi H x H'=>∃T v,H T=none/\x=.ref T/\H'=upd H T (.tup [.int (n+(i:Nat)),v])/\∀xs,SqL K H a xs->xs[i]?=some v,λi H=>∃xs,SqL K H a xs/\xs.length<=i⟩
variable {K:PySem.W.Frag}
theorem nN {P:Program} {w:World} {elts:List Expr} {k:Nat} {pos:Pos} (a e it:Addr) (n:Int) (hne:e≠it) :
  Turn P w K (.Tuple elts k pos) (t_ K a n) [e,it] e (λi h=>(∃old,IsEnum h e it (n+(i:Nat)) old)/\h.IsListIter it a i) where
 mem:=by simp
 obj:=λi h st b hb=>by
  obtain⟨⟨old,he⟩,o,ho,hc,hd⟩:=st
  have z:b=e\/b=it:=by simpa using hb
  rcases z with z|z
  ·subst z
   exact⟨_,he,λv q=>by
    have q':Data.fields _=Data.cell v:=q
    cases q'⟩
  ·subst z
   exact⟨o,ho,λv q=>by rw[hd]at q;cases q⟩
 keep:=λi h h' st kk=>by
  obtain⟨⟨old,he⟩,hl⟩:=st
  exact⟨⟨old,kk e (by simp) _ he⟩,hl.at λo q=>kk it (by simp) o q⟩
 item:=by
  intro X hP hw hK hc i pins s σ H E I hf st hg
  subst hP hw hK
  obtain⟨xs,x,hq,hx⟩:=hg
  obtain⟨its,rv,p,hz⟩:=I.list hq
  obtain⟨u,hu,ru⟩:=rv.get hx
  obtain⟨⟨old,he⟩,hl⟩:=st
  have f1:=hf e (by simp)
  have f2:=hf it (by simp)
  refine lK he hl p.isList (x:=u) (by simpa using hu) hne λh1 a1 a2 a3 a5=>⟨_,rfl,?_⟩
  refine wpAny_letOwnedTupleGo_enum a1 λh2 b1 b2=>?_
  have nTe:s.heap.objs.size≠e:=λz=>by
   have q:=Heap.lt_size (show s.heap.get? e=some _ from he)
   rw[<-z]at q;exact Nat.lt_irrefl _ q
  have keep2:∀b o,b≠e->b≠it->s.heap.get? b=some o->h2.get? b=some o:=λb o n1 n2 q=>b2.extBut b o n1 (a5 b o n1 n2 q)
  have tup2:h2.get? s.heap.objs.size=some { cls:=.type "tuple", data:=.seq #[.int (n+(i:Nat)) s.toks,u] }:=b2.extBut _ _ nTe a3
  have I2:Inv X pins σ (upd H s.heap.objs.size (.tup [.int (n+(i:Nat)),x])) { s with heap:=h2,toks:=s.toks+1 } :=
   I.turned2 keep2 f1 f2 (Nat.le_refl _) ⟨(by show 2<=sizeLine;decide),[.int (n+(i:Nat)) s.toks,u],.cons ⟨_,rfl⟩ (.cons ru .nil),⟨_,tup2,rfl,_,rfl⟩⟩
  refine⟨.ref s.heap.objs.size,_,I2,rfl,⟨s.heap.objs.size,x,I.hok.fresh (Nat.le_refl _),rfl,rfl,λys hy=>by rw[I.list_inj hy hq];exact hx⟩,⟨⟨u,?_⟩,(a2.extBut b2.extBut (Ne.symm hne))⟩,λb hb=>?_⟩
  ·have q:IsEnum h2 e it (n+(i:Nat)+1) u:=b1
   have c:n+(((i+1:Nat):Nat):Int)=n+(i:Nat)+1:=by omega
   rw[c];exact q
  ·have z:b=e\/b=it:=by simpa using hb
   have nT:b≠s.heap.objs.size:=by
    rcases z with z|z
    ·rw[z];exact Ne.symm nTe
    ·rw[z]
     obtain⟨o,ho,_⟩:=hl
     exact Nat.ne_of_lt (Heap.lt_size ho)
   rw[aj nT]
   exact(hf b hb).1
 done:=by
  intro X hP hw hK hc i pins s σ H E I hf st hg
  subst hP hw hK
  obtain⟨xs,hq,hx⟩:=hg
  obtain⟨its,rv,p,hz⟩:=I.list hq
  obtain⟨⟨old,he⟩,hl⟩:=st
  obtain⟨f0,f1,f2,f3,f4,f5⟩:=hf it (by simp)
  have hlen:=rv.length
  exact gC (I.ok.hd hc) he hl p.isList (by simp;exact om4 hx hlen) λh' eb=>⟨rfl,I.turned (t':=s.toks) (λb o hb q=>eb b o hb q) f0 f1 f3 f4 f5⟩
 self:=λ_ _ _ _ _ st h=>by
  obtain⟨⟨old,he⟩,_⟩:=st
  exact wpAny_pyIter_enum he h
section
variable {X:Cx} {elts:List Expr} {k:Nat} {tpos:Pos}
def xn (K:PySem.W.Frag) (ta tk:TA):TI:=λσ H R=>ta σ H λvs H1=>tk σ H1 λzs H2=>∃a n,vs=[.ref a]/\zs=[.int n]/\(0<=n/\n<1000)/\(∃xs,SqL K H2 a xs)/\R (t_ K a n) H2
variable {E Q:Value->Shared->Prop}
theorem jA {M:Model} {env:Env} {pos:Pos} {T:String} {e:Expr} {kws:List Keyword} {A:Around} {s:Shared}
  (h:wpAny M A (spliced (backTo pos (starEach [e] env))) (λvs s1=>wpAny M A (evalAll ((backToKw pos (keywordEach kws env)).map (·.2))) (λzs s2=>wpAny M A (call (.type T) vs (((backToKw pos (keywordEach kws env)).filterMap (·.1)).zip zs)) Q E s2) E s1) E s)
  (he:backTo pos (starEach [e] env)=(false,eval e env)::backTo pos (starEach [] env):=by rfl) (hp:(backTo pos (starEach [e] env)).any (·.1)=false:=by rfl) (ha:(backToKw pos (keywordEach kws env)).all (·.1.isSome)=true:=by rfl) (hk:(backToKw pos (keywordEach kws env)).any (·.1.isNone)=false:=by rfl) :
  wpAny M A (callWith pos (.type T) [] (backTo pos (starEach [e] env)) (backToKw pos (keywordEach kws env))) Q E s:=by
 unfold callWith
 refine wpAny_bind (wpAny_holding (wpAny_mono (show wpAny M A (evalArgs _ true _ _) (λa s1=>wpAny M A (call (.type T) a.pos a.kw) Q E s1) E s from ?_) (λa s1 h1=>wpAny_bind (wpAny_standAt ?_)) λ_ _ x=>x))
 ·rw[he]at h ⊢
  exact evalArgs_kwB ha h
 ·simp only[hp,hk,Bool.or_false]
  refine wpAny_bind (wpAny_pure ?_)
  exact wpAny_bind (wpAny_mono h1 (λr s2 hr=>wpAny_bind (wpAny_holding (wpAny_point (wpAny_pure hr)))) λ_ _ x=>x)
theorem sf {a b:Expr} {ta tk:TA} {p pos kp:Pos} (hg:Gl X "enumerate") (hm:X.mg "enumerate" = none) (ha:PA X [a] ta) (hb:PK X [⟨some "start", b,kp⟩] tk) (he:∀pos,backTo pos (starEach [a] X.env)=(false,eval a X.env)::backTo pos (starEach [] X.env):=by intro pos;rfl) :
  PI X (.Tuple elts k tpos) (.Call (.Name "enumerate" p) [a] [⟨some "start", b,kp⟩] pos) (xn X.K ta tk):=by
 intro pins s σ H R I h
 refine wpAny_Call_Name_kw (dj I hg hm boot_enumerate ?_)
 refine jA (thn (ha pos pins s σ H _ I h) λus s1 ⟨vs,H1,I1,r1,q1⟩=>thn (hb pos pins s1 σ H1 _ I1 q1) λws s2 ⟨zs,H2,I2,rz,q2⟩=>?_) (he pos) (by rw[he pos];rfl)
 obtain⟨l,n,e1,e2,⟨n0,n1⟩,⟨xs,hq⟩,q⟩:=q2
 subst e1 e2
 cases r1 with
 | cons r rr =>
  cases rr
  cases r
  obtain⟨u,e,ru⟩:=eP rz
  subst e
  obtain⟨tc,e⟩:=ru
  subst e
  obtain⟨its,rv,pl,hz⟩:=I2.list hq
  refine oW (c:=n) (tc:=tc) (by unfold Builtin.SmallTypes.fitsIndex;simp;omega) pl.isList λh' b1 b2 b4=>?_
  refine wpAny_pyIter_enum b1 ?_
  have I3:Inv X pins σ H2 { s2 with heap:=h' }:=I2.kept (t':=s2.toks) b4
  refine⟨s2.heap.objs.size+1,[s2.heap.objs.size+1,s2.heap.objs.size],_,_,H2,rfl,I3,nN l (s2.heap.objs.size+1) s2.heap.objs.size n (by show @Ne Nat _ _;exact om5),⟨⟨_,by rw[show n+((0:Nat):Int)=n from by omega];exact b1⟩,b2⟩,λb hb=>?_,q⟩
  have z:b=s2.heap.objs.size+1\/b=s2.heap.objs.size:=by simpa using hb
  have hle:s2.heap.objs.size<=b:=by
   rcases z with z|z
   ·rw[z];exact Nat.le_succ _
   ·rw[z];exact Nat.le_refl _
  exact I2.fpOk hle (I2.hok.fresh hle)
end
theorem qZ {a:Addr} {n:Int} {xs:List V} {g:TG} {tb:TS} {D:Ends} {σ:St} {H:Hp} (Pv:Nat->St->Hp->Prop) (h0:Pv 0 σ H) (hl:∀i σ H,i<=xs.length->Pv i σ H->SqL K H a xs)
  (hs:∀i x σ H T,xs[i]?=some x->Pv i σ H->H T=none->g (.ref T) σ (upd H T (.tup [.int (n+(i:Nat)),x])) λσ2 H2=>tb { D with nx:=Pv (i+1),ct:=Pv (i+1),bk:=D.nx } σ2 H2) (hd:∀σ H,Pv xs.length σ H->D.nx σ H) :
  ∃W:Nat->Nat->St->Hp->Prop,(∃m,W 0 m σ H)/\∀i m σ H,W i m σ H ->
   ((t_ K a n).stop i H/\D.nx σ H)\/((t_ K a n).go i H/\∃N:St->Hp->Prop,(∀σ' H',N σ' H'->∃m',m'<m/\W (i+1) m' σ' H')/\∀x H',(t_ K a n).yld i H x H'->g x σ H' λσ2 H2=>tb { D with nx:=N,ct:=N,bk:=D.nx } σ2 H2):=by
 refine⟨λi m σ H=>m=xs.length-i/\i<=xs.length/\Pv i σ H,⟨xs.length,by simp,Nat.zero_le _,h0⟩,?_⟩
 rintro i m σ H ⟨rfl,hi,p⟩
 have q:=hl i σ H hi p
 by_cases hlt:i<xs.length
 ·refine .inr ⟨⟨xs,xs[i],q,by simp[hlt]⟩,Pv (i+1),λσ' H' p'=>⟨xs.length-(i+1),by exact om6 hlt,rfl,hlt,p'⟩,λx H' y=>?_⟩
  obtain⟨T,v,hT,ex,eH,y⟩:=y
  subst ex eH
  exact hs i v σ H T (y xs q) p hT
 ·have e:i=xs.length:=by exact om0 hi hlt
  subst e
  exact .inl ⟨⟨xs,q,Nat.le_refl _⟩,hd σ H p⟩
theorem eM {H1:Hp} {D:Addr} {σ0:St} {g:TG} {te:TE} {tt:TT} {QD:Hp->Prop} {a:Addr} {xs:List V} (Pv:Nat->Hp->List V->Prop) (h0:Pv 0 (upd H1 D (.lst [])) []) (hD:∀i H ys,Pv i H ys->H D=some (.lst ys)/\SqL K H a xs)
  (hs:∀i x H ys,xs[i]?=some x->Pv i H ys->g x σ0 H λσ2 H2=>wk σ0 σ2/\tt σ2 H2 λb H3=>if b=true then te σ2 H3 (ck Pv xs.length D i ys) else ∃m',m'<xs.length-i/\(m'=xs.length-(i+1)/\i+1<=xs.length/\Pv (i+1) H3 ys)) (hd:∀H ys,Pv xs.length H ys->QD H) :
  ∃W:Nat->Nat->Hp->List V->Prop,(∃m,W 0 m (upd H1 D (.lst [])) [])/\∀i m H ys,W i m H ys->H D=some (.lst ys)/\(((Itl K a).stop i H/\QD H)\/((Itl K a).go i H/\∀x H',(Itl K a).yld i H x H'->g x σ0 H' λσ2 H2=>wk σ0 σ2/\tt σ2 H2 λb H3 =>
   if b=true then te σ2 H3 λv H4=>H4 D=some (.lst ys)/\ys.length<sizeLine/\∃m',m'<m/\W (i+1) m' (upd H4 D (.lst (ys++[v]))) (ys++[v]) else ∃m',m'<m/\W (i+1) m' H3 ys)):=by
 refine⟨λi m H ys=>m=xs.length-i/\i<=xs.length/\Pv i H ys,⟨xs.length,by simp,Nat.zero_le _,h0⟩,?_⟩
 rintro i m H ys ⟨rfl,hi,p⟩
 obtain⟨d1,d2⟩:=hD i H ys p
 refine⟨d1,?_⟩
 by_cases hlt:i<xs.length
 ·refine .inr ⟨⟨xs,xs[i],d2,by simp[hlt]⟩,λx H' y=>?_⟩
  obtain⟨e,y⟩:=y
  subst e
  exact hs i x _ ys (y xs d2) p
 ·have e:i=xs.length:=by exact om0 hi hlt
  subst e
  exact .inl ⟨⟨xs,d2,Nat.le_refl _⟩,hd H ys p⟩
theorem tK {x:V} (h:cT x=true):eqV x x=true:=by
 cases x <;> first|(simp[eqV];done)|(simp[cT]at h;done)|simp_all [eqV,cT]
theorem oY (n:Nat):((List.range n).all λ_=>true)=true:=List.all_eq_true.mpr λ_ _=>rfl
section
variable {K:PySem.W.Frag} {H:Hp} {Q:VK}
theorem nw {n:Nat} {x:V} (h:cT x=true):EqD K H n x x true:=by
 have q:=EqD.flat (K:=K) (H:=H) (n:=n) h h
 rwa [tK h]at q
variable {xs ys:List V} {a b:Addr}
theorem gi {n:Nat} (h1:SqL K H a xs) (h2:SqL K H b ys) (hl:xs.length=ys.length) (hi:∀(j:Nat) x y,xs[j]?=some x->ys[j]?=some y->EqD K H n x y true):EqD K H (n+1) (.ref a) (.ref b) true:=by
 by_cases e:a=b
 ·subst e;exact .same
 ·have q:=EqD.lists (e:=λ_=>true) h1 h2 hl hi e
  rwa [oY]at q
theorem q_ {n:Nat} (f:xs.all cT=true):∀(j:Nat) x y,xs[j]?=some x->xs[j]?=some y->EqD K H n x y true:=λj x y e1 e2=>by
 rw[e1]at e2
 cases e2
 exact nw (List.all_eq_true.mp f x (List.mem_of_getElem? e1))
theorem wg (h1:SqL K H a xs) (h2:SqL K H b ys) (hl:xs.length=ys.length) (hi:∀(j:Nat) x y,xs[j]?=some x->ys[j]?=some y->EqD K H 8 x y true) (q:Q (.bl false) H):rR K true (.ref a) (.ref b) H Q:=by
 refine⟨a,b,xs,ys,λ_=>true,rfl,rfl,h1,h2,hi,?_⟩
 rw[oY,hl,beq_self_eq_true];exact q
theorem tw (h1:SqT K H a xs) (h2:SqT K H b ys) (hl:xs.length=ys.length) (hi:∀(j:Nat) x y,xs[j]?=some x->ys[j]?=some y->EqD K H 8 x y true) (q:Q (.bl false) H):xT K true (.ref a) (.ref b) H Q:=by
 refine⟨a,b,xs,ys,λ_=>true,rfl,rfl,h1,h2,hi,?_⟩
 rw[oY,hl,beq_self_eq_true];exact q
end
end L2
namespace LY
open PySem LZ
section
variable {prog:Program} {w:World} {A:Around} {E:Value->Shared->Prop} {s:Shared}
end
structure ApartM (z TI TO i1 i2 l m d:Addr):Prop extends ApartD z TI TO i1 i2 l d where
 mz:m≠z
 mTO:m≠TO
 mi1:m≠i1
 mi2:m≠i2
 dm:d≠m
structure ZS (h:Heap) (z TI TO i1 i2 l d:Addr) (m:Addr) (xs ys:Array Value) (k:Nat):Prop where
 zf:(IsZ h z TI TO .none false/\∃a b,IsPair h TO a b)\/∃(T:Addr) (f1:Bool) (oT:Obj),IsZ h z TI TO (rawInt (T:Nat)) f1/\h.get? T=some oT/\T≠z/\T≠i1/\T≠i2/\T≠d
 ti:IsPair h TI (.ref i1) (.ref i2)
 a1:h.IsListIter i1 l k
 a2:h.IsListIter i2 m k
 li:h.IsList l xs
 mi:h.IsList m ys
section
variable {prog:Program} {w:World} {K:Type} [DecidableEq K] {knd:KeyKind prog w K} {A:Around} {R:Result->Shared->Prop}
end
end LY
namespace L2
open PySem PySem.Spec PyProof.Rows
section
variable {X:Cx} {elts:List Expr} {k:Nat} {tpos:Pos}
end
section
variable {X:Cx}
end
section
variable {X:Cx}
end
theorem kN {H1:Hp} {D:Addr} {σ0:St} {g:TG} {te:TE} {QD:Hp->Prop} {a:Addr} {o:Obj} {kvs:List (Key × V)} (Pv:Nat->Hp->List V->Prop) (h0:Pv 0 (upd H1 D (.lst [])) []) (hD:∀i H ys,Pv i H ys->H D=some (.lst ys)/\H a=some (.frz o (.dK kvs)))
  (hs:∀i k v H ys,kvs[i]?=some (k,v)->Pv i H ys->g (kV k) σ0 H λσ2 H2=>wk σ0 σ2/\gv σ2 H2 λb H3=>if b=true then te σ2 H3 (ck Pv kvs.length D i ys) else ∃m',m'<kvs.length-i/\(m'=kvs.length-(i+1)/\i+1<=kvs.length/\Pv (i+1) H3 ys)) (hd:∀H ys,Pv kvs.length H ys->QD H) :
  ∃W:Nat->Nat->Hp->List V->Prop,(∃m,W 0 m (upd H1 D (.lst [])) [])/\∀i m H ys,W i m H ys->H D=some (.lst ys)/\(((Itd a o kvs).stop i H/\QD H)\/((Itd a o kvs).go i H/\∀x H',(Itd a o kvs).yld i H x H'->g x σ0 H' λσ2 H2=>wk σ0 σ2/\gv σ2 H2 λb H3 =>
   if b=true then te σ2 H3 λv H4=>H4 D=some (.lst ys)/\ys.length<sizeLine/\∃m',m'<m/\W (i+1) m' (upd H4 D (.lst (ys++[v]))) (ys++[v]) else ∃m',m'<m/\W (i+1) m' H3 ys)):=by
 refine⟨λi m H ys=>m=kvs.length-i/\i<=kvs.length/\Pv i H ys,⟨kvs.length,by simp,Nat.zero_le _,h0⟩,?_⟩
 rintro i m H ys ⟨rfl,hi,p⟩
 obtain⟨d1,d2⟩:=hD i H ys p
 refine⟨d1,?_⟩
 by_cases hlt:i<kvs.length
 ·refine .inr ⟨⟨d2,hlt⟩,λx H' y=>?_⟩
  obtain⟨e,k,v,hk,ex⟩:=y
  subst e ex
  exact hs i k v _ ys hk p
 ·have e:i=kvs.length:=by exact om0 hi hlt
  subst e
  exact .inl ⟨⟨d2,Nat.le_refl _⟩,hd H ys p⟩
end L2
namespace Tm
open PySem PyProof.Rows
@[reducible] def intK:PyProof.Rows.KeyKind where
 α:=Int
 blt a b:=decide (a<b)
 irrefl a:=by simp
 trans a b c h1 h2:=by simp only[decide_eq_true_eq] at *;exact Int.lt_trans h1 h2
 negTrans a b c h:=by
  simp only[decide_eq_true_eq] at *
  by_cases hab:a<b
  ·exact .inl hab
  ·exact .inr (Int.lt_of_le_of_lt (Int.not_lt.mp hab) h)
 total a b h1 h2:=by simp only[decide_eq_false_iff_not] at *;exact Int.le_antisymm (Int.not_lt.mp h2) (Int.not_lt.mp h1)
 keyOf v:=match v with|.int x _=>some x|_=>none
 dflt:=0
section
variable {prog:Program} {w:World}
end
end Tm
namespace L2
open PySem PySem.Spec PyProof.Rows
section
variable {X:Cx}
end
end L2
namespace Tm
open PySem PyProof.Rows PySem.W
section
variable {prog:Program} {w:World}
end
end Tm
namespace L2
open PySem PySem.Spec PyProof.Rows
section
variable {X:Cx}
end
end L2
namespace Tm
open PySem PyProof.Rows PySem.W
end Tm
namespace L2
open PySem PySem.Spec PyProof.Rows
section
variable {X:Cx}
def tm (ps:List (Str × Int)):List (Key × V):=ps.map λp=>((Sum.inr p.1:Key),V.int p.2)
end
section
variable {X:Cx}
def wC:List V->Hp->VK->Prop:=λxs H Q=>∃a kvs,xs=[.ref a]/\Rd H a (.dK kvs)/\∀l,H l=none->Q (.ref l) (upd H l (.lst (kvs.map λp=>kV p.1)))
theorem jz (hc:X.calm=true):dX X (.type "list") wC:=by
 intro pins s σ H xs us Q I r h
 obtain⟨a,kvs,rfl,rd,q⟩:=h
 obtain⟨u,rfl,ru⟩:=eP r
 cases ru
 obtain⟨z,hm,vs,rel,dd⟩:=gj I.hok rd
 obtain⟨ep,da⟩:=dd.dictAt
 have lv:=KV.len rel
 refine PySem.W.kdl_call (PySem.W.kdl_dict (knd:=bi X.prog X.w) (kvs:=vs) (ep:=ep) hm) (I.ok.hd hc) da (by rw[<-lv];exact z) λh' tk acc c k at' it=>?_
 have rv:aY (kvs.map λp=>kV p.1) acc.toList:=by
  refine paired_get (by rw[List.length_map,show acc.toList.length=acc.size from Array.length_toList,it.1,lv]) λj x y e1 e2=>?_
  obtain⟨k',x',e3,e4⟩:=it.2 j y (by rw[<-Array.getElem?_toList];exact e2)
  rw[List.getElem?_map]at e1
  cases e5:kvs[j]? with
  | none=>rw[e5]at e1;cases e1
  | some p =>
   rw[e5]at e1
   cases e1
   obtain⟨u,hu,_⟩:=KV.get (i:=j) (k:=p.1) (v:=p.2) rel e5
   rw[e3]at hu
   cases hu
   exact tq e4
 exact⟨.ref s.heap.objs.size,_,I.laid (o:=.lst (kvs.map λp=>kV p.1)) (t':=tk) k (Nat.le_refl _) ⟨by rw[List.length_map];exact z,acc.toList,c,rv,at'⟩,rfl,q _ (I.hok.fresh (Nat.le_refl _))⟩
end
section
variable {X:Cx}
def rQ:V->List V->Hp->VK->Prop:=λx vs H Q=>∃l xs y,∃i:Nat,x=.ref l/\vs=[.int i,y]/\i<=xs.length/\i<1000/\H l=some (.lst xs)/\xs.length<sizeLine/\Q .non (upd H l (.lst (xs.take i++y::xs.drop i)))
theorem mj {y:V} {u:Value} (ru:aS y u):∀{xs:List V} {its:List Value} (i:Nat),aY xs its->aY (xs.take i++y::xs.drop i) (its.take i++u::its.drop i)
 | _,_,0,r=>.cons ru r
 | _,_,i+1,.nil=>.cons ru .nil
 | _,_,i+1,.cons r1 r2=>.cons r1 (mj ru i r2)
theorem ou:MtM X "list.insert" rQ:=by
 intro pins s σ H x vs v us Q I rx rv h
 obtain⟨l,xs,y,i,rfl,rfl,hi,hi2,hH,hz,q⟩:=h
 cases rx
 obtain⟨u1,u,rfl,ru1,ru⟩:=ml rv
 obtain⟨t,rfl⟩:=ru1
 obtain⟨z,its,n,r,hl,e⟩:=I.lstM hH
 have fi:¬(!Builtin.List.listFitsIndex (i:Int))=true:=by
  have this:Builtin.List.listFitsIndex (i:Int)=true:=by
   show (decide (-(2 ^ 63:Int)<=(i:Int))&&decide ((i:Int)<2 ^ 63))=true
   rw[decide_eq_true (by omega),decide_eq_true (by omega)];rfl
  rw[this]
  exact λh=>nomatch h
 have hlen:=r.length
 have hzz:its.toArray.size<=sizeLine:=by rw[List.size_toArray];omega
 generalize hk:(i:Int)=k at fi ⊢
 refine call_meets F.slot_list_insert ⟨_,e,rfl⟩ F.entry_list_insert (F.args_list_insert_3 _ _ _) (PySem.AutoListH.list_insert_list_int_val_1 l its.toArray n k t u fi hzz) ⟨e,?_⟩
 refine⟨.non,_,I.lset (its':=its.take i++u::its.drop i) hH e ?_ (mj ru i r) ?_,rfl,q⟩
 ·dsimp only
  have e1:(if k<0 then (k+((its.toArray.size:Nat):Int)).toNat else min k.toNat its.toArray.size)=i:=by
   rw[if_neg (by omega),List.size_toArray];omega
  rw[e1]
  rw[<-Array.toList_inj]
  have e2:its.take its.length=its:=List.take_length
  simp[List.extract_eq_drop_take,List.take_of_length_le]
 ·rw[List.length_append,List.length_cons,List.length_take,List.length_drop]
  omega
end
end L2
namespace K2
open PySem L2
variable {X:Cx}
theorem pO {K:PySem.W.Frag} (h:X.K=K):IxR X (mL K):=by subst h;exact aJ
variable {H H':Hp} {σ:St} {td ty tx tv tl:TE}
theorem uV {Q:VK} (q:td σ H λx H1=>∃a,x=.ref a/\IsD H1 a/\ty σ H1 λy H2=>tx σ H2 λz H3=>∃kvs k,H3 a=some (.dK kvs)/\y=kV k/\(∀v,bh kvs k=some v->Q v H3)/\(bh kvs k=none->kvs.length<sizeLine/\Q z (upd H3 a (.dK (bI kvs k z))))):rG td ty tx σ H Q:=q
theorem fL {D:Ends} (q:tv σ H λv H1=>td σ H1 λx H2=>ty σ H2 λy H3=>∃a H4,x=.ref a/\fV H3 a y v H4/\D.nx σ H4):vD td ty tv D σ H:=q
theorem A0 {Q:VK} (q:ty σ H λy H1=>td σ H1 λx H2=>∃a o,x=.ref a/\cq H2 a y o/\Q (.bl o.isSome) H2):xK ty td σ H Q:=q
theorem fg {Q:VK} (q:ty σ H λy H1=>td σ H1 λx H2=>∃a o,x=.ref a/\cq H2 a y o/\Q (.bl (!o.isSome)) H2):pd ty td σ H Q:=q
theorem vC {t:TS} {D:Ends} {a:Addr} {u:HO} (r:Rd H a u) (f:Fz u) (q:∀o,t (vk D H a o u) σ (upd H a (.frz o u))):xG t D σ H:=⟨a,u,r,f,q⟩
theorem ii {R:It->Hp->Prop} (q:tl σ H λx H1=>∃a o kvs,x=.ref a/\H1 a=some (.frz o (.dK kvs))/\R (Itd a o kvs) H1):tz tl σ H R:=q
theorem jm {K:PySem.W.Frag} (h:X.K=K):IxR X (uq K):=by subst h;exact aD
structure Txt (K:PySem.W.Frag) (mg:Str->Option Value) (TT:Addr):Prop where
 n_len:mg "len" = none
 n_range:mg "range" = none
 n_max:mg "max" = none
 n_min:mg "min" = none
 n_int:mg "int" = none
 n_list:mg "list" = none
 n_str:mg "str" = none
 n_isinstance:mg "isinstance" = none
 n_all:mg "all" = none
 n_set:mg "set" = none
 n_dict:mg "dict" = none
 n_enumerate:mg "enumerate" = none
 n_sorted:mg "sorted" = none
 n_tuple:mg "tuple" = none
 n_bool:mg "bool" = none
 n_zip:mg "zip" = none
 n_reversed:mg "reversed" = none
 n_abs:mg "abs" = none
 tURNED:mg "TURNED" = some (.ref TT)
 tab:o_ K TT [("0", .flat (.str "1")),("1", .flat (.str "0"))]
inductive Rl where
 | w (n:Str)|no (r:Rl)|an (a b:Rl)|orr (a b:Rl)
def Rl.ok (ns:List Str):Rl->Prop
 | .w n=>n∈ns
 | .no r=>r.ok ns
 | .an a b=>a.ok ns/\b.ok ns
 | .orr a b=>a.ok ns/\b.ok ns
def Rl.dep:Rl->Nat
 | .w _=>1
 | .no r=>r.dep+1
 | .an a b=>max a.dep b.dep+1
 | .orr a b=>max a.dep b.dep+1
def Rl.val (f:Str->Bool):Rl->Bool
 | .w n=>f n
 | .no r=>!r.val f
 | .an a b=>a.val f&&b.val f
 | .orr a b=>a.val f || b.val f
inductive RAt (H:Hp):V->Rl->Prop where
 | w {a:Addr} {n:Str}:H a=some (.tup [.str "wire", .str n])->RAt H (.ref a) (.w n)
 | no {a:Addr} {v:V} {r:Rl}:H a=some (.tup [.str "not", v])->RAt H v r->RAt H (.ref a) (.no r)
 | an {a:Addr} {v u:V} {r s:Rl}:H a=some (.tup [.str "and", v,u])->RAt H v r->RAt H u s->RAt H (.ref a) (.an r s)
 | orr {a:Addr} {v u:V} {r s:Rl}:H a=some (.tup [.str "or", v,u])->RAt H v r->RAt H u s->RAt H (.ref a) (.orr r s)
def di (H H':Hp):Prop:=∀b xs,H b=some (.tup xs)->H' b=some (.tup xs)
theorem ao.tups (S:ao H H'):di H H':=λb xs e=>S b _ e
theorem RAt.mono (hs:di H H') {v:V} {r:Rl} (h:RAt H v r):RAt H' v r:=by
 induction h with
 | w e=>exact .w (hs _ _ e)
 | no e _ ih=>exact .no (hs _ _ e) ih
 | an e _ _ i1 i2=>exact .an (hs _ _ e) i1 i2
 | orr e _ _ i1 i2=>exact .orr (hs _ _ e) i1 i2
def GAt (H:Hp) (v:V) (g:Str × Rl):Prop:=∃b rv,v=.ref b/\H b=some (.tup [.str g.1,rv])/\RAt H rv g.2
theorem GAt.mono (hs:di H H') {v:V} {g:Str × Rl} (h:GAt H v g):GAt H' v g:=let ⟨b,rv,e,h1,h2⟩:=h;⟨b,rv,e,hs _ _ h1,h2.mono hs⟩
structure NAt (H:Hp) (a li lg:Addr) (ins:List Str) (vs:List V) (gs:List (Str × Rl)):Prop where
 ha:H a=some (.tup [.ref li,.ref lg])
 hi:H li=some (.lst (ins.map V.str))
 hg:H lg=some (.lst vs)
 gates:Paired (GAt H) vs gs
theorem jo {H:Hp}:∀{vs:List V} {gs:List (Str × Rl)},Paired (GAt H) vs gs->∀x∈vs,∃a,x=V.ref a
 | _,_,.nil=>λx hx=>nomatch hx
 | _,_,.cons h t=>λx hx=>by
  rcases List.mem_cons.mp hx with e|hx
  ·obtain⟨b,_,e',_⟩:=h;exact⟨b,e.trans e'⟩
  ·exact jo t x hx
theorem a_ {H H':Hp} (hs:di H H'):∀{vs:List V} {gs:List (Str × Rl)},Paired (GAt H) vs gs->Paired (GAt H') vs gs
 | _,_,.nil=>.nil
 | _,_,.cons h t=>.cons (h.mono hs) (a_ hs t)
theorem NAt.same {a li lg:Addr} {ins:List Str} {vs:List V} {gs:List (Str × Rl)} (S:ao H H') (h:NAt H a li lg ins vs gs):NAt H' a li lg ins vs gs:=⟨S _ _ h.ha,S _ _ h.hi,S _ _ h.hg,a_ (ao.tups S) h.gates⟩
def au (ins:List Str) (gs:List (Str × Rl)):List Str:=ins++gs.map (·.1)
structure NetOk (ins:List Str) (gs:List (Str × Rl)):Prop where
 nd:(au ins gs).Nodup
 i4:ins.length<=4
 g1:1<=gs.length
 g7:gs.length<=7
 rules:∀g∈gs,g.2.ok (au ins gs)/\g.2.dep<=10
structure StOk (n:Nat) (z:Str):Prop where
 len:z.cps.size=n
 signs:∀c∈z.cps.toList,c=48\/c=49
def sg (b:Bool):V:=if b then .str "1" else .str "0"
def sgn (names:List Str) (z:Str) (n:Str):Bool:=z.cps.getD (names.idxOf n) 0==49
def DFn (kvs:List (Key × V)) (names:List Str) (f:Str->Bool):Prop:=∀n∈names,bh kvs (Sum.inr n:Key)=some (sg (f n))
theorem d7 {K:PySem.W.Frag} (h:X.K=K):dX X (.builtin "len") (λxs H Q=>∃p ys,xs=[.ref p]/\(SqL K H p ys\/SqT K H p ys)/\Q (.int ys.length) H):=by subst h;exact aG
variable {pos p:Pos} {es a:List Expr}
theorem lM {K:PySem.W.Frag} {k:Nat} {t:TGs} {n:Nat} (hK:X.K=K) (hc:X.calm=true) (h:PGs X es t)
  (hn:(assignEach es X.env).length=n:=by rfl) (hst:(assignEach es X.env).findIdx? (·.1)=none:=by rfl):PG X (.Tuple es k pos) (xo K n t):=by subst hK;exact gI hc h hn hst
theorem dC {A B:TS} {D:Ends} (J:St->Hp->Prop) (h:∀(R:St->Hp->Prop),(∀σ H,J σ H->R σ H)->A { D with nx:=R } σ H) (hJ:∀σ H,J σ H->B D σ H):uk A B D σ H:=h (B D) hJ
variable {env:Env}
theorem bn {n:Nat}:starEach (.Tuple a n p::es) env=(false,eval (.Tuple a n p) env)::starEach es env:=by rfl
theorem n5:starEach (.List a p::es) env=(false,eval (.List a p) env)::starEach es env:=by rfl
theorem cu {f:Expr} {k:List Keyword}:starEach (.Call f a k p::es) env=(false,eval (.Call f a k p) env)::starEach es env:=by rfl
theorem aB {c:Const} {n:Nat}:starEach (.Constant c n p::es) env=(false,eval (.Constant c n p) env)::starEach es env:=by rfl
theorem ai {x:Str}:starEach (.Name x p::es) env=(false,eval (.Name x p) env)::starEach es env:=by rfl
theorem n8 {a b:Expr} {o:Operator}:starEach (.BinOp a o b p::es) env=(false,eval (.BinOp a o b p) env)::starEach es env:=by rfl
theorem xO {a:Expr} {g:List Comprehension} {sc:Scope}:starEach (.ListComp a g sc p::es) env=(false,eval (.ListComp a g sc p) env)::starEach es env:=by rfl
theorem bZ {a b:Expr}:starEach (.Subscript a b p::es) env=(false,eval (.Subscript a b p) env)::starEach es env:=by rfl
theorem mW {a b:Addr} {o:HO} (h1:H a=some o) (h2:H b=none):b≠a:=λz=>by rw[z,h1]at h2;cases h2
theorem cD {α β:Type} {F G:α->β->Prop} (h:∀a b,F a b->G a b):∀{xs:List α} {ys:List β},Paired F xs ys->Paired G xs ys
 | _,_,.nil=>.nil
 | _,_,.cons a t=>.cons (h _ _ a) (cD h t)
theorem paired_get {α β:Type} {F:α->β->Prop}:∀{xs:List α} {ys:List β} {i:Nat} {x:α},Paired F xs ys->xs[i]?=some x->∃y,ys[i]?=some y/\F x y
 | _,_,_,_,.nil,e=>by simp at e
 | _,_,0,_,.cons r _,e=>by simp at e;subst e;exact⟨_,rfl,r⟩
 | _,_,i+1,x,.cons _ t,e=>by
  obtain⟨u,h1,h2⟩:=paired_get (i:=i) (x:=x) t (by simpa using e)
  exact⟨u,by simpa using h1,h2⟩
theorem ifT {c:Bool} {A B:Prop} (hc:c=true) (h:A):if c=true then A else B:=by rw[if_pos hc];exact h
theorem ifF {c:Bool} {A B:Prop} (hc:c=false) (h:B):if c=true then A else B:=by subst hc;exact iteF h
theorem aR {D:Addr} {o:HO} (S:ao H H') (hD:H D=none):ao H (upd H' D o):=λb u e=>by rw[aj (aq e hD)];exact S b u e
theorem aN {p:Addr} {o:HO} (h:H p=none) (e:upd H p o=H'):ao H H'/\H' p=some o:=by
 subst e
 exact⟨ak h,ag⟩
theorem aK {α β:Type} {F:α->β->Prop}:∀{xs:List α} {ys:List β},Paired F xs ys->xs.length=ys.length
 | _,_,.nil=>rfl
 | _,_,.cons h t=>by simp[aK t]
end K2
namespace K2
open PySem L2
local macro_rules | `(tactic| walk_at "vc") => `(tactic| first
 | ((refine' (?zz : (?zA → ?zG) → ?zA → ?zG) ?zr ?_); (case zr => with_reducible exact s_seqT); (case zz => exact fun _ q => q); intro D') | ((refine' (?zz : (?zA → ?zG) → ?zA → ?zG) ?zr ?_); (case zr => with_reducible first | exact s_asg | exact s_drop | exact s_ret | exact s_if | exact s_sub | exact s_next | exact i_c | exact i_op | exact i_test | exact i_tB | exact i_and | exact i_or | exact i_not | exact i_andV | exact i_orV | exact i_notV | exact i_ifE | exact i_nil | exact i_cons | exact i_cb | exact i_tup | exact i_lst | exact i_bm | exact i_sl | exact i_nopart | exact i_part | exact s_for | exact s_rng1 | exact s_list | exact s_str | exact i_dget | exact i_yes | exact i_un); (case zz => exact fun _ q => q))   | (with_reducible refine s_name ?_)
 | ((with_reducible refine' i_var ?hv ?_); (case hv => exact rfl))   | (with_reducible first | refine i_rI0 ?_ | refine i_call ?_ | refine s_strI ?_ | refine iteF ?_ | refine iteT ?_ | refine i_rU ?_)
 | ((with_reducible show ∃ i, V.int _ = V.int i ∧ _); (refine ⟨_, rfl, ?_⟩)) | ((with_reducible show ∃ k, V.bl _ = V.bl k ∧ _); (refine ⟨_, rfl, ?_⟩)) | ((with_reducible show (∃ i, [V.bl _] = [V.int i] ∧ _) ∨ _); (refine Or.inr ⟨_, rfl, ?_⟩))
 | ((with_reducible refine' i_ixL ?ha ?hb ?_); (case ha => exact SqL.of (by assumption)); (case hb => exact rfl)) | ((with_reducible refine' i_ixT ?ha ?hb ?_); (case ha => assumption); (case hb => exact rfl))
 | ((with_reducible show ∃ p _, [V.ref _] = [V.ref p] ∧ (SqL _ _ _ _ ∨ SqT _ _ _ _) ∧ _); (refine' ⟨_, _, rfl, Or.inl (SqL.of ?ha), ?_⟩); (case ha => assumption)) | ((with_reducible refine' s_setL ?ha ?hb ?_); (case ha => assumption); (case hb => exact rfl))
 | ((with_reducible refine' i_eq ?ha ?_); (case ha => exact rfl)) | ((with_reducible refine' i_ne ?ha ?_); (case ha => exact rfl))
 | ((with_reducible show ∃ z, V.str _ = V.str z ∧ _); (refine ⟨_, rfl, ?_⟩))
 | ((with_reducible refine' i_rI ?hv ?_); (case hv => first | decide | (dsimp only; omega) | exact .inl ⟨by omega, by omega⟩ | exact .inr ⟨by omega, by omega⟩ | exact ⟨by decide, by decide⟩ | exact ⟨by decide, by decide, by decide⟩ | exact ⟨by omega, by omega⟩))
 | ((with_reducible show ∃ i, [V.int _] = [V.int i] ∧ _); (refine ⟨_, rfl, ?_⟩))
 | ((with_reducible show tyV _ "list" _ _ ∧ _); (refine' ⟨i_tyL ?ha, ?_⟩); (case ha => assumption)))
local macro_rules | `(tactic| walk_at "l") => `(tactic| (intro vs H Q E h; repeat (first | (obtain ⟨e, _⟩ := h; subst e; rfl) | (obtain ⟨_, h⟩ := h))))
local macro_rules | `(tactic| walk_at "e") => `(tactic| ((try dsimp only [cxOf, Cx.nox, Cx.wish]); (conv in (L2.start _ _) => simp only [L2.start, List.map_cons, List.map_nil, List.length_cons, List.length_nil, List.replicate_succ, List.replicate_zero, List.cons_append, List.nil_append, Nat.reduceAdd, Nat.reduceSub]); have big : 100000 < sizeLine := by decide))
local macro_rules|`(tactic|walk_at "w")=>`(tactic|repeat walk_at "vc")
local macro_rules|`(tactic|walk_at "o")=>`(tactic|first|exact Or.inl rfl|exact Or.inr rfl)
local macro_rules|`(tactic|walk_at "k")=>`(tactic|exact⟨rfl,rfl,rfl,by decide +kernel,rfl,by decide +kernel,by decide +kernel⟩)
def k_:Sp:=λvs H Q _=>∃a li lg ins gvs gs,vs=[.ref a]/\NAt H a li lg ins gvs gs/\NetOk ins gs/\∀l H',ao H H'->H l=none->H' l=some (.lst ((au ins gs).map V.str))->Q (.ref l) H'
def lh:Sp:=λvs H Q _=>∃a li lg ins gvs gs,vs=[.ref a]/\NAt H a li lg ins gvs gs/\NetOk ins gs/\∀l H',ao H H'->H l=none->H' l=some (.lst ((gs.map (·.1)).map V.str))->Q (.ref l) H'
variable {gvs vs ys us:List V} {a li lg f T b l p q F a' li' lg':Addr} {i n j t m B:Nat} {Q:VK} {H H' H1 H2 H3 H4:Hp} {σ:St} {K:PySem.W.Frag}
theorem rf {c:Int} {vals:List V} (hσ:σ[i]?=some (some (.ref a))) (ha:H a=some (.tup [.ref li,.ref lg])) (hg:H lg=some (.lst gvs)) (hs:gvs.length<=1000)
  (hx:∀(j:Nat) x,gvs[j]?=some x->∃b ys v,x=.ref b/\H b=some (.tup ys)/\atI ys c=some v/\vals[j]?=some v) (hl:vals.length=gvs.length)
  (q:∀D H',H D=none->ao H H'->H' D=some (.lst vals)->Q (.ref D) H') :
  kh (np K (tOp (mL K) (cI i) (tC (V.int 1)))) (eU 0) gv (tOp (mL K) (cI 0) (tC (V.int c))) (bS [Str.ofString "gate"] []) σ H Q:=by
 refine cB (s_list (i_op (i_var hσ (i_c (i_ixT ha rfl ⟨lg,rfl,⟨_,SqL.of hg⟩,λD hD=>?_⟩)))))
 have big:1000<sizeLine:=by decide
 refine eB (xs:=gvs) (λn H' ys=>ao H H'/\H' D=some (.lst ys)/\ys=vals.take n) ⟨ak hD,ag,by simp⟩ (λn H' ys p=>⟨p.2.1,SqL.of (p.1 _ _ hg)⟩) (λn x H' ys e p=>?_) (λH' ys p=>?_)
 ·obtain⟨S,hd,rfl⟩:=p
  obtain⟨b,zs,v,rfl,hb,hv,hv2⟩:=hx n x e
  have hn:n<gvs.length:=(List.getElem?_eq_some_iff.mp e).1
  refine s_name ⟨trivial,?_⟩
  refine i_yes (iteT ?_)
  refine i_op (i_var rfl (i_c (i_ixT (S _ _ hb) hv (ck.mk hd hn (by rw[List.length_take];omega) ⟨aR S hD,ag,?_⟩))))
  rw[List.take_succ,hv2];rfl
 ·obtain⟨S,hd,rfl⟩:=p
  exact q D H' hD S (by rw[hd,List.take_of_length_le (by omega)])
theorem cE {α β:Type} {F:α->β->Prop}:∀{xs:List α} {ys:List β},Paired F xs ys->∀(j:Nat) x,xs[j]?=some x->∃y,ys[j]?=some y/\F x y
 | _,_,.nil=>λj x e=>by simp at e
 | _,_,.cons (a:=a) (b:=b) h t=>λj x e=>by
  cases j with
  | zero=>simp at e;subst e;exact⟨_,rfl,h⟩
  | succ j=>simp at e;obtain⟨y,e',f⟩:=cE t j x e;exact⟨y,by simpa using e',f⟩
variable {gs:List (Str × Rl)} {ins ns ms xs zs:List Str}
theorem oU {Q:VK} (hσ:σ[i]?=some (some (.ref a))) (NA:NAt H a li lg ins gvs gs) (ok:NetOk ins gs)
  (q:∀D H',H D=none->ao H H'->H' D=some (.lst ((gs.map (·.1)).map V.str))->Q (.ref D) H') :
  kh (np K (tOp (mL K) (cI i) (tC (V.int 1)))) (eU 0) gv (tOp (mL K) (cI 0) (tC (V.int 0))) (bS [Str.ofString "gate"] []) σ H Q:=by
 have l:=aK NA.gates
 have g7:=ok.g7
 refine rf (vals:=(gs.map (·.1)).map V.str) hσ NA.ha NA.hg (by omega) (λj x e=>?_) (by simp[l]) q
 obtain⟨g,e',b,rv,rfl,hb,hr⟩:=cE NA.gates j x e
 exact⟨b,_,_,rfl,hb,rfl,by simp[e']⟩
theorem ke (ok:NetOk ins gs):(ins.map V.str).length+((gs.map (·.1)).map V.str).length<=sizeLine:=by
 have g7:=ok.g7
 have i4:=ok.i4
 have big:1000<sizeLine:=by decide
 simp only[List.length_map]
 omega
theorem kb (ins:List Str) (gs:List (Str × Rl)):ins.map V.str++(gs.map (·.1)).map V.str=(au ins gs).map V.str:=by unfold au;rw[List.map_append]
variable {P:Program} {w:World} {K:PySem.W.Frag} {mg:Str->Option Value} {base:Heap} {TT:Addr}
section
theorem mI:FnScope ["net"] ["net"] (ay (top 6)):=by walk_at "k"
theorem sP {f:Addr} {fd:FuncData} (Fu:Fun K "gates_of" "gates_of" (top 6) f fd) (T:Txt K mg TT):FnOk P w K mg base CX0 1 f fd ["net"] lh:=by
 have S:=mI
 refine Fu.ok S (by walk_at "l") (λcdv A outer s H vs Q E hr h=>?_)
 obtain⟨a,li,lg,ins,gvs,gs,rfl,NA,ok,k⟩:=h
 refine⟨_,(am (aF (fc (tgs:=["gate"]) (cap:=[]) rfl ⟨rfl,rfl,rfl,rfl,rfl,rfl⟩ (bD (ax aJ (pv 0) ae (λ_ _=>rfl))) (λ_ _ _ _=>(bt (i:=0) (show List.Nodup [("gate" : Str)] by decide +kernel) rfl (by walk_at "o"))) (λ_ _ _ _=>b_) (λ_ _ _ _=>(ax (pO (K:=K) rfl) (pv 0) ae (λ_ _=>rfl)))))),?_⟩
 walk_at "e"
 refine oU (Q:=Q) rfl NA ok λD H2 hD s2 h2=>?_
 exact k D H2 s2 hD h2
theorem mx:FnScope ["net"] ["net"] (ay (top 7)):=by walk_at "k"
theorem sK {f:Addr} {fd:FuncData} (Fu:Fun K "wires_of" "wires_of" (top 7) f fd) (T:Txt K mg TT) (f_gates_of:Fn P w K mg base "gates_of" ["net"] 1 lh):FnOk P w K mg base CX0 2 f fd ["net"] k_:=by
 have S:=mx
 refine Fu.ok S (by walk_at "l") (λcdv A outer s H vs Q E hr h=>?_)
 obtain⟨a,li,lg,ins,gvs,gs,rfl,NA,ok,k⟩:=h
 obtain⟨ha,hi,hg,gts⟩:=id NA
 refine⟨_,(am (aF (av gN (cV cS (by rfl) T.n_list PyProof.Rows.boot_list (aa (ax aJ (pv 0) ae (λ_ _=>rfl)) af)) (aU f_gates_of hr (aa (pv 0) af))))),?_⟩
 walk_at "e"
 walk_at "w"
 intro l hl
 have s1:=ak (o:=.lst (ins.map V.str)) hl
 have NA1:=NA.same s1
 walk_at "w"
 refine⟨a,li,lg,ins,gvs,gs,rfl,NA1,ok,λD H2 s2 hD h2=>?_⟩
 have hl2:H2 l=some (.lst (ins.map V.str)):=s2 _ _ ag
 refine kG hl2 h2 (ke ok) λp hp=>?_
 have hs:ao H (upd H2 p (HO.lst (ins.map V.str++(gs.map (·.1)).map V.str))):=s1.trans (s2.trans (ak hp))
 refine k p _ hs (ao.free (s1.trans s2) hp) ?_
 rw[ag,kb]
end
def gz (v:V):Sp:=λvs H Q _=>∃a li lg ins gvs gs z,vs=[.ref a,.str z]/\NAt H a li lg ins gvs gs/\NetOk ins gs/\StOk (au ins gs).length z/\∀H',ao H H'->Q v H'
def rN:Sp:=λvs H Q _=>∃(z:Str) (m:Nat),vs=[.str z,.int (m:Int)]/\m<=11/\StOk m z/\∀H',ao H H'->Q (.bl true) H'
section
theorem qu:FnScope ["thing", "many"] ["thing", "many"] (ay (top 5)):=by walk_at "k"
variable {fd:FuncData} {f:Addr}
theorem w9 (Fu:Fun K "is_row" "is_row" (top 5) f fd) (T:Txt K mg TT):FnOk P w K mg base CX0 1 f fd ["thing", "many"] rN:=by
 have S:=qu
 refine Fu.ok S (by walk_at "l") (λcdv A outer s H vs Q E hr h=>?_)
 obtain⟨z,m,rfl,hm,st,k⟩:=h
 refine⟨_,(ad (bg (PW.pt (f7 (gF (fN (aH dW (by rfl) T.n_isinstance PyProof.Rows.boot_isinstance (aa (pv 0) (aa (im (v:=.ty "str") (by rfl) T.n_str PyProof.Rows.boot_str rfl) af))))) (fM (aC i9 (aH gn (by rfl) T.n_len PySem.boot_len (aa (pv 0) af)) (pv 1) (aI _))))) (am (aF ed)) aM)
  (am (aF (aH (tY rfl) (by rfl) T.n_all PyProof.Rows.boot_all (aa (fc (tgs:=["sign"]) (cap:=[]) rfl ⟨rfl,rfl,rfl,rfl,rfl,rfl⟩ (wF (pv 0)) (λ_ _ _ _=>(bt (i:=0) (show List.Nodup [("sign" : Str)] by decide +kernel) rfl (by walk_at "o"))) (λ_ _ _ _=>b_) (λ_ _ _ _=>(dP (qz T.tab) (pv 0) (pE (v:=.ref TT) (by rfl) T.tURNED rfl) rfl))) af))))),?_⟩
 walk_at "e"
 walk_at "w"
 refine⟨_,_,_,_,rfl,TyOf.str z,gc "str", ?_⟩
 refine⟨_,rfl,iteF ?_⟩
 have hz:z.length=m:=st.len
 have big:1000<sizeLine:=by decide
 walk_at "w"
 refine⟨_,rfl,(by omega),?_⟩
 walk_at "w"
 refine d6 (λh=>?_) (λ_=>?_)
 ·exfalso
  have e:(V.int ↑z.length)=V.int (m:Int):=congrArg (λ(n:Nat)=>V.int (n:Int)) hz
  simp[e]at h
 walk_at "w"
 refine cB ?_
 walk_at "w"
 intro D hD
 refine tS (λn H' ys=>ao H H'/\H' D=some (.lst ys)/\ys=(List.replicate n true).map V.bl) ⟨ak hD,ag,rfl⟩ (λn H' ys p=>p.2.1) (λn H' ys hn p=>?_) (λH' ys p=>?_)
 ·obtain⟨Sm,hd,rfl⟩:=p
  refine s_name ⟨trivial,i_yes (iteT ?_)⟩
  refine i_op (i_var rfl (i_c ⟨_,rfl,rfl,?_⟩))
  refine ck.mk hd hn (by rw[List.length_map,List.length_replicate];have:z.cps.size=z.length:=rfl;omega) ⟨aR Sm hD,ag,?_⟩
  have hc:PyProof.Rows.KTD.inKeys (⟨#[z.cps.getD n 0]⟩:Str) [(("0" : Str),PyProof.Rows.KTD.Dat.flat (PyData.str "1")),("1", .flat (.str "0"))]=true:=by
   have:z.cps.getD n 0=48\/z.cps.getD n 0=49:=by
    have e:z.cps.getD n 0=z.cps[n]:=by simp[Array.getD,hn]
    rw[e]
    exact st.signs _ (by simp)
   rcases this with e|e
   ·rw[e];decide +kernel
   ·rw[e];decide +kernel
  rw[List.replicate_succ',List.map_append]
  exact congrArg (λb=>List.map V.bl (List.replicate n true)++[V.bl b]) hc
 ·obtain⟨Sm,hd,rfl⟩:=p
  refine i_nil ⟨_,_,rfl,SqL.of hd,?_⟩
  have e:(List.replicate z.cps.size true).all id=true:=by simp
  rw[e]
  exact k H' Sm
theorem iS:FnScope ["net", "thing"] ["net", "thing"] (ay (top 8)):=by walk_at "k"
theorem uL (Fu:Fun K "is_standing" "is_standing" (top 8) f fd) (T:Txt K mg TT) (f_is_row:Fn P w K mg base "is_row" ["thing", "many"] 1 rN):FnOk P w K mg base CX0 2 f fd ["net", "thing"] (gz (.bl true)):=by
 have S:=iS
 refine Fu.ok S (by walk_at "l") (λcdv A outer s H vs Q E hr h=>?_)
 obtain⟨a,li,lg,ins,gvs,gs,z,rfl,NA,ok,st,k⟩:=h
 obtain⟨ha,hi,hg,gts⟩:=id NA
 refine⟨_,(am (aF (aU f_is_row hr (aa (pv 1) (aa (av aV (aH aG (by rfl) T.n_len PySem.boot_len (aa (ax aJ (pv 0) ae (λ_ _=>rfl)) af)) (aH aG (by rfl) T.n_len PySem.boot_len (aa (ax aJ (pv 0) ae (λ_ _=>rfl)) af))) af))))),?_⟩
 walk_at "e"
 have hz:(au ins gs).length=ins.length+gs.length:=by
  unfold au
  rw[List.length_append,List.length_map]
 have lg:=aK NA.gates
 have i4:=ok.i4
 have g7:=ok.g7
 walk_at "w"
 refine⟨z,(au ins gs).length,?_,by omega,st,λH' Sm=>k H' Sm⟩
 rw[List.length_map,lg,hz];rfl
theorem fZ:FnScope ["net", "thing"] ["net", "thing"] (ay (top 9)):=by walk_at "k"
theorem sS (Fu:Fun K "check_standing" "check_standing" (top 9) f fd) (T:Txt K mg TT) (f_is_standing:Fn P w K mg base "is_standing" ["net", "thing"] 2 (gz (.bl true))):FnOk P w K mg base CX0 3 f fd ["net", "thing"] (gz .non):=by
 have S:=fZ
 refine Fu.ok S (by walk_at "l") (λcdv A outer s H vs Q E hr h=>?_)
 obtain⟨a,li,lg,ins,gvs,gs,z,rfl,NA,ok,st,k⟩:=h
 refine⟨_,(am (bg (gF (fN (aU f_is_standing hr (aa (pv 0) (aa (pv 1) af))))) qw aM)),?_⟩
 walk_at "e"
 walk_at "w"
 refine⟨a,li,lg,ins,gvs,gs,z,rfl,NA,ok,st,λH' Sm=>⟨_,rfl,iteF ?_⟩⟩
 exact k H' Sm
def dM (d:Nat):Sp:=λvs H Q _=>∃v a kvs r ns g,vs=[v,.ref a]/\RAt H v r/\r.dep<=d/\r.ok ns/\H a=some (.dK kvs)/\DFn kvs ns g/\Q (.bl (r.val g)) H
theorem fP {k:Nat} {ps:List Str} {sp:Sp} (h:∀vs H Q E,sp vs H Q E->False):FnOk P w K mg base CX0 k f fd ps sp :=
 ⟨λvs H Q E q=>(h vs H Q E q).elim,λ_ _ _ _ _ _ vs Q E _ _ _ _ q=>(h _ _ _ _ q).elim⟩
theorem pU (r:Rl):1<=r.dep:=by cases r <;> simp[Rl.dep]
theorem nZ (b:Bool):decide (sg b=V.str "1")=b:=by
 cases b
 ·decide +kernel
 ·decide +kernel
theorem jQ:FnScope ["rule", "signs", "kind"] ["rule", "signs"] (ay (top 10)):=by walk_at "k"
theorem mR {f:Addr} {fd:FuncData} (Fu:Fun K "rule_holds" "rule_holds" (top 10) f fd) (T:Txt K mg TT) (hm:mg "rule_holds" = some (.ref f)) (hk:PySem.W.keepIn K (.ref f)=true) (hb:gr K fd ["rule", "signs"] []):∀d,FnOk P w K mg base CX0 d f fd ["rule", "signs"] (dM d)
 | 0=>fP λvs H Q E ⟨v,a,kvs,r,ns,g,_,_,h,_⟩=>by have:=pU r;omega
 | d+1=>by
  have S:=jQ
  have f_rule_holds:Fn P w K mg base "rule_holds" ["rule", "signs"] d (dM d):=⟨f,fd,mR Fu T hm hk hb d,hm,hk,hb⟩
  refine Fu.ok S (λvs H Q E h=>?_) (λcdv A outer s H vs Q E hr h=>?_)
  ·obtain⟨v,a,kvs,r,ns,g,rfl,_⟩:=h
   rfl
  ·obtain⟨v,a,kvs,r,ns,g,rfl,ra,hd,rok,ha,hf,q⟩:=h
   have hu:=de hr
   refine⟨_,(ad (aA 2 S.nd (ax aJ (pv 0) ae (λ_ _=>rfl)))
   (ad (bg (aC bR (pv 2) aE (aI _)) (am (aF (dP bR (bA hu (pv 1) (ax aJ (pv 0) ae (λ_ _=>rfl)) (λ_ _=>rfl)) aE (aI _)))) aM)
   (ad (bg (aC bR (pv 2) aE (aI _)) (am (aF (sk (aU f_rule_holds hr (aa (ax aJ (pv 0) ae (λ_ _=>rfl)) (aa (pv 1) af)))))) aM)
   (ad (bg (aC bR (pv 2) aE (aI _)) (am (aF (lN (aU f_rule_holds hr (aa (ax aJ (pv 0) ae (λ_ _=>rfl)) (aa (pv 1) af))) (gJ (aU f_rule_holds hr (aa (ax aJ (pv 0) ae (λ_ _=>rfl)) (aa (pv 1) af))))))) aM)
   (am (aF (vL (aU f_rule_holds hr (aa (ax aJ (pv 0) ae (λ_ _=>rfl)) (aa (pv 1) af))) (gJ (aU f_rule_holds hr (aa (ax aJ (pv 0) ae (λ_ _=>rfl)) (aa (pv 1) af))))))))))),?_⟩
   walk_at "e"
   cases ra with
   | @w b n hb =>
    walk_at "w"
    refine ifT (by decide +kernel) ?_
    walk_at "w"
    have hv:bh kvs (Sum.inr n:Key)=some (sg (g n)):=hf n rok
    refine⟨a,sg (g n),rfl,by rw[<-hv];exact cq.k (k:=Sum.inr n) ha,?_⟩
    walk_at "w"
    refine i_eq (by cases g n <;> rfl) ?_
    rw[nZ]
    exact q
   | @no b u r hb hr1 =>
    walk_at "w"
    refine ifF (by decide +kernel) ?_
    walk_at "w"
    refine ifT (by decide +kernel) ?_
    walk_at "w"
    exact⟨u,a,kvs,r,ns,g,rfl,hr1,by simp only[Rl.dep]at hd;omega,rok,ha,hf,⟨_,rfl,q⟩⟩
   | @an b u x r1 r2 hb hr1 hr2 =>
    walk_at "w"
    refine ifF (by decide +kernel) ?_
    walk_at "w"
    refine ifF (by decide +kernel) ?_
    walk_at "w"
    refine ifT (by decide +kernel) ?_
    walk_at "w"
    simp only[Rl.dep]at hd
    refine⟨u,a,kvs,r1,ns,g,rfl,hr1,by omega,rok.1,ha,hf,⟨_,rfl,?_⟩⟩
    have e:Rl.val g (Rl.an r1 r2)=(r1.val g&&r2.val g):=rfl
    rw[e]at q
    cases hv:r1.val g with
    | false=>rw[hv]at q;exact iteF q
    | true =>
     rw[hv]at q
     refine iteT ?_
     walk_at "w"
     exact⟨x,a,kvs,r2,ns,g,rfl,hr2,by omega,rok.2,ha,hf,q⟩
   | @orr b u x r1 r2 hb hr1 hr2 =>
    walk_at "w"
    refine ifF (by decide +kernel) ?_
    walk_at "w"
    refine ifF (by decide +kernel) ?_
    walk_at "w"
    refine ifF (by decide +kernel) ?_
    walk_at "w"
    simp only[Rl.dep]at hd
    refine⟨u,a,kvs,r1,ns,g,rfl,hr1,by omega,rok.1,ha,hf,⟨_,rfl,?_⟩⟩
    have e:Rl.val g (Rl.orr r1 r2)=(r1.val g || r2.val g):=rfl
    rw[e]at q
    cases hv:r1.val g with
    | true=>rw[hv]at q;exact iteT q
    | false =>
     rw[hv]at q
     refine iteF ?_
     walk_at "w"
     exact⟨x,a,kvs,r2,ns,g,rfl,hr2,by omega,rok.2,ha,hf,q⟩
def k9 (d:Nat):Sp:=λvs H Q _=>∃v a kvs r ns g,vs=[v,.ref a]/\RAt H v r/\r.dep<=d/\r.ok ns/\H a=some (.dK kvs)/\DFn kvs ns g/\Q (sg (r.val g)) H
theorem jP:FnScope ["rule", "signs"] ["rule", "signs"] (ay (top 11)):=by walk_at "k"
theorem sJ (Fu:Fun K "rule_worth" "rule_worth" (top 11) f fd) (T:Txt K mg TT) (f_rule_holds:Fn P w K mg base "rule_holds" ["rule", "signs"] 10 (dM 10)):FnOk P w K mg base CX0 11 f fd ["rule", "signs"] (k9 10):=by
 have S:=jP
 refine Fu.ok S (by walk_at "l") (λcdv A outer s H vs Q E hr h=>?_)
 obtain⟨v,a,kvs,r,ns,g,rfl,ra,hd,rok,ha,hf,q⟩:=h
 refine⟨_,(am (aF (mP (fN (aU f_rule_holds hr (aa (pv 0) (aa (pv 1) af)))) aE aE))),?_⟩
 walk_at "e"
 walk_at "w"
 refine⟨v,a,kvs,r,ns,g,rfl,ra,hd,rok,ha,hf,⟨_,rfl,?_⟩⟩
 cases hv:r.val g with
 | true=>rw[hv]at q;exact iteT q
 | false=>rw[hv]at q;exact iteF q
end
theorem eQ {k:Key}:∀{qs kvs:List (Key × V)},k∉qs.map (·.1)->bh (bH kvs qs) k=bh kvs k
 | [],kvs,_=>rfl
 | q::qs,kvs,h=>by
  simp only[List.map_cons,List.mem_cons,not_or]at h
  show bh (bH (bI kvs q.1 q.2) qs) k=_
  rw[eQ h.2,eX,if_neg h.1]
theorem eW {k:Key} {v:V}:∀{qs kvs:List (Key × V)},(qs.map (·.1)).Nodup->(k,v)∈qs->bh (bH kvs qs) k=some v
 | [],kvs,_,h=>nomatch h
 | q::qs,kvs,nd,h=>by
  rw[List.map_cons,List.nodup_cons]at nd
  show bh (bH (bI kvs q.1 q.2) qs) k=_
  rcases List.mem_cons.mp h with e|h
  ·subst e
   rw[eQ nd.1,eX,if_pos rfl]
  ·exact eW nd.2 h
theorem ma (ns:List Str) (z:Str):(cJ ns z).map (·.1)=ns.map Sum.inr:=by
 unfold cJ
 rw[List.map_map]
 have e:((λx:Key × V=>x.1)∘λp:Str × Nat=>((Sum.inr p.1:Key),eT z p.2))=(λp:Str × Nat=>(Sum.inr p.1:Key)):=rfl
 rw[e]
 have e2:(λp:Str × Nat=>(Sum.inr p.1:Key))=(Sum.inr:Str->Key)∘Prod.fst:=rfl
 rw[e2,<-List.map_map,List.zipIdx_map_fst]
theorem qM (h:ns.Nodup):(ns.map (Sum.inr:Str->Key)).Nodup:=by
 induction ns with
 | nil=>exact List.nodup_nil
 | cons a r ih =>
  rw[List.nodup_cons]at h
  rw[List.map_cons,List.nodup_cons]
  refine⟨λm=>?_,ih h.2⟩
  obtain⟨x,hx,e⟩:=List.mem_map.mp m
  cases e
  exact h.1 hx
variable {z y s x h:Str}
theorem ig (st:StOk n z) (hi:i<n):eT z i=sg (z.cps.getD i 0==49):=by
 have hl:=st.len
 have e:z.cps.getD i 0=z.cps[i]'(by omega):=by simp[Array.getD,hl,hi]
 have:z.cps.getD i 0=48\/z.cps.getD i 0=49:=by
  rw[e]
  exact st.signs _ (by simp)
 unfold eT
 rcases this with e|e
 ·rw[e];decide +kernel
 ·rw[e];decide +kernel
theorem pT (nd:ns.Nodup) (st:StOk ns.length z):DFn (bH [] (cJ ns z)) ns (sgn ns z):=λn hn=>by
 have hi:ns.idxOf n<ns.length:=List.idxOf_lt_length_of_mem hn
 have e:ns[ns.idxOf n]?=some n:=by rw[List.getElem?_eq_getElem hi];exact congrArg some (List.getElem_idxOf hi)
 have hm:((Sum.inr n:Key),eT z (ns.idxOf n))∈cJ ns z:=by
  unfold cJ
  refine List.mem_map.mpr ⟨(n,ns.idxOf n),?_,rfl⟩
  rw[List.mem_zipIdx_iff_getElem?]
  exact e
 rw[eW (by rw[ma];exact qM nd) hm,ig st hi]
 rfl
def gy:Sp:=λvs H Q _=>∃a li lg ins gvs gs z,vs=[.ref a,.str z]/\NAt H a li lg ins gvs gs/\NetOk ins gs/\StOk (au ins gs).length z /\
 ∀d H' kvs,ao H H'->H' d=some (.dK kvs)->DFn kvs (au ins gs) (sgn (au ins gs) z)->Q (.ref d) H'
section
theorem my:FnScope ["net", "standing"] ["net", "standing"] (ay (top 12)):=by walk_at "k"
theorem ol {f:Addr} {fd:FuncData} (Fu:Fun K "signs_in" "signs_in" (top 12) f fd) (T:Txt K mg TT) (f_wires_of:Fn P w K mg base "wires_of" ["net"] 2 k_):FnOk P w K mg base CX0 3 f fd ["net", "standing"] gy:=by
 have S:=my
 refine Fu.ok S (by walk_at "l") (λcdv A outer s H vs Q E hr h=>?_)
 obtain⟨a,li,lg,ins,gvs,gs,z,rfl,NA,ok,st,k⟩:=h
 refine⟨_,(am (aF (pF rfl (by rfl) T.n_dict (by rfl) T.n_zip (aa (aU f_wires_of hr (aa (pv 0) af)) (aa (pv 1) af))))),?_⟩
 walk_at "e"
 have wl:(au ins gs).length<1000:=by
  have i4:=ok.i4
  have g7:=ok.g7
  unfold au
  rw[List.length_append,List.length_map]
  omega
 walk_at "w"
 show bQ _ _ _ _ _
 walk_at "w"
 refine⟨a,li,lg,ins,gvs,gs,rfl,NA,ok,λl H1 S1 hl h1=>?_⟩
 walk_at "w"
 refine⟨l,au ins gs,z,rfl,SqL.of h1,by rw[st.len];omega,wl,λd hd=>?_⟩
 exact k d _ _ (S1.trans (ak hd)) ag (pT ok.nd st)
end
def dq (z:Str) (i:Nat):Str:=if (z.cps.getD i 0==49)=true then "0" else "1"
def eS (z:Str) (i:Nat):Str:=(Txt.slice z none (some (i:Int))++dq z i)++Txt.slice z (some ((i:Int)+1)) none
def iG:Sp:=λvs H Q _=>∃(z:Str) (n i:Nat),vs=[.str z,.int (i:Int)]/\StOk n z/\i<n/\n<=11/\Q (.str (eS z i)) H
section
theorem lX {n:Nat} {z:Str} (st:StOk n z) {i:Nat} (hi:i<n):atI z.cps.toList ((i:Nat):Int)=some (z.cps.getD i 0):=by
 have hl:=st.len
 refine bB ?_
 simp[Array.getD,hl,hi]
theorem ly:FnScope ["standing", "place"] ["standing", "place"] (ay (top 13)):=by walk_at "k"
theorem qF {f:Addr} {fd:FuncData} (Fu:Fun K "turned_at" "turned_at" (top 13) f fd) (T:Txt K mg TT):FnOk P w K mg base CX0 1 f fd ["standing", "place"] iG:=by
 have S:=ly
 refine Fu.ok S (by walk_at "l") (λcdv A outer s H vs Q E hr h=>?_)
 obtain⟨z,n,i,rfl,st,hi,hn,k⟩:=h
 refine⟨_,(am (aF (av ce (av ce (bq eZ (pv 0) bK (bJ (pv 1))) (ax (uS T.tab) (pE (v:=.ref TT) (by rfl) T.tURNED rfl) (ax d5 (pv 0) (pv 1) (λ_ _=>rfl)) (λ_ _=>rfl))) (bq eZ (pv 0) (bJ (av aV (pv 1) ae)) bK)))),?_⟩
 walk_at "e"
 have hz:z.length=n:=st.len
 have big:1000<sizeLine:=by decide
 walk_at "w"
 have s1:=Txt.slice_le z none (some (i:Int))
 have s2:=Txt.slice_le z (some ((i:Int)+1)) none
 have fl:(dq z i).length=1:=by
  unfold dq
  split
  ·decide +kernel
  ·decide +kernel
 refine gU (by omega) ?_
 refine i_op (i_c ?_)
 refine i_op (i_var rfl (i_var rfl (fE (by omega) (lX st hi) ?_)))
 have e:=ig st hi
 unfold eT at e
 rw[e]
 have step:∀(b:Bool) (G:VK),G (.str (if b=true then "0" else "1")) H->pA TT (.ref TT) (sg b) H G:=λb G g=>by
  cases b
  ·exact⟨rfl,.inl ⟨rfl,g⟩⟩
  ·exact⟨rfl,.inr ⟨rfl,g⟩⟩
 refine step _ _ ?_
 show ∃i_1 j,V.str _=V.str i_1/\V.str (dq z i)=V.str j/\_
 have l1:(Txt.slice z none (some (i:Int))++dq z i).length=(Txt.slice z none (some (i:Int))).length+(dq z i).length:=Array.size_append
 refine⟨_,_,rfl,rfl,by omega,?_⟩
 walk_at "w"
 refine gU (by omega) ?_
 exact⟨_,_,rfl,rfl,by rw[l1];omega,k⟩
end
theorem jr {xs:Array Nat}:∀(j a:Nat),a+j<=xs.size->((List.range j).map λk=>a+k).filterMap (xs[·]?)=(xs.toList.drop a).take j
 | 0,a,_=>by simp
 | j+1,a,h=>by
  rw[List.range_succ,List.map_append,List.filterMap_append,jr j a (by omega),List.take_succ]
  have e:(xs.toList.drop a)[j]?=xs[a+j]?:=by rw[List.getElem?_drop];simp
  rw[e]
  have q:xs[a+j]?=some (xs[a+j]'(by omega)):=by rw[Array.getElem?_eq_getElem]
  simp[q]
theorem iO {a b:Nat} {lo hi:Option Int} (hl:PySem.Builtin.Str.strSliceIndices lo hi 1 z.length=(List.range (b-a)).map λk=>a+k) (hb:b<=z.cps.size) (hab:a<=b):(Txt.slice z lo hi).cps.toList=(z.cps.toList.drop a).take (b-a):=by
 unfold Txt.slice
 rw[hl]
 split
 ·rename_i h
  have h:b-a=z.length:=by simpa using h
  have h':z.length=z.cps.size:=rfl
  have a0:a=0:=by omega
  subst a0
  rw[List.drop_zero,List.take_of_length_le (by rw[Array.length_toList];omega)]
 ·exact jr (b-a) a (by omega)
theorem iN {z:Str} {j:Nat} (h:j<=z.cps.size):(Txt.slice z none (some (j:Int))).cps.toList=z.cps.toList.take j:=by
 have h':z.length=z.cps.size:=rfl
 refine(iO (a:=0) (b:=j) ?_ h (Nat.zero_le _)).trans (by simp)
 unfold PySem.Builtin.Str.strSliceIndices sliceRange
 have e:max 0 (min (if (j:Int)<0 then (j:Int)+z.length else (j:Int)) (z.length:Int))=(j:Int):=by
  rw[if_neg (Int.not_lt.mpr (Int.natCast_nonneg _)),Int.min_eq_left (show _<=(z.length:Int) from Int.ofNat_le.mpr h),Int.max_eq_right (Int.natCast_nonneg _)]
 simp only[show (1:Int)>0 from by decide,if_true,e]
 have c:(if (0:Int)<(j:Int) then ((j:Int)-0+1-1) / 1 else 0).toNat=j-0:=by
  rw[Int.ediv_one,Int.add_sub_cancel,Int.sub_zero,Nat.sub_zero]
  split
  ·rfl
  ·omega
 rw[c]
 refine List.map_congr_left λk _=>?_
 omega
theorem iP {z:Str} {a:Nat} (h:a<=z.cps.size):(Txt.slice z (some (a:Int)) none).cps.toList=z.cps.toList.drop a:=by
 have h':z.length=z.cps.size:=rfl
 refine(iO (a:=a) (b:=z.cps.size) ?_ (Nat.le_refl _) h).trans (by rw[List.take_of_length_le (by rw[List.length_drop,Array.length_toList];omega)])
 unfold PySem.Builtin.Str.strSliceIndices sliceRange
 have e:max 0 (min (if (a:Int)<0 then (a:Int)+z.length else (a:Int)) (z.length:Int))=(a:Int):=by
  rw[if_neg (Int.not_lt.mpr (Int.natCast_nonneg _)),Int.min_eq_left (show _<=(z.length:Int) from Int.ofNat_le.mpr h),Int.max_eq_right (Int.natCast_nonneg _)]
 simp only[show (1:Int)>0 from by decide,if_true,e]
 have c:(if (a:Int)<(z.length:Int) then ((z.length:Int)-(a:Int)+1-1) / 1 else 0).toNat=z.cps.size-a:=by
  rw[Int.ediv_one,Int.add_sub_cancel,h']
  split
  ·rw[<-Int.ofNat_sub h];rfl
  ·omega
 rw[c]
 refine List.map_congr_left λk _=>?_
 omega
theorem o0 (st:StOk n z) (hi:i<n):StOk n (eS z i):=by
 have hl:=st.len
 have a:=iN (z:=z) (j:=i) (by omega)
 have b:=iP (z:=z) (a:=i+1) (by omega)
 rw[show ((i+1:Nat):Int)=(i:Int)+1 from by omega]at b
 have f:(dq z i).cps.toList=[48]\/(dq z i).cps.toList=[49]:=by
  unfold dq
  split
  ·exact .inl (by decide +kernel)
  ·exact .inr (by decide +kernel)
 have e:(eS z i).cps.toList=(z.cps.toList.take i++(dq z i).cps.toList)++z.cps.toList.drop (i+1):=by
  unfold eS
  show ((_++_)++_:Array Nat).toList=_
  rw[Array.toList_append,Array.toList_append,a,b]
 refine⟨?_,λc hc=>?_⟩
 ·rw[<-Array.length_toList,e,List.length_append,List.length_append,List.length_take,List.length_drop,Array.length_toList]
  have:(dq z i).cps.toList.length=1:=by rcases f with f|f <;> rw[f] <;> rfl
  omega
 ·rw[e]at hc
  rcases List.mem_append.mp hc with h|h
  ·rcases List.mem_append.mp h with h|h
   ·exact st.signs c (List.mem_of_mem_take h)
   ·rcases f with f|f
    ·rw[f]at h;exact .inl (by simpa using h)
    ·rw[f]at h;exact .inr (by simpa using h)
  ·exact st.signs c (List.mem_of_mem_drop h)
theorem turn_list (st:StOk n z) (hi:i<n):(eS z i).cps.toList=z.cps.toList.take i++(if (z.cps.getD i 0==49)=true then 48 else 49)::z.cps.toList.drop (i+1):=by
 have hl:=st.len
 have a:=iN (z:=z) (j:=i) (by omega)
 have b:=iP (z:=z) (a:=i+1) (by omega)
 rw[show ((i+1:Nat):Int)=(i:Int)+1 from by omega]at b
 have f:(dq z i).cps.toList=[if (z.cps.getD i 0==49)=true then 48 else 49]:=by
  unfold dq
  split
  ·decide +kernel
  ·decide +kernel
 unfold eS
 show ((_++_)++_:Array Nat).toList=_
 rw[Array.toList_append,Array.toList_append,a,b,f]
 simp
def bG (f:Str->Bool) (z:Str) (p:(Str × Rl) × Nat):Option (Str × Str):=if (p.1.2.val f==(z.cps.getD p.2 0==49))=true then none else some (p.1.1,eS z p.2)
def ap (ins:List Str) (gs:List (Str × Rl)) (z:Str):List (Str × Str):=(gs.zipIdx ins.length).filterMap (bG (sgn (au ins gs) z) z)
def jY (H:Hp) (v:V) (p:Str × Str):Prop:=∃b,v=.ref b/\H b=some (.tup [.str p.1,.str p.2])
theorem jY.mono (hs:di H H') {v:V} {p:Str × Str} (h:jY H v p):jY H' v p:=let ⟨b,e,q⟩:=h;⟨b,e,hs _ _ q⟩
theorem bY {H H':Hp} (hs:di H H'):∀{vs:List V} {ps:List (Str × Str)},Paired (jY H) vs ps->Paired (jY H') vs ps
 | _,_,.nil=>.nil
 | _,_,.cons h t=>.cons (h.mono hs) (bY hs t)
theorem bE {α β:Type} {F:α->β->Prop}:∀{xs:List α} {ys:List β} {x:α} {y:β},Paired F xs ys->F x y->Paired F (xs++[x]) (ys++[y])
 | _,_,_,_,.nil,h=>.cons h .nil
 | _,_,_,_,.cons a t,h=>.cons a (bE t h)
def c9:Sp:=λvs H Q _=>∃a li lg ins gvs gs z,vs=[.ref a,.str z]/\NAt H a li lg ins gvs gs/\NetOk ins gs/\StOk (au ins gs).length z /\
 ∀l vs' H',ao H H'->H l=none->H' l=some (.lst vs')->Paired (jY H') vs' (ap ins gs z)->Q (.ref l) H'
theorem xN (a b:Bool):decide (sg a=sg b)=(a==b):=by
 cases a <;> cases b <;> decide +kernel
section
theorem jO:FnScope ["net", "standing", "signs", "steps", "place", "gate"] ["net", "standing"] (ay (top 14)):=by walk_at "k"
theorem sL {f:Addr} {fd:FuncData} (Fu:Fun K "steps_from" "steps_from" (top 14) f fd) (T:Txt K mg TT) (f_signs_in:Fn P w K mg base "signs_in" ["net", "standing"] 3 gy) (f_rule_worth:Fn P w K mg base "rule_worth" ["rule", "signs"] 11 (k9 10)) (f_turned_at:Fn P w K mg base "turned_at" ["standing", "place"] 1 iG) :
  FnOk P w K mg base CX0 12 f fd ["net", "standing"] c9:=by
 have S:=jO
 refine Fu.ok S (by walk_at "l") (λcdv A outer s H vs Q E hr h=>?_)
 obtain⟨a,li,lg,ins,gvs,gs,z,rfl,NA,ok,st,k⟩:=h
 refine⟨_,(ad (aA 2 S.nd (aU f_signs_in hr (aa (pv 0) (aa (pv 1) af))))
  (ad (aA 3 S.nd (bd af))
  (ad (bP PassesOwn.never rfl (sf (by rfl) T.n_enumerate (aa (ax aJ (pv 0) ae (λ_ _=>rfl)) af) (uu (aH aG (by rfl) T.n_len PySem.boot_len (aa (ax aJ (pv 0) ae (λ_ _=>rfl)) af)) wE)) (gI rfl (bp (bU 4 S.nd) (bp (bU 5 S.nd) dO)))
  (am (bg (aC i9 (aU f_rule_worth hr (aa (ax aJ (pv 5) ae (λ_ _=>rfl)) (aa (pv 2) af))) (ax d5 (pv 1) (pv 4) (λ_ _=>rfl)) (aI _)) (am (br (cM PySem.F.plainAttrs_list PySem.F.slot_list_append PySem.F.type_list_append ba (pv 3) (aa (aL (aa (ax aJ (pv 5) ae (λ_ _=>rfl)) (aa (aU f_turned_at hr (aa (pv 1) (aa (pv 4) af))) af))) af)))) aM)))
  (am (aF (pv 3)))))),?_⟩
 walk_at "e"
 have i4:=ok.i4
 have g7:=ok.g7
 have lgn:=aK NA.gates
 have wl:(au ins gs).length=ins.length+gs.length:=by unfold au;rw[List.length_append,List.length_map]
 have big:1000<sizeLine:=by decide
 walk_at "w"
 refine⟨a,li,lg,ins,gvs,gs,z,rfl,NA,ok,st,λd H1 kvs S1 hd df=>?_⟩
 walk_at "w"
 refine⟨by simp[sizeLine],λl hl=>?_⟩
 generalize hE:upd _ l _=H2
 have S2:ao H1 H2:=by rw[<-hE];exact ak hl
 have q2:H2 l=some (.lst []):=by rw[<-hE];exact ag
 clear hE
 have S12:=S1.trans S2
 have hlH:H l=none:=ao.free S1 hl
 have NA2:=NA.same S12
 have hd2:=S2 _ _ hd
 have dl:d≠l:=aq hd hl
 obtain⟨ha,hi,hg,gts⟩:=id NA2
 walk_at "w"
 show bQ _ _ _ _ _
 walk_at "w"
 refine⟨lg,_,rfl,rfl,by rw[List.length_map];omega,⟨_,SqL.of hg⟩,?_⟩
 have nlg:lg≠l:=aq NA.hg hlH
 refine qZ (xs:=gvs) (λi σ H'=>(∃x4 x5 vs',σ=[some (.ref a),some (.str z),some (.ref d),some (.ref l),x4,x5]/\H' l=some (.lst vs')/\vs'.length<=i/\Paired (jY H') vs' (((gs.zipIdx ins.length).take i).filterMap (bG (sgn (au ins gs) z) z)))/\ao H H'/\H' d=some (.dK kvs))
  ⟨⟨_,_,[],rfl,q2,by simp,by simp;exact .nil⟩,S12,hd2⟩ (λi σ H' _ pv=>SqL.of (pv.2.1 _ _ NA.hg)) (λi x σ H' t hx pv ht=>?_) (λσ H' pv=>?_)
 ·obtain⟨⟨x4,x5,vs',rfl,hl',hlen,hp⟩,SS,hd'⟩:=pv
  have hig:i<gvs.length:=(List.getElem?_eq_some_iff.mp hx).1
  obtain⟨g,hgi,b,rv,rfl,hb,hrv⟩:=cE NA.gates i x hx
  have S3:=ak (o:=.tup [.int (((ins.map V.str).length:Int)+(i:Nat)),.ref b]) ht
  refine⟨t,_,rfl,SqT.of ag,rfl,?_⟩
  refine⟨_,_,rfl,s_name ⟨_,_,rfl,s_name ?_⟩⟩
  have hl3:=S3 _ _ hl'
  have hd3:=S3 _ _ hd'
  have SS3:=SS.trans S3
  have hp3:=bY (ao.tups S3) hp
  generalize upd H' t (.tup [.int (((ins.map V.str).length:Int)+(i:Nat)),.ref b])=H3 at *
  have hb3:=SS3 _ _ hb
  have hr3:=hrv.mono (ao.tups SS3)
  have gm:g∈gs:=List.mem_of_getElem? hgi
  have ep:(((ins.map V.str).length:Int)+(i:Nat))=((ins.length+i:Nat):Int):=by rw[List.length_map];omega
  rw[ep]
  obtain⟨rok,rdep⟩:=ok.rules g gm
  have hpl:ins.length+i<(au ins gs).length:=by omega
  have hzi:(gs.zipIdx ins.length)[i]?=some (g,ins.length+i):=by rw[List.getElem?_zipIdx,hgi];rfl
  refine⟨rfl,?_⟩
  walk_at "w"
  refine⟨rv,d,kvs,g.2,_,_,rfl,hr3,rdep,rok,hd3,df,?_⟩
  generalize hv:g.2.val (sgn (au ins gs) z)=bv
  have e:=ig st hpl
  unfold eT at e
  have zl:z.length=(au ins gs).length:=st.len
  walk_at "w"
  refine fE (by omega) (lX st hpl) ?_
  rw[e]
  refine i_ne (by cases bv <;> cases (z.cps.getD (ins.length+i) 0==49) <;> rfl) ?_
  rw[xN]
  refine⟨_,rfl,?_⟩
  have tk:((gs.zipIdx ins.length).take (i+1)).filterMap (bG (sgn (au ins gs) z) z)=((gs.zipIdx ins.length).take i).filterMap (bG (sgn (au ins gs) z) z)++(bG (sgn (au ins gs) z) z (g,ins.length+i)).toList:=by
   rw[List.take_succ,hzi,List.filterMap_append]
   cases h:bG (sgn (au ins gs) z) z (g,ins.length+i) <;> simp[h]
  have so:bG (sgn (au ins gs) z) z (g,ins.length+i)=if (bv==(z.cps.getD (ins.length+i) 0==49))=true then none else some (g.1,eS z (ins.length+i)):=by
   unfold bG
   rw[hv]
  cases hc:(bv==(z.cps.getD (ins.length+i) 0==49)) with
  | true =>
   refine iteF ?_
   rw[hc]at so
   refine⟨⟨_,_,vs',rfl,hl3,by omega,?_⟩,SS3,hd3⟩
   rw[tk,so]
   simpa using hp3
  | false =>
   refine iteT ?_
   rw[hc]at so
   walk_at "w"
   refine⟨z,_,ins.length+i,rfl,st,hpl,by omega,?_⟩
   walk_at "w"
   refine⟨by simp[sizeLine],λq hq=>?_⟩
   generalize hE:upd _ q _=H4
   have S4:ao H3 H4:=by rw[<-hE];exact ak hq
   have q4:H4 q=some (.tup [.str g.1,.str (eS z (ins.length+i))]):=by rw[<-hE];exact ag
   clear hE
   have hl4:=S4 _ _ hl3
   have hd4:=S4 _ _ hd3
   have nql:q≠l:=λe=>by rw[e,hl3]at hq;cases hq
   walk_at "w"
   refine dS hl4 (by omega) ?_
   have kt:di H4 (upd H4 l (.lst (vs'++[.ref q]))):=λb xs e=>by
    have:b≠l:=λx=>by rw[x,hl4]at e;cases e
    rw[aj this];exact e
   refine⟨⟨_,_,vs'++[.ref q],rfl,ag,by simp;omega,?_⟩,aR (SS3.trans S4) hlH,by rw[aj dl];exact hd4⟩
   rw[tk,so]
   exact bE (bY kt (bY (ao.tups S4) hp3)) ⟨q,rfl,kt _ _ q4⟩
 ·obtain⟨⟨x4,x5,vs',rfl,hl',hlen,hp⟩,SS,hd'⟩:=pv
  refine s_ret (te:=cI 3) (D:={ nx:=λx H'=>Q V.non H',rt:=Q }) (i_var rfl ?_)
  refine k l vs' H' SS hlH hl' ?_
  have e:(gs.zipIdx ins.length).length=gvs.length:=by rw[List.length_zipIdx,lgn]
  rw[<-e,List.take_length]at hp
  exact hp
end
def bj (H:Hp) (a:Addr) (sts:List (V × Key)):Prop:=∃vs,H a=some (.lst vs)/\Paired (λv (s:V × Key)=>∃b,v=.ref b/\H b=some (.tup [s.1,kV s.2])) vs sts
theorem bj.same {sts:List (V × Key)} (S:ao H H') (h:bj H a sts):bj H' a sts:=by
 obtain⟨vs,h1,h2⟩:=h
 exact⟨vs,S _ _ h1,cD (λv s ⟨b,e,q⟩=>⟨b,e,S _ _ q⟩) h2⟩
def jZ (F W N:Addr) (H H':Hp):Prop:=∀b o,H b=some o->b≠F->b≠W->b≠N->H' b=some o
def fdK (xs:List Key) (as:List Addr):List (Key × V):=(xs.zip as).map λp=>(p.1,V.ref p.2)
def knK (xs:List Key):List (Key × V):=xs.map λx=>(x,V.bl true)
theorem ip {xs:List Key} {as:List Addr} (h:as.length<=xs.length):(fdK xs as).length=as.length:=by
 unfold fdK;rw[List.length_map,List.length_zip];omega
theorem gh (xs:List Key) (as:List Addr):(fdK xs as).map (·.1)=xs.take as.length:=by
 unfold fdK
 rw[List.map_map]
 show (xs.zip as).map (λp=>p.1)=_
 induction xs generalizing as with
 | nil=>simp
 | cons x xs ih =>
  cases as with
  | nil=>simp
  | cons a as=>simp[ih]
variable {as ls ts:List Addr}
theorem tI {xs:List Key} {x:Key} (h:xs[as.length]?=some x):fdK xs (as++[a])=fdK xs as++[(x,V.ref a)]:=by
 unfold fdK
 induction xs generalizing as with
 | nil=>simp at h
 | cons y xs ih =>
  cases as with
  | nil=>simp at h;subst h;simp
  | cons b as=>simp at h;simp[ih h]
theorem tJ {xs ys:List Key} (h:as.length<=xs.length) (p:xs <+: ys):fdK ys as=fdK xs as:=by
 obtain⟨t,rfl⟩:=p
 unfold fdK
 induction xs generalizing as with
 | nil =>
  have:as=[]:=by simpa using h
  subst this
  simp
 | cons y xs ih =>
  cases as with
  | nil=>simp
  | cons b as=>simp at h;simpa using ih h
variable {kvs:List (Key × V)}
theorem dw {k:Key}:bh kvs k=none↔k∉kvs.map (·.1):=by
 refine⟨rD,λh=>?_⟩
 cases e:bh kvs k with
 | none=>rfl
 | some v=>exact absurd (ud e) h
theorem io {xs:List Key} {k:Key}:bh (knK xs) k=none↔k∉xs:=by
 rw[dw]
 unfold knK
 rw[List.map_map]
 show k∉xs.map (λx=>x)↔_
 rw[List.map_id']
def nxK (steps:Key->List (V × Key)) (x:Key):List Key:=(steps x).map (·.2)
def lm (P:Program) (w:World) (K:PySem.W.Frag) (mg:Str->Option Value) (base:Heap) (k:Nat):Sp:=λvs H Q _=>∃(start:Key) (f:Addr) (l:Lm) (cl:List (Str × Addr)) (c:Addr) (r:V->Hp->VK->Prop) (steps:Key->List (V × Key)) (B:Nat),
 vs=[kV start,.ref f]/\H f=some (gS f l cl c)/\Calls P w K mg base k f r/\B<=100000 /\
 (∀x H1 (Q1:VK),Bf.Reach (nxK steps) start x->ao H H1->(∀a H2,ao H1 H2->bj H2 a (steps x)->Q1 (.ref a) H2)->r (kV x) H1 Q1) /\
 (∀xs:List Key,xs.Nodup->(∀x∈xs,Bf.Reach (nxK steps) start x)->xs.length<=B) /\
 ∀(F:Addr) (as:List Addr) (n:Nat) (H':Hp),ao H H'->H F=none->(Bf.bfs (nxK steps) start n).length=n->as.length=n->H' F=some (.dK (fdK (Bf.bfs (nxK steps) start n) as)) ->
  (∀(i:Nat) x a,(Bf.bfs (nxK steps) start n)[i]?=some x->as[i]?=some a->bj H' a (steps x))->Q (.ref F) H'
theorem uW {P:Program} {w:World} {mg:Str->Option Value} {base:Heap} {k:Nat} {te:TE} {c:Addr} {l:Lm} {cl:List (Str × Addr)} {r:V->Hp->VK->Prop} (hi:σ[i]?=some (some (.ref f))) (C:Calls P w K mg base k f r) (hf:H f=some (gS f l cl c))
  (q:te σ H λv H1=>H1 f=some (gS f l cl c)/\r v H1 Q):rH P w K mg base k i te σ H Q:=⟨f,l,cl,c,r,hi,C,hf,q⟩
section
theorem jU:FnScope ["start", "steps_of", "found", "waiting", "known", "at", "here", "steps", "step"] ["start", "steps_of"] (ay (top 16)):=by walk_at "k"
theorem sQ {kl:Nat} {f:Addr} {fd:FuncData} (Fu:Fun K "found_from" "found_from" (top 16) f fd) (T:Txt K mg TT):FnOk P w K mg base CX0 (kl+1) f fd ["start", "steps_of"] (lm P w K mg base kl):=by
 have S:=jU
 refine Fu.ok S (by walk_at "l") (λcdv A outer s H vs Q E hr h=>?_)
 obtain⟨start,fl,l,cl,c,r,steps,B,rfl,hfl,hC,hB,hst,hfew,k⟩:=h
 have hu:=de hr
 refine'⟨?_,?bb,?_⟩
 case bb =>
  refine' ad ?s1 ?r1
  case s1 =>
   refine' aA 2 S.nd ?e
   case e=>exact d_
  case r1 =>
   refine' ad ?s3 ?r3
   case s3 =>
    refine' aA 3 S.nd ?e
    case e=>exact(bd (aa (pv 0) af ai))
   case r3 =>
    refine' ad ?s5 ?r5
    case s5 =>
     refine' aA 4 S.nd ?e
     case e=>exact(ux (se (pv 0) ed ut) rfl rfl (by simp) (by decide))
    case r5 =>
     refine' ad ?s7 ?r7
     case s7 =>
      refine' aA 5 S.nd ?e
      case e=>exact ae
     case r7 =>
      refine' ad ?s9 ?r9
      case s9 =>
       refine' dD PassesOwn.never ?c10 ?b10
       case c10=>exact(aC kr (pv 5) (aH aG (by rfl) T.n_len PySem.boot_len (aa (pv 3) af ai)) (aI _))
       case b10 =>
        refine' ad ?s11 ?r11
        case s11 =>
         refine' aA 6 S.nd ?e
         case e=>exact(ax aD (pv 3) (pv 5) (λ_ _=>rfl))
        case r11 =>
         refine' ad ?s13 ?r13
         case s13 =>
          refine' aA 7 S.nd ?e
          case e=>exact(sq (k:=kl) (i:=1) (hr.mono (by omega)) vN (pv 1) (pv 6))
         case r13 =>
          refine' ad ?s15 ?r15
          case s15 =>
           exact(eF hu (pv 2) (pv 6) (pv 7) rfl)
          case r15 =>
           refine' ad ?s17 ?r17
           case s17 =>
            refine' bP PassesOwn.never rfl ?i18 ?g18 ?b18 ?h18
            case h18=>intro _;rfl
            case i18=>exact(bD (pv 7))
            case g18=>exact(bU 8 S.nd)
            case b18 =>
             refine' am ?s19
             case s19 =>
              refine' bg ?c20 ?a20 ?o20
              case c20=>exact(iV (fu hu (ax aJ (pv 8) ae (λ_ _=>rfl)) (pv 4)))
              case a20 =>
               refine' ad ?s21 ?r21
               case s21 =>
                exact(eF hu (pv 4) (ax aJ (pv 8) ae (λ_ _=>rfl)) ed rfl)
               case r21 =>
                refine' am ?s23
                case s23 =>
                 exact(br (cM PySem.F.plainAttrs_list PySem.F.slot_list_append PySem.F.type_list_append ba (pv 3) (aa (ax aJ (pv 8) ae (λ_ _=>rfl)) af)))
              case o20 =>
               exact aM
           case r17 =>
            refine' am ?s25
            case s25 =>
             exact(rX (i:=5) S.nd rfl (by walk_at "o") ae tu)
      case r9 =>
       refine' am ?s27
       case s27 =>
        exact(aF (pv 2))
 walk_at "e"
 refine aP (s_asg ?_)
 intro F hF
 refine s_name ?_
 generalize hE:upd H F _=H1
 obtain⟨S1,q1⟩:=aN hF hE
 clear hE
 walk_at "w"
 refine⟨by simp[sizeLine],λW hW=>?_⟩
 generalize hE:upd H1 W _=H2
 obtain⟨S2,q2⟩:=aN hW hE
 clear hE
 walk_at "w"
 refine λN hN=>?_
 refine⟨_,rfl,?_⟩
 refine⟨ag,[(start,.bl true)],rfl,by simp,?_⟩
 rw[ue]
 refine s_name ?_
 generalize hE:upd H2 N _=H3
 obtain⟨S3,q3⟩:=aN hN hE
 clear hE
 walk_at "w"
 have S03:ao H H3:=S1.trans (S2.trans S3)
 have FW:F≠W:=aq q1 hW
 have FN:F≠N:=aq (S2 _ _ q1) hN
 have WN:W≠N:=aq q2 hN
 have W0:H W=none:=by
  cases e:H W with
  | none=>rfl
  | some o=>rw[S1 _ _ e]at hW;cases hW
 have N0:H N=none:=by
  cases e:H N with
  | none=>rfl
  | some o=>rw[(S1.trans S2) _ _ e]at hN;cases hN
 have off:∀{Ha Hb:Hp},ao H Ha->jZ F W N Ha Hb->ao H Hb:=λsa o b u e=>o b u (sa b u e) (aq e hF) (aq e W0) (aq e N0)
 let nx:=nxK steps
 let bf:=Bf.bfs nx start
 have reach:∀n x,x∈bf n->Bf.Reach nx start x:=λn x h=>Bf.cH n x h
 have fewB:∀n,(bf n).length<=B:=λn=>hfew _ (Bf.bV n) (reach n)
 refine⟨λm σ H'=>∃(n:Nat) (as:List Addr) (x6 x7 x8:Option V),σ=[some (kV start),some (.ref fl),some (.ref F),some (.ref W),some (.ref N),some (.int (n:Int)),x6,x7,x8]/\m=B+1-n/\n<=(bf n).length/\ao H H'/\H' F=some (.dK (fdK (bf n) as))/\as.length=n /\
  H' W=some (.lst ((bf n).map kV))/\H' N=some (.dK (knK (bf n)))/\∀(i:Nat) x a,(bf n)[i]?=some x->as[i]?=some a->bj H' a (steps x),
  ⟨_,0,[],none,none,none,rfl,rfl,Nat.zero_le _,S03,S3 _ _ (S2 _ _ q1),rfl,S3 _ _ q2,q3,λi x a _ e=>nomatch e⟩,?_⟩
 rintro m σ H' ⟨n,as,x6,x7,x8,rfl,rfl,hn,SH,hF',las,hW',hN',hsts⟩
 walk_at "w"
 rw[List.length_map]
 by_cases cn:n<(bf n).length
 case neg =>
  refine ifF (decide_eq_false (by omega)) ?_
  walk_at "w"
  have e:(bf n).length=n:=by omega
  exact k F as n H' SH hF e las hF' hsts
 refine ifT (decide_eq_true (by omega)) ?_
 refine⟨λσ' H''=>∃(as:List Addr) (x6 x7 x8:Option V),σ'=[some (kV start),some (.ref fl),some (.ref F),some (.ref W),some (.ref N),some (.int ((n+1:Nat):Int)),x6,x7,x8]/\n+1<=(bf (n+1)).length/\ao H H''/\H'' F=some (.dK (fdK (bf (n+1)) as))/\as.length=n+1 /\
  H'' W=some (.lst ((bf (n+1)).map kV))/\H'' N=some (.dK (knK (bf (n+1))))/\∀(i:Nat) x a,(bf (n+1))[i]?=some x->as[i]?=some a->bj H'' a (steps x),λσ' H'' h=>?_,?_⟩
 ·obtain⟨as,x6,x7,x8,e1,e2,e3,e4,e5,e6,e7,e8⟩:=h
  exact⟨B+1-(n+1),by have:=fewB n;omega,n+1,as,x6,x7,x8,e1,rfl,e2,e3,e4,e5,e6,e7,e8⟩
 obtain⟨x,hx⟩:∃x,(bf n)[n]?=some x:=⟨_,List.getElem?_eq_getElem cn⟩
 have hbs:bf (n+1)=Bf.a9 (bf n) (nx x):=Bf.eC hx
 walk_at "w"
 refine i_ixL (v:=kV x) (SqL.of hW') (bB (by rw[List.getElem?_map,hx];rfl)) ?_
 walk_at "w"
 refine uW rfl hC (SH _ _ hfl) (i_var rfl ⟨SH _ _ hfl,hst x H' _ (reach n x (List.mem_of_getElem? hx)) SH λa H4 S4 st4=>?_⟩)
 walk_at "w"
 refine fL (i_var rfl (i_var rfl (i_var rfl ?_)))
 refine⟨F,_,rfl,fV.k (k:=x) (S4 _ _ hF') (by rw[ip (by omega)];have:=fewB n;omega),?_⟩
 have pn:bI (fdK (bf n) as) x (V.ref a)=fdK (bf n) (as++[a]):=by
  rw[tI (by rw[las];exact hx)]
  refine c_ _ (dw.mpr ?_)
  rw[gh,las]
  intro hm
  obtain⟨i,hi,e⟩:=List.mem_iff_getElem.mp hm
  rw[List.length_take]at hi
  rw[List.getElem_take]at e
  have e2:=(List.getElem?_eq_some_iff.mp hx).2
  have:=(List.getElem_inj (Bf.bV (nx:=nx) (s:=start) n)).mp (e.trans e2.symm)
  omega
 rw[pn]
 -- what the steps' list is not
 obtain⟨vs,ha,pr⟩:=id st4
 have neW:∀{Hx:Hp} {ws:List Key},Hx W=some (.lst (ws.map kV))->ws≠[]->∀{b:Addr} {sts:List (V × Key)},bj Hx b sts->b≠W:=λ{Hx ws} hw ne {b sts} ⟨us,hb,pu⟩ z=>by
  rw[z,hw]at hb
  cases hb
  cases ws with
  | nil=>exact ne rfl
  | cons y ws =>
   cases pu with
   | cons h _ =>
    obtain⟨c,e,_⟩:=h
    cases y <;> cases e
 have neD:∀{Hx:Hp} {D:Addr} {kvs:List (Key × V)},Hx D=some (.dK kvs)->∀{b:Addr} {sts:List (V × Key)},bj Hx b sts->b≠D:=λ{Hx D kvs} hd {b sts} ⟨us,hb,_⟩ z=>by
  rw[z,hd]at hb
  cases hb
 have keepS:∀{Ha Hb:Hp} {ws:List Key} {k1 k2:List (Key × V)},Ha W=some (.lst (ws.map kV))->ws≠[]->Ha F=some (.dK k1)->Ha N=some (.dK k2)->jZ F W N Ha Hb->∀{b:Addr} {sts:List (V × Key)},bj Ha b sts->bj Hb b sts:=λ{Ha Hb ws k1 k2} hw ne h1 h2 o {b sts} st=>by
  have n1:=neW hw ne st
  have n2:=neD h1 st
  have n3:=neD h2 st
  obtain⟨us,hb,pu⟩:=st
  refine⟨us,o b _ hb n2 n1 n3,cD (λv s ⟨c,e,q⟩=>⟨c,e,o c _ q (λz=>?_) (λz=>?_) λz=>?_⟩) pu⟩
  ·rw[z,h1]at q;cases q
  ·rw[z,hw]at q;cases q
  ·rw[z,h2]at q;cases q
 have bne:bf n≠[]:=λz=>by rw[z]at cn;simp at cn
 have hF4:=S4 _ _ hF'
 have hW4:=S4 _ _ hW'
 have hN4:=S4 _ _ hN'
 have off4:jZ F W N H4 (upd H4 F (.dK (fdK (bf n) (as++[a])))):=λb o e h1 _ _=>by rw[aj h1];exact e
 have hF5:upd H4 F (.dK (fdK (bf n) (as++[a]))) F=some (.dK (fdK (bf n) (as++[a]))):=ag
 have hW5:upd H4 F (.dK (fdK (bf n) (as++[a]))) W=some (.lst ((bf n).map kV)):=by rw[aj FW.symm];exact hW4
 have hN5:upd H4 F (.dK (fdK (bf n) (as++[a]))) N=some (.dK (knK (bf n))):=by rw[aj FN.symm];exact hN4
 have st5:=keepS hW4 bne hF4 hN4 off4 st4
 have sts5:∀(i:Nat) y b,(bf n)[i]?=some y->(as++[a])[i]?=some b->bj (upd H4 F (.dK (fdK (bf n) (as++[a])))) b (steps y):=λi y b e1 e2=>by
  by_cases ci:i<as.length
  ·rw[List.getElem?_append_left ci]at e2
   exact keepS hW4 bne hF4 hN4 off4 ((hsts i y b e1 e2).same S4)
  ·rw[List.getElem?_append_right (by omega)]at e2
   have:i=n:=by
    have:=(List.getElem?_eq_some_iff.mp e2).1
    simp at this
    omega
   subst this
   rw[hx]at e1
   cases e1
   rw[las,Nat.sub_self]at e2
   cases e2
   exact st5
 have SH5:ao H (upd H4 F (.dK (fdK (bf n) (as++[a])))):=off (SH.trans S4) off4
 generalize upd H4 F (.dK (fdK (bf n) (as++[a])))=H5 at *
 obtain⟨vs5,ha5,pr5⟩:=id st5
 refine aP (s_for (s_list (i_var rfl ⟨a,rfl,⟨_,SqL.of ha5⟩,?_⟩)))
 refine dh (xs:=vs5) (λi σ' H'=>∃x8,σ'=[some (kV start),some (.ref fl),some (.ref F),some (.ref W),some (.ref N),some (.int (n:Int)),some (kV x),some (.ref a),x8]/\jZ F W N H5 H'/\H' F=some (.dK (fdK (bf n) (as++[a]))) /\
  H' W=some (.lst ((Bf.a9 (bf n) ((nx x).take i)).map kV))/\H' N=some (.dK (knK (Bf.a9 (bf n) ((nx x).take i))))) ⟨_,rfl,λb o e _ _ _=>e,hF5,hW5,hN5⟩ (λi σ' H' _ pv=>?_) (λi v σ' H' hv pv=>?_) (λσ' H' pv=>?_)
 ·obtain⟨_,_,o,_⟩:=pv
  exact SqL.of (o a _ ha5 (neD hF5 st5) (neW hW5 bne st5) (neD hN5 st5))
 ·obtain⟨x8,rfl,o,e1,e2,e3⟩:=pv
  obtain⟨⟨nm,y⟩,hy,b,rfl,hb⟩:=paired_get pr5 hv
  have hb':H' b=some (.tup [nm,kV y]):=o b _ hb (λz=>by rw[z,hF5]at hb;cases hb) (λz=>by rw[z,hW5]at hb;cases hb) (λz=>by rw[z,hN5]at hb;cases hb)
  have hny:(nx x)[i]?=some y:=by
   show ((steps x).map (·.2))[i]?=_
   rw[List.getElem?_map,hy];rfl
  have ext:Bf.a9 (bf n) ((nx x).take (i+1))=Bf.a9 (Bf.a9 (bf n) ((nx x).take i)) [y]:=by
   rw[List.take_succ,hny,Bf.jX];rfl
  have lenN:(Bf.a9 (bf n) ((nx x).take i)).length<=B:=hfew _ (Bf.dv _ _ (Bf.bV n)) λz hz=>by
   rcases(Bf.dH _ _ _).mp hz with h|h
   ·exact reach n z h
   ·exact .step (reach n x (List.mem_of_getElem? hx)) (List.mem_of_mem_take h)
  walk_at "w"
  refine fg (i_op (i_var rfl (i_c (i_ixT hb' rfl (i_var rfl ?_)))))
  refine⟨N,_,rfl,cq.k (k:=y) e3,_,rfl,?_⟩
  by_cases cy:y∈Bf.a9 (bf n) ((nx x).take i)
  ·rw[Bf.jI cy]at ext
   refine ifF ?_ ?_
   ·cases e:bh (knK (Bf.a9 (bf n) ((nx x).take i))) y with
    | none=>exact absurd cy (io.mp e)
    | some v=>rfl
   walk_at "w"
   refine⟨_,rfl,o,e1,?_,?_⟩
   ·rw[ext];exact e2
   ·rw[ext];exact e3
  ·rw[Bf.jH cy]at ext
   have nn:=io.mpr cy
   refine ifT (by rw[nn];rfl) ?_
   walk_at "w"
   refine fL (i_c (i_var rfl (i_op (i_var rfl (i_c (i_ixT hb' rfl ?_))))))
   refine⟨N,_,rfl,fV.k (k:=y) e3 (by unfold knK;rw[List.length_map];omega),?_⟩
   have e2':upd H' N (.dK (bI (knK (Bf.a9 (bf n) ((nx x).take i))) y (.bl true))) W=some (.lst ((Bf.a9 (bf n) ((nx x).take i)).map kV)):=by rw[aj WN];exact e2
   have hb'':upd H' N (.dK (bI (knK (Bf.a9 (bf n) ((nx x).take i))) y (.bl true))) b=some (.tup [nm,kV y]):=by rw[aj (λz=>by rw[z,e3]at hb';cases hb')];exact hb'
   refine s_drop (i_bm (i_var rfl ⟨i_tyL e2',?_⟩))
   refine i_cons (i_op (i_var rfl (i_c (i_ixT hb'' rfl (i_nil (dS e2' (by rw[List.length_map];omega) ?_))))))
   refine⟨_,rfl,λc u e h1 h2 h3=>by rw[aj h2,aj h3];exact o c u e h1 h2 h3,by rw[aj FW,aj FN];exact e1,?_,?_⟩
   ·rw[ag,ext,List.map_append];rfl
   ·rw[aj WN.symm,ag,c_ _ nn,ext]
    unfold knK
    rw[List.map_append];rfl
 ·obtain⟨x8,rfl,o,e1,e2,e3⟩:=pv
  have lv:vs5.length=(nx x).length:=by
   show _=((steps x).map (·.2)).length
   rw[List.length_map];exact aK pr5
  rw[lv,List.take_of_length_le (Nat.le_refl _),<-hbs]at e2 e3
  refine⟨_,rfl,?_⟩
  refine i_c ⟨_,_,rfl,rfl,?_⟩
  have pre:bf n <+: bf (n+1):=Bf.jC n
  have l1:n+1<=(bf (n+1)).length:=by
   have:=pre.length_le
   omega
  refine⟨as++[a],_,_,_,by rw[show ((n+1:Nat):Int)=(n:Int)+1 from rfl];rfl,l1,off SH5 o,?_,by rw[List.length_append,las];rfl,e2,e3,λi y b h1 h2=>?_⟩
  ·rw[tJ (by rw[List.length_append,las];simp;omega) pre];exact e1
  ·have hi:i<n+1:=by
    have:=(List.getElem?_eq_some_iff.mp h2).1
    rw[List.length_append,las]at this
    simpa using this
   exact keepS hW5 bne hF5 hN5 o (sts5 i y b (Bf.iX pre (by omega) h1) h2)
end
def ff:Lm:=match cw (top 17) with
 | .Return (some (.Call _ [_,.Lambda p b sc pos] _ _)) _::_=>⟨("steps_found" ++ ".<locals>.") ++ "<lambda>", p,b,sc,pos⟩
 | _=>⟨"", { posonlyargs:=[],args:=[],vararg:=none,kwonlyargs:=[],kw_defaults:=[],kwarg:=none,defaults:=[] },.Constant .none 0 ⟨0,0,0,0⟩,ay (top 0),⟨0,0,0,0⟩⟩
theorem xX {ns:List (Str × NameKind)} (h:ns.all (λp=>!(p.2==NameKind.free) || p.1==y)=true) (e:ns.lookup z=some .free):z=y:=by
 have:=List.all_eq_true.mp h _ (dG e)
 simpa using this
theorem s_:LmScope "here" "net" ff.scope:=⟨rfl,rfl,rfl,rfl,rfl,by decide,by decide +kernel,λz h=>xX (by decide +kernel) h⟩
structure Tk (T:Addr) (H H':Hp):Prop where
 old:∀b o,H b=some o->b≠T->H' b=some o
 tab:gq T ff H'
theorem wr {l:Lm} (t:gq T l H):∃ps,H T=some (.tbl ps):=by rcases t with e|⟨c,e,_⟩ <;> exact⟨_,e⟩
variable {o u:HO}
theorem o9 {l:Lm} (t:gq T l H) (h:H b=some o) (n:∀ps,o≠.tbl ps):b≠T:=λz=>by
 obtain⟨ps,e⟩:=wr t
 rw[z,e]at h
 exact n ps (Option.some.inj h).symm
theorem kY {l:Lm} (t:gq T l H) (S:ao H H'):gq T l H':=by
 rcases t with e|⟨c,e,q⟩
 ·exact .inl (S _ _ e)
 ·exact .inr ⟨c,S _ _ e,S _ _ q⟩
theorem Tk.lst (t:gq T ff H) (k:Tk T H H'):∀b xs,H b=some (.lst xs)->H' b=some (.lst xs):=λb xs e=>k.old b _ e (o9 t e λ_ z=>nomatch z)
theorem Tk.tup (t:gq T ff H) (k:Tk T H H'):∀b xs,H b=some (.tup xs)->H' b=some (.tup xs):=λb xs e=>k.old b _ e (o9 t e λ_ z=>nomatch z)
theorem Tk.of (t:gq T ff H) (S:ao H H'):Tk T H H':=⟨λb o e _=>S b o e,kY t S⟩
theorem Tk.trans (a:Tk T H H1) (b:Tk T H1 H2):Tk T H H2:=⟨λc o e n=>b.old c o (a.old c o e n) n,b.tab⟩
theorem NAt.mono (hl:∀b xs,H b=some (.lst xs)->H' b=some (.lst xs)) (ht:di H H') (h:NAt H a li lg ins vs gs):NAt H' a li lg ins vs gs:=⟨ht _ _ h.ha,hl _ _ h.hi,hl _ _ h.hg,a_ ht h.gates⟩
def cO (ps:List (Str × Str)):List (V × Key):=ps.map λp=>(V.str p.1,Sum.inr p.2)
def stN (ins:List Str) (gs:List (Str × Rl)):Key->List (V × Key)
 | .inr z=>cO (ap ins gs z)
 | .inl _=>[]
theorem mt {ps:List (Str × Str)} (hl:H l=some (.lst vs)) (p:Paired (jY H) vs ps):bj H l (cO ps):=by
 refine⟨vs,hl,?_⟩
 unfold cO
 clear hl
 induction p with
 | nil=>exact .nil
 | cons h _ ih=>exact .cons h ih
theorem mv {p:Str × Str} (h:p∈ap ins gs z):∃i,ins.length<=i/\i<ins.length+gs.length/\p.2=eS z i/\(∃g,gs[i-ins.length]?=some g/\p.1=g.1):=by
 unfold ap at h
 obtain⟨q,hq,e⟩:=List.mem_filterMap.mp h
 obtain⟨j,hj,ej⟩:=List.mem_iff_getElem.mp hq
 have e2:=List.getElem?_eq_getElem hj
 rw[ej,List.getElem?_zipIdx]at e2
 unfold bG at e
 split at e
 ·cases e
 ·cases e
  rw[List.length_zipIdx]at hj
  rw[List.getElem?_eq_getElem hj]at e2
  cases e2
  exact⟨ins.length+j,by omega,by omega,rfl,gs[j],by rw[Nat.add_sub_cancel_left];exact List.getElem?_eq_getElem hj,rfl⟩
theorem bX (ins:List Str) (gs:List (Str × Rl)):(au ins gs).length=ins.length+gs.length:=by unfold au;rw[List.length_append,List.length_map]
theorem e_ (st:StOk (au ins gs).length z) {x:Key} (r:Bf.Reach (nxK (stN ins gs)) (Sum.inr z) x):∃y:Str,x=Sum.inr y/\StOk (au ins gs).length y:=by
 induction r with
 | start=>exact⟨z,rfl,st⟩
 | @step a b _ hb ih =>
  obtain⟨y,rfl,sy⟩:=ih
  unfold nxK stN cO at hb
  rw[List.map_map]at hb
  obtain⟨p,hp,rfl⟩:=List.mem_map.mp hb
  obtain⟨i,h1,h2,e,_⟩:=mv hp
  refine⟨p.2,rfl,?_⟩
  rw[e]
  exact o0 sy (by rw[bX];exact h2)
def l9:Nat->List (List Nat)
 | 0=>[[]]
 | n+1=>(l9 n).flatMap λl=>[48::l,49::l]
theorem jG:∀n,(l9 n).length=2 ^ n
 | 0=>rfl
 | n+1=>by
  unfold l9
  rw[List.length_flatMap]
  show ((l9 n).map λ_=>2).sum=_
  rw[List.map_const',List.sum_replicate_nat,jG n,Nat.pow_succ]
theorem jF:∀n (l:List Nat),l.length=n->(∀c∈l,c=48\/c=49)->l∈l9 n
 | 0,l,h,_=>by rw[List.eq_nil_of_length_eq_zero h];simp[l9]
 | n+1,[],h,_=>by simp at h
 | n+1,c::l,h,hc=>by
  unfold l9
  rw[List.mem_flatMap]
  refine⟨l,jF n l (by simpa using h) (λd hd=>hc d (List.mem_cons_of_mem _ hd)),?_⟩
  rcases hc c (by simp) with e|e <;> subst e <;> simp
theorem gd {xs:List Key} (n11:n<=11) (nd:xs.Nodup) (h:∀x∈xs,∃y:Str,x=Sum.inr y/\StOk n y):xs.length<=2048:=by
 have:=Bf.pigeon xs ((l9 n).map λl=>(Sum.inr ⟨l.toArray⟩:Key)) nd λx hx=>by
  obtain⟨y,rfl,st⟩:=h x hx
  exact List.mem_map.mpr ⟨y.cps.toList,jF n _ (by rw[Array.length_toList];exact st.len) st.signs,by cases y;simp⟩
 rw[List.length_map,jG]at this
 have h2:2 ^ n<=2 ^ 11:=Nat.pow_le_pow_right (by decide) n11
 have h3:(2:Nat) ^ 11=2048:=by decide
 omega
def gx (TL:Addr):Sp:=λvs H Q _=>∃a li lg ins gvs gs z,vs=[.ref a,.str z]/\NAt H a li lg ins gvs gs/\NetOk ins gs/\StOk (au ins gs).length z/\gq TL ff H /\
 ∀(F:Addr) (as:List Addr) (n:Nat) (H':Hp),Tk TL H H'->H F=none->(Bf.bfs (nxK (stN ins gs)) (Sum.inr z) n).length=n->as.length=n->H' F=some (.dK (fdK (Bf.bfs (nxK (stN ins gs)) (Sum.inr z) n) as)) ->
  (∀(i:Nat) x b,(Bf.bfs (nxK (stN ins gs)) (Sum.inr z) n)[i]?=some x->as[i]?=some b->bj H' b (stN ins gs x))->Q (.ref F) H'
section
theorem tW {f c cell:Addr} (f_steps_from:Fn P w K mg base "steps_from" ["net", "standing"] 12 c9):Calls P w K mg base 13 f (vI f ff "net" cell c (iC c9 [] E0 (bQ (cI 1) (bQ (cI 0) hG)))) :=
 oV (k:=12) s_ (λpm ctv u=>rfl) λA outer s H hr=>vM f_steps_from hr (by rfl) (aa (pv 1) (aa (pv 0) af))
theorem iR:FnScope ["net", "standing"] ["net", "standing"] (ay (top 17)):=by walk_at "k"
theorem oj {TL cc:Addr} {f:Addr} {fd:FuncData} (Fu:FunC K "steps_found" "steps_found" (top 17) f fd cc) (T:Txt K mg TT) (CT:PySem.W.CodeHd base cc TL) (BM:fG base mg) (f_found_from:Fn P w K mg base "found_from" ["start", "steps_of"] 14 (lm P w K mg base 13)) (f_steps_from:Fn P w K mg base "steps_from" ["net", "standing"] 12 c9) :
  FnOk P w K mg base CX0 15 f fd ["net", "standing"] (gx TL):=by
 have S:=iR
 refine Fu.ok S (λvs H Q E h=>?_) (λA outer s H vs Q E hr h=>?_)
 ·obtain⟨a,li,lg,ins,gvs,gs,z,rfl,_⟩:=h
  rfl
 ·obtain⟨a,li,lg,ins,gvs,gs,z,rfl,NA,ok,st,tb,k⟩:=h
  have hu:=de hr
  have HCL:PySem.closureFor ff.scope (PyProof.Rows.envOfC "steps_found" (ay (top 17)) s.heap.objs.size f (.ref cc))=pure [(("net" : Str),(s.heap.objs.size+1:Addr))]:=by rfl
  refine'⟨?_,?bb,?_⟩
  case bb =>
   refine' am ?s1
   case s1 =>
    exact(aF (wI (i:=0) f_found_from (hr.mono (by first|decide|omega)) (by rfl) (aa (pv 1) (aa (wH (T:=TL) (cl:=[(("net" : Str),(s.heap.objs.size+1:Addr))]) rfl CT BM HCL) af) ai) rfl rfl (Or.inr (Or.inl rfl)) rfl rfl))
  walk_at "e"
  generalize hcell:s.heap.objs.size+1=cell
  with_reducible refine s_ret ?_
  show bQ (cI 1) (bQ (xE TL ff [("net", cell)]) hG) _ _ _
  refine i_cons (i_var rfl (i_cons ⟨tb,λfl c H2 md=>i_nil ⟨_,rfl,λo uy hd ru hc=>?_⟩⟩))
  have md:Made TL ff [("net", cell)] H fl c H2:=md
  obtain rfl:uy=Value.ref a:=ru
  have NA2:NAt H2 a li lg ins gvs gs:=NA.mono (λb xs e=>md.old b _ e (o9 tb e λ_ z=>nomatch z)) (λb xs e=>md.old b _ e (o9 tb e λ_ z=>nomatch z))
  have S2c:ao H2 (upd H2 cell (d8 o)):=ak hc
  have hf2:upd H2 cell (d8 o) fl=some (gS fl ff [("net", cell)] c):=S2c _ _ md.fn
  have hcc2:upd H2 cell (d8 o) c=some (gZ c ff.qual):=S2c _ _ md.code
  have hcl2:upd H2 cell (d8 o) cell=some (d8 o):=ag
  have NA2c:=NA2.same S2c
  have k12:∀b u,H b=some u->b≠TL->upd H2 cell (d8 o) b=some u:=λb u e n=>S2c _ _ (md.old b u e n)
  have tb2:gq TL ff (upd H2 cell (d8 o)):=.inr ⟨c,S2c _ _ md.tab,hcc2⟩
  have nocell:∀{b u},H2 b=some u->b≠cell:=λe z=>by rw[z,hc]at e;cases e
  have H2R:∀{b u},H b=some u->b≠TL->b≠cell:=λ{b u} e n=>nocell (md.old b u e n)
  have Tcell:TL≠cell:=nocell md.tab
  generalize upd H2 cell (d8 o)=H2c at *
  have w11:(au ins gs).length<=11:=by rw[bX];have:=ok.i4;have:=ok.g7;omega
  refine⟨Sum.inr z,fl,ff,[("net", cell)],c,_,stN ins gs,2048,rfl,hf2,tW (c:=c) (cell:=cell) f_steps_from,by decide,λx H4 Q1 rx S4 q4=>?_,λxs nd h=>gd w11 nd λx hx=>e_ st (h x hx),λF as n H3 S3 hF ln3 las hF3 sts=>?_⟩
  ·obtain⟨y,rfl,sy⟩:=e_ st rx
   have NA4:=NA2c.same S4
   have hcl4:=S4 _ _ hcl2
   refine⟨o,Value.ref a,.ref a,S4 _ _ hf2,S4 _ _ hcc2,hcl4,hd,rfl,?_⟩
   have dl:∀b xs,H4 b=some (.lst xs)->dr H4 cell b=some (.lst xs):=λb xs e=>by rw[bu (λz=>by rw[z,hcl4]at e;cases e)];exact e
   have dt:∀b xs,H4 b=some (.tup xs)->dr H4 cell b=some (.tup xs):=λb xs e=>by rw[bu (λz=>by rw[z,hcl4]at e;cases e)];exact e
   refine i_call (i_cons (i_var rfl (i_cons (i_var rfl (i_nil ?_)))))
   refine⟨a,li,lg,ins,gvs,gs,y,rfl,NA4.mono dl dt,ok,sy,λl vs' H5 S5 hl0 hl5 pr5 hn5=>?_⟩
   have kc:di H5 (upd H5 cell (d8 o)):=λb xs e=>by rw[aj (λz=>by rw[z,hn5]at e;cases e)];exact e
   refine q4 l _ (λb u e=>?_) (mt (by rw[aj (λz=>by rw[z,hn5]at hl5;cases hl5)];exact hl5) (bY kc pr5))
   by_cases cb:b=cell
   ·subst cb;rw[ag,<-hcl4];exact e
   ·rw[aj cb];exact S5 _ _ (by rw[bu cb];exact e)
  show Q (V.ref F) (dr H3 cell)
  have hcl3:=S3 _ _ hcl2
  have d3:∀{b u},H3 b=some u->b≠cell->dr H3 cell b=some u:=λe n=>by rw[bu n];exact e
  have Fcell:F≠cell:=λz=>by rw[z,hcl2]at hF;cases hF
  have tb3:gq TL ff (dr H3 cell):=by
   rcases tb2 with e|⟨c',e,q⟩
   ·exact .inl (d3 (S3 _ _ e) Tcell)
   ·have c'cell:c'≠cell:=λz=>by rw[z,hcl2]at q;cases q
    exact .inr ⟨c',d3 (S3 _ _ e) Tcell,d3 (S3 _ _ q) c'cell⟩
  have F0:H F=none:=by
   cases e:H F with
   | none=>rfl
   | some u =>
    by_cases c:F=TL
    ·obtain⟨ps,e2⟩:=wr tb2
     rw[c,e2]at hF;cases hF
    ·rw[k12 _ _ e c]at hF;cases hF
  refine k F as n _ ⟨λb u e nT=>d3 (S3 _ _ (k12 b u e nT)) (H2R e nT),tb3⟩ F0 ln3 las (d3 hF3 Fcell) λi x b e1 e2=>?_
  obtain⟨vs,h1,h2⟩:=sts i x b e1 e2
  exact⟨vs,d3 h1 (λz=>by rw[z,hcl3]at h1;cases h1),cD (λv st ⟨b,e,q⟩=>⟨b,e,d3 q (λz=>by rw[z,hcl3]at q;cases q)⟩) h2⟩
end
theorem lP {nm:Str}:∀{ns:List Str},inV (.str nm) (ns.map V.str)=true↔nm∈ns
 | []=>by simp[inV]
 | x::ns=>by
  have ih:=lP (nm:=nm) (ns:=ns)
  unfold inV at ih ⊢
  rw[List.map_cons,List.any_cons,Bool.or_eq_true,ih,List.mem_cons]
  have:eqV (.str x) (.str nm)=true↔nm=x:=by
   show decide (x=nm)=true↔_
   rw[decide_eq_true_iff]
   exact⟨λh=>h.symm,λh=>h.symm⟩
  rw[this]
theorem kI (ns:List Str):(ns.map V.str).all cT=true:=by
 rw[List.all_eq_true]
 intro x hx
 obtain⟨y,_,rfl⟩:=List.mem_map.mp hx
 rfl
section
variable (ins:List Str) (gs:List (Str × Rl))
end
theorem cA (ins:List Str) (gs:List (Str × Rl)) (y:Str):(ap ins gs y).length<=gs.length:=by
 unfold ap
 have:=List.length_filterMap_le (bG (sgn (au ins gs) y) y) (gs.zipIdx ins.length)
 rwa [List.length_zipIdx]at this
theorem fI {ps:List (Str × Str)} (pv:Paired (λv (s:V × Key)=>∃b,v=.ref b/\H b=some (.tup [s.1,kV s.2])) vs (cO ps)) {v:V} (e:vs[i]?=some v):∃p b,ps[i]?=some p/\v=.ref b/\H b=some (.tup [.str p.1,.str p.2]):=by
 obtain⟨st,e1,b,e2,h⟩:=paired_get pv e
 unfold cO at e1
 rw[List.getElem?_map]at e1
 cases e3:ps[i]? with
 | none=>rw[e3]at e1;cases e1
 | some p=>rw[e3]at e1;cases e1;exact⟨p,b,rfl,e2,h⟩
section
end
section
variable (st:Str->List (Str × Str))
def evs (xs:List Str):List (Str × (Str × Str)):=xs.flatMap λh=>(st h).map λp=>(p.2,(p.1,h))
def cR (es:List (Str × (Str × Str))) (x:Str):Option (Str × Str):=(es.find? λe=>e.1==x).map (·.2)
inductive Path (xs:List Str) (s:Str):Str->List Str->Prop
 | nil:Path xs s s []
 | snoc {x h nm:Str} {ns:List Str}:x≠s->cR (evs st xs) x=some (nm,h)->Path xs s h ns->Path xs s x (ns++[nm])
end
variable {st:Str->List (Str × Str)}
theorem Path.det (a:Path st xs s x ns):Path st xs s x ms->ns=ms:=by
 induction a generalizing ms with
 | nil=>intro b;cases b with
  | nil=>rfl
  | snoc h _ _=>exact absurd rfl h
 | snoc h c _ ih=>intro b;cases b with
  | nil=>exact absurd rfl h
  | snoc h' c' p' =>
   rw[c]at c'
   cases c'
   rw[ih p']
theorem Path.start {xs:List Str} (a:Path st xs s s ns):ns=[]:=a.det .nil
theorem eO {es:List (Str × (Str × Str))} {e:Str × (Str × Str)}:cR (es++[e]) x=match cR es x with|some r=>some r|none=>if e.1=x then some e.2 else none:=by
 unfold cR
 rw[List.find?_append]
 cases h:es.find? (λe=>e.1==x) with
 | some r=>rfl
 | none =>
  rw[Option.none_or]
  by_cases c:e.1=x
  ·rw[if_pos c,List.find?_cons,show (e.1==x)=true from by simpa using c];rfl
  ·rw[if_neg c,List.find?_cons,show (e.1==x)=false from by simpa using c];rfl
structure CAt (H:Hp) (C:Addr) (kvs:List (Key × V)) (es:List (Str × (Str × Str))):Prop where
 hC:H C=some (.dK kvs)
 some:∀x r,cR es x=some r->∃t,bh kvs (Sum.inr x)=some (.ref t)/\H t=some (.tup [.str r.1,.str r.2])
 none:∀x,cR es x=none->bh kvs (Sum.inr x)=none
 len:kvs.length<=es.length
def az (xs:List Str):List Key:=xs.map Sum.inr
def rO:Sp:=λvs H Q _=>∃(F:Addr) (as:List Addr) (st:Str->List (Str × Str)) (xs:List Str) (s x:Str) (ns:List Str),vs=[.ref F,.str s,.str x]/\Rd H F (.dK (fdK (az xs) as))/\as.length=xs.length/\xs.length<=2048/\xs.Nodup/\(∀h,(st h).length<=7) /\
 (∀(i:Nat) h b,xs[i]?=some h->as[i]?=some b->bj H b (cO (st h)))/\Path st xs s x ns/\ns.length<=3000/\∀l H',ao H H'->H l=none->H' l=some (.lst (ns.map V.str))->Q (.ref l) H'
theorem lR {k:Key} {v:V} (h:(fdK (az xs) as)[j]?=some (k,v)):∃x b,xs[j]?=some x/\as[j]?=some b/\k=Sum.inr x/\v=.ref b:=by
 unfold fdK az at h
 rw[List.getElem?_map]at h
 cases q:((xs.map Sum.inr:List Key).zip as)[j]? with
 | none=>rw[q]at h;cases h
 | some p =>
  obtain⟨p1,p2⟩:=p
  rw[q]at h
  cases h
  obtain⟨h1,h2⟩:=List.getElem?_zip_eq_some.mp q
  rw[List.getElem?_map]at h1
  cases e:xs[j]? with
  | none=>rw[e]at h1;cases h1
  | some x=>rw[e]at h1;cases h1;exact⟨x,p2,rfl,h2,rfl,rfl⟩
theorem dL (nd:(kvs.map (·.1)).Nodup):∀{i:Nat} {k:Key} {v:V},kvs[i]?=some (k,v)->bh kvs k=some v:=by
 induction kvs with
 | nil=>intro i k v e;simp at e
 | cons p r ih =>
  intro i k v e
  rw[List.map_cons,List.nodup_cons]at nd
  cases i with
  | zero =>
   simp at e
   subst e
   exact bM (p:=(k,v)) rfl
  | succ i =>
   simp at e
   rw[bO (λz:p.1=k=>nd.1 (by rw[z];exact List.mem_map.mpr ⟨(k,v),List.mem_of_getElem? e,rfl⟩))]
   exact ih nd.2 e
theorem eK (nd:xs.Nodup):((fdK (az xs) as).map (·.1)).Nodup:=by
 rw[gh]
 refine(List.take_sublist _ _).nodup ?_
 unfold az
 exact List.Pairwise.map _ (λa b h z=>h (Sum.inr.inj z)) nd
theorem xm {ta:TA} (q:ta σ H λvs H1=>∃l xs,vs=[.ref l]/\SqL K H1 l xs/\∀p,H1 p=none->Q (.ref p) (upd H1 p (.lst xs.reverse))):vq K ta σ H Q:=q
section
theorem mC:FnScope ["found", "start", "other", "came", "here", "name", "behind", "names"] ["found", "start", "other"] (ay (top 18)):=by walk_at "k"
theorem w_ {f:Addr} {fd:FuncData} (Fu:Fun K "order_to" "order_to" (top 18) f fd) (T:Txt K mg TT):FnOk P w K mg base CX0 1 f fd ["found", "start", "other"] rO:=by
 have S:=mC
 refine Fu.ok S (by walk_at "l") (λcdv A outer s H vs Q E hr h=>?_)
 obtain⟨F,as,st,xs,z,x,ns,rfl,rd,las,lxs,nd,few,sts,pth,lns,k⟩:=h
 have hu:=de hr
 refine'⟨?_,?bb,?_⟩
 case bb =>
  refine' ad ?s1 ?r1
  case s1 =>
   refine' aA 3 S.nd ?e
   case e=>exact d_
  case r1 =>
   refine' ad ?s3 ?r3
   case s3 =>
    refine' rW ?z4
    case z4 =>
     refine' bP PassesOwn.never rfl ?i4 ?g4 ?b4 ?h4
     case h4=>intro _;rfl
     case i4=>exact(f9 (pv 0))
     case g4=>exact(bU 4 S.nd)
     case b4 =>
      refine' am ?s5
      case s5 =>
       refine' bP PassesOwn.never rfl ?i6 ?g6 ?b6 ?h6
       case h6=>intro _;rfl
       case i6=>exact(bD (bA hu (pv 0) (pv 4) (λ_ _=>rfl)))
       case g6=>exact(gI rfl (bp (bU 5 S.nd) (bp (bU 6 S.nd) dO)))
       case b6 =>
        refine' am ?s7
        case s7 =>
         exact(br (sn (pv 3) (pv 6) (aL (aa (pv 5) (aa (pv 4) af ai) ai)) ⟨rfl,rfl,rfl,rfl⟩))
   case r3 =>
    refine' ad ?s9 ?r9
    case s9 =>
     refine' aA 7 S.nd ?e
     case e=>exact(bd af)
    case r9 =>
     refine' ad ?s11 ?r11
     case s11 =>
      refine' aA 4 S.nd ?e
      case e=>exact(pv 2)
     case r11 =>
      refine' ad ?s13 ?r13
      case s13 =>
       refine' dD PassesOwn.never ?c14 ?b14
       case c14=>exact(aC i9 (pv 4) (pv 1) (aI _))
       case b14 =>
        refine' ad ?s15 ?r15
        case s15 =>
         exact(br (cM PySem.F.plainAttrs_list PySem.F.slot_list_append PySem.F.type_list_append ba (pv 7) (aa (ax aJ (bA hu (pv 3) (pv 4) (λ_ _=>rfl)) ae (λ_ _=>rfl)) af)))
        case r15 =>
         refine' am ?s17
         case s17 =>
          refine' aA 4 S.nd ?e
          case e=>exact(ax aJ (bA hu (pv 3) (pv 4) (λ_ _=>rfl)) ae (λ_ _=>rfl))
      case r13 =>
       refine' am ?s19
       case s19 =>
        exact(aF (uw rfl (by rfl) T.n_list (by rfl) T.n_reversed (aa (pv 7) af ai)))
 walk_at "e"
 refine aP (s_asg ?_)
 intro C hC
 refine s_name ?_
 generalize hE:upd H C _=H1
 obtain⟨S1,q1⟩:=aN hC hE
 clear hE
 obtain⟨uF,hF⟩:=f6 rd
 have FC:F≠C:=aq hF hC
 have rd1:Rd H1 F (.dK (fdK (az xs) as)):=by
  rcases rd with e|⟨o,e⟩
  ·exact .inl (S1 _ _ e)
  ·exact .inr ⟨o,S1 _ _ e⟩
 with_reducible refine aP ?_
 refine vC (a:=F) (u:=.dK (fdK (az xs) as)) rd1 trivial λob=>?_
 have h2:∀b,b≠F->upd H1 F (.frz ob (.dK (fdK (az xs) as))) b=H1 b:=λb n=>aj n
 have hF2:upd H1 F (.frz ob (.dK (fdK (az xs) as))) F=some (.frz ob (.dK (fdK (az xs) as))):=ag
 generalize upd H1 F (.frz ob (.dK (fdK (az xs) as)))=H2 at *
 have nFl:∀{b xs'},H b=some (.lst xs')->b≠F:=λ{b xs'} e zz=>by
  rw[zz]at e
  rcases rd with e'|⟨o,e'⟩ <;> rw[e]at e' <;> cases e'
 have nFt:∀{b xs'},H b=some (.tup xs')->b≠F:=λ{b xs'} e zz=>by
  rw[zz]at e
  rcases rd with e'|⟨o,e'⟩ <;> rw[e]at e' <;> cases e'
 have sts2:∀(i:Nat) h b,xs[i]?=some h->as[i]?=some b->bj H2 b (cO (st h)):=λi h b e1 e2=>by
  obtain⟨vs,v1,v2⟩:=sts i h b e1 e2
  exact⟨vs,by rw[h2 _ (nFl v1)];exact S1 _ _ v1,cD (λv s ⟨b,e,q⟩=>⟨b,e,by rw[h2 _ (nFt q)];exact S1 _ _ q⟩) v2⟩
 have hC2:H2 C=some (.dK []):=by rw[h2 C FC.symm];exact q1
 have lfd:(fdK (az xs) as).length=xs.length:=by rw[ip (by unfold az;rw[List.length_map];omega)];exact las
 have levs:∀ys:List Str,(evs st ys).length<=7*ys.length:=λys=>by
  unfold evs
  induction ys with
  | nil=>simp
  | cons y ys ih =>
   rw[List.flatMap_cons,List.length_append,List.length_map,List.length_cons]
   have:=few y
   omega
 refine s_for (ii (i_var rfl ⟨F,ob,_,rfl,hF2,?_⟩))
 refine nt (λj σ' H'=>∃(kvs:List (Key × V)) (x4 x5 x6:Option V),σ'=[some (.ref F),some (.str z),some (.str x),some (.ref C),x4,x5,x6,none]/\(∀b u,H2 b=some u->b≠C->H' b=some u)/\CAt H' C kvs (evs st (xs.take j)))
  ⟨_,_,_,_,rfl,λb u e _=>e,⟨hC2,λx r e=>by simp[evs,cR]at e,λx _=>rfl,Nat.le_refl _⟩⟩ (λj σ' H' _ pv=>?_) (λj ky vl σ' H' hj pv=>?_) (λσ' H' pv=>?_)
 ·obtain⟨_,_,_,_,_,o2,_⟩:=pv
  exact o2 F _ hF2 FC
 ·obtain⟨kvs,x4,x5,x6,rfl,o2,ca⟩:=pv
  obtain⟨h,b,hx,hb,rfl,rfl⟩:=lR hj
  obtain⟨vs,hvs,pvs⟩:=sts2 j h b hx hb
  have bC:b≠C:=λzz=>by rw[zz,hC2]at hvs;cases hvs
  have lvs:vs.length=(st h).length:=by have:=aK pvs;unfold cO at this;rwa [List.length_map]at this
  have dg:cq H' F (kV (Sum.inr h)) (some (.ref b)):=.inl ⟨_,Sum.inr h,.inr ⟨ob,o2 F _ hF2 FC⟩,rfl,(dL (eK nd) hj).symm⟩
  have hjx:j<xs.length:=(List.getElem?_eq_some_iff.mp hx).1
  refine s_name ?_
  refine s_for (s_list (i_dget (i_var rfl (i_var rfl ⟨F,_,rfl,dg,b,rfl,⟨_,SqL.of (o2 _ _ hvs bC)⟩,?_⟩))))
  refine dh (xs:=vs) (λi σ' H'=>∃(kvs:List (Key × V)) (x5 x6:Option V),σ'=[some (.ref F),some (.str z),some (.str x),some (.ref C),some (.str h),x5,x6,none]/\(∀b u,H2 b=some u->b≠C->H' b=some u)/\CAt H' C kvs (evs st (xs.take j)++((st h).take i).map λp=>(p.2,(p.1,h))))
   ⟨kvs,_,_,rfl,o2,by simpa using ca⟩ (λi σ' H' _ pv=>?_) (λi v σ' H' hv pv=>?_) (λσ' H' pv=>?_)
  ·obtain⟨_,_,_,_,o3,_⟩:=pv
   exact SqL.of (o3 _ _ hvs bC)
  ·obtain⟨kvs,x5,x6,rfl,o3,ca3⟩:=pv
   obtain⟨p,b2,hp,rfl,hb2⟩:=fI pvs hv
   have hb3:H' b2=some (.tup [.str p.1,.str p.2]):=o3 _ _ hb2 (λzz=>by rw[zz,hC2]at hb2;cases hb2)
   have hi:i<vs.length:=(List.getElem?_eq_some_iff.mp hv).1
   refine⟨b2,_,rfl,SqT.of hb3,rfl,_,_,rfl,s_name ⟨_,_,rfl,s_name ⟨rfl,?_⟩⟩⟩
   refine s_drop (uV (i_var rfl ⟨C,rfl,.inl ⟨_,.inl ca3.hC⟩,i_var rfl ?_⟩))
   refine i_tup (i_cons (i_var rfl (i_cons (i_var rfl (i_nil ⟨by simp[sizeLine],λt ht=>?_⟩)))))
   have hev:evs st (xs.take j)++((st h).take (i+1)).map (λp=>(p.2,(p.1,h)))=(evs st (xs.take j)++((st h).take i).map λp=>(p.2,(p.1,h)))++[(p.2,(p.1,h))]:=by
    rw[List.take_succ,hp,List.map_append,List.append_assoc];rfl
   have lk:=ca3.len
   have lev:(evs st (xs.take j)++((st h).take i).map λp=>(p.2,(p.1,h))).length<=7*2048+7:=by
    rw[List.length_append,List.length_map,List.length_take]
    have h1:=levs (xs.take j)
    have h2:=few h
    rw[List.length_take]at h1
    omega
   have St:ao H' (upd H' t (.tup [.str p.1,.str h])):=ak ht
   have tC:t≠C:=mW ca3.hC ht
   refine⟨kvs,Sum.inr p.2,St _ _ ca3.hC,rfl,λv hv=>?_,λhn=>⟨by omega,?_⟩⟩
   ·refine⟨kvs,_,_,rfl,λb u e n=>St _ _ (o3 b u e n),?_⟩
    rw[hev]
    have hs:∃r,cR (evs st (xs.take j)++((st h).take i).map λp=>(p.2,(p.1,h))) p.2=some r:=by
     cases e:cR (evs st (xs.take j)++((st h).take i).map λp=>(p.2,(p.1,h))) p.2 with
     | some r=>exact⟨r,rfl⟩
     | none=>rw[ca3.none _ e]at hv;cases hv
    obtain⟨r0,hr0⟩:=hs
    refine⟨St _ _ ca3.hC,λy r e=>?_,λy e=>?_,by rw[List.length_append];exact Nat.le_trans lk (Nat.le_add_right _ _)⟩
    ·rw[eO]at e
     cases c:cR (evs st (xs.take j)++((st h).take i).map λp=>(p.2,(p.1,h))) y with
     | some r' =>
      rw[c]at e
      cases e
      obtain⟨t',a1,a2⟩:=ca3.some y _ c
      exact⟨t',a1,St _ _ a2⟩
     | none =>
      rw[c]at e
      by_cases cy:p.2=y
      ·rw[<-cy,hr0]at c;cases c
      ·simp[cy]at e
    ·rw[eO]at e
     cases c:cR (evs st (xs.take j)++((st h).take i).map λp=>(p.2,(p.1,h))) y with
     | some r'=>rw[c]at e;cases e
     | none=>exact ca3.none y c
   ·have upd3:∀b u,upd H' t (.tup [.str p.1,.str h]) b=some u->b≠C->upd (upd H' t (.tup [.str p.1,.str h])) C (.dK (bI kvs (Sum.inr p.2) (.ref t))) b=some u:=λb u e n=>by rw[aj n];exact e
    refine⟨bI kvs (Sum.inr p.2) (.ref t),_,_,rfl,λb u e n=>upd3 _ _ (St _ _ (o3 b u e n)) n,?_⟩
    rw[hev]
    refine⟨ag,λy r e=>?_,λy e=>?_,?_⟩
    ·rw[eO]at e
     cases c:cR (evs st (xs.take j)++((st h).take i).map λp=>(p.2,(p.1,h))) y with
     | some r' =>
      rw[c]at e
      cases e
      obtain⟨t',a1,a2⟩:=ca3.some y _ c
      refine⟨t',?_,upd3 _ _ (St _ _ a2) (λzz=>by rw[zz,ca3.hC]at a2;cases a2)⟩
      rw[eX,if_neg (λzz=>by rw[zz,hn]at a1;cases a1)]
      exact a1
     | none =>
      rw[c]at e
      by_cases cy:p.2=y
      ·subst cy
       simp at e
       subst e
       exact⟨t,by rw[eX,if_pos rfl],upd3 _ _ ag tC⟩
      ·simp[cy]at e
    ·rw[eO]at e
     cases c:cR (evs st (xs.take j)++((st h).take i).map λp=>(p.2,(p.1,h))) y with
     | some r'=>rw[c]at e;cases e
     | none =>
      rw[c]at e
      by_cases cy:p.2=y
      ·simp[cy]at e
      ·rw[eX,if_neg (λzz=>cy (Sum.inr.inj zz).symm)];exact ca3.none y c
    ·rw[c_ _ hn,List.length_append,List.length_append]
     show kvs.length+1<=_+1
     omega
  ·obtain⟨kvs,x5,x6,rfl,o3,ca3⟩:=pv
   refine⟨kvs,_,_,_,rfl,o3,?_⟩
   rw[lvs,List.take_of_length_le (Nat.le_refl _)]at ca3
   have e:evs st (xs.take (j+1))=evs st (xs.take j)++(st h).map λp=>(p.2,(p.1,h)):=by
    unfold evs
    rw[List.take_succ,hx,List.flatMap_append]
    simp
   rw[e]
   exact ca3
 ·obtain⟨kvs,x4,x5,x6,rfl,o2,ca⟩:=pv
  refine⟨o2 F _ hF2 FC,?_⟩
  rw[lfd,List.take_of_length_le (Nat.le_refl _)]at ca
  have hC3:back H1 F H' C=some (.dK kvs):=by rw[bw FC.symm];exact ca.hC
  have ca':CAt (back H1 F H') C kvs (evs st xs):=⟨hC3,λy r e=>by
   obtain⟨t,a1,a2⟩:=ca.some y r e
   refine⟨t,a1,?_⟩
   rw[bw (λzz=>by rw[zz,o2 F _ hF2 FC]at a2;cases a2)]
   exact a2,ca.none,ca.len⟩
  have S3:ao H (back H1 F H'):=λb u e=>by
   have nC:b≠C:=aq e hC
   by_cases cF:b=F
   ·subst cF;rw[eD];exact S1 _ _ e
   ·rw[bw cF];exact o2 b u (by rw[h2 b cF];exact S1 _ _ e) nC
  generalize back H1 F H'=H3 at *
  with_reducible refine aP ?_
  refine s_asg (i_lst (i_nil ⟨by simp[sizeLine],λN hN=>s_name ?_⟩))
  generalize hE:upd H3 N _=H4
  obtain⟨S4,q4⟩:=aN hN hE
  clear hE
  with_reducible refine aP ?_
  refine s_asg (i_var rfl (s_name ?_))
  with_reducible refine aP ?_
  refine⟨λm σ' H'=>∃(y:Str) (ys ms:List Str) (x5 x6:Option V),σ'=[some (.ref F),some (.str z),some (.str x),some (.ref C),some (.str y),x5,x6,some (.ref N)]/\m=ms.length/\(∀b u,H3 b=some u->H' b=some u)/\H' N=some (.lst (ys.map V.str))/\Path st xs z y ms/\ns=ms++ys.reverse,⟨_,x,[],ns,_,_,rfl,rfl,S4,q4,pth,by simp⟩,λm σ' H' pv=>?_⟩
  obtain⟨y,ys,ms,x5,x6,rfl,rfl,o4,hN4,py,ens⟩:=pv
  have lens:ns.length=ms.length+ys.length:=by rw[ens,List.length_append,List.length_reverse]
  refine i_test (i_op (i_var rfl (i_var rfl (i_ne rfl ⟨_,rfl,?_⟩))))
  by_cases cy:y=z
  ·subst cy
   refine ifF (by rw[decide_eq_true rfl];rfl) ?_
   have e0:=py.start
   subst e0
   rw[List.nil_append]at ens
   refine s_ret (xm (i_cons (i_var rfl (i_nil ⟨N,_,rfl,SqL.of hN4,λp hp=>?_⟩))))
   have Sf:ao H (upd H' p (.lst (ys.map V.str).reverse)):=λb u e=>ak hp _ _ (o4 _ _ (S3 _ _ e))
   have p0:H p=none:=by
    cases e:H p with
    | none=>rfl
    | some u=>rw[o4 _ _ (S3 _ _ e)]at hp;cases hp
   exact k p _ Sf p0 (by rw[ag,ens,List.map_reverse])
  ·refine ifT (by rw[decide_eq_false (λzz=>cy (V.str.inj zz))];rfl) ⟨_,λ_ _ h=>h,?_⟩
   cases py with
   | nil=>exact absurd rfl cy
   | @snoc _ h nm ms' _ cm ph =>
    obtain⟨t,a1,a2⟩:=ca'.some y _ cm
    have dgC:∀{H5:Hp},H5 C=some (.dK kvs)->cq H5 C (.str y) (some (.ref t)):=λ{H5} e=>by
     have:=cq.k (k:=Sum.inr y) e
     rw[a1]at this
     exact this
    have hCt:=o4 _ _ hC3
    have ht:=o4 _ _ a2
    have tN:t≠N:=λzz=>by rw[zz,hN]at a2;cases a2
    have CN:C≠N:=λzz=>by rw[zz,hN]at hC3;cases hC3
    rw[List.length_append]at lens
    with_reducible refine aP ?_
    refine s_drop (i_bm (i_var rfl ⟨i_tyL hN4,i_cons (i_op (i_dget (i_var rfl (i_var rfl ⟨C,_,rfl,dgC hCt,i_c (i_ixT ht rfl (i_nil (dS hN4 (by rw[List.length_map];simp at lens;omega) ?_)))⟩))))⟩))
    have hC5:upd H' N (.lst (ys.map V.str++[.str nm])) C=some (.dK kvs):=by rw[aj CN];exact hCt
    have ht5:upd H' N (.lst (ys.map V.str++[.str nm])) t=some (.tup [.str nm,.str h]):=by rw[aj tN];exact ht
    refine s_asg (i_op (i_dget (i_var rfl (i_var rfl ⟨C,_,rfl,dgC hC5,i_c (i_ixT ht5 rfl (s_name ?_))⟩))))
    refine⟨ms'.length,by rw[List.length_append];simp,h,ys++[nm],ms',_,_,rfl,rfl,λb u e=>?_,by rw[ag,List.map_append];rfl,ph,?_⟩
    ·rw[aj (λzz=>by rw[zz,hN]at e;cases e)];exact o4 _ _ e
    ·rw[ens,List.reverse_append];simp
end
theorem ng:∀{ks:List Key},(∀k∈ks,∃y:Str,k=Sum.inr y)->∃xs:List Str,ks=az xs
 | [],_=>⟨[],rfl⟩
 | k::ks,h=>by
  obtain⟨y,rfl⟩:=h k (by simp)
  obtain⟨xs,rfl⟩:=ng λk hk=>h k (List.mem_cons_of_mem _ hk)
  exact⟨y::xs,rfl⟩
theorem cX {k:Key}:(az xs)[i]?=some k↔∃x,xs[i]?=some x/\k=Sum.inr x:=by
 unfold az
 rw[List.getElem?_map]
 cases xs[i]? with
 | none=>simp
 | some x=>simp[eq_comm]
theorem kB:∀{xs ys:List Str},az xs=az ys->xs=ys
 | [],[],_=>rfl
 | [],y::ys,h=>by cases h
 | x::xs,[],h=>by cases h
 | x::xs,y::ys,h=>by
  unfold az at h
  rw[List.map_cons,List.map_cons]at h
  injection h with h1 h2
  rw[Sum.inr.inj h1,kB (xs:=xs) (ys:=ys) h2]
structure Met (ins:List Str) (gs:List (Str × Rl)) (z:Str) (xs:List Str):Prop where
 bfs:az xs=Bf.bfs (nxK (stN ins gs)) (Sum.inr z) xs.length
 st:∀x∈xs,StOk (au ins gs).length x
theorem sV {k:Key}:k∈nxK (stN ins gs) (Sum.inr h)↔∃p∈ap ins gs h,k=Sum.inr p.2:=by
 unfold nxK stN cO
 rw[List.map_map]
 constructor
 ·intro q
  obtain⟨p,hp,e⟩:=List.mem_map.mp q
  exact⟨p,hp,e.symm⟩
 ·rintro⟨p,hp,rfl⟩
  exact List.mem_map.mpr ⟨p,hp,rfl⟩
variable {ins:List Str} {gs:List (Str × Rl)} {z:Str} {xs:List Str}
section
theorem Met.len (m:Met ins gs z xs):(Bf.bfs (nxK (stN ins gs)) (Sum.inr z) xs.length).length=xs.length:=by rw[<-m.bfs];unfold az;rw[List.length_map]
theorem Met.nd (m:Met ins gs z xs):xs.Nodup:=by
 have:=Bf.bV (nx:=nxK (stN ins gs)) (s:=(Sum.inr z:Key)) xs.length
 rw[<-m.bfs]at this
 unfold az at this
 exact(List.pairwise_map.mp this).imp λh e=>h (by rw[e])
theorem Met.zero (m:Met ins gs z xs):xs[0]?=some z:=by
 have:=Bf.nF (nx:=nxK (stN ins gs)) (s:=(Sum.inr z:Key)) xs.length
 rw[<-m.bfs]at this
 obtain⟨x,h1,h2⟩:=cX.mp this
 cases h2
 exact h1
theorem Met.pred (m:Met ins gs z xs) {j:Nat} {x:Str} (hj:0<j) (e:xs[j]?=some x):∃i h p,i<j/\xs[i]?=some h/\p∈ap ins gs h/\p.2=x:=by
 obtain⟨i,k,h1,_,h3,h4⟩:=Bf.jB (nx:=nxK (stN ins gs)) (s:=(Sum.inr z:Key)) xs.length j (Sum.inr x) hj (by rw[<-m.bfs];exact cX.mpr ⟨x,e,rfl⟩)
 rw[<-m.bfs]at h3
 obtain⟨h,e1,rfl⟩:=cX.mp h3
 obtain⟨p,hp,e2⟩:=sV.mp h4
 exact⟨i,h,p,h1,e1,hp,(Sum.inr.inj e2).symm⟩
theorem Met.closed (m:Met ins gs z xs) {h:Str} (hh:h∈xs) {p:Str × Str} (hp:p∈ap ins gs h):p.2∈xs:=by
 obtain⟨i,hi,e⟩:=List.mem_iff_getElem.mp hh
 have:=Bf.jD (nx:=nxK (stN ins gs)) (s:=(Sum.inr z:Key)) (n:=xs.length) (i:=i) hi (by rw[<-m.bfs];exact cX.mpr ⟨h,by rw[List.getElem?_eq_getElem hi,e],rfl⟩) (Sum.inr p.2) (sV.mpr ⟨p,hp,rfl⟩)
 rw[<-m.bfs]at this
 unfold az at this
 obtain⟨y,hy,e⟩:=List.mem_map.mp this
 cases e
 exact hy
theorem Met.one {ys:List Str} (m:Met ins gs z xs) (m':Met ins gs z ys):xs=ys:=by
 have e:=Bf.vb m.len m'.len
 have h:=m.bfs
 rw[e,<-m'.bfs]at h
 exact kB h
theorem jx {st:Str->List (Str × Str)}:∀{xs:List Str} {i:Nat} {h:Str} {p:Str × Str},xs[i]?=some h->p∈st h->∃i' h' nm,i'<=i/\xs[i']?=some h'/\cR (evs st xs) p.2=some (nm,h')
 | [],_,_,_,e,_=>by simp at e
 | x0::xs,i,h,p,e,hp=>by
  have split:evs st (x0::xs)=((st x0).map λp=>(p.2,(p.1,x0)))++evs st xs:=rfl
  cases q:((st x0).map λp=>(p.2,(p.1,x0))).find? λe=>e.1==p.2 with
  | some r =>
   have hm:=List.mem_of_find?_eq_some q
   obtain⟨p',_,rfl⟩:=List.mem_map.mp hm
   refine⟨0,x0,p'.1,Nat.zero_le _,rfl,?_⟩
   unfold cR
   rw[split,List.find?_append,q];rfl
  | none =>
   cases i with
   | zero =>
    simp at e
    subst e
    have:=List.find?_eq_none.mp q (p.2,(p.1,x0)) (List.mem_map.mpr ⟨p,hp,rfl⟩)
    simp at this
   | succ i =>
    obtain⟨i',h',nm,a,b,c⟩:=jx (xs:=xs) (i:=i) (by simpa using e) hp
    refine⟨i'+1,h',nm,by omega,by simpa using b,?_⟩
    unfold cR at c ⊢
    rw[split,List.find?_append,q,Option.none_or]
    exact c
theorem Met.path (m:Met ins gs z xs):∀(j:Nat) (x:Str),xs[j]?=some x->∃ns,Path (ap ins gs) xs z x ns/\ns.length<=j:=by
 intro j
 induction j using Nat.strongRecOn with
 | _ j ih =>
  intro x e
  by_cases hj:j=0
  ·subst hj
   rw[m.zero]at e
   cases e
   exact⟨[],.nil,Nat.le_refl _⟩
  ·obtain⟨i,h,p,h1,h2,h3,rfl⟩:=m.pred (by omega) e
   obtain⟨i',h',nm,a,b,c⟩:=jx h2 h3
   obtain⟨ns,pn,ln⟩:=ih i' (by omega) h' b
   refine⟨ns++[nm],.snoc (λq=>?_) c pn,by rw[List.length_append];simp;omega⟩
   rw[q]at e
   have e0:=m.zero
   have hl:=(List.getElem?_eq_some_iff.mp e).1
   have:=(List.getElem?_inj (i:=0) (j:=j) (by omega) m.nd).mp (by rw[e0,e])
   omega
end
section
end
structure DOk (ns:List Int):Prop where
 lo:200<=ns.length
 hi:ns.length<=400
 each:∀n∈ns,0<=n/\n<10007
def lq (K:PySem.W.Frag):Sp:=λvs H Q _=>∃(s:Addr) (cs:List Int),vs=[.ref s,.int 200]/\SqL K H s (cs.map V.int)/\cs.length<=63/\∀l ns H',ao H H'->H l=none->H' l=some (.lst (ns.map V.int))->DOk ns->Q (.ref l) H'
theorem u_ {xs:List V} {lo hi:Option Int}:(∀x∈fh xs lo hi,x∈xs)/\(fh xs lo hi).length<=xs.length :=
 ⟨λx hx=>List.mem_of_mem_drop (List.mem_of_mem_take hx),gX xs lo hi⟩
theorem pQ:∀(xs:List V),(∀x∈xs,∃i:Int,x=.int i)->∃ds:List Int,xs=ds.map V.int
 | [],_=>⟨[],rfl⟩
 | x::xs,h=>by
  obtain⟨i,e⟩:=h x (by simp)
  obtain⟨ds,e2⟩:=pQ xs λy hy=>h y (List.mem_cons_of_mem _ hy)
  exact⟨i::ds,by rw[e,e2];rfl⟩
theorem tR (cs:List Int) (h:cs.length<=63) {lo hi:Option Int}:∃ds:List Int,fh (cs.map V.int) lo hi=ds.map V.int/\ds.length<=63:=by
 obtain⟨m,l⟩:=u_ (xs:=cs.map V.int) (lo:=lo) (hi:=hi)
 obtain⟨ds,e⟩:=pQ (fh (cs.map V.int) lo hi) λx hx=>by
  obtain⟨i,_,e⟩:=List.mem_map.mp (m x hx)
  exact⟨i,e.symm⟩
 refine⟨ds,e,?_⟩
 rw[e,List.length_map,List.length_map]at l
 omega
theorem oK {ns:List Int} {n:Int} (h:H p=some (.lst (ns.map V.int))) (hz:ns.length<=500) (hns:∀m∈ns,0<=m/\m<10007) (hb:0<=n/\n<10007)
  (q:∀(H':Hp) (ns':List Int),H' p=some (.lst (ns'.map V.int))->ns'.length=ns.length+1->(∀m∈ns',0<=m/\m<10007)->(∀b,b≠p->H' b=H b)->Q .non H'):lJ (.ref p) [.int n] H Q:=by
 have big:1000<sizeLine:=by decide
 refine dS h (by rw[List.length_map];omega) (q _ (ns++[n]) (by rw[ag];simp) (by simp) (λm hm=>?_) λb hb=>aj hb)
 rcases List.mem_append.mp hm with h|h
 ·exact hns m h
 ·rw[List.mem_singleton]at h
  rw[h]
  exact hb
theorem oz (a:Int):0<=a % 10007/\a % 10007<10007:=⟨Int.emod_nonneg _ (by decide),Int.emod_lt_of_pos _ (by decide)⟩
theorem iT (S:ao H H3) (hp:H p=none) (h:∀b,b≠p->H4 b=H3 b):ao H H4:=λb u e=>by rw[h b (aq e hp)];exact S b u e
section
theorem lE:FnScope ["script", "many", "drawn", "base", "k", "cell", "number", "one"] ["script", "many"] (ay (top 26)):=by walk_at "k"
theorem sR {f:Addr} {fd:FuncData} (Fu:Fun K "_law_draws" "_law_draws" (top 26) f fd) (T:Txt K mg TT):FnOk P w K mg base CX0 1 f fd ["script", "many"] (lq K):=by
 have S:=lE
 refine Fu.ok S (by walk_at "l") (λcdv A outer s H vs Q E hr h=>?_)
 obtain⟨a,cs,rfl,hS,hlen,k⟩:=h
 refine⟨_,(ad (aA 2 S.nd (bd af))
  (ad (rV (i:=3) S.nd rfl (by walk_at "o") ae)
  (ad (bP PassesOwn.never rfl (pD (by rfl) T.n_enumerate (aa (bq dN (pv 0) bK (bJ ae)) af)) (gI rfl (bp (bU 4 S.nd) (bp (bU 5 S.nd) dO)))
  (ad (aA 6 S.nd (aH tZ (by rfl) T.n_abs PyProof.Rows.boot_abs (aa (pv 5) af)))
  (ad (aA 3 S.nd (av aX (av aV (av dE (pv 3) ae) (pv 6)) ae))
  (am (bg (aC xW (pv 6) (av wM ae ae) (aI _)) (am (dD PassesOwn.never (PW.pt (lL (aC sv (pv 6) ae (aI _)) (ik (aC kr (aH aG (by rfl) T.n_len PySem.boot_len (aa (pv 2) af)) (pv 1) (aI _)))))
  (ad (br (cM PySem.F.plainAttrs_list PySem.F.slot_list_append PySem.F.type_list_append ba (pv 2) (aa (av aX (pv 6) ae) af)))
  (am (aA 6 S.nd (av cN (pv 6) ae)))))) (ad (aA 7 S.nd (av aX (av dE (av aV (av aV (av aX (pv 6) ae) (pv 4)) ae) ae) ae))
  (ad (aA 7 S.nd (av aX (av dE (pv 7) (pv 7)) ae))
  (ad (br (cM PySem.F.plainAttrs_list PySem.F.slot_list_append PySem.F.type_list_append ba (pv 2) (aa (av aX (av cN (pv 7) ae) ae) af)))
  (ad (aA 7 S.nd (av aX (av aV (av aV (av dE (pv 7) ae) (av dE ae (pv 4))) ae) ae))
  (ad (aA 7 S.nd (av aX (av dE (pv 7) (pv 7)) ae))
  (am (br (cM PySem.F.plainAttrs_list PySem.F.slot_list_append PySem.F.type_list_append ba (pv 2) (aa (av aX (av cN (pv 7) ae) ae) af))))))))))))))
  (ad (bP PassesOwn.never rfl (cg (by rfl) T.n_range (aa (av gM (pv 1) (aH aG (by rfl) T.n_len PySem.boot_len (aa (pv 2) af))) af)) (bU 4 S.nd)
  (ad (aA 7 S.nd (av aX (av aV (av aV (pv 3) (av dE ae (pv 4))) ae) ae))
  (ad (aA 7 S.nd (av aX (av dE (pv 7) (pv 7)) ae))
  (ad (aA 7 S.nd (av aX (av aV (av dE (pv 7) ae) (pv 4)) ae))
  (am (br (cM PySem.F.plainAttrs_list PySem.F.slot_list_append PySem.F.type_list_append ba (pv 2) (aa (av aX (av cN (av aX (av dE (pv 7) (pv 7)) ae) ae) ae) af))))))))
  (am (aF (pv 2))))))),?_⟩
 walk_at "e"
 walk_at "w"
 refine⟨by decide,λp hp=>?_⟩
 generalize hE:upd _ p _=H1
 have S1:ao H H1:=by rw[<-hE];exact ak hp
 have q1:H1 p=some (.lst (([]:List Int).map V.int)):=by rw[<-hE];exact ag
 clear hE
 walk_at "w"
 show bQ _ _ _ _ _
 walk_at "w"
 refine gW (S1.seq hS) λsl hsl=>?_
 obtain⟨ds,hds,dl⟩:∃ds:List Int,fh (cs.map V.int) none (some 63)=ds.map V.int/\ds.length<=63:=tR cs hlen
 rw[hds]
 generalize hE:upd _ sl _=H2
 have S2:ao H1 H2:=by rw[<-hE];exact ak hsl
 have q2:H2 sl=some (.lst (ds.map V.int)):=by rw[<-hE];exact ag
 clear hE
 have nps:p≠sl:=aq q1 hsl
 refine i_nil ⟨sl,rfl,⟨_,SqL.of q2⟩,?_⟩
 refine nr (xs:=ds.map V.int) (λi σ H'=>(∃(bs:Int) (ns:List Int),∃x4 x5 x6 x7,σ=[some (.ref a),some (.int 200),some (.ref p),some (.int bs),x4,x5,x6,x7]/\0<=bs/\bs<2147483629/\H' p=some (.lst (ns.map V.int))/\ns.length<=200+2*i/\∀n∈ns,0<=n/\n<10007)/\ao H H'/\H' sl=some (.lst (ds.map V.int)))
  ⟨⟨7,[],_,_,_,_,rfl,by decide,by decide,S2 _ _ q1,by simp,λn h=>nomatch h⟩,S1.trans S2,q2⟩ (λi σ H' _ pv=>SqL.of pv.2.2) (λi x σ H' t hx pv ht=>?_) (λσ H' pv=>?_)
 ·obtain⟨⟨bs,ns,x4,x5,x6,x7,rfl,b0,b1,hp',hln,hns⟩,SS,hsl'⟩:=pv
  rw[List.getElem?_map]at hx
  cases hc:ds[i]? with
  | none=>rw[hc]at hx;cases hx
  | some c =>
   rw[hc]at hx
   cases hx
   have hi:i<ds.length:=(List.getElem?_eq_some_iff.mp hc).1
   have S3:=ak (o:=.tup [.int (i:Nat),.int c]) ht
   refine⟨t,_,rfl,SqT.of ag,rfl,?_⟩
   refine⟨_,_,rfl,s_name ⟨_,_,rfl,s_name ?_⟩⟩
   have hp3:=S3 _ _ hp'
   have hsl3:=S3 _ _ hsl'
   have SS3:=SS.trans S3
   generalize upd H' t (.tup [.int (i:Nat),.int c])=H3 at *
   refine⟨rfl,?_⟩
   have n0:0<=(if c<0 then -c else c):=by split <;> omega
   walk_at "w"
   generalize (if c<0 then -c else c)=nu at *
   have bb0:0<=(bs*31+nu) % 2147483629:=Int.emod_nonneg _ (by decide)
   have bb1:(bs*31+nu) % 2147483629<2147483629:=Int.emod_lt_of_pos _ (by decide)
   generalize (bs*31+nu) % 2147483629=b2 at *
   refine d6 (λ_=>?_) (λ_=>?_)
   ·refine⟨λm σ H'=>∃(nu:Int) (ns:List Int),∃x7,m=200-ns.length/\σ=[some (.ref a),some (.int 200),some (.ref p),some (.int b2),some (.int (i:Nat)),some (.int c),some (.int nu),x7]/\H' p=some (.lst (ns.map V.int))/\ns.length<=200+2*(i+1)/\(∀n∈ns,0<=n/\n<10007)/\ao H H'/\H' sl=some (.lst (ds.map V.int)),
     ⟨_,nu,ns,_,rfl,rfl,hp3,by omega,hns,SS3,hsl3⟩,?_⟩
    rintro m σ H4 ⟨nu,ns,x7,rfl,rfl,hp4,hl4,hn4,SS4,hs4⟩
    have done:((∃(bs:Int) (ns:List Int),∃x4 x5 x6 x7',[some (.ref a),some (.int 200),some (.ref p),some (.int b2),some (.int (i:Nat)),some (.int c),some (.int nu),x7]=[some (V.ref a),some (V.int 200),some (V.ref p),some (V.int bs),x4,x5,x6,x7']/\0<=bs/\bs<2147483629/\H4 p=some (.lst (ns.map V.int))/\ns.length<=200+2*(i+1)/\∀n∈ns,0<=n/\n<10007)/\ao H H4/\H4 sl=some (.lst (ds.map V.int))) :=
     ⟨⟨b2,ns,_,_,_,_,rfl,bb0,bb1,hp4,hl4,hn4⟩,SS4,hs4⟩
    walk_at "w"
    refine d6 (λ_=>?_) (λ_=>iteF done)
    walk_at "w"
    refine d6 (λhlt=>?_) (λ_=>done)
    have hlt':ns.length<200:=by
     have:=of_decide_eq_true hlt
     rw[List.length_map]at this
     omega
    refine⟨λσ H'=>∃(nu:Int) (ns':List Int),∃x7,ns'.length=ns.length+1/\σ=[some (.ref a),some (.int 200),some (.ref p),some (.int b2),some (.int (i:Nat)),some (.int c),some (.int nu),x7]/\H' p=some (.lst (ns'.map V.int))/\ns'.length<=200+2*(i+1)/\(∀n∈ns',0<=n/\n<10007)/\ao H H'/\H' sl=some (.lst (ds.map V.int)),λσ' H' w=>by obtain⟨nu,ns',x7,e,r⟩:=w;exact⟨200-ns'.length,by rw[e];exact Nat.sub_lt_sub_left hlt' (Nat.lt_succ_self _),nu,ns',x7,rfl,r⟩,?_⟩
    walk_at "w"
    refine dS hp4 (by rw[List.length_map];omega) ?_
    walk_at "w"
    refine⟨_,ns++[nu % 10007],_,by simp,rfl,by rw[ag];simp,by simp;omega,λn hn=>?_,aR SS4 hp,by rw[aj nps.symm];exact hs4⟩
    rcases List.mem_append.mp hn with h|h
    ·exact hn4 n h
    ·rw[List.mem_singleton]at h
     rw[h]
     exact⟨Int.emod_nonneg _ (by decide),Int.emod_lt_of_pos _ (by decide)⟩
   ·walk_at "w"
    refine oK hp3 (by omega) hns (oz _) λH4 ns4 hp4 l4 hn4 o4=>?_
    walk_at "w"
    refine oK hp4 (by omega) hn4 (oz _) λH5 ns5 hp5 l5 hn5 o5=>?_
    exact⟨⟨b2,ns5,_,_,_,_,rfl,bb0,bb1,hp5,by omega,hn5⟩,iT (iT SS3 hp o4) hp o5,by rw[o5 _ nps.symm,o4 _ nps.symm];exact hsl3⟩
 ·obtain⟨⟨bs,ns,x4,x5,x6,x7,rfl,b0,b1,hp',hln,hns⟩,SS,hsl'⟩:=pv
  rw[List.length_map]at hln
  walk_at "w"
  refine⟨by rw[List.length_map];omega,by rw[List.length_map];omega,?_⟩
  rw[List.length_map]
  refine cY (λi σ H'=>(∃(ns':List Int),∃x4 x5 x6 x7,σ=[some (.ref a),some (.int 200),some (.ref p),some (.int bs),x4,x5,x6,x7]/\H' p=some (.lst (ns'.map V.int))/\ns'.length=ns.length+i/\∀n∈ns',0<=n/\n<10007)/\ao H H') ⟨⟨ns,_,_,_,_,rfl,hp',rfl,hns⟩,SS⟩ (λi σ H' hi pv=>?_) (λσ H' pv=>?_)
  ·obtain⟨⟨ns',x4,x5,x6,x7,rfl,hp6,hl6,hn6⟩,SS6⟩:=pv
   have hi':i<200:=by omega
   refine s_name ?_
   walk_at "w"
   refine oK hp6 (by omega) hn6 (oz _) λH7 ns7 hp7 l7 hn7 o7=>?_
   exact⟨⟨ns7,_,_,_,_,rfl,hp7,by omega,hn7⟩,iT SS6 hp o7⟩
  ·obtain⟨⟨ns',x4,x5,x6,x7,rfl,hp6,hl6,hn6⟩,SS6⟩:=pv
   refine s_ret (te:=cI 2) (D:={ nx:=λx H'=>Q V.non H',rt:=Q }) (i_var rfl ?_)
   exact k p ns' H' SS6 hp hp6 ⟨by omega,by omega,hn6⟩
end
theorem eJ {T:List Nat}:∀(zs:List Str),(∀z∈zs,∃c∈T,z=⟨#[c]⟩)->((zs.map (·.cps.toList)).flatten).length=zs.length/\(∀c∈(zs.map (·.cps.toList)).flatten,c∈T)/\(zs.map (·.length)).sum=zs.length
 | [],_=>⟨rfl,λc h=>(List.not_mem_nil h).elim,rfl⟩
 | z::zs,h=>by
  obtain⟨c,hc,rfl⟩:=h z (by simp)
  obtain⟨e1,e2,e3⟩:=eJ zs λz hz=>h z (List.mem_cons_of_mem _ hz)
  refine⟨?_,λd hd=>?_,?_⟩
  ·simp only[List.map_cons,List.flatten_cons,List.length_append,e1,List.length_cons]
   show (#[c]:Array Nat).toList.length+zs.length=_
   simp
   omega
  ·simp only[List.map_cons,List.flatten_cons,List.mem_append]at hd
   rcases hd with hd|hd
   ·have:d=c:=by simpa using hd
    rw[this];exact hc
   ·exact e2 d hd
  ·simp only[List.map_cons,List.sum_cons,List.length_cons,e3]
   show (#[c]:Array Nat).size+zs.length=_
   simp
   omega
theorem qU {T:List Nat} (h:∀z∈zs,∃c∈T,z=⟨#[c]⟩):(Txt.join Str.empty zs).cps.size=zs.length/\∀c∈(Txt.join Str.empty zs).cps.toList,c∈T:=by
 obtain⟨e1,e2,_⟩:=eJ zs h
 rw[<-Array.length_toList,kH]
 exact⟨e1,e2⟩
theorem ve {t:Str} {r:Int} (h0:0<=r) (h1:r<t.cps.size):∃c,atI t.cps.toList r=some c/\c∈t.cps.toList:=by
 have hr:r.toNat<t.cps.toList.length:=by rw[Array.length_toList];omega
 refine⟨t.cps.toList[r.toNat],?_,List.getElem_mem hr⟩
 have e:r=((r.toNat:Nat):Int):=by omega
 have q:=bB (xs:=t.cps.toList) (j:=r.toNat) (v:=t.cps.toList[r.toNat]) (List.getElem?_eq_getElem hr)
 rw[<-e]at q
 exact q
def Lt:Str := "abcdefghijklmnopqrstuvwxyz"
def Xn (t:Nat):Str:=Txt.mul ⟨#[Lt.cps.getD t 0]⟩ 8
theorem xy:∀i,i<26->∀j,j<26->Xn i=Xn j->i=j:=by decide +kernel
theorem xw:∀t,t<26->(Xn t).length=8:=by decide +kernel
theorem AX (c:Nat):MulOk ⟨#[c]⟩ 8:=by
 refine⟨by decide,λ_ _=>?_,λ_ _=>?_⟩
 ·show ¬((1:Int)>(2 ^ 63-1) / 8)
  decide
 ·rfl
theorem pigeon:∀(xs ys:List Str),xs.Nodup->(∀x∈xs,x∈ys)->xs.length<=ys.length
 | [],ys,_,_=>Nat.zero_le _
 | x::xs,ys,nd,h=>by
  rw[List.nodup_cons]at nd
  have hx:=h x (by simp)
  have:=pigeon xs (ys.erase x) nd.2 λy hy=>(List.mem_erase_of_ne (λz:y=x=>nd.1 (by rw[<-z];exact hy))).mpr (h y (List.mem_cons_of_mem _ hy))
  rw[List.length_erase_of_mem hx]at this
  have:0<ys.length:=List.length_pos_of_mem hx
  rw[List.length_cons]
  omega
theorem nH:∀t,t<=26->((List.range t).map Xn).Nodup
 | 0,_=>by simp
 | t+1,h=>by
  rw[List.range_succ,List.map_append,List.nodup_append]
  refine⟨nH t (by omega),by simp,λa ha b hb e=>?_⟩
  obtain⟨i,hi,rfl⟩:=List.mem_map.mp ha
  rw[List.mem_range]at hi
  have:b=Xn t:=by simpa using hb
  subst this
  have:=xy i (by omega) t (by omega) e
  omega
theorem A7 (ht:t<=26) (h:∀j,j<t->Xn j∈ns):t<=ns.length:=by
 have:=pigeon ((List.range t).map Xn) ns (nH t ht) λx hx=>by
  obtain⟨j,hj,rfl⟩:=List.mem_map.mp hx
  exact h j (List.mem_range.mp hj)
 simpa using this
structure NmOk (b:Nat) (z:Str):Prop where
 pos:1<=z.length
 lt:z.length<b
def Bd (k:Nat):Nat:=9*2 ^ k
theorem qi (k:Nat):Bd (k+1)=2*Bd k:=by unfold Bd;rw[Nat.pow_succ];omega
theorem wp:∀k,9<=Bd k
 | 0=>by decide
 | k+1=>by rw[qi];have:=wp k;omega
theorem Bl:∀k,k<=11->Bd k<=20000:=by decide
theorem vd (h:ns≠[]):∃n∈ns,atI (ns.map V.str) (-1)=some (.str n):=by
 have hl:0<ns.length:=List.length_pos_iff.mpr h
 refine⟨ns[ns.length-1],List.getElem_mem _,?_⟩
 have e:ixN (ns.map V.str).length (-1)=some (ns.length-1):=by
  unfold ixN
  rw[List.length_map,if_neg (by decide),if_pos (by omega)]
  congr 1
  omega
 unfold atI
 rw[e]
 show (ns.map V.str)[ns.length-1]?=_
 rw[List.getElem?_map,List.getElem?_eq_getElem (by omega)]
 rfl
theorem qc {ws:List Str} {r:Int} (h0:0<=r) (h1:r<ws.length):∃n∈ws,atI (ws.map V.str) r=some (.str n):=by
 have hr:r.toNat<ws.length:=by omega
 refine⟨ws[r.toNat],List.getElem_mem hr,?_⟩
 have e:r=((r.toNat:Nat):Int):=by omega
 have q:=bB (xs:=ws.map V.str) (j:=r.toNat) (v:=.str ws[r.toNat]) (by rw[List.getElem?_map,List.getElem?_eq_getElem hr];rfl)
 rw[<-e]at q
 exact q
theorem qr {z:Str} {j:Int} (hz:1<=z.length) (hj:1<=j) (hn:j<=z.length):1<=(Txt.slice z none (some j)).length:=by
 have h':z.length=z.cps.size:=rfl
 have e:j=((j.toNat:Nat):Int):=by omega
 have q:=congrArg List.length (iN (z:=z) (j:=j.toNat) (by omega))
 rw[<-e,Array.length_toList,List.length_take,Array.length_toList]at q
 show 1<=(Txt.slice z none (some j)).cps.size
 omega
def iI:Sp:=λvs H Q _=>∃(d:Addr) (ns:List Int) (spot:Int),vs=[.ref d,.int spot]/\H d=some (.lst (ns.map V.int))/\DOk ns/\0<=spot/\spot<=1000 /\
 ∀l (nm:List Str) H',ao H H'->H l=none->nm.length=11->nm.Nodup->H' l=some (.lst (nm.map V.str))->Q (.ref l) H'
theorem lY {ns:List Int} (h:DOk ns) (i:Int):∃n,0<=n/\n<10007/\atI (ns.map V.int) (i % ((ns.map V.int).length:Int))=some (.int n):=by
 have lo:=h.lo
 rw[List.length_map]
 have h1:0<=i % (ns.length:Int):=Int.emod_nonneg _ (by omega)
 have h2:i % (ns.length:Int)<ns.length:=Int.emod_lt_of_pos _ (by omega)
 have h3:(i % (ns.length:Int)).toNat<ns.length:=by omega
 have e:i % (ns.length:Int)=(((i % (ns.length:Int)).toNat:Nat):Int):=by omega
 obtain⟨e1,e2⟩:=h.each _ (List.getElem_mem h3)
 refine⟨ns[(i % (ns.length:Int)).toNat],e1,e2,?_⟩
 have q:=bB (xs:=ns.map V.int) (j:=(i % (ns.length:Int)).toNat) (v:=.int ns[(i % (ns.length:Int)).toNat]) (by rw[List.getElem?_map,List.getElem?_eq_getElem h3];rfl)
 rw[<-e]at q
 exact q
theorem iw {ns:List Int} (h:DOk ns) {i:Int} (h0:0<=i) (h1:i<200):∃n,0<=n/\n<10007/\atI (ns.map V.int) i=some (.int n):=by
 have lo:=h.lo
 have h3:i.toNat<ns.length:=by omega
 obtain⟨e1,e2⟩:=h.each _ (List.getElem_mem h3)
 refine⟨ns[i.toNat],e1,e2,?_⟩
 have e:i=((i.toNat:Nat):Int):=by omega
 have q:=bB (xs:=ns.map V.int) (j:=i.toNat) (v:=.int ns[i.toNat]) (by rw[List.getElem?_map,List.getElem?_eq_getElem h3];rfl)
 rw[<-e]at q
 exact q
theorem iZ:∀(zs:List Str),(∀z∈zs,z.length=2)->((zs.map (·.cps.toList)).flatten).length=2*zs.length/\(zs.map (·.length)).sum=2*zs.length
 | [],_=>⟨rfl,rfl⟩
 | z::zs,h=>by
  have h0:z.cps.size=2:=h z (by simp)
  have h0':z.length=2:=h0
  obtain⟨e1,e3⟩:=iZ zs λz hz=>h z (List.mem_cons_of_mem _ hz)
  refine⟨?_,?_⟩
  ·simp only[List.map_cons,List.flatten_cons,List.length_append,e1,List.length_cons,Array.length_toList,h0]
   omega
  ·simp only[List.map_cons,List.sum_cons,List.length_cons,e3,h0']
   omega
theorem lap (a b:Str):(a++b).length=a.length+b.length:=by show (a.cps++b.cps).size=_;rw[Array.size_append];rfl
theorem kU (i:Int):∃c,atI Lt.cps.toList (i % 26)=some c:=by
 have z26:((Lt.cps.size:Nat):Int)=26:=by decide +kernel
 obtain⟨c,e,_⟩:=ve (t:=Lt) (r:=i % 26) (Int.emod_nonneg _ (by decide)) (by rw[z26];exact Int.emod_lt_of_pos _ (by decide))
 exact⟨c,e⟩
def NJd (d l so:Addr) (spot:Int) (H:Hp) (wd:Str) (i:Nat) (ns:List Str):St->Hp->Prop:=λσ H'=>∃(way x:Int) (nm:Str) (x10 x11:Option V),σ=[some (.ref d),some (.int spot),some (.str Lt),some (.ref l),some (.int (0+i)),some (.ref so),some (.str wd),some (.int way),some (.int x),some (.str nm),x10,x11]/\0<=x/\NmOk (Bd (i+1)) nm/\H' l=some (.lst (ns.map V.str))/\ao H H'
section
theorem lB:FnScope ["d", "spot", "letters", "found", "k", "some", "word", "way", "x", "name", "at", "turn"] ["d", "spot"] (ay (top 27)):=by walk_at "k"
theorem qH {f:Addr} {fd:FuncData} (Fu:Fun K "_law_names" "_law_names" (top 27) f fd) (T:Txt K mg TT):FnOk P w K mg base CX0 1 f fd ["d", "spot"] iI:=by
 have S:=lB
 refine Fu.ok S (by walk_at "l") (λcdv A outer s H vs Q E hr h=>?_)
 obtain⟨d,ds,spot,rfl,hd,dok,sp0,sp1,k⟩:=h
 refine'⟨?_,(ad ?h0 (ad ?h1 (ad (bP PassesOwn.never rfl ?h2 ?h3 (ad ?h4 (ad ?h5 (ad ?h6 (ad ?h7 (ad ?h8 (ad (bg ?h9 (am ?h10) aM) (ad (bg ?h11 (ad ?h12 (am ?h13)) aM) (ad (bg ?h14 (am ?h15) aM) (ad ?h16 (ad (dD PassesOwn.never ?h17 (ad ?h18 (am ?h19))) (am ?h20)))))))))))) (am ?h21)))),?_⟩
 case h0 =>
  refine' aA 2 S.nd ?e
  case e=>exact aE
 case h1 =>
  refine' aA 3 S.nd ?e
  case e=>exact(bd af)
 case h2=>exact(cg (by rfl) T.n_range (aa ae af aB))
 case h3=>exact(bU 4 S.nd)
 case h4=>exact(pB (j:=5) S.nd rfl (by walk_at "o") (tgs:=["j"]) (cap:=[("d", 0),("spot", 1),("k", 4)]) rfl ⟨rfl,rfl,rfl,rfl,rfl,rfl⟩ (cg (by rfl) T.n_range (aa ae af aB)) (λ_ _ _ _=>(bt (i:=0) (show List.Nodup [("j" : Str),("d" : Str),("spot" : Str),("k" : Str)] by decide +kernel) rfl (by walk_at "o"))) (λ_ _ _ _=>b_) (λ_ _ _ _=>(ax (jm (K:=K) rfl) (pv 1) (av aX (av aV (av aV (av aV ae (pv 2)) (av dE ae (pv 3))) (pv 0)) (aH (d7 (K:=K) rfl) (by rfl) T.n_len PySem.boot_len (aa (pv 1) af ai))) (λ_ _=>rfl))))
 case h5 =>
  refine' aA 6 S.nd ?e
  case e=>exact(cM PySem.F.plainAttrs_str PySem.F.slot_str_join PySem.F.type_str_join pJ aE (aa (fc (tgs:=["one"]) (cap:=[("letters", 2)]) rfl ⟨rfl,rfl,rfl,rfl,rfl,rfl⟩ (bD (bq dN (pv 5) bK (bJ ae))) (λ_ _ _ _=>(bt (i:=0) (show List.Nodup [("one" : Str),("letters" : Str)] by decide +kernel) rfl (by walk_at "o"))) (λ_ _ _ _=>b_) (λ_ _ _ _=>(av ce (ax d5 (pv 1) (av aX (pv 0) ae) (λ_ _=>rfl)) (ax d5 (pv 1) (av aX (av cN (pv 0) ae) ae) (λ_ _=>rfl))))) af))
 case h6 =>
  refine' aA 7 S.nd ?e
  case e=>exact(av aX (ax aD (pv 5) ae (λ_ _=>rfl)) ae)
 case h7 =>
  refine' aA 8 S.nd ?e
  case e=>exact(av cN (ax aD (pv 5) ae (λ_ _=>rfl)) ae)
 case h8 =>
  refine' aA 9 S.nd ?e
  case e=>exact(bq eZ (pv 6) bK (bJ (av aV ae (av aX (pv 8) ae))))
 case h9=>exact(aC bR (pv 7) ae (aI _))
 case h10 =>
  refine' aA 9 S.nd ?e
  case e =>
   exact(av ce (bq eZ (ax aD (av gN (pv 3) (bd (aa (pv 6) af ai))) ae (λ_ _=>rfl)) bK (bJ (av aX (pv 8) ae))) (ax d5 (pv 6) ae (λ_ _=>rfl)))
 case h11=>exact(PW.pt (lL (aC bR (pv 7) ae (aI _)) (ik (aC (i0 hr.units) (pv 3) (bd af) (aI _)))))
 case h12 =>
  refine' aA 10 S.nd ?e
  case e=>exact(av aX (pv 8) (aH gn (by rfl) T.n_len PySem.boot_len (aa (ax aD (pv 3) (sj nK ae) (λ_ _=>rfl)) af)))
 case h13 =>
  refine' aA 9 S.nd ?e
  case e=>exact(av ce (av ce (bq eZ (ax aD (pv 3) (sj nK ae) (λ_ _=>rfl)) bK (bJ (pv 10))) (ax d5 (pv 6) ae (λ_ _=>rfl))) (bq eZ (ax aD (pv 3) (sj nK ae) (λ_ _=>rfl)) (bJ (av aV (pv 10) ae)) bK))
 case h14=>exact(aC bR (pv 7) ae (aI _))
 case h15 =>
  refine' aA 9 S.nd ?e
  case e =>
   with_reducible refine' ax ?r2 ?v2 ?b2 ?p2
   case r2=>exact aD
   case p2=>exact(λ_ _=>rfl)
   case v2 =>
    with_reducible refine' bd ?a3
    case a3 =>
     with_reducible refine' aa ?e4 ?s4 aB
     case e4 =>
      exact aE
     case s4 =>
      with_reducible refine' aa ?e6 ?s6 aB
      case e6 =>
       exact aE
      case s6 =>
       with_reducible refine' aa ?e8 ?s8 aB
       case e8 =>
        exact aE
       case s8 =>
        with_reducible refine' aa ?e10 ?s10 aB
        case e10 =>
         exact aE
        case s10 =>
         with_reducible refine' aa ?e12 ?s12 aB
         case e12 =>
          exact aE
         case s12 =>
          with_reducible refine' aa ?e14 ?s14 aB
          case e14 =>
           exact aE
          case s14 =>
           with_reducible refine' aa ?e16 ?s16 aB
           case e16 =>
            exact aE
           case s16 =>
            with_reducible refine' aa ?e18 ?s18 aB
            case e18 =>
             exact aE
            case s18 =>
             with_reducible refine' aa ?e20 ?s20 aB
             case e20 =>
              exact aE
             case s20 =>
              with_reducible refine' aa ?e22 ?s22 aB
              case e22 =>
               exact aE
              case s22 =>
               exact af
   case b2 =>
    exact(av aX (pv 8) ae)
 case h16 =>
  refine' aA 11 S.nd ?e
  case e=>exact ae
 case h17=>exact(aC qC (pv 9) (pv 3) rfl)
 case h18 =>
  refine' aA 9 S.nd ?e
  case e=>exact(av oh (ax d5 (pv 2) (pv 11) (λ_ _=>rfl)) ae)
 case h19 =>
  refine' aA 11 S.nd ?e
  case e=>exact(av aV (pv 11) ae)
 case h20=>exact(br (cM PySem.F.plainAttrs_list PySem.F.slot_list_append PySem.F.type_list_append ba (pv 3) (aa (pv 9) af ai)))
 case h21=>exact(aF (pv 3))
 walk_at "e"
 walk_at "w"
 refine⟨by decide,λl hl=>?_⟩
 generalize hE:upd _ l _=H1
 have S1:ao H H1:=by rw[<-hE];exact ak hl
 have q1:H1 l=some (.lst (([]:List Str).map V.str)):=by rw[<-hE];exact ag
 clear hE
 walk_at "w"
 refine⟨by decide,by decide,?_⟩
 refine cY (n:=11) (λi σ H'=>∃x4 x5 x6 x7 x8 x9 x10 x11,∃ns:List Str,σ=[some (.ref d),some (.int spot),some (.str Lt),some (.ref l),x4,x5,x6,x7,x8,x9,x10,x11]/\i<=11/\ns.length=i/\ns.Nodup/\(∀n∈ns,NmOk (Bd i) n)/\H' l=some (.lst (ns.map V.str))/\ao H H')
  ⟨_,_,_,_,_,_,_,_,[],rfl,Nat.zero_le _,rfl,List.nodup_nil,(λn h=>nomatch h),q1,S1⟩ (λi σ H' hi pv=>?_) (λσ H' pv=>?_)
 ·obtain⟨x4,x5,x6,x7,x8,x9,x10,x11,ns,rfl,_,hn,nd,good,hl',SS⟩:=pv
  have bge:=wp i
  have ble:=Bl i (by omega)
  have bsu:=qi i
  refine s_name ?_
  walk_at "w"
  refine cB ?_
  walk_at "w"
  refine⟨by decide,by decide,λso hso=>?_⟩
  have hdH:=SS _ _ hd
  refine fQ (λn H2 ys=>ao H' H2/\H2 so=some (.lst ys)/\∃zs:List Int,ys=zs.map V.int/\zs.length=n/\∀z∈zs,0<=z/\z<10007) ⟨ak hso,ag,[],rfl,rfl,λz h=>nomatch h⟩ (λn H2 ys p=>p.2.1) (λn H2 ys hn5 p=>?_) (λH2 ys p=>?_)
  ·obtain⟨S2,h2,zs,rfl,hz,hc⟩:=p
   refine s_name ⟨⟨rfl,rfl,rfl,trivial⟩,i_yes (iteT ?_)⟩
   show tOp _ _ _ [some (.int (0+n)),some (.ref d),some (.int spot),some (.int (0+i))] _ _
   have hd2:=S2 _ _ hdH
   have lo:=dok.lo
   walk_at "w"
   refine i_rI (by rw[List.length_map];omega) ?_
   obtain⟨m,m0,m1,em⟩:=lY dok (140+spot+5*(0+(i:Int))+(0+(n:Int)))
   refine i_ixL (SqL.of hd2) em ?_
   refine ck.mk h2 hn5 (by rw[List.length_map];omega) ⟨aR S2 hso,ag,zs++[m],by simp,by simp[hz],λz hz'=>?_⟩
   rcases List.mem_append.mp hz' with h|h
   ·exact hc z h
   ·rw[List.mem_singleton]at h
    rw[h];exact⟨m0,m1⟩
  ·obtain⟨S2,h2,zs,rfl,hz,hc⟩:=p
   obtain⟨z0,z1,z2,z3,z4,rfl⟩:∃z0 z1 z2 z3 z4,zs=[z0,z1,z2,z3,z4]:=by
    match zs,hz with
    | [z0,z1,z2,z3,z4],_=>exact⟨z0,z1,z2,z3,z4,rfl⟩
   have SS2:=SS.trans S2
   have hl2:=S2 _ _ hl'
   have c4:=hc z4 (by simp)
   walk_at "w"
   refine⟨rfl,?_⟩
   walk_at "w"
   refine cB ?_
   walk_at "w"
   refine gW (SqL.of h2) λsl hsl=>?_
   rw[show fh (([z0,z1,z2,z3,z4]:List Int).map V.int) none (some 4)=([z0,z1,z2,z3]:List Int).map V.int from rfl]
   generalize hE:upd _ sl _=H3
   have S3:ao H2 H3:=by rw[<-hE];exact ak hsl
   have q3:H3 sl=some (.lst (([z0,z1,z2,z3]:List Int).map V.int)):=by rw[<-hE];exact ag
   clear hE
   refine⟨sl,rfl,⟨_,SqL.of q3⟩,λwl hwl=>?_⟩
   refine eB (xs:=([z0,z1,z2,z3]:List Int).map V.int) (λn H4 ys=>ao H3 H4/\H4 wl=some (.lst ys)/\∃ws:List Str,ys=ws.map V.str/\ws.length=n/\∀w∈ws,w.length=2) ⟨ak hwl,ag,[],rfl,rfl,λz h=>nomatch h⟩ (λn H4 ys p=>⟨p.2.1,SqL.of (p.1 _ _ q3)⟩) (λn y H4 ys e p=>?_) (λH4 ys p=>?_)
   ·obtain⟨S4,h4,ws,rfl,hw,hc4⟩:=p
    have hn4:n<4:=(List.getElem?_eq_some_iff.mp e).1
    rw[List.getElem?_map]at e
    cases ez:([z0,z1,z2,z3]:List Int)[n]? with
    | none=>rw[ez]at e;cases e
    | some o =>
     rw[ez]at e
     cases e
     refine s_name ⟨⟨rfl,trivial⟩,i_yes (iteT ?_)⟩
     show tOp _ _ _ [some (.int o),some (.str Lt)] _ _
     obtain⟨c1,e1⟩:=kU o
     obtain⟨c2,e2⟩:=kU (o / 26)
     walk_at "w"
     refine fE (by decide +kernel) e1 ?_
     walk_at "w"
     refine fE (by decide +kernel) e2 ?_
     refine⟨_,_,rfl,rfl,(by show 1+1<=sizeLine;decide),?_⟩
     refine ck.mk h4 hn4 (by rw[List.length_map];omega) ⟨aR S4 hwl,ag,ws++[⟨#[c1]⟩++⟨#[c2]⟩],by simp,by simp[hw],λz hz'=>?_⟩
     rcases List.mem_append.mp hz' with h|h
     ·exact hc4 z h
     ·rw[List.mem_singleton]at h
      rw[h];rfl
   ·obtain⟨S4,h4,ws,rfl,hw,hc4⟩:=p
    have hw:ws.length=4:=hw
    obtain⟨f1,f2⟩:=iZ ws hc4
    have e0:("" : Str)=Str.empty:=by decide +kernel
    have e00:("" : Str).length=0:=by decide +kernel
    have SS4:=SS2.trans (S3.trans S4)
    have hl4:=(S3.trans S4) _ _ hl2
    have h24:=(S3.trans S4) _ _ h2
    refine i_nil ⟨"", wl,ws,rfl,rfl,SqL.of h4,by rw[f2,e00];omega,?_⟩
    rw[e0]
    have wdl:(Txt.join Str.empty ws).length=8:=by
     show (Txt.join Str.empty ws).cps.size=8
     rw[<-Array.length_toList,kH,f1,hw]
    generalize Txt.join Str.empty ws=wd at *
    have wd':wd.cps.size=8:=wdl
    clear S2 S3 S4 h2 q3 h4 f1 f2 hw hc4 hso hsl hwl hl2 SS2
    walk_at "w"
    have x0:0<=z4 / 4:=by omega
    generalize z4 / 4=xx at *
    generalize z4 % 4=way at *
    have sp:=qr (z:=wd) (j:=1+xx % 8) (by omega) (by omega) (by omega)
    have sle:=Txt.slice_le wd none (some (1+xx % 8))
    refine gU (by omega) ?_
    have hnm:NmOk (Bd (i+1)) (Txt.slice wd none (some (1+xx % 8))):=⟨sp,by omega⟩
    generalize Txt.slice wd none (some (1+xx % 8))=nm at *
    refine s_name ?_
    have aw:atI wd.cps.toList 0=some (wd.cps.getD 0 0):=bB (j:=0) (by simp[Array.getD,wd'])
    have l1:∀c,(⟨#[c]⟩:Str).length=1:=λ_=>rfl
    with_reducible refine dC (NJd d l so spot H wd i ns) (λR hR=>?_) (λσ6 H6 j6=>?_)
    ·walk_at "w"
     refine d6 (λ_=>?_) (λ_=>hR _ _ ⟨way,xx,nm,x10,x11,rfl,x0,hnm,hl4,SS4⟩)
     walk_at "w"
     refine⟨by show 1<=sizeLine;decide,λp hp=>?_⟩
     generalize hE:upd _ p _=H5
     have S5:ao H4 H5:=by rw[<-hE];exact ak hp
     have q5:H5 p=some (.lst [.str wd]):=by rw[<-hE];exact ag
     clear hE
     have hl5:=S5 _ _ hl4
     refine kG hl5 q5 (by rw[List.length_map];simp;omega) λp2 hp2=>?_
     rw[show ns.map V.str++[V.str wd]=(ns++[wd]).map V.str from by simp]
     generalize hE:upd _ p2 _=H6
     have S6:ao H5 H6:=by rw[<-hE];exact ak hp2
     have q6:H6 p2=some (.lst ((ns++[wd]).map V.str)):=by rw[<-hE];exact ag
     clear hE
     obtain⟨a0,ha0,ea0,la0⟩:∃a0,a0∈ns++[wd]/\atI ((ns++[wd]).map V.str) 0=some (.str a0)/\a0.length<Bd i:=by
      cases ens:ns with
      | nil=>exact⟨wd,by simp,rfl,by omega⟩
      | cons a r=>exact⟨a,by simp,bB (j:=0) (by simp),(good a (by rw[ens];simp)).lt⟩
     walk_at "w"
     refine i_ixL (SqL.of q6) ea0 ?_
     walk_at "w"
     refine gU (by omega) ?_
     walk_at "w"
     refine fE (by omega) aw ?_
     have sl:=Txt.slice_le a0 none (some (xx % 8))
     refine⟨_,_,rfl,rfl,by rw[l1];omega,?_⟩
     refine s_name (hR _ _ ⟨way,xx,_,x10,x11,rfl,x0,?_,(S5.trans S6) _ _ hl4,SS4.trans (S5.trans S6)⟩)
     exact⟨by rw[lap,l1];omega,by rw[lap,l1];omega⟩
    clear hnm SS4 hl4 h24 x0
    with_reducible refine dC (NJd d l so spot H wd i ns) (λR hR=>?_) (λσ7 H7 j7=>?_)
    ·obtain⟨way,xx,nm,x10,x11,rfl,x0,hnm,hl6,SS6⟩:=j6
     have out:∀H',ao H6 H'->R [some (.ref d),some (.int spot),some (.str Lt),some (.ref l),some (.int (0+i)),some (.ref so),some (.str wd),some (.int way),some (.int xx),some (.str nm),x10,x11] H':=λH' kq=>hR _ _ ⟨way,xx,nm,x10,x11,rfl,x0,hnm,kq _ _ hl6,SS6.trans kq⟩
     walk_at "w"
     refine d6 (λ_=>?_) (λ_=>?_)
     ·walk_at "w"
      refine⟨by decide,λp hp=>?_⟩
      have S7:=ak (o:=.lst []) hp
      have hl7:=S7 _ _ hl6
      refine⟨l,p,_,[],λ_=>true,rfl,rfl,SqL.of hl7,SqL.of ag,(λj x y _ h=>by simp at h),⟨_,rfl,?_⟩⟩
      refine d6 (λhne=>?_) (λ_=>out _ S7)
      have nne:ns≠[]:=λz=>by subst z;simp at hne
      obtain⟨la,hla,ela⟩:=vd nne
      have gla:=good la hla
      have gp:=gla.pos
      have gl:=gla.lt
      have SS8:=SS6.trans S7
      generalize upd H6 p (.lst [])=H8 at *
      walk_at "w"
      refine i_ixL (SqL.of hl7) ela ?_
      walk_at "w"
      refine⟨_,rfl,by omega,?_⟩
      refine i_rI (by omega) ?_
      walk_at "w"
      refine i_ixL (SqL.of hl7) ela ?_
      walk_at "w"
      refine gU (by omega) ?_
      walk_at "w"
      refine fE (by omega) aw ?_
      generalize xx % (la.length:Int)=at1 at *
      have sl1:=Txt.slice_le la none (some at1)
      have sl2:=Txt.slice_le la (some (at1+1)) none
      refine⟨_,_,rfl,rfl,by rw[l1];omega,?_⟩
      walk_at "w"
      refine i_ixL (SqL.of hl7) ela ?_
      walk_at "w"
      refine gU (by omega) ?_
      refine⟨_,_,rfl,rfl,by rw[lap,l1];omega,?_⟩
      refine s_name (hR _ _ ⟨way,xx,_,_,x11,rfl,x0,?_,hl7,SS8⟩)
      exact⟨by rw[lap,lap,l1];omega,by rw[lap,lap,l1];omega⟩
     ·first|exact out _ (ao.refl _)|exact iteF (out _ (ao.refl _))
    with_reducible refine dC (NJd d l so spot H wd i ns) (λR hR=>?_) (λσ8 H8 j8=>?_)
    ·obtain⟨way,xx,nm,x10,x11,rfl,x0,hnm,hl6,SS6⟩:=j7
     walk_at "w"
     refine d6 (λ_=>?_) (λ_=>hR _ _ ⟨way,xx,nm,x10,x11,rfl,x0,hnm,hl6,SS6⟩)
     walk_at "w"
     refine⟨by decide +kernel,λp hp=>?_⟩
     have S7:=ak (o:=.lst ((["a", "wire", "not", "and", "or", "zzzzzzzz", "in", "start", "none", "end"]:List Str).map V.str)) hp
     have hl7:=S7 _ _ hl6
     have hp7:upd H7 p (.lst ((["a", "wire", "not", "and", "or", "zzzzzzzz", "in", "start", "none", "end"]:List Str).map V.str)) p=some (.lst ((["a", "wire", "not", "and", "or", "zzzzzzzz", "in", "start", "none", "end"]:List Str).map V.str)):=ag
     show tOp _ _ _ _ (upd H7 p (.lst ((["a", "wire", "not", "and", "or", "zzzzzzzz", "in", "start", "none", "end"]:List Str).map V.str))) _
     have SS8:=SS6.trans S7
     generalize upd H7 p (.lst ((["a", "wire", "not", "and", "or", "zzzzzzzz", "in", "start", "none", "end"]:List Str).map V.str))=H8 at *
     obtain⟨pw,hw,ew⟩:=qc (ws:=["a", "wire", "not", "and", "or", "zzzzzzzz", "in", "start", "none", "end"]) (r:=xx % 10) (by omega) (by show xx % 10<10;omega)
     walk_at "w"
     refine i_ixL (SqL.of hp7) ew ?_
     refine s_name (hR _ _ ⟨way,xx,pw,x10,x11,rfl,x0,?_,hl7,SS8⟩)
     have hh:∀wd∈(["a", "wire", "not", "and", "or", "zzzzzzzz", "in", "start", "none", "end"]:List Str),1<=wd.length/\wd.length<=8:=by decide +kernel
     obtain⟨q1,q2⟩:=hh pw hw
     exact⟨q1,by omega⟩
    obtain⟨way,xx,nm,x10,x11,e,x0,hnm,hl6,SS6⟩:=j8
    subst e
    with_reducible refine aP (s_asg (i_c (s_name ?_)))
    with_reducible refine dC (λσ H'=>∃(t:Int) (nm:Str),σ=[some (.ref d),some (.int spot),some (.str Lt),some (.ref l),some (.int (0+i)),some (.ref so),some (.str wd),some (.int way),some (.int xx),some (.str nm),x10,some (.int t)]/\NmOk (Bd (i+1)) nm/\nm∉ns/\H'=H8) (λR hR=>?_) (λσ9 H9 j9=>?_)
    ·refine⟨λn σ H'=>∃(t:Nat) (nm:Str),n=26-t/\t<=11/\σ=[some (.ref d),some (.int spot),some (.str Lt),some (.ref l),some (.int (0+i)),some (.ref so),some (.str wd),some (.int way),some (.int xx),some (.str nm),x10,some (.int t)]/\NmOk (Bd (i+1)) nm/\H'=H8/\(∀j,j+1<t->Xn j∈ns)/\(1<=t->nm=Xn (t-1)),⟨26,0,nm,rfl,by omega,rfl,hnm,rfl,(λj h=>by omega),(λh=>by omega)⟩,?_⟩
     rintro n σ H' ⟨t,nm,rfl,t11,rfl,hnm,rfl,q1,q2⟩
     have z26:((Lt.cps.size:Nat):Int)=26:=by decide +kernel
     walk_at "w"
     refine Cf (SqL.of hl6) rfl (kI ns) ?_
     refine⟨_,rfl,?_⟩
     refine d6 (λhin=>?_) (λhin=>?_)
     ·have hmem:=lP.mp hin
      have hall:∀j,j<t->Xn j∈ns:=λj hj=>by
       by_cases z:j+1<t
       ·exact q1 j z
       ·have:j=t-1:=by omega
        rw[this,<-q2 (by omega)]
        exact hmem
      have ht:=A7 (by omega) hall
      refine⟨_,λσ' H' w=>⟨26-(t+1),Nat.sub_lt_sub_left (Nat.lt_of_le_of_lt t11 (by decide)) (Nat.lt_succ_self _),w⟩,?_⟩
      walk_at "w"
      have et:atI Lt.cps.toList ((t:Nat):Int)=some (Lt.cps.getD t 0):=by
       refine bB ?_
       have:t<Lt.cps.size:=by omega
       simp[Array.getD,this]
      refine fE (by decide +kernel) et ?_
      walk_at "w"
      refine⟨_,_,rfl,rfl,AX _,?_⟩
      walk_at "w"
      refine⟨t+1,Xn t,rfl,by omega,rfl,?_,rfl,(λj hj=>hall j (by omega)),(λ_=>rfl)⟩
      have:=xw t (by omega)
      exact⟨by omega,by omega⟩
     ·exact hR _ _ ⟨t,nm,rfl,hnm,λz=>hin (lP.mpr z),rfl⟩
    obtain⟨t,nm,e,hnm,hnot,e9⟩:=j9
    subst e e9
    walk_at "w"
    refine dS hl6 (by rw[List.length_map];omega) ?_
    refine⟨_,_,_,_,_,_,_,_,ns++[nm],rfl,by omega,by simp[hn],?_,λn hn'=>?_,by rw[ag];simp,aR SS6 hl⟩
    ·rw[List.nodup_append]
     exact⟨nd,by simp,λa ha b hb e=>hnot (by
      have hb':b=nm:=by simpa using hb
      rw[<-hb',<-e];exact ha)⟩
    ·rcases List.mem_append.mp hn' with h|h
     ·have g:=good n h
      have g1:=g.pos
      have g2:=g.lt
      exact⟨g1,by omega⟩
     ·have:n=nm:=by simpa using h
      rw[this];exact hnm
 ·obtain⟨x4,x5,x6,x7,x8,x9,x10,x11,ns,rfl,_,hn,nd,good,hl',SS⟩:=pv
  refine s_ret (te:=cI 3) (D:={ nx:=λx H'=>Q V.non H',rt:=Q }) (i_var rfl ?_)
  exact k l ns H' SS hl hn nd hl'
end
structure KpP (q:Addr) (H H':Hp):Prop where
 old:∀b o,H b=some o->b≠q->H' b=some o
 at':∃n:Int,H' q=some (.lst [.int n])
theorem KpP.trans (a:KpP q H H1) (b:KpP q H1 H2):KpP q H H2:=⟨λc o e n=>b.old c o (a.old c o e n) n,b.at'⟩
theorem KpP.of (h:∃n:Int,H q=some (.lst [.int n])) (S:ao H H'):KpP q H H':=⟨λb o e _=>S b o e,let ⟨n,e⟩:=h;⟨n,S _ _ e⟩⟩
theorem KpP.new (k:KpP q H H') (hp:H' p=none):KpP q H (upd H' p o):=k.trans (KpP.of k.at' (ak hp))
theorem KpP.tups (h:∃n:Int,H q=some (.lst [.int n])) (k:KpP q H H'):di H H':=λb xs e=>k.old b _ e λz=>by obtain⟨n,h⟩:=h;rw[z,h]at e;cases e
theorem KpP.strs (h:∃n:Int,H q=some (.lst [.int n])) (k:KpP q H H') (e:H l=some (.lst (ns.map V.str))):H' l=some (.lst (ns.map V.str)):=k.old l _ e λz=>by
 obtain⟨n,h⟩:=h
 rw[z,h]at e
 have e:=Option.some.inj e
 injection e with e
 cases ns with
 | nil=>cases e
 | cons a r=>simp at e
theorem KpP.ints {ns:List Int} (h:∃n:Int,H q=some (.lst [.int n])) (k:KpP q H H') (ok:DOk ns) (e:H l=some (.lst (ns.map V.int))):H' l=some (.lst (ns.map V.int)):=k.old l _ e λz=>by
 obtain⟨n,h⟩:=h
 rw[z,h]at e
 have e:=Option.some.inj e
 injection e with e
 have lo:=ok.lo
 have:=congrArg List.length e
 simp at this
 omega
def fX (d:Nat):Sp:=λvs H Q _=>∃(da qa l:Addr) (ds:List Int) (ns:List Str) (m:Nat),vs=[.ref da,.ref qa,.ref l,.int m]/\H da=some (.lst (ds.map V.int))/\DOk ds/\(∃n:Int,H qa=some (.lst [.int n]))/\H l=some (.lst (ns.map V.str))/\ns≠[]/\ns.length<=1000/\1<=m/\m<=d /\
 ∀v r H',RAt H' v r->r.ok ns->r.dep<=m->KpP qa H H'->Q v H'
def nW:Sp:=λvs H Q _=>∃v1 v2 v3 r1 r2 r3,vs=[v1,v2,v3]/\RAt H v1 r1/\RAt H v2 r2/\RAt H v3 r3/\∀v H',ao H H'->RAt H' v (.orr (.an r1 r2) (.an r3 (.orr r1 r2)))->Q v H'
theorem qe (ne:ns≠[]) (i:Int):∃n∈ns,atI (ns.map V.str) (i % ((ns.map V.str).length:Int))=some (.str n):=by
 have hl:0<ns.length:=List.length_pos_iff.mpr ne
 rw[List.length_map]
 have h1:0<=i % (ns.length:Int):=Int.emod_nonneg _ (by omega)
 have h2:i % (ns.length:Int)<ns.length:=Int.emod_lt_of_pos _ (by omega)
 exact qc h1 h2
section
theorem mE:FnScope ["d", "pos", "names", "deep", "x", "way", "one"] ["d", "pos", "names", "deep"] (ay (top 28)):=by walk_at "k"
theorem mQ {f:Addr} {fd:FuncData} (Fu:Fun K "_law_rule" "_law_rule" (top 28) f fd) (T:Txt K mg TT) (hm:mg "_law_rule" = some (.ref f)) (hk:PySem.W.keepIn K (.ref f)=true) (hb:gr K fd ["d", "pos", "names", "deep"] []):∀d,FnOk P w K mg base CX0 (d+1) f fd ["d", "pos", "names", "deep"] (fX d)
 | 0=>fP λvs H Q E ⟨_,_,_,_,_,m,_,_,_,_,_,_,_,h1,h2,_⟩=>by omega
 | d+1=>by
  have S:=mE
  have f_law_rule:Fn P w K mg base "_law_rule" ["d", "pos", "names", "deep"] (d+1) (fX d):=⟨f,fd,mQ Fu T hm hk hb d,hm,hk,hb⟩
  refine Fu.ok S (λvs H Q E h=>?_) (λcdv A outer s H vs Q E hr h=>?_)
  ·obtain⟨da,qa,l,ds,ns,m,rfl,_⟩:=h
   rfl
  ·obtain⟨da,qa,l,ds,ns,m,rfl,hd,dok,⟨n0,hq⟩,hl,ne,few,m1,m2,k⟩:=h
   refine'⟨?_,(ad ?h0 (ad ?h1 (ad ?h2 (ad (bg ?h3 (am ?h4) aM) (ad (bg ?h5 (am ?h6) aM) (ad ?h7 (am ?h8))))))),?_⟩
   case h0 =>
    refine' aA 4 S.nd ?e
    case e=>exact(ax aD (pv 0) (av aX (ax aD (pv 1) ae (λ_ _=>rfl)) (aH aG (by rfl) T.n_len PySem.boot_len (aa (pv 0) af ai))) (λ_ _=>rfl))
   case h1=>exact(rY (av aV (ax aD (pv 1) ae (λ_ _=>rfl)) ae) (si (pv 1) ae mw))
   case h2 =>
    refine' aA 5 S.nd ?e
    case e=>exact(av aX (pv 4) ae)
   case h3=>exact(PW.pt (f7 (aC kr (pv 3) ae (aI _)) (fM (aC kr (pv 5) ae (aI _)))))
   case h4=>exact(aF (aL (aa aE (aa (ax aD (pv 2) (av aX (av cN (pv 4) ae) (aH aG (by rfl) T.n_len PySem.boot_len (aa (pv 2) af ai))) (λ_ _=>rfl)) af) aB)))
   case h5=>exact(aC kr (pv 5) ae (aI _))
   case h6=>exact(aF (aL (aa aE (aa (aU f_law_rule hr (aa (pv 0) (aa (pv 1) (aa (pv 2) (aa (av gM (pv 3) ae) af) ai) ai) ai)) af cu) aB)))
   case h7 =>
    refine' aA 6 S.nd ?e
    case e=>exact(aU f_law_rule hr (aa (pv 0) (aa (pv 1) (aa (pv 2) (aa (av gM (pv 3) ae) af) ai) ai) ai))
   case h8 =>
    with_reducible refine' aF ?e
    case e =>
     with_reducible refine' aL ?a1
     case a1 =>
      with_reducible refine' aa ?e2 ?s2 bZ
      case e2 =>
       with_reducible refine' ax ?r3 ?v3 ?b3 ?p3
       case r3=>exact aD
       case p3=>exact(λ_ _=>rfl)
       case v3 =>
        with_reducible refine' bd ?a4
        case a4 =>
         with_reducible refine' aa ?e5 ?s5 aB
         case e5 =>
          exact aE
         case s5 =>
          with_reducible refine' aa ?e7 ?s7 aB
          case e7 =>
           exact aE
          case s7 =>
           exact af
       case b3 =>
        exact(av aX (av cN (pv 4) ae) ae)
      case s2 =>
       with_reducible refine' aa ?e10 ?s10 ai
       case e10 =>
        exact(pv 6)
       case s10 =>
        with_reducible refine' aa ?e12 ?s12 cu
        case e12 =>
         refine' aU f_law_rule hr ?a13
         case a13 =>
          with_reducible refine' aa ?e14 ?s14 ai
          case e14 =>
           exact(pv 0)
          case s14 =>
           with_reducible refine' aa ?e16 ?s16 ai
           case e16 =>
            exact(pv 1)
           case s16 =>
            with_reducible refine' aa ?e18 ?s18 ai
            case e18 =>
             exact(pv 2)
            case s18 =>
             with_reducible refine' aa ?e20 ?s20 n8
             case e20 =>
              exact(av gM (pv 3) ae)
             case s20 =>
              exact af
        case s12 =>
         exact af
   walk_at "e"
   have lo:=dok.lo
   have nl:1<=ns.length:=List.length_pos_iff.mpr ne
   walk_at "w"
   refine i_rI (by rw[List.length_map];omega) ?_
   obtain⟨x,x0,x1,ex⟩:=lY dok n0
   refine i_ixL (SqL.of hd) ex ?_
   walk_at "w"
   generalize hE:upd H qa _=H1
   have kp1:KpP qa H H1:=⟨λb o e nb=>by rw[<-hE,aj nb];exact e,n0+1,by rw[<-hE];exact ag⟩
   clear hE
   have hq0:∃n:Int,H qa=some (.lst [.int n]):=⟨n0,hq⟩
   have hl1:=kp1.strs hq0 hl
   have hd1:=kp1.ints hq0 dok hd
   have leaf:uh (bQ (tC (V.str "wire")) (bQ (tOp (uq K) (cI 2) (tOp (rI (λx j=>0<j) λi j=>V.int (i % j)) (tOp (rI Bk λi j=>V.int (i / j)) (cI 4) (tC (V.int 7))) (tCB (λxs H Q=>∃p ys,xs=[V.ref p]/\(SqL K H p ys\/SqT K H p ys)/\Q (V.int ↑ys.length) H) (bQ (cI 2) hG)))) hG))
     [some (.ref da),some (.ref qa),some (.ref l),some (.int m),some (.int x),some (.int (x % 7)),none] H1 Q:=by
    walk_at "w"
    refine i_rI (by rw[List.length_map];omega) ?_
    obtain⟨nm,hnm,enm⟩:=qe ne (x / 7)
    refine i_ixL (SqL.of hl1) enm ?_
    walk_at "w"
    refine⟨by simp[sizeLine],λp hp=>?_⟩
    exact k _ (.w nm) _ (.w ag) hnm (by simp[Rl.dep];omega) (kp1.new hp)
   refine d6 (λh1=>?_) (λh1=>?_)
   ·exact iteT leaf
   ·have m3:2<=m:=by
     by_cases z:m=1
     ·exact absurd (by rw[z];decide) h1
     ·omega
    walk_at "w"
    refine d6 (λh2=>?_) (λh2=>?_)
    ·exact leaf
    ·have em:(m:Int)-1=((m-1:Nat):Int):=by omega
     walk_at "w"
     refine d6 (λh3=>?_) (λh3=>?_)
     ·walk_at "w"
      refine⟨da,qa,l,ds,ns,m-1,by rw[<-em],hd1,dok,kp1.at',hl1,ne,few,by omega,by omega,λv r H2 hv rok rd kp2=>?_⟩
      walk_at "w"
      refine⟨by simp[sizeLine],λp hp=>?_⟩
      exact k _ (.no r) _ (.no ag (hv.mono (ao.tups (ak hp)))) rok (by simp only[Rl.dep];omega) ((kp1.trans kp2).new hp)
     ·walk_at "w"
      refine⟨da,qa,l,ds,ns,m-1,by rw[<-em],hd1,dok,kp1.at',hl1,ne,few,by omega,by omega,λv r H2 hv rok rd kp2=>?_⟩
      have hl2:=kp2.strs kp1.at' hl1
      have hd2:=kp2.ints kp1.at' dok hd1
      have kp12:=kp1.trans kp2
      walk_at "w"
      refine⟨by simp[sizeLine],λp hp=>?_⟩
      have hpp:upd H2 p (HO.lst [V.str "and", V.str "or"]) p=some (.lst ((["and", "or"]:List Str).map V.str)):=ag
      have S3:=ak (o:=HO.lst [V.str "and", V.str "or"]) hp
      have kp3:=KpP.of kp2.at' S3
      generalize upd H2 p (HO.lst [V.str "and", V.str "or"])=H3 at *
      have hv3:=hv.mono (ao.tups S3)
      have hl3:=S3 _ _ hl2
      have hd3:=S3 _ _ hd2
      walk_at "w"
      have last:∀(wd:Str) (mk:Rl->Rl->Rl),(∀{H:Hp} {a:Addr} {v u:V} {r s:Rl},H a=some (.tup [.str wd,v,u])->RAt H v r->RAt H u s->RAt H (.ref a) (mk r s))->(∀r s,(mk r s).dep=max r.dep s.dep+1)->(∀r s,r.ok ns->s.ok ns->(mk r s).ok ns) ->
        bQ (cI 6) (bQ (iC (fX d) [] E0 (bQ (cI 0) (bQ (cI 1) (bQ (cI 2) (bQ (tOp (rI0 λi j=>V.int (i-j)) (cI 3) (tC (V.int 1))) hG))))) hG) [some (.ref da),some (.ref qa),some (.ref l),some (.int m),some (.int x),some (.int (x % 7)),some v] H3
         λxs H5=>(V.str wd::xs).length<=sizeLine/\∀p,H5 p=none->Q (.ref p) (upd H5 p (.tup (V.str wd::xs))):=by
       intro wd mk c1 c2 c3
       walk_at "w"
       refine⟨da,qa,l,ds,ns,m-1,by rw[<-em],hd3,dok,kp3.at',hl3,ne,few,by omega,by omega,λv2 s2 H5 hv2 rok2 rd2 kp5=>?_⟩
       walk_at "w"
       refine⟨by simp[sizeLine],λp hp=>?_⟩
       have S6:=ak (o:=HO.tup [V.str wd,v,v2]) hp
       exact k _ (mk r s2) _ (c1 ag ((hv3.mono (kp5.tups kp3.at')).mono (ao.tups S6)) (hv2.mono (ao.tups S6))) (c3 _ _ rok rok2) (by rw[c2];omega) ((kp12.trans (kp3.trans kp5)).new hp)
      have hr2:x / 7 % 2=0\/x / 7 % 2=1:=by omega
      rcases hr2 with z|z
      ·rw[z]
       refine i_ixL (SqL.of hpp) (v:=.str "and") rfl ?_
       exact last "and" .an (λa b c=>.an a b c) (λ_ _=>rfl) (λ_ _ a b=>⟨a,b⟩)
      ·rw[z]
       refine i_ixL (SqL.of hpp) (v:=.str "or") rfl ?_
       exact last "or" .orr (λa b c=>.orr a b c) (λ_ _=>rfl) (λ_ _ a b=>⟨a,b⟩)
theorem mF:FnScope ["one", "other", "own"] ["one", "other", "own"] (ay (top 29)):=by walk_at "k"
theorem uM {f:Addr} {fd:FuncData} (Fu:Fun K "_law_held" "_law_held" (top 29) f fd) (T:Txt K mg TT):FnOk P w K mg base CX0 1 f fd ["one", "other", "own"] nW:=by
 have S:=mF
 refine Fu.ok S (by walk_at "l") (λcdv A outer s H vs Q E hr h=>?_)
 obtain⟨v1,v2,v3,r1,r2,r3,rfl,h1,h2,h3,k⟩:=h
 refine⟨_,(am (aF (aL (aa aE (aa (aL (aa aE (aa (pv 0) (aa (pv 1) af ai) ai) aB)) (aa (aL (aa aE (aa (pv 2) (aa (aL (aa aE (aa (pv 0) (aa (pv 1) af ai) ai) aB)) af bn) ai) aB)) af bn) bn) aB)))),?_⟩
 walk_at "e"
 walk_at "w"
 refine⟨by simp[sizeLine],λp1 hp1=>?_⟩
 have S1:=ak (o:=.tup [.str "and", v1,v2]) hp1
 have q1:upd H p1 (.tup [.str "and", v1,v2]) p1=some (.tup [.str "and", v1,v2]):=ag
 generalize upd H p1 (.tup [.str "and", v1,v2])=H1 at *
 walk_at "w"
 refine⟨by simp[sizeLine],λp2 hp2=>?_⟩
 have S2:=ak (o:=.tup [.str "or", v1,v2]) hp2
 have q2:upd H1 p2 (.tup [.str "or", v1,v2]) p2=some (.tup [.str "or", v1,v2]):=ag
 generalize upd H1 p2 (.tup [.str "or", v1,v2])=H2 at *
 walk_at "w"
 refine⟨by simp[sizeLine],λp3 hp3=>?_⟩
 have S3:=ak (o:=.tup [.str "and", v3,.ref p2]) hp3
 have q3:upd H2 p3 (.tup [.str "and", v3,.ref p2]) p3=some (.tup [.str "and", v3,.ref p2]):=ag
 generalize upd H2 p3 (.tup [.str "and", v3,.ref p2])=H3 at *
 walk_at "w"
 refine⟨by simp[sizeLine],λp4 hp4=>?_⟩
 have S4:=ak (o:=.tup [.str "or", .ref p1,.ref p3]) hp4
 have S14:=S1.trans (S2.trans (S3.trans S4))
 have m1:=h1.mono (ao.tups S14)
 have m2:=h2.mono (ao.tups S14)
 have m3:=h3.mono (ao.tups S14)
 exact k _ _ S14 (.orr ag (.an ((S2.trans (S3.trans S4)) _ _ q1) m1 m2) (.an (S4 _ _ q3) m3 (.orr ((S3.trans S4) _ _ q2) m1 m2)))
end
def fY:Sp:=λvs H Q _=>∃(da qa l:Addr) (ds:List Int) (ns:List Str) (v:V) (r:Rl),vs=[.ref da,.ref qa,.ref l,v]/\H da=some (.lst (ds.map V.int))/\DOk ds/\(∃n:Int,H qa=some (.lst [.int n]))/\H l=some (.lst (ns.map V.str))/\ns≠[]/\ns.length<=1000/\RAt H v r/\r.ok ns/\r.dep<=6 /\
 ∀v' r' H',RAt H' v' r'->r'.ok ns->r'.dep<=10->KpP qa H H'->Q v' H'
section
theorem jT:FnScope ["d", "pos", "names", "rule", "many", "k", "x", "one"] ["d", "pos", "names", "rule"] (ay (top 31)):=by walk_at "k"
theorem qK {f:Addr} {fd:FuncData} (Fu:Fun K "_law_deeper" "_law_deeper" (top 31) f fd) (T:Txt K mg TT):FnOk P w K mg base CX0 1 f fd ["d", "pos", "names", "rule"] fY:=by
 have S:=jT
 refine Fu.ok S (by walk_at "l") (λcdv A outer s H vs Q E hr h=>?_)
 obtain⟨da,qa,l,ds,ns,v,r,rfl,hd,dok,⟨n0,hq⟩,hl,ne,few,hv,rok,rd,k⟩:=h
 refine'⟨?_,(ad ?h0 (ad (bP PassesOwn.never rfl ?h1 ?h2 (ad ?h3 (ad ?h4 (ad ?h5 (am ?h6))))) (am ?h7))),?_⟩
 case h0 =>
  refine' aA 4 S.nd ?e
  case e=>exact(av aX (ax aD (pv 0) (av aX (ax aD (pv 1) ae (λ_ _=>rfl)) (aH aG (by rfl) T.n_len PySem.boot_len (aa (pv 0) af ai))) (λ_ _=>rfl)) ae)
 case h1=>exact(cg (by rfl) T.n_range (aa (pv 4) af ai))
 case h2=>exact(bU 5 S.nd)
 case h3=>exact(rY (av aV (ax aD (pv 1) ae (λ_ _=>rfl)) ae) (si (pv 1) ae mw))
 case h4 =>
  refine' aA 6 S.nd ?e
  case e=>exact(ax aD (pv 0) (av aX (ax aD (pv 1) ae (λ_ _=>rfl)) (aH aG (by rfl) T.n_len PySem.boot_len (aa (pv 0) af ai))) (λ_ _=>rfl))
 case h5 =>
  refine' aA 7 S.nd ?e
  case e=>exact(aL (aa aE (aa (ax aD (pv 2) (av aX (pv 6) (aH aG (by rfl) T.n_len PySem.boot_len (aa (pv 2) af ai))) (λ_ _=>rfl)) af) aB))
 case h6 =>
  refine' aA 3 S.nd ?e
  case e =>
   with_reducible refine' ax ?r1 ?v1 ?b1 ?p1
   case r1=>exact aD
   case p1=>exact(λ_ _=>rfl)
   case v1 =>
    with_reducible refine' bd ?a2
    case a2 =>
     with_reducible refine' aa ?e3 ?s3 bn
     case e3 =>
      with_reducible refine' aL ?a4
      case a4 =>
       with_reducible refine' aa ?e5 ?s5 aB
       case e5 =>
        exact aE
       case s5 =>
        with_reducible refine' aa ?e7 ?s7 ai
        case e7 =>
         exact(pv 3)
        case s7 =>
         exact af
     case s3 =>
      with_reducible refine' aa ?e9 ?s9 bn
      case e9 =>
       with_reducible refine' aL ?a10
       case a10 =>
        with_reducible refine' aa ?e11 ?s11 aB
        case e11 =>
         exact aE
        case s11 =>
         with_reducible refine' aa ?e13 ?s13 ai
         case e13 =>
          exact(pv 7)
         case s13 =>
          with_reducible refine' aa ?e15 ?s15 ai
          case e15 =>
           exact(pv 3)
          case s15 =>
           exact af
      case s9 =>
       with_reducible refine' aa ?e17 ?s17 bn
       case e17 =>
        with_reducible refine' aL ?a18
        case a18 =>
         with_reducible refine' aa ?e19 ?s19 aB
         case e19 =>
          exact aE
         case s19 =>
          with_reducible refine' aa ?e21 ?s21 ai
          case e21 =>
           exact(pv 3)
          case s21 =>
           with_reducible refine' aa ?e23 ?s23 ai
           case e23 =>
            exact(pv 7)
           case s23 =>
            exact af
       case s17 =>
        with_reducible refine' aa ?e25 ?s25 bn
        case e25 =>
         with_reducible refine' aL ?a26
         case a26 =>
          with_reducible refine' aa ?e27 ?s27 aB
          case e27 =>
           exact aE
          case s27 =>
           with_reducible refine' aa ?e29 ?s29 ai
           case e29 =>
            exact(pv 7)
           case s29 =>
            with_reducible refine' aa ?e31 ?s31 ai
            case e31 =>
             exact(pv 3)
            case s31 =>
             exact af
        case s25 =>
         exact af
   case b1 =>
    exact(av aX (av cN (pv 6) ae) ae)
 case h7=>exact(aF (pv 3))
 walk_at "e"
 have lo:=dok.lo
 have nl:1<=ns.length:=List.length_pos_iff.mpr ne
 walk_at "w"
 refine i_rI (by rw[List.length_map];omega) ?_
 obtain⟨x,x0,x1,ex⟩:=lY dok n0
 refine i_ixL (SqL.of hd) ex ?_
 walk_at "w"
 refine⟨by omega,by omega,?_⟩
 have h4:(x % 5).toNat<=4:=by omega
 have hq0:∃n:Int,H qa=some (.lst [.int n]):=⟨n0,hq⟩
 refine cY (λi σ H'=>∃v' r' x4 x5 x6 x7,σ=[some (.ref da),some (.ref qa),some (.ref l),some v',x4,x5,x6,x7]/\RAt H' v' r'/\r'.ok ns/\r'.dep<=6+i/\KpP qa H H') ⟨v,r,_,_,_,_,rfl,hv,rok,rd,KpP.of hq0 (ao.refl _)⟩ (λi σ H' hi pv=>?_) (λσ H' pv=>?_)
 ·obtain⟨v',r',x4,x5,x6,x7,rfl,hv',rok',rd',kp⟩:=pv
  obtain⟨n1,hq1⟩:=kp.at'
  have hd1:=kp.ints hq0 dok hd
  have hl1:=kp.strs hq0 hl
  refine s_name ?_
  walk_at "w"
  generalize hE:upd H' qa _=H1
  have kp1:KpP qa H' H1:=⟨λb o e nb=>by rw[<-hE,aj nb];exact e,n1+1,by rw[<-hE];exact ag⟩
  have hq2:H1 qa=some (.lst [.int (n1+1)]):=by rw[<-hE];exact ag
  clear hE
  have hqe:∃n:Int,H' qa=some (.lst [.int n]):=⟨n1,hq1⟩
  have hd2:=kp1.ints hqe dok hd1
  have hl2:=kp1.strs hqe hl1
  have hv2:=hv'.mono (kp1.tups hqe)
  walk_at "w"
  refine i_rI (by rw[List.length_map];omega) ?_
  obtain⟨y,y0,y1,ey⟩:=lY dok (n1+1)
  refine i_ixL (SqL.of hd2) ey ?_
  walk_at "w"
  refine i_rI (by rw[List.length_map];omega) ?_
  obtain⟨nm,hnm,enm⟩:=qe ne y
  refine i_ixL (SqL.of hl2) enm ?_
  walk_at "w"
  refine⟨by simp[sizeLine],λp0 hp0=>?_⟩
  generalize hE:upd H1 p0 _=H2
  have S2:ao H1 H2:=by rw[<-hE];exact ak hp0
  have o2:RAt H2 (.ref p0) (.w nm):=by rw[<-hE];exact .w ag
  clear hE
  have hv3:=hv2.mono (ao.tups S2)
  walk_at "w"
  refine⟨by simp[sizeLine],λp1 hp1=>?_⟩
  generalize hE:upd H2 p1 _=H3
  have S3:ao H2 H3:=by rw[<-hE];exact ak hp1
  have a1:RAt H3 (.ref p1) (.no r'):=by rw[<-hE];exact .no ag (hv3.mono (ao.tups (ak hp1)))
  clear hE
  have hv4:=hv3.mono (ao.tups S3)
  have o3:=o2.mono (ao.tups S3)
  walk_at "w"
  refine⟨by simp[sizeLine],λp2 hp2=>?_⟩
  generalize hE:upd H3 p2 _=H4
  have S4:ao H3 H4:=by rw[<-hE];exact ak hp2
  have a2:RAt H4 (.ref p2) (.an (.w nm) r'):=by rw[<-hE];exact .an ag (o3.mono (ao.tups (ak hp2))) (hv4.mono (ao.tups (ak hp2)))
  clear hE
  have hv5:=hv4.mono (ao.tups S4)
  have o4:=o3.mono (ao.tups S4)
  walk_at "w"
  refine⟨by simp[sizeLine],λp3 hp3=>?_⟩
  generalize hE:upd H4 p3 _=H5
  have S5:ao H4 H5:=by rw[<-hE];exact ak hp3
  have a3:RAt H5 (.ref p3) (.orr r' (.w nm)):=by rw[<-hE];exact .orr ag (hv5.mono (ao.tups (ak hp3))) (o4.mono (ao.tups (ak hp3)))
  clear hE
  have hv6:=hv5.mono (ao.tups S5)
  have o5:=o4.mono (ao.tups S5)
  walk_at "w"
  refine⟨by simp[sizeLine],λp4 hp4=>?_⟩
  generalize hE:upd H5 p4 _=H6
  have S6:ao H5 H6:=by rw[<-hE];exact ak hp4
  have a4:RAt H6 (.ref p4) (.orr (.w nm) r'):=by rw[<-hE];exact .orr ag (o5.mono (ao.tups (ak hp4))) (hv6.mono (ao.tups (ak hp4)))
  clear hE
  walk_at "w"
  refine⟨by simp[sizeLine],λp5 hp5=>?_⟩
  generalize hE:upd H6 p5 _=H7
  have S7:ao H6 H7:=by rw[<-hE];exact ak hp5
  have q7:H7 p5=some (.lst [.ref p1,.ref p2,.ref p3,.ref p4]):=by rw[<-hE];exact ag
  clear hE
  walk_at "w"
  have kp7:KpP qa H H7:=kp.trans (kp1.trans (KpP.of kp1.at' (S2.trans (S3.trans (S4.trans (S5.trans (S6.trans S7)))))))
  have hr2:y / 11 % 4=0\/y / 11 % 4=1\/y / 11 % 4=2\/y / 11 % 4=3:=by omega
  rcases hr2 with z|z|z|z
  ·rw[z]
   refine i_ixL (SqL.of q7) (v:=.ref p1) rfl ?_
   exact s_name ⟨_,_,_,_,_,_,rfl,a1.mono (ao.tups (S4.trans (S5.trans (S6.trans S7)))),rok',by simp only[Rl.dep];omega,kp7⟩
  ·rw[z]
   refine i_ixL (SqL.of q7) (v:=.ref p2) rfl ?_
   exact s_name ⟨_,_,_,_,_,_,rfl,a2.mono (ao.tups (S5.trans (S6.trans S7))),⟨hnm,rok'⟩,by simp only[Rl.dep];omega,kp7⟩
  ·rw[z]
   refine i_ixL (SqL.of q7) (v:=.ref p3) rfl ?_
   exact s_name ⟨_,_,_,_,_,_,rfl,a3.mono (ao.tups (S6.trans S7)),⟨rok',hnm⟩,by simp only[Rl.dep];omega,kp7⟩
  ·rw[z]
   refine i_ixL (SqL.of q7) (v:=.ref p4) rfl ?_
   exact s_name ⟨_,_,_,_,_,_,rfl,a4.mono (ao.tups S7),⟨hnm,rok'⟩,by simp only[Rl.dep];omega,kp7⟩
 ·obtain⟨v',r',x4,x5,x6,x7,rfl,hv',rok',rd',kp⟩:=pv
  refine s_ret (te:=cI 3) (D:={ nx:=λx H'=>Q V.non H',rt:=Q }) (i_var rfl ?_)
  exact k v' r' H' hv' rok' (by omega) kp
end
def nth (ns:List Str) (k:Nat):Str:=ns.getD k Str.empty
theorem cf (hl:ns.length=11) {j:Int} {k:Nat} (e:j=(k:Int)) (hk:k<11):atI (ns.map V.str) j=some (.str (nth ns k)):=by
 subst e
 refine bB ?_
 unfold nth
 rw[List.getElem?_map,List.getD_eq_getElem?_getD,List.getElem?_eq_getElem (by omega)]
 rfl
theorem uP (nd:ns.Nodup) (hl:ns.length=11) {a b:Nat} (ha:a<11) (hb:b<11) (e:nth ns a=nth ns b):a=b:=by
 unfold nth at e
 rw[List.getD_eq_getElem?_getD,List.getD_eq_getElem?_getD,List.getElem?_eq_getElem (by omega),List.getElem?_eq_getElem (by omega)]at e
 have e1:=List.Nodup.idxOf_getElem nd a (by omega)
 have e2:=List.Nodup.idxOf_getElem nd b (by omega)
 simp only[Option.getD_some]at e
 rw[e,e2]at e1
 exact e1.symm
theorem sX {ns:List Str} (nd:ns.Nodup) (hl:ns.length=11):∀{L:List Nat},L.Nodup->(∀k∈L,k<11)->(L.map (nth ns)).Nodup
 | [],_,_=>List.nodup_nil
 | a::L,h,hb=>by
  rw[List.nodup_cons]at h
  rw[List.map_cons,List.nodup_cons]
  refine⟨λz=>?_,sX nd hl h.2 λk hk=>hb k (List.mem_cons_of_mem _ hk)⟩
  obtain⟨b,hb',e⟩:=List.mem_map.mp z
  have:=uP nd hl (hb b (List.mem_cons_of_mem _ hb')) (hb a (by simp)) e
  exact h.1 (this▸hb')
theorem jb (nd:ns.Nodup) (hl:ns.length=11) {I G:List Nat} {R:Nat->Rl} (hn:(I++G).Nodup) (hb:∀k∈I++G,k<11) (i4:I.length<=4) (g1:1<=G.length) (g7:G.length<=7)
  (hr:∀g∈G,(R g).ok ((I++G).map (nth ns))/\(R g).dep<=10):NetOk (I.map (nth ns)) (G.map λg=>(nth ns g,R g)):=by
 have ew:au (I.map (nth ns)) (G.map λg=>(nth ns g,R g))=(I++G).map (nth ns):=by
  unfold au
  rw[List.map_append,List.map_map]
  rfl
 refine⟨by rw[ew];exact sX nd hl hn hb,by rw[List.length_map];exact i4,by rw[List.length_map];exact g1,by rw[List.length_map];exact g7,λg hg=>?_⟩
 obtain⟨k,hk,rfl⟩:=List.mem_map.mp hg
 rw[ew]
 exact hr k hk
def wN (ns:List Str) (k:Nat):Rl:=.w (nth ns k)
def R5 (ns:List Str) (k:Nat):Rl:=.orr (.an (wN ns (k-1)) (.no (wN ns (k+1)))) (.an (wN ns k) (.orr (wN ns (k-1)) (.no (wN ns (k+1)))))
def R6 (ns:List Str) (m k:Nat):Rl:=.no (wN ns ((k+1) % m))
def R7 (ns:List Str) (k:Nat):Rl:=if k=2 then .no (.orr (wN ns 0) (wN ns 3)) else if k=3 then .no (.orr (wN ns 1) (wN ns 2)) else .an (wN ns (k-2)) (wN ns (k-1))
def iK:Sp:=λvs H Q _=>∃(way:Int) (m:Nat) (l:Addr) (ns:List Str),vs=[.int way,.int m,.ref l]/\1<=m/\m<=7/\H l=some (.lst (ns.map V.str))/\ns.length=11/\ns.Nodup /\
 ∀a li lg ins gvs gs H',ao H H'->NAt H' a li lg ins gvs gs->NetOk ins gs->Q (.ref a) H'
theorem g_ {L:List Nat} {k:Nat} (h:k∈L):(wN ns k).ok (L.map (nth ns)):=List.mem_map_of_mem h
theorem Cd (nd:ns.Nodup) (hl:ns.length=11) (m1:1<=m) (m7:m<=7):NetOk ([0,m+1].map (nth ns)) (((List.range m).map (·+1)).map λg=>(nth ns g,R5 ns g)):=by
 have h1:∀m,m<=7->1<=m->([0,m+1]++(List.range m).map (·+1)).Nodup/\(∀k∈[0,m+1]++(List.range m).map (·+1),k<11)/\∀g∈(List.range m).map (·+1),g-1∈[0,m+1]++(List.range m).map (·+1)/\g∈[0,m+1]++(List.range m).map (·+1)/\g+1∈[0,m+1]++(List.range m).map (·+1):=by decide
 obtain⟨a,b,c⟩:=h1 m m7 m1
 refine jb nd hl a b (by show 2<=4;decide) (by simp;omega) (by simp;omega) λg hg=>?_
 obtain⟨c1,c2,c3⟩:=c g hg
 exact⟨⟨⟨g_ c1,g_ c3⟩,⟨g_ c2,⟨g_ c1,g_ c3⟩⟩⟩,by simp[R5,wN,Rl.dep]⟩
theorem Cc (nd:ns.Nodup) (hl:ns.length=11) (m1:1<=m) (m7:m<=7):NetOk (([]:List Nat).map (nth ns)) ((List.range m).map λg=>(nth ns g,R6 ns m g)):=by
 refine jb nd hl (by simpa using List.nodup_range) (λk hk=>by simp at hk;omega) (by decide) (by simp;omega) (by simp;omega) λg hg=>?_
 refine⟨g_ ?_,by simp[R6,wN,Rl.dep]⟩
 simp
 exact Nat.mod_lt _ (by omega)
theorem Cb (nd:ns.Nodup) (hl:ns.length=11) (j3:j<=3):NetOk ([0,1].map (nth ns)) (([2,3]++(List.range j).map (4+·)).map λg=>(nth ns g,R7 ns g)):=by
 have h1:∀j,j<=3->([0,1]++([2,3]++(List.range j).map (4+·))).Nodup/\(∀k∈[0,1]++([2,3]++(List.range j).map (4+·)),k<11)/\∀g∈[2,3]++(List.range j).map (4+·),g-1∈[0,1]++([2,3]++(List.range j).map (4+·))/\g-2∈[0,1]++([2,3]++(List.range j).map (4+·)):=by decide
 obtain⟨a,b,c⟩:=h1 j j3
 refine jb nd hl a b (by decide) (by simp) (by simp;omega) λg hg=>?_
 obtain⟨c1,c2⟩:=c g hg
 unfold R7
 split
 ·exact⟨⟨g_ (by simp),g_ (by simp)⟩,by simp[wN,Rl.dep]⟩
 ·split
  ·exact⟨⟨g_ (by simp),g_ (by simp)⟩,by simp[wN,Rl.dep]⟩
  ·exact⟨⟨g_ c2,g_ c1⟩,by simp[wN,Rl.dep]⟩
theorem gg {n:Str} {v:V} {r:Rl} (h:H b=some (.tup [.str n,v])) (hr:RAt H v r):GAt H (.ref b) (n,r):=⟨b,v,rfl,h,hr⟩
section
theorem lC:FnScope ["way", "many", "names", "gates", "k", "after", "one", "other", "more"] ["way", "many", "names"] (ay (top 30)):=by walk_at "k"
theorem qJ {f:Addr} {fd:FuncData} (Fu:Fun K "_law_known" "_law_known" (top 30) f fd) (T:Txt K mg TT) (f_law_held:Fn P w K mg base "_law_held" ["one", "other", "own"] 1 nW):FnOk P w K mg base CX0 2 f fd ["way", "many", "names"] iK:=by
 have S:=lC
 refine Fu.ok S (by walk_at "l") (λcdv A outer s H vs Q E hr h=>?_)
 obtain⟨way,m,l,ns,rfl,m1,m7,hl,ln,nd,k⟩:=h
 refine'⟨?_,(ad (bg ?h0 (ad ?h1 (ad (bP PassesOwn.never rfl ?h2 ?h3 (ad ?h4 (am ?h5))) (am ?h6))) aM) (ad (bg ?h7 (am ?h8) aM) (ad ?h9 (ad ?h10 (ad ?h11 (ad (bP PassesOwn.never rfl ?h12 ?h13 (am ?h14)) (am ?h15))))))),?_⟩
 case h0=>exact(aC bR (pv 0) ae (aI _))
 case h1 =>
  refine' aA 3 S.nd ?e
  case e=>exact(bd af)
 case h2=>exact(qy (by rfl) T.n_range (aa ae (aa (av aV (pv 1) ae) af) aB))
 case h3=>exact(bU 4 S.nd)
 case h4 =>
  refine' aA 5 S.nd ?e
  case e =>
   with_reducible refine' aL ?a1
   case a1 =>
    with_reducible refine' aa ?e2 ?s2 aB
    case e2 =>
     exact aE
    case s2 =>
     with_reducible refine' aa ?e4 ?s4 bn
     case e4 =>
      with_reducible refine' aL ?a5
      case a5 =>
       with_reducible refine' aa ?e6 ?s6 aB
       case e6 =>
        exact aE
       case s6 =>
        with_reducible refine' aa ?e8 ?s8 bZ
        case e8 =>
         with_reducible refine' ax ?r9 ?v9 ?b9 ?p9
         case r9=>exact aD
         case p9=>exact(λ_ _=>rfl)
         case v9 =>
          exact(pv 2)
         case b9 =>
          exact(av aV (pv 4) ae)
        case s8 =>
         exact af
     case s4 =>
      exact af
 case h5 =>
  refine' br ?e
  case e =>
   refine' cM PySem.F.plainAttrs_list PySem.F.slot_list_append PySem.F.type_list_append ba (pv 3) ?a
   case a =>
    with_reducible refine' aa ?e12 ?s12 bn
    case e12 =>
     with_reducible refine' aL ?a13
     case a13 =>
      with_reducible refine' aa ?e14 ?s14 bZ
      case e14 =>
       with_reducible refine' ax ?r15 ?v15 ?b15 ?p15
       case r15=>exact aD
       case p15=>exact(λ_ _=>rfl)
       case v15 =>
        exact(pv 2)
       case b15 =>
        exact(pv 4)
      case s14 =>
       with_reducible refine' aa ?e18 ?s18 cu
       case e18 =>
        refine' aU f_law_held hr ?a19
        case a19 =>
         with_reducible refine' aa ?e20 ?s20 bn
         case e20 =>
          with_reducible refine' aL ?a21
          case a21 =>
           with_reducible refine' aa ?e22 ?s22 aB
           case e22 =>
            exact aE
           case s22 =>
            with_reducible refine' aa ?e24 ?s24 bZ
            case e24 =>
             with_reducible refine' ax ?r25 ?v25 ?b25 ?p25
             case r25=>exact aD
             case p25=>exact(λ_ _=>rfl)
             case v25 =>
              exact(pv 2)
             case b25 =>
              exact(av gM (pv 4) ae)
            case s24 =>
             exact af
         case s20 =>
          with_reducible refine' aa ?e28 ?s28 ai
          case e28 =>
           exact(pv 5)
          case s28 =>
           with_reducible refine' aa ?e30 ?s30 bn
           case e30 =>
            with_reducible refine' aL ?a31
            case a31 =>
             with_reducible refine' aa ?e32 ?s32 aB
             case e32 =>
              exact aE
             case s32 =>
              with_reducible refine' aa ?e34 ?s34 bZ
              case e34 =>
               with_reducible refine' ax ?r35 ?v35 ?b35 ?p35
               case r35=>exact aD
               case p35=>exact(λ_ _=>rfl)
               case v35 =>
                exact(pv 2)
               case b35 =>
                exact(pv 4)
              case s34 =>
               exact af
           case s30 =>
            exact af
       case s18 =>
        exact af
    case s12 =>
     exact af
 case h6 =>
  with_reducible refine' aF ?e
  case e =>
   with_reducible refine' aL ?a38
   case a38 =>
    with_reducible refine' aa ?e39 ?s39 n5
    case e39 =>
     with_reducible refine' bd ?a40
     case a40 =>
      with_reducible refine' aa ?e41 ?s41 bZ
      case e41 =>
       with_reducible refine' ax ?r42 ?v42 ?b42 ?p42
       case r42=>exact aD
       case p42=>exact(λ_ _=>rfl)
       case v42 =>
        exact(pv 2)
       case b42 =>
        exact ae
      case s41 =>
       with_reducible refine' aa ?e45 ?s45 bZ
       case e45 =>
        with_reducible refine' ax ?r46 ?v46 ?b46 ?p46
        case r46=>exact aD
        case p46=>exact(λ_ _=>rfl)
        case v46 =>
         exact(pv 2)
        case b46 =>
         exact(av aV (pv 1) ae)
       case s45 =>
        exact af
    case s39 =>
     with_reducible refine' aa ?e49 ?s49 ai
     case e49 =>
      exact(pv 3)
     case s49 =>
      exact af
 case h7=>exact(aC bR (pv 0) ae (aI _))
 case h8 =>
  with_reducible refine' aF ?e
  case e =>
   with_reducible refine' aL ?a51
   case a51 =>
    with_reducible refine' aa ?e52 ?s52 n5
    case e52 =>
     with_reducible refine' bd ?a53
     case a53 =>
      exact af
    case s52 =>
     with_reducible refine' aa ?e54 ?s54 xO
     case e54 =>
      exact(fc (tgs:=["k"]) (cap:=[("names", 2),("many", 1)]) rfl ⟨rfl,rfl,rfl,rfl,rfl,rfl⟩ (cg (by rfl) T.n_range (aa (pv 1) af ai)) (λ_ _ _ _=>(bt (i:=0) (show List.Nodup [("k" : Str),("names" : Str),("many" : Str)] by decide +kernel) rfl (by walk_at "o"))) (λ_ _ _ _=>b_) (λ_ _ _ _=>(aL (aa (ax (jm (K:=K) rfl) (pv 1) (pv 0) (λ_ _=>rfl)) (aa (aL (aa aE (aa (aL (aa aE (aa (ax (jm (K:=K) rfl) (pv 1) (av aX (av aV (pv 0) ae) (pv 2)) (λ_ _=>rfl)) af) aB)) af bn) aB)) af bn)))))
     case s54 =>
      exact af
 case h9 =>
  refine' aA 6 S.nd ?e
  case e =>
   with_reducible refine' aL ?a56
   case a56 =>
    with_reducible refine' aa ?e57 ?s57 bZ
    case e57 =>
     with_reducible refine' ax ?r58 ?v58 ?b58 ?p58
     case r58=>exact aD
     case p58=>exact(λ_ _=>rfl)
     case v58 =>
      exact(pv 2)
     case b58 =>
      exact ae
    case s57 =>
     with_reducible refine' aa ?e61 ?s61 bn
     case e61 =>
      with_reducible refine' aL ?a62
      case a62 =>
       with_reducible refine' aa ?e63 ?s63 aB
       case e63 =>
        exact aE
       case s63 =>
        with_reducible refine' aa ?e65 ?s65 bn
        case e65 =>
         with_reducible refine' aL ?a66
         case a66 =>
          with_reducible refine' aa ?e67 ?s67 aB
          case e67 =>
           exact aE
          case s67 =>
           with_reducible refine' aa ?e69 ?s69 bn
           case e69 =>
            with_reducible refine' aL ?a70
            case a70 =>
             with_reducible refine' aa ?e71 ?s71 aB
             case e71 =>
              exact aE
             case s71 =>
              with_reducible refine' aa ?e73 ?s73 bZ
              case e73 =>
               with_reducible refine' ax ?r74 ?v74 ?b74 ?p74
               case r74=>exact aD
               case p74=>exact(λ_ _=>rfl)
               case v74 =>
                exact(pv 2)
               case b74 =>
                exact ae
              case s73 =>
               exact af
           case s69 =>
            with_reducible refine' aa ?e77 ?s77 bn
            case e77 =>
             with_reducible refine' aL ?a78
             case a78 =>
              with_reducible refine' aa ?e79 ?s79 aB
              case e79 =>
               exact aE
              case s79 =>
               with_reducible refine' aa ?e81 ?s81 bZ
               case e81 =>
                with_reducible refine' ax ?r82 ?v82 ?b82 ?p82
                case r82=>exact aD
                case p82=>exact(λ_ _=>rfl)
                case v82 =>
                 exact(pv 2)
                case b82 =>
                 exact ae
               case s81 =>
                exact af
            case s77 =>
             exact af
        case s65 =>
         exact af
     case s61 =>
      exact af
 case h10 =>
  refine' aA 7 S.nd ?e
  case e =>
   with_reducible refine' aL ?a85
   case a85 =>
    with_reducible refine' aa ?e86 ?s86 bZ
    case e86 =>
     with_reducible refine' ax ?r87 ?v87 ?b87 ?p87
     case r87=>exact aD
     case p87=>exact(λ_ _=>rfl)
     case v87 =>
      exact(pv 2)
     case b87 =>
      exact ae
    case s86 =>
     with_reducible refine' aa ?e90 ?s90 bn
     case e90 =>
      with_reducible refine' aL ?a91
      case a91 =>
       with_reducible refine' aa ?e92 ?s92 aB
       case e92 =>
        exact aE
       case s92 =>
        with_reducible refine' aa ?e94 ?s94 bn
        case e94 =>
         with_reducible refine' aL ?a95
         case a95 =>
          with_reducible refine' aa ?e96 ?s96 aB
          case e96 =>
           exact aE
          case s96 =>
           with_reducible refine' aa ?e98 ?s98 bn
           case e98 =>
            with_reducible refine' aL ?a99
            case a99 =>
             with_reducible refine' aa ?e100 ?s100 aB
             case e100 =>
              exact aE
             case s100 =>
              with_reducible refine' aa ?e102 ?s102 bZ
              case e102 =>
               with_reducible refine' ax ?r103 ?v103 ?b103 ?p103
               case r103=>exact aD
               case p103=>exact(λ_ _=>rfl)
               case v103 =>
                exact(pv 2)
               case b103 =>
                exact ae
              case s102 =>
               exact af
           case s98 =>
            with_reducible refine' aa ?e106 ?s106 bn
            case e106 =>
             with_reducible refine' aL ?a107
             case a107 =>
              with_reducible refine' aa ?e108 ?s108 aB
              case e108 =>
               exact aE
              case s108 =>
               with_reducible refine' aa ?e110 ?s110 bZ
               case e110 =>
                with_reducible refine' ax ?r111 ?v111 ?b111 ?p111
                case r111=>exact aD
                case p111=>exact(λ_ _=>rfl)
                case v111 =>
                 exact(pv 2)
                case b111 =>
                 exact ae
               case s110 =>
                exact af
            case s106 =>
             exact af
        case s94 =>
         exact af
     case s90 =>
      exact af
 case h11 =>
  refine' aA 8 S.nd ?e
  case e=>exact(bd af)
 case h12=>exact(cg (by rfl) T.n_range (aa (aH (kP rfl) (by rfl) T.n_min PyProof.Rows.boot_min (aa (av gM (pv 1) ae) (aa ae af aB))) af cu))
 case h13=>exact(bU 4 S.nd)
 case h14 =>
  refine' br ?e
  case e =>
   refine' cM PySem.F.plainAttrs_list PySem.F.slot_list_append PySem.F.type_list_append ba (pv 8) ?a
   case a =>
    with_reducible refine' aa ?e114 ?s114 bn
    case e114 =>
     with_reducible refine' aL ?a115
     case a115 =>
      with_reducible refine' aa ?e116 ?s116 bZ
      case e116 =>
       with_reducible refine' ax ?r117 ?v117 ?b117 ?p117
       case r117=>exact aD
       case p117=>exact(λ_ _=>rfl)
       case v117 =>
        exact(pv 2)
       case b117 =>
        exact(av aV ae (pv 4))
      case s116 =>
       with_reducible refine' aa ?e120 ?s120 bn
       case e120 =>
        with_reducible refine' aL ?a121
        case a121 =>
         with_reducible refine' aa ?e122 ?s122 aB
         case e122 =>
          exact aE
         case s122 =>
          with_reducible refine' aa ?e124 ?s124 bn
          case e124 =>
           with_reducible refine' aL ?a125
           case a125 =>
            with_reducible refine' aa ?e126 ?s126 aB
            case e126 =>
             exact aE
            case s126 =>
             with_reducible refine' aa ?e128 ?s128 bZ
             case e128 =>
              with_reducible refine' ax ?r129 ?v129 ?b129 ?p129
              case r129=>exact aD
              case p129=>exact(λ_ _=>rfl)
              case v129 =>
               exact(pv 2)
              case b129 =>
               exact(av aV ae (pv 4))
             case s128 =>
              exact af
          case s124 =>
           with_reducible refine' aa ?e132 ?s132 bn
           case e132 =>
            with_reducible refine' aL ?a133
            case a133 =>
             with_reducible refine' aa ?e134 ?s134 aB
             case e134 =>
              exact aE
             case s134 =>
              with_reducible refine' aa ?e136 ?s136 bZ
              case e136 =>
               with_reducible refine' ax ?r137 ?v137 ?b137 ?p137
               case r137=>exact aD
               case p137=>exact(λ_ _=>rfl)
               case v137 =>
                exact(pv 2)
               case b137 =>
                exact(av aV ae (pv 4))
              case s136 =>
               exact af
           case s132 =>
            exact af
       case s120 =>
        exact af
    case s114 =>
     exact af
 case h15 =>
  with_reducible refine' aF ?e
  case e =>
   with_reducible refine' aL ?a140
   case a140 =>
    with_reducible refine' aa ?e141 ?s141 bZ
    case e141 =>
     exact(bq dN (pv 2) bK (bJ ae))
    case s141 =>
     with_reducible refine' aa ?e143 ?s143 n8
     case e143 =>
      with_reducible refine' av gN ?l144 ?q144
      case l144 =>
       with_reducible refine' bd ?a145
       case a145 =>
        with_reducible refine' aa ?e146 ?s146 ai
        case e146 =>
         exact(pv 6)
        case s146 =>
         with_reducible refine' aa ?e148 ?s148 ai
         case e148 =>
          exact(pv 7)
         case s148 =>
          exact af
      case q144 =>
       exact(pv 8)
     case s143 =>
      exact af
 walk_at "e"
 have tup:∀{H2 H3:Hp} {p:Addr} {o:HO},H2 p=none->upd H2 p o=H3->ao H2 H3/\H3 p=some o:=λ{H2 H3 p o} hp e=>by subst e;exact⟨ak hp,ag⟩
 walk_at "w"
 refine d6 (λ_=>?_) (λ_=>?_)
 ·walk_at "w"
  refine⟨by decide,λg hg=>?_⟩
  generalize hE:upd H g _=H1
  obtain⟨S1,q1⟩:=tup hg hE
  clear hE
  walk_at "w"
  show bQ _ _ _ _ _
  walk_at "w"
  refine⟨1,(m:Int)+1,rfl,⟨by omega,by omega,by omega,by omega⟩,?_⟩
  rw[show ((m:Int)+1-1).toNat=m from by omega]
  refine cY (n:=m) (λi σ H'=>(∃x4 x5 gvs,σ=[some (.int way),some (.int m),some (.ref l),some (.ref g),x4,x5,none,none,none]/\H' g=some (.lst gvs)/\Paired (GAt H') gvs (((List.range i).map (·+1)).map λk=>(nth ns k,R5 ns k)))/\ao H H') ⟨⟨_,_,[],rfl,q1,.nil⟩,S1⟩ (λi σ H' hi pv=>?_) (λσ H' pv=>?_)
  ·obtain⟨⟨x4,x5,gvs,rfl,hg',hp'⟩,SS⟩:=pv
   have hl':=SS _ _ hl
   have gl:=aK hp'
   rw[List.length_map,List.length_map,List.length_range]at gl
   refine s_name ?_
   walk_at "w"
   refine i_ixL (SqL.of hl') (cf ln (k:=i+2) (by omega) (by omega)) ?_
   walk_at "w"
   refine⟨by simp[sizeLine],λp1 hp1=>?_⟩
   generalize hE:upd H' p1 _=H2
   obtain⟨S2,q2⟩:=tup hp1 hE
   clear hE
   walk_at "w"
   refine⟨by simp[sizeLine],λp2 hp2=>?_⟩
   generalize hE:upd H2 p2 _=H3
   obtain⟨S3,q3⟩:=tup hp2 hE
   clear hE
   have a3:RAt H3 (.ref p2) (.no (wN ns (i+2))):=.no q3 (.w (S3 _ _ q2))
   have S13:=S2.trans S3
   have hl3:=S13 _ _ hl'
   have hg3:=S13 _ _ hg'
   walk_at "w"
   refine i_ixL (SqL.of hl3) (cf ln (k:=i+1) (by omega) (by omega)) ?_
   walk_at "w"
   refine i_ixL (SqL.of hl3) (cf ln (k:=i) (by omega) (by omega)) ?_
   walk_at "w"
   refine⟨by simp[sizeLine],λp4 hp4=>?_⟩
   generalize hE:upd H3 p4 _=H4
   obtain⟨S4,q4⟩:=tup hp4 hE
   clear hE
   have a4:RAt H4 (.ref p4) (wN ns i):=.w q4
   have hl4:=S4 _ _ hl3
   walk_at "w"
   refine i_ixL (SqL.of hl4) (cf ln (k:=i+1) (by omega) (by omega)) ?_
   walk_at "w"
   refine⟨by simp[sizeLine],λp5 hp5=>?_⟩
   generalize hE:upd H4 p5 _=H5
   obtain⟨S5,q5⟩:=tup hp5 hE
   clear hE
   have a5:RAt H5 (.ref p5) (wN ns (i+1)):=.w q5
   have a4':=a4.mono (ao.tups S5)
   have a3':=a3.mono (ao.tups (S4.trans S5))
   walk_at "w"
   refine⟨_,_,_,_,_,_,rfl,a4',a3',a5,λv6 H6 S6 a6=>?_⟩
   walk_at "w"
   refine⟨by simp[sizeLine],λp7 hp7=>?_⟩
   generalize hE:upd H6 p7 _=H7
   obtain⟨S7,q7⟩:=tup hp7 hE
   clear hE
   have a7:=a6.mono (ao.tups S7)
   have S37:=S4.trans (S5.trans (S6.trans S7))
   have hg7:=S37 _ _ hg3
   walk_at "w"
   refine dS hg7 (by omega) ?_
   have kt:di H7 (upd H7 g (.lst (gvs++[.ref p7]))):=λb xs e=>by
    have:b≠g:=λx=>by rw[x,hg7]at e;cases e
    rw[aj this];exact e
   refine⟨⟨_,_,gvs++[.ref p7],rfl,ag,?_⟩,aR (SS.trans (S13.trans S37)) hg⟩
   rw[List.range_succ,List.map_append,List.map_append]
   refine bE (a_ kt (a_ (ao.tups (S13.trans S37)) hp')) ?_
   exact gg (kt _ _ q7) (a7.mono kt)
  ·obtain⟨⟨x4,x5,gvs,rfl,hg',hp'⟩,SS⟩:=pv
   have hl':=SS _ _ hl
   walk_at "w"
   refine i_ixL (SqL.of hl') (cf ln (k:=0) (by omega) (by omega)) ?_
   walk_at "w"
   refine i_ixL (SqL.of hl') (cf ln (k:=m+1) (by omega) (by omega)) ?_
   walk_at "w"
   refine⟨by simp[sizeLine],λp1 hp1=>?_⟩
   generalize hE:upd H' p1 _=H2
   obtain⟨S2,q2⟩:=tup hp1 hE
   clear hE
   walk_at "w"
   refine⟨by simp[sizeLine],λp2 hp2=>?_⟩
   generalize hE:upd H2 p2 _=H3
   obtain⟨S3,q3⟩:=tup hp2 hE
   clear hE
   exact k p2 p1 g ([0,m+1].map (nth ns)) gvs _ H3 (SS.trans (S2.trans S3)) ⟨q3,S3 _ _ q2,(S2.trans S3) _ _ hg',a_ (ao.tups (S2.trans S3)) hp'⟩ (Cd nd ln m1 m7)
 ·walk_at "w"
  refine d6 (λ_=>?_) (λ_=>?_)
  ·walk_at "w"
   refine⟨by decide,λp0 hp0=>?_⟩
   generalize hE:upd H p0 _=H1
   obtain⟨S1,q1⟩:=tup hp0 hE
   clear hE
   have hl1:=S1 _ _ hl
   walk_at "w"
   refine cB ?_
   walk_at "w"
   refine⟨by omega,by omega,λD hD=>?_⟩
   rw[Int.toNat_natCast]
   refine fQ (λn H2 ys=>ao H1 H2/\H2 D=some (.lst ys)/\Paired (GAt H2) ys ((List.range n).map λk=>(nth ns k,R6 ns m k))) ⟨ak hD,ag,.nil⟩ (λn H2 ys p=>p.2.1) (λn H2 ys hn p=>?_) (λH2 ys p=>?_)
   ·obtain⟨S2,h2,hp2⟩:=p
    have gl:=aK hp2
    rw[List.length_map,List.length_range]at gl
    have hmod:(n+1) % m<m:=Nat.mod_lt _ (by omega)
    refine s_name ⟨⟨rfl,rfl,trivial⟩,i_yes (iteT ?_)⟩
    show uh _ [some (.int (0+n)),some (.ref l),some (.int m)] _ _
    have hl2:=S2 _ _ hl1
    walk_at "w"
    refine i_ixL (SqL.of hl2) (cf ln (k:=n) (by omega) (by omega)) ?_
    walk_at "w"
    refine i_rI (by show (0:Int)<(m:Int);omega) ?_
    refine i_ixL (SqL.of hl2) (cf ln (j:=((0:Int)+(n:Int)+1) % (m:Int)) (k:=(n+1) % m) (by rw[show (0:Int)+(n:Int)+1=((n+1:Nat):Int) from by omega];exact(Int.natCast_emod _ _).symm) (by omega)) ?_
    walk_at "w"
    refine⟨by simp[sizeLine],λp3 hp3=>?_⟩
    generalize hE:upd H2 p3 _=H3
    obtain⟨S3,q3⟩:=tup hp3 hE
    clear hE
    walk_at "w"
    refine⟨by simp[sizeLine],λp4 hp4=>?_⟩
    generalize hE:upd H3 p4 _=H4
    obtain⟨S4,q4⟩:=tup hp4 hE
    clear hE
    have a4:RAt H4 (.ref p4) (R6 ns m n):=.no q4 (.w (S4 _ _ q3))
    walk_at "w"
    refine⟨by simp[sizeLine],λp5 hp5=>?_⟩
    generalize hE:upd H4 p5 _=H5
    obtain⟨S5,q5⟩:=tup hp5 hE
    clear hE
    have S25:=S3.trans (S4.trans S5)
    have h5:=S25 _ _ h2
    have kt:di H5 (upd H5 D (.lst (ys++[.ref p5]))):=λb xs e=>by
     have:b≠D:=λx=>by rw[x,h5]at e;cases e
     rw[aj this];exact e
    refine ck.mk h5 hn (by omega) ⟨aR (S2.trans S25) hD,ag,?_⟩
    rw[List.range_succ,List.map_append]
    exact bE (a_ kt (a_ (ao.tups S25) hp2)) (gg (kt _ _ q5) ((a4.mono (ao.tups S5)).mono kt))
   ·obtain⟨S2,h2,hp2⟩:=p
    walk_at "w"
    refine⟨by simp[sizeLine],λp3 hp3=>?_⟩
    generalize hE:upd H2 p3 _=H3
    obtain⟨S3,q3⟩:=tup hp3 hE
    clear hE
    exact k p3 p0 D (([]:List Nat).map (nth ns)) _ _ H3 (S1.trans (S2.trans S3)) ⟨q3,(S2.trans S3) _ _ q1,S3 _ _ h2,a_ (ao.tups S3) hp2⟩ (Cc nd ln m1 m7)
  ·have tup2:=0
   walk_at "w"
   refine i_ixL (SqL.of ((ao.refl H) _ _ hl)) (cf ln (k:=2) (by omega) (by omega)) ?_
   walk_at "w"
   refine i_ixL (SqL.of ((ao.refl H) _ _ hl)) (cf ln (k:=0) (by omega) (by omega)) ?_
   walk_at "w"
   refine⟨by simp[sizeLine],λb0 hb0=>?_⟩
   generalize hE:upd H b0 _=J0
   obtain⟨U0,u0⟩:=tup hb0 hE
   clear hE
   have V0:ao H J0:=(ao.refl H).trans U0
   have r0:RAt J0 (.ref b0) (wN ns 0):=.w u0
   walk_at "w"
   refine i_ixL (SqL.of (V0 _ _ hl)) (cf ln (k:=3) (by omega) (by omega)) ?_
   walk_at "w"
   refine⟨by simp[sizeLine],λb1 hb1=>?_⟩
   generalize hE:upd J0 b1 _=J1
   obtain⟨U1,u1⟩:=tup hb1 hE
   clear hE
   have V1:ao H J1:=V0.trans U1
   have r1:RAt J1 (.ref b1) (wN ns 3):=.w u1
   walk_at "w"
   refine⟨by simp[sizeLine],λb2 hb2=>?_⟩
   generalize hE:upd J1 b2 _=J2
   obtain⟨U2,u2⟩:=tup hb2 hE
   clear hE
   have V2:ao H J2:=V1.trans U2
   have r2:RAt J2 (.ref b2) (.orr (wN ns 0) (wN ns 3)):=.orr u2 (r0.mono (ao.tups (U1.trans U2))) (r1.mono (ao.tups U2))
   walk_at "w"
   refine⟨by simp[sizeLine],λb3 hb3=>?_⟩
   generalize hE:upd J2 b3 _=J3
   obtain⟨U3,u3⟩:=tup hb3 hE
   clear hE
   have V3:ao H J3:=V2.trans U3
   have r3:RAt J3 (.ref b3) (.no (.orr (wN ns 0) (wN ns 3))):=.no u3 (r2.mono (ao.tups U3))
   walk_at "w"
   refine⟨by simp[sizeLine],λb4 hb4=>?_⟩
   generalize hE:upd J3 b4 _=J4
   obtain⟨U4,u4⟩:=tup hb4 hE
   clear hE
   have V4:ao H J4:=V3.trans U4
   have g4:GAt J4 (.ref b4) (nth ns 2,R7 ns 2):=gg u4 (r3.mono (ao.tups U4))
   walk_at "w"
   refine i_ixL (SqL.of (V4 _ _ hl)) (cf ln (k:=3) (by omega) (by omega)) ?_
   walk_at "w"
   refine i_ixL (SqL.of (V4 _ _ hl)) (cf ln (k:=1) (by omega) (by omega)) ?_
   walk_at "w"
   refine⟨by simp[sizeLine],λb5 hb5=>?_⟩
   generalize hE:upd J4 b5 _=J5
   obtain⟨U5,u5⟩:=tup hb5 hE
   clear hE
   have V5:ao H J5:=V4.trans U5
   have r5:RAt J5 (.ref b5) (wN ns 1):=.w u5
   walk_at "w"
   refine i_ixL (SqL.of (V5 _ _ hl)) (cf ln (k:=2) (by omega) (by omega)) ?_
   walk_at "w"
   refine⟨by simp[sizeLine],λb6 hb6=>?_⟩
   generalize hE:upd J5 b6 _=J6
   obtain⟨U6,u6⟩:=tup hb6 hE
   clear hE
   have V6:ao H J6:=V5.trans U6
   have r6:RAt J6 (.ref b6) (wN ns 2):=.w u6
   walk_at "w"
   refine⟨by simp[sizeLine],λb7 hb7=>?_⟩
   generalize hE:upd J6 b7 _=J7
   obtain⟨U7,u7⟩:=tup hb7 hE
   clear hE
   have V7:ao H J7:=V6.trans U7
   have r7:RAt J7 (.ref b7) (.orr (wN ns 1) (wN ns 2)):=.orr u7 (r5.mono (ao.tups (U6.trans U7))) (r6.mono (ao.tups U7))
   walk_at "w"
   refine⟨by simp[sizeLine],λb8 hb8=>?_⟩
   generalize hE:upd J7 b8 _=J8
   obtain⟨U8,u8⟩:=tup hb8 hE
   clear hE
   have V8:ao H J8:=V7.trans U8
   have r8:RAt J8 (.ref b8) (.no (.orr (wN ns 1) (wN ns 2))):=.no u8 (r7.mono (ao.tups U8))
   walk_at "w"
   refine⟨by simp[sizeLine],λb9 hb9=>?_⟩
   generalize hE:upd J8 b9 _=J9
   obtain⟨U9,u9⟩:=tup hb9 hE
   clear hE
   have V9:ao H J9:=V8.trans U9
   have g9:GAt J9 (.ref b9) (nth ns 3,R7 ns 3):=gg u9 (r8.mono (ao.tups U9))
   have g4:=g4.mono (ao.tups (U5.trans (U6.trans (U7.trans (U8.trans U9)))))
   walk_at "w"
   refine⟨by simp[sizeLine],λb10 hb10=>?_⟩
   generalize hE:upd J9 b10 _=J10
   obtain⟨U10,u10⟩:=tup hb10 hE
   clear hE
   have V10:ao H J10:=V9.trans U10
   have mH:H b10=none:=ao.free V9 hb10
   have g4:=g4.mono (ao.tups U10)
   have g9:=g9.mono (ao.tups U10)
   walk_at "w"
   refine⟨_,_,rfl,?_⟩
   obtain⟨j,ej,j3⟩:∃j:Nat,(if (3:Int)<(m:Int)-1 then (3:Int) else (m:Int)-1)=(j:Int)/\j<=3:=by
    by_cases h:(3:Int)<(m:Int)-1
    ·rw[if_pos h];exact⟨3,rfl,by omega⟩
    ·rw[if_neg h];exact⟨m-1,by omega,by omega⟩
   rw[ej]
   walk_at "w"
   refine⟨by omega,by omega,?_⟩
   rw[Int.toNat_natCast]
   refine cY (n:=j) (λi σ H'=>(∃x4 gvs,σ=[some (.int way),some (.int m),some (.ref l),none,x4,none,some (.ref b4),some (.ref b9),some (.ref b10)]/\H' b10=some (.lst gvs)/\Paired (GAt H') gvs (((List.range i).map (4+·)).map λk=>(nth ns k,R7 ns k)))/\ao H H'/\di J10 H') ⟨⟨_,[],rfl,u10,.nil⟩,V10,λ_ _ e=>e⟩ (λi σ H' hi pv=>?_) (λσ H' pv=>?_)
   ·obtain⟨⟨x4,gvs,rfl,hg',hp'⟩,SS,kt0⟩:=pv
    have hl':=SS _ _ hl
    have gl:=aK hp'
    rw[List.length_map,List.length_map,List.length_range]at gl
    refine s_name ?_
    walk_at "w"
    refine i_ixL (SqL.of hl') (cf ln (k:=4+i) (by omega) (by omega)) ?_
    walk_at "w"
    refine i_ixL (SqL.of hl') (cf ln (k:=2+i) (by omega) (by omega)) ?_
    walk_at "w"
    refine⟨by simp[sizeLine],λp1 hp1=>?_⟩
    generalize hE:upd H' p1 _=H2
    obtain⟨S2,q2⟩:=tup hp1 hE
    clear hE
    have a2:RAt H2 (.ref p1) (wN ns (2+i)):=.w q2
    walk_at "w"
    refine i_ixL (SqL.of (S2 _ _ hl')) (cf ln (k:=3+i) (by omega) (by omega)) ?_
    walk_at "w"
    refine⟨by simp[sizeLine],λp2 hp2=>?_⟩
    generalize hE:upd H2 p2 _=H3
    obtain⟨S3,q3⟩:=tup hp2 hE
    clear hE
    have a3:RAt H3 (.ref p2) (wN ns (3+i)):=.w q3
    walk_at "w"
    refine⟨by simp[sizeLine],λp3 hp3=>?_⟩
    generalize hE:upd H3 p3 _=H4
    obtain⟨S4,q4⟩:=tup hp3 hE
    clear hE
    have a4:RAt H4 (.ref p3) (.an (wN ns (2+i)) (wN ns (3+i))):=.an q4 (a2.mono (ao.tups (S3.trans S4))) (a3.mono (ao.tups S4))
    walk_at "w"
    refine⟨by simp[sizeLine],λp4 hp4=>?_⟩
    generalize hE:upd H4 p4 _=H5
    obtain⟨S5,q5⟩:=tup hp4 hE
    clear hE
    have S25:=S2.trans (S3.trans (S4.trans S5))
    have hg5:=S25 _ _ hg'
    walk_at "w"
    refine dS hg5 (by omega) ?_
    have kt:di H5 (upd H5 b10 (.lst (gvs++[.ref p4]))):=λb xs e=>by
     have:b≠b10:=λx=>by rw[x,hg5]at e;cases e
     rw[aj this];exact e
    refine⟨⟨_,gvs++[.ref p4],rfl,ag,?_⟩,aR (SS.trans S25) mH,λb xs e=>kt b xs (ao.tups S25 b xs (kt0 b xs e))⟩
    rw[List.range_succ,List.map_append,List.map_append]
    refine bE (a_ kt (a_ (ao.tups S25) hp')) ?_
    have e7:R7 ns (4+i)=.an (wN ns (2+i)) (wN ns (3+i)):=by
     unfold R7
     rw[if_neg (by omega),if_neg (by omega),show 4+i-2=2+i from by omega,show 4+i-1=3+i from by omega]
    show GAt _ _ (nth ns (4+i),R7 ns (4+i))
    rw[e7]
    exact gg (kt _ _ q5) ((a4.mono (ao.tups S5)).mono kt)
   ·obtain⟨⟨x4,gvs,rfl,hg',hp'⟩,SS,kt0⟩:=pv
    have hl':=SS _ _ hl
    have gl:=aK hp'
    rw[List.length_map,List.length_map,List.length_range]at gl
    walk_at "w"
    refine gW (SqL.of hl') λp1 hp1=>?_
    have ec:fh (ns.map V.str) none (some 2)=([0,1].map (nth ns)).map V.str:=by
     have l2:2<=(ns.map V.str).length:=by rw[List.length_map,ln];decide
     unfold fh
     rw[show (some (2:Int))=some ((2:Nat):Int) from rfl,HT.lG,HT.iU,Nat.min_eq_left l2,List.drop_zero,Nat.sub_zero]
     clear l2
     cases ns with
     | nil=>cases ln
     | cons a r =>
      cases r with
      | nil=>cases ln
      | cons b r=>rfl
    rw[ec]
    generalize hE:upd H' p1 _=H2
    obtain⟨S2,q2⟩:=tup hp1 hE
    clear hE
    walk_at "w"
    refine⟨by simp[sizeLine],λp2 hp2=>?_⟩
    generalize hE:upd H2 p2 _=H3
    obtain⟨S3,q3⟩:=tup hp2 hE
    clear hE
    walk_at "w"
    refine kG q3 ((S2.trans S3) _ _ hg') (by simp;omega) λp3 hp3=>?_
    generalize hE:upd H3 p3 _=H4
    obtain⟨S4,q4⟩:=tup hp3 hE
    clear hE
    walk_at "w"
    refine⟨by simp[sizeLine],λp4 hp4=>?_⟩
    generalize hE:upd H4 p4 _=H5
    obtain⟨S5,q5⟩:=tup hp4 hE
    clear hE
    have S25:=S2.trans (S3.trans (S4.trans S5))
    have kt5:di J10 H5:=λb xs e=>ao.tups S25 b xs (kt0 b xs e)
    refine k p4 p1 p3 ([0,1].map (nth ns)) _ _ H5 (SS.trans S25) ⟨q5,(S3.trans (S4.trans S5)) _ _ q2,S5 _ _ q4,?_⟩ (Cb nd ln j3)
    exact .cons (g4.mono kt5) (.cons (g9.mono kt5) (a_ (ao.tups S25) hp'))
end
theorem nA {xs:List V} {a:Nat} (h:a<=xs.length):fh xs (some (a:Int)) none=xs.drop a:=by
 unfold fh
 rw[HT.lG,HT.iU,Nat.min_eq_left h,List.take_of_length_le (by rw[List.length_drop];omega)]
theorem oR {xs:List V} {a:Nat} (h:a<=xs.length):fh xs none (some (a:Int))=xs.take a:=by
 unfold fh
 rw[HT.lG,HT.iU,Nat.min_eq_left h]
 simp
def nR:Sp:=λvs H Q _=>∃(d:Addr) (ds:List Int) (spot:Int),vs=[.ref d,.int spot]/\H d=some (.lst (ds.map V.int))/\DOk ds/\0<=spot/\spot<=100 /\
 ∀a li lg ins gvs gs H',ao H H'->NAt H' a li lg ins gvs gs->NetOk ins gs->Q (.ref a) H'
theorem pC (h:∀n,n<vs.length->∃m:Nat,1<=m/\m<=B/\vs[n]?=some (.int (m:Int))) {i:Int} (h0:0<=i) (h1:i<vs.length):∃m:Nat,1<=m/\m<=B/\atI vs i=some (.int (m:Int)):=by
 obtain⟨n,rfl⟩:=Int.eq_ofNat_of_zero_le h0
 obtain⟨m,a,b,e⟩:=h n (Int.ofNat_lt.mp h1)
 exact⟨m,a,b,bB e⟩
theorem vK {ms:List Nat} (h:∀m∈ms,1<=m/\m<=B) (n:Nat) (hn:n<(ms.map λm:Nat=>V.int (m:Int)).length):∃m:Nat,1<=m/\m<=B/\(ms.map λm:Nat=>V.int (m:Int))[n]?=some (.int (m:Int)):=by
 rw[List.length_map]at hn
 obtain⟨a,b⟩:=h _ (List.getElem_mem hn)
 exact⟨ms[n],a,b,by rw[List.getElem?_map,List.getElem?_eq_getElem hn];rfl⟩
theorem xU {i:Int} (h0:0<=i) (h1:i<9):∃m:Nat,1<=m/\m<=7/\atI [V.int 1,V.int 2,V.int 2,V.int 3,V.int 3,V.int 4,V.int 5,V.int 6,V.int 7] i=some (.int (m:Int)) :=
 pC (vK (ms:=[1,2,2,3,3,4,5,6,7]) (by decide)) h0 h1
theorem xV {i:Int} (h0:0<=i) (h1:i<5):∃m:Nat,1<=m/\m<=6/\atI [V.int 2,V.int 3,V.int 3,V.int 3,V.int 6] i=some (.int (m:Int)) :=
 pC (vK (ms:=[2,3,3,3,6]) (by decide)) h0 h1
theorem cr (hp:H2 p=none) (e:upd H2 p o=H3):ao H2 H3/\H3 p=some o:=by subst e;exact⟨ak hp,ag⟩
section
theorem n_:FnScope ["d", "spot", "names", "way", "many", "inputs", "deep", "pos", "some", "gates", "name", "rule"] ["d", "spot"] (ay (top 32)):=by walk_at "k"
theorem uH {f:Addr} {fd:FuncData} (Fu:Fun K "_law_net" "_law_net" (top 32) f fd) (T:Txt K mg TT) (f_law_names:Fn P w K mg base "_law_names" ["d", "spot"] 1 iI) (f_law_known:Fn P w K mg base "_law_known" ["way", "many", "names"] 2 iK)
  (f_law_rule:Fn P w K mg base "_law_rule" ["d", "pos", "names", "deep"] 11 (fX 10)) (f_law_deeper:Fn P w K mg base "_law_deeper" ["d", "pos", "names", "rule"] 1 fY):FnOk P w K mg base CX0 12 f fd ["d", "spot"] nR:=by
 have S:=n_
 refine Fu.ok S (by walk_at "l") (λcdv A outer s H vs Q E hr h=>?_)
 obtain⟨d,ds,spot,rfl,hd,dok,sp0,sp1,k⟩:=h
 refine'⟨?_,(ad ?h0 (ad ?h1 (ad ?h2 (ad (bg ?h3 (am ?h4) aM) (ad (bg ?h5 (am ?h6) aM) (ad ?h7 (ad ?h8 (ad ?h9 (ad ?h10 (ad ?h11 (ad (bP PassesOwn.never rfl ?h12 ?h13 (ad ?h14 (ad (bg ?h15 (am ?h16) aM) (ad (bg ?h17 (am ?h18) aM) (am ?h19))))) (am ?h20)))))))))))),?_⟩
 case h0 =>
  refine' aA 2 S.nd ?e
  case e=>exact(aU f_law_names hr (aa (pv 0) (aa (pv 1) af ai) ai))
 case h1 =>
  refine' aA 3 S.nd ?e
  case e=>exact(av aX (ax aD (pv 0) (av aV (pv 1) ae) (λ_ _=>rfl)) ae)
 case h2 =>
  refine' aA 4 S.nd ?e
  case e =>
   with_reducible refine' ax ?r1 ?v1 ?b1 ?p1
   case r1=>exact aD
   case p1=>exact(λ_ _=>rfl)
   case v1 =>
    with_reducible refine' bd ?a2
    case a2 =>
     with_reducible refine' aa ?e3 ?s3 aB
     case e3 =>
      exact ae
     case s3 =>
      with_reducible refine' aa ?e5 ?s5 aB
      case e5 =>
       exact ae
      case s5 =>
       with_reducible refine' aa ?e7 ?s7 aB
       case e7 =>
        exact ae
       case s7 =>
        with_reducible refine' aa ?e9 ?s9 aB
        case e9 =>
         exact ae
        case s9 =>
         with_reducible refine' aa ?e11 ?s11 aB
         case e11 =>
          exact ae
         case s11 =>
          with_reducible refine' aa ?e13 ?s13 aB
          case e13 =>
           exact ae
          case s13 =>
           with_reducible refine' aa ?e15 ?s15 aB
           case e15 =>
            exact ae
           case s15 =>
            with_reducible refine' aa ?e17 ?s17 aB
            case e17 =>
             exact ae
            case s17 =>
             with_reducible refine' aa ?e19 ?s19 aB
             case e19 =>
              exact ae
             case s19 =>
              exact af
   case b1 =>
    exact(av aX (ax aD (pv 0) (av aV (pv 1) ae) (λ_ _=>rfl)) ae)
 case h3=>exact(aC sv (pv 3) ae (aI _))
 case h4=>exact(aF (aU f_law_known hr (aa (pv 3) (aa (pv 4) (aa (pv 2) af ai) ai) ai)))
 case h5=>exact(aC bR (pv 3) ae (aI _))
 case h6 =>
  refine' aA 4 S.nd ?e
  case e=>exact(aH (kP rfl) (by rfl) T.n_min PyProof.Rows.boot_min (aa (pv 4) (aa ae af aB) ai))
 case h7 =>
  refine' aA 5 S.nd ?e
  case e=>exact(av aX (ax aD (pv 0) (av aV (pv 1) ae) (λ_ _=>rfl)) ae)
 case h8 =>
  refine' aA 6 S.nd ?e
  case e =>
   with_reducible refine' ax ?r22 ?v22 ?b22 ?p22
   case r22=>exact aD
   case p22=>exact(λ_ _=>rfl)
   case v22 =>
    with_reducible refine' bd ?a23
    case a23 =>
     with_reducible refine' aa ?e24 ?s24 aB
     case e24 =>
      exact ae
     case s24 =>
      with_reducible refine' aa ?e26 ?s26 aB
      case e26 =>
       exact ae
      case s26 =>
       with_reducible refine' aa ?e28 ?s28 aB
       case e28 =>
        exact ae
       case s28 =>
        with_reducible refine' aa ?e30 ?s30 aB
        case e30 =>
         exact ae
        case s30 =>
         with_reducible refine' aa ?e32 ?s32 aB
         case e32 =>
          exact ae
         case s32 =>
          exact af
   case b22 =>
    exact(pv 3)
 case h9 =>
  refine' aA 7 S.nd ?e
  case e=>exact(bd (aa (av aV (pv 1) ae) af))
 case h10 =>
  refine' aA 8 S.nd ?e
  case e=>exact(bq dN (pv 2) bK (bJ (av aV (pv 5) (pv 4))))
 case h11 =>
  refine' aA 9 S.nd ?e
  case e=>exact(bd af)
 case h12=>exact(bD (bq dN (pv 8) (bJ (pv 5)) bK))
 case h13=>exact(bU 10 S.nd)
 case h14 =>
  refine' aA 11 S.nd ?e
  case e=>exact(aU f_law_rule hr (aa (pv 0) (aa (pv 7) (aa (pv 8) (aa (pv 6) af ai) ai) ai) ai))
 case h15=>exact(PW.pt (lL (aC bR (pv 3) ae (aI _)) (ik (aC bR (aH aG (by rfl) T.n_len PySem.boot_len (aa (pv 9) af ai)) (av aX (av cN (ax aD (pv 0) (av aV (pv 1) ae) (λ_ _=>rfl)) ae) (pv 4)) (aI _)))))
 case h16 =>
  refine' aA 11 S.nd ?e
  case e=>exact(aU f_law_rule hr (aa (pv 0) (aa (pv 7) (aa (pv 8) (aa ae af aB) ai) ai) ai))
 case h17=>exact(PW.pt (f7 (aC bR (pv 3) ae (aI _)) (fM (PW.pt (lL (aC bR (pv 3) ae (aI _)) (ik (aC bR (aH aG (by rfl) T.n_len PySem.boot_len (aa (pv 9) af ai)) (av aX (av cN (ax aD (pv 0) (av aV (pv 1) ae) (λ_ _=>rfl)) ae) (pv 4)) (aI _))))))))
 case h18 =>
  refine' aA 11 S.nd ?e
  case e=>exact(aU f_law_deeper hr (aa (pv 0) (aa (pv 7) (aa (pv 8) (aa (pv 11) af ai) ai) ai) ai))
 case h19 =>
  refine' br ?e
  case e =>
   refine' cM PySem.F.plainAttrs_list PySem.F.slot_list_append PySem.F.type_list_append ba (pv 9) ?a
   case a =>
    with_reducible refine' aa ?e35 ?s35 bn
    case e35 =>
     with_reducible refine' aL ?a36
     case a36 =>
      with_reducible refine' aa ?e37 ?s37 ai
      case e37 =>
       exact(pv 10)
      case s37 =>
       with_reducible refine' aa ?e39 ?s39 ai
       case e39 =>
        exact(pv 11)
       case s39 =>
        exact af
    case s35 =>
     exact af
 case h20=>exact(aF (aL (aa (bq dN (pv 2) bK (bJ (pv 5))) (aa (pv 9) af ai))))
 walk_at "e"
 walk_at "w"
 refine⟨d,ds,spot,rfl,hd,dok,by omega,by omega,λl ns H1 S1 nl ln nd hl=>?_⟩
 have hd1:=S1 _ _ hd
 walk_at "w"
 obtain⟨w0,_,_,ew⟩:=iw dok (i:=spot+2) (by omega) (by omega)
 refine i_ixL (SqL.of hd1) ew ?_
 walk_at "w"
 refine⟨by simp[sizeLine],λp0 hp0=>?_⟩
 generalize hE:upd H1 p0 _=H2
 obtain⟨S2,q2⟩:=cr hp0 hE
 clear hE
 have hd2:=S2 _ _ hd1
 walk_at "w"
 obtain⟨y0,_,_,ey⟩:=iw dok (i:=spot+3) (by omega) (by omega)
 refine i_ixL (SqL.of hd2) ey ?_
 walk_at "w"
 obtain⟨m,m1,m7,em⟩:=xU (i:=y0 % 9) (by omega) (by omega)
 refine i_ixL (SqL.of q2) em ?_
 have hl2:=S2 _ _ hl
 have wb0:0<=w0 % 8:=by omega
 have wb1:w0 % 8<8:=by omega
 generalize w0 % 8=way at *
 walk_at "w"
 refine d6 (λ_=>?_) (λhw4=>?_)
 ·walk_at "w"
  exact⟨way,m,l,ns,rfl,m1,m7,hl2,ln,nd,λa li lg ins gvs gs H' S' NA ok=>k a li lg ins gvs gs H' (S1.trans (S2.trans S')) NA ok⟩
 have hw5:way<=4:=by simpa using hw4
 with_reducible refine s_next ?_
 with_reducible refine dC (λσ H'=>∃m:Nat,1<=m/\m<=7/\σ=[some (.ref d),some (.int spot),some (.ref l),some (.int way),some (.int (m:Int)),none,none,none,none,none,none,none]/\H'=H2) (λR hR=>?_) (λσ6 H6 j6=>?_)
 ·walk_at "w"
  refine d6 (λ_=>?_) (λ_=>hR _ _ ⟨m,m1,m7,rfl,rfl⟩)
  walk_at "w"
  refine⟨_,_,rfl,?_⟩
  by_cases h3:(3:Int)<(m:Int)
  ·rw[if_pos h3]
   exact s_name (hR _ _ ⟨3,by omega,by omega,rfl,rfl⟩)
  ·rw[if_neg h3]
   exact s_name (hR _ _ ⟨m,m1,m7,rfl,rfl⟩)
 clear em m1 m7 m
 obtain⟨m,m1,m7,rfl,e6⟩:=j6
 have e6':=e6.symm
 subst e6'
 clear e6
 walk_at "w"
 obtain⟨z0,zb0,_,ez⟩:=iw dok (i:=spot+4) (by omega) (by omega)
 refine i_ixL (SqL.of hd2) ez ?_
 walk_at "w"
 obtain⟨I,eI,I4⟩:∃I:Nat,z0 % 5=(I:Int)/\I<=4:=⟨(z0 % 5).toNat,by omega,by omega⟩
 rw[eI]
 refine⟨by simp[sizeLine],λp1 hp1=>?_⟩
 generalize hE:upd H2 p1 _=H3
 obtain⟨S3,q3⟩:=cr hp1 hE
 clear hE
 walk_at "w"
 obtain⟨dp,dp1,dp6,edp⟩:=xV (i:=way) (by omega) (by omega)
 refine i_ixL (SqL.of q3) edp ?_
 walk_at "w"
 refine⟨by show 1<=sizeLine;decide,λqa hqa=>?_⟩
 generalize hE:upd H3 qa _=H4
 obtain⟨S4,q4⟩:=cr hqa hE
 clear hE
 have S24:=S3.trans S4
 have hl4:=S24 _ _ hl2
 have hd4:=S24 _ _ hd2
 walk_at "w"
 have lns:(ns.map V.str).length=11:=by rw[List.length_map];exact ln
 rw[show (I:Int)+(m:Int)=((I+m:Nat):Int) from by omega]
 refine gW (SqL.of hl4) λso hso=>?_
 rw[oR (by rw[lns];omega),<-List.map_take]
 generalize hE:upd H4 so _=H5
 obtain⟨S5,q5⟩:=cr hso hE
 clear hE
 have lts:(ns.take (I+m)).length=I+m:=by rw[List.length_take];omega
 have nds:(ns.take (I+m)).Nodup:=nd.sublist (List.take_sublist _ _)
 generalize eTS:ns.take (I+m)=ts at *
 have tne:ts≠[]:=λz=>by rw[z]at lts;simp at lts;omega
 walk_at "w"
 refine⟨by decide,λg hg=>?_⟩
 generalize hE:upd H5 g _=H6
 obtain⟨S6,q6⟩:=cr hg hE
 clear hE
 walk_at "w"
 have lts':(ts.map V.str).length=I+m:=by rw[List.length_map];exact lts
 refine gW (SqL.of (S6 _ _ q5)) λq hq=>?_
 rw[nA (by rw[lts'];omega),<-List.map_drop]
 generalize hE:upd H6 q _=H7
 obtain⟨S7,q7⟩:=cr hq hE
 clear hE
 have S47:=S5.trans (S6.trans S7)
 have SS7:ao H H7:=S1.trans (S2.trans (S24.trans S47))
 have gH:H g=none:=ao.free (S1.trans (S2.trans (S24.trans S5))) hg
 have qaH:H qa=none:=ao.free (S1.trans (S2.trans S3)) hqa
 have nqg:g≠qa:=λz=>by rw[z]at hg;rw[(S5 _ _ q4)]at hg;cases hg
 refine⟨q,rfl,⟨_,SqL.of q7⟩,?_⟩
 refine dh (K:=K) (xs:=(ts.drop I).map V.str) (λj σ H'=>∃x10 x11 gvs gs,σ=[some (.ref d),some (.int spot),some (.ref l),some (.int way),some (.int (m:Int)),some (.int (I:Int)),some (.int (dp:Int)),some (.ref qa),some (.ref so),some (.ref g),x10,x11]/\gs.map (·.1)=(ts.drop I).take j/\gs.length=j/\H' g=some (.lst gvs)/\Paired (GAt H') gvs gs/\(∀g∈gs,g.2.ok ts/\g.2.dep<=10)/\H' l=some (.lst (ns.map V.str))/\H' so=some (.lst (ts.map V.str))/\H' q=some (.lst ((ts.drop I).map V.str))/\H' d=some (.lst (ds.map V.int))/\(∃n:Int,H' qa=some (.lst [.int n]))/\ao H H')
  ⟨none,none,[],[],rfl,rfl,rfl,S7 _ _ q6,.nil,(λg h=>nomatch h),S47 _ _ hl4,(S6.trans S7) _ _ q5,q7,S47 _ _ hd4,⟨_,S47 _ _ q4⟩,SS7⟩ (λj σ H' _ pv=>?_) (λj x σ H' hx pv=>?_) (λσ H' pv=>?_)
 ·obtain⟨_,_,_,_,_,_,_,_,_,_,_,_,h,_⟩:=pv
  exact SqL.of h
 ·obtain⟨x10,x11,gvs,gs,rfl,hgs,hj,hg',gts,gok,hl',hso',hq',hd',hqa',SS⟩:=pv
  rw[List.getElem?_map]at hx
  cases hnm:(ts.drop I)[j]? with
  | none=>rw[hnm]at hx;cases hx
  | some nm =>
   rw[hnm]at hx
   cases hx
   have hjl:j<(ts.drop I).length:=(List.getElem?_eq_some_iff.mp hnm).1
   rw[List.length_drop,lts]at hjl
   have lgv:=aK gts
   have len1:ts.length<=1000:=by omega
   refine s_name ?_
   walk_at "w"
   refine⟨d,qa,so,ds,ts,dp,rfl,hd',dok,hqa',hso',tne,len1,dp1,by omega,λv r G1 ra rok rd kp=>?_⟩
   refine s_name ?_
   with_reducible refine dC (λσ G2=>∃v r,σ=[some (.ref d),some (.int spot),some (.ref l),some (.int way),some (.int (m:Int)),some (.int (I:Int)),some (.int (dp:Int)),some (.ref qa),some (.ref so),some (.ref g),some (.str nm),some v]/\RAt G2 v r/\r.ok ts/\r.dep<=6/\KpP qa H' G2) (λR hR=>?_) (λσ6 H6' j6=>?_)
   ·have out:=hR _ _ ⟨v,r,rfl,ra,rok,by omega,kp⟩
    walk_at "w"
    refine d6 (λ_=>?_) (λ_=>?_)
    ·walk_at "w"
     refine⟨_,_,rfl,.inl (SqL.of (kp.old _ _ hg' nqg)),?_⟩
     walk_at "w"
     refine i_ixL (SqL.of (kp.ints hqa' dok hd')) ez ?_
     walk_at "w"
     refine i_rI (by show (0:Int)<(m:Int);omega) ?_
     walk_at "w"
     refine d6 (λ_=>?_) (λ_=>out)
     walk_at "w"
     refine⟨d,qa,so,ds,ts,6,rfl,kp.ints hqa' dok hd',dok,kp.at',kp.strs hqa' hso',tne,len1,by omega,by omega,λv2 r2 G2 ra2 rok2 rd2 kp2=>?_⟩
     exact s_name (hR _ _ ⟨v2,r2,rfl,ra2,rok2,rd2,kp.trans kp2⟩)
    ·first|exact out|exact iteF out
   clear ra rok rd kp v r
   with_reducible refine dC (λσ G2=>∃v r,σ=[some (.ref d),some (.int spot),some (.ref l),some (.int way),some (.int (m:Int)),some (.int (I:Int)),some (.int (dp:Int)),some (.ref qa),some (.ref so),some (.ref g),some (.str nm),some v]/\RAt G2 v r/\r.ok ts/\r.dep<=10/\KpP qa H' G2) (λR hR=>?_) (λσ7 H7' j7=>?_)
   ·obtain⟨v,r,rfl,ra,rok,rd,kp⟩:=j6
    have out:=hR _ _ ⟨v,r,rfl,ra,rok,by omega,kp⟩
    have deeper:∀D:Ends,(∀σ H,R σ H->D.nx σ H)->qo (iC fY [] E0 (bQ (cI 0) (bQ (cI 7) (bQ (cI 8) (bQ (cI 11) hG))))) (eU 11) D [some (.ref d),some (.int spot),some (.ref l),some (.int way),some (.int (m:Int)),some (.int (I:Int)),some (.int (dp:Int)),some (.ref qa),some (.ref so),some (.ref g),some (.str nm),some v] H6':=λD hD=>by
     walk_at "w"
     refine⟨d,qa,so,ds,ts,v,r,rfl,kp.ints hqa' dok hd',dok,kp.at',kp.strs hqa' hso',tne,len1,ra,rok,rd,λv2 r2 G2 ra2 rok2 rd2 kp2=>?_⟩
     exact s_name (hD _ _ (hR _ _ ⟨v2,r2,rfl,ra2,rok2,rd2,kp.trans kp2⟩))
    walk_at "w"
    refine d6 (λ_=>iteT (deeper _ λ_ _ h=>h)) (λ_=>?_)
    walk_at "w"
    refine d6 (λ_=>?_) (λ_=>?_)
    ·walk_at "w"
     refine⟨_,_,rfl,.inl (SqL.of (kp.old _ _ hg' nqg)),?_⟩
     walk_at "w"
     refine i_ixL (SqL.of (kp.ints hqa' dok hd')) ez ?_
     walk_at "w"
     refine i_rI (by show (0:Int)<(m:Int);omega) ?_
     walk_at "w"
     refine d6 (λ_=>?_) (λ_=>out)
     exact deeper _ λ_ _ h=>h
    ·first|exact out|exact iteF out
   obtain⟨v,r,rfl,ra,rok,rd,kp⟩:=j7
   have hg7:=kp.old _ _ hg' nqg
   walk_at "w"
   refine⟨by simp[sizeLine],λt ht=>?_⟩
   generalize hE:upd H7' t _=H8
   obtain⟨S8,q8⟩:=cr ht hE
   clear hE
   have hg8:=S8 _ _ hg7
   walk_at "w"
   refine dS hg8 (by omega) ?_
   have kt:di H8 (upd H8 g (.lst (gvs++[.ref t]))):=λb xs eb=>by
    have nb:b≠g:=λz=>by rw[z,hg8]at eb;cases eb
    rw[aj nb];exact eb
   have kp8:KpP qa H' H8:=kp.trans (KpP.of kp.at' S8)
   have ngl:l≠g:=aq hl4 (ao.free S5 hg)
   have ngs:so≠g:=aq q5 hg
   have ngq:q≠g:=λz=>by rw[z,q6]at hq;cases hq
   have ngd:d≠g:=aq hd4 (ao.free S5 hg)
   refine⟨_,_,gvs++[.ref t],gs++[(nm,r)],rfl,?_,by simp[hj],ag,bE (a_ kt (a_ (kp8.tups hqa') gts)) ⟨t,v,rfl,kt _ _ q8,(ra.mono (ao.tups S8)).mono kt⟩,λx hx=>?_,by rw[aj ngl];exact kp8.strs hqa' hl',by rw[aj ngs];exact kp8.strs hqa' hso',by rw[aj ngq];exact kp8.strs hqa' hq',by rw[aj ngd];exact kp8.ints hqa' dok hd',?_,?_⟩
   ·rw[List.map_append,hgs,List.take_succ,hnm];rfl
   ·rcases List.mem_append.mp hx with h|h
    ·exact gok x h
    ·have:x=(nm,r):=by simpa using h
     rw[this];exact⟨rok,rd⟩
   ·obtain⟨n,hn⟩:=kp8.at'
    exact⟨n,by rw[aj (Ne.symm nqg)];exact hn⟩
   ·intro b o e
    have nb:b≠g:=λz=>by rw[z,gH]at e;cases e
    have nq:b≠qa:=λz=>by rw[z,qaH]at e;cases e
    rw[aj nb]
    exact kp8.old _ _ (SS _ _ e) nq
 ·obtain⟨x10,x11,gvs,gs,rfl,hgs,hj,hg',gts,gok,hl',hso',hq',hd',hqa',SS⟩:=pv
  walk_at "w"
  refine gW (SqL.of hl') λp8 hp8=>?_
  rw[oR (by rw[lns];omega),<-List.map_take]
  generalize hE:upd H' p8 _=H8
  obtain⟨S8,q8⟩:=cr hp8 hE
  clear hE
  walk_at "w"
  refine⟨by simp[sizeLine],λp9 hp9=>?_⟩
  generalize hE:upd H8 p9 _=H9
  obtain⟨S9,q9⟩:=cr hp9 hE
  clear hE
  have S89:=S8.trans S9
  rw[List.length_map,List.length_drop,lts]at hj
  have hw:au (ns.take I) gs=ts:=by
   unfold au
   rw[hgs,show (ts.drop I).take ((ts.drop I).map V.str).length=ts.drop I from by rw[List.length_map];exact List.take_length]
   have:ns.take I=ts.take I:=by rw[<-eTS,List.take_take,Nat.min_eq_left (by omega)]
   rw[this,List.take_append_drop]
  refine k p9 p8 g (ns.take I) gvs gs H9 (SS.trans S89) ⟨q9,S9 _ _ q8,S89 _ _ hg',a_ (ao.tups S89) gts⟩ ⟨by rw[hw];exact nds,by rw[List.length_take];omega,by omega,by omega,λx hx=>by rw[hw];exact gok x hx⟩
end
def nX:Sp:=λvs H Q _=>∃a li lg ins gvs gs,vs=[.ref a]/\NAt H a li lg ins gvs gs/\∀a' li' lg' H',ao H H'->H a'=none->H li'=none->H lg'=none->NAt H' a' li' lg' ins gvs gs->Q (.ref a') H'
def iH:Sp:=λvs H Q _=>∃(x:Int) (a li lg:Addr) (ins:List Str) (gvs:List V) (gs:List (Str × Rl)),vs=[.int x,.ref a]/\NAt H a li lg ins gvs gs/\NetOk ins gs/\∀z H',StOk (au ins gs).length z->ao H H'->Q (.str z) H'
theorem Bb (y:Int):∃c,atI ("01" : Str).cps.toList (Builtin.bitAnd y 1)=some c/\(c=48\/c=49):=by
 rw[PyProof.Rows.bitAnd_m1]
 have:y % 2=0\/y % 2=1:=by omega
 rcases this with e|e
 ·rw[e];exact⟨48,rfl,.inl rfl⟩
 ·rw[e];exact⟨49,rfl,.inr rfl⟩
theorem oI (h:∀z∈zs,∃c∈[48,49],z=⟨#[c]⟩):StOk zs.length (Txt.join Str.empty zs):=by
 obtain⟨e1,e2⟩:=qU h
 exact⟨e1,λc hc=>by simpa using e2 c hc⟩
section
theorem hV:FnScope ["x", "net"] ["x", "net"] (ay (top 33)):=by walk_at "k"
theorem qG {f:Addr} {fd:FuncData} (Fu:Fun K "_law_standing" "_law_standing" (top 33) f fd) (T:Txt K mg TT):FnOk P w K mg base CX0 1 f fd ["x", "net"] iH:=by
 have S:=hV
 refine Fu.ok S (by walk_at "l") (λcdv A outer s H vs Q E hr h=>?_)
 obtain⟨x,a,li,lg,ins,gvs,gs,rfl,NA,ok,k⟩:=h
 obtain⟨ha,hi,hg,gts⟩:=id NA
 have lg':=aK gts
 have i4:=ok.i4
 have g7:=ok.g7
 have big:1000<sizeLine:=by decide
 refine'⟨?_,(am ?h0),?_⟩
 case h0=>exact(aF (cM PySem.F.plainAttrs_str PySem.F.slot_str_join PySem.F.type_str_join pJ aE (aa (fc (tgs:=["k"]) (cap:=[("x", 0)]) rfl ⟨rfl,rfl,rfl,rfl,rfl,rfl⟩ (cg (by rfl) T.n_range (aa (av aV (aH aG (by rfl) T.n_len PySem.boot_len (aa (ax aJ (pv 1) ae (λ_ _=>rfl)) af)) (aH aG (by rfl) T.n_len PySem.boot_len (aa (ax aJ (pv 1) ae (λ_ _=>rfl)) af))) af)) (λ_ _ _ _=>(bt (i:=0) (show List.Nodup [("k" : Str),("x" : Str)] by decide +kernel) rfl (by walk_at "o"))) (λ_ _ _ _=>b_) (λ_ _ _ _=>(ax d5 aE (av wO (av wL (pv 1) (pv 0)) ae) (λ_ _=>rfl)))) af)))
 walk_at "e"
 walk_at "w"
 refine⟨rfl,?_⟩
 walk_at "w"
 refine cB ?_
 walk_at "w"
 have en:((ins.map V.str).length:Int)+(gvs.length:Int)=(((au ins gs).length:Nat):Int):=by
  unfold au
  rw[List.length_append,List.length_map,List.length_map,lg']
  rfl
 have wl:(au ins gs).length<1000:=by
  unfold au
  rw[List.length_append,List.length_map]
  omega
 rw[en]
 refine⟨by omega,by omega,λL hL=>?_⟩
 rw[Int.toNat_natCast]
 refine fQ (λn H2 ys=>ao H H2/\H2 L=some (.lst ys)/\∃zs:List Str,ys=zs.map V.str/\zs.length=n/\∀z∈zs,∃c∈[48,49],z=⟨#[c]⟩) ⟨ak hL,ag,[],rfl,rfl,λz h=>nomatch h⟩ (λn H2 ys p=>p.2.1) (λn H2 ys hn p=>?_) (λH2 ys p=>?_)
 ·obtain⟨S2,h2,zs,rfl,hz,hc⟩:=p
  refine s_name ⟨⟨rfl,trivial⟩,i_yes (iteT ?_)⟩
  show tOp _ _ _ [some (.int (0+n)),some (.int x)] _ _
  walk_at "w"
  refine i_rI (by show (0:Int)<=0+(n:Int);omega) ?_
  walk_at "w"
  obtain⟨c,ec,hcc⟩:=Bb (x / 2 ^ (0+(n:Int)).toNat)
  refine fE (by decide +kernel) ec ?_
  refine ck.mk h2 hn (by rw[List.length_map];omega) ⟨aR S2 hL,ag,zs++[⟨#[c]⟩],by simp,by simp[hz],λz hz'=>?_⟩
  rcases List.mem_append.mp hz' with h|h
  ·exact hc z h
  ·rw[List.mem_singleton]at h
   exact⟨c,by simpa using hcc,h⟩
 ·obtain⟨S2,h2,zs,rfl,hz,hc⟩:=p
  obtain⟨_,_,e3⟩:=eJ zs hc
  have e0:("" : Str)=Str.empty:=by decide +kernel
  have e00:("" : Str).length=0:=by decide +kernel
  refine i_nil ⟨"", L,zs,rfl,rfl,SqL.of h2,by rw[e3,e00];omega,?_⟩
  rw[e0]
  exact k _ H2 (by rw[<-hz];exact oI hc) S2
theorem mG:FnScope ["net"] ["net"] (ay (top 39)):=by walk_at "k"
theorem uN {f:Addr} {fd:FuncData} (Fu:Fun K "_law_copy" "_law_copy" (top 39) f fd) (T:Txt K mg TT):FnOk P w K mg base CX0 1 f fd ["net"] nX:=by
 have S:=mG
 refine Fu.ok S (by walk_at "l") (λcdv A outer s H vs Q E hr h=>?_)
 obtain⟨a,li,lg,ins,gvs,gs,rfl,NA,k⟩:=h
 obtain⟨ha,hi,hg,gts⟩:=id NA
 refine⟨_,(am (aF (aL (aa (cV cS (by rfl) T.n_list PyProof.Rows.boot_list (aa (ax aJ (pv 0) ae (λ_ _=>rfl)) af)) (aa (cV cS (by rfl) T.n_list PyProof.Rows.boot_list (aa (ax aJ (pv 0) ae (λ_ _=>rfl)) af)) af cu) cu)))),?_⟩
 walk_at "e"
 walk_at "w"
 intro l hl
 have S1:=ak (o:=.lst (ins.map V.str)) hl
 have ha1:=S1 _ _ ha
 have hg1:=S1 _ _ hg
 have hl1:upd H l (HO.lst (ins.map V.str)) l=some (.lst (ins.map V.str)):=ag
 generalize upd H l (HO.lst (ins.map V.str))=H1 at *
 walk_at "w"
 intro m hm
 have S2:=ak (o:=.lst gvs) hm
 have hl2:=S2 _ _ hl1
 have hm2:upd H1 m (HO.lst gvs) m=some (.lst gvs):=ag
 generalize upd H1 m (HO.lst gvs)=H2 at *
 walk_at "w"
 refine⟨by simp[sizeLine],λp hp=>?_⟩
 have S3:=ak (o:=.tup [.ref l,.ref m]) hp
 have S13:=S1.trans (S2.trans S3)
 exact k p l m _ S13 (ao.free (S1.trans S2) hp) hl (ao.free S1 hm) ⟨ag,S3 _ _ hl2,S3 _ _ hm2,a_ (ao.tups S13) gts⟩
theorem lD:FnScope ["rule", "signs", "one", "other"] ["rule", "signs"] (ay (top 34)):=by walk_at "k"
theorem kz {f:Addr} {fd:FuncData} (Fu:Fun K "_law_holds" "_law_holds" (top 34) f fd) (T:Txt K mg TT) (hm:mg "_law_holds" = some (.ref f)) (hk:PySem.W.keepIn K (.ref f)=true) (hb:gr K fd ["rule", "signs"] []):∀d,FnOk P w K mg base CX0 d f fd ["rule", "signs"] (dM d)
 | 0=>fP λvs H Q E ⟨v,a,kvs,r,ns,g,_,_,h,_⟩=>by have:=pU r;omega
 | d+1=>by
  have S:=lD
  have f_law_holds:Fn P w K mg base "_law_holds" ["rule", "signs"] d (dM d):=⟨f,fd,kz Fu T hm hk hb d,hm,hk,hb⟩
  refine Fu.ok S (λvs H Q E h=>?_) (λcdv A outer s H vs Q E hr h=>?_)
  ·obtain⟨v,a,kvs,r,ns,g,rfl,_⟩:=h
   rfl
  ·obtain⟨v,a,kvs,r,ns,g,rfl,ra,hd,rok,ha,hf,q⟩:=h
   have hu:=de hr
   refine'⟨?_,(ad (bg ?h0 (am ?h1) aM) (ad (bg ?h2 (am ?h3) aM) (ad ?h4 (ad ?h5 (ad (bg ?h6 (am ?h7) aM) (am ?h8)))))),?_⟩
   case h0=>exact(aC bR (ax aJ (pv 0) ae (λ_ _=>rfl)) aE (aI _))
   case h1=>exact(aF (dP bR (bA hu (pv 1) (ax aJ (pv 0) ae (λ_ _=>rfl)) (λ_ _=>rfl)) aE (aI _)))
   case h2=>exact(aC bR (ax aJ (pv 0) ae (λ_ _=>rfl)) aE (aI _))
   case h3=>exact(aF (sk (aU f_law_holds hr (aa (ax aJ (pv 0) ae (λ_ _=>rfl)) (aa (pv 1) af ai)))))
   case h4 =>
    refine' aA 2 S.nd ?e
    case e=>exact(aU f_law_holds hr (aa (ax aJ (pv 0) ae (λ_ _=>rfl)) (aa (pv 1) af ai)))
   case h5 =>
    refine' aA 3 S.nd ?e
    case e=>exact(aU f_law_holds hr (aa (ax aJ (pv 0) ae (λ_ _=>rfl)) (aa (pv 1) af ai)))
   case h6=>exact(aC bR (ax aJ (pv 0) ae (λ_ _=>rfl)) aE (aI _))
   case h7=>exact(aF (lN (pv 2) (gJ (pv 3))))
   case h8=>exact(aF (vL (pv 2) (gJ (pv 3))))
   walk_at "e"
   cases ra with
   | @w b n hb =>
    walk_at "w"
    refine ifT (by decide +kernel) ?_
    walk_at "w"
    have hv:bh kvs (Sum.inr n:Key)=some (sg (g n)):=hf n rok
    refine⟨a,sg (g n),rfl,by rw[<-hv];exact cq.k (k:=Sum.inr n) ha,?_⟩
    walk_at "w"
    refine i_eq (by cases g n <;> rfl) ?_
    rw[nZ]
    exact q
   | @no b u r hb hr1 =>
    walk_at "w"
    refine ifF (by decide +kernel) ?_
    walk_at "w"
    refine ifT (by decide +kernel) ?_
    walk_at "w"
    exact⟨u,a,kvs,r,ns,g,rfl,hr1,by simp only[Rl.dep]at hd;omega,rok,ha,hf,⟨_,rfl,q⟩⟩
   | @an b u x r1 r2 hb hr1 hr2 =>
    walk_at "w"
    refine ifF (by decide +kernel) ?_
    walk_at "w"
    refine ifF (by decide +kernel) ?_
    walk_at "w"
    simp only[Rl.dep]at hd
    refine⟨u,a,kvs,r1,ns,g,rfl,hr1,by omega,rok.1,ha,hf,?_⟩
    walk_at "w"
    refine⟨x,a,kvs,r2,ns,g,rfl,hr2,by omega,rok.2,ha,hf,?_⟩
    walk_at "w"
    refine ifT (by decide +kernel) ?_
    have e:Rl.val g (Rl.an r1 r2)=(r1.val g&&r2.val g):=rfl
    rw[e]at q
    walk_at "w"
    cases hv:r1.val g with
    | false=>rw[hv]at q;exact iteF q
    | true =>
     rw[hv]at q
     refine iteT ?_
     walk_at "w"
     exact q
   | @orr b u x r1 r2 hb hr1 hr2 =>
    walk_at "w"
    refine ifF (by decide +kernel) ?_
    walk_at "w"
    refine ifF (by decide +kernel) ?_
    walk_at "w"
    simp only[Rl.dep]at hd
    refine⟨u,a,kvs,r1,ns,g,rfl,hr1,by omega,rok.1,ha,hf,?_⟩
    walk_at "w"
    refine⟨x,a,kvs,r2,ns,g,rfl,hr2,by omega,rok.2,ha,hf,?_⟩
    walk_at "w"
    refine ifF (by decide +kernel) ?_
    have e:Rl.val g (Rl.orr r1 r2)=(r1.val g || r2.val g):=rfl
    rw[e]at q
    walk_at "w"
    cases hv:r1.val g with
    | true=>rw[hv]at q;exact iteT q
    | false =>
     rw[hv]at q
     refine iteF ?_
     walk_at "w"
     exact q
end
theorem oS (hσ:σ[i]?=some (some (.ref a))) (NA:NAt H a li lg ins gvs gs) (ok:NetOk ins gs)
  (q:∀D H',H D=none->ao H H'->H' D=some (.lst ((gs.map (·.1)).map V.str))->Q (.ref D) H') :
  kh (np K (tOp (mL K) (cI i) (tC (V.int 1)))) (xo K 2 (tF (eU 0) (tF (eU 1) A6))) gv (cI 0) (bS [Str.ofString "name", Str.ofString "rule"] []) σ H Q:=by
 have l:=aK NA.gates
 have g7:=ok.g7
 have big:1000<sizeLine:=by decide
 refine cB (s_list (i_op (i_var hσ (i_c (i_ixT NA.ha rfl ⟨lg,rfl,⟨_,SqL.of NA.hg⟩,λD hD=>?_⟩)))))
 refine eB (xs:=gvs) (λn H' ys=>ao H H'/\H' D=some (.lst ys)/\ys=((gs.map (·.1)).map V.str).take n) ⟨ak hD,ag,by simp⟩ (λn H' ys p=>⟨p.2.1,SqL.of (p.1 _ _ NA.hg)⟩) (λn x H' ys e p=>?_) (λH' ys p=>?_)
 ·obtain⟨S,hd,rfl⟩:=p
  obtain⟨g,hgi,b,rv,rfl,hb,hrv⟩:=cE NA.gates n x e
  have hn:n<gvs.length:=(List.getElem?_eq_some_iff.mp e).1
  refine⟨b,_,rfl,SqT.of (S _ _ hb),rfl,?_⟩
  refine⟨_,_,rfl,s_name ⟨_,_,rfl,s_name ⟨rfl,⟨trivial,i_yes (iteT ?_)⟩⟩⟩⟩
  refine i_var rfl (ck.mk hd hn (by rw[List.length_take];omega) ⟨aR S hD,ag,?_⟩)
  rw[List.take_succ,List.getElem?_map,List.getElem?_map,hgi]
  rfl
 ·obtain⟨S,hd,rfl⟩:=p
  exact q D H' hD S (by rw[hd,List.take_of_length_le (by simp[l])])
section
theorem lF:FnScope ["net", "standing", "names", "signs", "found", "k", "name", "rule", "at", "sign"] ["net", "standing"] (ay (top 35)):=by walk_at "k"
theorem oo {f:Addr} {fd:FuncData} (Fu:Fun K "_law_asked" "_law_asked" (top 35) f fd) (T:Txt K mg TT) (f_law_holds:Fn P w K mg base "_law_holds" ["rule", "signs"] 10 (dM 10)):FnOk P w K mg base CX0 11 f fd ["net", "standing"] c9:=by
 have S:=lF
 refine Fu.ok S (by walk_at "l") (λcdv A outer s H vs Q E hr h=>?_)
 obtain⟨a,li,lg,ins,gvs,gs,z,rfl,NA,ok,st,k⟩:=h
 have hu:=de hr
 refine'⟨?_,(ad ?h0 (ad ?h1 (ad ?h2 (ad (bP PassesOwn.never rfl ?h3 ?h4 (am (bg ?h5 (ad ?h6 (ad ?h7 (am ?h8))) aM))) (am ?h9))))),?_⟩
 case h0 =>
  refine' aA 2 S.nd ?e
  case e =>
   with_reducible refine' av gN ?l1 ?q1
   case l1 =>
    exact(ax aJ (pv 0) ae (λ_ _=>rfl))
   case q1 =>
    exact(fc (tgs:=["name", "rule"]) (cap:=[]) rfl ⟨rfl,rfl,rfl,rfl,rfl,rfl⟩ (bD (ax aJ (pv 0) ae (λ_ _=>rfl))) (λ_ _ _ _=>(lM (K:=K) (n:=2) rfl rfl (bp (bt (i:=0) (show List.Nodup [("name" : Str),("rule" : Str)] by decide +kernel) rfl (by walk_at "o")) (bp (bt (i:=1) (show List.Nodup [("name" : Str),("rule" : Str)] by decide +kernel) rfl (by walk_at "o")) dO)))) (λ_ _ _ _=>b_) (λ_ _ _ _=>(pv 0)))
 case h1 =>
  refine' aA 3 S.nd ?e
  case e=>exact(pF rfl (by rfl) T.n_dict (by rfl) T.n_zip (aa (pv 2) (aa (pv 1) af ai) ai))
 case h2 =>
  refine' aA 4 S.nd ?e
  case e=>exact(bd af)
 case h3=>exact(pD (by rfl) T.n_enumerate (aa (ax aJ (pv 0) ae (λ_ _=>rfl)) af))
 case h4=>exact(gI rfl (bp (bU 5 S.nd) (bp (gI rfl (bp (bU 6 S.nd) (bp (bU 7 S.nd) dO))) dO)))
 case h5=>exact(aC i9 (aU f_law_holds hr (aa (pv 7) (aa (pv 3) af ai) ai)) (dP bR (bA hu (pv 3) (pv 6) (λ_ _=>rfl)) aE (aI _)) (aI _))
 case h6 =>
  refine' aA 8 S.nd ?e
  case e=>exact(av aV (aH aG (by rfl) T.n_len PySem.boot_len (aa (ax aJ (pv 0) ae (λ_ _=>rfl)) af)) (pv 5))
 case h7 =>
  refine' aA 9 S.nd ?e
  case e=>exact(ax d5 aE (cV jW (by rfl) T.n_int PyProof.Rows.boot_int (aa (ax d5 (pv 1) (pv 8) (λ_ _=>rfl)) af)) (λ_ _=>rfl))
 case h8 =>
  refine' br ?e
  case e =>
   refine' cM PySem.F.plainAttrs_list PySem.F.slot_list_append PySem.F.type_list_append ba (pv 4) ?a
   case a =>
    with_reducible refine' aa ?e4 ?s4 bn
    case e4 =>
     with_reducible refine' aL ?a5
     case a5 =>
      with_reducible refine' aa ?e6 ?s6 ai
      case e6 =>
       exact(pv 6)
      case s6 =>
       with_reducible refine' aa ?e8 ?s8 n8
       case e8 =>
        exact(av ce (av ce (bq eZ (pv 1) bK (bJ (pv 8))) (pv 9)) (bq eZ (pv 1) (bJ (av aV (pv 8) ae)) bK))
       case s8 =>
        exact af
    case s4 =>
     exact af
 case h9=>exact(aF (pv 4))
 walk_at "e"
 have i4:=ok.i4
 have g7:=ok.g7
 have lgn:=aK NA.gates
 have wl:(au ins gs).length=ins.length+gs.length:=by unfold au;rw[List.length_append,List.length_map]
 have big:1000<sizeLine:=by decide
 obtain⟨ha,hi,hg,gts⟩:=id NA
 walk_at "w"
 refine oS rfl NA ok λD H1 hD S1 h1=>?_
 show wD _ _ _ _
 refine kG (S1 _ _ hi) h1 (ke ok) λl0 hl0=>?_
 rw[kb]
 generalize hE:upd H1 l0 _=H2
 obtain⟨S2,q2⟩:=cr hl0 hE
 clear hE
 walk_at "w"
 show bQ _ _ _ _ _
 walk_at "w"
 refine⟨l0,au ins gs,z,rfl,SqL.of q2,by rw[st.len];omega,by omega,λd hd0=>?_⟩
 generalize hE:upd H2 d _=H3
 obtain⟨S3,q3⟩:=cr hd0 hE
 clear hE
 have df:DFn (bH [] (cJ (au ins gs) z)) (au ins gs) (sgn (au ins gs) z):=pT ok.nd st
 generalize bH [] (cJ (au ins gs) z)=kvs at *
 walk_at "w"
 refine⟨by decide,λl hl=>?_⟩
 generalize hE:upd H3 l _=H4
 obtain⟨S4,q4⟩:=cr hl hE
 clear hE
 have S03:=S1.trans (S2.trans S3)
 have S04:=S03.trans S4
 have hlH:H l=none:=ao.free S03 hl
 have NA4:=NA.same S04
 have hd4:=S4 _ _ q3
 have dl:d≠l:=aq q3 hl
 obtain⟨ha4,hi4,hg4,gts4⟩:=id NA4
 walk_at "w"
 show bQ _ _ _ _ _
 walk_at "w"
 refine⟨lg,rfl,⟨_,SqL.of hg4⟩,?_⟩
 refine nr (xs:=gvs) (λi σ H'=>(∃x5 x6 x7 x8 x9 vs',σ=[some (.ref a),some (.str z),some (.ref l0),some (.ref d),some (.ref l),x5,x6,x7,x8,x9]/\H' l=some (.lst vs')/\vs'.length<=i/\Paired (jY H') vs' (((gs.zipIdx ins.length).take i).filterMap (bG (sgn (au ins gs) z) z)))/\ao H H'/\H' d=some (.dK kvs))
  ⟨⟨_,_,_,_,_,[],rfl,q4,by simp,by simp;exact .nil⟩,S04,hd4⟩ (λi σ H' _ pv=>SqL.of (pv.2.1 _ _ NA.hg)) (λi x σ H' t hx pv ht=>?_) (λσ H' pv=>?_)
 ·obtain⟨⟨x5,x6,x7,x8,x9,vs',rfl,hl',hlen,hp⟩,SS,hd'⟩:=pv
  have hig:i<gvs.length:=(List.getElem?_eq_some_iff.mp hx).1
  obtain⟨g,hgi,b,rv,rfl,hb,hrv⟩:=cE NA.gates i x hx
  have S5:=ak (o:=.tup [.int (i:Nat),.ref b]) ht
  have hb5:=(SS.trans S5) _ _ hb
  refine⟨t,_,rfl,SqT.of ag,rfl,?_⟩
  refine⟨_,_,rfl,s_name ⟨_,_,rfl,⟨b,_,rfl,SqT.of hb5,rfl,⟨_,_,rfl,s_name ⟨_,_,rfl,s_name ⟨rfl,⟨rfl,?_⟩⟩⟩⟩⟩⟩⟩
  have hl5:=S5 _ _ hl'
  have hd5:=S5 _ _ hd'
  have SS5:=SS.trans S5
  have hp5:=bY (ao.tups S5) hp
  generalize upd H' t (.tup [.int (i:Nat),.ref b])=H5 at *
  have hr5:=hrv.mono (ao.tups SS5)
  have gm:g∈gs:=List.mem_of_getElem? hgi
  obtain⟨rok,rdep⟩:=ok.rules g gm
  have hpl:ins.length+i<(au ins gs).length:=by omega
  have hzi:(gs.zipIdx ins.length)[i]?=some (g,ins.length+i):=by rw[List.getElem?_zipIdx,hgi];rfl
  have gw:g.1∈au ins gs:=by
   unfold au
   exact List.mem_append_right _ (List.mem_map_of_mem gm)
  have hv1:bh kvs (Sum.inr g.1:Key)=some (sg (sgn (au ins gs) z g.1)):=df g.1 gw
  have sgi:sgn (au ins gs) z g.1=(z.cps.getD (ins.length+i) 0==49):=by
   have hw:(au ins gs)[ins.length+i]?=some g.1:=by
    unfold au
    rw[List.getElem?_append_right (by omega),List.getElem?_map,show ins.length+i-ins.length=i from by omega,hgi]
    rfl
   have e2:(au ins gs)[ins.length+i]=g.1:=(List.getElem?_eq_some_iff.mp hw).2
   have hi':(au ins gs).idxOf g.1=ins.length+i:=by
    rw[<-e2]
    exact List.Nodup.idxOf_getElem ok.nd _ hpl
   unfold sgn
   rw[hi']
  rw[sgi]at hv1
  walk_at "w"
  refine⟨rv,d,kvs,g.2,_,_,rfl,hr5,rdep,rok,hd5,df,?_⟩
  generalize hv:g.2.val (sgn (au ins gs) z)=bv
  walk_at "w"
  refine⟨d,_,rfl,by rw[<-hv1];exact cq.k (k:=Sum.inr g.1) hd5,?_⟩
  have zl:z.length=(au ins gs).length:=st.len
  have e:=ig st hpl
  unfold eT at e
  have so:bG (sgn (au ins gs) z) z (g,ins.length+i)=if (bv==(z.cps.getD (ins.length+i) 0==49))=true then none else some (g.1,eS z (ins.length+i)):=by
   unfold bG
   rw[hv]
  have fT:dq z (ins.length+i)=if (z.cps.getD (ins.length+i) 0==49)=true then ("0" : Str) else ("1" : Str):=rfl
  have tk:((gs.zipIdx ins.length).take (i+1)).filterMap (bG (sgn (au ins gs) z) z)=((gs.zipIdx ins.length).take i).filterMap (bG (sgn (au ins gs) z) z)++(bG (sgn (au ins gs) z) z (g,ins.length+i)).toList:=by
   rw[List.take_succ,hzi,List.filterMap_append]
   cases h:bG (sgn (au ins gs) z) z (g,ins.length+i) <;> simp[h]
  walk_at "w"
  refine i_eq (by cases (z.cps.getD (ins.length+i) 0==49) <;> rfl) ?_
  rw[nZ]
  generalize hbz:(z.cps.getD (ins.length+i) 0==49)=bz at *
  walk_at "w"
  cases hc:(bv==bz) with
  | true =>
   have:bv=bz:=by simpa using hc
   refine ifF (by rw[this];simp) ?_
   rw[hc]at so
   refine⟨⟨_,_,_,_,_,vs',rfl,hl5,by omega,?_⟩,SS5,hd5⟩
   rw[tk,so]
   simpa using hp5
  | false =>
   have hne:bv≠bz:=by simpa using hc
   refine ifT (by simp[hne]) ?_
   rw[hc]at so
   have NA5:=NA.same SS5
   obtain⟨ha5,hi5,hg5,gts5⟩:=id NA5
   walk_at "w"
   have ep:((ins.map V.str).length:Int)+((i:Nat):Int)=((ins.length+i:Nat):Int):=by rw[List.length_map];omega
   rw[ep]
   walk_at "w"
   refine fE (by omega) (lX st hpl) ?_
   rw[e]
   have sgt:sg bz=.str (if bz=true then ("1" : Str) else ("0" : Str)):=by cases bz <;> rfl
   rw[sgt]
   walk_at "w"
   refine⟨_,if bz=true then 1 else 0,rfl,by cases bz <;> decide +kernel,by cases bz <;> decide +kernel,?_⟩
   have l1:(dq z (ins.length+i)).length=1:=by rw[fT];cases bz <;> decide +kernel
   refine fE (c:=if bz=true then 48 else 49) (by decide +kernel) (by cases bz <;> rfl) ?_
   have cz:(⟨#[if bz=true then 48 else 49]⟩:Str)=dq z (ins.length+i):=by rw[fT];cases bz <;> decide +kernel
   rw[cz]
   have s1:=Txt.slice_le z none (some ((ins.length+i:Nat):Int))
   have s2:=Txt.slice_le z (some (((ins.length+i:Nat):Int)+1)) none
   walk_at "w"
   refine gU (by omega) ?_
   walk_at "w"
   refine⟨_,_,rfl,rfl,by omega,?_⟩
   walk_at "w"
   refine gU (by omega) ?_
   refine⟨_,_,rfl,rfl,by rw[lap];omega,?_⟩
   show hG _ _ _
   walk_at "w"
   refine⟨by simp[sizeLine],λq hq=>?_⟩
   generalize hE:upd H5 q _=H6
   have S6:ao H5 H6:=by rw[<-hE];exact ak hq
   have q6:H6 q=some (.tup [.str g.1,.str (eS z (ins.length+i))]):=by rw[<-hE];exact ag
   clear hE
   have hl6:=S6 _ _ hl5
   have hd6:=S6 _ _ hd5
   walk_at "w"
   refine dS hl6 (by omega) ?_
   have kt:di H6 (upd H6 l (.lst (vs'++[.ref q]))):=λb xs e=>by
    have:b≠l:=λx=>by rw[x,hl6]at e;cases e
    rw[aj this];exact e
   refine⟨⟨_,_,_,_,_,vs'++[.ref q],rfl,ag,by simp;omega,?_⟩,aR (SS5.trans S6) hlH,by rw[aj dl];exact hd6⟩
   rw[tk,so]
   exact bE (bY kt (bY (ao.tups S6) hp5)) ⟨q,rfl,kt _ _ q6⟩
 ·obtain⟨⟨x5,x6,x7,x8,x9,vs',rfl,hl',hlen,hp⟩,SS,hd'⟩:=pv
  refine s_ret (te:=cI 4) (D:={ nx:=λx H'=>Q V.non H',rt:=Q }) (i_var rfl ?_)
  refine k l vs' H' SS hlH hl' ?_
  have e:(gs.zipIdx ins.length).length=gvs.length:=by rw[List.length_zipIdx,lgn]
  rw[<-e,List.take_length]at hp
  exact hp
end
inductive PathE (es:List (Str × (Str × Str))) (s:Str):Str->List Str->Prop
 | nil:PathE es s s []
 | snoc {x h nm:Str} {ns:List Str}:x≠s->cR es x=some (nm,h)->PathE es s h ns->PathE es s x (ns++[nm])
theorem pR {ls:List Addr} (h:ls.length=xs.length):bh (fdK (az xs) ls) (Sum.inr x)=none↔x∉xs:=by
 rw[dw,gh,List.take_of_length_le (by unfold az;rw[List.length_map];omega)]
 unfold az
 refine not_congr ⟨λq=>?_,λq=>List.mem_map.mpr ⟨x,q,rfl⟩⟩
 obtain⟨y,hy,e⟩:=List.mem_map.mp q
 cases e;exact hy
theorem xq (nd:xs.Nodup) (e1:xs[i]?=some x) (e2:ls[i]?=some b):bh (fdK (az xs) ls) (Sum.inr x)=some (.ref b):=by
 refine dL (eK nd) (i:=i) ?_
 have hz:((az xs).zip ls)[i]?=some (Sum.inr x,b):=List.getElem?_zip_eq_some.mpr ⟨cX.mpr ⟨x,e1,rfl⟩,e2⟩
 unfold fdK
 rw[List.getElem?_map,hz]
 rfl
section
end
theorem sY (ok:NetOk ins gs) (st:StOk (au ins gs).length z) (ln:(Bf.bfs (nxK (stN ins gs)) (Sum.inr z) n).length=n):∃xs,Bf.bfs (nxK (stN ins gs)) (Sum.inr z) n=az xs/\xs.length=n/\Met ins gs z xs/\xs.length<=2048:=by
 have w11:(au ins gs).length<=11:=by rw[bX];have:=ok.i4;have:=ok.g7;omega
 obtain⟨xs,exs⟩:=ng (ks:=Bf.bfs (nxK (stN ins gs)) (Sum.inr z) n) λk hk=>by
  obtain⟨y,e,_⟩:=e_ st (Bf.cH n k hk)
  exact⟨y,e⟩
 have lxs:xs.length=n:=by rw[<-ln,exs];unfold az;rw[List.length_map]
 have met:Met ins gs z xs:=⟨by rw[lxs];exact exs.symm,λx hx=>by
  obtain⟨y,e,sy⟩:=e_ st (Bf.cH n (Sum.inr x) (by rw[exs];exact List.mem_map.mpr ⟨x,hx,rfl⟩))
  cases e
  exact sy⟩
 refine⟨xs,exs,lxs,met,?_⟩
 have:=gd w11 (xs:=az xs) (by rw[<-exs];exact Bf.bV n) λx hx=>by
  obtain⟨y,hy,rfl⟩:=List.mem_map.mp hx
  exact⟨y,rfl,met.st y hy⟩
 unfold az at this
 rwa [List.length_map]at this
theorem uA {X:Cx} {K:PySem.W.Frag} (h:X.K=K) (hu:X.A.units+64<cLine):OpR X (compareOp .Eq) (rR K false):=by subst h;exact i_ hu
theorem Met.few (m:Met ins gs z xs) (ok:NetOk ins gs):xs.length<=2048:=by
 have w11:(au ins gs).length<=11:=by rw[bX];have:=ok.i4;have:=ok.g7;omega
 have:=gd w11 (xs:=az xs) (by unfold az;exact List.Pairwise.map _ (λa b h zz=>h (Sum.inr.inj zz)) m.nd) λx hx=>by
  obtain⟨y,hy,rfl⟩:=List.mem_map.mp hx
  exact⟨y,rfl,m.st y hy⟩
 unfold az at this
 rwa [List.length_map]at this
theorem tG (h:Rd H F (.dK (fdK (az xs) as))) (l:as.length=xs.length):Bg K H F xs:=.inr ⟨_,h,by rw[gh,List.take_of_length_le (by unfold az;rw[List.length_map];omega)];rfl⟩
theorem dU (h:Rd H F (.dK (fdK (az xs) as))) (nd:xs.Nodup) (e1:xs[i]?=some x) (e2:as[i]?=some b):cq H F (.str x) (some (.ref b)) :=
 .inl ⟨_,Sum.inr x,h,rfl,(xq nd e1 e2).symm⟩
def fo:Sp:=λvs H Q _=>∃(F:Addr) (xs:List Str) (as:List Addr) (cnt:Str->Nat),vs=[.ref F]/\Rd H F (.dK (fdK (az xs) as))/\as.length=xs.length/\xs.length<=2048/\xs.Nodup /\
 (∀(i:Nat) x b,xs[i]?=some x->as[i]?=some b->∃vs,H b=some (.lst vs)/\vs.length=cnt x)/\∀(p:Addr) (ss:List Str) (H':Hp),ao H H'->H p=none->ss.Perm xs->ss.Pairwise leT->H' p=some (.lst ((ss.filter λh=>decide (cnt h=0)).map V.str))->Q (.ref p) H'
section
theorem mB:FnScope ["steps"] ["steps"] (ay (top 19)):=by walk_at "k"
theorem om {f:Addr} {fd:FuncData} (Fu:Fun K "rests_in" "rests_in" (top 19) f fd) (T:Txt K mg TT):FnOk P w K mg base CX0 1 f fd ["steps"] fo:=by
 have S:=mB
 refine Fu.ok S (by walk_at "l") (λcdv A outer s H vs Q E hr h=>?_)
 obtain⟨F,xs,as,cnt,rfl,hF,las,few,nd,sts,k⟩:=h
 have hu:=de hr
 refine⟨_,(am (aF (fc (tgs:=["here"]) (cap:=[("steps", 0)]) rfl ⟨rfl,rfl,rfl,rfl,rfl,rfl⟩ (bD (aH (jy rfl) (by rfl) T.n_sorted PyProof.Rows.boot_sorted (aa (pv 0) af ai))) (λ_ _ _ _=>(bt (i:=0) (show List.Nodup [("here" : Str),("steps" : Str)] by decide +kernel) rfl (by walk_at "o"))) (λ_ _ _ _=>(f8 (aC bR (aH (d7 (K:=K) rfl) (by rfl) T.n_len PySem.boot_len (aa (bA hu (pv 1) (pv 0) (λ_ _=>rfl)) af)) ae (aI _)))) (λ_ _ _ _=>(pv 0))))),?_⟩
 walk_at "e"
 refine s_ret (cB (s_list (i_cb (i_cons (i_var rfl (i_nil ⟨F,xs,rfl,tG hF las,by omega,λp ss hp pm so=>?_⟩))))))
 generalize hE:upd H p _=H1
 obtain⟨S1,q1⟩:=aN hp hE
 clear hE
 have lss:=pm.length_eq
 refine⟨p,rfl,⟨_,SqL.of q1⟩,λL hL=>?_⟩
 refine eM (xs:=ss.map V.str) (λm H' ys=>ao H1 H'/\H' L=some (.lst ys)/\ys=((ss.take m).filter λh=>decide (cnt h=0)).map V.str) ⟨ak hL,ag,by simp⟩ (λm H' ys p=>⟨p.2.1,SqL.of (p.1 _ _ q1)⟩) (λm v H' ys e p=>?_) (λH' ys p=>?_)
 ·obtain⟨Sm,hd,rfl⟩:=p
  rw[List.getElem?_map]at e
  cases ex:ss[m]? with
  | none=>rw[ex]at e;cases e
  | some x =>
   rw[ex]at e
   cases e
   have hm:m<ss.length:=(List.getElem?_eq_some_iff.mp ex).1
   obtain⟨i,hi,exi⟩:=List.mem_iff_getElem.mp (pm.mem_iff.mp (List.mem_of_getElem? ex))
   have e1:xs[i]?=some x:=by rw[List.getElem?_eq_getElem hi,exi]
   obtain⟨b,e2⟩:∃b,as[i]?=some b:=⟨_,List.getElem?_eq_getElem (by omega)⟩
   obtain⟨vs,hvs,lvs⟩:=sts i x b e1 e2
   have S0m:=S1.trans Sm
   have hF':Rd H' F (.dK (fdK (az xs) as)):=by
    rcases hF with r|⟨o,r⟩
    ·exact .inl (S0m _ _ r)
    ·exact .inr ⟨o,S0m _ _ r⟩
   refine s_name ⟨by repeat' (first|exact trivial|refine⟨rfl,?_⟩),?_⟩
   refine i_test (i_op (i_cb (i_cons (i_dget (i_var rfl (i_var rfl ⟨F,_,rfl,dU hF' nd e1 e2,i_nil ⟨b,vs,rfl,.inl (SqL.of (S0m _ _ hvs)),i_c (i_eq rfl ⟨_,rfl,?_⟩)⟩⟩))))))
   have tk:(ss.take (m+1)).filter (λh=>decide (cnt h=0))=(ss.take m).filter (λh=>decide (cnt h=0))++[x].filter (λh=>decide (cnt h=0)):=by rw[List.take_succ,ex,List.filter_append];rfl
   by_cases c:cnt x=0
   ·refine ifT (by rw[lvs,c];rfl) ?_
    refine i_var rfl (ck.mk hd (by rw[List.length_map];exact hm) ?_ ⟨aR Sm hL,ag,?_⟩)
    ·rw[List.length_map]
     have:=List.length_filter_le (λh=>decide (cnt h=0)) (ss.take m)
     rw[List.length_take]at this
     omega
    ·rw[tk,List.map_append]
     simp[c]
   ·refine ifF (by rw[lvs];exact decide_eq_false λz=>c (by injection z with z;omega)) ?_
    rw[List.length_map]
    refine⟨ss.length-(m+1),by omega,rfl,by omega,Sm,hd,?_⟩
    rw[tk]
    simp[c]
 ·obtain⟨Sm,hd,rfl⟩:=p
  rw[List.length_map,List.take_of_length_le (Nat.le_refl _)]at hd
  exact k L ss H' (S1.trans Sm) (ao.free S1 hL) pm so hd
end
def pi (K:PySem.W.Frag) (TL:Addr):Sp:=λvs H Q _=>∃(a:Addr) (ns:List Int),vs=[.ref a]/\SqL K H a (ns.map V.int)/\ns.length<=63/\gq TL ff H/\∀H',Q (.bl true) H'
theorem uY:EqD K H n (.str z) (.str z) true:=nw rfl
theorem eY (ns:List Str):∀(j:Nat) x y,(ns.map V.str)[j]?=some x->(ns.map V.str)[j]?=some y->EqD K H n x y true:=q_ (kI ns)
theorem mV (h:NAt H a li lg ins gvs gs) (h':NAt H a' li' lg' ins gvs gs) :
  ∀(j:Nat) x y,[V.ref li',V.ref lg'][j]?=some x->[V.ref li,V.ref lg][j]?=some y->EqD K H 8 x y true:=λj x y e1 e2=>by
 match j with
 | 0=>cases e1;cases e2;exact gi (n:=7) (SqL.of h'.hi) (SqL.of h.hi) rfl (eY ins)
 | 1 =>
  cases e1;cases e2
  refine gi (n:=7) (SqL.of h'.hg) (SqL.of h.hg) rfl (λj x y e1 e2=>?_)
  rw[e1]at e2
  cases e2
  obtain⟨b,rfl⟩:=jo h.gates x (List.mem_of_getElem? e1)
  exact .same
 | j+2=>simp at e1
theorem Tk.free (k:Tk T H H') (h:H' p=none):H p=none:=by
 cases e:H p with
 | none=>rfl
 | some u =>
  by_cases c:p=T
  ·obtain⟨ps,e2⟩:=wr k.tab
   rw[c,e2]at h;cases h
  ·rw[k.old _ _ e c]at h;cases h
theorem Tk.upd {xs:List V} (k:Tk T H H') (hp:H p=none) (h':H' p=some (.lst xs)):Tk T H (L2.upd H' p o):=by
 refine⟨λb u e n=>by rw[aj (aq e hp)];exact k.old b u e n,?_⟩
 rcases k.tab with e|⟨c,e,q⟩
 ·exact .inl (by rw[aj (λz=>by rw[z,h']at e;cases e)];exact e)
 ·exact .inr ⟨c,by rw[aj (λz=>by rw[z,h']at e;cases e)];exact e,by rw[aj (λz=>by rw[z,h']at q;cases q)];exact q⟩
section
end
inductive Run (ins:List Str) (gs:List (Str × Rl)):Str->List Str->Str->Prop where
 | nil {z:Str}:Run ins gs z [] z
 | cons {z y w:Str} {n:Str} {os:List Str}:(n,y)∈ap ins gs z->StOk (au ins gs).length y->Run ins gs y os w->Run ins gs z (n::os) w
theorem kj {f:Str->Bool} {z:Str}:∀(gs:List (Str × Rl)) (n:Nat),List.Sublist (((gs.zipIdx n).filterMap (bG f z)).map (·.1)) (gs.map (·.1))
 | [],_=>by simp
 | g::gs,n=>by
  rw[List.zipIdx_cons,List.filterMap_cons,List.map_cons]
  have ih:=kj (f:=f) (z:=z) gs (n+1)
  cases e:bG f z (g,n) with
  | none=>exact ih.cons _
  | some p =>
   have:p.1=g.1:=by
    unfold bG at e
    split at e
    ·cases e
    ·cases e;rfl
   rw[List.map_cons,this]
   exact ih.cons₂ _
theorem rK (ok:NetOk ins gs) (z:Str):((ap ins gs z).map (·.1)).Nodup:=by
 have nd:=ok.nd
 unfold au at nd
 exact((List.nodup_append.mp nd).2.1).sublist (kj gs ins.length)
section
end
theorem mo {n:Str} (st:StOk (au ins gs).length z) (h:(n,y)∈ap ins gs z):StOk (au ins gs).length y:=by
 unfold ap at h
 obtain⟨⟨g,p⟩,hm,e⟩:=List.mem_filterMap.mp h
 have hp:=List.mem_zipIdx hm
 have wl:(au ins gs).length=ins.length+gs.length:=by unfold au;rw[List.length_append,List.length_map]
 unfold bG at e
 split at e
 ·cases e
 ·cases e
  exact o0 st (by omega)
structure Wlk (ins:List Str) (gs:List (Str × Rl)) (z:Str) (os as:List Str):Prop where
 len:as.length=os.length+1
 hd:as[0]?=some z
 st:∀x∈as,StOk (au ins gs).length x
 step:∀(k:Nat) x n y,as[k]?=some x->os[k]?=some n->as[k+1]?=some y->(n,y)∈ap ins gs x
section
end
theorem p6 {st:Str->List (Str × Str)}:∀{xs:List Str} {x nm h:Str},cR (evs st xs) x=some (nm,h)->∃b:Nat,xs[b]?=some h/\(nm,x)∈st h/\∀(c:Nat) g,c<b->xs[c]?=some g->∀p∈st g,p.2≠x
 | [],x,nm,h,e=>by cases e
 | x0::xs,x,nm,h,e=>by
  have split:evs st (x0::xs)=((st x0).map λp=>(p.2,(p.1,x0)))++evs st xs:=rfl
  unfold cR at e
  rw[split,List.find?_append]at e
  cases q:((st x0).map λp=>(p.2,(p.1,x0))).find? λe=>e.1==x with
  | some r =>
   rw[q]at e
   have hm:=List.mem_of_find?_eq_some q
   have hx:=List.find?_some q
   obtain⟨p',hp,rfl⟩:=List.mem_map.mp hm
   cases e
   have hx:p'.2=x:=by simpa using hx
   exact⟨0,rfl,by rw[<-hx];exact hp,λc g l=>by omega⟩
  | none =>
   rw[q,Option.none_or]at e
   obtain⟨b,h1,h2,h3⟩:=p6 (xs:=xs) (x:=x) (nm:=nm) (h:=h) e
   refine⟨b+1,by simpa using h1,h2,λc g l e2 p hp z=>?_⟩
   cases c with
   | zero =>
    simp at e2
    subst e2
    have:=List.find?_eq_none.mp q (p.2,(p.1,x0)) (List.mem_map.mpr ⟨p,hp,rfl⟩)
    simp[z]at this
   | succ c=>exact h3 c g (by omega) (by simpa using e2) p hp z
section
theorem Run.snoc {x y w n:Str} {os:List Str} (r:Run ins gs x os y) (s:(n,w)∈ap ins gs y) (st:StOk (au ins gs).length w):Run ins gs x (os++[n]) w:=by
 induction r with
 | nil=>exact .cons s st .nil
 | cons a b _ ih=>exact .cons a b (ih s)
theorem Met.run (m:Met ins gs z xs) {y:Str} {ns:List Str} (p:Path (ap ins gs) xs z y ns):y∈xs/\Run ins gs z ns y:=by
 induction p with
 | nil=>exact⟨List.mem_of_getElem? m.zero,.nil⟩
 | snoc ne c p ih =>
  obtain⟨b,hb,hs,_⟩:=p6 c
  have hm:=m.closed (List.mem_of_getElem? hb) hs
  exact⟨hm,ih.2.snoc hs (m.st _ hm)⟩
end
def dI (ins:List Str) (gs:List (Str × Rl)) (z:Str) (n:Nat):Prop:=(∀os y,Run ins gs z os y->os.length<=n)/\∃os y,Run ins gs z os y/\os.length=n
def nxS (ins:List Str) (gs:List (Str × Rl)) (h:Str):List Str:=(ap ins gs h).map (·.2)
def ahL (es:List (Str × (Str × Str))) (x:Str):List Str:=(es.filter λe=>e.1==x).map (·.2.2)
theorem fR (a b:List (Str × (Str × Str))) (x:Str):ahL (a++b) x=ahL a x++ahL b x:=by unfold ahL;rw[List.filter_append,List.map_append]
theorem qg (y x:Str):∀ps:List (Str × Str),ahL (ps.map λp=>(p.2,(p.1,y))) x=List.replicate ((ps.map (·.2)).count x) y
 | []=>rfl
 | p::ps=>by
  rw[List.map_cons,List.map_cons,List.count_cons,show ((p.2,p.1,y)::ps.map λp=>(p.2,p.1,y))=[(p.2,p.1,y)]++ps.map λp=>(p.2,p.1,y) from rfl,fR,qg y x ps]
  by_cases c:p.2=x
  ·rw[if_pos (by simpa using c),List.replicate_succ]
   unfold ahL
   simp[c]
  ·rw[if_neg (by simpa using c)]
   unfold ahL
   simp[c]
theorem qh {b:Str} (h:b∈ahL (evs st xs) x):b∈xs/\x∈(st b).map (·.2):=by
 unfold ahL evs at h
 obtain⟨e,he,rfl⟩:=List.mem_map.mp h
 obtain⟨h1,h2⟩:=List.mem_filter.mp he
 obtain⟨y,hy,h3⟩:=List.mem_flatMap.mp h1
 obtain⟨p,hp,rfl⟩:=List.mem_map.mp h3
 exact⟨hy,List.mem_map.mpr ⟨p,hp,by simpa using h2⟩⟩
theorem gR {st:Str->List (Str × Str)} {x h:Str}:∀{xs:List Str},xs.Nodup->h∈xs->(ahL (evs st xs) x).count h=((st h).map (·.2)).count x
 | [],_,m=>nomatch m
 | y::xs,nd,m=>by
  rw[List.nodup_cons]at nd
  have e:evs st (y::xs)=((st y).map λp=>(p.2,(p.1,y)))++evs st xs:=by unfold evs;rw[List.flatMap_cons]
  rw[e,fR,qg,List.count_append,List.count_replicate]
  by_cases c:y=h
  ·subst c
   rw[if_pos (by simp),List.count_eq_zero_of_not_mem (λq=>nd.1 (qh q).1),Nat.add_zero]
  ·rw[if_neg (by simpa using c),Nat.zero_add]
   exact gR nd.2 ((List.mem_cons.mp m).resolve_left λz=>c z.symm)
def cP (ws l:List Str):Nat:=l.countP λx=>decide (x∈ws)
theorem lS {ws:List Str} {w:Str} (h:w∉ws):∀l,cP (ws++[w]) l=cP ws l+l.count w
 | []=>rfl
 | x::l=>by
  have ih:=lS h l
  unfold cP at ih ⊢
  rw[List.countP_cons,List.countP_cons,List.count_cons,ih]
  by_cases c:x=w
  ·subst c
   simp[h];omega
  ·simp[c];omega
theorem A_ (ws l:List Str):cP ws l<=l.length:=List.countP_le_length
theorem xt {ws l:List Str} (h:cP ws l=l.length):∀x∈l,x∈ws:=λx hx=>by simpa using List.countP_eq_length.mp h x hx
section
theorem dI.rest {h:Str} (e:ap ins gs h=[]):dI ins gs h 0:=by
 refine⟨λos y r=>?_,[],h,.nil,rfl⟩
 cases r with
 | nil=>exact Nat.le_refl _
 | cons m _ _=>rw[e]at m;cases m
variable {n a:Nat}
theorem dI.up {h:Str} (st:StOk (au ins gs).length h) (all:∀p∈ap ins gs h,∃m,m<=n/\dI ins gs p.2 m) (one:∃p∈ap ins gs h,dI ins gs p.2 n):dI ins gs h (n+1):=by
 refine⟨λos y r=>?_,?_⟩
 ·cases r with
  | nil=>exact Nat.zero_le _
  | @cons _ y _ nm os m _ r =>
   obtain⟨k,hk,l⟩:=all _ m
   have:=l.1 _ _ r
   rw[List.length_cons];omega
 ·obtain⟨p,hp,_,os,y,r,e⟩:=one
  exact⟨p.1::os,y,.cons hp (mo st hp) r,by rw[List.length_cons,e]⟩
structure NumOk (ins:List Str) (gs:List (Str × Rl)) (xs:List Str) (ps:List (Str × Nat)):Prop where
 nd:(ps.map (·.1)).Nodup
 sub:∀p∈ps,p.1∈xs
 long:∀p∈ps,dI ins gs p.1 p.2
 out:∀h∈xs,h∉ps.map (·.1)->∃p∈ap ins gs h,p.2∉ps.map (·.1)
structure Cnt (ins:List Str) (gs:List (Str × Rl)) (xs:List Str) (ps:List (Str × Nat)) (a:Nat) (tk:List Str) (lf:Str->Int):Prop where
 nd:(ps.map (·.1)).Nodup
 sub:∀p∈ps,p.1∈xs
 mono:∀(i j:Nat) p q,i<=j->ps[i]?=some p->ps[j]?=some q->p.2<=q.2
 near:∀(i:Nat) p q,a<=i->ps[i]?=some p->q∈ps->q.2<=p.2+1
 long:∀p∈ps,dI ins gs p.1 p.2
 val:∀h∈xs,lf h=((nxS ins gs h).length:Int)-cP ((ps.take a).map (·.1)) (nxS ins gs h)-tk.count h
 zero:∀h∈xs,lf h=0↔h∈ps.map (·.1)
variable {rs tk tl:List Str}
theorem Cnt.start (nd:rs.Nodup) (h:∀x,x∈rs↔x∈xs/\ap ins gs x=[]):Cnt ins gs xs (rs.map λx=>(x,0)) 0 [] λx=>((ap ins gs x).length:Int):=by
 have e:(rs.map λx=>(x,0)).map (·.1)=rs:=by rw[List.map_map];exact List.map_id _
 have z0:∀p∈rs.map λx=>((x,0):Str × Nat),p.2=0/\p.1∈rs:=λp hp=>by
  obtain⟨x,hx,rfl⟩:=List.mem_map.mp hp
  exact⟨rfl,hx⟩
 refine⟨by rw[e];exact nd,λp hp=>((h _).mp (z0 p hp).2).1,λi j p q _ hp hq=>?_,λi p q _ hp hq=>?_,λp hp=>?_,λx hx=>?_,λx hx=>?_⟩
 ·rw[(z0 p (List.mem_of_getElem? hp)).1];exact Nat.zero_le _
 ·rw[(z0 q hq).1];exact Nat.zero_le _
 ·rw[(z0 p hp).1]
  exact .rest ((h _).mp (z0 p hp).2).2
 ·unfold nxS cP
  rw[List.length_map]
  simp
 ·rw[e,h]
  show ((ap ins gs x).length:Int)=0↔_
  rw[<-List.length_eq_zero_iff]
  exact⟨λq=>⟨hx,by omega⟩,λq=>by omega⟩
variable {lf:Str->Int} {ps:List (Str × Nat)}
theorem Cnt.few (c:Cnt ins gs xs ps a tk lf):ps.length<=xs.length:=by
 have:=Bf.pigeon (ps.map (·.1)) xs c.nd λx hx=>by
  obtain⟨p,hp,rfl⟩:=List.mem_map.mp hx
  exact c.sub p hp
 rwa [List.length_map]at this
theorem Cnt.go (m:Met ins gs z xs) (c:Cnt ins gs xs ps a tk lf) {here:Str × Nat} (e:ps[a]?=some here) {b:Str} (full:ahL (evs (ap ins gs) xs) here.1=tk++b::tl) :
  b∈xs/\b∉ps.map (·.1)/\(lf b-1=0->Cnt ins gs xs (ps++[(b,here.2+1)]) a (tk++[b]) λx=>if x=b then lf b-1 else lf x)/\(lf b-1≠0->Cnt ins gs xs ps a (tk++[b]) λx=>if x=b then lf b-1 else lf x):=by
 obtain⟨hb,hin⟩:=qh (show b∈ahL (evs (ap ins gs) xs) here.1 by rw[full];simp)
 have hc:=gR (st:=ap ins gs) (x:=here.1) m.nd hb
 rw[full,List.count_append,List.count_cons]at hc
 simp only[beq_self_eq_true,if_true]at hc
 have ha:a<ps.length:=(List.getElem?_eq_some_iff.mp e).1
 have hout:here.1∉(ps.take a).map (·.1):=λq=>by
  obtain⟨i,hi,ei⟩:=List.mem_iff_getElem.mp q
  rw[List.length_map,List.length_take]at hi
  rw[List.getElem_map,List.getElem_take]at ei
  have nd:=c.nd
  have:=(List.getElem_inj (i:=i) (j:=a) (h₀:=by rw[List.length_map];omega) (h₁:=by rw[List.length_map];exact ha) nd).mp (by rw[List.getElem_map,List.getElem_map,ei,(List.getElem?_eq_some_iff.mp e).2])
  omega
 have hsn:=lS hout (nxS ins gs b)
 have hle:=A_ ((ps.take a).map (·.1)++[here.1]) (nxS ins gs b)
 have hl:=c.val b hb
 have hnx:((ap ins gs b).map (·.2))=nxS ins gs b:=rfl
 rw[hnx]at hc
 have lfb:1<=lf b:=by omega
 have bout:b∉ps.map (·.1):=λq=>by
  have:=(c.zero b hb).mpr q
  omega
 have lfs:∀(qs:List (Str × Nat)),(qs.take a).map (·.1)=(ps.take a).map (·.1)->∀h∈xs,(if h=b then lf b-1 else lf h)=((nxS ins gs h).length:Int)-cP ((qs.take a).map (·.1)) (nxS ins gs h)-(tk++[b]).count h:=λqs eq h hh=>by
  rw[eq,List.count_append,List.count_singleton]
  by_cases cb:h=b
  ·subst cb
   rw[if_pos rfl,hl]
   simp;omega
  ·rw[if_neg cb,c.val h hh,if_neg (by simpa using λz=>cb z.symm)]
   simp
 refine⟨hb,bout,λz0=>?_,λz0=>?_⟩
 ·have et:((ps++[(b,here.2+1)]).take a).map (·.1)=(ps.take a).map (·.1):=by rw[List.take_append_of_le_length (by omega)]
  have hq2:∀q∈ps,q.2<=here.2+1:=λq hq=>c.near a here q (Nat.le_refl _) e hq
  have ge:∀(i:Nat) p,(ps++[(b,here.2+1)])[i]?=some p->(ps[i]?=some p)\/(i=ps.length/\p=(b,here.2+1)):=λi p hp=>by
   by_cases ci:i<ps.length
   ·rw[List.getElem?_append_left ci]at hp;exact .inl hp
   ·rw[List.getElem?_append_right (by omega)]at hp
    have:i-ps.length=0:=by
     have:=(List.getElem?_eq_some_iff.mp hp).1
     simp at this
     omega
    rw[this]at hp
    cases hp
    exact .inr ⟨by omega,rfl⟩
  have mem:∀q,q∈ps++[(b,here.2+1)]->q∈ps\/q=(b,here.2+1):=λq hq=>(List.mem_append.mp hq).imp id List.mem_singleton.mp
  have lb:dI ins gs b (here.2+1):=by
   refine .up (m.st b hb) (λp hp=>?_) ?_
   ·have all:=xt (ws:=(ps.take a).map (·.1)++[here.1]) (l:=nxS ins gs b) (by omega) p.2 (List.mem_map.mpr ⟨p,hp,rfl⟩)
    rcases List.mem_append.mp all with q|q
    ·obtain⟨r,hr,er⟩:=List.mem_map.mp q
     obtain⟨i,hi⟩:=List.mem_iff_getElem?.mp hr
     have hia:i<a:=by
      have:=(List.getElem?_eq_some_iff.mp hi).1
      rw[List.length_take]at this
      omega
     rw[List.getElem?_take_of_lt hia]at hi
     exact⟨r.2,c.mono i a r here (by omega) hi e,by rw[<-er];exact c.long r (List.mem_of_getElem? hi)⟩
    ·rw[List.mem_singleton]at q
     exact⟨here.2,Nat.le_refl _,by rw[q];exact c.long here (List.mem_of_getElem? e)⟩
   ·obtain⟨p,hp,ep⟩:=List.mem_map.mp hin
    exact⟨p,hp,by rw[ep];exact c.long here (List.mem_of_getElem? e)⟩
  refine⟨?_,λq hq=>?_,λi j p q hij hp hq=>?_,λi p q hi hp hq=>?_,λq hq=>?_,lfs _ et,λh hh=>?_⟩
  ·rw[List.map_append]
   exact List.nodup_append.mpr ⟨c.nd,by simp,λx hx y hy z=>by
    have:y=b:=by simpa using hy
    exact bout (by rw[<-this,<-z];exact hx)⟩
  ·rcases mem q hq with q'|rfl
   ·exact c.sub q q'
   ·exact hb
  ·rcases ge i p hp with hp|⟨hp1,rfl⟩
   ·rcases ge j q hq with hq|⟨hq1,rfl⟩
    ·exact c.mono i j p q hij hp hq
    ·exact hq2 p (List.mem_of_getElem? hp)
   ·rcases ge j q hq with hq|⟨hq1,rfl⟩
    ·have:=(List.getElem?_eq_some_iff.mp hq).1
     omega
    ·exact Nat.le_refl _
  ·rcases ge i p hp with hp|⟨hp1,rfl⟩
   ·have hm:=c.mono a i here p hi e hp
    rcases mem q hq with q'|rfl
    ·exact c.near i p q hi hp q'
    ·show here.2+1<=p.2+1;omega
   ·rcases mem q hq with q'|rfl
    ·have:=hq2 q q'
     show q.2<=here.2+1+1;omega
    ·show here.2+1<=here.2+1+1;omega
  ·rcases mem q hq with q'|rfl
   ·exact c.long q q'
   ·exact lb
  ·rw[List.map_append,List.mem_append]
   by_cases cb:h=b
   ·subst cb
    rw[if_pos rfl]
    exact⟨λ_=>.inr (by simp),λ_=>z0⟩
   ·rw[if_neg cb,c.zero h hh]
    exact⟨.inl,λq=>q.resolve_right λy=>cb (by simpa using y)⟩
 ·refine⟨c.nd,c.sub,c.mono,c.near,c.long,lfs _ rfl,λh hh=>?_⟩
  by_cases cb:h=b
  ·subst cb
   rw[if_pos rfl]
   exact⟨λq=>absurd q z0,λq=>absurd q bout⟩
  ·rw[if_neg cb];exact c.zero h hh
theorem Cnt.turn (m:Met ins gs z xs) {here:Str × Nat} (e:ps[a]?=some here) (c:Cnt ins gs xs ps a (ahL (evs (ap ins gs) xs) here.1) lf):Cnt ins gs xs ps (a+1) [] lf:=by
 have ha:a<ps.length:=(List.getElem?_eq_some_iff.mp e).1
 have et:(ps.take (a+1)).map (·.1)=(ps.take a).map (·.1)++[here.1]:=by rw[List.take_succ,e,List.map_append];rfl
 have hout:here.1∉(ps.take a).map (·.1):=λq=>by
  have nd:=c.nd
  rw[<-List.take_append_drop (a+1) ps,List.map_append]at nd
  have nd:=(List.nodup_append.mp nd).1
  rw[et]at nd
  exact(List.nodup_append.mp nd).2.2 _ q _ (by simp) rfl
 refine⟨c.nd,c.sub,c.mono,λi p q hi hp hq=>c.near i p q (by omega) hp hq,c.long,λh hh=>?_,c.zero⟩
 rw[c.val h hh,et,lS hout,gR m.nd hh]
 show _=_-((cP _ _+(nxS ins gs h).count here.1:Nat):Int)-_
 rw[show ((ap ins gs h).map (·.2))=nxS ins gs h from rfl]
 simp
 omega
theorem Cnt.fin (c:Cnt ins gs xs ps a [] lf) (e:ps.length<=a):NumOk ins gs xs ps:=by
 refine⟨c.nd,c.sub,c.long,λh hh ho=>?_⟩
 have n0:lf h≠0:=λz=>ho ((c.zero h hh).mp z)
 have hl:=c.val h hh
 rw[List.take_of_length_le e]at hl
 simp at hl
 by_cases ex:∃p∈ap ins gs h,p.2∉ps.map (·.1)
 ·exact ex
 ·refine absurd ?_ n0
  have:cP (ps.map (·.1)) (nxS ins gs h)=(nxS ins gs h).length:=List.countP_eq_length.mpr λx hx=>by
   obtain⟨p,hp,rfl⟩:=List.mem_map.mp hx
   exact decide_eq_true (Decidable.byContradiction λq=>ex ⟨p,hp,q⟩)
  rw[hl,this];omega
end
theorem wj {t:TE} (r:Rd H a u) (f:Fz u) (q:∀o,t σ (upd H a (.frz o u)) λv H'=>H' a=some (.frz o u)/\Q v (back H a H')):vt t σ H Q:=⟨a,u,r,f,q⟩
theorem oJ {ta:TA} (q:ta σ H λvs H1=>∃l xs ps,vs=[.ref l]/\SqL K H1 l xs/\xs.length<10000/\Paired (rm H1) xs ps/\∀d,H1 d=none->Q (.ref d) (upd H1 d (.dK (bH [] (dR ps))))):pc K ta σ H Q:=q
theorem wz {td ty tv:TE} {rd:V->V->Hp->VK->Prop} {D:Ends} (q:td σ H λx H1=>ty σ H1 λy H2=>∃a v,x=.ref a/\cq H2 a y (some v)/\tv σ H2 λy2 H3=>rd v y2 H3 λz H4=>∃H5,fV H4 a y z H5/\D.nx σ H5):vE td ty tv rd D σ H:=q
def SD (H:Hp) (F:Addr) (ins:List Str) (gs:List (Str × Rl)) (xs:List Str):Prop:=∃as:List Addr,Rd H F (.dK (fdK (az xs) as))/\as.length=xs.length/\∀(i:Nat) x b,xs[i]?=some x->as[i]?=some b->bj H b (cO (ap ins gs x))
theorem pk (S:ao H H') (r:Rd H a u):Rd H' a u:=by
 rcases r with r|⟨o,r⟩
 ·exact .inl (S _ _ r)
 ·exact .inr ⟨o,S _ _ r⟩
section
variable {H H':Hp} {F:Addr} {ins:List Str} {gs:List (Str × Rl)} {xs:List Str}
theorem SD.same (S:ao H H') (h:SD H F ins gs xs):SD H' F ins gs xs:=let ⟨as,r,l,s⟩:=h;⟨as,pk S r,l,λi x b e1 e2=>(s i x b e1 e2).same S⟩
variable {kvs:List (Key × V)}
theorem mJ (r:Rd H F (.dK kvs)) {b:Addr} {o:HO} (e:H b=some o) (n1:∀k,o≠.dK k) (n2:∀ob u,o≠.frz ob u):b≠F:=λz=>by
 rcases r with r|⟨ob,r⟩
 ·rw[z,r]at e;exact n1 _ (Option.some.inj e).symm
 ·rw[z,r]at e;exact n2 _ _ (Option.some.inj e).symm
theorem km {o:Obj} (r:Rd H F (.dK kvs)) {b:Addr} {sts:List (V × Key)} (h:bj H b sts):bj (upd H F (.frz o (.dK kvs))) b sts:=by
 obtain⟨vs,h1,h2⟩:=h
 refine⟨vs,by rw[aj (mJ r h1 (λ_ z=>nomatch z) λ_ _ z=>nomatch z)];exact h1,cD (λv s ⟨c,ec,q⟩=>⟨c,ec,?_⟩) h2⟩
 rw[aj (mJ r q (λ_ z=>nomatch z) λ_ _ z=>nomatch z)];exact q
theorem jE {o:Obj} {u:HO} (r:Rd H F u) (S:ao (upd H F (.frz o u)) H'):ao H (back H F H'):=λb w e=>by
 by_cases c:b=F
 ·subst c;rw[eD];exact e
 ·rw[bw c];exact S _ _ (by rw[aj c];exact e)
end
theorem gL {α β:Type} {R:α->β->Prop}:∀{as:List α} {bs:List β},as.length=bs.length->(∀(i:Nat) a b,as[i]?=some a->bs[i]?=some b->R a b)->Paired R as bs
 | [],[],_,_=>.nil
 | [],_::_,h,_=>by simp at h
 | _::_,[],h,_=>by simp at h
 | a::as,b::bs,h,f=>.cons (f 0 a b rfl rfl) (gL (by simpa using h) λi x y e1 e2=>f (i+1) x y (by simpa using e1) (by simpa using e2))
theorem gE:∀(ps acc:List (Key × V)),(ps.map (·.1)).Nodup->(∀p∈ps,bh acc p.1=none)->bH acc ps=acc++ps
 | [],acc,_,_=>by rw[List.append_nil];rfl
 | p::ps,acc,nd,h=>by
  rw[List.map_cons,List.nodup_cons]at nd
  show bH (bI acc p.1 p.2) ps=_
  rw[c_ _ (h p (by simp)),gE ps _ nd.2 (λq hq=>?_),List.append_assoc]
  ·rfl
  ·have h1:=dw.mp (h q (List.mem_cons_of_mem _ hq))
   refine dw.mpr λz=>?_
   rw[List.map_append]at z
   rcases List.mem_append.mp z with z|z
   ·exact h1 z
   ·have:q.1=p.1:=by simpa using z
    exact nd.1 (by rw[<-this];exact List.mem_map.mpr ⟨q,hq,rfl⟩)
theorem tH (xs:List Str) (bs:List Addr):dR ((xs.zip bs).map λp=>(p.1,V.ref p.2))=fdK (az xs) bs:=by
 unfold dR fdK az
 rw[List.zip_map_left,List.map_map,List.map_map];rfl
theorem xp {bs:List Addr} (nd:xs.Nodup):bH [] (dR ((xs.zip bs).map λp=>(p.1,V.ref p.2)))=fdK (az xs) bs:=by
 rw[tH,gE _ _ (eK nd) (λ_ _=>rfl),List.nil_append]
def lr:Sp:=λvs H Q _=>∃(F:Addr) (ins:List Str) (gs:List (Str × Rl)) (xs:List Str),vs=[.ref F]/\SD H F ins gs xs/\xs.Nodup/\xs.length<=2048/\(∀h∈xs,∀p∈ap ins gs h,p.2∈xs)/\gs.length<=7 /\
 ∀(A:Addr) (bs:List Addr) (H':Hp),ao H H'->H A=none->H' A=some (.dK (fdK (az xs) bs))->bs.length=xs.length->(∀(i:Nat) x b,xs[i]?=some x->bs[i]?=some b->H b=none/\H' b=some (.lst ((ahL (evs (ap ins gs) xs) x).map V.str)))->Q (.ref A) H'
theorem uX {ins:List Str} (g7:gs.length<=7):∀ys:List Str,(evs (ap ins gs) ys).length<=7*ys.length:=λys=>by
 unfold evs
 induction ys with
 | nil=>simp
 | cons y ys ih =>
  rw[List.flatMap_cons,List.length_append,List.length_map,List.length_cons]
  have:=cA ins gs y
  omega
theorem vg (es:List (Str × (Str × Str))) (x:Str):(ahL es x).length<=es.length:=by unfold ahL;rw[List.length_map];exact List.length_filter_le _ _
theorem t8 (es:List (Str × (Str × Str))) (y n h x:Str):ahL (es++[(y,(n,h))]) x=if x=y then ahL es x++[h] else ahL es x:=by
 rw[fR]
 by_cases c:x=y
 ·subst c;rw[if_pos rfl];congr 1;unfold ahL;simp
 ·rw[if_neg c]
  have:ahL [(y,n,h)] x=[]:=by unfold ahL;simp;exact λz=>c z.symm
  rw[this,List.append_nil]
section
theorem fJ:FnScope ["found", "ahead", "here", "step"] ["found"] (ay (top 21)):=by walk_at "k"
theorem sT {f:Addr} {fd:FuncData} (Fu:Fun K "standings_ahead" "standings_ahead" (top 21) f fd) (T:Txt K mg TT):FnOk P w K mg base CX0 1 f fd ["found"] lr:=by
 have S:=fJ
 refine Fu.ok S (by walk_at "l") (λcdv A outer s H vs Q E hr h=>?_)
 obtain⟨F,ins,gs,xs,rfl,sd,nd,few,cl,g7,k⟩:=h
 have hu:=de hr
 refine'⟨?_,?bb,?_⟩
 case bb =>
  refine' ad ?s1 ?r1
  case s1 =>
   refine' aA 1 S.nd ?e
   case e =>
    exact(gK rfl (by rfl) T.n_dict (aa (sm (fc (tgs:=["here"]) (cap:=[]) rfl ⟨rfl,rfl,rfl,rfl,rfl,rfl⟩ (f9 (pv 0)) (λ_ _ _ _=>(bt (i:=0) (show List.Nodup [("here" : Str)] by decide +kernel) rfl (by walk_at "o"))) (λ_ _ _ _=>b_) (λ_ _ _ _=>(aL (aa (pv 0) (aa (bd af) af n5) ai))))) af))
  case r1 =>
   refine' ad ?s4 ?r4
   case s4 =>
    refine' rW ?z5
    case z5 =>
     refine' bP PassesOwn.never rfl ?i5 ?g5 ?b5 ?h5
     case h5=>intro _;rfl
     case i5=>exact(f9 (pv 0))
     case g5=>exact(bU 2 S.nd)
     case b5 =>
      refine' am ?s6
      case s6 =>
       refine' bP PassesOwn.never rfl ?i7 ?g7 ?b7 ?h7
       case h7=>intro _;rfl
       case i7=>exact(bD (bA hu (pv 0) (pv 2) (λ_ _=>rfl)))
       case g7=>exact(bU 3 S.nd)
       case b7 =>
        refine' am ?s8
        case s8 =>
         exact(br (cM PySem.F.plainAttrs_list PySem.F.slot_list_append PySem.F.type_list_append ba (bA hu (pv 1) (ax aJ (pv 3) ae (λ_ _=>rfl)) (λ_ _=>rfl)) (aa (pv 2) af ai)))
   case r4 =>
    refine' am ?s10
    case s10 =>
     exact(aF (pv 1))
 walk_at "e"
 obtain⟨as,r,las,sts⟩:=id sd
 have lk:(fdK (az xs) as).length=xs.length:=by unfold fdK az;simp[las]
 with_reducible refine aP ?_
 refine s_asg (oJ (i_cons (wj r trivial λo=>?_)))
 have hF2:upd H F (.frz o (.dK (fdK (az xs) as))) F=some (.frz o (.dK (fdK (az xs) as))):=ag
 have bk:∀{H':Hp},ao (upd H F (.frz o (.dK (fdK (az xs) as)))) H'->ao H (back H F H'):=λS=>jE r S
 have fr2:∀{b},upd H F (.frz o (.dK (fdK (az xs) as))) b=none->H b=none:=λ{b} e=>by
  by_cases c:b=F
  ·rw[c,hF2]at e;cases e
  ·rw[aj c]at e;exact e
 generalize upd H F (.frz o (.dK (fdK (az xs) as)))=H2 at *
 refine cB (ii (i_var rfl ⟨F,o,_,rfl,hF2,λL hL=>?_⟩))
 refine kN (λm H' ys=>∃bs ts:List Addr,bs.length=m/\ts.length=m/\ys=ts.map V.ref/\ao H2 H'/\H' L=some (.lst ys)/\bs.Nodup/\(∀b∈bs,H2 b=none/\b≠L/\H' b=some (.lst []))/\∀(i:Nat) t x b,ts[i]?=some t->xs[i]?=some x->bs[i]?=some b->H' t=some (.tup [.str x,.ref b]))
  ⟨[],[],rfl,rfl,rfl,ak hL,ag,by simp,λb hb=>(nomatch hb),λi t x b e=>(nomatch e)⟩ (λm H' ys ⟨bs,ts,p⟩=>⟨p.2.2.2.2.1,p.2.2.2.1 _ _ hF2⟩) (λm k' v H' ys e p=>?_) (λH' ys p=>?_)
 ·obtain⟨bs,ts,lb,lt,rfl,Sm,hd,ndb,hbs,hts⟩:=p
  obtain⟨x,b0,e1,e2,rfl,rfl⟩:=lR e
  have hm:m<xs.length:=(List.getElem?_eq_some_iff.mp e1).1
  refine s_name ⟨by repeat' (first|exact trivial|refine⟨rfl,?_⟩),i_yes (iteT ?_)⟩
  refine i_tup (i_cons (i_var rfl (i_cons (i_lst (i_nil ⟨by simp[sizeLine],λb hb=>i_nil ⟨by simp[sizeLine],λt ht=>?_⟩⟩)))))
  have S3:ao H' (upd H' b (.lst [])):=ak hb
  have S4:ao (upd H' b (.lst [])) (upd (upd H' b (.lst [])) t (.tup [kV (Sum.inr x),.ref b])):=ak ht
  have b4:upd (upd H' b (.lst [])) t (.tup [kV (Sum.inr x),.ref b]) b=some (.lst []):=S4 _ _ ag
  have t4:upd (upd H' b (.lst [])) t (.tup [kV (Sum.inr x),.ref b]) t=some (.tup [.str x,.ref b]):=ag
  have tL:t≠L:=λz=>by rw[z,S3 _ _ hd]at ht;cases ht
  have bL:b≠L:=λz=>by rw[z,hd]at hb;cases hb
  have S34:=S3.trans S4
  generalize upd (upd H' b (.lst [])) t (.tup [kV (Sum.inr x),.ref b])=H4 at *
  have hL4:=S34 _ _ hd
  refine ck.mk hL4 (by rw[lk];exact hm) (by rw[List.length_map];omega) ⟨bs++[b],ts++[t],by simp[lb],by simp[lt],by simp,aR (Sm.trans S34) hL,ag,?_,λc hc=>?_,λi t' x' b' h1 h2 h3=>?_⟩
  ·refine List.nodup_append.mpr ⟨ndb,by simp,λc hc y hy z=>?_⟩
   have:y=b:=by simpa using hy
   have:=(hbs c hc).2.2
   rw[z,‹y=b›,hb]at this
   cases this
  ·rcases List.mem_append.mp hc with hc|hc
   ·obtain⟨q1,q2,q3⟩:=hbs c hc
    exact⟨q1,q2,by rw[aj q2];exact S34 _ _ q3⟩
   ·rw[List.mem_singleton]at hc
    subst hc
    exact⟨ao.free Sm hb,bL,by rw[aj bL];exact b4⟩
  ·by_cases ci:i<m
   ·rw[List.getElem?_append_left (by omega)]at h1 h3
    have q:=hts i t' x' b' h1 h2 h3
    rw[aj (λz=>by rw[z,hd]at q;cases q)]
    exact S34 _ _ q
   ·rw[List.getElem?_append_right (by omega)]at h1 h3
    have ei:i=m:=by
     have:=(List.getElem?_eq_some_iff.mp h1).1
     simp at this
     omega
    subst ei
    rw[lt,Nat.sub_self]at h1
    rw[lb,Nat.sub_self]at h3
    rw[e1]at h2
    cases h1;cases h2;cases h3
    rw[aj tL];exact t4
 ·rw[lk]at p
  obtain⟨bs,ts,lb,lt,rfl,Sm,hd,ndb,hbs,hts⟩:=p
  refine⟨Sm _ _ hF2,i_nil ?_⟩
  have LF:L≠F:=λz=>by rw[z,hF2]at hL;cases hL
  have bkx:∀{b u},H' b=some u->b≠F->back H F H' b=some u:=λe n=>by rw[bw n];exact e
  have SB:=bk Sm
  have hbF:∀b∈bs,b≠F:=λb hb z=>by have:=(hbs b hb).1;rw[z,hF2]at this;cases this
  have hb0:∀b∈bs,H b=none:=λb hb=>fr2 (hbs b hb).1
  have hb3:∀b∈bs,back H F H' b=some (.lst []):=λb hb=>bkx (hbs b hb).2.2 (hbF b hb)
  refine⟨L,ts.map V.ref,(xs.zip bs).map λp=>(p.1,V.ref p.2),rfl,SqL.of (bkx hd LF),by rw[List.length_map];omega,?_,λd hd3=>?_⟩
  ·refine gL (by simp[lt,lb]) λi v p e1 e2=>?_
   rw[List.getElem?_map]at e1 e2
   cases q1:ts[i]? with
   | none=>rw[q1]at e1;cases e1
   | some t =>
    rw[q1]at e1
    cases e1
    cases q2:(xs.zip bs)[i]? with
    | none=>rw[q2]at e2;cases e2
    | some xb =>
     rw[q2]at e2
     cases e2
     obtain⟨a1,a2⟩:=List.getElem?_zip_eq_some.mp q2
     have q:=hts i t xb.1 xb.2 q1 a1 a2
     exact⟨t,rfl,bkx q λz=>by rw[z,Sm _ _ hF2]at q;cases q⟩
  rw[xp nd]
  refine s_name ?_
  generalize hE:upd (back H F H') d _=H3
  obtain⟨S3,q3⟩:=aN hd3 hE
  clear hE
  have SH3:=SB.trans S3
  have d0:H d=none:=ao.free SB hd3
  have hb4:∀b∈bs,H3 b=some (.lst []):=λb hb=>S3 _ _ (hb3 b hb)
  have r3:=pk SH3 r
  have sts3:∀(i:Nat) h b,xs[i]?=some h->as[i]?=some b->bj H3 b (cO (ap ins gs h)):=λi h b e1 e2=>(sts i h b e1 e2).same SH3
  have asb:∀(i:Nat) h b,xs[i]?=some h->as[i]?=some b->b∉bs:=λi h b e1 e2 hb=>by
   obtain⟨vs,q,_⟩:=sts i h b e1 e2
   rw[hb0 b hb]at q;cases q
  clear hbs hts hd hb3
  with_reducible refine aP ?_
  refine vC (a:=F) (u:=.dK (fdK (az xs) as)) r3 trivial λob=>?_
  have sts4:∀(i:Nat) h b,xs[i]?=some h->as[i]?=some b->bj (upd H3 F (.frz ob (.dK (fdK (az xs) as)))) b (cO (ap ins gs h)):=λi h b e1 e2=>km r3 (sts3 i h b e1 e2)
  have h4:∀b,b≠F->upd H3 F (.frz ob (.dK (fdK (az xs) as))) b=H3 b:=λb n=>aj n
  have hF4:upd H3 F (.frz ob (.dK (fdK (az xs) as))) F=some (.frz ob (.dK (fdK (az xs) as))):=ag
  have dF:d≠F:=λz=>by
   obtain⟨u,hu⟩:=f6 r
   rw[z,hu]at d0;cases d0
  generalize upd H3 F (.frz ob (.dK (fdK (az xs) as)))=H4 at *
  have hd4:H4 d=some (.dK (fdK (az xs) bs)):=by rw[h4 d dF];exact q3
  have Fb:F∉bs:=λhb=>hbF F hb rfl
  have db:d∉bs:=λhb=>by rw[hb4 d hb]at q3;cases q3
  let AH:=λ(H':Hp) (es:List (Str × (Str × Str)))=>∀(i:Nat) x b,xs[i]?=some x->bs[i]?=some b->H' b=some (.lst ((ahL es x).map V.str))
  refine s_for (ii (i_var rfl ⟨F,ob,_,rfl,hF4,?_⟩))
  refine nt (λj σ' H'=>∃(x2 x3:Option V),σ'=[some (.ref F),some (.ref d),x2,x3]/\(∀b u,H4 b=some u->b∉bs->H' b=some u)/\AH H' (evs (ap ins gs) (xs.take j)))
   ⟨_,_,rfl,λb u e _=>e,λi x b _ e2=>by rw[h4 b (hbF b (List.mem_of_getElem? e2))];exact hb4 b (List.mem_of_getElem? e2)⟩ (λj σ' H' _ pv=>?_) (λj ky vl σ' H' hj pv=>?_) (λσ' H' pv=>?_)
  ·obtain⟨_,_,_,o2,_⟩:=pv
   exact o2 F _ hF4 Fb
  ·obtain⟨x2,x3,rfl,o2,ah⟩:=pv
   obtain⟨h,b,hx,hb,rfl,rfl⟩:=lR hj
   obtain⟨vs,hvs,pvs⟩:=sts4 j h b hx hb
   have bb:=asb j h b hx hb
   have hxm:=List.mem_of_getElem? hx
   have dg:cq H' F (kV (Sum.inr h)) (some (.ref b)):=.inl ⟨_,Sum.inr h,.inr ⟨ob,o2 F _ hF4 Fb⟩,rfl,(dL (eK nd) hj).symm⟩
   refine s_name ?_
   refine s_for (s_list (i_dget (i_var rfl (i_var rfl ⟨F,_,rfl,dg,b,rfl,⟨_,SqL.of (o2 _ _ hvs bb)⟩,?_⟩))))
   refine dh (xs:=vs) (λi σ' H'=>∃(x3:Option V),σ'=[some (.ref F),some (.ref d),some (.str h),x3]/\(∀b u,H4 b=some u->b∉bs->H' b=some u)/\AH H' (evs (ap ins gs) (xs.take j)++((ap ins gs h).take i).map λp=>(p.2,(p.1,h))))
    ⟨_,rfl,o2,by simpa using ah⟩ (λi σ' H' _ pv=>?_) (λi v σ' H' hv pv=>?_) (λσ' H' pv=>?_)
   ·obtain⟨_,_,o3,_⟩:=pv
    exact SqL.of (o3 _ _ hvs bb)
   ·obtain⟨x3,rfl,o3,ah3⟩:=pv
    obtain⟨p,b2,hp,rfl,hb2⟩:=fI pvs hv
    have hb2H:H4 b2=some (.tup [.str p.1,.str p.2]):=hb2
    have b2b:b2∉bs:=λhb=>by rw[h4 b2 (hbF b2 hb),hb4 b2 hb]at hb2H;cases hb2H
    have hb3:H' b2=some (.tup [.str p.1,.str p.2]):=o3 _ _ hb2 b2b
    have hpm:p∈ap ins gs h:=List.mem_of_getElem? hp
    obtain⟨i2,hi2,ei2⟩:=List.mem_iff_getElem.mp (cl h hxm p hpm)
    have e1:xs[i2]?=some p.2:=by rw[List.getElem?_eq_getElem hi2,ei2]
    obtain⟨c,e2⟩:∃c,bs[i2]?=some c:=⟨_,List.getElem?_eq_getElem (by omega)⟩
    have hc:=ah3 i2 p.2 c e1 e2
    have cm:=List.mem_of_getElem? e2
    have dg2:cq H' d (.str p.2) (some (.ref c)):=dU (.inl (o3 _ _ hd4 db)) nd e1 e2
    have hev:evs (ap ins gs) (xs.take j)++((ap ins gs h).take (i+1)).map (λp=>(p.2,(p.1,h)))=(evs (ap ins gs) (xs.take j)++((ap ins gs h).take i).map λp=>(p.2,(p.1,h)))++[(p.2,(p.1,h))]:=by
     rw[List.take_succ,hp,List.map_append,List.append_assoc];rfl
    have lev:(evs (ap ins gs) (xs.take j)++((ap ins gs h).take i).map λp=>(p.2,(p.1,h))).length<=7*2048+7:=by
     rw[List.length_append,List.length_map,List.length_take]
     have h1:=uX (ins:=ins) g7 (xs.take j)
     have h2:=cA ins gs h
     rw[List.length_take]at h1
     omega
    refine s_name ?_
    have la:=vg (evs (ap ins gs) (xs.take j)++((ap ins gs h).take i).map λp=>(p.2,(p.1,h))) p.2
    refine s_drop (i_bm (i_dget (i_var rfl (i_op (i_var rfl (i_c (i_ixT hb3 rfl ⟨d,_,rfl,dg2,i_tyL hc,i_cons (i_var rfl (i_nil (dS hc (by rw[List.length_map];omega) ?_)))⟩)))))))
    refine⟨_,rfl,λb' u e n=>by rw[aj (λz=>n (by rw[z];exact cm))];exact o3 b' u e n,λi3 x3 b3 e3 e4=>?_⟩
    rw[hev,t8]
    by_cases cx:x3=p.2
    ·subst cx
     have:i3=i2:=(List.getElem?_inj (List.getElem?_eq_some_iff.mp e3).1 nd).mp (by rw[e3,e1])
     subst this
     rw[e2]at e4
     cases e4
     rw[if_pos rfl,ag,List.map_append];rfl
    ·rw[if_neg cx,aj (λz=>cx ?_)]
     ·exact ah3 i3 x3 b3 e3 e4
     ·subst z
      have:i3=i2:=(List.getElem?_inj (List.getElem?_eq_some_iff.mp e4).1 ndb).mp (by rw[e4,e2])
      subst this
      rw[e3]at e1
      cases e1;rfl
   ·obtain⟨x3,rfl,o3,ah3⟩:=pv
    refine⟨_,_,rfl,o3,?_⟩
    have lvs:vs.length=(ap ins gs h).length:=by have:=aK pvs;unfold cO at this;rwa [List.length_map]at this
    rw[lvs,List.take_of_length_le (Nat.le_refl _)]at ah3
    have e:evs (ap ins gs) (xs.take (j+1))=evs (ap ins gs) (xs.take j)++(ap ins gs h).map λp=>(p.2,(p.1,h)):=by
     unfold evs
     rw[List.take_succ,hx,List.flatMap_append]
     simp
    rw[e]
    exact ah3
  ·obtain⟨x2,x3,rfl,o2,ah⟩:=pv
   rw[lk,List.take_of_length_le (Nat.le_refl _)]at ah
   refine⟨o2 F _ hF4 Fb,?_⟩
   refine s_ret (i_var rfl (k d bs _ (λb u e=>?_) d0 ?_ lb λi x b e1 e2=>?_))
   ·by_cases cF:b=F
    ·subst cF;rw[eD];exact SH3 _ _ e
    ·rw[bw cF];exact o2 b u (by rw[h4 b cF];exact SH3 _ _ e) λhb=>by rw[hb0 b hb]at e;cases e
   ·rw[bw dF];exact o2 _ _ hd4 db
   ·have hb:=List.mem_of_getElem? e2
    exact⟨hb0 b hb,by rw[bw (hbF b hb)];exact ah i x b e1 e2⟩
end
def cQ (ps:List (Str × Nat)):List (Key × V):=tm (ps.map λp=>(p.1,(p.2:Int)))
def dJ (xs:List Str) (f:Str->Int):List (Key × V):=xs.map λx=>(Sum.inr x,V.int (f x))
theorem qT (xs:List Str) (f:Str->Int):(dJ xs f).map (·.1)=az xs:=by unfold dJ az;rw[List.map_map];rfl
theorem gf {xs:List Str} (f:Str->Int) {b:Str}:∀{xs:List Str},b∈xs->bh (dJ xs f) (Sum.inr b)=some (.int (f b))
 | [],h=>nomatch h
 | x::xs,h=>by
  by_cases c:x=b
  ·subst c;exact bM rfl
  ·exact(bO (λz=>c (Sum.inr.inj z))).trans (gf (xs:=xs) f ((List.mem_cons.mp h).resolve_left λz=>c z.symm))
theorem tp {xs:List Str} (f:Str->Int) {b:Str} (v:Int) (h:b∈xs):bI (dJ xs f) (Sum.inr b) (.int v)=dJ xs λx=>if x=b then v else f x:=by
 unfold bI
 rw[cK,gf (xs:=xs) f h,Option.isSome_some,if_pos rfl]
 unfold dJ
 rw[List.map_map]
 refine List.map_congr_left λx _=>?_
 by_cases c:x=b
 ·subst c;simp
 ·simp[c]
theorem fz (ps:List (Str × Nat)):(cQ ps).map (·.1)=az (ps.map (·.1)):=by unfold cQ tm az;rw[List.map_map,List.map_map,List.map_map];rfl
theorem nh (nd:xs.Nodup):(az xs).Nodup:=by unfold az;exact List.Pairwise.map _ (λa b h z=>h (Sum.inr.inj z)) nd
variable {ps:List (Str × Nat)}
theorem ni (nd:(ps.map (·.1)).Nodup) {p:Str × Nat} (h:p∈ps):bh (cQ ps) (Sum.inr p.1)=some (.int p.2):=by
 obtain⟨i,hi,e⟩:=List.mem_iff_getElem.mp h
 refine dL (i:=i) (by rw[fz];exact nh nd) ?_
 unfold cQ tm
 rw[List.map_map,List.getElem?_map,List.getElem?_eq_getElem hi,e];rfl
theorem dA:bh (cQ ps) (Sum.inr x)=none↔x∉ps.map (·.1):=by
 rw[dw,fz]
 unfold az
 refine not_congr ⟨λh=>?_,λh=>List.mem_map.mpr ⟨x,h,rfl⟩⟩
 obtain⟨y,hy,e⟩:=List.mem_map.mp h
 cases e;exact hy
theorem nj (h:x∉ps.map (·.1)):bI (cQ ps) (Sum.inr x) (.int n)=cQ (ps++[(x,n)]):=by
 rw[c_ _ (dA.mpr h)]
 unfold cQ tm
 rw[List.map_append,List.map_append];rfl
def t9 (H:Hp) (ts:List Addr) (xs:List Str) (f:Str->Int):Prop:=∀(i:Nat) t x,ts[i]?=some t->xs[i]?=some x->H t=some (.tup [.str x,.int (f x)])
theorem mN {f:Str->Int} {t L:Addr} (lt:ts.length=m) (h:t9 H' ts xs f) (S:ao H' H4) (hd:H' L=some (.lst ys)) (ht:H4 t=some (.tup [.str x,.int (f x)])) (e1:xs[m]?=some x) (tL:t≠L):t9 (upd H4 L o) (ts++[t]) xs f:=λi t' x' h1 h2=>by
 by_cases ci:i<m
 ·rw[List.getElem?_append_left (by omega)]at h1
  have q:=h i t' x' h1 h2
  rw[aj (λz=>by rw[z,hd]at q;cases q)]
  exact S _ _ q
 ·rw[List.getElem?_append_right (by omega)]at h1
  have ei:i=m:=by
   have:=(List.getElem?_eq_some_iff.mp h1).1
   simp at this
   omega
  subst ei
  rw[lt,Nat.sub_self]at h1
  rw[e1]at h2
  cases h1;cases h2
  rw[aj tL];exact ht
theorem iW {f:Str->Int} (lt:ts.length=xs.length) (h:t9 H ts xs f):Paired (rm H) (ts.map V.ref) (xs.map λx=>(x,V.int (f x))):=by
 refine gL (by simp[lt]) λi v p e1 e2=>?_
 rw[List.getElem?_map]at e1 e2
 cases q1:ts[i]? with
 | none=>rw[q1]at e1;cases e1
 | some t =>
  rw[q1]at e1
  cases e1
  cases q2:xs[i]? with
  | none=>rw[q2]at e2;cases e2
  | some x =>
   rw[q2]at e2
   cases e2
   exact⟨t,rfl,h i t x q1 q2⟩
theorem nk (nd:xs.Nodup) (f:Str->Int):bH [] (dR (xs.map λx=>(x,V.int (f x))))=dJ xs f:=by
 have e:dR (xs.map λx=>(x,V.int (f x)))=dJ xs f:=by unfold dR dJ;rw[List.map_map];rfl
 rw[e,gE _ _ (by rw[qT];exact nh nd) (λ_ _=>rfl),List.nil_append]
def nS:Sp:=λvs H Q _=>∃(F:Addr) (ins:List Str) (gs:List (Str × Rl)) (z:Str) (xs:List Str),vs=[.ref F]/\SD H F ins gs xs/\Met ins gs z xs/\NetOk ins gs /\
 ∀(N:Addr) (ps:List (Str × Nat)) (H':Hp),ao H H'->H N=none->H' N=some (.dK (cQ ps))->NumOk ins gs xs ps->Q (.ref N) H'
section
theorem fK:FnScope ["found", "ahead", "left", "waiting", "numbers", "at", "here", "before"] ["found"] (ay (top 22)):=by walk_at "k"
theorem uI {f:Addr} {fd:FuncData} (Fu:Fun K "most_switchings" "most_switchings" (top 22) f fd) (T:Txt K mg TT) (f_standings_ahead:Fn P w K mg base "standings_ahead" ["found"] 1 lr) (f_rests_in:Fn P w K mg base "rests_in" ["steps"] 1 fo):FnOk P w K mg base CX0 2 f fd ["found"] nS:=by
 have S:=fK
 refine Fu.ok S (by walk_at "l") (λcdv A outer s H vs Q E hr h=>?_)
 obtain⟨F,ins,gs,z,xs,rfl,sd,met,ok,k⟩:=h
 have hu:=de hr
 refine'⟨?_,?bb,?_⟩
 case bb =>
  refine' ad ?s1 ?r1
  case s1 =>
   refine' aA 1 S.nd ?e
   case e=>exact(aU f_standings_ahead hr (aa (pv 0) af ai))
  case r1 =>
   refine' ad ?s3 ?r3
   case s3 =>
    refine' aA 2 S.nd ?e
    case e =>
     exact(gK rfl (by rfl) T.n_dict (aa (sm (fc (tgs:=["here"]) (cap:=[("found", 0)]) rfl ⟨rfl,rfl,rfl,rfl,rfl,rfl⟩ (f9 (pv 0)) (λ_ _ _ _=>(bt (i:=0) (show List.Nodup [("here" : Str),("found" : Str)] by decide +kernel) rfl (by walk_at "o"))) (λ_ _ _ _=>b_) (λ_ _ _ _=>(aL (aa (pv 0) (aa (aH (d7 (K:=K) rfl) (by rfl) T.n_len PySem.boot_len (aa (bA hu (pv 1) (pv 0) (λ_ _=>rfl)) af)) af cu) ai))))) af))
   case r3 =>
    refine' ad ?s6 ?r6
    case s6 =>
     refine' aA 3 S.nd ?e
     case e=>exact(aU f_rests_in hr (aa (pv 0) af ai))
    case r6 =>
     refine' ad ?s8 ?r8
     case s8 =>
      refine' aA 4 S.nd ?e
      case e =>
       exact(gK rfl (by rfl) T.n_dict (aa (fc (tgs:=["rest"]) (cap:=[]) rfl ⟨rfl,rfl,rfl,rfl,rfl,rfl⟩ (bD (pv 3)) (λ_ _ _ _=>(bt (i:=0) (show List.Nodup [("rest" : Str)] by decide +kernel) rfl (by walk_at "o"))) (λ_ _ _ _=>b_) (λ_ _ _ _=>(aL (aa (pv 0) (aa ae af aB) ai)))) af))
     case r8 =>
      refine' ad ?s11 ?r11
      case s11 =>
       refine' aA 5 S.nd ?e
       case e=>exact ae
      case r11 =>
       refine' ad ?s13 ?r13
       case s13 =>
        refine' dD PassesOwn.never ?c14 ?b14
        case c14=>exact(aC kr (pv 5) (aH aG (by rfl) T.n_len PySem.boot_len (aa (pv 3) af ai)) (aI _))
        case b14 =>
         refine' ad ?s15 ?r15
         case s15 =>
          refine' aA 6 S.nd ?e
          case e=>exact(ax aD (pv 3) (pv 5) (λ_ _=>rfl))
         case r15 =>
          refine' ad ?s17 ?r17
          case s17 =>
           refine' bP PassesOwn.never rfl ?i18 ?g18 ?b18 ?h18
           case h18=>intro _;rfl
           case i18=>exact(bD (bA hu (pv 1) (pv 6) (λ_ _=>rfl)))
           case g18=>exact(bU 7 S.nd)
           case b18 =>
            refine' ad ?s19 ?r19
            case s19 =>
             exact(ur hu (pv 2) (pv 7) ae xk (by intros;rfl))
            case r19 =>
             refine' am ?s21
             case s21 =>
              refine' bg ?c22 ?a22 ?o22
              case c22=>exact(aC bR (bA hu (pv 2) (pv 7) (λ_ _=>rfl)) ae (aI _))
              case a22 =>
               refine' ad ?s23 ?r23
               case s23 =>
                exact(eF hu (pv 4) (pv 7) (av aV (bA hu (pv 4) (pv 6) (λ_ _=>rfl)) ae) rfl)
               case r23 =>
                refine' am ?s25
                case s25 =>
                 exact(br (cM PySem.F.plainAttrs_list PySem.F.slot_list_append PySem.F.type_list_append ba (pv 3) (aa (pv 7) af ai)))
              case o22 =>
               exact aM
          case r17 =>
           refine' am ?s27
           case s27 =>
            exact(rX (i:=5) S.nd rfl (by walk_at "o") ae tu)
       case r13 =>
        refine' am ?s29
        case s29 =>
         exact(aF (pv 4))
 walk_at "e"
 have few:=met.few ok
 have nd:=met.nd
 have cl:∀h∈xs,∀p∈ap ins gs h,p.2∈xs:=λh hh p hp=>met.closed hh hp
 walk_at "w"
 refine⟨F,ins,gs,xs,rfl,sd,nd,few,cl,ok.g7,λA bs H1 S1 hA0 hA lb hbs=>?_⟩
 obtain⟨as,r,las,sts⟩:=sd.same S1
 have lk:(fdK (az xs) as).length=xs.length:=by unfold fdK az;simp[las]
 refine s_name ?_
 with_reducible refine aP ?_
 refine s_asg (oJ (i_cons (wj r trivial λo=>?_)))
 have hF2:upd H1 F (.frz o (.dK (fdK (az xs) as))) F=some (.frz o (.dK (fdK (az xs) as))):=ag
 have bk:∀{H':Hp},ao (upd H1 F (.frz o (.dK (fdK (az xs) as)))) H'->ao H1 (back H1 F H'):=λS=>jE r S
 have sts2:∀(i:Nat) x b,xs[i]?=some x->as[i]?=some b->bj (upd H1 F (.frz o (.dK (fdK (az xs) as)))) b (cO (ap ins gs x)):=λi x b e1 e2=>km r (sts i x b e1 e2)
 generalize upd H1 F (.frz o (.dK (fdK (az xs) as)))=H2 at *
 refine cB (ii (i_var rfl ⟨F,o,_,rfl,hF2,λL hL=>?_⟩))
 refine kN (λm H' ys=>∃ts:List Addr,ts.length=m/\ys=ts.map V.ref/\ao H2 H'/\H' L=some (.lst ys)/\t9 H' ts xs λx=>((ap ins gs x).length:Int))
  ⟨[],rfl,rfl,ak hL,ag,λi t x e=>(nomatch e)⟩ (λm H' ys ⟨ts,p⟩=>⟨p.2.2.2.1,p.2.2.1 _ _ hF2⟩) (λm k' v H' ys e p=>?_) (λH' ys p=>?_)
 ·obtain⟨ts,lt,rfl,Sm,hd,hts⟩:=p
  obtain⟨x,b,e1,e2,rfl,rfl⟩:=lR e
  obtain⟨vs,hvs,pvs⟩:=(sts2 m x b e1 e2).same Sm
  have hm:m<xs.length:=(List.getElem?_eq_some_iff.mp e1).1
  have lv:vs.length=(ap ins gs x).length:=by have:=aK pvs;unfold cO at this;rwa [List.length_map]at this
  refine s_name ⟨by repeat' (first|exact trivial|refine⟨rfl,?_⟩),i_yes (iteT ?_)⟩
  refine i_tup (i_cons (i_var rfl (i_cons (i_cb (i_cons (i_dget (i_var rfl (i_var rfl ⟨F,_,rfl,dU (.inr ⟨o,Sm _ _ hF2⟩) nd e1 e2,i_nil ⟨b,vs,rfl,.inl (SqL.of hvs),i_nil ⟨by simp[sizeLine],λt ht=>?_⟩⟩⟩))))))))
  have S3:ao H' (upd H' t (.tup [kV (Sum.inr x),.int vs.length])):=ak ht
  have t3:upd H' t (.tup [kV (Sum.inr x),.int vs.length]) t=some (.tup [.str x,.int ((ap ins gs x).length:Int)]):=by rw[ag,lv];rfl
  have tL:t≠L:=λz=>by rw[z,hd]at ht;cases ht
  generalize upd H' t (.tup [kV (Sum.inr x),.int vs.length])=H4 at *
  exact ck.mk (S3 _ _ hd) (by rw[lk];exact hm) (by rw[List.length_map];omega) ⟨ts++[t],by simp[lt],by simp,aR (Sm.trans S3) hL,ag,mN lt hts S3 hd t3 e1 tL⟩
 rw[lk]at p
 obtain⟨ts,lt,rfl,Sm,hd,hts⟩:=p
 refine⟨Sm _ _ hF2,i_nil ?_⟩
 have LF:L≠F:=λz=>by rw[z,hF2]at hL;cases hL
 have bkx:∀{b u},H' b=some u->b≠F->back H1 F H' b=some u:=λe n=>by rw[bw n];exact e
 have SB:=bk Sm
 refine⟨L,ts.map V.ref,_,rfl,SqL.of (bkx hd LF),by rw[List.length_map];omega,iW lt λi t x e1 e2=>bkx (hts i t x e1 e2) (λz=>by have q:=hts i t x e1 e2;rw[z,Sm _ _ hF2]at q;cases q),λLf hLf=>?_⟩
 rw[nk nd]
 generalize hE:upd (back H1 F H') Lf _=H3
 obtain⟨S3,hLf3⟩:=aN hLf hE
 clear hE
 have S13:=SB.trans S3
 have Lf1:H1 Lf=none:=ao.free SB hLf
 clear hts hd bkx
 walk_at "w"
 obtain⟨as3,r3,las3,sts3⟩:=(sd.same S1).same S13
 refine⟨F,xs,as3,λh=>(ap ins gs h).length,rfl,r3,las3,few,nd,λi x b e1 e2=>?_,λWt ss H4 S4 hWt pm so hW4=>?_⟩
 ·obtain⟨vs,h1,h2⟩:=sts3 i x b e1 e2
  exact⟨vs,h1,by have:=aK h2;unfold cO at this;rwa [List.length_map]at this⟩
 have rnd:(ss.filter λh=>decide ((ap ins gs h).length=0)).Nodup:=(pm.nodup_iff.mpr nd).filter _
 have rmem:∀x,x∈(ss.filter λh=>decide ((ap ins gs h).length=0))↔x∈xs/\ap ins gs x=[]:=λx=>by
  rw[List.mem_filter,pm.mem_iff,decide_eq_true_iff,List.length_eq_zero_iff]
 generalize (ss.filter λh=>decide ((ap ins gs h).length=0))=rs at *
 have c0:=Cnt.start (ins:=ins) (gs:=gs) (xs:=xs) rnd rmem
 have lrs:rs.length<=xs.length:=by have:=c0.few;rwa [List.length_map]at this
 clear so pm
 refine s_name ?_
 with_reducible refine aP ?_
 refine s_asg (oJ (i_cons (cB (s_list (i_var rfl ⟨Wt,rfl,⟨_,SqL.of hW4⟩,λL2 hL2=>?_⟩)))))
 refine eB (xs:=rs.map V.str) (λm H' ys=>∃ts:List Addr,ts.length=m/\ys=ts.map V.ref/\ao H4 H'/\H' L2=some (.lst ys)/\t9 H' ts rs λ_=>0)
  ⟨[],rfl,rfl,ak hL2,ag,λi t x e=>(nomatch e)⟩ (λm H' ys ⟨ts,p⟩=>⟨p.2.2.2.1,SqL.of (p.2.2.1 _ _ hW4)⟩) (λm v H' ys e p=>?_) (λH5 ys p=>?_)
 ·obtain⟨ts,lt,rfl,Sm,hd,hts⟩:=p
  rw[List.getElem?_map]at e
  cases ex:rs[m]? with
  | none=>rw[ex]at e;cases e
  | some x =>
  rw[ex]at e
  cases e
  have hm:m<rs.length:=(List.getElem?_eq_some_iff.mp ex).1
  refine s_name ⟨by repeat' (first|exact trivial|refine⟨rfl,?_⟩),i_yes (iteT ?_)⟩
  refine i_tup (i_cons (i_var rfl (i_cons (i_c (i_nil ⟨by simp[sizeLine],λt ht=>?_⟩)))))
  have S3:ao H' (upd H' t (.tup [.str x,.int 0])):=ak ht
  have t3:upd H' t (.tup [.str x,.int 0]) t=some (.tup [.str x,.int 0]):=ag
  have tL:t≠L2:=λz=>by rw[z,hd]at ht;cases ht
  generalize upd H' t (.tup [.str x,.int 0])=H6 at *
  exact ck.mk (S3 _ _ hd) (by rw[List.length_map];exact hm) (by rw[List.length_map];omega) ⟨ts++[t],by simp[lt],by simp,aR (Sm.trans S3) hL2,ag,mN (f:=λ_=>0) lt hts S3 hd t3 ex tL⟩
 rw[List.length_map]at p
 obtain⟨ts,lt,rfl,Sm,hd,hts⟩:=p
 refine i_nil ⟨L2,ts.map V.ref,_,rfl,SqL.of hd,by rw[List.length_map];omega,iW (f:=λ_=>0) lt hts,λN hN=>?_⟩
 rw[nk rnd]
 generalize hE:upd H5 N _=H6
 obtain⟨S6,hN6⟩:=aN hN hE
 clear hE
 have eN:dJ rs (λ_=>0)=cQ (rs.map λx=>(x,0)):=by unfold dJ cQ tm;rw[List.map_map,List.map_map];rfl
 rw[eN]at hN6
 have S16:ao H1 H6:=S13.trans (S4.trans (Sm.trans S6))
 have hLf6:H6 Lf=some (.dK (dJ xs λx=>((ap ins gs x).length:Int))):=(S4.trans (Sm.trans S6)) _ _ hLf3
 have hW6:H6 Wt=some (.lst (((rs.map λx=>((x,0):Str × Nat)).map (·.1)).map V.str)):=by
  rw[show (rs.map λx=>((x,0):Str × Nat)).map (·.1)=rs by rw[List.map_map];exact List.map_id _]
  exact(Sm.trans S6) _ _ hW4
 have Wt1:H1 Wt=none:=ao.free S13 hWt
 have N1:H1 N=none:=ao.free (S13.trans (S4.trans Sm)) hN
 have LW:Lf≠Wt:=λz=>by rw[z]at hLf3;rw[hWt]at hLf3;cases hLf3
 have LN:Lf≠N:=λz=>by rw[<-z,(S4.trans Sm) _ _ hLf3]at hN;cases hN
 have WN:Wt≠N:=λz=>by rw[<-z,Sm _ _ hW4]at hN;cases hN
 clear hts hd hW4 hLf3
 walk_at "w"
 refine⟨λm σ H'=>∃(a:Nat) (ps:List (Str × Nat)) (lf:Str->Int) (x6 x7:Option V),σ=[some (.ref F),some (.ref A),some (.ref Lf),some (.ref Wt),some (.ref N),some (.int (a:Int)),x6,x7]/\m=xs.length+1-a/\a<=ps.length/\jZ Lf Wt N H6 H'/\H' Lf=some (.dK (dJ xs lf))/\H' Wt=some (.lst ((ps.map (·.1)).map V.str))/\H' N=some (.dK (cQ ps))/\Cnt ins gs xs ps a [] lf,
  ⟨_,0,_,_,_,_,rfl,rfl,Nat.zero_le _,λb o e _ _ _=>e,hLf6,hW6,hN6,c0⟩,?_⟩
 rintro m σ H' ⟨a,ps,lf,x6,x7,rfl,rfl,ha,off,hLf',hW',hN',c⟩
 walk_at "w"
 rw[List.length_map,List.length_map]
 by_cases cn:a<ps.length
 case neg =>
  refine ifF (decide_eq_false (by omega)) ?_
  refine s_ret (i_var rfl (k N ps H' (λb u e=>off b u (S16 _ _ (S1 _ _ e)) (λz=>?_) (λz=>?_) λz=>?_) (ao.free S1 N1) hN' (c.fin (by omega))))
  ·rw[z,ao.free S1 Lf1]at e;cases e
  ·rw[z,ao.free S1 Wt1]at e;cases e
  ·rw[z,ao.free S1 N1]at e;cases e
 refine ifT (decide_eq_true (by omega)) ?_
 have fewp:=c.few
 refine⟨λσ' H''=>∃(ps:List (Str × Nat)) (lf:Str->Int) (x6 x7:Option V),σ'=[some (.ref F),some (.ref A),some (.ref Lf),some (.ref Wt),some (.ref N),some (.int ((a+1:Nat):Int)),x6,x7]/\a+1<=ps.length/\jZ Lf Wt N H6 H''/\H'' Lf=some (.dK (dJ xs lf))/\H'' Wt=some (.lst ((ps.map (·.1)).map V.str))/\H'' N=some (.dK (cQ ps))/\Cnt ins gs xs ps (a+1) [] lf,λσ' H'' h=>?_,?_⟩
 ·obtain⟨ps,lf,x6,x7,e1,e2,e3⟩:=h
  exact⟨xs.length+1-(a+1),by omega,a+1,ps,lf,x6,x7,e1,rfl,e2,e3⟩
 obtain⟨here,eh⟩:∃here,ps[a]?=some here:=⟨_,List.getElem?_eq_getElem cn⟩
 have hhere:=c.sub here (List.mem_of_getElem? eh)
 obtain⟨ix,hix,eix⟩:=List.mem_iff_getElem.mp hhere
 have ex:xs[ix]?=some here.1:=by rw[List.getElem?_eq_getElem hix,eix]
 obtain⟨b,eb⟩:∃b,bs[ix]?=some b:=⟨_,List.getElem?_eq_getElem (by omega)⟩
 obtain⟨_,hb1⟩:=hbs ix here.1 b ex eb
 have bL:b≠Lf:=λz=>by rw[z,Lf1]at hb1;cases hb1
 have bW:b≠Wt:=λz=>by rw[z,Wt1]at hb1;cases hb1
 have bN:b≠N:=λz=>by rw[z,N1]at hb1;cases hb1
 have AL:A≠Lf:=λz=>by rw[z,Lf1]at hA;cases hA
 have AW:A≠Wt:=λz=>by rw[z,Wt1]at hA;cases hA
 have AN:A≠N:=λz=>by rw[z,N1]at hA;cases hA
 have hb6:∀{H'':Hp},jZ Lf Wt N H6 H''->H'' b=some (.lst ((ahL (evs (ap ins gs) xs) here.1).map V.str)):=λo=>o b _ (S16 _ _ hb1) bL bW bN
 have hA6:∀{H'':Hp},jZ Lf Wt N H6 H''->H'' A=some (.dK (fdK (az xs) bs)):=λo=>o A _ (S16 _ _ hA) AL AW AN
 generalize hfull:ahL (evs (ap ins gs) xs) here.1=full at *
 with_reducible refine aP ?_
 refine s_asg (i_op (i_var rfl (i_var rfl (i_ixL (v:=.str here.1) (SqL.of hW') (bB (by rw[List.getElem?_map,List.getElem?_map,eh];rfl)) (s_name ?_)))))
 with_reducible refine aP ?_
 refine s_for (s_list (i_dget (i_var rfl (i_var rfl ⟨A,_,rfl,dU (.inl (hA6 off)) nd ex eb,b,rfl,⟨_,SqL.of (hb6 off)⟩,?_⟩))))
 refine dh (xs:=full.map V.str) (λi σ' H'=>∃(ps:List (Str × Nat)) (lf:Str->Int) (x7:Option V),σ'=[some (.ref F),some (.ref A),some (.ref Lf),some (.ref Wt),some (.ref N),some (.int (a:Int)),some (.str here.1),x7]/\jZ Lf Wt N H6 H'/\H' Lf=some (.dK (dJ xs lf))/\H' Wt=some (.lst ((ps.map (·.1)).map V.str))/\H' N=some (.dK (cQ ps))/\ps[a]?=some here/\Cnt ins gs xs ps a (full.take i) lf)
  ⟨ps,lf,_,rfl,off,hLf',hW',hN',eh,by rw[List.take_zero];exact c⟩ (λi σ' H' _ pv=>?_) (λi v σ' H' hv pv=>?_) (λσ' H' pv=>?_)
 ·obtain⟨_,_,_,_,o,_⟩:=pv
  exact SqL.of (hb6 o)
 ·obtain⟨ps,lf,x7,rfl,o,hLf',hW',hN',eh,c⟩:=pv
  rw[List.getElem?_map]at hv
  cases ef:full[i]? with
  | none=>rw[ef]at hv;cases hv
  | some y =>
  rw[ef]at hv
  cases hv
  have hi:i<full.length:=(List.getElem?_eq_some_iff.mp ef).1
  have es:full=full.take i++y::full.drop (i+1):=by
   rw[<-(List.getElem?_eq_some_iff.mp ef).2,<-List.drop_eq_getElem_cons hi,List.take_append_drop]
  have et:full.take (i+1)=full.take i++[y]:=by rw[List.take_succ,ef];rfl
  obtain⟨hy,ho,g1,g2⟩:=c.go met eh (hfull.trans es)
  rw[<-et]at g1 g2
  have fewp:=c.few
  refine s_name ?_
  with_reducible refine aP ?_
  have dgL:cq H' Lf (.str y) (some (.int (lf y))):=.inl ⟨_,Sum.inr y,.inl hLf',rfl,(gf (xs:=xs) lf hy).symm⟩
  refine wz (i_var rfl (i_var rfl ⟨Lf,_,rfl,dgL,i_c ⟨_,_,rfl,rfl,_,fV.k (k:=Sum.inr y) hLf' (by unfold dJ;rw[List.length_map];omega),?_⟩⟩))
  rw[tp (xs:=xs) lf _ hy]
  have hLf2:upd H' Lf (.dK (dJ xs λx=>if x=y then lf y-1 else lf x)) Lf=some (.dK (dJ xs λx=>if x=y then lf y-1 else lf x)):=ag
  have o2:jZ Lf Wt N H6 (upd H' Lf (.dK (dJ xs λx=>if x=y then lf y-1 else lf x))):=λb u e h1 h2 h3=>by rw[aj h1];exact o b u e h1 h2 h3
  have hW2:upd H' Lf (.dK (dJ xs λx=>if x=y then lf y-1 else lf x)) Wt=some (.lst ((ps.map (·.1)).map V.str)):=by rw[aj LW.symm];exact hW'
  have hN2:upd H' Lf (.dK (dJ xs λx=>if x=y then lf y-1 else lf x)) N=some (.dK (cQ ps)):=by rw[aj LN.symm];exact hN'
  generalize upd H' Lf (.dK (dJ xs λx=>if x=y then lf y-1 else lf x))=H7 at *
  have dgL2:cq H7 Lf (.str y) (some (.int (lf y-1))):=.inl ⟨_,Sum.inr y,.inl hLf2,rfl,by rw[gf (xs:=xs) _ hy,if_pos rfl]⟩
  refine s_if (i_test (i_op (i_dget (i_var rfl (i_var rfl ⟨Lf,_,rfl,dgL2,i_c (i_eq rfl ⟨_,rfl,?_⟩)⟩)))))
  by_cases cz:lf y-1=0
  ·refine ifT (by rw[cz];rfl) ?_
   have dgN:cq H7 N (.str here.1) (some (.int here.2)):=.inl ⟨_,Sum.inr here.1,.inl hN2,rfl,(ni c.nd (List.mem_of_getElem? eh)).symm⟩
   with_reducible refine aP ?_
   refine fL (i_op (i_dget (i_var rfl (i_var rfl ⟨N,_,rfl,dgN,i_c (i_rI0 (i_var rfl (i_var rfl ⟨N,_,rfl,fV.k (k:=Sum.inr y) hN2 (by have:=congrArg List.length (fz ps);unfold az at this;simp at this;omega),?_⟩)))⟩))))
   rw[show ((here.2:Int)+1)=((here.2+1:Nat):Int) from rfl,nj ho]
   have hW3:upd H7 N (.dK (cQ (ps++[(y,here.2+1)]))) Wt=some (.lst ((ps.map (·.1)).map V.str)):=by rw[aj WN];exact hW2
   refine s_drop (i_bm (i_var rfl ⟨i_tyL hW3,i_cons (i_var rfl (i_nil (dS hW3 (by rw[List.length_map,List.length_map];omega) ?_)))⟩))
   refine⟨ps++[(y,here.2+1)],_,_,rfl,λb u e h1 h2 h3=>by rw[aj h2,aj h3];exact o2 b u e h1 h2 h3,by rw[aj LW,aj LN];exact hLf2,by rw[ag];simp,by rw[aj WN.symm,ag],by rw[List.getElem?_append_left (List.getElem?_eq_some_iff.mp eh).1];exact eh,g1 cz⟩
  ·refine ifF (decide_eq_false λz=>cz (V.int.inj z)) ?_
   exact⟨ps,_,_,rfl,o2,hLf2,hW2,hN2,eh,g2 cz⟩
 ·obtain⟨ps,lf,x7,rfl,o,hLf',hW',hN',eh,c⟩:=pv
  rw[List.length_map,List.take_of_length_le (Nat.le_refl _),<-hfull]at c
  refine⟨_,rfl,i_c ⟨_,_,rfl,rfl,?_⟩⟩
  exact⟨ps,lf,_,_,by rw[show ((a+1:Nat):Int)=(a:Int)+1 from rfl];rfl,(List.getElem?_eq_some_iff.mp eh).1,o,hLf',hW',hN',c.turn met eh⟩
end
section
variable {os ss rs:List Str} {x y w h a r:Str}
theorem Run.trans {ps:List Str} (r:Run ins gs x os y) (q:Run ins gs y ps w):Run ins gs x (os++ps) w:=by
 induction r with
 | nil=>exact q
 | cons a b _ ih=>exact .cons a b (ih q)
theorem Run.rep (r:Run ins gs x os x):∀k,Run ins gs x (List.replicate k os).flatten x
 | 0=>.nil
 | k+1=>by rw[List.replicate_succ,List.flatten_cons];exact r.trans (r.rep k)
theorem Met.start (m:Met ins gs z xs):z∈xs:=List.mem_of_getElem? m.zero
theorem Met.runs (m:Met ins gs z xs) (r:Run ins gs x os y) (hx:x∈xs):y∈xs:=by
 induction r with
 | nil=>exact hx
 | cons a _ _ ih=>exact ih (m.closed hx a)
theorem Met.to (m:Met ins gs z xs) (hx:x∈xs):∃os,Run ins gs z os x:=by
 obtain⟨i,hi,e⟩:=List.mem_iff_getElem.mp hx
 obtain⟨ns,p,_⟩:=m.path i x (by rw[List.getElem?_eq_getElem hi,e])
 exact⟨ns,(m.run p).2⟩
theorem rZ {p:Str × Str} (st:StOk (au ins gs).length h) (hp:p∈ap ins gs h):p.2.cps.toList.take ins.length=h.cps.toList.take ins.length:=by
 obtain⟨i,h1,h2,e,_⟩:=mv hp
 rw[e,turn_list st (by rw[bX];exact h2),List.take_append_of_le_length,List.take_take,Nat.min_eq_left h1]
 have:=st.len
 have hl:h.cps.toList.length=h.cps.size:=Array.length_toList
 rw[bX]at this
 rw[List.length_take]
 omega
theorem Met.pre (m:Met ins gs z xs) (hx:x∈xs):x.cps.toList.take ins.length=z.cps.toList.take ins.length:=by
 obtain⟨os,r⟩:=m.to hx
 have st:=m.st z m.start
 clear hx m
 induction r with
 | nil=>rfl
 | cons a b _ ih=>exact(ih b).trans (rZ st a)
theorem Met.few7 (m:Met ins gs z xs) (ok:NetOk ins gs):xs.length<=128:=by
 have nd:(xs.map λx=>x.cps.toList.drop ins.length).Nodup:=by
  rw[List.Nodup,List.pairwise_map]
  refine List.Pairwise.imp_of_mem (λ{a b} ha hb n e=>n ?_) m.nd
  have:a.cps.toList=b.cps.toList:=by
   rw[<-List.take_append_drop ins.length a.cps.toList,<-List.take_append_drop ins.length b.cps.toList,m.pre ha,m.pre hb,e]
  cases a;cases b
  simpa using this
 have:=Bf.pigeon _ (l9 gs.length) nd λl hl=>by
  obtain⟨x,hx,rfl⟩:=List.mem_map.mp hl
  have st:=m.st x hx
  refine jF _ _ ?_ λc hc=>st.signs c (List.mem_of_mem_drop hc)
  rw[List.length_drop,Array.length_toList,st.len,bX]
  omega
 rw[List.length_map,jG]at this
 have h2:2 ^ gs.length<=2 ^ 7:=Nat.pow_le_pow_right (by decide) ok.g7
 have h3:(2:Nat) ^ 7=128:=by decide
 omega
theorem dI.calm {n:Nat} {ps:List Str} (l:dI ins gs h n) (r:Run ins gs h os a) (q:Run ins gs a ps a):ps=[]:=by
 cases ps with
 | nil=>rfl
 | cons p ps =>
  have:=l.1 _ _ (r.trans (q.rep (n+1)))
  rw[List.length_append,uQ,List.length_cons]at this
  have:n+1<=(n+1)*(ps.length+1):=Nat.le_mul_of_pos_right _ (by omega)
  omega
theorem Run.seen (r:Run ins gs h os y):(∀a ps qs,Run ins gs h ps a->Run ins gs a qs a->qs=[])->∃as:List Str,as.length=os.length+1/\as.Nodup/\∀a∈as,∃ps,Run ins gs h ps a:=by
 induction r with
 | nil=>exact λ_=>⟨[_],rfl,by simp,λa ha=>by rw[List.mem_singleton]at ha;rw[ha];exact⟨[],.nil⟩⟩
 | @cons z y w n os m st r ih =>
  intro c
  obtain⟨as,h1,h2,h3⟩:=ih λa ps qs r1 r2=>c a (n::ps) qs (.cons m st r1) r2
  refine⟨z::as,by simp[h1],List.nodup_cons.mpr ⟨λhz=>?_,h2⟩,λa ha=>?_⟩
  ·obtain⟨ps,q⟩:=h3 z hz
   exact nomatch (c z [] (n::ps) .nil (.cons m st q))
  ·rcases List.mem_cons.mp ha with rfl|ha
   ·exact⟨[],.nil⟩
   ·obtain⟨ps,q⟩:=h3 a ha
    exact⟨n::ps,.cons m st q⟩
theorem dI.lt (m:Met ins gs z xs) {n:Nat} (l:dI ins gs z n) (r:Run ins gs z os y):os.length<xs.length:=by
 obtain⟨as,h1,h2,h3⟩:=r.seen λa ps qs r1 r2=>l.calm r1 r2
 have:=Bf.pigeon as xs h2 λa ha=>by
  obtain⟨ps,q⟩:=h3 a ha
  exact m.runs q m.start
 omega
theorem dI.stop {n:Nat} (l:dI ins gs h n) (st:StOk (au ins gs).length h):∃os y,Run ins gs h os y/\ap ins gs y=[]:=by
 obtain⟨l1,os,y,r,e⟩:=l
 refine⟨os,y,r,?_⟩
 cases q:ap ins gs y with
 | nil=>rfl
 | cons p ps =>
  have hp:p∈ap ins gs y:=by rw[q];simp
  have sy:StOk (au ins gs).length y:=by
   clear e q hp l1
   induction r with
   | nil=>exact st
   | cons _ b _ ih=>exact ih b
  have:=l1 _ _ (r.snoc (n:=p.1) (w:=p.2) hp (mo sy hp))
  rw[List.length_append,List.length_singleton]at this
  omega
variable {ps:List (Str × Nat)}
theorem NumOk.on (m:Met ins gs z xs) (o:NumOk ins gs xs ps):∀(k:Nat) h,h∈xs->h∉ps.map (·.1)->∃os y,Run ins gs h os y/\os.length=k
 | 0,h,_,_=>⟨[],h,.nil,rfl⟩
 | k+1,h,hh,ho=>by
  obtain⟨p,hp,hn⟩:=o.out h hh ho
  obtain⟨os,y,r,e⟩:=o.on m k p.2 (m.closed hh hp) hn
  exact⟨p.1::os,y,.cons hp (m.st _ (m.closed hh hp)) r,by rw[List.length_cons,e]⟩
theorem NumOk.iff (m:Met ins gs z xs) (o:NumOk ins gs xs ps) (hh:h∈xs):h∈ps.map (·.1)↔∃n,∀os y,Run ins gs h os y->os.length<=n:=by
 refine⟨λhm=>?_,λ⟨n,l⟩=>Decidable.byContradiction λho=>?_⟩
 ·obtain⟨p,hp,rfl⟩:=List.mem_map.mp hm
  exact⟨p.2,(o.long p hp).1⟩
 ·obtain⟨os,y,r,e⟩:=o.on m (n+1) h hh ho
  have:=l os y r
  omega
def nI (ins:List Str) (gs:List (Str × Rl)) (z r:Str):Prop:=∃xs,Met ins gs z xs/\(∀x,x∈xs/\ap ins gs x=[]↔x=r)/\∃n,dI ins gs z n
theorem NumOk.long_of (m:Met ins gs z xs) (o:NumOk ins gs xs ps) (hh:h∈xs):h∈ps.map (·.1)↔∃n,dI ins gs h n:=by
 refine⟨λhm=>?_,λ⟨n,l⟩=>(o.iff m hh).mpr ⟨n,l.1⟩⟩
 obtain⟨p,hp,rfl⟩:=List.mem_map.mp hm
 exact⟨p.2,o.long p hp⟩
theorem fq (m:Met ins gs z xs) (pm:ss.Perm xs):(ss.filter λh=>decide ((ap ins gs h).length=0)).Nodup/\∀x,x∈(ss.filter λh=>decide ((ap ins gs h).length=0))↔x∈xs/\ap ins gs x=[]:=by
 refine⟨(pm.nodup_iff.mpr m.nd).filter _,λx=>?_⟩
 rw[List.mem_filter,pm.mem_iff,decide_eq_true_iff,List.length_eq_zero_iff]
theorem ku {α:Type} {rs:List α} {r:α} (nd:rs.Nodup) (h:∀x,x∈rs↔x=r):rs=[r]:=by
 cases rs with
 | nil=>exact absurd ((h r).mpr rfl) (by simp)
 | cons a t =>
  have ea:=(h a).mp (by simp)
  subst ea
  cases t with
  | nil=>rfl
  | cons b t =>
   have eb:=(h b).mp (by simp)
   subst eb
   simp at nd
theorem sw (nd:rs.Nodup) (h:∀x,x∈rs↔x=r):rs=[r]:=ku nd h
end
theorem A1 {T:String} {r:V->List V->Hp->VK->Prop} {to:TE} (q:to σ H λx H1=>tyV K T x H1/\r x [] H1 Q):xL K T r to σ H Q:=q
theorem sZ (ok:NetOk ins gs) (st:StOk (au ins gs).length z):∃xs,Met ins gs z xs:=by
 have w11:(au ins gs).length<=11:=by rw[bX];have:=ok.i4;have:=ok.g7;omega
 have few:∀n,(Bf.bfs (nxK (stN ins gs)) (Sum.inr z) n).length<=2048:=λn=>gd w11 (Bf.bV n) λx hx=>e_ st (Bf.cH n x hx)
 have:∀n,(∃k,(Bf.bfs (nxK (stN ins gs)) (Sum.inr z) k).length=k)\/n<(Bf.bfs (nxK (stN ins gs)) (Sum.inr z) n).length:=λn=>by
  induction n with
  | zero=>exact .inr (by simp[Bf.bfs])
  | succ n ih =>
   rcases ih with h|h
   ·exact .inl h
   ·have:=(Bf.jC (nx:=nxK (stN ins gs)) (s:=Sum.inr z) n).length_le
    rcases Nat.lt_or_ge (n+1) (Bf.bfs (nxK (stN ins gs)) (Sum.inr z) (n+1)).length with l|l
    ·exact .inr l
    ·exact .inl ⟨n+1,by omega⟩
 rcases this 2048 with⟨k,h⟩|h
 ·obtain⟨xs,_,_,m,_⟩:=sY ok st h
  exact⟨xs,m⟩
 ·have:=few 2048
  omega
def WD (H:Hp) (F:Addr) (ins:List Str) (gs:List (Str × Rl)) (ys:List Str) (ls:List Addr):Prop:=H F=some (.dK (fdK (az ys) ls))/\ls.length=ys.length/\∀(i:Nat) y l,ys[i]?=some y->ls[i]?=some l->H l=some (.lst ((nxS ins gs y).map V.str))
def nP:Sp:=λvs H Q _=>∃a li lg ins gvs gs z,vs=[.ref a,.str z]/\NAt H a li lg ins gvs gs/\NetOk ins gs/\StOk (au ins gs).length z /\
 ∀(F:Addr) (ys xs:List Str) (ls:List Addr) (H':Hp),ao H H'->H F=none->Met ins gs z xs->ys.Perm xs->WD H' F ins gs ys ls->Q (.ref F) H'
structure WI (ins:List Str) (gs:List (Str × Rl)) (z:Str) (xs ys ln:List Str):Prop where
 nd:ys.Nodup
 sub:∀y,y∈ys\/y∈ln->y∈xs
 start:z∈ys\/z∈ln
 cl:∀y∈ys,∀p∈ap ins gs y,p.2∈ys\/p.2∈ln
section
variable {ins:List Str} {gs:List (Str × Rl)} {z:Str} {xs ys ln:List Str}
theorem WI.fin (m:Met ins gs z xs) (w:WI ins gs z xs ys []):ys.Perm xs:=by
 refine(List.perm_ext_iff_of_nodup w.nd m.nd).mpr λx=>⟨λh=>w.sub x (.inl h),λh=>?_⟩
 obtain⟨os,r⟩:=m.to h
 have hz:z∈ys:=w.start.resolve_right (by simp)
 have cl:∀y∈ys,∀p∈ap ins gs y,p.2∈ys:=λy hy p hp=>(w.cl y hy p hp).resolve_right (by simp)
 clear h w m
 induction r with
 | nil=>exact hz
 | cons a _ _ ih=>exact ih (cl _ hz _ a)
theorem WI.old {h:Str} (w:WI ins gs z xs ys (ln++[h])) (hh:h∈ys):WI ins gs z xs ys ln:=by
 have f:∀x,x∈ys\/x∈ln++[h]->x∈ys\/x∈ln:=λx q=>by
  rcases q with q|q
  ·exact .inl q
  ·rcases List.mem_append.mp q with q|q
   ·exact .inr q
   ·rw[List.mem_singleton]at q;rw[q];exact .inl hh
 exact⟨w.nd,λy q=>w.sub y (q.imp id λq=>List.mem_append_left _ q),f z w.start,λy hy p hp=>f _ (w.cl y hy p hp)⟩
theorem WI.new {h:Str} (m:Met ins gs z xs) (w:WI ins gs z xs ys (ln++[h])) (hh:h∉ys):WI ins gs z xs (ys++[h]) (ln++nxS ins gs h):=by
 have hx:h∈xs:=w.sub h (.inr (by simp))
 have f:∀x,x∈ys\/x∈ln++[h]->x∈ys++[h]\/x∈ln++nxS ins gs h:=λx q=>by
  rcases q with q|q
  ·exact .inl (List.mem_append_left _ q)
  ·rcases List.mem_append.mp q with q|q
   ·exact .inr (List.mem_append_left _ q)
   ·exact .inl (List.mem_append_right _ q)
 have hn:∀{y},y∈nxS ins gs h->y∈xs:=λ{y} q=>by
  obtain⟨p,hp,rfl⟩:=List.mem_map.mp q
  exact m.closed hx hp
 refine⟨List.nodup_append.mpr ⟨w.nd,by simp,λa ha b hb q=>hh (by rw[List.mem_singleton]at hb;rw[<-hb,<-q];exact ha)⟩,λy q=>?_,f z w.start,λy hy p hp=>?_⟩
 ·rcases q with q|q
  ·rcases List.mem_append.mp q with q|q
   ·exact w.sub y (.inl q)
   ·rw[List.mem_singleton]at q;rw[q];exact hx
  ·rcases List.mem_append.mp q with q|q
   ·exact w.sub y (.inr (List.mem_append_left _ q))
   ·exact hn q
 ·rcases List.mem_append.mp hy with q|q
  ·exact f _ (w.cl y q p hp)
  ·rw[List.mem_singleton]at q
   subst q
   exact .inr (List.mem_append_right _ (List.mem_map.mpr ⟨p,hp,rfl⟩))
end
section
theorem mD:FnScope ["net", "standing", "found", "line", "here"] ["net", "standing"] (ay (top 36)):=by walk_at "k"
theorem uE {f:Addr} {fd:FuncData} (Fu:Fun K "_law_ways" "_law_ways" (top 36) f fd) (T:Txt K mg TT) (f_law_asked:Fn P w K mg base "_law_asked" ["net", "standing"] 11 c9):FnOk P w K mg base CX0 12 f fd ["net", "standing"] nP:=by
 have S:=mD
 refine Fu.ok S (by walk_at "l") (λcdv A outer s H vs Q E hr h=>?_)
 obtain⟨a,li,lg,ins,gvs,gs,z,rfl,NA,ok,st,k⟩:=h
 have hu:=de hr
 refine'⟨?_,?bb,?_⟩
 case bb =>
  refine' ad ?s1 ?r1
  case s1 =>
   refine' aA 2 S.nd ?e
   case e=>exact d_
  case r1 =>
   refine' ad ?s3 ?r3
   case s3 =>
    refine' aA 3 S.nd ?e
    case e=>exact(bd (aa (pv 1) af ai))
   case r3 =>
    refine' ad ?s5 ?r5
    case s5 =>
     refine' dD PassesOwn.never ?c6 ?b6
     case c6=>exact(aC (i0 hr.units) (pv 3) (bd af) (aI _))
     case b6 =>
      refine' ad ?s7 ?r7
      case s7 =>
       refine' aA 4 S.nd ?e
       case e=>exact(wJ PySem.F.plainAttrs_list PySem.F.slot_list_pop PySem.F.type_list_pop xa (pv 3))
      case r7 =>
       refine' am ?s9
       case s9 =>
        refine' bg ?c10 ?a10 ?o10
        case c10=>exact(iV (fu hu (pv 4) (pv 2)))
        case a10 =>
         refine' ad ?s11 ?r11
         case s11 =>
          exact(eF hu (pv 2) (pv 4) (fc (tgs:=["name", "there"]) (cap:=[]) rfl ⟨rfl,rfl,rfl,rfl,rfl,rfl⟩ (bD (aU f_law_asked hr (aa (pv 0) (aa (pv 4) af ai) ai))) (λ_ _ _ _=>(lM (K:=K) (n:=2) rfl rfl (bp (bt (i:=0) (show List.Nodup [("name" : Str),("there" : Str)] by decide +kernel) rfl (by walk_at "o")) (bp (bt (i:=1) (show List.Nodup [("name" : Str),("there" : Str)] by decide +kernel) rfl (by walk_at "o")) dO)))) (λ_ _ _ _=>b_) (λ_ _ _ _=>(pv 1))) rfl)
         case r11 =>
          refine' am ?s13
          case s13 =>
           refine' aA 3 S.nd ?e
           case e=>exact(av gN (pv 3) (bA hu (pv 2) (pv 4) (λ_ _=>rfl)))
        case o10 =>
         exact aM
    case r5 =>
     refine' am ?s15
     case s15 =>
      exact(aF (pv 2))
 walk_at "e"
 obtain⟨xs,met⟩:=sZ ok st
 have few:=met.few7 ok
 have g7:=ok.g7
 refine aP (s_asg ?_)
 intro F hF
 refine s_name ?_
 generalize hE:upd H F _=H1
 obtain⟨S1,q1⟩:=aN hF hE
 clear hE
 with_reducible refine aP ?_
 refine s_asg (i_lst (i_cons (i_var rfl (i_nil ⟨by simp[sizeLine],λL0 hL0=>s_name ?_⟩))))
 generalize hE:upd H1 L0 _=H2
 obtain⟨S2,q2⟩:=aN hL0 hE
 clear hE
 with_reducible refine aP ?_
 refine⟨λm σ H'=>∃(ys ln:List Str) (ls:List Addr) (Ln:Addr) (x4:Option V),σ=[some (.ref a),some (.str z),some (.ref F),some (.ref Ln),x4]/\m=8*(129-ys.length)+ln.length/\ao H H'/\WD H' F ins gs ys ls/\H' Ln=some (.lst (ln.map V.str))/\H Ln=none/\Ln∉ls/\ln.length<=8*ys.length+1/\WI ins gs z xs ys ln,
  ⟨_,[],[z],[],L0,_,rfl,rfl,S1.trans S2,⟨S2 _ _ q1,rfl,λi y l e=>(nomatch e)⟩,q2,ao.free S1 hL0,by simp,by simp,by simp,λy q=>by rw[List.mem_singleton.mp (q.resolve_left (by simp))];exact met.start,.inr (by simp),λy q=>(nomatch q)⟩,?_⟩
 rintro m σ H' ⟨ys,ln,ls,Ln,x4,rfl,rfl,SH,⟨hF',lls,hls⟩,hLn,hLn0,nLn,lln,wi⟩
 have lys:ys.length<=xs.length:=Bf.pigeon _ _ wi.nd λy hy=>wi.sub y (.inl hy)
 have FL:F≠Ln:=λe=>by rw[e,hLn]at hF';cases hF'
 refine i_test (i_op (i_var rfl (i_lst (i_nil ⟨by simp[sizeLine],λp hp=>?_⟩))))
 generalize hE:upd H' p _=H3
 obtain⟨S3,q3⟩:=aN hp hE
 clear hE
 refine⟨Ln,p,ln.map V.str,[],λ_=>true,rfl,rfl,SqL.of (S3 _ _ hLn),SqL.of q3,(λj x y _ h=>by simp at h),⟨_,rfl,?_⟩⟩
 have hLn3:=S3 _ _ hLn
 have hF3:=S3 _ _ hF'
 have SH3:=SH.trans S3
 have hls3:∀(i:Nat) y l,ys[i]?=some y->ls[i]?=some l->H3 l=some (.lst ((nxS ins gs y).map V.str)):=λi y l e1 e2=>S3 _ _ (hls i y l e1 e2)
 clear hls hF' hLn SH hp q3 S3
 rcases List.eq_nil_or_concat ln with rfl|⟨l0,h,rfl⟩
 ·refine iteF ?_
  exact s_ret (i_var rfl (k F ys xs ls H3 SH3 hF met (wi.fin met) ⟨hF3,lls,hls3⟩))
 rw[List.concat_eq_append] at *
 refine ifT (by simp) ⟨_,λ_ _ h=>h,?_⟩
 with_reducible refine aP ?_
 refine s_asg (A1 (i_var rfl ⟨i_tyL hLn3,Ln,_,.str h,rfl,rfl,hLn3,by simp,s_name ?_⟩))
 rw[show ((l0++[h]).map V.str).dropLast=l0.map V.str by simp]
 have hLn4:upd H3 Ln (.lst (l0.map V.str)) Ln=some (.lst (l0.map V.str)):=ag
 have hF4:upd H3 Ln (.lst (l0.map V.str)) F=some (.dK (fdK (az ys) ls)):=by rw[aj FL];exact hF3
 have SH4:ao H (upd H3 Ln (.lst (l0.map V.str))):=aR SH3 hLn0
 have hls4:∀(i:Nat) y l,ys[i]?=some y->ls[i]?=some l->upd H3 Ln (.lst (l0.map V.str)) l=some (.lst ((nxS ins gs y).map V.str)):=λi y l e1 e2=>by rw[aj λe=>nLn (by rw[<-e];exact List.mem_of_getElem? e2)];exact hls3 i y l e1 e2
 generalize upd H3 Ln (.lst (l0.map V.str))=H4 at *
 rw[List.length_append,List.length_singleton]at lln
 have hx:h∈xs:=wi.sub h (.inr (by simp))
 have dg:cq H4 F (.str h) (bh (fdK (az ys) ls) (Sum.inr h)):=.inl ⟨_,Sum.inr h,.inl hF4,rfl,rfl⟩
 refine s_if (i_test (fg (i_var rfl (i_var rfl ⟨F,_,rfl,dg,_,rfl,?_⟩))))
 by_cases c:h∈ys
 ·refine ifF ?_ ?_
  ·cases q:bh (fdK (az ys) ls) (Sum.inr h) with
   | none=>exact absurd c ((pR (by omega)).mp q)
   | some _=>rfl
  exact⟨8*(129-ys.length)+l0.length,by simp,ys,l0,ls,Ln,_,rfl,rfl,SH4,⟨hF4,lls,hls4⟩,hLn4,hLn0,nLn,by omega,wi.old c⟩
 ·have hvn:=(pR (ls:=ls) (by omega)).mpr c
  refine ifT (by rw[hvn];rfl) ?_
  have sth:=met.st h hx
  with_reducible refine aP ?_
  refine fL (cB (s_list (i_call (i_cons (i_var rfl (i_cons (i_var rfl (i_nil ⟨a,li,lg,ins,gvs,gs,h,rfl,NA.same SH4,ok,sth,λl vs H5 S5 hl0 hl5 pr5=>⟨l,rfl,⟨_,SqL.of hl5⟩,λL hL=>?_⟩⟩))))))))
  have lv:=aK pr5
  have l7:=cA ins gs h
  refine eB (xs:=vs) (λm H' ys=>ao H5 H'/\H' L=some (.lst ys)/\ys=((nxS ins gs h).take m).map V.str) ⟨ak hL,ag,by simp⟩ (λm H' ys p=>⟨p.2.1,SqL.of (p.1 _ _ hl5)⟩) (λm v H' ys e p=>?_) (λH6 us p=>?_)
  ·obtain⟨Sm,hd,rfl⟩:=p
   obtain⟨p,hp,b,rfl,hb⟩:=cE pr5 m v e
   have hm:m<vs.length:=(List.getElem?_eq_some_iff.mp e).1
   refine⟨b,_,rfl,SqT.of (Sm _ _ hb),rfl,?_⟩
   refine⟨_,_,rfl,s_name ⟨_,_,rfl,s_name ⟨rfl,by repeat' (first|exact trivial|refine⟨rfl,?_⟩),i_yes (iteT ?_)⟩⟩⟩
   refine i_var rfl (ck.mk hd hm (by rw[List.length_map,List.length_take];omega) ⟨aR Sm hL,ag,?_⟩)
   have:(nxS ins gs h)[m]?=some p.2:=by unfold nxS;rw[List.getElem?_map,hp];rfl
   rw[List.take_succ,this,List.map_append];rfl
  ·obtain⟨Sm,hd,rfl⟩:=p
   have ln:(nxS ins gs h).length=vs.length:=by unfold nxS;rw[List.length_map,lv]
   rw[List.take_of_length_le (by omega)]at hd
   have S46:=S5.trans Sm
   have hF6:=S46 _ _ hF4
   have hLn6:=S46 _ _ hLn4
   have L4:H4 L=none:=ao.free S5 hL
   refine i_var rfl (i_var rfl ⟨F,_,rfl,fV.k (k:=Sum.inr h) hF6 (by have:=ip (xs:=az ys) (as:=ls) (by unfold az;rw[List.length_map];omega);omega),?_⟩)
   rw[c_ _ hvn,show fdK (az ys) ls++[(Sum.inr h,V.ref L)]=fdK (az (ys++[h])) (ls++[L]) by unfold fdK az;rw[List.map_append,List.zip_append (by rw[List.length_map];omega),List.map_append];rfl]
   have FLh:F≠L:=λe=>by rw[<-e,hF4]at L4;cases L4
   have LnL:Ln≠L:=λe=>by rw[<-e,hLn4]at L4;cases L4
   have hF7:upd H6 F (.dK (fdK (az (ys++[h])) (ls++[L]))) F=some (.dK (fdK (az (ys++[h])) (ls++[L]))):=ag
   have hL7:upd H6 F (.dK (fdK (az (ys++[h])) (ls++[L]))) L=some (.lst ((nxS ins gs h).map V.str)):=by rw[aj FLh.symm];exact hd
   have hLn7:upd H6 F (.dK (fdK (az (ys++[h])) (ls++[L]))) Ln=some (.lst (l0.map V.str)):=by rw[aj FL.symm];exact hLn6
   have hls7:∀(i:Nat) y l,(ys++[h])[i]?=some y->(ls++[L])[i]?=some l->upd H6 F (.dK (fdK (az (ys++[h])) (ls++[L]))) l=some (.lst ((nxS ins gs y).map V.str)):=λi y l e1 e2=>by
    by_cases ci:i<ys.length
    ·rw[List.getElem?_append_left ci]at e1
     rw[List.getElem?_append_left (by omega)]at e2
     have:=hls4 i y l e1 e2
     rw[aj λe=>by rw[e,hF4]at this;cases this]
     exact S46 _ _ this
    ·have ei:i=ys.length:=by
      have:=(List.getElem?_eq_some_iff.mp e1).1
      simp at this
      omega
     subst ei
     rw[List.getElem?_append_right (Nat.le_refl _),Nat.sub_self]at e1
     rw[List.getElem?_append_right (by omega),lls,Nat.sub_self]at e2
     cases e1;cases e2
     exact hL7
   have SH7:ao H (upd H6 F (.dK (fdK (az (ys++[h])) (ls++[L])))):=aR (SH4.trans S46) hF
   generalize upd H6 F (.dK (fdK (az (ys++[h])) (ls++[L])))=H7 at *
   have w2:=wi.new met c
   have nd2:=w2.nd
   have lls2:(ls++[L]).length=(ys++[h]).length:=by simp[lls]
   have dg7:cq H7 F (.str h) (some (.ref L)):=dU (.inl hF7) nd2 (i:=ys.length) (by simp) (by rw[<-lls];simp)
   refine s_asg (i_op (i_var rfl (i_dget (i_var rfl (i_var rfl ⟨F,_,rfl,dg7,kG hLn7 hL7 (by rw[List.length_map,List.length_map];omega) λN hN=>s_name ?_⟩)))))
   generalize hE:upd H7 N _=H8
   obtain⟨S8,q8⟩:=aN hN hE
   clear hE
   refine⟨8*(129-(ys++[h]).length)+(l0++nxS ins gs h).length,?_,ys++[h],l0++nxS ins gs h,ls++[L],N,_,rfl,rfl,SH7.trans S8,⟨S8 _ _ hF7,lls2,λi y l e1 e2=>S8 _ _ (hls7 i y l e1 e2)⟩,by rw[q8,List.map_append],ao.free SH7 hN,λhm=>?_,?_,w2⟩
   ·have:(ys++[h]).length<=xs.length:=Bf.pigeon _ _ nd2 λy hy=>w2.sub y (.inl hy)
    rw[List.length_append,List.length_singleton]at this
    simp only[List.length_append,List.length_singleton]
    omega
   ·obtain⟨i,hi,ei⟩:=List.mem_iff_getElem.mp hm
    have:=hls7 i ((ys++[h])[i]'(by omega)) N (List.getElem?_eq_getElem _) (by rw[List.getElem?_eq_getElem hi,ei])
    rw[hN]at this;cases this
   ·simp only[List.length_append,List.length_singleton]
    omega
end
section
variable {os hs ks:List Str}
theorem Run.last {x w:Str} (r:Run ins gs x os w):os=[]\/∃ps y n,Run ins gs x ps y/\ps.length+1=os.length/\(n,w)∈ap ins gs y:=by
 induction r with
 | nil=>exact .inl rfl
 | @cons z y w n os a b r ih =>
  refine .inr ?_
  rcases ih with e|⟨ps,y',n',r',l,s⟩
  ·subst e
   cases r
   exact⟨[],z,n,.nil,rfl,a⟩
  ·exact⟨n::ps,y',n',.cons a b r',by simp[l],s⟩
theorem Run.cut {x w:Str} (r:Run ins gs x os w):∀k,k<=os.length->∃y,Run ins gs x (os.take k) y:=by
 induction r with
 | nil=>exact λk h=>⟨_,by rw[List.take_nil];exact .nil⟩
 | cons a b _ ih =>
  intro k h
  cases k with
  | zero=>exact⟨_,.nil⟩
  | succ k =>
   obtain⟨y,r'⟩:=ih k (by simpa using h)
   exact⟨y,.cons a b r'⟩
theorem pL:∀n,(∀os y,Run ins gs z os y->os.length<=n)->∃m,dI ins gs z m
 | 0,h=>⟨0,h,[],z,.nil,rfl⟩
 | n+1,h=>by
  by_cases c:∃os y,Run ins gs z os y/\os.length=n+1
  ·exact⟨n+1,h,c⟩
  ·refine pL n λos y r=>?_
   have:=h os y r
   have:os.length≠n+1:=λe=>c ⟨os,y,r,e⟩
   omega
def LvI (ins:List Str) (gs:List (Str × Rl)) (z:Str) (k:Nat) (hs:List Str):Prop:=hs.Nodup/\∀x,x∈hs↔∃os,os.length=k/\Run ins gs z os x
theorem LvI.next {k:Nat} (m:Met ins gs z xs) (l:LvI ins gs z k hs) (nd:ks.Nodup) (h:∀x,x∈ks↔∃y∈hs,x∈nxS ins gs y):LvI ins gs z (k+1) ks:=by
 refine⟨nd,λx=>(h x).trans ⟨λ⟨y,hy,hx⟩=>?_,λ⟨os,e,r⟩=>?_⟩⟩
 ·obtain⟨os,e,r⟩:=(l.2 y).mp hy
  obtain⟨p,hp,rfl⟩:=List.mem_map.mp hx
  exact⟨os++[p.1],by simp[e],r.snoc hp (m.st _ (m.closed (m.runs r m.start) hp))⟩
 ·rcases r.last with e0|⟨ps,y,n,r',e',s⟩
  ·rw[e0]at e;cases e
  ·exact⟨y,(l.2 y).mpr ⟨ps,by omega,r'⟩,List.mem_map.mpr ⟨_,s,rfl⟩⟩
theorem LvI.end {k:Nat} (l:LvI ins gs z (k+1) []):∃n,dI ins gs z n:=by
 refine pL k λos y r=>Nat.le_of_not_lt λh=>?_
 obtain⟨w,r'⟩:=r.cut (k+1) h
 exact absurd ((l.2 w).mpr ⟨_,by rw[List.length_take];omega,r'⟩) (by simp)
theorem LvI.few {k:Nat} (m:Met ins gs z xs) (l:LvI ins gs z k hs):hs.length<=xs.length/\∀x∈hs,x∈xs:=by
 have:∀x∈hs,x∈xs:=λx hx=>by
  obtain⟨os,_,r⟩:=(l.2 x).mp hx
  exact m.runs r m.start
 exact⟨Bf.pigeon _ _ l.1 this,this⟩
end
theorem rT (kvs:List (Key × V)) (k:Key) (v:V):(bI kvs k v).length<=kvs.length+1:=by
 unfold bI
 split <;> simp
theorem xc (ks:List Str) (x:Str):bI (knK (az ks)) (Sum.inr x) (.bl true)=knK (az (Bf.a9 ks [x])):=by
 by_cases c:x∈ks
 ·rw[Bf.jI c]
  have hm:(Sum.inr x:Key)∈az ks:=List.mem_map.mpr ⟨x,c,rfl⟩
  unfold bI
  rw[cK]
  cases q:bh (knK (az ks)) (Sum.inr x) with
  | none=>exact absurd hm (io.mp q)
  | some v =>
   rw[Option.isSome_some,if_pos rfl]
   unfold knK
   rw[List.map_map]
   refine List.map_congr_left λy _=>?_
   by_cases e:y=Sum.inr x
   ·subst e;simp
   ·simp[e]
 ·rw[Bf.jH c,c_ _ (io.mpr λq=>by obtain⟨y,hy,e⟩:=List.mem_map.mp q;cases e;exact c hy)]
  unfold knK az
  simp
def iJ:Sp:=λvs H Q _=>∃(F:Addr) (ins:List Str) (gs:List (Str × Rl)) (z:Str) (ys xs:List Str) (ls:List Addr),vs=[.ref F,.str z]/\WD H F ins gs ys ls/\Met ins gs z xs/\NetOk ins gs/\ys.Perm xs /\
 (∀d H',ao H H'->(∃n,dI ins gs z n)->Q (.ref d) H')/\(∀H',ao H H'->(¬∃n,dI ins gs z n)->Q .non H')
section
theorem jS:FnScope ["ways", "standing", "found", "here", "k", "ahead", "one", "there"] ["ways", "standing"] (ay (top 37)):=by walk_at "k"
theorem qI {f:Addr} {fd:FuncData} (Fu:Fun K "_law_levels" "_law_levels" (top 37) f fd) (T:Txt K mg TT):FnOk P w K mg base CX0 1 f fd ["ways", "standing"] iJ:=by
 have S:=jS
 refine Fu.ok S (by walk_at "l") (λcdv A outer s H vs Q E hr h=>?_)
 obtain⟨F,ins,gs,z,ys,xs,ls,rfl,⟨hF,lls,hls⟩,met,ok,pm,k1,k2⟩:=h
 have hu:=de hr
 refine'⟨?_,?bb,?_⟩
 case bb =>
  refine' ad ?s1 ?r1
  case s1 =>
   refine' aA 2 S.nd ?e
   case e=>exact d_
  case r1 =>
   refine' ad ?s3 ?r3
   case s3 =>
    refine' aA 3 S.nd ?e
    case e=>exact(bd (aa (pv 1) af ai))
   case r3 =>
    refine' ad ?s5 ?r5
    case s5 =>
     refine' bP PassesOwn.never rfl ?i6 ?g6 ?b6 ?h6
     case h6=>intro _;rfl
     case i6=>exact(cg (by rfl) T.n_range (aa (av aV (aH rg (by rfl) T.n_len PySem.boot_len (aa (pv 0) af ai)) ae) af))
     case g6=>exact(bU 4 S.nd)
     case b6 =>
      refine' ad ?s7 ?r7
      case s7 =>
       refine' aA 5 S.nd ?e
       case e=>exact d_
      case r7 =>
       refine' ad ?s9 ?r9
       case s9 =>
        refine' bP PassesOwn.never rfl ?i10 ?g10 ?b10 ?h10
        case h10=>intro _;rfl
        case i10=>exact(bD (pv 3))
        case g10=>exact(bU 6 S.nd)
        case b10 =>
         refine' ad ?s11 ?r11
         case s11 =>
          exact(eF hu (pv 2) (pv 6) (pv 4) rfl)
         case r11 =>
          refine' am ?s13
          case s13 =>
           refine' bP PassesOwn.never rfl ?i14 ?g14 ?b14 ?h14
           case h14=>intro _;rfl
           case i14=>exact(bD (bA hu (pv 0) (pv 6) (λ_ _=>rfl)))
           case g14=>exact(bU 7 S.nd)
           case b14 =>
            refine' am ?s15
            case s15 =>
             exact(eF hu (pv 5) (pv 7) ed rfl)
       case r9 =>
        refine' ad ?s17 ?r17
        case s17 =>
         refine' aA 3 S.nd ?e
         case e=>exact(cV (jz rfl) (by rfl) T.n_list PyProof.Rows.boot_list (aa (pv 5) af ai))
        case r17 =>
         refine' am ?s19
         case s19 =>
          refine' bg ?c20 ?a20 ?o20
          case c20=>exact(aC (i_ hr.units) (pv 3) (bd af) (aI _))
          case a20 =>
           refine' am ?s21
           case s21 =>
            exact(aF (pv 2))
          case o20 =>
           exact aM
    case r5 =>
     refine' am ?s23
     case s23 =>
      exact(aF dY)
 walk_at "e"
 have few:=met.few7 ok
 have g7:=ok.g7
 have lys:=pm.length_eq
 have ndy:=pm.nodup_iff.mpr met.nd
 refine aP (s_asg ?_)
 intro D hD
 refine s_name ?_
 generalize hE:upd H D _=H1
 obtain⟨S1,q1⟩:=aN hD hE
 clear hE
 with_reducible refine aP ?_
 refine s_asg (i_lst (i_cons (i_var rfl (i_nil ⟨by simp[sizeLine],λL0 hL0=>s_name ?_⟩))))
 generalize hE:upd H1 L0 _=H2
 obtain⟨S2,q2⟩:=aN hL0 hE
 clear hE
 have S12:=S1.trans S2
 have lk:(fdK (az ys) ls).length=ys.length:=by rw[ip (by unfold az;rw[List.length_map];omega)];exact lls
 with_reducible refine aP ?_
 refine s_for (s_rng1 (i_cons (i_op (i_cb (i_cons (i_var rfl (i_nil ⟨F,_,rfl,S12 _ _ hF,i_c (i_rI0 (i_nil ?_))⟩))))))) 
 rw[lk]
 refine⟨_,rfl,by omega,by omega,?_⟩
 rw[show ((ys.length:Int)+1).toNat=ys.length+1 by omega]
 refine cY (n:=ys.length+1) (λi σ H'=>(∃(hs:List Str) (Hn:Addr) (kvs:List (Key × V)) (x4 x5 x6 x7:Option V),σ=[some (.ref F),some (.str z),some (.ref D),some (.ref Hn),x4,x5,x6,x7]/\ao H H'/\H' D=some (.dK kvs)/\kvs.length<=128*i/\H' Hn=some (.lst (hs.map V.str))/\LvI ins gs z i hs/\hs≠[]))
  ⟨[z],L0,[],_,_,_,_,rfl,S12,S2 _ _ q1,by simp,q2,⟨by simp,λx=>⟨λh=>⟨[],rfl,by rw[List.mem_singleton]at h;rw[h];exact .nil⟩,λ⟨os,e,r⟩=>by rw[List.length_eq_zero_iff]at e;subst e;cases r;simp⟩⟩,by simp⟩ (λi σ H' hi pv=>?_) (λσ H' pv=>?_)
 ·obtain⟨hs,Hn,kvs,x4,x5,x6,x7,rfl,SH,hD',lkv,hHn,lv,ne⟩:=pv
  obtain⟨lhs,subx⟩:=lv.few met
  refine s_name ?_
  with_reducible refine aP ?_
  refine s_asg ?_
  intro Ah hAh
  refine s_name ?_
  generalize hE:upd H' Ah _=H3
  obtain⟨S3,q3⟩:=aN hAh hE
  clear hE
  have Ah0:H Ah=none:=ao.free SH hAh
  have AD:Ah≠D:=λe=>by rw[e,hD']at hAh;cases hAh
  have AN:Ah≠Hn:=λe=>by rw[e,hHn]at hAh;cases hAh
  have ND:Hn≠D:=λe=>by rw[e,hD']at hHn;cases hHn
  with_reducible refine aP ?_
  refine s_for (s_list (i_var rfl ⟨Hn,rfl,⟨_,SqL.of (S3 _ _ hHn)⟩,?_⟩))
  let Iv:=λ(j:Nat) (R:Str->Prop) (G:Hp)=>ao H G/\G Hn=some (.lst (hs.map V.str))/\(∃kvs,G D=some (.dK kvs)/\kvs.length<=128*i+j)/\∃ks:List Str,G Ah=some (.dK (knK (az ks)))/\ks.Nodup/\∀x,x∈ks↔R x
  refine dh (xs:=hs.map V.str) (λj σ G=>(∃x6 x7:Option V,σ=[some (.ref F),some (.str z),some (.ref D),some (.ref Hn),some (.int (0+(i:Int))),some (.ref Ah),x6,x7])/\Iv j (λx=>∃y∈hs.take j,x∈nxS ins gs y) G)
   ⟨⟨_,_,rfl⟩,SH.trans S3,S3 _ _ hHn,⟨kvs,S3 _ _ hD',by omega⟩,[],q3,by simp,by simp⟩ (λj σ G _ pv=>SqL.of pv.2.2.1) (λj v σ G hv pv=>?_) (λσ G pv=>?_)
  ·obtain⟨⟨x6,x7,rfl⟩,SG,gHn,⟨kv2,gD,lkv2⟩,ks,gA,ndk,mk⟩:=pv
   rw[List.getElem?_map]at hv
   cases ey:hs[j]? with
   | none=>rw[ey]at hv;cases hv
   | some y =>
   rw[ey]at hv
   cases hv
   have hj:=(List.getElem?_eq_some_iff.mp ey).1
   have hyx:=subx y (List.mem_of_getElem? ey)
   refine s_name ?_
   with_reducible refine aP ?_
   refine fL (i_var rfl (i_var rfl (i_var rfl ⟨D,_,rfl,fV.k (k:=Sum.inr y) gD (by omega),?_⟩)))
   have lk2:=rT kv2 (Sum.inr y) (.int (0+(i:Int)))
   generalize bI kv2 (Sum.inr y) (.int (0+(i:Int)))=kv3 at *
   have SG2:ao H (upd G D (.dK kv3)):=aR SG hD
   have gD2:upd G D (.dK kv3) D=some (.dK kv3):=ag
   have gA2:upd G D (.dK kv3) Ah=some (.dK (knK (az ks))):=by rw[aj AD];exact gA
   have gHn2:upd G D (.dK kv3) Hn=some (.lst (hs.map V.str)):=by rw[aj ND];exact gHn
   generalize upd G D (.dK kv3)=G2 at *
   obtain⟨ix,hix,eix⟩:=List.mem_iff_getElem.mp (pm.mem_iff.mpr hyx)
   have ex:ys[ix]?=some y:=by rw[List.getElem?_eq_getElem hix,eix]
   obtain⟨b,eb⟩:∃b,ls[ix]?=some b:=⟨_,List.getElem?_eq_getElem (by omega)⟩
   have hb:=hls ix y b ex eb
   have tk:hs.take (j+1)=hs.take j++[y]:=by rw[List.take_succ,ey];rfl
   refine s_for (s_list (i_dget (i_var rfl (i_var rfl ⟨F,_,rfl,dU (.inl (SG2 _ _ hF)) ndy ex eb,b,rfl,⟨_,SqL.of (SG2 _ _ hb)⟩,?_⟩))))
   refine dh (xs:=(nxS ins gs y).map V.str) (λl σ G=>(∃x7:Option V,σ=[some (.ref F),some (.str z),some (.ref D),some (.ref Hn),some (.int (0+(i:Int))),some (.ref Ah),some (.str y),x7])/\Iv (j+1) (λx=>(∃y∈hs.take j,x∈nxS ins gs y)\/x∈(nxS ins gs y).take l) G)
    ⟨⟨_,rfl⟩,SG2,gHn2,⟨kv3,gD2,by omega⟩,ks,gA2,ndk,by simpa using mk⟩ (λl σ G _ pv=>SqL.of (pv.2.1 _ _ hb)) (λl v σ G hv pv=>?_) (λσ G pv=>?_)
   ·obtain⟨⟨x7,rfl⟩,SG,gHn,⟨kv4,gD,lkv4⟩,ks,gA,ndk,mk⟩:=pv
    rw[List.getElem?_map]at hv
    cases eu:(nxS ins gs y)[l]? with
    | none=>rw[eu]at hv;cases hv
    | some u =>
    rw[eu]at hv
    cases hv
    have lks:ks.length<=xs.length:=Bf.pigeon _ _ ndk λx hx=>by
     rcases(mk x).mp hx with⟨y',hy',q⟩|q
     ·obtain⟨p,hp,rfl⟩:=List.mem_map.mp q
      exact met.closed (subx y' (List.mem_of_mem_take hy')) hp
     ·obtain⟨p,hp,rfl⟩:=List.mem_map.mp (List.mem_of_mem_take q)
      exact met.closed hyx hp
    refine s_name ?_
    refine fL (i_c (i_var rfl (i_var rfl ⟨Ah,_,rfl,fV.k (k:=Sum.inr u) gA (by unfold knK az;rw[List.length_map,List.length_map];omega),?_⟩)))
    rw[xc]
    refine⟨⟨_,rfl⟩,aR SG Ah0,by rw[aj AN.symm];exact gHn,⟨kv4,by rw[aj AD.symm];exact gD,lkv4⟩,_,ag,Bf.dv _ _ ndk,λx=>?_⟩
    rw[Bf.dH,mk,List.take_succ,eu]
    show (_\/_)\/x∈[u]↔_\/x∈_++[u]
    rw[List.mem_append,or_assoc]
   ·obtain⟨⟨x7,rfl⟩,SG,gHn,⟨kv4,gD,lkv4⟩,ks,gA,ndk,mk⟩:=pv
    rw[List.length_map,List.take_of_length_le (Nat.le_refl _)]at mk
    refine⟨⟨_,_,rfl⟩,SG,gHn,⟨kv4,gD,lkv4⟩,ks,gA,ndk,λx=>(mk x).trans ?_⟩
    rw[tk]
    simp[or_and_right,exists_or]
  ·obtain⟨⟨x6,x7,rfl⟩,SG,gHn,⟨kv2,gD,lkv2⟩,ks,gA,ndk,mk⟩:=pv
   rw[List.length_map]at lkv2 mk
   rw[List.take_of_length_le (Nat.le_refl _)]at mk
   have lv2:=lv.next met ndk mk
   try dsimp only
   with_reducible refine aP ?_
   refine s_asg (i_cb (i_cons (i_var rfl (i_nil ⟨Ah,_,rfl,.inl gA,λHm hHm=>s_name ?_⟩))))
   rw[show (knK (az ks)).map (λp=>kV p.1)=ks.map V.str by unfold knK az;rw[List.map_map,List.map_map];rfl]
   generalize hE:upd G Hm _=G3
   obtain⟨S3,q3⟩:=aN hHm hE
   clear hE
   refine s_if (i_test (i_op (i_var rfl (i_lst (i_nil ⟨by simp[sizeLine],λp hp=>?_⟩)))))
   generalize hE:upd G3 p _=G4
   obtain⟨S4,q4⟩:=aN hp hE
   clear hE
   refine⟨Hm,p,ks.map V.str,[],λ_=>true,rfl,rfl,SqL.of (S4 _ _ q3),SqL.of q4,(λj x y _ h=>by simp at h),⟨_,rfl,?_⟩⟩
   have SG4:=SG.trans (S3.trans S4)
   cases ks with
   | nil =>
    refine iteT ?_
    exact s_ret (i_var rfl (k1 _ _ SG4 lv2.end))
   | cons u ks =>
    refine iteF ?_
    with_reducible refine s_next ?_
    exact⟨_,Hm,kv2,_,_,_,_,rfl,SG4,(S3.trans S4) _ _ gD,by omega,S4 _ _ q3,lv2,by simp⟩
 ·obtain⟨hs,Hn,kvs,x4,x5,x6,x7,rfl,SH,hD',lkv,hHn,lv,ne⟩:=pv
  try dsimp only
  refine s_ret (i_c (k2 _ SH λ⟨n,l⟩=>?_))
  cases hs with
  | nil=>exact ne rfl
  | cons x hs =>
   obtain⟨os,e,r⟩:=(lv.2 x).mp (by simp)
   have:=l.lt met r
   omega
end
def onw (ins:List Str) (gs:List (Str × Rl)) (ks:List Str) (h:Str):List (Str × Str):=(ap ins gs h).filter λp=>decide (p.2∉ks)
structure RWalk (ins:List Str) (gs:List (Str × Rl)) (xs ks:List Str) (z:Str) (hs ns:List Str) (here:Str):Prop where
 len:hs.length=ns.length
 hd:(hs++[here])[0]?=some z
 nd:hs.Nodup
 far:∀x∈hs++[here],x∈xs/\x∉ks
 step:∀(i:Nat) x n y,hs[i]?=some x->ns[i]?=some n->(hs++[here])[i+1]?=some y->(onw ins gs ks x)[0]?=some (n,y)
section
variable {ins:List Str} {gs:List (Str × Rl)} {xs ks:List Str} {z z0:Str} {hs ns:List Str} {here:Str}
theorem pH {h:Str} {p:Str × Str} (hp:p∈onw ins gs ks h):p∈ap ins gs h/\p.2∉ks:=by
 unfold onw at hp
 obtain⟨a,b⟩:=List.mem_filter.mp hp
 exact⟨a,by simpa using b⟩
theorem RWalk.go (r:RWalk ins gs xs ks z hs ns here) (m:Met ins gs z0 xs) (no:here∉hs) {p:Str × Str} (e:(onw ins gs ks here)[0]?=some p):RWalk ins gs xs ks z (hs++[here]) (ns++[p.1]) p.2:=by
 have hp:=pH (List.mem_of_getElem? e)
 have l:=r.len
 refine⟨by simp[l],?_,?_,λx hx=>?_,λi x n y h1 h2 h3=>?_⟩
 ·rw[List.getElem?_append_left (by simp)];exact r.hd
 ·exact List.nodup_append.mpr ⟨r.nd,by simp,λa ha b hb q=>no (by rw[List.mem_singleton]at hb;rw[<-hb,<-q];exact ha)⟩
 ·rcases List.mem_append.mp hx with hx|hx
  ·exact r.far x hx
  ·rw[List.mem_singleton]at hx
   rw[hx]
   exact⟨m.closed (r.far here (by simp)).1 hp.1,hp.2⟩
 ·by_cases c:i<hs.length
  ·rw[List.getElem?_append_left c]at h1
   rw[List.getElem?_append_left (by omega)]at h2
   rw[List.getElem?_append_left (by simp;omega)]at h3
   exact r.step i x n y h1 h2 h3
  ·have ei:i=hs.length:=by
    have:=(List.getElem?_eq_some_iff.mp h1).1
    simp at this
    omega
   subst ei
   rw[List.getElem?_append_right (Nat.le_refl _),Nat.sub_self]at h1
   rw[List.getElem?_append_right (by omega),l,Nat.sub_self]at h2
   rw[List.getElem?_append_right (by simp)]at h3
   simp at h1 h2 h3
   rw[<-h1,<-h2,<-h3];exact e
theorem RWalk.part (r:RWalk ins gs xs ks z hs ns here) (m:Met ins gs z0 xs):∀(k i:Nat) x y,(hs++[here])[i]?=some x->(hs++[here])[i+k]?=some y->Run ins gs x ((ns.drop i).take k) y
 | 0,i,x,y,h1,h2=>by
  rw[Nat.add_zero,h1]at h2
  cases h2
  exact .nil
 | k+1,i,x,y,h1,h2=>by
  have l:=r.len
  have hl:=(List.getElem?_eq_some_iff.mp h2).1
  rw[List.length_append,List.length_singleton]at hl
  have hi:i<ns.length:=by omega
  obtain⟨u,hu⟩:∃u,(hs++[here])[i+1]?=some u:=⟨_,List.getElem?_eq_getElem (by rw[List.length_append,List.length_singleton];omega)⟩
  rw[List.drop_eq_getElem_cons hi,List.take_succ_cons]
  have s:=r.step i x _ u (by rw[List.getElem?_append_left (by omega)]at h1;exact h1) (List.getElem?_eq_getElem hi) hu
  refine .cons (pH (List.mem_of_getElem? s)).1 (m.st u (r.far u (List.mem_of_getElem? hu)).1) (r.part m k (i+1) u y hu ?_)
  rw[show i+1+k=i+(k+1) from by omega];exact h2
theorem RWalk.few (r:RWalk ins gs xs ks z hs ns here):ns.length<=xs.length:=by
 rw[<-r.len]
 exact Bf.pigeon _ _ r.nd λx hx=>(r.far x (List.mem_append_left _ hx)).1
theorem RWalk.run (r:RWalk ins gs xs ks z hs ns here) (m:Met ins gs z0 xs) {i:Nat} (e:hs[i]?=some here):Run ins gs z (ns.take i) here/\Run ins gs here (ns.drop i) here/\i<ns.length:=by
 have hi:=(List.getElem?_eq_some_iff.mp e).1
 have l:=r.len
 have e1:(hs++[here])[i]?=some here:=by rw[List.getElem?_append_left hi];exact e
 refine⟨by have:=r.part m i 0 z here r.hd (by rw[Nat.zero_add];exact e1);simpa using this,?_,by omega⟩
 have:=r.part m (ns.length-i) i here here e1 (by rw[Nat.add_sub_cancel' (by omega),<-l,List.getElem?_append_right (Nat.le_refl _),Nat.sub_self];rfl)
 rwa [List.take_of_length_le (by rw[List.length_drop];omega)]at this
end
theorem rp (hs:List Str):(hs.zipIdx.map (·.1))=hs:=List.zipIdx_map_fst 0 hs
def lc:Sp:=λvs H Q _=>∃(F N:Addr) (ins:List Str) (gs:List (Str × Rl)) (z0 z:Str) (xs:List Str) (ps:List (Str × Nat)),vs=[.ref F,.ref N,.str z]/\SD H F ins gs xs/\Met ins gs z0 xs/\NetOk ins gs/\H N=some (.dK (cQ ps))/\NumOk ins gs xs ps/\z∈xs/\z∉ps.map (·.1) /\
 ∀(t p q:Addr) (hs ns:List Str) (here:Str) (i:Nat) (H':Hp),ao H H'->H t=none->H p=none->H q=none->p≠q->RWalk ins gs xs (ps.map (·.1)) z hs ns here->hs[i]?=some here->H' t=some (.tup [.str "round", .ref p,.ref q])->H' p=some (.lst ((ns.take i).map V.str))->H' q=some (.lst ((ns.drop i).map V.str))->Q (.ref t) H'
section
theorem jR:FnScope ["found", "numbers", "standing", "places", "names", "here", "onward", "at"] ["found", "numbers", "standing"] (ay (top 23)):=by walk_at "k"
theorem sM {f:Addr} {fd:FuncData} (Fu:Fun K "round_told" "round_told" (top 23) f fd) (T:Txt K mg TT):FnOk P w K mg base CX0 1 f fd ["found", "numbers", "standing"] lc:=by
 have S:=jR
 refine Fu.ok S (by walk_at "l") (λcdv A outer s H vs Q E hr h=>?_)
 obtain⟨F,N,ins,gs,z0,z,xs,ps,rfl,sd,met,ok,hN,num,hz,hzo,k⟩:=h
 have hu:=de hr
 refine'⟨?_,?bb,?_⟩
 case bb =>
  refine' ad ?s1 ?r1
  case s1 =>
   refine' aA 3 S.nd ?e
   case e=>exact d_
  case r1 =>
   refine' ad ?s3 ?r3
   case s3 =>
    refine' aA 4 S.nd ?e
    case e=>exact(bd af)
   case r3 =>
    refine' ad ?s5 ?r5
    case s5 =>
     refine' aA 5 S.nd ?e
     case e=>exact(pv 2)
    case r5 =>
     refine' ad ?s7 ?r7
     case s7 =>
      refine' dD PassesOwn.never ?c8 ?b8
      case c8=>exact(iV (fu hu (pv 5) (pv 3)))
      case b8 =>
       refine' ad ?s9 ?r9
       case s9 =>
        exact(eF hu (pv 3) (pv 5) (aH aG (by rfl) T.n_len PySem.boot_len (aa (pv 4) af ai)) rfl)
       case r9 =>
        refine' ad ?s11 ?r11
        case s11 =>
         exact(pB (j:=6) S.nd rfl (by walk_at "o") (tgs:=["step"]) (cap:=[("numbers", 1)]) rfl ⟨rfl,rfl,rfl,rfl,rfl,rfl⟩ (bD (bA hu (pv 0) (pv 5) (λ_ _=>rfl))) (λ_ _ _ _=>(bt (i:=0) (show List.Nodup [("step" : Str),("numbers" : Str)] by decide +kernel) rfl (by walk_at "o"))) (λ_ _ _ _=>(f8 (iV (fu hu (ax (pO (K:=K) rfl) (pv 0) ae (λ_ _=>rfl)) (pv 1))))) (λ_ _ _ _=>(pv 0)))
        case r11 =>
         refine' ad ?s13 ?r13
         case s13 =>
          exact(br (cM PySem.F.plainAttrs_list PySem.F.slot_list_append PySem.F.type_list_append ba (pv 4) (aa (ax aJ (ax aD (pv 6) ae (λ_ _=>rfl)) ae (λ_ _=>rfl)) af)))
         case r13 =>
          refine' am ?s15
          case s15 =>
           refine' aA 5 S.nd ?e
           case e=>exact(ax aJ (ax aD (pv 6) ae (λ_ _=>rfl)) ae (λ_ _=>rfl))
     case r7 =>
      refine' ad ?s17 ?r17
      case s17 =>
       refine' aA 7 S.nd ?e
       case e=>exact(bA hu (pv 3) (pv 5) (λ_ _=>rfl))
      case r17 =>
       refine' am ?s19
       case s19 =>
        exact(aF (aL (aa aE (aa (bq dN (pv 4) bK (bJ (pv 7))) (aa (bq dN (pv 4) (bJ (pv 7)) bK) af)) aB)))
 walk_at "e"
 have few:=met.few ok
 have nd:=met.nd
 refine aP (s_asg ?_)
 intro Pl hPl
 refine s_name ?_
 generalize hE:upd H Pl _=H1
 obtain⟨S1,q1⟩:=aN hPl hE
 clear hE
 with_reducible refine aP ?_
 refine s_asg (i_lst (i_nil ⟨by simp[sizeLine],λNm hNm=>s_name ?_⟩))
 generalize hE:upd H1 Nm _=H2
 obtain⟨S2,q2⟩:=aN hNm hE
 clear hE
 have Nm0:H Nm=none:=ao.free S1 hNm
 have PN:Pl≠Nm:=aq q1 hNm
 with_reducible refine aP ?_
 refine s_asg (i_var rfl (s_name ?_))
 with_reducible refine aP ?_
 refine⟨λm σ H'=>∃(hs ns:List Str) (here:Str) (x6 x7:Option V),σ=[some (.ref F),some (.ref N),some (.str z),some (.ref Pl),some (.ref Nm),some (.str here),x6,x7]/\m=xs.length+1-hs.length/\ao H H'/\H' Pl=some (.dK (cQ hs.zipIdx))/\H' Nm=some (.lst (ns.map V.str))/\RWalk ins gs xs (ps.map (·.1)) z hs ns here,
  ⟨_,[],[],z,_,_,rfl,rfl,S1.trans S2,S2 _ _ q1,q2,rfl,rfl,by simp,λx hx=>by rw[List.nil_append,List.mem_singleton]at hx;rw[hx];exact⟨hz,hzo⟩,λi x n y h=>(nomatch h)⟩,?_⟩
 rintro m σ H' ⟨hs,ns,here,x6,x7,rfl,rfl,SH,hPl',hNm',rw⟩
 have lrw:=rw.len
 have frw:=rw.few
 have kk:hs.zipIdx.map (·.1)=hs:=rp hs
 obtain⟨hx,hxo⟩:=rw.far here (by simp)
 by_cases cin:here∈hs
 ·obtain⟨i,hi,ei⟩:=List.mem_iff_getElem.mp cin
  have e1:hs[i]?=some here:=by rw[List.getElem?_eq_getElem hi,ei]
  have vl:bh (cQ hs.zipIdx) (Sum.inr here)=some (.int i):=ni (p:=(here,i)) (by rw[kk];exact rw.nd) (List.mem_zipIdx_iff_getElem?.mpr e1)
  have dg:cq H' Pl (.str here) (some (.int i)):=.inl ⟨_,Sum.inr here,.inl hPl',rfl,vl.symm⟩
  refine i_test (fg (i_var rfl (i_var rfl ⟨Pl,_,rfl,dg,_,rfl,ifF rfl ?_⟩)))
  with_reducible refine aP ?_
  refine s_asg (i_dget (i_var rfl (i_var rfl ⟨Pl,_,rfl,dg,s_name ?_⟩)))
  refine s_ret (i_tup (i_cons (i_c (i_cons (i_sl (i_var rfl (i_nopart (i_part (i_var rfl ⟨_,rfl,gW (SqL.of hNm') λp hp=>?_⟩)))))))))
  rw[oR (by rw[List.length_map];omega)]
  generalize hE:upd H' p _=H3
  obtain⟨S3,q3⟩:=aN hp hE
  clear hE
  refine i_cons (i_sl (i_var rfl (i_part (i_var rfl ⟨_,rfl,i_nopart (gW (SqL.of (S3 _ _ hNm')) λq hq=>?_)⟩))))
  rw[nA (by rw[List.length_map];omega)]
  generalize hE:upd H3 q _=H4
  obtain⟨S4,q4⟩:=aN hq hE
  clear hE
  refine i_nil ⟨by simp[sizeLine],λt ht=>?_⟩
  generalize hE:upd H4 t _=H5
  obtain⟨S5,q5⟩:=aN ht hE
  clear hE
  have S05:=((SH.trans S3).trans S4).trans S5
  exact k t p q hs ns here i H5 S05 (ao.free ((SH.trans S3).trans S4) ht) (ao.free SH hp) (ao.free (SH.trans S3) hq) (aq q3 hq) rw e1 q5 (by rw[(S4.trans S5) _ _ q3,List.map_take]) (by rw[S5 _ _ q4,List.map_drop])
 ·have dg:cq H' Pl (.str here) none:=.inl ⟨_,Sum.inr here,.inl hPl',rfl,(dA.mpr (by rw[kk];exact cin)).symm⟩
  refine i_test (fg (i_var rfl (i_var rfl ⟨Pl,_,rfl,dg,_,rfl,ifT rfl ?_⟩)))
  refine⟨_,λ_ _ h=>h,?_⟩
  with_reducible refine aP ?_
  have lz:(cQ hs.zipIdx).length=hs.length:=by have:=congrArg List.length (fz hs.zipIdx);rw[kk]at this;unfold az at this;simpa using this
  refine fL (i_cb (i_cons (i_var rfl (i_nil ⟨Nm,_,rfl,.inl (SqL.of hNm'),i_var rfl (i_var rfl ⟨Pl,_,rfl,fV.k (k:=Sum.inr here) hPl' (by omega),?_⟩)⟩))))
  rw[List.length_map,<-lrw,nj (by rw[kk];exact cin),show hs.zipIdx++[(here,hs.length)]=(hs++[here]).zipIdx by rw[List.zipIdx_append];simp]
  have SH3:ao H (upd H' Pl (.dK (cQ (hs++[here]).zipIdx))):=aR SH hPl
  have hPl3:upd H' Pl (.dK (cQ (hs++[here]).zipIdx)) Pl=some (.dK (cQ (hs++[here]).zipIdx)):=ag
  have hNm3:upd H' Pl (.dK (cQ (hs++[here]).zipIdx)) Nm=some (.lst (ns.map V.str)):=by rw[aj PN.symm];exact hNm'
  generalize upd H' Pl (.dK (cQ (hs++[here]).zipIdx))=H3 at *
  obtain⟨as,r,las,sts⟩:=sd.same SH3
  obtain⟨ix,hix,eix⟩:=List.mem_iff_getElem.mp hx
  have ex:xs[ix]?=some here:=by rw[List.getElem?_eq_getElem hix,eix]
  obtain⟨b,eb⟩:∃b,as[ix]?=some b:=⟨_,List.getElem?_eq_getElem (by omega)⟩
  obtain⟨vs,hvs,pvs⟩:=sts ix here b ex eb
  have lvs:vs.length=(ap ins gs here).length:=by have:=aK pvs;unfold cO at this;rwa [List.length_map]at this
  have l7:=cA ins gs here
  have g7:=ok.g7
  have hN3:=SH3 _ _ hN
  with_reducible refine aP ?_
  refine s_asg (cB (s_list (i_dget (i_var rfl (i_var rfl ⟨F,_,rfl,dU r nd ex eb,b,rfl,⟨_,SqL.of hvs⟩,λL hL=>?_⟩)))))
  refine eM (xs:=vs) (λm H'' ys=>ao H3 H''/\H'' L=some (.lst ys)/\Paired (jY H3) ys (((ap ins gs here).take m).filter λp=>decide (p.2∉ps.map (·.1)))) ⟨ak hL,ag,by simp;exact .nil⟩ (λm H'' ys p=>⟨p.2.1,SqL.of (p.1 _ _ hvs)⟩) (λm v H'' ys e p=>?_) (λH'' ys p=>?_)
  ·obtain⟨Sm,hd,pr⟩:=p
   obtain⟨p,b2,hp,rfl,hb2⟩:=fI pvs e
   have hm:m<vs.length:=(List.getElem?_eq_some_iff.mp e).1
   have tk:((ap ins gs here).take (m+1)).filter (λp=>decide (p.2∉ps.map (·.1)))=((ap ins gs here).take m).filter (λp=>decide (p.2∉ps.map (·.1)))++[p].filter (λp=>decide (p.2∉ps.map (·.1))):=by rw[List.take_succ,hp,List.filter_append];rfl
   have dgN:cq H'' N (.str p.2) (bh (cQ ps) (Sum.inr p.2)):=.inl ⟨_,Sum.inr p.2,.inl (Sm _ _ hN3),rfl,rfl⟩
   refine s_name ⟨by repeat' (first|exact trivial|refine⟨rfl,?_⟩),?_⟩
   refine i_test (fg (i_op (i_var rfl (i_c (i_ixT (Sm _ _ hb2) rfl (i_var rfl ⟨N,_,rfl,dgN,_,rfl,?_⟩))))))
   by_cases c:p.2∈ps.map (·.1)
   ·refine ifF ?_ ?_
    ·cases q:bh (cQ ps) (Sum.inr p.2) with
     | none=>exact absurd c (dA.mp q)
     | some _=>rfl
    ·refine⟨vs.length-(m+1),by omega,rfl,by omega,Sm,hd,?_⟩
     rw[tk,List.filter_cons_of_neg (by simpa using c),List.filter_nil,List.append_nil]
     exact pr
   ·refine ifT (by rw[dA.mpr c];rfl) ?_
    have lp:=aK pr
    have lf:=List.length_filter_le (λp:Str × Str=>decide (p.2∉ps.map (·.1))) ((ap ins gs here).take m)
    rw[List.length_take]at lf
    refine i_var rfl (ck.mk hd hm (by omega) ⟨aR Sm hL,ag,?_⟩)
    rw[tk,List.filter_cons_of_pos (by simpa using c),List.filter_nil]
    exact bE pr ⟨b2,rfl,hb2⟩
  ·obtain⟨Sm,hd,pr⟩:=p
   rw[lvs,List.take_of_length_le (Nat.le_refl _)]at pr
   have hPl4:=Sm _ _ hPl3
   have hNm4:=Sm _ _ hNm3
   have SH4:=SH3.trans Sm
   obtain⟨p0,e0⟩:∃p0,(onw ins gs (ps.map (·.1)) here)[0]?=some p0:=by
    obtain⟨p,hp,hn⟩:=num.out here hx hxo
    have:p∈onw ins gs (ps.map (·.1)) here:=List.mem_filter.mpr ⟨hp,by simpa using hn⟩
    cases q:onw ins gs (ps.map (·.1)) here with
    | nil=>rw[q]at this;cases this
    | cons p' _=>exact⟨p',rfl⟩
   have lp:=aK pr
   have l0:0<ys.length:=by
    rw[lp]
    exact(List.getElem?_eq_some_iff.mp e0).1
   obtain⟨v0,ev⟩:∃v0,ys[0]?=some v0:=⟨_,List.getElem?_eq_getElem l0⟩
   obtain⟨p1,e1,b0,rfl,hb0⟩:=cE pr 0 v0 ev
   have:p1=p0:=by
    unfold onw at e0
    rw[e0]at e1
    cases e1;rfl
   subst this
   have hb4:=Sm _ _ hb0
   refine s_name ?_
   with_reducible refine aP ?_
   refine s_drop (i_bm (i_var rfl ⟨i_tyL hNm4,i_cons (i_op (i_op (i_var rfl (i_c (i_ixL (SqL.of hd) (bB (j:=0) ev) (i_c (i_ixT hb4 rfl (i_nil (dS hNm4 (by rw[List.length_map];omega) ?_)))))))))⟩))
   have NL:L≠Nm:=λz=>by rw[z,hNm3]at hL;cases hL
   have b0N:b0≠Nm:=λz=>by rw[z,hNm3]at hb0;cases hb0
   refine s_asg (i_op (i_op (i_var rfl (i_c (i_ixL (SqL.of (by rw[aj NL];exact hd)) (bB (j:=0) ev) (i_c (i_ixT (by rw[aj b0N];exact hb4) rfl (s_name ?_))))))))
   exact⟨xs.length+1-(hs++[here]).length,by simp;omega,hs++[here],ns++[p1.1],p1.2,_,_,rfl,rfl,aR SH4 Nm0,by rw[aj PN];exact hPl4,by rw[ag];simp,rw.go met cin e0⟩
end
section
variable {ins:List Str} {gs:List (Str × Rl)} {xs ks ks':List Str} {z z0:Str} {hs ns hs' ns':List Str} {here here':Str}
theorem RWalk.same (m:Met ins gs z0 xs) (kk:∀x∈xs,x∈ks↔x∈ks') (r:RWalk ins gs xs ks z hs ns here) (r':RWalk ins gs xs ks' z hs' ns' here'):∀n,n<=hs.length->n<=hs'.length->(hs++[here])[n]?=(hs'++[here'])[n]?/\(0<n->ns[n-1]?=ns'[n-1]?)
 | 0,_,_=>⟨r.hd.trans r'.hd.symm,λh=>by omega⟩
 | n+1,h1,h2=>by
  obtain⟨e,_⟩:=r.same m kk r' n (by omega) (by omega)
  have l:=r.len
  have l':=r'.len
  obtain⟨x,hx⟩:∃x,hs[n]?=some x:=⟨_,List.getElem?_eq_getElem (by omega)⟩
  rw[List.getElem?_append_left (by omega),List.getElem?_append_left (by omega)]at e
  obtain⟨a,ha⟩:∃a,ns[n]?=some a:=⟨_,List.getElem?_eq_getElem (by omega)⟩
  obtain⟨b,hb⟩:∃b,ns'[n]?=some b:=⟨_,List.getElem?_eq_getElem (by omega)⟩
  obtain⟨y,hy⟩:∃y,(hs++[here])[n+1]?=some y:=⟨_,List.getElem?_eq_getElem (by simp;omega)⟩
  obtain⟨y',hy'⟩:∃y,(hs'++[here'])[n+1]?=some y:=⟨_,List.getElem?_eq_getElem (by simp;omega)⟩
  have s:=r.step n x a y hx ha hy
  have s':=r'.step n x b y' (by rw[<-e];exact hx) hb hy'
  have hxx:=(r.far x (List.mem_append_left _ (List.mem_of_getElem? hx))).1
  have eo:onw ins gs ks x=onw ins gs ks' x:=by
   unfold onw
   refine List.filter_congr λp hp=>?_
   have:=kk p.2 (m.closed hxx hp)
   rw[decide_eq_decide,this]
  rw[eo,s']at s
  cases s
  exact⟨hy.trans hy'.symm,λ_=>ha.trans hb.symm⟩
theorem RWalk.le (m:Met ins gs z0 xs) (kk:∀x∈xs,x∈ks↔x∈ks') (r:RWalk ins gs xs ks z hs ns here) (r':RWalk ins gs xs ks' z hs' ns' here') {i:Nat} (e:hs[i]?=some here):hs'.length<=hs.length:=Nat.le_of_not_lt λl=>by
 have hi:=(List.getElem?_eq_some_iff.mp e).1
 have a:=(r.same m kk r' hs.length (Nat.le_refl _) (by omega)).1
 have b:=(r.same m kk r' i (by omega) (by omega)).1
 rw[List.getElem?_append_right (Nat.le_refl _),Nat.sub_self,List.getElem?_append_left l]at a
 rw[List.getElem?_append_left hi,List.getElem?_append_left (by omega),e]at b
 have:=(List.getElem?_inj (i:=i) (j:=hs.length) (by omega) r'.nd).mp (by rw[<-a,<-b];rfl)
 omega
theorem RWalk.one (m:Met ins gs z0 xs) (kk:∀x∈xs,x∈ks↔x∈ks') (r:RWalk ins gs xs ks z hs ns here) (r':RWalk ins gs xs ks' z hs' ns' here') {i j:Nat} (e:hs[i]?=some here) (e':hs'[j]?=some here'):ns=ns'/\i=j:=by
 have l1:=r.le m kk r' e
 have l2:=r'.le m (λx hx=>(kk x hx).symm) r e'
 have l:=r.len
 have l':=r'.len
 have a:=(r.same m kk r' hs.length (Nat.le_refl _) l2).1
 rw[List.getElem?_append_right (Nat.le_refl _),Nat.sub_self,List.getElem?_append_right l1,show hs.length-hs'.length=0 by omega]at a
 cases a
 have hi:=(List.getElem?_eq_some_iff.mp e).1
 have b:=(r.same m kk r' i (by omega) (by omega)).1
 rw[List.getElem?_append_left hi,List.getElem?_append_left (by omega),e]at b
 refine⟨List.ext_getElem? λn=>?_,(List.getElem?_inj (i:=i) (j:=j) (by omega) r'.nd).mp (by rw[<-b,e'])⟩
 by_cases c:n<hs.length
 ·exact(r.same m kk r' (n+1) (by omega) (by omega)).2 (by omega)
 ·rw[List.getElem?_eq_none (by omega),List.getElem?_eq_none (by omega)]
end
def rP (ins:List Str) (gs:List (Str × Rl)) (ss:List Str):List Str:=ss.filter λh=>decide ((ap ins gs h).length=0)
def eV (ins:List Str) (gs:List (Str × Rl)) (z:Str):Option (Bool × List Str × List Str)->Prop
 | none=>∃r,nI ins gs z r
 | some (false,os,ps)=>∃xs ss x y rs,Met ins gs z xs/\ss.Perm xs/\ss.Pairwise leT/\rP ins gs ss=x::y::rs/\Path (ap ins gs) xs z x os/\Path (ap ins gs) xs z y ps/\os.length<=2048/\ps.length<=2048
 | some (true,os,ps)=>∃xs ss ks hs ns here i,Met ins gs z xs/\ss.Perm xs/\ss.Pairwise leT/\(rP ins gs ss).length<=1/\(∀x∈xs,x∈ks↔∃n,dI ins gs x n)/\z∉ks/\RWalk ins gs xs ks z hs ns here/\hs[i]?=some here/\os=ns.take i/\ps=ns.drop i
section
variable {ins:List Str} {gs:List (Str × Rl)} {z:Str}
variable {os ps:List Str}
theorem eV.some_no {b:Bool} {r:Str} (t:eV ins gs z (some (b,os,ps))) (o:nI ins gs z r):False:=by
 obtain⟨ys,m',h,n,l⟩:=o
 cases b with
 | false =>
  obtain⟨xs,ss,x,y,rs,m,pm,so,e,_⟩:=t
  have:=m.one m'
  subst this
  obtain⟨nd,mem⟩:=fq m pm
  have e':ss.filter (λh=>decide ((ap ins gs h).length=0))=x::y::rs:=e
  rw[e']at nd mem
  have ex:=(h x).mp ((mem x).mp (by simp))
  have ey:=(h y).mp ((mem y).mp (by simp))
  rw[ex,ey]at nd
  simp at nd
 | true =>
  obtain⟨xs,ss,ks,hs,ns,here,i,m,_,_,_,kk,zo,_⟩:=t
  have:=m.one m'
  subst this
  exact zo ((kk z m.start).mpr ⟨n,l⟩)
theorem eV.det {a b:Option (Bool × List Str × List Str)} (s:eV ins gs z a) (t:eV ins gs z b):a=b:=by
 match a,b,s,t with
 | none,none,_,_=>rfl
 | none,some (b,os,ps),⟨r,o⟩,t=>exact(t.some_no o).elim
 | some (b,os,ps),none,t,⟨r,o⟩=>exact(t.some_no o).elim
 | some (false,os,ps),some (false,os',ps'),⟨xs,ss,x,y,rs,m,pm,so,e,p1,p2,_⟩,⟨xs',ss',x',y',rs',m',pm',so',e',q1,q2,_⟩ =>
  have ex:=m.one m'
  subst ex
  have es:=iM so so' (pm.trans pm'.symm)
  subst es
  rw[e]at e'
  cases e'
  rw[p1.det q1,p2.det q2]
 | some (false,os,ps),some (true,os',ps'),⟨xs,ss,x,y,rs,m,pm,so,e,_⟩,⟨xs',ss',_,_,_,_,_,m',pm',so',l,_⟩ =>
  have ex:=m.one m'
  subst ex
  have es:=iM so so' (pm.trans pm'.symm)
  subst es
  rw[e]at l
  simp at l
 | some (true,os',ps'),some (false,os,ps),⟨xs',ss',_,_,_,_,_,m',pm',so',l,_⟩,⟨xs,ss,x,y,rs,m,pm,so,e,_⟩ =>
  have ex:=m.one m'
  subst ex
  have es:=iM so so' (pm.trans pm'.symm)
  subst es
  rw[e]at l
  simp at l
 | some (true,os,ps),some (true,os',ps'),⟨xs,ss,ks,hs,ns,here,i,m,_,_,_,kk,_,w,e,e1,e2⟩,⟨xs',ss',ks',hs',ns',here',j,m',_,_,_,kk',_,w',e',e1',e2'⟩ =>
  have ex:=m.one m'
  subst ex
  obtain⟨en,ei⟩:=w.one m (λx hx=>(kk x hx).trans (kk' x hx).symm) w' e e'
  rw[e1,e2,e1',e2',en,ei]
theorem eV.rests (t:eV ins gs z (some (false,os,ps))):∃x y,Run ins gs z os x/\Run ins gs z ps y/\x≠y/\ap ins gs x=[]/\ap ins gs y=[]/\os.length<=2048/\ps.length<=2048:=by
 obtain⟨xs,ss,x,y,rs,m,pm,so,e,p1,p2,l1,l2⟩:=t
 obtain⟨nd,mem⟩:=fq m pm
 have e':ss.filter (λh=>decide ((ap ins gs h).length=0))=x::y::rs:=e
 rw[e']at nd mem
 exact⟨x,y,(m.run p1).2,(m.run p2).2,λq=>by rw[q]at nd;simp at nd,((mem x).mp (by simp)).2,((mem y).mp (by simp)).2,l1,l2⟩
theorem eV.round (t:eV ins gs z (some (true,os,ps))) (ok:NetOk ins gs):∃x,Run ins gs z os x/\Run ins gs x ps x/\ps≠[]/\os.length<=128/\ps.length<=128:=by
 obtain⟨xs,ss,ks,hs,ns,here,i,m,_,_,_,_,_,w,e,e1,e2⟩:=t
 obtain⟨r1,r2,li⟩:=w.run m e
 have l8:=m.few7 ok
 have lw:=w.few
 rw[e1,e2]
 exact⟨here,r1,r2,λq=>by have:=congrArg List.length q;rw[List.length_drop,List.length_nil]at this;omega,by rw[List.length_take];omega,by rw[List.length_drop];omega⟩
end
def j_:Bool->Str
 | true => "round"
 | false => "rests"
def Be (H H':Hp):Option (Bool × List Str × List Str)->V->Prop
 | none,v=>v=.non
 | some (b,os,ps),v=>∃t p q,v=.ref t/\H t=none/\H p=none/\H q=none/\p≠q/\H' t=some (.tup [.str (j_ b),.ref p,.ref q])/\H' p=some (.lst (os.map V.str))/\H' q=some (.lst (ps.map V.str))
def nQ (TL:Addr):Sp:=λvs H Q _=>∃a li lg ins gvs gs z,vs=[.ref a,.str z]/\NAt H a li lg ins gvs gs/\NetOk ins gs/\StOk (au ins gs).length z/\gq TL ff H /\
 ∀o v H',Tk TL H H'->eV ins gs z o->Be H H' o v->Q v H'
section
theorem hU:FnScope ["net", "standing", "found", "rests", "numbers"] ["net", "standing"] (ay (top 24)):=by walk_at "k"
theorem uG {TL:Addr} {f:Addr} {fd:FuncData} (Fu:Fun K "told_parting" "told_parting" (top 24) f fd) (T:Txt K mg TT) (f_check_standing:Fn P w K mg base "check_standing" ["net", "thing"] 3 (gz .non)) (f_steps_found:Fn P w K mg base "steps_found" ["net", "standing"] 15 (gx TL)) (f_rests_in:Fn P w K mg base "rests_in" ["steps"] 1 fo) (f_order_to:Fn P w K mg base "order_to" ["found", "start", "other"] 1 rO) (f_most_switchings:Fn P w K mg base "most_switchings" ["found"] 2 nS) (f_round_told:Fn P w K mg base "round_told" ["found", "numbers", "standing"] 1 lc) :
  FnOk P w K mg base CX0 16 f fd ["net", "standing"] (nQ TL):=by
 have S:=hU
 refine Fu.ok S (by walk_at "l") (λcdv A outer s H vs Q E hr h=>?_)
 obtain⟨a,li,lg,ins,gvs,gs,z,rfl,NA,ok,st,tb,k⟩:=h
 have hu:=de hr
 refine'⟨?_,?bb,?_⟩
 case bb =>
  refine' ad ?s1 ?r1
  case s1 =>
   exact(br (aU f_check_standing hr (aa (pv 0) (aa (pv 1) af ai) ai)))
  case r1 =>
   refine' ad ?s3 ?r3
   case s3 =>
    refine' aA 2 S.nd ?e
    case e=>exact(aU f_steps_found hr (aa (pv 0) (aa (pv 1) af ai) ai))
   case r3 =>
    refine' ad ?s5 ?r5
    case s5 =>
     refine' aA 3 S.nd ?e
     case e=>exact(aU f_rests_in hr (aa (pv 2) af ai))
    case r5 =>
     refine' ad ?s7 ?r7
     case s7 =>
      refine' bg ?c8 ?a8 ?o8
      case c8=>exact(aC sv (aH aG (by rfl) T.n_len PySem.boot_len (aa (pv 3) af ai)) ae (aI _))
      case a8 =>
       refine' am ?s9
       case s9 =>
        exact(aF (aL (aa aE (aa (aU f_order_to hr (aa (pv 2) (aa (pv 1) (aa (ax aD (pv 3) ae (λ_ _=>rfl)) af) ai) ai)) (aa (aU f_order_to hr (aa (pv 2) (aa (pv 1) (aa (ax aD (pv 3) ae (λ_ _=>rfl)) af) ai) ai)) af cu) cu) aB)))
      case o8 =>
       exact aM
     case r7 =>
      refine' ad ?s11 ?r11
      case s11 =>
       refine' aA 4 S.nd ?e
       case e=>exact(aU f_most_switchings hr (aa (pv 2) af ai))
      case r11 =>
       refine' am ?s13
       case s13 =>
        exact(aF (mP (iV (wK hu (pv 1) (pv 4))) dY (aU f_round_told hr (aa (pv 2) (aa (pv 4) (aa (pv 1) af ai) ai) ai))))
 walk_at "e"
 walk_at "w"
 refine⟨a,li,lg,ins,gvs,gs,z,rfl,NA,ok,st,λH0 S0=>?_⟩
 have NA0:=NA.same S0
 have tb0:=kY tb S0
 walk_at "w"
 refine⟨a,li,lg,ins,gvs,gs,z,rfl,NA0,ok,st,tb0,λF as n H1 t1 hF0 ln las hF1 sts=>?_⟩
 obtain⟨xs,exs,lxs,met,few⟩:=sY ok st ln
 rw[exs]at hF1 sts
 have t01:Tk TL H H1:=(Tk.of tb S0).trans t1
 have sd:SD H1 F ins gs xs:=⟨as,.inl hF1,by omega,λi x b e1 e2=>sts i (Sum.inr x) b (cX.mpr ⟨x,e1,rfl⟩) e2⟩
 walk_at "w"
 refine⟨F,xs,as,λh=>(ap ins gs h).length,rfl,.inl hF1,by omega,few,met.nd,λi x b e1 e2=>?_,λRs ss H2 S2 hp pm so hp2=>?_⟩
 ·obtain⟨vs,h1,h2⟩:=sts i (Sum.inr x) b (cX.mpr ⟨x,e1,rfl⟩) e2
  exact⟨vs,h1,by have:=aK h2;unfold stN cO at this;rwa [List.length_map]at this⟩
 have t02:Tk TL H H2:=t01.trans (Tk.of t01.tab S2)
 obtain⟨ndr,rmem⟩:=fq met pm
 generalize hrs:(ss.filter λh=>decide ((ap ins gs h).length=0))=rs at *
 walk_at "w"
 rw[List.length_map]
 have pth:∀x∈rs,∃ns,Path (ap ins gs) xs z x ns/\ns.length<=2048:=λx hx=>by
  obtain⟨i,hi,e⟩:=List.mem_iff_getElem.mp ((rmem x).mp hx).1
  obtain⟨ns,p,l⟩:=met.path i x (by rw[List.getElem?_eq_getElem hi,e])
  exact⟨ns,p,by omega⟩
 by_cases c1:1<rs.length
 ·refine ifT (decide_eq_true (by omega)) ?_
  match rs,c1 with
  | x::y::rs,_=>?_
  have hx:=(rmem x).mp (by simp)
  have hy:=(rmem y).mp (by simp)
  have ne:x≠y:=λe=>by rw[e]at ndr;simp at ndr
  obtain⟨os,p1,l1⟩:=pth x (by simp)
  obtain⟨os2,p2,l2⟩:=pth y (by simp)
  walk_at "w"
  refine i_ixL (SqL.of hp2) (bB (j:=0) rfl) ?_
  walk_at "w"
  obtain⟨as2,r2,las2,sts2⟩:=sd.same S2
  refine⟨F,as2,ap ins gs,xs,z,x,os,rfl,r2,las2,few,met.nd,λh=>Nat.le_trans (cA ins gs h) ok.g7,sts2,p1,by omega,λl H3 S3 hl0 hl3=>?_⟩
  walk_at "w"
  refine i_ixL (SqL.of (S3 _ _ hp2)) (bB (j:=1) rfl) ?_
  walk_at "w"
  obtain⟨as3,r3,las3,sts3⟩:=(sd.same S2).same S3
  refine⟨F,as3,ap ins gs,xs,z,y,os2,rfl,r3,las3,few,met.nd,λh=>Nat.le_trans (cA ins gs h) ok.g7,sts3,p2,by omega,λl' H4 S4 hl0' hl4=>?_⟩
  walk_at "w"
  refine⟨by simp[sizeLine],λt ht=>?_⟩
  generalize hE:upd H4 t _=H5
  obtain⟨S5,q5⟩:=aN ht hE
  clear hE
  have t03:=t02.trans (Tk.of t02.tab S3)
  have t04:=t03.trans (Tk.of t03.tab S4)
  exact k (some (false,os,os2)) _ H5 (t04.trans (Tk.of t04.tab S5)) ⟨xs,ss,x,y,rs,met,pm,so,hrs,p1,p2,l1,l2⟩ ⟨t,l,l',rfl,t04.free ht,t02.free hl0,t03.free hl0',aq hl3 hl0',q5,(S4.trans S5) _ _ hl3,S5 _ _ hl4⟩
 ·refine ifF (decide_eq_false (by omega)) ?_
  walk_at "w"
  refine⟨F,ins,gs,z,xs,rfl,sd.same S2,met,ok,λN ps H3 S3 hN0 hN num=>?_⟩
  have t03:Tk TL H H3:=t02.trans (Tk.of t02.tab S3)
  have dg:cq H3 N (.str z) (bh (cQ ps) (Sum.inr z)):=.inl ⟨_,Sum.inr z,.inl hN,rfl,rfl⟩
  with_reducible refine s_name ?_
  refine s_ret (i_ifE (i_test (A0 (i_var rfl (i_var rfl ⟨N,_,rfl,dg,_,rfl,?_⟩)))))
  by_cases c2:z∈ps.map (·.1)
  ·refine ifT ?_ ?_
   ·cases q:bh (cQ ps) (Sum.inr z) with
    | none=>exact absurd c2 (dA.mp q)
    | some _=>rfl
   obtain⟨n,l⟩:=(num.long_of met met.start).mp c2
   obtain⟨os,y,ru,ey⟩:=l.stop st
   have hy:=(rmem y).mpr ⟨met.runs ru met.start,ey⟩
   have er:rs=[y]:=by
    match rs,c1,hy with
    | [],_,hy=>cases hy
    | [x],_,hy=>rw[List.mem_singleton.mp hy]
    | x::y::rs,c1,_=>simp at c1
   subst er
   exact k none _ H3 t03 ⟨y,xs,met,λx=>(rmem x).symm.trans List.mem_singleton,n,l⟩ rfl
  ·refine ifF (by rw[dA.mpr c2];rfl) ?_
   walk_at "w"
   refine⟨F,N,ins,gs,z,z,xs,ps,rfl,(sd.same S2).same S3,met,ok,hN,num,met.start,c2,λt p q hs ns here i H4 S4 ht hp0 hq0 npq rwk ei q1 q2 q3=>?_⟩
   exact k (some (true,ns.take i,ns.drop i)) _ H4 (t03.trans (Tk.of t03.tab S4)) ⟨xs,ss,ps.map (·.1),hs,ns,here,i,met,pm,so,by unfold rP;rw[hrs];omega,λx hx=>num.long_of met hx,c2,rwk,ei,rfl,rfl⟩ ⟨t,p,q,rfl,t03.free ht,t03.free hp0,t03.free hq0,npq,q1,q2,q3⟩
end
def nU:Sp:=λvs H Q _=>∃(F:Addr) (ins:List Str) (gs:List (Str × Rl)) (z:Str) (ys xs:List Str) (ls:List Addr),vs=[.ref F,.str z]/\WD H F ins gs ys ls/\Met ins gs z xs/\NetOk ins gs/\ys.Perm xs /\
 (∀r H',ao H H'->nI ins gs z r->Q (.str r) H')/\(∀H',ao H H'->(∀r,¬nI ins gs z r)->Q .non H')
def nV:Sp:=λvs H Q _=>∃a li lg ins gvs gs z oa os y,vs=[.ref a,.str z,.ref oa]/\NAt H a li lg ins gvs gs/\NetOk ins gs/\StOk (au ins gs).length z/\H oa=some (.lst (os.map V.str))/\Run ins gs z os y/\∀H',ao H H'->Q (.str y) H'
def ld:Sp:=λvs H Q _=>∃a li lg ins gvs gs z t p q b os ps,vs=[.ref a,.str z,.ref t]/\NAt H a li lg ins gvs gs/\NetOk ins gs/\StOk (au ins gs).length z/\H t=some (.tup [.str (j_ b),.ref p,.ref q])/\H p=some (.lst (os.map V.str))/\H q=some (.lst (ps.map V.str))/\eV ins gs z (some (b,os,ps))/\∀H',ao H H'->Q (.bl true) H'
theorem ij (hl:H l=some (.lst us)) (q:∀H',ao H H'->Q (.bl (us.length==0)) H'):wv hG σ H λy H2=>rR K false (.ref l) y H2 Q:=by
 refine i_lst (i_nil ⟨by simp[sizeLine],λp hp=>?_⟩)
 refine⟨l,p,us,[],λ_=>true,rfl,rfl,SqL.of (ak hp _ _ hl),SqL.of ag,(λj x y _ h=>by simp at h),?_⟩
 rw[if_neg Bool.false_ne_true,show (us.length==([]:List V).length&&(List.range us.length).all λ_=>true)=(us.length==0) by simp]
 exact q _ (ak hp)
theorem rL (ok:NetOk ins gs) {n:Str} (h:(n,y)∈ap ins gs z):(ap ins gs z).filter (λp=>decide (p.1=n))=[(n,y)]:=by
 have nd:=rK ok z
 have hn:(ap ins gs z).Nodup:=(List.pairwise_map.mp nd).imp λ{a b} h e=>h (by rw[e])
 refine ku (hn.filter _) λp=>?_
 rw[List.mem_filter,decide_eq_true_iff]
 refine⟨λ⟨hp,e⟩=>?_,λe=>by rw[e];exact⟨h,rfl⟩⟩
 obtain⟨i,hi,ei⟩:=List.mem_iff_getElem.mp hp
 obtain⟨j,hj,ej⟩:=List.mem_iff_getElem.mp h
 have:i=j:=(List.getElem_inj (h₀:=by rw[List.length_map];exact hi) (h₁:=by rw[List.length_map];exact hj) nd).mp (by rw[List.getElem_map,List.getElem_map,ei,ej];exact e)
 subst this
 rw[<-ei,ej]
section
theorem n9:FnScope ["ways", "standing", "rest"] ["ways", "standing"] (ay (top 38)):=by walk_at "k"
variable {fd:FuncData}
theorem uJ {f:Addr} (Fu:Fun K "_law_one" "_law_one" (top 38) f fd) (T:Txt K mg TT) (f_law_levels:Fn P w K mg base "_law_levels" ["ways", "standing"] 1 iJ):FnOk P w K mg base CX0 2 f fd ["ways", "standing"] nU:=by
 have S:=n9
 refine Fu.ok S (by walk_at "l") (λcdv A outer s H vs Q E hr h=>?_)
 obtain⟨F,ins,gs,z,ys,xs,ls,rfl,wd,met,ok,pm,k1,k2⟩:=h
 have hu:=de hr
 refine'⟨?_,?bb,?_⟩
 case bb =>
  refine' ad ?s1 ?r1
  case s1 =>
   exact(pB (j:=2) S.nd rfl (by walk_at "o") (tgs:=["one"]) (cap:=[("ways", 0)]) rfl ⟨rfl,rfl,rfl,rfl,rfl,rfl⟩ (bD (aH (jy rfl) (by rfl) T.n_sorted PyProof.Rows.boot_sorted (aa (pv 0) af ai))) (λ_ _ _ _=>(bt (i:=0) (show List.Nodup [("one" : Str),("ways" : Str)] by decide +kernel) rfl (by walk_at "o"))) (λ_ _ _ _=>(f8 (aC (uA (K:=K) rfl hr.units) (bA hu (pv 1) (pv 0) (λ_ _=>rfl)) (bd af) (aI _)))) (λ_ _ _ _=>(pv 0)))
  case r1 =>
   refine' ad ?s3 ?r3
   case s3 =>
    refine' bg ?c4 ?a4 ?o4
    case c4=>exact(PW.pt (f7 (aC oi (aU f_law_levels hr (aa (pv 0) (aa (pv 1) af ai) ai)) dY rfl) (fM (aC i9 (aH aG (by rfl) T.n_len PySem.boot_len (aa (pv 2) af ai)) ae (aI _)))))
    case a4 =>
     refine' am ?s5
     case s5 =>
      exact(aF dY)
    case o4 =>
     exact aM
   case r3 =>
    refine' am ?s7
    case s7 =>
     exact(aF (ax aD (pv 2) ae (λ_ _=>rfl)))
 walk_at "e"
 have few:=met.few7 ok
 obtain⟨hF,lls,hls⟩:=id wd
 have lys:=pm.length_eq
 have ndy:=pm.nodup_iff.mpr met.nd
 with_reducible refine aP ?_
 refine s_asg (cB (s_list (i_cb (i_cons (i_var rfl (i_nil ⟨F,ys,rfl,tG (.inl hF) lls,by omega,λp ss hp pm2 so=>?_⟩))))))
 generalize hE:upd H p _=H1
 obtain⟨S1,q1⟩:=aN hp hE
 clear hE
 have lss:=pm2.length_eq
 refine⟨p,rfl,⟨_,SqL.of q1⟩,λL hL=>?_⟩
 refine eM (xs:=ss.map V.str) (λm H' us=>ao H1 H'/\H' L=some (.lst us)/\us=((ss.take m).filter λh=>decide ((ap ins gs h).length=0)).map V.str) ⟨ak hL,ag,by simp⟩ (λm H' ys p=>⟨p.2.1,SqL.of (p.1 _ _ q1)⟩) (λm v H' us e p=>?_) (λH2 us p=>?_)
 ·obtain⟨Sm,hd,rfl⟩:=p
  rw[List.getElem?_map]at e
  cases ex:ss[m]? with
  | none=>rw[ex]at e;cases e
  | some x =>
   rw[ex]at e
   cases e
   have hm:m<ss.length:=(List.getElem?_eq_some_iff.mp ex).1
   obtain⟨i,hi,exi⟩:=List.mem_iff_getElem.mp (pm2.mem_iff.mp (List.mem_of_getElem? ex))
   have e1:ys[i]?=some x:=by rw[List.getElem?_eq_getElem hi,exi]
   obtain⟨b,e2⟩:∃b,ls[i]?=some b:=⟨_,List.getElem?_eq_getElem (by omega)⟩
   have S0m:=S1.trans Sm
   refine s_name ⟨by repeat' (first|exact trivial|refine⟨rfl,?_⟩),?_⟩
   refine i_test (i_op (i_dget (i_var rfl (i_var rfl ⟨F,_,rfl,dU (.inl (S0m _ _ hF)) ndy e1 e2,ij (S0m _ _ (hls i x b e1 e2)) λH3 S3=>⟨_,rfl,?_⟩⟩))))
   have tk:(ss.take (m+1)).filter (λh=>decide ((ap ins gs h).length=0))=(ss.take m).filter (λh=>decide ((ap ins gs h).length=0))++[x].filter (λh=>decide ((ap ins gs h).length=0)):=by rw[List.take_succ,ex,List.filter_append];rfl
   have ln:((nxS ins gs x).map V.str).length=(ap ins gs x).length:=by unfold nxS;rw[List.length_map,List.length_map]
   rw[ln]
   by_cases c:(ap ins gs x).length=0
   ·refine ifT (by rw[c];rfl) ?_
    refine i_var rfl (ck.mk (S3 _ _ hd) (by rw[List.length_map];exact hm) ?_ ⟨aR (Sm.trans S3) hL,ag,?_⟩)
    ·rw[List.length_map]
     have:=List.length_filter_le (λh=>decide ((ap ins gs h).length=0)) (ss.take m)
     rw[List.length_take]at this
     omega
    ·rw[tk,List.map_append,List.filter_cons_of_pos (by simpa using c)];rfl
   ·refine ifF (by simpa using c) ?_
    rw[List.length_map]
    refine⟨ss.length-(m+1),by omega,rfl,by omega,Sm.trans S3,S3 _ _ hd,?_⟩
    rw[tk,List.filter_cons_of_neg (by simpa using c),List.filter_nil,List.append_nil]
 ·obtain⟨Sm,hd,rfl⟩:=p
  rw[List.length_map,List.take_of_length_le (Nat.le_refl _)]at hd
  obtain⟨ndr,rmem⟩:=fq met (pm2.trans pm)
  generalize (ss.filter λh=>decide ((ap ins gs h).length=0))=rs at *
  have S02:=S1.trans Sm
  have non:∀{r},nI ins gs z r->rs=[r]/\∃n,dI ins gs z n:=λ{r} ⟨ys,m',h,l⟩=>by
   have:=met.one m'
   subst this
   exact⟨sw ndr λx=>(rmem x).trans (h x),l⟩
  refine s_name ?_
  with_reducible refine aP ?_
  with_reducible refine s_if ?_
  with_reducible refine i_or ?_
  refine i_test (i_op (i_call (i_cons (i_var rfl (i_cons (i_var rfl (i_nil ⟨F,ins,gs,z,ys,xs,ls,rfl,⟨S02 _ _ hF,lls,λi y l e1 e2=>S02 _ _ (hls i y l e1 e2)⟩,met,ok,pm,λd H3 S3 lg=>?_,λH3 S3 no=>?_⟩)))))))
  ·refine i_c ⟨rfl,⟨_,rfl,ifF rfl ?_⟩⟩
   refine i_test (i_op (i_cb (i_cons (i_var rfl (i_nil ⟨L,_,rfl,.inl (SqL.of (S3 _ _ hd)),i_c (i_ne rfl ⟨_,rfl,?_⟩)⟩)))))
   rw[List.length_map]
   by_cases c:rs.length=1
   ·refine ifF (by rw[c];rfl) ?_
    with_reducible refine s_next ?_
    obtain⟨r,er⟩:∃r,rs=[r]:=List.length_eq_one_iff.mp c
    subst er
    exact s_ret (i_op (i_var rfl (i_c (i_ixL (SqL.of (S3 _ _ hd)) (bB (j:=0) rfl) (k1 r H3 (S02.trans S3) ⟨xs,met,λx=>(rmem x).symm.trans List.mem_singleton,lg⟩)))))
   ·refine ifT (by simpa using λz=>c (by omega)) ?_
    exact s_ret (i_c (k2 H3 (S02.trans S3) λr o=>c (by rw[(non o).1];rfl)))
  ·refine i_c ⟨rfl,⟨_,rfl,ifT rfl ?_⟩⟩
   exact s_ret (i_c (k2 H3 (S02.trans S3) λr o=>no (non o).2))
theorem og:FnScope ["net", "standing", "order", "name", "some"] ["net", "standing", "order"] (ay (top 40)):=by walk_at "k"
theorem uK {f:Addr} (Fu:Fun K "_law_end" "_law_end" (top 40) f fd) (T:Txt K mg TT) (f_law_asked:Fn P w K mg base "_law_asked" ["net", "standing"] 11 c9):FnOk P w K mg base CX0 12 f fd ["net", "standing", "order"] nV:=by
 have S:=og
 refine Fu.ok S (by walk_at "l") (λcdv A outer s H vs Q E hr h=>?_)
 obtain⟨a,li,lg,ins,gvs,gs,z,oa,os,y,rfl,NA,ok,st,ho,run,k⟩:=h
 have hu:=de hr
 refine'⟨?_,?bb,?_⟩
 case bb =>
  refine' ad ?s1 ?r1
  case s1 =>
   refine' bg ?c2 ?a2 ?o2
   case c2=>exact(gF (fN (aH dW (by rfl) T.n_isinstance PyProof.Rows.boot_isinstance (aa (pv 2) (aa (im (v:=.ty "list") (by rfl) T.n_list PyProof.Rows.boot_list rfl) af ai) ai))))
   case a2 =>
    refine' am ?s3
    case s3 =>
     exact(aF dY)
   case o2 =>
    exact aM
  case r1 =>
   refine' ad ?s5 ?r5
   case s5 =>
    refine' bP PassesOwn.never rfl ?i6 ?g6 ?b6 ?h6
    case h6=>intro _;rfl
    case i6=>exact(bD (pv 2))
    case g6=>exact(bU 3 S.nd)
    case b6 =>
     refine' ad ?s7 ?r7
     case s7 =>
      exact(pB (j:=4) S.nd rfl (by walk_at "o") (tgs:=["other", "there"]) (cap:=[("name", 3)]) rfl ⟨rfl,rfl,rfl,rfl,rfl,rfl⟩ (bD (aU f_law_asked hr (aa (pv 0) (aa (pv 1) af ai) ai))) (λ_ _ _ _=>(lM (K:=K) (n:=2) rfl rfl (bp (bt (i:=0) (show List.Nodup [("other" : Str),("there" : Str),("name" : Str)] by decide +kernel) rfl (by walk_at "o")) (bp (bt (i:=1) (show List.Nodup [("other" : Str),("there" : Str),("name" : Str)] by decide +kernel) rfl (by walk_at "o")) dO)))) (λ_ _ _ _=>(f8 (aC bR (pv 0) (pv 2) (aI _)))) (λ_ _ _ _=>(pv 1)))
     case r7 =>
      refine' ad ?s9 ?r9
      case s9 =>
       refine' bg ?c10 ?a10 ?o10
       case c10=>exact(aC (i_ hr.units) (pv 4) (bd af) (aI _))
       case a10 =>
        refine' am ?s11
        case s11 =>
         exact(aF dY)
       case o10 =>
        exact aM
      case r9 =>
       refine' am ?s13
       case s13 =>
        refine' aA 1 S.nd ?e
        case e=>exact(ax aD (pv 4) ae (λ_ _=>rfl))
   case r5 =>
    refine' am ?s15
    case s15 =>
     exact(aF (pv 1))
 walk_at "e"
 have g7:=ok.g7
 with_reducible refine aP ?_
 with_reducible refine s_if ?_
 refine i_not (i_tB (i_cb (i_cons (i_var rfl (i_cons (i_c (i_nil ⟨_,_,_,_,rfl,TyOf.lst ho,gc "list", ⟨_,rfl,iteF ?_⟩⟩)))))))
 with_reducible refine s_next ?_
 with_reducible refine aP ?_
 refine s_for (s_list (i_var rfl ⟨oa,rfl,⟨_,SqL.of ho⟩,?_⟩))
 refine dh (xs:=os.map V.str) (λi σ H'=>(∃(x3 x4:Option V) (hr:Str),σ=[some (.ref a),some (.str hr),some (.ref oa),x3,x4]/\StOk (au ins gs).length hr/\Run ins gs hr (os.drop i) y)/\ao H H')
  ⟨⟨_,_,z,rfl,st,run⟩,ao.refl _⟩ (λi σ H' _ pv=>SqL.of (pv.2 _ _ ho)) (λi v σ H' hv pv=>?_) (λσ H' pv=>?_)
 ·obtain⟨⟨x3,x4,here,rfl,sth,rn⟩,SS⟩:=pv
  rw[List.getElem?_map]at hv
  cases hn:os[i]? with
  | none=>rw[hn]at hv;cases hv
  | some n =>
   rw[hn]at hv
   cases hv
   have hi:i<os.length:=(List.getElem?_eq_some_iff.mp hn).1
   have dn:os.drop i=n::os.drop (i+1):=by
    rw[List.drop_eq_getElem_cons hi]
    congr 1
    exact(List.getElem?_eq_some_iff.mp hn).2
   rw[dn]at rn
   cases rn with
   | @cons _ y1 _ _ _ hmem sty rn1 =>
   refine s_name ?_
   with_reducible refine aP ?_
   refine s_asg (cB (s_list (i_call (i_cons (i_var rfl (i_cons (i_var rfl (i_nil ⟨a,li,lg,ins,gvs,gs,here,rfl,NA.same SS,ok,sth,λl vs H1 S1 hl0 hl1 pr=>⟨l,rfl,⟨_,SqL.of hl1⟩,λL hL=>?_⟩⟩))))))))
   have lv:=aK pr
   have l7:=cA ins gs here
   refine eM (xs:=vs) (λm H' us=>ao H1 H'/\H' L=some (.lst us)/\us=(((ap ins gs here).take m).filter λp=>decide (p.1=n)).map λp=>V.str p.2) ⟨ak hL,ag,by simp⟩ (λm H' us p=>⟨p.2.1,SqL.of (p.1 _ _ hl1)⟩) (λm v H' us e p=>?_) (λH2 us p=>?_)
   ·obtain⟨Sm,hd,rfl⟩:=p
    obtain⟨p,hp,b,rfl,hb⟩:=cE pr m v e
    have hm:m<vs.length:=(List.getElem?_eq_some_iff.mp e).1
    have tk:((ap ins gs here).take (m+1)).filter (λp=>decide (p.1=n))=((ap ins gs here).take m).filter (λp=>decide (p.1=n))++[p].filter (λp=>decide (p.1=n)):=by rw[List.take_succ,hp,List.filter_append];rfl
    refine⟨b,_,rfl,SqT.of (Sm _ _ hb),rfl,?_⟩
    refine⟨_,_,rfl,s_name ⟨_,_,rfl,s_name ⟨rfl,by repeat' (first|exact trivial|refine⟨rfl,?_⟩),?_⟩⟩⟩
    refine i_test (i_op (i_var rfl (i_var rfl (i_eq rfl ⟨_,rfl,?_⟩))))
    by_cases c:p.1=n
    ·refine ifT (decide_eq_true (by rw[c])) ?_
     refine i_var rfl (ck.mk hd hm ?_ ⟨aR Sm hL,ag,?_⟩)
     ·have:=List.length_filter_le (λp:Str × Str=>decide (p.1=n)) ((ap ins gs here).take m)
      rw[List.length_take]at this
      rw[List.length_map]
      omega
     ·rw[tk,List.filter_cons_of_pos (by simpa using c),List.map_append];rfl
    ·refine ifF (decide_eq_false λq=>c (V.str.inj q)) ?_
     refine⟨vs.length-(m+1),by omega,rfl,by omega,Sm,hd,?_⟩
     rw[tk,List.filter_cons_of_neg (by simpa using c),List.filter_nil,List.append_nil]
   ·obtain⟨Sm,hd,rfl⟩:=p
    rw[lv,List.take_of_length_le (Nat.le_refl _),rL ok hmem]at hd
    refine s_name ?_
    with_reducible refine aP ?_
    with_reducible refine s_if ?_
    refine i_test (i_op (i_var rfl (ij hd λH3 S3=>⟨_,rfl,iteF ?_⟩)))
    with_reducible refine s_next ?_
    refine s_asg (i_op (i_var rfl (i_c (i_ixL (SqL.of (S3 _ _ hd)) (bB (j:=0) rfl) (s_name ?_)))))
    exact⟨⟨_,_,y1,rfl,sty,rn1⟩,SS.trans (S1.trans (Sm.trans S3))⟩
 ·obtain⟨⟨x3,x4,here,rfl,sth,rn⟩,SS⟩:=pv
  rw[List.length_map,List.drop_of_length_le (Nat.le_refl _)]at rn
  cases rn
  try dsimp only
  exact s_ret (i_var rfl (k _ SS))
theorem lA:FnScope ["net", "standing", "found", "one", "other"] ["net", "standing", "found"] (ay (top 41)):=by walk_at "k"
theorem sN {f:Addr} (Fu:Fun K "_law_parts" "_law_parts" (top 41) f fd) (T:Txt K mg TT) (f_law_asked:Fn P w K mg base "_law_asked" ["net", "standing"] 11 c9) (f_law_end:Fn P w K mg base "_law_end" ["net", "standing", "order"] 12 nV):FnOk P w K mg base CX0 13 f fd ["net", "standing", "found"] ld:=by
 have S:=lA
 refine Fu.ok S (by walk_at "l") (λcdv A outer s H vs Q E hr h=>?_)
 obtain⟨a,li,lg,ins,gvs,gs,z,t,p,q,b,os,ps,rfl,NA,ok,st,ht,hp,hq,tell,k⟩:=h
 have hu:=de hr
 refine'⟨?_,?bb,?_⟩
 case bb =>
  refine' ad ?s1 ?r1
  case s1 =>
   refine' bg ?c2 ?a2 ?o2
   case c2=>exact(PW.pt (f7 (gF (fN (aH dW (by rfl) T.n_isinstance PyProof.Rows.boot_isinstance (aa (pv 2) (aa (im (v:=.ty "tuple") (by rfl) T.n_tuple PyProof.Rows.boot_tuple rfl) af ai) ai)))) (f7 (aC i9 (aH aG (by rfl) T.n_len PySem.boot_len (aa (pv 2) af ai)) ae (aI _)) (fM (gF (fN (aH dW (by rfl) T.n_isinstance PyProof.Rows.boot_isinstance (aa (ax aJ (pv 2) ae (λ_ _=>rfl)) (aa (im (v:=.ty "str") (by rfl) T.n_str PyProof.Rows.boot_str rfl) af ai)))))))))
   case a2 =>
    refine' am ?s3
    case s3 =>
     exact(aF ed)
   case o2 =>
    exact aM
  case r1 =>
   refine' ad ?s5 ?r5
   case s5 =>
    refine' aA 3 S.nd ?e
    case e=>exact(aU f_law_end hr (aa (pv 0) (aa (pv 1) (aa (ax aJ (pv 2) ae (λ_ _=>rfl)) af) ai) ai))
   case r5 =>
    refine' ad ?s7 ?r7
    case s7 =>
     refine' bg ?c8 ?a8 ?o8
     case c8=>exact(aC oi (pv 3) dY rfl)
     case a8 =>
      refine' am ?s9
      case s9 =>
       exact(aF ed)
     case o8 =>
      exact aM
    case r7 =>
     refine' ad ?s11 ?r11
     case s11 =>
      refine' bg ?c12 ?a12 ?o12
      case c12=>exact(aC bR (ax aJ (pv 2) ae (λ_ _=>rfl)) aE (aI _))
      case a12 =>
       refine' am ?s13
       case s13 =>
        with_reducible refine' aF ?e
        case e =>
         exact(lN (dP (i0 hr.units) (ax aJ (pv 2) ae (λ_ _=>rfl)) (bd af) (aI _)) (gJ (dP bR (aU f_law_end hr (aa (pv 0) (aa (pv 3) (aa (ax aJ (pv 2) ae (λ_ _=>rfl)) af) ai) ai)) (pv 3) (aI _))))
      case o12 =>
       exact aM
     case r11 =>
      refine' ad ?s16 ?r16
      case s16 =>
       refine' aA 4 S.nd ?e
       case e=>exact(aU f_law_end hr (aa (pv 0) (aa (pv 1) (aa (ax aJ (pv 2) ae (λ_ _=>rfl)) af) ai) ai))
      case r16 =>
       refine' ad ?s18 ?r18
       case s18 =>
        refine' bg ?c19 ?a19 ?o19
        case c19=>exact(PW.pt (f7 (aC i9 (ax aJ (pv 2) ae (λ_ _=>rfl)) aE (aI _)) (f7 (aC oi (pv 4) dY rfl) (fM (aC bR (pv 3) (pv 4) (aI _))))))
        case a19 =>
         refine' am ?s20
         case s20 =>
          exact(aF ed)
        case o19 =>
         exact aM
       case r18 =>
        refine' am ?s22
        case s22 =>
         with_reducible refine' aF ?e
         case e =>
          exact(lN (dP (i_ hr.units) (aU f_law_asked hr (aa (pv 0) (aa (pv 3) af ai) ai)) (bd af) (aI _)) (gJ (dP (i_ hr.units) (aU f_law_asked hr (aa (pv 0) (aa (pv 4) af ai) ai)) (bd af) (aI _))))
 walk_at "e"
 obtain⟨xs,met⟩:=sZ ok st
 have sto:∀{os x},Run ins gs z os x->StOk (au ins gs).length x:=λr=>met.st _ (met.runs r met.start)
 with_reducible refine aP ?_
 with_reducible refine s_if ?_
 with_reducible refine i_or ?_
 refine i_not (i_tB (i_cb (i_cons (i_var rfl (i_cons (i_c (i_nil ⟨_,_,_,_,rfl,TyOf.tup ht,gc "tuple", ⟨_,rfl,iteF ?_⟩⟩)))))))
 with_reducible refine i_or ?_
 refine i_test (i_op (i_cb (i_cons (i_var rfl (i_nil ⟨t,_,rfl,.inr (SqT.of ht),i_c (i_ne rfl ⟨_,rfl,iteF ?_⟩)⟩)))))
 refine i_not (i_tB (i_cb (i_cons (i_op (i_var rfl (i_c (i_ixT ht rfl (i_cons (i_c (i_nil ⟨_,_,_,_,rfl,TyOf.str _,gc "str", ⟨_,rfl,iteF ?_⟩⟩))))))))))
 with_reducible refine s_next ?_
 with_reducible refine aP ?_
 refine s_asg (i_call (i_cons (i_var rfl (i_cons (i_var rfl (i_cons (i_op (i_var rfl (i_c (i_ixT ht rfl (i_nil ?_)))))))))))
 cases b with
 | true =>
  obtain⟨x,r1,r2,ne,_⟩:=tell.round ok
  refine⟨a,li,lg,ins,gvs,gs,z,p,os,x,rfl,NA,ok,st,hp,r1,λH1 S1=>s_name ?_⟩
  with_reducible refine aP ?_
  with_reducible refine s_if ?_
  refine i_test (i_op (i_var rfl (i_c ⟨rfl,⟨_,rfl,ifF rfl ?_⟩⟩)))
  with_reducible refine s_next ?_
  with_reducible refine aP ?_
  with_reducible refine s_if ?_
  refine i_test (i_op (i_op (i_var rfl (i_c (i_ixT (S1 _ _ ht) rfl (i_c (i_eq rfl ⟨_,rfl,ifT (decide_eq_true rfl) ?_⟩)))))))
  refine s_ret (i_andV (i_op (i_op (i_var rfl (i_c (i_ixT (S1 _ _ ht) rfl ?_))))))
  refine i_lst (i_nil ⟨by simp[sizeLine],λe he=>?_⟩)
  generalize hE:upd H1 e _=H2
  obtain⟨S2,q2⟩:=aN he hE
  clear hE
  have S12:=S1.trans S2
  refine⟨q,e,ps.map V.str,[],λ_=>true,rfl,rfl,SqL.of (S12 _ _ hq),SqL.of q2,(λj x y _ h=>by simp at h),⟨_,rfl,ifT ?_ ?_⟩⟩
  ·cases ps with
   | nil=>exact absurd rfl ne
   | cons u us=>rfl
  refine i_op (i_call (i_cons (i_var rfl (i_cons (i_var rfl (i_cons (i_op (i_var rfl (i_c (i_ixT (S12 _ _ ht) rfl (i_nil ⟨a,li,lg,ins,gvs,gs,x,q,ps,x,rfl,NA.same S12,ok,sto r1,S12 _ _ hq,r2,λH3 S3=>i_var rfl (i_eq rfl ?_)⟩)))))))))))
  rw[decide_eq_true rfl]
  exact k _ (S12.trans S3)
 | false =>
  obtain⟨x,y,r1,r2,ne,e1,e2,_⟩:=tell.rests
  refine⟨a,li,lg,ins,gvs,gs,z,p,os,x,rfl,NA,ok,st,hp,r1,λH1 S1=>s_name ?_⟩
  with_reducible refine aP ?_
  with_reducible refine s_if ?_
  refine i_test (i_op (i_var rfl (i_c ⟨rfl,⟨_,rfl,ifF rfl ?_⟩⟩)))
  with_reducible refine s_next ?_
  with_reducible refine aP ?_
  with_reducible refine s_if ?_
  refine i_test (i_op (i_op (i_var rfl (i_c (i_ixT (S1 _ _ ht) rfl (i_c (i_eq rfl ⟨_,rfl,ifF (decide_eq_false (by decide)) ?_⟩)))))))
  with_reducible refine s_next ?_
  with_reducible refine aP ?_
  refine s_asg (i_call (i_cons (i_var rfl (i_cons (i_var rfl (i_cons (i_op (i_var rfl (i_c (i_ixT (S1 _ _ ht) rfl (i_nil ⟨a,li,lg,ins,gvs,gs,z,q,ps,y,rfl,NA.same S1,ok,st,S1 _ _ hq,r2,λH2 S2=>s_name ?_⟩)))))))))))
  have S12:=S1.trans S2
  with_reducible refine aP ?_
  with_reducible refine s_if ?_
  with_reducible refine i_or ?_
  refine i_test (i_op (i_op (i_var rfl (i_c (i_ixT (S12 _ _ ht) rfl (i_c (i_ne rfl ⟨_,rfl,iteF ?_⟩)))))))
  with_reducible refine i_or ?_
  refine i_test (i_op (i_var rfl (i_c ⟨rfl,⟨_,rfl,ifF rfl ?_⟩⟩)))
  refine i_test (i_op (i_var rfl (i_var rfl (i_eq rfl ⟨_,rfl,ifF (decide_eq_false λe=>ne (V.str.inj e)) ?_⟩))))
  with_reducible refine s_next ?_
  refine s_ret (i_andV (i_op (i_call (i_cons (i_var rfl (i_cons (i_var rfl (i_nil ⟨a,li,lg,ins,gvs,gs,x,rfl,NA.same S12,ok,sto r1,λl vs H3 S3 hl0 hl3 pr3=>?_⟩))))))))
  have v0:vs.length=0:=by rw[aK pr3,e1];rfl
  refine ij hl3 λH4 S4=>⟨_,rfl,ifT (by rw[v0];rfl) ?_⟩
  have S14:=S12.trans (S3.trans S4)
  refine i_op (i_call (i_cons (i_var rfl (i_cons (i_var rfl (i_nil ⟨a,li,lg,ins,gvs,gs,y,rfl,NA.same S14,ok,sto r2,λl vs H5 S5 hl0 hl5 pr5=>?_⟩))))))
  have v0:vs.length=0:=by rw[aK pr5,e2];rfl
  refine ij hl5 λH6 S6=>?_
  rw[v0]
  exact k _ (S14.trans (S5.trans S6))
end
section
theorem wy:FnScope ["script", "d", "net", "handed", "turn", "standing", "due", "found", "kept"] ["script"] (ay (top 42)):=by walk_at "k"
theorem sO {TL:Addr} {f:Addr} {fd:FuncData} (Fu:Fun K "law" "law" (top 42) f fd) (T:Txt K mg TT) (f_law_draws:Fn P w K mg base "_law_draws" ["script", "many"] 1 (lq K)) (f_law_net:Fn P w K mg base "_law_net" ["d", "spot"] 12 nR) (f_law_copy:Fn P w K mg base "_law_copy" ["net"] 1 nX) (f_law_standing:Fn P w K mg base "_law_standing" ["x", "net"] 1 iH)
  (f_law_ways:Fn P w K mg base "_law_ways" ["net", "standing"] 12 nP) (f_law_one:Fn P w K mg base "_law_one" ["ways", "standing"] 2 nU) (f_law_parts:Fn P w K mg base "_law_parts" ["net", "standing", "found"] 13 ld) (f_told_parting:Fn P w K mg base "told_parting" ["net", "standing"] 16 (nQ TL)):FnOk P w K mg base CX0 17 f fd ["script"] (pi K TL):=by
 have S:=wy
 refine Fu.ok S (by walk_at "l") (λcdv A outer s H vs Q E hr h=>?_)
 obtain⟨sc,cells,rfl,hS,hlen,tb,k⟩:=h
 have hu:=de hr
 refine'⟨?_,?bb,?_⟩
 case bb =>
  refine' ad ?s1 ?r1
  case s1 =>
   refine' aA 1 S.nd ?e
   case e=>exact(aU f_law_draws hr (aa (pv 0) (aa ae af aB) ai))
  case r1 =>
   refine' ad ?s3 ?r3
   case s3 =>
    refine' aA 2 S.nd ?e
    case e=>exact(aU f_law_net hr (aa (pv 1) (aa ae af aB) ai))
   case r3 =>
    refine' ad ?s5 ?r5
    case s5 =>
     refine' aA 3 S.nd ?e
     case e=>exact(aU f_law_copy hr (aa (pv 2) af ai))
    case r5 =>
     refine' ad ?s7 ?r7
     case s7 =>
      refine' bP PassesOwn.never rfl ?i8 ?g8 ?b8 ?h8
      case h8=>intro _;rfl
      case i8=>exact(cg (by rfl) T.n_range (aa ae af aB))
      case g8=>exact(bU 4 S.nd)
      case b8 =>
       refine' ad ?s9 ?r9
       case s9 =>
        refine' aA 5 S.nd ?e
        case e=>exact(aU f_law_standing hr (aa (ax aD (pv 1) (av aV ae (pv 4)) (λ_ _=>rfl)) (aa (pv 2) af ai)))
       case r9 =>
        refine' ad ?s11 ?r11
        case s11 =>
         refine' aA 6 S.nd ?e
         case e=>exact(aU f_law_one hr (aa (aU f_law_ways hr (aa (pv 2) (aa (pv 5) af ai) ai)) (aa (pv 5) af ai) cu))
        case r11 =>
         refine' ad ?s13 ?r13
         case s13 =>
          refine' aA 7 S.nd ?e
          case e=>exact(aU f_told_parting hr (aa (pv 3) (aa (pv 5) af ai) ai))
         case r13 =>
          refine' ad ?s15 ?r15
          case s15 =>
           refine' bg ?c16 ?a16 ?o16
           case c16=>exact(aC pG (pv 6) dY rfl)
           case a16 =>
            refine' am ?s17
            case s17 =>
             refine' bg ?c18 ?a18 ?o18
             case c18=>exact(aC pG (pv 7) dY rfl)
             case a18 =>
              refine' am ?s19
              case s19 =>
               exact(aF ed)
             case o18 =>
              exact aM
           case o16 =>
            refine' ad ?s21 ?r21
            case s21 =>
             refine' bg ?c22 ?a22 ?o22
             case c22=>exact(gF (fN (aU f_law_parts hr (aa (pv 2) (aa (pv 5) (aa (pv 7) af ai) ai) ai))))
             case a22 =>
              refine' am ?s23
              case s23 =>
               exact(aF ed)
             case o22 =>
              exact aM
            case r21 =>
             refine' ad ?s25 ?r25
             case s25 =>
              refine' aA 8 S.nd ?e
              case e=>exact(aL (aa (ax aJ (pv 7) ae (λ_ _=>rfl)) (aa (cV cS (by rfl) T.n_list PyProof.Rows.boot_list (aa (ax aJ (pv 7) ae (λ_ _=>rfl)) af)) (aa (cV cS (by rfl) T.n_list PyProof.Rows.boot_list (aa (ax aJ (pv 7) ae (λ_ _=>rfl)) af)) af cu) cu)))
             case r25 =>
              refine' ad ?s27 ?r27
              case s27 =>
               exact(br (cM PySem.F.plainAttrs_list PySem.F.slot_list_append PySem.F.type_list_append ba (ax aJ (pv 7) ae (λ_ _=>rfl)) (aa aE af aB)))
              case r27 =>
               refine' ad ?s29 ?r29
               case s29 =>
                refine' bg ?c30 ?a30 ?o30
                case c30=>exact(aC (i0 hr.units) (ax aJ (pv 7) ae (λ_ _=>rfl)) (ax aJ (pv 8) ae (λ_ _=>rfl)) (aI _))
                case a30 =>
                 refine' am ?s31
                 case s31 =>
                  exact(aF ed)
                case o30 =>
                 exact aM
               case r29 =>
                refine' ad ?s33 ?r33
                case s33 =>
                 exact(br (cM PySem.F.plainAttrs_list PySem.F.slot_list_insert PySem.F.type_list_insert ou (ax aJ (pv 7) ae (λ_ _=>rfl)) (aa ae (aa aE af aB) aB)))
                case r33 =>
                 refine' am ?s35
                 case s35 =>
                  refine' bg ?c36 ?a36 ?o36
                  case c36=>exact(PW.pt (f7 (aC (i0 hr.units) (ax aJ (pv 7) ae (λ_ _=>rfl)) (av gN (ax aJ (pv 8) ae (λ_ _=>rfl)) (bd (aa aE af aB))) (aI _)) (fM (aC (su hr.units) (aU f_told_parting hr (aa (pv 3) (aa (pv 5) af ai) ai)) (pv 8) (aI _)))))
                  case a36 =>
                   refine' am ?s37
                   case s37 =>
                    exact(aF ed)
                  case o36 =>
                   exact aM
          case r15 =>
           refine' am ?s39
           case s39 =>
            refine' bg ?c40 ?a40 ?o40
            case c40=>exact(aC (su hr.units) (pv 3) (pv 2) (aI _))
            case a40 =>
             refine' am ?s41
             case s41 =>
              exact(aF ed)
            case o40 =>
             exact aM
     case r7 =>
      refine' am ?s43
      case s43 =>
       exact(aF ed)
 walk_at "e"
 walk_at "w"
 refine⟨sc,cells,rfl,hS,hlen,λd ds H1 S1 nd hd dok=>?_⟩
 walk_at "w"
 refine⟨d,ds,0,rfl,hd,dok,by omega,by omega,λa li lg ins gvs gs H2 S2 NA ok=>?_⟩
 have hd2:=S2 _ _ hd
 walk_at "w"
 refine⟨a,li,lg,ins,gvs,gs,rfl,NA,λa' li' lg' H3 S3 n1 n2 n3 NB=>?_⟩
 have hd3:=S3 _ _ hd2
 have NA3:=NA.same S3
 have tb3:=kY tb (S1.trans (S2.trans S3))
 walk_at "w"
 refine⟨by decide,by decide,?_⟩
 refine cY (n:=2) (λi σ H'=>(∃x4 x5 x6 x7 x8:Option V,σ=[some (.ref sc),some (.ref d),some (.ref a),some (.ref a'),x4,x5,x6,x7,x8])/\Tk TL H3 H') ⟨⟨_,_,_,_,_,rfl⟩,Tk.of tb3 (ao.refl _)⟩ (λi σ H' hi pv=>?_) (λσ H' pv=>?_)
 rotate_left
 ·obtain⟨⟨x4,x5,x6,x7,x8,rfl⟩,tk⟩:=pv
  try dsimp only
  walk_at "w"
  exact k _
 obtain⟨⟨x4,x5,x6,x7,x8,rfl⟩,tk⟩:=pv
 have tbH:=tk.tab
 have NAH:=NA3.mono (tk.lst tb3) (tk.tup tb3)
 have hdH:=tk.lst tb3 _ _ hd3
 obtain⟨y1,y10,_,e1⟩:=iw dok (i:=120+(0+(i:Int))) (by omega) (by omega)
 refine s_name ?_
 with_reducible refine aP ?_
 refine s_asg (i_call (i_cons (i_op (i_var rfl (i_op (i_c (i_var rfl (i_rI0 (i_ixL (SqL.of hdH) e1 (i_cons (i_var rfl (i_nil ?_))))))))))))
 refine⟨y1,a,li,lg,ins,gvs,gs,rfl,NAH,ok,λz H4 st S4=>s_name ?_⟩
 with_reducible refine aP ?_
 refine s_asg (i_call (i_cons (i_call (i_cons (i_var rfl (i_cons (i_var rfl (i_nil ?_)))))))) 
 refine⟨a,li,lg,ins,gvs,gs,z,rfl,NAH.same S4,ok,st,λF ys xs ls H5 S5 hF met pm wd=>i_cons (i_var rfl (i_nil ?_))⟩
 have S15:∀{H6:Hp},ao H5 H6->Tk TL H3 H6:=λs=>tk.trans (Tk.of tbH (S4.trans (S5.trans s)))
 refine⟨F,ins,gs,z,ys,xs,ls,rfl,wd,met,ok,pm,λr H6 S6 one=>s_name ?_,λH6 S6 no=>s_name ?_⟩
 ·have t6:=S15 S6
  have tb6:=t6.tab
  have NB6:=NB.mono (t6.lst tb3) (t6.tup tb3)
  with_reducible refine aP ?_
  refine s_asg (i_call (i_cons (i_var rfl (i_cons (i_var rfl (i_nil ?_))))))
  refine⟨a',li',lg',ins,gvs,gs,z,rfl,NB6,ok,st,tb6,λo v H7 t7 tr tv=>s_name ?_⟩
  have eo:o=none:=tr.det (show eV ins gs z none from⟨r,one⟩)
  subst eo
  have ev:v=.non:=tv
  subst ev
  have t37:=t6.trans t7
  have tb7:=t37.tab
  with_reducible refine aP ?_
  with_reducible refine s_if ?_
  refine i_test (i_op (i_var rfl (i_c ⟨rfl,⟨_,rfl,ifT rfl ?_⟩⟩)))
  with_reducible refine s_if ?_
  refine i_test (i_op (i_var rfl (i_c ⟨rfl,⟨_,rfl,ifF rfl ?_⟩⟩)))
  with_reducible refine s_next ?_
  have NA7:=NA3.mono (t37.lst tb3) (t37.tup tb3)
  have NB7:=NB.mono (t37.lst tb3) (t37.tup tb3)
  with_reducible refine s_if ?_
  refine i_test (i_op (i_var rfl (i_var rfl (tw (SqT.of NB7.ha) (SqT.of NA7.ha) rfl (mV NA7 NB7) ⟨_,rfl,iteF ?_⟩))))
  with_reducible refine s_next ?_
  exact⟨⟨_,_,_,_,_,rfl⟩,t37⟩
 ·have t6:=S15 S6
  have tb6:=t6.tab
  have NA6:=NA3.mono (t6.lst tb3) (t6.tup tb3)
  have NB6:=NB.mono (t6.lst tb3) (t6.tup tb3)
  with_reducible refine aP ?_
  refine s_asg (i_call (i_cons (i_var rfl (i_cons (i_var rfl (i_nil ?_))))))
  refine⟨a',li',lg',ins,gvs,gs,z,rfl,NB6,ok,st,tb6,λo v H7 t7 tr tv=>s_name ?_⟩
  match o,tr,tv with
  | none,⟨r,o⟩,_=>exact absurd o (no r)
  | some (b,os,ps),tr,⟨t,p,q,ev,ht0,hp0,hq0,npq,ht,hp,hq⟩=>?_
  subst ev
  have lo:os.length<=2048/\ps.length<=2048:=by
   cases b with
   | true=>obtain⟨_,_,_,_,l1,l2⟩:=tr.round ok;exact⟨by omega,by omega⟩
   | false=>obtain⟨_,_,_,_,_,_,_,l1,l2⟩:=tr.rests;exact⟨l1,l2⟩
  obtain⟨lo1,lo2⟩:=lo
  have tb7:=t7.tab
  have NA7:=NA6.mono (t7.lst tb6) (t7.tup tb6)
  with_reducible refine aP ?_
  with_reducible refine s_if ?_
  refine i_test (i_op (i_var rfl (i_c ⟨rfl,⟨_,rfl,ifF rfl ?_⟩⟩)))
  with_reducible refine aP ?_
  with_reducible refine s_if ?_
  refine i_not (i_tB (i_call (i_cons (i_var rfl (i_cons (i_var rfl (i_cons (i_var rfl (i_nil ⟨a,li,lg,ins,gvs,gs,z,t,p,q,b,os,ps,rfl,NA7,ok,st,ht,hp,hq,tr,λH8 S8=>⟨_,rfl,iteF ?_⟩⟩)))))))))
  with_reducible refine s_next ?_
  have ht8:=S8 _ _ ht
  have hp8:=S8 _ _ hp
  have hq8:=S8 _ _ hq
  with_reducible refine aP ?_
  refine s_asg (i_tup (i_cons (i_op (i_var rfl (i_c (i_ixT ht8 rfl (i_cons (i_cb (i_cons (i_op (i_var rfl (i_c (i_ixT ht8 rfl (i_nil ⟨p,_,rfl,.inl (SqL.of hp8),λp' hp'=>?_⟩))))))))))))))
  generalize hE:upd H8 p' _=H9
  obtain⟨S9,q9⟩:=aN hp' hE
  clear hE
  refine i_cons (i_cb (i_cons (i_op (i_var rfl (i_c (i_ixT (S9 _ _ ht8) rfl (i_nil ⟨q,_,rfl,.inl (SqL.of (S9 _ _ hq8)),λq' hq'=>?_⟩)))))))
  generalize hE:upd H9 q' _=H10
  obtain⟨S10,q10⟩:=aN hq' hE
  clear hE
  refine i_nil ⟨by simp[sizeLine],λt' ht'=>s_name ?_⟩
  generalize hE:upd H10 t' _=H11
  obtain⟨S11,q11⟩:=aN ht' hE
  clear hE
  have S811:=S9.trans (S10.trans S11)
  have ht11:=S811 _ _ ht8
  have hp11:=S811 _ _ hp8
  have hq11:=S811 _ _ hq8
  have q9':=(S10.trans S11) _ _ q9
  have q10':=S11 _ _ q10
  have pp:p'≠p:=(aq hp8 hp').symm
  have pq:p'≠q:=(aq hq8 hp').symm
  have qp:q'≠p:=(aq (S9 _ _ hp8) hq').symm
  have qq:q'≠q:=(aq (S9 _ _ hq8) hq').symm
  have t11:Tk TL H6 H11:=t7.trans (Tk.of tb7 (S8.trans S811))
  with_reducible refine aP ?_
  refine s_drop (i_bm (i_op (i_var rfl (i_c (i_ixT ht11 rfl ⟨i_tyL hp11,i_cons (i_c (i_nil (dS hp11 (by rw[List.length_map];omega) ?_)))⟩)))))
  have t12:Tk TL H6 (upd H11 p (.lst (os.map V.str++[.str "nobody"]))):=t11.upd hp0 hp11
  have hp12:upd H11 p (.lst (os.map V.str++[.str "nobody"])) p=some (.lst (os.map V.str++[.str "nobody"])):=ag
  have hq12:upd H11 p (.lst (os.map V.str++[.str "nobody"])) q=some (.lst (ps.map V.str)):=by rw[aj npq.symm];exact hq11
  have ht12:upd H11 p (.lst (os.map V.str++[.str "nobody"])) t=some (.tup [.str (j_ b),.ref p,.ref q]):=by rw[aj λe=>by rw[e,hp11]at ht11;cases ht11];exact ht11
  have kt12:upd H11 p (.lst (os.map V.str++[.str "nobody"])) t'=some (.tup [.str (j_ b),.ref p',.ref q']):=by rw[aj λe=>by rw[e,hp11]at q11;cases q11];exact q11
  have kp12:upd H11 p (.lst (os.map V.str++[.str "nobody"])) p'=some (.lst (os.map V.str)):=by rw[aj pp];exact q9'
  have kq12:upd H11 p (.lst (os.map V.str++[.str "nobody"])) q'=some (.lst (ps.map V.str)):=by rw[aj qp];exact q10'
  generalize upd H11 p (.lst (os.map V.str++[.str "nobody"]))=H12 at *
  with_reducible refine aP ?_
  with_reducible refine s_if ?_
  refine i_test (i_op (i_op (i_var rfl (i_c (i_ixT ht12 rfl (i_op (i_var rfl (i_c (i_ixT kt12 rfl (wg (SqL.of hq12) (SqL.of kq12) rfl (eY ps) ⟨_,rfl,iteF ?_⟩))))))))))
  with_reducible refine s_next ?_
  with_reducible refine aP ?_
  refine s_drop (i_bm (i_op (i_var rfl (i_c (i_ixT ht12 rfl ⟨i_tyL hq12,i_cons (i_c (i_cons (i_c (i_nil ⟨q,_,_,0,rfl,rfl,Nat.zero_le _,by omega,hq12,by rw[List.length_map];omega,?_⟩))))⟩)))))
  generalize hu13:HO.lst ((ps.map V.str).take 0++V.str "" :: (ps.map V.str).drop 0)=u13
  have t13:Tk TL H6 (upd H12 q u13):=t12.upd hq0 hq12
  have hp13:upd H12 q u13 p=some (.lst (os.map V.str++[.str "nobody"])):=by rw[aj npq];exact hp12
  have ht13:upd H12 q u13 t=some (.tup [.str (j_ b),.ref p,.ref q]):=by rw[aj λe=>by rw[e,hq12]at ht12;cases ht12];exact ht12
  have kt13:upd H12 q u13 t'=some (.tup [.str (j_ b),.ref p',.ref q']):=by rw[aj λe=>by rw[e,hq12]at kt12;cases kt12];exact kt12
  have kp13:upd H12 q u13 p'=some (.lst (os.map V.str)):=by rw[aj pq];exact kp12
  have kq13:upd H12 q u13 q'=some (.lst (ps.map V.str)):=by rw[aj qq];exact kq12
  generalize upd H12 q u13=H13 at *
  with_reducible refine s_if ?_
  with_reducible refine i_or ?_
  refine i_test (i_op (i_op (i_var rfl (i_c (i_ixT ht13 rfl (i_op (i_op (i_var rfl (i_c (i_ixT kt13 rfl (i_lst (i_cons (i_c (i_nil ⟨by simp[sizeLine],λe he=>?_⟩))))))))))))))
  generalize hE:upd H13 e _=H14
  obtain⟨S14,q14⟩:=aN he hE
  clear hE
  refine kG (S14 _ _ kp13) q14 (by rw[List.length_map,List.length_singleton];omega) λe2 he2=>?_
  generalize hE:upd H14 e2 _=H15
  obtain⟨S15',q15⟩:=aN he2 hE
  clear hE
  have S135:=S14.trans S15'
  have nb:os.map V.str++[V.str "nobody"]=(os++[("nobody" : Str)]).map V.str:=by rw[List.map_append];rfl
  rw[nb]at hp13 q15
  refine wg (SqL.of (S135 _ _ hp13)) (SqL.of q15) rfl (eY _) ⟨_,rfl,iteF ?_⟩
  have t15:Tk TL H6 H15:=t13.trans (Tk.of t13.tab S135)
  have tb15:=t15.tab
  have NB15:=NB6.mono (t15.lst tb6) (t15.tup tb6)
  refine i_test (i_op (i_call (i_cons (i_var rfl (i_cons (i_var rfl (i_nil ?_)))))))
  refine⟨a',li',lg',ins,gvs,gs,z,rfl,NB15,ok,st,tb15,λo v H16 t16 tr2 tv2=>i_var rfl ?_⟩
  have eo:o=some (b,os,ps):=tr2.det tr
  subst eo
  obtain⟨t2,p2,q2,ev,_,_,_,_,ht2,hp2,hq2⟩:=tv2
  subst ev
  have kt16:=t16.tup tb15 _ _ (S135 _ _ kt13)
  have kp16:=t16.lst tb15 _ _ (S135 _ _ kp13)
  have kq16:=t16.lst tb15 _ _ (S135 _ _ kq13)
  refine tw (SqT.of ht2) (SqT.of kt16) rfl (λj x y e1 e2=>?_) ⟨_,rfl,iteF ?_⟩
  ·match j with
   | 0=>cases e1;cases e2;exact uY
   | 1=>cases e1;cases e2;exact gi (n:=7) (SqL.of hp2) (SqL.of kp16) rfl (eY os)
   | 2=>cases e1;cases e2;exact gi (n:=7) (SqL.of hq2) (SqL.of kq16) rfl (eY ps)
   | j+3=>simp at e1
  have t36:=t6.trans (t15.trans t16)
  have NA16:=NA3.mono (t36.lst tb3) (t36.tup tb3)
  have NB16:=NB.mono (t36.lst tb3) (t36.tup tb3)
  with_reducible refine s_next ?_
  with_reducible refine s_if ?_
  refine i_test (i_op (i_var rfl (i_var rfl (tw (SqT.of NB16.ha) (SqT.of NA16.ha) rfl (mV NA16 NB16) ⟨_,rfl,iteF ?_⟩))))
  with_reducible refine s_next ?_
  exact⟨⟨_,_,_,_,_,rfl⟩,t36⟩
end
end K2
namespace K2
open PySem L2 PySem.Spec PyProof.Rows
variable {A:Type}
theorem ji {us:List A} (h:us.length=1):∃a0,us=[a0]:=by
 match us,h with
 | [a0],_=>exact⟨_,rfl⟩
theorem cG {us:List A} (h:us.length=2):∃a0 a1,us=[a0,a1]:=by
 match us,h with
 | [a0,a1],_=>exact⟨_,_,rfl⟩
theorem kA {us:List A} (h:us.length=3):∃a0 a1 a2,us=[a0,a1,a2]:=by
 match us,h with
 | [a0,a1,a2],_=>exact⟨_,_,_,rfl⟩
theorem wf {us:List A} (h:us.length=4):∃a0 a1 a2 a3,us=[a0,a1,a2,a3]:=by
 match us,h with
 | [a0,a1,a2,a3],_=>exact⟨_,_,_,_,rfl⟩
structure FX (K:PySem.W.Frag) (n:Str) (i:Nat) (f:Addr) (cd:Value):Prop where
 a:PySem.W.nsIn K mainGlobals n=some (some (.ref f))
 l:∃oc od kV dc pm an ct sl,K.lookup f=some ⟨oc,od,.func (PySem.W.fnOf n n (du (top i)) (cw (top i)) (ay (top i)) .none kV dc pm an cd ct),sl⟩
 c:PySem.W.codeIn K cd n=true
 k:PySem.W.keepIn K (.ref f)=true
variable {mg:Str->Option Value}
theorem FX.fn {K:PySem.W.Frag} {n:Str} {i:Nat} {f:Addr} {cd:Value} {h:Heap} (X:K.In h) (G:h.Ns mainGlobals mg) (x:FX K n i f cd):∃fd,Fun K n n (top i) f fd/\mg n=some (.ref f):=by
 obtain⟨a,⟨_,_,_,_,_,_,_,_,l⟩,c,k⟩:=x
 exact⟨_,oM (st:=top i) l c k,PySem.W.mg_of X G a⟩
abbrev ZN (K:PySem.W.Frag) (n:Str):Prop:=PySem.W.nsIn K mainGlobals n=some none
theorem xv {l:PySem.W.OpenLaw} {w:World} {K:PySem.W.Frag} {h:Heap} {fa:Addr} (X:K.In h) (G:h.Ns mainGlobals mg) (hfa:mg "law" = some (.ref fa))
  (aT:PySem.W.nsIn K mainGlobals "TURNED" = some (some (.ref 40))) (tab:o_ K 40 [("0", .flat (.str "1")),("1", .flat (.str "0"))])
  (x0:FX K "is_row" 5 45 (.ref 44)) (x1:FX K "gates_of" 6 50 (.ref 49)) (x2:FX K "wires_of" 7 57 (.ref 56)) (x3:FX K "is_standing" 8 64 (.ref 63)) (x4:FX K "check_standing" 9 71 (.ref 70)) (x5:FX K "rule_holds" 10 78 (.ref 77)) (x6:FX K "rule_worth" 11 85 (.ref 84)) (x7:FX K "signs_in" 12 92 (.ref 91)) (x8:FX K "turned_at" 13 99 (.ref 98)) (x9:FX K "steps_from" 14 106 (.ref 105)) (x10:FX K "found_from" 16 113 (.ref 112)) (x11:FX K "steps_found" 17 120 (.ref 119))(h11:PySem.W.codeHdIn K 119 115=true) (x12:FX K "order_to" 18 127 (.ref 126)) (x13:FX K "rests_in" 19 132 (.ref 131)) (x14:FX K "standings_ahead" 21 137 (.ref 136)) (x15:FX K "most_switchings" 22 142 (.ref 141)) (x16:FX K "round_told" 23 147 (.ref 146)) (x17:FX K "told_parting" 24 154 (.ref 153)) (x18:FX K "_law_draws" 26 161 (.ref 160)) (x19:FX K "_law_names" 27 166 (.ref 165)) (x20:FX K "_law_rule" 28 173 (.ref 172)) (x21:FX K "_law_held" 29 180 (.ref 179)) (x22:FX K "_law_known" 30 185 (.ref 184)) (x23:FX K "_law_deeper" 31 192 (.ref 191)) (x24:FX K "_law_net" 32 199 (.ref 198)) (x25:FX K "_law_standing" 33 204 (.ref 203)) (x26:FX K "_law_holds" 34 211 (.ref 210)) (x27:FX K "_law_asked" 35 216 (.ref 215)) (x28:FX K "_law_ways" 36 221 (.ref 220)) (x29:FX K "_law_levels" 37 228 (.ref 227)) (x30:FX K "_law_one" 38 233 (.ref 232)) (x31:FX K "_law_copy" 39 240 (.ref 239)) (x32:FX K "_law_end" 40 245 (.ref 244)) (x33:FX K "_law_parts" 41 252 (.ref 251)) (x34:FX K "law" 42 259 (.ref 258))
  (z0:ZN K "len") (z1:ZN K "range") (z2:ZN K "max") (z3:ZN K "min") (z4:ZN K "int") (z5:ZN K "list") (z6:ZN K "str") (z7:ZN K "isinstance") (z8:ZN K "all") (z9:ZN K "set") (z10:ZN K "dict") (z11:ZN K "enumerate") (z12:ZN K "sorted") (z13:ZN K "tuple") (z14:ZN K "bool") (z15:ZN K "zip") (z16:ZN K "reversed") (z17:ZN K "abs")
  : ∃fd:FuncData,(∀(s:Shared) (v:Value),BindsTo s fd ⟨[v],[]⟩ [("script", v)])/\∀base:Heap,K.In base->base.Ns mainGlobals mg->L2.fG base mg->FnOk l.prog w K mg base CX0 17 fa fd ["script"] (pi K 115):=by
 have e:=hfa.symm.trans (PySem.W.mg_of X G x34.a)
 cases e
 have T:Txt K mg 40:=⟨PySem.W.mg_none_of X G z0,PySem.W.mg_none_of X G z1,PySem.W.mg_none_of X G z2,PySem.W.mg_none_of X G z3,PySem.W.mg_none_of X G z4,PySem.W.mg_none_of X G z5,PySem.W.mg_none_of X G z6,PySem.W.mg_none_of X G z7,PySem.W.mg_none_of X G z8,PySem.W.mg_none_of X G z9,PySem.W.mg_none_of X G z10,PySem.W.mg_none_of X G z11,PySem.W.mg_none_of X G z12,PySem.W.mg_none_of X G z13,PySem.W.mg_none_of X G z14,PySem.W.mg_none_of X G z15,PySem.W.mg_none_of X G z16,PySem.W.mg_none_of X G z17,PySem.W.mg_of X G aT,tab⟩
 obtain⟨_,F0,m0⟩:=x0.fn X G
 have b0:=F0.binds (ps:=["thing", "many"]) λ_ _ _ _ _ _ us hl=>by obtain⟨_,_,rfl⟩:=cG hl;rfl
 obtain⟨_,F1,m1⟩:=x1.fn X G
 have b1:=F1.binds (ps:=["net"]) λ_ _ _ _ _ _ us hl=>by obtain⟨_,rfl⟩:=ji hl;rfl
 obtain⟨_,F2,m2⟩:=x2.fn X G
 have b2:=F2.binds (ps:=["net"]) λ_ _ _ _ _ _ us hl=>by obtain⟨_,rfl⟩:=ji hl;rfl
 obtain⟨_,F3,m3⟩:=x3.fn X G
 have b3:=F3.binds (ps:=["net", "thing"]) λ_ _ _ _ _ _ us hl=>by obtain⟨_,_,rfl⟩:=cG hl;rfl
 obtain⟨_,F4,m4⟩:=x4.fn X G
 have b4:=F4.binds (ps:=["net", "thing"]) λ_ _ _ _ _ _ us hl=>by obtain⟨_,_,rfl⟩:=cG hl;rfl
 obtain⟨_,F5,m5⟩:=x5.fn X G
 have b5:=F5.binds (ps:=["rule", "signs"]) λ_ _ _ _ _ _ us hl=>by obtain⟨_,_,rfl⟩:=cG hl;rfl
 obtain⟨_,F6,m6⟩:=x6.fn X G
 have b6:=F6.binds (ps:=["rule", "signs"]) λ_ _ _ _ _ _ us hl=>by obtain⟨_,_,rfl⟩:=cG hl;rfl
 obtain⟨_,F7,m7⟩:=x7.fn X G
 have b7:=F7.binds (ps:=["net", "standing"]) λ_ _ _ _ _ _ us hl=>by obtain⟨_,_,rfl⟩:=cG hl;rfl
 obtain⟨_,F8,m8⟩:=x8.fn X G
 have b8:=F8.binds (ps:=["standing", "place"]) λ_ _ _ _ _ _ us hl=>by obtain⟨_,_,rfl⟩:=cG hl;rfl
 obtain⟨_,F9,m9⟩:=x9.fn X G
 have b9:=F9.binds (ps:=["net", "standing"]) λ_ _ _ _ _ _ us hl=>by obtain⟨_,_,rfl⟩:=cG hl;rfl
 obtain⟨_,F10,m10⟩:=x10.fn X G
 have b10:=F10.binds (ps:=["start", "steps_of"]) λ_ _ _ _ _ _ us hl=>by obtain⟨_,_,rfl⟩:=cG hl;rfl
 obtain⟨a11,⟨_,_,_,_,_,_,_,_,l11⟩,c11,k11⟩:=x11
 have m11:=PySem.W.mg_of X G a11
 have F11:=oM (st:=top 17) l11 c11 k11
 have b11:=F11.binds (ps:=["net", "standing"]) λ_ _ _ _ _ _ us hl=>by obtain⟨_,_,rfl⟩:=cG hl;rfl
 obtain⟨_,F12,m12⟩:=x12.fn X G
 have b12:=F12.binds (ps:=["found", "start", "other"]) λ_ _ _ _ _ _ us hl=>by obtain⟨_,_,_,rfl⟩:=kA hl;rfl
 obtain⟨_,F13,m13⟩:=x13.fn X G
 have b13:=F13.binds (ps:=["steps"]) λ_ _ _ _ _ _ us hl=>by obtain⟨_,rfl⟩:=ji hl;rfl
 obtain⟨_,F14,m14⟩:=x14.fn X G
 have b14:=F14.binds (ps:=["found"]) λ_ _ _ _ _ _ us hl=>by obtain⟨_,rfl⟩:=ji hl;rfl
 obtain⟨_,F15,m15⟩:=x15.fn X G
 have b15:=F15.binds (ps:=["found"]) λ_ _ _ _ _ _ us hl=>by obtain⟨_,rfl⟩:=ji hl;rfl
 obtain⟨_,F16,m16⟩:=x16.fn X G
 have b16:=F16.binds (ps:=["found", "numbers", "standing"]) λ_ _ _ _ _ _ us hl=>by obtain⟨_,_,_,rfl⟩:=kA hl;rfl
 obtain⟨_,F17,m17⟩:=x17.fn X G
 have b17:=F17.binds (ps:=["net", "standing"]) λ_ _ _ _ _ _ us hl=>by obtain⟨_,_,rfl⟩:=cG hl;rfl
 obtain⟨_,F18,m18⟩:=x18.fn X G
 have b18:=F18.binds (ps:=["script", "many"]) λ_ _ _ _ _ _ us hl=>by obtain⟨_,_,rfl⟩:=cG hl;rfl
 obtain⟨_,F19,m19⟩:=x19.fn X G
 have b19:=F19.binds (ps:=["d", "spot"]) λ_ _ _ _ _ _ us hl=>by obtain⟨_,_,rfl⟩:=cG hl;rfl
 obtain⟨_,F20,m20⟩:=x20.fn X G
 have b20:=F20.binds (ps:=["d", "pos", "names", "deep"]) λ_ _ _ _ _ _ us hl=>by obtain⟨_,_,_,_,rfl⟩:=wf hl;rfl
 obtain⟨_,F21,m21⟩:=x21.fn X G
 have b21:=F21.binds (ps:=["one", "other", "own"]) λ_ _ _ _ _ _ us hl=>by obtain⟨_,_,_,rfl⟩:=kA hl;rfl
 obtain⟨_,F22,m22⟩:=x22.fn X G
 have b22:=F22.binds (ps:=["way", "many", "names"]) λ_ _ _ _ _ _ us hl=>by obtain⟨_,_,_,rfl⟩:=kA hl;rfl
 obtain⟨_,F23,m23⟩:=x23.fn X G
 have b23:=F23.binds (ps:=["d", "pos", "names", "rule"]) λ_ _ _ _ _ _ us hl=>by obtain⟨_,_,_,_,rfl⟩:=wf hl;rfl
 obtain⟨_,F24,m24⟩:=x24.fn X G
 have b24:=F24.binds (ps:=["d", "spot"]) λ_ _ _ _ _ _ us hl=>by obtain⟨_,_,rfl⟩:=cG hl;rfl
 obtain⟨_,F25,m25⟩:=x25.fn X G
 have b25:=F25.binds (ps:=["x", "net"]) λ_ _ _ _ _ _ us hl=>by obtain⟨_,_,rfl⟩:=cG hl;rfl
 obtain⟨_,F26,m26⟩:=x26.fn X G
 have b26:=F26.binds (ps:=["rule", "signs"]) λ_ _ _ _ _ _ us hl=>by obtain⟨_,_,rfl⟩:=cG hl;rfl
 obtain⟨_,F27,m27⟩:=x27.fn X G
 have b27:=F27.binds (ps:=["net", "standing"]) λ_ _ _ _ _ _ us hl=>by obtain⟨_,_,rfl⟩:=cG hl;rfl
 obtain⟨_,F28,m28⟩:=x28.fn X G
 have b28:=F28.binds (ps:=["net", "standing"]) λ_ _ _ _ _ _ us hl=>by obtain⟨_,_,rfl⟩:=cG hl;rfl
 obtain⟨_,F29,m29⟩:=x29.fn X G
 have b29:=F29.binds (ps:=["ways", "standing"]) λ_ _ _ _ _ _ us hl=>by obtain⟨_,_,rfl⟩:=cG hl;rfl
 obtain⟨_,F30,m30⟩:=x30.fn X G
 have b30:=F30.binds (ps:=["ways", "standing"]) λ_ _ _ _ _ _ us hl=>by obtain⟨_,_,rfl⟩:=cG hl;rfl
 obtain⟨_,F31,m31⟩:=x31.fn X G
 have b31:=F31.binds (ps:=["net"]) λ_ _ _ _ _ _ us hl=>by obtain⟨_,rfl⟩:=ji hl;rfl
 obtain⟨_,F32,m32⟩:=x32.fn X G
 have b32:=F32.binds (ps:=["net", "standing", "order"]) λ_ _ _ _ _ _ us hl=>by obtain⟨_,_,_,rfl⟩:=kA hl;rfl
 obtain⟨_,F33,m33⟩:=x33.fn X G
 have b33:=F33.binds (ps:=["net", "standing", "found"]) λ_ _ _ _ _ _ us hl=>by obtain⟨_,_,_,rfl⟩:=kA hl;rfl
 obtain⟨a34,⟨_,_,kV,dc,pm,an,ct,_,l34⟩,c34,k34⟩:=x34
 have m34:=PySem.W.mg_of X G a34
 have F34:=oM (st:=top 42) l34 c34 k34
 have b34:=F34.binds (ps:=["script"]) λ_ _ _ _ _ _ us hl=>by obtain⟨_,rfl⟩:=ji hl;rfl
 refine⟨PySem.W.fnOf "law" "law" (du (top 42)) (cw (top 42)) (ay (top 42)) .none kV dc pm an (.ref 258) ct,λs v=>.of_eq rfl,λbase KB _ BM=>?_⟩
 have CT0:=PySem.W.codeHd_of_K KB h11
 have FC11:FunC K "steps_found" "steps_found" (top 17) 120 _ 119:=⟨_,_,_,_,_,_,_,_,rfl,l11,c11⟩
 have g18:Fn l.prog w K mg base "_law_draws" ["script", "many"] 1 (lq K):=⟨_,_,sR F18 T,m18,x18.k,b18⟩
 have g19:Fn l.prog w K mg base "_law_names" ["d", "spot"] 1 iI:=⟨_,_,qH F19 T,m19,x19.k,b19⟩
 have g21:Fn l.prog w K mg base "_law_held" ["one", "other", "own"] 1 nW:=⟨_,_,uM F21 T,m21,x21.k,b21⟩
 have g22:Fn l.prog w K mg base "_law_known" ["way", "many", "names"] 2 iK:=⟨_,_,qJ F22 T g21,m22,x22.k,b22⟩
 have g20:Fn l.prog w K mg base "_law_rule" ["d", "pos", "names", "deep"] 11 (fX 10):=⟨_,_,mQ F20 T m20 x20.k b20 10,m20,x20.k,b20⟩
 have g23:Fn l.prog w K mg base "_law_deeper" ["d", "pos", "names", "rule"] 1 fY:=⟨_,_,qK F23 T,m23,x23.k,b23⟩
 have g24:Fn l.prog w K mg base "_law_net" ["d", "spot"] 12 nR:=⟨_,_,uH F24 T g19 g22 g20 g23,m24,x24.k,b24⟩
 have g31:Fn l.prog w K mg base "_law_copy" ["net"] 1 nX:=⟨_,_,uN F31 T,m31,x31.k,b31⟩
 have g25:Fn l.prog w K mg base "_law_standing" ["x", "net"] 1 iH:=⟨_,_,qG F25 T,m25,x25.k,b25⟩
 have g26:Fn l.prog w K mg base "_law_holds" ["rule", "signs"] 10 (dM 10):=⟨_,_,kz F26 T m26 x26.k b26 10,m26,x26.k,b26⟩
 have g27:Fn l.prog w K mg base "_law_asked" ["net", "standing"] 11 c9:=⟨_,_,oo F27 T g26,m27,x27.k,b27⟩
 have g28:Fn l.prog w K mg base "_law_ways" ["net", "standing"] 12 nP:=⟨_,_,uE F28 T g27,m28,x28.k,b28⟩
 have g29:Fn l.prog w K mg base "_law_levels" ["ways", "standing"] 1 iJ:=⟨_,_,qI F29 T,m29,x29.k,b29⟩
 have g30:Fn l.prog w K mg base "_law_one" ["ways", "standing"] 2 nU:=⟨_,_,uJ F30 T g29,m30,x30.k,b30⟩
 have g32:Fn l.prog w K mg base "_law_end" ["net", "standing", "order"] 12 nV:=⟨_,_,uK F32 T g27,m32,x32.k,b32⟩
 have g33:Fn l.prog w K mg base "_law_parts" ["net", "standing", "found"] 13 ld:=⟨_,_,sN F33 T g27 g32,m33,x33.k,b33⟩
 have g0:Fn l.prog w K mg base "is_row" ["thing", "many"] 1 rN:=⟨_,_,w9 F0 T,m0,x0.k,b0⟩
 have g3:Fn l.prog w K mg base "is_standing" ["net", "thing"] 2 (gz (.bl true)):=⟨_,_,uL F3 T g0,m3,x3.k,b3⟩
 have g4:Fn l.prog w K mg base "check_standing" ["net", "thing"] 3 (gz .non):=⟨_,_,sS F4 T g3,m4,x4.k,b4⟩
 have g10:Fn l.prog w K mg base "found_from" ["start", "steps_of"] 14 (lm l.prog w K mg base 13):=⟨_,_,sQ F10 T,m10,x10.k,b10⟩
 have g1:Fn l.prog w K mg base "gates_of" ["net"] 1 lh:=⟨_,_,sP F1 T,m1,x1.k,b1⟩
 have g2:Fn l.prog w K mg base "wires_of" ["net"] 2 k_:=⟨_,_,sK F2 T g1,m2,x2.k,b2⟩
 have g7:Fn l.prog w K mg base "signs_in" ["net", "standing"] 3 gy:=⟨_,_,ol F7 T g2,m7,x7.k,b7⟩
 have g5:Fn l.prog w K mg base "rule_holds" ["rule", "signs"] 10 (dM 10):=⟨_,_,mR F5 T m5 x5.k b5 10,m5,x5.k,b5⟩
 have g6:Fn l.prog w K mg base "rule_worth" ["rule", "signs"] 11 (k9 10):=⟨_,_,sJ F6 T g5,m6,x6.k,b6⟩
 have g8:Fn l.prog w K mg base "turned_at" ["standing", "place"] 1 iG:=⟨_,_,qF F8 T,m8,x8.k,b8⟩
 have g9:Fn l.prog w K mg base "steps_from" ["net", "standing"] 12 c9:=⟨_,_,sL F9 T g7 g6 g8,m9,x9.k,b9⟩
 have g11:Fn l.prog w K mg base "steps_found" ["net", "standing"] 15 (gx 115):=⟨_,_,oj FC11 T CT0 BM g10 g9,m11,k11,b11⟩
 have g13:Fn l.prog w K mg base "rests_in" ["steps"] 1 fo:=⟨_,_,om F13 T,m13,x13.k,b13⟩
 have g12:Fn l.prog w K mg base "order_to" ["found", "start", "other"] 1 rO:=⟨_,_,w_ F12 T,m12,x12.k,b12⟩
 have g14:Fn l.prog w K mg base "standings_ahead" ["found"] 1 lr:=⟨_,_,sT F14 T,m14,x14.k,b14⟩
 have g15:Fn l.prog w K mg base "most_switchings" ["found"] 2 nS:=⟨_,_,uI F15 T g14 g13,m15,x15.k,b15⟩
 have g16:Fn l.prog w K mg base "round_told" ["found", "numbers", "standing"] 1 lc:=⟨_,_,sM F16 T,m16,x16.k,b16⟩
 have g17:Fn l.prog w K mg base "told_parting" ["net", "standing"] 16 (nQ 115):=⟨_,_,uG F17 T g4 g11 g13 g12 g15 g16,m17,x17.k,b17⟩
 exact sO F34 T g18 g24 g31 g25 g28 g30 g33 g17
theorem Bm {l:PySem.W.OpenLaw} {q:Program} {loose:List Str} {XP:(Str->Option Value)->Heap->Prop} {d:DefRec} {K:Params->PySem.W.Frag} {as:List Addr} {e:∀P,as=(K P).map (·.1)} {TL0:Addr} (hn:l.most=some 63) (hdf:d.params.defaults=[]) (ok:∀w:World,ga (K w.params) [TL0]=true)
  (F:∀(w:World) (mg:Str->Option Value) (fa:Addr) (h:Heap),(K w.params).In h->h.Ns mainGlobals mg->mg d.name=some (.ref fa) ->
   ∃fd:FuncData,(∀(s:Shared) (u:Value),BindsTo s fd ⟨[u],[]⟩ [("script", u)])/\∀base:Heap,(K w.params).In base->base.Ns mainGlobals mg->L2.fG base mg->FnOk l.prog w (K w.params) mg base CX0 17 fa fd ["script"] (pi (K w.params) TL0)) :
  PySem.W.WalkO q loose XP (PySem.W.kmHook K as e [TL0]).says l.row.toRowW d [] (λf vs=>PySem.call f vs) :=
 L2.rC (n:=63) (k:=17) (x := "script") (CX:=λ_=>CX0) (sp:=λw=>pi (K w.params) TL0) hn (by decide) hdf ⟨rfl,by decide,by decide⟩ ok F (λ_ _ a ns hl hT hS=>⟨a,ns,rfl,hS,hl,(.inl (hT _ (by simp))),λ_=>rfl⟩) λ_ _ _ _ _ z=>z
end K2
open PySem PySem.W PyProof.Rows
set_option maxRecDepth 100000 in
set_option maxHeartbeats 0 in
theorem PySem.Challenge.cw_anydelay_k24_orders_that_part_holds : PySem.Challenge.rw_anydelay_k24_orders_that_part.Holds := by
 w_on;o_law
 refine holds_open (q:=K2.vw) (loose:=[("TURNED" : Str)]) (Xt:=λs=>xlAt K2.vw [] s&&recOk (RowW.records PySem.Challenge.rw_anydelay_k24_orders_that_part.row.toRowW) s) (XP:=XL K2.vw []) (Yf:=Hook.obs K2.hk) (Ya:=Hook.val K2.hk) (YP:=Hook.says K2.hk) (N:=3222) K2.left (Hook.of K2.hk) (Hook.keeps K2.hk) (λs e=>xl_of s (Bool.and_eq_true_iff.mp e).1) XL.keeps (by rfl) (by rfl) (by rfl) (λs e=>recFacts_of (Bool.and_eq_true_iff.mp e).2) (by rfl) (by first|assumption|decide +kernel) (by decide +kernel) ⟨rfl,rfl,rfl,rfl,rfl,by decide +kernel⟩ ?hw ?hc
 (case hw=>w_witness2)
 refine K2.Bm (l:=PySem.Challenge.rw_anydelay_k24_orders_that_part) (K:=K2.KF) (as:=[3,40,44,45,49,50,56,57,63,64,70,71,77,78,84,85,91,92,98,99,105,106,112,113,119,120,126,127,131,132,136,137,141,142,146,147,153,154,160,161,165,166,172,173,179,180,184,185,191,192,198,199,203,204,210,211,215,216,220,221,227,228,232,233,239,240,244,245,251,252,258,259]) (e:=λ_=>rfl) rfl rfl (λw=>by kernel_rfl) ?F
 case F =>
  intro w mg fa h KX G hmg
  refine' K2.xv KX G hmg ?_ ?_ ?_ ?_ ?_ ?_ ?_ ?_ ?_ ?_ ?_ ?_ ?_ ?_ ?_ ?_ ?_ ?_ ?_ ?_ ?_ ?_ ?_ ?_ ?_ ?_ ?_ ?_ ?_ ?_ ?_ ?_ ?_ ?_ ?_ ?_ ?_ ?_ ?_ ?_ ?_ ?_ ?_ ?_ ?_ ?_ ?_ ?_ ?_ ?_ ?_ ?_ ?_ ?_ ?_ ?_
  all_goals first|exact⟨by kernel_rfl,⟨_,_,_,_,_,_,_,_,rfl⟩,by kernel_rfl,by kernel_rfl⟩|kernel_rfl|rfl|decide|decide +kernel
