import PyProof.Rows.All
import Wide.All
import OpenK.AllK
import Wide.FinOn
import Lean
import PyProof.EqAt
import PyProof.EqKinds
import PyProof.TupleCall
import PyProof.NeKinds
import KE.KTabLook
import KE.KIntText
import KE.KUnpack
import PyProof.StrBlock2
import KE.KLam
import PyProof.ZipIter
import PyProof.Draws
import PyProof.AttrMissHeap
import PyProof.DictUpdate
import PyProof.ListNew
import PyProof.FactsAll.dict_1
import PyProof.Rows.DictSet
import KE.KRevIter
import PyProof.ListRange
import KE.KDictLaws
import PyProof.DictWalks
import PyProof.DictItemsLoops
import PyProof.Rows.StrInSeq3
import PyProof.FactsAll.list_1
import PyProof.CompUse
import PyProof.EnumMake
import PyProof.Rows.CallKwBuiltin
import OpenK.KMore
import PyProof.Rows.SortShellK
import PyProof.Rows.SortKeyStr
import KE.KDictSum
import KE.KItemsList
import PyProof.Rows.SortStr
import PyProof.ForAppend
import PyProof.StrLawsReplace
import PyProof.Rows.SeqIn
import KE.KSortTup
import KE.KEqDict
import PySem.Challenge.RW_anydelay_k45_whole_calm_nets_come_to_one
namespace PySem
abbrev C0:=Value->Shared->Prop
abbrev C1:=List (Addr × Obj)
abbrev C2:=Str->Option Value
abbrev C3:=List Addr
end PySem
set_option linter.all false
set_option maxRecDepth 100000
set_option Elab.async false
abbrev Qa:=@List.length_map
abbrev Qb:=@List.getElem?_eq_getElem
abbrev Qc:=@List.getElem?_eq_some_iff
abbrev Qd:=@PySem.Heap.get?_push_of_some
abbrev Qe:=@PySem.wpAny_bind
abbrev Qf:=@List.length_append
abbrev Qg:=@Nat.le_refl
abbrev Qh:=@List.mem_of_getElem?
abbrev Qi:=@List.size_toArray
abbrev Qj:=@Bool.false_ne_true
abbrev Qk:=@PySem.Heap.lt_size
abbrev Ql:=@List.mem_iff_getElem
abbrev Qm:=@List.getElem?_map
abbrev Qn:=@PySem.wpAny_pure
abbrev Qo:=@PyProof.Rows.wpS_bind
abbrev Qp:=@List.mem_map
abbrev Qq:=@List.length_take
abbrev Qr:=@List.take_of_length_le
abbrev Qs:=@List.getElem?_append_right
abbrev Qt:=@PyProof.Rows.wpS_pure
abbrev Qu:=@List.getElem?_append_left
abbrev Qv:=@Array.length_toList
abbrev Qw:=@PySem.Heap.get?_push_size
abbrev Qx:=@decide_eq_false
abbrev Qy:=@List.mem_append
abbrev Qz:=@List.map_append
abbrev QA:=@Array.getElem?_toList
abbrev QB:=@if_pos
abbrev QC:=@if_neg
abbrev QE:=@Nat.ne_of_lt
abbrev QF:=@Nat.lt_of_lt_of_le
abbrev QG:=@List.mem_cons_of_mem
abbrev QH:=@List.map_cons
abbrev QI:=@Array.toList_append
abbrev QJ:=@decide_eq_true
abbrev QK:=@List.length_cons
abbrev QL:=@List.mem_singleton
abbrev QM:=@Nat.le_trans
abbrev QN:=@List.mem_append_right
abbrev QO:=@Nat.zero_le
abbrev QP:=@Bool.false_eq_true
abbrev QQ:=@List.mem_cons
abbrev QR:=@PySem.W.mg_none_of
abbrev QS:=@List.map_map
abbrev QT:=@Option.some.inj
abbrev QU:=@List.take_append_drop
abbrev QV:=@List.take_succ
abbrev QW:=@PySem.boot_len
abbrev QX:=@List.length_drop
abbrev QY:=@List.lookup_cons
abbrev QZ:=@Array.getElem?_eq_some_iff
abbrev Q0:=@List.all_eq_true
abbrev Q2:=@List.append_assoc
abbrev Q3:=@List.pairwise_append
abbrev Q4:=@PySem.wpAny_setField_rec
abbrev Q5:=@List.eq_nil_of_length_eq_zero
abbrev Q6:=@PySem.F.plainAttrs_list
abbrev Q7:=@List.nodup_cons
abbrev Q8:=@List.length_nil
abbrev Q9:=@PySem.wpAny_holding
abbrev Xa:=@PySem.F.slot_list_append
abbrev Xb:=@PySem.F.type_list_append
abbrev Xc:=@PyProof.Rows.callWith_type1
abbrev Xd:=@PySem.wpAny_field
abbrev Xe:=@Nat.add_sub_cancel_left
abbrev Xf:=@List.getD_eq_getElem?_getD
abbrev Xg:=@List.drop_eq_getElem_cons
abbrev Xh:=@List.mem_cons_self
abbrev Xi:=@PyProof.Rows.wpS_forRange
abbrev Xj:=@PySem.wpAny_mono
abbrev Xk:=@List.getElem?_eq_none
abbrev Xl:=@Array.size_append
abbrev Xm:=@PySem.W.kia_one
abbrev Xn:=@List.append_nil
abbrev Xo:=@List.nil_append
abbrev Xp:=@Array.getElem?_eq_getElem
abbrev Xq:=@PySem.builtinLookup_eq_fast
abbrev Xr:=@Nat.le_of_lt
abbrev Xs:=@Ne.symm
abbrev Xu:=@PyProof.Rows.KeyOrd.kle_refl
abbrev Xv:=@PySem.Calls.spliced_cons
abbrev Xw:=@Nat.lt_irrefl
local macro_rules|`(tactic|z_go)=>`(tactic|first|exact .inl rfl|exact .inr rfl|assumption)
noncomputable section
namespace L2
open PySem
def cU (s:Stmt):Arguments:=match s with
 | .FunctionDef _ a _ _ _ _ _ _ _ _=>a
 | _=>{ posonlyargs:=[],args:=[],vararg:=none,kwonlyargs:=[],kw_defaults:=[],kwarg:=none,defaults:=[] }
def b8 (s:Stmt):List Stmt:=match s with
 | .FunctionDef _ _ b _ _ _ _ _ _ _=>b
 | _=>[]
def au (s:Stmt):Scope:=match s with
 | .FunctionDef _ _ _ _ _ _ sc _ _ _=>sc
 | _=>{ kind:=.function,names:=[],isGenerator:=false,isCoroutine:=false }
end L2
namespace K2
open PySem L2 PySem.W
def top (i:Nat):Stmt:=PySem.Challenge.pw_anydelay_k45_whole_calm_nets_come_to_one.main.body.getD i (.Pass ⟨0,0,0,0⟩)
noncomputable def kC (n:Str) (t:Nat) (l a fl:Int) (r:Addr) (x y:Value) (z:Addr) (u:Nat):Obj:={ cls:=.type "code", data:=.fields #[.str n t,.str n (t+1),.str "/claim/cut.py" (t+2),.int l 0,.int a 0,.int 0 0,.int 0 0,.int 3 0,.ref r,.bool true,.int fl 0,.ref (r+1),.none,x,y,.ref z,.int u 0,.int l 0,.str "/claim/cut.py" (u+1)] }
noncomputable def kF (n:Str) (i:Nat) (m:Str) (t:Nat) (c:Addr):Obj:={ cls:=.type "function", data:=.func { name:=n,qualname:=n,params:=cU (top i),body:=.stmts (b8 (top i)),scope:=au (top i),globals:=3,closure:=[],defaults:=.none,kwdefaults:=.none,pyModule:=.str m t,code:=.ref c } }
def kE (P:Params) (x:Str) (t:Nat) (v:Value):DictEntry:={ hash:=PyData.keyHash P x,key:=.str x t,val:=v }
noncomputable def KF (P:Params):Frag:=[(3,{ cls:=.type "dict", data:=.dict #[kE P "__name__" 165 (.str "law_anydelay_k45_whole_calm_nets_come_to_one" 455),kE P "__doc__" 166 .none,kE P "__package__" 167 .none,kE P "__loader__" 168 (.builtin "__main__.__loader__#opaque"),kE P "__spec__" 169 .none,kE P "__annotations__" 170 (.ref 6),kE P "__builtins__" 171 (.ref 4),kE P "__file__" 173 (.str "/claim/cut.py" 172),kE P "__cached__" 174 .none,kE P "NetError" 206 (.ref 24),kE P "NoStanding" 222 (.ref 37),kE P "TURNED" 231 (.ref 40),kE P "is_row" 237 (.ref 45),kE P "gates_of" 243 (.ref 50),kE P "wires_of" 250 (.ref 57),kE P "is_standing" 258 (.ref 64),kE P "check_standing" 266 (.ref 71),kE P "rule_holds" 275 (.ref 78),kE P "rule_worth" 283 (.ref 85),kE P "signs_in" 291 (.ref 92),kE P "turned_at" 299 (.ref 99),kE P "steps_from" 311 (.ref 106),kE P "found_from" 328 (.ref 113),kE P "steps_found" 337 (.ref 120),kE P "order_to" 351 (.ref 127),kE P "rests_in" 357 (.ref 132),kE P "names_asked" 365 (.ref 137),kE P "first_calmed" 377 (.ref 144),kE P "is_calm" 383 (.ref 149),kE P "first_race" 394 (.ref 156),kE P "calm_paper" 403 (.ref 163),kE P "standings_ahead" 411 (.ref 168),kE P "most_switchings" 417 (.ref 173),kE P "one_rest" 427 (.ref 180),kE P "rest_paper" 437 (.ref 187),kE P "round_told" 443 (.ref 192),kE P "told_parting" 454 (.ref 199),kE P "_law_cell" 464 (.ref 206),kE P "_law_mixed" 473 (.ref 213),kE P "_law_wire" 480 (.ref 220),kE P "_law_rule" 493 (.ref 227),kE P "_law_worth" 503 (.ref 234),kE P "_law_names" 509 (.ref 239),kE P "_law_asked" 515 (.ref 244),kE P "_law_turned" 525 (.ref 251),kE P "_law_net" 531 (.ref 256),kE P "_law_order" 537 (.ref 261),kE P "_law_walked" 547 (.ref 268),kE P "_law_race_good" 558 (.ref 275),kE P "_law_parting_good" 570 (.ref 282),kE P "_law_calm_good" 576 (.ref 287),kE P "law" 593 (.ref 294)] 52 }),
 (40,{ cls:=.type "dict", data:=.dict #[kE P "0" 225 (.str "1" 226),kE P "1" 227 (.str "0" 228)] 2 }),
 (44,kC "is_row" 232 8 2 181 41 .none .none 43 235),
 (45,kF "is_row" 5 "anydelay.nets" 223 44),
 (49,kC "gates_of" 238 12 1 181 46 .none .none 48 241),
 (50,kF "gates_of" 6 "anydelay.nets" 223 49),
 (56,kC "wires_of" 244 14 1 181 51 (.ref 53) (.ref 54) 55 248),
 (57,kF "wires_of" 7 "anydelay.nets" 223 56),
 (63,kC "is_standing" 251 16 2 181 58 (.ref 60) (.ref 61) 62 256),
 (64,kF "is_standing" 8 "anydelay.nets" 223 63),
 (70,kC "check_standing" 259 18 2 181 65 (.ref 67) (.ref 68) 69 264),
 (71,kF "check_standing" 9 "anydelay.nets" 223 70),
 (77,kC "rule_holds" 267 21 2 181 72 (.ref 74) (.ref 75) 76 273),
 (78,kF "rule_holds" 10 "anydelay.nets" 223 77),
 (84,kC "rule_worth" 276 30 2 181 79 (.ref 81) (.ref 82) 83 281),
 (85,kF "rule_worth" 11 "anydelay.nets" 223 84),
 (91,kC "signs_in" 284 32 2 181 86 (.ref 88) (.ref 89) 90 289),
 (92,kF "signs_in" 12 "anydelay.nets" 223 91),
 (98,kC "turned_at" 292 34 2 181 93 (.ref 95) (.ref 96) 97 297),
 (99,kF "turned_at" 13 "anydelay.nets" 223 98),
 (105,kC "steps_from" 300 36 2 181 100 (.ref 102) (.ref 103) 104 309),
 (106,kF "steps_from" 14 "anydelay.nets" 223 105),
 (112,kC "found_from" 314 44 2 181 107 (.ref 109) (.ref 110) 111 326),
 (113,kF "found_from" 16 "anydelay.orders" 312 112),
 (119,kC "steps_found" 329 59 2 181 114 (.ref 116) (.ref 117) 118 335),
 (120,kF "steps_found" 17 "anydelay.orders" 312 119),
 (126,kC "order_to" 338 61 3 181 121 (.ref 123) (.ref 124) 125 349),
 (127,kF "order_to" 18 "anydelay.orders" 312 126),
 (131,kC "rests_in" 352 72 1 181 128 .none .none 130 355),
 (132,kF "rests_in" 19 "anydelay.orders" 312 131),
 (136,kC "names_asked" 360 75 3 181 133 .none .none 135 363),
 (137,kF "names_asked" 21 "anydelay.races" 358 136),
 (143,kC "first_calmed" 366 77 3 181 138 (.ref 140) (.ref 141) 142 375),
 (144,kF "first_calmed" 22 "anydelay.races" 358 143),
 (148,kC "is_calm" 378 83 2 181 145 .none .none 147 381),
 (149,kF "is_calm" 23 "anydelay.races" 358 148),
 (155,kC "first_race" 384 85 2 181 150 (.ref 152) (.ref 153) 154 392),
 (156,kF "first_race" 24 "anydelay.races" 358 155),
 (162,kC "calm_paper" 395 93 2 181 157 (.ref 159) (.ref 160) 161 401),
 (163,kF "calm_paper" 25 "anydelay.races" 358 162),
 (167,kC "standings_ahead" 406 98 1 181 164 .none .none 166 409),
 (168,kF "standings_ahead" 27 "anydelay.onerest" 404 167),
 (172,kC "most_switchings" 412 104 1 181 169 .none .none 171 415),
 (173,kF "most_switchings" 28 "anydelay.onerest" 404 172),
 (179,kC "one_rest" 418 119 2 181 174 (.ref 176) (.ref 177) 178 425),
 (180,kF "one_rest" 29 "anydelay.onerest" 404 179),
 (186,kC "rest_paper" 428 126 2 181 181 (.ref 183) (.ref 184) 185 435),
 (187,kF "rest_paper" 30 "anydelay.onerest" 404 186),
 (191,kC "round_told" 438 133 3 181 188 .none .none 190 441),
 (192,kF "round_told" 31 "anydelay.onerest" 404 191),
 (198,kC "told_parting" 444 144 2 181 193 (.ref 195) (.ref 196) 197 452),
 (199,kF "told_parting" 32 "anydelay.onerest" 404 198),
 (205,kC "_law_cell" 457 153 2 181 200 (.ref 202) (.ref 203) 204 462),
 (206,kF "_law_cell" 34 "law_anydelay_k45_whole_calm_nets_come_to_one" 455 205),
 (212,kC "_law_mixed" 465 157 2 181 207 (.ref 209) (.ref 210) 211 471),
 (213,kF "_law_mixed" 35 "law_anydelay_k45_whole_calm_nets_come_to_one" 455 212),
 (219,kC "_law_wire" 474 161 1 181 214 (.ref 216) (.ref 217) 218 478),
 (220,kF "_law_wire" 36 "law_anydelay_k45_whole_calm_nets_come_to_one" 455 219),
 (226,kC "_law_rule" 481 163 3 181 221 (.ref 223) (.ref 224) 225 491),
 (227,kF "_law_rule" 37 "law_anydelay_k45_whole_calm_nets_come_to_one" 455 226),
 (233,kC "_law_worth" 494 173 2 181 228 (.ref 230) (.ref 231) 232 501),
 (234,kF "_law_worth" 38 "law_anydelay_k45_whole_calm_nets_come_to_one" 455 233),
 (238,kC "_law_names" 504 181 1 181 235 .none .none 237 507),
 (239,kF "_law_names" 39 "law_anydelay_k45_whole_calm_nets_come_to_one" 455 238),
 (243,kC "_law_asked" 510 183 2 181 240 .none .none 242 513),
 (244,kF "_law_asked" 40 "law_anydelay_k45_whole_calm_nets_come_to_one" 455 243),
 (250,kC "_law_turned" 516 186 3 181 245 (.ref 247) (.ref 248) 249 523),
 (251,kF "_law_turned" 41 "law_anydelay_k45_whole_calm_nets_come_to_one" 455 250),
 (255,kC "_law_net" 526 189 1 181 252 .none .none 254 529),
 (256,kF "_law_net" 42 "law_anydelay_k45_whole_calm_nets_come_to_one" 455 255),
 (260,kC "_law_order" 532 201 3 181 257 .none .none 259 535),
 (261,kF "_law_order" 43 "law_anydelay_k45_whole_calm_nets_come_to_one" 455 260),
 (267,kC "_law_walked" 538 215 3 181 262 (.ref 264) (.ref 265) 266 545),
 (268,kF "_law_walked" 44 "law_anydelay_k45_whole_calm_nets_come_to_one" 455 267),
 (274,kC "_law_race_good" 548 221 3 181 269 (.ref 271) (.ref 272) 273 556),
 (275,kF "_law_race_good" 45 "law_anydelay_k45_whole_calm_nets_come_to_one" 455 274),
 (281,kC "_law_parting_good" 559 229 3 181 276 (.ref 278) (.ref 279) 280 568),
 (282,kF "_law_parting_good" 46 "law_anydelay_k45_whole_calm_nets_come_to_one" 455 281),
 (286,kC "_law_calm_good" 571 238 4 181 283 .none .none 285 574),
 (287,kF "_law_calm_good" 47 "law_anydelay_k45_whole_calm_nets_come_to_one" 455 286),
 (293,kC "law" 577 244 1 181 288 (.ref 290) (.ref 291) 292 591),
 (294,kF "law" 48 "law_anydelay_k45_whole_calm_nets_come_to_one" 455 293)]
noncomputable def hk:Hook:=kmHook KF [3,40,44,45,49,50,56,57,63,64,70,71,77,78,84,85,91,92,98,99,105,106,112,113,119,120,126,127,131,132,136,137,143,144,148,149,155,156,162,163,167,168,172,173,179,180,186,187,191,192,198,199,205,206,212,213,219,220,226,227,233,234,238,239,243,244,250,251,255,256,260,261,267,268,274,275,281,282,286,287,293,294] (λ_=>rfl) [115]
noncomputable def vw:Program:={ PySem.Challenge.pw_anydelay_k45_whole_calm_nets_come_to_one with main:={ PySem.Challenge.pw_anydelay_k45_whole_calm_nets_come_to_one.main with body:=[1,2,4,5,6,7,8,9,10,11,12,13,14,16,17,18,19,21,22,23,24,25,27,28,29,30,31,32,34,35,36,37,38,39,40,41,42,43,44,45,46,47,48].map top } }
def LW (w:World):Prop:=(openEnds treeTable PySem.Challenge.rw_anydelay_k45_whole_calm_nets_come_to_one.prog w 3528).map (λs=>(openSeen vw [("TURNED" : Str)] (importedModules PySem.Challenge.rw_anydelay_k45_whole_calm_nets_come_to_one.prog.main.body) (λs=>xlAt vw [] s&&recOk (RowW.records PySem.Challenge.rw_anydelay_k45_whole_calm_nets_come_to_one.row.toRowW) s) true s,Hook.obs hk s))=some (openGood vw [("TURNED" : Str)],Hook.val hk w)
set_option maxHeartbeats 0 in
theorem AY:∀w:World,LW (w.withFollow "special-get-raises" false):=λw=>by unfold LW;kernel_rfl
set_option maxHeartbeats 0 in
theorem AX:∀w:World,LW (w.withFollow "special-get-raises" true):=λw=>by unfold LW;kernel_rfl
theorem left:LeftO PySem.Challenge.rw_anydelay_k45_whole_calm_nets_come_to_one.prog vw [("TURNED" : Str)] (λs=>xlAt vw [] s&&recOk (RowW.records PySem.Challenge.rw_anydelay_k45_whole_calm_nets_come_to_one.row.toRowW) s) (Hook.obs hk) (Hook.val hk) 3528:=λw=>byRow2 (P:=LW) "special-get-raises" AY AX w
end K2
section
variable {a b c d e f g h i j k l m n x r lo:Nat}
local macro_rules | `(tactic|kd_p) => `(tactic| (intros; first | solve_by_elim (maxDepth := 3) [Xr, QF, Nat.lt_of_le_of_lt, QM, Nat.lt_of_not_ge, Nat.lt_of_not_le, Nat.le_of_not_lt, Nat.ge_of_not_lt, Nat.le_add_right, Nat.le_add_left, Nat.sub_le, Nat.lt_succ_self, Nat.le_succ, Nat.add_le_add_left, Nat.add_le_add_right, Nat.add_lt_add_left, Nat.add_lt_add_right, Nat.succ_le_of_lt, Nat.lt_of_succ_le, Nat.le_of_eq, Nat.le_antisymm, Nat.lt_of_le_of_ne, Qg, QO, Nat.sub_lt, Nat.succ_le_succ, Nat.lt_succ_of_le, Nat.le_of_lt_succ, Eq.symm, Eq.trans] | (subst_vars; solve_by_elim (maxDepth := 3) [Xr, QF, Nat.lt_of_le_of_lt, QM, Nat.lt_of_not_ge, Nat.lt_of_not_le, Nat.le_of_not_lt, Nat.ge_of_not_lt, Nat.le_add_right, Nat.le_add_left, Nat.sub_le, Nat.lt_succ_self, Nat.le_succ, Nat.add_le_add_left, Nat.add_le_add_right, Nat.add_lt_add_left, Nat.add_lt_add_right, Nat.succ_le_of_lt, Nat.lt_of_succ_le, Nat.le_of_eq, Nat.le_antisymm, Nat.lt_of_le_of_ne, Qg, QO, Nat.sub_lt, Nat.succ_le_succ, Nat.lt_succ_of_le, Nat.le_of_lt_succ, Eq.symm, Eq.trans])))
theorem om0:a<=b->¬a<b->a=b:=by grind
theorem om1:a-b<=a-b:=by simp_all
theorem om2:¬b<a->a<=b:=by kd_p
theorem om3:c=b->b=d->a<c->a<b:=by kd_p
theorem om4:c<=b->c=a->a<=b:=by kd_p
theorem om5:a+1≠a:=by simp_all
theorem om6:b<a->a-(b+1)<a-b:=by omega
theorem om7:c=d->c=a->d=b->a=b:=by kd_p
theorem om8:a+(c+1)<b->a<b:=by grind
theorem om9:b=c->b=d->c=e->a<d->a<b:=by intros;simp_all
theorem Cc:c=b->c=d->b=e->a<d->a<b:=by intros;simp_all
theorem AJ:a+(b+1)<c->a+1+b<c:=by omega
theorem sC:b=c->a<c->a<b:=by kd_p
theorem Aq:a<c->b=c->a<b:=by kd_p
theorem Af:c=a->d=b->c=d->a=b:=by kd_p
theorem uN:a+64<b->a<b:=by grind
theorem zR:a+64<b->a+1+8<b:=by grind
theorem mR:c=b->a<c->a<b:=by kd_p
theorem wX:b<=100000->a=b->a<=16777216:=by grind
theorem Cb:b<=a->a<=c->a-b<=c-0:=by grind
theorem Ca:a<b->a+(b-a) / 2+1<=b:=by grind
theorem B_:a<b+(c-b) / 2+1->a<=b+(c-b) / 2:=by kd_p
theorem B9:b<=c->a<b->a+(b-a) / 2<c:=by grind
theorem B8:a<=a+(b-a) / 2:=by kd_p
theorem B7:b<=c->a<b->a+(b-a) / 2<=c:=by omega
theorem yD:a<=b->b-a<=c-max 0 c->a=b:=by grind
theorem B6:a<b->a+0<b:=by kd_p
theorem yA:a<c->¬b>=c-a->a+b<c:=by grind
theorem yw:a<2*a+1:=by grind
theorem B5:a<d->b<c->a+b<d->a+b+1<=a+min c (d-a):=by grind
theorem B4:a<c->a+min b (c-a)<=c:=by grind
theorem B3:a<b+c+1->a<=b+c:=by kd_p
theorem B0:a<d->a+min b (d-a)<=c->b<d-a->a+b<=c:=by grind
theorem wW:a<=b->a>=b->a=b:=by grind
theorem yu:b<=c->¬a>=b->a+(b-a) / 2<c:=by grind
theorem uM:¬a>=b->a<b:=by kd_p
theorem wV:0<=a:=by kd_p
theorem BZ:a<c->d<b->¬b>=a+1->a-b<c:=by grind
theorem BY:¬a>=b+1->a<=b:=by kd_p
theorem BX:c<b->c<=a->a+1-min b (a+1)<=a-c:=by omega
theorem BW:a<c->b<=a->a-b<=c:=by grind
theorem BV:a<b+1-min c (b+1)->c<b+1->a<=b-c:=by grind
theorem BU:a<c->d<b->b<a+1->a-b<c:=by grind
theorem BT:a+1=b->a<b:=by kd_p
theorem BS:a+b+1=a+(b+1):=by kd_p
theorem qm:a<=b->a+1<=b+1:=by kd_p
theorem BR:a+b+1=a+1+b:=by grind
theorem yt:a<min b c->a<min b c:=by kd_p
theorem uL:a<min b c->a<b:=by grind
theorem yr:a+b<=c->min (a+b) c-a=b:=by intros;simp_all
theorem BQ:a+b+c=a+c+b:=by grind
theorem yq:c=d->a<=b->a<=b+c:=by grind
theorem BP:a+b+c=a+(b+c):=by grind
theorem yp:a<=b->¬a=b->a<b:=by grind
theorem yo:a+d<=c->b<d->a+b<c:=by grind
theorem BO:a+d<=c->b<=e->e<d->a+b<c:=by grind
theorem sw:a<=a+b:=by kd_p
theorem BN:b<=c->a+b<=a+c:=by kd_p
theorem BL:b<c->a+b<a+c:=by kd_p
theorem sv:1<=a->0<a:=by kd_p
theorem yn:1<=a->0<=a:=by kd_p
theorem BK:1<=a->¬0+1=a->0+1<a:=by grind
theorem BJ:1<=b->1<=a->¬1=a->¬0+1=b->1<a:=by grind
theorem wU:a+1<b->a<b:=by kd_p
theorem wT:a<b->¬a+1=b->a+1<b:=by omega
theorem uK:a+1+(b+1)<=a+1+b+1:=by kd_p
theorem ym:a+1<b->¬a+1+1=b->a+1+1<b:=by omega
theorem BI:a+1<b->a+(b-a)<=b:=by grind
theorem BH:b+1<a->0<a-b:=by grind
theorem BG:a<b->a+1+(b-(a+1))<=b:=by omega
theorem BF:b<a->¬b+1=a->0<a-(b+1):=by omega
theorem yk:a+1+(b+1)<=a+1+b+1+1:=by kd_p
theorem BE:a<c->b<=c-(a+1)->a+1+b<=c:=by grind
theorem yj:¬a>0->a=0:=by simp
theorem BD:b<a->¬b+1=a->0<=a-(b+1)->0<a-(b+1):=by grind
theorem BC:a+1<c->b<=c-a->a+b<=c:=by grind
theorem BB:b+1<a->0<=a-b->0<a-b:=by omega
theorem BA:1<=a->a=a-1+1:=by intros;simp_all
theorem yi:1<=a->a<=b->a-1<=b:=by grind
theorem Bz:1<=b->a+b+c=d+e->a+1+(b-1)+c=d+e:=by grind
theorem By:1<=c->a+b+c=d+e->a+1+b+(c-1)=d+e:=by grind
theorem Bx:a<min b c-d->a<min b c-d:=by intros;simp_all
theorem yh:b<min c d-a->a+b<c:=by omega
theorem yg:c<=a->a<=b->min a b-c=a-c:=by intros;simp_all
theorem yf:a<=c->c<=b->a<=b:=by grind
theorem ye:c=d-e->a<=b->a<=b+c:=by grind
theorem ql:1<=a->a-1<a:=by grind
theorem Bw:1<=b->1<=c->¬a=0->¬c=1->1<=a:=by grind
theorem wS:1<=a->a<=b->a-1<b:=by omega
theorem wR:2<=a->a<=b->a-1<b:=by grind
theorem sr:2<=a->1<=a:=by kd_p
theorem xU:1<=a->¬a-1=0->1<=a-1:=by omega
theorem xT:2<=a->¬a-1=1->2<=a-1:=by grind
theorem Bv:a<=b->0+a<=b:=by grind
theorem Bu:2<=a->a<=b->0+(a-1)<=b:=by grind
theorem Bt:2<=a->a-1-1<a-1:=by grind
theorem Br:a<=b-1->a<=b-1:=by kd_p
theorem Bq:¬a=1->¬a=0->2<=a:=by grind
theorem Bp:2<=a->c=a-1-b->¬c>0->a-1-1<b:=by omega
theorem wQ:a<=b->a<=b:=by simp
theorem AS:¬a=0->1<=a:=by grind
theorem AQ:1<=a->c=a-b->¬c>0->a-1<b:=by omega
theorem AO:a<=b->b<1->a=b:=by intros;simp_all
theorem we:a<b+1->¬a<b->a=b:=by grind
theorem wd:a<=b->1<=b->¬a=b->a<=b-1:=by grind
theorem wc:1<=b->b<=a->1<=a:=by omega
theorem sE:a<b->a<=b:=by kd_p
theorem AM:a<=b->max a b=b:=by intros;simp_all
theorem AK:d<=a->b<d->¬(a<=b/\b<c):=by grind
theorem wb:1<=b->a+b-1=a+(b-1):=by grind
theorem AI:a<=b->¬a=b->max (a+1) b=b:=by grind
theorem pC:a+d<=e->b<d->c=e->a+b<c:=by omega
theorem AG:c+1<=b->a+b-1=a+(b-1):=by grind
theorem sD:b+1<=a->1<=a:=by grind
theorem wa:c+1<=b->a<=a+b-(c+1):=by omega
theorem AF:a+d<=e->b<d->c=e->a+b<=c:=by grind
theorem v_:0+1<=a+1:=by kd_p
theorem AE:b+1-(0+1)<=a->a<b+1->a=b+1-1:=by grind
theorem AD:a+1<=b->a+1+1<=b+1:=by kd_p
theorem AB:a+1-1=a:=by kd_p
theorem AA:a<b+1->¬a=b->a<b:=by omega
theorem Az:a+d<=e->b<=d->f=e->c=e->a+b<=c:=by grind
theorem Ay:b<=d->d<c->a<=a+b/\a+b<a+c:=by grind
theorem Ax:b<c->a<=a+b/\a+b<a+c:=by intros;simp_all
theorem Aw:c<=b->b<a->a-1-b<=a-1-c:=by omega
theorem Av:b<=c->c<a->a-1-b<a:=by grind
theorem Au:b+1<=c->c<=a->1<=a:=by grind
theorem Ar:a+d<=e->b<=d->c=e->a+b<=c:=by grind
theorem Ap:1<=c->a+c<=b->a<b:=by grind
theorem Ao:b>1->a+b-1=a+(b-1):=by grind
theorem An:b>1->a<b->a<=b-1:=by grind
theorem Am:a>1->a-1<a:=by omega
theorem Al:a+d<=c->b<=d->a+b<=c:=by grind
theorem Ak:a<=c->c<b->a<b:=by grind
theorem Aj:1<=c->¬c>1->a<=b->b<c->a=b:=by grind
theorem Ai:a<=b->b<min (max c 1) d->c=0->a=b:=by grind
theorem Ah:b<=c->a<min (max b 1) c->¬b=0->a<b:=by grind
theorem Ag:min (max (max a 1) b) b=b:=by grind
theorem Ae:a<b->min a b=a:=by grind
theorem Ad:a<=a:=by simp
theorem Ac:a-0<=a-0:=by kd_p
theorem Ab:¬a>=b->a<=(a+b) / 2:=by grind
theorem Aa:b<=c->¬a>=b->(a+b) / 2<=c:=by grind
theorem z_:¬a>=b->(a+b) / 2+1<=b:=by omega
theorem zZ:a<(b+c) / 2+1->a<=(b+c) / 2:=by kd_p
theorem zY:b<=c->¬a>=b->(a+b) / 2<c:=by omega
theorem zX:c<=b->d<a->a+b-(a+c)<=a+b:=by kd_p
theorem zW:d<=c->a<b->¬a=b+c-(b+c-(b+d)):=by omega
theorem zV:a<b->min (a+1) b=a+1:=by grind
theorem v9:c<=b->a+b-(a+c)<=a+b:=by kd_p
theorem zU:c<=b->a+b-(a+b-(a+c))=a+c:=by grind
theorem zT:c<b->a+b-1=a+(b-1):=by grind
theorem v8:b<c->¬a+b=a+c:=by grind
theorem v7:c<b->¬(a+b<a+c/\a+c<=a+d):=by grind
theorem zS:c<=b->a<b+1->a<c->a<b:=by grind
theorem v6:b=c->a+b=a+c:=by kd_p
theorem v5:¬b=c->¬a+b=a+c:=by simp
theorem v4:¬b<a->¬b=a->a<b:=by grind
theorem zQ:a<=b->a<c->¬b<c->a<=b-1:=by grind
theorem zP:c<=b->d<=a->a<b+1->d<c->a-1<b:=by omega
theorem zO:d=c->b=c->a+b=a+c:=by kd_p
theorem zN:d=c->¬b=c->¬a+b=a+c:=by intros;simp_all
theorem zM:c<=b->c=a->¬b=a->a<b:=by omega
theorem zL:c<=b->c=a->¬b=a->a<=b-1:=by grind
theorem zK:c<=a->a<b+1->c=d->¬a=d->a-1<b:=by grind
theorem zJ:d<=b->¬d<c->¬d=c->¬a+b=a+c:=by grind
theorem zI:c<=b->¬c<a->¬c=a->a<b:=by grind
theorem zH:a<=b->a-1<=b-1:=by omega
theorem zF:c<=a->a<b+1->¬c<d->¬c=d->a-1<b:=by grind
theorem zE:c=a+b->¬a+b<c:=by intros;simp_all
theorem zD:c=a+b->a+b-c=0:=by intros;simp_all
theorem zC:a=b+c->a+1=b+(c+1):=by kd_p
theorem zB:¬a+1<a:=by simp
theorem zw:1<=b->d=a+(b+(e+f))->a<=a+b+c:=by grind
theorem zu:1<=a->d=b+(a+(e+f))->a<=b+a+c-b:=by grind
theorem zt:a+b+c-a-b=c:=by grind
theorem zq:1<=b->c=d+(b+(e+f))->a<b->a<=b-1:=by grind
theorem zp:1<=d->c=a+(b+(d+e))->a+b<=c:=by kd_p
theorem zo:1<=a->b=c+(a+(d+e))->0<a:=by kd_p
theorem zn:a<=b->a+(b-a)=b:=by intros;simp_all
theorem zm:a<=c->c<=b->a+(b-a)=b:=by grind
theorem zk:b<=a->a<=c->a-b<=c-b:=by grind
theorem zj:c=d+(b+(e+f))->g<=b->a<g->a<b:=by grind
theorem zi:1<=a->b=c+(a+(d+e))->a-1<a:=by grind
theorem zh:d=a+(b+(c+e))->a+b+c<=d:=by grind
theorem v3:c<=b->a<c->a<b:=by grind
theorem zg:a=0->a<=b:=by intros;simp_all
theorem ze:d=a+(c+(e+f))->b<=c->a+min b c=a+b+0:=by intros;simp_all
theorem zd:c<=d->e=c->a-b+min c d=a-b+c:=by intros;simp_all
theorem zc:c=d->d<=b->a<d->a<=b:=by grind
theorem zb:a<c->c<=b->a<=b:=by grind
theorem vZ:a<min b (c-d)->a<b:=by grind
theorem za:a+1<b->min a b=a:=by grind
theorem y_:b=c+a->max 0 b<=c->a=0:=by grind
theorem y9:b=c->c=d+a->d>=c->a=0:=by grind
theorem y8:c=d->¬b>=d->d=b->a<=b:=by kd_p
theorem y6:c=a->a=b+d->¬b>=a->1<=a-b:=by grind
theorem y3:c=b->b=a+d->¬a>=b->a+(b-a)<=c:=by intros;simp_all
theorem yZ:a<=c->1<=d->e=c->b=c+d->a+1<=b:=by grind
theorem yY:a=b->a>1->a-2+1<b:=by grind
theorem yX:a=c+d->a+b=c+(d+b):=by grind
theorem yW:a<=c->b≠0->a+1<=b+c:=by grind
theorem yV:b=c->a<=c->a+0<=b+1:=by kd_p
theorem yU:b=a->b<=1->a<=1:=by kd_p
theorem yT:b=c->a+max 0 b<=b+1->a<=1:=by grind
theorem vY:a<=100000->a<=16777216:=by grind
theorem yS:a<=100000->b=a->b<2->a<=16777216+1:=by grind
theorem yR:a<=100000->b=a->¬b<2->2<=a:=by kd_p
theorem yQ:a<=100000->b=a->¬b<2->a<=16777216+1:=by grind
theorem yP:a<=d+c->d<=b+1->a<=b+(c+1):=by grind
theorem yO:a+2≠a+4:=by simp
theorem yN:a+3≠a+4:=by simp_all
theorem yM:a≠a+4:=by grind
theorem yL:a+1≠a+4:=by simp_all
theorem yK:a+2≠a+3:=by simp
theorem yJ:a+2≠a:=by grind
theorem yI:a+2≠a+1:=by simp
theorem yH:a+3≠a:=by simp
theorem yG:a+3≠a+1:=by simp
theorem yF:a≠a+1:=by simp
theorem yE:b=a+5->a<=b:=by intros;simp_all
theorem yC:a<=a+1:=by simp
theorem vX:b-a=0->a<=b->a=b:=by grind
theorem yB:a-b=0->0=a-b:=by kd_p
theorem vW:b-a=c+1->a<=b->a<b:=by grind
theorem vV:c<=b->a<=d->d<c->a<=b:=by grind
theorem vU:a-b=c+1->b<a->a-(b+1)=c:=by grind
theorem vT:a<b->a+1<=b:=by kd_p
theorem yz:a-b=c+1->b<a->a-(b+1)+1=a-b:=by omega
theorem yy:a+(b+1)=a+1+b:=by grind
theorem yx:a-b=c+1->b<a->a-b=a-(b+1)+1:=by omega
theorem yd (h:k-l<=n-x):k-(l+(k-l)/2+1)<=n-(x+1):=by rw[Nat.add_assoc,<-Nat.sub_sub,<-Nat.sub_sub n x 1];exact QM (Nat.sub_le_sub_left (Nat.le_add_left 1 _) _) (Nat.sub_le_sub_right h 1)
theorem yc (h:k-l<=n-x) (e:l<k):l+(k-l)/2-l<=n-(x+1):=by rw[Xe,<-Nat.sub_sub n x 1];exact QM (Nat.le_sub_one_of_lt (Nat.div_lt_self (Nat.sub_pos_of_lt e) (by decide))) (Nat.sub_le_sub_right h 1)
theorem x_ (h:r-l<=k-x) (c:¬l>=r):r-((l+r)/2+1)<=k-(x+1):=by rw[<-Nat.sub_sub,<-Nat.sub_sub k x 1];exact Nat.sub_le_sub_right (QM (Nat.sub_le_sub_left ((Nat.le_div_iff_mul_le (by decide)).mpr (by rw[Nat.mul_two];exact Nat.add_le_add_left (Xr (Nat.lt_of_not_ge c)) _)) _) h) 1
theorem xZ (h:r-l<=k-x) (c:¬l>=r):(l+r)/2-l<=k-(x+1):=by rw[<-Nat.sub_sub k x 1];refine QM ?_ (Nat.sub_le_sub_right h 1);rw[Nat.sub_sub,Nat.add_comm l 1,<-Nat.sub_sub];exact Nat.sub_le_sub_right (Nat.le_sub_one_of_lt ((Nat.div_lt_iff_lt_mul (by decide)).mpr (by rw[Nat.mul_two];exact Nat.add_lt_add_right (Nat.lt_of_not_ge c) _))) _
theorem vS (h:d<=x) (q:lo+x-d<=lo+i/\lo+i<lo+x):lo+x-d+(lo+x)-1-(lo+i)=lo+(x-d+x-1-i)/\x-d<=x-d+x-1-i/\x-d+x-1-i<x/\x-d<=i/\i<x:=by obtain⟨y,rfl⟩:∃y,x=y+d:=⟨x-d,(Nat.sub_add_cancel h).symm⟩;have e:lo+(y+d)-d=lo+y:=(by rw[<-Nat.add_assoc,Nat.add_sub_cancel]);rw[e]at q;rw[e,Nat.add_sub_cancel];obtain⟨p,rfl⟩:∃p,i=y+p:=⟨i-y,(Nat.add_sub_of_le (Nat.le_of_add_le_add_left q.1)).symm⟩;have l:=Nat.lt_of_add_lt_add_left (Nat.lt_of_add_lt_add_left q.2);obtain⟨z,rfl⟩:∃z,d=p+1+z:=⟨d-(p+1),(Nat.add_sub_of_le l).symm⟩;have t:∀u:Nat,u+y+(u+(y+(p+1+z)))-1-(u+(y+p))=u+(y+z):=(λu=>by rw[show u+y+(u+(y+(p+1+z)))=u+(y+p)+(u+(y+z))+1 by ac_rfl,Nat.add_sub_cancel,Xe]);have t0:=t 0;simp only[Nat.zero_add]at t0;rw[t,t0];exact⟨rfl,Nat.le_add_right _ _,by omega,Nat.le_add_right _ _,Nat.add_lt_add_left l _⟩
theorem sq (q:i<n):lo+(lo+n)-1-(lo+i)=lo+(n-1-i):=by obtain⟨p,rfl⟩:∃p,n=i+1+p:=⟨n-(i+1),(Nat.add_sub_of_le q).symm⟩;rw[show lo+(lo+(i+1+p))=lo+i+(lo+p)+1 by ac_rfl,Nat.add_sub_cancel,Xe,Nat.sub_sub,Nat.add_comm 1 i,Xe]
theorem xY (h:k<=x):f+k+(x-k)-1=f+(x-1)\/x=0:=by obtain⟨y,rfl⟩:∃y,x=k+y:=⟨x-k,(Nat.add_sub_of_le h).symm⟩;rw[Xe,Nat.add_assoc];cases (k+y);exact .inr rfl;exact .inl rfl
theorem xX (h:k<=x) (q:¬x-k=0) (z:m=x-k):k+(m-1)=x-1:=by subst z;rw[<-Nat.add_sub_assoc (Nat.pos_of_ne_zero q),Nat.add_sub_of_le h]
theorem xW (h:2<=n) (q:¬n-1=1):2<=n-1:=Nat.le_sub_one_of_lt (Nat.lt_of_le_of_ne h λz=>q (by rw[<-z]))
theorem xV (h:j=n-2-1\/j=n-2) (q:¬n<=1) (e:n=m):j+1<m:=by subst e;obtain⟨z,rfl⟩:∃z,n=z+2:=⟨n-2,(Nat.sub_add_cancel (Nat.lt_of_not_le q)).symm⟩;rw[Nat.add_sub_cancel]at h;rcases h with rfl|rfl;exact Nat.lt_succ_of_le (Nat.add_le_add_right (Nat.sub_le _ _) 1);exact Nat.lt_succ_self _
end
-- CHANGE: your row's module here,as the last of these rows
namespace L2
open PySem PySem.Spec PyProof.Rows
abbrev Key:=Sum Int Str
def gY:Key->Value->Bool
 | .inl k,v=>Value.isInt k v
 | .inr x,v=>Value.isStrOf x v
def Cd (w:World):Key->Int
 | .inl k=>hashInt k
 | .inr x=>hashStr w x
theorem bo:∀{k:Key} {v:Value},gY k v=true->(∃i t,k=Sum.inl i/\v=Value.int i t)\/(∃x t,k=Sum.inr x/\v=Value.str x t)
 | .inl i,v,h=>by
  obtain⟨t,e⟩:=Value.isInt_shape (k:=i) (v:=v) h;exact .inl ⟨i,t,rfl,e⟩
 | .inr x,v,h=>by
  obtain⟨t,e⟩:=Value.isStrOf_shape (x:=x) (v:=v) h;exact .inr ⟨x,t,rfl,e⟩
theorem qE (i:Int) (t:Tok):gY (.inl i) (.int i t)=true:=by simp[gY,Value.isInt]
theorem qD (x:Str) (t:Tok):gY (.inr x) (.str x t)=true:=by simp[gY,Value.isStrOf]
theorem xc (a b:Int):decide ((Sum.inl a:Key)=Sum.inl b)=(a==b):=by
 by_cases e:a=b
 ·subst e;simp
 have h:¬(Sum.inl a:Key)=Sum.inl b:=λq=>e (Sum.inl.inj q);rw[Qx h];exact(beq_eq_false_iff_ne.mpr e).symm
theorem w9 (a b:Str):decide ((Sum.inr a:Key)=Sum.inr b)=decide (a=b):=by
 by_cases e:a=b
 ·subst e;simp
 have h:¬(Sum.inr a:Key)=Sum.inr b:=λq=>e (Sum.inr.inj q);rw[Qx h,Qx e]
theorem xa (a:Int) (b:Str):decide ((Sum.inl a:Key)=Sum.inr b)=false:=Qx (λq=>nomatch q)
theorem w_ (a:Str) (b:Int):decide ((Sum.inr a:Key)=Sum.inl b)=false:=Qx (λq=>nomatch q)
noncomputable def a9 (prog:Program) (w:World):PySem.KeyKind prog w Key where
 is:=gY
 hash:=Cd w
 inj:=λv a b ha hb=>by
  rcases bo ha with⟨i,t,rfl,rfl⟩|⟨x,t,rfl,rfl⟩
  ·rcases bo hb with⟨j,u,rfl,e⟩|⟨y,u,rfl,e⟩
   ·injection e with e1 _;rw[e1]
   exact nomatch e
  rcases bo hb with⟨j,u,rfl,e⟩|⟨y,u,rfl,e⟩
  ·exact nomatch e
  injection e with e1 _;rw[e1]
 byValue:=λk v h=>by
  rcases bo h with⟨i,t,rfl,rfl⟩|⟨x,t,rfl,rfl⟩ <;> rfl
 pyHash:=λhv h=>by
  rcases bo hv with⟨i,t,rfl,rfl⟩|⟨x,t,rfl,rfl⟩
  ·exact wpAny_pyHash_int h
  exact wpAny_pyHash_str h
 eqBool:=λhu hv h=>by
  rcases bo hu with⟨i,t,rfl,rfl⟩|⟨x,t,rfl,rfl⟩
  ·rcases bo hv with⟨j,u,rfl,rfl⟩|⟨y,u,rfl,rfl⟩
   ·rw[xc]at h;exact wpAny_eqBool_int h
   rw[xa]at h;exact SeqAt.EqAt.int_str i t y u _ _ _ _ h
  rcases bo hv with⟨j,u,rfl,rfl⟩|⟨y,u,rfl,rfl⟩
  ·rw[w_]at h;exact SeqAt.EqAt.str_int x t j u _ _ _ _ h
  rw[w9]at h;exact wpAny_eqBool_str h
 «strs»:=λk x t v h=>by
  rcases bo h with⟨i,u,rfl,e⟩|⟨y,u,rfl,e⟩
  ·exact nomatch e
  injection e with e1 _;subst e1;cases v <;> rfl
theorem mZ (prog:Program) (w:World) (i:Int) (t:Tok):(a9 prog w).is (.inl i) (.int i t)=true:=qE i t
theorem eW (prog:Program) (w:World) (x:Str) (t:Tok):(a9 prog w).is (.inr x) (.str x t)=true:=qD x t
inductive V where
 | non|bl (b:Bool)|int (i:Int)|str (x:Str)|byt (b:Array UInt8)|flt (b:UInt64)|ref (a:Addr)|ty (n:String)
 deriving DecidableEq
noncomputable def aO:V->Value->Prop
 | .non,u=>u=Value.none
 | .bl b,u=>u=Value.bool b
 | .int i,u=>∃t,u=Value.int i t
 | .str x,u=>∃t,u=Value.str x t
 | .byt b,u=>∃t,u=Value.bytes b t
 | .flt b,u=>∃t,u=Value.float b t
 | .ref a,u=>u=Value.ref a
 | .ty n,u=>u=Value.type n
abbrev ba:List V->List Value->Prop:=Paired aO
theorem ba.length {xs:List V} {us:List Value} (r:ba xs us):xs.length=us.length:=Paired.length r
theorem ba.get:∀{xs:List V} {us:List Value} {i:Nat} {x:V},ba xs us->xs[i]?=some x->∃u,us[i]?=some u/\aO x u
 | _,_,_,_,.nil,e=>by simp at e
 | _,_,0,_,.cons r _,e=>by simp at e;subst e;exact⟨_,rfl,r⟩
 | _,_,i+1,x,.cons _ t,e=>by
  obtain⟨u,h1,h2⟩:=ba.get (i:=i) (x:=x) t (by simpa using e);exact⟨u,by simpa using h1,h2⟩
variable {u cd dV doc pm cdv ct oc:Value}
theorem ba.set {x:V} (r:aO x u):∀{xs:List V} {us:List Value} (i:Nat),ba xs us->ba (xs.set i x) (us.set i u)
 | _,_,_,.nil=>.nil
 | _,_,0,.cons _ t=>.cons r t
 | _,_,i+1,.cons q t=>.cons q (ba.set r i t)
theorem ba.append:∀{xs ys:List V} {us ws:List Value},ba xs us->ba ys ws->ba (xs++ys) (us++ws)
 | _,_,_,_,.nil,s=>s
 | _,_,_,_,.cons r t,s=>.cons r (ba.append t s)
theorem ba.take:∀{xs:List V} {us:List Value} (n:Nat),ba xs us->ba (xs.take n) (us.take n)
 | _,_,0,_=>.nil
 | _,_,_+1,.nil=>.nil
 | _,_,n+1,.cons r t=>.cons r (ba.take n t)
theorem ba.drop:∀{xs:List V} {us:List Value} (n:Nat),ba xs us->ba (xs.drop n) (us.drop n)
 | _,_,0,r=>r
 | _,_,_+1,.nil=>.nil
 | _,_,n+1,.cons _ t=>ba.drop n t
def gn:Option V->Option Value->Prop
 | some v,some u=>aO v u
 | none,none=>True
 | _,_=>False
def KV {κ:Type}:List (κ × V)->List (κ × Value)->Prop:=Paired λ(p:κ × V) (q:κ × Value)=>p.1=q.1/\aO p.2 q.2
def kV:Key->V
 | .inl i=>.int i
 | .inr x=>.str x
inductive HO where
 /-- a list -/
 | lst (xs:List V)
 /-- a tuple (never changes) -/
 | tup (xs:List V)
 /-- a dict whose keys are ints and texts;one whose keys are tuples of ints and texts (the empty one is both) -/
 | dK (kvs:List (Key × V))|dT (kvs:List (List Key × V))
 /-- a set of ints: its members,its size -/
 | set (S:Int->Bool) (n:Nat)
 /-- an instance of the class at C,its dict at dx,its attributes -/
 | ins (C dx:Addr) (fs:List (Str × V))
 /-- the dict of the instance at x -/
 | own (x:Addr)
 /-- the dict of an exception -/
 | xd (fs:List (Str × V))
 /-- a bound method,f of x -/
 | met (f x:Addr)
 /-- a range object lo,lo+1,.. below hi -/
 | rng (lo hi:Int)
 /-- a thing that is known to the object (the script;a dict while a loop walks it): read,never written while it is so -/
 | frz (o:Obj) (u:HO)
 /-- a code object's table -/
 | tbl (ps:Array Value)
 /-- any other thing,by what is true of its one object (a def of one's own: SetO a S n:=HO.ext λh=>..) -/
 | ext (φ:Heap->Prop)
abbrev Hp:=Addr->Option HO
def upd (H:Hp) (a:Addr) (o:HO):Hp:=λb=>if b=a then some o else H b
variable {o:HO} {a b it dx C f:Addr} {H H':Hp}
theorem ai:upd H a o a=some o:=by unfold upd;rw[QB rfl]
theorem ao (h:b≠a):upd H a o b=H b:=by unfold upd;rw[QC h]
theorem um {u:HO}:upd (upd H a o) a u=upd H a u:=by
 funext b;unfold upd;split <;> rfl
theorem AT {u:HO} (h:H a=some o) (h':H b=some u) (d:o≠u):a≠b:=by
 intro e;subst e;rw[h]at h';exact d (QT h')
theorem aB (h:H a=some o) (h':H b=none):a≠b:=by
 intro e;subst e;rw[h]at h';cases h'
section
variable (P:Program) (w:World)
noncomputable def bj (H:Hp) (h:Heap) (a:Addr):HO->Prop
 | .lst xs=>xs.length<=sizeLine/\∃(its:List Value) (n:Nat),ba xs its/\h.get? a=some { cls:=.type "list", data:=.seq its.toArray n }
 | .tup xs=>xs.length<=sizeLine/\∃its:List Value,ba xs its/\IsTup h a its.toArray
 | .dK kvs=>kvs.length<=sizeLine/\(a==sysModules)=false/\∃vs,KV kvs vs/\h.DictOf (a9 P w) a vs
 | .dT kvs=>kvs.length<=sizeLine/\(a==sysModules)=false/\∃xs:List (List Key × Addr × Value),
   Paired (λ(p:List Key × V) (q:List Key × Addr × Value)=>p.1=q.1/\H q.2.1=some (.tup (p.1.map kV))/\aO p.2 q.2.2) kvs xs /\
   ∃o es ep,h.get? a=some o/\o.ExactDict/\o.data=.dict es ep/\es.toList=xs.map (entryOfKey (tupleKind (a9 P w)))/\(xs.map (·.1)).Nodup
 | .set S n=>h.SetOf (intKind P w) a S n
 | .ins C dx fs=>H dx=some (.own a)/\fs.length<=1000/\dx≠a/\h.get? a=some (PySem.W.instObj C dx) /\
   ∃mA,h.Ns1 dx mA/\(∀f,gn (fs.lookup f) (mA f))/\PySem.Within mA (fs.map (·.1))
 | .own _=>∃o,h.get? a=some o
 | .xd fs=>∃mA,h.Ns1 a mA/\∀f,gn (fs.lookup f) (mA f)
 | .rng lo hi=>∃t u v,h.get? a=some { cls:=.type "range", data:=.fields #[.int lo t,.int hi u,.int 1 v] }
 | .frz o u=>h.get? a=some o/\bj H h a u
 | .tbl ps=>h.get? a=some { cls:=.none,data:=.fields ps }
 | .met f x=>h.get? a=some (PySem.W.methodObj (.ref f) (.ref x))
 | .ext φ=>φ h/\(∃o,h.get? a=some o)/\∀h1 h2:Heap,φ h1->(∀o,h1.get? a=some o->h2.get? a=some o)->φ h2
def HOk (H:Hp) (h:Heap):Prop:=∀a o,H a=some o->bj P w H h a o
end
section
variable {P:Program} {w:World} {H H':Hp} {h h':Heap} {a:Addr} {o:HO}
theorem bj.lt (x:bj P w H h a o):a<h.objs.size:=by
 cases o with
 | lst xs=>obtain⟨_,_,_,_,e⟩:=x;exact Qk e
 | tup xs=>obtain⟨_,_,_,p⟩:=x;exact p.lt
 | dK kvs=>obtain⟨_,_,_,_,o,_,_,e,_⟩:=x;exact Qk e
 | dT kvs=>obtain⟨_,_,_,_,o,_,_,e,_⟩:=x;exact Qk e
 | set S n=>obtain⟨o,_,_,_,e,_⟩:=x;exact Qk e
 | ins C dx fs=>obtain⟨_,_,_,e,_⟩:=x;exact Qk e
 | own y=>obtain⟨_,e⟩:=x;exact Qk e
 | xd fs=>obtain⟨_,⟨_,_,_,e,_⟩,_⟩:=x;exact Qk e
 | rng lo hi=>obtain⟨_,_,_,e⟩:=x;exact Qk e
 | frz ob u=>obtain⟨e,_⟩:=x;exact Qk e
 | tbl ps=>exact Qk (show h.get? a=some _ from x)
 | met f y=>exact Qk (show h.get? a=some _ from x)
 | ext φ=>obtain⟨_,⟨_,e⟩,_⟩:=x;exact Qk e
theorem Paired.mapP {α β:Type} {F G:α->β->Prop}:∀{l₁:List α} {l₂:List β},Paired F l₁ l₂->(∀a b,F a b->G a b)->Paired G l₁ l₂
 | _,_,.nil,_=>.nil
 | _,_,.cons r t,f=>.cons (f _ _ r) (Paired.mapP t f)
theorem bj.stay (x:bj P w H h a o) (k:∀b u,(b=a\/H b=some (.own a))->h.get? b=some u->h'.get? b=some u)
  (ho:∀b,H b=some (.own a)->H' b=some (.own a)) (ht:∀b xs,H b=some (.tup xs)->H' b=some (.tup xs)):bj P w H' h' a o:=by
 induction o with
 | lst xs=>obtain⟨z,its,n,r,e⟩:=x;exact⟨z,its,n,r,k _ _ (.inl rfl) e⟩
 | tup xs=>obtain⟨z,its,r,ob,e,c⟩:=x;exact⟨z,its,r,ob,k _ _ (.inl rfl) e,c⟩
 | dK kvs=>obtain⟨z,y,vs,r,ob,es,ep,e,c⟩:=x;exact⟨z,y,vs,r,ob,es,ep,k _ _ (.inl rfl) e,c⟩
 | dT kvs =>
  obtain⟨z,y,xs,r,ob,es,ep,e,c⟩:=x;exact⟨z,y,xs,Paired.mapP r λp q z=>⟨z.1,ht _ _ z.2.1,z.2.2⟩,ob,es,ep,k _ _ (.inl rfl) e,c⟩
 | set S n=>obtain⟨ob,es,ep,t,e,c⟩:=x;exact⟨ob,es,ep,t,k _ _ (.inl rfl) e,c⟩
 | ins C dx fs =>
  obtain⟨d,z,ne,e,mA,⟨od,es,ep,e2,c⟩,r⟩:=x;exact⟨ho _ d,z,ne,k _ _ (.inl rfl) e,mA,⟨od,es,ep,k _ _ (.inr d) e2,c⟩,r⟩
 | own y=>obtain⟨ob,e⟩:=x;exact⟨ob,k _ _ (.inl rfl) e⟩
 | xd fs=>obtain⟨mA,⟨od,es,ep,e,c⟩,r⟩:=x;exact⟨mA,⟨od,es,ep,k _ _ (.inl rfl) e,c⟩,r⟩
 | rng lo hi=>obtain⟨t,u,v,e⟩:=x;exact⟨t,u,v,k _ _ (.inl rfl) e⟩
 | frz ob u ih=>obtain⟨e,q⟩:=x;exact⟨k _ _ (.inl rfl) e,ih q⟩
 | tbl ps =>
  have e:h.get? a=some { cls:=.none,data:=.fields ps }:=x;show h'.get? a=some { cls:=.none,data:=.fields ps };exact k a _ (.inl rfl) e
 | met f y =>
  have e:h.get? a=some (PySem.W.methodObj (.ref f) (.ref y)):=x;show h'.get? a=some (PySem.W.methodObj (.ref f) (.ref y));exact k a _ (.inl rfl) e
 | ext φ=>obtain⟨p,⟨o,e⟩,st⟩:=x;exact⟨st _ _ p λo q=>k _ _ (.inl rfl) q,⟨o,k _ _ (.inl rfl) e⟩,st⟩
theorem HOk.lt (x:HOk P w H h) (e:H a=some o):a<h.objs.size:=(x a o e).lt
theorem HOk.fresh (x:HOk P w H h) (e:h.objs.size<=a):H a=none:=by
 cases q:H a with
 | none=>rfl
 | some u=>exact absurd (QF (x.lt q) e) (Xw _)
theorem HOk.kept (x:HOk P w H h) (k:∀b u,h.get? b=some u->h'.get? b=some u):HOk P w H h':=λa o e =>
 (x a o e).stay (λb u _ q=>k b u q) (λ_ q=>q) λ_ _ q=>q
theorem HOk.laid (x:HOk P w H h) (k:∀b u,h.get? b=some u->h'.get? b=some u) (hp:h.objs.size<=a) (new:bj P w (upd H a o) h' a o):HOk P w (upd H a o) h':=λb u e=>by
 have hn:=x.fresh hp;by_cases hb:b=a
 ·subst hb;rw[ai]at e;cases e;exact new
 rw[ao hb]at e;exact(x b u e).stay (λc v _ q=>k c v q) (λc q=>by rw[ao (aB q hn)];exact q) λc xs q=>by rw[ao (aB q hn)];exact q
end
def Rd (H:Hp) (a:Addr) (u:HO):Prop:=H a=some u\/∃o,H a=some (.frz o u)
variable {h base:Heap} {w:World} {P:Program}
theorem Rd.ok {u:HO} (r:Rd H a u) (x:HOk P w H h):bj P w H h a u:=by
 rcases r with r|⟨o,r⟩
 ·exact x a u r
 obtain⟨_,q⟩:=x a _ r;exact q
def Mut:Option HO->Prop
 | some (.lst _)=>True
 | some (.dK _)=>True
 | some (.dT _)=>True
 | some (.set _ _)=>True
 | some (.ins _ _ _)=>True
 | some (.ext _)=>True
 | _=>False
section
variable {P:Program} {w:World} {H:Hp} {h h':Heap} {x e:Addr} {o':HO}
theorem HOk.write (ok:HOk P w H h) (mu:Mut (H x)) (he:e=x\/H e=some (.own x)) (k:∀b u,b≠e->h.get? b=some u->h'.get? b=some u) (heo:∃u,h'.get? e=some u)
  (new:bj P w (upd H x o') h' x o'):HOk P w (upd H x o') h':=λb u q=>by
 have nown:∀c y,H c=some (.own y)->c≠x:=λc y r z=>by subst z;rw[r]at mu;exact mu
 have ntup:∀c xs,H c=some (.tup xs)->c≠x:=λc xs r z=>by subst z;rw[r]at mu;exact mu
 by_cases hb:b=x
 ·subst hb;rw[ai]at q;cases q;exact new
 rw[ao hb]at q;by_cases hbe:b=e
 ·have q':H b=some (.own x):=by
   rcases he with z|z
   ·exact absurd (hbe.trans z) hb
   rw[hbe];exact z
  rw[q]at q';cases q';obtain⟨v,hv⟩:=heo;exact⟨v,by rw[hbe];exact hv⟩
 refine(ok b u q).stay (λc v hc r=>k c v ?_ r) (λc r=>by rw[ao (nown c b r)];exact r) λc xs r=>by rw[ao (ntup c xs r)];exact r
 rcases hc with rfl|hc
 ·exact hbe
 rintro rfl;rcases he with z|z
 ·exact nown c b hc z
 rw[hc]at z;cases z;exact hb rfl
end
structure Un (fs ex:C3) (H H':Hp) (h h':Heap):Prop where
 keep:∀b o,h.get? b=some o->H b=none->b∉fs->b∉ex->h'.get? b=some o
 slot:∀b o,h.get? b=some o->H b=none->b∈fs->b∉ex->∃sl,h'.get? b=some { o with slots:=sl }
 free:∀b o,h.get? b=some o->H b=none->b∉ex->H' b=none
 there:∀b o,h.get? b=some o->b∉ex->∃o',h'.get? b=some o'
 tups:∀b xs,H b=some (.tup xs)->H' b=some (.tup xs)
 frzs:∀b o u,H b=some (.frz o u)->H' b=some (.frz o u)
 tbls:∀b ps,H b=some (.tbl ps)->∃more,H' b=some (.tbl (ps++more))
section
variable {fs fs' ex ex':C3} {H H1 H2:Hp} {h h1 h2 h':Heap} {a x e:Addr} {o:HO}
theorem Un.any (u:Un fs ex H H1 h h1) {b:Addr} {ob:Obj} (q:h.get? b=some ob) (n:H b=none) (hx:b∉ex):∃sl,h1.get? b=some { ob with slots:=sl }:=by
 by_cases hb:b∈fs
 ·exact u.slot b ob q n hb hx
 exact⟨ob.slots,u.keep b ob q n hb hx⟩
theorem Un.kept (k:∀b u,h.get? b=some u->h'.get? b=some u):Un fs ex H H h h' :=
 ⟨λb ob q _ _ _=>k b ob q,λb ob q _ _ _=>⟨ob.slots,k b ob q⟩,λ_ _ _ n _=>n,λb ob q _=>⟨ob,k b ob q⟩,λ_ _ q=>q,λ_ _ _ q=>q,λ_ ps q=>⟨#[],by rw[q];simp⟩⟩
theorem Un.refl:Un fs ex H H h h:=Un.kept λ_ _ q=>q
theorem Un.laid (k:∀b u,h.get? b=some u->h'.get? b=some u) (hp:h.objs.size<=a) (hn:H a=none):Un fs ex H (upd H a o) h h' where
 keep:=λb u q _ _ _=>k b u q
 slot:=λb u q _ _ _=>⟨u.slots,k b u q⟩
 free:=λb u q n _=>by rw[ao (QE (QF (Qk q) hp))];exact n
 there:=λb u q _=>⟨u,k b u q⟩
 tups:=λb xs q=>by rw[ao (aB q hn)];exact q
 frzs:=λb u xs q=>by rw[ao (aB q hn)];exact q
 tbls:=λb ps q=>⟨#[],by rw[ao (aB q hn),q];simp⟩
theorem Un.write (mu:Mut (H x)) (he:e=x\/H e=some (.own x)) (k:∀b u,b≠e->h.get? b=some u->h'.get? b=some u) (heo:∃u,h'.get? e=some u):Un fs ex H (upd H x o) h h':=by
 have hx:∀b,H b=none->b≠x:=λb n z=>by subst z;rw[n]at mu;exact mu
 have hb:∀b,H b=none->b≠e:=λb n z=>by
  subst z;rcases he with r|r
  ·exact hx b n r
  rw[n]at r;cases r
 have hm:∀b u,H b=some u->¬Mut (some u)->b≠x:=λb u q nm z=>by subst z;rw[q]at mu;exact nm mu
 refine⟨λb u q n _ _=>k b u (hb b n) q,λb u q n _ _=>⟨u.slots,k b u (hb b n) q⟩,λb u q n _=>by rw[ao (hx b n)];exact n,λb u q _=>?_,
  λb xs q=>by rw[ao (hm b _ q λz=>z)];exact q,λb u xs q=>by rw[ao (hm b _ q λz=>z)];exact q,λb ps q=>⟨#[],by rw[ao (hm b _ q λz=>z),q];simp⟩⟩
 by_cases hbe:b=e
 ·subst hbe;exact heo
 exact⟨u,k b u hbe q⟩
end
def trk (h:Heap) (H:Hp):C3:=(List.range h.objs.size).filter λa=>(H a).isSome
def jT (h:Heap) (H:Hp):Heap:=PySem.W.hideAll h (trk h H)
theorem qK (h:Heap) (H:Hp):(jT h H).objs.size=h.objs.size:=PySem.W.hideAll_size _ _
theorem tI {o:Obj} (e:h.get? b=some o) (n:H b=none):(jT h H).get? b=some o :=
 PySem.W.hideAll_get _ e λhm=>by
  have q:(H b).isSome=true:=(List.mem_filter.mp hm).2;rw[n]at q;simp at q
theorem uW {o:Obj} (e:(jT h H).get? b=some o):h.get? b=some o/\H b=none:=by
 have e':h.get? b=some o:=PySem.W.of_hideAll (trk h H) e;refine⟨e',?_⟩
 cases q:H b with
 | none=>rfl
 | some x =>
 have hm:b∈trk h H:=List.mem_filter.mpr ⟨List.mem_range.mpr (Qk e'),by simp[q]⟩;have z:(jT h H).get? b=none:=PySem.W.hideAll_none (trk h H) hm;rw[z]at e;cases e
structure Mod (K:PySem.W.Frag) (mg:C2) (base:Heap):Prop where
 kin:K.In base
 glob:base.Ns mainGlobals mg
 blt:∃mb,base.Ns builtinsNs mb/\∀x:Str,x ≠ "__name__" -> mb x=bootBuiltins x
 nolimit:base.NoLimit
/-- the context: a def's body (or a comprehension's block) running. base: fixed through the whole law;s₀,H₀: the dZ;outer: the frames whose slots others may change (a def's callers);stack: all frames that run;
  ex: iterators that were made ahead of the dZ and are walked here (a comprehension's);fn: the names whose cells were made at the dZ (a def: all;a comprehension's block: its own);calm: not within an except suite;pn: pins that every state bears;xe: what is wanted of an exception that leaves the code -/
structure Cx where
 prog:Program
 w:World
 K:PySem.W.Frag
 mg:C2
 base:Heap
 A:Around
 N:List Str
 s₀:Shared
 H₀:Hp
 env:Env
 outer:List Env
 stack:List Env
 ex:C3
 fn:Str->Bool
 calm:Bool
 pn:C1
 xe:C0
def frs (l:List Env):C3:=l.filterMap (·.frame)
abbrev Cx.fs (X:Cx):C3:=frs X.outer
def Vis (sc:Scope) (x:Str):Prop:=sc.names.lookup x=some .local\/sc.names.lookup x=some .cell\/sc.names.lookup x=some .free
def Loc (sc:Scope) (x:Str):Prop:=sc.names.lookup x=some .local\/sc.names.lookup x=some .cell
def Ch (env:Env) (h:Heap) (m:C2) (x:Str) (u:Value):Prop :=
 (env.kindOf x=some .local/\m x=some u)\/((env.kindOf x=some .cell\/env.kindOf x=some .free)/\∃c,env.cells.lookup x=some c/\h.IsCell c (some u))
structure Cx.Ok (X:Cx):Prop where
 mod:Mod X.K X.mg X.base
 kind:X.env.scope.kind=.function
 glob:X.env.globals=mainGlobals
 blt:X.env.builtins=builtinsNs
 above:X.s₀.heap.objs.size<=X.env.locals
 inj:∀x y c,X.env.cells.lookup x=some c->X.env.cells.lookup y=some c->x=y
 has:∀x,(X.env.kindOf x=some .cell\/X.env.kindOf x=some .free)->∃c,X.env.cells.lookup x=some c
 cab:∀x c,X.fn x=true->X.env.cells.lookup x=some c->X.s₀.heap.objs.size<=c
 hd:X.calm=true->X.A.handled=none
 frames:X.A.frames=some X.stack
 stk:X.stack=X.outer\/(X.stack=X.env::X.outer/\X.env.frame=some X.env.locals)
 exf:∀b∈X.ex,b≠X.env.locals/\∀x c,X.env.cells.lookup x=some c->c≠b
 bs:∀b o,X.base.get? b=some o->X.s₀.heap.get? b=some o/\X.H₀ b=none
 bsz:X.base.objs.size<=X.s₀.heap.objs.size
 noex:∀b o,X.base.get? b=some o->b∉X.ex
 exfs:∀b∈X.ex,b∉X.fs
 funs:X.s₀.heap.FunFrames X.base X.outer
 frf:∀b∈X.fs,X.H₀ b=none
structure Inv (X:Cx) (pins:C1) (U:List (Option V)) (H:Hp) (s:Shared):Prop where
 ok:X.Ok
 os:s.os=X.s₀.os
 bare:AllBare s.gens
 base:Un X.fs X.ex X.H₀ H X.s₀.heap s.heap
 loc:∃m,s.heap.Ns X.env.locals m/\∀(i:Nat) (x:Str) (v:V),X.N[i]?=some x->U[i]?=some (some v)->Vis X.env.scope x->∃u,aO v u/\Ch X.env s.heap m x u
 cell:∀x c,X.env.cells.lookup x=some c->∃v,s.heap.IsCell c v
 free:H X.env.locals=none
 freeC:∀x c,X.env.cells.lookup x=some c->H c=none
 pin:∀p∈X.pn++pins,s.heap.get? p.1=some p.2/\H p.1=none/\p.1≠X.env.locals/\p.1∉X.fs/\∀v,p.2.data≠.cell v
 hok:HOk X.prog X.w H s.heap
 len:U.length=X.N.length
section
variable {X:Cx} {pins:C1} {U:List (Option V)} {H H':Hp} {s:Shared} {h':Heap}
theorem Cx.Ok.nofr (ok:X.Ok) {b:Addr} {o:Obj} (e:X.base.get? b=some o):b∉X.fs:=λhb=>by
 have:=(ok.funs.mem hb).1;rw[e]at this;cases this
theorem Inv.bs (I:Inv X pins U H s):∀b o,X.base.get? b=some o->s.heap.get? b=some o/\H b=none:=λb o e =>
 ⟨I.base.keep b o (I.ok.bs b o e).1 (I.ok.bs b o e).2 (I.ok.nofr e) (I.ok.noex b o e),I.base.free b o (I.ok.bs b o e).1 (I.ok.bs b o e).2 (I.ok.noex b o e)⟩
theorem Inv.bk (I:Inv X pins U H s):∀b o,X.base.get? b=some o->s.heap.get? b=some o:=λb o e=>(I.bs b o e).1
theorem Inv.mod (I:Inv X pins U H s):Mod X.K X.mg X.base:=I.ok.mod
theorem Inv.kIn (I:Inv X pins U H s):X.K.In s.heap:=I.ok.mod.kin.keeps I.bk
theorem Inv.lt (I:Inv X pins U H s):X.env.locals<s.heap.objs.size:=let ⟨_,hn,_⟩:=I.loc;hn.lt
theorem Inv.sz (I:Inv X pins U H s):X.s₀.heap.objs.size<=s.heap.objs.size:=QM I.ok.above (Xr I.lt)
theorem Inv.nofs (I:Inv X pins U H s) {a:Addr} (h:s.heap.objs.size<=a):a∉X.fs:=λhb=>by
 obtain⟨_,o,ho,_⟩:=I.ok.funs.mem hb;exact absurd (QF (Qk ho) (QM I.sz h)) (Xw _)
theorem Inv.cne (I:Inv X pins U H s):∀x c,X.env.cells.lookup x=some c->c≠X.env.locals:=λx c e z=>by
 obtain⟨v,o,ho,hd⟩:=I.cell x c e;obtain⟨m,⟨o',es,ep,ho',hd',_⟩,_⟩:=I.loc;rw[z,ho']at ho;cases ho;rw[hd']at hd;cases hd
theorem Inv.funs (I:Inv X pins U H s):s.heap.FunFrames X.base X.outer:=by
 have all:∀(l:List Env),(∀b∈frs l,b∈X.fs)->X.s₀.heap.FunFrames X.base l->s.heap.FunFrames X.base l:=by
  intro l
  induction l with
  | nil=>intro _ _;trivial
  | cons env r ih =>
  intro hs hl;obtain⟨hk,⟨L,o,hf,hn,ho,hd⟩,hr⟩:=hl;have hL:L∈X.fs:=hs L (by unfold frs;rw[List.filterMap_cons,hf];exact Xh);obtain⟨sl,e⟩:=I.base.slot L o ho (I.ok.frf L hL) hL λz=>I.ok.exfs L z hL;exact⟨hk,⟨L,_,hf,hn,e,hd⟩,ih (λb hb=>hs b (by unfold frs;rw[List.filterMap_cons,hf];exact QG _ hb)) hr⟩
 exact all X.outer (λ_ hb=>hb) I.ok.funs
theorem Inv.stack (I:Inv X pins U H s):s.heap.FunFrames X.base X.stack:=by
 rcases I.ok.stk with e|⟨e,hf⟩
 ·rw[e];exact I.funs
 rw[e];obtain⟨m,hn,_⟩:=I.loc;refine .cons (by rw[I.ok.kind];decide) hf hn ?_ I.funs;exact Heap.get?_none_of_le (QM I.ok.bsz I.ok.above)
theorem Inv.stkSub (I:Inv X pins U H s):∀b∈frs X.stack,b∈X.env.locals::X.fs:=λb hb=>by
 rcases I.ok.stk with e|⟨e,hf⟩
 ·rw[e]at hb;exact QG _ hb
 rw[e]at hb;unfold frs at hb;rw[List.filterMap_cons,hf]at hb;exact hb
theorem Inv.stkFree (I:Inv X pins U H s):∀b∈frs X.stack,H b=none:=λb hb=>by
 rcases QQ.mp (I.stkSub b hb) with e|hb
 ·rw[e];exact I.free
 obtain⟨_,o,ho,_⟩:=I.ok.funs.mem hb;exact I.base.free b o ho (I.ok.frf b hb) λz=>I.ok.exfs b z hb
theorem Inv.step {g':Array GenState} {t':Nat} {d':Drawn} {ch:C3} (I:Inv X pins U H s)
  (hch:∀b∈ch,(b∈X.ex\/X.s₀.heap.objs.size<=b)/\b≠X.env.locals/\(∀x c,X.env.cells.lookup x=some c->c≠b)/\∀p∈X.pn++pins,p.1≠b)
  (keep:∀b o,b≠X.env.locals->b∉X.fs->b∉ch->s.heap.get? b=some o->H b=none->h'.get? b=some o)
  (slot:∀b o,b≠X.env.locals->b∈X.fs->b∉ch->s.heap.get? b=some o->H b=none->∃sl,h'.get? b=some { o with slots:=sl }) (free:∀b o,b∉ch->s.heap.get? b=some o->H b=none->H' b=none)
  (there:∀b o,b∉ch->s.heap.get? b=some o->∃o',h'.get? b=some o')
  (tups:∀b xs,H b=some (.tup xs)->H' b=some (.tup xs)) (frzs:∀b o u,H b=some (.frz o u)->H' b=some (.frz o u)) (tbls:∀b ps,H b=some (.tbl ps)->∃more,H' b=some (.tbl (ps++more)))
  (ns:∀m,s.heap.Ns X.env.locals m->h'.Ns X.env.locals m) (hok:HOk X.prog X.w H' h') (hg:AllBare g') :
  Inv X pins U H' { s with heap:=h',gens:=g',drawn:=d',toks:=t' }:=by
 have neL:∀b o,X.s₀.heap.get? b=some o->b≠X.env.locals:=λb o e=>QE (QF (Qk e) I.ok.above)
 have neC:∀b o,X.s₀.heap.get? b=some o->b∉X.ex->b∉ch:=λb o e hx hb=>by
  rcases(hch b hb).1 with z|z
  ·exact hx z
  exact absurd (QF (Qk e) z) (Xw _)
 have cellK:∀x c,X.env.cells.lookup x=some c->∀v,s.heap.IsCell c v->h'.IsCell c v:=λx c e v ⟨o,ho,hd⟩=>by
  have nch:c∉ch:=λz=>(hch c z).2.2.1 x c e rfl;by_cases hc:c∈X.fs
  ·obtain⟨sl,q⟩:=slot c o (I.cne x c e) hc nch ho (I.freeC x c e);exact⟨_,q,hd⟩
  exact⟨o,keep c o (I.cne x c e) hc nch ho (I.freeC x c e),hd⟩
 refine⟨I.ok,I.os,hg,⟨λb o e n hb hx=>?_,λb o e n hb hx=>?_,λb o e n hx=>?_,λb o e hx=>?_,λb xs e=>tups b xs (I.base.tups b xs e),λb o xs e=>frzs b o xs (I.base.frzs b o xs e),λb ps e=>?_⟩,?_,λx c e=>?_,?_,λx c e=>?_,λp hp=>?_,hok,I.len⟩
 ·exact keep b o (neL b o e) hb (neC b o e hx) (I.base.keep b o e n hb hx) (I.base.free b o e n hx)
 ·obtain⟨sl,e1⟩:=I.base.slot b o e n hb hx;obtain⟨sl',e2⟩:=slot b _ (neL b o e) hb (neC b o e hx) e1 (I.base.free b o e n hx);exact⟨sl',e2⟩
 ·obtain⟨o',e1⟩:=I.base.there b o e hx;exact free b o' (neC b o e hx) e1 (I.base.free b o e n hx)
 ·obtain⟨o',e1⟩:=I.base.there b o e hx;exact there b o' (neC b o e hx) e1
 ·obtain⟨m1,e1⟩:=I.base.tbls b ps e;obtain⟨m2,e2⟩:=tbls b _ e1;exact⟨m1++m2,by rw[e2,Array.append_assoc]⟩
 ·obtain⟨m,hn,hl⟩:=I.loc;refine⟨m,ns m hn,λi x v e1 e2 e3=>?_⟩;obtain⟨u,r,l⟩:=hl i x v e1 e2 e3;refine⟨u,r,?_⟩;rcases l with l|⟨k,c,e,z⟩
  ·exact .inl l
  exact .inr ⟨k,c,e,cellK x c e _ z⟩
 ·obtain⟨v,z⟩:=I.cell x c e;exact⟨v,cellK x c e v z⟩
 ·obtain⟨m,⟨o,_,_,ho,_⟩,_⟩:=I.loc;exact free _ o (λz=>(hch _ z).2.1 rfl) ho I.free
 ·obtain⟨v,o,ho,hd⟩:=I.cell x c e;exact free c o (λz=>(hch c z).2.2.1 x c e rfl) ho (I.freeC x c e)
 obtain⟨e,n,ne,nf,d⟩:=I.pin p hp;have nch:p.1∉ch:=λz=>(hch p.1 z).2.2.2 p hp rfl;exact⟨keep p.1 p.2 ne nf nch e n,free p.1 p.2 nch e n,ne,nf,d⟩
theorem Inv.un {t':Nat} (I:Inv X pins U H s) (u:Un X.fs [] H H' s.heap h') (hok:HOk X.prog X.w H' h'):Inv X pins U H' { s with heap:=h',toks:=t' }:=by
 obtain⟨m,⟨o,es,ep,ho,r⟩,_⟩:=id I.loc;obtain⟨sl,hL⟩:=u.any ho I.free (by simp)
 exact I.step (g':=s.gens) (d':=s.drawn) (ch:=[]) (λ_ z=>nomatch z) (λb o _ hb _ e n=>u.keep b o e n hb (by simp)) (λb o _ hb _ e n=>u.slot b o e n hb (by simp)) (λb o _ e n=>u.free b o e n (by simp)) (λb o _ e=>u.there b o e (by simp)) u.tups u.frzs u.tbls (λm' hm=>by
  obtain⟨o',es',ep',ho',r'⟩:=hm;rw[ho]at ho';cases ho'
  exact⟨_,es',ep',hL,r'⟩) hok I.bare
theorem Inv.call {g':Array GenState} {t':Nat} {d':Drawn} {ch:C3} (I:Inv X pins U H s) (u:Un (frs X.stack) ch H H' s.heap h') (hok:HOk X.prog X.w H' h') (hg:AllBare g')
  (hch:∀b∈ch,(b∈X.ex\/X.s₀.heap.objs.size<=b)/\b≠X.env.locals/\(∀x c,X.env.cells.lookup x=some c->c≠b)/\∀p∈X.pn++pins,p.1≠b) :
  Inv X pins U H' { s with heap:=h',gens:=g',drawn:=d',toks:=t' }:=by
 obtain⟨m,⟨o,es,ep,ho,r⟩,_⟩:=id I.loc;obtain⟨sl,hL⟩:=u.any ho I.free λz=>(hch _ z).2.1 rfl
 exact I.step (ch:=ch) hch (λb o hL hb hc e n=>u.keep b o e n (λz=>(QQ.mp (I.stkSub b z)).elim hL hb) hc) (λb o _ _ hc e n=>u.any e n hc) (λb o hc e n=>u.free b o e n hc) (λb o hc e=>u.there b o e hc) u.tups u.frzs u.tbls (λm' hm=>by
  obtain⟨o',es',ep',ho',r'⟩:=hm;rw[ho]at ho';cases ho'
  exact⟨_,es',ep',hL,r'⟩) hok hg
theorem Inv.turned {t':Nat} {it:Addr} (I:Inv X pins U H s) (k:∀b o,b≠it->s.heap.get? b=some o->h'.get? b=some o) (hn:H it=none) (hL:it≠X.env.locals)
  (h1:it∈X.ex\/X.s₀.heap.objs.size<=it) (h2:∀x c,X.env.cells.lookup x=some c->c≠it) (h3:∀p∈X.pn++pins,p.1≠it):Inv X pins U H { s with heap:=h',toks:=t' }:=by
 have nit:∀b u,H b=some u->b≠it:=λb u e z=>by rw[z,hn]at e;cases e
 refine I.step (g':=s.gens) (d':=s.drawn) (ch:=[it]) (λb hb=>?_) (λb o _ _ hc e _=>k b o (λz=>hc (by simp[z])) e) (λb o _ _ hc e _=>⟨o.slots,k b o (λz=>hc (by simp[z])) e⟩) (λ_ _ _ _ n=>n)
  (λb o hc e=>⟨o,k b o (λz=>hc (by simp[z])) e⟩) (λ_ _ e=>e) (λ_ _ _ e=>e) (λb ps e=>⟨#[],by rw[e];simp⟩) (λm hm=>?_) (λb u e=>?_) I.bare
 ·have e:b=it:=by simpa using hb
  subst e;exact⟨h1,hL,h2,h3⟩
 ·obtain⟨o,es,ep,ho,r⟩:=hm;exact⟨o,es,ep,k _ o (Xs hL) ho,r⟩
 refine(I.hok b u e).stay (λc v hc q=>k c v ?_ q) (λ_ q=>q) λ_ _ q=>q;rcases hc with z|z
 ·rw[z];exact nit b u e
 exact nit c _ z
theorem Inv.tok (I:Inv X pins U H s) (t:Nat):Inv X pins U H { s with toks:=t }:=I.un (h':=s.heap) (t':=t) Un.refl I.hok
theorem Inv.kept {t':Nat} (I:Inv X pins U H s) (k:∀b u,s.heap.get? b=some u->h'.get? b=some u):Inv X pins U H { s with heap:=h',toks:=t' }:=I.un (Un.kept k) (I.hok.kept k)
theorem Inv.laid {a:Addr} {o:HO} {t':Nat} (I:Inv X pins U H s) (k:∀b u,s.heap.get? b=some u->h'.get? b=some u) (hp:s.heap.objs.size<=a) (new:bj X.prog X.w (upd H a o) h' a o) :
  Inv X pins U (upd H a o) { s with heap:=h',toks:=t' }:=I.un (Un.laid k hp (I.hok.fresh hp)) (I.hok.laid k hp new)
theorem Inv.write {x e:Addr} {o:HO} {t':Nat} (I:Inv X pins U H s) (mu:Mut (H x)) (he:e=x\/H e=some (.own x)) (k:∀b u,b≠e->s.heap.get? b=some u->h'.get? b=some u) (heo:∃u,h'.get? e=some u)
  (new:bj X.prog X.w (upd H x o) h' x o):Inv X pins U (upd H x o) { s with heap:=h',toks:=t' }:=I.un (Un.write mu he k heo) (I.hok.write mu he k heo new)
theorem Inv.weak {σ':List (Option V)} (I:Inv X pins U H s) (hl:σ'.length=U.length) (w:∀(i:Nat) v,σ'[i]?=some (some v)->U[i]?=some (some v)):Inv X pins σ' H s :=
 ⟨I.ok,I.os,I.bare,I.base,let ⟨m,hn,hl'⟩:=I.loc;⟨m,hn,λi x v e1 e2 e3=>hl' i x v e1 (w i v e2) e3⟩,I.cell,I.free,I.freeC,I.pin,I.hok,hl.trans I.len⟩
theorem Inv.pins_of {pins':C1} (I:Inv X pins U H s) (h:∀p∈pins',s.heap.get? p.1=some p.2/\H p.1=none/\p.1≠X.env.locals/\p.1∉X.fs/\∀v,p.2.data≠.cell v):Inv X pins' U H s :=
 ⟨I.ok,I.os,I.bare,I.base,I.loc,I.cell,I.free,I.freeC,λp hp=>(Qy.mp hp).elim (λz=>I.pin p (List.mem_append_left _ z)) (h p),I.hok,I.len⟩
theorem mV {N:List Str} (hN:N.Nodup) {i j:Nat} {x:Str} (a:N[i]?=some x) (b:N[j]?=some x):i=j:=by
 obtain⟨h1,e1⟩:=Qc.mp a;obtain⟨h2,e2⟩:=Qc.mp b;exact(List.getElem_inj hN).mp (e1.trans e2.symm)
variable {Q:Unit->Shared->Prop} {E:C0}
theorem j7 {M:Model} {A:Around} {i:Nat} {x:Str} {v:V} {u:Value} (I:Inv X pins U H s) (hN:X.N.Nodup) (hi:X.N[i]?=some x) (hx:Loc X.env.scope x) (r:aO v u)
  (h:∀s',Inv X pins (U.set i (some v)) H s'->(∃a,Heap.SameBut a s.heap s'.heap/\(a=X.env.locals\/X.env.cells.lookup x=some a))->Q () s') (hf:X.fn x=true\/X.env.scope.names.lookup x=some .local:=by z_go):wpAny M A (storeName X.env x u) Q E s:=by
 obtain⟨m,hn,hl⟩:=id I.loc;have hcls:(X.env.scope.kind==.class || (X.env.scope.kind==.module&&X.env.locals != X.env.globals))=false:=by rw[I.ok.kind];rfl
 have hiσ:i<U.length:=by rw[I.len];exact(Qc.mp hi).1
 have cne:=I.cne
 have tracked:∀{a:Addr} {h':Heap},(∃o,s.heap.get? a=some o/\H a=none)->Heap.SameBut a s.heap h'->HOk X.prog X.w H h':=λ{a h'} ha hs b ob e=>by
  obtain⟨_,_,hfree⟩:=ha;refine(I.hok b ob e).stay (λc w' hc q=>(hs.2 c ?_).trans q) (λ_ q=>q) λ_ _ q=>q;rintro rfl;rcases hc with rfl|hc
  ·rw[hfree]at e;cases e
  rw[hfree]at hc;cases hc
 rcases hx with hk|hk
 ·refine wpAny_storeName_local hk hn (λh' hn' hs=>?_) hcls;obtain⟨oL,_,_,hoL,_⟩:=id hn;refine h _ ⟨I.ok,I.os,I.bare,⟨λb o e n hb hx=>?_,λb o e n hb hx=>?_,I.base.free,λb o e hx=>?_,I.base.tups,I.base.frzs,I.base.tbls⟩,⟨_,hn',λj y v' e1 e2 e3=>?_⟩,λy c e=>?_,I.free,I.freeC,λp hp=>?_,tracked ⟨oL,hoL,I.free⟩ hs,by simpa using I.len⟩ ⟨_,hs,.inl rfl⟩
  ·exact(hs.2 b (QE (QF (Qk e) I.ok.above))).trans (I.base.keep b o e n hb hx)
  ·obtain⟨sl,e1⟩:=I.base.slot b o e n hb hx;exact⟨sl,(hs.2 b (QE (QF (Qk e) I.ok.above))).trans e1⟩
  ·obtain⟨o',e1⟩:=I.base.there b o e hx;exact⟨o',(hs.2 b (QE (QF (Qk e) I.ok.above))).trans e1⟩
  ·by_cases hj:j=i
   ·subst hj;rw[hi]at e1;cases e1;rw[List.getElem?_set_self hiσ]at e2;cases e2;exact⟨u,r,.inl ⟨hk,by simp⟩⟩
   rw[List.getElem?_set_ne (Xs hj)]at e2;obtain⟨u',r',q⟩:=hl j y v' e1 e2 e3;refine⟨u',r',?_⟩;rcases q with⟨k,e⟩|⟨k,c,e,z⟩
   ·refine .inl ⟨k,?_⟩;have:y≠x:=λe=>hj (mV hN e1 (e▸hi));simp[this,e]
   exact .inr ⟨k,c,e,z.sameBut hs (cne y c e)⟩
  ·obtain⟨w',z⟩:=I.cell y c e;exact⟨w',z.sameBut hs (cne y c e)⟩
  obtain⟨e,n,ne,nf,d⟩:=I.pin p hp;exact⟨(hs.2 p.1 ne).trans e,n,ne,nf,d⟩
 have hfn:X.fn x=true:=by
  rcases hf with z|z
  ·exact z
  rw[z]at hk;cases hk
 obtain⟨c,hc⟩:=I.ok.has x (.inl hk);obtain⟨w',z⟩:=I.cell x c hc;refine wpAny_storeName_cell I.ok.kind hk hc z (λh' hc' hs=>?_);obtain⟨oc,hoc,hocd⟩:=id z;refine h { s with heap:=h' } ⟨I.ok,I.os,I.bare,⟨λb o e n hb hx=>?_,λb o e n hb hx=>?_,I.base.free,λb o e hx=>?_,I.base.tups,I.base.frzs,I.base.tbls⟩,⟨m,hn.sameBut hs (Xs (cne x c hc)),λj y v' e1 e2 e3=>?_⟩,λy c' e=>?_,I.free,I.freeC,λp hp=>?_,tracked ⟨oc,hoc,I.freeC x c hc⟩ hs,by simpa using I.len⟩ ⟨c,hs,.inr hc⟩
 ·exact(hs.2 b (QE (QF (Qk e) (I.ok.cab x c hfn hc)))).trans (I.base.keep b o e n hb hx)
 ·obtain⟨sl,e1⟩:=I.base.slot b o e n hb hx;exact⟨sl,(hs.2 b (QE (QF (Qk e) (I.ok.cab x c hfn hc)))).trans e1⟩
 ·obtain⟨o',e1⟩:=I.base.there b o e hx;exact⟨o',(hs.2 b (QE (QF (Qk e) (I.ok.cab x c hfn hc)))).trans e1⟩
 ·by_cases hj:j=i
  ·subst hj;rw[hi]at e1;cases e1;rw[List.getElem?_set_self hiσ]at e2;cases e2;exact⟨u,r,.inr ⟨.inl hk,c,hc,hc'⟩⟩
  rw[List.getElem?_set_ne (Xs hj)]at e2;obtain⟨u',r',q⟩:=hl j y v' e1 e2 e3;refine⟨u',r',?_⟩;rcases q with q|⟨k,c',e,z'⟩
  ·exact .inl q
  refine .inr ⟨k,c',e,z'.sameBut hs ?_⟩;rintro rfl;exact hj (mV hN e1 (I.ok.inj _ _ _ e hc▸hi))
 ·by_cases hcc:c'=c
  ·subst hcc;exact⟨_,hc'⟩
  obtain⟨w2,z2⟩:=I.cell y c' e;exact⟨w2,z2.sameBut hs hcc⟩
 obtain⟨e,n,ne,nf,d⟩:=I.pin p hp;refine⟨(hs.2 p.1 ?_).trans e,n,ne,nf,d⟩;intro q;rw[q,hoc]at e;have q':oc=p.2:=QT e;exact d w' (by rw[<-q'];exact hocd)
theorem iG {M:Model} {A:Around} {i:Nat} {x:Str} {v:V} {u:Value} (I:Inv X pins U H s) (hN:X.N.Nodup) (hi:X.N[i]?=some x) (hx:Loc X.env.scope x) (r:aO v u)
  (h:∀s',Inv X pins (U.set i (some v)) H s'->Q () s') (hf:X.fn x=true\/X.env.scope.names.lookup x=some .local:=by z_go):wpAny M A (storeName X.env x u) Q E s :=
 j7 I hN hi hx r (λs' I' _=>h s' I') hf
theorem Inv.call' {s':Shared} {ch:C3} (I:Inv X pins U H s) (ho:s'.os=s.os) (u:Un (frs X.stack) ch H H' s.heap s'.heap) (hok:HOk X.prog X.w H' s'.heap) (hg:AllBare s'.gens)
  (hch:∀b∈ch,(b∈X.ex\/X.s₀.heap.objs.size<=b)/\b≠X.env.locals/\(∀x c,X.env.cells.lookup x=some c->c≠b)/\∀p∈X.pn++pins,p.1≠b):Inv X pins U H' s':=by
 obtain⟨h',g',d',t',o'⟩:=s';have e:o'=s.os:=ho;subst e;exact I.call (g':=g') (t':=t') (d':=d') u hok hg hch
end
abbrev XK:=Value->Option Addr->Hp->Prop
abbrev St:=List (Option V)
abbrev VK:=V->Hp->Prop
abbrev TE:=St->Hp->VK->Prop
abbrev TT:=St->Hp->(Bool->Hp->Prop)->Prop
abbrev TA:=St->Hp->(List V->Hp->Prop)->Prop
structure Ends where
 nx:St->Hp->Prop
 rt:VK
 bk:St->Hp->Prop:=λ_ _=>False
 ct:St->Hp->Prop:=λ_ _=>False
abbrev TS:=Ends->St->Hp->Prop
def EP (X:Cx) (pins:C1) (U:St) (Q:VK) (u:Value) (s':Shared):Prop:=∃v H',Inv X pins U H' s'/\aO v u/\Q v H'
def TP (X:Cx) (pins:C1) (U:St) (Q:Bool->Hp->Prop) (b:Bool) (s':Shared):Prop:=∃H',Inv X pins U H' s'/\Q b H'
def AP (X:Cx) (pins:C1) (U:St) (Q:List V->Hp->Prop) (us:List Value) (s':Shared):Prop:=∃vs H',Inv X pins U H' s'/\ba vs us/\Q vs H'
def SP (X:Cx) (pins:C1) (D:Ends) (f:Flow) (s':Shared):Prop :=
 match f with
 | .next=>∃σ' H',Inv X pins σ' H' s'/\D.nx σ' H'
 | .brk=>∃σ' H',Inv X pins σ' H' s'/\D.bk σ' H'
 | .cont=>∃σ' H',Inv X pins σ' H' s'/\D.ct σ' H'
 | .ret u=>∃v σ' H',Inv X pins σ' H' s'/\aO v u/\D.rt v H'
def PE (X:Cx) (e:Expr) (t:TE):Prop :=
 ∀(pins:C1) (s:Shared) (U:St) (H:Hp) (Q:VK),Inv X pins U H s->t U H Q->wpAny (model X.prog X.w) X.A (eval e X.env) (EP X pins U Q) X.xe s
def PT (X:Cx) (e:Expr) (t:TT):Prop :=
 ∀(pins:C1) (s:Shared) (U:St) (H:Hp) (Q:Bool->Hp->Prop),Inv X pins U H s->t U H Q->wpAny (model X.prog X.w) X.A (isTrue e X.env (eval e X.env)) (TP X pins U Q) X.xe s
def PW (X:Cx) (e:Expr) (t:TT):Prop :=
 ∀(whole:Sem Value) (pins:C1) (s:Shared) (U:St) (H:Hp) (Q:Bool->Hp->Prop),Inv X pins U H s->t U H Q->wpAny (model X.prog X.w) X.A (isTrue e X.env whole) (TP X pins U Q) X.xe s
variable {e tg:Expr} {X:Cx}
theorem PW.pt {t:TT} (h:PW X e t):PT X e t:=h _
def PA (X:Cx) (es:List Expr) (t:TA):Prop :=
 ∀(pos:Pos) (pins:C1) (s:Shared) (U:St) (H:Hp) (Q:List V->Hp->Prop),Inv X pins U H s->t U H Q->wpAny (model X.prog X.w) X.A (spliced (backTo pos (starEach es X.env))) (AP X pins U Q) X.xe s
def PS (X:Cx) (st:Stmt) (t:TS):Prop :=
 ∀(pins:C1) (s:Shared) (U:St) (H:Hp) (D:Ends),Inv X pins U H s->t D U H->wpAny (model X.prog X.w) X.A (exec st X.env) (SP X pins D) X.xe s
def PSs (X:Cx) (st:List Stmt) (t:TS):Prop :=
 ∀(pins:C1) (s:Shared) (U:St) (H:Hp) (D:Ends),Inv X pins U H s->t D U H->wpAny (model X.prog X.w) X.A (execs st X.env) (SP X pins D) X.xe s
variable {E:C0} {A:Around}
theorem thn {α:Type} {t:Sem α} {Q Q':α->Shared->Prop} {M:Model} {s:Shared} (h:wpAny M A t Q E s) (hQ:∀a s,Q a s->Q' a s):wpAny M A t Q' E s:=Xj h hQ λ_ _ x=>x
section
variable {X:Cx}
def eR (i:Nat):TE:=λU H Q=>∃v,U[i]?=some (some v)/\Q v H
def tC (v:V):TE:=λ_ H Q=>Q v H
variable {x:Str}
theorem wN {i:Nat} {pos:Pos} (hN:X.N[i]?=some x) (hv:Vis X.env.scope x) (hd:(x==("__debug__" : Str))=false:=by decide) (hcd:(x==("__classdict__" : Str))=false:=by decide):PE X (.Name x pos) (eR i):=by
 intro pins s U H Q I h;obtain⟨v,e,h⟩:=h;obtain⟨m,hn,hl⟩:=I.loc;obtain⟨u,r,l⟩:=hl i x v hN e hv;have fin:EP X pins U Q u s:=⟨v,H,I,r,h⟩;rcases l with⟨hk,hm⟩|⟨hk,c,hc,hcell⟩
 ·exact wpAny_Name (wpAny_loadName_local I.ok.kind hk hn hm fin) hd
 rcases hk with hk|hk
 ·exact wpAny_Name (wpAny_loadName_cell I.ok.kind hk hc hcell fin) hd
 exact wpAny_Name (wpAny_loadName_free I.ok.kind hk hc hcell fin hcd) hd
theorem am {i j pos}:PE X (.Constant (.int i) j pos) (tC (.int i)):=λ_ _ _ H _ I h=>wpAny_Constant_int ⟨.int i,H,I.tok _,⟨_,rfl⟩,h⟩
theorem eM {b j pos}:PE X (.Constant (.bool b) j pos) (tC (.bl b)):=λ_ _ _ H _ I h=>Constant_bool ⟨.bl b,H,I,rfl,h⟩
theorem bX {j pos}:PE X (.Constant .none j pos) (tC .non):=λ_ _ _ H _ I h=>Constant_none ⟨.non,H,I,rfl,h⟩
theorem a7 {x j pos}:PE X (.Constant (.str x) j pos) (tC (.str x)):=λ_ _ _ H _ I h=>Calls.Constant_str ⟨.str x,H,I.tok _,⟨_,rfl⟩,h⟩
def Gl (X:Cx) (x:Str):Prop:=X.env.kindOf x=some .globalImplicit
variable {Q E:C0} {u:Value} {pins:C1}
theorem lG {s:Shared} {U:St} {H:Hp} {pos:Pos} (I:Inv X pins U H s) (hg:Gl X x) (hm:X.mg x=some u) (h:Q u s)
  (hd:(x==("__debug__" : Str))=false:=by decide):wpAny (model X.prog X.w) X.A (eval (.Name x pos) X.env) Q E s :=
 Calls.Name_function_global I.ok.kind hg (Calls.loadGlobal_global (by rw[I.ok.glob];exact I.mod.glob.keeps I.bk) hm h) hd
theorem dI {s:Shared} {U:St} {H:Hp} {pos:Pos} (I:Inv X pins U H s) (hg:Gl X x) (hm:X.mg x=none) (hv:bootBuiltins x=some u) (h:Q u s)
  (hn:x ≠ "__name__" := by decide) (hd:(x==("__debug__" : Str))=false:=by decide):wpAny (model X.prog X.w) X.A (eval (.Name x pos) X.env) Q E s:=by
 obtain⟨mb,h1,h2⟩:=I.mod.blt;exact Calls.Name_function_global I.ok.kind hg (Calls.loadGlobal_builtin (by rw[I.ok.glob];exact I.mod.glob.keeps I.bk) hm (by rw[I.ok.blt];exact h1.keeps I.bk) ((h2 x hn).trans hv) h) hd
theorem pp {v:V} {pos:Pos} (hg:Gl X x) (hm:X.mg x=some u) (r:aO v u) (hd:(x==("__debug__" : Str))=false:=by decide):PE X (.Name x pos) (tC v) :=
 λ_ _ _ H _ I h=>lG I hg hm ⟨v,H,I,r,h⟩ hd
theorem uH {v:V} {pos:Pos} (hg:Gl X x) (hm:X.mg x=none) (hv:bootBuiltins x=some u) (r:aO v u) (hn:x ≠ "__name__" := by decide) (hd:(x==("__debug__" : Str))=false:=by decide):PE X (.Name x pos) (tC v) :=
 λ_ _ _ H _ I h=>dI I hg hm hv ⟨v,H,I,r,h⟩ hn hd
variable {a b:Expr} {ta tb:TE} {pos:Pos}
def PC (X:Cx) (op:CmpOp) (a b:Expr) (t:TE):Prop :=
 ∀(pins:C1) (s:Shared) (U:St) (H:Hp) (Q:VK),Inv X pins U H s->t U H Q ->
  wpAny (model X.prog X.w) X.A (eval a X.env) (λv s₁=>wpAny (model X.prog X.w) X.A (eval b X.env) (λu s₂=>wpAny (model X.prog X.w) X.A (compareOp op v u) (EP X pins U Q) X.xe s₂) X.xe s₁) X.xe s
def tB (t:TE):TT:=λU H Q=>t U H λx H1=>∃c,x=.bl c/\Q c H1
theorem fM {op:CmpOp} {t:TE} (h:PC X op a b t) (h1:behindInMarks op b=false:=by first|exact nobehind _ (by decide) (by decide)|rfl):PT X (.Compare a [op] [b] pos) (tB t):=by
 intro pins s U H Q I hw;refine wpAny_isTrue_Compare1 (thn (h pins s U H _ I hw) λv s1 h1=>thn h1 λu s2 h2=>thn h2 λc s3 ⟨x,H1,I1,r1,q1⟩=>?_) h1;obtain⟨d,rfl,q⟩:=q1;cases r1;exact wpAny_truthy_bool ⟨H1,I1,q⟩
theorem eU {e:Expr} {t:TE} (h:PE X e t) (he:∀whole,isTrue e X.env whole=(do let v <-whole;standAt e.pos;holding [v] (truthy v)):=by intro _;rfl):PT X e (tB t):=by
 intro pins s U H Q I hw;refine isTrue_plain (thn (h pins s U H _ I hw) λv s1 ⟨x,H1,I1,r1,q1⟩=>?_) (he _);obtain⟨d,rfl,q⟩:=q1;cases r1;exact wpAny_truthy_bool ⟨H1,I1,q⟩
variable {tA tB':TT} {rest:List Expr}
def xG (t u:TT):TT:=λU H Q=>t U H λc H1=>if c=true then u U H1 Q else Q false H1
def tOr (t u:TT):TT:=λU H Q=>t U H λc H1=>if c=true then Q true H1 else u U H1 Q
def xx (t:TT):TT:=λU H Q=>t U H λc H1=>Q (!c) H1
theorem ff (ha:PT X a tA):PW X (.BoolOp .And [a] pos) tA:=by
 intro wh pins s U H Q I h;refine isTrue_and (thn (ha pins s U H Q I h) λc s1 e=>?_)
 cases c with
 | true=>exact isTrue_and_nil e
 | false=>exact e
theorem d9 (ha:PT X a tA):PW X (.BoolOp .Or [a] pos) tA:=by
 intro wh pins s U H Q I h;refine isTrue_or (thn (ha pins s U H Q I h) λc s1 e=>?_)
 cases c with
 | false=>exact isTrue_or_nil e
 | true=>exact e
theorem gD (ha:PT X a tA) (hb:PW X (.BoolOp .And (b::rest) pos) tB'):PW X (.BoolOp .And (a::b::rest) pos) (xG tA tB'):=by
 intro wh pins s U H Q I h;refine isTrue_and (thn (ha pins s U H _ I h) λc s1 ⟨H1,I1,q1⟩=>?_)
 cases c with
 | true=>exact hb wh pins s1 U H1 Q I1 q1
 | false=>exact⟨H1,I1,q1⟩
theorem eT (ha:PT X a tA) (hb:PW X (.BoolOp .Or (b::rest) pos) tB'):PW X (.BoolOp .Or (a::b::rest) pos) (tOr tA tB'):=by
 intro wh pins s U H Q I h;refine isTrue_or (thn (ha pins s U H _ I h) λc s1 ⟨H1,I1,q1⟩=>?_)
 cases c with
 | true=>exact⟨H1,I1,q1⟩
 | false=>exact hb wh pins s1 U H1 Q I1 q1
theorem iX (ha:PT X a tA):PT X (.UnaryOp .Not a pos) (xx tA):=by
 intro pins s U H Q I h;exact isTrue_not (ha pins s U H (λc H1=>Q (!c) H1) I h)
def rF (ta tb:TE):TE:=λU H Q=>ta U H λx H1=>∃c,x=.bl c/\if c=true then tb U H1 Q else Q (.bl false) H1
def wy (ta tb:TE):TE:=λU H Q=>ta U H λx H1=>∃c,x=.bl c/\if c=true then Q (.bl true) H1 else tb U H1 Q
def vt (ta:TE):TE:=λU H Q=>ta U H λx H1=>∃c,x=.bl c/\Q (.bl (!c)) H1
theorem eV {op} {t:TE} (h:PE X a t):PE X (.BoolOp op [a] pos) t:=λpins s U H Q I hw=>BoolOp_one (h pins s U H Q I hw)
theorem fN (ha:PE X a ta) (hb:PE X (.BoolOp .And (b::rest) pos) tb):PE X (.BoolOp .And (a::b::rest) pos) (rF ta tb):=by
 intro pins s U H Q I h;refine BoolOp_and (thn (ha pins s U H _ I h) λv s1 ⟨x,H1,I1,r1,q1⟩=>?_);obtain⟨c,rfl,q1⟩:=q1;cases r1;refine wpAny_truthy_bool ?_
 cases c with
 | true=>exact hb pins s1 U H1 Q I1 q1
 | false=>exact⟨.bl false,H1,I1,rfl,q1⟩
theorem pk (ha:PE X a ta) (hb:PE X (.BoolOp .Or (b::rest) pos) tb):PE X (.BoolOp .Or (a::b::rest) pos) (wy ta tb):=by
 intro pins s U H Q I h;refine BoolOp_or (thn (ha pins s U H _ I h) λv s1 ⟨x,H1,I1,r1,q1⟩=>?_);obtain⟨c,rfl,q1⟩:=q1;cases r1;refine wpAny_truthy_bool ?_
 cases c with
 | false=>exact hb pins s1 U H1 Q I1 q1
 | true=>exact⟨.bl true,H1,I1,rfl,q1⟩
theorem nU (ha:PE X a ta):PE X (.UnaryOp .Not a pos) (vt ta):=by
 intro pins s U H Q I h;refine UnaryOp_ (thn (ha pins s U H _ I h) λv s1 ⟨x,H1,I1,r1,q1⟩=>?_);obtain⟨c,rfl,q1⟩:=q1;cases r1;exact not_of (wpAny_truthy_bool ⟨.bl (!c),H1,I1,rfl,q1⟩)
def tIf (t:TT) (ta tb:TE):TE:=λU H Q=>t U H λc H1=>if c=true then ta U H1 Q else tb U H1 Q
theorem i7 {c:Expr} (hc:PT X c tA) (ha:PE X a ta) (hb:PE X b tb):PE X (.IfExp c a b pos) (tIf tA ta tb):=by
 intro pins s U H Q I h;refine wpAny_IfExp (thn (hc pins s U H _ I h) λd s1 ⟨H1,I1,q1⟩=>?_)
 cases d with
 | true=>exact ha pins s1 U H1 Q I1 q1
 | false=>exact hb pins s1 U H1 Q I1 q1
end
def SqL (K:PySem.W.Frag) (H:Hp) (a:Addr) (xs:List V):Prop :=
 Rd H a (.lst xs) \/
  ∃(o:Obj) (its:Array Value) (n:Nat),K.lookup a=some o/\o.cls=.type "list" /\ o.dict=none/\o.data=.seq its n/\its.size<=sizeLine/\ba xs its.toList
def SqT (K:PySem.W.Frag) (H:Hp) (a:Addr) (xs:List V):Prop :=
 Rd H a (.tup xs) \/
  ∃(o:Obj) (its:Array Value) (n:Nat),K.lookup a=some o/\o.cls=.type "tuple" /\ o.data=.seq its n/\its.size<=sizeLine/\ba xs its.toList
noncomputable def Cg:Value->Option V
 | .none=>some .non
 | .bool b=>some (.bl b)
 | .int i _=>some (.int i)
 | .str x _=>some (.str x)
 | .bytes b _=>some (.byt b)
 | .float b _=>some (.flt b)
 | .ref a=>some (.ref a)
 | .type n=>some (.ty n)
 | _=>none
theorem aO.abs {x:V} (r:aO x u):Cg u=some x:=by
 cases x with
 | non=>cases r;rfl
 | bl _=>cases r;rfl
 | int _=>obtain⟨t,rfl⟩:=r;rfl
 | str _=>obtain⟨t,rfl⟩:=r;rfl
 | byt _=>obtain⟨t,rfl⟩:=r;rfl
 | flt _=>obtain⟨t,rfl⟩:=r;rfl
 | ref _=>cases r;rfl
 | ty _=>cases r;rfl
theorem aO.inj {x y:V} (r:aO x u) (q:aO y u):x=y:=QT (r.abs.symm.trans q.abs)
theorem ba.inj:∀{xs ys:List V} {us:List Value},ba xs us->ba ys us->xs=ys
 | _,_,_,.nil,.nil=>rfl
 | _,_,_,.cons r t,.cons r' t'=>by rw[r.inj r',ba.inj t t']
section
variable {X:Cx} {pins:C1} {U:St} {H:Hp} {s:Shared} {a:Addr} {xs ys:List V}
theorem SqL.of {K:PySem.W.Frag} (h:H a=some (.lst xs)):SqL K H a xs:=.inl (.inl h)
theorem SqT.of {K:PySem.W.Frag} (h:H a=some (.tup xs)):SqT K H a xs:=.inl (.inl h)
theorem Inv.list (I:Inv X pins U H s) (h:SqL X.K H a xs):∃its:List Value,ba xs its/\PlainL s.heap a its.toArray/\xs.length<=sizeLine:=by
 rcases h with h|⟨o,its,n,hk,hc,hd,hs,hz,r⟩
 ·obtain⟨z,its,n,r,e⟩:=h.ok I.hok;exact⟨its,r,⟨_,n,e,rfl,rfl,rfl⟩,z⟩
 refine⟨its.toList,r,⟨o,n,I.kIn a o hk,hc,hd,by simpa using hs⟩,?_⟩;have e:=r.length;simp only[Qv]at e;omega
theorem Inv.tuple (I:Inv X pins U H s) (h:SqT X.K H a xs):∃its:List Value,ba xs its/\IsTup s.heap a its.toArray/\xs.length<=sizeLine:=by
 rcases h with h|⟨o,its,n,hk,hc,hs,hz,r⟩
 ·obtain⟨z,its,r,p⟩:=h.ok I.hok;exact⟨its,r,p,z⟩
 refine⟨its.toList,r,⟨o,I.kIn a o hk,hc,n,by simpa using hs⟩,?_⟩;have e:=r.length;simp only[Qv]at e;omega
theorem Inv.list_inj (I:Inv X pins U H s) (h:SqL X.K H a xs) (h':SqL X.K H a ys):xs=ys:=by
 obtain⟨its,r,⟨o,n,e,_,_,d⟩,_⟩:=I.list h;obtain⟨its',r',⟨o',n',e',_,_,d'⟩,_⟩:=I.list h';rw[e]at e';cases e';rw[d]at d';injection d' with d1 _;have:its=its':=by simpa using congrArg Array.toList d1
 subst this;exact r.inj r'
end
abbrev Cx.wish (X:Cx) (E:C0):Cx:={ X with xe:=E }
abbrev Cx.nox (X:Cx):Cx:=X.wish λ_ _=>False
theorem Cx.Ok.wish (ok:X.Ok) (E:C0):(X.wish E).Ok :=
 ⟨ok.mod,ok.kind,ok.glob,ok.blt,ok.above,ok.inj,ok.has,ok.cab,ok.hd,ok.frames,ok.stk,ok.exf,ok.bs,ok.bsz,ok.noex,ok.exfs,ok.funs,ok.frf⟩
theorem Cx.Ok.unwish (ok:(X.wish E).Ok):X.Ok :=
 ⟨ok.mod,ok.kind,ok.glob,ok.blt,ok.above,ok.inj,ok.has,ok.cab,ok.hd,ok.frames,ok.stk,ok.exf,ok.bs,ok.bsz,ok.noex,ok.exfs,ok.funs,ok.frf⟩
section
variable {X:Cx} {pins:C1} {U:St} {H:Hp} {s:Shared} {E:C0}
theorem Inv.wish (I:Inv X pins U H s) (E:C0):Inv (X.wish E) pins U H s:=⟨I.ok.wish E,I.os,I.bare,I.base,I.loc,I.cell,I.free,I.freeC,I.pin,I.hok,I.len⟩
theorem Inv.unwish (I:Inv (X.wish E) pins U H s):Inv X pins U H s:=⟨I.ok.unwish,I.os,I.bare,I.base,I.loc,I.cell,I.free,I.freeC,I.pin,I.hok,I.len⟩
theorem SP.unwish {D:Ends} {f:Flow} {s':Shared} (h:SP (X.wish E) pins D f s'):SP X pins D f s':=by
 cases f with
 | next=>obtain⟨σ',H',I,q⟩:=h;exact⟨σ',H',I.unwish,q⟩
 | brk=>obtain⟨σ',H',I,q⟩:=h;exact⟨σ',H',I.unwish,q⟩
 | cont=>obtain⟨σ',H',I,q⟩:=h;exact⟨σ',H',I.unwish,q⟩
 | ret u=>obtain⟨v,σ',H',I,r,q⟩:=h;exact⟨v,σ',H',I.unwish,r,q⟩
theorem PSs.nox {st:List Stmt} {t:TS} (h:PSs X.nox st t):PSs X st t:=λpins s U H D I hw =>
 Xj (h pins s U H D (I.wish _) hw) (λ_ _ q=>q.unwish) λ_ _ z=>False.elim z
end
section
variable {X:Cx} {st:Stmt} {rest:List Stmt} {t u:TS} {e:Expr} {te:TE} {pos:Pos}
def vv:TS:=λD U H=>D.nx U H
def ur (t u:TS):TS:=λD U H=>t { D with nx:=u D } U H
theorem pss_nil:PSs X [] vv:=λ_ _ U H _ I h=>wpAny_execs_nil ⟨U,H,I,h⟩
theorem pss_cons (h1:PS X st t) (h2:PSs X rest u):PSs X (st::rest) (ur t u):=by
 intro pins s U H D I h;refine wpAny_execs_cons (thn (h1 pins s U H { D with nx:=u D } I h) λf s1 q=>?_)
 cases f with
 | next =>
  obtain⟨σ',H',I',q⟩:=q;exact h2 pins s1 σ' H' D I' q
 | ret v=>exact q
 | brk=>exact q
 | cont=>exact q
theorem aS (h1:PS X st t):PSs X [st] t:=by
 intro pins s U H D I h;refine wpAny_execs_cons (thn (h1 pins s U H D I h) λf s1 q=>?_)
 cases f with
 | next=>exact wpAny_execs_nil q
 | ret v=>exact q
 | brk=>exact q
 | cont=>exact q
theorem Inv.quiet {pins:C1} {U:St} {H:Hp} {s:Shared} (I:Inv X pins U H s):interactive X.env=false:=by simp[interactive,I.ok.kind]
def vB (te:TE):TS:=λD U H=>te U H λ_ H1=>D.nx U H1
theorem bU (he:PE X e te) (hs:swapsWith e none pos.line X.env=pure false:=by rfl):PS X (.Expr e pos) (vB te):=by
 intro pins s U H D I h;exact wpAny_Expr_any (thn (he pins s U H _ I h) λv s1 ⟨x,H1,I1,r1,q1⟩=>⟨U,H1,I1,q1⟩) I.quiet hs
def xw (te:TE):TS:=λD U H=>te U H D.rt
theorem aD (he:PE X e te):PS X (.Return (some e) pos) (xw te):=by
 intro pins s U H D I h;exact wpAny_Return_some (thn (he pins s U H _ I h) λv s1 ⟨x,H1,I1,r1,q1⟩=>⟨x,U,H1,I1,r1,q1⟩)
def xA (c:TT) (t u:TS):TS:=λD U H=>c U H λb H1=>if b=true then t D U H1 else u D U H1
theorem ps_if {c:Expr} {a b:List Stmt} {tc:TT} (hc:PT X c tc) (ha:PSs X a t) (hb:PSs X b u):PS X (.If c a b pos) (xA tc t u):=by
 intro pins s U H D I h;refine wpAny_If (thn (hc pins s U H _ I h) λd s1 ⟨H1,I1,q1⟩=>?_)
 cases d with
 | true=>exact ha pins s1 U H1 D I1 q1
 | false=>exact hb pins s1 U H1 D I1 q1
def wz:TS:=λ_ _ _=>False
theorem qa {sts:List Stmt}:PSs X sts wz:=λ_ _ _ _ _ _ h=>h.elim
end
abbrev TG:=V->St->Hp->(St->Hp->Prop)->Prop
abbrev TGs:=List V->St->Hp->(St->Hp->Prop)->Prop
def PG (X:Cx) (target:Expr) (t:TG):Prop :=
 ∀(pins:C1) (s:Shared) (U:St) (H:Hp) (v:V) (u:Value) (Q:St->Hp->Prop),Inv X pins U H s->aO v u->t v U H Q ->
  wpAny (model X.prog X.w) X.A (assign target X.env u) (λ_ s'=>∃σ' H',Inv X pins σ' H' s'/\Q σ' H') X.xe s
def PGs (X:Cx) (ts:List Expr) (t:TGs):Prop :=
 ∀(pins:C1) (s:Shared) (U:St) (H:Hp) (vs:List V) (us:List Value) (Q:St->Hp->Prop),Inv X pins U H s->ba vs us->t vs U H Q ->
  wpAny (model X.prog X.w) X.A (assignInOrder ((assignEach ts X.env).map (·.2)) us) (λ_ s'=>∃σ' H',Inv X pins σ' H' s'/\Q σ' H') X.xe s
abbrev Bb:=V->V->V->Hp->(Hp->Prop)->Prop
abbrev TIp:=V->V->Hp->VK->Prop
def PIp (X:Cx) (op:Operator) (t:TIp):Prop :=
 ∀(pins:C1) (s:Shared) (U:St) (H:Hp) (x y:V) (v u:Value) (Q:VK),Inv X pins U H s->aO x v->aO y u->t x y H Q ->
  wpAny (model X.prog X.w) X.A (inplaceOp op v u) (EP X pins U Q) X.xe s
section
variable {X:Cx} {pos:Pos}
def dW (i:Nat):TG:=λv U H Q=>Q (U.set i (some v)) H
variable {x:Str}
theorem cE {i:Nat} (hN:X.N.Nodup) (hi:X.N[i]?=some x) (hx:Loc X.env.scope x) (hf:X.fn x=true\/X.env.scope.names.lookup x=some .local:=by z_go):PG X (.Name x pos) (dW i):=by
 intro pins s U H v u Q I r h;exact wpAny_assign_Name (iG I hN hi hx r (λs' I'=>⟨_,H,I',h⟩) hf)
theorem bG (i:Nat) (hN:X.N.Nodup) (hi:X.N[i]?=some x:=by rfl) (hx:Loc X.env.scope x:=by z_go) (hf:X.fn x=true\/X.env.scope.names.lookup x=some .local:=by z_go):PG X (.Name x pos) (dW i):=cE hN hi hx hf
def A5:TGs:=λvs U H Q=>vs=[]/\Q U H
def tM (t:TG) (u:TGs):TGs:=λvs U H Q=>∃v r,vs=v::r/\t v U H λσ' H'=>u r σ' H' Q
theorem cT:PGs X [] A5:=by
 intro pins s U H vs us Q I r h;obtain⟨e,h⟩:=h;subst e;cases r;exact assignInOrder_nil ⟨U,H,I,h⟩
variable {e tg:Expr}
theorem aZ {es:List Expr} {t:TG} {u:TGs} (h1:PG X e t) (h2:PGs X es u)
  (hs:(assignEach (e::es) X.env).map (·.2)=assign e X.env::(assignEach es X.env).map (·.2):=by rfl):PGs X (e::es) (tM t u):=by
 intro pins s U H vs us Q I r h;obtain⟨v,vr,e1,h⟩:=h;subst e1
 cases r with
 | cons r rr =>
 rw[hs];refine assignInOrder_cons (thn (h1 pins s U H _ _ _ I r h) λ_ s1 ⟨σ1,H1,I1,q1⟩=>?_);exact h2 pins s1 σ1 H1 _ _ Q I1 rr q1
def xj (K:PySem.W.Frag) (n:Nat) (t:TGs):TG:=λv U H Q=>∃a xs,v=.ref a/\SqT K H a xs/\xs.length=n/\t xs U H Q
theorem gG {es:List Expr} {k:Nat} {t:TGs} {n:Nat} (hc:X.calm=true) (h:PGs X es t)
  (hn:(assignEach es X.env).length=n:=by rfl) (hst:(assignEach es X.env).findIdx? (·.1)=none:=by rfl):PG X (.Tuple es k pos) (xj X.K n t):=by
 intro pins s U H v u Q I r hw;obtain⟨a,xs,e1,hq,hl,hw⟩:=hw;subst e1;cases r;obtain⟨its,rv,ht,hz⟩:=I.tuple hq;refine assign_Tuple_tuple (I.ok.hd hc) ht (by simp[hn,<-hl,rv.length]) hst λh' hx=>?_;have I1:Inv X pins U H { s with heap:=h' }:=I.kept (t':=s.toks) λb o e=>hx b o (QE (Qk e)) e;exact h pins _ U H xs _ Q I1 (by simpa using rv) hw
def Ce (to ti:TE) (t:Bb):TG:=λv U H Q=>to U H λo H1=>ti U H1 λi H2=>t o i v H2 λH3=>Q U H3
def rE (te:TE) (g:TG):TS:=λD U H=>te U H λx H1=>g x U H1 D.nx
variable {te:TE}
theorem nS {g:TG} (he:PE X e te) (hg:PG X tg g) (hs:swapsWithSole [tg] e pos.line X.env=pure false:=by rfl) (hw:swappedStores [tg] e X.env=pure none:=by rfl)
  (h1:(assignEach [tg] X.env).map (·.2)=[assign tg X.env]:=by rfl):PS X (.Assign [tg] e pos) (rE te g):=by
 intro pins s U H D I h;refine wpAny_Assign_stores (thn (he pins s U H _ I h) λv s1 ⟨x,H1,I1,r1,q1⟩=>?_) hs hw;rw[h1];exact thn (hg pins s1 U H1 x v _ I1 r1 q1) λ_ s2 q=>q
variable {pos':Pos}
theorem wK {i:Nat} (hN:X.N.Nodup) (hi:X.N[i]?=some x) (hx:Loc X.env.scope x) (he:PE X e te) (hs:swapsWith e (some (.Name x pos')) pos.line X.env=pure false:=by rfl) (hf:X.fn x=true\/X.env.scope.names.lookup x=some .local:=by z_go) :
  PS X (.Assign [.Name x pos'] e pos) (rE te (dW i)):=by
 intro pins s U H D I h;refine wpAny_Assign_Name (thn (he pins s U H _ I h) λv s1 ⟨y,H1,I1,r1,q1⟩=>?_) hs;exact iG I1 hN hi hx r1 (λs2 I2=>⟨_,H1,I2,q1⟩) hf
theorem aH (i:Nat) (hN:X.N.Nodup) (he:PE X e te) (hi:X.N[i]?=some x:=by rfl) (hx:Loc X.env.scope x:=by z_go) (hs:swapsWith e (some (.Name x pos')) pos.line X.env=pure false:=by rfl) (hf:X.fn x=true\/X.env.scope.names.lookup x=some .local:=by z_go):PS X (.Assign [.Name x pos'] e pos) (rE te (dW i)):=wK hN hi hx he hs hf
def Bl (i:Nat) (te:TE) (ti:TIp):TS:=λD U H=>∃x,U[i]?=some (some x)/\te U H λy H1=>ti x y H1 λz H2=>D.nx (U.set i (some z)) H2
theorem rX {i:Nat} {op:Operator} {ti:TIp} (hN:X.N.Nodup) (hi:X.N[i]?=some x) (hx:Loc X.env.scope x) (he:PE X e te) (ho:PIp X op ti) (hf:X.fn x=true\/X.env.scope.names.lookup x=some .local:=by z_go) :
  PS X (.AugAssign (.Name x pos') op e pos) (Bl i te ti):=by
 intro pins s U H D I h;obtain⟨v,e1,h⟩:=h;obtain⟨m,hn,hl⟩:=I.loc;have vis:Vis X.env.scope x:=by rcases hx with k|k;exact .inl k;exact .inr (.inl k)
 obtain⟨u,r,l⟩:=hl i x v hi e1 vis;refine wpAny_AugAssign_Name ?_
 have go:wpAny (model X.prog X.w) X.A (eval e X.env) (λw s₂=>wpAny (model X.prog X.w) X.A (inplaceOp op u w) (λr s₃=>wpAny (model X.prog X.w) X.A (storeName X.env x r) (λ_=>SP X pins D .next) X.xe s₃) X.xe s₂) X.xe s:=by
  refine thn (he pins s U H _ I h) λw s1 ⟨y,H1,I1,r1,q1⟩=>?_;refine thn (ho pins s1 U H1 v y u w _ I1 r r1 q1) λz s2 ⟨zv,H2,I2,r2,q2⟩=>?_;exact iG I2 hN hi hx r2 (λs3 I3=>⟨_,H2,I3,q2⟩) hf
 rcases l with⟨hk,hm⟩|⟨hk,c,hc,hcell⟩
 ·exact wpAny_loadName_local I.ok.kind hk hn hm go
 rcases hk with hk|hk
 ·exact wpAny_loadName_cell I.ok.kind hk hc hcell go
 rcases hx with k|k
 ·have:X.env.scope.names.lookup x=some .free:=hk;rw[k]at this;cases this
 have:X.env.scope.names.lookup x=some .free:=hk;rw[k]at this;cases this
def ipI (f:Int->Int->Int):TIp:=λx y H Q=>∃i j,x=.int i/\y=.int j/\Q (.int (f i j)) H
theorem tw:PIp X .Add (ipI λi j=>i+j):=by
 intro pins s U H x y v u Q I r1 r2 h;obtain⟨i,j,e1,e2,q⟩:=h;subst e1;subst e2;obtain⟨t,rfl⟩:=r1;obtain⟨t',rfl⟩:=r2;exact iadd_int ⟨.int _,H,I.tok _,⟨_,rfl⟩,q⟩
end
section
variable {X:Cx} {pos:Pos}
def wx (c:TT) (tb:TS):TS:=λD U H=>∃W:Nat->St->Hp->Prop,(∃m,W m U H)/\∀m U H,W m U H ->
 c U H λb H1=>if b=true then ∃N:St->Hp->Prop,(∀σ' H',N σ' H'->∃m',m'<m/\W m' σ' H')/\tb { D with nx:=N,ct:=N,bk:=D.nx } U H1 else D.nx U H1
theorem f_ {c:Expr} {body:List Stmt} {tc:TT} {tb:TS} (hp:PassesOwn (model X.prog X.w) X.A X.env X.xe) (hc:PT X c tc) (hb:PSs X body tb):PS X (.While c body [] pos) (wx tc tb):=by
 intro pins s U H D I h;obtain⟨W,⟨m0,w0⟩,turn⟩:=h;refine wpAny_While (codeAny_whileLoop (λn s'=>∃σ' H',Inv X pins σ' H' s'/\W n σ' H') ?_ m0 ⟨U,H,I,w0⟩);rintro n s1 ⟨σ1,H1,I1,w1⟩;refine wpAny_passesOwn hp (thn (hc pins s1 σ1 H1 _ I1 (turn n σ1 H1 w1)) λb s2 ⟨H2,I2,q2⟩=>?_)
 cases b with
 | true =>
  obtain⟨N,hN,q2⟩:=q2;rw[QB rfl];refine wpAny_passesOwn hp (thn (hb pins s2 σ1 H2 _ I2 q2) λf s3 q3=>?_)
  cases f with
  | next =>
   obtain⟨σ3,H3,I3,n3⟩:=q3;obtain⟨m',hm,w3⟩:=hN σ3 H3 n3;exact⟨m',hm,σ3,H3,I3,w3⟩
  | cont =>
   obtain⟨σ3,H3,I3,n3⟩:=q3;obtain⟨m',hm,w3⟩:=hN σ3 H3 n3;exact⟨m',hm,σ3,H3,I3,w3⟩
  | brk=>exact q3
  | ret v=>exact q3
 | false =>
 rw[QC Qj];exact wpAny_execs_nil ⟨σ1,H2,I2,q2⟩
end
structure It where
 go:Nat->Hp->Prop
 yld:Nat->Hp->V->Hp->Prop
 stop:Nat->Hp->Prop
def fV (X:Cx) (pins:C1) (H:Hp) (b:Addr):Prop :=
 H b=none/\b≠X.env.locals/\b∉X.fs/\(b∈X.ex\/X.s₀.heap.objs.size<=b)/\(∀x c,X.env.cells.lookup x=some c->c≠b)/\∀p∈X.pn++pins,p.1≠b
theorem Inv.fpOk {pins:C1} {U:St} {s:Shared} (I:Inv X pins U H s) (hb:s.heap.objs.size<=b) (hn:H' b=none):fV X pins H' b:=by
 refine⟨hn,Nat.ne_of_gt (QF I.lt hb),I.nofs hb,.inr (QM I.sz hb),λx c e z=>?_,λp hp z=>?_⟩
 ·obtain⟨v,q⟩:=I.cell x c e;exact absurd (QF q.lt (by rw[z];exact hb)) (Xw _)
 exact absurd (QF (Qk (I.pin p hp).1) (by rw[z];exact hb)) (Xw _)
structure Turn (P:Program) (w:World) (K:PySem.W.Frag) (tg:Expr) (J:It) (fp:C3) (it:Addr) (tn:Nat->Heap->Prop):Prop where
 mem:it∈fp
 obj:∀i h,tn i h->∀b∈fp,∃o,h.get? b=some o/\∀v,o.data≠.cell v
 keep:∀i h h',tn i h->(∀b∈fp,∀o,h.get? b=some o->h'.get? b=some o)->tn i h'
 item:∀(X:Cx),X.prog=P->X.w=w->X.K=K->X.calm=true->∀(i:Nat) (pins:C1) (s:Shared) (U:St) (H:Hp) (E:C0),Inv X pins U H s->(∀b∈fp,fV X pins H b)->tn i s.heap->J.go i H ->
  wpAny (model P w) X.A (pyNext (.ref it)) (λr s1=>∃u,r=some u /\
   wpAny (model P w) X.A (letOwnedTupleGo tg (.ref it) u) (λ_ s2=>∃x H',Inv X pins U H' s2/\aO x u/\J.yld i H x H'/\tn (i+1) s2.heap/\∀b∈fp,H' b=none) E s1) E s
 done:∀(X:Cx),X.prog=P->X.w=w->X.K=K->X.calm=true->∀(i:Nat) (pins:C1) (s:Shared) (U:St) (H:Hp) (E:C0),Inv X pins U H s->(∀b∈fp,fV X pins H b)->tn i s.heap->J.stop i H ->
  wpAny (model P w) X.A (pyNext (.ref it)) (λr s1=>r=none/\Inv X pins U H s1) E s
 self:∀(A:Around) (i:Nat) (s:Shared) (Q:C0) (E:C0),tn i s.heap->Q (.ref it) s->wpAny (model P w) A (pyIter (.ref it)) Q E s
abbrev TI:=St->Hp->(It->Hp->Prop)->Prop
def PIE (X:Cx) (pins:C1) (U:St) (tg:Expr) (R:It->Hp->Prop) (itv:Value) (s2:Shared):Prop :=
 ∃(it:Addr) (fp:C3) (tn:Nat->Heap->Prop) (J:It) (H':Hp),itv=.ref it/\Inv X pins U H' s2/\Turn X.prog X.w X.K tg J fp it tn/\tn 0 s2.heap/\(∀b∈fp,fV X pins H' b)/\R J H'
def PI (X:Cx) (tg iter:Expr) (wi:TI):Prop :=
 ∀(pins:C1) (s:Shared) (U:St) (H:Hp) (R:It->Hp->Prop),Inv X pins U H s->wi U H R ->
  wpAny (model X.prog X.w) X.A (eval iter X.env) (λv s1=>wpAny (model X.prog X.w) X.A (pyIter v) (PIE X pins U tg R) X.xe s1) X.xe s
theorem tJ {M:Model} {s:Shared} {o:Obj} {n:String} {vs:Array Value} {Q:Unit->Shared->Prop} (ho:s.heap.get? it=some o) (hc:o.cls=.type n) (hd:o.data=.fields vs)
  (hn:["enumerate", "zip", "dict_itemiterator", "dict_reverseitemiterator", "odict_iterator", "itertools.zip_longest", "itertools.pairwise"].contains n=false) (hQ:Q () s):wpAny M A (letOwnedTupleGo tg (.ref it) u) Q E s:=by
 unfold letOwnedTupleGo
 cases tg <;> first
  | exact Qn hQ
  | (cases u <;> first
    | exact Qn hQ
    |(refine Qe (wpAny_load ho ?_)
      rw[hc,hd];show wpAny M A (if (["enumerate", "zip", "dict_itemiterator", "dict_reverseitemiterator", "odict_iterator", "itertools.zip_longest", "itertools.pairwise"].contains n&&vs[0]?==some (rawInt _))=true then _ else _) Q E s;rw[QC (by intro h;rw[hn,Bool.false_and]at h;cases h)]
      exact Qn hQ))
def Itl (K:PySem.W.Frag) (a:Addr):It :=
 ⟨λi H=>∃xs x,SqL K H a xs/\xs[i]?=some x,λi H x H'=>H'=H/\∀xs,SqL K H a xs->xs[i]?=some x,λi H=>∃xs,SqL K H a xs/\xs.length<=i⟩
def Itr (lo:Int) (n:Nat):It:=⟨λi _=>i<n,λi H x H'=>H'=H/\x=.int (lo+i),λi _=>n<=i⟩
variable {K:PySem.W.Frag}
theorem turn_list (a it:Addr):Turn P w K tg (Itl K a) [it] it (λi h=>h.IsListIter it a i) where
 mem:=by simp
 obj:=λi h st b hb=>by
  have e:b=it:=by simpa using hb
  subst e;obtain⟨o,e,c,d⟩:=st;exact⟨o,e,λv z=>by rw[d]at z;cases z⟩
 keep:=λi h h' st k=>st.at λo e=>k it (by simp) o e
 item:=by
  intro X hP hw hK hc i pins s U H E I hf st hg;subst hP hw hK;obtain⟨xs,x,hq,hx⟩:=hg;obtain⟨its,rv,p,hz⟩:=I.list hq;obtain⟨u,hu,ru⟩:=rv.get hx;obtain⟨f0,f1,f2,f3,f4,f5⟩:=hf it (by simp);refine wpAny_pyNext_list_item st p.isList (x:=u) (by simpa using hu) λh' st' sb=>?_;have I1:Inv X pins U H { s with heap:=h' }:=I.turned (t':=s.toks) (λb o hb e=>(sb.2 b hb).trans e) f0 f1 f3 f4 f5;obtain⟨o,e,c,d⟩:=id st';exact⟨u,rfl,tJ (s:={ s with heap:=h' }) e c d (by decide) ⟨x,H,I1,ru,⟨rfl,λys hy=>by rw[I.list_inj hy hq];exact hx⟩,st',λb hb=>(hf b hb).1⟩⟩
 done:=by
  intro X hP hw hK hc i pins s U H E I hf st hg;subst hP hw hK;obtain⟨xs,hq,hx⟩:=hg;obtain⟨its,rv,p,hz⟩:=I.list hq;obtain⟨f0,f1,f2,f3,f4,f5⟩:=hf it (by simp);have hl:=rv.length;exact wpAny_pyNext_list_end (I.ok.hd hc) st p.isList (by simp;omega) λh' eb=>⟨rfl,I.turned (t':=s.toks) (λb o hb e=>eb b o hb e) f0 f1 f3 f4 f5⟩
 self:=λ_ _ _ _ _ st h=>wpAny_pyIter_listiter st h
theorem nH (it:Addr) (lo:Int) (n:Nat):Turn P w K tg (Itr lo n) [it] it (λi h=>IsRangeIter h it (lo+(i:Nat)*1) ((n:Int)-(i:Nat)) 1) where
 mem:=by simp
 obj:=λi h st b hb=>by
  have e:b=it:=by simpa using hb
  subst e
  exact⟨_,st,λv z=>by
   have z':Data.fields _=Data.cell v:=z
   cases z'⟩
 keep:=λi h h' st k=>k it (by simp) _ st
 item:=by
  intro X hP hw hK hc i pins s U H E I hf st hg;subst hP hw hK;obtain⟨f0,f1,f2,f3,f4,f5⟩:=hf it (by simp);have W:=Walks.range (prog:=X.prog) (w:=X.w) (I.ok.hd hc) it lo 1 n;refine W.item i s _ _ hg st λv h' tk hv st' kk=>?_;obtain⟨t,rfl⟩:=hv;have I1:Inv X pins U H { s with heap:=h',toks:=tk }:=I.turned (λb o hb e=>kk b o (by simpa using hb) e) f0 f1 f3 f4 f5;refine⟨_,rfl,tJ (s:={ s with heap:=h',toks:=tk }) (n := "range_iterator") st' rfl rfl (by decide) ⟨.int (lo+i),H,I1,⟨t,?_⟩,⟨rfl,rfl⟩,st',λb hb=>(hf b hb).1⟩⟩;rw[Int.mul_one]
 done:=by
  intro X hP hw hK hc i pins s U H E I hf st hg;subst hP hw hK;obtain⟨f0,f1,f2,f3,f4,f5⟩:=hf it (by simp);exact wpAny_pyNext_range_end (I.ok.hd hc) st (by have:n<=i:=hg;omega) λh' eb=>⟨rfl,I.turned (t':=s.toks) (λb o hb e=>eb b o hb e) f0 f1 f3 f4 f5⟩
 self:=λ_ _ _ _ _ st h=>wpAny_pyIter_rangeiter st h
section
variable {X:Cx} {tg:Expr}
def nh (K:PySem.W.Frag) (tl:TE):TI:=λU H R=>tl U H λx H1=>∃a,x=.ref a/\(∃xs,SqL K H1 a xs)/\R (Itl K a) H1
theorem bt {l:Expr} {tl:TE} (hl:PE X l tl):PI X tg l (nh X.K tl):=by
 intro pins s U H R I h;refine thn (hl pins s U H _ I h) λv s1 ⟨x,H1,I1,r1,q1⟩=>?_;obtain⟨a,e,⟨xs,hq⟩,q⟩:=q1;subst e;cases r1;obtain⟨its,rv,p,hz⟩:=I1.list hq;refine wpAny_pyIter_list p.isList ?_;refine⟨s1.heap.objs.size,[s1.heap.objs.size],_,_,H1,rfl,I1.kept (t':=s1.toks) λb o e=>Qd _ e,turn_list a _,⟨_,Qw _ rfl,rfl,rfl⟩,λb hb=>?_,q⟩;have e:b=s1.heap.objs.size:=by simpa using hb
 subst e;exact I1.fpOk (Qg _) (I1.hok.fresh (Qg _))
variable {s:Shared} {pins pl:C1}
theorem rS {U:St} {H:Hp} {R:It->Hp->Prop} {E:C0} {lo hi:Int} {t u v:Tok} {tk:Nat} (I:Inv X pins U H s) (h1:-(2 ^ 62)<=lo) (h2:lo<2 ^ 62) (h3:-(2 ^ 62)<=hi) (h4:hi<2 ^ 62)
  (q:R (Itr lo (hi-lo).toNat) H):wpAny (model X.prog X.w) X.A (pyIter (.ref s.heap.objs.size)) (PIE X pins U tg R) E { s with heap:=s.heap.push { cls:=.type "range", data:=.fields #[.int lo t,.int hi u,.int 1 v] },toks:=tk }:=by
 refine wpAny_pyIter_range (IsRange.new ..) (small_one h1 h2 h3 h4) ?_;have I1:Inv X pins U H { s with heap:=s.heap.push { cls:=.type "range", data:=.fields #[.int lo t,.int hi u,.int 1 v] },toks:=tk }:=I.kept λb o e=>Qd _ e
 refine⟨(s.heap.push { cls:=.type "range", data:=.fields #[.int lo t,.int hi u,.int 1 v] }).objs.size,[(s.heap.push { cls:=.type "range", data:=.fields #[.int lo t,.int hi u,.int 1 v] }).objs.size],_,_,H,rfl,
  I1.kept (t':=tk) λb o e=>Qd _ e,nH _ lo (hi-lo).toNat,?_,λb hb=>?_,q⟩
 ·have e1:lo+((0:Nat):Int)*1=lo:=by simp
  have e2:(((hi-lo).toNat:Nat):Int)-((0:Nat):Int)=Builtin.Range.rangeSize lo hi 1:=by rw[rangeSize_one];split <;> omega
  show IsRangeIter _ _ (lo+((0:Nat):Int)*1) ((((hi-lo).toNat:Nat):Int)-((0:Nat):Int)) 1;rw[e1,e2];exact Qw _ rfl
 have e:b=(s.heap.push { cls:=.type "range", data:=.fields #[.int lo t,.int hi u,.int 1 v] }).objs.size:=by simpa using hb
 subst e;exact I1.fpOk (Qg _) (I1.hok.fresh (Qg _))
def wq (ta:TA):TI:=λU H R=>ta U H λvs H1=>∃j:Int,vs=[.int j]/\-(2 ^ 62)<=j/\j<2 ^ 62/\R (Itr 0 j.toNat) H1
theorem gF {a:Expr} {ta:TA} {p pos:Pos} (hg:Gl X "range") (hm:X.mg "range" = none) (ha:PA X [a] ta) (hs:starEach [a] X.env=[(false,eval a X.env)]:=by rfl):PI X tg (.Call (.Name "range" p) [a] [] pos) (wq ta):=by
 intro pins s U H R I h;refine Call_ (dI I hg hm boot_range (Xc (thn (ha pos pins s U H _ I h) λus s1 ⟨vs,H1,I1,r1,q1⟩=>?_) hs rfl));obtain⟨j,e,q1,q2,q⟩:=q1;subst e
 cases r1 with
 | cons r rr =>
 cases rr;obtain⟨t,rfl⟩:=r;exact call_range_1 (rS I1 (by omega) (by omega) q1 q2 (by simpa using q))
def xC (wi:TI) (g:TG) (tb:TS):TS:=λD U H=>wi U H λJ H1=>∃W:Nat->Nat->St->Hp->Prop,(∃m,W 0 m U H1)/\∀i m U H,W i m U H ->
 (J.stop i H/\D.nx U H)\/(J.go i H/\∃N:St->Hp->Prop,(∀σ' H',N σ' H'->∃m',m'<m/\W (i+1) m' σ' H')/\∀x H',J.yld i H x H'->g x U H' λσ2 H2=>tb { D with nx:=N,ct:=N,bk:=D.nx } σ2 H2)
def gE (fp:C3) (h:Heap):C1:=fp.filterMap λb=>(h.get? b).map λo=>(b,o)
variable {fp:C3}
theorem cO {h:Heap} {b:Addr} {o:Obj} (hb:b∈fp) (e:h.get? b=some o):(b,o)∈gE fp h:=List.mem_filterMap.mpr ⟨b,hb,by rw[e];rfl⟩
theorem qu {h:Heap} {p:Addr × Obj} (hp:p∈gE fp h):p.1∈fp/\h.get? p.1=some p.2:=by
 obtain⟨b,hb,e⟩:=List.mem_filterMap.mp hp
 cases q:h.get? b with
 | none=>rw[q]at e;cases e
 | some o =>
 rw[q]at e;have e':(b,o)=p:=QT e;subst e';exact⟨hb,q⟩
theorem Inv.pinned {U:St} {H:Hp} (I:Inv X pins U H s) (hf:∀b∈fp,fV X pins H b) (ho:∀b∈fp,∃o,s.heap.get? b=some o/\∀v,o.data≠.cell v):Inv X (pins++gE fp s.heap) U H s :=
 I.pins_of λp hp=>(Qy.mp hp).elim (λz=>I.pin p (QN _ z)) λz=>by
  obtain⟨hb,e⟩:=qu z;obtain⟨f0,f1,f2,_⟩:=hf p.1 hb;obtain⟨o,e',d⟩:=ho p.1 hb;rw[e]at e';cases e';exact⟨e,f0,f1,f2,d⟩
theorem Inv.unpinned {U:St} {H:Hp} (I:Inv X (pins++pl) U H s):Inv X pins U H s:=I.pins_of λp hp=>I.pin p (QN _ (List.mem_append_left _ hp))
theorem ps_for {iter:Expr} {body:List Stmt} {wi:TI} {g:TG} {tb:TS} {pos:Pos} (hp:PassesOwn (model X.prog X.w) X.A X.env X.xe) (hc:X.calm=true) (hi:PI X tg iter wi) (hg:PG X tg g) (hb:PSs X body tb)
  (hs:∀x,foldedSetIterable iter X.env x=pure x:=by intro _;rfl):PS X (.For tg iter body [] pos) (xC wi g tb):=by
 intro pins s U H D I h;refine wpAny_For (thn (hi pins s U H _ I h) λv s1 h1=>thn h1 λitv s2 h2=>?_) hs;obtain⟨it,fp,tn,J,H2,e,I2,T,st2,f2,W,⟨m0,w0⟩,turn⟩:=h2;subst e
 -- what stays true of the iterator's objects through the loop
 have stat:∀{H':Hp},(∀b∈fp,H' b=none)->∀b∈fp,fV X pins H' b:=λhn b hb=>⟨hn b hb,(f2 b hb).2⟩;refine codeAny_forLoop_any (λn s'=>∃i σ' H',Inv X pins σ' H' s'/\tn i s'.heap/\(∀b∈fp,H' b=none)/\W i n σ' H') ?_ m0 ⟨0,U,H2,I2,st2,λb hb=>(f2 b hb).1,w0⟩;rintro n s3 ⟨i,σ3,H3,I3,st3,fr3,w3⟩;rcases turn i n σ3 H3 w3 with⟨stop,qn⟩|⟨go,N,hN,step⟩
 ·refine wpAny_passesOwn hp (thn (T.done X rfl rfl rfl hc i pins s3 σ3 H3 X.xe I3 (stat fr3) st3 stop) λr s4 ⟨hr,I4⟩=>?_);subst hr;exact wpAny_execs_nil ⟨σ3,H3,I4,qn⟩
 refine wpAny_passesOwn hp (thn (T.item X rfl rfl rfl hc i pins s3 σ3 H3 X.xe I3 (stat fr3) st3 go) λr s4 ⟨u,hr,h4⟩=>?_);subst hr;refine wpAny_passesOwn hp (thn h4 λ_ s5 ⟨x,H5,I5,r5,y5,st5,fr5⟩=>?_);have I5':=I5.pinned (stat fr5) (T.obj _ _ st5);refine wpAny_passesOwn hp (thn (hg _ s5 σ3 H5 x u _ I5' r5 (step x H5 y5)) λ_ s6 ⟨σ6,H6,I6,q6⟩=>?_);refine wpAny_passesOwn hp (thn (hb _ s6 σ6 H6 _ I6 q6) λf s7 q7=>?_)
 have again:∀{σ7:St} {H7:Hp},Inv X (pins++gE fp s5.heap) σ7 H7 s7->N σ7 H7->∃m,m<n/\∃i σ' H',Inv X pins σ' H' s7/\tn i s7.heap/\(∀b∈fp,H' b=none)/\W i m σ' H':=λ{σ7 H7} I7 n7=>by
  obtain⟨m',hm,w7⟩:=hN σ7 H7 n7;refine⟨m',hm,i+1,σ7,H7,I7.unpinned,T.keep _ _ _ st5 λb hb o e=>(I7.pin (b,o) (QN _ (QN _ (cO hb e)))).1,λb hb=>?_,w7⟩;obtain⟨o,e,d⟩:=T.obj _ _ st5 b hb;exact(I7.pin (b,o) (QN _ (QN _ (cO hb e)))).2.1
 cases f with
 | next=>obtain⟨σ7,H7,I7,n7⟩:=q7;exact again I7 n7
 | cont=>obtain⟨σ7,H7,I7,n7⟩:=q7;exact again I7 n7
 | brk=>obtain⟨σ7,H7,I7,q7⟩:=q7;exact⟨σ7,H7,I7.unpinned,q7⟩
 | ret v=>obtain⟨x7,σ7,H7,I7,r7,q7⟩:=q7;exact⟨x7,σ7,H7,I7.unpinned,r7,q7⟩
end
theorem cH {xs:List V} {g:TG} {tb:TS} {D:Ends} {U:St} (Pv:Nat->St->Hp->Prop) (h0:Pv 0 U H) (hl:∀i U H,i<=xs.length->Pv i U H->SqL K H a xs)
  (hs:∀i x U H,xs[i]?=some x->Pv i U H->g x U H λσ2 H2=>tb { D with nx:=Pv (i+1),ct:=Pv (i+1),bk:=D.nx } σ2 H2) (hd:∀U H,Pv xs.length U H->D.nx U H) :
  ∃W:Nat->Nat->St->Hp->Prop,(∃m,W 0 m U H)/\∀i m U H,W i m U H ->
   ((Itl K a).stop i H/\D.nx U H)\/((Itl K a).go i H/\∃N:St->Hp->Prop,(∀σ' H',N σ' H'->∃m',m'<m/\W (i+1) m' σ' H')/\∀x H',(Itl K a).yld i H x H'->g x U H' λσ2 H2=>tb { D with nx:=N,ct:=N,bk:=D.nx } σ2 H2):=by
 refine⟨λi m U H=>m=xs.length-i/\i<=xs.length/\Pv i U H,⟨xs.length,by simp,QO _,h0⟩,?_⟩;rintro i m U H ⟨rfl,hi,p⟩;have q:=hl i U H hi p;by_cases hlt:i<xs.length
 ·refine .inr ⟨⟨xs,xs[i],q,by simp[hlt]⟩,Pv (i+1),λσ' H' p'=>⟨xs.length-(i+1),by omega,rfl,hlt,p'⟩,λx H' y=>?_⟩;obtain⟨e,y⟩:=y;subst e;exact hs i x U _ (y xs q) p
 have e:i=xs.length:=by omega
 subst e;exact .inl ⟨⟨xs,q,Qg _⟩,hd U H p⟩
theorem kn {lo:Int} {n:Nat} {g:TG} {tb:TS} {D:Ends} {U:St} (Pv:Nat->St->Hp->Prop) (h0:Pv 0 U H)
  (hs:∀i U H,i<n->Pv i U H->g (.int (lo+i)) U H λσ2 H2=>tb { D with nx:=Pv (i+1),ct:=Pv (i+1),bk:=D.nx } σ2 H2) (hd:∀U H,Pv n U H->D.nx U H) :
  ∃W:Nat->Nat->St->Hp->Prop,(∃m,W 0 m U H)/\∀i m U H,W i m U H ->
   ((Itr lo n).stop i H/\D.nx U H)\/((Itr lo n).go i H/\∃N:St->Hp->Prop,(∀σ' H',N σ' H'->∃m',m'<m/\W (i+1) m' σ' H')/\∀x H',(Itr lo n).yld i H x H'->g x U H' λσ2 H2=>tb { D with nx:=N,ct:=N,bk:=D.nx } σ2 H2):=by
 refine⟨λi m U H=>m=n-i/\i<=n/\Pv i U H,⟨n,by simp,QO _,h0⟩,?_⟩;rintro i m U H ⟨rfl,hi,p⟩;by_cases hlt:i<n
 ·refine .inr ⟨hlt,Pv (i+1),λσ' H' p'=>⟨n-(i+1),by omega,rfl,hlt,p'⟩,λx H' y=>?_⟩;obtain⟨e,y⟩:=y;subst e y;exact hs i U _ hlt p
 have e:i=n:=by omega
 subst e;exact .inl ⟨Qg _,hd U H p⟩
abbrev R2:=V->V->Hp->VK->Prop
def OpR (X:Cx) (f:Value->Value->Sem Value) (r:R2):Prop :=
 ∀(pins:C1) (s:Shared) (U:St) (H:Hp) (x y:V) (v u:Value) (Q:VK),Inv X pins U H s->aO x v->aO y u->r x y H Q ->
  wpAny (model X.prog X.w) X.A (f v u) (EP X pins U Q) X.xe s
def UnR (X:Cx) (f:Value->Sem Value) (r:V->Hp->VK->Prop):Prop :=
 ∀(pins:C1) (s:Shared) (U:St) (H:Hp) (x:V) (v:Value) (Q:VK),Inv X pins U H s->aO x v->r x H Q ->
  wpAny (model X.prog X.w) X.A (f v) (EP X pins U Q) X.xe s
def eO (X:Cx) (f:Value) (r:List V->Hp->VK->Prop):Prop :=
 ∀(pins:C1) (s:Shared) (U:St) (H:Hp) (xs:List V) (us:List Value) (Q:VK),Inv X pins U H s->ba xs us->r xs H Q ->
  wpAny (model X.prog X.w) X.A (call f us) (EP X pins U Q) X.xe s
def tOp (r:R2) (ta tb:TE):TE:=λU H Q=>ta U H λx H1=>tb U H1 λy H2=>r x y H2 Q
def tUn (r:V->Hp->VK->Prop) (ta:TE):TE:=λU H Q=>ta U H λx H1=>r x H1 Q
def rI (C:Int->Int->Prop) (g:Int->Int->V):R2:=λx y H Q=>∃i j,x=.int i/\y=.int j/\C i j/\Q (g i j) H
def rI0 (g:Int->Int->V):R2:=λx y H Q=>∃i j,x=.int i/\y=.int j/\Q (g i j) H
def rU (g:Int->V):V->Hp->VK->Prop:=λx H Q=>∃i,x=.int i/\Q (g i) H
section
variable {X:Cx} {a b c:Expr} {ta tb tc:TE} {pos:Pos}
variable {f:Value->Value->Sem Value}
theorem xr (ha:PE X a ta) (hb:PE X b tb) {pins:C1} {s:Shared} {U:St} {H:Hp} {R:V->V->Hp->Prop} (I:Inv X pins U H s)
  (h:ta U H λx H1=>tb U H1 λy H2=>R x y H2) {Q:C0}
  (hf:∀v u s2 x y H2,Inv X pins U H2 s2->aO x v->aO y u->R x y H2->wpAny (model X.prog X.w) X.A (f v u) Q X.xe s2) :
  wpAny (model X.prog X.w) X.A (eval a X.env) (λv s₁=>wpAny (model X.prog X.w) X.A (eval b X.env) (λu s₂=>wpAny (model X.prog X.w) X.A (f v u) Q X.xe s₂) X.xe s₁) X.xe s:=by
 refine thn (ha pins s U H _ I h) λv s1 ⟨x,H1,I1,r1,q1⟩=>?_;refine thn (hb pins s1 U H1 _ I1 q1) λu s2 ⟨y,H2,I2,r2,q2⟩=>?_;exact hf v u s2 x y H2 I2 r1 r2 q2
theorem aR {op:Operator} {r:R2} (ho:OpR X (binaryOp op) r) (ha:PE X a ta) (hb:PE X b tb):PE X (.BinOp a op b pos) (tOp r ta tb):=by
 intro pins s U H Q I h;exact wpAny_BinOp (xr ha hb I h λv u s2 x y H2 I2 rx ry q=>ho pins s2 U H2 x y v u Q I2 rx ry q)
theorem ke {op:UnaryOp} {r:V->Hp->VK->Prop} (ho:UnR X (unaryOp op) r) (ha:PE X a ta):PE X (.UnaryOp op a pos) (tUn r ta):=by
 intro pins s U H Q I h;exact UnaryOp_ (thn (ha pins s U H _ I h) λv s1 ⟨x,H1,I1,r1,q1⟩=>ho pins s1 U H1 x v Q I1 r1 q1)
theorem opI {C:Int->Int->Prop} {g:Int->Int->Int}
  (rule:∀(i j:Int) (t u:Tok) (s:Shared) (Q:C0) (E:C0),C i j->Q (.int (g i j) s.toks) { s with toks:=s.toks+1 }->wpAny (model X.prog X.w) X.A (f (.int i t) (.int j u)) Q E s) :
  OpR X f (rI C λi j=>.int (g i j)):=by
 intro pins s U H x y v u Q I rx ry h;obtain⟨i,j,rfl,rfl,hc,q⟩:=h;obtain⟨t,rfl⟩:=rx;obtain⟨t',rfl⟩:=ry;exact rule i j t t' s _ _ hc ⟨.int (g i j),H,I.tok _,⟨_,rfl⟩,q⟩
theorem xQ {g:Int->Int->Int}
  (rule:∀(i j:Int) (t u:Tok) (s:Shared) (Q:C0) (E:C0),Q (.int (g i j) s.toks) { s with toks:=s.toks+1 }->wpAny (model X.prog X.w) X.A (f (.int i t) (.int j u)) Q E s) :
  OpR X f (rI0 λi j=>.int (g i j)):=by
 intro pins s U H x y v u Q I rx ry h;obtain⟨i,j,rfl,rfl,q⟩:=h;obtain⟨t,rfl⟩:=rx;obtain⟨t',rfl⟩:=ry;exact rule i j t t' s _ _ ⟨.int (g i j),H,I.tok _,⟨_,rfl⟩,q⟩
theorem xR {g:Int->Int->Bool}
  (rule:∀(i j:Int) (t u:Tok) (s:Shared) (Q:C0) (E:C0),Q (.bool (g i j)) s->wpAny (model X.prog X.w) X.A (f (.int i t) (.int j u)) Q E s) :
  OpR X f (rI0 λi j=>.bl (g i j)):=by
 intro pins s U H x y v u Q I rx ry h;obtain⟨i,j,rfl,rfl,q⟩:=h;obtain⟨t,rfl⟩:=rx;obtain⟨t',rfl⟩:=ry;exact rule i j t t' s _ _ ⟨.bl (g i j),H,I,rfl,q⟩
def Cu (i j:Int):Prop:=0<j/\j<1073741824
def xu (i j:Int):Prop:=(-(2 ^ 64)<i/\i<2 ^ 64)\/(-(2 ^ 64)<j/\j<2 ^ 64)
theorem xu.ok {i j:Int} (h:xu i j):IntMulOk i j:=by
 rcases h with⟨h1,h2⟩|⟨h1,h2⟩
 ·exact .of_left (intBits_le_64 h1 h2)
 exact .of_right (intBits_le_64 h1 h2)
theorem b_:OpR X (binaryOp .Add) (rI0 λi j=>.int (i+j)):=xQ λ_ _ _ _ _ _ _ q=>add_int q
theorem ly:OpR X (binaryOp .Sub) (rI0 λi j=>.int (i-j)):=xQ λ_ _ _ _ _ _ _ q=>sub_int q
theorem dq:OpR X (binaryOp .Mult) (rI xu λi j=>.int (i*j)):=opI λ_ _ _ _ _ _ _ hc q=>mul_int q hc.ok
theorem fj:OpR X (binaryOp .FloorDiv) (rI Cu λi j=>.int (i / j)):=opI λi j _ _ _ _ _ hc q=>by
 have h1:(0:Int)<j:=hc.1;have h2:j<1073741824:=hc.2;exact floordiv_int (by omega) (by rw[Int.fdiv_eq_ediv_of_nonneg i (by omega)];exact q) (.inl (PyProof.noPylong_small (by omega)))
theorem dG:OpR X (binaryOp .Mod) (rI (λ_ j=>0<j) λi j=>.int (i % j)):=opI λi j _ _ _ _ _ hc q=>by
 have h1:(0:Int)<j:=hc;exact mod_int' (by omega) (by rw[Int.fmod_eq_emod_of_nonneg i (by omega)];exact q)
theorem unI {f:Value->Sem Value} {g:Int->Int}
  (rule:∀(i:Int) (t:Tok) (s:Shared) (Q:C0) (E:C0),Q (.int (g i) s.toks) { s with toks:=s.toks+1 }->wpAny (model X.prog X.w) X.A (f (.int i t)) Q E s) :
  UnR X f (rU λi=>.int (g i)):=by
 intro pins s U H x v Q I rx h;obtain⟨i,rfl,q⟩:=h;obtain⟨t,rfl⟩:=rx;exact rule i t s _ _ ⟨.int (g i),H,I.tok _,⟨_,rfl⟩,q⟩
theorem gt:UnR X (unaryOp .USub) (rU λi=>.int (-i)):=unI λ_ _ _ _ _ q=>neg_int q
end
noncomputable def uv:V->V->Bool
 | .non,.non=>true|.non,.int _=>true|.int _,.non=>true|.non,.bl _=>true|.bl _,.non=>true|.non,.str _=>true|.str _,.non=>true
 | .int _,.int _=>true|.bl _,.bl _=>true|.str _,.str _=>true|.byt _,.byt _=>true
 | .int _,.str _=>true|.str _,.int _=>true|.bl _,.str _=>true|.str _,.bl _=>true
 | _,_=>false
def rEq:R2:=λx y H Q=>uv x y=true/\Q (.bl (decide (x=y))) H
def rNe:R2:=λx y H Q=>uv x y=true/\Q (.bl (!decide (x=y))) H
theorem pP {i j:Int}:decide (V.int i=V.int j)=(i==j):=by
 rw[Bool.eq_iff_iff];simp
theorem tT {i j:Bool}:decide (V.bl i=V.bl j)=(i==j):=by
 rw[Bool.eq_iff_iff];simp
theorem pO {i j:Str}:decide (V.str i=V.str j)=(i==j):=by
 rw[Bool.eq_iff_iff];simp
theorem pQ {i j:Array UInt8}:decide (V.byt i=V.byt j)=(i.toList==j.toList):=by
 rw[Bool.eq_iff_iff];cases i;cases j;simp
section
variable {X:Cx} {a b c:Expr} {ta tb tc:TE} {pos:Pos}
theorem a_ {pins:C1} {U:St} {H:Hp} {s:Shared} {Q:VK} {k k':Bool} (I:Inv X pins U H s) (q:Q (.bl k) H) (e:k=k'):EP X pins U Q (.bool k') s:=by
 subst e;exact⟨.bl k,H,I,rfl,q⟩
theorem cG:OpR X (compareOp .Eq) rEq:=by
 intro pins s U H x y v u Q I rx ry h;obtain⟨hs,q⟩:=h
 cases x with
 | non =>
  cases rx
  cases y with
  | non=>cases ry;exact PySem.EqNone.eq_none_none (a_ I q (by simp))
  | bl j=>cases ry;exact PySem.EqNone.eq_none_bool (a_ I q (by simp))
  | int j=>obtain⟨t',rfl⟩:=ry;exact PySem.EqNone.eq_none_int (a_ I q (by simp))
  | str j=>obtain⟨t',rfl⟩:=ry;exact PySem.EqNone.eq_none_str (a_ I q (by simp))
  | _=>exact absurd (show false=true from hs) Qj
 | bl i =>
  cases rx
  cases y with
  | non=>cases ry;exact PySem.EqNone.eq_bool_none (a_ I q (by simp))
  | bl j=>cases ry;exact eq_bool (a_ I q tT)
  | str j=>obtain⟨t',rfl⟩:=ry;exact PySem.EqMixed.eq_bool_str (a_ I q (by simp))
  | _=>exact absurd (show false=true from hs) Qj
 | int i =>
  obtain⟨t,rfl⟩:=rx
  cases y with
  | non=>cases ry;exact PySem.EqNone.eq_int_none (a_ I q (by simp))
  | int j=>obtain⟨t',rfl⟩:=ry;exact eq_int (a_ I q pP)
  | str j=>obtain⟨t',rfl⟩:=ry;exact PySem.EqMixed.eq_int_str (a_ I q (by simp))
  | _=>exact absurd (show false=true from hs) Qj
 | str i =>
  obtain⟨t,rfl⟩:=rx
  cases y with
  | non=>cases ry;exact PySem.EqNone.eq_str_none (a_ I q (by simp))
  | bl j=>cases ry;exact PySem.EqMixed.eq_str_bool (a_ I q (by simp))
  | int j=>obtain⟨t',rfl⟩:=ry;exact PySem.EqMixed.eq_str_int (a_ I q (by simp))
  | str j=>obtain⟨t',rfl⟩:=ry;exact eq_str (a_ I q pO)
  | _=>exact absurd (show false=true from hs) Qj
 | byt i =>
  obtain⟨t,rfl⟩:=rx
  cases y with
  | byt j=>obtain⟨t',rfl⟩:=ry;exact PySem.W.eq_bytes (a_ I q pQ)
  | _=>exact absurd (show false=true from hs) Qj
 | _=>cases y <;> exact absurd (show false=true from hs) Qj
theorem gb:OpR X (compareOp .NotEq) rNe:=by
 intro pins s U H x y v u Q I rx ry h;obtain⟨hs,q⟩:=h
 cases x with
 | non =>
  cases rx
  cases y with
  | non=>cases ry;exact PySem.EqNone.ne_none_none (a_ I q (by simp))
  | bl j=>cases ry;exact PySem.EqNone.ne_none_bool (a_ I q (by simp))
  | int j=>obtain⟨t',rfl⟩:=ry;exact PySem.EqNone.ne_none_int (a_ I q (by simp))
  | str j=>obtain⟨t',rfl⟩:=ry;exact PySem.EqNone.ne_none_str (a_ I q (by simp))
  | _=>exact absurd (show false=true from hs) Qj
 | bl i =>
  cases rx
  cases y with
  | non=>cases ry;exact PySem.EqNone.ne_bool_none (a_ I q (by simp))
  | bl j=>cases ry;exact ne_bool (a_ I q (congrArg not tT))
  | str j=>obtain⟨t',rfl⟩:=ry;exact PySem.EqMixed.ne_bool_str (a_ I q (by simp))
  | _=>exact absurd (show false=true from hs) Qj
 | int i =>
  obtain⟨t,rfl⟩:=rx
  cases y with
  | non=>cases ry;exact PySem.EqNone.ne_int_none (a_ I q (by simp))
  | int j=>obtain⟨t',rfl⟩:=ry;exact ne_int (a_ I q (congrArg not pP))
  | str j=>obtain⟨t',rfl⟩:=ry;exact PySem.EqMixed.ne_int_str (a_ I q (by simp))
  | _=>exact absurd (show false=true from hs) Qj
 | str i =>
  obtain⟨t,rfl⟩:=rx
  cases y with
  | non=>cases ry;exact PySem.EqNone.ne_str_none (a_ I q (by simp))
  | bl j=>cases ry;exact PySem.EqMixed.ne_str_bool (a_ I q (by simp))
  | int j=>obtain⟨t',rfl⟩:=ry;exact PySem.EqMixed.ne_str_int (a_ I q (by simp))
  | str j=>obtain⟨t',rfl⟩:=ry;exact ne_str (a_ I q (congrArg not pO))
  | _=>exact absurd (show false=true from hs) Qj
 | byt i =>
  obtain⟨t,rfl⟩:=rx
  cases y with
  | byt j=>obtain⟨t',rfl⟩:=ry;exact PySem.W.ne_bytes (a_ I q (congrArg not pQ))
  | _=>exact absurd (show false=true from hs) Qj
 | _=>cases y <;> exact absurd (show false=true from hs) Qj
theorem kg:OpR X (compareOp .Lt) (rI0 λi j=>.bl (decide (i<j))):=xR λ_ _ _ _ _ _ _ q=>lt_int q
theorem vR:OpR X (compareOp .Gt) (rI0 λi j=>.bl (decide (j<i))):=xR λ_ _ _ _ _ _ _ q=>gt_int q
theorem fO:OpR X (compareOp .Is) (λx y H Q=>y=.non/\Q (.bl (decide (x=.non))) H):=by
 intro pins s U H x y v u Q I rx ry h;obtain⟨rfl,q⟩:=h;cases ry;refine is_none_gen (a_ I q ?_)
 cases x <;> first
  | (cases rx;rfl)
  | (obtain⟨t,rfl⟩:=rx;rfl)
theorem lA:OpR X (compareOp .IsNot) (λx y H Q=>y=.non/\Q (.bl (!decide (x=.non))) H):=by
 intro pins s U H x y v u Q I rx ry h;obtain⟨rfl,q⟩:=h;cases ry;refine isnot_none_gen (a_ I q ?_)
 cases x <;> first
  | (cases rx;rfl)
  | (obtain⟨t,rfl⟩:=rx;rfl)
variable {op:CmpOp}
theorem aN (b:Expr) (h:op≠.In:=by decide) (h2:op≠.NotIn:=by decide):behindInMarks op b=false:=by
 have e1:(op==CmpOp.In)=false:=by cases op <;> first|rfl|exact absurd rfl h
 have e2:(op==CmpOp.NotIn)=false:=by cases op <;> first|rfl|exact absurd rfl h2
 cases b <;> simp[behindInMarks,e1,e2]
theorem bH {r:R2} (ho:OpR X (compareOp op) r) (ha:PE X a ta) (hb:PE X b tb) (hm:behindInMarks op b=false):PE X (.Compare a [op] [b] pos) (tOp r ta tb):=by
 intro pins s U H Q I h;exact wpAny_Compare1 (xr ha hb I h λv u s2 x y H2 I2 rx ry q=>ho pins s2 U H2 x y v u Q I2 rx ry q) hm
def ro (t:TE):TT:=λU H Q=>t U H λx H'=>∃k,x=.bl k/\Q k H'
theorem aF {r:R2} (ho:OpR X (compareOp op) r) (ha:PE X a ta) (hb:PE X b tb) (hm:behindInMarks op b=false):PT X (.Compare a [op] [b] pos) (ro (tOp r ta tb)):=by
 intro pins s U H Q I h
 refine wpAny_isTrue_Compare1 (thn (ha pins s U H _ I h) λv s1 ⟨x,H1,I1,r1,q1⟩=>thn (hb pins s1 U H1 _ I1 q1) λu s2 ⟨y,H2,I2,r2,q2⟩ =>
  thn (ho pins s2 U H2 x y v u _ I2 r1 r2 q2) λc s3 ⟨z,H3,I3,r3,k,e,q3⟩=>?_) hm
 subst e;cases r3;exact wpAny_truthy_bool ⟨H3,I3,q3⟩
theorem je:(sizeLine:Nat)<2 ^ 63:=by rw[sizeLine_eq];decide
theorem ee:OpR X (binaryOp .Add) (λx y H Q=>∃i j,x=.str i/\y=.str j/\i.length+j.length<=sizeLine/\Q (.str (i++j)) H):=by
 intro pins s U H x y v u Q I rx ry h;obtain⟨i,j,rfl,rfl,hz,q⟩:=h;obtain⟨t,rfl⟩:=rx;obtain⟨t',rfl⟩:=ry;exact add_str (λt' tk=>⟨.str (i++j),H,I.tok _,⟨_,rfl⟩,q⟩) hz
theorem dJ {x:V} {us:List Value} (r:ba [x] us):∃u,us=[u]/\aO x u:=by
 cases r with
 | cons r1 r2=>cases r2;exact⟨_,rfl,r1⟩
theorem ri {x y:V} {us:List Value} (r:ba [x,y] us):∃u w',us=[u,w']/\aO x u/\aO y w':=by
 cases r with
 | cons r1 r2 =>
 cases r2 with
 | cons r3 r4=>cases r4;exact⟨_,_,rfl,r1,r3⟩
theorem kB:eO X (.type "int") (λxs H Q=>(∃i,xs=[.int i]/\Q (.int i) H)\/∃k,xs=[.bl k]/\Q (.int (if k then 1 else 0)) H):=by
 intro pins s U H xs us Q I r h;rcases h with⟨i,rfl,q⟩|⟨k,rfl,q⟩
 ·obtain⟨u,rfl,t,rfl⟩:=dJ r;exact call_int_int ⟨.int i,H,I,⟨_,rfl⟩,q⟩
 obtain⟨u,rfl,r1⟩:=dJ r;cases r1;exact call_int_bool ⟨.int (if k then 1 else 0),H,I.tok _,⟨_,rfl⟩,q⟩
end
structure ObjM (h:Heap) (x dx C:Addr) (mA:C2):Prop where
 obj:h.get? x=some (PySem.W.instObj C dx)
 ns:h.Ns1 dx mA
 ne:dx≠x
variable {mA mg:C2}
theorem qy (n:h.Ns1 dx mA):∃od,h.get? dx=some od/\∀name,PySem.W.lookIn name od=some (mA name):=by
 obtain⟨o,es,ep,ho,hd,hk,_,hm⟩:=n;refine⟨o,ho,λname=>?_⟩;have e:=hm name;unfold nsFind findBy at e;rw[<-Array.find?_toList]at e;unfold PySem.W.lookIn;rw[hd];dsimp only
 split
 ·rename_i y q
  rw[q]at e;exact congrArg some e
 rename_i q
 rw[q]at e
 have a:es.toList.any (·.refKey)=false:=by
  rw[List.any_eq_false];intro y hy;obtain⟨z,t,hkey⟩:=hk y (Array.mem_toList_iff.mp hy);simp[DictEntry.refKey,hkey]
 have a':¬es.toList.any (·.refKey)=true:=by rw[a];exact Qj
 rw[QC a'];exact congrArg some e
theorem ObjM.look {x:Addr} (I:ObjM h x dx C mA):∃od,PySem.W.InstAt h x (PySem.W.instObj C dx) C (some od)/\∀name,PySem.W.lookIn name od=some (mA name) :=
 let ⟨od,ho,hl⟩:=qy I.ns
 ⟨od,⟨I.obj,rfl,rfl,ho⟩,hl⟩
section
variable {prog:Program} {w:World} {A:Around} {E:C0} {s:Shared} {K:PySem.W.Frag} {x dx C f:Addr} {mA:C2} {name:Str} {v:Value}
end
theorem gn.some_of {v:V} {o:Option Value} (r:gn (some v) o):∃u,o=some u/\aO v u:=by
 cases o with
 | none=>exact(show False from r).elim
 | some u=>exact⟨u,rfl,r⟩
section
variable {P:Program} {w:World} {H H':Hp} {h h':Heap} {a C dx:Addr} {fs fs':List (Str × V)}
theorem u7 (hok:HOk P w H h) (e:H a=some (.ins C dx fs)):∃mA,ObjM h a dx C mA/\(∀f,gn (fs.lookup f) (mA f))/\PySem.Within mA (fs.map (·.1))/\fs.length<=1000/\H dx=some (.own a):=by
 obtain⟨d,z,ne,ob,mA,n,r,q⟩:=(show bj P w H h a (.ins C dx fs) from hok a _ e);exact⟨mA,⟨ob,n,ne⟩,r,q,z,d⟩
end
structure Cls (K:PySem.W.Frag) (C:Addr):Prop where
 pg:PySem.W.plainGet K C Str.empty=true
 hd:PySem.W.hasDictIn K C=true
 po:PySem.W.plainOver K C=true
 sa:PySem.W.findIn K (.ref C) "__setattr__" = some (some (.builtin "object.__setattr__"))
theorem Cls.get (c:Cls K C) (f:Str):PySem.W.plainGet K C f=true:=c.pg
structure Con (K:PySem.W.Frag) (C:Addr) (f:Str) (v:V) (u:Value):Prop where
 at_:PySem.W.findIn K (.ref C) f=some (some u)
 rel:aO v u
 get:PySem.W.specialIn K u "__get__" = some none
 cp:PySem.W.copiedNames.contains f=false
structure Meth (K:PySem.W.Frag) (C:Addr) (m:Str) (f:Addr):Prop where
 at_:PySem.W.findIn K (.ref C) m=some (some (.ref f))
 fn:PySem.W.isFn K (.ref f)=true
 kp:PySem.W.keepIn K (.ref f)=true
section
variable {X:Cx} {pins:C1} {U:St} {H:Hp} {s:Shared} {a C dx:Addr} {fs:List (Str × V)} {f:Str} {v:V} {A:Around} {E:C0}
end
def Bh (X:Cx) (op:Operator) (rd:V->V->Hp->VK->Prop):Prop :=
 ∀(pins:C1) (s:Shared) (U:St) (H:Hp) (x y:V) (u v:Value) (Q:VK),Inv X pins U H s->aO x u->aO y v->rd x y H Q->wpAny (model X.prog X.w) X.A (inplaceOp op u v) (EP X pins U Q) X.xe s
section
variable {X:Cx} {o e value:Expr} {f:Str} {pos pos' tpos:Pos} {ta tv:TE}
def Bn:V->V->Hp->VK->Prop:=λx y H Q=>∃i j,x=.int i/\y=.int j/\Q (.int (i-j)) H
theorem xg:Bh X .Sub Bn:=by
 rintro pins s U H x y u v Q I rx ry ⟨i,j,rfl,rfl,q⟩;obtain⟨t,rfl⟩:=(show ∃t,u=Value.int i t from rx);obtain⟨t',rfl⟩:=(show ∃t',v=Value.int j t' from ry);exact PyProof.Rows.isub_int ⟨.int (i-j),H,I.tok _,⟨_,rfl⟩,q⟩
end
section
variable {X:Cx} {pins:C1} {U:St} {H:Hp} {s:Shared} {A:Around} {E:C0} {Q:C0} {c:Value} {b:Bool}
inductive TyOf (K:PySem.W.Frag) (H:Hp):V->Value->Prop where
 | non:TyOf K H .non (.type "NoneType")
 | bl (x:Bool):TyOf K H (.bl x) (.type "bool")
 | int (i:Int):TyOf K H (.int i) (.type "int")
 | str (x:Str):TyOf K H (.str x) (.type "str")
 | flt (x:UInt64):TyOf K H (.flt x) (.type "float")
 | lst {a:Addr} {xs:List V} (e:H a=some (.lst xs)):TyOf K H (.ref a) (.type "list")
 | frz {a:Addr} {o:Obj} {xs:List V} (e:H a=some (.frz o (.lst xs))):TyOf K H (.ref a) (.type "list")
 | tup {a:Addr} {xs:List V} (e:H a=some (.tup xs)):TyOf K H (.ref a) (.type "tuple")
 | dK {a:Addr} {kvs:List (Key × V)} (e:H a=some (.dK kvs)):TyOf K H (.ref a) (.type "dict")
 | dT {a:Addr} {kvs:List (List Key × V)} (e:H a=some (.dT kvs)):TyOf K H (.ref a) (.type "dict")
 | ins {a C dx:Addr} {fs:List (Str × V)} (e:H a=some (.ins C dx fs)) (cl:Cls K C) (ha:PySem.W.findIn K (.ref C) "__class__" = some (some (.builtin "object.__class__")))
   (hn:PySem.W.specialIn K (.builtin "object.__class__") "__get__" = some (some (.builtin "getset_descriptor.__get__"))) (htk:PySem.W.takesIn K (.builtin "object.__class__")=some true)
   (hm:PySem.W.mroIn K C (.type "object")=some true):TyOf K H (.ref a) (.ref C)
theorem qI {x:V} {u t:Value} (I:Inv X pins U H s) (rx:aO x u) (ty:TyOf X.K H x t) (e:PySem.W.kitOne X.K t c=some b) (h:∀tk,Q (.bool b) { s with toks:=tk }) :
  wpAny (model X.prog X.w) A (call (.builtin "isinstance") [u,c]) Q E s:=by
 cases ty with
 | non=>cases (show u=Value.none from rx);exact Xm PySem.W.kitx_none I.kIn True.intro e (λz=>nomatch z) h
 | bl y=>cases (show u=Value.bool y from rx);exact Xm PySem.W.kitx_bool I.kIn True.intro e (λz=>nomatch z) h
 | int i=>obtain⟨t,q⟩:=(show ∃t,u=Value.int i t from rx);cases q;exact Xm PySem.W.kitx_int I.kIn True.intro e (λz=>nomatch z) h
 | str y=>obtain⟨t,q⟩:=(show ∃t,u=Value.str y t from rx);cases q;exact Xm PySem.W.kitx_str I.kIn True.intro e (λz=>nomatch z) h
 | flt y=>obtain⟨t,q⟩:=(show ∃t,u=Value.float y t from rx);cases q;exact Xm PySem.W.kitx_float I.kIn True.intro e (λz=>nomatch z) h
 | @lst a xs ea =>
  cases (show u=Value.ref a from rx);obtain⟨_,_,n,_,h1⟩:=(show bj X.prog X.w H s.heap a (.lst xs) from I.hok a _ ea);exact Xm PySem.W.kitx_list I.kIn ⟨_,h1,rfl⟩ e (λz=>nomatch z) h
 | @frz a ob xs ea =>
  cases (show u=Value.ref a from rx);obtain⟨_,_,_,n,_,h1⟩:=(show bj X.prog X.w H s.heap a (.frz ob (.lst xs)) from I.hok a _ ea);exact Xm PySem.W.kitx_list I.kIn ⟨_,h1,rfl⟩ e (λz=>nomatch z) h
 | @tup a xs ea =>
  cases (show u=Value.ref a from rx);obtain⟨_,_,_,p⟩:=(show bj X.prog X.w H s.heap a (.tup xs) from I.hok a _ ea);obtain⟨o,h1,h2,_⟩:=p;exact Xm PySem.W.kitx_tuple I.kIn ⟨o,h1,h2⟩ e (λz=>nomatch z) h
 | @dK a kvs ea =>
  cases (show u=Value.ref a from rx);obtain⟨_,_,vs,_,p⟩:=(show bj X.prog X.w H s.heap a (.dK kvs) from I.hok a _ ea);obtain⟨o,es,ep,h1,h2,_⟩:=p;exact Xm PySem.W.kitx_dict I.kIn ⟨o,h1,h2.1⟩ e (λz=>nomatch z) h
 | @dT a kvs ea =>
  cases (show u=Value.ref a from rx);obtain⟨_,_,xs,_,o,es,ep,h1,h2,_⟩:=(show bj X.prog X.w H s.heap a (.dT kvs) from I.hok a _ ea);exact Xm PySem.W.kitx_dict I.kIn ⟨o,h1,h2.1⟩ e (λz=>nomatch z) h
 | @ins a C dx fs ea cl ha hn htk hm =>
 cases (show u=Value.ref a from rx);obtain⟨mA,O,_⟩:=u7 I.hok ea;obtain⟨od,J,_⟩:=O.look;exact Xm (PySem.W.kitx_own (cl.get _) cl.hd ha hn htk hm) I.kIn J e (λz=>nomatch z) h
end
structure Room (k:Nat) (A:Around):Prop where
 hd:A.handled=none
 dp:A.depth+3*k+5<recursionLimit
 un:A.units+16*k+200<cLine
theorem Room.mono {j k:Nat} (r:Room k A) (h:j<=k):Room j A:=⟨r.hd,by have:=r.dp;omega,by have:=r.un;omega⟩
theorem Room.deeper {k:Nat} (r:Room (k+1) A) (env:Env):Room k (A.deeper env) :=
 ⟨r.hd,by have:=r.dp;show A.depth+1+3*k+5<_;omega,by have:=r.un;show A.units+3+16*k+200<_;omega⟩
theorem Room.depth {k:Nat} (r:Room k A):A.depth<recursionLimit:=by have:=r.dp;omega
theorem Room.units {k:Nat} (r:Room k A):A.units+64<cLine:=by have:=r.un;omega
def mj:TA:=λ_ H Q=>Q [] H
def fw (ta:TE) (tr:TA):TA:=λU H Q=>ta U H λx H1=>tr U H1 λxs H2=>Q (x::xs) H2
section
variable {X:Cx} {e:Expr} {es:List Expr} {te:TE} {t:TA} {pos:Pos}
theorem ag:PA X [] mj:=λ_ _ _ _ H Q I h=>Calls.spliced_nil ⟨[],H,I,.nil,h⟩
theorem aa (ha:PE X e te) (hr:PA X es t) (hs:starEach (e::es) X.env=(false,eval e X.env)::starEach es X.env:=by rfl):PA X (e::es) (fw te t):=by
 intro pos pins s U H Q I h;rw[hs];show wpAny _ _ (spliced ((false,eval e X.env)::backTo pos (starEach es X.env))) _ _ s;refine Xv (thn (ha pins s U H _ I h) λu s1 ⟨x,H1,I1,r1,q1⟩=>?_);exact thn (hr pos pins s1 U H1 _ I1 q1) λus s2 ⟨xs,H2,I2,r2,q2⟩=>⟨x::xs,H2,I2,.cons r1 r2,q2⟩
def xv (t:TA):TE:=λU H Q=>t U H λxs H1=>xs.length<=sizeLine/\∀p,H1 p=none->Q (.ref p) (upd H1 p (.tup xs))
def rp (t:TA):TE:=λU H Q=>t U H λxs H1=>xs.length<=sizeLine/\∀p,H1 p=none->Q (.ref p) (upd H1 p (.lst xs))
theorem pe_tup {x1} (h:PA X es t):PE X (.Tuple es x1 pos) (xv t):=by
 intro pins s U H Q I hq;refine wpAny_Tuple_spliced (thn (h pos pins s U H _ I hq) λus s1 ⟨xs,H1,I1,r,z,q⟩=>⟨by rw[<-r.length];exact z,?_⟩);have hf:H1 s1.heap.objs.size=none:=I1.hok.fresh (Qg _);refine⟨.ref s1.heap.objs.size,upd H1 s1.heap.objs.size (.tup xs),I1.laid (t':=s1.toks) (λb u e=>Qd _ e) (Qg _) ?_,rfl,q _ hf⟩;exact⟨z,us,r,⟨_,Qw _ rfl,rfl,_,rfl⟩⟩
theorem pe_lst (h:PA X es t):PE X (.List es pos) (rp t):=by
 intro pins s U H Q I hq;refine wpAny_List_spliced (thn (h pos pins s U H _ I hq) λus s1 ⟨xs,H1,I1,r,z,q⟩=>⟨by rw[<-r.length];exact z,?_⟩);have hf:H1 s1.heap.objs.size=none:=I1.hok.fresh (Qg _);refine⟨.ref s1.heap.objs.size,upd H1 s1.heap.objs.size (.lst xs),I1.laid (t':=s1.toks) (λb u e=>Qd _ e) (Qg _) ?_,rfl,q _ hf⟩;exact⟨z,us,0,r,Qw _ rfl⟩
end
abbrev Sp:=List V->Hp->VK->XK->Prop
abbrev CXT:=List Env->Hp->Shared->XK->C0
structure Env0 (P:Program) (w:World) (K:PySem.W.Frag) (mg:C2) (base:Heap) (A:Around) (outer:List Env) (s:Shared) (H:Hp):Prop where
 frames:A.frames=some outer
 mod:Mod K mg base
 bs:∀b o,base.get? b=some o->s.heap.get? b=some o/\H b=none
 bsz:base.objs.size<=s.heap.objs.size
 funs:s.heap.FunFrames base outer
 frf:∀b∈frs outer,H b=none
 hok:HOk P w H s.heap
 bare:AllBare s.gens
def CE (outer:List Env) (P:Program) (w:World) (H:Hp) (s:Shared) (Q:VK) (u:Value) (s':Shared):Prop :=
 ∃v H',s'.os=s.os/\AllBare s'.gens/\Un (frs outer) [] H H' s.heap s'.heap/\HOk P w H' s'.heap/\aO v u/\Q v H'
def CR (CX:CXT) (outer:List Env) (P:Program) (w:World) (H:Hp) (s:Shared) (Q:VK) (E:XK) (r:Result) (s':Shared):Prop :=
 match r with
 | .ok (.ret u)=>CE outer P w H s Q u s'
 | .ok _=>False
 | .error e=>CX outer H s E e s'
structure FnOk (P:Program) (w:World) (K:PySem.W.Frag) (mg:C2) (base:Heap) (CX:CXT) (k:Nat) (f:Addr) (fd:FuncData) (ps:List Str) (sp:Sp):Prop where
 len:∀vs H Q E,sp vs H Q E->vs.length=ps.length
 run:∀(A:Around) (outer:List Env) (s:Shared) (H:Hp) (args:Args) (us:List Value) (vs:List V) (Q:VK) (E:XK),Room k A->Env0 P w K mg base A outer s H->BindsTo s fd args (ps.zip us)->ba vs us->sp vs H Q E ->
  codeAny (model P w) A (.call (.ref f) args) (CR CX outer P w H s Q E) s
section
variable {X:Cx} {pins:C1} {U:St} {H:Hp} {s s':Shared}
theorem Inv.env0 (I:Inv X pins U H s):Env0 X.prog X.w X.K X.mg X.base X.A X.stack s H :=
 ⟨I.ok.frames,I.ok.mod,I.bs,QM I.ok.bsz I.sz,I.stack,I.stkFree,I.hok,I.bare⟩
theorem Inv.after {Q:VK} {u:Value} (I:Inv X pins U H s) (h:CE X.stack X.prog X.w H s Q u s'):EP X pins U Q u s':=by
 obtain⟨v,H',os,bare,un,hok,r,q⟩:=h;obtain⟨hh,g,d,t,os'⟩:=s';obtain rfl:os'=s.os:=os;exact⟨v,H',I.call (h':=hh) (g':=g) (d':=d) (t':=t) (ch:=[]) un hok bare (λb z=>absurd z (by simp)),r,q⟩
end
def ml (sp:Sp) (dvs:List V) (E:XK) (t:TA):TE:=λU H Q=>t U H λvs H1=>sp (vs++dvs) H1 Q E
def fI (K:PySem.W.Frag) (fd:FuncData) (ps:List Str) (ds:List Value):Prop :=
 ∀(s:Shared) (us:List Value),K.In s.heap->(us++ds).length=ps.length->BindsTo s fd ⟨us,[]⟩ (ps.zip (us++ds))
variable {ps N:List Str}
theorem fI.all {fd:FuncData} (h:∀us:List Value,us.length=ps.length->bindArgs fd ⟨us,[]⟩=pure (ps.zip us)):fI K fd ps []:=λs us _ hl=>by
 rw[Xn]at hl ⊢;exact .of_eq (h us hl)
def jE (CX:CXT) (X:Cx) (E:XK):Prop:=∀(pins:C1) (U:St) (H:Hp) (s:Shared) (e:Value) (s':Shared),Inv X pins U H s->CX X.stack H s E e s'->X.xe e s'
section
variable {X:Cx} {CX:CXT} {k:Nat} {f C:Addr} {fd:FuncData} {ps:List Str} {sp:Sp} {dvs:List V} {ds:List Value} {E:XK} {x m:Str} {p pos apos:Pos} {e o:Expr} {es:List Expr} {ta:TE} {t:TA}
theorem wF {pins:C1} {U:St} {H:Hp} {s:Shared} {Q:VK} {us:List Value} {vs:List V} (F:FnOk X.prog X.w X.K X.mg X.base CX k f fd ps sp) (hr:Room k X.A) (hb:fI X.K fd ps ds) (hd:ba dvs ds) (hx:jE CX X E)
  (I:Inv X pins U H s) (r:ba vs us) (h:sp (vs++dvs) H Q E):wpAny (model X.prog X.w) X.A (call (.ref f) us) (EP X pins U Q) X.xe s:=by
 have r2:ba (vs++dvs) (us++ds):=r.append hd;have hl:(us++ds).length=ps.length:=by rw[<-r2.length];exact F.len _ _ _ _ h
 refine wpAny_call (codeAny_mono (F.run X.A X.stack s H ⟨us,[]⟩ (us++ds) (vs++dvs) Q E hr I.env0 (hb s us I.kIn hl) r2 h) λr s' hq=>?_)
 cases r with
 | error e=>exact hx pins U H s e s' I hq
 | ok fl =>
 cases fl with
 | ret u=>exact I.after hq
 | next=>exact False.elim hq
 | brk=>exact False.elim hq
 | cont=>exact False.elim hq
theorem uG (F:FnOk X.prog X.w X.K X.mg X.base CX k f fd ps sp) (hr:Room k X.A) (hg:Gl X x) (hm:X.mg x=some (.ref f)) (hk:PySem.W.keepIn X.K (.ref f)=true) (hb:fI X.K fd ps ds) (hd:ba dvs ds) (hx:jE CX X E)
  (ha:PA X (e::es) t) (hdb:(x==("__debug__" : Str))=false:=by decide) (he:starEach (e::es) X.env=(false,eval e X.env)::starEach es X.env:=by rfl) (hpl:(backTo pos (starEach es X.env)).any (·.1)=false:=by rfl) :
  PE X (.Call (.Name x p) (e::es) [] pos) (ml sp dvs E t):=by
 intro pins s U H Q I h;refine wpAny_Call_Name_kw (lG I hg hm ?_ hdb);refine PySem.W.callWith_K (h₀:=X.base) I.ok.mod.kin hk (thn (ha pos pins s U H _ I h) λus s1 ⟨vs,H1,I1,r,q⟩=>⟨I1.kIn,?_⟩) he hpl;exact wF F hr hb hd hx I1 r q
structure Mk (K:PySem.W.Frag) (C f:Addr):Prop where
 makes:PySem.W.makesIn K C=true
 init:PySem.W.findIn K (.ref C) "__init__" = some (some (.ref f))
 fn:PySem.W.isFn K (.ref f)=true
 kp:PySem.W.keepIn K (.ref C)=true
end
def PK (X:Cx) (kws:List Keyword) (t:TA):Prop :=
 ∀(pos:Pos) (pins:C1) (s:Shared) (U:St) (H:Hp) (Q:List V->Hp->Prop),Inv X pins U H s->t U H Q->wpAny (model X.prog X.w) X.A (evalAll ((backToKw pos (keywordEach kws X.env)).map (·.2))) (AP X pins U Q) X.xe s
section
variable {X:Cx} {CX:CXT} {k:Nat} {f C:Addr} {fd:FuncData} {ps ks:List Str} {sp:Sp} {E:XK} {x m:Str} {p pos apos kpos:Pos} {e o:Expr} {es:List Expr} {kws:List Keyword} {te ta:TE} {t tk:TA} {nm:Option Str}
theorem wL:PK X [] mj:=λ_ _ _ _ H Q I h=>wpAny_evalAll_nil ⟨[],H,I,.nil,h⟩
theorem uz (ha:PE X e te) (hr:PK X kws t):PK X (⟨nm,e,kpos⟩::kws) (fw te t):=by
 intro pos pins s U H Q I h;show wpAny _ _ (evalAll ((do let v <-eval e X.env;standAt pos;pure v)::(backToKw pos (keywordEach kws X.env)).map (·.2))) _ _ s;refine wpAny_evalAll_cons (Qe (thn (ha pins s U H _ I h) λu s1 ⟨x,H1,I1,r1,q1⟩=>Qe (wpAny_standAt (Qn ?_))));exact thn (hr pos pins s1 U H1 _ I1 q1) λus s2 ⟨xs,H2,I2,r2,q2⟩=>⟨x::xs,H2,I2,.cons r1 r2,q2⟩
structure KBinds (K:PySem.W.Frag) (fd:FuncData) (ps ks:List Str) (g:List Value->List Value->List Value) (gV:List V->List V->List V):Prop where
 to:∀(s:Shared) (us ws:List Value),K.In s.heap->(g us ws).length=ps.length->BindsTo s fd ⟨us,ks.zip ws⟩ (ps.zip (g us ws))
 rel:∀{vs:List V} {us:List Value} {zs:List V} {ws:List Value},ba vs us->ba zs ws->ba (gV vs zs) (g us ws)
variable {g:List Value->List Value->List Value} {gV:List V->List V->List V}
end
structure FnScope (N P:List Str) (sc:Scope):Prop where
 kind:sc.kind=.function
 co:sc.isCoroutine=false
 gen:sc.isGenerator=false
 nd:N.Nodup
 pre:N.take P.length=P
 par:∀x∈P,sc.names.lookup x=some .local\/sc.names.lookup x=some .cell
 nofree:∀y∈sc.names,y.2≠.free
theorem kD {kindOf:Str->Option NameKind} {x:Str}:∀{binds:List (Str × Value)} {m:C2},(∀v,(x,v)∉binds)->bindL kindOf binds m x=m x
 | [],_,_=>rfl
 | (n,v)::r,m,h=>by
  unfold bindL;rw[kD λw hw=>h w (QG _ hw)]
  split
  ·have:x≠n:=by rintro rfl;exact h v Xh
   simp[this]
  rfl
theorem kH {kindOf:Str->Option NameKind} {x:Str}:∀{binds:List (Str × Value)} {m:C2},(∀v,(x,v)∉binds)->bindC kindOf binds m x=m x
 | [],_,_=>rfl
 | (n,v)::r,m,h=>by
  unfold bindC;rw[kH λw hw=>h w (QG _ hw)]
  split
  ·rfl
  have:x≠n:=by rintro rfl;exact h v Xh
  simp[this]
theorem kG {kindOf:Str->Option NameKind} {x:Str} {v:Value}:∀{P:List Str} {vs:List Value} {i:Nat} {m:C2},P.Nodup->P[i]?=some x->vs[i]?=some v->kindOf x=some .local ->
  bindL kindOf (P.zip vs) m x=some v
 | [],_,_,_,_,h,_,_=>by simp at h
 | _::_,[],_,_,_,_,h,_=>by simp at h
 | p::P,w::vs,0,m,nd,h1,h2,hk=>by
  simp at h1 h2;subst h1;subst h2;show bindL kindOf ((p,w)::P.zip vs) m p=_;unfold bindL;rw[kD λv hv=>(Q7.mp nd).1 (List.of_mem_zip hv).1,QB hk];simp
 | p::P,w::vs,i+1,m,nd,h1,h2,hk=>by
  show bindL kindOf ((p,w)::P.zip vs) m x=_;unfold bindL;exact kG (i:=i) (Q7.mp nd).2 (by simpa using h1) (by simpa using h2) hk
theorem kI {kindOf:Str->Option NameKind} {x:Str} {v:Value}:∀{P:List Str} {vs:List Value} {i:Nat} {m:C2},P.Nodup->P[i]?=some x->vs[i]?=some v->kindOf x≠some .local ->
  bindC kindOf (P.zip vs) m x=some v
 | [],_,_,_,_,h,_,_=>by simp at h
 | _::_,[],_,_,_,_,h,_=>by simp at h
 | p::P,w::vs,0,m,nd,h1,h2,hk=>by
  simp at h1 h2;subst h1;subst h2;show bindC kindOf ((p,w)::P.zip vs) m p=_;unfold bindC;rw[kH λv hv=>(Q7.mp nd).1 (List.of_mem_zip hv).1,QC hk];simp
 | p::P,w::vs,i+1,m,nd,h1,h2,hk=>by
  show bindC kindOf ((p,w)::P.zip vs) m x=_;unfold bindC;exact kI (i:=i) (Q7.mp nd).2 (by simpa using h1) (by simpa using h2) hk
def start (N:List Str) (vs:List V):St:=vs.map some++List.replicate (N.length-vs.length) none
noncomputable def cxOf (CX:CXT) (P:Program) (w:World) (K:PySem.W.Frag) (mg:C2) (base:Heap) (N:List Str) (qual:Str) (scope:Scope) (f:Addr) (cd:Value) (A:Around) (outer:List Env) (s:Shared) (H:Hp) (E:XK):Cx where
 prog:=P
 w:=w
 K:=K
 mg:=mg
 base:=base
 A:=A.deeper (envOfC qual scope s.heap.objs.size f cd)
 N:=N
 s₀:=s
 H₀:=H
 env:=envOfC qual scope s.heap.objs.size f cd
 outer:=outer
 stack:=envOfC qual scope s.heap.objs.size f cd::outer
 ex:=[]
 calm:=true
 fn:=λ_=>true
 pn:=[]
 xe:=λe s'=>wpAny (model P w) (A.deeper (envOfC qual scope s.heap.objs.size f cd)) (leaving (envOfC qual scope s.heap.objs.size f cd) e) (λ_ s''=>CX outer H s E e s'') (λe' s''=>CX outer H s E e' s'') s'
variable {sc scope:Scope}
theorem nr {n:Nat} {x:Str} (h:sc.names.lookup x=some .cell):∃c,(cellsFrom n sc.names []).lookup x=some c:=by
 have q:=PySem.W.cellsFrom_some sc.names n [] (.inl h);exact Option.isSome_iff_exists.mp q
theorem qJ {CX:CXT} {qual:Str} {outer:List Env} {s s1:Shared} {E:XK} {us:List Value} {vs:List V}
  (S:FnScope N ps scope) (hd:A.handled=none) (e0:Env0 P w K mg base A outer s H) (hl:vs.length=ps.length) (r:ba vs us)
  (x:InCallC s s.heap.objs.size (bindL (envOfC qual scope s.heap.objs.size f cd).kindOf (ps.zip us) λ_=>none) (cellsFrom (s.heap.objs.size+1) scope.names []) (bindC (envOfC qual scope s.heap.objs.size f cd).kindOf (ps.zip us) λ_=>none) s1) :
  Inv (cxOf CX P w K mg base N qual scope f cd A outer s H E) [] (start N vs) H s1:=by
 have hpl:ps.length<=N.length:=by have:=congrArg List.length S.pre;rw[Qq]at this;omega
 obtain⟨h1,tk,rfl,hk⟩:=x.done;have noA:∀b:Addr,b∉(cxOf CX P w K mg base N qual scope f cd A outer s H E).ex:=λb z=>absurd (show b∈([]:C3) from z) (by simp)
 refine⟨⟨e0.mod,S.kind,rfl,rfl,Qg _,λy z c h1 h2=>?_,λy hy=>?_,λy c _ h=>?_,λ_=>hd,Around.frames_deeper e0.frames,.inr ⟨rfl,rfl⟩,λb z=>absurd z (noA b),e0.bs,e0.bsz,λb _ _=>noA b,λb z=>absurd z (noA b),e0.funs,e0.frf⟩,
  rfl,e0.bare,Un.kept hk,⟨_,x.toInCall.ns,λi y v h1 h2 h3=>?_⟩,λy c h=>⟨_,x.cell y c h⟩,e0.hok.fresh (Qg _),λy c h=>?_,λp hp=>absurd (show p∈([]:C1) from hp) (by simp),e0.hok.kept hk,?_⟩
 ·exact name_of_addr x.apart (PySem.mem_of_lookup h1) (PySem.mem_of_lookup h2)
 ·have hy:scope.names.lookup y=some .cell\/scope.names.lookup y=some .free:=hy;rcases hy with hy|hy
  ·exact nr hy
  exact absurd rfl (S.nofree _ (PySem.mem_of_lookup hy))
 ·exact Xr (x.above y c (PySem.mem_of_lookup h))
 ·have hi:i<vs.length:=by
   unfold start at h2;by_cases hi:i<vs.length
   ·exact hi
   rw[Qs (by simpa using hi)]at h2;rw[List.getElem?_replicate]at h2
   split at h2 <;> cases h2
  have ha:vs[i]?=some v:=by
   unfold start at h2;rw[Qu (by simpa using hi),Qm]at h2
   cases e:vs[i]? with
   | none=>rw[e]at h2;cases h2
   | some a=>rw[e]at h2;cases h2;rfl
  obtain⟨u,hu,rv⟩:=r.get ha
  have hp:ps[i]?=some y:=by
   rw[<-S.pre,List.getElem?_take_of_lt (by omega)];exact h1
  have ndP:ps.Nodup:=by rw[<-S.pre];exact S.nd.sublist (List.take_sublist _ _)
  refine⟨u,rv,?_⟩;rcases S.par y (Qh hp) with k|k
  ·exact .inl ⟨k,kG ndP hp hu k⟩
  obtain⟨c,e⟩:=nr (n:=s.heap.objs.size+1) k;refine .inr ⟨.inl k,c,e,?_⟩;have q:=x.cell y c e;rw[kI ndP hp hu (by show scope.names.lookup y≠_;rw[k];decide)]at q;exact q
 ·exact e0.hok.fresh (Xr (x.above y c (PySem.mem_of_lookup h)))
 unfold start;show _=N.length;rw[Qf,Qa,List.length_replicate];omega
theorem wt {CX:CXT} {k:Nat} {name qual:Str} {params:Arguments} {body:List Stmt} {kV:Value} {an od:Option Addr}
  {osl:Array (Option Value)} {sp:Sp} (lk:K.lookup f=some ⟨oc,od,.func (PySem.W.fnOf name qual params body scope dV kV doc pm an cdv ct),osl⟩) (hcd:PySem.W.codeIn K cdv qual=true) (S:FnScope N ps scope)
  (len:∀vs H Q E,sp vs H Q E->vs.length=ps.length)
  (hbody:∀(A:Around) (outer:List Env) (s:Shared) (H:Hp) (vs:List V) (Q:VK) (E:XK),Room k (A.deeper (envOfC qual scope s.heap.objs.size f cdv))->sp vs H Q E ->
   ∃t,PSs (cxOf CX P w K mg base N qual scope f cdv A outer s H E) body t/\t { nx:=λ_ H'=>Q .non H',rt:=Q } (start N vs) H) :
  FnOk P w K mg base CX (k+1) f (PySem.W.fnOf name qual params body scope dV kV doc pm an cdv ct) ps sp:=by
 refine⟨len,λA outer s H args us vs Q E hr e0 hb r hsp=>?_⟩;have hl:=len _ _ _ _ hsp;have KX:K.In s.heap:=e0.mod.kin.keeps λb o e=>(e0.bs b o e).1;have lim:s.heap.NoLimit:=e0.mod.nolimit.keeps λb o e=>(e0.bs b o e).1
 have hkind:∀y∈ps.zip us,scope.names.lookup y.1=some .local\/(scope.names.lookup y.1=some .cell/\((cellsFrom (s.heap.objs.size+1) scope.names []).lookup y.1).isSome=true):=λ⟨n,v⟩ hy=>by
  rcases S.par n (List.of_mem_zip hy).1 with q|q
  ·exact .inl q
  exact .inr ⟨q,PySem.W.cellsFrom_some _ _ _ (.inl q)⟩
 refine codeAny_call_function hr.depth (KX _ _ lk) rfl S.co S.gen rfl (PySem.W.codeRec_of KX hcd) (hb _ _ _ _ ?_);refine wpAny_newFunctionEnv_cells S.kind hkind λenv he s1 x=>?_;subst he;refine⟨lim.keeps x.toInCall.keep,codeAny_func ?_⟩;obtain⟨t,ht,hq⟩:=hbody A outer s H vs Q E (hr.deeper _) hsp;have I:Inv (cxOf CX P w K mg base N qual scope f cdv A outer s H E) [] (start N vs) H s1:=qJ S hr.hd e0 hl r x;refine Xj (ht [] s1 (start N vs) H _ I hq) (λfl s' hs=>?_) λe s' hs=>hs
 have fin:∀{σ':St} {H':Hp} {v:V} {u:Value},Inv (cxOf CX P w K mg base N qual scope f cdv A outer s H E) [] σ' H' s'->aO v u->Q v H'->CE outer P w H s Q u s' :=
  λ{σ' H' v u} J rv q=>⟨v,H',J.os,J.bare,J.base,J.hok,rv,q⟩
 cases fl with
 | ret u =>
  obtain⟨v,σ',H',J,rv,q⟩:=hs;exact fin J rv q
 | next =>
  obtain⟨σ',H',J,q⟩:=hs;exact fin (v:=V.non) (u:=Value.none) J rfl q
 | brk =>
  obtain⟨_,_,_,q⟩:=hs;exact False.elim q
 | cont =>
 obtain⟨_,_,_,q⟩:=hs;exact False.elim q
section
variable {X:Cx} {x:Str} {p pos:Pos} {e:Expr} {es:List Expr} {t:TA} {id T:String} {r:List V->Hp->VK->Prop}
def tCB (r:List V->Hp->VK->Prop) (t:TA):TE:=λU H Q=>t U H λvs H1=>r vs H1 Q
theorem aV (hc:eO X (.builtin id) r) (hg:Gl X x) (hm:X.mg x=none) (hv:bootBuiltins x=some (.builtin id)) (ha:PA X (e::es) t) (hn:x ≠ "__name__" := by decide) (hdb:(x==("__debug__" : Str))=false:=by decide)
  (he:starEach (e::es) X.env=(false,eval e X.env)::starEach es X.env:=by rfl) (hpl:(backTo pos (starEach es X.env)).any (·.1)=false:=by rfl):PE X (.Call (.Name x p) (e::es) [] pos) (tCB r t):=by
 intro pins s U H Q I h;refine wpAny_Call_Name_kw (dI I hg hm hv ?_ hn hdb);exact PyProof.Rows.callWith_builtin1 (thn (ha pos pins s U H _ I h) λus s1 ⟨vs,H1,I1,r1,q1⟩=>hc pins s1 U H1 vs us Q I1 r1 q1) he hpl
theorem c9 (hc:eO X (.type T) r) (hg:Gl X x) (hm:X.mg x=none) (hv:bootBuiltins x=some (.type T)) (ha:PA X (e::es) t) (hn:x ≠ "__name__" := by decide) (hdb:(x==("__debug__" : Str))=false:=by decide)
  (he:starEach (e::es) X.env=(false,eval e X.env)::starEach es X.env:=by rfl) (hpl:(backTo pos (starEach es X.env)).any (·.1)=false:=by rfl):PE X (.Call (.Name x p) (e::es) [] pos) (tCB r t):=by
 intro pins s U H Q I h;refine wpAny_Call_Name_kw (dI I hg hm hv ?_ hn hdb);exact Xc (thn (ha pos pins s U H _ I h) λus s1 ⟨vs,H1,I1,r1,q1⟩=>hc pins s1 U H1 vs us Q I1 r1 q1) he hpl
end
end L2
namespace HT
open PySem PyProof.Rows
section
open PySem.SeqAt
open PySem.AutoSeq1 (wpAny_loadPart')
open PySem.MeetsSeq PySem.MeetsSeq2 PySem.MeetsSeq3
end
section
variable {prog:Program} {w:World} {A:Around} {E:C0} {s:Shared}
def sIx (n d:Nat):Option Int->Nat
 | none=>d
 | some v=>if v<0 then (v+(n:Int)).toNat else min v.toNat n
theorem iW (n d:Nat):sIx n d none=d:=rfl
theorem k_ (n d k:Nat):sIx n d (some (k:Int))=min k n:=by
 show (if (k:Int)<0 then ((k:Int)+(n:Int)).toNat else min (k:Int).toNat n)=min k n;rw[QC (by omega),Int.toNat_natCast]
end
end HT
namespace L2
open PySem PySem.Spec PyProof.Rows
abbrev TO:=St->Hp->(Option Int->Hp->Prop)->Prop
def PO (X:Cx) (e:Option Expr) (t:TO):Prop :=
 ∀(pins:C1) (s:Shared) (U:St) (H:Hp) (Q:Option Int->Hp->Prop),Inv X pins U H s->t U H Q ->
  wpAny (model X.prog X.w) X.A (evalPart e X.env) (λu s'=>∃o H',Inv X pins U H' s'/\IsPart u o/\Q o H') X.xe s
def oS:TO:=λ_ H Q=>Q none H
def vq (t:TE):TO:=λU H Q=>t U H λx H1=>∃i,x=.int i/\Q (some i) H1
section
variable {X:Cx} {e:Expr} {te:TE} {lo hi:Option Expr} {tl th:TO} {pos p2:Pos}
theorem dD:PO X none oS:=by
 intro pins s U H Q I h;rw[evalPart_none];exact Qn ⟨none,H,I,.none,h⟩
theorem dC (h:PE X e te):PO X (some e) (vq te):=by
 intro pins s U H Q I hw;rw[evalPart_some];refine thn (h pins s U H _ I hw) λu s1 ⟨x,H1,I1,r1,q1⟩=>?_;obtain⟨i,rfl,q⟩:=q1;obtain⟨t,rfl⟩:=r1;exact⟨some i,H1,I1,.int i t,q⟩
def SlR (X:Cx) (r:V->Option Int->Option Int->Hp->VK->Prop):Prop :=
 ∀(pins:C1) (s:Shared) (U:St) (H:Hp) (x:V) (v vl vu:Value) (lo hi:Option Int) (sl:Addr) (Q:VK),Inv X pins U H s->aO x v->s.heap.IsSliceOf sl vl vu .none->IsPart vl lo->IsPart vu hi->r x lo hi H Q ->
  ∃T id,typeLookup (.type T) "__getitem__" = pure (some (.builtin id))/\s.TypeIs v T/\wpAny (model X.prog X.w) X.A (getItem v (.ref sl)) (EP X pins U Q) X.xe s
def tSl (r:V->Option Int->Option Int->Hp->VK->Prop) (te:TE) (tl th:TO):TE:=λU H Q=>te U H λx H1=>tl U H1 λl H2=>th U H2 λu H3=>r x l u H3 Q
theorem cX {r:V->Option Int->Option Int->Hp->VK->Prop} (hr:SlR X r) (he:PE X e te) (hl:PO X lo tl) (hu:PO X hi th):PE X (.Subscript e (.Slice lo hi none p2) pos) (tSl r te tl th):=by
 intro pins s U H Q I h;refine Subscript_ (thn (he pins s U H _ I h) λv s1 ⟨x,H1,I1,r1,q1⟩=>?_);refine wpAny_Slice (thn (hl pins s1 U H1 _ I1 q1) λvl s2 ⟨l,H2,I2,pl,q2⟩=>thn (hu pins s2 U H2 _ I2 q2) λvu s3 ⟨u,H3,I3,pu,q3⟩=>?_);rw[evalPart_none];refine Qn ?_;have I4:Inv X pins U H3 { s3 with heap:=s3.heap.push { cls:=.type "slice", data:=.fields #[vl,vu,.none] } }:=I3.kept (t':=s3.toks) λb ob q=>Qd _ q;obtain⟨T,id,hT,ht,hg⟩:=hr pins { s3 with heap:=s3.heap.push { cls:=.type "slice", data:=.fields #[vl,vu,.none] } } U H3 x v vl vu l u s3.heap.objs.size Q I4 r1 (Heap.IsSliceOf.new ..) pl pu q3;show wpAny (model X.prog X.w) X.A (subscriptTail e (.Slice lo hi none p2) v (.ref s3.heap.objs.size)) (EP X pins U Q) X.xe { s3 with heap:=s3.heap.push { cls:=.type "slice", data:=.fields #[vl,vu,.none] } };exact tail_any (ops:=[.ref s3.heap.objs.size,v]) ht hT hg (by with_unfolding_all rfl)
def jm (xs:List V) (lo hi:Option Int):List V:=(xs.drop (HT.sIx xs.length 0 lo)).take (HT.sIx xs.length xs.length hi-HT.sIx xs.length 0 lo)
theorem nq (xs:List V) (lo hi:Option Int):(jm xs lo hi).length<=xs.length:=by
 unfold jm;rw[Qq,QX];omega
end
def ixN (n:Nat) (i:Int):Option Nat:=if 0<=i then (if i<n then some i.toNat else none) else if -(n:Int)<=i then some (i+n).toNat else none
def atI {α:Type} (xs:List α) (i:Int):Option α:=(ixN xs.length i).bind λj=>xs[j]?
theorem u4 {n:Nat} {i:Int} {j:Nat} (h:ixN n i=some j):seqIndex? i n=some j/\j<n/\-(n:Int)<=i/\i<n:=by
 unfold ixN at h;by_cases h0:0<=i
 ·rw[QB h0]at h;by_cases h1:i<n
  ·rw[QB h1]at h;have e:i.toNat=j:=QT h;exact⟨by rw[seqIndex_of h0 h1,e],by omega,by omega,h1⟩
  rw[QC h1]at h;cases h
 rw[QC h0]at h;by_cases h1:-(n:Int)<=i
 ·rw[QB h1]at h;have e:(i+n).toNat=j:=QT h;exact⟨by rw[seqIndex_neg (by omega) h1,e],by omega,h1,by omega⟩
 rw[QC h1]at h;cases h
theorem lU {α:Type} {xs:List α} {i:Int} {v:α} (h:atI xs i=some v):∃j,seqIndex? i xs.length=some j/\xs[j]?=some v/\j<xs.length/\-(xs.length:Int)<=i/\i<xs.length:=by
 unfold atI at h
 cases e:ixN xs.length i with
 | none=>rw[e]at h;cases h
 | some j =>
 rw[e]at h;obtain⟨h1,h2,h3,h4⟩:=u4 e;exact⟨j,h1,h,h2,h3,h4⟩
theorem cg {α:Type} {xs:List α} {j:Nat} {v:α} (h:xs[j]?=some v):atI xs (j:Int)=some v:=by
 have hj:j<xs.length:=(Qc.mp h).1
 have e:ixN xs.length (j:Int)=some j:=by
  unfold ixN;rw[QB (by omega),QB (by omega)];simp
 unfold atI;rw[e];exact h
def vk (b:Expr):Prop:=∀o i,subscripted b false o i=operate [o,i] (getItem o i)
def IxR (X:Cx) (r:R2):Prop :=
 ∀(value slice:Expr) (pins:C1) (s:Shared) (U:St) (H:Hp) (x y:V) (v u:Value) (Q:VK),Inv X pins U H s->aO x v->aO y u->r x y H Q ->
  subscripted slice false v u=operate [v,u] (getItem v u)->wpAny (model X.prog X.w) X.A (subscriptTail value slice v u) (EP X pins U Q) X.xe s
def MtR (X:Cx) (id:String) (r:V->List V->Hp->VK->Prop):Prop :=
 ∀(pins:C1) (s:Shared) (U:St) (H:Hp) (x:V) (xs:List V) (v:Value) (us:List Value) (Q:VK),Inv X pins U H s->aO x v->ba xs us->r x xs H Q ->
  wpAny (model X.prog X.w) X.A (call (.builtin id) (v::us)) (EP X pins U Q) X.xe s
section
variable {X:Cx} {a b:Expr} {ta tb:TE} {pos:Pos}
theorem aC {r:R2} (hr:IxR X r) (ha:PE X a ta) (hb:PE X b tb) (hs:vk b:=by exact λ_ _=>rfl):PE X (.Subscript a b pos) (tOp r ta tb):=by
 intro pins s U H Q I h;exact Subscript_ (xr ha hb I h λv u s2 x y H2 I2 rx ry q=>hr a b pins s2 U H2 x y v u Q I2 rx ry q (hs _ _))
def xM (K:PySem.W.Frag):R2:=λx y H Q=>∃p xs i v,x=.ref p/\y=.int i/\SqL K H p xs/\atI xs i=some v/\Q v H
def nQ (K:PySem.W.Frag):R2:=λx y H Q=>∃p xs i v,x=.ref p/\y=.int i/\SqT K H p xs/\atI xs i=some v/\Q v H
def xL:R2:=λx y H Q=>∃z i c,x=.str z/\y=.int i/\z.length<=sizeLine/\atI z.cps.toList i=some c/\Q (.str ⟨#[c]⟩) H
theorem bd:IxR X (xM X.K):=by
 intro value slice pins s U H x y v u Q I rx ry h hs;obtain⟨p,xs,i,z,rfl,rfl,hq,he,q⟩:=h;cases rx;obtain⟨t,rfl⟩:=ry;obtain⟨its,r,pl,hz⟩:=I.list hq;obtain⟨j,h1,h2,h3,h4,h5⟩:=lU he;obtain⟨w,ew,rw'⟩:=r.get h2;have hl:=r.length;have hn:=je;have fin:EP X pins U Q w s:=⟨z,H,I,rw',q⟩;by_cases h0:0<=i
 ·have hj:i.toNat=j:=by
   rw[seqIndex_of h0 h5]at h1;exact QT h1
  exact item_listR pl.isList h0 (by omega) (by rw[hj];simpa using ew) fin hs
 have hj:(i+(its.toArray.size:Int)).toNat=j:=by
  rw[seqIndex_neg (by omega) h4]at h1;rw[Qi,<-hl];exact QT h1
 exact subscriptTail_builtinR (x:=w) pl.isList.typeIs slot_list_getitem.lookup
  (wpAny_getItem_list_neg (Q:=λr s'=>r=w/\EP X pins U Q r s') pl.isList (by omega) (by rw[Qi] <;> omega) (by omega) (by rw[hj];simpa using ew) ⟨rfl,fin⟩) hs
theorem aG:IxR X (nQ X.K):=by
 intro value slice pins s U H x y v u Q I rx ry h hs;obtain⟨p,xs,i,z,rfl,rfl,hq,he,q⟩:=h;cases rx;obtain⟨t,rfl⟩:=ry;obtain⟨its,r,pl,hz⟩:=I.tuple hq;obtain⟨j,h1,h2,h3,h4,h5⟩:=lU he;obtain⟨w,ew,rw'⟩:=r.get h2;have hl:=r.length;have hn:=je;have fin:EP X pins U Q w s:=⟨z,H,I,rw',q⟩
 exact subscriptTail_builtinR (x:=w) pl.typeIs slot_tuple_getitem.lookup
  (getItem_tuple (j:=j) (Q:=λr s'=>r=w/\EP X pins U Q r s') pl (by omega) (by omega) (by rw[Qi,<-hl];exact h1) (by simpa using ew) ⟨rfl,fin⟩) hs
theorem fP:IxR X xL:=by
 intro value slice pins s U H x y v u Q I rx ry h hs;obtain⟨z,i,c,rfl,rfl,hz,he,q⟩:=h;obtain⟨t,rfl⟩:=rx;obtain⟨t',rfl⟩:=ry;obtain⟨j,h1,h2,h3,h4,h5⟩:=lU he;have hl:z.cps.toList.length=z.length:=by simp[Str.length]
 rw[hl]at h1 h4 h5;have hn:=je
 exact tail_any (typeIs_str s z t) slot_str_getitem.lookup (getItem_str (c:=c) (by
  have e1:decide (i < -(2 ^ 63:Int))=false:=Qx (by omega);have e2:decide (i>=2 ^ 63)=false:=Qx (by omega)
  rw[e1,e2,Bool.or_false]) (by rw[h1];simpa using h2) ⟨.str ⟨#[c]⟩,H,I.tok _,⟨_,rfl⟩,q⟩) hs
variable {pins:C1}
theorem Inv.lst {U:St} {H:Hp} {s:Shared} {p:Addr} {xs:List V} (I:Inv X pins U H s) (h:H p=some (.lst xs)) :
  ∃(its:List Value) (n:Nat),ba xs its/\s.heap.get? p=some { cls:=.type "list", data:=.seq its.toArray n }/\xs.length<=sizeLine:=by
 obtain⟨z,its,n,r,e⟩:=I.hok p _ h;exact⟨its,n,r,e,z⟩
def xJ:V->V->V->Hp->(Hp->Prop)->Prop:=λo i v H Q=>∃p xs k j,o=.ref p/\i=.int k/\H p=some (.lst xs)/\ixN xs.length k=some j/\Q (upd H p (.lst (xs.set j v)))
theorem vF (i:Int) (n:Nat):max 0 (min (if i<0 then i+(n:Int) else i) (n:Int))=(((if i<0 then (i+(n:Int)).toNat else min i.toNat n):Nat):Int):=by
 by_cases h:i<0
 ·rw[QB h,QB h,Int.min_eq_left (by omega)];omega
 obtain⟨k,rfl⟩:=Int.eq_ofNat_of_zero_le (Int.not_lt.mp h);rw[QC h,QC h,Int.toNat_natCast];omega
theorem kS (lo hi:Option Int) (n:Nat):(sliceBounds lo hi none n).1=((HT.sIx n 0 lo:Nat):Int)/\(sliceBounds lo hi none n).2.1=((HT.sIx n n hi:Nat):Int)/\(sliceBounds lo hi none n).2.2=1:=by
 refine⟨?_,?_,rfl⟩
 ·cases lo with
  | none=>simp[sliceBounds,HT.sIx]
  | some i =>
   simp only[sliceBounds,HT.sIx,Option.getD_none,show (1:Int)>0 by decide,if_true];exact vF i n
 cases hi with
 | none=>simp[sliceBounds,HT.sIx]
 | some i =>
 simp only[sliceBounds,HT.sIx,Option.getD_none,show (1:Int)>0 by decide,if_true];exact vF i n
theorem jI (its:List Value) (lo hi:Option Int):slicePick its.toArray lo hi none=((its.drop (HT.sIx its.length 0 lo)).take (HT.sIx its.length its.length hi-HT.sIx its.length 0 lo)).toArray:=by
 obtain⟨h1,h2,h3⟩:=kS lo hi its.toArray.size;unfold slicePick;rw[h1,h2,h3];simp only[sliceRange_one,pick_run,Qi] <;> rfl
def xI (K:PySem.W.Frag):V->Option Int->Option Int->Hp->VK->Prop:=λx lo hi H Q=>∃a xs,x=.ref a/\SqL K H a xs/\∀p,H p=none->Q (.ref p) (upd H p (.lst (jm xs lo hi)))
theorem io:SlR X (xI X.K):=by
 intro pins s U H x v vl vu lo hi sl Q I rx hs pl pu h;obtain⟨a,xs,rfl,hx,q⟩:=h;cases rx;obtain⟨its,r,ht,hz⟩:=I.list hx;have hlen:=r.length;refine⟨"list", _,slot_list_getitem.lookup,ht.isList.typeIs,?_⟩;refine wpAny_getItem_list_slice ht.isList hs pl pu .none (by simp) ?_ (by rw[Qi] <;> omega);rw[jI,<-hlen];refine⟨.ref s.heap.objs.size,_,I.laid (t':=s.toks) (o:=.lst (jm xs lo hi)) (λb ob q=>Qd _ q) (Qg _) ?_,rfl,q _ (I.hok.fresh (Qg _))⟩;exact⟨QM (nq xs lo hi) hz,_,0,(r.drop (HT.sIx xs.length 0 lo)).take (HT.sIx xs.length xs.length hi-HT.sIx xs.length 0 lo),Qw _ rfl⟩
def dA:V->Bool
 | .non=>true
 | .bl _=>true
 | .int _=>true
 | .str _=>true
 | _=>false
def eqV:V->V->Bool
 | .non,.non=>true
 | .bl a,.bl b=>a==b
 | .bl a,.int b=>(if a then 1 else 0)==b
 | .int a,.bl b=>a==(if b then 1 else 0)
 | .int a,.int b=>a==b
 | .str a,.str b=>a==b
 | _,_=>false
variable {u v:Value}
theorem oA {A:Around} {s:Shared} {y x:V} (ry:aO y u) (rx:aO x v) (fy:dA y=true) (fx:dA x=true):SeqAt.EqAt A s u v (eqV y x):=by
 cases y with
 | non =>
  cases ry
  cases x with
  | non=>cases rx;exact SeqAt.EqAt.same _
  | bl b=>cases rx;exact SeqAt.EqAt.none_bool b
  | int b=>obtain⟨t,rfl⟩:=rx;exact SeqAt.EqAt.none_int b t
  | str b=>obtain⟨t,rfl⟩:=rx;exact SeqAt.EqAt.none_str b t
  | _=>exact absurd (show false=true from fx) Qj
 | bl a =>
  cases ry
  cases x with
  | non=>cases rx;exact SeqAt.EqAt.bool_none a
  | bl b=>cases rx;exact SeqAt.EqAt.bool_bool a b
  | int b=>obtain⟨t,rfl⟩:=rx;exact SeqAt.EqAt.bool_int a b t
  | str b=>obtain⟨t,rfl⟩:=rx;exact SeqAt.EqAt.bool_str a b t
  | _=>exact absurd (show false=true from fx) Qj
 | int a =>
  obtain⟨t',rfl⟩:=ry
  cases x with
  | non=>cases rx;exact SeqAt.EqAt.int_none a t'
  | bl b=>cases rx;exact SeqAt.EqAt.int_bool a t' b
  | int b=>obtain⟨t,rfl⟩:=rx;exact SeqAt.EqAt.int_int a t' b t
  | str b=>obtain⟨t,rfl⟩:=rx;exact SeqAt.EqAt.int_str a t' b t
  | _=>exact absurd (show false=true from fx) Qj
 | str a =>
  obtain⟨t',rfl⟩:=ry
  cases x with
  | non=>cases rx;exact SeqAt.EqAt.str_none a t'
  | bl b=>cases rx;exact SeqAt.EqAt.str_bool a t' b
  | int b=>obtain⟨t,rfl⟩:=rx;exact SeqAt.EqAt.str_int a t' b t
  | str b=>obtain⟨t,rfl⟩:=rx;exact SeqAt.EqAt.str_str a t' b t
  | _=>exact absurd (show false=true from fx) Qj
 | _=>exact absurd (show false=true from fy) Qj
def eqU (x:V) (u:Value):Bool:=match u with
 | .none=>eqV .non x
 | .bool b=>eqV (.bl b) x
 | .int i _=>eqV (.int i) x
 | .str z _=>eqV (.str z) x
 | _=>false
theorem tS {x y:V} (r:aO y u) (f:dA y=true):eqU x u=eqV y x:=by
 cases y with
 | non=>cases r;rfl
 | bl b=>cases r;rfl
 | int i=>obtain⟨t,rfl⟩:=r;rfl
 | str z=>obtain⟨t,rfl⟩:=r;rfl
 | _=>exact absurd (show false=true from f) Qj
theorem lV {x:V}:∀{xs:List V} {us:List Value},ba xs us->xs.all dA=true->us.any (eqU x)=xs.any λy=>eqV y x
 | _,_,.nil,_=>rfl
 | y::xs,u::us,.cons r t,f=>by
  rw[List.all_cons,Bool.and_eq_true]at f;rw[List.any_cons,List.any_cons,tS r f.1,lV t f.2]
theorem ja {A:Around} {s:Shared} {x:V} {v:Value} (rx:aO x v) (fx:dA x=true):∀{xs:List V} {us:List Value},ba xs us->xs.all dA=true->∀u∈us,SeqAt.EqAt A s u v (eqU x u)
 | _,_,.nil,_=>λu hu=>by cases hu
 | y::xs,u::us,.cons r t,f=>λu' hu=>by
  rw[List.all_cons,Bool.and_eq_true]at f;rcases QQ.mp hu with rfl|hu
  ·rw[tS r f.1];exact oA r rx f.1 fx
  exact ja rx fx t f.2 u' hu
def inV (x:V) (xs:List V):Bool:=xs.any λy=>eqV y x
def rIn (K:PySem.W.Frag) (neg:Bool):R2:=λx y H Q=>∃p xs,y=.ref p/\(SqL K H p xs\/SqT K H p xs)/\dA x=true/\xs.all dA=true/\Q (.bl (if neg then !inV x xs else inV x xs)) H
theorem bY:OpR X (compareOp .NotIn) (rIn X.K true):=by
 intro pins s U H x y v u Q I rx ry h;obtain⟨p,xs,rfl,hq,fx,fs,q⟩:=h;cases ry;rcases hq with hq|hq
 ·obtain⟨its,r,pl,hz⟩:=I.list hq;refine SeqAt.notIn_listAt (eqU x) pl.isList (λw hw=>ja rx fx r fs w (by simpa using hw)) ⟨.bl _,H,I,rfl,?_⟩;rw[show its.toArray.any (eqU x)=its.any (eqU x) by simp,lV r fs];exact q
 obtain⟨its,r,pl,hz⟩:=I.tuple hq;refine SeqAt.notIn_tupleAt (eqU x) pl (λw hw=>ja rx fx r fs w (by simpa using hw)) ⟨.bl _,H,I,rfl,?_⟩;rw[show its.toArray.any (eqU x)=its.any (eqU x) by simp,lV r fs];exact q
theorem aM:eO X (.builtin "len") (λxs H Q=>∃p ys,xs=[.ref p]/\(SqL X.K H p ys\/SqT X.K H p ys)/\Q (.int ys.length) H):=by
 intro pins s U H xs us Q I r h;obtain⟨p,ys,rfl,hq,q⟩:=h;obtain⟨u,rfl,rx⟩:=dJ r;cases rx;have hn:=je;rcases hq with hq|hq
 ·obtain⟨its,r',pl,hz⟩:=I.list hq;have hlen:=r'.length;exact Calls.call_len_list pl.isList (by simp only[Qi] <;> omega) ⟨.int ys.length,H,I.tok _,⟨s.toks+1,by rw[Qi,hlen]⟩,q⟩
 obtain⟨its,r',pl,hz⟩:=I.tuple hq;have hlen:=r'.length;exact len_tuple pl (by simp only[Qi] <;> omega) ⟨.int ys.length,H,I.tok _,⟨s.toks+1,by rw[Qi,hlen]⟩,q⟩
theorem lM:eO X (.builtin "len") (λxs H Q=>∃z,xs=[.str z]/\z.length<=sizeLine/\Q (.int z.length) H):=by
 intro pins s U H xs us Q I r h;obtain⟨z,rfl,hz,q⟩:=h;obtain⟨u,rfl,t,rfl⟩:=dJ r;have hn:=je;exact len_str (by omega) ⟨.int z.length,H,I.tok _,⟨_,rfl⟩,q⟩
theorem gl:eO X (.type "list") (λxs H Q=>∃p ys,xs=[.ref p]/\(SqL X.K H p ys\/SqT X.K H p ys)/\∀l,H l=none->Q (.ref l) (upd H l (.lst ys))):=by
 intro pins s U H xs us Q I r h;obtain⟨p,ys,rfl,hq,q⟩:=h;obtain⟨u,rfl,rx⟩:=dJ r;cases rx
 have fin:∀(its:List Value),ba ys its->ys.length<=sizeLine->∀(h':Heap) (c':Nat),(∀b o',s.heap.get? b=some o'->h'.get? b=some o') ->
   h'.get? s.heap.objs.size=some { cls:=.type "list", dict:=none,data:=.seq its.toArray c',slots:=#[] }->EP X pins U Q (.ref s.heap.objs.size) { s with heap:=h' }:=λits r' hz h' c' kp e =>
  ⟨.ref s.heap.objs.size,_,I.laid (t':=s.toks) kp (Qg _) (show bj X.prog X.w _ h' _ (.lst ys) from⟨hz,its,c',r',e⟩),rfl,q _ (I.hok.fresh (Qg _))⟩
 rcases hq with hq|hq
 ·obtain⟨its,r',pl,hz⟩:=I.list hq;have hlen:=r'.length;obtain⟨o,ho,hc,n,hd⟩:=pl.isList;exact call_list_seq p (.inl rfl) ho hc hd (λh' c' kp e=>fin its r' hz h' c' kp e) (by simp only[Qi] <;> omega)
 obtain⟨its,r',pl,hz⟩:=I.tuple hq;have hlen:=r'.length;obtain⟨o,ho,hc,n,hd⟩:=pl;exact call_list_seq p (.inr rfl) ho hc hd (λh' c' kp e=>fin its r' hz h' c' kp e) (by simp only[Qi] <;> omega)
def tyV (K:PySem.W.Frag) (T:String) (x:V) (H:Hp):Prop:=match x with
 | .str _=>T = "str"
 | .int _=>T = "int"
 | .ref p=>(T = "list" /\ ∃xs,SqL K H p xs)\/(T = "tuple" /\ ∃o,K.lookup p=some o/\o.cls=.type "tuple" /\ o.dict=none) \/
   (T = "dict" /\ ((∃kvs,H p=some (.dK kvs))\/∃kvs,H p=some (.dT kvs)))\/(T = "set" /\ ∃S n,H p=some (.set S n))
 | _=>False
theorem ww {U:St} {H:Hp} {s:Shared} {T:String} {x:V} (I:Inv X pins U H s) (r:aO x v) (ty:tyV X.K T x H) :
  s.TypeIs v T/\∀a,v=.ref a->∃ob,s.heap.get? a=some ob/\ob.dict=none:=by
 cases x with
 | str z =>
  obtain⟨t,rfl⟩:=r;cases (show T = "str" from ty);exact⟨typeIs_str s z t,λ_ e=>nomatch e⟩
 | int i =>
  obtain⟨t,rfl⟩:=r;cases (show T = "int" from ty);exact⟨typeIs_int s i t,λ_ e=>nomatch e⟩
 | ref p =>
  cases r;rcases ty with⟨rfl,xs,hq⟩|⟨rfl,o,hk,hc,hd⟩|⟨rfl,hk⟩|⟨rfl,S,n,hk⟩
  ·obtain⟨its,_,pl,_⟩:=I.list hq;refine⟨pl.isList.typeIs,λa e=>?_⟩;cases e;obtain⟨o,n,e,c,hd,_⟩:=pl;exact⟨o,e,hd⟩
  ·refine⟨⟨o,I.kIn p o hk,hc⟩,λa e=>?_⟩;cases e;exact⟨o,I.kIn _ o hk,hd⟩
  ·have z:∃o,s.heap.get? p=some o/\o.ExactDict:=by
    rcases hk with⟨kvs,hk⟩|⟨kvs,hk⟩
    ·obtain⟨_,_,_,_,o,_,_,e,ex,_⟩:=I.hok p _ hk;exact⟨o,e,ex⟩
    obtain⟨_,_,_,_,o,_,_,e,ex,_⟩:=I.hok p _ hk;exact⟨o,e,ex⟩
   obtain⟨o,e,ex⟩:=z;refine⟨⟨o,e,ex.1⟩,λa e2=>?_⟩;cases e2;exact⟨o,e,ex.2.1⟩
  obtain⟨o,_,_,_,e,ex,_⟩:=I.hok p _ hk;refine⟨⟨o,e,ex.1⟩,λa e2=>?_⟩;cases e2;exact⟨o,e,ex.2.1⟩
 | _=>exact False.elim ty
def tBM (K:PySem.W.Frag) (T:String) (r:V->List V->Hp->VK->Prop) (to:TE) (t:TA):TE:=λU H Q=>to U H λx H1=>tyV K T x H1/\t U H1 λxs H2=>r x xs H2 Q
variable {o e:Expr} {es:List Expr} {to:TE} {t:TA} {name:Str} {apos cpos:Pos} {T id:String} {r:V->List V->Hp->VK->Prop}
theorem fz (pa:PlainAttrs T) (slot:Slot T name id) (hty:typeOf (.builtin id)=pure (.type "method_descriptor")) (hm:MtR X id r) (ho:PE X o to) (ha:PA X (e::es) t)
  (hbase:attributeBase o name X.env (eval o X.env)=eval o X.env:=by rfl)
  (hfew:((backTo cpos (starEach (e::es) X.env)).all (fun x=>!x.1)&&(backToKw cpos (keywordEach [] X.env)).all (fun x=>x.1.isSome)
   && decide ((e::es).length+([]:List Keyword).length+(if ([]:List Keyword).isEmpty then 0 else 1)<30))=true:=by rfl)
  (hline:(apos.endLine==cpos.line)=true:=by rfl) (hs:starEach (e::es) X.env=(false,eval e X.env)::starEach es X.env:=by rfl) (hplain:(backTo cpos (starEach es X.env)).any (·.1)=false:=by rfl) :
  PE X (.Call (.Attribute o name apos) (e::es) [] cpos) (tBM X.K T r to t):=by
 intro pins s U H Q I h;refine wpAny_Call_method_late hbase hfew hline rfl (thn (ho pins s U H _ I h) λv s1 ⟨x,H1,I1,r1,ty,q1⟩=>?_);obtain⟨h1,h2⟩:=ww I1 r1 ty;refine⟨T,id,pa,slot,hty,h1,h2,?_⟩;have hA:=ha cpos pins s1 U H1 _ I1 q1;rw[hs]at hA ⊢;refine Calls.callWith_builtin (by show (false || (backTo cpos (starEach es X.env)).any (·.1))=false;rw[hplain] <;> rfl) (Calls.evalArgs_plain ?_);exact thn hA λus s2 ⟨vs,H2,I2,r2,q2⟩=>hm pins s2 U H2 x vs v us Q I2 r1 r2 q2
end
def MtM (X:Cx) (id:String) (r:V->List V->Hp->VK->Prop):Prop :=
 ∀(pins:C1) (s:Shared) (U:St) (H:Hp) (x:V) (xs:List V) (v:Value) (us:List Value) (Q:VK),Inv X pins U H s->aO x v->ba xs us->r x xs H Q ->
  wpAny (model X.prog X.w) X.A (call (.builtin id) (v::us)) (EP X pins U Q) X.xe s
theorem ba.one:∀{x:V} {us:List Value},ba [x] us->∃u,us=[u]/\aO x u
 | _,_,.cons r .nil=>⟨_,rfl,r⟩
section
variable {X:Cx} {pins:C1} {U:St} {H:Hp} {s:Shared} {l b:Addr} {xs ys zs:List V}
theorem Inv.lset {its its':List Value} {n:Nat} {f:Array Value->Array Value} {t':Nat} (I:Inv X pins U H s) (hH:H l=some (.lst xs))
  (e:s.heap.get? l=some { cls:=.type "list", data:=.seq its.toArray n }) (hf:f its.toArray=its'.toArray) (hv:ba ys its') (hz:ys.length<=sizeLine) :
  Inv X pins U (upd H l (.lst ys)) { s with heap:=s.heap.update l (Obj.mapSeq f),toks:=t' }:=by
 have q:=PySem.IsL.update e f;rw[hf]at q;refine I.write (x:=l) (e:=l) (by rw[hH];exact trivial) (.inl rfl) (λb' u hb hu=>(Heap.get?_update_other s.heap (Obj.mapSeq f) (Xs hb)).trans hu) ⟨_,q⟩ ?_;exact⟨hz,its',_,hv,q⟩
theorem Inv.lnew {its:List Value} {t':Nat} (I:Inv X pins U H s) (hv:ba ys its) (hz:ys.length<=sizeLine) :
  Inv X pins U (upd H s.heap.objs.size (.lst ys)) { s with heap:=s.heap.push { cls:=.type "list", data:=.seq its.toArray },toks:=t' } :=
 I.laid (λ_ _ q=>Qd _ q) (Qg _) ⟨hz,its,0,hv,Qw _ rfl⟩
theorem Inv.fresh (I:Inv X pins U H s):H s.heap.objs.size=none:=I.hok.fresh (Qg _)
theorem Inv.lstM (I:Inv X pins U H s) (hH:H l=some (.lst xs)):xs.length<=sizeLine/\∃(its:List Value) (n:Nat),ba xs its/\xs.length=its.length/\s.heap.get? l=some { cls:=.type "list", data:=.seq its.toArray n }:=by
 obtain⟨z,its,n,r,e⟩:=I.hok l _ hH;exact⟨z,its,n,r,r.length,e⟩
end
section
variable {X:Cx}
def pi:V->List V->Hp->VK->Prop:=λx vs H Q=>∃l xs y,x=.ref l/\vs=[y]/\H l=some (.lst xs)/\xs.length<sizeLine/\Q .non (upd H l (.lst (xs++[y])))
theorem bR:MtM X "list.append" pi:=by
 intro pins s U H x vs v us Q I rx rv h;obtain⟨l,xs,y,rfl,rfl,hH,hz,q⟩:=h;cases rx;obtain⟨u,rfl,ru⟩:=rv.one;obtain⟨z,its,n,r,hl,e⟩:=I.lstM hH;refine call_meets F.slot_list_append ⟨_,e,rfl⟩ F.entry_list_append (F.args_list_append_2 _ _) (PySem.list_append l its.toArray n u (by rw[Qi];omega)) ⟨e,?_⟩;refine⟨.non,_,I.lset (its':=its++[u]) hH e (by simp) (r.append (.cons ru .nil)) ?_,rfl,q⟩;rw[Qf,List.length_singleton];omega
def xO:R2:=λx y H Q=>∃l b xs zs,x=.ref l/\y=.ref b/\H l=some (.lst xs)/\H b=some (.lst zs)/\xs.length+zs.length<=sizeLine/\∀p,H p=none->Q (.ref p) (upd H p (.lst (xs++zs)))
theorem nY:OpR X (binaryOp .Add) xO:=by
 intro pins s U H x y v u Q I rx ry h;obtain⟨l,b,xs,zs,rfl,rfl,hH,hB,hz,q⟩:=h;cases rx;cases ry;obtain⟨z,its,n,r,hl,e⟩:=I.lstM hH;obtain⟨z2,its2,n2,r2,hl2,e2⟩:=I.lstM hB;refine PySem.P.add_list e e2 ?_ (by rw[Qi,Qi];omega);have ea:its.toArray++its2.toArray=(its++its2).toArray:=by simp
 rw[ea];exact⟨.ref _,_,I.lnew (t':=s.toks) (r.append r2) (by rw[Qf];omega),rfl,q _ I.fresh⟩
theorem uZ {α:Type} (xs:List α) (k:Nat):(List.replicate k xs).flatten.length=k*xs.length:=by
 induction k with
 | zero=>simp
 | succ k ih=>rw[List.replicate_succ,List.flatten_cons,Qf,ih,Nat.succ_mul,Nat.add_comm]
end
section
variable {prog:Program} {w:World} {A:Around} {E:C0} {s:Shared}
end
section
variable {X:Cx}
end
section
variable {κ:Type} [DecidableEq κ]
def aU (kvs:List (κ × V)) (k:κ):Option V:=(kvs.find? λkv=>decide (kv.1=k)).map (·.2)
def bB (kvs:List (κ × V)) (k:κ) (v:V):List (κ × V) :=
 if (kvs.any λkv=>decide (kv.1=k))=true then kvs.map (λkv=>if kv.1=k then (kv.1,v) else kv) else kvs++[(k,v)]
variable {r kvs:List (κ × V)}
theorem bJ {p:κ × V} {k:κ} (e:p.1=k):aU (p::r) k=some p.2:=by simp[aU,List.find?_cons,e]
theorem bK {p:κ × V} {k:κ} (e:¬p.1=k):aU (p::r) k=aU r k:=by simp[aU,List.find?_cons,e]
theorem cA (k:κ):∀kvs:List (κ × V),(kvs.any λkv=>decide (kv.1=k))=(aU kvs k).isSome
 | []=>rfl
 | p::r=>by
  rw[List.any_cons];by_cases e:p.1=k
  ·simp only[bJ e,QJ e,Bool.true_or,Option.isSome_some]
  rw[bK e,Qx e,Bool.false_or];exact cA k r
theorem me (k j:κ) (y:V):∀kvs:List (κ × V),aU (kvs.map λkv=>if kv.1=k then (kv.1,y) else kv) j=(aU kvs j).map λx=>if j=k then y else x
 | []=>rfl
 | p::r=>by
  have ih:=me k j y r;rw[QH];by_cases h:p.1=k
  ·rw[QB h];by_cases e:p.1=j
   ·rw[bJ (p:=(p.1,y)) e,bJ e,Option.map_some,QB (e.symm.trans h)]
   rw[bK (p:=(p.1,y)) e,bK e,ih]
  rw[QC h];by_cases e:p.1=j
  ·rw[bJ (p:=p) e,bJ e,Option.map_some,QC (λz=>h (e.trans z))]
  rw[bK (p:=p) e,bK e,ih]
theorem jZ (k j:κ) (y:V):∀kvs:List (κ × V),aU kvs k=none->aU (kvs++[(k,y)]) j=if j=k then some y else aU kvs j
 | [],_=>by
  by_cases e:k=j
  ·rw[QB e.symm];exact bJ (p:=(k,y)) e
  rw[QC (λz=>e z.symm)];exact bK (p:=(k,y)) e
 | p::r,hn=>by
  rw[List.cons_append];have hk:¬p.1=k:=λz=>by rw[bJ z]at hn;cases hn
  rw[bK hk]at hn;have ih:=jZ k j y r hn;by_cases e:p.1=j
  ·rw[bJ e,bJ e,QC (λz=>hk (e.trans z))]
  rw[bK e,bK e,ih]
theorem cV (kvs:List (κ × V)) (k j:κ) (y:V):aU (bB kvs k y) j=if j=k then some y else aU kvs j:=by
 unfold bB;by_cases a:(kvs.any λkv=>decide (kv.1=k))=true
 ·rw[QB a,me];rw[cA]at a;by_cases e:j=k
  ·obtain⟨x,hx⟩:=Option.isSome_iff_exists.mp a;rw[QB e,e,hx,Option.map_some,QB rfl]
  rw[QC e]
  cases aU kvs j with
  | none=>rfl
  | some x=>rw[Option.map_some,QC e]
 rw[QC a];refine jZ k j y kvs ?_;rw[cA]at a
 cases q:aU kvs k with
 | none=>rfl
 | some x=>rw[q]at a;exact(a rfl).elim
theorem cq (kvs:List (κ × V)) (k:κ) (v:V):(bB kvs k v).length<=kvs.length+1:=by
 unfold bB
 split
 ·rw[Qa];omega
 rw[Qf,QK,Q8];omega
theorem cW {k:κ} (v:V) (h:aU kvs k=none):bB kvs k v=kvs++[(k,v)]:=by
 unfold bB;rw[cA,h];exact QC (by decide)
theorem gn.isSome_eq {o:Option V} {u:Option Value} (r:gn o u):o.isSome=u.isSome:=by
 cases o with
 | none=>cases u with
  | none=>rfl
  | some _=>exact(show False from r).elim
 | some _=>cases u with
  | none=>exact(show False from r).elim
  | some _=>rfl
theorem gn.getD {o:Option V} {u:Option Value} {d:V} {d':Value} (r:gn o u) (rd:aO d d'):aO (o.getD d) (u.getD d'):=by
 cases o with
 | none=>cases u with
  | none=>exact rd
  | some _=>exact(show False from r).elim
 | some _=>cases u with
  | none=>exact(show False from r).elim
  | some _=>exact r
variable {vs:List (κ × Value)}
theorem KV.val (r:KV kvs vs) (k:κ):gn (aU kvs k) (valueAt vs k):=by
 unfold KV at r
 induction r with
 | nil=>exact True.intro
 | @cons p q ps qs h t ih =>
 obtain⟨h1,h2⟩:=h;by_cases e:p.1=k
 ·have e':q.1=k:=h1.symm.trans e;have b:valueAt (q::qs) k=some q.2:=by simp[valueAt,List.find?_cons,e']
  rw[bJ e,b];exact h2
 have e':¬q.1=k:=λz=>e (h1.trans z);have b:valueAt (q::qs) k=valueAt qs k:=by simp[valueAt,List.find?_cons,e']
 rw[bK e,b];exact ih
theorem KV.any (r:KV kvs vs) (k:κ):(kvs.any λkv=>decide (kv.1=k))=vs.any λkv=>decide (kv.1=k):=by
 unfold KV at r
 induction r with
 | nil=>rfl
 | cons h t ih=>rw[List.any_cons,List.any_cons,ih,h.1]
theorem KV.repl (r:KV kvs vs) (k:κ) {y:V} {u:Value} (ry:aO y u) :
  KV (kvs.map λkv=>if kv.1=k then (kv.1,y) else kv) (vs.map λkv=>if kv.1=k then (kv.1,u) else kv):=by
 unfold KV at r ⊢
 induction r with
 | nil=>exact .nil
 | @cons p q ps qs h t ih =>
 rw[QH,QH];refine .cons ?_ ih;obtain⟨h1,h2⟩:=h;by_cases e:p.1=k
 ·rw[QB e,QB (h1.symm.trans e)];exact⟨h1,ry⟩
 rw[QC e,QC (λz=>e (h1.trans z))];exact⟨h1,h2⟩
theorem KV.put (r:KV kvs vs) (k:κ) {y:V} {u:Value} (ry:aO y u):KV (bB kvs k y) (stored vs k u):=by
 unfold bB stored;rw[r.any k];by_cases e:(vs.any λkv=>decide (kv.1=k))=true
 ·rw[QB e,QB e];exact r.repl k ry
 rw[QC e,QC e];exact Paired.snoc r ⟨rfl,ry⟩
theorem KV.length (r:KV kvs vs):kvs.length=vs.length:=Paired.length r
end
variable {u:Value} {w:World} {P prog:Program}
theorem gZ {k:Key} (r:aO (kV k) u):(a9 P w).is k u=true:=by
 cases k with
 | inl i=>obtain⟨t,e⟩:=(show ∃t,u=Value.int i t from r);subst e;exact mZ P w i t
 | inr x=>obtain⟨t,e⟩:=(show ∃t,u=Value.str x t from r);subst e;exact eW P w x t
theorem kj {P:Program} {w:World}:∀{ks:List Key} {us:List Value},ba (ks.map kV) us->ItemsAre (a9 P w) ks us
 | [],_,r=>by rw[List.map_nil]at r;cases r;exact .nil
 | k::ks,_,r=>by
  rw[QH]at r
  cases r with
  | cons h t=>exact .cons (gZ h) (kj t)
abbrev KT (H:Hp):List (List Key × V)->List (List Key × Addr × Value)->Prop:=Paired λp q=>p.1=q.1/\H q.2.1=some (.tup (p.1.map kV))/\aO p.2 q.2.2
variable {xs:List (List Key × Addr × Value)} {kvs:List (List Key × V)} {H H':Hp}
theorem KT.val (r:KT H kvs xs) (k:List Key):gn (aU kvs k) ((atKey xs k).map (·.2)):=by
 induction r with
 | nil=>exact True.intro
 | @cons p q ps qs h t ih =>
 obtain⟨h1,_,h2⟩:=h;by_cases e:p.1=k
 ·have e':q.1=k:=h1.symm.trans e;have b:atKey (q::qs) k=some q.2:=by simp[atKey,List.find?_cons,e']
  rw[bJ e,b];exact h2
 have e':¬q.1=k:=λz=>e (h1.trans z);have b:atKey (q::qs) k=atKey qs k:=by simp[atKey,List.find?_cons,e']
 rw[bK e,b];exact ih
theorem KT.repl (r:KT H kvs xs) (k:List Key) {y:V} (ry:aO y u) :
  KT H (kvs.map λkv=>if kv.1=k then (kv.1,y) else kv) (xs.map (putAt k u)):=by
 induction r with
 | nil=>exact .nil
 | @cons p q ps qs h t ih =>
 rw[QH,QH];refine .cons ?_ ih;obtain⟨h1,h2,h3⟩:=h;unfold putAt;by_cases e:p.1=k
 ·rw[QB e,QB (h1.symm.trans e)];exact⟨h1,h2,ry⟩
 rw[QC e,QC (λz=>e (h1.trans z))];exact⟨h1,h2,h3⟩
theorem KT.put (r:KT H kvs xs) (k:List Key) {b:Addr} {y:V} (hb:H b=some (.tup (k.map kV))) (ry:aO y u) :
  KT H (bB kvs k y) (storedH xs k b u):=by
 have e:(kvs.any λkv=>decide (kv.1=k))=(atKey xs k).isSome:=by
  rw[cA,(r.val k).isSome_eq,Option.isSome_map]
 unfold bB storedH;rw[e];by_cases q:(atKey xs k).isSome=true
 ·rw[QB q,QB q];exact r.repl k ry
 rw[QC q,QC q];exact Paired.snoc r ⟨rfl,hb,ry⟩
theorem KT.keeps (r:KT H kvs xs) (ht:∀b ys,H b=some (.tup ys)->H' b=some (.tup ys)):KT H' kvs xs :=
 Paired.mapP r λ_ _ z=>⟨z.1,ht _ _ z.2.1,z.2.2⟩
section
variable {P:Program} {w:World} {H:Hp} {h:Heap} {a:Addr}
theorem vK {u:HO} (ok:HOk P w H h) (e:Rd H a u):bj P w H h a u:=e.ok ok
theorem hX {kvs:List (Key × V)} (ok:HOk P w H h) (e:Rd H a (.dK kvs)):kvs.length<=sizeLine/\(a==sysModules)=false/\∃vs,KV kvs vs/\h.DictOf (a9 P w) a vs :=
 show bj P w H h a (.dK kvs) from vK ok e
theorem jl {kvs:List (Key × V)} (ok:HOk P w H h) (e:H a=some (.dK kvs)):kvs.length<=sizeLine/\(a==sysModules)=false/\∃vs,KV kvs vs/\h.DictOf (a9 P w) a vs:=hX ok (.inl e)
theorem gI {ks:List Key} (ok:HOk P w H h) (e:H a=some (.tup (ks.map kV))):(tupleKind (a9 P w)).is h ks a:=by
 obtain⟨_,its,r,o,h1,h2,n,h3⟩:=(show bj P w H h a (.tup (ks.map kV)) from ok a _ e);exact⟨o,its.toArray,n,h1,h2,h3,by simpa using kj r⟩
variable {kvs:List (List Key × V)}
theorem jk (ok:HOk P w H h) (e:Rd H a (.dT kvs)):kvs.length<=sizeLine/\(a==sysModules)=false /\
  ∃xs,KT H kvs xs/\h.DictOfH (tupleKind (a9 P w)) a xs:=by
 obtain⟨z,y,xs,r,o,es,ep,h1,h2,h3,h4,h5⟩:=(show bj P w H h a (.dT kvs) from vK ok e);refine⟨z,y,xs,r,o,es,ep,h1,h2,h3,h4,λx hx=>?_,h5⟩
 have all:∀{l:List (List Key × V)} {m:List (List Key × Addr × Value)},KT H l m->∀x∈m,(tupleKind (a9 P w)).is h x.1 x.2.1:=by
  intro l m q
  induction q with
  | nil=>intro x hx;exact nomatch hx
  | @cons p q ps qs hq t ih =>
  intro x hx;rcases QQ.mp hx with e|hx
  ·subst e;exact gI ok (by rw[<-hq.1];exact hq.2.1)
  exact ih x hx
 exact all r x hx
theorem A6 (ok:HOk P w H h) (e:H a=some (.dT kvs)):kvs.length<=sizeLine/\(a==sysModules)=false /\
  ∃xs,KT H kvs xs/\h.DictOfH (tupleKind (a9 P w)) a xs:=jk ok (.inl e)
end
def bz (H:Hp) (a:Addr) (y:V) (r:Option V):Prop :=
 (∃kvs k,Rd H a (.dK kvs)/\y=kV k/\r=aU kvs k)\/∃kvs k b,Rd H a (.dT kvs)/\y=.ref b/\H b=some (.tup (k.map kV))/\r=aU kvs k
def gp (H:Hp) (a:Addr) (y v:V) (H':Hp):Prop :=
 (∃kvs k,H a=some (.dK kvs)/\y=kV k/\kvs.length<sizeLine/\H'=upd H a (.dK (bB kvs k v))) \/
 ∃kvs k b,H a=some (.dT kvs)/\y=.ref b/\H b=some (.tup (k.map kV))/\kvs.length<sizeLine/\H'=upd H a (.dT (bB kvs k v))
theorem bz.k {H:Hp} {a:Addr} {kvs:List (Key × V)} {k:Key} (e:H a=some (.dK kvs)):bz H a (kV k) (aU kvs k):=.inl ⟨kvs,k,.inl e,rfl,rfl⟩
theorem gp.k {H:Hp} {a:Addr} {kvs:List (Key × V)} {k:Key} {v:V} (e:H a=some (.dK kvs)) (hl:kvs.length<sizeLine):gp H a (kV k) v (upd H a (.dK (bB kvs k v))):=.inl ⟨kvs,k,e,rfl,hl,rfl⟩
section
variable {X:Cx} {pins:C1} {U:St} {H:Hp} {s:Shared} {a:Addr} {y v:V} {u r:Value} {o:Option V} {A:Around} {E:C0}
theorem Inv.big (I:Inv X pins U H s):sysModules<s.heap.objs.size:=by
 have h:mainGlobals<s.heap.objs.size:=(I.mod.glob.keeps I.bk).lt;exact Nat.lt_trans (by decide) h
variable {Q:C0}
theorem ku (hu:A.units+1<cLine) (I:Inv X pins U H s) (g:bz H a y (some v)) (ry:aO y u) (h:∀w' s',Inv X pins U H s'->aO v w'->Q w' s') :
  wpAny (model X.prog X.w) A (getItem (.ref a) u) Q E s:=by
 rcases g with⟨kvs,k,e,ey,l⟩|⟨kvs,k,b,e,ey,eb,l⟩
 ·subst ey;obtain⟨z,hd,vs,rel,dd⟩:=hX I.hok e;obtain⟨w',hw,rw'⟩:=gn.some_of (v:=v) (o:=valueAt vs k) (by rw[l];exact rel.val k);exact wpAny_getItem_of (gZ ry) dd.mapOf hw (h w' _ (I.tok _) rw')
 subst ey;cases (show u=Value.ref b from ry);obtain⟨z,hd,xs,rel,dd⟩:=jk I.hok e;obtain⟨w',hw,rw'⟩:=gn.some_of (v:=v) (o:=(atKey xs k).map (·.2)) (by rw[l];exact rel.val k);obtain⟨p,hp,hp2⟩:=Option.map_eq_some_iff.mp hw;refine wpAny_getItem_heap (tupleKind_room_in1 hu) (gI I.hok eb) dd hp ?_;rw[hp2];exact h w' _ (I.tok _) rw'
theorem Cf (hu:A.units+1<cLine) (I:Inv X pins U H s) (g:bz H a y o) (ry:aO y u) (h:∀s',Inv X pins U H s'->Q (.bool o.isSome) s') :
  wpAny (model X.prog X.w) A (compareOp .In u (.ref a)) Q E s:=by
 rcases g with⟨kvs,k,e,ey,l⟩|⟨kvs,k,b,e,ey,eb,l⟩
 ·subst ey;obtain⟨z,hd,vs,rel,dd⟩:=hX I.hok e;refine wpAny_in_of (gZ ry) hd dd.mapOf ?_;rw[<-(rel.val k).isSome_eq,<-l];exact h _ (I.tok _)
 subst ey;cases (show u=Value.ref b from ry);obtain⟨z,hd,xs,rel,dd⟩:=jk I.hok e;refine wpAny_in_heap (tupleKind_room_in1 hu) (gI I.hok eb) hd dd ?_;have q:=(rel.val k).isSome_eq;rw[Option.isSome_map]at q;rw[<-q,<-l];exact h _ (I.tok _)
theorem vf (hu:A.units+1<cLine) (I:Inv X pins U H s) (g:bz H a y o) (ry:aO y u) (h:∀s',Inv X pins U H s'->Q (.bool (!o.isSome)) s') :
  wpAny (model X.prog X.w) A (compareOp .NotIn u (.ref a)) Q E s:=by
 rcases g with⟨kvs,k,e,ey,l⟩|⟨kvs,k,b,e,ey,eb,l⟩
 ·subst ey;obtain⟨z,hd,vs,rel,dd⟩:=hX I.hok e;refine wpAny_notIn_of (gZ ry) hd dd.mapOf ?_;rw[<-(rel.val k).isSome_eq,<-l];exact h _ (I.tok _)
 subst ey;cases (show u=Value.ref b from ry);obtain⟨z,hd,xs,rel,dd⟩:=jk I.hok e;refine wpAny_notIn_heap (tupleKind_room_in1 hu) (gI I.hok eb) hd dd ?_;have q:=(rel.val k).isSome_eq;rw[Option.isSome_map]at q;rw[<-q,<-l];exact h _ (I.tok _)
theorem iw {h':Heap} {t':Nat} {ob:HO} (I:Inv X pins U H s) (mu:Mut (H a)) (hs:Heap.SameBut a s.heap h') (he:∃q,h'.get? a=some q) (new:bj X.prog X.w (upd H a ob) h' a ob) :
  Inv X pins U (upd H a ob) { s with heap:=h',toks:=t' } :=
 I.write (x:=a) (e:=a) mu (.inl rfl) (λb q hb z=>(hs.2 b hb).trans z) he new
theorem oC {P:Program} {w:World} {H':Hp} {h':Heap} {kvs:List (Key × V)} {vs:List (Key × Value)} (z:kvs.length<=sizeLine) (hd:(a==sysModules)=false) (rel:KV kvs vs) (dd:h'.DictOf (a9 P w) a vs) :
  bj P w H' h' a (.dK kvs):=⟨z,hd,vs,rel,dd⟩
theorem kr {H':Hp} {Q:Unit->Shared->Prop} (hu:A.units+1<cLine) (I:Inv X pins U H s) (g:gp H a y v H') (ry:aO y u) (rv:aO v r) (h:∀s',Inv X pins U H' s'->Q () s') :
  wpAny (model X.prog X.w) A (setItem (.ref a) u r) Q E s:=by
 rcases g with⟨kvs,k,e,ey,l,eH⟩|⟨kvs,k,b,e,ey,eb,l,eH⟩
 ·subst ey eH;obtain⟨z,hd,vs,rel,dd⟩:=jl I.hok e;have hz:vs.length<=sizeLine:=by rw[<-rel.length];exact z
  have hl:(bB kvs k v).length<=sizeLine:=by have:=cq kvs k v;omega
  refine wpAny_setItem_pairs (hsz:=hz) (gZ ry) dd λh' dd' hs=>h _ ?_;have he:∃q,h'.get? a=some q:=let ⟨q,_,_,hq,_⟩:=dd';⟨q,hq⟩;exact iw I (by rw[e];exact True.intro) hs he (oC hl hd (rel.put k rv) dd')
 subst ey eH;cases (show u=Value.ref b from ry);obtain⟨z,hd,xs,rel,dd⟩:=A6 I.hok e;have hz:xs.length<=sizeLine:=by rw[<-Paired.length rel];exact z
 have hl:(bB kvs k v).length<=sizeLine:=by have:=cq kvs k v;omega
 refine wpAny_setItem_heap (hsz:=hz) (tupleKind_room_in1 hu) (gI I.hok eb) dd λh' dd' hs=>h _ ?_;obtain⟨q,es,ep,hq,h2,h3,h4,_,h5⟩:=dd';refine iw I (by rw[e];exact True.intro) hs ⟨q,hq⟩ ⟨hl,hd,_,(rel.put k eb rv).keeps λc ys ec=>?_,q,es,ep,hq,h2,h3,h4,h5⟩;rw[ao (AT ec e (λz=>nomatch z))];exact ec
end
section
variable {X:Cx} {pins:C1} {U:St} {H:Hp} {s:Shared} {a:Addr} {kvs:List (Key × V)} {k:Key} {u:Value} {A:Around} {E:C0}
end
def Be (i:Expr):Prop:=∀ov iv,subscripted i false ov iv=operate [ov,iv] (getItem ov iv)
variable {Q E:C0} {pos:Pos} {s:Shared}
theorem ut {A:Around} {env:Env} {value slice:Expr} {T id:String}
  (hl:typeLookup (.type T) "__getitem__" = pure (some (.builtin id))) (hs:Be slice)
  (h:wpAny (model prog w) A (eval value env) (λo s₁=>wpAny (model prog w) A (eval slice env) (λi s₂=>s₂.TypeIs o T/\wpAny (model prog w) A (getItem o i) Q E s₂) E s₁) E s) :
  wpAny (model prog w) A (eval (.Subscript value slice pos) env) Q E s:=by
 refine Subscript_ (Xj h (λo s₁ h₁=>Xj h₁ (λi s₂ h₂=>?_) λ_ _ x=>x) λ_ _ x=>x);obtain⟨hT,h₂⟩:=h₂;unfold subscriptTail;refine Qe ?_;rw[getitemInPython_of_ne hT.not_modules];refine Qe (wpAny_specialOf hT hl ?_)
 have fin:wpAny (model prog w) A (subscripted slice false o i) (λr s₃=>wpAny (model prog w) A (letTemporaryGo value o r >>= λ_=>pure r) Q E s₃) E s₂:=by
  rw[hs o i];exact wpAny_operating (Xj h₂ (λr s₃ h₃=>Qe (wpAny_letTemporaryGo (Qn h₃))) λ_ _ x=>x)
 first
  | exact Qn (Qe fin)
  | exact Qe (Qn (Qe fin))
  | exact Qe fin
variable {pins:C1} {X:Cx}
theorem np {U:St} {a:Addr} {y:V} {o:Option V} (I:Inv X pins U H s) (g:bz H a y o):s.TypeIs (.ref a) "dict" := by
 rcases g with⟨kvs,k,e,_,_⟩|⟨kvs,k,b,e,_,_,_⟩
 ·obtain⟨_,_,vs,_,dd⟩:=hX I.hok e;exact dd.typeIs
 obtain⟨_,_,xs,_,dd⟩:=jk I.hok e;exact dd.typeIs
def vC (td ty:TE):TE:=λU H Q=>td U H λx H1=>ty U H1 λy H2=>∃a v,x=.ref a/\bz H2 a y (some v)/\Q v H2
def xF (ty td:TE):TE:=λU H Q=>ty U H λy H1=>td U H1 λx H2=>∃a o,x=.ref a/\bz H2 a y o/\Q (.bl o.isSome) H2
def oU (ty td:TE):TE:=λU H Q=>ty U H λy H1=>td U H1 λx H2=>∃a o,x=.ref a/\bz H2 a y o/\Q (.bl (!o.isSome)) H2
def vI (td ty tv:TE):TS:=λD U H=>tv U H λv H1=>td U H1 λx H2=>ty U H2 λy H3=>∃a H4,x=.ref a/\gp H3 a y v H4/\D.nx U H4
def vJ (td ty tv:TE) (rd:V->V->Hp->VK->Prop):TS:=λD U H=>td U H λx H1=>ty U H1 λy H2=>∃a v,x=.ref a/\bz H2 a y (some v) /\
 tv U H2 λy2 H3=>rd v y2 H3 λz H4=>∃H5,gp H4 a y z H5/\D.nx U H5
section
variable {X:Cx} {o i e value:Expr} {pos pos' tpos:Pos} {td ty tv:TE}
theorem bu (hu:X.A.units+1<cLine) (ho:PE X o td) (hi:PE X i ty) (hs:Be i:=by exact λ_ _=>rfl):PE X (.Subscript o i pos) (vC td ty):=by
 intro pins s U H Q I h;refine ut PySem.F.slot_dict_getitem.lookup hs (thn (ho pins s U H _ I h) λu s1 ⟨x,H1,I1,rx,q1⟩=>thn (hi pins s1 U H1 _ I1 q1) λiv s2 ⟨y,H2,I2,ry,a,v,ex,g,q2⟩=>?_);subst ex;obtain rfl:u=Value.ref a:=rx;exact⟨np I2 g,ku hu I2 g ry λw' s3 I3 rw'=>⟨v,H2,I3,rw',q2⟩⟩
theorem sk (hu:X.A.units+1<cLine) (hi:PE X i ty) (ho:PE X o td):PC X .In i o (xF ty td):=by
 intro pins s U H Q I h;refine thn (hi pins s U H _ I h) λiv s1 ⟨y,H1,I1,ry,q1⟩=>thn (ho pins s1 U H1 _ I1 q1) λu s2 ⟨x,H2,I2,rx,a,ov,ex,g,q2⟩=>?_;subst ex;obtain rfl:u=Value.ref a:=rx;exact Cf hu I2 g ry λs3 I3=>⟨.bl ov.isSome,H2,I3,rfl,q2⟩
theorem dR (hu:X.A.units+1<cLine) (hi:PE X i ty) (ho:PE X o td):PC X .NotIn i o (oU ty td):=by
 intro pins s U H Q I h;refine thn (hi pins s U H _ I h) λiv s1 ⟨y,H1,I1,ry,q1⟩=>thn (ho pins s1 U H1 _ I1 q1) λu s2 ⟨x,H2,I2,rx,a,ov,ex,g,q2⟩=>?_;subst ex;obtain rfl:u=Value.ref a:=rx;exact vf hu I2 g ry λs3 I3=>⟨.bl (!ov.isSome),H2,I3,rfl,q2⟩
theorem fh (hu:X.A.units+1<cLine) (ho:PE X o td) (hi:PE X i ty) (hv:PE X value tv) (hs:swapsWith value (some (.Subscript o i pos')) pos.line X.env=pure false) :
  PS X (.Assign [.Subscript o i pos'] value pos) (vI td ty tv):=by
 intro pins s U H D I h;refine wpAny_Assign_Subscript (thn (hv pins s U H _ I h) λr s1 ⟨v,H1,I1,rv,q1⟩=>thn (ho pins s1 U H1 _ I1 q1) λu s2 ⟨x,H2,I2,rx,q2⟩=>thn (hi pins s2 U H2 _ I2 q2) λiv s3 ⟨y,H3,I3,ry,a,H4,ex,g,q3⟩=>?_) hs;subst ex;obtain rfl:u=Value.ref a:=rx;exact kr hu I3 g ry rv λs4 I4=>⟨U,H4,I4,q3⟩
theorem uw {op:Operator} {rd:V->V->Hp->VK->Prop} (hu:X.A.units+1<cLine) (ho:PE X o td) (hi:PE X i ty) (hv:PE X value tv) (hop:Bh X op rd)
  (ha:∀ov iv new,augStore i ov iv new=(do holding [new,ov,iv] (setItem ov iv new);release [new,ov,iv] [];pure .next)):PS X (.AugAssign (.Subscript o i tpos) op value pos) (vJ td ty tv rd):=by
 intro pins s U H D I h;refine wpAny_AugAssign_SubscriptAny (thn (ho pins s U H _ I h) λu s1 ⟨x,H1,I1,rx,q1⟩=>thn (hi pins s1 U H1 _ I1 q1) λiv s2 ⟨y,H2,I2,ry,a,v,ex,g,q2⟩=>?_) ha;subst ex;obtain rfl:u=Value.ref a:=rx;refine ku hu I2 g ry λw' s3 I3 rw'=>thn (hv pins s3 U H2 _ I3 q2) λw2 s4 ⟨y2,H3,I4,ry2,q3⟩=>thn (hop pins s4 U H3 v y2 w' w2 _ I4 rw' ry2 q3) λw3 s5 ⟨z,H4,I5,rz,H5,g5,q4⟩=>?_;exact kr hu I5 g5 ry rz λs6 I6=>⟨U,H5,I6,q4⟩
end
theorem nk (h:Heap) (hb:sysModules<h.objs.size):bj P w H (h.push { cls:=.type "dict", data:=.dict #[] }) h.objs.size (.dK []) :=
 ⟨QO _,beq_eq_false_iff_ne.mpr (Xs (QE hb)),[],.nil,Heap.DictOf.new h⟩
def wA:TE:=λ_ H Q=>∀p,H p=none->Q (.ref p) (upd H p (.dK []))
section
variable {X:Cx} {pos:Pos}
theorem ga:PE X (.Dict [] [] pos) wA:=λpins s U H Q I h =>
 wpAny_Dict_empty ⟨.ref s.heap.objs.size,_,I.laid (a:=s.heap.objs.size) (o:=.dK []) (t':=s.toks) (λ_ _ q=>Qd _ q) (Qg _) (nk s.heap I.big),rfl,h _ (I.hok.fresh (Qg _))⟩
end
def nJ:List (TE × TE)->St->Hp->(List (V × V)->Hp->Prop)->Prop
 | [],_,H,Q=>Q [] H
 | (tk,tv)::r,U,H,Q=>tk U H λx H1=>tv U H1 λy H2=>nJ r U H2 λps H3=>Q ((x,y)::ps) H3
abbrev VV:List (V × V)->List (Value × Value)->Prop:=Paired λp q=>aO p.1 q.1/\aO p.2 q.2
def PPs (X:Cx) (pos:Pos) (keys:List (Option Expr)) (values:List Expr) (trs:List (TE × TE)):Prop :=
 ∀(pins:C1) (s:Shared) (U:St) (H:Hp) (Q:List (V × V)->Hp->Prop),Inv X pins U H s->nJ trs U H Q ->
  wpAny (model X.prog X.w) X.A (evalPairs (pairTrees keys values X.env pos)) (λvs s'=>∃ps H',Inv X pins U H' s'/\VV ps vs/\Q ps H') X.xe s
theorem ux:PPs X pos [] [] []:=λpins s U H Q I h=>pairTrees_nil_walk ⟨[],H,I,.nil,h⟩
variable {trs:List (TE × TE)}
theorem r8 {k v:Expr} {ks:List (Option Expr)} {vs:List Expr} {tk tv:TE} (hk:PE X k tk) (hv:PE X v tv) (hr:PPs X pos ks vs trs) :
  PPs X pos (some k::ks) (v::vs) ((tk,tv)::trs):=λpins s U H Q I h =>
 pairTrees_cons_walk (thn (hk pins s U H _ I h) λu s1 ⟨x,H1,I1,rx,q1⟩=>thn (hv pins s1 U H1 _ I1 q1) λw2 s2 ⟨y,H2,I2,ry,q2⟩ =>
  thn (hr pins s2 U H2 _ I2 q2) λws s3 ⟨ps,H3,I3,rel,q3⟩=>⟨(x,y)::ps,H3,I3,.cons ⟨rx,ry⟩ rel,q3⟩)
def i_ (kvs more:List (Key × V)):List (Key × V):=more.foldl (λacc kv=>bB acc kv.1 kv.2) kvs
theorem KV.merge:∀{more:List (Key × V)} {rs:List (Key × Value)} {kvs:List (Key × V)} {vs:List (Key × Value)},KV more rs->KV kvs vs->KV (i_ kvs more) (merged vs rs):=by
 intro more rs kvs vs r;unfold KV at r
 induction r generalizing kvs vs with
 | nil=>intro q;exact q
 | @cons p q ps qs h t ih =>
 intro r0
 have e:KV (bB kvs p.1 p.2) (stored vs q.1 q.2):=by
  have:=r0.put p.1 h.2;rw[<-h.1];exact this
 exact ih e
theorem fB:∀(more kvs:List (Key × V)),(i_ kvs more).length<=kvs.length+more.length
 | [],kvs=>by show kvs.length<=kvs.length+0;omega
 | p::r,kvs=>by
  have h1:=fB r (bB kvs p.1 p.2);have h2:=cq kvs p.1 p.2;show (i_ (bB kvs p.1 p.2) r).length<=_;rw[QK];omega
theorem jt {P:Program} {w:World}:∀{kvs:List (Key × V)} {ws:List (Value × Value)},VV (kvs.map λkv=>(kV kv.1,kv.2)) ws->∃rs,Carries (a9 P w) ws rs/\KV kvs rs
 | [],_,r=>by rw[List.map_nil]at r;cases r;exact⟨[],True.intro,.nil⟩
 | p::kvs,_,r=>by
  rw[QH]at r
  cases r with
  | @cons a b as bs h t =>
  obtain⟨rs,c,q⟩:=jt (P:=P) (w:=w) t;obtain⟨b1,b2⟩:=b;exact⟨(p.1,b2)::rs,⟨gZ h.1,rfl,c⟩,.cons ⟨rfl,h.2⟩ q⟩
def xE (trs:List (TE × TE)):TE:=λU H Q=>∀p,H p=none->nJ trs U (upd H p (.dK [])) λps H2=>H2 p=some (.dK [])/\∃kvs:List (Key × V),ps=kvs.map (λkv=>(kV kv.1,kv.2))/\kvs.length<=15/\Q (.ref p) (upd H2 p (.dK (i_ [] kvs)))
theorem uE {keys:List (Option Expr)} {values:List Expr} (h:PPs X pos keys values trs) (hall:keys.all (·.isSome)=true) (hl:keys.length=values.length) (h0:keys≠[])
  (h15:keys.length<=15):PE X (.Dict keys values pos) (xE trs):=by
 intro pins s U H Q I q;have hn:=I.hok.fresh (Qg s.heap.objs.size);have I1:=I.laid (a:=s.heap.objs.size) (o:=.dK []) (h':=s.heap.push { cls:=.type "dict", data:=.dict #[] }) (t':=s.toks) (λ_ _ q=>Qd _ q) (Qg _) (nk s.heap I.big);refine wpAny_Dict_walk (knd:=a9 X.prog X.w) hall hl h0 h15 (thn (h pins _ U _ _ I1 (q _ hn)) λws s2 ⟨ps,H2,I2,rel,e,kvs,ep,lk,q2⟩=>?_);subst ep;obtain⟨rs,c,rk⟩:=jt (P:=X.prog) (w:=X.w) rel;obtain⟨z,hd,vs0,r0,dd⟩:=jl I2.hok e;cases r0;refine⟨rs,c,dd,λh' dd' hs=>⟨.ref s.heap.objs.size,_,?_,rfl,q2⟩⟩
 have hz:(i_ [] kvs).length<=sizeLine:=by
  have h1:=fB kvs [];rw[Q8]at h1;rw[sizeLine_eq];omega
 have he:∃q,h'.get? s.heap.objs.size=some q:=let ⟨q,_,_,hq,_⟩:=dd';⟨q,hq⟩;exact iw I2 (by rw[e];exact True.intro) hs he (oC hz hd (rk.merge .nil) dd')
structure M1 (X:Cx) (o:Expr) (m:Str) (apos:Pos) (e:Expr) (cpos:Pos):Prop where
 base:attributeBase o m X.env (eval o X.env)=eval o X.env
 few:((backTo cpos (starEach [e] X.env)).all (λx=>!x.1)&&(backToKw cpos (keywordEach [] X.env)).all (λx=>x.1.isSome)
  && decide (([e]:List Expr).length+([]:List Keyword).length+(if ([]:List Keyword).isEmpty then 0 else 1)<30))=true
 line:(apos.endLine==cpos.line)=true
 trees:backTo cpos (starEach [e] X.env)=[(false,eval e X.env)]
structure M2 (X:Cx) (o:Expr) (m:Str) (apos:Pos) (e f:Expr) (cpos:Pos):Prop where
 base:attributeBase o m X.env (eval o X.env)=eval o X.env
 few:((backTo cpos (starEach [e,f] X.env)).all (λx=>!x.1)&&(backToKw cpos (keywordEach [] X.env)).all (λx=>x.1.isSome)
  && decide (([e,f]:List Expr).length+([]:List Keyword).length+(if ([]:List Keyword).isEmpty then 0 else 1)<30))=true
 line:(apos.endLine==cpos.line)=true
 trees:backTo cpos (starEach [e,f] X.env)=[(false,eval e X.env),(false,eval f X.env)]
def IsD (H:Hp) (a:Addr):Prop:=(∃kvs,Rd H a (.dK kvs))\/∃kvs,Rd H a (.dT kvs)
theorem tq {U:St} {a:Addr} (I:Inv X pins U H s) (d:IsD H a) :
  s.TypeIs (.ref a) "dict" /\ (∀b,Value.ref a=.ref b->∃ob,s.heap.get? b=some ob/\ob.dict=none)/\(a==sysModules)=false:=by
 rcases d with⟨kvs,e⟩|⟨kvs,e⟩
 ·obtain⟨_,hd,vs,_,dd⟩:=hX I.hok e;refine⟨dd.typeIs,λb q=>?_,hd⟩;cases q;obtain⟨ob,_,_,h1,h2,_⟩:=dd;exact⟨ob,h1,h2.2.1⟩
 obtain⟨_,hd,xs,_,dd⟩:=jk I.hok e;refine⟨dd.typeIs,λb q=>?_,hd⟩;cases q;obtain⟨ob,_,_,h1,h2,_⟩:=dd;exact⟨ob,h1,h2.2.1⟩
section
variable {X:Cx} {pins:C1} {U:St} {H:Hp} {s:Shared} {a:Addr} {y d:V} {u r:Value} {o:Option V} {A:Around} {E:C0}
theorem xp {Q:C0} (hu:A.units+1<cLine) (I:Inv X pins U H s) (g:bz H a y o) (ry:aO y u) (rd:aO d r) (h:∀w' s',Inv X pins U H s'->aO (o.getD d) w'->Q w' s') :
  wpAny (model X.prog X.w) A (call (.builtin "dict.get") [.ref a,u,r]) Q E s:=by
 rcases g with⟨kvs,k,e,ey,l⟩|⟨kvs,k,b,e,ey,eb,l⟩
 ·subst ey;obtain⟨z,hd,vs,rel,dd⟩:=hX I.hok e;refine call_meetsIn PySem.F.slot_dict_get dd.typeIs PySem.F.entry_dict_get (PySem.F.args_dict_get_3 _ _ _) (meets_dict_get_default (a9 X.prog X.w) a (gZ ry) hd r) ⟨_,dd.mapOf,h _ _ (I.tok _) ?_⟩;rw[l];exact(rel.val k).getD rd
 subst ey;cases (show u=Value.ref b from ry);obtain⟨z,hd,xs,rel,dd⟩:=jk I.hok e;refine call_meetsIn PySem.F.slot_dict_get dd.typeIs PySem.F.entry_dict_get (PySem.F.args_dict_get_3 _ _ _) (meetsH_dict_get_default (tupleKind (a9 X.prog X.w)) a b hd r) ⟨tupleKind_room_in1 hu,k,xs,gI I.hok eb,dd,h _ _ (I.tok _) ?_⟩;rw[l];exact(rel.val k).getD rd
end
def rC (td ty tx:TE):TE:=λU H Q=>td U H λx H1=>∃a,x=.ref a/\IsD H1 a/\ty U H1 λy H2=>tx U H2 λz H3=>∃o,bz H3 a y o/\Q (o.getD z) H3
section
variable {X:Cx} {o e f:Expr} {apos cpos:Pos} {td ty tx:TE}
theorem si (hu:X.A.units+1<cLine) (ho:PE X o td) (he:PE X e ty) (hf:PE X f tx) (m:M2 X o "get" apos e f cpos):PE X (.Call (.Attribute o "get" apos) [e,f] [] cpos) (rC td ty tx):=by
 intro pins s U H Q I h;refine wpAny_Call_method m.base m.few m.line PySem.F.plainAttrs_dict PySem.F.slot_dict_get PySem.F.type_dict_get (thn (ho pins s U H _ I h) λu s1 ⟨x,H1,I1,rx,a,ex,d,q1⟩=>?_);subst ex;obtain rfl:u=Value.ref a:=rx;obtain⟨t1,t2,_⟩:=tq I1 d;refine⟨t1,t2,?_⟩;rw[m.trees]
 refine Calls.callWith_builtin rfl (Calls.evalArgs_plain (Xv (thn (he pins s1 U H1 _ I1 q1) λiv s2 ⟨y,H2,I2,ry,q2⟩ =>
  Xv (thn (hf pins s2 U H2 _ I2 q2) λfv s3 ⟨z,H3,I3,rz,ov,g,q3⟩=>Calls.spliced_nil ?_))))
 exact xp hu I3 g ry rz λw' s4 I4 rw'=>⟨_,H3,I4,rw',q3⟩
end
section
variable {X:Cx} {pins:C1} {U:St} {H:Hp} {s:Shared} {a:Addr} {kvs:List (Key × V)} {A:Around} {E:C0}
end
section
variable {X:Cx} {pins:C1} {U:St} {H:Hp} {s:Shared} {a:Addr} {y:V} {u:Value} {A:Around} {E:C0}
end
end L2
namespace Att
open PySem PySem.W PySem.Calls PyProof.Rows
theorem ik {P:Params} {h:Heap}:∀(ns:List Int) (vs:List Value),WellAll P h vs (ns.map WData.int)->IntsAre vs ns:=by
 intro ns
 induction ns with
 | nil =>
  intro vs w;rw[List.map_nil]at w;cases w;exact .nil
 | cons n ns ih =>
 intro vs w;rw[QH]at w
 cases w with
 | cons a b =>
 cases a;exact .cons _ _ (ih _ b)
theorem p9 {l:OpenLaw} {n:Nat} (hn:l.most=some n) {P:Params} {h:Heap} {args:List WData} {vals:List Value}
  (hpre:l.row.toRowW.claim.pre args=true) (hwl:WellAll P h vals args) :
  ∃a vs ns,vals=[Value.ref a]/\args=[WData.list (ns.map WData.int)]/\h.get? a=some { cls:=.type "list", data:=.seq vs.toArray }/\IntsAre vs ns/\ns.length<=n:=by
 have hsh:WShape.hasAll [] args [.list .int]=true:=(pre_splitW hpre).1;have hc:l.pre.holds [] { args:=args }=true:=(pre_splitW hpre).2;obtain⟨d,r,rfl,h1,h2⟩:=hasAllW_cons hsh;obtain rfl:=hasAllW_nil h2;obtain⟨xs,rfl,h3⟩:=hasW_list h1;obtain⟨ns,rfl⟩:=items_int h3
 have hlen:ns.length<=n:=by
  unfold OpenLaw.pre at hc
  have h4:(WTm.not (.lt (.lit (.int (n:Int))) (.len (.arg 0)))).holds [] { args:=[.list (ns.map .int)] }=true:=by
   have h4:=(holds_andW hc).1;rw[hn]at h4;exact h4
  have h5:=condW_of h4 (w_not (w_lt w_lit (w_len_list (w_arg rfl))));rw[Qa]at h5;refine Nat.le_of_not_lt λq=>?_;have q':(n:Int)<((ns.length:Nat):Int):=by omega
  first
   | (rw[QJ q']at h5;exact absurd h5 (by decide))
   | (simp at h5;omega)
 cases hwl with
 | cons w1 w2 =>
 cases w2
 cases w1 with
 | list ho hall=>exact⟨_,_,ns,rfl,rfl,ho,ik ns _ hall,hlen⟩
theorem qc (l:OpenLaw) (args:List WData):l.row.toRowW.claim.post args (.bool true) args=true :=
 postW_of (r:=l.row.toRowW) (X:=(true==true))
  (show WShape.has [] (.bool true) .bool=true by first|rfl|decide|simp[WShape.has,WShape.arms,WShape.armsAll])
  (show (WTm.eq .res (.lit (.bool true))).value [] { args:=args,res:=some (.bool true),after:=args }=some (.bool (true==true)) from w_eq_bool (w_res rfl) w_lit) rfl
theorem nE {l:OpenLaw} {n:Nat} {q:Program} {loose:List Str} {XP:C2->Heap->Prop} {YP:World->Heap->Prop} {d:DefRec}
  (hn:l.most=some n) (hdf:d.params.defaults=[])
  (call:∀(w:World) (s₀ s₁:Shared) (mg mb:C2) (fa:Addr) (o:Obj) (pm cd doc:Value) (a:Addr) (vs:List Value) (ns:List Int),
   Ground q loose [] XP w s₀ mg mb s₁.heap->YP w s₁.heap ->
   s₁.heap.get? fa=some o->o.data=.func (docDef d.name d.params d.body d.scope pm cd doc)->s₁.heap.CodeRec cd d.name->mg d.name=some (.ref fa) ->
   s₁.heap.get? a=some { cls:=.type "list", data:=.seq vs.toArray }->IntsAre vs ns->ns.length<=n->s₁.gens=#[] ->
   codeAny (model l.prog w) callerA (.call (.ref fa) ⟨[.ref a],[]⟩) (λr s'=>r=.ok (.ret (.bool true))/\OldK s₁.heap s'.heap/\s'.os=s₁.os/\AllBare s'.gens) s₁) :
  WalkO q loose XP YP l.row.toRowW d [] (λf vs=>PySem.call f vs):=by
 intro w s₀ s₁ mg mb G Y fa o pm cd doc dV kV ho hd hcd hD hmg hg args vals as hpre hlay hrd hwl hlo;obtain rfl:dV=.none:=Dflts.none hD hdf;obtain rfl:kV=.none:=Dflts.noKw hD;obtain⟨a,vs,ns,rfl,rfl,hobj,hints,hlen⟩:=p9 hn hpre hwl;refine enter_call (codeAny_mono (call w s₀ s₁ mg mb fa o pm cd doc a vs ns G Y ho (fd_plain hd) hcd hmg hobj hints hlen hg) λr s' hq=>?_);obtain⟨rfl,h2,h3,h4⟩:=hq;exact⟨.inl ⟨.bool true,.bool true,[],rfl,λ_=>rfl,.bool true,qc l _,λ_=>⟨List.Pairwise.nil,λ_ hm=>(nomatch hm)⟩⟩,h2,h3,h4⟩
section
variable {prog:Program} {w:World} {A:Around} {E:C0} {s:Shared} {K:Frag}
end
end Att
namespace L2
open PySem PySem.Spec PyProof.Rows
theorem jY:∀{vs:List Value} {ns:List Int},IntsAre vs ns->ba (ns.map V.int) vs
 | _,_,.nil=>.nil
 | _,_,.cons n t h=>.cons ⟨t,rfl⟩ (jY h)
end L2
/- THE LAST THEOREM (shape;LID,My.* are yours):
  My.Adr: a structure of the addresses that your layer names (classes,functions);My.Txt K t: a structure (Prop) of the equations over K;
  My.txt_mk:{K} {implicit addresses ..} (e1:nsIn K mainGlobals "law" = some (some (.ref f))) (e2:K.lookup f=some ⟨oc,od,.func (fnOf "law" "law" params body scope dV kV doc pm an cdv ct),sl⟩) (e3:codeIn K cdv "law" = true) ..:∃t,My.Txt K t
(the tactic k_is has no namespace: write k_is) -/
namespace L2
open PySem PySem.Spec PyProof.Rows
abbrev CX0:CXT:=λ_ _ _ _ _ _=>False
abbrev E0:XK:=λ_ _ _=>False
theorem vQ {X:Cx}:jE CX0 X E0:=λ_ _ _ _ _ _ _ h=>h.elim
structure Fun (K:PySem.W.Frag) (x qual:Str) (st:Stmt) (f:Addr) (fd:FuncData):Prop where
 ex:∃(oc:Value) (od:Option Addr) (kV doc pm:Value) (an:Option Addr) (cdv ct:Value) (osl:Array (Option Value)),
  fd=PySem.W.fnOf x qual (cU st) (b8 st) (au st) .none kV doc pm an cdv ct/\K.lookup f=some ⟨oc,od,.func fd,osl⟩/\PySem.W.codeIn K cdv qual=true
 kp:PySem.W.keepIn K (.ref f)=true
section
variable {P:Program} {w:World} {K:PySem.W.Frag} {mg:C2} {base:Heap}
variable {x qual:Str}
theorem Fun.ok {st:Stmt} {f:Addr} {fd:FuncData} {N ps:List Str} {k:Nat} {sp:Sp} (F:Fun K x qual st f fd) (S:FnScope N ps (au st)) (len:∀vs H Q E,sp vs H Q E->vs.length=ps.length)
  (hbody:∀(cdv:Value) (A:Around) (outer:List Env) (s:Shared) (H:Hp) (vs:List V) (Q:VK) (E:XK),Room k (A.deeper (envOfC qual (au st) s.heap.objs.size f cdv))->sp vs H Q E ->
   ∃t,PSs (cxOf CX0 P w K mg base N qual (au st) f cdv A outer s H E).nox (b8 st) t/\t { nx:=λ_ H'=>Q .non H',rt:=Q } (start N vs) H):FnOk P w K mg base CX0 (k+1) f fd ps sp:=by
 obtain⟨oc,od,kV,doc,pm,an,cdv,ct,osl,rfl,lk,hcd⟩:=F.ex;refine wt lk hcd S len λA outer s H vs Q E hr hsp=>?_;obtain⟨t,h,q⟩:=hbody cdv A outer s H vs Q E hr hsp;exact⟨t,h.nox,q⟩
theorem Fun.binds {st:Stmt} {f:Addr} {fd:FuncData} {ps:List Str} (F:Fun K x qual st f fd)
  (h:∀(kV doc pm:Value) (an:Option Addr) (cdv ct:Value) (us:List Value),us.length=ps.length->bindArgs (PySem.W.fnOf x qual (cU st) (b8 st) (au st) .none kV doc pm an cdv ct) ⟨us,[]⟩=pure (ps.zip us)):fI K fd ps []:=by
 obtain⟨oc,od,kV,doc,pm,an,cdv,ct,osl,rfl,lk,hcd⟩:=F.ex;exact .all (h kV doc pm an cdv ct)
theorem oz {st:Stmt} {f:Addr} {oc:Value} {od an:Option Addr} {osl:Array (Option Value)} {kV doc pm cdv ct:Value} (l:K.lookup f=some ⟨oc,od,.func (PySem.W.fnOf x qual (cU st) (b8 st) (au st) .none kV doc pm an cdv ct),osl⟩)
  (c:PySem.W.codeIn K cdv qual=true) (k:PySem.W.keepIn K (.ref f)=true):Fun K x qual st f (PySem.W.fnOf x qual (cU st) (b8 st) (au st) .none kV doc pm an cdv ct):=⟨⟨oc,od,kV,doc,pm,an,cdv,ct,osl,rfl,l,c⟩,k⟩
end
theorem cf {A:Around} {k:Nat} (hr:Room k A):A.units+1<cLine:=Nat.lt_of_le_of_lt (Nat.add_le_add_left (by decide:1<=64) _) hr.units
section
variable {X:Cx}
theorem pv (i:Nat) {x:Str} {pos:Pos} (hN:X.N[i]?=some x:=by rfl) (hv:Vis X.env.scope x:=by first|exact Or.inl rfl|exact Or.inr (Or.inl rfl)|exact Or.inr (Or.inr rfl)) (hd:(x==("__debug__" : Str))=false:=by decide)
  (hcd:(x==("__classdict__" : Str))=false:=by decide):PE X (.Name x pos) (eR i):=wN hN hv hd hcd
end
theorem iteF {A B:Prop} (h:B):if false=true then A else B:=by
 rw[QC Qj];exact h
theorem iteT {A B:Prop} (h:A):if true=true then A else B:=by
 rw[QB rfl];exact h
def aw (H H':Hp):Prop:=∀b o,H b=some o->H' b=some o
theorem aw.refl (H:Hp):aw H H:=λ_ _ h=>h
theorem aw.trans {H H1 H2:Hp} (a:aw H H1) (b:aw H1 H2):aw H H2:=λc o h=>b c o (a c o h)
theorem aw.free {H H':Hp} (e:aw H H') {l:Addr} (h:H' l=Option.none):H l=Option.none:=by
 cases q:H l with
 | none=>rfl
 | some o =>
 rw[e l o q]at h;cases h
theorem aw.seq {K:PySem.W.Frag} {H H':Hp} {a:Addr} {xs:List V} (e:aw H H') (h:SqL K H a xs):SqL K H' a xs:=by
 rcases h with(h|⟨o,h⟩)|h
 ·exact .inl (.inl (e _ _ h))
 ·exact .inl (.inr ⟨o,e _ _ h⟩)
 exact .inr h
section
variable {κ:Type} [DecidableEq κ]
variable {kvs:List (κ × V)}
theorem ma {k:κ} (h:aU kvs k=none):¬k∈kvs.map (·.1):=by
 intro m;obtain⟨p,hp,e⟩:=Qp.mp m;have q:(kvs.any λkv=>decide (kv.1=k))=true:=List.any_eq_true.mpr ⟨p,hp,QJ e⟩;rw[cA,h]at q;exact absurd q (by simp)
theorem uk {k:κ} {v:V} (h:aU kvs k=some v):k∈kvs.map (·.1):=by
 have q:(kvs.any λkv=>decide (kv.1=k))=true:=by
  rw[cA,h]
  all_goals rfl
 obtain⟨p,hp,e⟩:=List.any_eq_true.mp q;exact Qp.mpr ⟨p,hp,of_decide_eq_true e⟩
theorem pD:∀{l:List κ} {k:κ},l.Nodup->¬k∈l->(l++[k]).Nodup
 | [],k,_,_=>by simp
 | a::r,k,h,hk=>by
  obtain⟨h1,h2⟩:=Q7.mp h;show (a::(r++[k])).Nodup;refine Q7.mpr ⟨λm=>?_,pD h2 λm=>hk (QQ.mpr (Or.inr m))⟩;rcases Qy.mp m with q|q
  ·exact h1 q
  exact hk (QQ.mpr (Or.inl (QL.mp q).symm))
theorem uX {k:κ} (v:V) (hn:(kvs.map (·.1)).Nodup) (h:aU kvs k=none):((bB kvs k v).map (·.1)).Nodup:=by
 rw[cW v h,Qz];exact pD hn (ma h)
end
section
variable {X:Cx}
end
end L2
set_option maxHeartbeats 4000000
namespace L2
open PySem PySem.Spec PyProof.Rows
def wk:St->St->Prop
 | [],[]=>True
 | none::a,_::b=>wk a b
 | some x::a,y::b=>y=some x/\wk a b
 | _,_=>False
theorem kK:∀{a b:St},wk a b->a.length=b.length
 | [],[],_=>rfl
 | [],_::_,h=>h.elim
 | none::_,[],h=>h.elim
 | some _::_,[],h=>h.elim
 | none::a,_::b,h=>congrArg (·+1) (kK (a:=a) (b:=b) h)
 | some _::a,_::b,h=>congrArg (·+1) (kK (a:=a) (b:=b) h.2)
theorem kL:∀{a b:St},wk a b->∀(i:Nat) (v:V),a[i]?=some (some v)->b[i]?=some (some v)
 | [],[],_,i,v,e=>by simp at e
 | [],_::_,h,_,_,_=>h.elim
 | none::_,[],h,_,_,_=>h.elim
 | some _::_,[],h,_,_,_=>h.elim
 | none::a,y::b,h,0,v,e=>by simp at e
 | none::a,y::b,h,i+1,v,e=>by
  have:=kL (a:=a) (b:=b) h i v (by simpa using e);simpa using this
 | some x::a,y::b,h,0,v,e=>by
  have e':x=v:=by simpa using e
  subst e';rw[h.1];rfl
 | some x::a,y::b,h,i+1,v,e=>by
  have:=kL (a:=a) (b:=b) h.2 i v (by simpa using e);simpa using this
def cJ (env:Env):List (Str × NameKind)->List (Str × Addr)->List (Str × Addr)
 | [],acc=>acc
 | (n,k)::r,acc=>cJ env r (if (k==.free)=true then (n,(env.cells.lookup n).getD 0)::acc else acc)
theorem jr {env:Env}:∀(ns:List (Str × NameKind)) (acc:List (Str × Addr)),(∀y∈ns,y.2=.free->∃c,env.cells.lookup y.1=some c) ->
  (forIn ns acc (fun x r=>match x with
   | (name,kind)=>if (kind==NameKind.free)=true then (do let c <-cellOf env name;pure (ForInStep.yield ((name,c)::r))) else pure (ForInStep.yield r)):Sem (List (Str × Addr)))=pure (cJ env ns acc)
 | [],acc,_=>rfl
 | (n,k)::r,acc,h=>by
  rw[List.forIn_cons];have ih:=λa=>jr (env:=env) r a λy hy=>h y (QG _ hy);by_cases hk:(k==NameKind.free)=true
  ·obtain⟨c,hc⟩:=h (n,k) Xh (by simpa using hk);have e1:cellOf env n=pure c:=by unfold cellOf;rw[hc]
   simp only[hk,if_true,e1,pure_bind];unfold cJ;simp only[hk,if_true,hc,Option.getD_some];exact ih _
  simp only[hk,if_false,pure_bind];unfold cJ;simp only[hk,if_false];exact ih _
variable {env:Env} {scope:Scope}
theorem js (h:∀y∈scope.names,y.2=.free->∃c,env.cells.lookup y.1=some c):closureFor scope env=pure (cJ env scope.names []):=by
 have e:=jr scope.names [] h;unfold closureFor
 first
  | (rw[show (forIn scope.names ([]:List (Str × Addr)) _:Sem (List (Str × Addr)))=pure (cJ env scope.names []) from e];rfl)
  | (simp only[bind_pure];exact e)
  | exact(congrArg (· >>= pure) e)
theorem gO {env:Env}:∀(ns:List (Str × NameKind)) (acc:List (Str × Addr)) (n:Str) (a:Addr),(n,a)∈cJ env ns acc->(n,a)∈acc\/(a=(env.cells.lookup n).getD 0/\(n,NameKind.free)∈ns)
 | [],acc,n,a,h=>.inl h
 | (m,k)::r,acc,n,a,h=>by
  unfold cJ at h;by_cases hk:(k==NameKind.free)=true
  ·rw[QB hk]at h;rcases gO r _ n a h with q|⟨q1,q2⟩
   ·rcases QQ.mp q with q|q
    ·cases q;have hk':k=.free:=by simpa using hk
     subst hk';exact .inr ⟨rfl,Xh⟩
    exact .inl q
   exact .inr ⟨q1,QG _ q2⟩
  rw[QC hk]at h;rcases gO r _ n a h with q|⟨q1,q2⟩
  ·exact .inl q
  exact .inr ⟨q1,QG _ q2⟩
theorem kA {env:Env}:∀(ns:List (Str × NameKind)) (acc:List (Str × Addr)) (p:Str × Addr),p∈acc->p∈cJ env ns acc
 | [],_,_,h=>h
 | (m,k)::r,acc,p,h=>by
  unfold cJ;refine kA r _ p ?_
  split
  ·exact QG _ h
  exact h
theorem jo {env:Env}:∀(ns:List (Str × NameKind)) (acc:List (Str × Addr)) (n:Str),(n,NameKind.free)∈ns->(n,(env.cells.lookup n).getD 0)∈cJ env ns acc
 | [],_,_,h=>nomatch h
 | (m,k)::r,acc,n,h=>by
  unfold cJ;rcases QQ.mp h with q|q
  ·cases q;refine kA r _ _ ?_;rw[QB (by rfl)];exact Xh
  exact jo r _ n q
theorem dr {α β:Type} [BEq α] [LawfulBEq α]:∀{l:List (α × β)} {x:α} {y:β},l.lookup x=some y->(x,y)∈l
 | [],_,_,h=>by simp at h
 | (a,b)::r,x,y,h=>by
  rw[QY]at h;by_cases e:(x==a)=true
  ·rw[e]at h;have e':x=a:=by simpa using e
   have h':b=y:=by simpa using h
   subst e' h';exact Xh
  have e2:(x==a)=false:=by simpa using e
  rw[e2]at h;exact QG _ (dr (by simpa using h))
theorem fA {α β:Type} [BEq α] [LawfulBEq α]:∀{l:List (α × β)} {x:α} {y:β},(x,y)∈l->∃z,l.lookup x=some z
 | [],_,_,h=>nomatch h
 | (a,b)::r,x,y,h=>by
  rw[QY];by_cases e:(x==a)=true
  ·rw[e];exact⟨b,rfl⟩
  have e2:(x==a)=false:=by simpa using e
  rw[e2];rcases QQ.mp h with q|q
  ·cases q;simp at e
  exact fA q
variable {c it e T D p:Addr} {x z:Str} {ns:List (Str × NameKind)}
theorem tZ (h:(cJ env ns []).lookup x=some c) (hall:∀y∈ns,y.2=.free->∃c,env.cells.lookup y.1=some c):env.cells.lookup x=some c:=by
 rcases gO ns [] x c (dr h) with q|⟨q1,q2⟩
 ·nomatch q
 obtain⟨c',hc⟩:=hall _ q2 rfl;have hc':env.cells.lookup x=some c':=hc;rw[hc']at q1;rw[hc',q1];rfl
theorem pS {env:Env} (h:(x,NameKind.free)∈ns):∃c,(cJ env ns []).lookup x=some c:=fA (jo ns [] x h)
noncomputable def Cx.block (X:Cx) (N:List Str) (scope:Scope) (C:Addr) (s:Shared) (H:Hp) (fp:C3):Cx :=
 { X with N:=N,s₀:=s,H₀:=H,env:=compEnvC scope (cJ X.env scope.names []) C X.env,outer:=X.stack,ex:=fp,fn:=λ_=>false,pn:=[],xe:=λ_ _=>False }
theorem lc {k:NameKind} (h:(relabel scope env).names.lookup x=some k):∃k',scope.names.lookup x=some k'/\(k=k'\/(k'=.free/\k=.cell)):=by
 unfold relabel at h;generalize scope.names=ns at h
 induction ns with
 | nil=>simp at h
 | cons p r ih =>
 obtain⟨n,k0⟩:=p;rw[QH]at h;by_cases e:(x==n)=true
 ·refine⟨k0,by rw[QY,e],?_⟩;by_cases c:(k0==NameKind.free&&env.scope.kind==.function&&env.kindOf n==some .cell)=true
  ·have h1:some NameKind.cell=some k:=by
    have h2:=h;simp only[c,if_true]at h2;rw[QY,e]at h2;exact h2
   have h3:k0=.free:=by
    simp only[Bool.and_eq_true,beq_iff_eq]at c;exact c.1.1
   exact .inr ⟨h3,(QT h1).symm⟩
  have h1:some k0=some k:=by
   have h2:=h;simp only[c,QP,if_false]at h2;rw[QY,e]at h2;exact h2
  exact .inl (QT h1).symm
 have e2:(x==n)=false:=by simpa using e
 rw[QY,e2];refine ih ?_;by_cases c:(k0==NameKind.free&&env.scope.kind==.function&&env.kindOf n==some .cell)=true
 ·have h2:=h;simp only[c,if_true]at h2;rw[QY,e2]at h2;exact h2
 have h2:=h;simp only[c,QP,if_false]at h2;rw[QY,e2]at h2;exact h2
theorem ld (h:scope.names.lookup x=some .free):(relabel scope env).names.lookup x=some .cell\/(relabel scope env).names.lookup x=some .free:=by
 unfold relabel;show List.lookup x (scope.names.map _)=_\/List.lookup x (scope.names.map _)=_;generalize scope.names=ns at h
 induction ns with
 | nil=>simp at h
 | cons p r ih =>
 obtain⟨n,k0⟩:=p;rw[QH];by_cases e:(x==n)=true
 ·rw[QY,e]at h;have h':k0=.free:=by simpa using h
  subst h';by_cases c:(NameKind.free==NameKind.free&&env.scope.kind==.function&&env.kindOf n==some .cell)=true
  ·left
   simp only[c,if_true];rw[QY,e]
  right
  simp only[c,QP,if_false];rw[QY,e]
 have e2:(x==n)=false:=by simpa using e
 rw[QY,e2]at h;have h3:=ih h;by_cases c:(k0==NameKind.free&&env.scope.kind==.function&&env.kindOf n==some .cell)=true
 ·simp only[c,if_true];rw[QY,e2];exact h3
 simp only[c,QP,if_false];rw[QY,e2];exact h3
def vm (X:Cx) (ifs:List Expr) (t:TT):Prop :=
 ∀(pins:C1) (s:Shared) (U:St) (H:Hp) (Q:Bool->Hp->Prop),Inv X pins U H s->t U H Q ->
  wpAny (model X.prog X.w) X.A (forIn ifs true λc r=>if r=true then do let ok <-isTrue c X.env (eval c X.env);pure (ForInStep.yield ok) else pure (ForInStep.yield r)) (TP X pins U Q) X.xe s
def fY:TT:=λ_ H Q=>Q true H
theorem mO {X:Cx}:vm X [] fY:=λ_ _ _ H _ I h=>wpAny_tests_nil ⟨H,I,h⟩
theorem dP {X:Cx} {c:Expr} {t:TT} (h:PT X c t):vm X [c] t:=λpins s U H Q I hw=>wpAny_tests_one (h pins s U H Q I hw)
variable {w:World} {prog P:Program}
theorem gj {A:Around} {R:Result->Shared->Prop} {s:Shared} {elt target iter:Expr} {ifs:List Expr} {pos:Pos} {it acc:Value} (I:Nat->Shared->Prop)
  (turn:∀n s,I n s->wpAny (model prog w) A (pyNext it) (fun r s1=>match r with
   | none=>R (.ok .next) s1
   | some v=>wpAny (model prog w) A (letOwnedTupleGo target it v) (λ_ s2=>wpAny (model prog w) A (assign target env v) (λ_ s3 =>
     wpAny (model prog w) A (forIn ifs true λc r=>if r=true then do let ok <-isTrue c env (eval c env);pure (ForInStep.yield ok) else pure (ForInStep.yield r)) (λok s4 =>
      if ok=true then wpAny (model prog w) A (eval elt env) (λx s5 =>
       wpAny (model prog w) A (call (.builtin "list.append") [acc,x]) (λ_ s6=>∃m,m<n/\I m s6) (λ_ _=>False) s5) (λ_ _=>False) s4
      else ∃m,m<n/\I m s4) (λ_ _=>False) s3) (λ_ _=>False) s2) (λ_ _=>False) s1) (λ_ _=>False) s)
  (n:Nat) (h:I n s):codeAny (model prog w) A (.compLoop (.ListComp elt [⟨target,iter,ifs,0⟩] scope pos) 0 it acc env) R s:=by
 refine codeAny_loop rfl I (λn s hI=>?_) n h;show wpAny _ A ((compTurn (.ListComp elt [⟨target,iter,ifs,0⟩] scope pos) 0 it acc env).onRaise (λx=>do noteFrame x env;theTreesLotGoes x)) _ _ s;refine wpAny_noted ?_;rw[compTurn_list];have no:∀{E:C0},∀e s',(λ(_:Value) (_:Shared)=>False) e s'->E e s':=λ_ _ z=>False.elim z;refine Qe (wpAny_standAt (Qe (Xj (turn n s hI) (λr s1 h1=>?_) no)))
 cases r with
 | none=>exact Qn h1
 | some v =>
 refine Qe (Xj h1 (λ_ s2 h2=>?_) no);refine Qe (Xj h2 (λ_ s3 h3=>Qe (Xj h3 (λok s4 h4=>?_) no)) no)
 cases ok with
 | false=>exact Qn ⟨rfl,h4⟩
 | true =>
 exact Qe (Qe (Xj h4 (λx s5 h5=>Qe (Xj h5 (λ_ s6 h6=>Qn (Qn ⟨rfl,h6⟩)) no)) no))
def bI (tgs:List Str) (cap:List (Str × Nat)) (U:St):St:=tgs.map (λ_=>none)++cap.map λc=>(U[c.2]?).join
def iD (wi:TI) (g:TG) (tt:TT) (te:TE) (f:St->St):TE:=λU H Q=>wi U H λJ H1=>∀D,H1 D=none->∃W:Nat->Nat->Hp->List V->Prop,(∃m,W 0 m (upd H1 D (.lst [])) []) /\
 ∀i m H ys,W i m H ys->H D=some (.lst ys)/\((J.stop i H/\Q (.ref D) H)\/(J.go i H/\∀x H',J.yld i H x H'->g x (f U) H' λσ2 H2=>wk (f U) σ2/\tt σ2 H2 λb H3 =>
  if b=true then te σ2 H3 λv H4=>H4 D=some (.lst ys)/\ys.length<sizeLine/\∃m',m'<m/\W (i+1) m' (upd H4 D (.lst (ys++[v]))) (ys++[v])
  else ∃m',m'<m/\W (i+1) m' H3 ys))
structure BlockOk (X:Cx) (scope:Scope) (tgs:List Str) (cap:List (Str × Nat)):Prop where
 kind:scope.kind=.function
 nocell:(scope.names.all λy=>!(y.2==NameKind.cell))=true
 names:(scope.names.all λy=>!(y.2==NameKind.local) || (scope.names.lookup y.1==some .local))=true
 free:(scope.names.all λy=>!(y.2==NameKind.free) || (X.env.scope.names.lookup y.1==some .cell) || (X.env.scope.names.lookup y.1==some .free))=true
 caps:(cap.all λc=>decide (X.N[c.2]?=some c.1)&&(scope.names.lookup c.1==some .free)&&(decide (X.env.scope.names.lookup c.1=some .cell) || decide (X.env.scope.names.lookup c.1=some .free)))=true
 tgl:(tgs.all λx=>(scope.names.lookup x==some .local))=true
section
variable {X:Cx} {scope:Scope} {tgs:List Str} {cap:List (Str × Nat)}
theorem BlockOk.cellAt (B:BlockOk X scope tgs cap) (ok:X.Ok):∀y∈scope.names,y.2=.free->∃c,X.env.cells.lookup y.1=some c:=λy hy hk=>by
 have q:=Q0.mp B.free y hy;rw[hk]at q;refine ok.has y.1 ?_;simp only[beq_self_eq_true,Bool.not_true,Bool.false_or,Bool.or_eq_true,beq_iff_eq]at q;exact q
theorem BlockOk.noc (B:BlockOk X scope tgs cap):∀y∈scope.names,y.2≠.cell:=λy hy hk=>by
 have q:=Q0.mp B.nocell y hy;rw[hk]at q;simp at q
theorem BlockOk.locs (B:BlockOk X scope tgs cap):∀y∈scope.names,y.2=.local->scope.names.lookup y.1=some .local:=λy hy hk=>by
 have q:=Q0.mp B.names y hy;rw[hk]at q;simpa using q
variable {pins:C1}
theorem Inv.enter {U:St} {H:Hp} {s:Shared} {h1:Heap} {tk:Nat} {fp:C3} (B:BlockOk X scope tgs cap) (I:Inv X pins U H s) (hfp:∀b∈fp,fV X pins H b) (hlt:∀b∈fp,b<s.heap.objs.size)
  (hns:h1.Ns s.heap.objs.size (λ_=>none)) (old:∀b o,s.heap.get? b=some o->h1.get? b=some o) :
  Inv (X.block (tgs++cap.map (·.1)) scope s.heap.objs.size s H fp) [] (bI tgs cap U) H { s with heap:=h1,toks:=tk }:=by
 have cellsIn:∀x c,(cJ X.env scope.names []).lookup x=some c->X.env.cells.lookup x=some c:=λx c e=>tZ e (B.cellAt I.ok)
 have kindIn:∀x,((relabel scope X.env).names.lookup x=some .cell\/(relabel scope X.env).names.lookup x=some .free)->(x,NameKind.free)∈scope.names:=λx hx=>by
  have go:∀k,(relabel scope X.env).names.lookup x=some k->(k=.cell\/k=.free)->(x,NameKind.free)∈scope.names:=λk hk hc=>by
   obtain⟨k',e1,e2⟩:=lc hk;have m:=dr e1;rcases e2 with e2|⟨e2,_⟩
   ·subst e2;rcases hc with z|z
    ·exact absurd z (B.noc _ m)
    subst z;exact m
   subst e2;exact m
  rcases hx with h|h
  ·exact go _ h (.inl rfl)
  exact go _ h (.inr rfl)
 have nocl:∀x c,X.env.cells.lookup x=some c->c≠s.heap.objs.size:=λx c e=>by
  obtain⟨v,q⟩:=I.cell x c e;exact QE q.lt
 refine⟨⟨I.ok.mod,?_,I.ok.glob,I.ok.blt,Qg _,λx y c e1 e2=>I.ok.inj x y c (cellsIn x c e1) (cellsIn y c e2),λx hx=>?_,λx c hf _=>absurd (show false=true from hf) Qj,I.ok.hd,I.ok.frames,.inl rfl,
  λb hb=>⟨QE (hlt b hb),λx c e=>?_⟩,I.bs,QM I.ok.bsz I.sz,λb o e hb=>?_,λb hb hf=>?_,I.stack,I.stkFree⟩,
  rfl,I.bare,Un.kept old,⟨_,hns,λi x v h2 h3 h4=>?_⟩,λx c e=>?_,?_,λx c e=>I.freeC x c (cellsIn x c e),λp hp=>absurd (show p∈([]:C1) from hp) (by simp),I.hok.kept old,?_⟩
 ·exact B.kind
 ·exact pS (kindIn x hx)
 ·exact(hfp b hb).2.2.2.2.1 x c (cellsIn x c e)
 ·-- no object of the base is an iterator of ours
  rcases(hfp b hb).2.2.2.1 with z|z
  ·exact I.ok.noex b o e z
  have q:=I.ok.bs b o e;exact absurd (QF (Qk q.1) z) (Xw _)
 ·have hf':b∈frs X.stack:=hf;rcases QQ.mp (I.stkSub b hf') with z|z
  ·exact(hfp b hb).2.1 z
  exact(hfp b hb).2.2.1 z
 ·-- a name that is known: one of the captured ones
  have hi:tgs.length<=i:=by
   by_cases hl:i<tgs.length
   ·exfalso;unfold bI at h3;rw[Qu (by simpa using hl),Qm]at h3
    cases e:tgs[i]? with
    | none=>rw[e]at h3;cases h3
    | some z=>rw[e]at h3;cases h3
   exact om2 hl
  unfold bI at h3;rw[Qs (by simpa using hi),Qa,Qm]at h3;have h2':(tgs++cap.map (·.1))[i]?=some x:=h2;rw[Qs hi,Qm]at h2'
  cases e:cap[i-tgs.length]? with
  | none=>rw[e]at h2';cases h2'
  | some c =>
  rw[e]at h2' h3;have hx:c.1=x:=by simpa using h2'
  have hv:(U[c.2]?).join=some v:=by simpa using h3
  have hm:c∈cap:=Qh e;have q:=Q0.mp B.caps c hm;simp only[Bool.and_eq_true,decide_eq_true_eq,beq_iff_eq,Bool.or_eq_true]at q;obtain⟨⟨q1,q2⟩,q3⟩:=q
  have hσ:U[c.2]?=some (some v):=by
   cases z:U[c.2]? with
   | none=>rw[z]at hv;cases hv
   | some o =>
   rw[z]at hv;have:o=some v:=by simpa using hv
   rw[this]
  obtain⟨m,_,hl⟩:=I.loc
  obtain⟨u,r,l⟩:=hl c.2 c.1 v q1 hσ (by
   rcases q3 with z|z
   ·exact .inr (.inl z)
   exact .inr (.inr z))
  subst hx;refine⟨u,r,.inr ⟨ld q2,?_⟩⟩
  have nl:¬X.env.kindOf c.1=some .local:=λz=>by
   rcases q3 with y|y
   ·have:X.env.kindOf c.1=some .cell:=y;rw[this]at z;cases z
   have:X.env.kindOf c.1=some .free:=y;rw[this]at z;cases z
  rcases l with⟨l1,_⟩|⟨_,d,l2,l3⟩
  ·exact absurd l1 nl
  obtain⟨d',e'⟩:=pS (env:=X.env) (dr q2);have:d=d':=QT (l2.symm.trans (cellsIn _ _ e'));subst this;obtain⟨oc,ho,hd⟩:=l3;exact⟨d,e',oc,old d oc ho,hd⟩
 ·obtain⟨v,oc,ho,hd⟩:=I.cell x c (cellsIn x c e);exact⟨v,oc,old c oc ho,hd⟩
 ·exact I.hok.fresh (Qg _)
 unfold bI;show _=(tgs++cap.map (·.1)).length;simp
theorem Inv.leave {U σ':St} {H H':Hp} {s s':Shared} {h2:Heap} {fp:C3} {N:List Str} (I:Inv X pins U H s) (hfp:∀b∈fp,fV X pins H b)
  (J:Inv (X.block N scope s.heap.objs.size s H fp) [] σ' H' s') (hs:Heap.SameBut s.heap.objs.size s'.heap h2):Inv X pins U H' { s' with heap:=h2 }:=by
 have u:Un (frs X.stack) fp H H' s.heap s'.heap:=J.base;have ne:∀b o,s.heap.get? b=some o->b≠s.heap.objs.size:=λb o e=>QE (Qk e);have hf:H' s.heap.objs.size=none:=J.free;have k:∀b o,b≠s.heap.objs.size->s'.heap.get? b=some o->h2.get? b=some o:=λb o hb e=>(hs.2 b hb).trans e
 have u2:Un (frs X.stack) fp H H' s.heap h2 :=
  ⟨λb o e n h1 h3=>k b o (ne b o e) (u.keep b o e n h1 h3),λb o e n h1 h3=>let ⟨sl,q⟩:=u.slot b o e n h1 h3;⟨sl,k b _ (ne b o e) q⟩,u.free,λb o e h3=>let ⟨o',q⟩:=u.there b o e h3;⟨o',k b o' (ne b o e) q⟩,u.tups,u.frzs,u.tbls⟩
 have hok:HOk X.prog X.w H' h2:=λb ob e=>(J.hok b ob e).stay (λc v hc q=>k c v (by
  rcases hc with z|z
  ·subst z;intro y;rw[y,hf]at e;cases e
  intro y
  rw[y,hf]at z;cases z) q) (λ_ q=>q) λ_ _ q=>q
 exact Inv.call' I (s':={ s' with heap:=h2 }) J.os u2 hok J.bare λb hb=>by
  obtain⟨f0,f1,f2,f3,f4,f5⟩:=hfp b hb;exact⟨f3,f1,f4,f5⟩
theorem i5 {elt tg iter:Expr} {ifs:List Expr} {pos:Pos} {wi:TI} {g:TG} {tt:TT} {te:TE} (hc:X.calm=true) (B:BlockOk X scope tgs cap) (hi:PI X tg iter wi)
  (hg:∀C s H fp,PG (X.block (tgs++cap.map (·.1)) scope C s H fp) tg g) (ht:∀C s H fp,vm (X.block (tgs++cap.map (·.1)) scope C s H fp) ifs tt) (he:∀C s H fp,PE (X.block (tgs++cap.map (·.1)) scope C s H fp) elt te)
  (hs:∀x,foldedSetIterable iter X.env x=pure x:=by intro _;rfl):PE X (.ListComp elt [⟨tg,iter,ifs,0⟩] scope pos) (iD wi g tt te (bI tgs cap)):=by
 intro pins s U H Q I h;rw[eval_ListComp];refine wpAny_comprehension_free (use:=none) rfl hs (js (B.cellAt I.ok)) B.kind B.locs (thn (hi pins s U H _ I h) λv s1 h1=>thn h1 λitv s2 h2=>?_);obtain⟨it,fp,tn,J,H2,e,I2,T,st2,f2,q⟩:=h2;subst e;have lt2:∀b∈fp,b<s2.heap.objs.size:=λb hb=>let ⟨o,e,_⟩:=T.obj _ _ st2 b hb;Qk e;have hD:H2 s2.heap.objs.size=none:=I2.hok.fresh (Qg _);obtain⟨W,⟨m0,w0⟩,turn⟩:=q s2.heap.objs.size hD;refine wpAny_newObj_type ?_;have I3:Inv X pins U (upd H2 s2.heap.objs.size (.lst [])) { s2 with heap:=s2.heap.push { cls:=.type "list", dict:=none,data:=.seq ([]:List Value).toArray } }:=I2.lnew (t':=s2.toks) (ys:=[]) (its:=[]) .nil (QO _);have st3:tn 0 (s2.heap.push { cls:=.type "list", dict:=none,data:=.seq ([]:List Value).toArray }):=T.keep _ _ _ st2 λb _ o e=>Qd _ e;have nD:∀b∈fp,b≠s2.heap.objs.size:=λb hb=>QE (lt2 b hb);have f3:∀b∈fp,fV X pins (upd H2 s2.heap.objs.size (.lst [])) b:=λb hb=>⟨by rw[ao (nD b hb)];exact(f2 b hb).1,(f2 b hb).2⟩;generalize hs3:({ s2 with heap:=s2.heap.push { cls:=.type "list", dict:=none,data:=.seq ([]:List Value).toArray } }:Shared)=s3 at I3 st3 ⊢;have st3':tn 0 s3.heap:=by rw[<-hs3];exact st3
 have lt3:∀b∈fp,b<s3.heap.objs.size:=λb hb=>let ⟨o,e,_⟩:=T.obj _ _ st3' b hb;Qk e;generalize hH3:upd H2 s2.heap.objs.size (.lst [])=H3 at I3 f3 w0;generalize s2.heap.objs.size=D at *;refine wpAny_newFunctionEnv B.noc (by intro y hy;simp at hy) (λh1 hns hsb=>?_) B.kind;have old:∀b o,s3.heap.get? b=some o->h1.get? b=some o:=λb o e=>hsb.extBut b o (QE (Qk e)) (Qd _ e);have I4:=Inv.enter (tk:=s3.toks+([]:List (Str × Value)).length) (h1:=h1) B I3 f3 lt3 hns old;have st4:tn 0 h1:=T.keep _ _ _ st3' λb _ o e=>old b o e
 have fpB:∀{H':Hp},(∀b∈fp,H' b=none)->∀b∈fp,fV (X.block (tgs++cap.map (·.1)) scope s3.heap.objs.size s3 H3 fp) [] H' b:=λ{H'} hn b hb =>
  ⟨hn b hb,QE (lt3 b hb),I4.ok.exfs b hb,.inl hb,λx c e=>(I4.ok.exf b hb).2 x c e,λp hp=>absurd (show p∈([]:C1) from hp) (by simp)⟩
 have loop:codeAny (model X.prog X.w) X.A (.compLoop (.ListComp elt [⟨tg,iter,ifs,0⟩] scope pos) 0 (.ref it) (.ref D) (compEnvC scope (cJ X.env scope.names []) s3.heap.objs.size X.env))
   (compPost (model X.prog X.w) X.A X.xe none (EP X pins U Q) (.ref D) s3.heap.objs.size) { s3 with heap:=h1,toks:=s3.toks+([]:List (Str × Value)).length }:=by
  refine gj (λn s'=>∃i H' ys,Inv (X.block (tgs++cap.map (·.1)) scope s3.heap.objs.size s3 H3 fp) [] (bI tgs cap U) H' s'/\tn i s'.heap/\(∀b∈fp,H' b=none)/\W i n H' ys) ?_ m0 ⟨0,H3,[],I4,st4,λb hb=>(f3 b hb).1,w0⟩;rintro n s5 ⟨i,H5,ys,I5,st5,fr5,w5⟩;obtain⟨hl,ht5⟩:=turn i n H5 ys w5;rcases ht5 with⟨stop,qd⟩|⟨go,step⟩
  ·refine thn (T.done (X.block (tgs++cap.map (·.1)) scope s3.heap.objs.size s3 H3 fp) rfl rfl rfl hc i [] s5 _ H5 _ I5 (fpB fr5) st5 stop) λr s6 ⟨hr,I6⟩=>?_;subst hr;obtain⟨m6,n6,_⟩:=I6.loc;exact⟨m6,n6,λh' hs'=>⟨.ref D,H5,Inv.leave I3 f3 I6 hs',rfl,qd⟩⟩
  refine thn (T.item (X.block (tgs++cap.map (·.1)) scope s3.heap.objs.size s3 H3 fp) rfl rfl rfl hc i [] s5 _ H5 _ I5 (fpB fr5) st5 go) λr s6 ⟨u,hr,h6⟩=>?_;subst hr;refine thn h6 λ_ s7 ⟨x,H7,I7,r7,y7,st7,fr7⟩=>?_;have I7':=I7.pinned (fpB fr7) (T.obj _ _ st7)
  have again:∀{σ8:St} {H8:Hp} {s8:Shared} {ys8:List V},Inv (X.block (tgs++cap.map (·.1)) scope s3.heap.objs.size s3 H3 fp) ([]++gE fp s7.heap) σ8 H8 s8->wk (bI tgs cap U) σ8->(∃m',m'<n/\W (i+1) m' H8 ys8) ->
    ∃m,m<n/\∃i H' ys,Inv (X.block (tgs++cap.map (·.1)) scope s3.heap.objs.size s3 H3 fp) [] (bI tgs cap U) H' s8/\tn i s8.heap/\(∀b∈fp,H' b=none)/\W i m H' ys:=λ{σ8 H8 s8 ys8} I8 k8 ⟨m',hm,w8⟩=>by
   refine⟨m',hm,i+1,H8,ys8,I8.unpinned.weak (kK k8) (kL k8),T.keep _ _ _ st7 λb hb o e=>(I8.pin (b,o) (QN _ (QN _ (cO hb e)))).1,λb hb=>?_,w8⟩;obtain⟨o,e,d⟩:=T.obj _ _ st7 b hb;exact(I8.pin (b,o) (QN _ (QN _ (cO hb e)))).2.1
  refine thn (hg _ _ _ _ _ s7 _ H7 x u _ I7' r7 (step x H7 y7)) λ_ s8 ⟨σ8,H8,I8,k8,q8⟩=>?_;refine thn (ht _ _ _ _ _ s8 σ8 H8 _ I8 q8) λok s9 ⟨H9,I9,q9⟩=>?_
  cases ok with
  | false =>
   rw[QC Qj]at q9 ⊢;exact again I9 k8 q9
  | true =>
  rw[QB rfl]at q9 ⊢;refine thn (he _ _ _ _ _ s9 σ8 H9 _ I9 q9) λy sA ⟨yv,HA,IA,rA,hA,zA,qA⟩=>?_;exact thn (bR _ sA σ8 HA (.ref D) [yv] (.ref D) [y] (λv H'=>v=.non/\∃m',m'<n/\W (i+1) m' H' (ys++[yv])) IA rfl (.cons rA .nil) ⟨D,ys,yv,rfl,rfl,hA,zA,rfl,qA⟩) λ_ sB ⟨_,HB,IB,_,_,qB⟩=>again IB k8 qB
 exact codeAny_compStart_list loop (T.self _ 0 _ _ _ st4 loop)
theorem i6 {X:Cx} {scope:Scope} {elt iter:Expr} {p pos:Pos} {wi:TI} {te:TE} (x:Str) (cap:List (Str × Nat)) (hi:PI X (.Name x p) iter wi) (he:∀C s H fp,PE (X.block ([x]++cap.map (·.1)) scope C s H fp) elt te) (hc:X.calm=true:=by rfl) (B:BlockOk X scope [x] cap:=by exact⟨rfl,rfl,rfl,rfl,rfl,rfl⟩) (hN:([x]++cap.map (·.1)).Nodup:=by decide +kernel) (hg:([x]++cap.map (·.1)).Nodup->∀C s H fp,PG (X.block ([x]++cap.map (·.1)) scope C s H fp) (.Name x p) (dW 0):=by intro h _ _ _ _;exact cE (i:=0) h rfl (by z_go)) (hs:∀x,foldedSetIterable iter X.env x=pure x:=by intro _;rfl):PE X (.ListComp elt [⟨.Name x p,iter,[],0⟩] scope pos) (iD wi (dW 0) fY te (bI [x] cap)):=i5 hc B hi (hg hN) (λ_ _ _ _=>mO) he hs
end
def Itf (n:Nat) (f:Nat->V):It:=⟨λi _=>i<n,λi H x H'=>H'=H/\x=f i,λi _=>i=n⟩
variable {n i:Nat}
theorem iC {K:PySem.W.Frag} {px:Pos} {f:Nat->V} {Pv:Nat->Value->Prop} {St:Nat->Heap->Prop}
  (W:∀A:Around,A.handled=none->Walks P w A it [it] [it] n Pv St) (hP:∀i v,Pv i v->aO (f i) v) (hobj:∀i h,St i h->∃o,h.get? it=some o/\∀v,o.data≠.cell v)
  (hfr:∀i h h',St i h->(∀o,h.get? it=some o->h'.get? it=some o)->St i h')
  (hself:∀(A:Around) (i:Nat) (s:Shared) (Q:C0) (E:C0),St i s.heap->Q (.ref it) s->wpAny (model P w) A (pyIter (.ref it)) Q E s) :
  Turn P w K (.Name x px) (Itf n f) [it] it St where
 mem:=by simp
 obj:=λi h st b hb=>by
  have e:b=it:=by simpa using hb
  subst e;exact hobj i h st
 keep:=λi h h' st k=>hfr i h h' st λo e=>k it (by simp) o e
 item:=by
  intro X hP' hw hK hc i pins s U H E I hf st hg;subst hP' hw hK;obtain⟨f0,f1,f2,f3,f4,f5⟩:=hf it (by simp);refine(W X.A (I.ok.hd hc)).item i s _ _ hg st λv h' tk hv st' kk=>?_;have I1:Inv X pins U H { s with heap:=h',toks:=tk }:=I.turned (λb o hb e=>kk b o (by simpa using hb) e) f0 f1 f3 f4 f5;refine⟨v,rfl,wpAny_of_eq (a:=()) (by rfl) ⟨f i,H,I1,hP i v hv,⟨rfl,rfl⟩,st',λb hb=>(hf b hb).1⟩⟩
 done:=by
  intro X hP' hw hK hc i pins s U H E I hf st hg;subst hP' hw hK;obtain⟨f0,f1,f2,f3,f4,f5⟩:=hf it (by simp);have e:i=n:=hg;subst e;exact(W X.A (I.ok.hd hc)).done s _ _ st λh' tk kk=>⟨rfl,I.turned (λb o hb e=>kk b o (by simpa using hb) e) f0 f1 f3 f4 f5⟩
 self:=λA i s Q E st h=>hself A i s Q E st h
def eL (z:Str) (i:Nat):V:=.str ⟨#[z.cps.getD i 0]⟩
theorem iQ {v:Value} (h:SignAt z i v):aO (eL z i) v:=by
 obtain⟨c,u,h1,h2⟩:=h;subst h2;refine⟨u,?_⟩;have:z.cps.getD i 0=c:=by rw[Array.getD_eq_getD_getElem?,h1];rfl
 rw[this]
theorem rm {K:PySem.W.Frag} {px:Pos} {t:Tok} {ty:String} (hty:ty = "str_ascii_iterator" \/ ty = "str_iterator") :
  Turn P w K (.Name x px) (Itf z.cps.size (eL z)) [it] it (λi h=>h.IsStrIter it ty z t i):=by
 rcases hty with e|e
 ·subst e
  exact iC (λA hA=>Walks.strAscii hA it z t) (λi v h=>iQ h) (λi h st=>let ⟨o,e,_,d⟩:=st;⟨o,e,λv q=>by rw[d]at q;cases q⟩)
   (λi h h' st k=>let ⟨o,e,r⟩:=st;⟨o,k o e,r⟩) λA i s Q E st q=>wpAny_pyIter_striter_ascii st q
 subst e
 exact iC (λA hA=>Walks.strWide hA it z t) (λi v h=>iQ h) (λi h st=>let ⟨o,e,_,d⟩:=st;⟨o,e,λv q=>by rw[d]at q;cases q⟩)
  (λi h h' st k=>let ⟨o,e,r⟩:=st;⟨o,k o e,r⟩) λA i s Q E st q=>wpAny_pyIter_striter_wide st q
section
variable {X:Cx} {x:Str} {px:Pos}
def A3 (tl:TE):TI:=λU H R=>tl U H λv H1=>∃z:Str,v=.str z/\R (Itf z.cps.size (eL z)) H1
theorem wM {l:Expr} {tl:TE} (hl:PE X l tl):PI X (.Name x px) l (A3 tl):=by
 intro pins s U H R I h;refine thn (hl pins s U H _ I h) λv s1 ⟨y,H1,I1,r1,q1⟩=>?_;obtain⟨z,e,q⟩:=q1;subst e;obtain⟨t,e⟩:=r1;subst e
 have fin:∀ty:String,(ty = "str_ascii_iterator" \/ ty = "str_iterator")->PIE X pins U (.Name x px) R (.ref s1.heap.objs.size) { s1 with heap:=s1.heap.push { cls:=.type ty,data:=.fields #[.str z t,.int 0 0] } }:=λty hty=>by
  refine⟨s1.heap.objs.size,[s1.heap.objs.size],_,_,H1,rfl,I1.kept (t':=s1.toks) λb o e=>Qd _ e,rm (t:=t) hty,⟨_,Qw _ rfl,rfl,rfl⟩,λb hb=>?_,q⟩;have e:b=s1.heap.objs.size:=by simpa using hb
  subst e;exact I1.fpOk (Qg _) (I1.hok.fresh (Qg _))
 cases ha:z.cps.all (·<128) with
 | false=>exact wpAny_pyIter_wide ha (fin _ (.inr rfl))
 | true=>exact wpAny_pyIter_ascii ha (fin _ (.inl rfl))
end
section
variable {X:Cx}
def xH:V->Option Int->Option Int->Hp->VK->Prop:=λx lo hi H Q=>∃z:Str,x=.str z/\z.length<=sizeLine/\Q (.str (Txt.slice z lo hi)) H
theorem kT:SlR X xH:=by
 intro pins s U H x v vl vu lo hi sl Q I rx hs pl pu h;obtain⟨z,e,hz,q⟩:=h;subst e;obtain⟨t,e⟩:=rx;subst e;refine⟨"str", _,F.slot_str_getitem.lookup,typeIs_str _ _ _,?_⟩;have fin:∀(t':Tok) (k:Nat),EP X pins U Q (.str (Txt.slice z lo hi) t') { s with toks:=k }:=λt' k=>⟨.str _,H,I.tok k,⟨t',rfl⟩,q⟩
 cases pl with
 | none =>
  cases pu with
  | none=>exact wpAny_getItem_str_slice (l:=none) (u:=none) (st:=none) hs rfl (post_val_or_str ⟨QM (Txt.slice_le z _ _) hz,fin⟩)
  | int j uj=>exact wpAny_getItem_str_slice (l:=none) (u:=some (j,uj)) (st:=none) hs rfl (post_val_or_str ⟨QM (Txt.slice_le z _ _) hz,fin⟩)
 | int i ui =>
 cases pu with
 | none=>exact wpAny_getItem_str_slice (l:=some (i,ui)) (u:=none) (st:=none) hs rfl (post_val_or_str ⟨QM (Txt.slice_le z _ _) hz,fin⟩)
 | int j uj=>exact wpAny_getItem_str_slice (l:=some (i,ui)) (u:=some (j,uj)) (st:=none) hs rfl (post_val_or_str ⟨QM (Txt.slice_le z _ _) hz,fin⟩)
theorem d8:∀{ys:List Str} {us:List Value},ba (ys.map V.str) us->StrsAre us ys
 | [],_,r=>by
  rw[List.map_nil]at r;cases r;exact .nil
 | y::ys,_,r=>by
  rw[QH]at r
  cases r with
  | cons r1 r2 =>
  obtain⟨t,e⟩:=r1;subst e;exact .cons y t (d8 r2)
def xK (K:PySem.W.Frag):V->List V->Hp->VK->Prop:=λx vs H Q=>∃(z:Str) (l:Addr) (ys:List Str),x=.str z/\vs=[.ref l]/\SqL K H l (ys.map V.str)/\(ys.map (·.length)).sum+ys.length*z.length<=16777216/\Q (.str (Txt.join z ys)) H
theorem uY:MtR X "str.join" (xK X.K):=by
 intro pins s U H x vs v us Q I rx rv h;obtain⟨z,l,ys,e1,e2,hl,hz,q⟩:=h;subst e1 e2;obtain⟨t,e⟩:=rx;subst e;obtain⟨u,e,ru⟩:=rv.one;subst e;cases ru;obtain⟨its,r,pl,_⟩:=I.list hl;exact join_list pl.isList (by simpa using d8 r) hz λt' k=>⟨.str _,H,I.tok k,⟨t',rfl⟩,q⟩
theorem qL (ys:List Str):(Txt.join Str.empty ys).cps.toList=(ys.map (·.cps.toList)).flatten:=by
 unfold Txt.join;rw[PySem.StrLaws.glued_eq_join]
 induction ys with
 | nil=>rfl
 | cons y r ih =>
 cases r with
 | nil=>simp[Str.join]
 | cons y2 r2 =>
 show (y++Str.empty++Str.join Str.empty (y2::r2)).cps.toList=_;rw[QH,List.flatten_cons,<-ih];show (y.cps++Str.empty.cps++(Str.join Str.empty (y2::r2)).cps).toList=_;simp[Str.empty]
end
inductive EqD (K:PySem.W.Frag) (H:Hp):Nat->V->V->Bool->Prop
 | flat {n:Nat} {x y:V}:dA x=true->dA y=true->EqD K H n x y (eqV x y)
 | same {n:Nat} {a:Addr}:EqD K H n (.ref a) (.ref a) true
 | lists {n:Nat} {a b:Addr} {xs ys:List V} {e:Nat->Bool}:SqL K H a xs->SqL K H b ys->xs.length=ys.length->(∀(j:Nat) x y,xs[j]?=some x->ys[j]?=some y->EqD K H n x y (e j))->a≠b ->
   EqD K H (n+1) (.ref a) (.ref b) ((List.range xs.length).all e)
 | tups {n:Nat} {a b:Addr} {xs ys:List V} {e:Nat->Bool}:SqT K H a xs->SqT K H b ys->(∀(j:Nat) x y,xs[j]?=some x->ys[j]?=some y->EqD K H n x y (e j))->a≠b ->
   EqD K H (n+1) (.ref a) (.ref b) ((List.range (min xs.length ys.length)).all e&&xs.length==ys.length)
theorem EqD.at {X:Cx} {pins:C1} {U:St} {H:Hp} {s:Shared} (I:Inv X pins U H s) {n:Nat} {x y:V} {b:Bool} (h:EqD X.K H n x y b) :
  ∀{A:Around} {u v:Value},A.units+n<cLine->aO x u->aO y v->SeqAt.EqAt A s u v b:=by
 induction h with
 | flat fx fy=>intro A u v _ rx ry;exact oA rx ry fx fy
 | same =>
  intro A u v _ rx ry;cases rx;cases ry;exact SeqAt.EqAt.same _
 | @lists n a c xs ys e ha hb hl hi hne ih =>
  intro A u v hu rx ry;cases rx;cases ry;obtain⟨its,r1,p1,_⟩:=I.list ha;obtain⟨its2,r2,p2,_⟩:=I.list hb;have l1:=r1.length;have l2:=r2.length;refine SeqAt.EqAt.of_refs hne ?_
  have q:=SeqAt.RcAt.lists (A:=A) (e:=e) p1.isList p2.isList (by rw[Qi,Qi];exact om7 hl l1 l2) (by exact om8 hu) λj h1 h2=>by
   rw[Qi]at h1 h2;have e1:xs[j]?=some xs[j]:=Qb (by exact om9 hl l1 l2 h1);have e2:ys[j]?=some ys[j]:=Qb (by exact Cc hl l1 l2 h1);obtain⟨w1,g1,rr1⟩:=r1.get e1;obtain⟨w2,g2,rr2⟩:=r2.get e2
   have g1':its.toArray[j]=w1:=by
    have:=(Qc.mp g1).2;simpa using this
   have g2':its2.toArray[j]=w2:=by
    have:=(Qc.mp g2).2;simpa using this
   rw[g1',g2'];exact ih j _ _ e1 e2 (by show A.units+1+n<cLine;exact AJ hu) rr1 rr2
  rw[Qi,<-l1]at q;exact q
 | @tups n a c xs ys e ha hb hi hne ih =>
 intro A u v hu rx ry;cases rx;cases ry;obtain⟨its,r1,p1,_⟩:=I.tuple ha;obtain⟨its2,r2,p2,_⟩:=I.tuple hb;have l1:=r1.length;have l2:=r2.length;refine SeqAt.EqAt.of_refs hne ?_
 have q:=SeqAt.RcAt.tuples (A:=A) (e:=e) (show s.heap.IsTuple a its.toArray from p1) (show s.heap.IsTuple c its2.toArray from p2) (by exact om8 hu) λj h1 h2=>by
  rw[Qi]at h1 h2;have e1:xs[j]?=some xs[j]:=Qb (by exact sC l1 h1);have e2:ys[j]?=some ys[j]:=Qb (by exact sC l2 h2);obtain⟨w1,g1,rr1⟩:=r1.get e1;obtain⟨w2,g2,rr2⟩:=r2.get e2
  have g1':its.toArray[j]=w1:=by
   have:=(Qc.mp g1).2;simpa using this
  have g2':its2.toArray[j]=w2:=by
   have:=(Qc.mp g2).2;simpa using this
  rw[g1',g2'];exact ih j _ _ e1 e2 (by show A.units+1+n<cLine;exact AJ hu) rr1 rr2
 rw[Qi,Qi,<-l1,<-l2]at q;exact q
section
variable {X:Cx}
theorem EqD.items {pins:C1} {U:St} {H:Hp} {s:Shared} (I:Inv X pins U H s) {n:Nat} {A:Around} (hu:A.units+1+n<cLine) {xs ys:List V} {its its2:List Value} (r1:ba xs its) (r2:ba ys its2) {e:Nat->Bool}
  (h:∀(j:Nat) x y,xs[j]?=some x->ys[j]?=some y->EqD X.K H n x y (e j)) (j:Nat) (h1:j<its.toArray.size) (h2:j<its2.toArray.size):SeqAt.EqAt A.in1 s its.toArray[j] its2.toArray[j] (e j):=by
 have l1:=r1.length;have l2:=r2.length;rw[Qi]at h1 h2;have e1:xs[j]?=some xs[j]:=Qb (by exact Aq h1 l1);have e2:ys[j]?=some ys[j]:=Qb (by exact Aq h2 l2);obtain⟨w1,g1,rr1⟩:=r1.get e1;obtain⟨w2,g2,rr2⟩:=r2.get e2
 have g1':its.toArray[j]=w1:=by
  have:=(Qc.mp g1).2;simpa using this
 have g2':its2.toArray[j]=w2:=by
  have:=(Qc.mp g2).2;simpa using this
 rw[g1',g2'];exact EqD.at I (h j _ _ e1 e2) (by show A.units+1+n<cLine;exact hu) rr1 rr2
def rV (K:PySem.W.Frag) (neg:Bool):R2:=λx y H Q=>∃a b xs ys e,x=.ref a/\y=.ref b/\SqL K H a xs/\SqL K H b ys/\(∀(j:Nat) x y,xs[j]?=some x->ys[j]?=some y->EqD K H 8 x y (e j)) /\
 Q (.bl (if neg then !(xs.length==ys.length&&(List.range xs.length).all e) else (xs.length==ys.length&&(List.range xs.length).all e))) H
theorem nX (hu:X.A.units+64<cLine):OpR X (compareOp .Eq) (rV X.K false):=by
 intro pins s U H x y v u Q I rx ry h;obtain⟨a,b,xs,ys,e,e1,e2,ha,hb,hi,q⟩:=h;subst e1 e2;cases rx;cases ry;obtain⟨its,r1,p1,_⟩:=I.list ha;obtain⟨its2,r2,p2,_⟩:=I.list hb;have l1:=r1.length;have l2:=r2.length;by_cases hl:xs.length=ys.length
 ·refine SeqAt.eq_listAt (e:=e) p1.isList p2.isList (by rw[Qi,Qi];exact Af l1 l2 hl) (by exact uN hu) (EqD.items I (by exact zR hu) r1 r2 hi) ⟨.bl _,H,I,rfl,?_⟩;rw[Qi,<-l1];have:(xs.length==ys.length)=true:=by simpa using hl
  rw[this]at q;exact q
 refine SeqAt.eq_list_lengthsAt p1.isList p2.isList (by rw[Qi,Qi,<-l1,<-l2];simpa using hl) (by exact uN hu) ⟨.bl _,H,I,rfl,?_⟩;have:(xs.length==ys.length)=false:=by simpa using hl
 rw[this]at q;exact q
theorem nW (hu:X.A.units+64<cLine):OpR X (compareOp .NotEq) (rV X.K true):=by
 intro pins s U H x y v u Q I rx ry h;obtain⟨a,b,xs,ys,e,e1,e2,ha,hb,hi,q⟩:=h;subst e1 e2;cases rx;cases ry;obtain⟨its,r1,p1,_⟩:=I.list ha;obtain⟨its2,r2,p2,_⟩:=I.list hb;have l1:=r1.length;have l2:=r2.length;by_cases hl:xs.length=ys.length
 ·refine SeqAt.RcNeAt.lists (e:=e) p1.isList p2.isList (by rw[Qi,Qi];exact Af l1 l2 hl) (by exact uN hu) (EqD.items I (by exact zR hu) r1 r2 hi) _ _ _ _ ⟨.bl _,H,I,rfl,?_⟩;rw[Qi,<-l1];have:(xs.length==ys.length)=true:=by simpa using hl
  rw[this]at q;exact q
 refine SeqAt.RcNeAt.lists_lengths p1.isList p2.isList (by rw[Qi,Qi,<-l1,<-l2];simpa using hl) (by exact uN hu) _ _ _ _ ⟨.bl _,H,I,rfl,?_⟩;have:(xs.length==ys.length)=false:=by simpa using hl
 rw[this]at q;exact q
end
section
variable {X:Cx}
theorem nw:eO X (.builtin "isinstance") (λxs H Q=>∃x T ty b,xs=[x,.ty T]/\TyOf X.K H x ty/\PySem.W.kitOne X.K ty (.type T)=some b/\Q (.bl b) H):=by
 intro pins s U H xs us Q I r h;obtain⟨x,T,ty,b,e,t,k,q⟩:=h;subst e;obtain⟨u1,u2,e,r1,r2⟩:=ri r;subst e;cases r2;exact qI I r1 t k λtk=>⟨.bl b,H,I.tok tk,rfl,q⟩
theorem tf {K:PySem.W.Frag} (T:String):PySem.W.kitOne K (.type T) (.type T)=some true:=by
 unfold PySem.W.kitOne;rw[QB (by simp)]
theorem qY (bs:List Bool):(List.range bs.length).all (λi=>bs.getD i false)=bs.all id:=by
 rw[Bool.eq_iff_iff];simp only[Q0,List.mem_range]
 constructor
 ·intro h x hx;obtain⟨i,hi,e⟩:=Ql.mp hx;have q:=h i hi;rw[Xf,Qb hi,Option.getD_some,e]at q;exact q
 intro h i hi;rw[Xf,Qb hi,Option.getD_some];exact h _ (List.getElem_mem hi)
theorem ny (hc:X.calm=true):eO X (.builtin "all") (λxs H Q=>∃(l:Addr) (bs:List Bool),xs=[.ref l]/\SqL X.K H l (bs.map V.bl)/\Q (.bl (bs.all id)) H):=by
 intro pins s U H xs us Q I r h;obtain⟨l,bs,e,hl,q⟩:=h;subst e;obtain⟨u,e,ru⟩:=dJ r;subst e;cases ru;obtain⟨its,rv,pl,hz⟩:=I.list hl;have hlen:=rv.length;rw[Qa]at hlen
 have ne:l≠s.heap.objs.size:=by
  obtain⟨o,ho,_⟩:=pl.isList;exact QE (Qk ho)
 refine call_all_walk (wpAny_pyIter_list pl.isList ?_);refine⟨s.heap.objs.size,_,_,_,_,_,(λi=>bs.getD i false),rfl,Walks.list (show X.A.in1.handled=none from I.ok.hd hc) s.heap.objs.size l ne its.toArray,⟨⟨_,Qw _ rfl,rfl,rfl⟩,pl.isList.push _⟩,?_,λh' tk hk=>?_⟩
 ·intro i v s' Q' E' hP hQ;have hP':its[i]?=some v:=by simpa using hP
  have hi:i<bs.length:=by
   have:=(Qc.mp hP').1;exact sC hlen this
  have e1:(bs.map V.bl)[i]?=some (.bl (bs.getD i false)):=by
   rw[Qm,Qb hi,Xf,Qb hi];rfl
  obtain⟨u,hu,ru⟩:=rv.get e1;rw[hP']at hu;cases hu;cases ru;exact wpAny_truthy_bool hQ
 have hs:its.toArray.size=bs.length:=by rw[Qi];exact hlen.symm
 rw[hs,qY]
 exact⟨.bl _,H,I.kept λb o e=>hk b o (by
  have:=Qk e;simp only[QL]
  exact QE this) (Qd _ e),rfl,q⟩
abbrev oR (K:PySem.W.Frag) (T:Addr) (D:List (Str × KTD.Dat)):Prop:=KTD.tabLook (KTD.datLooks λa=>K.lookup a) (λa=>K.lookup a) T D=true
theorem qj {T:Addr} {D:List (Str × KTD.Dat)} (hT:oR X.K T D):OpR X (compareOp .In) (λx y H Q=>∃z,x=.str z/\y=.ref T/\Q (.bl (KTD.inKeys z D)) H):=by
 intro pins s U H x y v u Q I rx ry h;obtain⟨z,e1,e2,q⟩:=h;subst e1 e2;obtain⟨t,e⟩:=rx;subst e;cases ry;exact KTD.in_text (h₀:=X.base) ⟨KTD.text_of_look (get:=λa=>X.K.lookup a) (λa o e=>I.mod.kin a o e) hT,I.bk⟩ ⟨.bl _,H,I.tok _,rfl,q⟩
theorem fG:eO X (.type "int") (λxs H Q=>∃z n,xs=[.str z]/\PySem.intText? z=some n/\z.length<=640/\Q (.int n) H):=by
 intro pins s U H xs us Q I r h;obtain⟨z,n,e,h1,h2,q⟩:=h;subst e;obtain⟨u,e,ru⟩:=dJ r;subst e;obtain⟨t,e⟩:=ru;subst e;exact PySem.W.KIN.call_text h1 h2 ⟨.int n,H,I.tok _,⟨_,rfl⟩,q⟩
def A4 (K:PySem.W.Frag) (n:Nat) (t:TGs):TG:=λv U H Q=>∃a xs,v=.ref a/\SqL K H a xs/\xs.length=n/\t xs U H Q
theorem lx {es:List Expr} {k:Nat} {t:TGs} {n:Nat} {pos:Pos} (hc:X.calm=true) (h:PGs X es t)
  (hn:(assignEach es X.env).length=n:=by rfl) (hst:(assignEach es X.env).findIdx? (·.1)=none:=by rfl):PG X (.Tuple es k pos) (A4 X.K n t):=by
 intro pins s U H v u Q I r hw;obtain⟨a,xs,e1,hq,hl,hw⟩:=hw;subst e1;cases r;obtain⟨its,rv,ht,hz⟩:=I.list hq;rw[assign_Tuple];refine Qe (wpAny_standAt ?_);unfold unpack;have hsz:(assignEach es X.env).length=its.toArray.size:=by rw[hn,Qi,<-rv.length,hl]
 rw[hsz,hst];refine Qe (Q9 (PySem.W.kun_itemsOf (I.ok.hd hc) ht.isList λh' hx=>?_));have I1:Inv X pins U H { s with heap:=h' }:=I.kept (t':=s.toks) λb o e=>hx b o (QE (Qk e)) e;exact h pins _ U H xs _ Q I1 (by simpa using rv) hw
end
theorem Inv.turned2 {X:Cx} {pins:C1} {U:St} {H:Hp} {s:Shared} {h':Heap} {t':Nat} {o:HO} (I:Inv X pins U H s) (k:∀b o,b≠e->b≠it->s.heap.get? b=some o->h'.get? b=some o)
  (f1:fV X pins H e) (f2:fV X pins H it) (hT:s.heap.objs.size<=T) (new:bj X.prog X.w (upd H T o) h' T o):Inv X pins U (upd H T o) { s with heap:=h',toks:=t' }:=by
 have hn:H T=none:=I.hok.fresh hT;have nT:∀b u,s.heap.get? b=some u->b≠T:=λb u q=>QE (QF (Qk q) hT);have n1:∀b u,H b=some u->b≠e:=λb u q z=>by rw[z,f1.1]at q;cases q
 have n2:∀b u,H b=some u->b≠it:=λb u q z=>by rw[z,f2.1]at q;cases q
 have kk:∀b u,b∉[e,it]->s.heap.get? b=some u->h'.get? b=some u:=λb u hc q=>k b u (λz=>hc (by simp[z])) (λz=>hc (by simp[z])) q
 refine I.step (g':=s.gens) (d':=s.drawn) (ch:=[e,it]) (λb hb=>?_) (λb u _ _ hc q _=>kk b u hc q) (λb u _ _ hc q _=>⟨u.slots,kk b u hc q⟩) (λb u _ q n=>by rw[ao (nT b u q)];exact n)
  (λb u hc q=>⟨u,kk b u hc q⟩) (λb xs q=>by rw[ao (aB q hn)];exact q) (λb u xs q=>by rw[ao (aB q hn)];exact q) (λb ps q=>⟨#[],by rw[ao (aB q hn),q];simp⟩) (λm hm=>?_) (λb u q=>?_) I.bare
 ·have z:b=e\/b=it:=by simpa using hb
  rcases z with z|z
  ·subst z;obtain⟨_,a2,_,a4,a5,a6⟩:=f1;exact⟨a4,a2,a5,a6⟩
  subst z;obtain⟨_,a2,_,a4,a5,a6⟩:=f2;exact⟨a4,a2,a5,a6⟩
 ·obtain⟨ob,es,ep,ho,r⟩:=hm;exact⟨ob,es,ep,k _ ob (Xs f1.2.1) (Xs f2.2.1) ho,r⟩
 by_cases hb:b=T
 ·subst hb;rw[ai]at q;cases q;exact new
 rw[ao hb]at q;refine(I.hok b u q).stay (λc v hc z=>k c v ?_ ?_ z) (λc z=>by rw[ao (aB z hn)];exact z) λc xs z=>by rw[ao (aB z hn)];exact z
 ·rcases hc with z|z
  ·rw[z];exact n1 b u q
  exact n1 c _ z
 rcases hc with z|z
 ·rw[z];exact n2 b u q
 exact n2 c _ z
section
variable {X:Cx} {elts:List Expr} {k:Nat} {tpos:Pos}
end
structure Fn (P:Program) (w:World) (K:PySem.W.Frag) (mg:C2) (base:Heap) (x:Str) (ps:List Str) (k:Nat) (sp:Sp):Prop where
 ex:∃f fd,FnOk P w K mg base CX0 k f fd ps sp/\mg x=some (.ref f)/\PySem.W.keepIn K (.ref f)=true/\fI K fd ps []
section
variable {X:Cx}
theorem vP {x:Str} {ps:List Str} {k:Nat} {sp:Sp} {e:Expr} {es:List Expr} {t:TA} {p pos:Pos} (F:Fn X.prog X.w X.K X.mg X.base x ps k sp) (hr:Room k X.A) (hg:Gl X x) (ha:PA X (e::es) t)
  (hdb:(x==("__debug__" : Str))=false:=by decide) (he:starEach (e::es) X.env=(false,eval e X.env)::starEach es X.env:=by rfl) (hpl:(backTo pos (starEach es X.env)).any (·.1)=false:=by rfl) :
  PE X (.Call (.Name x p) (e::es) [] pos) (ml sp [] E0 t):=by
 obtain⟨f,fd,G,hm,hk,hb⟩:=F.ex;exact uG G hr hg hm hk hb .nil vQ ha hdb he hpl
theorem aE {x:Str} {ps:List Str} {k j:Nat} {sp:Sp} {e:Expr} {es:List Expr} {t:TA} {p pos:Pos} (F:Fn X.prog X.w X.K X.mg X.base x ps k sp) (hr:Room j X.A) (ha:PA X (e::es) t) (hk:k<=j:=by first|decide|omega) (hg:Gl X x:=by rfl) (hdb:(x==("__debug__" : Str))=false:=by decide) (he:starEach (e::es) X.env=(false,eval e X.env)::starEach es X.env:=by rfl) (hpl:(backTo pos (starEach es X.env)).any (·.1)=false:=by rfl):PE X (.Call (.Name x p) (e::es) [] pos) (ml sp [] E0 t):=vP F (hr.mono hk) hg ha hdb he hpl
end
section
variable {U:St} {H:Hp} {Q:VK} {K:PySem.W.Frag}
variable {v x y:V}
theorem ad {i:Nat} (h:U[i]?=some (some v)) (q:Q v H):eR i U H Q:=⟨v,h,q⟩
theorem i_c (q:Q v H):tC v U H Q:=q
variable {ta tb te ti tl:TE}
theorem aA {r:R2} (q:ta U H λx H1=>tb U H1 λy H2=>r x y H2 Q):tOp r ta tb U H Q:=q
variable {i j:Int}
theorem i_rI0 {g:Int->Int->V} (q:Q (g i j) H):rI0 g (.int i) (.int j) H Q:=⟨i,j,rfl,rfl,q⟩
theorem i_rI {C:Int->Int->Prop} {g:Int->Int->V} (c:C i j) (q:Q (g i j) H):rI C g (.int i) (.int j) H Q:=⟨i,j,rfl,rfl,c,q⟩
theorem i_eq (h:uv x y=true) (q:Q (.bl (decide (x=y))) H):rEq x y H Q:=⟨h,q⟩
theorem i_ne (h:uv x y=true) (q:Q (.bl (!decide (x=y))) H):rNe x y H Q:=⟨h,q⟩
variable {R:Bool->Hp->Prop}
theorem aQ {t:TE} (q:t U H λx H'=>∃k,x=.bl k/\R k H'):ro t U H R:=q
theorem i_tB {t:TE} (q:t U H λx H'=>∃k,x=.bl k/\R k H'):tB t U H R:=q
theorem i_and {t u:TT} (q:t U H λc H1=>if c=true then u U H1 R else R false H1):xG t u U H R:=q
theorem i_or {t u:TT} (q:t U H λc H1=>if c=true then R true H1 else u U H1 R):tOr t u U H R:=q
theorem i_not {t:TT} (q:t U H λc H1=>R (!c) H1):xx t U H R:=q
theorem i_andV (q:ta U H λx H1=>∃c,x=.bl c/\if c=true then tb U H1 Q else Q (.bl false) H1):rF ta tb U H Q:=q
theorem i_orV (q:ta U H λx H1=>∃c,x=.bl c/\if c=true then Q (.bl true) H1 else tb U H1 Q):wy ta tb U H Q:=q
theorem i_notV (q:ta U H λx H1=>∃c,x=.bl c/\Q (.bl (!c)) H1):vt ta U H Q:=q
theorem i_ifE {t:TT} (q:t U H λc H1=>if c=true then ta U H1 Q else tb U H1 Q):tIf t ta tb U H Q:=q
theorem av {R:List V->Hp->Prop} (q:R [] H):mj U H R:=q
variable {tr t:TA}
theorem af {R:List V->Hp->Prop} (q:te U H λx H1=>tr U H1 λxs H2=>R (x::xs) H2):fw te tr U H R:=q
theorem aI {sp:Sp} {E:XK} (q:t U H λvs H1=>sp vs H1 Q E):ml sp [] E t U H Q:=by
 show t U H λvs H1=>sp (vs++[]) H1 Q E;simpa only[Xn] using q
theorem i_cb {r:List V->Hp->VK->Prop} (q:t U H λvs H1=>r vs H1 Q):tCB r t U H Q:=q
theorem i_tup (q:t U H λxs H1=>xs.length<=sizeLine/\∀p,H1 p=none->Q (.ref p) (upd H1 p (.tup xs))):xv t U H Q:=q
theorem i_lst (q:t U H λxs H1=>xs.length<=sizeLine/\∀p,H1 p=none->Q (.ref p) (upd H1 p (.lst xs))):rp t U H Q:=q
theorem i_bm {T:String} {r:V->List V->Hp->VK->Prop} {to:TE} (q:to U H λx H1=>tyV K T x H1/\t U H1 λxs H2=>r x xs H2 Q):tBM K T r to t U H Q:=q
theorem i_sl {r:V->Option Int->Option Int->Hp->VK->Prop} {tl th:TO} (q:te U H λx H1=>tl U H1 λl H2=>th U H2 λu H3=>r x l u H3 Q):tSl r te tl th U H Q:=q
theorem i_nopart {R:Option Int->Hp->Prop} (q:R none H):oS U H R:=q
theorem i_part {t:TE} {R:Option Int->Hp->Prop} (q:t U H λx H1=>∃i,x=.int i/\R (some i) H1):vq t U H R:=q
variable {xs:List V}
theorem bD {p:Addr} {v:V} (h:SqL K H p xs) (e:atI xs i=some v) (q:Q v H):xM K (.ref p) (.int i) H Q:=⟨p,xs,i,v,rfl,rfl,h,e,q⟩
theorem bg {p:Addr} (h:H p=some (.tup xs)) (e:atI xs i=some v) (q:Q v H):nQ K (.ref p) (.int i) H Q:=⟨p,xs,i,v,rfl,rfl,SqT.of h,e,q⟩
theorem g_ {z:Str} {c:Nat} (hz:z.length<=sizeLine) (e:atI z.cps.toList i=some c) (q:Q (.str ⟨#[c]⟩) H):xL (.str z) (.int i) H Q:=⟨z,i,c,rfl,rfl,hz,e,q⟩
variable {D:Ends}
theorem s_seq {t u:TS} (q:t { D with nx:=u D } U H):ur t u D U H:=q
theorem aY {g:TG} (q:te U H λx H1=>g x U H1 D.nx):rE te g D U H:=q
theorem aq {i:Nat} {R:St->Hp->Prop} (q:R (U.set i (some v)) H):dW i v U H R:=q
theorem s_drop (q:te U H λ_ H1=>D.nx U H1):vB te D U H:=q
theorem bE {te:TE} (q:te U H D.rt):xw te D U H:=q
theorem s_next (q:D.nx U H):vv D U H:=q
theorem s_if {c:TT} {t u:TS} (q:c U H λb H1=>if b=true then t D U H1 else u D U H1):xA c t u D U H:=q
theorem s_sub {to:TE} {t:Bb} {R:St->Hp->Prop} (q:to U H λo H1=>ti U H1 λi H2=>t o i v H2 λH3=>R U H3):Ce to ti t v U H R:=q
theorem s_setL {p:Addr} {k:Int} {j:Nat} {R:Hp->Prop} (h:H p=some (.lst xs)) (e:ixN xs.length k=some j) (q:R (upd H p (.lst (xs.set j v)))):xJ (.ref p) (.int k) v H R:=⟨p,xs,k,j,rfl,rfl,h,e,q⟩
theorem s_for {wi:TI} {g:TG} {tb:TS} (q:wi U H λJ H1=>∃W:Nat->Nat->St->Hp->Prop,(∃m,W 0 m U H1)/\∀i m U H,W i m U H ->
 (J.stop i H/\D.nx U H)\/(J.go i H/\∃N:St->Hp->Prop,(∀σ' H',N σ' H'->∃m',m'<m/\W (i+1) m' σ' H')/\∀x H',J.yld i H x H'->g x U H' λσ2 H2=>tb { D with nx:=N,ct:=N,bk:=D.nx } σ2 H2)):xC wi g tb D U H:=q
theorem s_rng1 {ta:TA} {R:It->Hp->Prop} (q:ta U H λvs H1=>∃j:Int,vs=[.int j]/\-(2 ^ 62)<=j/\j<2 ^ 62/\R (Itr 0 j.toNat) H1):wq ta U H R:=q
theorem s_list {R:It->Hp->Prop} (q:tl U H λx H1=>∃a,x=.ref a/\(∃xs,SqL K H1 a xs)/\R (Itl K a) H1):nh K tl U H R:=q
theorem s_str {R:It->Hp->Prop} (q:tl U H λv H1=>∃z:Str,v=.str z/\R (Itf z.cps.size (eL z)) H1):A3 tl U H R:=q
theorem i_comp {wi:TI} {g:TG} {tt:TT} {f:St->St} (q:wi U H λJ H1=>∀D,H1 D=none->∃W:Nat->Nat->Hp->List V->Prop,(∃m,W 0 m (upd H1 D (.lst [])) []) /\
 ∀i m H ys,W i m H ys->H D=some (.lst ys)/\((J.stop i H/\Q (.ref D) H)\/(J.go i H/\∀x H',J.yld i H x H'->g x (f U) H' λσ2 H2=>wk (f U) σ2/\tt σ2 H2 λb H3 =>
  if b=true then te σ2 H3 λv H4=>H4 D=some (.lst ys)/\ys.length<sizeLine/\∃m',m'<m/\W (i+1) m' (upd H4 D (.lst (ys++[v]))) (ys++[v])
  else ∃m',m'<m/\W (i+1) m' H3 ys))):iD wi g tt te f U H Q:=q
end
def cw (Pv:Nat->Hp->List V->Prop) (n:Nat) (D:Addr) (i:Nat) (ys:List V):VK:=λv H4=>H4 D=some (.lst ys)/\ys.length<sizeLine/\∃m',m'<n-i/\(m'=n-(i+1)/\i+1<=n/\Pv (i+1) (upd H4 D (.lst (ys++[v]))) (ys++[v]))
theorem cw.mk {Pv:Nat->Hp->List V->Prop} {ys:List V} {v:V} {H4:Hp} (hd:H4 D=some (.lst ys)) (hi:i<n) (hl:ys.length<sizeLine) (p:Pv (i+1) (upd H4 D (.lst (ys++[v]))) (ys++[v])):cw Pv n D i ys v H4 :=
 ⟨hd,hl,n-(i+1),by exact om6 hi,rfl,hi,p⟩
section
variable {K:PySem.W.Frag} {g:TG} {te:TE} {σ0:St} {QD:Hp->Prop} {H1:Hp} {D:Addr}
theorem oE {lo:Int} {n:Nat} (Pv:Nat->Hp->List V->Prop) (h0:Pv 0 (upd H1 D (.lst [])) []) (hD:∀i H ys,Pv i H ys->H D=some (.lst ys))
  (hs:∀i H ys,i<n->Pv i H ys->g (.int (lo+i)) σ0 H λσ2 H2=>wk σ0 σ2/\fY σ2 H2 λb H3=>if b=true then te σ2 H3 (cw Pv n D i ys) else ∃m',m'<n-i/\(m'=n-(i+1)/\i+1<=n/\Pv (i+1) H3 ys)) (hd:∀H ys,Pv n H ys->QD H) :
  ∃W:Nat->Nat->Hp->List V->Prop,(∃m,W 0 m (upd H1 D (.lst [])) [])/\∀i m H ys,W i m H ys->H D=some (.lst ys)/\(((Itr lo n).stop i H/\QD H)\/((Itr lo n).go i H/\∀x H',(Itr lo n).yld i H x H'->g x σ0 H' λσ2 H2=>wk σ0 σ2/\fY σ2 H2 λb H3 =>
   if b=true then te σ2 H3 λv H4=>H4 D=some (.lst ys)/\ys.length<sizeLine/\∃m',m'<m/\W (i+1) m' (upd H4 D (.lst (ys++[v]))) (ys++[v]) else ∃m',m'<m/\W (i+1) m' H3 ys)):=by
 refine⟨λi m H ys=>m=n-i/\i<=n/\Pv i H ys,⟨n,by simp,QO _,h0⟩,?_⟩;rintro i m H ys ⟨rfl,hi,p⟩;refine⟨hD i H ys p,?_⟩;by_cases hlt:i<n
 ·refine .inr ⟨hlt,λx H' y=>?_⟩;obtain⟨e,y⟩:=y;subst e y;exact hs i _ ys hlt p
 have e:i=n:=by exact om0 hi hlt
 subst e;exact .inl ⟨Qg _,hd H ys p⟩
theorem gM {a:Addr} {xs:List V} (Pv:Nat->Hp->List V->Prop) (h0:Pv 0 (upd H1 D (.lst [])) []) (hD:∀i H ys,Pv i H ys->H D=some (.lst ys)/\SqL K H a xs)
  (hs:∀i x H ys,xs[i]?=some x->Pv i H ys->g x σ0 H λσ2 H2=>wk σ0 σ2/\fY σ2 H2 λb H3=>if b=true then te σ2 H3 (cw Pv xs.length D i ys) else ∃m',m'<xs.length-i/\(m'=xs.length-(i+1)/\i+1<=xs.length/\Pv (i+1) H3 ys)) (hd:∀H ys,Pv xs.length H ys->QD H) :
  ∃W:Nat->Nat->Hp->List V->Prop,(∃m,W 0 m (upd H1 D (.lst [])) [])/\∀i m H ys,W i m H ys->H D=some (.lst ys)/\(((Itl K a).stop i H/\QD H)\/((Itl K a).go i H/\∀x H',(Itl K a).yld i H x H'->g x σ0 H' λσ2 H2=>wk σ0 σ2/\fY σ2 H2 λb H3 =>
   if b=true then te σ2 H3 λv H4=>H4 D=some (.lst ys)/\ys.length<sizeLine/\∃m',m'<m/\W (i+1) m' (upd H4 D (.lst (ys++[v]))) (ys++[v]) else ∃m',m'<m/\W (i+1) m' H3 ys)):=by
 refine⟨λi m H ys=>m=xs.length-i/\i<=xs.length/\Pv i H ys,⟨xs.length,by simp,QO _,h0⟩,?_⟩;rintro i m H ys ⟨rfl,hi,p⟩;obtain⟨d1,d2⟩:=hD i H ys p;refine⟨d1,?_⟩;by_cases hlt:i<xs.length
 ·refine .inr ⟨⟨xs,xs[i],d2,by simp[hlt]⟩,λx H' y=>?_⟩;obtain⟨e,y⟩:=y;subst e;exact hs i x _ ys (y xs d2) p
 have e:i=xs.length:=by exact om0 hi hlt
 subst e;exact .inl ⟨⟨xs,d2,Qg _⟩,hd H ys p⟩
theorem tW {n:Nat} {f:Nat->V} (Pv:Nat->Hp->List V->Prop) (h0:Pv 0 (upd H1 D (.lst [])) []) (hD:∀i H ys,Pv i H ys->H D=some (.lst ys))
  (hs:∀i H ys,i<n->Pv i H ys->g (f i) σ0 H λσ2 H2=>wk σ0 σ2/\fY σ2 H2 λb H3=>if b=true then te σ2 H3 (cw Pv n D i ys) else ∃m',m'<n-i/\(m'=n-(i+1)/\i+1<=n/\Pv (i+1) H3 ys)) (hd:∀H ys,Pv n H ys->QD H) :
  ∃W:Nat->Nat->Hp->List V->Prop,(∃m,W 0 m (upd H1 D (.lst [])) [])/\∀i m H ys,W i m H ys->H D=some (.lst ys)/\(((Itf n f).stop i H/\QD H)\/((Itf n f).go i H/\∀x H',(Itf n f).yld i H x H'->g x σ0 H' λσ2 H2=>wk σ0 σ2/\fY σ2 H2 λb H3 =>
   if b=true then te σ2 H3 λv H4=>H4 D=some (.lst ys)/\ys.length<sizeLine/\∃m',m'<m/\W (i+1) m' (upd H4 D (.lst (ys++[v]))) (ys++[v]) else ∃m',m'<m/\W (i+1) m' H3 ys)):=by
 refine⟨λi m H ys=>m=n-i/\i<=n/\Pv i H ys,⟨n,by simp,QO _,h0⟩,?_⟩;rintro i m H ys ⟨rfl,hi,p⟩;refine⟨hD i H ys p,?_⟩;by_cases hlt:i<n
 ·refine .inr ⟨hlt,λx H' y=>?_⟩;obtain⟨e,y⟩:=y;subst e y;exact hs i _ ys hlt p
 have e:i=n:=by exact om0 hi hlt
 subst e;exact .inl ⟨rfl,hd H ys p⟩
end
section
variable {H:Hp} {Q:VK} {K:PySem.W.Frag}
theorem wm {z:Str} {lo hi:Option Int} (h:z.length<=sizeLine) (q:Q (.str (Txt.slice z lo hi)) H):xH (.str z) lo hi H Q:=⟨z,rfl,h,q⟩
variable {xs zs:List V} {a l b p:Addr}
theorem pK {lo hi:Option Int} (h:SqL K H a xs) (q:∀p,H p=none->Q (.ref p) (upd H p (.lst (jm xs lo hi)))):xI K (.ref a) lo hi H Q:=⟨a,xs,rfl,h,q⟩
theorem tE (h1:H l=some (.lst xs)) (h2:H b=some (.lst zs)) (hz:xs.length+zs.length<=sizeLine) (q:∀p,H p=none->Q (.ref p) (upd H p (.lst (xs++zs)))):xO (.ref l) (.ref b) H Q:=⟨l,b,xs,zs,rfl,rfl,h1,h2,hz,q⟩
theorem hU {y:V} (h:H l=some (.lst xs)) (hz:xs.length<sizeLine) (q:Q .non (upd H l (.lst (xs++[y])))):pi (.ref l) [y] H Q:=⟨l,xs,y,rfl,rfl,h,hz,q⟩
theorem i_tyL (h:H p=some (.lst xs)):tyV K "list" (.ref p) H:=.inl ⟨rfl,xs,SqL.of h⟩
theorem AZ {z:Str}:tyV K "str" (.str z) H:=rfl
end
theorem ap {H:Hp} {o:HO} (hp:H p=none):aw H (upd H p o):=λb u e=>by rw[ao (aB e hp)];exact e
end L2
namespace L2
open PySem
section
variable {U:St} {H:Hp} {D:Ends}
theorem s_seqT {t u:TS} (q:let D':Ends:={ D with nx:=u D };t D' U H):ur t u D U H:=q
theorem s_nameT {i:Nat} {v:V} {R:St->Hp->Prop} (q:let σ':St:=U.set i (some v);R σ' H):dW i v U H R:=q
end
variable {H:Hp}
theorem i_yes {U:St} {R:Bool->Hp->Prop} (q:R true H):fY U H R:=q
theorem i_dget {td ty:TE} {U:St} {Q:VK} (q:td U H λx H1=>ty U H1 λy H2=>∃a v,x=.ref a/\bz H2 a y (some v)/\Q v H2):vC td ty U H Q:=q
theorem i_un {r:V->Hp->VK->Prop} {ta:TE} {U:St} {Q:VK} (q:ta U H λx H1=>r x H1 Q):tUn r ta U H Q:=q
theorem i_rU {g:Int->V} {i:Int} {Q:VK} (q:Q (g i) H):rU g (.int i) H Q:=⟨i,rfl,q⟩
end L2
namespace L2
open PySem PySem.Spec PyProof.Rows
def c6 (H:Hp) (c:Addr):Hp:=λb=>if b=c then none else H b
variable {c b f cell fa a T:Addr} {H:Hp}
theorem cQ:c6 H c c=none:=QB rfl
theorem bp (h:b≠c):c6 H c b=H b:=QC h
theorem qR {o:HO} (h:c6 H c b=some o):b≠c/\H b=some o:=by
 by_cases e:b=c
 ·subst e;rw[cQ]at h;cases h
 rw[bp e]at h;exact⟨e,h⟩
def cZ (o:Obj):HO:=.frz o (.ext λ_=>True)
section
variable {P:Program} {w:World} {H H1:Hp} {h h1:Heap} {c:Addr} {o:Obj} {fs ex:C3}
theorem pW {H:Hp} (e:h.get? c=some o):bj P w H h c (cZ o):=⟨e,trivial,⟨o,e⟩,λ_ _ _ _=>trivial⟩
theorem HOk.drop (x:HOk P w H h) (hc:H c=some (cZ o)):HOk P w (c6 H c) h:=λb u e=>by
 obtain⟨_,e⟩:=qR e;refine(x b u e).stay (λ_ _ _ q=>q) (λd q=>?_) λd xs q=>?_
 ·rw[bp];exact q;intro z;subst z;rw[hc]at q;cases q
 rw[bp];exact q;intro z;subst z;rw[hc]at q;cases q
theorem HOk.take (x:HOk P w H h) (hc:H c=none) (e:h.get? c=some o):HOk P w (upd H c (cZ o)) h:=λb u q=>by
 by_cases hb:b=c
 ·subst hb;rw[ai]at q;cases q;exact pW e
 rw[ao hb]at q;refine(x b u q).stay (λ_ _ _ r=>r) (λd r=>?_) λd xs r=>?_
 ·rw[ao (aB r hc)];exact r
 rw[ao (aB r hc)];exact r
theorem Un.back (u:Un fs ex (c6 H c) H1 h h1) (hc:H c=some (cZ o)) (e:h.get? c=some o) (nf:c∉fs) (nx:c∉ex):Un fs ex H (upd H1 c (cZ o)) h h1/\H1 c=none/\h1.get? c=some o:=by
 have h1c:=u.free c o e cQ nx;have e1:=u.keep c o e cQ nf nx;have ne:∀{b v},H b=some v->v≠cZ o->b≠c:=λq n z=>by subst z;rw[hc]at q;cases q;exact n rfl
 have nn:∀{b},H b=none->b≠c:=λq z=>by subst z;rw[hc]at q;cases q
 refine⟨⟨λb ob q n hb hx=>?_,λb ob q n hb hx=>?_,λb ob q n hx=>?_,λb ob q hx=>u.there b ob q hx,λb xs q=>?_,λb ob v q=>?_,λb ps q=>?_⟩,h1c,e1⟩
 ·exact u.keep b ob q (by rw[bp (nn n)];exact n) hb hx
 ·exact u.slot b ob q (by rw[bp (nn n)];exact n) hb hx
 ·rw[ao (nn n)];exact u.free b ob q (by rw[bp (nn n)];exact n) hx
 ·have nb:=ne q (λz=>by cases z);rw[ao nb];exact u.tups b xs (by rw[bp nb];exact q)
 ·by_cases nb:b=c
  ·subst nb;rw[hc]at q;cases q;exact ai
  rw[ao nb];exact u.frzs b ob v (by rw[bp nb];exact q)
 have nb:=ne q (λz=>by cases z);rw[ao nb];exact u.tbls b ps (by rw[bp nb];exact q)
theorem Un.out (u:Un fs ex (upd H c (cZ o)) H1 h h1) (k1:HOk P w H1 h1) (hc:H c=none) (e:h.get? c=some o) (nf:c∉fs):Un fs ex H (c6 H1 c) h h1/\HOk P w (c6 H1 c) h1/\H1 c=some (cZ o):=by
 have h1c:=u.frzs c o _ ai;have e1:=(k1 c _ h1c).1;refine⟨⟨λb ob q n hb hx=>?_,λb ob q n hb hx=>?_,λb ob q n hx=>?_,λb ob q hx=>u.there b ob q hx,λb xs q=>?_,λb ob v q=>?_,λb ps q=>?_⟩,k1.drop h1c,h1c⟩
 ·by_cases nb:b=c
  ·subst nb;rw[e]at q;cases q;exact e1
  exact u.keep b ob q (by rw[ao nb];exact n) hb hx
 ·have nb:b≠c:=λz=>by subst z;exact nf hb
  exact u.slot b ob q (by rw[ao nb];exact n) hb hx
 ·by_cases nb:b=c
  ·subst nb;exact cQ
  rw[bp nb];exact u.free b ob q (by rw[ao nb];exact n) hx
 ·have nb:=aB q hc;rw[bp nb];exact u.tups b xs (by rw[ao nb];exact q)
 ·have nb:=aB q hc;rw[bp nb];exact u.frzs b ob v (by rw[ao nb];exact q)
 have nb:=aB q hc;rw[bp nb];exact u.tbls b ps (by rw[ao nb];exact q)
end
structure Lm where
 qual:Str
 params:Arguments
 body:Expr
 scope:Scope
 pos:Pos
def ic (c:Addr) (qual:Str):HO:=.ext λh=>h.CodeRec (.ref c) qual
def gT (f:Addr) (l:Lm) (cl:List (Str × Addr)) (c:Addr):HO:=.ext λh=>∃pm ctv,h.get? f=some (PySem.W.kla_obj "<lambda>" l.qual l.params l.body l.scope cl pm c ctv)
variable {qual y z x n:Str} {h h1 base:Heap} {w:World} {P p q:Program}
theorem tY (r:h.CodeRec (.ref c) qual):bj P w H h c (ic c qual):=by
 obtain⟨d,oc,vs,t,e1,e2,r2⟩:=id r;cases e1;refine⟨r,⟨oc,e2⟩,λh1 h2 p k=>?_⟩;obtain⟨d,oc,vs,t,e1,e2,r2⟩:=p;cases e1;exact⟨_,oc,vs,t,rfl,k _ e2,r2⟩
variable {pm ctv u uy:Value}
theorem pH {l:Lm} {cl:List (Str × Addr)} (e:h.get? f=some (PySem.W.kla_obj "<lambda>" l.qual l.params l.body l.scope cl pm c ctv)):bj P w H h f (gT f l cl c) :=
 ⟨⟨pm,ctv,e⟩,⟨_,e⟩,λ_ _ ⟨pm,ctv,q⟩ k=>⟨pm,ctv,k _ q⟩⟩
def dZ (l:Lm) (c:Addr):Array Value:=#[rawInt l.pos.line,rawInt l.pos.col,.ref c]
def d6 (T:Addr) (l:Lm) (H:Hp):Prop:=H T=some (.tbl #[])\/∃c,H T=some (.tbl (dZ l c))/\H c=some (ic c l.qual)
structure Made (T:Addr) (l:Lm) (cl:List (Str × Addr)) (H:Hp) (f c:Addr) (H':Hp):Prop where
 new:H f=none
 fn:H' f=some (gT f l cl c)
 code:H' c=some (ic c l.qual)
 tab:H' T=some (.tbl (dZ l c))
 old:∀b o,H b=some o->b≠T->H' b=some o
def fJ (base:Heap) (mg:C2):Prop:=∃bm ob,mg "__builtins__" = some (.ref bm)/\bm≠builtinsNs/\bm≠mainGlobals/\base.get? bm=some ob/\ob.cls=.type "module" /\ ob.dict=some builtinsNs/\ob.data=.plain
def xy (T:Addr) (l:Lm) (cl:List (Str × Addr)):TE:=λ_ H Q=>d6 T l H/\∀f c H',Made T l cl H f c H'->Q (.ref f) H'
section
variable {X:Cx}
theorem wO {params:Arguments} {body:Expr} {scope:Scope} {pos:Pos} {cc T:Addr} {cl:List (Str × Addr)} (hcode:X.env.code=.ref cc) (C:PySem.W.CodeHd X.base cc T) (B:fJ X.base X.mg) (hcl:closureFor scope X.env=pure cl) (hdef:defaultsOf params X.env=([],[]):=by rfl) :
  PE X (.Lambda params body scope pos) (xy T ⟨X.env.qual ++ "<lambda>", params,body,scope,pos⟩ cl):=by
 intro pins s U H Q I h;obtain⟨tb,q⟩:=h;refine PySem.W.kla_eval hdef ?_;have hg:s.heap.Ns mainGlobals X.mg:=I.mod.glob.keeps I.bk;have hT:∃ps,H T=some (.tbl ps):=by rcases tb with e|⟨c,e,_⟩ <;> exact⟨_,e⟩
 obtain⟨ps0,hps0⟩:=hT
 have bne:∀{b ob},X.base.get? b=some ob->b≠T:=λe z=>by
  subst z;rw[(I.bs _ _ e).2]at hps0;cases hps0
 have hgP:mainGlobals≠T:=by
  obtain⟨o,es,ep,e,_⟩:=I.mod.glob;exact bne e
 obtain⟨bm,ob,b1,b2,b3,b4,b5,b6,b7⟩:=B;have hB:s.heap.BuiltinsAt X.mg T:=⟨bm,ob,b1,b2,b3,bne b4,I.bk _ _ b4,b5,b6,b7⟩;have CH:=C.keeps I.bk;rcases tb with e|⟨c,e,hc⟩
 ·have hP:s.heap.get? T=some (PySem.W.tabObj #[]):=I.hok T _ e;refine PySem.W.kla_makeFunction (mg:=X.mg) hcl I.ok.glob hg hcode CH hP trivial rfl hgP hB λc' ctv h' tk hx hge hlt hrec htb=>?_;have hsz:s.heap.objs.size<=h'.objs.size:=Xr (Nat.lt_of_le_of_lt hge hlt);have nT:T<s.heap.objs.size:=Qk hP;let f:Addr:=h'.objs.size;have Hf:H f=none:=I.hok.fresh hsz;have Hc:H c'=none:=I.hok.fresh hge;have nfc:c'≠f:=QE hlt;have nTf:T≠f:=QE (QF nT hsz);have nTc:T≠c':=QE (QF nT hge);let H':Hp:=upd (upd (upd H T (.tbl (dZ ⟨X.env.qual ++ "<lambda>", params,body,scope,pos⟩ c'))) c' (ic c' (X.env.qual ++ "<lambda>"))) f (gT f ⟨X.env.qual ++ "<lambda>", params,body,scope,pos⟩ cl c')
  have hH:∀b o,H b=some o->b≠T->H' b=some o:=λb o e n=>by
   show upd (upd (upd H T _) c' _) f _ b=_;rw[ao (aB e Hf),ao (aB e Hc),ao n];exact e
  have hHT:H' T=some (.tbl (dZ ⟨X.env.qual ++ "<lambda>", params,body,scope,pos⟩ c')):=by
   show upd (upd (upd H T _) c' _) f _ T=_;rw[ao nTf,ao nTc,ai]
  have hHc:H' c'=some (ic c' (X.env.qual ++ "<lambda>")):=by
   show upd (upd (upd H T _) c' _) f _ c'=_;rw[ao nfc,ai]
  have kx:∀b o,b≠T->s.heap.get? b=some o->(h'.push (PySem.W.kla_obj "<lambda>" (X.env.qual ++ "<lambda>") params body scope cl ((X.mg "__name__").getD .none) c' ctv)).get? b=some o:=λb o n e=>Qd _ (hx b o n e);have htb':h'.get? T=some (PySem.W.tabObj (dZ ⟨X.env.qual ++ "<lambda>", params,body,scope,pos⟩ c')):=by simpa[dZ] using htb
  have ntb:∀{b u},H b=some u->(∀ps,u≠.tbl ps)->b≠T:=λr n z=>by
   subst z;rw[e]at r;cases r;exact n _ rfl
  have un:Un X.fs [] H H' s.heap (h'.push (PySem.W.kla_obj "<lambda>" (X.env.qual ++ "<lambda>") params body scope cl ((X.mg "__name__").getD .none) c' ctv)):=by
   have nn:∀{b},H b=none->b≠T:=λn z=>by subst z;rw[e]at n;cases n
   refine⟨λb o r n _ _=>kx b o (nn n) r,λb o r n _ _=>⟨o.slots,kx b o (nn n) r⟩,λb o r n _=>?_,λb o r _=>?_,λb xs r=>hH b _ r (ntb r λ_ z=>nomatch z),λb o v r=>hH b _ r (ntb r λ_ z=>nomatch z),λb ps r=>?_⟩
   ·have lb:b<s.heap.objs.size:=Qk r;show upd (upd (upd H T _) c' _) f _ b=none;rw[ao (QE (QF lb hsz)),ao (QE (QF lb hge)),ao (nn n)];exact n
   ·by_cases z:b=T
    ·subst z;exact⟨_,Qd _ htb'⟩
    exact⟨o,kx b o z r⟩
   by_cases z:b=T
   ·subst z;rw[e]at r;cases r;exact⟨dZ ⟨X.env.qual ++ "<lambda>", params,body,scope,pos⟩ c',by rw[hHT,Array.empty_append]⟩
   exact⟨#[],by rw[hH b _ r z];simp⟩
  have hok:HOk X.prog X.w H' (h'.push (PySem.W.kla_obj "<lambda>" (X.env.qual ++ "<lambda>") params body scope cl ((X.mg "__name__").getD .none) c' ctv)):=λb u qb=>by
   have qb:upd (upd (upd H T (.tbl (dZ ⟨X.env.qual ++ "<lambda>", params,body,scope,pos⟩ c'))) c' (ic c' (X.env.qual ++ "<lambda>"))) f (gT f ⟨X.env.qual ++ "<lambda>", params,body,scope,pos⟩ cl c') b=some u:=qb;by_cases z1:b=f
   ·subst z1;rw[ai]at qb;cases qb;exact pH (Qw _ rfl)
   rw[ao z1]at qb;by_cases z2:b=c'
   ·subst z2;rw[ai]at qb;cases qb;obtain⟨d,oc,vs,t,e1,e2,r2⟩:=hrec;exact tY ⟨d,oc,vs,t,e1,Qd _ e2,r2⟩
   rw[ao z2]at qb;by_cases z3:b=T
   ·subst z3;rw[ai]at qb;cases qb;exact Qd _ htb'
   rw[ao z3]at qb;refine(I.hok b u qb).stay (λd v hd r=>kx d v ?_ r) (λd r=>hH d _ r (ntb r λ_ z=>nomatch z)) λd xs r=>hH d _ r (ntb r λ_ z=>nomatch z);rcases hd with z|z
   ·rw[z];exact z3
   intro y;subst y;rw[e]at z;cases z
  refine⟨.ref f,H',I.un (t':=tk) un hok,rfl,q f c' H' ⟨Hf,ai,hHc,hHT,hH⟩⟩
 have hP:s.heap.get? T=some (PySem.W.tabObj (dZ ⟨X.env.qual ++ "<lambda>", params,body,scope,pos⟩ c)):=I.hok T _ e;refine PySem.W.kla_makeFunctionHit (mg:=X.mg) (cv:=.ref c) hcl I.ok.glob hg hcode CH hP trivial (by simp[dZ,codeAmong,rawInt]) hB λctv h' tk hk hsz=>?_;let f:Addr:=h'.objs.size;have Hf:H f=none:=I.hok.fresh hsz;refine⟨.ref f,_,I.laid (t':=tk) (a:=f) (o:=gT f ⟨X.env.qual ++ "<lambda>", params,body,scope,pos⟩ cl c) (λb o e=>Qd _ (hk b o e)) hsz (pH (Qw _ rfl)),rfl,q f c _ ⟨Hf,ai,?_,?_,λb o e _=>?_⟩⟩
 ·rw[ao (aB hc Hf)];exact hc
 ·rw[ao (aB e Hf)];exact e
 rw[ao (aB e Hf)];exact e
end
structure LmScope (x y:Str) (sc:Scope):Prop where
 kind:sc.kind=.function
 co:sc.isCoroutine=false
 gen:sc.isGenerator=false
 par:sc.names.lookup x=some .local
 fre:sc.names.lookup y=some .free
 ne:x≠y
 nocell:∀z∈sc.names,z.2≠.cell
 only:∀z,sc.names.lookup z=some .free->z=y
noncomputable def pR (P:Program) (w:World) (K:PySem.W.Frag) (mg:C2) (base:Heap) (x y:Str) (l:Lm) (f c cell:Addr) (A:Around) (outer:List Env) (s:Shared) (H:Hp) (E:XK):Cx where
 prog:=P
 w:=w
 K:=K
 mg:=mg
 base:=base
 A:=A.deeper (PySem.W.envX l.qual l.scope s.heap.objs.size f (.ref c) [(y,cell)])
 N:=[x,y]
 s₀:=s
 H₀:=H
 env:=PySem.W.envX l.qual l.scope s.heap.objs.size f (.ref c) [(y,cell)]
 outer:=outer
 stack:=PySem.W.envX l.qual l.scope s.heap.objs.size f (.ref c) [(y,cell)]::outer
 ex:=[]
 calm:=true
 fn:=λ_=>false
 pn:=[]
 xe:=λe s'=>wpAny (model P w) (A.deeper (PySem.W.envX l.qual l.scope s.heap.objs.size f (.ref c) [(y,cell)])) (leaving (PySem.W.envX l.qual l.scope s.heap.objs.size f (.ref c) [(y,cell)]) e) (λ_ s''=>CX0 outer H s E e s'') (λe' s''=>CX0 outer H s E e' s'') s'
theorem lk1 (h:[(y,cell)].lookup z=some c):z=y/\c=cell:=by
 rw[QY]at h;by_cases e:(z==y)=true
 ·rw[e]at h;cases h;exact⟨eq_of_beq e,rfl⟩
 have e:(z==y)=false:=by simpa using e
 rw[e]at h;cases h
theorem m7:[(y,cell)].lookup y=some cell:=by
 rw[QY,beq_self_eq_true]
variable {s s₁:Shared} {mg mb:C2} {K:PySem.W.Frag}
theorem u6 {l:Lm} {f c:Addr} {A:Around} {outer:List Env} {E:XK} {vx vy:V} {tk:Nat}
  (S:LmScope x y l.scope) (hd:A.handled=none) (e0:Env0 P w K mg base A outer s H) (rx:aO vx u) (ry:aO vy uy) (hc:s.heap.IsCell cell (some uy)) (hH:H cell=none)
  (hns:h1.Ns s.heap.objs.size (λz=>[(x,u)].reverse.lookup z)) (hk:∀b o,s.heap.get? b=some o->h1.get? b=some o) :
  Inv (pR P w K mg base x y l f c cell A outer s H E) [] [some vx,some vy] H { s with heap:=h1,toks:=tk }:=by
 have noA:∀b:Addr,b∉(pR P w K mg base x y l f c cell A outer s H E).ex:=λb z=>absurd (show b∈([]:C3) from z) (by simp);have hc1:h1.IsCell cell (some uy):=by obtain⟨o,e1,e2⟩:=hc;exact⟨o,hk _ _ e1,e2⟩
 refine⟨⟨e0.mod,S.kind,rfl,rfl,Qg _,λy' z c h1 h2=>(lk1 h1).1.trans (lk1 h2).1.symm,λz hz=>?_,(λy c h _=>nomatch h),λ_=>hd,Around.frames_deeper e0.frames,.inr ⟨rfl,rfl⟩,λb z=>absurd z (noA b),e0.bs,e0.bsz,λb _ _=>noA b,λb z=>absurd z (noA b),e0.funs,e0.frf⟩,
  rfl,e0.bare,Un.kept hk,⟨_,hns,λi z v h1 h2 h3=>?_⟩,λz c h=>?_,e0.hok.fresh (Qg _),λz c h=>?_,λp hp=>absurd (show p∈([]:C1) from hp) (by simp),e0.hok.kept hk,rfl⟩
 ·have hz:l.scope.names.lookup z=some .cell\/l.scope.names.lookup z=some .free:=hz;rcases hz with hz|hz
  ·exact absurd rfl (S.nocell _ (PySem.mem_of_lookup hz))
  rw[S.only z hz];exact⟨cell,m7⟩
 ·match i with
  | 0 =>
   cases h1;cases h2;refine⟨u,rx,.inl ⟨S.par,?_⟩⟩;show [(x,u)].reverse.lookup x=some u;simp[List.lookup]
  | 1 =>
   cases h1;cases h2;exact⟨uy,ry,.inr ⟨.inr S.fre,cell,m7,hc1⟩⟩
  | i+2 =>
   exact absurd h1 (by show ([x,y]:List Str)[i+2]?≠some z;simp)
 ·rw[(lk1 h).2];exact⟨_,hc1⟩
 rw[(lk1 h).2];exact hH
theorem u0 {l:Lm} {A:Around} {outer:List Env} {Q:VK} {E:XK} {vx vy:V} {k:Nat} {t:TE} {args:Args}
  (S:LmScope x y l.scope) (hr:Room (k+1) A) (e0:Env0 P w K mg base A outer s H) (rx:aO vx u) (ry:aO vy uy) (hc:s.heap.IsCell cell (some uy)) (hH:H cell=none)
  (hf:s.heap.get? f=some (PySem.W.kla_obj "<lambda>" l.qual l.params l.body l.scope [(y,cell)] pm c ctv)) (hcd:s.heap.CodeRec (.ref c) l.qual) (hb:bindArgs (PySem.W.kla_fn "<lambda>" l.qual l.params l.body l.scope [(y,cell)] pm (.ref c) ctv) args=pure [(x,u)])
  (body:Room k (A.deeper (PySem.W.envX l.qual l.scope s.heap.objs.size f (.ref c) [(y,cell)]))->PE (pR P w K mg base x y l f c cell A outer s H E) l.body t) (q:t [some vx,some vy] H Q):codeAny (model P w) A (.call (.ref f) args) (CR CX0 outer P w H s Q E) s:=by
 have lim:s.heap.NoLimit:=e0.mod.nolimit.keeps λb o e=>(e0.bs b o e).1;refine PySem.W.kla_callFunE hr.depth hf rfl S.co S.gen rfl hcd ?_;rw[hb];refine Qn (wpAny_newFunctionEnv S.nocell (λz hz=>by rw[QL.mp hz];exact S.par) (λh1 hns hsb=>?_) S.kind);have hk1:∀b o,s.heap.get? b=some o->h1.get? b=some o:=λb o e=>hsb.extBut b o (QE (Qk e)) (Qd _ e);refine⟨lim.keeps hk1,?_⟩;show codeAny _ _ (.expr l.body (PySem.W.envX l.qual l.scope s.heap.objs.size f (.ref c) [(y,cell)])) _ _;have I:=u6 (f:=f) (c:=c) (E:=E) (tk:=s.toks+[(x,u)].length) S hr.hd e0 rx ry hc hH hns hk1;refine PySem.W.kla_codeExpr (Xj (body (hr.deeper _) [] _ _ H Q I q) (λv s' hs=>?_) λe s' hs=>hs);obtain⟨v',H',J,rv,qv⟩:=hs;exact⟨v',H',J.os,J.bare,J.base,J.hok,rv,qv⟩
def Calls (P:Program) (w:World) (K:PySem.W.Frag) (mg:C2) (base:Heap) (k:Nat) (f:Addr) (r:V->Hp->VK->Prop):Prop :=
 ∀(X:Cx),X.prog=P->X.w=w->X.K=K->X.mg=mg->X.base=base->jE CX0 X E0->Room k X.A->∀pins s U H vx u (Q:VK),Inv X pins U H s->aO vx u->r vx H Q->wpAny (model X.prog X.w) X.A (call (.ref f) [u]) (EP X pins U Q) X.xe s
def rD (P:Program) (w:World) (K:PySem.W.Frag) (mg:C2) (base:Heap) (k i:Nat) (te:TE):TE:=λU H Q=>∃f l cl c r,U[i]?=some (some (.ref f))/\Calls P w K mg base k f r/\H f=some (gT f l cl c)/\te U H λv H1=>H1 f=some (gT f l cl c)/\r v H1 Q
variable {pins:C1} {X:Cx}
theorem nj {U:St} {l:Lm} {cl:List (Str × Addr)} (I:Inv X pins U H s) (h:H f=some (gT f l cl c)):PySem.W.FnAt f s.heap:=by
 obtain⟨pm,ctv,e⟩:=(I.hok f _ h).1;exact⟨_,_,_,_,e⟩
theorem sj {k i:Nat} {e:Expr} {te:TE} {p pos:Pos} (hr:Room k X.A) (hx:jE CX0 X E0) (hn:PE X (.Name n p) (eR i)) (he:PE X e te) (hs:starEach [e] X.env=[(false,eval e X.env)]:=by rfl) (hs0:starEach ([]:List Expr) X.env=[]:=by rfl) (hpl:(backTo pos (starEach [] X.env)).any (·.1)=false:=by rfl) :
  PE X (.Call (.Name n p) [e] [] pos) (rD X.prog X.w X.K X.mg X.base k i te):=by
 intro pins s U H Q I h;obtain⟨f,l,cl,c,r,hi,C,hf,h⟩:=h;refine wpAny_Call_Name_kw (thn (hn pins s U H (λv H1=>v=.ref f/\H1=H) I ⟨_,hi,rfl,rfl⟩) λu s1 ⟨v,H1,I1,ru,ev,eh⟩=>?_);subst ev eh;obtain rfl:u=Value.ref f:=ru;refine PySem.W.callWith_F (nj I1 hf) ?_ (by rw[hs,hs0]) hpl;rw[hs];refine Xv (thn (he pins s1 U H1 _ I1 h) λiv s2 ⟨v,H2,I2,rv,hf2,q⟩=>?_);refine Calls.spliced_nil ⟨nj I2 hf2,?_⟩;exact C X rfl rfl rfl rfl rfl hx hr pins s2 U H2 v iv Q I2 rv q
theorem Inv.cellAt {U:St} {i:Nat} {vy:V} (I:Inv X pins U H s) (hN:X.N[i]?=some y) (hi:U[i]?=some (some vy)) (hk:X.env.kindOf y=some .cell) (hv:Vis X.env.scope y) (hl:X.env.cells.lookup y=some cell) :
  ∃o uy,s.heap.get? cell=some o/\o.data=.cell (some uy)/\aO vy uy/\H cell=none:=by
 obtain⟨m,_,loc⟩:=I.loc;obtain⟨u,ru,lk⟩:=loc i y vy hN hi hv;rcases lk with⟨k,_⟩|⟨_,c,e,o,e1,e2⟩
 ·rw[hk]at k;cases k
 rw[hl]at e;cases e;exact⟨o,u,e1,e2,ru,I.freeC y cell hl⟩
theorem Inv.cellOut {U:St} (I:Inv X pins U H s) (hf:X.fn y=true) (hl:X.env.cells.lookup y=some cell):cell∉frs X.stack:=λz=>by
 have ab:=I.ok.cab y cell hf hl
 have no:cell∉frs X.outer:=λz=>by
  obtain⟨_,o,ho,_⟩:=I.ok.funs.mem z;exact absurd (Qk ho) (Nat.not_lt.mpr ab)
 rcases I.ok.stk with e|⟨e,fr⟩
 ·rw[e]at z;exact no z
 rw[e]at z;unfold frs at z;rw[List.filterMap_cons,fr]at z;rcases QQ.mp z with z|z
 ·exact I.cne y cell hl z
 exact no z
def wB (sp:Sp) (i:Nat) (cell:Addr) (t:TA):TE:=λU H Q=>t U H λvs H1=>∃vy,U[i]?=some (some vy)/\∀o uy,o.data=.cell (some uy)->aO vy uy->H1 cell=none->sp vs (upd H1 cell (cZ o)) (λv H2=>Q v (c6 H2 cell)) E0
variable {ps loose:List Str}
theorem wP {k i:Nat} {sp:Sp} {e:Expr} {es:List Expr} {t:TA} {p pos:Pos} (F:Fn X.prog X.w X.K X.mg X.base x ps k sp) (hr:Room k X.A) (hg:Gl X x) (ha:PA X (e::es) t)
  (hN:X.N[i]?=some y) (hky:X.env.kindOf y=some .cell) (hv:Vis X.env.scope y) (hl:X.env.cells.lookup y=some cell) (hfn:X.fn y=true)
  (hdb:(x==("__debug__" : Str))=false:=by decide) (he:starEach (e::es) X.env=(false,eval e X.env)::starEach es X.env:=by rfl) (hpl:(backTo pos (starEach es X.env)).any (·.1)=false:=by rfl) :
  PE X (.Call (.Name x p) (e::es) [] pos) (wB sp i cell t):=by
 obtain⟨f,fd,G,hm,hk,hb⟩:=F.ex;intro pins s U H Q I h;refine wpAny_Call_Name_kw (lG I hg hm ?_ hdb);refine PySem.W.callWith_K (h₀:=X.base) I.ok.mod.kin hk (thn (ha pos pins s U H _ I h) λus s1 ⟨vs,H1,I1,r,q⟩=>⟨I1.kIn,?_⟩) he hpl;obtain⟨vy,hi,q⟩:=q;obtain⟨o,uy,e1,e2,ry,hn⟩:=I1.cellAt hN hi hky hv hl;have nf:=I1.cellOut hfn hl;have ab:=I1.ok.cab y cell hfn hl;have e0:=I1.env0
 have e0':Env0 X.prog X.w X.K X.mg X.base X.A X.stack s1 (upd H1 cell (cZ o)):=⟨e0.frames,e0.mod,λb ob e=>⟨(e0.bs b ob e).1,by
  rw[ao]
  ·exact(e0.bs b ob e).2
  ·intro z;have:=Qk (I1.ok.bs b ob e).1;rw[z]at this
   exact absurd this (Nat.not_lt.mpr ab)⟩,e0.bsz,e0.funs,λb hb=>by
  rw[ao]
  ·exact e0.frf b hb
  intro z;rw[z]at hb;exact nf hb,e0.hok.take hn e1,e0.bare⟩
 have hl2:us.length=ps.length:=by rw[<-r.length];exact G.len _ _ _ _ (q o uy e2 ry hn)
 refine wpAny_call (codeAny_mono (G.run X.A X.stack s1 _ ⟨us,[]⟩ us vs _ E0 hr e0' (by have:=hb s1 us I1.kIn (by rw[Xn];exact hl2);rwa [Xn]at this) r (q o uy e2 ry hn)) λrr s' hq=>?_)
 cases rr with
 | error e=>exact False.elim hq
 | ok fl =>
 cases fl with
 | ret u =>
  obtain⟨v,H',os,bare,un,hok,rv,qv⟩:=hq;obtain⟨un',hok',_⟩:=un.out hok hn e1 nf;exact I1.after ⟨v,_,os,bare,un',hok',rv,qv⟩
 | next=>exact False.elim hq
 | brk=>exact False.elim hq
 | cont=>exact False.elim hq
structure FunC (K:PySem.W.Frag) (x qual:Str) (st:Stmt) (f:Addr) (fd:FuncData) (c:Addr):Prop where
 ex:∃oc od kV doc pm an ct osl,fd=PySem.W.fnOf x qual (cU st) (b8 st) (au st) .none kV doc pm an (.ref c) ct/\K.lookup f=some ⟨oc,od,.func (PySem.W.fnOf x qual (cU st) (b8 st) (au st) .none kV doc pm an (.ref c) ct),osl⟩/\PySem.W.codeIn K (.ref c) qual=true
section
variable {P:Program} {w:World} {K:PySem.W.Frag} {mg:C2} {base:Heap}
theorem FunC.ok {x qual:Str} {st:Stmt} {f c:Addr} {fd:FuncData} {N ps:List Str} {k:Nat} {sp:Sp} (F:FunC K x qual st f fd c) (S:FnScope N ps (au st)) (len:∀vs H Q E,sp vs H Q E->vs.length=ps.length)
  (hbody:∀(A:Around) (outer:List Env) (s:Shared) (H:Hp) (vs:List V) (Q:VK) (E:XK),Room k (A.deeper (envOfC qual (au st) s.heap.objs.size f (.ref c)))->sp vs H Q E ->
   ∃t,PSs (cxOf CX0 P w K mg base N qual (au st) f (.ref c) A outer s H E).nox (b8 st) t/\t { nx:=λ_ H'=>Q .non H',rt:=Q } (start N vs) H):FnOk P w K mg base CX0 (k+1) f fd ps sp:=by
 obtain⟨oc,od,kV,doc,pm,an,ct,osl,rfl,lk,hcd⟩:=F.ex;refine wt lk hcd S len λA outer s H vs Q E hr hsp=>?_;obtain⟨t,h,q⟩:=hbody A outer s H vs Q E hr hsp;exact⟨t,h.nox,q⟩
end
structure OnlyT (tabs:List (Addr × Addr)) (H:Hp):Prop where
 tab:∀q∈tabs,H q.2=some (.tbl #[])
 other:∀b,b∉tabs.map (·.2)->H b=none\/∃o xs,H b=some (.frz o (.lst xs))
theorem qz {CX:CXT} {k:Nat} {fd:FuncData} {sp:Sp} {vs:List Value} {ns:List Int} {tabs:List (Addr × Addr)}
  (KX:K.In s₁.heap) (hns:s₁.heap.Ns mainGlobals mg) (hb:s₁.heap.Ns builtinsNs mb) (hbb:∀x:Str,x ≠ "__name__" -> mb x=bootBuiltins x) (hlim:s₁.heap.NoLimit) (hg:s₁.gens=#[])
  (hbm:fJ s₁.heap mg) (hT:PySem.W.TabsAt tabs s₁.heap) (hTK:∀q∈tabs,K.lookup q.2=none)
  (ha:s₁.heap.get? a=some { cls:=.type "list", data:=.seq vs.toArray }) (hi:IntsAre vs ns) (hl:ns.length<=sizeLine) (hr:Room k callerA)
  (F:∀base:Heap,K.In base->base.Ns mainGlobals mg->fJ base mg->FnOk P w K mg base CX k fa fd [x] sp) (hbind:∀(s:Shared) (u:Value),BindsTo s fd ⟨[u],[]⟩ [(x,u)])
  (hsp:∀H:Hp,OnlyT tabs H->SqL K H a (ns.map V.int)->sp [.ref a] H (λv _=>v=.bl true) λ_ _ _=>False)
  (hCX:∀H e s',CX [] H s₁ (λ_ _ _=>False) e s'->False) :
  codeAny (model P w) callerA (.call (.ref fa) ⟨[.ref a],[]⟩) (λr s'=>r=.ok (.ret (.bool true))/\OldK s₁.heap s'.heap/\s'.os=s₁.os/\AllBare s'.gens) s₁:=by
 have rv:=jY hi;have lenV:=hi.length
 have naT:a∉tabs.map (·.2):=λq=>by
  obtain⟨r,hr,e⟩:=Qp.mp q;have e2:=(hT r hr).2;rw[e,ha]at e2;cases e2
 have core:∀H:Hp,OnlyT tabs H->SqL K H a (ns.map V.int)->HOk P w H s₁.heap->(∀b,H b≠none->b=a\/b∈tabs.map (·.2))->(H a≠none->K.lookup a=none) ->
   codeAny (model P w) callerA (.call (.ref fa) ⟨[.ref a],[]⟩) (λr s'=>r=.ok (.ret (.bool true))/\OldK s₁.heap s'.heap/\s'.os=s₁.os/\AllBare s'.gens) s₁:=by
  intro H hO hS hok hA hK;have base_of:∀{b:Addr} {o:Obj},s₁.heap.get? b=some o->H b=none->(jT s₁.heap H).get? b=some o:=λe n=>tI e n
  have noA:∀{b:Addr} {o:Obj},s₁.heap.get? b=some o->(∀ps n,o.data≠.seq ps n)->(∀ps,o.data≠.fields ps)->H b=none:=λ{b o} e d1 d2=>by
   cases q:H b with
   | none=>rfl
   | some u =>
   rcases hA b (by rw[q];simp) with e'|e'
   ·subst e';rw[ha]at e;cases e;exact absurd rfl (d1 _ _)
   obtain⟨r,hr,er⟩:=Qp.mp e';have e2:=(hT r hr).2;rw[er,e]at e2;cases e2;exact absurd rfl (d2 _)
  have nsK:∀{b:Addr} {m:C2},s₁.heap.Ns b m->(jT s₁.heap H).Ns b m:=λ{b m} ⟨o,es,ep,e,d,r⟩=>⟨o,es,ep,base_of e (noA e (λ_ _ z=>by rw[d]at z;cases z) (λ_ z=>by rw[d]at z;cases z)),d,r⟩
  have hKb:K.In (jT s₁.heap H):=λb o e=>base_of (KX b o e) (by
   cases q:H b with
   | none=>rfl
   | some u =>
   rcases hA b (by rw[q];simp) with e'|e'
   ·subst e';rw[hK (by rw[q];simp)]at e;cases e
   obtain⟨r,hr,er⟩:=Qp.mp e';have e2:=hTK r hr;rw[er,e]at e2
   cases e2)
  have hM:Mod K mg (jT s₁.heap H):=⟨hKb,nsK hns,⟨mb,nsK hb,hbb⟩,let ⟨mc,h1,h2⟩:=hlim;⟨mc,nsK h1,h2⟩⟩
  have hB:fJ (jT s₁.heap H) mg:=by
   obtain⟨bm,ob,b1,b2,b3,b4,b5,b6,b7⟩:=hbm;exact⟨bm,ob,b1,b2,b3,base_of b4 (noA b4 (λ_ _ z=>by rw[b7]at z;cases z) (λ_ z=>by rw[b7]at z;cases z)),b5,b6,b7⟩
  have e0:Env0 P w K mg (jT s₁.heap H) callerA [] s₁ H:=⟨rfl,hM,λb o e=>uW e,Nat.le_of_eq (qK _ _),trivial,λb hb=>absurd (show b∈([]:C3) from hb) (by simp),hok,.of_eq hg⟩;refine codeAny_mono ((F _ hKb (nsK hns) hB).run callerA [] s₁ H ⟨[.ref a],[]⟩ [.ref a] [.ref a] _ _ hr e0 (hbind s₁ (.ref a)) (.cons rfl .nil) (hsp H hO hS)) λr s' h=>?_
  cases r with
  | error e=>exact(hCX H e s' h).elim
  | ok fl =>
  cases fl with
  | next=>exact False.elim h
  | brk=>exact False.elim h
  | cont=>exact False.elim h
  | ret u =>
  obtain⟨v,H',os,bare,un,hok',r',q⟩:=h;have q':v=.bl true:=q;subst q';obtain rfl:u=Value.bool true:=r';refine⟨rfl,⟨λb o e=>?_,λb o e=>un.there b o e (by simp)⟩,os,bare⟩
  cases q:H b with
  | none=>exact .inl (un.keep b o e q (by intro z;exact absurd (show b∈([]:C3) from z) (by simp)) (by simp))
  | some u =>
  by_cases hb:b∈tabs.map (·.2)
  ·obtain⟨r,hr,er⟩:=Qp.mp hb;have t1:=hO.tab r hr;have e2:=(hT r hr).2;have ict:=((hT r hr).1.tab (hT r hr).2).isCodeTable;rw[er]at t1 e2 ict;rw[e]at e2;cases e2;obtain⟨more,t2⟩:=un.tbls b _ t1;have t3:s'.heap.get? b=some { cls:=.none,data:=.fields (#[]++more) }:=hok' b _ t2;exact .inr (.inl ⟨ict,rfl,#[],more,rfl,t3⟩)
  rcases hO.other b hb with z|⟨ob,xs,z⟩
  ·rw[q]at z;cases z
  have z2:=un.frzs b ob _ z;obtain⟨e1,_⟩:=hok b _ z;obtain⟨e2,_⟩:=hok' b _ z2;rw[e]at e1;cases e1;exact .inl e2
 let HT:Hp:=λb=>if b∈tabs.map (·.2) then some (.tbl #[]) else none
 have htab:∀b,b∈tabs.map (·.2)->s₁.heap.get? b=some (PySem.W.tabObj #[]):=λb hb=>by
  obtain⟨r,hr,er⟩:=Qp.mp hb;rw[<-er];exact(hT r hr).2
 cases hk:K.lookup a with
 | some o =>
  have e:=KX a o hk;rw[ha]at e;cases e;refine core HT ⟨λq hq=>QB (Qp.mpr ⟨q,hq,rfl⟩),λb hb=>.inl (QC hb)⟩ (.inr ⟨_,vs.toArray,_,hk,rfl,rfl,rfl,by rw[Qi,lenV];exact hl,by simpa using rv⟩) (λb u z=>?_) (λb z=>?_) λz=>absurd (QC naT) z
  ·by_cases hb:b∈tabs.map (·.2)
   ·have z':=(QB hb).symm.trans z;cases z';exact htab b hb
   have z':=(QC hb).symm.trans z;cases z'
  by_cases hb:b∈tabs.map (·.2)
  ·exact .inr hb
  exact absurd (QC hb) z
 | none =>
 let HA:Hp:=λb=>if b=a then some (.frz { cls:=.type "list", data:=.seq vs.toArray } (.lst (ns.map V.int))) else HT b;have hA1:HA a=some (.frz { cls:=.type "list", data:=.seq vs.toArray } (.lst (ns.map V.int))):=QB rfl;have hA2:∀b,b≠a->HA b=HT b:=λb h=>QC h;refine core HA ⟨λq hq=>?_,λb hb=>?_⟩ (.inl (.inr ⟨{ cls:=.type "list", data:=.seq vs.toArray },hA1⟩)) (λb u z=>?_) (λb z=>?_) λ_=>hk
 ·rw[hA2 _ λz=>naT (Qp.mpr ⟨q,hq,z⟩)];exact QB (Qp.mpr ⟨q,hq,rfl⟩)
 ·by_cases hba:b=a
  ·subst hba;exact .inr ⟨_,_,hA1⟩
  rw[hA2 b hba];exact .inl (QC hb)
 ·by_cases hba:b=a
  ·subst hba;rw[hA1]at z;cases z;exact⟨ha,by rw[Qa];exact hl,vs,_,rv,ha⟩
  rw[hA2 b hba]at z;by_cases hb:b∈tabs.map (·.2)
  ·have z':=(QB hb).symm.trans z;cases z';exact htab b hb
  have z':=(QC hb).symm.trans z;cases z'
 by_cases hba:b=a
 ·exact .inl hba
 rw[hA2 b hba]at z;by_cases hb:b∈tabs.map (·.2)
 ·exact .inr hb
 exact absurd (QC hb) z
theorem ua {mean:ExcName->Option Value} (T:Top p loose mean mg mb h):fJ h mg:=by
 obtain⟨bm,ob,b1,b2,b3,b4,b5,b6⟩:=T.bmain;refine⟨bm,ob,b1,b2,λq=>?_,b3,b4,b5,b6⟩;obtain⟨o,es,ep,e,hd,_⟩:=T.g;rw[q,e]at b3;cases b3;rw[hd]at b6;cases b6
variable {XP:C2->Heap->Prop} {l:PySem.W.OpenLaw}
theorem rg {n k:Nat} {YP:World->Heap->Prop} {d:DefRec} {K:Params->PySem.W.Frag} {CX:World->CXT} {sp:World->Sp} (tabs:World->List (Addr × Addr))
  (hn:l.most=some n) (hn2:n<=sizeLine) (hdf:d.params.defaults=[]) (hr:Room k callerA)
  (hY:∀(w:World) (h:Heap),YP w h->(K w.params).In h) (hY2:∀(w:World) (h:Heap),YP w h->PySem.W.TabsAt (tabs w) h) (hTK:∀(w:World),∀q∈tabs w,(K w.params).lookup q.2=none)
  (F:∀(w:World) (mg:C2) (fa:Addr) (h:Heap),(K w.params).In h->h.Ns mainGlobals mg->mg d.name=some (.ref fa) ->
   ∃fd:FuncData,(∀(s:Shared) (u:Value),BindsTo s fd ⟨[u],[]⟩ [(x,u)]) /\
    ∀base:Heap,(K w.params).In base->base.Ns mainGlobals mg->fJ base mg->FnOk l.prog w (K w.params) mg base (CX w) k fa fd [x] (sp w))
  (hsp:∀(w:World) (H:Hp) (a:Addr) (ns:List Int),ns.length<=n->OnlyT (tabs w) H->SqL (K w.params) H a (ns.map V.int)->sp w [.ref a] H (λv _=>v=.bl true) λ_ _ _=>False)
  (hCX:∀(w:World) (H:Hp) (s:Shared) (e:Value) (s':Shared),CX w [] H s (λ_ _ _=>False) e s'->False) :
  PySem.W.WalkO q loose XP YP l.row.toRowW d [] (λf vs=>PySem.call f vs):=by
 refine Att.nE hn hdf λw s₀ s₁ mg mb fa o pm cd doc a vs ns G Y ho hd hcd hmg hobj hints hlen hg=>?_;have KX:=hY w _ Y;obtain⟨fd,hb,hF⟩:=F w mg fa _ KX G.T.g hmg;exact qz KX G.T.g G.T.b G.T.builtins G.T.nolimit hg (ua G.T) (hY2 w _ Y) (hTK w) hobj hints (QM hlen hn2) hr hF hb (λH hO hS=>hsp w H a ns hlen hO hS) λH e s'=>hCX w H s₁ e s'
def om (K:PySem.W.Frag) (ts:C3):List (Addr × Addr):=ts.flatMap λT=>(K.filter λp=>PySem.W.codeHdIn K p.1 T).map λp=>(p.1,T)
def gd (K:PySem.W.Frag) (ts:C3):Bool:=ts.all λT=>(K.any λp=>PySem.W.codeHdIn K p.1 T)&&(K.lookup T).isNone
variable {ts as:C3}
theorem jc {q:Addr × Addr} (h:q∈om K ts):q.2∈ts/\PySem.W.codeHdIn K q.1 q.2=true:=by
 obtain⟨T,hT,h⟩:=List.mem_flatMap.mp h;obtain⟨p,hp,rfl⟩:=Qp.mp h;exact⟨hT,(List.mem_filter.mp hp).2⟩
theorem ol (ok:gd K ts=true) (hT:T∈ts):∃c,(c,T)∈om K ts:=by
 have h:=Q0.mp ok T hT;rw[Bool.and_eq_true]at h;obtain⟨p,hp,e⟩:=List.any_eq_true.mp h.1;exact⟨p.1,List.mem_flatMap.mpr ⟨T,hT,Qp.mpr ⟨p,List.mem_filter.mpr ⟨hp,e⟩,rfl⟩⟩⟩
theorem oj (ok:gd K ts=true) (hT:T∈ts):K.lookup T=none:=by
 have h:=Q0.mp ok T hT;rw[Bool.and_eq_true]at h;exact Option.isNone_iff_eq_none.mp h.2
theorem rh {n k:Nat} {d:DefRec} {K:Params->PySem.W.Frag} {e:∀P,as=(K P).map (·.1)} {CX:World->CXT} {sp:World->Sp}
  (hn:l.most=some n) (hn2:n<=sizeLine) (hdf:d.params.defaults=[]) (hr:Room k callerA) (ok:∀w:World,gd (K w.params) ts=true)
  (F:∀(w:World) (mg:C2) (fa:Addr) (h:Heap),(K w.params).In h->h.Ns mainGlobals mg->mg d.name=some (.ref fa) ->
   ∃fd:FuncData,(∀(s:Shared) (u:Value),BindsTo s fd ⟨[u],[]⟩ [(x,u)]) /\
    ∀base:Heap,(K w.params).In base->base.Ns mainGlobals mg->fJ base mg->FnOk l.prog w (K w.params) mg base (CX w) k fa fd [x] (sp w))
  (hsp:∀(w:World) (H:Hp) (a:Addr) (ns:List Int),ns.length<=n->(∀T∈ts,H T=some (.tbl #[]))->SqL (K w.params) H a (ns.map V.int)->sp w [.ref a] H (λv _=>v=.bl true) λ_ _ _=>False)
  (hCX:∀(w:World) (H:Hp) (s:Shared) (e:Value) (s':Shared),CX w [] H s (λ_ _ _=>False) e s'->False) :
  PySem.W.WalkO q loose XP (PySem.W.kmHook K as e ts).says l.row.toRowW d [] (λf vs=>PySem.call f vs):=by
 refine rg (λw=>om (K w.params) ts) hn hn2 hdf hr (λw h Y=>PySem.W.km_in_of Y) (λw h Y q hq=>?_) (λw q hq=>oj (ok w) (jc hq).1) F (λw H a ns h1 hO hS=>hsp w H a ns h1 (λT hT=>?_) hS) hCX
 ·obtain⟨h1,h2⟩:=jc hq;exact⟨PySem.W.codeHd_of_K (PySem.W.km_in_of Y) h2,PySem.W.km_tabs_of Y _ h1⟩
 obtain⟨c,hc⟩:=ol (ok w) hT;exact hO.tab _ hc
def vM (f:Addr) (l:Lm) (y:Str) (cell c:Addr) (t:TE):V->Hp->VK->Prop:=λvx H Q=>∃(o:Obj) (uy:Value) (vy:V),H f=some (gT f l [(y,cell)] c)/\H c=some (ic c l.qual)/\H cell=some (cZ o)/\o.data=.cell (some uy)/\aO vy uy /\
 t [some vx,some vy] (c6 H cell) λv H'=>H' cell=none->Q v (upd H' cell (cZ o))
theorem oH {l:Lm} {k:Nat} {t:TE} (S:LmScope x y l.scope)
  (hb:∀(pm ctv u:Value),bindArgs (PySem.W.kla_fn "<lambda>" l.qual l.params l.body l.scope [(y,cell)] pm (.ref c) ctv) ⟨[u],[]⟩=pure [(x,u)])
  (body:∀(A:Around) (outer:List Env) (s:Shared) (H:Hp),Room k (A.deeper (PySem.W.envX l.qual l.scope s.heap.objs.size f (.ref c) [(y,cell)]))->PE (pR P w K mg base x y l f c cell A outer s H E0) l.body t) :
  Calls P w K mg base (k+1) f (vM f l y cell c t):=by
 intro X e1 e2 e3 e4 e5 hx hr pins s U H vx u Q I rx h;subst e1 e2 e3 e4 e5;obtain⟨o,uy,vy,hf,hc,hcell,hd,ry,q⟩:=h;obtain⟨pm,ctv,ef⟩:=(I.hok f _ hf).1;have ec:s.heap.CodeRec (.ref c) l.qual:=(I.hok c _ hc).1;have eo:s.heap.get? cell=some o:=(I.hok cell _ hcell).1;have e0:=I.env0
 have nf:cell∉frs X.stack:=λz=>by
  have:=e0.frf cell z;rw[hcell]at this;cases this
 have e0':Env0 X.prog X.w X.K X.mg X.base X.A X.stack s (c6 H cell):=⟨e0.frames,e0.mod,λb ob e=>⟨(e0.bs b ob e).1,by
  by_cases z:b=cell
  ·rw[z];exact cQ
  ·rw[bp z];exact(e0.bs b ob e).2⟩,e0.bsz,e0.funs,λb hb=>by
  by_cases z:b=cell
  ·rw[z];exact cQ
  rw[bp z];exact e0.frf b hb,e0.hok.drop hcell,e0.bare⟩
 refine wpAny_call (codeAny_mono (u0 (E:=E0) S hr e0' rx ry ⟨o,eo,hd⟩ cQ ef ec (hb pm ctv u) (body X.A X.stack s (c6 H cell)) q) λr s' hq=>?_)
 cases r with
 | error e=>exact False.elim hq
 | ok fl =>
 cases fl with
 | ret u =>
  obtain⟨v,H',os,bare,un,hok,rv,qv⟩:=hq;obtain⟨un',n',e'⟩:=un.back hcell eo nf (by simp);exact I.after ⟨v,_,os,bare,un',hok.take n' e',rv,qv n'⟩
 | next=>exact False.elim hq
 | brk=>exact False.elim hq
 | cont=>exact False.elim hq
end L2
namespace LZ
open PySem
section
variable {prog:Program} {w:World} {A:Around} {E:C0} {s:Shared}
abbrev IsZ (h:Heap) (z TI TO:Addr) (f0:Value) (f1:Bool):Prop :=
 h.get? z=some { cls:=.type "zip", dict:=none,data:=.fields #[f0,.bool f1,.bool false,.ref TI,.ref TO],slots:=#[] }
structure Apart5 (z TI TO i1 i2 l:Addr):Prop where
 TIz:TI≠z
 TOz:TO≠z
 i1z:i1≠z
 i2z:i2≠z
 TITO:TI≠TO
 TIi1:TI≠i1
 TIi2:TI≠i2
 TOi1:TO≠i1
 TOi2:TO≠i2
 i12:i1≠i2
 lz:l≠z
 lTO:l≠TO
 li1:l≠i1
 li2:l≠i2
variable {t:Tok} {x:Str} {it z i1 i2 l a:Addr} {ty:String}
theorem gx (hty:ty = "str_ascii_iterator" \/ ty = "str_iterator") {i c:Nat} {Q:C0} (hit:s.heap.IsStrIter it ty x t i) (hx:x.cps[i]?=some c)
  (hQ:∀h',h'.IsStrIter it ty x t (i+1)->Heap.SameBut it s.heap h'->Q (.str ⟨#[c]⟩ s.toks) { s with heap:=h',toks:=s.toks+1 }) :
  wpAny (model prog w) A (Builtin.SmallTypes.nextOf (.ref it)) Q E s:=by
 rcases hty with e|e
 ·subst e;exact wpAny_nextOf_ascii_item hit hx hQ
 subst e;exact wpAny_nextOf_wide_item hit hx hQ
variable {Q:Option Value->Shared->Prop} {xs:Array Value}
theorem oh (hty:ty = "str_ascii_iterator" \/ ty = "str_iterator") {TI TO:Addr} {k c:Nat} {v a b:Value} (D:Apart5 z TI TO i1 i2 l)
  (hz:IsZ s.heap z TI TO .none false) (hTI:IsPair s.heap TI (.ref i1) (.ref i2)) (hTO:IsPair s.heap TO a b) (h1:s.heap.IsListIter i1 l k) (h2:s.heap.IsStrIter i2 ty x t k) (hl:s.heap.IsList l xs) (hv:xs[k]?=some v) (hc:x.cps[k]?=some c)
  (hQ:∀h',IsZ h' z TI TO (rawInt s.heap.objs.size) false->(∃a b,IsPair h' TO a b)->h'.IsListIter i1 l (k+1)->h'.IsStrIter i2 ty x t (k+1)->IsPair h' s.heap.objs.size v (.str ⟨#[c]⟩ s.toks)->h'.objs.size=s.heap.objs.size+1 ->
   (∀c o,c≠z->c≠TO->c≠i1->c≠i2->s.heap.get? c=some o->h'.get? c=some o)->Q (some (.ref s.heap.objs.size)) { s with heap:=h',toks:=s.toks+1 }) :
  wpAny (model prog w) A (pyNext (.ref z)) Q E s:=by
 have hT:s.TypeIs (.ref z) "zip" := ⟨_,hz,rfl⟩;unfold pyNext
 refine Qe (wpAny_attempt (wpAny_callSpecial?_slot (name:=Str.ofString "__next__") hT F.slot_zip_next
  (wpAny_call_entry F.slot_zip_next hT F.entry_zip_next ?_ (F.args_zip_next_1 _))))
 show wpAny _ _ (field (.ref z) 2 >>= _) _ _ _;refine Qe (Xd hz rfl (x:=.bool false) rfl ?_);show wpAny _ _ (field (.ref z) 3 >>= _) _ _ _;refine Qe (Xd hz rfl (x:=.ref TI) rfl ?_);refine Qe (wpAny_seqItems hTI rfl ?_);show wpAny _ _ (Builtin.SmallTypes.ownedTupleIsFree (.ref z) >>= _) _ _ _;refine Qe ?_;unfold Builtin.SmallTypes.ownedTupleIsFree;refine Qe (Xd hz rfl (x:=.none) rfl (Qn ?_));simp only[if_true];refine Qe (wpAny_rule ?_);refine Qe (Xd hz rfl (x:=.ref TO) rfl ?_);refine Qe (Q4 hz (by simp) λh₁ hz1 hs₁=>?_)
 replace hz1:IsZ h₁ z TI TO .ellipsis false:=hz1
 refine Qe ?_;simp only[List.zipIdx_cons,List.zipIdx_nil,List.forIn_cons,List.forIn_nil];refine Qe (Qe (wpAny_onRaise ?_));show wpAny _ _ (Builtin.SmallTypes.nextOf (.ref i1) >>= _) _ _ _;refine Qe (wpAny_nextOf_list_item (h1.extBut hs₁.extBut D.i1z) (hl.extBut hs₁.extBut D.lz) hv λh₂ h12 hs₂=>Qn ?_);have hTO2:IsPair h₂ TO a b:=hs₂.extBut _ _ D.TOi1 (hs₁.extBut _ _ D.TOz hTO);refine Qe (wpAny_seqItems hTO2 rfl ?_);refine Qe (wpAny_updateSeq_pair hTO2 λh₃ hTO3 hs₃=>?_)
 replace hTO3:IsPair h₃ TO v b:=hTO3
 refine Qe (wpAny_letGo (Qn ?_));refine Qe (Qe (wpAny_onRaise ?_));show wpAny _ _ (Builtin.SmallTypes.nextOf (.ref i2) >>= _) _ _ _;have h23:h₃.IsStrIter i2 ty x t k:=((h2.extBut hs₁.extBut D.i2z).extBut hs₂.extBut D.i12.symm).extBut hs₃.extBut D.TOi2.symm;refine Qe (gx hty h23 hc λh₄ h24 hs4=>Qn ?_);have hTO4:IsPair h₄ TO v b:=hs4.extBut _ _ D.TOi2 hTO3;refine Qe (wpAny_seqItems hTO4 rfl ?_);refine Qe (wpAny_updateSeq_pair hTO4 λh₅ hTO5 hs5=>?_)
 replace hTO5:IsPair h₅ TO v (.str ⟨#[c]⟩ s.toks):=hTO5
 refine Qe (wpAny_letGo (Qn (Qn ?_)));refine Qe (wpAny_seqItems hTO5 rfl ?_);refine Qe (wpAny_newTuple ?_);have hsz:h₅.objs.size=s.heap.objs.size:=by rw[hs5.1,hs4.1,hs₃.1,hs₂.1,hs₁.1]
 have hz5:IsZ h₅ z TI TO .ellipsis false:=hs5.extBut _ _ D.TOz.symm (hs4.extBut _ _ D.i2z.symm (hs₃.extBut _ _ D.TOz.symm (hs₂.extBut _ _ D.i1z.symm hz1)))
 have hk₅:∀c o,c≠z->c≠TO->c≠i1->c≠i2->s.heap.get? c=some o->h₅.get? c=some o:=λc o c1 c2 c3 c4 e =>
  hs5.extBut _ _ c2 (hs4.extBut _ _ c4 (hs₃.extBut _ _ c2 (hs₂.extBut _ _ c3 (hs₁.extBut _ _ c1 e))))
 have h1₅:h₅.IsListIter i1 l (k+1):=((h12.extBut hs₃.extBut D.TOi1.symm).extBut hs4.extBut D.i12).extBut hs5.extBut D.TOi1.symm;have h25:h₅.IsStrIter i2 ty x t (k+1):=h24.extBut hs5.extBut D.TOi2.symm;have hzlt:z<h₅.objs.size:=Qk hz5;show wpAny _ _ (Builtin.SmallTypes.ownedTupleHandOut (.ref z) (.ref h₅.objs.size) >>= _) _ _ _;refine Qe ?_;unfold Builtin.SmallTypes.ownedTupleHandOut;have hz6:IsZ (h₅.push { cls:=.type "tuple", data:=.seq #[v,.str ⟨#[c]⟩ s.toks] }) z TI TO .ellipsis false:=Qd _ hz5;refine Qe (Q4 hz6 (by simp) λh₇ hz7 hs7=>?_)
 replace hz7:IsZ h₇ z TI TO (rawInt h₅.objs.size) false:=hz7
 refine Q4 hz7 (by simp) λh₈ hz₈ hs8=>?_
 replace hz₈:IsZ h₈ z TI TO (rawInt h₅.objs.size) false:=hz₈
 have up:∀c o,c≠z->h₅.get? c=some o->h₈.get? c=some o:=λc o c1 e=>hs8.extBut _ _ c1 (hs7.extBut _ _ c1 (Qd _ e));have hT8:IsPair h₈ h₅.objs.size v (.str ⟨#[c]⟩ s.toks):=hs8.extBut _ _ (Nat.ne_of_gt hzlt) (hs7.extBut _ _ (Nat.ne_of_gt hzlt) (Qw _ rfl));have hz8:h₈.objs.size=h₅.objs.size+1:=by rw[hs8.1,hs7.1,Heap.size_push]
 rw[hsz]at hz₈ hT8 hz8;refine Qn ⟨_,rfl,Qn ?_⟩;show Q (some (.ref h₅.objs.size)) _;rw[hsz];exact hQ h₈ hz₈ ⟨_,_,up _ _ D.TOz hTO5⟩ (h1₅.at λo e=>up _ o D.i1z e) (let ⟨o,e,r⟩:=h25;⟨o,up _ o D.i2z e,r⟩) hT8 hz8 λc o c1 c2 c3 c4 e=>up c o c1 (hk₅ c o c1 c2 c3 c4 e)
theorem wu {o:Obj} {Q:Option Obj->Shared->Prop} (ho:s.heap.get? a=some o) (h:Q (some o) s):wpAny (model prog w) A (loadIfAlive a) Q E s:=by
 have h':Q (s.heap.get? a) s:=by rw[ho];exact h
 exact λ_ _ _=>h'
theorem og (hty:ty = "str_ascii_iterator" \/ ty = "str_iterator") {TI TO T:Addr} {f1:Bool} {oT:Obj} {k c:Nat} {v:Value} (D:Apart5 z TI TO i1 i2 l)
  (hz:IsZ s.heap z TI TO (rawInt T) f1) (hT:s.heap.get? T=some oT) (hTI:IsPair s.heap TI (.ref i1) (.ref i2)) (h1:s.heap.IsListIter i1 l k) (h2:s.heap.IsStrIter i2 ty x t k) (hl:s.heap.IsList l xs) (hv:xs[k]?=some v) (hc:x.cps[k]?=some c)
  (hQ:∀h',IsZ h' z TI TO (rawInt T) true->h'.IsListIter i1 l (k+1)->h'.IsStrIter i2 ty x t (k+1)->IsPair h' s.heap.objs.size v (.str ⟨#[c]⟩ s.toks)->h'.objs.size=s.heap.objs.size+1 ->
   (∀c o,c≠z->c≠i1->c≠i2->s.heap.get? c=some o->h'.get? c=some o)->Q (some (.ref s.heap.objs.size)) { s with heap:=h',toks:=s.toks+1 }) :
  wpAny (model prog w) A (pyNext (.ref z)) Q E s:=by
 have hTy:s.TypeIs (.ref z) "zip" := ⟨_,hz,rfl⟩;unfold pyNext
 refine Qe (wpAny_attempt (wpAny_callSpecial?_slot (name:=Str.ofString "__next__") hTy F.slot_zip_next
  (wpAny_call_entry F.slot_zip_next hTy F.entry_zip_next ?_ (F.args_zip_next_1 _))))
 show wpAny _ _ (field (.ref z) 2 >>= _) _ _ _;refine Qe (Xd hz rfl (x:=.bool false) rfl ?_);show wpAny _ _ (field (.ref z) 3 >>= _) _ _ _;refine Qe (Xd hz rfl (x:=.ref TI) rfl ?_);refine Qe (wpAny_seqItems hTI rfl ?_);show wpAny _ _ (Builtin.SmallTypes.ownedTupleIsFree (.ref z) >>= _) _ _ _;refine Qe ?_;unfold Builtin.SmallTypes.ownedTupleIsFree;refine Qe (Xd hz rfl (x:=rawInt T) rfl ?_);show wpAny _ _ (loadIfAlive ((T:Int).toNat) >>= _) _ _ _;rw[Int.toNat_natCast];refine Qe (wu hT ?_);simp only[Option.isNone_some,QP,if_false];refine Qe (Xd hz rfl (x:=.bool f1) rfl ?_)
 cases f1 with
 | false =>
  simp only[show (Value.bool false != Value.bool true)=true from rfl,if_true];refine Qe (Q4 hz (by simp) λh₁ hz1 hs₁=>Qn ?_)
  replace hz1:IsZ h₁ z TI TO (rawInt T) true:=hz1
  simp only[QP,if_false,List.forIn_toArray,List.forIn_cons,List.forIn_nil];refine Qe (Qe (Qe (Q9 ?_)));show wpAny _ _ (Builtin.SmallTypes.nextOf (.ref i1) >>= _) _ _ _;refine Qe (wpAny_nextOf_list_item (h1.extBut hs₁.extBut D.i1z) (hl.extBut hs₁.extBut D.lz) hv λh₂ h12 hs₂=>Qn ?_);refine Qn ?_;dsimp only;refine Qe (Qe (Q9 ?_));show wpAny _ _ (Builtin.SmallTypes.nextOf (.ref i2) >>= _) _ _ _;have h22:h₂.IsStrIter i2 ty x t k:=(h2.extBut hs₁.extBut D.i2z).extBut hs₂.extBut D.i12.symm;refine Qe (gx hty h22 hc λh₄ h24 hs4=>Qn ?_);refine Qn (Qn ?_);dsimp only;show wpAny _ _ (newTuple [v,.str ⟨#[c]⟩ s.toks] >>= _) _ _ _;refine Qe (wpAny_newTuple ?_);have hsz:h₄.objs.size=s.heap.objs.size:=by rw[hs4.1,hs₂.1,hs₁.1]
  have hz4:IsZ h₄ z TI TO (rawInt T) true:=hs4.extBut _ _ D.i2z.symm (hs₂.extBut _ _ D.i1z.symm hz1);have hk₄:∀c o,c≠z->c≠i1->c≠i2->s.heap.get? c=some o->h₄.get? c=some o:=λc o c1 c3 c4 e=>hs4.extBut _ _ c4 (hs₂.extBut _ _ c3 (hs₁.extBut _ _ c1 e));refine Qn ⟨_,rfl,Qn ?_⟩;show Q (some (.ref h₄.objs.size)) _;rw[hsz];exact hQ _ (Qd _ hz4) ((h12.extBut hs4.extBut D.i12).at λo e=>Qd _ e) (let ⟨o,e,r⟩:=h24;⟨o,Qd _ e,r⟩) (by rw[<-hsz];exact Qw _ rfl) (by rw[Heap.size_push,hsz]) λc o c1 c3 c4 e=>Qd _ (hk₄ c o c1 c3 c4 e)
 | true =>
 simp only[show (Value.bool true != Value.bool true)=false from rfl,QP,if_false];refine Qn ?_;have hz1:IsZ s.heap z TI TO (rawInt T) true:=hz;have hs₁:Heap.SameBut z s.heap s.heap:=.refl ..;simp only[QP,if_false,List.forIn_toArray,List.forIn_cons,List.forIn_nil];refine Qe (Qe (Qe (Q9 ?_)));show wpAny _ _ (Builtin.SmallTypes.nextOf (.ref i1) >>= _) _ _ _;refine Qe (wpAny_nextOf_list_item (h1.extBut hs₁.extBut D.i1z) (hl.extBut hs₁.extBut D.lz) hv λh₂ h12 hs₂=>Qn ?_);refine Qn ?_;dsimp only;refine Qe (Qe (Q9 ?_));show wpAny _ _ (Builtin.SmallTypes.nextOf (.ref i2) >>= _) _ _ _;have h22:h₂.IsStrIter i2 ty x t k:=(h2.extBut hs₁.extBut D.i2z).extBut hs₂.extBut D.i12.symm;refine Qe (gx hty h22 hc λh₄ h24 hs4=>Qn ?_);refine Qn (Qn ?_);dsimp only;show wpAny _ _ (newTuple [v,.str ⟨#[c]⟩ s.toks] >>= _) _ _ _;refine Qe (wpAny_newTuple ?_);have hsz:h₄.objs.size=s.heap.objs.size:=by rw[hs4.1,hs₂.1,hs₁.1]
 have hz4:IsZ h₄ z TI TO (rawInt T) true:=hs4.extBut _ _ D.i2z.symm (hs₂.extBut _ _ D.i1z.symm hz1);have hk₄:∀c o,c≠z->c≠i1->c≠i2->s.heap.get? c=some o->h₄.get? c=some o:=λc o c1 c3 c4 e=>hs4.extBut _ _ c4 (hs₂.extBut _ _ c3 (hs₁.extBut _ _ c1 e));refine Qn ⟨_,rfl,Qn ?_⟩;show Q (some (.ref h₄.objs.size)) _;rw[hsz];exact hQ _ (Qd _ hz4) ((h12.extBut hs4.extBut D.i12).at λo e=>Qd _ e) (let ⟨o,e,r⟩:=h24;⟨o,Qd _ e,r⟩) (by rw[<-hsz];exact Qw _ rfl) (by rw[Heap.size_push,hsz]) λc o c1 c3 c4 e=>Qd _ (hk₄ c o c1 c3 c4 e)
theorem mW {TI TO:Addr} {f0:Value} {f1:Bool} {k:Nat} {a b:Value} (hh:A.handled=none) (D:Apart5 z TI TO i1 i2 l)
  (hz:IsZ s.heap z TI TO f0 f1) (hf:(f0=.none/\f1=false/\∃a b,IsPair s.heap TO a b)\/∃(T:Addr) (oT:Obj),f0=rawInt (T:Nat)/\s.heap.get? T=some oT) (hTI:IsPair s.heap TI (.ref i1) (.ref i2)) (h1:s.heap.IsListIter i1 l k) (hl:s.heap.IsList l xs) (hv:xs[k]?=none)
  (hQ:∀h',(∀c o,c≠z->c≠i1->s.heap.get? c=some o->h'.get? c=some o)->Q none { s with heap:=h' }):wpAny (model prog w) A (pyNext (.ref z)) Q E s:=by
 have hTy:s.TypeIs (.ref z) "zip" := ⟨_,hz,rfl⟩;unfold pyNext
 refine Qe (wpAny_attempt (wpAny_callSpecial?_slot (name:=Str.ofString "__next__") hTy F.slot_zip_next
  (wpAny_call_entry F.slot_zip_next hTy F.entry_zip_next ?_ (F.args_zip_next_1 _))))
 show wpAny _ _ (field (.ref z) 2 >>= _) _ _ _;refine Qe (Xd hz rfl (x:=.bool false) rfl ?_);show wpAny _ _ (field (.ref z) 3 >>= _) _ _ _;refine Qe (Xd hz rfl (x:=.ref TI) rfl ?_);refine Qe (wpAny_seqItems hTI rfl ?_);show wpAny _ _ (Builtin.SmallTypes.ownedTupleIsFree (.ref z) >>= _) _ _ _;refine Qe ?_;unfold Builtin.SmallTypes.ownedTupleIsFree;refine Qe (Xd hz rfl (x:=f0) rfl ?_)
 have fin:∀h' e,(∀c o,c≠z->c≠i1->s.heap.get? c=some o->h'.get? c=some o)->(∃o,h'.get? e=some o/\o.cls=.type "StopIteration") ->
   wpAny (model prog w) A (do if <-isInstance (.ref e) (.type "StopIteration") then pure none else throw (.ref e)) Q E { s with heap:=h' }:=λh' e hk ⟨o,ho,hc⟩ =>
  Qe (wpAny_isInstance (T := "StopIteration") (b:=true) ⟨o,ho,hc⟩ isSubtype_stop (Qn (hQ _ hk)))
 rcases hf with⟨e1,e2,a,b,hTO⟩|⟨T,oT,e1,hT⟩
 ·subst e1 e2;refine Qn ?_;simp only[if_true];refine Qe (wpAny_rule ?_);refine Qe (Xd hz rfl (x:=.ref TO) rfl ?_);refine Qe (Q4 hz (by simp) λh₁ hz1 hs₁=>?_)
  replace hz1:IsZ h₁ z TI TO .ellipsis false:=hz1
  refine Qe ?_;simp only[List.zipIdx_cons,List.zipIdx_nil,List.forIn_cons,List.forIn_nil];refine Qe (Qe (wpAny_onRaise ?_));show wpAny _ _ (Builtin.SmallTypes.nextOf (.ref i1) >>= _) _ _ _;refine Qe (wpAny_nextOf_list_end hh (h1.extBut hs₁.extBut D.i1z) (hl.extBut hs₁.extBut D.lz) hv λh₂ e hs₂ he=>?_);obtain⟨oe,hoe,hce⟩:=he;have hz2:IsZ h₂ z TI TO .ellipsis false:=hs₂ _ _ D.i1z.symm hz1;have hez:e≠z:=λx=>by subst x;rw[hz2]at hoe;cases hoe;simp at hce
  refine Q4 hz2 (by simp) λh₃ _ hs₃=>?_;exact fin h₃ e (λc o c1 c3 x=>hs₃.extBut _ _ c1 (hs₂ _ _ c3 (hs₁.extBut _ _ c1 x))) ⟨oe,hs₃.extBut _ _ hez hoe,hce⟩
 subst e1;show wpAny _ _ (loadIfAlive ((T:Int).toNat) >>= _) _ _ _;rw[Int.toNat_natCast];refine Qe (wu hT ?_);simp only[Option.isNone_some,QP,if_false];refine Qe (Xd hz rfl (x:=.bool f1) rfl ?_)
 cases f1 with
 | false =>
  simp only[show (Value.bool false != Value.bool true)=true from rfl,if_true];refine Qe (Q4 hz (by simp) λh₁ hz1 hs₁=>Qn ?_)
  replace hz1:IsZ h₁ z TI TO (rawInt T) true:=hz1
  simp only[QP,if_false,List.forIn_toArray,List.forIn_cons,List.forIn_nil];refine Qe (Qe (Qe (Q9 ?_)));show wpAny _ _ (Builtin.SmallTypes.nextOf (.ref i1) >>= _) _ _ _;refine Qe (wpAny_nextOf_list_end hh (h1.extBut hs₁.extBut D.i1z) (hl.extBut hs₁.extBut D.lz) hv λh₂ e hs₂ he=>?_);exact fin h₂ e (λc o c1 c3 x=>hs₂ _ _ c3 (hs₁.extBut _ _ c1 x)) he
 | true =>
 simp only[show (Value.bool true != Value.bool true)=false from rfl,QP,if_false];refine Qn ?_;simp only[QP,if_false,List.forIn_toArray,List.forIn_cons,List.forIn_nil];refine Qe (Qe (Qe (Q9 ?_)));show wpAny _ _ (Builtin.SmallTypes.nextOf (.ref i1) >>= _) _ _ _;refine Qe (wpAny_nextOf_list_end hh h1 hl hv λh₂ e hs₂ he=>?_);exact fin h₂ e (λc o c1 c3 x=>hs₂ _ _ c3 x) he
abbrev zH1 (h:Heap) (l:Addr):Heap:=h.push { cls:=.type "list_iterator", data:=.fields #[.ref l,.int 0 0] }
abbrev zH2 (h:Heap) (l:Addr) (ty:String) (x:Str) (t:Tok):Heap:=(zH1 h l).push { cls:=.type ty,data:=.fields #[.str x t,.int 0 0] }
abbrev zH3 (h:Heap) (l:Addr) (ty:String) (x:Str) (t:Tok):Heap:=(zH2 h l ty x t).push { cls:=.type "tuple", data:=.seq #[.ref h.objs.size,.ref (zH1 h l).objs.size] }
abbrev zH4 (h:Heap) (l:Addr) (ty:String) (x:Str) (t:Tok):Heap:=(zH3 h l ty x t).push { cls:=.type "tuple", data:=.seq #[.none,.none] }
abbrev zH5 (h:Heap) (l:Addr) (ty:String) (x:Str) (t:Tok):Heap:=(zH4 h l ty x t).push { cls:=.type "zip", data:=.fields #[.none,.bool false,.bool false,.ref (zH2 h l ty x t).objs.size,.ref (zH3 h l ty x t).objs.size] }
def dM (x:Str):String:=if x.cps.all (·<128)=true then "str_ascii_iterator" else "str_iterator"
theorem qH {Q:C0} (hQ:Q (.ref s.heap.objs.size) { s with heap:=s.heap.push { cls:=.type (dM x),data:=.fields #[.str x t,.int 0 0] } }):wpAny (model prog w) A (pyIter (.str x t)) Q E s:=by
 unfold dM at hQ
 cases ha:x.cps.all (·<128) with
 | true=>rw[ha,QB rfl]at hQ;exact wpAny_pyIter_ascii ha hQ
 | false=>rw[ha,QC Qj]at hQ;exact wpAny_pyIter_wide ha hQ
theorem uq (x:Str):dM x = "str_ascii_iterator" \/ dM x = "str_iterator" := by
 unfold dM
 split
 ·exact .inl rfl
 exact .inr rfl
theorem qx (l:Addr) (xs:Array Value) (x:Str) (t:Tok) :
  Meets (Builtin.«zip.__new__» ⟨[.type "zip", .ref l,.str x t],[]⟩) (λ_ R s=>s.heap.IsList l xs/\R (.ok (.ret (.ref (zH4 s.heap l (dM x) x t).objs.size))) { s with heap:=zH5 s.heap l (dM x) x t }) :=
 .of_wp λprog w A R s h=>by
  obtain⟨hp,g,d,tk,os⟩:=s;obtain⟨hl1,h⟩:=h;have hsub:=sub_zip;have hL1:Heap.IsList (Shared.heap ⟨hp,g,d,tk,os⟩) l xs:=hl1
  wp_walk using wpAny_pyIter_list hL1,qH
  exact⟨_,rfl,h⟩
theorem t_ {Q:C0} (hl1:s.heap.IsList l xs)
  (h:∀h',IsZ h' (s.heap.objs.size+4) (s.heap.objs.size+2) (s.heap.objs.size+3) .none false->IsPair h' (s.heap.objs.size+2) (.ref s.heap.objs.size) (.ref (s.heap.objs.size+1)) ->
   IsPair h' (s.heap.objs.size+3) .none .none->h'.IsListIter s.heap.objs.size l 0->h'.IsStrIter (s.heap.objs.size+1) (dM x) x t 0->h'.objs.size=s.heap.objs.size+5 ->
   (∀c o,s.heap.get? c=some o->h'.get? c=some o)->Q (.ref (s.heap.objs.size+4)) { s with heap:=h' }) :
  wpAny (model prog w) A (call (.type "zip") [.ref l,.str x t]) Q E s:=by
 refine callType_new F.called_zip (by decide) (F.typeCall_zip_2 _ _) (F.newCall_zip_2 _ _) (λobj=>F.args_object_init_3 obj _ _) F.entry_zip_new (qx l xs x t) ⟨hl1,?_⟩;have z1:(zH1 s.heap l).objs.size=s.heap.objs.size+1:=Heap.size_push ..;have z2:(zH2 s.heap l (dM x) x t).objs.size=s.heap.objs.size+2:=by rw[Heap.size_push,z1]
 have z3:(zH3 s.heap l (dM x) x t).objs.size=s.heap.objs.size+3:=by rw[Heap.size_push,z2]
 have z4:(zH4 s.heap l (dM x) x t).objs.size=s.heap.objs.size+4:=by rw[Heap.size_push,z3]
 have z5:(zH5 s.heap l (dM x) x t).objs.size=s.heap.objs.size+5:=by rw[Heap.size_push,z4]
 have g5:(zH5 s.heap l (dM x) x t).get? (zH4 s.heap l (dM x) x t).objs.size=some _:=Qw _ rfl;have g4:(zH5 s.heap l (dM x) x t).get? (zH3 s.heap l (dM x) x t).objs.size=some _:=Qd _ (Qw _ rfl);have g3:(zH5 s.heap l (dM x) x t).get? (zH2 s.heap l (dM x) x t).objs.size=some _:=Qd _ (Qd _ (Qw _ rfl));have g2:(zH5 s.heap l (dM x) x t).get? (zH1 s.heap l).objs.size=some _:=Qd _ (Qd _ (Qd _ (Qw _ rfl)));have g1:(zH5 s.heap l (dM x) x t).get? s.heap.objs.size=some _:=Qd _ (Qd _ (Qd _ (Qd _ (Qw _ rfl))));show _/\_;rw[z2,z3,z4]at g5;rw[z1,z2]at g3;rw[z3]at g4;rw[z1]at g2;rw[z4]
 exact⟨⟨_,g5,rfl⟩,h _ g5 g3 g4 ⟨_,g1,rfl,rfl⟩ ⟨_,g2,rfl,rfl⟩ z5 λc o x =>
  Qd _ (Qd _ (Qd _ (Qd _ (Qd _ x))))⟩
theorem gq:typeLookup (.type "zip") "__getattr__" = pure none:=by rw[typeLookup_type,Xq];kernel_rfl
theorem jG:typeLookup (.type "zip") "keys" = pure none:=by rw[typeLookup_type,Xq];kernel_rfl
theorem eA:entryFor table "zip.__getattribute__" = some Builtin.«object.__getattribute__» :=
 entryFor_alias (id' := "object.__getattribute__") (by kernel_rfl) (by decide +kernel) (by decide +kernel) (by kernel_rfl)
theorem jb (a:Addr) (xs:Array Value) (sl:Array (Option Value)) (u:Tok) :
  Meets (Builtin.«object.__getattribute__» ⟨[.ref a,.str "keys" u],[]⟩) (λA R s=>s.heap.get? a=some { cls:=.type "zip", dict:=none,data:=.fields xs,slots:=sl }/\raisesAttr (.ref a) "keys" A R s) :=
 Meets.of_wp λprog w A R s hs=>by
  obtain⟨hp,g,d,tk,os⟩:=s;obtain⟨hx,hs⟩:=hs;have hT:(⟨hp,g,d,tk,os⟩:Shared).TypeIs (.ref a) "zip" := ⟨_,hx,rfl⟩;have hmiss:=jG;have hname:(["__module__", "__name__", "__qualname__", "__doc__", "__annotations__"]:List Str).contains "keys" = false:=by decide +kernel
  unfold Builtin.«object.__getattribute__»
  repeat (any_goals (first|assumption|wp_step))
  try simp only[hname,QP,if_false]
  repeat (any_goals (first|assumption|wp_step))
  exact wpAny_raiseAttrError hs.1 hs.2 (attrMsg_fits (by decide +kernel) (by decide +kernel))
theorem qC {sl:Array (Option Value)} (hx:s.heap.get? a=some { cls:=.type "zip", dict:=none,data:=.fields xs,slots:=sl }) (hA:A.handled=none)
  (h:∀h' tk,(∀c o,s.heap.get? c=some o->h'.get? c=some o)->Q none { s with heap:=h',toks:=tk }):wpAny (model prog w) A (getAttr? (.ref a) "keys") Q E s:=by
 obtain⟨hp,g,d,tk,os⟩:=s;have hT:∀tk',(⟨hp,g,d,tk',os⟩:Shared).TypeIs (.ref a) "zip" := λ_=>⟨_,hx,rfl⟩;have f1:=sub_AttributeError;have f3:=F.slot_zip_getattribute.lookup;have f4:=F.slot_zip_getattribute.bind (.ref a);have f5:=gq;unfold getAttr? getAttrBy? getAttrBy
 repeat (any_goals (first|assumption|exact hT _|((with_reducible show wpAny _ _ (call (Value.builtin "zip.__getattribute__") _ _) _ _ _);refine call_meets F.slot_zip_getattribute (hT _) eA (F.args_zip_getattribute_2 _ _) (jb a xs sl _) ⟨hx,hA,λh' tk' e hx'=>?_⟩)|wp_step))
 obtain⟨t',u',he⟩:=hx'.there;show wpAny _ _ (getattributeRaised _ _ _ _ _ _ _) _ _ _;unfold getattributeRaised
 repeat (any_goals (first|assumption|wp_step))
 all_goals exact h _ _ hx'.keeps
end
theorem i9:mroOf (.type "dict")=pure [.type "dict", .type "object"]:=by rw[mroOf_type];kernel_rfl
theorem ij:typeLookup (.type "dict") "__new__" = pure (some (.builtin "dict.__new__")):=by rw[typeLookup_type,Xq];kernel_rfl
theorem h_:TypeCalled "dict" "dict.__new__" "dict.__init__" :=
 ⟨by decide +kernel,by decide +kernel,⟨_,_,i9⟩,madeBy_type i9 ij (by decide +kernel),by decide +kernel,by rw[isSubtype_type];kernel_rfl,F.slot_dict_init⟩
theorem eJ (a:Value):checkTypeCall "dict" ⟨[a],[]⟩=pure ():=by kernel_rfl
theorem i8 (a:Value):checkBuiltinCall "dict.__new__" ⟨[.type "dict", a],[]⟩=pure ():=by kernel_rfl
theorem jj:entryFor table "dict.__new__" = some Builtin.«dict.__new__»:=entryFor_of_tree (by kernel_rfl)
theorem i0:plainId "dict.__new__" = true:=by decide +kernel
theorem rG:isSubtype (.type "dict") (.type "dict")=pure true:=by rw[isSubtype_type];kernel_rfl
theorem fo:entryFor table "dict.update.loop" = some Builtin.«dict.update.loop»:=entryFor_of_tree (by kernel_rfl)
theorem ck:plainId "dict.update.loop" = true:=by decide +kernel
structure ApartD (z TI TO i1 i2 l d:Addr):Prop extends Apart5 z TI TO i1 i2 l where
 dz:d≠z
 dTI:d≠TI
 dTO:d≠TO
 di1:d≠i1
 di2:d≠i2
 dl:d≠l
structure ZS (h:Heap) (z TI TO i1 i2 l d:Addr) (ty:String) (x:Str) (t:Tok) (xs:Array Value) (k:Nat):Prop where
 zf:(IsZ h z TI TO .none false/\∃a b,IsPair h TO a b)\/∃(T:Addr) (f1:Bool) (oT:Obj),IsZ h z TI TO (rawInt (T:Nat)) f1/\h.get? T=some oT/\T≠z/\T≠i1/\T≠i2/\T≠d
 ti:IsPair h TI (.ref i1) (.ref i2)
 a1:h.IsListIter i1 l k
 a2:h.IsStrIter i2 ty x t k
 li:h.IsList l xs
section
variable {prog:Program} {w:World} {K:Type} [DecidableEq K] {knd:KeyKind prog w K} {A:Around} {R:Result->Shared->Prop}
variable {Q:Option Value->Shared->Prop} {xs:Array Value} {t:Tok} {x:Str} {z i1 i2 l d:Addr} {ty:String} {s:Shared} {E:C0}
theorem uf (hty:ty = "str_ascii_iterator" \/ ty = "str_iterator") {TI TO:Addr} {k c:Nat} {v:Value} {od:Obj} (D:ApartD z TI TO i1 i2 l d)
  (Z:ZS s.heap z TI TO i1 i2 l d ty x t xs k) (hod:s.heap.get? d=some od) (hv:xs[k]?=some v) (hc:x.cps[k]?=some c)
  (hQ:∀h' T u,ZS h' z TI TO i1 i2 l d ty x t xs (k+1)->IsPair h' T v (.str ⟨#[c]⟩ u)->T≠d->(∀c o,c≠z->c≠TO->c≠i1->c≠i2->s.heap.get? c=some o->h'.get? c=some o)->Q (some (.ref T)) { s with heap:=h',toks:=s.toks+1 }) :
  wpAny (model prog w) A (pyNext (.ref z)) Q E s:=by
 have lt:∀{c o},s.heap.get? c=some o->s.heap.objs.size≠c:=λe=>Nat.ne_of_gt (Qk e);have l1:s.heap.objs.size≠i1:=by obtain⟨_,e,_⟩:=Z.a1;exact lt e
 have l2:s.heap.objs.size≠i2:=by obtain⟨_,e,_⟩:=Z.a2;exact lt e
 rcases Z.zf with⟨hz,a,b,hTO⟩|⟨T,f1,oT,hz,hT,n1,n2,n3,n4⟩
 ·refine oh hty D.toApart5 hz Z.ti hTO Z.a1 Z.a2 Z.li hv hc λh' b1 b2 b3 b4 b5 b6 b7=>?_;exact hQ h' _ _ ⟨.inr ⟨_,_,_,b1,b5,lt hz,l1,l2,lt hod⟩,b7 _ _ D.TIz D.TITO D.TIi1 D.TIi2 Z.ti,b3,b4,Z.li.at λo e=>b7 _ o D.lz D.lTO D.li1 D.li2 e⟩ b5 (lt hod) b7
 refine og hty D.toApart5 hz hT Z.ti Z.a1 Z.a2 Z.li hv hc λh' b1 b3 b4 b5 b6 b7=>?_;exact hQ h' _ _ ⟨.inr ⟨T,_,oT,b1,b7 _ _ n1 n2 n3 hT,n1,n2,n3,n4⟩,b7 _ _ D.TIz D.TIi1 D.TIi2 Z.ti,b3,b4,Z.li.at λo e=>b7 _ o D.lz D.li1 D.li2 e⟩ b5 (lt hod) λc o c1 _ c3 c4 e=>b7 c o c1 c3 c4 e
theorem wv {TI TO:Addr} {k:Nat} (hh:A.handled=none) (D:ApartD z TI TO i1 i2 l d)
  (Z:ZS s.heap z TI TO i1 i2 l d ty x t xs k) (hv:xs[k]?=none) (hQ:∀h',(∀c o,c≠z->c≠i1->s.heap.get? c=some o->h'.get? c=some o)->Q none { s with heap:=h' }):wpAny (model prog w) A (pyNext (.ref z)) Q E s:=by
 rcases Z.zf with⟨hz,a,b,hTO⟩|⟨T,f1,oT,hz,hT,n1,n2,n3,n4⟩
 ·exact mW (a:=a) (b:=b) hh D.toApart5 hz (.inl ⟨rfl,rfl,a,b,hTO⟩) Z.ti Z.a1 Z.li hv hQ
 exact mW (a:=.none) (b:=.none) hh D.toApart5 hz (.inr ⟨T,oT,rfl,hT⟩) Z.ti Z.a1 Z.li hv hQ
theorem ZS.dict {h h':Heap} {TI TO:Addr} {k:Nat} (D:ApartD z TI TO i1 i2 l d) (Z:ZS h z TI TO i1 i2 l d ty x t xs k) (hs:Heap.SameBut d h h'):ZS h' z TI TO i1 i2 l d ty x t xs k:=by
 refine⟨?_,hs.extBut _ _ D.dTI.symm Z.ti,Z.a1.extBut hs.extBut D.di1.symm,Z.a2.extBut hs.extBut D.di2.symm,Z.li.extBut hs.extBut D.dl.symm⟩;rcases Z.zf with⟨hz,a,b,hTO⟩|⟨T,f1,oT,hz,hT,n1,n2,n3,n4⟩
 ·exact .inl ⟨hs.extBut _ _ D.dz.symm hz,a,b,hs.extBut _ _ D.dTO.symm hTO⟩
 exact .inr ⟨T,f1,oT,hs.extBut _ _ D.dz.symm hz,hs.extBut _ _ n4 hT,n1,n2,n3,n4⟩
def c8 (kvs:List (K × Value)) (ps:List (K × Value)):List (K × Value):=ps.foldl (λacc p=>stored acc p.1 p.2) kvs
theorem iF (kvs:List (K × Value)) (k:K) (v:Value):(stored kvs k v).length<=kvs.length+1:=by
 unfold stored
 split
 ·rw[Qa];exact yC
 rw[Qf];simp
theorem qS (hty:ty = "str_ascii_iterator" \/ ty = "str_iterator") {TI TO:Addr} (D:ApartD z TI TO i1 i2 l d) (hh:A.handled=none) (ks:Nat->K) (hk:∀k v,xs[k]?=some v->knd.is (ks k) v=true)
  (hlen:xs.size<=x.cps.size) (hsz:xs.size<=sizeLine):∀(m k:Nat) (i:Int) (s:Shared) (kvs:List (K × Value)),xs.size-k=m->k<=xs.size->ZS s.heap z TI TO i1 i2 l d ty x t xs k->s.heap.DictOf knd d kvs->kvs.length<=k ->
  (∀h' tk (ps:List (K × Value)),ps.length=xs.size-k->(∀(j:Nat) p,ps[j]?=some p->p.1=ks (k+j)/\∃c u,x.cps[k+j]?=some c/\p.2=.str ⟨#[c]⟩ u)->h'.DictOf knd d (c8 kvs ps) ->
   (∀c o,c≠z->c≠TO->c≠i1->c≠i2->c≠d->s.heap.get? c=some o->h'.get? c=some o)->R (.ok (.ret .none)) { s with heap:=h',toks:=tk }) ->
  codeAny (model prog w) A (.builtin "dict.update.loop" ⟨[.ref d,.ref z,rawInt i,.none],[]⟩) R s:=by
 intro m
 induction m with
 | zero =>
  intro k i s kvs hm hkk Z hd hkl hR;have hin:k=xs.size:=by exact vX hm hkk
  refine codeAny_builtin fo ?_;rw[Around.under_plainId ck _];show wpAny _ A.in1 (pyNext (.ref z) >>= _) _ _ s;refine Qe (wv (show A.in1.handled=none from hh) D Z (by rw[hin];simp) λh' hkeep=>?_);show wpAny _ _ (Builtin.Dict.addKeywords d [] >>= _) _ _ _;refine Qe (Qn (Qn ?_));have hdn:d≠z:=D.dz
  have hd':h'.DictOf knd d kvs:=by
   obtain⟨o,es,ep,e1,r⟩:=hd;exact⟨o,es,ep,hkeep d o D.dz D.di1 e1,r⟩
  exact hR h' s.toks [] (by simp;exact yB hm) (λj p e=>by simp at e) hd' λc o c1 _ c3 _ _ e=>hkeep c o c1 c3 e
 | succ m ih =>
 intro k i s kvs hm hkk Z hd hkl hR;have hlt:k<xs.size:=by exact vW hm hkk
 have hv:xs[k]?=some xs[k]:=by simp[hlt]
 have hltc:k<x.cps.size:=by exact v3 hlen hlt
 have hc:x.cps[k]?=some x.cps[k]:=by simp[hltc]
 obtain⟨od,es0,ep0,hod,_⟩:=id hd;refine codeAny_builtin fo ?_;rw[Around.under_plainId ck _];show wpAny _ A.in1 (pyNext (.ref z) >>= _) _ _ s;refine Qe (uf hty D Z hod hv hc λh1 T u Z1 hT hTd hkeep=>?_)
 have hd1:h1.DictOf knd d kvs:=by
  obtain⟨o,es,ep,e1,r⟩:=hd;exact⟨o,es,ep,hkeep d o D.dz D.dTO D.di1 D.di2 e1,r⟩
 refine Qe (Q9 ?_);have hTy:(Shared.TypeIs { s with heap:=h1,toks:=s.toks+1 } (.ref T) "tuple"):=⟨_,hT,rfl⟩;refine Qe (wpAny_tryCatch ?_);unfold Builtin.Dict.pairItems;refine Qe (wpAny_typeOf hTy ?_);rw[QB (by decide)];refine Qe (wpAny_seqItems hT rfl (Qn ?_));show wpAny _ _ (holding [xs[k],_] (dictSet d xs[k] _)) _ _ _;refine Q9 (wpAny_dictSet_pairs (hk k _ hv) hd1 (λh2 hd2 hs2=>?_) (by exact vV hsz hkl hlt));refine Qn ⟨plainId_quiet ck _,ih (k+1) (i+1) _ _ (by exact vU hm hlt) (by exact vT hlt) (ZS.dict D Z1 hs2) hd2 (QM (iF _ _ _) (by exact qm hkl)) λh3 tk ps hl hp hd3 hk3=>?_⟩;refine hR h3 tk ((ks k,.str ⟨#[x.cps[k]]⟩ u)::ps) (by rw[QK,hl];exact yz hm hlt) (λj p e=>?_) hd3 λc o c1 c2 c3 c4 c5 e=>hk3 c o c1 c2 c3 c4 c5 (hs2.extBut c o c5 (hkeep c o c1 c2 c3 c4 e))
 cases j with
 | zero =>
  have e':(ks k,Value.str ⟨#[x.cps[k]]⟩ u)=p:=by simpa using e
  subst e';exact⟨rfl,x.cps[k],u,hc,rfl⟩
 | succ j =>
 have q:=hp j p (by simpa using e);rw[show k+(j+1)=k+1+j by exact yy];exact q
theorem fD (a:Value) {Q:C0} (h:Q (.ref s.heap.objs.size) { s with heap:=s.heap.push { cls:=.type "dict", data:=.dict #[] } }) :
  codeAny (model prog w) A (.call (.builtin "dict.__new__") ⟨[.type "dict", a],[]⟩) (wants Q E) s:=by
 refine codeAny_call_builtin i0 jj (wpAny_of_eq (i8 a) ?_);have hsub:=rG;have hmro:=i9;obtain⟨hp,g,d,tk,os⟩:=s;unfold Builtin.«dict.__new__»
 wp_walk
 exact h
theorem qV (hty:ty = "str_ascii_iterator" \/ ty = "str_iterator") {TI TO:Addr} {Q:C0} (D:Apart5 z TI TO i1 i2 l) (hh:A.handled=none) (ks:Nat->K)
  (hk:∀k v,xs[k]?=some v->knd.is (ks k) v=true) (hlen:xs.size<=x.cps.size) (hsz:xs.size<=sizeLine) (hz:IsZ s.heap z TI TO .none false) (hTI:IsPair s.heap TI (.ref i1) (.ref i2)) (hTO:∃a b,IsPair s.heap TO a b)
  (h1:s.heap.IsListIter i1 l 0) (h2:s.heap.IsStrIter i2 ty x t 0) (hl:s.heap.IsList l xs)
  (h:∀h' tk (ps:List (K × Value)),ps.length=xs.size->(∀(j:Nat) p,ps[j]?=some p->p.1=ks j/\∃c u,x.cps[j]?=some c/\p.2=.str ⟨#[c]⟩ u)->h'.DictOf knd s.heap.objs.size (c8 [] ps) ->
   (∀c o,c≠z->c≠TO->c≠i1->c≠i2->s.heap.get? c=some o->h'.get? c=some o)->Q (.ref s.heap.objs.size) { s with heap:=h',toks:=tk }) :
  wpAny (model prog w) A (call (.type "dict") [.ref z]) Q E s:=by
 refine callType_codes (Q₁:=λobj s1=>obj=.ref s.heap.objs.size/\s1={ s with heap:=s.heap.push { cls:=.type "dict", data:=.dict #[] } }) h_ (eJ _) F.entry_dict_init (fD _ ⟨rfl,rfl⟩) ?_;rintro obj s1 ⟨rfl,rfl⟩;have up:∀c o,s.heap.get? c=some o->(s.heap.push { cls:=.type "dict", data:=.dict #[] }).get? c=some o:=λc o e=>Qd _ e;have hnew:(s.heap.push { cls:=.type "dict", data:=.dict #[] }).DictOf knd s.heap.objs.size []:=Heap.DictOf.new s.heap;have lt:∀{c o},s.heap.get? c=some o->s.heap.objs.size≠c:=λe=>Nat.ne_of_gt (Qk e);have l1:s.heap.objs.size≠i1:=by obtain⟨_,e,_⟩:=h1;exact lt e
 have l2:s.heap.objs.size≠i2:=by obtain⟨_,e,_⟩:=h2;exact lt e
 have ll:s.heap.objs.size≠l:=by obtain⟨_,e,_⟩:=hl;exact lt e
 obtain⟨a0,b0,hTO'⟩:=hTO;have DD:ApartD z TI TO i1 i2 l s.heap.objs.size:=⟨D,lt hz,lt hTI,lt hTO',l1,l2,ll⟩;refine⟨hnew.typeIs,F.args_dict_init_2 _ _,?_⟩;unfold Builtin.«dict.__init__»;refine Qe ?_;unfold Builtin.Dict.selfAndRest;refine Qe (wpAny_notOrdered_dict hnew.typeIs ?_);show wpAny _ _ (pure (s.heap.objs.size,[Value.ref z])) _ _ _;refine Qn ?_;show wpAny _ _ (Builtin.Dict.updateFrom "dict.__init__" s.heap.objs.size (.ref z) [] .none) _ _ _;unfold Builtin.Dict.updateFrom;have hzT:Shared.TypeIs { s with heap:=s.heap.push { cls:=.type "dict", data:=.dict #[] } } (.ref z) "zip" := ⟨_,up _ _ hz,rfl⟩;refine Qe (wpAny_typeOf hzT ?_);rw[QB (by decide)];refine Qe (qC (up _ _ hz) (show A.in1.in1.handled=none from hh) λh3 tk k3=>?_);simp only[Option.isNone_none,if_true];refine Qe (wpAny_rule ?_);have hz3:IsZ h3 z TI TO .none false:=k3 _ _ (up _ _ hz);refine Qe (wpAny_pyIter_zip (z:=z) (TI:=TI) (TO:=TO) (f0:=.none) hz3 ?_);refine Qn ⟨plainId_quiet ck _,?_⟩;have Z3:ZS h3 z TI TO i1 i2 l s.heap.objs.size ty x t xs 0:=⟨.inl ⟨hz3,a0,b0,k3 _ _ (up _ _ hTO')⟩,k3 _ _ (up _ _ hTI),h1.at λo e=>k3 _ o (up _ o e),(let ⟨o,e,r⟩:=h2;⟨o,k3 _ o (up _ o e),r⟩),hl.at λo e=>k3 _ o (up _ o e)⟩
 have hd3:h3.DictOf knd s.heap.objs.size []:=by
  obtain⟨o,es,ep,e1,r⟩:=hnew;exact⟨o,es,ep,k3 _ _ e1,r⟩
 refine qS hty DD (show A.in1.handled=none from hh) ks hk hlen hsz xs.size 0 0 _ [] (by simp) (QO _) Z3 hd3 (Qg _) λh4 tk4 ps hp1 hp2 hd4 hk4=>?_;refine⟨rfl,h h4 tk4 ps (by simpa using hp1) (λj p e=>by simpa using hp2 j p e) hd4 λc o c1 c2 c3 c4 e=>hk4 c o c1 c2 c3 c4 (lt e).symm (k3 _ _ (up _ _ e))⟩
end
end LZ
namespace L2
open PySem PySem.Spec PyProof.Rows
def bw (kvs:List (Key × V)):List (Key × V)->List (Key × V)
 | []=>kvs
 | p::r=>bw (bB kvs p.1 p.2) r
def cL (ns:List Str) (z:Str):List (Key × V):=(ns.zipIdx).map λp=>(Sum.inr p.1,eL z p.2)
theorem ot:∀{qs:List (Key × V)} {ps:List (Key × Value)} {kvs:List (Key × V)} {vs:List (Key × Value)},KV qs ps->KV kvs vs->KV (bw kvs qs) (LZ.c8 vs ps)
 | [],_,_,_,h,r=>by cases h;exact r
 | q::qs,p::ps,kvs,vs,h,r=>by
  cases h with
  | cons h1 h2 =>
  show KV (bw (bB kvs q.1 q.2) qs) (LZ.c8 (stored vs p.1 p.2) ps);rw[<-h1.1];exact ot h2 (r.put q.1 h1.2)
theorem paired_get {α β:Type} {F:α->β->Prop}:∀{xs:List α} {ys:List β},xs.length=ys.length->(∀(j:Nat) x y,xs[j]?=some x->ys[j]?=some y->F x y)->Paired F xs ys
 | [],[],_,_=>.nil
 | x::xs,y::ys,hl,h=>.cons (h 0 x y rfl rfl) (paired_get (by simpa using hl) λj a b e1 e2=>h (j+1) a b (by simpa using e1) (by simpa using e2))
theorem dH:∀(qs kvs:List (Key × V)),(bw kvs qs).length<=kvs.length+qs.length
 | [],kvs=>Qg _
 | q::qs,kvs=>by
  have h1:=dH qs (bB kvs q.1 q.2);have h2:=cq kvs q.1 q.2;show (bw (bB kvs q.1 q.2) qs).length<=_;rw[QK];exact yP h1 h2
section
variable {X:Cx} {a b:Expr} {ta:TA} {p1 p2 pos1 pos2:Pos}
def xD (K:PySem.W.Frag) (ta:TA):TE:=λU H Q=>ta U H λvs H1=>∃l ns z,vs=[.ref l,.str z]/\SqL K H1 l (ns.map V.str)/\ns.length<=z.cps.size/\ns.length<1000/\∀d,H1 d=none->Q (.ref d) (upd H1 d (.dK (bw [] (cL ns z))))
theorem pq (hc:X.calm=true) (hg:Gl X "dict") (hm:X.mg "dict" = none) (hg2:Gl X "zip") (hm2:X.mg "zip" = none) (ha:PA X [a,b] ta)
  (hs:starEach [a,b] X.env=[(false,eval a X.env),(false,eval b X.env)]:=by rfl) (hs2:starEach [b] X.env=[(false,eval b X.env)]:=by rfl)
  (hs0:starEach [.Call (.Name "zip" p2) [a,b] [] pos2] X.env=[(false,eval (.Call (.Name "zip" p2) [a,b] [] pos2) X.env)]:=by rfl) :
  PE X (.Call (.Name "dict" p1) [.Call (.Name "zip" p2) [a,b] [] pos2] [] pos1) (xD X.K ta):=by
 intro pins s U H Q I h;refine Call_ (dI I hg hm PyProof.Rows.boot_dict (Xc ?_ hs0 rfl));rw[hs0];show wpAny _ _ (spliced [(false,eval (.Call (.Name "zip" p2) [a,b] [] pos2) X.env)]) _ _ s;refine Xv ?_;refine Call_ (dI I hg2 hm2 PyProof.Rows.boot_zip (Xc (thn (ha pos2 pins s U H _ I h) λus s1 ⟨vs,H1,I1,r1,q1⟩=>?_) (by rw[hs,hs2]) (by rw[hs2];rfl)));obtain⟨l,ns,z,e,hl,hlen,hsm,q⟩:=q1;subst e;obtain⟨u1,u2,e,ru1,ru2⟩:=ri r1;subst e;cases ru1;obtain⟨t,e⟩:=ru2;subst e;obtain⟨its,rv,pl,_⟩:=I1.list hl;have hits:its.length=ns.length:=by have:=rv.length;rw[Qa]at this;exact this.symm
 refine LZ.t_ pl.isList λh2 b1 b2 b3 b4 b5 b6 b7=>?_;refine Calls.spliced_nil ?_;have I2:Inv X pins U H1 { s1 with heap:=h2 }:=I1.kept (t':=s1.toks) b7;have ltl:@LT.lt Nat _ l s1.heap.objs.size:=by obtain⟨o,ho,_⟩:=pl.isList;exact Qk ho
 have big:1000<sizeLine:=by decide
 refine LZ.qV (knd:=a9 X.prog X.w) (LZ.uq z) (i1:=s1.heap.objs.size) (i2:=s1.heap.objs.size+1) (l:=l) (xs:=its.toArray) ⟨(by show @Ne Nat _ _;exact yO),(by show @Ne Nat _ _;exact yN),(by show @Ne Nat _ _;exact yM),(by show @Ne Nat _ _;exact yL),(by show @Ne Nat _ _;exact yK),(by show @Ne Nat _ _;exact yJ),(by show @Ne Nat _ _;exact yI),(by show @Ne Nat _ _;exact yH),(by show @Ne Nat _ _;exact yG),(by show @Ne Nat _ _;exact yF),(by show @Ne Nat _ _;omega),(by show @Ne Nat _ _;omega),(by show @Ne Nat _ _;omega),(by show @Ne Nat _ _;omega)⟩ (I.ok.hd hc) (λk=>Sum.inr (ns.getD k Str.empty)) (λk v hv=>?_)
  (by rw[Qi,hits];exact hlen) (by rw[Qi,hits];omega) b1 b2 ⟨_,_,b3⟩ b4 b5 (pl.isList.at λo e=>b7 _ o e) λh3 tk ps hp1 hp2 hd3 hk3=>?_
 ·have hv':its[k]?=some v:=by simpa using hv
  have hk:k<ns.length:=by have:=(Qc.mp hv').1;exact mR hits this
  have e1:(ns.map V.str)[k]?=some (.str (ns.getD k Str.empty)):=by
   rw[Qm,Qb hk,Xf,Qb hk];rfl
  obtain⟨u,hu,ru⟩:=rv.get e1;rw[hv']at hu;cases hu;obtain⟨t',e⟩:=ru;subst e;exact eW _ _ _ _
 have hlenz:(cL ns z).length=ns.length:=by unfold cL;simp
 have kv:KV (cL ns z) ps:=by
  refine paired_get (by rw[hlenz,hp1,Qi,hits]) λj x y e1 e2=>?_;obtain⟨f1,c,u,f2,f3⟩:=hp2 j y e2;unfold cL at e1;rw[Qm,List.getElem?_zipIdx]at e1
  cases e:ns[j]? with
  | none=>rw[e]at e1;simp at e1
  | some n =>
  rw[e]at e1;simp at e1;subst e1;refine⟨?_,?_⟩
  ·rw[f1];show (Sum.inr n:Key)=Sum.inr (ns.getD j Str.empty);rw[Xf,e];rfl
  rw[f3];refine⟨u,?_⟩;show Value.str ⟨#[c]⟩ u=Value.str ⟨#[z.cps.getD j 0]⟩ u;rw[Array.getD_eq_getD_getElem?,f2];rfl
 have hnew:H1 h2.objs.size=none:=I2.hok.fresh (Qg _)
 have kept:∀c o,s1.heap.get? c=some o->h3.get? c=some o:=λc o e=>by
  have:@LT.lt Nat _ c s1.heap.objs.size:=Qk e;exact hk3 c o (by show @Ne Nat _ _;omega) (by show @Ne Nat _ _;omega) (by show @Ne Nat _ _;omega) (by show @Ne Nat _ _;omega) (b7 c o e)
 have hle:s1.heap.objs.size<=h2.objs.size:=by exact yE b6
 have I3:Inv X pins U (upd H1 h2.objs.size (.dK (bw [] (cL ns z)))) { s1 with heap:=h3,toks:=tk }:=I1.laid kept hle ⟨by
   have:=dH (cL ns z) [];rw[hlenz]at this;simp only[Q8]at this
   omega,beq_eq_false_iff_ne.mpr (by
   have:@LT.lt Nat _ sysModules s1.heap.objs.size:=I1.big;intro e;have e':@Eq Nat h2.objs.size sysModules:=e
   omega),_,ot kv .nil,hd3⟩
 exact⟨.ref h2.objs.size,_,I3,rfl,q _ hnew⟩
end
end L2
namespace LR
open PySem
theorem oo:typeLookup (.type "list_reverseiterator") "__len__" = pure none:=by rw[typeLookup_type,Xq];kernel_rfl
theorem sZ:typeLookup (.type "list_reverseiterator") "__length_hint__" = pure (some (.builtin "list_reverseiterator.__length_hint__")):=by rw[typeLookup_type,Xq];kernel_rfl
section
variable {prog:Program} {w:World} {A:Around} {E:C0} {s:Shared}
theorem iB {I:Addr} {Q:Bool->Shared->Prop} (hT:s.TypeIs (.ref I) "list_reverseiterator") (h:Q false s):wpAny (model prog w) A (Builtin.List.listLengthHint (.ref I)) Q E s:=by
 unfold Builtin.List.listLengthHint;refine Qe (wpAny_specialOf hT oo ?_);show wpAny _ A (specialOf (Value.ref I) (Str.ofString "__length_hint__") >>= _) _ _ _;refine Qe (wpAny_specialOf hT sZ ?_);generalize hid:("list_reverseiterator.__length_hint__" : String)=id0
 wp_delta
 rw[show splitId id0=some ("list_reverseiterator", "__length_hint__") from by subst hid;decide +kernel];subst hid;refine Qe (wpAny_isInstance (T := "list_reverseiterator") (b:=true) hT (by rw[isSubtype_type];kernel_rfl) ?_);refine wpAny_ite_split (λhab=>absurd hab (by decide)) (λ_=>?_);refine wpAny_ite_split (λ_=>?_) (λhab=>absurd (by decide +kernel) hab);refine wpAny_ite_split (λhab=>absurd hab (by decide +kernel)) (λ_=>Qn h)
theorem call_list_rev {l:Addr} {items:Array Value} {Q:C0} (hh:A.handled=none) {I:Addr} (hit:s.heap.IsRevIter I l ((items.size:Int)-1)) (hl:s.heap.IsList l items) (hne:l≠I) (hn:items.size<=sizeLine)
  (hQ:∀h' tk acc' c',(∀b o,b≠I->s.heap.get? b=some o->h'.get? b=some o)->h'.get? s.heap.objs.size=some { cls:=.type "list", dict:=none,data:=.seq acc' c',slots:=#[] }->ItemsOf (λi v=>items[items.size-1-i]?=some v) acc' items.size->Q (.ref s.heap.objs.size) { s with heap:=h',toks:=tk }) :
  wpAny (model prog w) A (call (.type "list") [.ref I]) Q E s:=by
 have W:=(Walks.listRev (prog:=prog) (w:=w) (A:=A.in1.in1) hh I l hne items).toS;have hIlt:I<s.heap.objs.size:=by obtain⟨o,ho,_⟩:=hit;exact Qk ho
 have hllt:l<s.heap.objs.size:=by obtain⟨o,ho,_⟩:=hl;exact Qk ho
 have hst:s.heap.IsRevIter I l ((items.size:Int)-1-((0:Nat):Int)):=by simpa using hit
 have hSf:s.heap.objs.size∉[I,l]:=λhm=>by
  rcases QQ.mp hm with e|hm
  ·exact absurd hIlt (by rw[<-e];exact Xw _)
  exact absurd hllt (by rw[<-QL.mp hm];exact Xw _)
 have hSI:s.heap.objs.size≠I:=λe=>hSf (by rw[e];simp)
 refine callType_codes (Q₁:=λobj s₁=>obj=.ref s.heap.objs.size/\s₁={ s with heap:=s.heap.push { cls:=.type "list", data:=.seq #[] } }) F.called_list (F.typeCall_list_1 _) F.entry_list_init
  (code_list_new _ ⟨rfl,rfl⟩) λobj s₁ h₁=>?_
 obtain⟨rfl,rfl⟩:=h₁;have hS:(s.heap.push { cls:=.type "list", data:=.seq #[] }).get? s.heap.objs.size=some { cls:=.type "list", data:=.seq #[] }:=Qw _ rfl;refine⟨⟨_,hS,rfl⟩,F.args_list_init_2 _ _,?_⟩;generalize hS0:s.heap.objs.size=S at *;show wpAny _ A.in1.in1 (do let old <-Builtin.List.listItems (.ref S);Builtin.List.listUpdate (.ref S) (λ_=>#[]);letGo old.toList.reverse;Builtin.List.listExtendWith (.ref S) (.ref I) .none) _ _ _;refine Qe ?_;unfold Builtin.List.listItems;refine Qe (wpAny_seqItems hS rfl (Qn ?_));show wpAny _ _ (updateSeq S (λ_=>#[]) >>= λ_=>letGo (#[]:Array Value).toList.reverse >>= λ_=>Builtin.List.listExtendWith (.ref S) (.ref I) .none) _ _ _;refine Qe (wpAny_updateSeq hS rfl ?_);have hS2:=Heap.get?_update_self (Obj.mapSeq (λ_=>(#[]:Array Value))) hS rfl
 have oth:∀b o,b≠S->s.heap.get? b=some o->((s.heap.push { cls:=.type "list", data:=.seq #[] }).update S (Obj.mapSeq (λ_=>(#[]:Array Value)))).get? b=some o :=
  λb o hb e=>(Heap.get?_update_other _ _ (Xs hb)).trans (Qd _ e)
 refine Qe (wpAny_letGo ?_);have hit2:((s.heap.push { cls:=.type "list", data:=.seq #[] }).update S (Obj.mapSeq (λ_=>(#[]:Array Value)))).IsRevIter I l ((items.size:Int)-1-((0:Nat):Int)):=hst.at λo e=>oth I o (Xs hSI) e;have hl₂:((s.heap.push { cls:=.type "list", data:=.seq #[] }).update S (Obj.mapSeq (λ_=>(#[]:Array Value)))).IsList l items:=hl.at λo e=>oth l o (λz=>hSf (by rw[<-z];simp)) e;have hT:Shared.TypeIs { s with heap:=(s.heap.push { cls:=.type "list", data:=.seq #[] }).update S (Obj.mapSeq (λ_=>(#[]:Array Value))) } (.ref I) "list_reverseiterator" := hit2.typeIs;unfold Builtin.List.listExtendWith;refine Qe (wpAny_typeOf hT ?_);have h1:Builtin.List.listSameRef (.ref S) (.ref I)=false:=by simp[Builtin.List.listSameRef,hSI]
 have h2:(Value.type "list_reverseiterator" == Value.type "list")=false:=by decide
 have h3:(Value.type "list_reverseiterator" == Value.type "tuple")=false:=by decide
 simp only[h1,h2,h3,Bool.or_false,QP,if_false];refine Qe (wpAny_pyIter_revIter hit2 ?_);refine Qe (Q9 (iB hT ?_));refine wpAny_ite_split (λhab=>absurd hab (by decide)) (λ_=>?_);refine Qn ⟨plainId_quiet F.plain_extend_loop _,codeAny_extend_loopS W hn S hSf .none items.size 0 _ #[] _ rfl (QO _) ⟨QO _,hit2,hl₂⟩ hS2 (ItemsOf.nil _) λs' acc' c' hm hS' hacc=>?_⟩;rw[Moved.eq_with hm];refine⟨rfl,hQ s'.heap s'.toks acc' c' (λb o hb e=>hm.heap b o (λhmem=>?_) (oth b o (λz=>?_) e)) hS' hacc⟩
 ·rcases QQ.mp hmem with e'|hmem
  ·rw[e',<-hS0]at e;exact absurd (Qk e) (Xw _)
  exact hb (QL.mp hmem)
 rw[z,<-hS0]at e;exact absurd (Qk e) (Xw _)
end
end LR
namespace L2
open PySem PySem.Spec PyProof.Rows
section
variable {X:Cx}
def vz (K:PySem.W.Frag) (ta:TA):TE:=λU H Q=>ta U H λvs H1=>∃l xs,vs=[.ref l]/\SqL K H1 l xs/\∀p,H1 p=none->Q (.ref p) (upd H1 p (.lst xs.reverse))
theorem uD {a:Expr} {ta:TA} {p1 p2 pos1 pos2:Pos} (hc:X.calm=true) (hg:Gl X "list") (hm:X.mg "list" = none) (hg2:Gl X "reversed") (hm2:X.mg "reversed" = none) (ha:PA X [a] ta)
  (hs:starEach [a] X.env=[(false,eval a X.env)]:=by rfl)
  (hs0:starEach [.Call (.Name "reversed" p2) [a] [] pos2] X.env=[(false,eval (.Call (.Name "reversed" p2) [a] [] pos2) X.env)]:=by rfl) :
  PE X (.Call (.Name "list" p1) [.Call (.Name "reversed" p2) [a] [] pos2] [] pos1) (vz X.K ta):=by
 intro pins s U H Q I h;refine Call_ (dI I hg hm PyProof.Rows.boot_list (Xc ?_ hs0 rfl));rw[hs0];show wpAny _ _ (spliced [(false,eval (.Call (.Name "reversed" p2) [a] [] pos2) X.env)]) _ _ s;refine Xv ?_;refine Call_ (dI I hg2 hm2 PyProof.Rows.boot_reversed (Xc (thn (ha pos2 pins s U H _ I h) λws s1 ⟨vs,H1,I1,r1,q1⟩=>?_) hs rfl));obtain⟨l,xs,e,hq,q⟩:=q1;subst e;obtain⟨u,e,ru⟩:=dJ r1;subst e;cases (show u=Value.ref l from ru);obtain⟨its,rv,pl,hz⟩:=I1.list hq;have ll:l<s1.heap.objs.size:=by obtain⟨o,ho,_⟩:=pl.isList;exact Qk ho
 refine call_reversed_list pl.isList ?_;refine Calls.spliced_nil ?_;have I2:Inv X pins U H1 { s1 with heap:=s1.heap.push (revObj l ((its.toArray.size:Int)-1)) }:=I1.kept (t':=s1.toks) λb o e=>Qd _ e;have hit:(s1.heap.push (revObj l ((its.toArray.size:Int)-1))).IsRevIter s1.heap.objs.size l ((its.toArray.size:Int)-1):=⟨_,Qw _ rfl,rfl,rfl⟩;refine LR.call_list_rev (A:=X.A) (items:=its.toArray) (I2.ok.hd hc) hit (pl.isList.at λo e=>Qd _ e) (QE ll) (by rw[Qi,<-rv.length];exact hz) λh' tk acc' c' hk hS' hacc=>?_
 have r:ba xs.reverse acc'.toList:=by
  refine paired_get (by rw[List.length_reverse,show acc'.toList.length=acc'.size from Qv,hacc.1];exact rv.length) λj x y e1 e2=>?_;have e3:=hacc.2 j y (by simpa using e2);have hj:j<xs.length:=by have:=(Qc.mp e1).1;rwa [List.length_reverse]at this
  rw[List.getElem?_reverse hj]at e1;obtain⟨u,hu,ru⟩:=rv.get e1;rw[Qi,<-rv.length]at e3;have e3':its[xs.length-1-j]?=some y:=by simpa using e3
  rw[hu]at e3';cases e3';exact ru
 have kp:∀b o,s1.heap.get? b=some o->h'.get? b=some o:=λb o e=>hk b o (QE (Qk e)) (Qd _ e);have hle:s1.heap.objs.size<=(s1.heap.push (revObj l ((its.toArray.size:Int)-1))).objs.size:=by rw[Heap.size_push];exact Nat.le_succ _
 exact⟨.ref _,_,I1.laid (t':=tk) kp hle (show bj X.prog X.w _ h' _ (.lst _) from⟨by rw[List.length_reverse];exact hz,acc'.toList,c',r,by simpa using hS'⟩),rfl,q _ (I1.hok.fresh hle)⟩
end
def Fz:HO->Prop
 | .dK _=>True
 | .dT _=>True
 | .lst _=>True
 | _=>False
def back (H:Hp) (a:Addr) (H':Hp):Hp:=λb=>if b=a then H a else H' b
variable {a b:Addr} {H H':Hp}
theorem de:back H a H' a=H a:=QB rfl
theorem bi (h:b≠a):back H a H' b=H' b:=QC h
section
variable {X:Cx} {pins:C1} {U σ':St} {H H':Hp} {s s':Shared} {a:Addr} {u:HO} {o:Obj}
theorem f9 (r:Rd H a u):∃v,H a=some v:=by
 rcases r with r|⟨o,r⟩ <;> exact⟨_,r⟩
theorem vL (r:Rd H a u) (f:Fz u):(∀xs,H a≠some (.tup xs))/\(∀ps,H a≠some (.tbl ps))/\(∀x,H a≠some (.own x))/\∀ob v,H a=some (.frz ob v)->v=u:=by
 rcases r with r|⟨o,r⟩
 ·refine⟨λxs z=>?_,λps z=>?_,λx z=>?_,λob v z=>?_⟩ <;> (rw[r]at z;cases z;exact f.elim)
 refine⟨λxs z=>?_,λps z=>?_,λx z=>?_,λob v z=>?_⟩ <;> (rw[r]at z;cases z);rfl
theorem Inv.freeze (I:Inv X pins U H s) (r:Rd H a u) (f:Fz u) (e:s.heap.get? a=some o):Inv X pins U (upd H a (.frz o u)) s:=by
 obtain⟨v,hv⟩:=f9 r;obtain⟨n1,n2,n3,n4⟩:=vL r f;have ne:∀{b},H b=none->b≠a:=λh z=>by rw[z,hv]at h;cases h
 have ok:=r.ok I.hok;refine⟨I.ok,I.os,I.bare,⟨I.base.keep,I.base.slot,λb ob q n hx=>?_,I.base.there,λb xs q=>?_,λb ob w q=>?_,λb ps q=>?_⟩,I.loc,I.cell,?_,λx c h=>?_,λp hp=>?_,λb w q=>?_,I.len⟩
 ·have:=I.base.free b ob q n hx;rw[ao (ne this)];exact this
 ·have:=I.base.tups b xs q;rw[ao (λz=>n1 xs (by rw[<-z];exact this))];exact this
 ·have z:=I.base.frzs b ob w q;by_cases hb:b=a
  ·subst hb;have ew:=n4 ob w z;subst ew;obtain⟨e1,_⟩:=I.hok b _ z;rw[e]at e1;cases e1;exact ai
  rw[ao hb];exact z
 ·obtain⟨more,z⟩:=I.base.tbls b ps q;exact⟨more,by rw[ao (λy=>n2 _ (by rw[<-y];exact z))];exact z⟩
 ·rw[ao (ne I.free)];exact I.free
 ·rw[ao (ne (I.freeC x c h))];exact I.freeC x c h
 ·obtain⟨p1,p2,p3,p4,p5⟩:=I.pin p hp;exact⟨p1,by rw[ao (ne p2)];exact p2,p3,p4,p5⟩
 have st:∀{b w},bj X.prog X.w H s.heap b w->bj X.prog X.w (upd H a (.frz o u)) s.heap b w:=λh=>h.stay (λ_ _ _ q=>q) (λd q=>by rw[ao (λz=>n3 _ (by rw[<-z];exact q))];exact q) λd xs q=>by rw[ao (λz=>n1 _ (by rw[<-z];exact q))];exact q
 by_cases hb:b=a
 ·subst hb;rw[ai]at q;cases q;exact⟨e,st ok⟩
 rw[ao hb]at q;exact st (I.hok b w q)
theorem Inv.thaw (I:Inv X pins U H s) (r:Rd H a u) (f:Fz u) (e:s.heap.get? a=some o) (J:Inv X pins σ' H' s') (h':H' a=some (.frz o u)):Inv X pins σ' (back H a H') s':=by
 obtain⟨v,hv⟩:=f9 r;obtain⟨n1,n2,n3,n4⟩:=vL r f;have ne:∀{b},H' b=none->b≠a:=λh z=>by rw[z,h']at h;cases h
 have ok:=J.hok a _ h';refine⟨J.ok,J.os,J.bare,⟨J.base.keep,J.base.slot,λb ob q n hx=>?_,J.base.there,λb xs q=>?_,λb ob w q=>?_,λb ps q=>?_⟩,J.loc,J.cell,?_,λx c h=>?_,λp hp=>?_,λb w q=>?_,J.len⟩
 ·have:=J.base.free b ob q n hx;rw[bi (ne this)];exact this
 ·have:=J.base.tups b xs q;rw[bi (λz=>by rw[z,h']at this;cases this)];exact this
 ·by_cases hb:b=a
  ·subst hb;rw[de];exact I.base.frzs b ob w q
  rw[bi hb];exact J.base.frzs b ob w q
 ·obtain⟨more,z⟩:=J.base.tbls b ps q;exact⟨more,by rw[bi (λy=>by rw[y,h']at z;cases z)];exact z⟩
 ·rw[bi (ne J.free)];exact J.free
 ·rw[bi (ne (J.freeC x c h))];exact J.freeC x c h
 ·obtain⟨p1,p2,p3,p4,p5⟩:=J.pin p hp;exact⟨p1,by rw[bi (ne p2)];exact p2,p3,p4,p5⟩
 have st:∀{b w},bj X.prog X.w H' s'.heap b w->bj X.prog X.w (back H a H') s'.heap b w:=λh=>h.stay (λ_ _ _ q=>q) (λd q=>by rw[bi (λz=>by rw[z,h']at q;cases q)];exact q) λd xs q=>by rw[bi (λz=>by rw[z,h']at q;cases q)];exact q
 by_cases hb:b=a
 ·subst hb;rw[de]at q;rcases r with r|⟨o2,r⟩
  ·rw[r]at q;cases q;exact st ok.2
  obtain⟨e2,_⟩:=I.hok b _ r;rw[e]at e2;cases e2;rw[r]at q;cases q;exact⟨ok.1,st ok.2⟩
 rw[bi hb]at q;exact st (J.hok b w q)
noncomputable def vo (D:Ends) (H:Hp) (a:Addr) (o:Obj) (u:HO):Ends where
 nx:=λσ' H'=>H' a=some (.frz o u)/\D.nx σ' (back H a H')
 bk:=λσ' H'=>H' a=some (.frz o u)/\D.bk σ' (back H a H')
 ct:=λσ' H'=>H' a=some (.frz o u)/\D.ct σ' (back H a H')
 rt:=λv H'=>H' a=some (.frz o u)/\D.rt v (back H a H')
def xB (t:TS):TS:=λD U H=>∃a u,Rd H a u/\Fz u/\∀o,t (vo D H a o u) U (upd H a (.frz o u))
theorem nR {st:Stmt} {t:TS} (h:PS X st t):PS X st (xB t):=by
 intro pins s U H D I q;obtain⟨a,u,r,f,q⟩:=q;obtain⟨v,hv⟩:=f9 r
 obtain⟨o,e⟩:∃o,s.heap.get? a=some o:=by
  rcases r with r|⟨o,r⟩
  ·have:=(I.hok a _ r)
   cases u with
   | lst xs=>obtain⟨_,_,_,_,e⟩:=this;exact⟨_,e⟩
   | dK kvs=>obtain⟨_,_,_,_,o,_,_,e,_⟩:=this;exact⟨_,e⟩
   | dT kvs=>obtain⟨_,_,_,_,o,_,_,e,_⟩:=this;exact⟨_,e⟩
   | _=>exact f.elim
  exact⟨o,(I.hok a _ r).1⟩
 refine Xj (h pins s U _ _ (I.freeze r f e) (q o)) (λfl s' z=>?_) λ_ _ z=>z
 cases fl with
 | next=>obtain⟨σ',H',J,h1,h2⟩:=z;exact⟨σ',_,I.thaw r f e J h1,h2⟩
 | brk=>obtain⟨σ',H',J,h1,h2⟩:=z;exact⟨σ',_,I.thaw r f e J h1,h2⟩
 | cont=>obtain⟨σ',H',J,h1,h2⟩:=z;exact⟨σ',_,I.thaw r f e J h1,h2⟩
 | ret w=>obtain⟨v,σ',H',J,rv,h1,h2⟩:=z;exact⟨v,σ',_,I.thaw r f e J h1,rv,h2⟩
def vA (t:TE):TE:=λU H Q=>∃a u,Rd H a u/\Fz u/\∀o,t U (upd H a (.frz o u)) λv H'=>H' a=some (.frz o u)/\Q v (back H a H')
theorem nV {ex:Expr} {t:TE} (h:PE X ex t):PE X ex (vA t):=by
 intro pins s U H Q I q;obtain⟨a,u,r,f,q⟩:=q
 obtain⟨o,e⟩:∃o,s.heap.get? a=some o:=by
  rcases r with r|⟨o,r⟩
  ·have:=(I.hok a _ r)
   cases u with
   | lst xs=>obtain⟨_,_,_,_,e⟩:=this;exact⟨_,e⟩
   | dK kvs=>obtain⟨_,_,_,_,o,_,_,e,_⟩:=this;exact⟨_,e⟩
   | dT kvs=>obtain⟨_,_,_,_,o,_,_,e,_⟩:=this;exact⟨_,e⟩
   | _=>exact f.elim
  exact⟨o,(I.hok a _ r).1⟩
 refine Xj (h pins s U _ _ (I.freeze r f e) (q o)) (λv s' z=>?_) λ_ _ z=>z;obtain⟨v',H',J,rv,h1,h2⟩:=z;exact⟨v',_,I.thaw r f e J h1,rv,h2⟩
end
def Itd (a:Addr) (o:Obj) (kvs:List (Key × V)):It :=
 ⟨λi H=>H a=some (.frz o (.dK kvs))/\i<kvs.length,λi H x H'=>H'=H/\∃k v,kvs[i]?=some (k,v)/\x=kV k,λi H=>H a=some (.frz o (.dK kvs))/\kvs.length<=i⟩
theorem wj {P:Program} {w:World} {k:Key} {u:Value} (h:(a9 P w).is k u=true):aO (kV k) u:=by
 rcases bo (show gY k u=true from h) with⟨i,t,rfl,rfl⟩|⟨x,t,rfl,rfl⟩
 ·exact⟨t,rfl⟩
 exact⟨t,rfl⟩
theorem KV.len {κ:Type} {xs:List (κ × V)} {ys:List (κ × Value)} (r:KV xs ys):xs.length=ys.length:=Paired.length r
theorem KV.get {κ:Type}:∀{xs:List (κ × V)} {ys:List (κ × Value)} {i:Nat} {k:κ} {v:V},KV xs ys->xs[i]?=some (k,v)->∃u,ys[i]?=some (k,u)/\aO v u
 | _,_,_,_,_,.nil,e=>by simp at e
 | _,(k',u)::_,0,k,v,.cons r _,e=>by
  simp at e;subst e;obtain⟨r1,r2⟩:=r;have r1:k=k':=r1;subst r1;exact⟨u,rfl,r2⟩
 | _,_,i+1,k,v,.cons _ t,e=>by
  obtain⟨u,h1,h2⟩:=KV.get (i:=i) t (by simpa using e);exact⟨u,by simpa using h1,h2⟩
variable {kvs:List (Key × V)}
theorem fQ {X:Cx} {pins:C1} {U:St} {s:Shared} {o:Obj} {es:Array DictEntry} {ep:Nat} (I:Inv X pins U H s) (h:H a=some (.frz o (.dK kvs))) (hd:o.data=.dict es ep) :
  ∃vs,KV kvs vs/\s.heap.DictAt (a9 X.prog X.w) a vs ep/\(a==sysModules)=false:=by
 obtain⟨e1,z,y,vs,rel,ob,es',ep',e2,c,d,r⟩:=I.hok a _ h;rw[e1]at e2;cases e2;rw[hd]at d;cases d;exact⟨vs,rel,⟨o,es,e1,c,hd,r⟩,y⟩
theorem p7 {P:Program} {w:World} {K:PySem.W.Frag} {tg:Expr} (a it:Addr) (o:Obj) (kvs:List (Key × V)) (es:Array DictEntry) (ep:Nat) (hd:o.data=.dict es ep):Turn P w K tg (Itd a o kvs) [it] it (λi h=>h.IsKeyIter it a i kvs.length ep) where
 mem:=by simp
 obj:=λi h st b hb=>by
  have e:b=it:=by simpa using hb
  subst e;obtain⟨ob,e,c,d⟩:=st;exact⟨ob,e,λv z=>by rw[d]at z;cases z⟩
 keep:=λi h h' st k=>st.at λo e=>k it (by simp) o e
 item:=by
  intro X hP hw hK hc i pins s U H E I hf st hg;subst hP hw hK;obtain⟨hz,hi⟩:=hg;obtain⟨vs,rel,da,_⟩:=fQ I hz hd;obtain⟨⟨k,v⟩,hx⟩:∃p,kvs[i]?=some p:=⟨kvs[i],by simp[hi]⟩;obtain⟨u,hu,ru⟩:=rel.get hx;obtain⟨f0,f1,f2,f3,f4,f5⟩:=hf it (by simp);have st0:=st;rw[rel.len]at st;refine wpAny_pyNext_dict_item st da hu λkey h' hkey st' sb=>?_;have I1:Inv X pins U H { s with heap:=h' }:=I.turned (t':=s.toks) (λb o hb e=>(sb.2 b hb).trans e) f0 f1 f3 f4 f5;rw[<-rel.len]at st';obtain⟨ob,e,c,d⟩:=id st';exact⟨key,rfl,tJ (s:={ s with heap:=h' }) e c d (by decide) ⟨kV k,H,I1,wj hkey,⟨rfl,k,v,hx,rfl⟩,st',λb hb=>(hf b hb).1⟩⟩
 done:=by
  intro X hP hw hK hc i pins s U H E I hf st hg;subst hP hw hK;obtain⟨hz,hi⟩:=hg;obtain⟨vs,rel,da,_⟩:=fQ I hz hd;obtain⟨f0,f1,f2,f3,f4,f5⟩:=hf it (by simp);rw[rel.len]at st;exact wpAny_pyNext_dict_end (I.ok.hd hc) st da (Xk (by rw[<-rel.len];exact hi)) λh' eb=>⟨rfl,I.turned (t':=s.toks) (λb o hb e=>eb b o hb e) f0 f1 f3 f4 f5⟩
 self:=λ_ _ _ _ _ st h=>wpAny_pyIter_keyiter st h
def tH (tl:TE):TI:=λU H R=>tl U H λx H1=>∃a o kvs,x=.ref a/\H1 a=some (.frz o (.dK kvs))/\R (Itd a o kvs) H1
section
variable {X:Cx} {tg:Expr}
theorem dQ {l:Expr} {tl:TE} (hl:PE X l tl):PI X tg l (tH tl):=by
 intro pins s U H R I h;refine thn (hl pins s U H _ I h) λv s1 ⟨x,H1,I1,r1,q1⟩=>?_;obtain⟨a,o,kvs,e,hz,q⟩:=q1;subst e;cases r1;obtain⟨e1,_,_,vs,rel,ob,es,ep,e2,c,d,r⟩:=I1.hok a _ hz;rw[e1]at e2;cases e2;obtain⟨vs,rel,da,hm⟩:=fQ I1 hz d;refine wpAny_pyIter_dict hm da ?_;refine⟨s1.heap.objs.size,[s1.heap.objs.size],_,_,H1,rfl,I1.kept (t':=s1.toks) λb o e=>Qd _ e,p7 a _ o kvs es ep d,⟨_,Qw _ rfl,rfl,by rw[rel.len];rfl⟩,λb hb=>?_,q⟩;have e:b=s1.heap.objs.size:=by simpa using hb
 subst e;exact I1.fpOk (Qg _) (I1.hok.fresh (Qg _))
end
theorem jg {o:Obj} {g:TG} {tb:TS} {D:Ends} {U:St} (Pv:Nat->St->Hp->Prop) (h0:Pv 0 U H) (hl:∀i U H,i<=kvs.length->Pv i U H->H a=some (.frz o (.dK kvs)))
  (hs:∀i k v U H,kvs[i]?=some (k,v)->Pv i U H->g (kV k) U H λσ2 H2=>tb { D with nx:=Pv (i+1),ct:=Pv (i+1),bk:=D.nx } σ2 H2) (hd:∀U H,Pv kvs.length U H->D.nx U H) :
  ∃W:Nat->Nat->St->Hp->Prop,(∃m,W 0 m U H)/\∀i m U H,W i m U H ->
   ((Itd a o kvs).stop i H/\D.nx U H)\/((Itd a o kvs).go i H/\∃N:St->Hp->Prop,(∀σ' H',N σ' H'->∃m',m'<m/\W (i+1) m' σ' H')/\∀x H',(Itd a o kvs).yld i H x H'->g x U H' λσ2 H2=>tb { D with nx:=N,ct:=N,bk:=D.nx } σ2 H2):=by
 refine⟨λi m U H=>m=kvs.length-i/\i<=kvs.length/\Pv i U H,⟨kvs.length,by simp,QO _,h0⟩,?_⟩;rintro i m U H ⟨rfl,hi,p⟩;have q:=hl i U H hi p;by_cases hlt:i<kvs.length
 ·refine .inr ⟨⟨q,hlt⟩,Pv (i+1),λσ' H' p'=>⟨kvs.length-(i+1),by exact om6 hlt,rfl,hlt,p'⟩,λx H' y=>?_⟩;obtain⟨e,k,v,hk,ex⟩:=y;subst e ex;exact hs i k v U _ hk p
 have e:i=kvs.length:=by exact om0 hi hlt
 subst e;exact .inl ⟨⟨q,Qg _⟩,hd U H p⟩
def rB (td ty tx:TE):TE:=λU H Q=>td U H λx H1=>∃a,x=.ref a/\IsD H1 a/\ty U H1 λy H2=>tx U H2 λz H3=>∃kvs k,H3 a=some (.dK kvs)/\y=kV k /\
 (∀v,aU kvs k=some v->Q v H3)/\(aU kvs k=none->kvs.length<sizeLine/\Q z (upd H3 a (.dK (bB kvs k z))))
section
variable {X:Cx} {o e f:Expr} {apos cpos:Pos} {td ty tx:TE}
theorem sf (ho:PE X o td) (he:PE X e ty) (hf:PE X f tx) (m:M2 X o "setdefault" apos e f cpos):PE X (.Call (.Attribute o "setdefault" apos) [e,f] [] cpos) (rB td ty tx):=by
 intro pins s U H Q I h;refine wpAny_Call_method m.base m.few m.line PySem.F.plainAttrs_dict PySem.F.slot_dict_setdefault PySem.F.type_dict_setdefault (thn (ho pins s U H _ I h) λu s1 ⟨x,H1,I1,rx,a,ex,d,q1⟩=>?_);subst ex;obtain rfl:u=Value.ref a:=rx;obtain⟨t1,t2,_⟩:=tq I1 d;refine⟨t1,t2,?_⟩;rw[m.trees]
 refine Calls.callWith_builtin rfl (Calls.evalArgs_plain (Xv (thn (he pins s1 U H1 _ I1 q1) λiv s2 ⟨y,H2,I2,ry,q2⟩ =>
  Xv (thn (hf pins s2 U H2 _ I2 q2) λfv s3 ⟨z,H3,I3,rz,kvs,k,ea,ey,q3,q4⟩=>Calls.spliced_nil ?_))))
 subst ey;obtain⟨zl,hd,vs,rel,dd⟩:=jl I3.hok ea
 refine call_meetsIn PySem.F.slot_dict_setdefault dd.typeIs PySem.F.entry_dict_setdefault (PySem.F.args_dict_setdefault_3 _ _ _) (kt_meets_setdefault (a9 X.prog X.w) a (gZ ry) hd fv)
  ⟨vs,dd,by rw[<-rel.length];exact zl,λv' hv'=>?_,λhn h' dd' hs=>?_⟩
 ·have r:=rel.val k;rw[hv']at r
  cases l:aU kvs k with
  | none=>rw[l]at r;exact r.elim
  | some v=>rw[l]at r;exact⟨v,H3,I3.tok _,r,q3 v l⟩
 have r:=rel.val k;rw[hn]at r
 cases l:aU kvs k with
 | some v=>rw[l]at r;exact r.elim
 | none =>
 obtain⟨zl',q5⟩:=q4 l;have he:∃q,h'.get? a=some q:=let ⟨q,_,_,hq,_⟩:=dd';⟨q,hq⟩
 have hl:(bB kvs k z).length<=sizeLine:=by
  rw[cW z l,Qf];exact zl'
 exact⟨z,_,iw I3 (by rw[ea];exact True.intro) hs he (oC hl hd (rel.put k rz) dd'),rz,q5⟩
end
section
variable {X:Cx} {elts:List Expr} {k:Nat} {tpos:Pos}
end
section
variable {X:Cx}
end
section
variable {X:Cx} {elts:List Expr} {k:Nat} {tpos:Pos}
end
end L2
namespace Bf
section
variable {κ:Type} [DecidableEq κ]
def a8 (w:List κ):List κ->List κ
 | []=>w
 | k::ks=>a8 (if k∈w then w else w++[k]) ks
def bfs (nx:κ->List κ) (s:κ):Nat->List κ
 | 0=>[s]
 | n+1=>match (bfs nx s n)[n]? with
  | some h=>a8 (bfs nx s n) (nx h)
  | none=>bfs nx s n
inductive Reach (nx:κ->List κ) (s:κ):κ->Prop
 | start:Reach nx s s
 | step {a b:κ}:Reach nx s a->b∈nx a->Reach nx s b
theorem cS:∀(ks w:List κ),w <+: a8 w ks
 | [],w=>List.prefix_refl w
 | k::ks,w=>by
  unfold a8;refine List.IsPrefix.trans ?_ (cS ks _)
  split
  ·exact List.prefix_refl w
  exact List.prefix_append w [k]
theorem eF:∀(ks w:List κ) (x:κ),x∈a8 w ks↔x∈w\/x∈ks
 | [],w,x=>by simp[a8]
 | k::ks,w,x=>by
  unfold a8;rw[eF ks]
  split
  ·rename_i h
   constructor
   ·rintro(q|q)
    ·exact .inl q
    exact .inr (QG _ q)
   rintro(q|q)
   ·exact .inl q
   rcases QQ.mp q with e|q
   ·subst e;exact .inl h
   exact .inr q
  rw[Qy,QL,QQ,or_assoc]
theorem eE:∀(ks w:List κ),w.Nodup->(a8 w ks).Nodup
 | [],w,h=>h
 | k::ks,w,h=>by
  unfold a8;refine eE ks _ ?_
  split
  ·exact h
  rename_i hk
  rw[List.nodup_append];refine⟨h,by simp,λa ha b hb=>?_⟩;rw[QL]at hb;subst hb;intro e;subst e;exact hk ha
theorem jU (w ks ls:List κ):a8 w (ks++ls)=a8 (a8 w ks) ls:=by
 induction ks generalizing w with
 | nil=>rfl
 | cons k ks ih=>exact ih _
variable {w xs ys:List κ}
theorem oO {k:κ} (h:k∈w):a8 w [k]=w:=by simp[a8,h]
theorem oN {k:κ} (h:k∉w):a8 w [k]=w++[k]:=by simp[a8,h]
variable {nx:κ->List κ} {s:κ}
variable {n i m:Nat}
theorem d5 {h:κ} (e:(bfs nx s n)[n]?=some h):bfs nx s (n+1)=a8 (bfs nx s n) (nx h):=by
 show (match (bfs nx s n)[n]? with|some h=>a8 (bfs nx s n) (nx h)|none=>bfs nx s n)=_;rw[e]
theorem eX (e:(bfs nx s n)[n]?=none):bfs nx s (n+1)=bfs nx s n:=by
 show (match (bfs nx s n)[n]? with|some h=>a8 (bfs nx s n) (nx h)|none=>bfs nx s n)=_;rw[e]
theorem nB (n:Nat):bfs nx s n <+: bfs nx s (n+1):=by
 cases e:(bfs nx s n)[n]? with
 | none=>rw[eX e];exact List.prefix_refl _
 | some h=>rw[d5 e];exact cS _ _
theorem iy (n:Nat):∀m,bfs nx s n <+: bfs nx s (n+m)
 | 0=>List.prefix_refl _
 | m+1=>(iy n m).trans (nB (n+m))
theorem iq (h:xs <+: ys) {x:κ} (e:xs[i]?=some x):ys[i]?=some x:=by
 obtain⟨t,rfl⟩:=h;rw[Qu (Qc.mp e).1];exact e
theorem iZ (h:xs <+: ys) {x:κ} (hi:i<xs.length) (e:ys[i]?=some x):xs[i]?=some x:=by
 obtain⟨t,rfl⟩:=h;rw[Qu hi]at e;exact e
theorem bS:∀n,(bfs nx s n).Nodup
 | 0=>by simp[bfs]
 | n+1=>by
  cases e:(bfs nx s n)[n]? with
  | none=>rw[eX e];exact bS n
  | some h=>rw[d5 e];exact eE _ _ (bS n)
theorem b9:∀n x,x∈bfs nx s n->Reach nx s x
 | 0,x,h=>by
  have:x=s:=by simpa[bfs] using h
  subst this;exact .start
 | n+1,x,hx=>by
  cases e:(bfs nx s n)[n]? with
  | none=>rw[eX e]at hx;exact b9 n x hx
  | some h =>
  rw[d5 e]at hx;rcases(eF _ _ _).mp hx with q|q
  ·exact b9 n x q
  exact .step (b9 n h (Qh e)) q
theorem nz (n:Nat):(bfs nx s n)[0]?=some s:=iq (by have:=iy (nx:=nx) (s:=s) 0 n;rwa [Nat.zero_add]at this) rfl
theorem qW (n:Nat):s∈bfs nx s n:=Qh (nz n)
theorem jy {n i:Nat} {h:κ} (hi:i<n) (e:(bfs nx s n)[i]?=some h):∀k∈nx h,k∈bfs nx s n:=by
 have h1:bfs nx s i <+: bfs nx s n:=by
  have:=iy (nx:=nx) (s:=s) i (n-i);rwa [Nat.add_sub_cancel' (Xr hi)]at this
 have h2:bfs nx s (i+1) <+: bfs nx s n:=by
  have:=iy (nx:=nx) (s:=s) (i+1) (n-(i+1));rwa [Nat.add_sub_cancel' hi]at this
 intro k hk
 cases q:(bfs nx s i)[i]? with
 | some h' =>
  have:some h'=some h:=(iq h1 q).symm.trans e;cases this;refine h2.subset ?_;rw[d5 q];exact(eF _ _ _).mpr (.inr hk)
 | none =>
 -- then nothing is added any more
 exfalso
 have stay:∀m,bfs nx s (i+m)=bfs nx s i:=by
  intro m
  induction m with
  | zero=>rfl
  | succ m ih =>
  have:(bfs nx s (i+m))[i+m]?=none:=by
   rw[ih];exact Xk (QM (List.getElem?_eq_none_iff.mp q) (Nat.le_add_right i m))
  exact(eX this).trans ih
 have:=stay (n-i);rw[Nat.add_sub_cancel' (Xr hi)]at this;rw[this,q]at e;cases e
theorem pU (hn:(bfs nx s n).length<=n) (x:κ):x∈bfs nx s n↔Reach nx s x:=by
 refine⟨b9 n x,λr=>?_⟩
 induction r with
 | start=>exact qW n
 | step r hb ih =>
 obtain⟨i,hi,e⟩:=Ql.mp ih;exact jy (i:=i) (by omega) (by rw[Qb hi,e]) _ hb
theorem fU:∀(ks w:List κ) (j:Nat) (x:κ),w.length<=j->(a8 w ks)[j]?=some x->x∈ks
 | [],w,j,x,hj,e=>by
  have:w[j]?=some x:=e;rw[Xk hj]at this;cases this
 | k::ks,w,j,x,hj,e=>by
  unfold a8 at e
  split at e
  ·exact QG _ (fU ks w j x hj e)
  by_cases c:j=w.length
  ·subst c;have:=iZ (cS ks (w++[k])) (i:=w.length) (by simp) e;rw[Qs (Qg _)]at this;simp at this;exact this▸Xh
  exact QG _ (fU ks (w++[k]) j x (by simp;omega) e)
theorem jx:∀(n j:Nat) (x:κ),0<j->(bfs nx s n)[j]?=some x->∃i h,i<j/\i<n/\(bfs nx s n)[i]?=some h/\x∈nx h
 | 0,j,x,hj,e=>by
  have:([s]:List κ)[j]?=some x:=e;rw[Xk (by simp;omega)]at this;cases this
 | n+1,j,x,hj,e=>by
  cases q:(bfs nx s n)[n]? with
  | none =>
   rw[eX q]at e ⊢;obtain⟨i,h,h1,h2,h3,h4⟩:=jx n j x hj e;exact⟨i,h,h1,by omega,h3,h4⟩
  | some h =>
  rw[d5 q]at e ⊢;by_cases c:j<(bfs nx s n).length
  ·have e':=iZ (cS (nx h) (bfs nx s n)) c e;obtain⟨i,h',h1,h2,h3,h4⟩:=jx n j x hj e';exact⟨i,h',h1,by omega,iq (cS _ _) h3,h4⟩
  have hn:n<(bfs nx s n).length:=(Qc.mp q).1;exact⟨n,h,by omega,by omega,iq (cS _ _) q,fU _ _ j x (by omega) e⟩
theorem vh (hn:(bfs nx s n).length=n) (hm:(bfs nx s m).length=m):n=m:=by
 have a:∀x,x∈bfs nx s n↔x∈bfs nx s m:=λx=>(pU (Nat.le_of_eq hn) x).trans (pU (Nat.le_of_eq hm) x).symm;have:=(List.perm_ext_iff_of_nodup (bS n) (bS m)).mpr a;have:=this.length_eq;omega
theorem d_:∀(xs ys:List κ),xs.Nodup->(∀x∈xs,x∈ys)->xs.length<=ys.length
 | [],_,_,_=>QO _
 | x::xs,ys,nd,h=>by
  rw[Q7]at nd;have hx:x∈ys:=h x Xh;have:=d_ xs (ys.erase x) nd.2 λy hy=>(List.mem_erase_of_ne (λz:y=x=>nd.1 (by rw[<-z];exact hy))).mpr (h y (QG _ hy));rw[List.length_erase_of_mem hx]at this;have:0<ys.length:=List.length_pos_of_mem hx;simp only[QK];omega
end
section
variable {κ:Type} [DecidableEq κ] {nx:κ->List κ} {s:κ}
end
end Bf
namespace L2
open PySem PySem.Spec PyProof.Rows
section
variable {X:Cx}
def wJ:V->List V->Hp->VK->Prop:=λx vs H Q=>∃(l:Addr) (xs:List Str) (y:Str) (j:Nat),x=.ref l/\vs=[.str y]/\H l=some (.lst (xs.map V.str))/\xs[j]?=some y/\(∀m,m<j->xs[m]?≠some y)/\xs.length<=100000/\Q (.int j) H
theorem sY:MtR X "list.index" wJ:=by
 intro pins s U H x vs v us Q I rx rv h;obtain⟨l,xs,y,j,rfl,rfl,hH,hj,hno,hz,q⟩:=h;cases rx;obtain⟨u,rfl,t,rfl⟩:=dJ rv;obtain⟨z,its,n,r,hl,e⟩:=I.lstM hH;have sa:=d8 r;have hlen:its.length=xs.length:=by rw[<-hl,Qa]
 have hjl:j<xs.length:=(Qc.mp hj).1
 have at':∀m (hm:m<its.toArray.size),isStrOf y its.toArray[m]=(xs[m]'(by rw[Qi]at hm;exact mR hlen hm)==y):=λm hm=>by
  rw[Qi]at hm;obtain⟨u,hu,ru⟩:=r.get (i:=m) (show (xs.map V.str)[m]?=some (.str (xs[m]'(by exact mR hlen hm))) from by rw[Qm,Qb (by exact mR hlen hm)];rfl);obtain⟨tu,eu⟩:=ru;subst eu
  have e2:its.toArray[m]=.str (xs[m]'(by exact mR hlen hm)) tu:=by
   have:=(Qc.mp hu).2;simpa using this
  rw[e2];rfl
 refine call_meets F.slot_list_index ⟨_,e,rfl⟩ F.entry_list_index (F.args_list_index_2 _ _) (MeetsSeq.list_index l its.toArray n (.str y t) (isStrOf y) (λv hv=>eq_isStrOf y t sa v (by simpa using hv)) j (by rw[Qi];exact sC hlen hjl) (by omega) ?_ (λm hm hmj=>?_)) ⟨e,?_⟩
 ·rw[at' j (by rw[Qi];exact sC hlen hjl)];have:=(Qc.mp hj).2;rw[this];simp
 ·rw[at' m hm];rw[Qi]at hm;have h1:=hno m hmj;rw[Qb (by exact mR hlen hm)]at h1;simpa using h1
 exact⟨.int j,H,I.tok _,⟨_,rfl⟩,q⟩
end
section
variable {X:Cx}
end
section
variable {X:Cx}
def pf (T:Addr):R2:=λx y H Q=>x=.ref T/\((y=.str "0" /\ Q (.str "1") H)\/(y=.str "1" /\ Q (.str "0") H))
theorem u3 {T:Addr} (hT:oR X.K T [("0", .flat (.str "1")),("1", .flat (.str "0"))]):IxR X (pf T):=by
 intro value slice pins s U H x y v u Q I rx ry h hs;obtain⟨e1,h⟩:=h;subst e1;cases rx;have here:KTD.Here X.base s.heap T [("0", .flat (.str "1")),("1", .flat (.str "0"))]:=⟨KTD.text_of_look (get:=λa=>X.K.lookup a) (λa o e=>I.mod.kin a o e) hT,I.bk⟩;rcases h with⟨e,q⟩|⟨e,q⟩
 ·subst e;obtain⟨t,e⟩:=ry;subst e;refine KTD.item_textA here (by rfl) (by decide +kernel) ?_ hs;have e:decide (("0" : Str) = "0")=true:=by decide +kernel
  simp only[KTD.EachL,e,if_true];exact λt=>⟨.str "1", H,I.tok _,⟨_,rfl⟩,q⟩
 subst e;obtain⟨t,e⟩:=ry;subst e;refine KTD.item_textA here (by rfl) (by decide +kernel) ?_ hs;have e:decide (("1" : Str) = "0")=false:=by decide +kernel
 simp only[KTD.EachL,e,QP,if_false];exact λ_ t=>⟨.str "0", H,I.tok _,⟨_,rfl⟩,q⟩
end
section
variable {X:Cx} {scope:Scope} {tgs:List Str} {cap:List (Str × Nat)}
theorem xP {j:Nat} {x:Str} {pos' spos:Pos} {elt tg iter:Expr} {ifs:List Expr} {pos:Pos} {wi:TI} {g:TG} {tt:TT} {te:TE} (hN:X.N.Nodup) (hj:X.N[j]?=some x) (hx:Loc X.env.scope x) (hc:X.calm=true) (B:BlockOk X scope tgs cap) (hi:PI X tg iter wi)
  (hg:∀C s H fp,PG (X.block (tgs++cap.map (·.1)) scope C s H fp) tg g) (ht:∀C s H fp,vm (X.block (tgs++cap.map (·.1)) scope C s H fp) ifs tt) (he:∀C s H fp,PE (X.block (tgs++cap.map (·.1)) scope C s H fp) elt te)
  (hs:∀x,foldedSetIterable iter X.env x=pure x:=by intro _;rfl) (hsw:swapsWith (.ListComp elt [⟨tg,iter,ifs,0⟩] scope pos) (some (.Name x pos')) spos.line X.env=pure true:=by rfl)
  (hf:X.fn x=true\/X.env.scope.names.lookup x=some .local:=by z_go):PS X (.Assign [.Name x pos'] (.ListComp elt [⟨tg,iter,ifs,0⟩] scope pos) spos) (rE (iD wi g tt te (bI tgs cap)) (dW j)):=by
 intro pins s U H D I h;rw[exec_Assign_Name_used _ _ _ _ hsw];refine Qe (wpAny_standAt (Qe ?_));show wpAny _ _ (comprehension _ _ _ _ _ _ _ _ >>= _) _ _ _;refine Qe (thn (Q:=λ_ s'=>SP X pins D .next s') ?_ λ_ s' q=>Qn (Qn q));refine wpAny_comprehension_free (use:=some (assign (.Name x pos') X.env)) rfl hs (js (B.cellAt I.ok)) B.kind B.locs (thn (hi pins s U H _ I h) λv s1 h1=>thn h1 λitv s2 h2=>?_);obtain⟨it,fp,tn,J,H2,e,I2,T,st2,f2,q⟩:=h2;subst e;have lt2:∀b∈fp,b<s2.heap.objs.size:=λb hb=>let ⟨o,e,_⟩:=T.obj _ _ st2 b hb;Qk e;have hD:H2 s2.heap.objs.size=none:=I2.hok.fresh (Qg _);obtain⟨W,⟨m0,w0⟩,turn⟩:=q s2.heap.objs.size hD;refine wpAny_newObj_type ?_;have I3:Inv X pins U (upd H2 s2.heap.objs.size (.lst [])) { s2 with heap:=s2.heap.push { cls:=.type "list", dict:=none,data:=.seq ([]:List Value).toArray } }:=I2.lnew (t':=s2.toks) (ys:=[]) (its:=[]) .nil (QO _);have st3:tn 0 (s2.heap.push { cls:=.type "list", dict:=none,data:=.seq ([]:List Value).toArray }):=T.keep _ _ _ st2 λb _ o e=>Qd _ e;have nD:∀b∈fp,b≠s2.heap.objs.size:=λb hb=>QE (lt2 b hb);have f3:∀b∈fp,fV X pins (upd H2 s2.heap.objs.size (.lst [])) b:=λb hb=>⟨by rw[ao (nD b hb)];exact(f2 b hb).1,(f2 b hb).2⟩;generalize hs3:({ s2 with heap:=s2.heap.push { cls:=.type "list", dict:=none,data:=.seq ([]:List Value).toArray } }:Shared)=s3 at I3 st3 ⊢;have st3':tn 0 s3.heap:=by rw[<-hs3];exact st3
 have lt3:∀b∈fp,b<s3.heap.objs.size:=λb hb=>let ⟨o,e,_⟩:=T.obj _ _ st3' b hb;Qk e;generalize hH3:upd H2 s2.heap.objs.size (.lst [])=H3 at I3 f3 w0;generalize s2.heap.objs.size=DD at *;refine wpAny_newFunctionEnv B.noc (by intro y hy;simp at hy) (λh1 hns hsb=>?_) B.kind;have old:∀b o,s3.heap.get? b=some o->h1.get? b=some o:=λb o e=>hsb.extBut b o (QE (Qk e)) (Qd _ e);have I4:=Inv.enter (tk:=s3.toks+([]:List (Str × Value)).length) (h1:=h1) B I3 f3 lt3 hns old;have st4:tn 0 h1:=T.keep _ _ _ st3' λb _ o e=>old b o e
 have fpB:∀{H':Hp},(∀b∈fp,H' b=none)->∀b∈fp,fV (X.block (tgs++cap.map (·.1)) scope s3.heap.objs.size s3 H3 fp) [] H' b:=λ{H'} hn b hb =>
  ⟨hn b hb,QE (lt3 b hb),I4.ok.exfs b hb,.inl hb,λx c e=>(I4.ok.exf b hb).2 x c e,λp hp=>absurd (show p∈([]:C1) from hp) (by simp)⟩
 have loop:codeAny (model X.prog X.w) X.A (.compLoop (.ListComp elt [⟨tg,iter,ifs,0⟩] scope pos) 0 (.ref it) (.ref DD) (compEnvC scope (cJ X.env scope.names []) s3.heap.objs.size X.env))
   (compPost (model X.prog X.w) X.A X.xe (some (assign (.Name x pos') X.env)) (λ_ s'=>SP X pins D .next s') (.ref DD) s3.heap.objs.size) { s3 with heap:=h1,toks:=s3.toks+([]:List (Str × Value)).length }:=by
  refine gj (λn s'=>∃i H' ys,Inv (X.block (tgs++cap.map (·.1)) scope s3.heap.objs.size s3 H3 fp) [] (bI tgs cap U) H' s'/\tn i s'.heap/\(∀b∈fp,H' b=none)/\W i n H' ys) ?_ m0 ⟨0,H3,[],I4,st4,λb hb=>(f3 b hb).1,w0⟩;rintro n s5 ⟨i,H5,ys,I5,st5,fr5,w5⟩;obtain⟨hl,ht5⟩:=turn i n H5 ys w5;rcases ht5 with⟨stop,qd⟩|⟨go,step⟩
  ·refine thn (T.done (X.block (tgs++cap.map (·.1)) scope s3.heap.objs.size s3 H3 fp) rfl rfl rfl hc i [] s5 _ H5 _ I5 (fpB fr5) st5 stop) λr s6 ⟨hr,I6⟩=>?_;subst hr;obtain⟨m6,n6,_⟩:=I6.loc;have IO:Inv X pins U H5 s6:=Inv.leave (h2:=s6.heap) I3 f3 I6 ⟨rfl,λ_ _=>rfl⟩;have fC:fV X pins H5 s3.heap.objs.size:=⟨I6.free,(I3.fpOk (Qg _) (I3.hok.fresh (Qg _))).2⟩;obtain⟨f0,f1,f2',f3',f4,f5⟩:=fC;refine wpAny_assign_Name (j7 IO hN hj hx (show aO (.ref DD) (.ref DD) from rfl) (λs7 I7 ⟨a,sb,ha⟩=>?_) hf)
   have na:s3.heap.objs.size≠a:=by
    rcases ha with z|z
    ·rw[z];exact f1
    exact λy=>f4 x a z y.symm
   obtain⟨o6,es6,ep6,ho6,r6⟩:=n6;refine⟨m6,⟨o6,es6,ep6,(sb.2 _ na).trans ho6,r6⟩,λh' hs'=>⟨_,H5,I7.turned (t':=s7.toks) (λb o hb q=>(hs'.2 b hb).trans q) f0 f1 f3' f4 f5,qd⟩⟩
  refine thn (T.item (X.block (tgs++cap.map (·.1)) scope s3.heap.objs.size s3 H3 fp) rfl rfl rfl hc i [] s5 _ H5 _ I5 (fpB fr5) st5 go) λr s6 ⟨u,hr,h6⟩=>?_;subst hr;refine thn h6 λ_ s7 ⟨x,H7,I7,r7,y7,st7,fr7⟩=>?_;have I7':=I7.pinned (fpB fr7) (T.obj _ _ st7)
  have again:∀{σ8:St} {H8:Hp} {s8:Shared} {ys8:List V},Inv (X.block (tgs++cap.map (·.1)) scope s3.heap.objs.size s3 H3 fp) ([]++gE fp s7.heap) σ8 H8 s8->wk (bI tgs cap U) σ8->(∃m',m'<n/\W (i+1) m' H8 ys8) ->
    ∃m,m<n/\∃i H' ys,Inv (X.block (tgs++cap.map (·.1)) scope s3.heap.objs.size s3 H3 fp) [] (bI tgs cap U) H' s8/\tn i s8.heap/\(∀b∈fp,H' b=none)/\W i m H' ys:=λ{σ8 H8 s8 ys8} I8 k8 ⟨m',hm,w8⟩=>by
   refine⟨m',hm,i+1,H8,ys8,I8.unpinned.weak (kK k8) (kL k8),T.keep _ _ _ st7 λb hb o e=>(I8.pin (b,o) (QN _ (QN _ (cO hb e)))).1,λb hb=>?_,w8⟩;obtain⟨o,e,d⟩:=T.obj _ _ st7 b hb;exact(I8.pin (b,o) (QN _ (QN _ (cO hb e)))).2.1
  refine thn (hg _ _ _ _ _ s7 _ H7 x u _ I7' r7 (step x H7 y7)) λ_ s8 ⟨σ8,H8,I8,k8,q8⟩=>?_;refine thn (ht _ _ _ _ _ s8 σ8 H8 _ I8 q8) λok s9 ⟨H9,I9,q9⟩=>?_
  cases ok with
  | false =>
   rw[QC Qj]at q9 ⊢;exact again I9 k8 q9
  | true =>
  rw[QB rfl]at q9 ⊢;refine thn (he _ _ _ _ _ s9 σ8 H9 _ I9 q9) λy sA ⟨yv,HA,IA,rA,hA,zA,qA⟩=>?_;exact thn (bR _ sA σ8 HA (.ref DD) [yv] (.ref DD) [y] (λv H'=>v=.non/\∃m',m'<n/\W (i+1) m' H' (ys++[yv])) IA rfl (.cons rA .nil) ⟨DD,ys,yv,rfl,rfl,hA,zA,rfl,qA⟩) λ_ sB ⟨_,HB,IB,_,_,qB⟩=>again IB k8 qB
 exact codeAny_compStart_list loop (T.self _ 0 _ _ _ st4 loop)
end
end L2
namespace L2
open PySem PySem.Spec PyProof.Rows
open AutoSeq1 (wpAny_loadPart')
section
variable {P:Program} {w:World} {A:Around} {E:C0} {s:Shared}
theorem qQ (l:Addr) (c:Int) (tc:Tok) (hc:Builtin.SmallTypes.fitsIndex c=true) (its:Array Value) (m:Nat) (dd:Option Addr) (ss:Array (Option Value)) :
  Meets (Builtin.«enumerate.__new__» ⟨[.type "enumerate", .ref l],[("start", .int c tc)]⟩) (λ_ R t=>t.heap.get? l=some { cls:=.type "list", dict:=dd,data:=.seq its m,slots:=ss } /\
   R (.ok (.ret (.ref (t.heap.push { cls:=.type "list_iterator", data:=.fields #[.ref l,.int 0 0] }).objs.size)))
    { t with heap:=(t.heap.push { cls:=.type "list_iterator", data:=.fields #[.ref l,.int 0 0] }).push { cls:=.type "enumerate", data:=.fields #[.none,.bool false,.ref t.heap.objs.size,rawInt c,.none,.none] } }):=by
 refine .of_wp λP w A R t ht=>?_;obtain⟨hp,g,d,tk,os⟩:=t;obtain⟨hl,h⟩:=ht;have sub:=sub_enumerate;have hL:Heap.IsList (Shared.heap ⟨hp,g,d,tk,os⟩) l its:=⟨_,hl,rfl,m,rfl⟩
 wp_walk using wpAny_loadPart' hl
 refine wpAny_stack_any λst=>Qn ?_;have nf:(!Builtin.SmallTypes.fitsIndex c)=false:=by rw[hc];rfl
 split
 rotate_left
 ·(wp_walk using wpAny_loadPart' hl,wpAny_pyIter_list hL);exact⟨_,rfl,h⟩
 rename_i k _ _ _ _ _
 cases (k==Value.type "enumerate") <;> ((wp_walk using wpAny_loadPart' hl,wpAny_pyIter_list hL);exact⟨_,rfl,h⟩)
theorem p6 (a b:Value):checkTypeCall "enumerate" ⟨[a],[("start", b)]⟩=pure ():=by kernel_rfl
theorem sX (a b:Value):checkBuiltinCall "enumerate.__new__" ⟨[.type "enumerate", a],[("start", b)]⟩=pure ():=by kernel_rfl
theorem A9 (a b c:Value):argsOk "object.__init__" ⟨[a,b],[("start", c)]⟩:=by
 show Bind.checkArgs _ _ _=_
 kernel_rfl
theorem sU {T nid:String} {o a b:Value} (hl:typeLookup (.type T) "__init__" = pure (some (.builtin "object.__init__"))) (hm:Bind.madeBy (.type T)=pure (some nid)) (ne:(some nid != some "object.__new__")=true) :
  Meets (Builtin.«object.__init__» ⟨[o,a],[("start", b)]⟩) (λ_ R t=>t.TypeIs o T/\R (.ok (.ret .none)) t):=by
 refine .of_wp λP w A R t ⟨hT,hq⟩=>?_
 repeat (any_goals (first|assumption|wp_step))
 exact⟨_,rfl,hq⟩
end
end L2
namespace L2
open PySem PySem.Spec PyProof.Rows
variable {P:Program} {w:World} {A:Around} {E:C0} {s:Shared}
section
theorem oJ {l:Addr} {c:Int} {tc:Tok} {its:Array Value} {Q:C0} (hc:Builtin.SmallTypes.fitsIndex c=true) (hL:s.heap.IsList l its)
  (h:∀h',IsEnum h' (s.heap.objs.size+1) s.heap.objs.size c .none->h'.IsListIter s.heap.objs.size l 0->(∀b o,s.heap.get? b=some o->h'.get? b=some o)->Q (.ref (s.heap.objs.size+1)) { s with heap:=h' }) :
  wpAny (model P w) A (call (.type "enumerate") [.ref l] [("start", .int c tc)]) Q E s:=by
 obtain⟨⟨k,dd,dt,ss⟩,hl,hk,m,hd⟩:=hL;have hk:k=.type "list" := hk;have hd:dt=.seq its m:=hd;subst hk hd;have ft:=F.called_enumerate;obtain⟨c0,tl,hmro⟩:=ft.mro;have hmade:=ft.made;have hsub:=ft.sub;have h1:=ft.notType;have h2:=ft.canCreate;have hct:=p6 (.ref l) (.int c tc);refine wpAny_call (codeAny_of_tree ?_);show wpAny _ _ (callAny (.type "enumerate") _) _ _ _;refine Qn ⟨Code.quiet_builtin _ (by decide +kernel),codeAny_builtin F.entry_type_call ?_⟩;rw[Around.under_plain (weight_type_call_type "enumerate" [.ref l] [("start", .int c tc)]) (units_type_call_type "enumerate" [.ref l] [("start", .int c tc)])]
 repeat (any_goals (first|assumption|wp_step))
 have hcn:=sX (.ref l) (.int c tc);refine codeAny_mono (codeAny_call_builtin ft.plain F.entry_enumerate_new (wpAny_of_eq hcn ((qQ l c tc hc its m dd ss) P w A.in1 (wants (λobj s₁=>s₁.TypeIs obj "enumerate" /\ Q obj s₁) E) s ⟨hl,?_⟩))) λr s₁ hr=>?_
 ·have hz:(s.heap.push { cls:=.type "list_iterator", data:=.fields #[.ref l,.int 0 0] }).objs.size=s.heap.objs.size+1:=Heap.size_push ..;show _/\_;rw[hz];have he:=Qw (s.heap.push { cls:=.type "list_iterator", data:=.fields #[.ref l,.int 0 0] }) (o:={ cls:=.type "enumerate", data:=.fields #[.none,.bool false,.ref s.heap.objs.size,rawInt c,.none,.none] }) rfl;rw[hz]at he;exact⟨⟨_,he,rfl⟩,h _ he ⟨_,Qd _ (Qw _ rfl),rfl,rfl⟩ λb o x=>Qd _ (Qd _ x)⟩
 cases r with
 | error e=>exact hr
 | ok fl =>
 cases fl with
 | ret obj =>
  obtain⟨hT,hq⟩:=hr;have hli:=ft.init.lookup;have hbi:=ft.init.bind obj
  repeat (any_goals (first|assumption|wp_step))
  refine codeAny_mono (codeAny_call_builtin ft.init.plain F.entry_object_init (ft.init.check _ _ _ _ _ _ _ _ hT (A9 obj _ _) ((sU ft.init.lookup ft.made (by decide)) P w A.in1 (wants (λr s₂=>r=.none/\Q obj s₂) E) s₁ ⟨hT,rfl,hq⟩))) λr₂ s₂ hr₂=>?_
  cases r₂ with
  | error e=>exact hr₂
  | ok fl2 =>
  cases fl2 with
  | ret r=>obtain⟨rfl,hq⟩:=hr₂;repeat (any_goals (first|assumption|wp_step))
  | _=>exact hr₂.elim
 | _=>exact hr.elim
end
section
variable {x old:Value} {its:Array Value} {e it l:Addr}
theorem oB {i:Nat} {c:Int} {Q:C0} (he:IsEnum s.heap e it c old) (hit:s.heap.IsListIter it l i) (hl:s.heap.IsList l its) (hx:its[i]?=some x) (hne:e≠it)
  (hQ:∀h',IsEnumOut h' e it (c+1) x s.heap.objs.size->h'.IsListIter it l (i+1)->h'.get? s.heap.objs.size=some { cls:=.type "tuple", data:=.seq #[.int c s.toks,x] } ->
   (∀b o,b≠e->b≠it->s.heap.get? b=some o->h'.get? b=some o)->Q (.ref s.heap.objs.size) { s with heap:=h',toks:=s.toks+1 }) :
  wpAny (model P w) A (Builtin.«enumerate.__next__» ⟨[.ref e],[]⟩) (λfin s'=>∃v,fin=.done (.ret v)/\Q v s') E s:=by
 obtain⟨hp,g,d,tk,os⟩:=s;show wpAny _ _ (field (.ref e) 2 >>= _) _ _ _;refine Qe (Xd he rfl (x:=.ref it) rfl (Qe (wpAny_nextOf_list_item hit hl hx λk1 i1 s1=>?_)));have s1:Heap.SameBut it hp k1:=s1;have e1:IsEnum k1 e it c old:=(s1.2 e hne).trans he;show wpAny _ _ (field (.ref e) 3 >>= _) _ _ ⟨k1,g,d,tk,os⟩;refine Qe (Xd e1 rfl (x:=rawInt c) rfl ?_);show wpAny _ _ (field (.ref e) 4 >>= _) _ _ ⟨k1,g,d,tk,os⟩;refine Qe (Xd e1 rfl (x:=.none) rfl ?_);show wpAny _ _ (mkInt c >>= _) _ _ ⟨k1,g,d,tk,os⟩;refine Qe (wpAny_mkInt ?_);show wpAny _ _ (setField (.ref e) 3 (rawInt (c+1)) >>= _) _ _ ⟨k1,g,d,tk+1,os⟩;refine Qe (Q4 e1 (by simp) λk2 e2 s2=>?_);have s2:Heap.SameBut e k1 k2:=s2;have e2:IsEnum k2 e it (c+1) old:=e2;show wpAny _ _ (setField (.ref e) 4 .none >>= _) _ _ ⟨k2,g,d,tk+1,os⟩;refine Qe (Q4 e2 (by simp) λk3 e3 s3=>?_);have s3:Heap.SameBut e k2 k3:=s3;have e3:IsEnum k3 e it (c+1) old:=e3;show wpAny _ _ (newTuple [.int c tk,x] >>= _) _ _ ⟨k3,g,d,tk+1,os⟩;refine Qe (wpAny_newTuple ?_);have e4:IsEnum (k3.push { cls:=.type "tuple", data:=.seq #[.int c tk,x] }) e it (c+1) old:=Qd _ e3;generalize hh:k3.push { cls:=.type "tuple", data:=.seq #[.int c tk,x] }=k4 at e4;have sz:k3.objs.size=hp.objs.size:=by rw[s3.1,s2.1,s1.1]
 have el:e<hp.objs.size:=Qk he;have t4:k4.get? hp.objs.size=some { cls:=.type "tuple", data:=.seq #[.int c tk,x] }:=by rw[<-hh,<-sz];exact Qw _ rfl
 have kp:∀b o,b≠e->b≠it->hp.get? b=some o->k4.get? b=some o:=λb o n1 n2 q=>by rw[<-hh];exact Qd _ (s3.extBut b o n1 (s2.extBut b o n1 (s1.extBut b o n2 q)))
 have i4:k4.IsListIter it l (i+1):=by
  obtain⟨o,ho,r⟩:=(i1.extBut s2.extBut (Xs hne)).extBut s3.extBut (Xs hne);exact⟨o,by rw[<-hh];exact Qd _ ho,r⟩
 show wpAny _ _ (Builtin.SmallTypes.ownedTupleIsFree (.ref e) >>= _) _ _ ⟨k4,g,d,tk+1,os⟩;rw[sz];refine Qe ?_;unfold Builtin.SmallTypes.ownedTupleIsFree;refine Qe (Xd e4 rfl (x:=.none) rfl (Qn ?_));simp only[if_true];refine Qe (wpAny_rule (Qe (Xd e4 rfl (x:=old) rfl (Qe (Q4 e4 (by simp) λk5 e5 s5=>?_)))));have s5:Heap.SameBut e k4 k5:=s5;have e5:IsEnum k5 e it (c+1) x:=e5;show wpAny _ _ (Builtin.SmallTypes.ownedTupleHandOut (.ref e) (.ref hp.objs.size) >>= _) _ _ ⟨k5,g,d,tk+1,os⟩;refine Qe ?_;unfold Builtin.SmallTypes.ownedTupleHandOut;refine Qe (Q4 e5 (by simp) λk6 e6 s6=>?_);have s6:Heap.SameBut e k5 k6:=s6;have e6:IsEnumOut k6 e it (c+1) x hp.objs.size:=e6;refine Q4 e6 (by simp) λk7 e7 s7=>?_;have s7:Heap.SameBut e k6 k7:=s7;have e7:IsEnumOut k7 e it (c+1) x hp.objs.size:=e7;have far:∀b o,b≠e->k4.get? b=some o->k7.get? b=some o:=λb o n q=>s7.extBut b o n (s6.extBut b o n (s5.extBut b o n q));exact Qe (wpAny_letGo (Qn ⟨_,rfl,hQ k7 e7 (((i4.extBut s5.extBut (Xs hne)).extBut s6.extBut (Xs hne)).extBut s7.extBut (Xs hne)) (far _ _ (Nat.ne_of_gt el) t4) λb o n1 n2 q=>far b o n1 (kp b o n1 n2 q)⟩))
variable {Q:Option Value->Shared->Prop}
theorem lm {i:Nat} {c:Int} (he:IsEnum s.heap e it c old) (hit:s.heap.IsListIter it l i) (hl:s.heap.IsList l its) (hx:its[i]?=some x) (hne:e≠it)
  (hQ:∀h',IsEnumOut h' e it (c+1) x s.heap.objs.size->h'.IsListIter it l (i+1)->h'.get? s.heap.objs.size=some { cls:=.type "tuple", data:=.seq #[.int c s.toks,x] } ->
   (∀b o,b≠e->b≠it->s.heap.get? b=some o->h'.get? b=some o)->Q (some (.ref s.heap.objs.size)) { s with heap:=h',toks:=s.toks+1 }):wpAny (model P w) A (pyNext (.ref e)) Q E s:=by
 have ty:s.TypeIs (.ref e) "enumerate" := ⟨_,he,rfl⟩;unfold pyNext;refine Qe (wpAny_attempt (wpAny_callSpecial?_slot (name:=Str.ofString "__next__") ty F.slot_enumerate_next (wpAny_call_entry F.slot_enumerate_next ty F.entry_enumerate_next (oB he hit hl hx hne λh' a b c k=>?_) (F.args_enumerate_next_1 _))));exact Qn (hQ h' a b c k)
theorem gC {i:Nat} {c:Int} (hh:A.handled=none) (he:IsEnum s.heap e it c old) (hit:s.heap.IsListIter it l i) (hl:s.heap.IsList l its) (hx:its[i]?=none)
  (hQ:∀h',Heap.ExtBut it s.heap h'->Q none { s with heap:=h' }):wpAny (model P w) A (pyNext (.ref e)) Q E s:=by
 have ty:s.TypeIs (.ref e) "enumerate" := ⟨_,he,rfl⟩;unfold pyNext;refine Qe (wpAny_attempt (wpAny_callSpecial?_slot (name:=Str.ofString "__next__") ty F.slot_enumerate_next (wpAny_call_entry F.slot_enumerate_next ty F.entry_enumerate_next ?_ (F.args_enumerate_next_1 _))));show wpAny _ _ (field (.ref e) 2 >>= _) _ _ _;refine Qe (Xd he rfl (x:=.ref it) rfl (Qe (wpAny_nextOf_list_end hh hit hl hx λh' y hx' ⟨o,ho,ko⟩=>?_)));exact Qe (wpAny_isInstance (T := "StopIteration") (b:=true) ⟨o,ho,ko⟩ isSubtype_stop (Qn (hQ _ hx')))
end
noncomputable def ue (K:PySem.W.Frag) (a:Addr) (n:Int):It :=
 ⟨λi H=>∃xs x,SqL K H a xs/\xs[i]?=some x,λi H x H'=>∃T v,H T=none/\x=.ref T/\H'=upd H T (.tup [.int (n+(i:Nat)),v])/\∀xs,SqL K H a xs->xs[i]?=some v,λi H=>∃xs,SqL K H a xs/\xs.length<=i⟩
variable {K:PySem.W.Frag}
theorem nI {P:Program} {w:World} {elts:List Expr} {k:Nat} {pos:Pos} (a e it:Addr) (n:Int) (hne:e≠it) :
  Turn P w K (.Tuple elts k pos) (ue K a n) [e,it] e (λi h=>(∃old,IsEnum h e it (n+(i:Nat)) old)/\h.IsListIter it a i) where
 mem:=by simp
 obj:=λi h st b hb=>by
  obtain⟨⟨old,he⟩,o,ho,hc,hd⟩:=st;have z:b=e\/b=it:=by simpa using hb
  rcases z with z|z
  ·subst z
   exact⟨_,he,λv q=>by
    have q':Data.fields _=Data.cell v:=q
    cases q'⟩
  subst z;exact⟨o,ho,λv q=>by rw[hd]at q;cases q⟩
 keep:=λi h h' st kk=>by
  obtain⟨⟨old,he⟩,hl⟩:=st;exact⟨⟨old,kk e (by simp) _ he⟩,hl.at λo q=>kk it (by simp) o q⟩
 item:=by
  intro X hP hw hK hc i pins s U H E I hf st hg;subst hP hw hK;obtain⟨xs,x,hq,hx⟩:=hg;obtain⟨its,rv,p,hz⟩:=I.list hq;obtain⟨u,hu,ru⟩:=rv.get hx;obtain⟨⟨old,he⟩,hl⟩:=st;have f1:=hf e (by simp);have f2:=hf it (by simp);refine lm he hl p.isList (x:=u) (by simpa using hu) hne λh1 a1 a2 a3 a5=>⟨_,rfl,?_⟩;refine wpAny_letOwnedTupleGo_enum a1 λh2 b1 b2=>?_
  have nTe:s.heap.objs.size≠e:=λz=>by
   have q:=Qk (show s.heap.get? e=some _ from he);rw[<-z]at q;exact Xw _ q
  have keep2:∀b o,b≠e->b≠it->s.heap.get? b=some o->h2.get? b=some o:=λb o n1 n2 q=>b2.extBut b o n1 (a5 b o n1 n2 q);have tup2:h2.get? s.heap.objs.size=some { cls:=.type "tuple", data:=.seq #[.int (n+(i:Nat)) s.toks,u] }:=b2.extBut _ _ nTe a3
  have I2:Inv X pins U (upd H s.heap.objs.size (.tup [.int (n+(i:Nat)),x])) { s with heap:=h2,toks:=s.toks+1 } :=
   I.turned2 keep2 f1 f2 (Qg _) ⟨(by show 2<=sizeLine;decide),[.int (n+(i:Nat)) s.toks,u],.cons ⟨_,rfl⟩ (.cons ru .nil),⟨_,tup2,rfl,_,rfl⟩⟩
  refine⟨.ref s.heap.objs.size,_,I2,rfl,⟨s.heap.objs.size,x,I.hok.fresh (Qg _),rfl,rfl,λys hy=>by rw[I.list_inj hy hq];exact hx⟩,⟨⟨u,?_⟩,(a2.extBut b2.extBut (Xs hne))⟩,λb hb=>?_⟩
  ·have q:IsEnum h2 e it (n+(i:Nat)+1) u:=b1;have c:n+(((i+1:Nat):Nat):Int)=n+(i:Nat)+1:=by omega
   rw[c];exact q
  have z:b=e\/b=it:=by simpa using hb
  have nT:b≠s.heap.objs.size:=by
   rcases z with z|z
   ·rw[z];exact Xs nTe
   rw[z];obtain⟨o,ho,_⟩:=hl;exact QE (Qk ho)
  rw[ao nT];exact(hf b hb).1
 done:=by
  intro X hP hw hK hc i pins s U H E I hf st hg;subst hP hw hK;obtain⟨xs,hq,hx⟩:=hg;obtain⟨its,rv,p,hz⟩:=I.list hq;obtain⟨⟨old,he⟩,hl⟩:=st;obtain⟨f0,f1,f2,f3,f4,f5⟩:=hf it (by simp);have hlen:=rv.length;exact gC (I.ok.hd hc) he hl p.isList (by simp;exact om4 hx hlen) λh' eb=>⟨rfl,I.turned (t':=s.toks) (λb o hb q=>eb b o hb q) f0 f1 f3 f4 f5⟩
 self:=λ_ _ _ _ _ st h=>by
  obtain⟨⟨old,he⟩,_⟩:=st;exact wpAny_pyIter_enum he h
section
variable {X:Cx} {elts:List Expr} {k:Nat} {tpos:Pos}
def xi (K:PySem.W.Frag) (ta tk:TA):TI:=λU H R=>ta U H λvs H1=>tk U H1 λzs H2=>∃a n,vs=[.ref a]/\zs=[.int n]/\(0<=n/\n<1000)/\(∃xs,SqL K H2 a xs)/\R (ue K a n) H2
variable {E Q:C0}
theorem jw {M:Model} {env:Env} {pos:Pos} {T:String} {e:Expr} {kws:List Keyword} {A:Around} {s:Shared}
  (h:wpAny M A (spliced (backTo pos (starEach [e] env))) (λvs s1=>wpAny M A (evalAll ((backToKw pos (keywordEach kws env)).map (·.2))) (λzs s2=>wpAny M A (call (.type T) vs (((backToKw pos (keywordEach kws env)).filterMap (·.1)).zip zs)) Q E s2) E s1) E s)
  (he:backTo pos (starEach [e] env)=(false,eval e env)::backTo pos (starEach [] env):=by rfl) (hp:(backTo pos (starEach [e] env)).any (·.1)=false:=by rfl) (ha:(backToKw pos (keywordEach kws env)).all (·.1.isSome)=true:=by rfl) (hk:(backToKw pos (keywordEach kws env)).any (·.1.isNone)=false:=by rfl) :
  wpAny M A (callWith pos (.type T) [] (backTo pos (starEach [e] env)) (backToKw pos (keywordEach kws env))) Q E s:=by
 unfold callWith;refine Qe (Q9 (Xj (show wpAny M A (evalArgs _ true _ _) (λa s1=>wpAny M A (call (.type T) a.pos a.kw) Q E s1) E s from ?_) (λa s1 h1=>Qe (wpAny_standAt ?_)) λ_ _ x=>x))
 ·rw[he]at h ⊢;exact evalArgs_kwB ha h
 simp only[hp,hk,Bool.or_false];refine Qe (Qn ?_);exact Qe (Xj h1 (λr s2 hr=>Qe (Q9 (wpAny_point (Qn hr)))) λ_ _ x=>x)
theorem r_ {a b:Expr} {ta tk:TA} {p pos kp:Pos} (hg:Gl X "enumerate") (hm:X.mg "enumerate" = none) (ha:PA X [a] ta) (hb:PK X [⟨some "start", b,kp⟩] tk) (he:∀pos,backTo pos (starEach [a] X.env)=(false,eval a X.env)::backTo pos (starEach [] X.env):=by intro pos;rfl) :
  PI X (.Tuple elts k tpos) (.Call (.Name "enumerate" p) [a] [⟨some "start", b,kp⟩] pos) (xi X.K ta tk):=by
 intro pins s U H R I h;refine wpAny_Call_Name_kw (dI I hg hm boot_enumerate ?_);refine jw (thn (ha pos pins s U H _ I h) λus s1 ⟨vs,H1,I1,r1,q1⟩=>thn (hb pos pins s1 U H1 _ I1 q1) λws s2 ⟨zs,H2,I2,rz,q2⟩=>?_) (he pos) (by rw[he pos];rfl);obtain⟨l,n,e1,e2,⟨n0,n1⟩,⟨xs,hq⟩,q⟩:=q2;subst e1 e2
 cases r1 with
 | cons r rr =>
 cases rr;cases r;obtain⟨u,e,ru⟩:=dJ rz;subst e;obtain⟨tc,e⟩:=ru;subst e;obtain⟨its,rv,pl,hz⟩:=I2.list hq;refine oJ (c:=n) (tc:=tc) (by unfold Builtin.SmallTypes.fitsIndex;simp;omega) pl.isList λh' b1 b2 b4=>?_;refine wpAny_pyIter_enum b1 ?_;have I3:Inv X pins U H2 { s2 with heap:=h' }:=I2.kept (t':=s2.toks) b4;refine⟨s2.heap.objs.size+1,[s2.heap.objs.size+1,s2.heap.objs.size],_,_,H2,rfl,I3,nI l (s2.heap.objs.size+1) s2.heap.objs.size n (by show @Ne Nat _ _;exact om5),⟨⟨_,by rw[show n+((0:Nat):Int)=n from by omega];exact b1⟩,b2⟩,λb hb=>?_,q⟩;have z:b=s2.heap.objs.size+1\/b=s2.heap.objs.size:=by simpa using hb
 have hle:s2.heap.objs.size<=b:=by
  rcases z with z|z
  ·rw[z];exact Nat.le_succ _
  rw[z];exact Qg _
 exact I2.fpOk hle (I2.hok.fresh hle)
end
theorem qM {a:Addr} {n:Int} {xs:List V} {g:TG} {tb:TS} {D:Ends} {U:St} {H:Hp} (Pv:Nat->St->Hp->Prop) (h0:Pv 0 U H) (hl:∀i U H,i<=xs.length->Pv i U H->SqL K H a xs)
  (hs:∀i x U H T,xs[i]?=some x->Pv i U H->H T=none->g (.ref T) U (upd H T (.tup [.int (n+(i:Nat)),x])) λσ2 H2=>tb { D with nx:=Pv (i+1),ct:=Pv (i+1),bk:=D.nx } σ2 H2) (hd:∀U H,Pv xs.length U H->D.nx U H) :
  ∃W:Nat->Nat->St->Hp->Prop,(∃m,W 0 m U H)/\∀i m U H,W i m U H ->
   ((ue K a n).stop i H/\D.nx U H)\/((ue K a n).go i H/\∃N:St->Hp->Prop,(∀σ' H',N σ' H'->∃m',m'<m/\W (i+1) m' σ' H')/\∀x H',(ue K a n).yld i H x H'->g x U H' λσ2 H2=>tb { D with nx:=N,ct:=N,bk:=D.nx } σ2 H2):=by
 refine⟨λi m U H=>m=xs.length-i/\i<=xs.length/\Pv i U H,⟨xs.length,by simp,QO _,h0⟩,?_⟩;rintro i m U H ⟨rfl,hi,p⟩;have q:=hl i U H hi p;by_cases hlt:i<xs.length
 ·refine .inr ⟨⟨xs,xs[i],q,by simp[hlt]⟩,Pv (i+1),λσ' H' p'=>⟨xs.length-(i+1),by exact om6 hlt,rfl,hlt,p'⟩,λx H' y=>?_⟩;obtain⟨T,v,hT,ex,eH,y⟩:=y;subst ex eH;exact hs i v U H T (y xs q) p hT
 have e:i=xs.length:=by exact om0 hi hlt
 subst e;exact .inl ⟨⟨xs,q,Qg _⟩,hd U H p⟩
theorem cR {H1:Hp} {D:Addr} {σ0:St} {g:TG} {te:TE} {tt:TT} {QD:Hp->Prop} {a:Addr} {xs:List V} (Pv:Nat->Hp->List V->Prop) (h0:Pv 0 (upd H1 D (.lst [])) []) (hD:∀i H ys,Pv i H ys->H D=some (.lst ys)/\SqL K H a xs)
  (hs:∀i x H ys,xs[i]?=some x->Pv i H ys->g x σ0 H λσ2 H2=>wk σ0 σ2/\tt σ2 H2 λb H3=>if b=true then te σ2 H3 (cw Pv xs.length D i ys) else ∃m',m'<xs.length-i/\(m'=xs.length-(i+1)/\i+1<=xs.length/\Pv (i+1) H3 ys)) (hd:∀H ys,Pv xs.length H ys->QD H) :
  ∃W:Nat->Nat->Hp->List V->Prop,(∃m,W 0 m (upd H1 D (.lst [])) [])/\∀i m H ys,W i m H ys->H D=some (.lst ys)/\(((Itl K a).stop i H/\QD H)\/((Itl K a).go i H/\∀x H',(Itl K a).yld i H x H'->g x σ0 H' λσ2 H2=>wk σ0 σ2/\tt σ2 H2 λb H3 =>
   if b=true then te σ2 H3 λv H4=>H4 D=some (.lst ys)/\ys.length<sizeLine/\∃m',m'<m/\W (i+1) m' (upd H4 D (.lst (ys++[v]))) (ys++[v]) else ∃m',m'<m/\W (i+1) m' H3 ys)):=by
 refine⟨λi m H ys=>m=xs.length-i/\i<=xs.length/\Pv i H ys,⟨xs.length,by simp,QO _,h0⟩,?_⟩;rintro i m H ys ⟨rfl,hi,p⟩;obtain⟨d1,d2⟩:=hD i H ys p;refine⟨d1,?_⟩;by_cases hlt:i<xs.length
 ·refine .inr ⟨⟨xs,xs[i],d2,by simp[hlt]⟩,λx H' y=>?_⟩;obtain⟨e,y⟩:=y;subst e;exact hs i x _ ys (y xs d2) p
 have e:i=xs.length:=by exact om0 hi hlt
 subst e;exact .inl ⟨⟨xs,d2,Qg _⟩,hd H ys p⟩
theorem tV {xs:List V} {a:Nat} (h:a<=xs.length):jm xs (some (a:Int)) none=xs.drop a:=by
 unfold jm;rw[HT.k_,HT.iW,Nat.min_eq_left h,Qr (by rw[QX];exact om1)]
theorem cut_to {xs:List V} {a:Nat} (h:a<=xs.length):jm xs none (some (a:Int))=xs.take a:=by
 unfold jm;rw[HT.k_,HT.iW,Nat.min_eq_left h];simp
theorem oM (n:Nat):((List.range n).all λ_=>true)=true:=Q0.mpr λ_ _=>rfl
section
variable {K:PySem.W.Frag} {H:Hp} {Q:VK}
theorem pd {R:Bool->Hp->Prop} {l:Addr} {xs:List V} {U:St} (hl:H l=some (.lst xs)) (q:∀H',aw H H'->R (decide (xs.length=0)) H'):rp mj U H λy H2=>rV K false (.ref l) y H2 λx H'=>∃k,x=.bl k/\R k H':=by
 refine i_lst (av ⟨by simp[sizeLine],λp hp=>?_⟩);refine⟨l,p,xs,[],λ_=>true,rfl,rfl,SqL.of (ap hp _ _ hl),SqL.of ai,λj x y _ e=>by simp at e,_,rfl,?_⟩
 have e:(if false=true then !(xs.length==([]:List V).length&&(List.range xs.length).all λ_=>true) else (xs.length==([]:List V).length&&(List.range xs.length).all λ_=>true))=decide (xs.length=0):=by
  rw[QC Qj,oM,Bool.and_true];rfl
 rw[e];exact q _ (ap hp)
end
end L2
set_option maxHeartbeats 1000000
namespace Tm
open PySem PyProof.Rows
def lJ:Bool->Keyed->Array Keyed->Nat->Nat->Nat->StateT SortSt Sem (Option Nat):=sortPriv% PySem.Builtin.gallop
def m4:Array Keyed->Array Keyed->StateT SortSt Sem (Array Keyed):=sortPriv% PySem.Builtin.mergeLo
def m5:Array Keyed->Array Keyed->StateT SortSt Sem (Array Keyed):=sortPriv% PySem.Builtin.mergeHi
def gS (κ:KeyKind) (kd:SortKind) (prog:Program) (w:World) (A:Around) (s:Shared):Prop :=
 ∀(E:C0) (x y:Value) (a b:κ.α) (Q:Bool->Shared->Prop),κ.keyOf x=some a->κ.keyOf y=some b->Q (κ.blt a b) s->wpAny (model prog w) A (keyLt' kd x y) Q E s
def kv (κ:KeyKind) (p:Keyed):κ.α:=(κ.keyOf p.1).getD κ.dflt
def Hk (κ:KeyKind) (p:Keyed):Prop:=∃a,κ.keyOf p.1=some a
variable {prog:Program} {w:World} {A:Around} {E:C0} {s:Shared} {κ:KeyKind} {kd:SortKind}
section
theorem aL {U α:Type} {M:Model} {Q:α->U->Prop} {st:U} {c:Prop} [Decidable c] {t e:StateT U Sem α} (h:c) (q:wpS M A E s t Q st):wpS M A E s (if c then t else e) Q st:=by rw[QB h];exact q
theorem aK {U α:Type} {M:Model} {Q:α->U->Prop} {st:U} {c:Prop} [Decidable c] {t e:StateT U Sem α} (h:¬c) (q:wpS M A E s e Q st):wpS M A E s (if c then t else e) Q st:=by rw[QC h];exact q
variable {i j base n hint:Nat}
theorem bT (h:i=j):(i==j)=true:=by simp[h]
theorem bF (h:¬i=j):¬(i==j)=true:=by simpa using h
variable {Q:Option Bool->SortSt->Prop} {x y p key:Keyed}
theorem iA (hL:gS κ kd prog w A s) {st:SortSt} (hk:kindOf st=kd) (hx:Hk κ x) (hy:Hk κ y) (h:Q (some (κ.blt (kv κ x) (kv κ y))) st):wpS (model prog w) A E s (lt' x y) Q st:=by
 obtain⟨a,ha⟩:=hx;obtain⟨b,hb⟩:=hy;rw[lt'_eq];refine Qo (wpS_get ?_);rw[hk];refine Qo (wpS_lift (wpAny_attempt (hL _ _ _ _ _ _ ha hb ⟨rfl,?_⟩)));unfold kv at h;rw[ha,hb]at h;exact Qt h
variable {arr:Array Keyed}
theorem aX {st:SortSt} {Q:Keyed->SortSt->Prop} (h:arr[i]?=some p) (q:Q p st):wpS (model prog w) A E s (elem' arr i) Q st:=by
 rw[elem'_eq,h];exact Qt q
def bey (κ:KeyKind) (left:Bool) (key p:Keyed):Bool:=if left then κ.blt (kv κ p) (kv κ key) else !κ.blt (kv κ key) (kv κ p)
theorem dh (hL:gS κ kd prog w A s) {st:SortSt} {left:Bool} {b:Bool} (hk:kindOf st=kd) (hkey:Hk κ key)
  (hP:∃p,arr[j]?=some p/\Hk κ p/\bey κ left key p=b) (h:Q (some b) st) :
  wpS (model prog w) A E s (elem' arr j >>= λx=>if left=true then lt' x key else lt' key x >>= λr=>pure (Option.map (λz=>!z) r)) Q st:=by
 obtain⟨p,hp,hkp,rfl⟩:=hP;refine Qo (aX hp ?_);unfold bey at h
 cases left with
 | true=>exact iA hL hk hkp hkey h
 | false=>exact Qo (iA hL hk hkey hkp (Qt h))
theorem nG (hL:gS κ kd prog w A s) {st:SortSt} {left:Bool} {Q:Option Nat->SortSt->Prop} (P:Nat->Bool) (hk:kindOf st=kd) (hkey:Hk κ key)
  (hP:∀i,i<n->∃p,arr[base+i]?=some p/\Hk κ p/\bey κ left key p=P i) (mono:∀i j,i<=j->j<n->P j=true->P i=true) (hh:hint<n)
  (h:∀k,k<=n->(∀i,i<k->P i=true)->(∀i,k<=i->i<n->P i=false)->Q (some k) st):wpS (model prog w) A E s (lJ left key arr base n hint) Q st:=by
 have monoF:∀i j,i<=j->j<n->P i=false->P j=false:=λi j h1 h2 h3=>by
  cases e:P j with
  | false=>rfl
  | true=>rw[mono i j h1 h2 e]at h3;cases h3
 unfold lJ;refine Qo (dh hL hk hkey (hP hint hh) ?_)
 have fin:∀(lo hi:Nat) (F:(Option (Option Nat) × Nat × Nat)->StateT SortSt Sem (Option Nat)) (body:Nat->(Option (Option Nat) × Nat × Nat)->StateT SortSt Sem (ForInStep (Option (Option Nat) × Nat × Nat))),lo<=hi->hi<=n->(∀i,i<lo->P i=true)->(∀i,hi<=i->i<n->P i=false) ->
   (∀l k,F (none,l,k)=pure (some k))->(∀x l k (R:ForInStep (Option (Option Nat) × Nat × Nat)->SortSt->Prop),l<=k->k<=n->(l=k->R (.done (none,l,k)) st)->(l<k->P (l+(k-l) / 2)=true->R (.yield (none,l+(k-l) / 2+1,k)) st)->(l<k->P (l+(k-l) / 2)=false->R (.yield (none,l,l+(k-l) / 2)) st)->wpS (model prog w) A E s (body x (none,l,k)) R st) ->
   wpS (model prog w) A E s (forIn [0:n] (none,lo,hi) body >>= F) Q st:=λlo hi F body h1 h2 h3 h4 hF hb=>by
  refine Qo (wpS_mono (Xi (I:=λx c st'=>st'=st/\∃l k,c=(none,l,k)/\l<=k/\k<=n/\k-l<=n-x/\(∀i,i<l->P i=true)/\(∀i,k<=i->i<n->P i=false))
   (Q:=λc st'=>st'=st/\∃k,c=(none,k,k)/\k<=n/\(∀i,i<k->P i=true)/\(∀i,k<=i->i<n->P i=false)) ?_ ?_ ⟨rfl,lo,hi,rfl,h1,h2,by exact Cb h1 h2,h3,h4⟩) ?_)
  ·rintro x c st' _ hx ⟨rfl,l,k,rfl,a1,a2,a3,a4,a5⟩;refine hb x l k _ a1 a2 (λe=>?_) (λe p=>?_) (λe p=>?_)
   ·subst e;exact⟨rfl,l,rfl,a2,a4,a5⟩
   ·exact⟨rfl,_,k,rfl,by exact Ca e,a2,yd a3,λi hi=>mono i _ (by exact B_ hi) (by exact B9 a2 e) p,a5⟩
   exact⟨rfl,l,_,rfl,by exact B8,by exact B7 a2 e,yc a3 e,a4,λi h1 h2=>monoF _ i h1 h2 p⟩
  ·rintro c st' ⟨rfl,l,k,rfl,a1,a2,a3,a4,a5⟩;have:l=k:=by exact yD a1 a3
   subst this;exact⟨rfl,l,rfl,a2,a4,a5⟩
  rintro c st' ⟨rfl,k,rfl,a2,a4,a5⟩;rw[hF];exact Qt (h k a2 a4 a5)
 dsimp only
 cases hp:P hint with
 | true =>
  refine aL rfl ?_
  refine Qo (wpS_mono (Xi (I:=λx c st'=>st'=st/\∃l o,c=(none,l,o)/\l<o/\x+1<=o/\hint+l<n/\P (hint+l)=true)
   (Q:=λc st'=>st'=st/\∃l o,c=(none,l,o)/\l<o/\hint+l<n/\P (hint+l)=true/\(o<n-hint->P (hint+o)=false)) ?_ ?_ ⟨rfl,0,1,rfl,by omega,by omega,by exact B6 hh,hp⟩) ?_)
  ·rintro x c st' _ hx ⟨rfl,l,o,rfl,a1,a2,a3,a4⟩;dsimp only;by_cases c1:o>=n-hint
   ·refine aL c1 ?_;exact Qt ⟨rfl,l,o,rfl,a1,a3,a4,λz=>by omega⟩
   refine aK c1 ?_;refine Qo (dh hL hk hkey (hP (hint+o) (by exact yA hh c1)) ?_);dsimp only
   cases e:P (hint+o) with
   | true =>
    refine aK Qj ?_;exact Qt ⟨rfl,o,2*o+1,rfl,by exact yw,by omega,by exact yA hh c1,e⟩
   | false =>
   refine aL rfl ?_;exact Qt ⟨rfl,l,o,rfl,a1,a3,a4,λ_=>e⟩
  ·rintro c st' ⟨rfl,l,o,rfl,a1,a2,a3,a4⟩;exact⟨rfl,l,o,rfl,a1,a3,a4,λz=>by omega⟩
  rintro c st' ⟨rfl,l,o,rfl,a1,a3,a4,a5⟩;dsimp only;refine fin _ _ _ _ (by exact B5 hh a1 a3) (by exact B4 hh) (λi hi=>mono i (hint+l) (by exact B3 hi) a3 a4) (λi h1 h2=>?_) (λl k=>rfl) ?_
  ·by_cases z:o<n-hint
   ·exact monoF (hint+o) i (by exact B0 hh h1 z) h2 (a5 z)
   omega
  intro x l k R h1 h2 q1 q2 q3;dsimp only;by_cases c:l>=k
  ·refine aL c ?_;exact Qt (q1 (by exact wW h1 c))
  refine aK c ?_;refine Qo (dh hL hk hkey (hP _ (by exact yu h2 c)) ?_);dsimp only
  cases e:P (l+(k-l) / 2) with
  | true=>refine aL rfl ?_;exact Qt (q2 (by exact uM c) e)
  | false=>refine aK Qj ?_;exact Qt (q3 (by exact uM c) e)
 | false =>
 refine aK Qj ?_
 refine Qo (wpS_mono (Xi (I:=λx c st'=>st'=st/\∃l o,c=(none,l,o)/\l<o/\x+1<=o/\l<=hint/\P (hint-l)=false)
  (Q:=λc st'=>st'=st/\∃l o,c=(none,l,o)/\l<o/\l<=hint/\P (hint-l)=false/\(o<hint+1->P (hint-o)=true)) ?_ ?_ ⟨rfl,0,1,rfl,by omega,by omega,by exact wV,hp⟩) ?_)
 ·rintro x c st' _ hx ⟨rfl,l,o,rfl,a1,a2,a3,a4⟩;dsimp only;by_cases c1:o>=hint+1
  ·refine aL c1 ?_;exact Qt ⟨rfl,l,o,rfl,a1,a3,a4,λz=>by omega⟩
  refine aK c1 ?_;refine Qo (dh hL hk hkey (hP (hint-o) (by exact BZ hh a1 c1)) ?_);dsimp only
  cases e:P (hint-o) with
  | true =>
   refine aL rfl ?_;exact Qt ⟨rfl,l,o,rfl,a1,a3,a4,λ_=>e⟩
  | false =>
  refine aK Qj ?_;exact Qt ⟨rfl,o,2*o+1,rfl,by exact yw,by omega,by exact BY c1,e⟩
 ·rintro c st' ⟨rfl,l,o,rfl,a1,a2,a3,a4⟩;exact⟨rfl,l,o,rfl,a1,a3,a4,λz=>by omega⟩
 rintro c st' ⟨rfl,l,o,rfl,a1,a3,a4,a5⟩;dsimp only;refine fin _ _ _ _ (by exact BX a1 a3) (by exact BW hh a3) (λi hi=>?_) (λi h1 h2=>monoF (hint-l) i h1 h2 a4) (λl k=>rfl) ?_
 ·by_cases z:o<hint+1
  ·exact mono i (hint-o) (by exact BV hi z) (by exact BU hh a1 z) (a5 z)
  omega
 intro x l k R h1 h2 q1 q2 q3;dsimp only;by_cases c:l>=k
 ·refine aL c ?_;exact Qt (q1 (by exact wW h1 c))
 refine aK c ?_;refine Qo (dh hL hk hkey (hP _ (by exact yu h2 c)) ?_);dsimp only
 cases e:P (l+(k-l) / 2) with
 | true=>refine aL rfl ?_;exact Qt (q2 (by exact uM c) e)
 | false=>refine aK Qj ?_;exact Qt (q3 (by exact uM c) e)
end
section
variable {κ:KeyKind}
def le (κ:KeyKind) (p q:Keyed):Prop:=κ.kle (kv κ p) (kv κ q)
structure MI (κ:KeyKind) (L o x y:List Keyed):Prop where
 perm:(o++(x++y)).Perm L
 so:o.Pairwise (le κ)
 sx:x.Pairwise (le κ)
 sy:y.Pairwise (le κ)
 ox:∀p∈o,∀q∈x,le κ p q
 oy:∀p∈o,∀q∈y,le κ p q
 last:∀q∈y,∀l,x.getLast?=some l->le κ q l
variable {L o x2 y x y2:List Keyed}
theorem MI.takeXs {x1:List Keyed} (h:MI κ L o (x1++x2) y) (hq:∀p∈x1,∀q∈y,le κ p q):MI κ L (o++x1) x2 y:=by
 have sx:=Q3.mp h.sx;refine⟨?_,Q3.mpr ⟨h.so,sx.1,λp hp q hq=>h.ox p hp q (Qy.mpr (.inl hq))⟩,sx.2.1,h.sy,λp hp q hq'=>?_,λp hp q hq'=>?_,λq hq' l hl=>?_⟩
 ·have:=h.perm;rwa [Q2,<-Q2 o]at this
 ·rcases Qy.mp hp with a|a
  ·exact h.ox p a q (Qy.mpr (.inr hq'))
  exact sx.2.2 p a q hq'
 ·rcases Qy.mp hp with a|a
  ·exact h.oy p a q hq'
  exact hq p a q hq'
 refine h.last q hq' l ?_;rw[List.getLast?_append,hl];rfl
theorem MI.takeYs {y1:List Keyed} (h:MI κ L o x (y1++y2)) (hq:∀q∈y1,∀p∈x,le κ q p):MI κ L (o++y1) x y2:=by
 have sy:=Q3.mp h.sy;refine⟨?_,Q3.mpr ⟨h.so,sy.1,λp hp q hq=>h.oy p hp q (Qy.mpr (.inl hq))⟩,h.sx,sy.2.1,λp hp q hq'=>?_,λp hp q hq'=>?_,λq hq' l hl=>?_⟩
 ·refine List.Perm.trans ?_ h.perm;rw[Q2];refine List.Perm.append_left _ ?_;rw[<-Q2,<-Q2];exact List.Perm.append_right _ List.perm_append_comm
 ·rcases Qy.mp hp with a|a
  ·exact h.ox p a q hq'
  exact hq p a q hq'
 ·rcases Qy.mp hp with a|a
  ·exact h.oy p a q (Qy.mpr (.inr hq'))
  exact sy.2.2 p a q hq'
 exact h.last q (Qy.mpr (.inr hq')) l hl
variable {p q r l:Keyed}
theorem le_trans (a:le κ p q) (b:le κ q r):le κ p r:=KeyOrd.kle_trans a b
theorem fk (s:(p::x).Pairwise (le κ)) (h:le κ q p) (hr:r∈p::x):le κ q r:=by
 rcases QQ.mp hr with e|e
 ·rw[e];exact h
 exact le_trans h ((List.pairwise_cons.mp s).1 r e)
theorem MI.takeY (h:MI κ L o (p::x) (q::y)) (c:le κ q p):MI κ L (o++[q]) (p::x) y :=
 MI.takeYs (y1:=[q]) h λr hr s hs=>by
  have e:r=q:=by simpa using hr
  subst e;exact fk h.sx c hs
theorem MI.takeX (h:MI κ L o (p::x) (q::y)) (c:le κ p q):MI κ L (o++[p]) x (q::y) :=
 MI.takeXs (x1:=[p]) h λr hr s hs=>by
  have e:r=p:=by simpa using hr
  subst e;exact fk h.sy c hs
def Srt (κ:KeyKind) (L r:List Keyed):Prop:=r.Perm L/\r.Pairwise (le κ)
theorem MI.endY (h:MI κ L o x []):Srt κ L (o++x):=⟨by simpa using h.perm,Q3.mpr ⟨h.so,h.sx,h.ox⟩⟩
theorem MI.endX (h:MI κ L o [] y):Srt κ L (o++y):=⟨by simpa using h.perm,Q3.mpr ⟨h.so,h.sy,h.oy⟩⟩
theorem MI.lastX (h:MI κ L o [l] y):Srt κ L (o++y++[l]):=by
 refine⟨List.Perm.trans ?_ h.perm,Q3.mpr ⟨Q3.mpr ⟨h.so,h.sy,h.oy⟩,by simp,λp hp q hq=>?_⟩⟩
 ·rw[Q2];exact List.Perm.append_left _ List.perm_append_comm
 have e:q=l:=by simpa using hq
 subst e;rcases Qy.mp hp with a|a
 ·exact h.ox p a q (by simp)
 exact h.last p a q rfl
end
section
structure Gs (st st':SortSt):Prop where
 kind:kindOf st'=kindOf st
 arr:arrOf st'=arrOf st
 pend:pendingOf st'=pendingOf st
 fail:failedOf st'=failedOf st
theorem Gs.refl (st:SortSt):Gs st st:=⟨rfl,rfl,rfl,rfl⟩
theorem Gs.trans {a b c:SortSt} (x:Gs a b) (y:Gs b c):Gs a c:=⟨y.kind.trans x.kind,y.arr.trans x.arr,y.pend.trans x.pend,y.fail.trans x.fail⟩
def pb:Nat->StateT SortSt Sem Unit:=sortPriv% PySem.Builtin.setMinGallop
variable {g ia ib n m i j:Nat}
theorem d7 {st:SortSt} {Q:Unit->SortSt->Prop} (h:∀st',Gs st st'->Q () st'):wpS (model prog w) A E s (pb g) Q st:=by
 unfold pb;exact wpS_modify (h _ ⟨rfl,rfl,rfl,rfl⟩)
theorem gL (a:Array Keyed) (i:Nat):(a.extract i a.size).toList=a.toList.drop i:=by
 have:(a.toList.drop i).length<=a.size-i:=by simp
 simpa using Qr this
theorem iu (a:Array Keyed) (i k:Nat):(a.extract i (i+k)).toList=(a.toList.drop i).take k:=by
 simp
theorem aW {a:Array Keyed} {i:Nat} (h:i<a.size):∃p,a[i]?=some p/\a.toList.drop i=p::a.toList.drop (i+1)/\p∈a.toList :=
 ⟨a[i],Xp h,by rw[Xg (by simpa using h)];simp,by simp⟩
structure LJ (κ:KeyKind) (a b:Array Keyed) (n:Nat) (out:Array Keyed) (ia ib:Nat):Prop where
 mi:MI κ (a.toList++b.toList) out.toList (a.toList.drop ia) (b.toList.drop ib)
 la:ia<=a.size
 lb:ib<=b.size
 lo:out.size=ia+ib
 n:n<=out.size
variable {a b:Array Keyed}
theorem LJ.less {out:Array Keyed} (h:LJ κ a b n out ia ib) (hm:m<=n):LJ κ a b m out ia ib:=⟨h.mi,h.la,h.lb,h.lo,QM hm h.n⟩
theorem LJ.doneB {out:Array Keyed} (h:LJ κ a b n out ia ib) (e:ib=b.size):Srt κ (a.toList++b.toList) (out++a.extract ia a.size++b.extract ib b.size).toList:=by
 have m:=h.mi;have d:b.toList.drop ib=[]:=by rw[e];simp
 rw[d]at m;rw[QI,QI,gL,gL,d,Xn];exact m.endY
theorem LJ.doneA {out:Array Keyed} (h:LJ κ a b n out ia ib) (e:ia=a.size):Srt κ (a.toList++b.toList) (out++a.extract ia a.size++b.extract ib b.size).toList:=by
 have m:=h.mi;have d:a.toList.drop ia=[]:=by rw[e];simp
 rw[d]at m;rw[QI,QI,gL,gL,d,Xn];exact m.endX
theorem LJ.lastA {out:Array Keyed} (h:LJ κ a b n out ia ib) (e:ia+1=a.size):Srt κ (a.toList++b.toList) (out++b.extract ib b.size++a.extract ia a.size).toList:=by
 have m:=h.mi;obtain⟨p,_,d,_⟩:=aW (a:=a) (i:=ia) (by exact BT e);have d2:a.toList.drop (ia+1)=[]:=by rw[e];simp
 rw[d2]at d;rw[d]at m;rw[QI,QI,gL,gL,d];exact m.lastX
variable {p q key:Keyed}
theorem LJ.pushB {out:Array Keyed} (h:LJ κ a b n out ia ib) (ha:a[ia]?=some p) (hb:b[ib]?=some q) (c:le κ q p):LJ κ a b (n+1) (out.push q) ia (ib+1):=by
 have lb:=(QZ.mp hb).1;have la:=(QZ.mp ha).1;obtain⟨p',e1,d1,_⟩:=aW la;obtain⟨q',e2,d2,_⟩:=aW lb;rw[ha]at e1;rw[hb]at e2;cases e1;cases e2;have m:=h.mi;rw[d1,d2]at m;have m:=m.takeY c;rw[<-d1]at m;refine⟨by rw[Array.toList_push];exact m,h.la,lb,by rw[Array.size_push,h.lo];exact BS,by rw[Array.size_push];have:=h.n;exact qm this⟩
theorem LJ.pushA {out:Array Keyed} (h:LJ κ a b n out ia ib) (ha:a[ia]?=some p) (hb:b[ib]?=some q) (c:le κ p q):LJ κ a b (n+1) (out.push p) (ia+1) ib:=by
 have lb:=(QZ.mp hb).1;have la:=(QZ.mp ha).1;obtain⟨p',e1,d1,_⟩:=aW la;obtain⟨q',e2,d2,_⟩:=aW lb;rw[ha]at e1;rw[hb]at e2;cases e1;cases e2;have m:=h.mi;rw[d1,d2]at m;have m:=m.takeX c;rw[<-d2]at m;refine⟨by rw[Array.toList_push];exact m,la,h.lb,by rw[Array.size_push,h.lo];exact BR,by rw[Array.size_push];have:=h.n;exact qm this⟩
theorem LJ.runA {out:Array Keyed} {k:Nat} (h:LJ κ a b n out ia ib) (hb:b[ib]?=some q) (hk:ia+k<=a.size) (c:∀i,i<k->∀p,a[ia+i]?=some p->le κ p q):LJ κ a b n (out++a.extract ia (ia+k)) (ia+k) ib:=by
 have lb:=(QZ.mp hb).1;obtain⟨q',e2,d2,_⟩:=aW lb;rw[hb]at e2;cases e2;have m:=h.mi;have sy:=m.sy;rw[<-QU k (a.toList.drop ia)]at m
 have m:=m.takeXs λp hp r hr=>by
  obtain⟨i,hi,e⟩:=Ql.mp hp;rw[Qq]at hi;have e3:=Qb (l:=(a.toList.drop ia).take k) (i:=i) (by rw[Qq];exact yt hi);rw[e,List.getElem?_take,QB (by exact uL hi),List.getElem?_drop,QA]at e3;rw[d2]at hr sy;exact fk sy (c i (by exact uL hi) p e3) hr
 rw[List.drop_drop]at m;have sz:(a.extract ia (ia+k)).size=k:=by rw[Array.size_extract];exact yr hk
 refine⟨by rw[QI,iu];exact m,hk,h.lb,by rw[Xl,sz,h.lo];exact BQ,by rw[Xl];have:=h.n;exact yq sz this⟩
theorem LJ.runB {out:Array Keyed} {k:Nat} (h:LJ κ a b n out ia ib) (ha:a[ia]?=some p) (hk:ib+k<=b.size) (c:∀i,i<k->∀q,b[ib+i]?=some q->le κ q p):LJ κ a b n (out++b.extract ib (ib+k)) ia (ib+k):=by
 have la:=(QZ.mp ha).1;obtain⟨p',e2,d2,_⟩:=aW la;rw[ha]at e2;cases e2;have m:=h.mi;have sx:=m.sx;rw[<-QU k (b.toList.drop ib)]at m
 have m:=m.takeYs λq hq r hr=>by
  obtain⟨i,hi,e⟩:=Ql.mp hq;rw[Qq]at hi;have e3:=Qb (l:=(b.toList.drop ib).take k) (i:=i) (by rw[Qq];exact yt hi);rw[e,List.getElem?_take,QB (by exact uL hi),List.getElem?_drop,QA]at e3;rw[d2]at hr sx;exact fk sx (c i (by exact uL hi) q e3) hr
 rw[List.drop_drop]at m;have sz:(b.extract ib (ib+k)).size=k:=by rw[Array.size_extract];exact yr hk
 refine⟨by rw[QI,iu];exact m,h.la,hk,by rw[Xl,sz,h.lo];exact BP,by rw[Xl];have:=h.n;exact yq sz this⟩
theorem pG (s:a.toList.Pairwise (le κ)) (h:i<=j) (hi:a[i]?=some p) (hj:a[j]?=some q):le κ p q:=by
 by_cases e:i=j
 ·subst e;rw[hi]at hj;cases hj;exact Xu _
 have li:=(QZ.mp hi).1;have lj:=(QZ.mp hj).1;have:=(List.pairwise_iff_getElem.mp s) i j (by simpa using li) (by simpa using lj) (by exact yp h e);rw[Xp li]at hi;rw[Xp lj]at hj;cases hi;cases hj;simpa using this
theorem e9 (hL:gS κ kd prog w A s) {st:SortSt} {left:Bool} {a:Array Keyed} {base n hint:Nat} {Q:Option Nat->SortSt->Prop} (hk:kindOf st=kd) (hkey:Hk κ key) (ha:∀p∈a.toList,Hk κ p) (hn:base+n<=a.size)
  (sa:∀i j p q,base<=i->i<=j->j<base+n->a[i]?=some p->a[j]?=some q->le κ p q) (hh:hint<n)
  (h:∀k,k<=n->(∀i,i<k->∀p,a[base+i]?=some p->bey κ left key p=true)->(∀i,k<=i->i<n->∀p,a[base+i]?=some p->bey κ left key p=false)->Q (some k) st):wpS (model prog w) A E s (lJ left key a base n hint) Q st:=by
 refine nG hL (λi=>match a[base+i]? with|some p=>bey κ left key p|none=>false) hk hkey (λi hi=>?_) (λi j h1 h2 h3=>?_) hh (λk h1 h2 h3=>h k h1 (λi hi p e=>?_) (λi hi hj p e=>?_))
 ·have:base+i<a.size:=by exact yo hn hi
  obtain⟨p,e,_,m⟩:=aW this;exact⟨p,e,ha p m,by rw[e]⟩
 ·obtain⟨p,e,_⟩:=aW (a:=a) (i:=base+i) (by exact BO hn h1 h2);obtain⟨q,e2,_⟩:=aW (a:=a) (i:=base+j) (by exact yo hn h2);have l:=sa _ _ p q (by exact sw) (show base+i<=base+j by exact BN h1) (by exact BL h2) e e2;rw[e2]at h3;rw[e];dsimp only at h3 ⊢;unfold bey at h3 ⊢
  cases left with
  | true =>
   rw[QB rfl]at h3 ⊢;exact KeyOrd.klt_of_kle_of_klt l h3
  | false =>
  rw[QC (by simp)]at h3 ⊢;have h3:κ.kle (kv κ q) (kv κ key):=by simpa[KeyOrd.kle] using h3
  have:=KeyOrd.kle_trans l h3;simpa[KeyOrd.kle] using this
 ·have:=h2 i hi;rwa [e]at this
 have:=h3 i hi hj;rwa [e]at this
theorem lQ (h:bey κ false key p=true):le κ p key:=by
 unfold bey at h;rw[QC (by simp)]at h;simpa[le,KeyOrd.kle] using h
theorem lP (h:bey κ true key p=true):le κ p key:=by
 unfold bey at h;rw[QB rfl]at h;exact KeyOrd.kle_of_klt h
theorem lR (h:bey κ false key p=false):le κ key p:=by
 unfold bey at h;rw[QC (by simp)]at h;exact KeyOrd.kle_of_klt (show κ.blt (kv κ key) (kv κ p)=true by simpa using h)
theorem lS (h:bey κ true key p=false):le κ key p:=by
 unfold bey at h;rw[QB rfl]at h;exact h
end
section
theorem gr {U α β:Type} {M:Model} {Q:α->U->Prop} {st:U} {m:StateT U Sem α} (f:β->StateT U Sem α) (I:β->Prop) (J:∀z,I z->wpS M A E s (f z) Q st) (h:(∀z,I z->wpS M A E s (f z) Q st)->wpS M A E s m Q st):wpS M A E s m Q st:=h J
@[reducible] def Cn (κ:KeyKind) (a b:Array Keyed) (st:SortSt) (x:Nat) (c:Option (Array Keyed) × Array Keyed × Nat × Nat × Nat) (st':SortSt):Prop:=Gs st st'/\∃out ia ib mg,c=(none,out,ia,ib,mg)/\LJ κ a b (x+1) out ia ib/\ia+1<a.size/\ib<b.size
@[reducible] def Cm (κ:KeyKind) (a b:Array Keyed) (st:SortSt)  (c:Option (Array Keyed) × Array Keyed × Nat × Nat × Nat) (st':SortSt):Prop:=Gs st st'/\∃r rest,c=(some r,rest)/\Srt κ (a.toList++b.toList) r.toList
@[reducible] def Cl (κ:KeyKind) (a b:Array Keyed) (st:SortSt) (x x':Nat) (c:Option (Array Keyed) × Array Keyed × Nat × Nat × Nat × Nat) (st':SortSt):Prop:=st'=st/\∃out ia ib ac bc,c=(none,out,ia,ib,ac,bc)/\LJ κ a b (x+1+x') out ia ib/\ia+1<a.size/\ib<b.size
@[reducible] def Ck (κ:KeyKind) (a b:Array Keyed) (st:SortSt) (x:Nat) (c:Option (Array Keyed) × Array Keyed × Nat × Nat × Nat × Nat) (st':SortSt):Prop:=st'=st/\((∃r rest,c=(some r,rest)/\Srt κ (a.toList++b.toList) r.toList)\/∃out ia ib ac bc,c=(none,out,ia,ib,ac,bc)/\LJ κ a b (x+1) out ia ib/\ia+1<a.size/\ib<b.size)
@[reducible] def Cj (κ:KeyKind) (a b:Array Keyed) (st:SortSt) (x x':Nat) (c:Option (Array Keyed) × Array Keyed × Nat × Nat × Nat × Nat × Nat) (st':SortSt):Prop:=Gs st st'/\∃out ia ib mg ac bc,c=(none,out,ia,ib,mg,ac,bc)/\LJ κ a b (x+1+x') out ia ib/\ia+1<a.size/\ib<b.size
@[reducible] def Ci (κ:KeyKind) (a b:Array Keyed) (st:SortSt) (x:Nat) (c:Option (Array Keyed) × Array Keyed × Nat × Nat × Nat × Nat × Nat) (st':SortSt):Prop:=Gs st st'/\((∃r rest,c=(some r,rest)/\Srt κ (a.toList++b.toList) r.toList)\/∃out ia ib mg ac bc,c=(none,out,ia,ib,mg,ac,bc)/\LJ κ a b (x+2) out ia ib/\ia+1<a.size/\ib<b.size)
theorem l6 (hL:gS κ kd prog w A s) {st:SortSt} {a b:Array Keyed} {Q:Array Keyed->SortSt->Prop} (hk:kindOf st=kd) (ha:∀p∈a.toList,Hk κ p) (hb:∀p∈b.toList,Hk κ p)
  (na:1<=a.size) (nb:1<=b.size) (mi:MI κ (a.toList++b.toList) [] a.toList b.toList) (first:∀p∈a.toList,∀q,b[0]?=some q->le κ q p)
  (h:∀r st',Gs st st'->Srt κ (a.toList++b.toList) r.toList->Q r st'):wpS (model prog w) A E s (m4 a b) Q st:=by
 have sa:=mi.sx;have sb:=mi.sy;unfold m4;refine Qo (wpS_lift (wpAny_rule ⟨rfl,?_⟩));obtain⟨q0,hq0,_⟩:=aW (a:=b) (i:=0) (by exact sv nb);obtain⟨p0,hp0,_,mp0⟩:=aW (a:=a) (i:=0) (by exact sv na);have j0:LJ κ a b 0 #[] 0 0:=⟨by simpa using mi,by exact yn na,by exact yn nb,rfl,QO _⟩;have j1:=j0.pushB hp0 hq0 (first p0 mp0 q0 hq0);have j1:LJ κ a b 1 #[q0] 0 1:=j1;refine Qo (aX hq0 ?_);refine wpS_mono (Q:=λr st'=>Gs st st'/\Srt κ (a.toList++b.toList) r.toList) ?_ (λr st' z=>h r st' z.1 z.2);clear h
 extract_lets out0
 by_cases c1:1=b.size
 ·refine aL (bT c1) ?_;exact Qt ⟨.refl _,j1.doneB c1⟩
 refine aK (bF c1) ?_;by_cases c2:0+1=a.size
 ·refine aL (bT c2) ?_;exact Qt ⟨.refl _,j1.lastA c2⟩
 refine aK (bF c2) ?_;refine Qo (wpS_get ?_)
 extract_lets mg0
 refine Qo (wpS_mono (Xi (I:=Cn κ a b st)
  (Q:=Cm κ a b st) ?step ?fin ⟨.refl _,out0,0,1,mg0,rfl,j1,by exact BK na c2,by exact BJ na nb c1 c2⟩) ?post)
 case post =>
  rintro c st' ⟨g,r,rest,rfl,hr⟩;exact Qt ⟨g,hr⟩
 case fin =>
  rintro c st' ⟨g,out,ia,ib,mg,rfl,j,l1,l2⟩;have:=j.n;have:=j.lo;omega
 case step =>
  rintro x c st1 _ hx ⟨g,out,ia,ib,mg,rfl,j,l1,l2⟩
  refine Qo (wpS_mono (Xi (I:=Cl κ a b st1 x)
   (Q:=Ck κ a b st1 x) ?step1 ?fin1 ⟨rfl,out,ia,ib,0,0,rfl,j,l1,l2⟩) ?post1)
  case fin1 =>
   rintro c st' ⟨rfl,out,ia,ib,ac,bc,rfl,j,l1,l2⟩;have:=j.n;have:=j.lo;omega
  case step1 =>
   clear j l1 l2;rintro x' c st' _ hx' ⟨rfl,out,ia,ib,ac,bc,rfl,j,l1,l2⟩;obtain⟨p,hp,_,mp⟩:=aW (a:=a) (i:=ia) (by exact wU l1);obtain⟨q,hq,_,mq⟩:=aW (a:=b) (i:=ib) l2;refine Qo (aX hq (Qo (aX hp (Qo (iA hL (by rw[g.kind];exact hk) (hb q mq) (ha p mp) ?_)))));dsimp only
   cases e:κ.blt (kv κ q) (kv κ p) with
   | true =>
    refine aL rfl ?_;refine Qo (aX hq ?_);have j2:=j.pushB hp hq (KeyOrd.kle_of_klt e);by_cases d1:ib+1=b.size
    ·refine aL (bT d1) ?_;exact Qt ⟨rfl,.inl ⟨_,_,rfl,j2.doneB d1⟩⟩
    refine aK (bF d1) ?_;by_cases d2:bc+1>=mg
    ·refine aL d2 ?_;exact Qt ⟨rfl,.inr ⟨_,_,_,_,_,rfl,j2.less (by omega),l1,by exact wT l2 d1⟩⟩
    refine aK d2 ?_;exact Qt ⟨rfl,_,_,_,_,_,rfl,j2.less (by exact uK),l1,by exact wT l2 d1⟩
   | false =>
   refine aK Qj ?_;refine Qo (aX hp ?_);have j2:=j.pushA hp hq e;by_cases d1:ia+1+1=a.size
   ·refine aL (bT d1) ?_;exact Qt ⟨rfl,.inl ⟨_,_,rfl,j2.lastA d1⟩⟩
   refine aK (bF d1) ?_;by_cases d2:ac+1>=mg
   ·refine aL d2 ?_;exact Qt ⟨rfl,.inr ⟨_,_,_,_,_,rfl,j2.less (by omega),by exact ym l1 d1,l2⟩⟩
   refine aK d2 ?_;exact Qt ⟨rfl,_,_,_,_,_,rfl,j2.less (by exact uK),by exact ym l1 d1,l2⟩
  case post1 =>
   clear j l1 l2;rintro c st' ⟨rfl,⟨r,rest,rfl,hr⟩|⟨out,ia,ib,ac,bc,rfl,j,l1,l2⟩⟩
   ·exact Qt ⟨g,r,_,rfl,hr⟩
   refine Qo (wpS_lift (wpAny_rule ⟨rfl,?_⟩))
   refine Qo (wpS_mono (Xi (I:=Cj κ a b st x)
    (Q:=Ci κ a b st x) ?step2 ?fin2 ⟨g,out,ia,ib,_,ac,bc,rfl,j,l1,l2⟩) ?post2)
   case fin2 =>
    rintro c st' ⟨g,out,ia,ib,mg,ac,bc,rfl,j,l1,l2⟩;have:=j.n;have:=j.lo;omega
   case post2 =>
    rintro c st' ⟨g,⟨r,rest,rfl,hr⟩|⟨out,ia,ib,mg,ac,bc,rfl,j,l1,l2⟩⟩
    ·exact Qt ⟨g,r,_,rfl,hr⟩
    refine Qo (d7 λst2 g2=>?_);exact Qt ⟨g.trans g2,_,_,_,_,rfl,j,l1,l2⟩
   case step2 =>
    clear j l1 l2 g;rintro x' c st2 _ hx' ⟨g,out,ia,ib,mg,ac,bc,rfl,j,l1,l2⟩;obtain⟨p,hp,_,mp⟩:=aW (a:=a) (i:=ia) (by exact wU l1);obtain⟨q,hq,_,mq⟩:=aW (a:=b) (i:=ib) l2
    extract_lets s1 o1 s2 x1 s3 y1 s4 m1 s5 ac1 bc1 ib2 jp mgm
    refine gr (λm=>jp () m) (λ_=>True) (λm _=>?_) (λJ=>?_)
    ·refine Qo (d7 λst3 g3=>?_);have g4:=g.trans g3;have hk3:kindOf st3=kd:=by rw[g4.kind];exact hk
     refine Qo (aX hq ?_);refine Qo (e9 (a:=a) (base:=ia) (n:=a.size-ia) hL hk3 (hb q mq) ha (by exact BI l1) (λi j p q _ h _ e1 e2=>pG sa h e1 e2) (by exact BH l1) λk k1 k2 k3=>?_);dsimp -zeta only
     extract_lets ac2 jp2 o2 x2
     refine gr (λz:Array Keyed × Nat=>jp2 () z.1 z.2) (λz=>LJ κ a b (x+1+x') z.1 z.2 ib/\z.2+1<a.size/\∀p,a[z.2]?=some p->le κ q p) (λz hz=>?_) (λJ2=>?_)
     ·obtain⟨o3,x3⟩:=z;obtain⟨j3,l3,f3⟩:=hz;dsimp only at j3 l3 f3;obtain⟨p3,hp3,_,mp3⟩:=aW (a:=a) (i:=x3) (by exact wU l3);refine Qo (aX hq ?_);have j4:=j3.pushB hp3 hq (f3 p3 hp3);by_cases d1:ib+1=b.size
      ·refine aL (bT d1) ?_;exact Qt ⟨g4,.inl ⟨_,_,rfl,j4.doneB d1⟩⟩
      refine aK (bF d1) ?_;refine Qo (aX hp3 ?_);refine Qo (e9 (a:=b) (base:=ib+1) (n:=b.size-(ib+1)) hL hk3 (ha p3 mp3) hb (by exact BG l2) (λi j p q _ h _ e1 e2=>pG sb h e1 e2) (by exact BF l2 d1) λk' k1' k2' k3'=>?_);dsimp -zeta only
      extract_lets bc2 ia2 jp3 o4 y4
      refine gr (λz:Array Keyed × Nat=>jp3 () z.1 z.2) (λz=>LJ κ a b (x+1+x'+1) z.1 x3 z.2/\z.2<b.size/\∀q,b[z.2]?=some q->le κ p3 q) (λz hz=>?_) (λJ3=>?_)
      ·obtain⟨o5,y5⟩:=z;obtain⟨j5,l5,f5⟩:=hz;dsimp only at j5 l5 f5;obtain⟨q5,hq5,_,mq5⟩:=aW (a:=b) (i:=y5) l5;refine Qo (aX hp3 ?_);have j6:=j5.pushA hp3 hq5 (f5 q5 hq5);by_cases d2:x3+1+1=a.size
       ·refine aL (bT d2) ?_;exact Qt ⟨g4,.inl ⟨_,_,rfl,j6.lastA d2⟩⟩
       refine aK (bF d2) ?_;by_cases d3:(decide (ac2<7)&&decide (bc2<7))=true
       ·refine aL d3 ?_;exact Qt ⟨g4,.inr ⟨_,_,_,_,_,_,rfl,j6.less (by omega),by omega,l5⟩⟩
       refine aK d3 ?_;exact Qt ⟨g4,_,_,_,_,_,_,rfl,j6.less (by exact yk),by omega,l5⟩
      by_cases d2:k'>0
      ·refine aL d2 ?_;have j5:LJ κ a b (x+1+x'+1) o4 x3 y4:=j4.runB hp3 (by exact BE l2 k1') λi hi p e=>lP (k2' i hi p e);have e2:y4=ib+1+k':=rfl;by_cases d3:y4=b.size
       ·refine aL (bT d3) ?_;exact Qt ⟨g4,.inl ⟨_,_,rfl,j5.doneB d3⟩⟩
       refine aK (bF d3) ?_;exact J3 (o4,y4) ⟨j5,by dsimp only;omega,λp e=>lS (k3' k' (Qg _) (by omega) p e)⟩
      refine aK d2 ?_;have:k'=0:=by exact yj d2
      subst this;exact J3 (_,ib+1) ⟨j4,by dsimp only;exact wT l2 d1,λp e=>lS (k3' 0 (Qg _) (by exact BD l2 d1 k1') p e)⟩
     by_cases d1:k>0
     ·refine aL d1 ?_;have j3:LJ κ a b (x+1+x') o2 x2 ib:=j.runA hq (by exact BC l1 k1) λi hi p e=>lQ (k2 i hi p e);have e2:x2=ia+k:=rfl;by_cases d2:x2+1=a.size
      ·refine aL (bT d2) ?_;exact Qt ⟨g4,.inl ⟨_,_,rfl,j3.lastA d2⟩⟩
      refine aK (bF d2) ?_;by_cases d3:x2=a.size
      ·refine aL (bT d3) ?_;exact Qt ⟨g4,.inl ⟨_,_,rfl,j3.doneA d3⟩⟩
      refine aK (bF d3) ?_;exact J2 (o2,x2) ⟨j3,by dsimp only;omega,λp e=>lR (k3 k (Qg _) (by omega) p e)⟩
     refine aK d1 ?_;have:k=0:=by exact yj d1
     subst this;exact J2 (o1,x1) ⟨j,l1,λp e=>lR (k3 0 (Qg _) (by exact BB l1 k1) p e)⟩
    by_cases d:m1>1
    ·refine aL d ?_;exact J _ trivial
    refine aK d ?_;exact J _ trivial
end
noncomputable def xo (κ:KeyKind):KeyKind where
 α:=κ.α
 blt a b:=κ.blt b a
 irrefl a:=κ.irrefl a
 trans a b c h1 h2:=κ.trans c b a h2 h1
 negTrans a b c h:=(κ.negTrans c b a h).symm
 total a b h1 h2:=(κ.total a b h2 h1)
 keyOf:=κ.keyOf
 dflt:=κ.dflt
section
variable {κ:KeyKind}
theorem rW {l:List Keyed} (h:l.Pairwise (le κ)):l.reverse.Pairwise (le (xo κ)):=List.pairwise_reverse.mpr h
theorem kN {L r:List Keyed} (h:Srt (xo κ) L r):Srt κ L r.reverse:=⟨(List.reverse_perm r).trans h.1,List.pairwise_reverse.mpr h.2⟩
variable {p q:Keyed}
theorem cB {a:Array Keyed} {i:Nat} (hi:1<=i) (h:a[i-1]?=some p):(a.toList.take i).reverse=p::(a.toList.take (i-1)).reverse:=by
 obtain⟨j,rfl⟩:∃j,i=j+1:=⟨i-1,by exact BA hi⟩;rw[Nat.add_sub_cancel]at h ⊢;rw[QV,QA,h,List.reverse_append];rfl
structure HJ (κ:KeyKind) (a b:Array Keyed) (n:Nat) (out:Array Keyed) (na nb:Nat):Prop where
 mi:MI (xo κ) (a.toList++b.toList) out.toList (b.toList.take nb).reverse (a.toList.take na).reverse
 la:na<=a.size
 lb:nb<=b.size
 lo:out.size+na+nb=a.size+b.size
 n:n<=out.size
variable {na nb n m i j:Nat} {a b:Array Keyed}
theorem HJ.less {out:Array Keyed} (h:HJ κ a b n out na nb) (hm:m<=n):HJ κ a b m out na nb:=⟨h.mi,h.la,h.lb,h.lo,QM hm h.n⟩
theorem dX (a:Array Keyed) (i:Nat):(a.extract 0 i).toList=a.toList.take i:=by simp
theorem HJ.doneA {out:Array Keyed} (h:HJ κ a b n out na nb) (e:na=0):Srt κ (a.toList++b.toList) (a.extract 0 na++b.extract 0 nb++out.reverse).toList:=by
 subst e;have:=kN (MI.endY (by simpa using h.mi));rw[QI,QI,dX,dX,Array.toList_reverse];simpa using this
theorem HJ.doneB {out:Array Keyed} (h:HJ κ a b n out na nb) (e:nb=0):Srt κ (a.toList++b.toList) (a.extract 0 na++b.extract 0 nb++out.reverse).toList:=by
 subst e;have:=kN (MI.endX (by simpa using h.mi));rw[QI,QI,dX,dX,Array.toList_reverse];simpa using this
theorem HJ.firstB {out:Array Keyed} (h:HJ κ a b n out na nb) (e:nb=1):Srt κ (a.toList++b.toList) (b.extract 0 nb++a.extract 0 na++out.reverse).toList:=by
 subst e;obtain⟨q,hq,_⟩:=aW (a:=b) (i:=0) (by have:=h.lb;exact sv this);have m:=h.mi;have tr:=cB (a:=b) (i:=1) (Qg _) hq;rw[Nat.sub_self,List.take_zero,List.reverse_nil]at tr;rw[tr]at m;have:=kN m.lastX
 have t1:b.toList.take 1=[q]:=by
  have:=congrArg List.reverse tr;simpa using this
 rw[QI,QI,dX,dX,Array.toList_reverse,t1];simpa using this
theorem HJ.pushA {out:Array Keyed} (h:HJ κ a b n out na nb) (n1:1<=na) (n2:1<=nb) (ha:a[na-1]?=some p) (hb:b[nb-1]?=some q) (c:le κ q p):HJ κ a b (n+1) (out.push p) (na-1) nb:=by
 have m:=h.mi;rw[cB n1 ha,cB n2 hb]at m;have m:=m.takeY c;rw[<-cB n2 hb]at m;refine⟨by rw[Array.toList_push];exact m,by have:=h.la;exact yi n1 this,h.lb,by rw[Array.size_push];have:=h.lo;exact Bz n1 this,by rw[Array.size_push];have:=h.n;exact qm this⟩
theorem HJ.pushB {out:Array Keyed} (h:HJ κ a b n out na nb) (n1:1<=na) (n2:1<=nb) (ha:a[na-1]?=some p) (hb:b[nb-1]?=some q) (c:le κ p q):HJ κ a b (n+1) (out.push q) na (nb-1):=by
 have m:=h.mi;rw[cB n1 ha,cB n2 hb]at m;have m:=m.takeX c;rw[<-cB n1 ha]at m;refine⟨by rw[Array.toList_push];exact m,h.la,by have:=h.lb;exact yi n2 this,by rw[Array.size_push];have:=h.lo;exact By n2 this,by rw[Array.size_push];have:=h.n;exact qm this⟩
theorem mh (l:List Keyed) (h:i<=j):(l.take j).reverse=((l.take j).drop i).reverse++(l.take i).reverse:=by
 rw[<-List.reverse_append];congr 1;have:=QU i (l.take j);rw[List.take_take,Nat.min_eq_left h]at this;exact this.symm
theorem pL (a:Array Keyed) (h:i<=j):(a.extract i j).reverse.toList=((a.toList.take j).drop i).reverse:=by
 simp[List.drop_take]
theorem pE (h:p∈((a.toList.take j).drop i).reverse):∃k,i<=k/\k<j/\a[k]?=some p:=by
 rw[List.mem_reverse]at h;obtain⟨m,hm,e⟩:=Ql.mp h;rw[QX,Qq]at hm;have e3:=Qb (l:=(a.toList.take j).drop i) (i:=m) (by rw[QX,Qq];exact Bx hm);rw[e,List.getElem?_drop,List.getElem?_take,QB (by exact yh hm),QA]at e3;exact⟨i+m,by exact sw,by exact yh hm,e3⟩
theorem HJ.runA {out:Array Keyed} {k:Nat} (h:HJ κ a b n out na nb) (n2:1<=nb) (hb:b[nb-1]?=some q) (hk:k<=na) (c:∀i,k<=i->i<na->∀p,a[i]?=some p->le κ q p):HJ κ a b n (out++(a.extract k na).reverse) k nb:=by
 have m:=h.mi;have sx:=m.sx;rw[mh _ hk]at m
 have m:=m.takeYs λp hp r hr=>by
  obtain⟨i,h1,h2,e⟩:=pE hp;rw[cB n2 hb]at hr sx;exact fk sx (c i h1 h2 p e) hr
 have sz:(a.extract k na).reverse.size=na-k:=by rw[Array.size_reverse,Array.size_extract];have:=h.la;exact yg hk this
 refine⟨by rw[QI,pL _ hk];exact m,by have:=h.la;exact yf hk this,h.lb,by rw[Xl,sz];have:=h.lo;omega,by rw[Xl];have:=h.n;exact ye sz this⟩
theorem HJ.runB {out:Array Keyed} {k:Nat} (h:HJ κ a b n out na nb) (n1:1<=na) (ha:a[na-1]?=some p) (hk:k<=nb) (c:∀i,k<=i->i<nb->∀q,b[i]?=some q->le κ p q):HJ κ a b n (out++(b.extract k nb).reverse) na k:=by
 have m:=h.mi;have sy:=m.sy;rw[mh _ hk]at m
 have m:=m.takeXs λq hq r hr=>by
  obtain⟨i,h1,h2,e⟩:=pE hq;rw[cB n1 ha]at hr sy;exact fk sy (c i h1 h2 q e) hr
 have sz:(b.extract k nb).reverse.size=nb-k:=by rw[Array.size_reverse,Array.size_extract];have:=h.lb;exact yg hk this
 refine⟨by rw[QI,pL _ hk];exact m,h.la,by have:=h.lb;exact yf hk this,by rw[Xl,sz];have:=h.lo;omega,by rw[Xl];have:=h.n;exact ye sz this⟩
end
section
@[reducible] def Ct (κ:KeyKind) (a b:Array Keyed) (st:SortSt) (x:Nat) (c:Option (Array Keyed) × Nat × Nat × Array Keyed × Nat) (st':SortSt):Prop:=Gs st st'/\∃na nb out mg,c=(none,na,nb,out,mg)/\HJ κ a b (x+1) out na nb/\1<=na/\2<=nb
@[reducible] def Cs (κ:KeyKind) (a b:Array Keyed) (st:SortSt)  (c:Option (Array Keyed) × Nat × Nat × Array Keyed × Nat) (st':SortSt):Prop:=Gs st st'/\∃r rest,c=(some r,rest)/\Srt κ (a.toList++b.toList) r.toList
@[reducible] def Cr (κ:KeyKind) (a b:Array Keyed) (st:SortSt) (x x':Nat) (c:Option (Array Keyed) × Nat × Nat × Array Keyed × Nat × Nat) (st':SortSt):Prop:=st'=st/\∃na nb out ac bc,c=(none,na,nb,out,ac,bc)/\HJ κ a b (x+1+x') out na nb/\1<=na/\2<=nb
@[reducible] def Cq (κ:KeyKind) (a b:Array Keyed) (st:SortSt) (x:Nat) (c:Option (Array Keyed) × Nat × Nat × Array Keyed × Nat × Nat) (st':SortSt):Prop:=st'=st/\((∃r rest,c=(some r,rest)/\Srt κ (a.toList++b.toList) r.toList)\/∃na nb out ac bc,c=(none,na,nb,out,ac,bc)/\HJ κ a b (x+1) out na nb/\1<=na/\2<=nb)
@[reducible] def Cp (κ:KeyKind) (a b:Array Keyed) (st:SortSt) (x x':Nat) (c:Option (Array Keyed) × Nat × Nat × Array Keyed × Nat × Nat × Nat) (st':SortSt):Prop:=Gs st st'/\∃na nb out mg ac bc,c=(none,na,nb,out,mg,ac,bc)/\HJ κ a b (x+1+x') out na nb/\1<=na/\2<=nb
@[reducible] def Co (κ:KeyKind) (a b:Array Keyed) (st:SortSt) (x:Nat) (c:Option (Array Keyed) × Nat × Nat × Array Keyed × Nat × Nat × Nat) (st':SortSt):Prop:=Gs st st'/\((∃r rest,c=(some r,rest)/\Srt κ (a.toList++b.toList) r.toList)\/∃na nb out mg ac bc,c=(none,na,nb,out,mg,ac,bc)/\HJ κ a b (x+2) out na nb/\1<=na/\2<=nb)
theorem l9 (hL:gS κ kd prog w A s) {st:SortSt} {a b:Array Keyed} {Q:Array Keyed->SortSt->Prop} (hk:kindOf st=kd) (ha:∀p∈a.toList,Hk κ p) (hb:∀p∈b.toList,Hk κ p)
  (na:1<=a.size) (nb:1<=b.size) (sa:a.toList.Pairwise (le κ)) (sb:b.toList.Pairwise (le κ)) (first:∀p∈a.toList,∀q,b[0]?=some q->le κ q p) (last:∀q∈b.toList,∀p,a[a.size-1]?=some p->le κ q p)
  (h:∀r st',Gs st st'->Srt κ (a.toList++b.toList) r.toList->Q r st'):wpS (model prog w) A E s (m5 a b) Q st:=by
 unfold m5;refine Qo (wpS_lift (wpAny_rule ⟨rfl,?_⟩));obtain⟨q0,hq0,_,mq0⟩:=aW (a:=b) (i:=b.size-1) (by exact ql nb);obtain⟨qf,hqf,_,mqf⟩:=aW (a:=b) (i:=0) (by exact sv nb);obtain⟨p0,hp0,_,mp0⟩:=aW (a:=a) (i:=a.size-1) (by exact ql na)
 have j0:HJ κ a b 0 #[] a.size b.size:=by
  have e1:a.toList.take a.size=a.toList:=Qr (by simp);have e2:b.toList.take b.size=b.toList:=Qr (by simp);refine⟨⟨?_,List.Pairwise.nil,by rw[e2];exact rW sb,by rw[e1];exact rW sa,λp hp=>(nomatch hp),λp hp=>(nomatch hp),λq hq l hl=>?_⟩,Qg _,Qg _,by simp,QO _⟩
  ·rw[e1,e2];show ([]++(b.toList.reverse++a.toList.reverse)).Perm _;rw[Xo,<-List.reverse_append];exact List.reverse_perm _
  rw[e1,List.mem_reverse]at hq;rw[e2,List.getLast?_reverse]at hl;refine first q hq l ?_;rw[<-QA,<-List.head?_eq_getElem?];exact hl
 have j1:=j0.pushA na nb hp0 hq0 (last q0 mq0 p0 hp0);have j1:HJ κ a b 1 #[p0] (a.size-1) b.size:=j1
 extract_lets tot dn fb na0 nb0 z0
 refine Qo (aX hp0 ?_);refine wpS_mono (Q:=λr st'=>Gs st st'/\Srt κ (a.toList++b.toList) r.toList) ?_ (λr st' z=>h r st' z.1 z.2);clear h
 extract_lets out0
 by_cases c1:na0=0
 ·refine aL (bT c1) ?_;exact Qt ⟨.refl _,j1.doneA c1⟩
 refine aK (bF c1) ?_;by_cases c2:b.size=1
 ·refine aL (bT c2) ?_;exact Qt ⟨.refl _,j1.firstB c2⟩
 refine aK (bF c2) ?_;refine Qo (wpS_get ?_)
 extract_lets mg0
 have e0:na0=a.size-1:=rfl
 refine Qo (wpS_mono (Xi (I:=Ct κ a b st)
  (Q:=Cs κ a b st) ?step ?fin ⟨.refl _,na0,nb0,out0,mg0,rfl,j1,by exact Bw na nb c1 c2,by omega⟩) ?post)
 case post =>
  rintro c st' ⟨g,r,rest,rfl,hr⟩;exact Qt ⟨g,hr⟩
 case fin =>
  rintro c st' ⟨g,na,nb,out,mg,rfl,j,l1,l2⟩;have:=j.n;have:=j.lo;omega
 case step =>
  rintro x c st1 _ hx ⟨g,na,nb,out,mg,rfl,j,l1,l2⟩
  refine Qo (wpS_mono (Xi (I:=Cr κ a b st1 x)
   (Q:=Cq κ a b st1 x) ?step1 ?fin1 ⟨rfl,na,nb,out,0,0,rfl,j,l1,l2⟩) ?post1)
  case fin1 =>
   rintro c st' ⟨rfl,na,nb,out,ac,bc,rfl,j,l1,l2⟩;have:=j.n;have:=j.lo;omega
  case step1 =>
   clear j l1 l2;rintro x' c st' _ hx' ⟨rfl,na,nb,out,ac,bc,rfl,j,l1,l2⟩;have la:=j.la;have lb:=j.lb;obtain⟨p,hp,_,mp⟩:=aW (a:=a) (i:=na-1) (by exact wS l1 la);obtain⟨q,hq,_,mq⟩:=aW (a:=b) (i:=nb-1) (by exact wR l2 lb);refine Qo (aX hq (Qo (aX hp (Qo (iA hL (by rw[g.kind];exact hk) (hb q mq) (ha p mp) ?_)))));dsimp -zeta only
   cases e:κ.blt (kv κ q) (kv κ p) with
   | true =>
    refine aL rfl ?_;refine Qo (aX hp ?_);have j2:=j.pushA l1 (by exact sr l2) hp hq (KeyOrd.kle_of_klt e);by_cases d1:na-1=0
    ·refine aL (bT d1) ?_;exact Qt ⟨rfl,.inl ⟨_,_,rfl,j2.doneA d1⟩⟩
    refine aK (bF d1) ?_;by_cases d2:ac+1>=mg
    ·refine aL d2 ?_;exact Qt ⟨rfl,.inr ⟨_,_,_,_,_,rfl,j2.less (by omega),by exact xU l1 d1,l2⟩⟩
    refine aK d2 ?_;exact Qt ⟨rfl,_,_,_,_,_,rfl,j2.less (by exact uK),by exact xU l1 d1,l2⟩
   | false =>
   refine aK Qj ?_;refine Qo (aX hq ?_);have j2:=j.pushB l1 (by exact sr l2) hp hq e;by_cases d1:nb-1=1
   ·refine aL (bT d1) ?_;exact Qt ⟨rfl,.inl ⟨_,_,rfl,j2.firstB d1⟩⟩
   refine aK (bF d1) ?_;by_cases d2:bc+1>=mg
   ·refine aL d2 ?_;exact Qt ⟨rfl,.inr ⟨_,_,_,_,_,rfl,j2.less (by omega),l1,by exact xT l2 d1⟩⟩
   refine aK d2 ?_;exact Qt ⟨rfl,_,_,_,_,_,rfl,j2.less (by exact uK),l1,by exact xT l2 d1⟩
  case post1 =>
   clear j l1 l2;rintro c st' ⟨rfl,⟨r,rest,rfl,hr⟩|⟨na,nb,out,ac,bc,rfl,j,l1,l2⟩⟩
   ·exact Qt ⟨g,r,_,rfl,hr⟩
   refine Qo (wpS_lift (wpAny_rule ⟨rfl,?_⟩))
   refine Qo (wpS_mono (Xi (I:=Cp κ a b st x)
    (Q:=Co κ a b st x) ?step2 ?fin2 ⟨g,na,nb,out,_,ac,bc,rfl,j,l1,l2⟩) ?post2)
   case fin2 =>
    rintro c st' ⟨g,na,nb,out,mg,ac,bc,rfl,j,l1,l2⟩;have:=j.n;have:=j.lo;omega
   case post2 =>
    rintro c st' ⟨g,⟨r,rest,rfl,hr⟩|⟨na,nb,out,mg,ac,bc,rfl,j,l1,l2⟩⟩
    ·exact Qt ⟨g,r,_,rfl,hr⟩
    refine Qo (d7 λst2 g2=>?_);exact Qt ⟨g.trans g2,_,_,_,_,rfl,j,l1,l2⟩
   case step2 =>
    clear j l1 l2 g;rintro x' c st2 _ hx' ⟨g,na,nb,out,mg,ac,bc,rfl,j,l1,l2⟩;have la:=j.la;have lb:=j.lb;obtain⟨p,hp,_,mp⟩:=aW (a:=a) (i:=na-1) (by exact wS l1 la);obtain⟨q,hq,_,mq⟩:=aW (a:=b) (i:=nb-1) (by exact wR l2 lb)
    extract_lets s1 x1 s2 y1 s3 o1 s4 m1 s5 ac1 bc1 nb2 jp mgm
    refine gr (λm=>jp () m) (λ_=>True) (λm _=>?_) (λJ=>?_)
    ·refine Qo (d7 λst3 g3=>?_);have g4:=g.trans g3;have hk3:kindOf st3=kd:=by rw[g4.kind];exact hk
     refine Qo (aX hq ?_);refine Qo (e9 (a:=a) (base:=0) (n:=na) (hint:=na-1) hL hk3 (hb q mq) ha (by exact Bv la) (λi j p q _ h _ e1 e2=>pG sa h e1 e2) (by exact ql l1) λk k1 k2 k3=>?_);simp only[Nat.zero_add]at k2 k3;dsimp -zeta only
     extract_lets kk ac2 jp2 o2 x2
     refine gr (λz:Nat × Array Keyed=>jp2 () z.1 z.2) (λz=>HJ κ a b (x+1+x') z.2 z.1 nb/\1<=z.1/\∀p,a[z.1-1]?=some p->le κ p q) (λz hz=>?_) (λJ2=>?_)
     ·obtain⟨x3,o3⟩:=z;obtain⟨j3,l3,f3⟩:=hz;dsimp only at j3 l3 f3;have la3:=j3.la;obtain⟨p3,hp3,_,mp3⟩:=aW (a:=a) (i:=x3-1) (by exact wS l3 la3);refine Qo (aX hq ?_);have j4:=j3.pushB l3 (by exact sr l2) hp3 hq (f3 p3 hp3);by_cases d1:nb-1=1
      ·refine aL (bT d1) ?_;exact Qt ⟨g4,.inl ⟨_,_,rfl,j4.firstB d1⟩⟩
      refine aK (bF d1) ?_;refine Qo (aX hp3 ?_);refine Qo (e9 (a:=b) (base:=0) (n:=nb-1) (hint:=nb-1-1) hL hk3 (ha p3 mp3) hb (by exact Bu l2 lb) (λi j p q _ h _ e1 e2=>pG sb h e1 e2) (by exact Bt l2) λk' k1' k2' k3'=>?_);simp only[Nat.zero_add]at k2' k3';dsimp -zeta only
      extract_lets kk' bc2 na4 jp3 o4 y4
      refine gr (λz:Nat × Array Keyed=>jp3 () z.1 z.2) (λz=>HJ κ a b (x+1+x'+1) z.2 x3 z.1/\2<=z.1/\∀q,b[z.1-1]?=some q->le κ q p3) (λz hz=>?_) (λJ3=>?_)
      ·obtain⟨y5,o5⟩:=z;obtain⟨j5,l5,f5⟩:=hz;dsimp only at j5 l5 f5;have lb5:=j5.lb;obtain⟨q5,hq5,_,mq5⟩:=aW (a:=b) (i:=y5-1) (by exact wR l5 lb5);refine Qo (aX hp3 ?_);have j6:=j5.pushA l3 (by exact sr l5) hp3 hq5 (f5 q5 hq5);by_cases d2:x3-1=0
       ·refine aL (bT d2) ?_;exact Qt ⟨g4,.inl ⟨_,_,rfl,j6.doneA d2⟩⟩
       refine aK (bF d2) ?_;by_cases d3:(decide (ac2<7)&&decide (bc2<7))=true
       ·refine aL d3 ?_;exact Qt ⟨g4,.inr ⟨_,_,_,_,_,_,rfl,j6.less (by omega),by omega,l5⟩⟩
       refine aK d3 ?_;exact Qt ⟨g4,_,_,_,_,_,_,rfl,j6.less (by exact yk),by omega,l5⟩
      have ek':kk'=nb-1-k':=rfl;by_cases d2:kk'>0
      ·refine aL d2 ?_;have j5:HJ κ a b (x+1+x'+1) o4 x3 y4:=j4.runB l3 hp3 (by exact Br k1') λi h1 h2 p e=>lS (k3' i h1 h2 p e);have e2:y4=k':=rfl;by_cases d3:y4=1
       ·refine aL (bT d3) ?_;exact Qt ⟨g4,.inl ⟨_,_,rfl,j5.firstB d3⟩⟩
       refine aK (bF d3) ?_;by_cases d4:y4=0
       ·refine aL (bT d4) ?_;exact Qt ⟨g4,.inl ⟨_,_,rfl,j5.doneB d4⟩⟩
       refine aK (bF d4) ?_;exact J3 (y4,o4) ⟨j5,by dsimp only;exact Bq d3 d4,λq e=>lP (k2' (y4-1) (by omega) q e)⟩
      refine aK d2 ?_;exact J3 (nb-1,_) ⟨j4,xW l2 d1,λq e=>lP (k2' (nb-1-1) (by exact Bp l2 ek' d2) q e)⟩
     have ek:kk=na-k:=rfl;by_cases d1:kk>0
     ·refine aL d1 ?_;have j3:HJ κ a b (x+1+x') o2 x2 nb:=j.runA (by exact sr l2) hq (by exact wQ k1) λi h1 h2 p e=>lR (k3 i h1 h2 p e);have e2:x2=k:=rfl;by_cases d2:x2=0
      ·refine aL (bT d2) ?_;exact Qt ⟨g4,.inl ⟨_,_,rfl,j3.doneA d2⟩⟩
      refine aK (bF d2) ?_;exact J2 (x2,o2) ⟨j3,by dsimp only;exact AS d2,λp e=>lQ (k2 (x2-1) (by omega) p e)⟩
     refine aK d1 ?_;exact J2 (na,out) ⟨j,l1,λp e=>lQ (k2 (na-1) (by exact AQ l1 ek d1) p e)⟩
    by_cases d:m1>1
    ·refine aL d ?_;exact J _ trivial
    refine aK d ?_;exact J _ trivial
end
section
structure Sg (lo:Nat) (st st':SortSt):Prop where
 kind:kindOf st'=kindOf st
 pend:pendingOf st'=pendingOf st
 fail:failedOf st'=failedOf st
 head:∀i,i<lo->(arrOf st')[i]?=(arrOf st)[i]?
 perm:(arrOf st').Perm (arrOf st)
theorem Sg.refl (lo:Nat) (st:SortSt):Sg lo st st:=⟨rfl,rfl,rfl,λ_ _=>rfl,Array.Perm.refl _⟩
variable {a b c:SortSt} {lo i n nrem:Nat}
theorem Sg.trans (x:Sg lo a b) (y:Sg lo b c):Sg lo a c:=⟨y.kind.trans x.kind,y.pend.trans x.pend,y.fail.trans x.fail,λi h=>(y.head i h).trans (x.head i h),y.perm.trans x.perm⟩
theorem Sg.size (x:Sg lo a b):(arrOf b).size=(arrOf a).size:=x.perm.size_eq
theorem Sg.keys (x:Sg lo a b) (h:∀p∈(arrOf a).toList,Hk κ p):∀p∈(arrOf b).toList,Hk κ p:=λp hp=>h p ((Array.perm_iff_toList_perm.mp x.perm).mem_iff.mp hp)
variable {xs:Array Keyed}
theorem s_ {p:Keyed} (h:xs[i]?=some p):KK κ xs i=kv κ p:=by unfold KK kv;rw[h]
theorem eZ (hL:gS κ kd prog w A s) {st:SortSt} {i j:Nat} {Q:Option Bool->SortSt->Prop} (hk:kindOf st=kd) (ha:∀p∈(arrOf st).toList,Hk κ p) (hi:i<(arrOf st).size) (hj:j<(arrOf st).size)
  (h:Q (some (κ.blt (KK κ (arrOf st) i) (KK κ (arrOf st) j))) st):wpS (model prog w) A E s (ltAt' i j) Q st:=by
 obtain⟨p,hp,_,mp⟩:=aW hi;obtain⟨q,hq,_,mq⟩:=aW hj;rw[s_ hp,s_ hq]at h;rw[ltAt'_eq];exact Qo (wpS_get (Qo (aX hp (Qo (aX hq (iA hL hk (ha p mp) (ha q mq) h))))))
def Up (κ:KeyKind) (xs:Array Keyed) (lo n:Nat):Prop:=∀i j,i<=j->j<n->κ.kle (KK κ xs (lo+i)) (KK κ xs (lo+j))
def lY (κ:KeyKind) (xs:Array Keyed) (lo n:Nat):Prop:=∀i j,i<=j->j<n->κ.kle (KK κ xs (lo+j)) (KK κ xs (lo+i))
theorem Up.one:Up κ xs lo 1:=λi j h1 h2=>by
 have:i=j:=by exact AO h1 h2
 subst this;exact Xu _
theorem Up.more (h:Up κ xs lo n) (h1:1<=n) (c:κ.kle (KK κ xs (lo+(n-1))) (KK κ xs (lo+n))):Up κ xs lo (n+1):=λi j hij hj=>by
 by_cases e:j<n
 ·exact h i j hij e
 have:j=n:=by exact we hj e
 subst this;by_cases e2:i=j
 ·subst e2;exact Xu _
 exact KeyOrd.kle_trans (h i (j-1) (by exact wd hij h1 e2) (by exact ql h1)) c
theorem lY.more (h:lY κ xs lo n) (h1:1<=n) (c:κ.kle (KK κ xs (lo+n)) (KK κ xs (lo+(n-1)))):lY κ xs lo (n+1):=λi j hij hj=>by
 by_cases e:j<n
 ·exact h i j hij e
 have:j=n:=by exact we hj e
 subst this;by_cases e2:i=j
 ·subst e2;exact Xu _
 exact KeyOrd.kle_trans c (h i (j-1) (by exact wd hij h1 e2) (by exact ql h1))
theorem oP {st:SortSt} {lo a:Nat} {f:Nat->Option (Option Nat) × Nat->StateT SortSt Sem (ForInStep (Option (Option Nat) × Nat))} {Q:Option (Option Nat) × Nat->SortSt->Prop} (h1:1<=a) (h2:a<=nrem) (up:Up κ (arrOf st) lo a)
  (hf:∀x n (R:ForInStep (Option (Option Nat) × Nat)->SortSt->Prop),1<=n->n<nrem->(κ.klt (KK κ (arrOf st) (lo+n)) (KK κ (arrOf st) (lo+(n-1)))->R (.done (none,n)) st)->(κ.kle (KK κ (arrOf st) (lo+(n-1))) (KK κ (arrOf st) (lo+n))->R (.yield (none,n+1)) st)->wpS (model prog w) A E s (f x (none,n)) R st)
  (h:∀n,a<=n->n<=nrem->Up κ (arrOf st) lo n->(n=nrem\/κ.klt (KK κ (arrOf st) (lo+n)) (KK κ (arrOf st) (lo+(n-1))))->Q (none,n) st):wpS (model prog w) A E s (forIn [a:nrem] (none,a) f) Q st:=by
 refine Xi (I:=λx c st'=>st'=st/\c=(none,x)/\Up κ (arrOf st) lo x) ?_ ?_ ⟨rfl,rfl,up⟩
 ·rintro x c st' hax hx ⟨rfl,rfl,u⟩;exact hf x x _ (by exact wc h1 hax) hx (λe=>h x hax (by exact sE hx) u (.inr e)) λe=>⟨rfl,rfl,u.more (by exact wc h1 hax) e⟩
 rintro c st' ⟨rfl,rfl,u⟩;rw[show max a nrem=nrem by exact AM h2]at u ⊢;exact h nrem h2 (Qg _) u (.inl rfl)
theorem il {st:SortSt} {lo i j:Nat} {Q:Unit->SortSt->Prop} (hi:lo<=i) (hj:j<=(arrOf st).size) (h:∀st',Sg lo st st'->(∀k,KK κ (arrOf st') k=if i<=k/\k<j then KK κ (arrOf st) (i+j-1-k) else KK κ (arrOf st) k)->Q () st'):wpS (model prog w) A E s (reverseSlice' i j) Q st:=by
 rw[reverseSlice'_eq];refine wpS_modify (h _ ⟨rfl,rfl,rfl,λk hk=>?_,mirror_perm _ _ _ _⟩ λk=>KK_mirror hj k);show (mirror (arrOf st) i j ((j-i) / 2))[k]?=_;rw[getElem?_mirror_all hj,QC (by exact AK hi hk)]
theorem fW {U α β:Type} {M:Model} {Q:α->U->Prop} {st:U} {m:StateT U Sem α} (f:β->StateT U Sem α) (I:β->U->Prop) (J:∀z st',I z st'->wpS M A E s (f z) Q st') (h:(∀z st',I z st'->wpS M A E s (f z) Q st')->wpS M A E s m Q st):wpS M A E s m Q st:=h J
def kz:Nat->Nat->StateT SortSt Sem (Option Nat):=sortPriv% PySem.Builtin.countRun
theorem pZ (hL:gS κ kd prog w A s) {st:SortSt} {lo nrem:Nat} {Q:Option Nat->SortSt->Prop} (hk:kindOf st=kd) (ha:∀p∈(arrOf st).toList,Hk κ p) (h1:1<=nrem) (hn:lo+nrem<=(arrOf st).size)
  (h:∀m st',Sg lo st st'->1<=m->m<=nrem->Up κ (arrOf st') lo m->Q (some m) st'):wpS (model prog w) A E s (kz lo nrem) Q st:=by
 unfold kz;refine Qo (oP (κ:=κ) (lo:=lo) (Qg 1) h1 Up.one (λx n R a1 a2 r1 r2=>?_) λn a1 a2 up stop=>?_)
 ·extract_lets
  refine Qo (eZ hL hk ha (by omega) (by omega) ?_);rw[show lo+n-1=lo+(n-1) by exact wb a1];dsimp -zeta only
  cases e:κ.blt (KK κ (arrOf st) (lo+n)) (KK κ (arrOf st) (lo+(n-1))) with
  | true=>refine aL rfl ?_;exact Qt (r1 e)
  | false=>refine aK Qj ?_;exact Qt (r2 e)
 show wpS _ _ _ _ (if (n==nrem)=true then pure (some n) else _) _ _;by_cases hnn:n=nrem
 ·refine aL (bT hnn) ?_;exact Qt (h n st (.refl _ _) a1 a2 up)
 refine aK (bF hnn) ?_;have lt0:=stop.resolve_left hnn
 extract_lets jn jq jp
 refine fW (λ_:Unit=>jp ()) (λ_ st'=>Sg lo st st'/\lY κ (arrOf st') lo (n+1)) (λ_ st1 hz=>?_) (λJ=>?_)
 ·obtain⟨g1,dn⟩:=hz;refine Qo (wpS_lift (wpAny_rule ⟨rfl,?_⟩))
  refine Qo (wpS_mono (Xi (I:=λx c st'=>∃neq,c=(none,x,neq)/\Sg lo st st'/\lY κ (arrOf st') lo x/\neq+1<=x/\∀i,x-(neq+1)<=i->i<x->KK κ (arrOf st') (lo+i)=KK κ (arrOf st') (lo+(x-1)))
   (Q:=λc st'=>∃x neq,c=(none,x,neq)/\Sg lo st st'/\x<=nrem/\lY κ (arrOf st') lo x/\neq+1<=x/\∀i,x-(neq+1)<=i->i<x->KK κ (arrOf st') (lo+i)=KK κ (arrOf st') (lo+(x-1))) ?step ?fin ⟨0,rfl,g1,dn,by omega,λi i1 i2=>by rw[show i=n+1-1 by omega]⟩) ?post)
  case fin =>
   rintro c st' ⟨neq,rfl,b1,b2,b3,b4⟩;rw[show max (n+1) nrem=nrem by exact AI a2 hnn]at b2 b3 b4 ⊢;exact⟨nrem,neq,rfl,b1,Qg _,b2,b3,b4⟩
  case step =>
   rintro x c st' hax hx ⟨neq,rfl,b1,b2,b3,b4⟩;have sz:=b1.size;have hk':kindOf st'=kd:=b1.kind.trans hk;have ha':=b1.keys ha;refine Qo (eZ (i:=lo+x) (j:=lo+x-1) hL hk' ha' (by exact pC hn hx sz) (by omega) ?_);rw[show lo+x-1=lo+(x-1) by exact AG b3];dsimp -zeta only
   extract_lets
   cases e:κ.blt (KK κ (arrOf st') (lo+x)) (KK κ (arrOf st') (lo+(x-1))) with
   | true =>
    refine aL rfl ?_;have d1:=b2.more (by exact sD b3) (KeyOrd.kle_of_klt e);by_cases c:neq>0
    ·refine aL c ?_;refine Qo (il (κ:=κ) (lo:=lo) (by exact wa b3) (by exact AF hn hx sz) λst2 g2 kk=>?_)
     have kk:∀i,KK κ (arrOf st2) (lo+i)=KK κ (arrOf st') (lo+i):=λi=>by
      rw[kk]
      split
      ·rename_i q
       obtain⟨e1,e2,e3,e4,e5⟩:=vS b3 q;rw[e1,b4 _ e2 e3,b4 i e4 e5]
      rfl
     exact Qt ⟨0,rfl,b1.trans g2,λi j h1 h2=>by rw[kk,kk];exact d1 i j h1 h2,by exact v_,λi i1 i2=>by rw[show i=x+1-1 by exact AE i1 i2]⟩
    refine aK c ?_;exact Qt ⟨0,rfl,b1,d1,by exact v_,λi i1 i2=>by rw[show i=x+1-1 by omega]⟩
   | false =>
   refine aK Qj ?_;refine Qo (eZ (i:=lo+(x-1)) (j:=lo+x) hL hk' ha' (by omega) (by exact pC hn hx sz) ?_);dsimp -zeta only
   cases e2:κ.blt (KK κ (arrOf st') (lo+(x-1))) (KK κ (arrOf st') (lo+x)) with
   | true =>
    refine aL rfl ?_;exact Qt ⟨x,neq,rfl,b1,by exact sE hx,b2,b3,b4⟩
   | false =>
   refine aK Qj ?_;have eq:KK κ (arrOf st') (lo+x)=KK κ (arrOf st') (lo+(x-1)):=KeyOrd.kle_antisymm e2 e;refine Qt ⟨neq+1,rfl,b1,b2.more (by exact sD b3) (by rw[eq];exact Xu _),by exact AD b3,λi i1 i2=>?_⟩;rw[show x+1-1=x by exact AB];by_cases ix:i=x
   ·rw[ix]
   rw[b4 i (by omega) (by exact AA i2 ix),eq]
  case post =>
   rintro c st2 ⟨x,neq,rfl,b1,b2,b3,b4,b5⟩
   extract_lets r2 s2 n2 q2 jp2
   have sz:=b1.size;refine fW (λ_:Unit=>jp2 ()) (λ_ st'=>Sg lo st st'/\lY κ (arrOf st') lo x) (λ_ st3 hz=>?_) (λJ2=>?_)
   ·obtain⟨g3,dn3⟩:=hz;have sz3:=g3.size;refine Qo (il (κ:=κ) (lo:=lo) (Qg _) (show lo+x<=_ by exact Az hn b2 sz sz3) λst4 g4 kk=>?_);have g5:=g3.trans g4;have sz5:=g5.size;refine Qo (oP (κ:=κ) (lo:=lo) (show 1<=x by exact sD b4) b2 (λi j h1 h2=>?_) (λy n R a1 a2 r1 r2=>?_) λn a1 a2 up stop=>?_)
    ·have h2:j<x:=h2;rw[kk,kk,QB (by exact Ay h1 h2),QB (by exact Ax h2),show lo+(lo+x)-1-(lo+i)=lo+(x-1-i) by exact sq (Nat.lt_of_le_of_lt h1 h2),show lo+(lo+x)-1-(lo+j)=lo+(x-1-j) by exact sq h2];exact dn3 _ _ (by exact Aw h1 h2) (by exact Av h1 h2)
    ·refine Qo (eZ hL (g5.kind.trans hk) (g5.keys ha) (by omega) (by omega) ?_);rw[show lo+n-1=lo+(n-1) by exact wb a1];dsimp -zeta only
     cases e:κ.blt (KK κ (arrOf st4) (lo+n)) (KK κ (arrOf st4) (lo+(n-1))) with
     | true=>refine aL rfl ?_;exact Qt (r1 e)
     | false=>refine aK Qj ?_;exact Qt (r2 e)
    have a1:x<=n:=a1;exact Qt (h n st4 g5 (by exact Au b4 a1) a2 up)
   by_cases c:neq>0
   ·show wpS _ _ _ _ (if neq>0 then _ else _) _ _;refine aL c ?_;refine Qo (il (κ:=κ) (lo:=lo) (i:=lo+x-(neq+1)) (j:=lo+x) (show lo<=lo+x-(neq+1) by exact wa b4) (show lo+x<=_ by exact Ar hn b2 sz) λst3 g3 kk=>?_)
    have kk:∀i,KK κ (arrOf st3) (lo+i)=KK κ (arrOf st2) (lo+i):=λi=>by
     rw[kk]
     split
     ·rename_i q
      obtain⟨e1,e2,e3,e4,e5⟩:=vS b4 q;rw[e1,b5 _ e2 e3,b5 i e4 e5]
     rfl
    exact J2 () st3 ⟨b1.trans g3,λi j h1 h2=>by rw[kk,kk];exact b3 i j h1 h2⟩
   show wpS _ _ _ _ (if neq>0 then _ else _) _ _;refine aK c ?_;exact J2 () st2 ⟨b1,b3⟩
 by_cases c:n>1
 ·refine aL c ?_;refine Qo (eZ hL hk ha (by exact Ap h1 hn) (by omega) ?_);rw[show lo+n-1=lo+(n-1) by exact Ao c];dsimp -zeta only
  cases e:κ.blt (KK κ (arrOf st) lo) (KK κ (arrOf st) (lo+(n-1))) with
  | true =>
   refine aL rfl ?_;exact Qt (h n st (.refl _ _) a1 a2 up)
  | false =>
  refine aK Qj ?_
  have all:∀i,i<n->KK κ (arrOf st) (lo+i)=KK κ (arrOf st) (lo+(n-1)):=λi hi =>
   KeyOrd.kle_antisymm (up i (n-1) (by exact An c hi) (by exact Am c)) (KeyOrd.kle_trans e (by have:=up 0 i (by exact wV) hi;rwa [Nat.add_zero]at this))
  refine Qo (il (κ:=κ) (lo:=lo) (Qg _) (show lo+n<=_ by exact Al hn a2) λst3 g3 kk=>?_)
  have kk:∀i,KK κ (arrOf st3) (lo+i)=KK κ (arrOf st) (lo+i):=λi=>by
   rw[kk]
   split
   ·rename_i q
    have l:=Nat.lt_of_add_lt_add_left q.2;rw[sq l,all _ (Nat.lt_of_le_of_lt (Nat.sub_le _ _) (Nat.sub_lt (Nat.lt_of_le_of_lt (QO _) l) Nat.zero_lt_one)),all i l]
   rfl
  refine J () st3 ⟨g3,lY.more (λi j h1 h2=>?_) a1 ?_⟩
  ·rw[kk,kk,all i (by exact Ak h1 h2),all j h2];exact Xu _
  rw[kk,kk];exact KeyOrd.kle_of_klt lt0
 refine aK c ?_;refine J () st ⟨.refl _ _,lY.more (λi j h1 h2=>?_) a1 (KeyOrd.kle_of_klt lt0)⟩;have:i=j:=by exact Aj a1 c h1 h2
 subst this;exact Xu _
end
section
def A8:Nat->Nat->Nat->StateT SortSt Sem Bool:=sortPriv% PySem.Builtin.binarySort
theorem uh (hL:gS κ kd prog w A s) {st:SortSt} {lo n ok:Nat} {Q:Bool->SortSt->Prop} (hk:kindOf st=kd) (ha:∀p∈(arrOf st).toList,Hk κ p) (h1:ok<=n) (hn:lo+n<=(arrOf st).size) (up:Up κ (arrOf st) lo ok)
  (h:∀st',Sg lo st st'->Up κ (arrOf st') lo n->Q true st'):wpS (model prog w) A E s (A8 lo n ok) Q st:=by
 unfold A8;refine Qo (wpS_mono (Xi (I:=λk c st'=>c=(none,())/\Sg lo st st'/\Up κ (arrOf st') lo (min k n)) (Q:=λc st'=>c=(none,())/\Sg lo st st'/\Up κ (arrOf st') lo n) ?step ?fin ?init) ?post)
 case post =>
  rintro c st' ⟨rfl,g,u⟩;exact Qt (h st' g u)
 case init =>
  refine⟨rfl,.refl _ _,λi j hij hj=>?_⟩;by_cases e:ok=0
  ·have:i=j:=by exact Ai hij hj e
   subst this;exact Xu _
  exact up i j hij (by exact Ah h1 hj e)
 case fin =>
  rintro c st' ⟨rfl,g,u⟩;rw[show min (max (max ok 1) n) n=n by exact Ag]at u;exact⟨rfl,g,u⟩
 case step =>
  rintro k c st' k1 k2 ⟨rfl,g,u⟩;rw[show min k n=k by exact Ae k2]at u;have sz:=g.size
  refine Qo (wpS_mono (Xi (I:=λx c st2=>st2=st'/\∃l r,c=(none,l,r)/\l<=r/\r<=k/\r-l<=k-x/\(∀i,i<l->κ.kle (KK κ (arrOf st') (lo+i)) (KK κ (arrOf st') (lo+k)))/\(∀i,r<=i->i<k->κ.kle (KK κ (arrOf st') (lo+k)) (KK κ (arrOf st') (lo+i))))
   (Q:=λc st2=>st2=st'/\∃l,c=(none,l,l)/\l<=k/\(∀i,i<l->κ.kle (KK κ (arrOf st') (lo+i)) (KK κ (arrOf st') (lo+k)))/\(∀i,l<=i->i<k->κ.kle (KK κ (arrOf st') (lo+k)) (KK κ (arrOf st') (lo+i)))) ?istep ?ifin ⟨rfl,0,k,rfl,by exact wV,by exact Ad,by exact Ac,λi hi=>by omega,λi a b=>by omega⟩) ?ipost)
  case ifin =>
   rintro c st2 ⟨rfl,l,r,rfl,a1,a2,a3,a4,a5⟩;have:l=r:=by exact yD a1 a3
   subst this;exact⟨rfl,l,rfl,a2,a4,a5⟩
  case istep =>
   rintro x c st2 _ hx ⟨rfl,l,r,rfl,a1,a2,a3,a4,a5⟩;dsimp -zeta only
   extract_lets
   by_cases c:l>=r
   ·show wpS _ _ _ _ (if l>=r then _ else _) _ _;refine aL c ?_;have:l=r:=by exact wW a1 c
    subst this;exact Qt ⟨rfl,l,rfl,a2,a4,a5⟩
   show wpS _ _ _ _ (if l>=r then _ else _) _ _;refine aK c ?_;refine Qo (eZ (i:=lo+k) (j:=lo+(l+r) / 2) hL (g.kind.trans hk) (g.keys ha) (by exact pC hn k2 sz) (by omega) ?_);dsimp -zeta only
   cases e:κ.blt (KK κ (arrOf st2) (lo+k)) (KK κ (arrOf st2) (lo+(l+r) / 2)) with
   | true =>
    refine aL rfl ?_;refine Qt ⟨rfl,l,(l+r) / 2,rfl,by exact Ab c,by exact Aa a2 c,xZ a3 c,a4,λi b1 b2=>?_⟩;exact KeyOrd.kle_trans (KeyOrd.kle_of_klt e) (u _ _ b1 b2)
   | false =>
   refine aK Qj ?_;refine Qt ⟨rfl,(l+r) / 2+1,r,rfl,by exact z_ c,by exact wQ a2,x_ a3 c,λi b1=>?_,a5⟩;exact KeyOrd.kle_trans (u i ((l+r) / 2) (by exact zZ b1) (by exact zY a2 c)) e
  case ipost =>
   rintro c st2 ⟨rfl,l,rfl,a2,a4,a5⟩;show wpS _ _ _ _ (moveDown' (lo+k) (lo+l) >>= _) _ _;rw[moveDown'_eq];have hks:lo+k<(arrOf st2).size:=by exact pC hn k2 sz
   refine Qo (wpS_modify (Qt ⟨rfl,g.trans ⟨rfl,rfl,rfl,λi hi=>?_,bubble_perm _ _ _⟩,λi j hij hj=>?_⟩))
   ·show (bubble (arrOf st2) (lo+k) (lo+k-(lo+l)))[i]?=_;rw[getElem?_bubble hks _ (by exact zX a2 hi),QC (by exact zW a2 hi),QC (by omega)]
   rw[show min (k+1) n=k+1 by exact zV k2]at hj;show κ.kle (KK κ (bubble (arrOf st2) (lo+k) (lo+k-(lo+l))) (lo+i)) (KK κ (bubble (arrOf st2) (lo+k) (lo+k-(lo+l))) (lo+j));rw[KK_bubble hks (by exact v9 a2),KK_bubble hks (by exact v9 a2),show lo+k-(lo+k-(lo+l))=lo+l by exact zU a2];have sh:∀i,l<i->lo+i-1=lo+(i-1):=λi hi=>by exact zT hi
   by_cases ci:i<l
   ·rw[QC (by exact v8 ci),QC (by exact v7 ci)];by_cases cj:j<l
    ·rw[QC (by exact v8 cj),QC (by exact v7 cj)];exact u i j hij (by exact zS a2 hj cj)
    by_cases cj2:j=l
    ·rw[QB (by exact v6 cj2)];exact a4 i ci
    rw[QC (by exact v5 cj2),QB (by omega),sh j (by exact v4 cj cj2)];exact u i (j-1) (by exact zQ hij ci cj) (by exact zP a2 hij hj ci)
   by_cases ci2:i=l
   ·rw[QB (by exact v6 ci2)];by_cases cj2:j=l
    ·rw[QB (by exact zO ci2 cj2)];exact Xu _
    rw[QC (by exact zN ci2 cj2),QB (by omega),sh j (by exact zM hij ci2 cj2)];exact a5 (j-1) (by exact zL hij ci2 cj2) (by exact zK hij hj ci2 cj2)
   rw[QC (by exact v5 ci2),QB (by omega),QC (by exact zJ hij ci ci2),QB (by omega),sh i (by exact v4 ci ci2),sh j (by exact zI hij ci ci2)];exact u (i-1) (j-1) (by exact zH hij) (by exact zF hij hj ci ci2)
end
theorem mL (o:Nat):∀(M:List Keyed) (j:Nat) (arr:Array Keyed) (P S T:List Keyed),arr.toList=P++(S++T)->P.length=o+j->S.length=M.length->((M.zipIdx j).foldl (λa (x:Keyed × Nat)=>a.setIfInBounds (o+x.2) x.1) arr).toList=P++(M++T)
 | [],j,arr,P,S,T,h,hp,hs=>by
  have:S=[]:=Q5 hs;subst this;exact h
 | p::M,j,arr,P,[],T,h,hp,hs=>by simp at hs
 | p::M,j,arr,P,q::S,T,h,hp,hs=>by
  rw[List.zipIdx_cons,List.foldl_cons]
  have e:(arr.setIfInBounds (o+j) p).toList=(P++[p])++(S++T):=by
   rw[Array.toList_setIfInBounds,h,List.set_append,QC (by exact zE hp),show o+j-P.length=0 by exact zD hp];simp
  have:=mL o M (j+1) (arr.setIfInBounds (o+j) p) (P++[p]) S T e (by rw[Qf];simp;exact zC hp) (by simpa using hs);rw[this];simp
def eg:Nat->List (List Keyed)->List (Nat × Nat)
 | _,[]=>[]
 | b,r::rs=>(b,r.length)::eg (b+r.length) rs
theorem gc (u w:List (List Keyed)):∀b,eg b (u++w)=eg b u++eg (b+u.flatten.length) w:=by
 induction u with
 | nil=>intro b;simp[eg]
 | cons r u ih =>
 intro b;show (b,r.length)::eg (b+r.length) (u++w)=_;rw[ih];show _=(b,r.length)::(eg (b+r.length) u++_);rw[List.flatten_cons,Qf,Nat.add_assoc]
theorem mU (u:List (List Keyed)):∀b,(eg b u).length=u.length:=by
 induction u with
 | nil=>intro b;rfl
 | cons r u ih=>intro b;show (eg _ u).length+1=_;rw[ih];rfl
structure RI (κ:KeyKind) (kd:SortKind) (a₀:Array Keyed) (st:SortSt) (rs:List (List Keyed)) (rest:List Keyed):Prop where
 arr:(arrOf st).toList=rs.flatten++rest
 perm:(arrOf st).Perm a₀
 ok:∀r∈rs,r≠[]/\r.Pairwise (le κ)
 pend:(pendingOf st).toList.map (λp=>(p.1,p.2.1))=eg 0 rs
 kind:kindOf st=kd
 fail:failedOf st=none
theorem uC {ps:Array (Nat × Nat × Nat)} {u v:List (List Keyed)} {X Y:List Keyed} (h:ps.toList.map (λp=>(p.1,p.2.1))=eg 0 (u++X::Y::v)) :
  ∃p1 p2,ps[u.length]?=some (u.flatten.length,X.length,p1)/\ps[u.length+1]?=some (u.flatten.length+X.length,Y.length,p2) /\
   ((ps.setIfInBounds u.length (u.flatten.length,X.length+Y.length,p1)).eraseIdxIfInBounds (u.length+1)).toList.map (λp=>(p.1,p.2.1))=eg 0 u++(u.flatten.length,X.length+Y.length)::eg (u.flatten.length+X.length+Y.length) v:=by
 rw[gc,Nat.zero_add]at h;have h:ps.toList.map (λp=>(p.1,p.2.1))=eg 0 u++(u.flatten.length,X.length)::(u.flatten.length+X.length,Y.length)::eg (u.flatten.length+X.length+Y.length) v:=h;have lu:=mU u 0;obtain⟨l1,l2,e,e1,e2⟩:=List.map_eq_append_iff.mp h
 cases l2 with
 | nil=>simp at e2
 | cons a l2 =>
 cases l2 with
 | nil=>simp at e2
 | cons b l2 =>
 obtain⟨a1,a2,a3⟩:=a;obtain⟨b1,b2,b3⟩:=b;simp only[QH,List.cons.injEq,Prod.mk.injEq]at e2;obtain⟨⟨rfl,rfl⟩,⟨rfl,rfl⟩,e3⟩:=e2;have l1l:l1.length=u.length:=by rw[<-lu,<-e1,Qa]
 have pe:ps=(l1++(u.flatten.length,X.length,a3)::(u.flatten.length+X.length,Y.length,b3)::l2).toArray:=by rw[<-e]
 subst pe;refine⟨a3,b3,?_,?_,?_⟩
 ·rw[<-l1l];simp
 ·rw[<-l1l];simp[Qs]
 rw[<-l1l,<-e1,<-e3];simp[Array.eraseIdxIfInBounds,List.set_append,List.eraseIdx_append];rw[QC (by exact zB)];simp
section
theorem ug {U:Type} {M:Model} {x:U} {Q:PUnit->U->Prop} {st:U} (h:Q ⟨⟩ x):wpS M A E s (set x:StateT U Sem PUnit) Q st:=by
 unfold wpS;rw[StateT.run_set];exact Qn ⟨rfl,h⟩
theorem gU (hL:gS κ kd prog w A s) {st:SortSt} {a₀:Array Keyed} {u v:List (List Keyed)} {X Y rest:List Keyed} {Q:Bool->SortSt->Prop} (ha:∀p∈a₀.toList,Hk κ p) (I:RI κ kd a₀ st (u++X::Y::v) rest)
  (h:∀Z st',Z.length=X.length+Y.length->RI κ kd a₀ st' (u++Z::v) rest->Q true st'):wpS (model prog w) A E s (mergeAt' u.length) Q st:=by
 obtain⟨earr,perm,ok,pend,kind,fail⟩:=I;obtain⟨p1,p2,e1,e2,e3⟩:=uC pend;obtain⟨xne,sx⟩:=ok X (by simp);obtain⟨yne,sy⟩:=ok Y (by simp);have xl:1<=X.length:=Nat.pos_of_ne_zero λz=>xne (Q5 z);have yl:1<=Y.length:=Nat.pos_of_ne_zero λz=>yne (Q5 z);have ha':∀p∈(arrOf st).toList,Hk κ p:=λp hp=>ha p ((Array.perm_iff_toList_perm.mp perm).mem_iff.mp hp);have earr:(arrOf st).toList=u.flatten++(X++(Y++(v.flatten++rest))):=by rw[earr];simp
 have sz:(arrOf st).size=u.flatten.length+(X.length+(Y.length+(v.flatten++rest).length)):=by rw[<-Qv,earr];simp only[Qf]
 have atX:∀i,i<X.length->(arrOf st)[u.flatten.length+i]?=X[i]?:=λi hi=>by rw[<-QA,earr,Qs (by exact sw),Xe,Qu hi]
 have atY:∀i,i<Y.length->(arrOf st)[u.flatten.length+X.length+i]?=Y[i]?:=λi hi=>by rw[<-QA,earr,Qs (by exact zw xl sz),Qs (by exact zu xl sz),show u.flatten.length+X.length+i-u.flatten.length-X.length=i by exact zt,Qu hi]
 obtain⟨y0,hy0⟩:∃y0,Y[0]?=some y0:=⟨Y[0],by rw[Qb]⟩;obtain⟨xz,hxz⟩:∃xz,X[X.length-1]?=some xz:=⟨X[X.length-1],by rw[Qb]⟩;have key0:(arrOf st)[u.flatten.length+X.length]?=some y0:=by have:=atY 0 (by exact sv yl);rw[Nat.add_zero]at this;rw[this,hy0]
 have pwi:∀{L:List Keyed},L.Pairwise (le κ)->∀{i j:Nat} {p q:Keyed},i<=j->L[i]?=some p->L[j]?=some q->le κ p q:=λ{L} sl {i j p q} hij hi hj=>by
  by_cases e:i=j
  ·subst e;rw[hi]at hj;cases hj;exact Xu _
  obtain⟨li,ei⟩:=Qc.mp hi;obtain⟨lj,ej⟩:=Qc.mp hj;have:=(List.pairwise_iff_getElem.mp sl) i j li lj (by exact yp hij e);rwa [ei,ej]at this
 have leY:∀q∈Y,le κ y0 q:=λq hq=>by
  obtain⟨j,hj,ej⟩:=Ql.mp hq;exact pwi sy (QO j) hy0 (by rw[Qb hj,ej])
 have leX:∀p∈X,le κ p xz:=λp hp=>by
  obtain⟨j,hj,ej⟩:=Ql.mp hp;exact pwi sx (show j<=X.length-1 by exact zq xl sz hj) (by rw[Qb hj,ej]) hxz
 have same:∀st',arrOf st'=arrOf st->kindOf st'=kindOf st->failedOf st'=failedOf st->(pendingOf st').toList.map (λp=>(p.1,p.2.1))=eg 0 u++(u.flatten.length,X.length+Y.length)::eg (u.flatten.length+X.length+Y.length) v->(∀p∈X,∀q∈Y,le κ p q)->Q true st':=λst' h1 h2 h3 h4 h5=>by
  refine h (X++Y) st' (by simp) ⟨by rw[h1,earr];simp,by rw[h1];exact perm,λr hr=>?_,?_,h2.trans kind,h3.trans fail⟩
  ·rcases Qy.mp hr with e|e
   ·exact ok r (by simp[e])
   rcases QQ.mp e with e|e
   ·subst e;exact⟨by simp[xne],Q3.mpr ⟨sx,sy,h5⟩⟩
   exact ok r (by simp[e])
  rw[h4,gc,Nat.zero_add];show _=_++(u.flatten.length,(X++Y).length)::eg (u.flatten.length+(X++Y).length) v;rw[Qf,Nat.add_assoc]
 unfold mergeAt';refine Qo (wpS_get ?_);show wpS _ _ _ _ (match ((pendingOf st)[u.length]?,(pendingOf st)[u.length+1]?) with|(some (sa,na,power),some (sb,nb,_))=>_|x=>_) _ _;rw[e1,e2];dsimp -zeta only;refine Qo (ug ?_);refine Qo (aX key0 ?_);have hk0:Hk κ y0:=ha' y0 (by rw[Array.mem_toList_iff];exact Array.mem_of_getElem? key0);refine Qo (e9 (a:=arrOf st) (base:=u.flatten.length) (n:=X.length) (hint:=0) hL (by exact kind) hk0 ha' (by exact zp yl sz) (λi j p q b1 b2 b3 c1 c2=>?_) (by exact zo xl sz) λk k1 k2 k3=>?_)
 ·have f1:=atX (i-u.flatten.length) (by omega);have f2:=atX (j-u.flatten.length) (by omega);rw[show u.flatten.length+(i-u.flatten.length)=i by exact zn b1,c1]at f1;rw[show u.flatten.length+(j-u.flatten.length)=j by exact zm b1 b2,c2]at f2;exact pwi sx (show i-u.flatten.length<=j-u.flatten.length by exact zk b1 b2) f1.symm f2.symm
 dsimp -zeta only;have k2':∀i,i<k->∀p,X[i]?=some p->le κ p y0:=λi hi p e=>lQ (k2 i hi p (by rw[atX i (by exact zj sz k1 hi)];exact e))
 have k3':∀i,k<=i->∀p,X[i]?=some p->le κ y0 p:=λi hi p e=>by
  have hl:=(Qc.mp e).1;exact lR (k3 i hi hl p (by rw[atX i hl];exact e))
 by_cases d1:X.length-k=0
 ·refine aL (bT d1) ?_;refine Qt (same _ rfl rfl rfl e3 λp hp q hq=>?_);obtain⟨j,hj,ej⟩:=Ql.mp hp;exact le_trans (k2' j (by omega) p (by rw[Qb hj,ej])) (leY q hq)
 refine aK (bF d1) ?_
 have keyz:(arrOf st)[u.flatten.length+k+(X.length-k)-1]?=some xz:=by
  rw[(xY (f:=u.flatten.length) k1).resolve_right (λz=>by rw[z]at xl;exact absurd xl (by decide)),atX _ (by exact zi xl sz),hxz]
 refine Qo (aX keyz ?_);have hkz:Hk κ xz:=ha' xz (by rw[Array.mem_toList_iff];exact Array.mem_of_getElem? keyz);refine Qo (e9 (a:=arrOf st) (base:=u.flatten.length+X.length) (n:=Y.length) (hint:=Y.length-1) hL (by exact kind) hkz ha' (by exact zh sz) (λi j p q b1 b2 b3 c1 c2=>?_) (by exact ql yl) λm m1 m2 m3=>?_)
 ·have f1:=atY (i-(u.flatten.length+X.length)) (by omega);have f2:=atY (j-(u.flatten.length+X.length)) (by omega);rw[show u.flatten.length+X.length+(i-(u.flatten.length+X.length))=i by omega,c1]at f1;rw[show u.flatten.length+X.length+(j-(u.flatten.length+X.length))=j by omega,c2]at f2;exact pwi sy (show i-(u.flatten.length+X.length)<=j-(u.flatten.length+X.length) by omega) f1.symm f2.symm
 dsimp -zeta only;have m2':∀i,i<m->∀p,Y[i]?=some p->le κ p xz:=λi hi p e=>lP (m2 i hi p (by rw[atY i (by exact v3 m1 hi)];exact e))
 have m3':∀i,m<=i->∀p,Y[i]?=some p->le κ xz p:=λi hi p e=>by
  have hl:=(Qc.mp e).1;exact lS (m3 i hi hl p (by rw[atY i hl];exact e))
 by_cases d2:m=0
 ·refine aL (bT d2) ?_;refine Qt (same _ rfl rfl rfl e3 λp hp q hq=>?_);obtain⟨j,hj,ej⟩:=Ql.mp hq;exact le_trans (leX p hp) (m3' j (by exact zg d2) q (by rw[Qb hj,ej]))
 refine aK (bF d2) ?_
 extract_lets x y jp
 have ex:x.toList=X.drop k:=by
  show ((arrOf st).extract (u.flatten.length+k) (u.flatten.length+X.length)).toList=_;rw[show u.flatten.length+X.length=(u.flatten.length+k)+(X.length-k) by omega,iu,earr,<-List.drop_drop,List.drop_left,List.drop_append_of_le_length (by exact wQ k1),List.take_append_of_le_length (by rw[QX];exact om1),Qr (by rw[QX];exact om1)]
 have ey:y.toList=Y.take m:=by
  show ((arrOf st).extract (u.flatten.length+X.length) (u.flatten.length+X.length+m)).toList=_;rw[iu,earr,<-List.drop_drop,List.drop_left,List.drop_left,List.take_append_of_le_length m1]
 have zx:x.size=X.length-k:=by rw[<-Qv,ex,QX]
 have zy:y.size=m:=by rw[<-Qv,ey,Qq];omega
 have atx:∀{i p},x[i]?=some p->X[k+i]?=some p:=λ{i p} e=>by rw[<-QA,ex,List.getElem?_drop]at e;exact e
 have aty:∀{i p},y[i]?=some p->Y[i]?=some p:=λ{i p} e=>by
  have hl:=(QZ.mp e).1;rw[<-QA,ey,List.getElem?_take,QB (by exact mR zy hl)]at e;exact e
 have inX:∀p∈x.toList,∃i,k<=i/\X[i]?=some p:=λp hp=>by
  obtain⟨i,hi,ei⟩:=Ql.mp hp;exact⟨k+i,by exact sw,atx (by rw[<-QA,Qb hi,ei])⟩
 have inY:∀p∈y.toList,∃i,i<m/\Y[i]?=some p:=λp hp=>by
  obtain⟨i,hi,ei⟩:=Ql.mp hp;rw[Qv]at hi;exact⟨i,by exact mR zy hi,aty (by rw[<-QA,Qb (by rw[Qv];exact hi),ei])⟩
 have mX:∀{p i},X[i]?=some p->p∈X:=λe=>Qh e
 have hx:∀p∈x.toList,Hk κ p:=λp hp=>by
  obtain⟨i,_,e⟩:=inX p hp;exact ha' p (by rw[earr];simp[Qh e])
 have hy:∀p∈y.toList,Hk κ p:=λp hp=>by
  obtain⟨i,_,e⟩:=inY p hp;exact ha' p (by rw[earr];simp[Qh e])
 have ssx:x.toList.Pairwise (le κ):=by rw[ex];exact sx.sublist (List.drop_sublist _ _)
 have ssy:y.toList.Pairwise (le κ):=by rw[ey];exact sy.sublist (List.take_sublist _ _)
 have first:∀p∈x.toList,∀q,y[0]?=some q->le κ q p:=λp hp q hq=>by
  obtain⟨i,hi,e⟩:=inX p hp;have:=aty hq;rw[hy0]at this;cases this;exact k3' i hi p e
 have last:∀q∈y.toList,∀p,x[x.size-1]?=some p->le κ q p:=λq hq p hp=>by
  obtain⟨i,hi,e⟩:=inY q hq;have:=atx hp;rw[xX k1 d1 zx,hxz]at this;cases this;exact m2' i hi q e
 refine fW (λz:Array Keyed=>jp z) (λz st'=>Gs (setPending st (((pendingOf st).setIfInBounds u.length (u.flatten.length,X.length+Y.length,p1)).eraseIdxIfInBounds (u.length+1))) st'/\Srt κ (x.toList++y.toList) z.toList) (λz st1 hz=>?_) (λJ=>?_)
 ·obtain⟨g,so⟩:=hz;refine Qo (wpS_modify ?_);refine Qo (wpS_get ?_);have f1:failedOf st1=none:=g.fail.trans fail;have lz:z.toList.length=(X.length-k)+m:=by rw[so.1.length_eq,Qf,Qv,Qv,zx,zy]
  have ar:(List.foldl (λa (x:Keyed × Nat)=>a.setIfInBounds (u.flatten.length+k+x.snd) x.fst) (arrOf st1) z.toList.zipIdx).toList=u.flatten++((X.take k++(z.toList++Y.drop m))++(v.flatten++rest)):=by
   rw[mL (u.flatten.length+k) z.toList 0 (arrOf st1) (u.flatten++X.take k) (X.drop k++Y.take m) (Y.drop m++(v.flatten++rest)) ?_ ?_ ?_]
   ·simp only[Q2]
   ·rw[show arrOf st1=arrOf st from g.arr,earr]
    conv=>lhs;rw[<-QU k X,<-QU m Y]
    simp only[Q2]
   ·rw[Qf,Qq];exact ze sz k1
   rw[lz,Qf,QX,Qq];exact zd m1 zy
  have pz:(X.take k++(z.toList++Y.drop m)).Perm (X++Y):=by
   conv=>rhs;rw[<-QU k X,<-QU m Y]
   rw[Q2];refine List.Perm.append_left _ ?_;rw[<-Q2];refine List.Perm.append_right _ ?_;rw[<-ex,<-ey];exact so.1
  have mz:∀p∈z.toList,(∃i,k<=i/\X[i]?=some p)\/∃i,i<m/\Y[i]?=some p:=λp hp=>by
   rcases Qy.mp (so.1.mem_iff.mp hp) with e|e
   ·exact .inl (inX p e)
   exact .inr (inY p e)
  have tk:∀p∈X.take k,∃i,i<k/\X[i]?=some p:=λp hp=>by
   obtain⟨i,hi,ei⟩:=Ql.mp hp;have:=Qb hi;rw[ei,List.getElem?_take]at this;rw[Qq]at hi;rw[QB (by omega)]at this;exact⟨i,by omega,this⟩
  have dm:∀p∈Y.drop m,∃i,m<=i/\Y[i]?=some p:=λp hp=>by
   obtain⟨i,hi,ei⟩:=Ql.mp hp;have:=Qb hi;rw[ei,List.getElem?_drop]at this;exact⟨m+i,by exact sw,this⟩
  have sz':(X.take k++(z.toList++Y.drop m)).Pairwise (le κ):=by
   refine Q3.mpr ⟨sx.sublist (List.take_sublist _ _),Q3.mpr ⟨so.2,sy.sublist (List.drop_sublist _ _),λp hp q hq=>?_⟩,λp hp q hq=>?_⟩
   ·obtain⟨j,hj,ej⟩:=dm q hq;rcases mz p hp with⟨i,hi,ei⟩|⟨i,hi,ei⟩
    ·exact le_trans (leX p (mX ei)) (m3' j hj q ej)
    exact pwi sy (by exact zc zy hj hi) ei ej
   obtain⟨i,hi,ei⟩:=tk p hp;rcases Qy.mp hq with e|e
   ·rcases mz q e with⟨j,hj,ej⟩|⟨j,hj,ej⟩
    ·exact pwi sx (by exact zb hi hj) ei ej
    exact le_trans (k2' i hi p ei) (leY q (Qh ej))
   obtain⟨j,hj,ej⟩:=dm q e;exact le_trans (k2' i hi p ei) (leY q (Qh ej))
  have fin:∀st',arrOf st'=List.foldl (λa (x:Keyed × Nat)=>a.setIfInBounds (u.flatten.length+k+x.snd) x.fst) (arrOf st1) z.toList.zipIdx->kindOf st'=kindOf st1->failedOf st'=failedOf st1->pendingOf st'=pendingOf st1->Q true st':=λst' h1 h2 h3 h4=>by
   refine h (X.take k++(z.toList++Y.drop m)) st' (by rw[pz.length_eq,Qf]) ⟨?_,?_,λr hr=>?_,?_,h2.trans (g.kind.trans kind),h3.trans f1⟩
   ·rw[h1,ar];simp
   ·refine Array.Perm.trans ?_ perm;rw[Array.perm_iff_toList_perm,h1,ar,earr];refine List.Perm.append_left _ ?_;rw[<-Q2 X];exact List.Perm.append_right _ pz
   ·rcases Qy.mp hr with e|e
    ·exact ok r (by simp[e])
    rcases QQ.mp e with e|e
    ·subst e;refine⟨λz0=>?_,sz'⟩;have:=pz.length_eq;rw[z0,Qf]at this;simp at this;omega
    exact ok r (by simp[e])
   rw[h4,show pendingOf st1=_ from g.pend];rw[gc,Nat.zero_add];show _=_++(u.flatten.length,(X.take k++(z.toList++Y.drop m)).length)::eg (u.flatten.length+(X.take k++(z.toList++Y.drop m)).length) v;rw[pz.length_eq,Qf,<-Nat.add_assoc];exact e3
  refine Qt ?_;show Q (failedOf st1).isNone (setArr st1 (List.foldl (λa (x:Keyed × Nat)=>a.setIfInBounds (u.flatten.length+k+x.snd) x.fst) (arrOf st1) z.toList.zipIdx));rw[show (failedOf st1).isNone=true by rw[f1];rfl];exact fin _ rfl rfl rfl rfl
 by_cases d3:X.length-k<=m
 ·refine aL d3 ?_;refine Qo (l6 hL (by exact kind) hx hy (by omega) (by omega) ⟨by simp,List.Pairwise.nil,ssx,ssy,λp hp=>(nomatch hp),λp hp=>(nomatch hp),λq hq l hl=>last q hq l ?_⟩ first λr st' g so=>J r st' ⟨g,so⟩);rw[List.getLast?_eq_getElem?,QA,Qv]at hl;exact hl
 refine aK d3 ?_;exact Qo (l9 hL (by exact kind) hx hy (by omega) (by omega) ssx ssy first last λr st' g so=>J r st' ⟨g,so⟩)
end
section
variable {xs a₀:Array Keyed}
theorem uo {lo n:Nat} (h:Up κ xs lo n) (hn:lo+n<=xs.size):((xs.toList.drop lo).take n).Pairwise (le κ):=by
 rw[List.pairwise_iff_getElem];intro i j hi hj hij;rw[Qq,QX,Qv]at hi hj
 have at_:∀(m:Nat) (hm:m<((xs.toList.drop lo).take n).length),kv κ ((xs.toList.drop lo).take n)[m]=KK κ xs (lo+m):=λm hm=>by
  have e:=Qb hm;rw[Qq,QX,Qv]at hm;rw[List.getElem?_take,QB (by exact vZ hm),List.getElem?_drop,QA]at e;exact(s_ e).symm
 unfold le;rw[at_,at_];exact h i j (by exact sE hij) (by exact vZ hj)
variable {rs:List (List Keyed)}
theorem mP {st:SortSt} {rest:List Keyed} (I:RI κ kd a₀ st rs rest):(pendingOf st).size=rs.length:=by
 have:=congrArg List.length I.pend;rwa [Qa,mU,Qv]at this
theorem rJ {rs:List (List Keyed)} {i:Nat} (h:i+1<rs.length):∃u X Y v,rs=u++X::Y::v/\u.length=i:=by
 refine⟨rs.take i,rs[i],rs[i+1],rs.drop (i+2),?_,by rw[Qq];exact za h⟩;rw[<-Xg,<-Xg,QU]
theorem RI.seg {st st2:SortSt} {rest:List Keyed} (I:RI κ kd a₀ st rs rest) (g:Sg rs.flatten.length st st2):RI κ kd a₀ st2 rs ((arrOf st2).toList.drop rs.flatten.length):=by
 refine⟨?_,g.perm.trans I.perm,I.ok,by rw[g.pend];exact I.pend,g.kind.trans I.kind,g.fail.trans I.fail⟩
 have:(arrOf st2).toList.take rs.flatten.length=rs.flatten:=by
  refine List.ext_getElem? λi=>?_;rw[List.getElem?_take]
  split
  ·rename_i hi
   rw[QA,g.head i hi,<-QA,I.arr,Qu hi]
  rename_i hi
  rw[Xk (by exact om2 hi)]
 conv=>lhs;rw[<-QU rs.flatten.length (arrOf st2).toList]
 rw[this]
variable {ps:Array (Nat × Nat × Nat)}
theorem RI.power {st:SortSt} {rest:List Keyed} (I:RI κ kd a₀ st rs rest) (h:ps.toList.map (λp=>(p.1,p.2.1))=(pendingOf st).toList.map (λp=>(p.1,p.2.1))):RI κ kd a₀ (setPending st ps) rs rest :=
 ⟨I.arr,I.perm,I.ok,h.trans I.pend,I.kind,I.fail⟩
theorem oi {i pw:Nat}:(ps.modify i λx=>match x with|(st,len,_)=>(st,len,pw)).toList.map (λp=>(p.1,p.2.1))=ps.toList.map (λp=>(p.1,p.2.1)):=by
 refine List.ext_getElem? λj=>?_;rw[Qm,Qm,QA,QA,Array.getElem?_modify]
 split
 ·cases ps[j]? with
  | none=>rfl
  | some p=>rfl
 rfl
theorem rf (hL:gS κ kd prog w A s) {st:SortSt} {a₀:Array Keyed} {Q:Unit->SortSt->Prop} (ha:∀p∈a₀.toList,Hk κ p) (I:RI κ kd a₀ st [] a₀.toList)
  (h:∀st',(arrOf st').Perm a₀->failedOf st'=none->(arrOf st').toList.Pairwise (le κ)->Q () st'):wpS (model prog w) A E s sortRuns' Q st:=by
 have ha2:∀{st:SortSt} {rs:List (List Keyed)} {rest:List Keyed},RI κ kd a₀ st rs rest->∀p∈(arrOf st).toList,Hk κ p:=λI p hp=>ha p ((Array.perm_iff_toList_perm.mp I.perm).mem_iff.mp hp)
 have sz:∀{st:SortSt} {rs:List (List Keyed)} {rest:List Keyed},RI κ kd a₀ st rs rest->(arrOf st).size=a₀.size/\a₀.size=rs.flatten.length+rest.length:=λI=>by
  have:=I.perm.size_eq;refine⟨this,?_⟩;rw[<-this,<-Qv,I.arr,Qf]
 unfold sortRuns';refine Qo (wpS_get ?_)
 extract_lets szv mr lo0
 have ez:szv=a₀.size:=(sz I).1
 clear_value szv mr
 subst ez;refine Qo (wpS_mono (Xi (I:=λx c st'=>∃rs rest,c=(none,rs.flatten.length)/\RI κ kd a₀ st' rs rest/\(x<=rs.flatten.length\/rest=[])) (Q:=λc st'=>∃rs lo,c=(none,lo)/\RI κ kd a₀ st' rs []) ?step ?fin ⟨[],_,rfl,I,.inl (QO _)⟩) ?post)
 case fin =>
  rintro c st' ⟨rs,rest,rfl,J,o⟩;have:=(sz J).2
  have e:rest=[]:=by
   rcases o with o|o
   ·exact Q5 (by exact y_ this o)
   exact o
  subst e;exact⟨rs,_,rfl,J⟩
 case step =>
  rintro x c st' _ hx ⟨rs,rest,rfl,J,o⟩;have zz:=(sz J).2;have zs:=(sz J).1;generalize hlo:rs.flatten.length=lo at *;by_cases c1:lo>=a₀.size
  ·show wpS _ _ _ _ (if lo>=a₀.size then _ else _) _ _;refine aL c1 ?_;have e:rest=[]:=Q5 (by exact y9 zs zz c1);subst e;exact Qt ⟨rs,_,rfl,J⟩
  show wpS _ _ _ _ (if lo>=a₀.size then _ else _) _ _;refine aK c1 ?_
  have xlo:x<=lo:=by
   rcases o with o|o
   ·exact o
   subst o;simp at zz;exact y8 zs c1 zz
  refine Qo (pZ (lo:=lo) (nrem:=a₀.size-lo) hL J.kind (ha2 J) (by exact y6 zs zz c1) (by exact y3 zs zz c1) λm st1 g1 m1 m2 up=>?_);dsimp -zeta only
  extract_lets n jp
  refine fW (λz:Nat=>jp () z) (λz st2=>Sg lo st' st2/\1<=z/\lo+z<=a₀.size/\Up κ (arrOf st2) lo z) (λn st2 hz=>?_) (λJJ=>?_)
  ·obtain⟨g2,n1,n2,up2⟩:=hz;have J2:=J.seg (by rw[hlo];exact g2);rw[hlo]at J2;have z2:=(sz J2).2;have up3:=uo up2 (by rw[(sz J2).1];exact n2);generalize hr2:(arrOf st2).toList.drop lo=rest2 at J2 up3 z2;rw[hlo]at z2;refine Qo (wpS_get ?_)
   extract_lets ln jp2
   refine fW (λ_:Unit=>jp2 ()) (λ_ st3=>∃rs3,RI κ kd a₀ st3 rs3 rest2/\rs3.flatten.length=lo) (λ_ st3 hz=>?_) (λJP=>?_)
   ·obtain⟨rs3,J3,l3⟩:=hz;refine Qo (wpS_modify ?_);refine Qt ⟨rs3++[rest2.take n],rest2.drop n,?_,⟨?_,J3.perm,λr hr=>?_,?_,J3.kind,J3.fail⟩,.inl ?_⟩
    ·have:(rs3++[rest2.take n]).flatten.length=lo+n:=by rw[List.flatten_append,Qf,l3];simp;omega
     rw[this]
    ·rw[List.flatten_append];show (arrOf st3).toList=_;rw[J3.arr];simp
    ·rcases Qy.mp hr with e|e
     ·exact J3.ok r e
     have e:r=rest2.take n:=by simpa using e
     subst e;refine⟨λz0=>?_,up3⟩;have:=congrArg List.length z0;rw[Qq,Q8]at this;omega
    ·show ((pendingOf st3).push (lo,n,0)).toList.map _=_;rw[Array.toList_push,Qz,J3.pend,gc,Nat.zero_add,l3];show _=_++[(lo,(rest2.take n).length)];rw[Qq,show min n rest2.length=n by omega];rfl
    have:(rs3++[rest2.take n]).flatten.length=lo+n:=by rw[List.flatten_append,Qf,l3];simp;omega
    exact yZ xlo n1 l3 this
   cases hb:(pendingOf st2).back? with
   | none=>exact JP () st2 ⟨rs,J2,hlo⟩
   | some p =>
   obtain⟨s1,l1,pw1⟩:=p;dsimp -zeta only
   extract_lets pw
   refine Qo (wpS_mono (Xi (I:=λ_ c st3=>c=(none,())/\∃rs3,RI κ kd a₀ st3 rs3 rest2/\rs3.flatten.length=lo) (Q:=λc st3=>c=(none,())/\∃rs3,RI κ kd a₀ st3 rs3 rest2/\rs3.flatten.length=lo) ?_ (λ_ _ z=>z) ⟨rfl,rs,J2,hlo⟩) ?_)
   ·rintro y c st3 _ _ ⟨rfl,rs3,J3,l3⟩;have pl:=mP J3;refine Qo (wpS_get ?_);show wpS _ _ _ _ (match (if (pendingOf st3).size>1 then (pendingOf st3)[(pendingOf st3).size-2]? else none) with|some (_,_,older)=>_|x=>_) _ _;by_cases c2:(pendingOf st3).size>1
    ·rw[QB c2];obtain⟨q,hq⟩:∃q,(pendingOf st3)[(pendingOf st3).size-2]?=some q:=⟨(pendingOf st3)[(pendingOf st3).size-2],by rw[Xp]⟩;rw[hq];obtain⟨q1,q2,older⟩:=q;dsimp -zeta only;by_cases c3:older<=pw
     ·refine aL c3 ?_;exact Qt ⟨rfl,rs3,J3,l3⟩
     refine aK c3 ?_;obtain⟨u,X,Y,v,rfl,ul⟩:=rJ (rs:=rs3) (i:=(pendingOf st3).size-2) (by exact yY pl c2);rw[<-ul];refine Qo (gU hL ha J3 λZ st4 lz J4=>?_);refine aK Qj ?_;refine Qt ⟨rfl,_,J4,?_⟩;rw[<-l3];simp;exact yX lz
    rw[QC c2];exact Qt ⟨rfl,rs3,J3,l3⟩
   rintro c st3 ⟨rfl,rs3,J3,l3⟩;refine Qo (wpS_modify ?_);exact JP () _ ⟨rs3,J3.power oi,l3⟩
  have z1:=g1.size;by_cases c2:n<mr
  ·refine aL c2 ?_;refine Qo (wpS_lift (wpAny_rule ⟨rfl,?_⟩));have en:n=m:=rfl;refine Qo (uh (lo:=lo) (n:=min (a₀.size-lo) mr) (ok:=m) hL (g1.kind.trans J.kind) (g1.keys (ha2 J)) (by omega) (by omega) up λst2 g2 up2=>?_);refine aK Qj ?_;exact JJ _ st2 ⟨g1.trans g2,by omega,by omega,up2⟩
  refine aK c2 ?_;exact JJ m st1 ⟨g1,m1,by omega,up⟩
 case post =>
  rintro c st1 ⟨rs,lo,rfl,J⟩;have zz:=(sz J).2
  have short:∀(rs:List (List Keyed)),(∀r∈rs,r≠[]/\r.Pairwise (le κ))->rs.length<=rs.flatten.length:=λrs=>by
   induction rs with
   | nil=>intro _;simp
   | cons r rs ih =>
   intro hr;have h1:=(hr r (by simp)).1;have h2:=ih λr' h'=>hr r' (by simp[h']);have:r.length≠0:=λe=>h1 (Q5 e);rw[List.flatten_cons,Qf,QK];exact yW h2 this
  have len0:=short rs J.ok;simp only[Q8,Nat.add_zero]at zz;refine Qo (wpS_mono (Xi (I:=λx c st'=>c=(none,())/\∃rs,RI κ kd a₀ st' rs []/\rs.length+x<=a₀.size+1) (Q:=λc st'=>c=(none,())/\∃rs,RI κ kd a₀ st' rs []/\rs.length<=1) ?_ ?_ ⟨rfl,rs,J,by exact yV zz len0⟩) ?_)
  ·rintro x c st' _ hx ⟨rfl,rs,J,l⟩;have pl:=mP J;refine Qo (wpS_get ?_);show wpS _ _ _ _ (if (pendingOf st').size<=1 then _ else _) _ _;by_cases c2:(pendingOf st').size<=1
   ·refine aL c2 ?_;exact Qt ⟨rfl,rs,J,by exact yU pl c2⟩
   refine aK c2 ?_
   extract_lets i bf j
   have hj:j+1<rs.length:=by
    have h1:j=i-1\/j=i:=by
     show (if _ then i-1 else i)=i-1\/(if _ then i-1 else i)=i
     split
     ·exact .inl rfl
     exact .inr rfl
    exact xV h1 c2 pl
   obtain⟨u,X,Y,v,rfl,ul⟩:=rJ hj
   clear_value j
   subst ul;refine Qo (gU hL ha J λZ st4 lz J4=>?_);refine aK Qj ?_;refine Qt ⟨rfl,_,J4,?_⟩;simp only[Qf,QK]at l ⊢;omega
  ·rintro c st' ⟨rfl,rs,J,l⟩;exact⟨rfl,rs,J,by exact yT zz l⟩
  rintro c st' ⟨rfl,rs,J,l⟩;refine Qt (h st' J.perm J.fail ?_);rw[J.arr,Xn]
  match rs,l,J.ok with
  | [],_,_=>exact List.Pairwise.nil
  | [r],_,ok=>simpa using(ok r (by simp)).2
end
end Tm
namespace Tm
open PySem PySem.Spec PyProof.Rows
def leV (κ:PyProof.Rows.KeyKind) (u v:Value):Prop:=le κ (u,u) (v,v)
theorem l4 {vs:List Value} {p:Keyed} (h:p∈vs.zip vs):p.1=p.2/\p.1∈vs:=by
 obtain⟨i,hi,e⟩:=Ql.mp h;rw[List.getElem_zip]at e;subst e;exact⟨rfl,List.getElem_mem _⟩
theorem sn {κ:PyProof.Rows.KeyKind} {vs:List Value} {xs:Array Keyed} (hp:xs.Perm (pairsOf vs)) (hs:xs.toList.Pairwise (le κ)):((xs.map (·.2)).toList).Perm vs/\((xs.map (·.2)).toList).Pairwise (leV κ):=by
 have hl:xs.toList.Perm (vs.zip vs):=by rw[<-pairsOf_toList];exact Array.perm_iff_toList_perm.mp hp
 have self:∀p∈xs.toList,p.1=p.2:=λp h=>(l4 (hl.mem_iff.mp h)).1
 have e:vs=(vs.zip vs).map (·.2):=by
  rw[List.map_snd_zip];exact Qg _
 refine⟨?_,?_⟩
 ·rw[Array.toList_map]
  conv=>rhs;rw[e]
  exact hl.map _
 rw[Array.toList_map,List.pairwise_map];refine hs.imp_of_mem λ{a b} ha hb h=>?_;have h1:=self a ha;have h2:=self b hb;unfold leV le kv at *;rw[<-h1,<-h2];exact h
section
variable {prog:Program} {w:World} {A:Around} {E:C0} {s:Shared}
structure Can (prog:Program) (w:World) (κ:PyProof.Rows.KeyKind) (kd:SortKind) (h:Heap) (a:Addr) (vs:List Value):Prop where
 key:∀v∈vs,∃x,κ.keyOf v=some x
 lt:∀(A:Around) (s:Shared),(∀b o,b≠a->h.get? b=some o->s.heap.get? b=some o)->gS κ kd prog w A s
 kind:2<=vs.length->∀(A:Around) (E:C0) (s:Shared) (Q:SortKind->Shared->Prop),(∀b o,b≠a->h.get? b=some o->s.heap.get? b=some o)->Q kd s->wpAny (model prog w) A (keyKind' vs.toArray) Q E s
variable {vs:List Value} {a b d:Addr}
theorem oq {κ:PyProof.Rows.KeyKind} {kd:SortKind} {n:Nat} {P:Fin->Shared->Prop} (ho:s.heap.get? a=some (seqObj "list" vs.toArray n)) (c:Can prog w κ kd s.heap a vs) (hn:vs.length<=100000)
  (h:∀out:Array Value,out.toList.Perm vs->out.toList.Pairwise (leV κ)->P (.done (.ret .none)) { s with heap:=sortedHeap s.heap a vs out }):wpAny (model prog w) A (Builtin.«list.sort» ⟨[.ref a],[]⟩) P E s:=by
 rw[list_sort_plain];have ha:a<s.heap.objs.size:=Qk ho;refine Qe (listItems_at ho rfl (Qe (listUpdate_at ho rfl ?_)));obtain⟨e1,ho1⟩:∃e1,(s.heap.update a (Obj.mapSeq λ_=>#[])).get? a=some (seqObj "list" #[] e1):=⟨_,get?_update_seq ho (λ_=>#[])⟩;refine Qe (seqEpoch_at ho1 rfl (Qe (wpAny_newTuple (Qe (wpAny_newList (Q9 ?_))) (by rw[sizeLine_eq];show vs.length<=_;exact vY hn))))
 have keep:∀b o,b≠a->s.heap.get? b=some o->(((s.heap.update a (Obj.mapSeq λ_=>#[])).push (seqObj "tuple" vs.toArray 0)).push (seqObj "list" #[] 0)).get? b=some o:=λb o hb e =>
  Qd _ (Qd _ ((Heap.get?_update_other _ _ (Xs hb)).trans e))
 have ho6:(((s.heap.update a (Obj.mapSeq λ_=>#[])).push (seqObj "tuple" vs.toArray 0)).push (seqObj "list" #[] 0)).get? a=some (seqObj "list" #[] e1):=Qd _ (Qd _ ho1);show wpAny (model prog w) A _ P E { s with heap:=((s.heap.update a (Obj.mapSeq λ_=>#[])).push (seqObj "tuple" vs.toArray 0)).push (seqObj "list" #[] 0) };dsimp only;have zs:vs.toArray.size=vs.length:=by simp
 by_cases c2:vs.toArray.size<2
 ·rw[QB c2,QB c2];refine Qe (Qn ?_);rw[StateT.run_pure];refine Qe (Qn (Qe (seqEpoch_at ho6 rfl (Qe (listUpdate_at ho6 rfl ?_ (hsz2:=by rw[Array.size_map];show (pairsOf vs).size<=_;rw[pairsOf_size,sizeLine_eq];exact yS hn zs c2))))));simp only[bne_self_eq_false,QP,if_false]
  have sh:(pairsOf vs).toList.Pairwise (le κ):=by
   rw[pairsOf_toList]
   match vs,zs,c2 with
   | [],_,_=>exact List.Pairwise.nil
   | [v],_,_=>exact List.pairwise_singleton _ _
   | v::u::r,zs,c2=>exact absurd c2 (by simp)
  obtain⟨p1,p2⟩:=sn (Array.Perm.refl _) sh;exact Qn (h _ p1 p2)
 rw[QC c2,QC c2];refine Qe (c.kind (by exact yR hn zs c2) _ _ _ _ keep ?_)
 refine Qe (Xj (rf (κ:=κ) (kd:=kd) (a₀:=pairsOf vs) (st:=SortSt.mk' kd (vs.toArray.zip vs.toArray) #[] 7 none) (Q:=λ_ st'=>(arrOf st').Perm (pairsOf vs)/\failedOf st'=none/\(arrOf st').toList.Pairwise (le κ))
  (c.lt _ _ keep) (λp hp=>?_) ⟨rfl,Array.Perm.refl _,λr hr=>(nomatch hr),rfl,rfl,rfl⟩ λst' a1 a2 a3=>⟨a1,a2,a3⟩) ?_ λ_ _ e=>e)
 ·rw[pairsOf_toList]at hp;exact c.key _ (l4 hp).2
 rintro⟨⟨⟩,st'⟩ s' ⟨rfl,hp,hf,hs⟩;dsimp only;refine Qe (seqEpoch_at ho6 rfl (Qe (listUpdate_at ho6 rfl ?_ (hsz2:=by refine QM (Nat.le_of_eq ((Array.size_map ..).trans (hp.size_eq.trans (pairsOf_size _)))) ?_;rw[sizeLine_eq];exact yQ hn zs c2))));rw[hf];simp only[bne_self_eq_false,QP,if_false];obtain⟨p1,p2⟩:=sn hp hs;exact Qn (h _ p1 p2)
theorem iN {h:Heap} {out:Array Value} {o:Obj} (hb:b≠a) (e:h.get? b=some o):(sortedHeap h a vs out).get? b=some o:=by
 unfold sortedHeap;exact(Heap.get?_update_other _ _ (Xs hb)).trans (Qd _ (Qd _ ((Heap.get?_update_other _ _ (Xs hb)).trans e)))
theorem jH {h:Heap} {vs:List Value} {out:Array Value} {n:Nat} (e:h.get? a=some (seqObj "list" vs.toArray n)):∃m,(sortedHeap h a vs out).get? a=some (seqObj "list" out m):=by
 unfold sortedHeap;exact⟨_,get?_update_seq (Qd _ (Qd _ (get?_update_seq e (λ_=>#[])))) (λ_=>out)⟩
theorem gv {κ:Heap->PyProof.Rows.KeyKind} {kd:SortKind} {r:Value} {Q:C0} {G:Heap->List Value->Prop}
  (col:∀(A:Around) (E:C0) (R:List Value->Shared->Prop),A.handled=none->(∀h' tk vs,(∀b o,s.heap.get? b=some o->h'.get? b=some o)->s.heap.objs.size<=h'.objs.size->G h' vs->R vs { s with heap:=h',toks:=tk })->wpAny (model prog w) A (collect r) R E s)
  (hh:A.handled=none) (can:∀h' vs D,(∀b o,s.heap.get? b=some o->h'.get? b=some o)->G h' vs->D=h'.objs.size->vs.length<=100000/\Can prog w (κ h') kd (h'.push (seqObj "list" vs.toArray 0)) D vs)
  (h:∀D h' tk vs h1 (out:Array Value) m,(∀b o,s.heap.get? b=some o->h1.get? b=some o)->G h1 vs->(∀b o,h1.get? b=some o->h'.get? b=some o)->s.heap.objs.size<=D->h1.objs.size<=D->h'.get? D=some (seqObj "list" out m)->out.toList.Perm vs->out.toList.Pairwise (leV (κ h1))->Q (.ref D) { s with heap:=h',toks:=tk }) :
  wpAny (model prog w) A (call (.builtin "sorted") [r]) Q E s:=by
 refine Calls.call_function_entry kind_sorted plain_sorted entry_sorted (args_sorted1 _) ?_;unfold Builtin.«sorted»;refine Qe (m:=checkCount "sorted" 1 1 _) (Qn ?_);refine Qe (col A.in1 E _ hh λh1 tk vs k1 z1 g1=>?_);obtain⟨len,_⟩:=can h1 vs h1.objs.size k1 g1 rfl;refine Qe (wpAny_newList ?_ (by rw[sizeLine_eq];exact vY len));obtain⟨_,cn⟩:=can h1 vs h1.objs.size k1 g1 rfl;have hoL:(h1.push (seqObj "list" vs.toArray 0)).get? h1.objs.size=some (seqObj "list" vs.toArray 0):=Qw _ rfl;refine Qe (Q9 (wpAny_call_entry (s:={ s with heap:=h1.push (seqObj "list" vs.toArray 0),toks:=tk }) slot_list_sort ⟨_,hoL,rfl⟩ entry_list_sort (oq hoL cn len λout p1 p2=>⟨_,rfl,?_⟩) (args_list_sort _)));obtain⟨m,at'⟩:=jH (vs:=vs) (out:=out) hoL;exact Qn ⟨_,rfl,h _ _ _ vs h1 out m k1 g1 (λb o e=>iN (QE (Qk e)) (Qd _ e)) z1 (Qg _) at' p1 p2⟩
theorem tX {T:String} {r:Addr} {n:Nat} {P:Nat->Value->Prop} {OK:Heap->Prop} {R:List Value->Shared->Prop} (K:PySem.W.KdlSrc prog w T r d n P OK) (hh:A.handled=none) (ok:OK s.heap) (hn:n<=sizeLine)
  (h:∀(g:Heap) (tk:Nat) (acc:Array Value),(∀b o,s.heap.get? b=some o->g.get? b=some o)->s.heap.objs.size<=g.objs.size->PySem.ItemsOf P acc n->R acc.toList { s with heap:=g,toks:=tk }):wpAny (model prog w) A (collect (.ref r)) R E s:=by
 obtain⟨l1,l2⟩:=K.there _ ok;unfold collect;refine Qe (wpAny_runValue (codeAny_builtin entry_proto_collect' ?_));rw[Around.under_plainId PySem.F.plain_proto_collect _];refine Qe (wpAny_newObj_type (Qn ⟨plainId_quiet PySem.F.plain_list_iadd _,codeAny_builtin entry_list_iadd' ?_⟩));rw[Around.under_plainId PySem.F.plain_list_iadd _]
 refine Xj (PySem.W.kdl_extend (A:=A) (s:={ s with heap:=s.heap.push { cls:=.type "list", data:=.seq ([]:List Value).toArray } }) (R:=λq s'=>∃(g:Heap) (tk:Nat) (acc:Array Value) (c:Nat),q=.ok (.ret (.ref s.heap.objs.size))/\s'={ s with heap:=g,toks:=tk } /\
   (∀b o,s.heap.get? b=some o->g.get? b=some o)/\g.get? s.heap.objs.size=some { cls:=.type "list", dict:=none,data:=.seq acc c,slots:=#[] }/\PySem.ItemsOf P acc n)
  K hh (K.keep _ _ ok λb _ o e=>Qd _ e) s.heap.objs.size (Nat.ne_of_gt l1) (Nat.ne_of_gt l2) (.ref s.heap.objs.size) 0 (Qw _ rfl)
  (λg tk acc c k at' it=>⟨g,tk,acc,c,rfl,rfl,λb o e=>k b o (QE (Qk e)) (Qd _ e),at',it⟩) hn) (λfn s' x=>?_) λe s' x=>?_
 ·cases fn with
  | done f =>
   obtain⟨g,tk,acc,c,e,rfl,k,at',it⟩:=x;cases e;exact Qe (wpAny_load at' (Qn (h g tk acc k (Xr (Qk at')) it)))
  | again c1 =>
   refine⟨x.1,codeAny_mono x.2 λq s2 y=>?_⟩;obtain⟨g,tk,acc,c,rfl,rfl,k,at',it⟩:=y;exact Qe (wpAny_load at' (Qn (h g tk acc k (Xr (Qk at')) it)))
 obtain⟨_,_,_,_,z,_⟩:=x;cases z
theorem nu {h:Heap} {ss:List Str} (hS:StrsAre vs ss):Can prog w PyProof.Rows.strKind oneType' h a vs where
 key v hv:=by
  obtain⟨x,t,e⟩:=hS.all v hv;exact⟨x.cps.toList,by rw[e]⟩
 lt A s _:=λE x y a b Q ha hb hq=>by rw[keyLt'_oneType];exact strKind_oneLt prog w A E s x y a b ha hb hq
 kind h2 A E s Q _ hq:=by
  match vs,hS,h2 with
  | v₁::v₂::rest,hS,_=>rw[keyKind_strs hS];exact Qn hq
end
end Tm
set_option maxHeartbeats 4000000
namespace L2
open PySem PySem.Spec PyProof.Rows
def leT (a b:Str):Prop:=¬(b.cps.toList<a.cps.toList)
theorem nM {ts:List Str} {out:List Value}:∀{us:List Value},StrsAre us ts->out.Perm us->out.Pairwise (Tm.leV PyProof.Rows.strKind)->∃ss,StrsAre out ss/\ss.Perm ts/\ss.Pairwise leT:=λ{us} h p s=>by
 have all:∀v∈out,∃x t,v=.str x t:=λv hv=>h.all v (p.mem_iff.mp hv);refine⟨out.map strOf,strsAre_map out all,by rw[<-h.strs];exact p.map _,?_⟩;rw[List.pairwise_map];refine s.imp_of_mem λ{a b} ha hb q=>?_;obtain⟨x,t,rfl⟩:=all a ha;obtain⟨y,u,rfl⟩:=all b hb;have q:decide (y.cps.toList<x.cps.toList)=false:=q;show ¬(y.cps.toList<x.cps.toList);simpa using q
theorem iE:∀{ys:List Str} {us:List Value},StrsAre us ys->ba (ys.map V.str) us
 | _,_,.nil=>.nil
 | _,_,.cons x t h=>.cons ⟨t,rfl⟩ (iE h)
theorem oV:∀{as:List Value} {ss:List Str},as.length=ss.length->(∀(j:Nat) v,as[j]?=some v->∃x t,ss[j]?=some x/\v=.str x t)->StrsAre as ss
 | [],[],_,_=>.nil
 | [],_::_,h,_=>by simp at h
 | _::_,[],h,_=>by simp at h
 | a::as,x::ss,h,f=>by
  obtain⟨y,t,e1,e2⟩:=f 0 a rfl;cases e1;subst e2;exact .cons x t (oV (by simpa using h) λj v e=>by obtain⟨y,t,e1,e2⟩:=f (j+1) v (by simpa using e);exact⟨y,t,by simpa using e1,e2⟩)
section
variable {X:Cx}
def Bc (K:PySem.W.Frag) (H:Hp) (l:Addr) (ss:List Str):Prop:=SqL K H l (ss.map V.str)\/∃kvs,Rd H l (.dK kvs)/\kvs.map (·.1)=ss.map Sum.inr
def wI (K:PySem.W.Frag):List V->Hp->VK->Prop:=λxs H Q=>∃(l:Addr) (ss:List Str),xs=[.ref l]/\Bc K H l ss/\ss.length<=100000/\∀(p:Addr) (ss':List Str),H p=none->ss'.Perm ss->ss'.Pairwise leT->Q (.ref p) (upd H p (.lst (ss'.map V.str)))
theorem jv (hc:X.calm=true):eO X (.builtin "sorted") (wI X.K):=by
 intro pins s U H xs us Q I r h;obtain⟨l,ss,rfl,src,hz,q⟩:=h;obtain⟨u,rfl,ru⟩:=dJ r;cases ru
 have fin:∀(D:Addr) (h':Heap) (tk:Nat) (vs:List Value) (h1:Heap) (out:Array Value) (m:Nat),(∀b o,s.heap.get? b=some o->h1.get? b=some o)->StrsAre vs ss->(∀b o,h1.get? b=some o->h'.get? b=some o)->s.heap.objs.size<=D->h1.objs.size<=D->h'.get? D=some (seqObj "list" out m)->out.toList.Perm vs->out.toList.Pairwise (Tm.leV PyProof.Rows.strKind)->EP X pins U Q (.ref D) { s with heap:=h',toks:=tk }:=λD h' tk vs h1 out m k1 g1 k2 hle hD at' p1 p2=>by
  obtain⟨ss',so,pm,st⟩:=nM g1 p1 p2;have lo:ss'.length=ss.length:=pm.length_eq;exact⟨.ref D,_,I.laid (o:=.lst (ss'.map V.str)) (t':=tk) (λb o g=>k2 b o (k1 b o g)) hle ⟨by rw[Qa,sizeLine_eq];exact wX hz lo,out.toList,m,iE so,at'⟩,rfl,q _ ss' (I.hok.fresh hle) pm st⟩
 rcases src with hl|⟨kvs,rd,ek⟩
 ·obtain⟨its,rv,pl,_⟩:=I.list hl;have sa:=d8 rv;have hlen:its.length=ss.length:=by rw[<-rv.length,Qa]
  refine Tm.gv (s:=s) (κ:=λ_=>PyProof.Rows.strKind) (kd:=oneType') (G:=λ_ vs=>StrsAre vs ss) (λA E R _ hR=>collect_list pl.isList (hR _ _ its (λb o e=>?_) (by rw[Heap.size_update,size_push'];exact Nat.le_succ _) sa) (by rw[sizeLine_eq];exact wX hz hlen)) (I.ok.hd hc) (λh' vs D k g _=>⟨by rw[g.length];exact hz,Tm.nu g⟩) fin;exact(Heap.get?_update_other _ _ (Nat.ne_of_gt (Qk e))).trans (Qd _ e)
 obtain⟨z,hm,vs,rel,dd⟩:=hX I.hok rd;obtain⟨ep,da⟩:=dd.dictAt
 have kl:vs.length=ss.length:=by
  have:=congrArg List.length ek;rw[Qa,Qa]at this;rw[<-this];exact(KV.len rel).symm
 refine Tm.gv (s:=s) (κ:=λ_=>PyProof.Rows.strKind) (kd:=oneType') (G:=λ_ vs=>StrsAre vs ss) (λA E R hA hR=>Tm.tX (PySem.W.kdl_dict (knd:=a9 X.prog X.w) (kvs:=vs) (ep:=ep) hm) hA da (by rw[sizeLine_eq];exact wX hz kl) λh' tk acc k z it=>hR h' tk acc.toList k z ?_) (I.ok.hd hc) (λh' vs D k g _=>⟨by rw[g.length];exact hz,Tm.nu g⟩) fin;have al:acc.toList.length=ss.length:=by rw[Qv,it.1,kl]
 have at_:∀(j:Nat) v,acc.toList[j]?=some v->∃x t,ss[j]?=some x/\v=.str x t:=λj v e=>by
  obtain⟨k,x,e1,e2⟩:=it.2 j v (by rw[<-QA];exact e)
  obtain⟨y,e3⟩:∃y,kvs[j]?=some (k,y):=by
   have hj:j<kvs.length:=by rw[KV.len rel];exact(Qc.mp e1).1
   obtain⟨u,hu,_⟩:=KV.get (i:=j) (k:=kvs[j].1) (v:=kvs[j].2) rel (by rw[Qb hj]);rw[e1]at hu;cases hu;exact⟨kvs[j].2,by rw[Qb hj]⟩
  have e4:=congrArg (·[j]?) ek;simp only[Qm,e3]at e4
  cases e5:ss[j]? with
  | none=>rw[e5]at e4;cases e4
  | some y' =>
  rw[e5]at e4;have e6:k=Sum.inr y':=QT e4;subst e6;obtain⟨t,e7⟩:=wj e2;exact⟨y',t,rfl,e7⟩
 exact oV al at_
end
end L2
namespace LZ
open PySem
section
variable {prog:Program} {w:World} {A:Around} {E:C0} {s:Shared}
theorem gf:typeLookup (.type "list") "__getattr__" = pure none:=by rw[typeLookup_type,Xq];kernel_rfl
theorem jd:typeLookup (.type "list") "keys" = pure none:=by rw[typeLookup_type,Xq];kernel_rfl
theorem dY:entryFor table "list.__getattribute__" = some Builtin.«object.__getattribute__» :=
 entryFor_alias (id' := "object.__getattribute__") (by kernel_rfl) (by decide +kernel) (by decide +kernel) (by kernel_rfl)
theorem ii (a:Addr) (xs:Array Value) (m:Nat) (sl:Array (Option Value)) (u:Tok) :
  Meets (Builtin.«object.__getattribute__» ⟨[.ref a,.str "keys" u],[]⟩) (λA R s=>s.heap.get? a=some { cls:=.type "list", dict:=none,data:=.seq xs m,slots:=sl }/\raisesAttr (.ref a) "keys" A R s) :=
 Meets.of_wp λprog w A R s hs=>by
  obtain⟨hp,g,d,tk,os⟩:=s;obtain⟨hx,hs⟩:=hs;have hT:(⟨hp,g,d,tk,os⟩:Shared).TypeIs (.ref a) "list" := ⟨_,hx,rfl⟩;have hmiss:=jd;have hname:(["__module__", "__name__", "__qualname__", "__doc__", "__annotations__"]:List Str).contains "keys" = false:=by decide +kernel
  unfold Builtin.«object.__getattribute__»
  repeat (any_goals (first|assumption|wp_step))
  try simp only[hname,QP,if_false]
  repeat (any_goals (first|assumption|wp_step))
  exact wpAny_raiseAttrError hs.1 hs.2 (attrMsg_fits (by decide +kernel) (by decide +kernel))
theorem ou {a:Addr} {xs:Array Value} {m:Nat} {sl:Array (Option Value)} {Q:Option Value->Shared->Prop} (hx:s.heap.get? a=some { cls:=.type "list", dict:=none,data:=.seq xs m,slots:=sl }) (hA:A.handled=none)
  (h:∀h' tk,(∀c o,s.heap.get? c=some o->h'.get? c=some o)->Q none { s with heap:=h',toks:=tk }):wpAny (model prog w) A (getAttr? (.ref a) "keys") Q E s:=by
 obtain⟨hp,g,d,tk,os⟩:=s;have hT:∀tk',(⟨hp,g,d,tk',os⟩:Shared).TypeIs (.ref a) "list" := λ_=>⟨_,hx,rfl⟩;have f1:=sub_AttributeError;have f3:=F.slot_list_getattribute.lookup;have f4:=F.slot_list_getattribute.bind (.ref a);have f5:=gf;unfold getAttr? getAttrBy? getAttrBy
 repeat (any_goals (first|assumption|exact hT _|((with_reducible show wpAny _ _ (call (Value.builtin "list.__getattribute__") _ _) _ _ _);refine call_meets F.slot_list_getattribute (hT _) dY (F.args_list_getattribute_2 _ _) (ii a xs m sl _) ⟨hx,hA,λh' tk' e hx'=>?_⟩)|wp_step))
 obtain⟨t',u',he⟩:=hx'.there;show wpAny _ _ (getattributeRaised _ _ _ _ _ _ _) _ _ _;unfold getattributeRaised
 repeat (any_goals (first|assumption|wp_step))
 all_goals exact h _ _ hx'.keeps
end
section
variable {prog:Program} {w:World} {K:Type} [DecidableEq K] {knd:KeyKind prog w K} {A:Around} {R:Result->Shared->Prop}
def iz (h:Heap) (xs:Array Value) (ka va:Nat->Value) (it d:Addr):Prop:=∀k,k<xs.size->∃(T:Addr) (o:Obj) (n:Nat),xs[k]?=some (.ref T)/\h.get? T=some o/\o.cls=.type "tuple" /\ o.data=.seq #[ka k,va k] n/\T≠it/\T≠d
theorem iz.keep {h h':Heap} {xs:Array Value} {ka va:Nat->Value} {it d:Addr} (p:iz h xs ka va it d) (hk:∀c o,c≠it->c≠d->h.get? c=some o->h'.get? c=some o):iz h' xs ka va it d:=λk hlt =>
 let ⟨T,o,n,e1,e2,e3,e4,e5,e6⟩:=p k hlt;⟨T,o,n,e1,hk T o e5 e6 e2,e3,e4,e5,e6⟩
theorem oD {it l d:Addr} {xs:Array Value} {ka va:Nat->Value} (nid:d≠it) (nil:l≠it) (ndl:l≠d) (hh:A.handled=none) (ks:Nat->K) (hk:∀k,k<xs.size->knd.is (ks k) (ka k)=true) (hsz:xs.size<=sizeLine) :
  ∀(m k:Nat) (i:Int) (s:Shared) (kvs:List (K × Value)),xs.size-k=m->k<=xs.size->s.heap.IsListIter it l k->s.heap.IsList l xs->iz s.heap xs ka va it d->s.heap.DictOf knd d kvs->kvs.length<=k ->
  (∀h' tk,h'.DictOf knd d (c8 kvs ((List.range (xs.size-k)).map λj=>(ks (k+j),va (k+j))))->(∀c o,c≠it->c≠d->s.heap.get? c=some o->h'.get? c=some o)->R (.ok (.ret .none)) { s with heap:=h',toks:=tk }) ->
  codeAny (model prog w) A (.builtin "dict.update.loop" ⟨[.ref d,.ref it,rawInt i,.none],[]⟩) R s:=by
 intro m
 induction m with
 | zero =>
  intro k i s kvs hm hkk hit hl hp hd hkl hR;have hin:k=xs.size:=by exact vX hm hkk
  refine codeAny_builtin fo ?_;rw[Around.under_plainId ck _];show wpAny _ A.in1 (pyNext (.ref it) >>= _) _ _ s;refine Qe (wpAny_pyNext_list_end (show A.in1.handled=none from hh) hit hl (by rw[hin];simp) λh' hkeep=>?_);show wpAny _ _ (Builtin.Dict.addKeywords d [] >>= _) _ _ _;refine Qe (Qn (Qn ?_))
  have hd':h'.DictOf knd d kvs:=by
   obtain⟨o,es,ep,e1,r⟩:=hd;exact⟨o,es,ep,hkeep d o nid e1,r⟩
  refine hR h' s.toks ?_ λc o c1 _ e=>hkeep c o c1 e;rw[hm];exact hd'
 | succ m ih =>
 intro k i s kvs hm hkk hit hl hp hd hkl hR;have hlt:k<xs.size:=by exact vW hm hkk
 obtain⟨T,oT,n,hx,hT,hTc,hTd,nTi,nTd⟩:=hp k hlt;refine codeAny_builtin fo ?_;rw[Around.under_plainId ck _];show wpAny _ A.in1 (pyNext (.ref it) >>= _) _ _ s;refine Qe (wpAny_pyNext_list_item hit hl hx λh1 hit1 hs1=>?_);have k1:∀c o,c≠it->s.heap.get? c=some o->h1.get? c=some o:=λc o n1 e=>hs1.extBut c o n1 e
 have hd1:h1.DictOf knd d kvs:=by
  obtain⟨o,es,ep,e1,r⟩:=hd;exact⟨o,es,ep,k1 d o nid e1,r⟩
 have hT1:=k1 T oT nTi hT;refine Qe (Q9 ?_);have hTy:(Shared.TypeIs { s with heap:=h1 } (.ref T) "tuple"):=⟨_,hT1,hTc⟩;refine Qe (wpAny_tryCatch ?_);unfold Builtin.Dict.pairItems;refine Qe (wpAny_typeOf hTy ?_);rw[QB (by decide)];refine Qe (wpAny_seqItems hT1 hTd (Qn ?_));show wpAny _ _ (holding [ka k,va k] (dictSet d (ka k) (va k))) _ _ _;refine Q9 (wpAny_dictSet_pairs (hk k hlt) hd1 (λh2 hd2 hs2=>?_) (by exact vV hsz hkl hlt));have k2:∀c o,c≠it->c≠d->s.heap.get? c=some o->h2.get? c=some o:=λc o n1 n2 e=>hs2.extBut c o n2 (k1 c o n1 e);refine Qn ⟨plainId_quiet ck _,ih (k+1) (i+1) _ _ (by exact vU hm hlt) (by exact vT hlt) (hit1.extBut hs2.extBut (Xs nid)) (hl.at λo e=>k2 l o nil ndl e) (hp.keep k2) hd2 (QM (iF _ _ _) (by exact qm hkl)) λh3 tk hd3 hk3=>?_⟩;refine hR h3 tk ?_ λc o c1 c2 e=>hk3 c o c1 c2 (k2 c o c1 c2 e);rw[show xs.size-k=(xs.size-(k+1))+1 from by exact yx hm hlt,List.range_succ_eq_map,QH,QS];have e:(List.range (xs.size-(k+1))).map (λj=>(ks (k+1+j),va (k+1+j)))=(List.range (xs.size-(k+1))).map ((λj=>(ks (k+j),va (k+j)))∘Nat.succ):=List.map_congr_left λj _=>by simp[Function.comp,Nat.add_assoc,Nat.add_comm 1]
 rw[e]at hd3;exact hd3
variable {Q E:C0}
theorem oK {s:Shared} {l:Addr} {xs:Array Value} {ka va:Nat->Value} (hh:A.handled=none) (ks:Nat->K) (hk:∀k,k<xs.size->knd.is (ks k) (ka k)=true) (hsz:xs.size<=sizeLine) (hl:PlainL s.heap l xs)
  (hp:∀k,k<xs.size->∃(T:Addr) (o:Obj) (n:Nat),xs[k]?=some (.ref T)/\s.heap.get? T=some o/\o.cls=.type "tuple" /\ o.data=.seq #[ka k,va k] n)
  (h:∀h' tk,h'.DictOf knd s.heap.objs.size (c8 [] ((List.range xs.size).map λj=>(ks j,va j)))->(∀c o,s.heap.get? c=some o->h'.get? c=some o)->Q (.ref s.heap.objs.size) { s with heap:=h',toks:=tk }) :
  wpAny (model prog w) A (call (.type "dict") [.ref l]) Q E s:=by
 refine callType_codes (Q₁:=λobj s1=>obj=.ref s.heap.objs.size/\s1={ s with heap:=s.heap.push { cls:=.type "dict", data:=.dict #[] } }) h_ (eJ _) F.entry_dict_init (fD _ ⟨rfl,rfl⟩) ?_;rintro obj s1 ⟨rfl,rfl⟩;have up:∀c o,s.heap.get? c=some o->(s.heap.push { cls:=.type "dict", data:=.dict #[] }).get? c=some o:=λc o e=>Qd _ e;have hnew:(s.heap.push { cls:=.type "dict", data:=.dict #[] }).DictOf knd s.heap.objs.size []:=Heap.DictOf.new s.heap;have lt:∀{c o},s.heap.get? c=some o->s.heap.objs.size≠c:=λe=>Nat.ne_of_gt (Qk e);obtain⟨⟨c0,d0,dt0,sl0⟩,n0,ho,hoc,hod,hos⟩:=hl;have hoc:c0=.type "list" := hoc;have hod:d0=none:=hod;have hos:dt0=.seq xs n0:=hos;subst hoc hod hos;refine⟨hnew.typeIs,F.args_dict_init_2 _ _,?_⟩;unfold Builtin.«dict.__init__»;refine Qe ?_;unfold Builtin.Dict.selfAndRest;refine Qe (wpAny_notOrdered_dict hnew.typeIs ?_);show wpAny _ _ (pure (s.heap.objs.size,[Value.ref l])) _ _ _;refine Qn ?_;show wpAny _ _ (Builtin.Dict.updateFrom "dict.__init__" s.heap.objs.size (.ref l) [] .none) _ _ _;unfold Builtin.Dict.updateFrom;have hzT:Shared.TypeIs { s with heap:=s.heap.push { cls:=.type "dict", data:=.dict #[] } } (.ref l) "list" := ⟨_,up _ _ ho,rfl⟩;refine Qe (wpAny_typeOf hzT ?_);rw[QB (by decide)];refine Qe (ou (up _ _ ho) (show A.in1.in1.handled=none from hh) λh3 tk k3=>?_);simp only[Option.isNone_none,if_true];refine Qe (wpAny_rule ?_);have hL3:h3.IsList l xs:=⟨_,k3 _ _ (up _ _ ho),rfl,n0,rfl⟩
 have hd3:h3.DictOf knd s.heap.objs.size []:=by
  obtain⟨o,es,ep,e1,r⟩:=hnew;exact⟨o,es,ep,k3 _ _ e1,r⟩
 obtain⟨od,es,ep,hd3',r3⟩:=id hd3;refine Qe (wpAny_pyIter_list hL3 ?_);refine Qn ⟨plainId_quiet ck _,?_⟩;have up4:∀c o,h3.get? c=some o->(h3.push { cls:=.type "list_iterator", data:=.fields #[.ref l,.int 0 0] }).get? c=some o:=λc o e=>Qd _ e;have lt3:∀{c o},h3.get? c=some o->c≠h3.objs.size:=λe=>QE (Qk e);refine oD (it:=h3.objs.size) (l:=l) (d:=s.heap.objs.size) (ka:=ka) (va:=va) (lt3 hd3') (lt3 (k3 _ _ (up _ _ ho))) (lt ho).symm (show A.in1.handled=none from hh) ks hk hsz xs.size 0 0 _ [] (by simp) (QO _) ⟨_,Qw _ rfl,rfl,rfl⟩ (hL3.at λo e=>up4 _ o e) (λk hlt=>?_) ⟨od,es,ep,up4 _ _ hd3',r3⟩ (Qg _) λh5 tk5 hd5 hk5=>?_
 ·obtain⟨T,o,n,e1,e2,e3,e4⟩:=hp k hlt;exact⟨T,o,n,e1,up4 _ _ (k3 _ _ (up _ _ e2)),e3,e4,lt3 (k3 _ _ (up _ _ e2)),(lt e2).symm⟩
 refine⟨rfl,h h5 tk5 (by simpa using hd5) λc o e=>hk5 c o (lt3 (k3 _ _ (up _ _ e))) (lt e).symm (up4 _ _ (k3 _ _ (up _ _ e)))⟩
end
end LZ
namespace L2
open PySem PySem.Spec PyProof.Rows
def nF (H:Hp) (v:V) (p:Str × V):Prop:=∃b,v=.ref b/\H b=some (.tup [.str p.1,p.2])
def cI (ps:List (Str × V)):List (Key × V):=ps.map λp=>((Sum.inr p.1:Key),p.2)
section
variable {X:Cx} {a:Expr} {ta:TA} {p1 pos1:Pos}
def kM (K:PySem.W.Frag) (ta:TA):TE:=λU H Q=>ta U H λvs H1=>∃l xs ps,vs=[.ref l]/\SqL K H1 l xs/\xs.length<10000/\Paired (nF H1) xs ps/\∀d,H1 d=none->Q (.ref d) (upd H1 d (.dK (bw [] (cI ps))))
theorem vN {H:Hp}:∀{xs:List V} {ps:List (Str × V)},Paired (nF H) xs ps->∀(j:Nat) x,xs[j]?=some x->∃y,ps[j]?=some y/\nF H x y
 | _,_,.nil=>λj x e=>by simp at e
 | _,_,.cons (a:=a) (b:=b) h t=>λj x e=>by
  cases j with
  | zero=>simp at e;subst e;exact⟨_,rfl,h⟩
  | succ j=>simp at e;obtain⟨y,e',f⟩:=vN t j x e;exact⟨y,by simpa using e',f⟩
theorem rZ {H:Hp}:∀{xs:List V} {ps:List (Str × V)},Paired (nF H) xs ps->xs.length=ps.length
 | _,_,.nil=>rfl
 | _,_,.cons h t=>by simp[rZ t]
theorem fi (hc:X.calm=true) (hg:Gl X "dict") (hm:X.mg "dict" = none) (ha:PA X [a] ta) (hs:starEach [a] X.env=[(false,eval a X.env)]:=by rfl):PE X (.Call (.Name "dict" p1) [a] [] pos1) (kM X.K ta):=by
 intro pins s U H Q I h;refine Call_ (dI I hg hm PyProof.Rows.boot_dict (Xc (thn (ha pos1 pins s U H _ I h) λus s1 ⟨vs,H1,I1,r1,q1⟩=>?_) hs rfl));obtain⟨l,xs,ps,e,hl,hsm,hpr,q⟩:=q1;subst e;obtain⟨u1,e,ru1⟩:=dJ r1;subst e;cases ru1;obtain⟨its,rv,pl,_⟩:=I1.list hl;have hits:its.length=xs.length:=rv.length.symm;have hps:=rZ hpr;have big:10000<sizeLine:=by decide
 have each:∀k,∃g:Value × Value × Str,k<its.length->∃(T:Addr) (o:Obj) (m:Nat) (v:V) (t:Tok),its[k]?=some (.ref T)/\s1.heap.get? T=some o/\o.cls=.type "tuple" /\ o.data=.seq #[g.1,g.2.1] m/\g.1=.str g.2.2 t/\ps[k]?=some (g.2.2,v)/\aO v g.2.1:=λk=>by
  by_cases hk:k<its.length
  ·have hx:xs[k]?=some (xs[k]'(by exact om3 hits hps hk)):=by simp
   obtain⟨y,hy,b,eb,hb⟩:=vN hpr k _ hx;obtain⟨u,hu,ru⟩:=rv.get hx;rw[eb]at ru;cases ru;obtain⟨its2,rv2,⟨o,e1,e2,n,e3⟩,_⟩:=I1.tuple (SqT.of hb);obtain⟨w1,w2,e4,r1,r2⟩:=ri rv2;subst e4;obtain⟨t,et⟩:=r1;subst et;exact⟨(.str y.1 t,w2,y.1),λ_=>⟨b,o,n,y.2,t,hu,e1,e2,e3,rfl,hy,r2⟩⟩
  exact⟨(.none,.none,Str.empty),λh=>absurd h hk⟩
 let g:=λk=>Classical.choose (each k);have hg':∀k,k<its.length->∃(T:Addr) (o:Obj) (m:Nat) (v:V) (t:Tok),its[k]?=some (.ref T)/\s1.heap.get? T=some o/\o.cls=.type "tuple" /\ o.data=.seq #[(g k).1,(g k).2.1] m/\(g k).1=.str (g k).2.2 t/\ps[k]?=some ((g k).2.2,v)/\aO v (g k).2.1:=λk=>Classical.choose_spec (each k);refine LZ.oK (knd:=a9 X.prog X.w) (l:=l) (xs:=its.toArray) (ka:=λk=>(g k).1) (va:=λk=>(g k).2.1) (I1.ok.hd hc) (λk=>(Sum.inr (g k).2.2:Key)) (λk hk=>?_) (by rw[Qi,hits];omega) pl (λk hk=>?_) λh3 tk hd3 kept=>?_
 ·rw[Qi]at hk;obtain⟨T,o,m,v,t,_,_,_,_,e5,_⟩:=hg' k hk;show (a9 X.prog X.w).is _ (g k).1=true;rw[e5];exact eW _ _ _ _
 ·rw[Qi]at hk;obtain⟨T,o,m,v,t,e1,e2,e3,e4,_⟩:=hg' k hk;exact⟨T,o,m,by simpa using e1,e2,e3,e4⟩
 rw[Qi]at hd3
 have kv:KV (cI ps) ((List.range its.length).map λj=>((Sum.inr (g j).2.2:Key),(g j).2.1)):=by
  unfold cI;refine paired_get (by simp[hits,hps]) λj x y e1 e2=>?_;rw[Qm]at e1 e2
  have hj:j<its.length:=by
   cases e:(List.range its.length)[j]? with
   | none=>rw[e]at e2;cases e2
   | some q=>have:=(Qc.mp e).1;simpa using this
  obtain⟨T,o,m,v,t,_,_,_,_,_,e6,e7⟩:=hg' j hj;rw[e6]at e1;rw[List.getElem?_range hj]at e2;cases e1;cases e2;exact⟨rfl,e7⟩
 have hnew:H1 s1.heap.objs.size=none:=I1.hok.fresh (Qg _)
 have I3:Inv X pins U (upd H1 s1.heap.objs.size (.dK (bw [] (cI ps)))) { s1 with heap:=h3,toks:=tk }:=I1.laid kept (Qg _) ⟨by
   have:=dH (cI ps) [];have e:(cI ps).length=ps.length:=by unfold cI;simp
   simp only[Q8]at this
   omega,beq_eq_false_iff_ne.mpr (by
   have:@LT.lt Nat _ sysModules s1.heap.objs.size:=I1.big;intro e;have e':@Eq Nat s1.heap.objs.size sysModules:=e
   omega),_,ot kv .nil,hd3⟩
 exact⟨.ref s1.heap.objs.size,_,I3,rfl,q _ hnew⟩
end
end L2
namespace LS
open PySem PySem.Spec PyProof.Rows
def Led (w:World) (t:SetTable) (n:Nat):Prop:=w.params.followText "set-order" = true\/(t.led=true/\(n≠0->t.plain=false))
def jD (prog:Program) (w:World) (h:Heap) (a:Addr) (S:Str->Bool) (n:Nat):Prop:=∃o es ep t,h.get? a=some o/\o.ExactSet/\o.data=.set es ep t/\ElemsOf (strKind prog w) es.toList/\(∀k,S k=true↔∃e∈es.toList,(strKind prog w).is k e.2=true)/\es.size<scanBound/\t.fits es.size=true/\es.size=n/\Led w t es.size
section
variable {prog:Program} {w:World} {A:Around} {E:C0} {s:Shared} {a:Addr} {S:Str->Bool} {n:Nat}
variable {es' es:Array (Int × Value)}
theorem jD.put {h:Heap} {o:Obj} {ep:Nat} {t:SetTable} (ho:h.get? a=some o) (hex:o.ExactSet) (hd:o.data=.set es ep t) {t':SetTable}
  (hel:ElemsOf (strKind prog w) es'.toList) (hm:∀k,S k=true↔∃e∈es'.toList,(strKind prog w).is k e.2=true) (hb:es'.size<scanBound) (hf:t'.fits es'.size=true) (hn:es'.size=n) (hl:Led w t' es'.size) :
  (h.update a (Obj.putSet es' t')).get? a=some { o with data:=.set es' (ep+1) t' }/\jD prog w (h.update a (Obj.putSet es' t')) a S n:=by
 obtain⟨g,_⟩:=SetOf_store (knd:=strKind prog w) ho hex hd hel hm hb hf;exact⟨g,_,es',ep+1,t',g,hex,rfl,hel,hm,hb,hf,hn,hl⟩
theorem jD.congr {h:Heap} {S':Str->Bool} {m:Nat} (q:jD prog w h a S n) (e:∀k,S k=S' k) (f:n=m):jD prog w h a S' m:=by
 obtain⟨o,es,ep,t,h1,h2,h3,h4,h5,h6,h7,h8,h9⟩:=q;exact⟨o,es,ep,t,h1,h2,h3,h4,λk=>by rw[<-e k];exact h5 k,h6,h7,h8.trans f,h9⟩
abbrev bare (led:Bool):Obj:={ cls:=.type "set", dict:=none,data:=.set #[] 0 (.fresh 0 0 led) }
theorem jD.bare {h:Heap} (g:h.get? a=some (bare !(w.params.followText "set-order"))):jD prog w h a (λ_=>false) 0 :=
 ⟨_,#[],0,_,g,⟨rfl,rfl,rfl⟩,rfl,fun e he=>by simp at he,fun k=>by simp,by decide,rfl,rfl,by
  unfold Led
  cases e:w.params.followText "set-order" with
  | true=>exact .inl rfl
  | false=>exact .inr ⟨rfl,λz=>absurd rfl z⟩⟩
end
def Bg (h:Heap) (it a:Addr) (first:Value) (i n ep:Nat):Prop:=∃o,h.get? it=some o/\o.cls=.type "set_iterator" /\ o.data=.fields #[first,.int i 0,.ref a,.int n 0,.int ep 0]
section
variable {prog:Program} {w:World} {A:Around} {E:C0} {s:Shared} {a it:Addr} {es:Array (Int × Value)} {ep:Nat} {t:SetTable} {i:Nat} {first:Value}
theorem Bg.typeIs {n:Nat} (h:Bg s.heap it a first i n ep):s.TypeIs (.ref it) "set_iterator" := let ⟨o,ho,hc,_⟩:=h;⟨o,ho,hc⟩
end
end LS
set_option maxHeartbeats 400000
namespace LS
open PySem PySem.Spec PyProof.Rows
section
variable {prog:Program} {w:World} {A:Around} {E:C0} {s:Shared} {a it:Addr} {es:Array (Int × Value)} {ep:Nat} {t:SetTable} {i:Nat}
end
end LS
set_option maxHeartbeats 4000000
namespace LS
open PySem PySem.Spec PyProof.Rows
def met (g:Nat->Str):Nat->List Str
 | 0=>[]
 | i+1=>if g i∈met g i then met g i else met g i++[g i]
section
variable {prog:Program} {w:World} {A:Around} {R:Result->Shared->Prop} {I S:Addr} {fp wr:C3} {G:Array GenState->Array GenState->Prop} {n:Nat} {P:Nat->Value->Prop} {St:Nat->Shared->Prop}
end
section
variable {prog:Program} {w:World} {A:Around} {E:C0} {s:Shared}
end
end LS
namespace L2
open PySem PySem.Spec PyProof.Rows
section
variable {X:Cx} {a:Expr} {ta:TA} {p p1 pos pos1:Pos}
end
end L2
namespace LS
open PySem
end LS
namespace L2
open PySem
end L2
set_option maxHeartbeats 400000
namespace LS
open PySem PySem.Spec PyProof.Rows PySem.Calls
section
variable {prog:Program} {w:World} {A:Around} {E:C0} {s:Shared} {a:Addr} {S:Str->Bool} {n:Nat}
structure Ord (S:Str->Bool) (n:Nat) (od:List (Int × Value)):Prop where
 len:od.length=n
 txt:∀e∈od,∃x t,e.2=.str x t
 mem:∀x,S x=true↔∃e∈od,∃t,e.2=.str x t
end
end LS
namespace L2
open PySem PySem.Spec PyProof.Rows
theorem Inv.drawn {X:Cx} {pins:C1} {U:List (Option V)} {H:Hp} {s:Shared} (I:Inv X pins U H s) (d:Drawn):Inv X pins U H { s with drawn:=d }:=⟨I.ok,I.os,I.bare,I.base,I.loc,I.cell,I.free,I.freeC,I.pin,I.hok,I.len⟩
section
variable {X:Cx} {a:Expr} {ta:TA} {p p1 pos pos1:Pos}
end
end L2
set_option maxHeartbeats 4000000
namespace L2
open PySem PySem.Spec PyProof.Rows Builtin Builtin.Str
section
variable {X:Cx} {pins:C1} {U:St} {H:Hp} {s:Shared}
end
end L2
namespace L2
open PySem PySem.Spec PyProof.Rows
theorem gN {H1:Hp} {D:Addr} {σ0:St} {g:TG} {te:TE} {QD:Hp->Prop} {a:Addr} {o:Obj} {kvs:List (Key × V)} (Pv:Nat->Hp->List V->Prop) (h0:Pv 0 (upd H1 D (.lst [])) []) (hD:∀i H ys,Pv i H ys->H D=some (.lst ys)/\H a=some (.frz o (.dK kvs)))
  (hs:∀i k v H ys,kvs[i]?=some (k,v)->Pv i H ys->g (kV k) σ0 H λσ2 H2=>wk σ0 σ2/\fY σ2 H2 λb H3=>if b=true then te σ2 H3 (cw Pv kvs.length D i ys) else ∃m',m'<kvs.length-i/\(m'=kvs.length-(i+1)/\i+1<=kvs.length/\Pv (i+1) H3 ys)) (hd:∀H ys,Pv kvs.length H ys->QD H) :
  ∃W:Nat->Nat->Hp->List V->Prop,(∃m,W 0 m (upd H1 D (.lst [])) [])/\∀i m H ys,W i m H ys->H D=some (.lst ys)/\(((Itd a o kvs).stop i H/\QD H)\/((Itd a o kvs).go i H/\∀x H',(Itd a o kvs).yld i H x H'->g x σ0 H' λσ2 H2=>wk σ0 σ2/\fY σ2 H2 λb H3 =>
   if b=true then te σ2 H3 λv H4=>H4 D=some (.lst ys)/\ys.length<sizeLine/\∃m',m'<m/\W (i+1) m' (upd H4 D (.lst (ys++[v]))) (ys++[v]) else ∃m',m'<m/\W (i+1) m' H3 ys)):=by
 refine⟨λi m H ys=>m=kvs.length-i/\i<=kvs.length/\Pv i H ys,⟨kvs.length,by simp,QO _,h0⟩,?_⟩;rintro i m H ys ⟨rfl,hi,p⟩;obtain⟨d1,d2⟩:=hD i H ys p;refine⟨d1,?_⟩;by_cases hlt:i<kvs.length
 ·refine .inr ⟨⟨d2,hlt⟩,λx H' y=>?_⟩;obtain⟨e,k,v,hk,ex⟩:=y;subst e ex;exact hs i k v _ ys hk p
 have e:i=kvs.length:=by exact om0 hi hlt
 subst e;exact .inl ⟨⟨d2,Qg _⟩,hd H ys p⟩
end L2
namespace LY
open PySem LZ
section
variable {prog:Program} {w:World} {A:Around} {E:C0} {s:Shared}
end
structure ApartM (z TI TO i1 i2 l m d:Addr):Prop extends ApartD z TI TO i1 i2 l d where
 mz:m≠z
 mTO:m≠TO
 mi1:m≠i1
 mi2:m≠i2
 dm:d≠m
structure ZS (h:Heap) (z TI TO i1 i2 l d:Addr) (m:Addr) (xs ys:Array Value) (k:Nat):Prop where
 zf:(IsZ h z TI TO .none false/\∃a b,IsPair h TO a b)\/∃(T:Addr) (f1:Bool) (oT:Obj),IsZ h z TI TO (rawInt (T:Nat)) f1/\h.get? T=some oT/\T≠z/\T≠i1/\T≠i2/\T≠d
 ti:IsPair h TI (.ref i1) (.ref i2)
 a1:h.IsListIter i1 l k
 a2:h.IsListIter i2 m k
 li:h.IsList l xs
 mi:h.IsList m ys
section
variable {prog:Program} {w:World} {K:Type} [DecidableEq K] {knd:KeyKind prog w K} {A:Around} {R:Result->Shared->Prop}
end
end LY
namespace L2
open PySem PySem.Spec PyProof.Rows
section
variable {X:Cx} {elts:List Expr} {k:Nat} {tpos:Pos}
end
section
variable {X:Cx}
end
end L2
namespace Tm
open PySem PyProof.Rows
@[reducible] def intK:PyProof.Rows.KeyKind where
 α:=Int
 blt a b:=decide (a<b)
 irrefl a:=by simp
 trans a b c h1 h2:=by simp only[decide_eq_true_eq] at *;exact Int.lt_trans h1 h2
 negTrans a b c h:=by
  simp only[decide_eq_true_eq] at *;by_cases hab:a<b
  ·exact .inl hab
  exact .inr (Int.lt_of_le_of_lt (Int.not_lt.mp hab) h)
 total a b h1 h2:=by simp only[decide_eq_false_iff_not] at *;exact Int.le_antisymm (Int.not_lt.mp h2) (Int.not_lt.mp h1)
 keyOf v:=match v with|.int x _=>some x|_=>none
 dflt:=0
section
variable {prog:Program} {w:World}
end
end Tm
namespace L2
open PySem PySem.Spec PyProof.Rows
section
variable {X:Cx}
end
end L2
namespace Tm
open PySem PyProof.Rows PySem.W
def lE (a b:List Nat × Int):Bool:=decide (a.1<b.1) || (decide (a.1=b.1)&&decide (a.2<b.2))
variable {a b:List Nat × Int}
theorem dS:lE a b=true↔a.1<b.1\/(a.1=b.1/\a.2<b.2):=by simp[lE]
theorem lD:lE a b=false↔¬(a.1<b.1\/(a.1=b.1/\a.2<b.2)):=by rw[<-dS];simp
theorem pF (a:List Nat × Int):lE a a=false:=by
 rw[lD];rintro(h|⟨_,h⟩)
 ·exact List.lt_irrefl _ h
 exact Int.lt_irrefl _ h
def tp:List Value->Option (List Nat × Int)
 | [.str z _,.int i _]=>some (z.cps.toList,i)
 | _=>none
def kq:Data->Option (List Nat × Int)
 | .seq its _=>tp its.toList
 | _=>none
def lr (h:Heap):Value->Option (List Nat × Int)
 | .ref a=>(h.get? a).bind λo=>kq o.data
 | _=>none
theorem vO {h:Heap} {a:Addr} {o:Obj} {its:Array Value} {n:Nat} {z:Str} {t:Tok} {i:Int} {u:Tok} (g:h.get? a=some o) (d:o.data=.seq its n) (e:its.toList=[.str z t,.int i u]):lr h (.ref a)=some (z.cps.toList,i):=by
 show (h.get? a).bind (λo=>kq o.data)=_;rw[g];show kq o.data=_;rw[d];show tp its.toList=_;rw[e];rfl
theorem u5 {l:List Value} {k:List Nat × Int} (e:tp l=some k):∃z t i u,l=[.str z t,.int i u]/\k=(z.cps.toList,i):=by
 unfold tp at e
 split at e
 ·exact⟨_,_,_,_,rfl,(QT e).symm⟩
 cases e
theorem tU {d:Data} {k:List Nat × Int} (e:kq d=some k):∃its n,d=.seq its n/\tp its.toList=some k:=by
 unfold kq at e
 split at e
 ·exact⟨_,_,rfl,e⟩
 cases e
noncomputable def pA (h:Heap):PyProof.Rows.KeyKind where
 α:=List Nat × Int
 blt:=lE
 irrefl a:=pF a
 trans a b c h1 h2:=by
  rw[dS] at *;rcases h1 with h1|⟨e1,h1⟩ <;> rcases h2 with h2|⟨e2,h2⟩
  ·exact .inl (List.lt_trans h1 h2)
  ·exact .inl (e2▸h1)
  ·exact .inl (e1▸h2)
  exact .inr ⟨e1.trans e2,Int.lt_trans h1 h2⟩
 negTrans a b c h:=by
  rw[dS] at *;rw[dS];by_cases h1:a.1<b.1
  ·exact .inl (.inl h1)
  by_cases h2:b.1<c.1
  ·exact .inr (.inl h2)
  have l1:=List.not_lt.mp h1;have l2:=List.not_lt.mp h2;rcases h with h|⟨e,h⟩
  ·exact absurd (List.lt_of_le_of_lt (List.le_trans l2 l1) h) (List.lt_irrefl _)
  have e1:a.1=b.1:=List.le_antisymm (e▸l2) l1;by_cases h3:a.2<b.2
  ·exact .inl (.inr ⟨e1,h3⟩)
  exact .inr (.inr ⟨e1▸e,by omega⟩)
 total a b h1 h2:=by
  rw[lD] at *;have e:a.1=b.1:=List.le_antisymm (List.not_lt.mp λz=>h2 (.inl z)) (List.not_lt.mp λz=>h1 (.inl z))
  have:a.2=b.2:=by
   have x1:¬a.2<b.2:=λz=>h1 (.inr ⟨e,z⟩);have x2:¬b.2<a.2:=λz=>h2 (.inr ⟨e.symm,z⟩);omega
  exact Prod.ext e this
 keyOf:=lr h
 dflt:=([],0)
theorem lq {h:Heap} {v:Value} {k:List Nat × Int} (e:lr h v=some k):∃(a:Addr) (o:Obj) (its:Array Value) (n:Nat) (z:Str) (t:Tok) (i:Int) (u:Tok),v=.ref a/\h.get? a=some o/\o.data=.seq its n/\its.toList=[.str z t,.int i u]/\k=(z.cps.toList,i):=by
 unfold lr at e
 split at e
 ·rename_i a
  cases g:h.get? a with
  | none=>rw[g]at e;cases e
  | some o =>
  rw[g]at e;have e:kq o.data=some k:=e;obtain⟨its,n,d,e⟩:=tU e;obtain⟨z,t,i,u,e1,e2⟩:=u5 e;exact⟨a,o,its,n,z,t,i,u,rfl,g,d,e1,e2⟩
 cases e
section
variable {prog:Program} {w:World}
theorem uI {h:Heap} {A:Around} {s:Shared} (keep:∀v k,lr h v=some k->lr s.heap v=some k):gS (pA h) (tuples' true) prog w A s:=by
 intro E x y a b Q ha hb hq;obtain⟨ax,o1,is1,n1,z1,t1,i1,u1,rfl,g1,d1,l1,rfl⟩:=lq (keep _ _ ha);obtain⟨ay,o2,is2,n2,z2,t2,i2,u2,rfl,g2,d2,l2,rfl⟩:=lq (keep _ _ hb);have hq:Q (lE (z1.cps.toList,i1) (z2.cps.toList,i2)) s:=hq;refine kat_lt g1 d1 g2 d2 ?_
 have ez:decide (is1.size<is2.size)=false:=by
  have x1:=congrArg List.length l1;have x2:=congrArg List.length l2;rw[Qv]at x1 x2;rw[x1,x2];rfl
 rw[ez,l1,l2];refine kat_cons (eqBool_str (kat_go (λe=>kat_yes ?_) (λe=>kat_no ?_)))
 ·have e:z1=z2:=by simpa using e
  subst e;refine kat_cons (wpAny_eqBool_int (kat_go (λe=>kat_yes (kat_nil ?_)) (λe=>kat_no ?_)))
  ·have e:i1=i2:=by simpa using e
   subst e;rw[pF]at hq;exact hq
  refine kat_one _ _ (lt_int ?_)
  have:lE (z1.cps.toList,i1) (z1.cps.toList,i2)=decide (i1<i2):=by
   rw[Bool.eq_iff_iff,dS,decide_eq_true_iff];exact⟨λh=>h.elim (λh=>absurd h (List.lt_irrefl _)) (·.2),λh=>.inr ⟨rfl,h⟩⟩
  rw[this]at hq;exact hq
 have e:¬z1=z2:=by simpa using e
 have ne:¬z1.cps.toList=z2.cps.toList:=λz=>e (by cases z1;cases z2;exact congrArg Str.mk (Array.toList_inj.mp z));refine oneLt_str ?_
 have:lE (z1.cps.toList,i1) (z2.cps.toList,i2)=decide (z1.cps.toList<z2.cps.toList):=by
  rw[Bool.eq_iff_iff,dS,decide_eq_true_iff];exact⟨λh=>h.elim id (λh=>absurd h.1 ne),λh=>.inl h⟩
 rw[this]at hq;exact hq
def kJ (h:Heap) (bs:C3) (kf:Addr->Str × Int):Prop:=∀b∈bs,∃(o:Obj) (its:Array Value) (n:Nat) (t u:Tok),h.get? b=some o/\o.cls=.type "tuple" /\ o.data=.seq its n/\its.toList=[.str (kf b).1 t,.int (kf b).2 u]
variable {kf:Addr->Str × Int}
theorem r9 {h:Heap} {bs:C3} (p:kJ h bs kf) {b:Addr} (hb:b∈bs):lr h (.ref b)=some ((kf b).1.cps.toList,(kf b).2):=by
 obtain⟨o,its,n,t,u,g,_,d,l⟩:=p b hb;exact vO g d l
theorem oQ {h:Heap} {kf:Addr->Str × Int}:∀{bs:C3},kJ h bs kf->∃fs:List Value,fs.length=bs.length/\KatTups h (bs.map Value.ref) fs/\∀f∈fs,∃z t,f=.str z t
 | [],_=>⟨[],rfl,.nil,λf hf=>nomatch hf⟩
 | b::bs,p=>by
  obtain⟨fs,l,k,hf⟩:=oQ (bs:=bs) λc hc=>p c (QG _ hc);obtain⟨o,its,n,t,u,g,hc,d,li⟩:=p b (by simp);refine⟨.str (kf b).1 t::fs,by rw[QK,l,QK],.cons g hc d (by rw[<-QA,li];rfl) k,λf h=>?_⟩;rcases QQ.mp h with rfl|h
  ·exact⟨_,_,rfl⟩
  exact hf f h
theorem qU {h0 h:Heap} {a:Addr} {bs:C3} (k0:∀b o,h0.get? b=some o->h.get? b=some o) (p:kJ h0 bs kf) (na:∀b o,h0.get? b=some o->b≠a):Can prog w (pA h0) (tuples' true) h a (bs.map Value.ref) where
 key v hv:=by
  obtain⟨b,hb,rfl⟩:=Qp.mp hv;exact⟨((kf b).1.cps.toList,(kf b).2),r9 p hb⟩
 lt A s ks:=uI λv k e=>by
  obtain⟨b,o,its,n,z,t,i,u,rfl,g,d,l,rfl⟩:=lq e;exact vO (ks _ _ (na _ _ g) (k0 _ _ g)) d l
 kind h2 A E s Q ks hq:=by
  have p':kJ s.heap bs kf:=λb hb=>by
   obtain⟨o,its,n,t,u,g,hc,d,l⟩:=p b hb;exact⟨o,its,n,t,u,ks _ _ (na _ _ g) (k0 _ _ g),hc,d,l⟩
  obtain⟨fs,l,kt,hf⟩:=oQ p';rw[Qa]at h2;refine kat_kind (T:=.type "str") kt (by omega) (λf hf'=>?_) (by decide) hq;obtain⟨z,t,rfl⟩:=hf f hf';exact Looks.of_pure rfl
end
end Tm
namespace L2
open PySem PySem.Spec PyProof.Rows
section
variable {X:Cx}
theorem j_:∀(cs:C3),ba (cs.map V.ref) (cs.map Value.ref)
 | []=>.nil
 | _::cs=>.cons rfl (j_ cs)
theorem qe:∀{ys zs:List Value},ys.Perm zs->∀l:C3,zs=l.map Value.ref->∃l':C3,l'.Perm l/\ys=l'.map Value.ref:=by
 intro ys zs h
 induction h with
 | nil=>intro l e;cases l with
  | nil=>exact⟨[],.refl _,rfl⟩
  | cons a l=>cases e
 | cons x _ ih=>intro l e;cases l with
  | nil=>cases e
  | cons a l =>
   rw[QH]at e;cases e;obtain⟨l',h1,h2⟩:=ih l rfl;exact⟨a::l',h1.cons a,by rw[h2];rfl⟩
 | swap x y zs=>intro l e;match l,e with
  | a::b::l,e =>
   cases e;exact⟨b::a::l,.swap _ _ _,rfl⟩
 | trans _ _ ih1 ih2 =>
 intro l e;obtain⟨l2,h1,h2⟩:=ih2 l e;obtain⟨l3,h3,h4⟩:=ih1 l2 h2;exact⟨l3,h3.trans h1,h4⟩
end
end L2
namespace Tm
open PySem PyProof.Rows PySem.W
theorem oG {prog:Program} {w:World} {h:Heap} {a:Addr} {bs:C3} {kf:Addr->Str × Int} (p:kJ h bs kf) (na:a=h.objs.size) (l:Obj):Can prog w (pA h) (tuples' true) (h.push l) a (bs.map Value.ref) :=
 qU (λb o e=>Qd _ e) p λb o e=>by rw[na];exact QE (Qk e)
end Tm
namespace L2
open PySem PySem.Spec PyProof.Rows
section
variable {X:Cx}
def l_ (a:Addr):Obj:={ cls:=.type "dict_items", data:=.fields #[.ref a] }
def rq (tl:TE):TE:=λU H Q=>tl U H λx H1=>∃a kvs,x=.ref a/\H1 a=some (.dK kvs)/\∀r,H1 r=none->Q (.ref r) (upd H1 r (cZ (l_ a)))
theorem se {l:Expr} {tl:TE} {apos pos:Pos} (hl:PE X l tl) (hbase:attributeBase l "items" X.env (eval l X.env)=eval l X.env:=by rfl) (hline:(apos.endLine==pos.line)=true:=by rfl):PE X (.Call (.Attribute l "items" apos) [] [] pos) (rq tl):=by
 intro pins s U H Q I h;refine wpAny_Call_method (T := "dict") (id := "dict.items") hbase rfl hline F.plainAttrs_dict F.slot_dict_items F.type_dict_items (thn (hl pins s U H _ I h) λv s1 ⟨x,H1,I1,r1,q1⟩=>?_);obtain⟨a,kvs,e,hz,q⟩:=q1;subst e;cases r1;obtain⟨z,hm,vs,rel,dd⟩:=jl I1.hok hz;refine⟨dd.typeIs,dd.mapOf.noDict,?_⟩;show wpAny _ _ (callWith pos (.builtin "dict.items") [.ref a] [] []) _ _ s1;refine method_meetsIn F.slot_dict_items F.entry_dict_items rfl (PySem.evalArgs_none ⟨rfl,dd.typeIs,F.args_dict_items_1 _,_,meets_dict_items (a9 X.prog X.w) a hm,⟨vs,dd⟩,?_⟩);exact⟨.ref s1.heap.objs.size,_,I1.laid (t':=s1.toks) (o:=cZ (l_ a)) (λb o e=>Qd _ e) (Qg _) (pW (Qw _ rfl)),rfl,q _ (I1.hok.fresh (Qg _))⟩
def eP (ps:List (Str × Int)):List (Key × V):=ps.map λp=>((Sum.inr p.1:Key),V.int p.2)
def wH (K:PySem.W.Frag):List V->Hp->VK->Prop:=λxs H Q=>∃(r a:Addr) (ps:List (Str × Int)),xs=[.ref r]/\H r=some (cZ (l_ a))/\H a=some (.dK (eP ps))/\ps.length<=100000/\ps≠[] /\
 ∀(p:Addr) (bs:C3) (kf:Addr->Str × Int) (H2:Hp),aw H H2->H p=none->(bs.map kf).Perm ps->bs.Pairwise (λx y=>leT (kf x).1 (kf y).1)->(∀b∈bs,H2 b=some (.tup [.str (kf b).1,.int (kf b).2]))->H2 p=some (.lst (bs.map V.ref))->Q (.ref p) H2
theorem Inv.laidAll {pins:C1} {U:St} {H H':Hp} {s:Shared} {h':Heap} {t':Nat} (I:Inv X pins U H s) (k:∀b u,s.heap.get? b=some u->h'.get? b=some u) (old:∀b,b<s.heap.objs.size->H' b=H b) (new:∀b u,s.heap.objs.size<=b->H' b=some u->bj X.prog X.w H' h' b u) :
  Inv X pins U H' { s with heap:=h',toks:=t' }:=by
 have sm:∀b u,H b=some u->H' b=some u:=λb u e=>by rw[old b (I.hok.lt e)];exact e
 refine I.un ⟨λb u q _ _ _=>k b u q,λb u q _ _ _=>⟨u.slots,k b u q⟩,λb u q n _=>by rw[old b (Qk q)];exact n,λb u q _=>⟨u,k b u q⟩,λb xs q=>sm _ _ q,λb u xs q=>sm _ _ q,λb ps q=>⟨#[],by rw[sm _ _ q];simp⟩⟩ λb u e=>?_;by_cases c:b<s.heap.objs.size
 ·exact(I.hok b u (by rw[<-old b c];exact e)).stay (λc v _ q=>k c v q) (λ_ q=>sm _ _ q) λ_ _ q=>sm _ _ q
 exact new b u (Nat.le_of_not_lt c) e
theorem oI (hc:X.calm=true):eO X (.builtin "sorted") (wH X.K):=by
 intro pins s U H xs us Q I r h;obtain⟨rv,a,ps,rfl,hr,ha,hz,ne,q⟩:=h;obtain⟨u,rfl,ru⟩:=dJ r;cases ru;obtain⟨er,_⟩:=(show bj X.prog X.w H s.heap rv (cZ (l_ a)) from I.hok rv _ hr);obtain⟨z,hm,vs,rel,dd⟩:=jl I.hok ha;obtain⟨ep,da⟩:=dd.dictAt;have lv:vs.length=ps.length:=by rw[<-KV.len rel];unfold eP;rw[Qa]
 refine Tm.gv (s:=s) (κ:=Tm.pA) (kd:=tuples' true) (G:=λh' us=>∃(as:C3) (kf:Addr->Str × Int),us=as.map Value.ref/\as.map kf=ps/\Tm.kJ h' as kf/\∀b∈as,s.heap.objs.size<=b)
  (λA E R hA hR=>PySem.W.kdx_collect (knd:=a9 X.prog X.w) (kvs:=vs) (ep:=ep) hA ⟨_,er,rfl,rfl⟩ da (by rw[lv,sizeLine_eq];exact QM hz (by decide)) λh' tk as k la g=>?_) (I.ok.hd hc) (λh' us D k g eD=>?_) λD h' tk us h1 out m k1 g1 k2 hle hD at' p1 p2=>?_
 ·have nd:as.Nodup:=g.rise.imp λh=>QE h;refine hR h' tk _ k ?_ ⟨as,λb=>ps.getD (as.idxOf b) ("", 0),rfl,?_,?_,λb hb=>Xr (g.above b hb)⟩
  ·obtain⟨b,hb⟩:∃b,b∈as:=List.exists_mem_of_length_pos (by rw[la,lv];exact List.length_pos_iff.mpr ne);exact Xr (Nat.lt_trans (g.above b hb) (g.there hb))
  ·refine List.ext_getElem? λi=>?_;rw[Qm];by_cases c:i<as.length
   ·rw[Qb c];show some (ps.getD (as.idxOf as[i]) ("", 0))=_;rw[nd.idxOf_getElem,Xf,Qb (by omega)];rfl
   rw[Xk (by omega),Xk (by omega)];rfl
  intro b hb;obtain⟨j,hj,rfl⟩:=Ql.mp hb;obtain⟨key,kk,x,e1,e2,e3⟩:=g.pairs j _ (Qb hj);have hp:j<ps.length:=by omega
  obtain⟨u,e4,e5⟩:=KV.get (i:=j) (k:=Sum.inr (ps[j]).1) (v:=V.int (ps[j]).2) rel (by unfold eP;rw[Qm,Qb hp];rfl);rw[e1]at e4;cases e4;obtain⟨tu,rfl⟩:=e5;rcases bo (show gY (Sum.inr (ps[j]).1) key=true from e2) with⟨i,t,z,_⟩|⟨y,t,z,rfl⟩
  ·cases z
  cases z;dsimp only;rw[nd.idxOf_getElem,Xf,Qb hp];exact⟨_,_,_,t,tu,e3,rfl,rfl,rfl⟩
 ·obtain⟨as,kf,rfl,e,p,_⟩:=g;have la:as.length=ps.length:=by rw[<-e,Qa]
  exact⟨by rw[Qa,la];exact hz,Tm.oG p eD _⟩
 obtain⟨as,kf,rfl,e,p,ab⟩:=g1;obtain⟨bs,pm,eo⟩:=qe p1 as rfl;have la:as.length=ps.length:=by rw[<-e,Qa]
 have lb:bs.length=ps.length:=pm.length_eq.trans la;have mem:∀{b},b∈bs->b∈as:=λhb=>pm.mem_iff.mp hb
 have neD:∀{b},b∈bs->b≠D:=λ{b} hb zz=>by
  obtain⟨o,_,_,_,_,g,_⟩:=p b (mem hb);exact absurd (Qk g) (by rw[zz];exact Nat.not_lt.mpr hD)
 let H2:Hp:=λb=>if b=D then some (.lst (bs.map V.ref)) else if b∈bs then some (.tup [.str (kf b).1,.int (kf b).2]) else H b;have h2D:H2 D=some (.lst (bs.map V.ref)):=QB rfl;have h2b:∀b∈bs,H2 b=some (.tup [.str (kf b).1,.int (kf b).2]):=λb hb=>(QC (neD hb)).trans (QB hb);have h2o:∀b,b<s.heap.objs.size->H2 b=H b:=λb hb=>(QC (QE (QF hb hle))).trans (QC λzz=>absurd (ab b (mem zz)) (Nat.not_le.mpr hb));refine⟨.ref D,H2,I.laidAll (t':=tk) (λb o g=>k2 b o (k1 b o g)) h2o λb u hb e=>?_,rfl,q D bs kf H2 (λb u e=>by rw[h2o b (I.hok.lt e)];exact e) (I.hok.fresh hle) (by rw[<-e];exact pm.map _) ?_ h2b h2D⟩
 ·by_cases cD:b=D
  ·subst cD;rw[h2D]at e;cases e;exact⟨by rw[Qa,lb,sizeLine_eq];exact QM hz (by decide),out.toList,m,by rw[eo];exact j_ bs,at'⟩
  by_cases cb:b∈bs
  ·rw[h2b b cb]at e;cases e;obtain⟨o,its,n,t,u,g,hc',hd,l⟩:=p b (mem cb);exact⟨by simp[sizeLine_eq],its.toList,by rw[l];exact .cons ⟨t,rfl⟩ (.cons ⟨u,rfl⟩ .nil),o,k2 _ _ g,hc',n,by rw[hd]⟩
  have:H2 b=H b:=(QC cD).trans (QC cb);rw[this,I.hok.fresh hb]at e;cases e
 rw[eo,List.pairwise_map]at p2;refine p2.imp_of_mem λ{x y} hx hy h=>?_;have h:Tm.lE ((Tm.lr h1 (.ref y)).getD ([],0)) ((Tm.lr h1 (.ref x)).getD ([],0))=false:=h;rw[Tm.r9 p (mem hx),Tm.r9 p (mem hy)]at h;exact λz=>(Tm.lD.mp h) (.inl z)
end
def xN:R2:=λx y H Q=>∃a b ka kb,x=.ref a/\y=.ref b/\H a=some (.dK ka)/\H b=some (.dK kb)/\ka.length=kb.length/\(∀p∈ka,dA p.2=true/\aU kb p.1=some p.2)/\Q (.bl true) H
theorem qP:∀{x:V},dA x=true->eqV x x=true
 | .non,_=>rfl
 | .bl a,_=>by simp[eqV]
 | .int a,_=>by simp[eqV]
 | .str a,_=>by simp[eqV]
theorem ng {A:Around} {s:Shared} {kb:List (Key × V)} {vb:List (Key × Value)} (rb:KV kb vb):∀{ka:List (Key × V)} {va:List (Key × Value)},KV ka va->(∀p∈ka,dA p.2=true/\aU kb p.1=some p.2)->PySem.W.KeqHits A s vb va true
 | _,_,.nil,_=>.nil
 | _,_,.cons (b:=q) h t,al=>by
  obtain⟨f,e⟩:=al _ Xh;obtain⟨u,hu,ru⟩:=gn.some_of (by rw[<-e];exact rb.val _);have:=oA (A:=A) (s:=s) h.2 ru f f;rw[qP f]at this;rw[h.1]at hu;exact .hit (e:=true) (b:=true) hu this (ng rb t λp hp=>al p (QG _ hp))
section
variable {X:Cx}
theorem uJ (hu:X.A.units+64<cLine):OpR X (compareOp .Eq) xN:=by
 intro pins s U H x y v u Q I rx ry h;obtain⟨a,b,ka,kb,rfl,rfl,ha,hb,hl,al,q⟩:=h;cases rx;cases ry;obtain⟨_,sa,va,ra,da⟩:=jl I.hok ha;obtain⟨_,sb,vb,rb,db⟩:=jl I.hok hb;refine PySem.W.keq_eq (r:=true) sa sb da db (by omega) (λ_=>ng rb ra al) ?_;have l1:=ra.length;have l2:=rb.length;rw[<-l1,<-l2,hl,beq_self_eq_true];exact⟨.bl true,H,I,rfl,q⟩
end
end L2
namespace K2
open PySem L2
abbrev IvF:=Nat->St->Hp->Prop
abbrev IvC:=Nat->Hp->List V->Prop
abbrev IvJ:=St->Hp->Prop
variable {X:Cx}
theorem ir {K:PySem.W.Frag} (h:X.K=K):IxR X (nQ K):=by subst h;exact aG
variable {H H':Hp} {U:St} {td ty tx tv tl:TE}
theorem u9 {Q:VK} (q:td U H λx H1=>∃a,x=.ref a/\IsD H1 a/\ty U H1 λy H2=>tx U H2 λz H3=>∃kvs k,H3 a=some (.dK kvs)/\y=kV k/\(∀v,aU kvs k=some v->Q v H3)/\(aU kvs k=none->kvs.length<sizeLine/\Q z (upd H3 a (.dK (bB kvs k z))))):rB td ty tx U H Q:=q
theorem gA {D:Ends} (q:tv U H λv H1=>td U H1 λx H2=>ty U H2 λy H3=>∃a H4,x=.ref a/\gp H3 a y v H4/\D.nx U H4):vI td ty tv D U H:=q
theorem wp {Q:VK} (q:ty U H λy H1=>td U H1 λx H2=>∃a o,x=.ref a/\bz H2 a y o/\Q (.bl o.isSome) H2):xF ty td U H Q:=q
theorem dU {Q:VK} (q:ty U H λy H1=>td U H1 λx H2=>∃a o,x=.ref a/\bz H2 a y o/\Q (.bl (!o.isSome)) H2):oU ty td U H Q:=q
theorem rP {t:TS} {D:Ends} {a:Addr} {u:HO} (r:Rd H a u) (f:Fz u) (q:∀o,t (vo D H a o u) U (upd H a (.frz o u))):xB t D U H:=⟨a,u,r,f,q⟩
theorem fe {R:It->Hp->Prop} (q:tl U H λx H1=>∃a o kvs,x=.ref a/\H1 a=some (.frz o (.dK kvs))/\R (Itd a o kvs) H1):tH tl U H R:=q
structure Txt (K:PySem.W.Frag) (mg:C2) (TT:Addr):Prop where
 n_len:mg "len" = none
 n_range:mg "range" = none
 n_max:mg "max" = none
 n_min:mg "min" = none
 n_int:mg "int" = none
 n_list:mg "list" = none
 n_str:mg "str" = none
 n_isinstance:mg "isinstance" = none
 n_all:mg "all" = none
 n_set:mg "set" = none
 n_dict:mg "dict" = none
 n_enumerate:mg "enumerate" = none
 n_sorted:mg "sorted" = none
 n_tuple:mg "tuple" = none
 n_bool:mg "bool" = none
 n_zip:mg "zip" = none
 n_reversed:mg "reversed" = none
 tURNED:mg "TURNED" = some (.ref TT)
 tab:oR K TT [("0", .flat (.str "1")),("1", .flat (.str "0"))]
inductive Rl where
 | w (n:Str)|no (r:Rl)|an (a b:Rl)|orr (a b:Rl)
def Rl.ok (ns:List Str):Rl->Prop
 | .w n=>n∈ns
 | .no r=>r.ok ns
 | .an a b=>a.ok ns/\b.ok ns
 | .orr a b=>a.ok ns/\b.ok ns
def Rl.dep:Rl->Nat
 | .w _=>1
 | .no r=>r.dep+1
 | .an a b=>max a.dep b.dep+1
 | .orr a b=>max a.dep b.dep+1
def Rl.val (f:Str->Bool):Rl->Bool
 | .w n=>f n
 | .no r=>!r.val f
 | .an a b=>a.val f&&b.val f
 | .orr a b=>a.val f || b.val f
inductive RAt (H:Hp):V->Rl->Prop where
 | w {a:Addr} {n:Str}:H a=some (.tup [.str "wire", .str n])->RAt H (.ref a) (.w n)
 | no {a:Addr} {v:V} {r:Rl}:H a=some (.tup [.str "not", v])->RAt H v r->RAt H (.ref a) (.no r)
 | an {a:Addr} {v u:V} {r s:Rl}:H a=some (.tup [.str "and", v,u])->RAt H v r->RAt H u s->RAt H (.ref a) (.an r s)
 | orr {a:Addr} {v u:V} {r s:Rl}:H a=some (.tup [.str "or", v,u])->RAt H v r->RAt H u s->RAt H (.ref a) (.orr r s)
def fH (H H':Hp):Prop:=∀b xs,H b=some (.tup xs)->H' b=some (.tup xs)
theorem aw.tups (S:aw H H'):fH H H':=λb xs e=>S b _ e
theorem RAt.mono (hs:fH H H') {v:V} {r:Rl} (h:RAt H v r):RAt H' v r:=by
 induction h with
 | w e=>exact .w (hs _ _ e)
 | no e _ ih=>exact .no (hs _ _ e) ih
 | an e _ _ i1 i2=>exact .an (hs _ _ e) i1 i2
 | orr e _ _ i1 i2=>exact .orr (hs _ _ e) i1 i2
def GAt (H:Hp) (v:V) (g:Str × Rl):Prop:=∃b rv,v=.ref b/\H b=some (.tup [.str g.1,rv])/\RAt H rv g.2
theorem GAt.mono (hs:fH H H') {v:V} {g:Str × Rl} (h:GAt H v g):GAt H' v g:=let ⟨b,rv,e,h1,h2⟩:=h;⟨b,rv,e,hs _ _ h1,h2.mono hs⟩
abbrev C4:=List (Str × Rl)
structure NAt (H:Hp) (a li lg:Addr) (ins:List Str) (vs:List V) (gs:C4):Prop where
 ha:H a=some (.tup [.ref li,.ref lg])
 hi:H li=some (.lst (ins.map V.str))
 hg:H lg=some (.lst vs)
 gates:Paired (GAt H) vs gs
theorem dy {H H':Hp} (hs:fH H H'):∀{vs:List V} {gs:C4},Paired (GAt H) vs gs->Paired (GAt H') vs gs
 | _,_,.nil=>.nil
 | _,_,.cons h t=>.cons (h.mono hs) (dy hs t)
theorem NAt.same {a li lg:Addr} {ins:List Str} {vs:List V} {gs:C4} (S:aw H H') (h:NAt H a li lg ins vs gs):NAt H' a li lg ins vs gs:=⟨S _ _ h.ha,S _ _ h.hi,S _ _ h.hg,dy (aw.tups S) h.gates⟩
def aj (ins:List Str) (gs:C4):List Str:=ins++gs.map (·.1)
structure NetOk (ins:List Str) (gs:C4):Prop where
 nd:(aj ins gs).Nodup
 i4:ins.length<=4
 g1:1<=gs.length
 g7:gs.length<=7
 rules:∀g∈gs,g.2.ok (aj ins gs)/\g.2.dep<=10
structure StOk (n:Nat) (z:Str):Prop where
 len:z.cps.size=n
 signs:∀c∈z.cps.toList,c=48\/c=49
def sg (b:Bool):V:=if b then .str "1" else .str "0"
def sgn (names:List Str) (z:Str) (n:Str):Bool:=z.cps.getD (names.idxOf n) 0==49
def DFn (kvs:List (Key × V)) (names:List Str) (f:Str->Bool):Prop:=∀n∈names,aU kvs (Sum.inr n:Key)=some (sg (f n))
theorem fF {K:PySem.W.Frag} (h:X.K=K):eO X (.builtin "len") (λxs H Q=>∃p ys,xs=[.ref p]/\(SqL K H p ys\/SqT K H p ys)/\Q (.int ys.length) H):=by subst h;exact aM
theorem dE {K:PySem.W.Frag} (h:X.K=K):OpR X (compareOp .NotIn) (rIn K true):=by subst h;exact bY
variable {pos p:Pos} {es a:List Expr}
theorem pj {K:PySem.W.Frag} {k:Nat} {t:TGs} {n:Nat} (hK:X.K=K) (hc:X.calm=true) (h:PGs X es t)
  (hn:(assignEach es X.env).length=n:=by rfl) (hst:(assignEach es X.env).findIdx? (·.1)=none:=by rfl):PG X (.Tuple es k pos) (xj K n t):=by subst hK;exact gG hc h hn hst
theorem iS {A B:TS} {D:Ends} (J:St->Hp->Prop) (h:∀(R:St->Hp->Prop),(∀U H,J U H->R U H)->A { D with nx:=R } U H) (hJ:∀U H,J U H->B D U H):ur A B D U H:=h (B D) hJ
variable {env:Env}
theorem se_tup {n:Nat}:starEach (.Tuple a n p::es) env=(false,eval (.Tuple a n p) env)::starEach es env:=by rfl
theorem se_lst:starEach (.List a p::es) env=(false,eval (.List a p) env)::starEach es env:=by rfl
theorem se_call {f:Expr} {k:List Keyword}:starEach (.Call f a k p::es) env=(false,eval (.Call f a k p) env)::starEach es env:=by rfl
theorem se_con {c:Const} {n:Nat}:starEach (.Constant c n p::es) env=(false,eval (.Constant c n p) env)::starEach es env:=by rfl
theorem ae {x:Str}:starEach (.Name x p::es) env=(false,eval (.Name x p) env)::starEach es env:=by rfl
theorem se_sub {a b:Expr}:starEach (.Subscript a b p::es) env=(false,eval (.Subscript a b p) env)::starEach es env:=by rfl
theorem mY {a b:Addr} {o:HO} (h1:H a=some o) (h2:H b=none):b≠a:=λz=>by rw[z,h1]at h2;cases h2
theorem gX {α β:Type} {F:α->β->Prop}:∀{xs:List α} {ys:List β} {x:α} {y:β},Paired F xs ys->F x y->Paired F (xs++[x]) (ys++[y])
 | _,_,_,_,.nil,h=>.cons h .nil
 | _,_,_,_,.cons h t,g=>.cons h (gX t g)
theorem bM {α β:Type} {F G:α->β->Prop} (h:∀a b,F a b->G a b):∀{xs:List α} {ys:List β},Paired F xs ys->Paired G xs ys
 | _,_,.nil=>.nil
 | _,_,.cons a t=>.cons (h _ _ a) (bM h t)
theorem paired_get {α β:Type} {F:α->β->Prop}:∀{xs:List α} {ys:List β} {i:Nat} {x:α},Paired F xs ys->xs[i]?=some x->∃y,ys[i]?=some y/\F x y
 | _,_,_,_,.nil,e=>by simp at e
 | _,_,0,_,.cons r _,e=>by simp at e;subst e;exact⟨_,rfl,r⟩
 | _,_,i+1,x,.cons _ t,e=>by
  obtain⟨u,h1,h2⟩:=paired_get (i:=i) (x:=x) t (by simpa using e);exact⟨u,by simpa using h1,h2⟩
theorem ifT {c:Bool} {A B:Prop} (hc:c=true) (h:A):if c=true then A else B:=by rw[QB hc];exact h
theorem ifF {c:Bool} {A B:Prop} (hc:c=false) (h:B):if c=true then A else B:=by subst hc;exact iteF h
theorem bh {D:Addr} {o:HO} (S:aw H H') (hD:H D=none):aw H (upd H' D o):=λb u e=>by rw[ao (aB e hD)];exact S b u e
theorem aJ {p:Addr} {o:HO} (h:H p=none) (e:upd H p o=H'):aw H H'/\H' p=some o:=by
 subst e;exact⟨ap h,ai⟩
theorem aP {α β:Type} {F:α->β->Prop}:∀{xs:List α} {ys:List β},Paired F xs ys->xs.length=ys.length
 | _,_,.nil=>rfl
 | _,_,.cons h t=>by simp[aP t]
end K2
namespace K2
open PySem L2
abbrev SqLofQ:=@SqL.of
abbrev i_cQ:=@i_c
abbrev i_callQ:=@aI
abbrev i_consQ:=@af
abbrev i_ixLQ:=@bD
abbrev i_ixTQ:=@bg
abbrev i_nilQ:=@av
abbrev i_opQ:=@aA
abbrev i_testQ:=@aQ
abbrev i_varQ:=@ad
abbrev pa_consQ:=@aa
abbrev pa_nilQ:=@ag
abbrev pe_intQ:=@am
abbrev pe_strQ:=@a7
abbrev pss_oneQ:=@aS
abbrev s_asgQ:=@aY
abbrev s_nameQ:=@aq
abbrev s_retQ:=@bE
abbrev se_nameQ:=@ae
local macro_rules | `(tactic| walk_at "vc") => `(tactic| first
 | ((refine' (?zz : (?zA → ?zG) → ?zA → ?zG) ?zr ?_); (case zr => with_reducible exact s_seqT); (case zz => exact fun _ q => q); intro D') | ((refine' (?zz : (?zA → ?zG) → ?zA → ?zG) ?zr ?_); (case zr => with_reducible first | exact s_asgQ | exact s_drop | exact s_retQ | exact s_if | exact s_sub | exact s_next | exact i_cQ | exact i_opQ | exact i_testQ | exact i_tB | exact i_and | exact i_or | exact i_not | exact i_andV | exact i_orV | exact i_notV | exact i_ifE | exact i_nilQ | exact i_consQ | exact i_cb | exact i_tup | exact i_lst | exact i_bm | exact i_sl | exact i_nopart | exact i_part | exact s_for | exact s_rng1 | exact s_list | exact s_str | exact i_comp | exact i_dget | exact i_yes); (case zz => exact fun _ q => q))   | (with_reducible refine s_nameQ ?_)
 | ((with_reducible refine' i_varQ ?hv ?_); (case hv => exact rfl))   | (with_reducible first | refine i_rI0 ?_ | refine i_callQ ?_ | refine s_strI ?_ | refine iteF ?_ | refine iteT ?_)
 | ((with_reducible show ∃ i, V.int _ = V.int i ∧ _); (refine ⟨_, rfl, ?_⟩)) | ((with_reducible show ∃ k, V.bl _ = V.bl k ∧ _); (refine ⟨_, rfl, ?_⟩)) | ((with_reducible show (∃ i, [V.bl _] = [V.int i] ∧ _) ∨ _); (refine Or.inr ⟨_, rfl, ?_⟩))
 | ((with_reducible refine' i_ixLQ ?ha ?hb ?_); (case ha => exact SqLofQ (by assumption)); (case hb => exact rfl)) | ((with_reducible refine' i_ixTQ ?ha ?hb ?_); (case ha => assumption); (case hb => exact rfl))
 | ((with_reducible show ∃ p _, [V.ref _] = [V.ref p] ∧ (SqL _ _ _ _ ∨ SqT _ _ _ _) ∧ _); (refine' ⟨_, _, rfl, Or.inl (SqLofQ ?ha), ?_⟩); (case ha => assumption)) | ((with_reducible refine' s_setL ?ha ?hb ?_); (case ha => assumption); (case hb => exact rfl))
 | ((with_reducible refine' i_eq ?ha ?_); (case ha => exact rfl)) | ((with_reducible refine' i_ne ?ha ?_); (case ha => exact rfl))
 | ((with_reducible show ∃ z, V.str _ = V.str z ∧ _); (refine ⟨_, rfl, ?_⟩)))
local macro_rules | `(tactic| walk_at "p") => `(tactic| repeat' (with_reducible first | (refine' pss_oneQ ?_; rotate_left 1) | (refine' pss_cons ?_ ?_; rotate_left 2) | exact pss_nil | (refine' ps_if ?_ ?_ ?_; rotate_left 3)))
local macro_rules | `(tactic| walk_at "b") => `(tactic| (refine' pss_cons ?_ ?_; rotate_left 2; walk_at "p"))
local macro_rules | `(tactic| walk_at "f") => `(tactic| (refine' ps_for PassesOwn.never rfl ?_ ?_ ?_ (fun _ => rfl); rotate_left 3))
local macro_rules | `(tactic| walk_at "q") => `(tactic| repeat' (with_reducible first | exact pe_strQ | exact pe_intQ | exact pa_nilQ | (refine' pe_tup ?_; rotate_left 1) | (refine' pe_lst ?_; rotate_left 1) | (refine' pa_consQ ?_ ?_ se_con; rotate_left 2) | (refine' pa_consQ ?_ ?_ se_tup; rotate_left 2) | (refine' pa_consQ ?_ ?_ se_nameQ; rotate_left 2) | (refine' pa_consQ ?_ ?_ se_sub; rotate_left 2) | (refine' pa_consQ ?_ ?_ se_bin; rotate_left 2) | (refine' pa_consQ ?_ ?_ se_lst; rotate_left 2) | (refine' pa_consQ ?_ ?_ se_call; rotate_left 2) | (refine' pa_consQ ?_ ?_ se_lc; rotate_left 2)))
local macro_rules | `(tactic|room) => `(tactic| (intro vs H Q E h; repeat (first | (obtain ⟨e, _⟩ := h; subst e; rfl) | (obtain ⟨_, h⟩ := h))))
local macro_rules | `(tactic|x_go) => `(tactic| ((try dsimp only [cxOf, Cx.nox, Cx.wish]); (conv in (L2.start _ _) => simp only [L2.start, QH, List.map_nil, QK, Q8, List.replicate_succ, List.replicate_zero, List.cons_append, Xo, Nat.reduceAdd, Nat.reduceSub]); have big : 100000 < sizeLine := by decide))
local macro_rules | `(tactic|kt_k) => `(tactic| (with_reducible first | refine s_seq ?_ | refine s_if ?_ | refine s_next ?_ | refine i_or ?_ | refine s_nameQ ?_ | refine s_retQ ?_))
local macro_rules|`(tactic|lk)=>`(tactic|repeat walk_at "vc")
local macro_rules|`(tactic|fin2)=>`(tactic|exact⟨rfl,rfl,rfl,by decide +kernel,rfl,by decide +kernel,by decide +kernel⟩)
def f6:Sp:=λvs H Q _=>∃a li lg ins gvs gs,vs=[.ref a]/\NAt H a li lg ins gvs gs/\NetOk ins gs/\∀l H',aw H H'->H l=none->H' l=some (.lst ((aj ins gs).map V.str))->Q (.ref l) H'
def o8:Sp:=λvs H Q _=>∃a li lg ins gvs gs,vs=[.ref a]/\NAt H a li lg ins gvs gs/\NetOk ins gs/\∀l H',aw H H'->H l=none->H' l=some (.lst ((gs.map (·.1)).map V.str))->Q (.ref l) H'
variable {i n:Nat}
theorem qT {K:PySem.W.Frag} {U:St} {H:Hp} {Q:VK} {c:Int} {a li lg:Addr} {gvs vals:List V} (hσ:U[i]?=some (some (.ref a))) (ha:H a=some (.tup [.ref li,.ref lg])) (hg:H lg=some (.lst gvs)) (hs:gvs.length<=1000)
  (hx:∀(j:Nat) x,gvs[j]?=some x->∃b ys v,x=.ref b/\H b=some (.tup ys)/\atI ys c=some v/\vals[j]?=some v) (hl:vals.length=gvs.length)
  (q:∀D H',H D=none->aw H H'->H' D=some (.lst vals)->Q (.ref D) H') :
  iD (nh K (tOp (nQ K) (eR i) (tC (V.int 1)))) (dW 0) fY (tOp (nQ K) (eR 0) (tC (V.int c))) (bI [Str.ofString "gate"] []) U H Q:=by
 refine i_comp (s_list (aA (ad hσ (i_c (bg ha rfl ⟨lg,rfl,⟨_,SqL.of hg⟩,λD hD=>?_⟩)))));have big:1000<sizeLine:=by decide
 refine gM (xs:=gvs) (λn H' ys=>aw H H'/\H' D=some (.lst ys)/\ys=vals.take n) ⟨ap hD,ai,by simp⟩ (λn H' ys p=>⟨p.2.1,SqL.of (p.1 _ _ hg)⟩) (λn x H' ys e p=>?_) (λH' ys p=>?_)
 ·obtain⟨S,hd,rfl⟩:=p;obtain⟨b,zs,v,rfl,hb,hv,hv2⟩:=hx n x e;have hn:n<gvs.length:=(Qc.mp e).1;refine aq ⟨trivial,?_⟩;refine i_yes (iteT ?_);refine aA (ad rfl (i_c (bg (S _ _ hb) hv (cw.mk hd hn (by rw[Qq];omega) ⟨bh S hD,ai,?_⟩))));rw[QV,hv2];rfl
 obtain⟨S,hd,rfl⟩:=p;exact q D H' hD S (by rw[hd,Qr (by omega)])
theorem c_ {α β:Type} {F:α->β->Prop}:∀{xs:List α} {ys:List β},Paired F xs ys->∀(j:Nat) x,xs[j]?=some x->∃y,ys[j]?=some y/\F x y
 | _,_,.nil=>λj x e=>by simp at e
 | _,_,.cons (a:=a) (b:=b) h t=>λj x e=>by
  cases j with
  | zero=>simp at e;subst e;exact⟨_,rfl,h⟩
  | succ j=>simp at e;obtain⟨y,e',f⟩:=c_ t j x e;exact⟨y,by simpa using e',f⟩
variable {gs:C4} {ins ns:List Str}
theorem oF {K:PySem.W.Frag} {U:St} {H:Hp} {Q:VK} {a li lg:Addr} {gvs:List V} (hσ:U[i]?=some (some (.ref a))) (NA:NAt H a li lg ins gvs gs) (ok:NetOk ins gs)
  (q:∀D H',H D=none->aw H H'->H' D=some (.lst ((gs.map (·.1)).map V.str))->Q (.ref D) H') :
  iD (nh K (tOp (nQ K) (eR i) (tC (V.int 1)))) (dW 0) fY (tOp (nQ K) (eR 0) (tC (V.int 0))) (bI [Str.ofString "gate"] []) U H Q:=by
 have l:=aP NA.gates;have g7:=ok.g7;refine qT (vals:=(gs.map (·.1)).map V.str) hσ NA.ha NA.hg (by omega) (λj x e=>?_) (by simp[l]) q;obtain⟨g,e',b,rv,rfl,hb,hr⟩:=c_ NA.gates j x e;exact⟨b,_,_,rfl,hb,rfl,by simp[e']⟩
theorem jX (ok:NetOk ins gs):(ins.map V.str).length+((gs.map (·.1)).map V.str).length<=sizeLine:=by
 have g7:=ok.g7;have i4:=ok.i4;have big:1000<sizeLine:=by decide
 simp only[Qa];omega
theorem jW (ins:List Str) (gs:C4):ins.map V.str++(gs.map (·.1)).map V.str=(aj ins gs).map V.str:=by unfold aj;rw[Qz]
variable {P:Program} {w:World} {K:PySem.W.Frag} {mg:C2} {base:Heap} {TT:Addr}
section
theorem mK:FnScope ["net"] ["net"] (au (top 6)):=by fin2
theorem sP {f:Addr} {fd:FuncData} (Fu:Fun K "gates_of" "gates_of" (top 6) f fd) (T:Txt K mg TT):FnOk P w K mg base CX0 1 f fd ["net"] o8:=by
 have S:=mK;refine Fu.ok S (by room) (λcdv A outer s H vs Q E hr h=>?_);obtain⟨a,li,lg,ins,gvs,gs,rfl,NA,ok,k⟩:=h;refine⟨_,(aS (aD (i6 "gate" [] (bt (aC aG (pv 0) am)) (λ_ _ _ _=>(aC (ir (K:=K) rfl) (pv 0) am))))),?_⟩;x_go;refine oF (Q:=Q) rfl NA ok λD H2 hD s2 h2=>?_;exact k D H2 s2 hD h2
theorem mC:FnScope ["net"] ["net"] (au (top 7)):=by fin2
theorem sG {f:Addr} {fd:FuncData} (Fu:Fun K "wires_of" "wires_of" (top 7) f fd) (T:Txt K mg TT) (f_gates_of:Fn P w K mg base "gates_of" ["net"] 1 o8):FnOk P w K mg base CX0 2 f fd ["net"] f6:=by
 have S:=mC;refine Fu.ok S (by room) (λcdv A outer s H vs Q E hr h=>?_);obtain⟨a,li,lg,ins,gvs,gs,rfl,NA,ok,k⟩:=h;obtain⟨ha,hi,hg,gts⟩:=id NA;refine⟨_,(aS (aD (aR nY (c9 gl (by rfl) T.n_list PyProof.Rows.boot_list (aa (aC aG (pv 0) am) ag)) (aE f_gates_of hr (aa (pv 0) ag))))),?_⟩;x_go;lk;intro l hl;have s1:=ap (o:=.lst (ins.map V.str)) hl;have NA1:=NA.same s1;lk;refine⟨a,li,lg,ins,gvs,gs,rfl,NA1,ok,λD H2 s2 hD h2=>?_⟩;have hl2:H2 l=some (.lst (ins.map V.str)):=s2 _ _ ai;refine tE hl2 h2 (jX ok) λp hp=>?_;have hs:aw H (upd H2 p (HO.lst (ins.map V.str++(gs.map (·.1)).map V.str))):=s1.trans (s2.trans (ap hp));refine k p _ hs (aw.free (s1.trans s2) hp) ?_;rw[ai,jW]
end
def gu (v:V):Sp:=λvs H Q _=>∃a li lg ins gvs gs z,vs=[.ref a,.str z]/\NAt H a li lg ins gvs gs/\NetOk ins gs/\StOk (aj ins gs).length z/\∀H',aw H H'->Q v H'
def stB (n:Nat) (z:Str):Bool:=decide (z.cps.size=n)&&z.cps.toList.all λc=>c==48 || c==49
theorem uu {z:Str}:stB n z=true↔StOk n z:=by
 unfold stB;rw[Bool.and_eq_true,decide_eq_true_iff,Q0];exact⟨λh=>⟨h.1,λc hc=>by simpa using h.2 c hc⟩,λh=>⟨h.len,λc hc=>by simpa using h.signs c hc⟩⟩
def vD:Sp:=λvs H Q _=>∃(z:Str) (m:Nat),vs=[.str z,.int (m:Int)]/\z.length<=1000/\∀H',aw H H'->Q (.bl (stB m z)) H'
def o7:Sp:=λvs H Q _=>∃a li lg ins gvs gs z,vs=[.ref a,.str z]/\NAt H a li lg ins gvs gs/\NetOk ins gs/\z.length<=1000/\∀H',aw H H'->Q (.bl (stB (aj ins gs).length z)) H'
theorem xf (c:Nat):PyProof.Rows.KTD.inKeys (⟨#[c]⟩:Str) [(("0" : Str),PyProof.Rows.KTD.Dat.flat (PyData.str "1")),("1", .flat (.str "0"))]=(c==48 || c==49):=by
 by_cases h:c=48
 ·subst h;decide +kernel
 by_cases h2:c=49
 ·subst h2;decide +kernel
 rw[beq_false_of_ne h,beq_false_of_ne h2];have e:∀d:Nat,c≠d->decide ((⟨#[c]⟩:Str)=⟨#[d]⟩)=false:=λd n=>Qx λz=>n (by cases z;rfl);show (decide ((⟨#[c]⟩:Str)=⟨#[48]⟩) || (decide ((⟨#[c]⟩:Str)=⟨#[49]⟩) || false))=false;rw[e 48 h,e 49 h2];rfl
section
theorem p_:FnScope ["thing", "many"] ["thing", "many"] (au (top 5)):=by fin2
variable {fd:FuncData} {f:Addr}
theorem wY (Fu:Fun K "is_row" "is_row" (top 5) f fd) (T:Txt K mg TT):FnOk P w K mg base CX0 1 f fd ["thing", "many"] vD:=by
 have S:=p_;refine Fu.ok S (by room) (λcdv A outer s H vs Q E hr h=>?_);obtain⟨z,m,rfl,hz,k⟩:=h
 refine⟨_,(pss_cons (ps_if (PW.pt (eT (iX (eU (aV nw (by rfl) T.n_isinstance PyProof.Rows.boot_isinstance (aa (pv 0) (aa (uH (v:=.ty "str") (by rfl) T.n_str PyProof.Rows.boot_str rfl) ag))))) (d9 (aF gb (aV lM (by rfl) T.n_len QW (aa (pv 0) ag)) (pv 1) (aN _))))) (aS (aD eM)) pss_nil)
  (aS (aD (aV (ny rfl) (by rfl) T.n_all PyProof.Rows.boot_all (aa (i6 "sign" [] (wM (pv 0)) (λ_ _ _ _=>(bH (qj T.tab) (pv 0) (pp (v:=.ref TT) (by rfl) T.tURNED rfl) rfl))) ag))))),?_⟩
 x_go;lk;refine⟨_,_,_,_,rfl,TyOf.str z,tf "str", ?_⟩;refine⟨_,rfl,iteF ?_⟩;have big:1000<sizeLine:=by decide
 lk;refine⟨_,rfl,(by omega),?_⟩;lk;by_cases cz:z.length=m
 case neg =>
  refine ifT (by rw[Qx λh=>cz (by injection h with h;omega)];rfl) ?_;lk
  have e:stB m z=false:=by
   unfold stB;rw[Qx (show ¬z.cps.size=m from cz)];rfl
  have:=k H (aw.refl _);rwa [e]at this
 refine ifF (by rw[cz];simp) ?_;lk;intro D hD;let I1:IvC:=λn H' ys=>aw H H'/\H' D=some (.lst ys)/\ys=((z.cps.toList.take n).map λc=>c==48 || c==49).map V.bl;refine tW I1 ⟨ap hD,ai,rfl⟩ (λn H' ys p=>p.2.1) (λn H' ys hn p=>?_) (λH' ys p=>?_)
 ·obtain⟨Sm,hd,rfl⟩:=p;refine aq ⟨trivial,i_yes (iteT ?_)⟩;refine aA (ad rfl (i_c ⟨_,rfl,rfl,?_⟩));have zl:z.cps.size=z.length:=rfl;refine cw.mk hd hn (by rw[Qa,Qa,Qq];omega) ⟨bh Sm hD,ai,?_⟩
  have e:z.cps.toList[n]?=some (z.cps.getD n 0):=by
   rw[QA,Xp hn];simp[Array.getD,hn]
  rw[QV,e,Option.toList_some,Qz,Qz];exact congrArg (λb=>((z.cps.toList.take n).map λc=>c==48 || c==49).map V.bl++[V.bl b]) (xf _)
 obtain⟨Sm,hd,rfl⟩:=p;refine av ⟨_,_,rfl,SqL.of hd,?_⟩
 have e:(((z.cps.toList.take z.cps.size).map λc=>c==48 || c==49)).all id=stB m z:=by
  unfold stB;rw[QJ (show z.cps.size=m from cz),Bool.true_and,List.all_map,Qr (by rw[Qv];exact Qg _)];rfl
 rw[e];exact k H' Sm
theorem iV:FnScope ["net", "thing"] ["net", "thing"] (au (top 8)):=by fin2
theorem uT (Fu:Fun K "is_standing" "is_standing" (top 8) f fd) (T:Txt K mg TT) (f_is_row:Fn P w K mg base "is_row" ["thing", "many"] 1 vD):FnOk P w K mg base CX0 2 f fd ["net", "thing"] o7:=by
 have S:=iV;refine Fu.ok S (by room) (λcdv A outer s H vs Q E hr h=>?_);obtain⟨a,li,lg,ins,gvs,gs,z,rfl,NA,ok,st,k⟩:=h;obtain⟨ha,hi,hg,gts⟩:=id NA;refine⟨_,(aS (aD (aE f_is_row hr (aa (pv 1) (aa (aR b_ (aV aM (by rfl) T.n_len QW (aa (aC aG (pv 0) am) ag)) (aV aM (by rfl) T.n_len QW (aa (aC aG (pv 0) am) ag))) ag))))),?_⟩;x_go
 have hz:(aj ins gs).length=ins.length+gs.length:=by
  unfold aj;rw[Qf,Qa]
 have lg:=aP NA.gates;lk;refine⟨z,(aj ins gs).length,?_,st,λH' Sm=>k H' Sm⟩;rw[Qa,lg,hz];rfl
theorem f8:FnScope ["net", "thing"] ["net", "thing"] (au (top 9)):=by fin2
theorem sR (Fu:Fun K "check_standing" "check_standing" (top 9) f fd) (T:Txt K mg TT) (f_is_standing:Fn P w K mg base "is_standing" ["net", "thing"] 2 o7):FnOk P w K mg base CX0 3 f fd ["net", "thing"] (gu .non):=by
 have S:=f8;refine Fu.ok S (by room) (λcdv A outer s H vs Q E hr h=>?_);obtain⟨a,li,lg,ins,gvs,gs,z,rfl,NA,ok,st,k⟩:=h;refine⟨_,(aS (ps_if (iX (eU (aE f_is_standing hr (aa (pv 0) (aa (pv 1) ag))))) qa pss_nil)),?_⟩;x_go;lk;have w11:(aj ins gs).length<=11:=by unfold aj;rw[Qf,Qa];have:=ok.i4;have:=ok.g7;omega
 have zl:z.length=(aj ins gs).length:=st.len;refine⟨a,li,lg,ins,gvs,gs,z,rfl,NA,ok,by omega,λH' Sm=>⟨_,rfl,?_⟩⟩;rw[uu.mpr st];exact iteF (k H' Sm)
def kQ (d:Nat):Sp:=λvs H Q _=>∃v a kvs r ns g,vs=[v,.ref a]/\RAt H v r/\r.dep<=d/\r.ok ns/\H a=some (.dK kvs)/\DFn kvs ns g/\Q (.bl (r.val g)) H
theorem fR {k:Nat} {ps:List Str} {sp:Sp} (h:∀vs H Q E,sp vs H Q E->False):FnOk P w K mg base CX0 k f fd ps sp :=
 ⟨λvs H Q E q=>(h vs H Q E q).elim,λ_ _ _ _ _ _ vs Q E _ _ _ _ q=>(h _ _ _ _ q).elim⟩
theorem pN (r:Rl):1<=r.dep:=by cases r <;> simp[Rl.dep]
theorem iR (b:Bool):decide (sg b=V.str "1")=b:=by
 cases b
 ·decide +kernel
 decide +kernel
theorem jL:FnScope ["rule", "signs", "kind"] ["rule", "signs"] (au (top 10)):=by fin2
theorem mT {f:Addr} {fd:FuncData} (Fu:Fun K "rule_holds" "rule_holds" (top 10) f fd) (T:Txt K mg TT) (hm:mg "rule_holds" = some (.ref f)) (hk:PySem.W.keepIn K (.ref f)=true) (hb:fI K fd ["rule", "signs"] []):∀d,FnOk P w K mg base CX0 d f fd ["rule", "signs"] (kQ d)
 | 0=>fR λvs H Q E ⟨v,a,kvs,r,ns,g,_,_,h,_⟩=>by have:=pN r;omega
 | d+1=>by
  have S:=jL;have f_rule_holds:Fn P w K mg base "rule_holds" ["rule", "signs"] d (kQ d):=⟨f,fd,mT Fu T hm hk hb d,hm,hk,hb⟩;refine Fu.ok S (λvs H Q E h=>?_) (λcdv A outer s H vs Q E hr h=>?_)
  ·obtain⟨v,a,kvs,r,ns,g,rfl,_⟩:=h;rfl
  obtain⟨v,a,kvs,r,ns,g,rfl,ra,hd,rok,ha,hf,q⟩:=h;have hu:=cf hr
  refine⟨_,(pss_cons (aH 2 S.nd (aC aG (pv 0) am))
  (pss_cons (ps_if (aF cG (pv 2) a7 (aN _)) (aS (aD (bH cG (bu hu (pv 1) (aC aG (pv 0) am)) a7 (aN _)))) pss_nil)
  (pss_cons (ps_if (aF cG (pv 2) a7 (aN _)) (aS (aD (nU (aE f_rule_holds hr (aa (aC aG (pv 0) am) (aa (pv 1) ag)))))) pss_nil)
  (pss_cons (ps_if (aF cG (pv 2) a7 (aN _)) (aS (aD (fN (aE f_rule_holds hr (aa (aC aG (pv 0) am) (aa (pv 1) ag))) (eV (aE f_rule_holds hr (aa (aC aG (pv 0) am) (aa (pv 1) ag))))))) pss_nil)
  (aS (aD (pk (aE f_rule_holds hr (aa (aC aG (pv 0) am) (aa (pv 1) ag))) (eV (aE f_rule_holds hr (aa (aC aG (pv 0) am) (aa (pv 1) ag))))))))))),?_⟩
  x_go
  cases ra with
  | @w b n hb =>
   lk;refine ifT (by decide +kernel) ?_;lk;have hv:aU kvs (Sum.inr n:Key)=some (sg (g n)):=hf n rok;refine⟨a,sg (g n),rfl,by rw[<-hv];exact bz.k (k:=Sum.inr n) ha,?_⟩;lk;refine i_eq (by cases g n <;> rfl) ?_;rw[iR];exact q
  | @no b u r hb hr1 =>
   lk;refine ifF (by decide +kernel) ?_;lk;refine ifT (by decide +kernel) ?_;lk;exact⟨u,a,kvs,r,ns,g,rfl,hr1,by simp only[Rl.dep]at hd;omega,rok,ha,hf,⟨_,rfl,q⟩⟩
  | @an b u x r1 r2 hb hr1 hr2 =>
   lk;refine ifF (by decide +kernel) ?_;lk;refine ifF (by decide +kernel) ?_;lk;refine ifT (by decide +kernel) ?_;lk;simp only[Rl.dep]at hd;refine⟨u,a,kvs,r1,ns,g,rfl,hr1,by omega,rok.1,ha,hf,⟨_,rfl,?_⟩⟩;have e:Rl.val g (Rl.an r1 r2)=(r1.val g&&r2.val g):=rfl;rw[e]at q
   cases hv:r1.val g with
   | false=>rw[hv]at q;exact iteF q
   | true =>
   rw[hv]at q;refine iteT ?_;lk;exact⟨x,a,kvs,r2,ns,g,rfl,hr2,by omega,rok.2,ha,hf,q⟩
  | @orr b u x r1 r2 hb hr1 hr2 =>
  lk;refine ifF (by decide +kernel) ?_;lk;refine ifF (by decide +kernel) ?_;lk;refine ifF (by decide +kernel) ?_;lk;simp only[Rl.dep]at hd;refine⟨u,a,kvs,r1,ns,g,rfl,hr1,by omega,rok.1,ha,hf,⟨_,rfl,?_⟩⟩;have e:Rl.val g (Rl.orr r1 r2)=(r1.val g || r2.val g):=rfl;rw[e]at q
  cases hv:r1.val g with
  | true=>rw[hv]at q;exact iteT q
  | false =>
  rw[hv]at q;refine iteF ?_;lk;exact⟨x,a,kvs,r2,ns,g,rfl,hr2,by omega,rok.2,ha,hf,q⟩
def oW (d:Nat):Sp:=λvs H Q _=>∃v a kvs r ns g,vs=[v,.ref a]/\RAt H v r/\r.dep<=d/\r.ok ns/\H a=some (.dK kvs)/\DFn kvs ns g/\Q (sg (r.val g)) H
theorem jK:FnScope ["rule", "signs"] ["rule", "signs"] (au (top 11)):=by fin2
theorem sF (Fu:Fun K "rule_worth" "rule_worth" (top 11) f fd) (T:Txt K mg TT) (f_rule_holds:Fn P w K mg base "rule_holds" ["rule", "signs"] 10 (kQ 10)):FnOk P w K mg base CX0 11 f fd ["rule", "signs"] (oW 10):=by
 have S:=jK;refine Fu.ok S (by room) (λcdv A outer s H vs Q E hr h=>?_);obtain⟨v,a,kvs,r,ns,g,rfl,ra,hd,rok,ha,hf,q⟩:=h;refine⟨_,(aS (aD (i7 (eU (aE f_rule_holds hr (aa (pv 0) (aa (pv 1) ag)))) a7 a7))),?_⟩;x_go;lk;refine⟨v,a,kvs,r,ns,g,rfl,ra,hd,rok,ha,hf,⟨_,rfl,?_⟩⟩
 cases hv:r.val g with
 | true=>rw[hv]at q;exact iteT q
 | false=>rw[hv]at q;exact iteF q
end
theorem eI {k:Key}:∀{qs kvs:List (Key × V)},k∉qs.map (·.1)->aU (bw kvs qs) k=aU kvs k
 | [],kvs,_=>rfl
 | q::qs,kvs,h=>by
  simp only[QH,QQ,not_or]at h;show aU (bw (bB kvs q.1 q.2) qs) k=_;rw[eI h.2,cV,QC h.1]
theorem eQ {k:Key} {v:V}:∀{qs kvs:List (Key × V)},(qs.map (·.1)).Nodup->(k,v)∈qs->aU (bw kvs qs) k=some v
 | [],kvs,_,h=>nomatch h
 | q::qs,kvs,nd,h=>by
  rw[QH,Q7]at nd;show aU (bw (bB kvs q.1 q.2) qs) k=_;rcases QQ.mp h with e|h
  ·subst e;rw[eI nd.1,cV,QB rfl]
  exact eQ nd.2 h
theorem lZ (ns:List Str) (z:Str):(cL ns z).map (·.1)=ns.map Sum.inr:=by
 unfold cL;rw[QS];have e:((λx:Key × V=>x.1)∘λp:Str × Nat=>((Sum.inr p.1:Key),eL z p.2))=(λp:Str × Nat=>(Sum.inr p.1:Key)):=rfl;rw[e];have e2:(λp:Str × Nat=>(Sum.inr p.1:Key))=(Sum.inr:Str->Key)∘Prod.fst:=rfl;rw[e2,<-QS,List.zipIdx_map_fst]
theorem qw (h:ns.Nodup):(ns.map (Sum.inr:Str->Key)).Nodup:=by
 induction ns with
 | nil=>exact List.nodup_nil
 | cons a r ih =>
 rw[Q7]at h;rw[QH,Q7];refine⟨λm=>?_,ih h.2⟩;obtain⟨x,hx,e⟩:=Qp.mp m;cases e;exact h.1 hx
theorem ip {z:Str} (st:StOk n z) (hi:i<n):eL z i=sg (z.cps.getD i 0==49):=by
 have hl:=st.len;have e:z.cps.getD i 0=z.cps[i]'(by omega):=by simp[Array.getD,hl,hi]
 have:z.cps.getD i 0=48\/z.cps.getD i 0=49:=by
  rw[e];exact st.signs _ (by simp)
 unfold eL;rcases this with e|e
 ·rw[e];decide +kernel
 rw[e];decide +kernel
theorem pM {z:Str} (nd:ns.Nodup) (st:StOk ns.length z):DFn (bw [] (cL ns z)) ns (sgn ns z):=λn hn=>by
 have hi:ns.idxOf n<ns.length:=List.idxOf_lt_length_of_mem hn;have e:ns[ns.idxOf n]?=some n:=by rw[Qb hi];exact congrArg some (List.getElem_idxOf hi)
 have hm:((Sum.inr n:Key),eL z (ns.idxOf n))∈cL ns z:=by
  unfold cL;refine Qp.mpr ⟨(n,ns.idxOf n),?_,rfl⟩;rw[List.mem_zipIdx_iff_getElem?];exact e
 rw[eQ (by rw[lZ];exact qw nd) hm,ip st hi];rfl
def j9:Sp:=λvs H Q _=>∃a li lg ins gvs gs z,vs=[.ref a,.str z]/\NAt H a li lg ins gvs gs/\NetOk ins gs/\StOk (aj ins gs).length z /\
 ∀d H' kvs,aw H H'->H' d=some (.dK kvs)->DFn kvs (aj ins gs) (sgn (aj ins gs) z)->Q (.ref d) H'
section
theorem mD:FnScope ["net", "standing"] ["net", "standing"] (au (top 12)):=by fin2
theorem n5 {f:Addr} {fd:FuncData} (Fu:Fun K "signs_in" "signs_in" (top 12) f fd) (T:Txt K mg TT) (f_wires_of:Fn P w K mg base "wires_of" ["net"] 2 f6):FnOk P w K mg base CX0 3 f fd ["net", "standing"] j9:=by
 have S:=mD;refine Fu.ok S (by room) (λcdv A outer s H vs Q E hr h=>?_);obtain⟨a,li,lg,ins,gvs,gs,z,rfl,NA,ok,st,k⟩:=h;refine⟨_,(aS (aD (pq rfl (by rfl) T.n_dict (by rfl) T.n_zip (aa (aE f_wires_of hr (aa (pv 0) ag)) (aa (pv 1) ag))))),?_⟩;x_go
 have wl:(aj ins gs).length<1000:=by
  have i4:=ok.i4;have g7:=ok.g7;unfold aj;rw[Qf,Qa];omega
 lk;show fw _ _ _ _ _;lk;refine⟨a,li,lg,ins,gvs,gs,rfl,NA,ok,λl H1 S1 hl h1=>?_⟩;lk;refine⟨l,aj ins gs,z,rfl,SqL.of h1,by rw[st.len];omega,wl,λd hd=>?_⟩;exact k d _ _ (S1.trans (ap hd)) ai (pM ok.nd st)
end
end K2
namespace K2
open PySem L2
local macro_rules | `(tactic| walk_at "vc") => `(tactic| first
 | ((refine' (?zz : (?zA → ?zG) → ?zA → ?zG) ?zr ?_); (case zr => with_reducible exact s_seqT); (case zz => exact fun _ q => q); intro D') | ((refine' (?zz : (?zA → ?zG) → ?zA → ?zG) ?zr ?_); (case zr => with_reducible first | exact s_asgQ | exact s_drop | exact s_retQ | exact s_if | exact s_sub | exact s_next | exact i_cQ | exact i_opQ | exact i_testQ | exact i_tB | exact i_and | exact i_or | exact i_not | exact i_andV | exact i_orV | exact i_notV | exact i_ifE | exact i_nilQ | exact i_consQ | exact i_cb | exact i_tup | exact i_lst | exact i_bm | exact i_sl | exact i_nopart | exact i_part | exact s_for | exact s_rng1 | exact s_list | exact s_str | exact i_dget | exact i_yes | exact i_un); (case zz => exact fun _ q => q))   | (with_reducible refine s_nameQ ?_)
 | ((with_reducible refine' i_varQ ?hv ?_); (case hv => exact rfl))   | (with_reducible first | refine i_rI0 ?_ | refine i_callQ ?_ | refine s_strI ?_ | refine iteF ?_ | refine iteT ?_ | refine i_rU ?_)
 | ((with_reducible show ∃ i, V.int _ = V.int i ∧ _); (refine ⟨_, rfl, ?_⟩)) | ((with_reducible show ∃ k, V.bl _ = V.bl k ∧ _); (refine ⟨_, rfl, ?_⟩)) | ((with_reducible show (∃ i, [V.bl _] = [V.int i] ∧ _) ∨ _); (refine Or.inr ⟨_, rfl, ?_⟩))
 | ((with_reducible refine' i_ixLQ ?ha ?hb ?_); (case ha => exact SqLofQ (by assumption)); (case hb => exact rfl)) | ((with_reducible refine' i_ixTQ ?ha ?hb ?_); (case ha => assumption); (case hb => exact rfl))
 | ((with_reducible show ∃ p _, [V.ref _] = [V.ref p] ∧ (SqL _ _ _ _ ∨ SqT _ _ _ _) ∧ _); (refine' ⟨_, _, rfl, Or.inl (SqLofQ ?ha), ?_⟩); (case ha => assumption)) | ((with_reducible refine' s_setL ?ha ?hb ?_); (case ha => assumption); (case hb => exact rfl))
 | ((with_reducible refine' i_eq ?ha ?_); (case ha => exact rfl)) | ((with_reducible refine' i_ne ?ha ?_); (case ha => exact rfl))
 | ((with_reducible show ∃ z, V.str _ = V.str z ∧ _); (refine ⟨_, rfl, ?_⟩))
 | ((with_reducible refine' i_rI ?hv ?_); (case hv => first | decide | (dsimp only; omega) | exact .inl ⟨by omega, by omega⟩ | exact .inr ⟨by omega, by omega⟩ | exact ⟨by decide, by decide⟩ | exact ⟨by decide, by decide, by decide⟩ | exact ⟨by omega, by omega⟩))
 | ((with_reducible show ∃ i, [V.int _] = [V.int i] ∧ _); (refine ⟨_, rfl, ?_⟩))
 | ((with_reducible show tyV _ "list" _ _ ∧ _); (refine' ⟨i_tyL ?ha, ?_⟩); (case ha => assumption)))
local macro_rules | `(tactic| walk_at "p") => `(tactic| repeat' (with_reducible first | (refine' pss_oneQ ?_; rotate_left 1) | (refine' pss_cons ?_ ?_; rotate_left 2) | exact pss_nil | (refine' ps_if ?_ ?_ ?_; rotate_left 3)))
local macro_rules | `(tactic| walk_at "b") => `(tactic| (refine' pss_cons ?_ ?_; rotate_left 2; walk_at "p"))
local macro_rules | `(tactic| walk_at "f") => `(tactic| (refine' ps_for PassesOwn.never rfl ?_ ?_ ?_ (fun _ => rfl); rotate_left 3))
local macro_rules | `(tactic| walk_at "q") => `(tactic| repeat' (with_reducible first | exact pe_strQ | exact pe_intQ | exact pa_nilQ | (refine' pe_tup ?_; rotate_left 1) | (refine' pe_lst ?_; rotate_left 1) | (refine' pa_consQ ?_ ?_ se_con; rotate_left 2) | (refine' pa_consQ ?_ ?_ se_tup; rotate_left 2) | (refine' pa_consQ ?_ ?_ se_nameQ; rotate_left 2) | (refine' pa_consQ ?_ ?_ se_sub; rotate_left 2) | (refine' pa_consQ ?_ ?_ se_bin; rotate_left 2) | (refine' pa_consQ ?_ ?_ se_lst; rotate_left 2) | (refine' pa_consQ ?_ ?_ se_call; rotate_left 2) | (refine' pa_consQ ?_ ?_ se_lc; rotate_left 2)))
local macro_rules | `(tactic|room) => `(tactic| (intro vs H Q E h; repeat (first | (obtain ⟨e, _⟩ := h; subst e; rfl) | (obtain ⟨_, h⟩ := h))))
local macro_rules | `(tactic|x_go) => `(tactic| ((try dsimp only [cxOf, Cx.nox, Cx.wish]); (conv in (L2.start _ _) => simp only [L2.start, QH, List.map_nil, QK, Q8, List.replicate_succ, List.replicate_zero, List.cons_append, Xo, Nat.reduceAdd, Nat.reduceSub]); have big : 100000 < sizeLine := by decide))
local macro_rules | `(tactic|kt_k) => `(tactic| (with_reducible first | refine s_seq ?_ | refine s_if ?_ | refine s_next ?_ | refine i_or ?_ | refine s_nameQ ?_ | refine s_retQ ?_))
local macro_rules|`(tactic|lk)=>`(tactic|repeat walk_at "vc")
local macro_rules|`(tactic|fin2)=>`(tactic|exact⟨rfl,rfl,rfl,by decide +kernel,rfl,by decide +kernel,by decide +kernel⟩)
def cr (z:Str) (i:Nat):Str:=if (z.cps.getD i 0==49)=true then "0" else "1"
def bn (z:Str) (i:Nat):Str:=(Txt.slice z none (some (i:Int))++cr z i)++Txt.slice z (some ((i:Int)+1)) none
def mv:Sp:=λvs H Q _=>∃(z:Str) (n i:Nat),vs=[.str z,.int (i:Int)]/\StOk n z/\i<n/\n<=11/\Q (.str (bn z i)) H
section
variable {P:Program} {w:World} {K:PySem.W.Frag} {mg:C2} {base:Heap} {TT:Addr}
theorem lT {n:Nat} {z:Str} (st:StOk n z) {i:Nat} (hi:i<n):atI z.cps.toList ((i:Nat):Int)=some (z.cps.getD i 0):=by
 have hl:=st.len;refine cg ?_;simp[Array.getD,hl,hi]
theorem kU:FnScope ["standing", "place"] ["standing", "place"] (au (top 13)):=by fin2
theorem qo {f:Addr} {fd:FuncData} (Fu:Fun K "turned_at" "turned_at" (top 13) f fd) (T:Txt K mg TT):FnOk P w K mg base CX0 1 f fd ["standing", "place"] mv:=by
 have S:=kU;refine Fu.ok S (by room) (λcdv A outer s H vs Q E hr h=>?_);obtain⟨z,n,i,rfl,st,hi,hn,k⟩:=h;refine⟨_,(aS (aD (aR ee (aR ee (cX kT (pv 0) dD (dC (pv 1))) (aC (u3 T.tab) (pp (v:=.ref TT) (by rfl) T.tURNED rfl) (aC fP (pv 0) (pv 1)))) (cX kT (pv 0) (dC (aR b_ (pv 1) am)) dD)))),?_⟩;x_go;have hz:z.length=n:=st.len;have big:1000<sizeLine:=by decide
 lk;have s1:=Txt.slice_le z none (some (i:Int));have s2:=Txt.slice_le z (some ((i:Int)+1)) none
 have fl:(cr z i).length=1:=by
  unfold cr
  split
  ·decide +kernel
  decide +kernel
 refine wm (by omega) ?_;refine aA (i_c ?_);refine aA (ad rfl (ad rfl (g_ (by omega) (lT st hi) ?_)));have e:=ip st hi;unfold eL at e;rw[e]
 have step:∀(b:Bool) (G:VK),G (.str (if b=true then "0" else "1")) H->pf TT (.ref TT) (sg b) H G:=λb G g=>by
  cases b
  ·exact⟨rfl,.inl ⟨rfl,g⟩⟩
  exact⟨rfl,.inr ⟨rfl,g⟩⟩
 refine step _ _ ?_;show ∃i_1 j,V.str _=V.str i_1/\V.str (cr z i)=V.str j/\_;have l1:(Txt.slice z none (some (i:Int))++cr z i).length=(Txt.slice z none (some (i:Int))).length+(cr z i).length:=Xl;refine⟨_,_,rfl,rfl,by omega,?_⟩;lk;refine wm (by omega) ?_;exact⟨_,_,rfl,rfl,by rw[l1];omega,k⟩
end
theorem jh {xs:Array Nat}:∀(j a:Nat),a+j<=xs.size->((List.range j).map λk=>a+k).filterMap (xs[·]?)=(xs.toList.drop a).take j
 | 0,a,_=>by simp
 | j+1,a,h=>by
  rw[List.range_succ,Qz,List.filterMap_append,jh j a (by omega),QV];have e:(xs.toList.drop a)[j]?=xs[a+j]?:=by rw[List.getElem?_drop];simp
  rw[e];have q:xs[a+j]?=some (xs[a+j]'(by omega)):=by rw[Xp]
  simp[q]
theorem iO {z:Str} {a b:Nat} {lo hi:Option Int} (hl:PySem.Builtin.Str.strSliceIndices lo hi 1 z.length=(List.range (b-a)).map λk=>a+k) (hb:b<=z.cps.size) (hab:a<=b):(Txt.slice z lo hi).cps.toList=(z.cps.toList.drop a).take (b-a):=by
 unfold Txt.slice;rw[hl]
 split
 ·rename_i h
  have h:b-a=z.length:=by simpa using h
  have h':z.length=z.cps.size:=rfl;have a0:a=0:=by omega
  subst a0;rw[List.drop_zero,Qr (by rw[Qv];omega)]
 exact jh (b-a) a (by omega)
theorem mB {z:Str} {j:Nat} (h:j<=z.cps.size):(Txt.slice z none (some (j:Int))).cps.toList=z.cps.toList.take j:=by
 have h':z.length=z.cps.size:=rfl;refine(iO (a:=0) (b:=j) ?_ h (QO _)).trans (by simp);unfold PySem.Builtin.Str.strSliceIndices sliceRange
 have e:max 0 (min (if (j:Int)<0 then (j:Int)+z.length else (j:Int)) (z.length:Int))=(j:Int):=by
  rw[QC (Int.not_lt.mpr (Int.natCast_nonneg _)),Int.min_eq_left (show _<=(z.length:Int) from Int.ofNat_le.mpr h),Int.max_eq_right (Int.natCast_nonneg _)]
 simp only[show (1:Int)>0 from by decide,if_true,e]
 have c:(if (0:Int)<(j:Int) then ((j:Int)-0+1-1) / 1 else 0).toNat=j-0:=by
  rw[Int.ediv_one,Int.add_sub_cancel,Int.sub_zero,Nat.sub_zero]
  split
  ·rfl
  omega
 rw[c];refine List.map_congr_left λk _=>?_;omega
theorem iP {z:Str} {a:Nat} (h:a<=z.cps.size):(Txt.slice z (some (a:Int)) none).cps.toList=z.cps.toList.drop a:=by
 have h':z.length=z.cps.size:=rfl;refine(iO (a:=a) (b:=z.cps.size) ?_ (Qg _) h).trans (by rw[Qr (by rw[QX,Qv];omega)]);unfold PySem.Builtin.Str.strSliceIndices sliceRange
 have e:max 0 (min (if (a:Int)<0 then (a:Int)+z.length else (a:Int)) (z.length:Int))=(a:Int):=by
  rw[QC (Int.not_lt.mpr (Int.natCast_nonneg _)),Int.min_eq_left (show _<=(z.length:Int) from Int.ofNat_le.mpr h),Int.max_eq_right (Int.natCast_nonneg _)]
 simp only[show (1:Int)>0 from by decide,if_true,e]
 have c:(if (a:Int)<(z.length:Int) then ((z.length:Int)-(a:Int)+1-1) / 1 else 0).toNat=z.cps.size-a:=by
  rw[Int.ediv_one,Int.add_sub_cancel,h']
  split
  ·rw[<-Int.ofNat_sub h];rfl
  omega
 rw[c];refine List.map_congr_left λk _=>?_;omega
variable {i n:Nat}
theorem e_ {z:Str} (st:StOk n z) (hi:i<n):StOk n (bn z i):=by
 have hl:=st.len;have a:=mB (z:=z) (j:=i) (by omega);have b:=iP (z:=z) (a:=i+1) (by omega);rw[show ((i+1:Nat):Int)=(i:Int)+1 from by omega]at b
 have f:(cr z i).cps.toList=[48]\/(cr z i).cps.toList=[49]:=by
  unfold cr
  split
  ·exact .inl (by decide +kernel)
  exact .inr (by decide +kernel)
 have e:(bn z i).cps.toList=(z.cps.toList.take i++(cr z i).cps.toList)++z.cps.toList.drop (i+1):=by
  unfold bn;show ((_++_)++_:Array Nat).toList=_;rw[QI,QI,a,b]
 refine⟨?_,λc hc=>?_⟩
 ·rw[<-Qv,e,Qf,Qf,Qq,QX,Qv];have:(cr z i).cps.toList.length=1:=by rcases f with f|f <;> rw[f] <;> rfl
  omega
 rw[e]at hc;rcases Qy.mp hc with h|h
 ·rcases Qy.mp h with h|h
  ·exact st.signs c (List.mem_of_mem_take h)
  rcases f with f|f
  ·rw[f]at h;exact .inl (by simpa using h)
  rw[f]at h;exact .inr (by simpa using h)
 exact st.signs c (List.mem_of_mem_drop h)
theorem turn_list {z:Str} (st:StOk n z) (hi:i<n):(bn z i).cps.toList=z.cps.toList.take i++(if (z.cps.getD i 0==49)=true then 48 else 49)::z.cps.toList.drop (i+1):=by
 have hl:=st.len;have a:=mB (z:=z) (j:=i) (by omega);have b:=iP (z:=z) (a:=i+1) (by omega);rw[show ((i+1:Nat):Int)=(i:Int)+1 from by omega]at b
 have f:(cr z i).cps.toList=[if (z.cps.getD i 0==49)=true then 48 else 49]:=by
  unfold cr
  split
  ·decide +kernel
  decide +kernel
 unfold bn;show ((_++_)++_:Array Nat).toList=_;rw[QI,QI,a,b,f];simp
end K2
namespace K2
open PySem L2
local macro_rules | `(tactic| walk_at "vc") => `(tactic| first
 | ((refine' (?zz : (?zA → ?zG) → ?zA → ?zG) ?zr ?_); (case zr => with_reducible exact s_seqT); (case zz => exact fun _ q => q); intro D') | ((refine' (?zz : (?zA → ?zG) → ?zA → ?zG) ?zr ?_); (case zr => with_reducible first | exact s_asgQ | exact s_drop | exact s_retQ | exact s_if | exact s_sub | exact s_next | exact i_cQ | exact i_opQ | exact i_testQ | exact i_tB | exact i_and | exact i_or | exact i_not | exact i_andV | exact i_orV | exact i_notV | exact i_ifE | exact i_nilQ | exact i_consQ | exact i_cb | exact i_tup | exact i_lst | exact i_bm | exact i_sl | exact i_nopart | exact i_part | exact s_for | exact s_rng1 | exact s_list | exact s_str | exact i_comp | exact i_dget | exact i_yes); (case zz => exact fun _ q => q))   | (with_reducible refine s_nameQ ?_)
 | ((with_reducible refine' i_varQ ?hv ?_); (case hv => exact rfl))   | (with_reducible first | refine i_rI0 ?_ | refine i_callQ ?_ | refine s_strI ?_ | refine iteF ?_ | refine iteT ?_)
 | ((with_reducible show ∃ i, V.int _ = V.int i ∧ _); (refine ⟨_, rfl, ?_⟩)) | ((with_reducible show ∃ k, V.bl _ = V.bl k ∧ _); (refine ⟨_, rfl, ?_⟩)) | ((with_reducible show (∃ i, [V.bl _] = [V.int i] ∧ _) ∨ _); (refine Or.inr ⟨_, rfl, ?_⟩))
 | ((with_reducible refine' i_ixLQ ?ha ?hb ?_); (case ha => exact SqLofQ (by assumption)); (case hb => exact rfl)) | ((with_reducible refine' i_ixTQ ?ha ?hb ?_); (case ha => assumption); (case hb => exact rfl))
 | ((with_reducible show ∃ p _, [V.ref _] = [V.ref p] ∧ (SqL _ _ _ _ ∨ SqT _ _ _ _) ∧ _); (refine' ⟨_, _, rfl, Or.inl (SqLofQ ?ha), ?_⟩); (case ha => assumption)) | ((with_reducible refine' s_setL ?ha ?hb ?_); (case ha => assumption); (case hb => exact rfl))
 | ((with_reducible refine' i_eq ?ha ?_); (case ha => exact rfl)) | ((with_reducible refine' i_ne ?ha ?_); (case ha => exact rfl))
 | ((with_reducible show ∃ z, V.str _ = V.str z ∧ _); (refine ⟨_, rfl, ?_⟩)))
local macro_rules | `(tactic| walk_at "p") => `(tactic| repeat' (with_reducible first | (refine' pss_oneQ ?_; rotate_left 1) | (refine' pss_cons ?_ ?_; rotate_left 2) | exact pss_nil | (refine' ps_if ?_ ?_ ?_; rotate_left 3)))
local macro_rules | `(tactic| walk_at "b") => `(tactic| (refine' pss_cons ?_ ?_; rotate_left 2; walk_at "p"))
local macro_rules | `(tactic| walk_at "f") => `(tactic| (refine' ps_for PassesOwn.never rfl ?_ ?_ ?_ (fun _ => rfl); rotate_left 3))
local macro_rules | `(tactic| walk_at "q") => `(tactic| repeat' (with_reducible first | exact pe_strQ | exact pe_intQ | exact pa_nilQ | (refine' pe_tup ?_; rotate_left 1) | (refine' pe_lst ?_; rotate_left 1) | (refine' pa_consQ ?_ ?_ se_con; rotate_left 2) | (refine' pa_consQ ?_ ?_ se_tup; rotate_left 2) | (refine' pa_consQ ?_ ?_ se_nameQ; rotate_left 2) | (refine' pa_consQ ?_ ?_ se_sub; rotate_left 2) | (refine' pa_consQ ?_ ?_ se_bin; rotate_left 2) | (refine' pa_consQ ?_ ?_ se_lst; rotate_left 2) | (refine' pa_consQ ?_ ?_ se_call; rotate_left 2) | (refine' pa_consQ ?_ ?_ se_lc; rotate_left 2)))
local macro_rules | `(tactic|room) => `(tactic| (intro vs H Q E h; repeat (first | (obtain ⟨e, _⟩ := h; subst e; rfl) | (obtain ⟨_, h⟩ := h))))
local macro_rules | `(tactic|x_go) => `(tactic| ((try dsimp only [cxOf, Cx.nox, Cx.wish]); (conv in (L2.start _ _) => simp only [L2.start, QH, List.map_nil, QK, Q8, List.replicate_succ, List.replicate_zero, List.cons_append, Xo, Nat.reduceAdd, Nat.reduceSub]); have big : 100000 < sizeLine := by decide))
local macro_rules | `(tactic|kt_k) => `(tactic| (with_reducible first | refine s_seq ?_ | refine s_if ?_ | refine s_next ?_ | refine i_or ?_ | refine s_nameQ ?_ | refine s_retQ ?_))
local macro_rules|`(tactic|lk)=>`(tactic|repeat walk_at "vc")
local macro_rules|`(tactic|fin2)=>`(tactic|exact⟨rfl,rfl,rfl,by decide +kernel,rfl,by decide +kernel,by decide +kernel⟩)
def cC (f:Str->Bool) (z:Str) (p:(Str × Rl) × Nat):Option (Str × Str):=if (p.1.2.val f==(z.cps.getD p.2 0==49))=true then none else some (p.1.1,bn z p.2)
def ak (ins:List Str) (gs:C4) (z:Str):List (Str × Str):=(gs.zipIdx ins.length).filterMap (cC (sgn (aj ins gs) z) z)
def lX (H:Hp) (v:V) (p:Str × Str):Prop:=∃b,v=.ref b/\H b=some (.tup [.str p.1,.str p.2])
theorem lX.mono {H H':Hp} (hs:fH H H') {v:V} {p:Str × Str} (h:lX H v p):lX H' v p:=let ⟨b,e,q⟩:=h;⟨b,e,hs _ _ q⟩
theorem di {H H':Hp} (hs:fH H H'):∀{vs:List V} {ps:List (Str × Str)},Paired (lX H) vs ps->Paired (lX H') vs ps
 | _,_,.nil=>.nil
 | _,_,.cons h t=>.cons (h.mono hs) (di hs t)
theorem ed {α β:Type} {F:α->β->Prop}:∀{xs:List α} {ys:List β} {x:α} {y:β},Paired F xs ys->F x y->Paired F (xs++[x]) (ys++[y])
 | _,_,_,_,.nil,h=>.cons h .nil
 | _,_,_,_,.cons a t,h=>.cons a (ed t h)
def im:Sp:=λvs H Q _=>∃a li lg ins gvs gs z,vs=[.ref a,.str z]/\NAt H a li lg ins gvs gs/\NetOk ins gs/\StOk (aj ins gs).length z /\
 ∀l vs' H',aw H H'->H l=none->H' l=some (.lst vs')->Paired (lX H') vs' (ak ins gs z)->Q (.ref l) H'
theorem vH (a b:Bool):decide (sg a=sg b)=(a==b):=by
 cases a <;> cases b <;> decide +kernel
section
variable {P:Program} {w:World} {K:PySem.W.Frag} {mg:C2} {base:Heap} {TT:Addr}
theorem jJ:FnScope ["net", "standing", "signs", "steps", "place", "gate"] ["net", "standing"] (au (top 14)):=by fin2
theorem sH {f:Addr} {fd:FuncData} (Fu:Fun K "steps_from" "steps_from" (top 14) f fd) (T:Txt K mg TT) (f_signs_in:Fn P w K mg base "signs_in" ["net", "standing"] 3 j9) (f_rule_worth:Fn P w K mg base "rule_worth" ["rule", "signs"] 11 (oW 10)) (f_turned_at:Fn P w K mg base "turned_at" ["standing", "place"] 1 mv) :
  FnOk P w K mg base CX0 12 f fd ["net", "standing"] im:=by
 have S:=jJ;refine Fu.ok S (by room) (λcdv A outer s H vs Q E hr h=>?_);obtain⟨a,li,lg,ins,gvs,gs,z,rfl,NA,ok,st,k⟩:=h
 refine⟨_,(pss_cons (aH 2 S.nd (aE f_signs_in hr (aa (pv 0) (aa (pv 1) ag))))
  (pss_cons (aH 3 S.nd (pe_lst ag))
  (pss_cons (ps_for PassesOwn.never rfl (r_ (by rfl) T.n_enumerate (aa (aC aG (pv 0) am) ag) (uz (aV aM (by rfl) T.n_len QW (aa (aC aG (pv 0) am) ag)) wL)) (gG rfl (aZ (bG 4 S.nd) (aZ (bG 5 S.nd) cT)))
  (aS (ps_if (aF gb (aE f_rule_worth hr (aa (aC aG (pv 5) am) (aa (pv 2) ag))) (aC fP (pv 1) (pv 4)) (aN _)) (aS (bU (fz Q6 Xa Xb bR (pv 3) (aa (pe_tup (aa (aC aG (pv 5) am) (aa (aE f_turned_at hr (aa (pv 1) (aa (pv 4) ag))) ag))) ag)))) pss_nil)))
  (aS (aD (pv 3)))))),?_⟩
 x_go;have i4:=ok.i4;have g7:=ok.g7;have lgn:=aP NA.gates;have wl:(aj ins gs).length=ins.length+gs.length:=by unfold aj;rw[Qf,Qa]
 have big:1000<sizeLine:=by decide
 lk;refine⟨a,li,lg,ins,gvs,gs,z,rfl,NA,ok,st,λd H1 kvs S1 hd df=>?_⟩;lk;refine⟨by simp[sizeLine],λl hl=>?_⟩;generalize hE:upd _ l _=H2;have S2:aw H1 H2:=by rw[<-hE];exact ap hl
 have q2:H2 l=some (.lst []):=by rw[<-hE];exact ai
 clear hE;have S12:=S1.trans S2;have hlH:H l=none:=aw.free S1 hl;have NA2:=NA.same S12;have hd2:=S2 _ _ hd;have dl:d≠l:=aB hd hl;obtain⟨ha,hi,hg,gts⟩:=id NA2;lk;show fw _ _ _ _ _;lk;refine⟨lg,_,rfl,rfl,by rw[Qa];omega,⟨_,SqL.of hg⟩,?_⟩;have nlg:lg≠l:=aB NA.hg hlH;let I2:IvF:=λi U H'=>(∃x4 x5 vs',U=[some (.ref a),some (.str z),some (.ref d),some (.ref l),x4,x5]/\H' l=some (.lst vs')/\vs'.length<=i/\Paired (lX H') vs' (((gs.zipIdx ins.length).take i).filterMap (cC (sgn (aj ins gs) z) z)))/\aw H H'/\H' d=some (.dK kvs)
 refine qM (xs:=gvs) I2
  ⟨⟨_,_,[],rfl,q2,by simp,by simp;exact .nil⟩,S12,hd2⟩ (λi U H' _ pv=>SqL.of (pv.2.1 _ _ NA.hg)) (λi x U H' t hx pv ht=>?_) (λU H' pv=>?_)
 ·obtain⟨⟨x4,x5,vs',rfl,hl',hlen,hp⟩,SS,hd'⟩:=pv;have hig:i<gvs.length:=(Qc.mp hx).1;obtain⟨g,hgi,b,rv,rfl,hb,hrv⟩:=c_ NA.gates i x hx;have S3:=ap (o:=.tup [.int (((ins.map V.str).length:Int)+(i:Nat)),.ref b]) ht;refine⟨t,_,rfl,SqT.of ai,rfl,?_⟩;refine⟨_,_,rfl,aq ⟨_,_,rfl,aq ?_⟩⟩;have hl3:=S3 _ _ hl';have hd3:=S3 _ _ hd';have SS3:=SS.trans S3;have hp3:=di (aw.tups S3) hp;generalize upd H' t (.tup [.int (((ins.map V.str).length:Int)+(i:Nat)),.ref b])=H3 at *;have hb3:=SS3 _ _ hb;have hr3:=hrv.mono (aw.tups SS3);have gm:g∈gs:=Qh hgi;have ep:(((ins.map V.str).length:Int)+(i:Nat))=((ins.length+i:Nat):Int):=by rw[Qa];omega
  rw[ep];obtain⟨rok,rdep⟩:=ok.rules g gm;have hpl:ins.length+i<(aj ins gs).length:=by omega
  have hzi:(gs.zipIdx ins.length)[i]?=some (g,ins.length+i):=by rw[List.getElem?_zipIdx,hgi];rfl
  refine⟨rfl,?_⟩;lk;refine⟨rv,d,kvs,g.2,_,_,rfl,hr3,rdep,rok,hd3,df,?_⟩;generalize hv:g.2.val (sgn (aj ins gs) z)=bv;have e:=ip st hpl;unfold eL at e;have zl:z.length=(aj ins gs).length:=st.len;lk;refine g_ (by omega) (lT st hpl) ?_;rw[e];refine i_ne (by cases bv <;> cases (z.cps.getD (ins.length+i) 0==49) <;> rfl) ?_;rw[vH];refine⟨_,rfl,?_⟩
  have tk:((gs.zipIdx ins.length).take (i+1)).filterMap (cC (sgn (aj ins gs) z) z)=((gs.zipIdx ins.length).take i).filterMap (cC (sgn (aj ins gs) z) z)++(cC (sgn (aj ins gs) z) z (g,ins.length+i)).toList:=by
   rw[QV,hzi,List.filterMap_append];cases h:cC (sgn (aj ins gs) z) z (g,ins.length+i) <;> simp[h]
  have so:cC (sgn (aj ins gs) z) z (g,ins.length+i)=if (bv==(z.cps.getD (ins.length+i) 0==49))=true then none else some (g.1,bn z (ins.length+i)):=by
   unfold cC;rw[hv]
  cases hc:(bv==(z.cps.getD (ins.length+i) 0==49)) with
  | true =>
   refine iteF ?_;rw[hc]at so;refine⟨⟨_,_,vs',rfl,hl3,by omega,?_⟩,SS3,hd3⟩;rw[tk,so];simpa using hp3
  | false =>
  refine iteT ?_;rw[hc]at so;lk;refine⟨i_tyL hl3,?_⟩;lk;refine⟨z,_,ins.length+i,rfl,st,hpl,by omega,?_⟩;lk;refine⟨by simp[sizeLine],λq hq=>?_⟩;generalize hE:upd _ q _=H4;have S4:aw H3 H4:=by rw[<-hE];exact ap hq
  have q4:H4 q=some (.tup [.str g.1,.str (bn z (ins.length+i))]):=by rw[<-hE];exact ai
  clear hE;have hl4:=S4 _ _ hl3;have hd4:=S4 _ _ hd3;have nql:q≠l:=λe=>by rw[e,hl3]at hq;cases hq
  lk;refine hU hl4 (by omega) ?_
  have kt:fH H4 (upd H4 l (.lst (vs'++[.ref q]))):=λb xs e=>by
   have:b≠l:=λx=>by rw[x,hl4]at e;cases e
   rw[ao this];exact e
  refine⟨⟨_,_,vs'++[.ref q],rfl,ai,by simp;omega,?_⟩,bh (SS3.trans S4) hlH,by rw[ao dl];exact hd4⟩;rw[tk,so];exact ed (di kt (di (aw.tups S4) hp3)) ⟨q,rfl,kt _ _ q4⟩
 obtain⟨⟨x4,x5,vs',rfl,hl',hlen,hp⟩,SS,hd'⟩:=pv;refine bE (te:=eR 3) (D:={ nx:=λx H'=>Q V.non H',rt:=Q }) (ad rfl ?_);refine k l vs' H' SS hlH hl' ?_;have e:(gs.zipIdx ins.length).length=gvs.length:=by rw[List.length_zipIdx,lgn]
 rw[<-e,List.take_length]at hp;exact hp
end
end K2
namespace K2
open PySem L2
local macro_rules | `(tactic| walk_at "vc") => `(tactic| first
 | ((refine' (?zz : (?zA → ?zG) → ?zA → ?zG) ?zr ?_); (case zr => with_reducible exact s_seqT); (case zz => exact fun _ q => q); intro D') | ((refine' (?zz : (?zA → ?zG) → ?zA → ?zG) ?zr ?_); (case zr => with_reducible first | exact s_asgQ | exact s_drop | exact s_retQ | exact s_if | exact s_sub | exact s_next | exact i_cQ | exact i_opQ | exact i_testQ | exact i_tB | exact i_and | exact i_or | exact i_not | exact i_andV | exact i_orV | exact i_notV | exact i_ifE | exact i_nilQ | exact i_consQ | exact i_cb | exact i_tup | exact i_lst | exact i_bm | exact i_sl | exact i_nopart | exact i_part | exact s_for | exact s_rng1 | exact s_list | exact s_str | exact i_dget | exact i_yes | exact i_un); (case zz => exact fun _ q => q))   | (with_reducible refine s_nameQ ?_)
 | ((with_reducible refine' i_varQ ?hv ?_); (case hv => exact rfl))   | (with_reducible first | refine i_rI0 ?_ | refine i_callQ ?_ | refine s_strI ?_ | refine iteF ?_ | refine iteT ?_ | refine i_rU ?_)
 | ((with_reducible show ∃ i, V.int _ = V.int i ∧ _); (refine ⟨_, rfl, ?_⟩)) | ((with_reducible show ∃ k, V.bl _ = V.bl k ∧ _); (refine ⟨_, rfl, ?_⟩)) | ((with_reducible show (∃ i, [V.bl _] = [V.int i] ∧ _) ∨ _); (refine Or.inr ⟨_, rfl, ?_⟩))
 | ((with_reducible refine' i_ixLQ ?ha ?hb ?_); (case ha => exact SqLofQ (by assumption)); (case hb => exact rfl)) | ((with_reducible refine' i_ixTQ ?ha ?hb ?_); (case ha => assumption); (case hb => exact rfl))
 | ((with_reducible show ∃ p _, [V.ref _] = [V.ref p] ∧ (SqL _ _ _ _ ∨ SqT _ _ _ _) ∧ _); (refine' ⟨_, _, rfl, Or.inl (SqLofQ ?ha), ?_⟩); (case ha => assumption)) | ((with_reducible refine' s_setL ?ha ?hb ?_); (case ha => assumption); (case hb => exact rfl))
 | ((with_reducible refine' i_eq ?ha ?_); (case ha => exact rfl)) | ((with_reducible refine' i_ne ?ha ?_); (case ha => exact rfl))
 | ((with_reducible show ∃ z, V.str _ = V.str z ∧ _); (refine ⟨_, rfl, ?_⟩))
 | ((with_reducible refine' i_rI ?hv ?_); (case hv => first | decide | (dsimp only; omega) | exact .inl ⟨by omega, by omega⟩ | exact .inr ⟨by omega, by omega⟩ | exact ⟨by decide, by decide⟩ | exact ⟨by decide, by decide, by decide⟩ | exact ⟨by omega, by omega⟩))
 | ((with_reducible show ∃ i, [V.int _] = [V.int i] ∧ _); (refine ⟨_, rfl, ?_⟩))
 | ((with_reducible show tyV _ "list" _ _ ∧ _); (refine' ⟨i_tyL ?ha, ?_⟩); (case ha => assumption)))
local macro_rules | `(tactic| walk_at "p") => `(tactic| repeat' (with_reducible first | (refine' pss_oneQ ?_; rotate_left 1) | (refine' pss_cons ?_ ?_; rotate_left 2) | exact pss_nil | (refine' ps_if ?_ ?_ ?_; rotate_left 3)))
local macro_rules | `(tactic| walk_at "b") => `(tactic| (refine' pss_cons ?_ ?_; rotate_left 2; walk_at "p"))
local macro_rules | `(tactic| walk_at "f") => `(tactic| (refine' ps_for PassesOwn.never rfl ?_ ?_ ?_ (fun _ => rfl); rotate_left 3))
local macro_rules | `(tactic| walk_at "q") => `(tactic| repeat' (with_reducible first | exact pe_strQ | exact pe_intQ | exact pa_nilQ | (refine' pe_tup ?_; rotate_left 1) | (refine' pe_lst ?_; rotate_left 1) | (refine' pa_consQ ?_ ?_ se_con; rotate_left 2) | (refine' pa_consQ ?_ ?_ se_tup; rotate_left 2) | (refine' pa_consQ ?_ ?_ se_nameQ; rotate_left 2) | (refine' pa_consQ ?_ ?_ se_sub; rotate_left 2) | (refine' pa_consQ ?_ ?_ se_bin; rotate_left 2) | (refine' pa_consQ ?_ ?_ se_lst; rotate_left 2) | (refine' pa_consQ ?_ ?_ se_call; rotate_left 2) | (refine' pa_consQ ?_ ?_ se_lc; rotate_left 2)))
local macro_rules | `(tactic|room) => `(tactic| (intro vs H Q E h; repeat (first | (obtain ⟨e, _⟩ := h; subst e; rfl) | (obtain ⟨_, h⟩ := h))))
local macro_rules | `(tactic|x_go) => `(tactic| ((try dsimp only [cxOf, Cx.nox, Cx.wish]); (conv in (L2.start _ _) => simp only [L2.start, QH, List.map_nil, QK, Q8, List.replicate_succ, List.replicate_zero, List.cons_append, Xo, Nat.reduceAdd, Nat.reduceSub]); have big : 100000 < sizeLine := by decide))
local macro_rules | `(tactic|kt_k) => `(tactic| (with_reducible first | refine s_seq ?_ | refine s_if ?_ | refine s_next ?_ | refine i_or ?_ | refine s_nameQ ?_ | refine s_retQ ?_))
local macro_rules|`(tactic|lk)=>`(tactic|repeat walk_at "vc")
local macro_rules|`(tactic|fin2)=>`(tactic|exact⟨rfl,rfl,rfl,by decide +kernel,rfl,by decide +kernel,by decide +kernel⟩)
def be (H:Hp) (a:Addr) (sts:List (V × Key)):Prop:=∃vs,H a=some (.lst vs)/\Paired (λv (s:V × Key)=>∃b,v=.ref b/\H b=some (.tup [s.1,kV s.2])) vs sts
variable {a f c T b li lg F L ra ca TL:Addr} {H H' H1 H2 H4:Hp}
theorem be.same {sts:List (V × Key)} (S:aw H H') (h:be H a sts):be H' a sts:=by
 obtain⟨vs,h1,h2⟩:=h;exact⟨vs,S _ _ h1,bM (λv s ⟨b,e,q⟩=>⟨b,e,S _ _ q⟩) h2⟩
def jV (F W N:Addr) (H H':Hp):Prop:=∀b o,H b=some o->b≠F->b≠W->b≠N->H' b=some o
def fdK (xs:List Key) (as:C3):List (Key × V):=(xs.zip as).map λp=>(p.1,V.ref p.2)
def knK (xs:List Key):List (Key × V):=xs.map λx=>(x,V.bl true)
variable {as ls ts:C3}
theorem lK {xs:List Key} (h:as.length<=xs.length):(fdK xs as).length=as.length:=by
 unfold fdK;rw[Qa,List.length_zip];omega
theorem ji (xs:List Key) (as:C3):(fdK xs as).map (·.1)=xs.take as.length:=by
 unfold fdK;rw[QS];show (xs.zip as).map (λp=>p.1)=_
 induction xs generalizing as with
 | nil=>simp
 | cons x xs ih =>
 cases as with
 | nil=>simp
 | cons a as=>simp[ih]
theorem tQ {xs:List Key} {x:Key} (h:xs[as.length]?=some x):fdK xs (as++[a])=fdK xs as++[(x,V.ref a)]:=by
 unfold fdK
 induction xs generalizing as with
 | nil=>simp at h
 | cons y xs ih =>
 cases as with
 | nil=>simp at h;subst h;simp
 | cons b as=>simp at h;simp[ih h]
theorem tR {xs ys:List Key} (h:as.length<=xs.length) (p:xs <+: ys):fdK ys as=fdK xs as:=by
 obtain⟨t,rfl⟩:=p;unfold fdK
 induction xs generalizing as with
 | nil =>
  have:as=[]:=by simpa using h
  subst this;simp
 | cons y xs ih =>
 cases as with
 | nil=>simp
 | cons b as=>simp at h;simpa using ih h
variable {kvs ka kb:List (Key × V)}
theorem dL {k:Key}:aU kvs k=none↔k∉kvs.map (·.1):=by
 refine⟨ma,λh=>?_⟩
 cases e:aU kvs k with
 | none=>rfl
 | some v=>exact absurd (uk e) h
theorem pI {xs:List Key} {k:Key}:aU (knK xs) k=none↔k∉xs:=by
 rw[dL];unfold knK;rw[QS];show k∉xs.map (λx=>x)↔_;rw[List.map_id']
def nxK (steps:Key->List (V × Key)) (x:Key):List Key:=(steps x).map (·.2)
def kR (P:Program) (w:World) (K:PySem.W.Frag) (mg:C2) (base:Heap) (k:Nat):Sp:=λvs H Q _=>∃(start:Key) (f:Addr) (l:Lm) (cl:List (Str × Addr)) (c:Addr) (r:V->Hp->VK->Prop) (steps:Key->List (V × Key)) (B:Nat),
 vs=[kV start,.ref f]/\H f=some (gT f l cl c)/\Calls P w K mg base k f r/\B<=100000 /\
 (∀x H1 (Q1:VK),Bf.Reach (nxK steps) start x->aw H H1->(∀a H2,aw H1 H2->be H2 a (steps x)->Q1 (.ref a) H2)->r (kV x) H1 Q1) /\
 (∀xs:List Key,xs.Nodup->(∀x∈xs,Bf.Reach (nxK steps) start x)->xs.length<=B) /\
 ∀(F:Addr) (as:C3) (n:Nat) (H':Hp),aw H H'->H F=none->(Bf.bfs (nxK steps) start n).length=n->as.length=n->H' F=some (.dK (fdK (Bf.bfs (nxK steps) start n) as)) ->
  (∀(i:Nat) x a,(Bf.bfs (nxK steps) start n)[i]?=some x->as[i]?=some a->be H' a (steps x))->Q (.ref F) H'
variable {l:Lm} {Q:VK} {U:St} {te td ty tv tl tx:TE} {i n j m:Nat} {K:PySem.W.Frag}
theorem u_ {P:Program} {w:World} {mg:C2} {base:Heap} {k:Nat} {cl:List (Str × Addr)} {r:V->Hp->VK->Prop} (hi:U[i]?=some (some (.ref f))) (C:Calls P w K mg base k f r) (hf:H f=some (gT f l cl c))
  (q:te U H λv H1=>H1 f=some (gT f l cl c)/\r v H1 Q):rD P w K mg base k i te U H Q:=⟨f,l,cl,c,r,hi,C,hf,q⟩
variable {P:Program} {w:World} {K:PySem.W.Frag} {mg:C2} {base:Heap} {TT:Addr}
local macro_rules|`(tactic|ctx_has $a $b $c $d $e $f $g)=>`(tactic|(generalize hE:upd $a $b _=$c;obtain⟨$d,$e⟩:=$f $g hE;clear hE))
section
theorem jQ:FnScope ["start", "steps_of", "found", "waiting", "known", "at", "here", "steps", "step"] ["start", "steps_of"] (au (top 16)):=by fin2
theorem sQ {kl:Nat} {f:Addr} {fd:FuncData} (Fu:Fun K "found_from" "found_from" (top 16) f fd) (T:Txt K mg TT):FnOk P w K mg base CX0 (kl+1) f fd ["start", "steps_of"] (kR P w K mg base kl):=by
 have S:=jQ;refine Fu.ok S (by room) (λcdv A outer s H vs Q E hr h=>?_);obtain⟨start,fl,l,cl,c,r,steps,B,rfl,hfl,hC,hB,hst,hfew,k⟩:=h;have hu:=cf hr;refine'⟨?_,?bb,?_⟩
 case bb =>
  walk_at "b";exact aH 2 S.nd ga;exact aH 3 S.nd (pe_lst (aa (pv 0) ag ae));exact aH 4 S.nd (uE (r8 (pv 0) eM ux) rfl rfl (by simp) (by decide));exact aH 5 S.nd am;refine' f_ PassesOwn.never ?_ ?_;rotate_left 2;exact(aF kg (pv 5) (aV aM (by rfl) T.n_len QW (aa (pv 3) ag ae)) (aN _));walk_at "p";exact aH 6 S.nd (aC bd (pv 3) (pv 5));exact aH 7 S.nd (sj (k:=kl) (i:=1) (hr.mono (by omega)) vQ (pv 1) (pv 6));exact(fh hu (pv 2) (pv 6) (pv 7) rfl);walk_at "f";exact(bt (pv 7));exact(bG 8 S.nd);walk_at "p";exact(fM (dR hu (aC aG (pv 8) am) (pv 4)));exact(fh hu (pv 4) (aC aG (pv 8) am) eM rfl);exact(bU (fz Q6 Xa Xb bR (pv 3) (aa (aC aG (pv 8) am) ag)));exact(rX (i:=5) S.nd rfl (by z_go) am tw);exact(aD (pv 2))
 x_go;refine s_seq (aY ?_);intro F hF;refine aq ?_;ctx_has H F H1 S1 q1 aJ hF;lk;refine⟨by simp[sizeLine],λW hW=>?_⟩;ctx_has H1 W H2 S2 q2 aJ hW;lk;refine λN hN=>?_;refine⟨_,rfl,?_⟩;refine⟨ai,[(start,.bl true)],rfl,by simp,?_⟩;rw[um];refine aq ?_;ctx_has H2 N H3 S3 q3 aJ hN;lk;have S03:aw H H3:=S1.trans (S2.trans S3);have FW:F≠W:=aB q1 hW;have FN:F≠N:=aB (S2 _ _ q1) hN;have WN:W≠N:=aB q2 hN
 have W0:H W=none:=by
  cases e:H W with
  | none=>rfl
  | some o=>rw[S1 _ _ e]at hW;cases hW
 have N0:H N=none:=by
  cases e:H N with
  | none=>rfl
  | some o=>rw[(S1.trans S2) _ _ e]at hN;cases hN
 have off:∀{Ha Hb:Hp},aw H Ha->jV F W N Ha Hb->aw H Hb:=λsa o b u e=>o b u (sa b u e) (aB e hF) (aB e W0) (aB e N0);let nx:=nxK steps;let bf:=Bf.bfs nx start;have reach:∀n x,x∈bf n->Bf.Reach nx start x:=λn x h=>Bf.b9 n x h;have fewB:∀n,(bf n).length<=B:=λn=>hfew _ (Bf.bS n) (reach n);let I3:IvF:=λm U H'=>∃(n:Nat) (as:C3) (x6 x7 x8:Option V),U=[some (kV start),some (.ref fl),some (.ref F),some (.ref W),some (.ref N),some (.int (n:Int)),x6,x7,x8]/\m=B+1-n/\n<=(bf n).length/\aw H H'/\H' F=some (.dK (fdK (bf n) as))/\as.length=n/\H' W=some (.lst ((bf n).map kV))/\H' N=some (.dK (knK (bf n)))/\∀(i:Nat) x a,(bf n)[i]?=some x->as[i]?=some a->be H' a (steps x)
 refine⟨I3,
  ⟨_,0,[],none,none,none,rfl,rfl,QO _,S03,S3 _ _ (S2 _ _ q1),rfl,S3 _ _ q2,q3,λi x a _ e=>nomatch e⟩,?_⟩
 rintro m U H' ⟨n,as,x6,x7,x8,rfl,rfl,hn,SH,hF',las,hW',hN',hsts⟩;lk;rw[Qa];by_cases cn:n<(bf n).length
 case neg =>
  refine ifF (Qx (by omega)) ?_;lk;have e:(bf n).length=n:=by omega
  exact k F as n H' SH hF e las hF' hsts
 refine ifT (QJ (by omega)) ?_;let I4:IvJ:=λσ' H''=>∃(as:C3) (x6 x7 x8:Option V),σ'=[some (kV start),some (.ref fl),some (.ref F),some (.ref W),some (.ref N),some (.int ((n+1:Nat):Int)),x6,x7,x8]/\n+1<=(bf (n+1)).length/\aw H H''/\H'' F=some (.dK (fdK (bf (n+1)) as))/\as.length=n+1/\H'' W=some (.lst ((bf (n+1)).map kV))/\H'' N=some (.dK (knK (bf (n+1))))/\∀(i:Nat) x a,(bf (n+1))[i]?=some x->as[i]?=some a->be H'' a (steps x);refine⟨I4,λσ' H'' h=>?_,?_⟩
 ·obtain⟨as,x6,x7,x8,e1,e2,e3,e4,e5,e6,e7,e8⟩:=h;exact⟨B+1-(n+1),by have:=fewB n;omega,n+1,as,x6,x7,x8,e1,rfl,e2,e3,e4,e5,e6,e7,e8⟩
 obtain⟨x,hx⟩:∃x,(bf n)[n]?=some x:=⟨_,Qb cn⟩;have hbs:bf (n+1)=Bf.a8 (bf n) (nx x):=Bf.d5 hx;lk;refine bD (v:=kV x) (SqL.of hW') (cg (by rw[Qm,hx];rfl)) ?_;lk;refine u_ rfl hC (SH _ _ hfl) (ad rfl ⟨SH _ _ hfl,hst x H' _ (reach n x (Qh hx)) SH λa H4 S4 st4=>?_⟩);lk;refine gA (ad rfl (ad rfl (ad rfl ?_)));refine⟨F,_,rfl,gp.k (k:=x) (S4 _ _ hF') (by rw[lK (by omega)];have:=fewB n;omega),?_⟩
 have pn:bB (fdK (bf n) as) x (V.ref a)=fdK (bf n) (as++[a]):=by
  rw[tQ (by rw[las];exact hx)];refine cW _ (dL.mpr ?_);rw[ji,las];intro hm;obtain⟨i,hi,e⟩:=Ql.mp hm;rw[Qq]at hi;rw[List.getElem_take]at e;have e2:=(Qc.mp hx).2;have:=(List.getElem_inj (Bf.bS (nx:=nx) (s:=start) n)).mp (e.trans e2.symm);omega
 rw[pn]
 -- what the steps' list is not
 obtain⟨vs,ha,pr⟩:=id st4
 have neW:∀{Hx:Hp} {ws:List Key},Hx W=some (.lst (ws.map kV))->ws≠[]->∀{b:Addr} {sts:List (V × Key)},be Hx b sts->b≠W:=λ{Hx ws} hw ne {b sts} ⟨us,hb,pu⟩ z=>by
  rw[z,hw]at hb;cases hb
  cases ws with
  | nil=>exact ne rfl
  | cons y ws =>
  cases pu with
  | cons h _ =>
  obtain⟨c,e,_⟩:=h;cases y <;> cases e
 have neD:∀{Hx:Hp} {D:Addr} {kvs:List (Key × V)},Hx D=some (.dK kvs)->∀{b:Addr} {sts:List (V × Key)},be Hx b sts->b≠D:=λ{Hx D kvs} hd {b sts} ⟨us,hb,_⟩ z=>by
  rw[z,hd]at hb;cases hb
 have keepS:∀{Ha Hb:Hp} {ws:List Key} {k1 k2:List (Key × V)},Ha W=some (.lst (ws.map kV))->ws≠[]->Ha F=some (.dK k1)->Ha N=some (.dK k2)->jV F W N Ha Hb->∀{b:Addr} {sts:List (V × Key)},be Ha b sts->be Hb b sts:=λ{Ha Hb ws k1 k2} hw ne h1 h2 o {b sts} st=>by
  have n1:=neW hw ne st;have n2:=neD h1 st;have n3:=neD h2 st;obtain⟨us,hb,pu⟩:=st;refine⟨us,o b _ hb n2 n1 n3,bM (λv s ⟨c,e,q⟩=>⟨c,e,o c _ q (λz=>?_) (λz=>?_) λz=>?_⟩) pu⟩
  ·rw[z,h1]at q;cases q
  ·rw[z,hw]at q;cases q
  rw[z,h2]at q;cases q
 have bne:bf n≠[]:=λz=>by rw[z]at cn;simp at cn
 have hF4:=S4 _ _ hF';have hW4:=S4 _ _ hW';have hN4:=S4 _ _ hN';have off4:jV F W N H4 (upd H4 F (.dK (fdK (bf n) (as++[a])))):=λb o e h1 _ _=>by rw[ao h1];exact e
 have hF5:upd H4 F (.dK (fdK (bf n) (as++[a]))) F=some (.dK (fdK (bf n) (as++[a]))):=ai;have hW5:upd H4 F (.dK (fdK (bf n) (as++[a]))) W=some (.lst ((bf n).map kV)):=by rw[ao FW.symm];exact hW4
 have hN5:upd H4 F (.dK (fdK (bf n) (as++[a]))) N=some (.dK (knK (bf n))):=by rw[ao FN.symm];exact hN4
 have st5:=keepS hW4 bne hF4 hN4 off4 st4
 have sts5:∀(i:Nat) y b,(bf n)[i]?=some y->(as++[a])[i]?=some b->be (upd H4 F (.dK (fdK (bf n) (as++[a])))) b (steps y):=λi y b e1 e2=>by
  by_cases ci:i<as.length
  ·rw[Qu ci]at e2;exact keepS hW4 bne hF4 hN4 off4 ((hsts i y b e1 e2).same S4)
  rw[Qs (by omega)]at e2
  have:i=n:=by
   have:=(Qc.mp e2).1;simp at this;omega
  subst this;rw[hx]at e1;cases e1;rw[las,Nat.sub_self]at e2;cases e2;exact st5
 have SH5:aw H (upd H4 F (.dK (fdK (bf n) (as++[a])))):=off (SH.trans S4) off4;generalize upd H4 F (.dK (fdK (bf n) (as++[a])))=H5 at *;obtain⟨vs5,ha5,pr5⟩:=id st5;refine s_seq (s_for (s_list (ad rfl ⟨a,rfl,⟨_,SqL.of ha5⟩,?_⟩)));let I5:IvF:=λi σ' H'=>∃x8,σ'=[some (kV start),some (.ref fl),some (.ref F),some (.ref W),some (.ref N),some (.int (n:Int)),some (kV x),some (.ref a),x8]/\jV F W N H5 H'/\H' F=some (.dK (fdK (bf n) (as++[a])))/\H' W=some (.lst ((Bf.a8 (bf n) ((nx x).take i)).map kV))/\H' N=some (.dK (knK (Bf.a8 (bf n) ((nx x).take i))));refine cH (xs:=vs5) I5 ⟨_,rfl,λb o e _ _ _=>e,hF5,hW5,hN5⟩ (λi σ' H' _ pv=>?_) (λi v σ' H' hv pv=>?_) (λσ' H' pv=>?_)
 ·obtain⟨_,_,o,_⟩:=pv;exact SqL.of (o a _ ha5 (neD hF5 st5) (neW hW5 bne st5) (neD hN5 st5))
 ·obtain⟨x8,rfl,o,e1,e2,e3⟩:=pv;obtain⟨⟨nm,y⟩,hy,b,rfl,hb⟩:=paired_get pr5 hv;have hb':H' b=some (.tup [nm,kV y]):=o b _ hb (λz=>by rw[z,hF5]at hb;cases hb) (λz=>by rw[z,hW5]at hb;cases hb) (λz=>by rw[z,hN5]at hb;cases hb)
  have hny:(nx x)[i]?=some y:=by
   show ((steps x).map (·.2))[i]?=_;rw[Qm,hy];rfl
  have ext:Bf.a8 (bf n) ((nx x).take (i+1))=Bf.a8 (Bf.a8 (bf n) ((nx x).take i)) [y]:=by
   rw[QV,hny,Bf.jU];rfl
  have lenN:(Bf.a8 (bf n) ((nx x).take i)).length<=B:=hfew _ (Bf.eE _ _ (Bf.bS n)) λz hz=>by
   rcases(Bf.eF _ _ _).mp hz with h|h
   ·exact reach n z h
   exact .step (reach n x (Qh hx)) (List.mem_of_mem_take h)
  lk;refine dU (aA (ad rfl (i_c (bg hb' rfl (ad rfl ?_)))));refine⟨N,_,rfl,bz.k (k:=y) e3,_,rfl,?_⟩;by_cases cy:y∈Bf.a8 (bf n) ((nx x).take i)
  ·rw[Bf.oO cy]at ext;refine ifF ?_ ?_
   ·cases e:aU (knK (Bf.a8 (bf n) ((nx x).take i))) y with
    | none=>exact absurd cy (pI.mp e)
    | some v=>rfl
   lk;refine⟨_,rfl,o,e1,?_,?_⟩
   ·rw[ext];exact e2
   rw[ext];exact e3
  rw[Bf.oN cy]at ext;have nn:=pI.mpr cy;refine ifT (by rw[nn];rfl) ?_;lk;refine gA (i_c (ad rfl (aA (ad rfl (i_c (bg hb' rfl ?_))))));refine⟨N,_,rfl,gp.k (k:=y) e3 (by unfold knK;rw[Qa];omega),?_⟩;have e2':upd H' N (.dK (bB (knK (Bf.a8 (bf n) ((nx x).take i))) y (.bl true))) W=some (.lst ((Bf.a8 (bf n) ((nx x).take i)).map kV)):=by rw[ao WN];exact e2
  have hb'':upd H' N (.dK (bB (knK (Bf.a8 (bf n) ((nx x).take i))) y (.bl true))) b=some (.tup [nm,kV y]):=by rw[ao (λz=>by rw[z,e3]at hb';cases hb')];exact hb'
  refine s_drop (i_bm (ad rfl ⟨i_tyL e2',?_⟩));refine af (aA (ad rfl (i_c (bg hb'' rfl (av (hU e2' (by rw[Qa];omega) ?_))))));refine⟨_,rfl,λc u e h1 h2 h3=>by rw[ao h2,ao h3];exact o c u e h1 h2 h3,by rw[ao FW,ao FN];exact e1,?_,?_⟩
  ·rw[ai,ext,Qz];rfl
  rw[ao WN.symm,ai,cW _ nn,ext];unfold knK;rw[Qz];rfl
 obtain⟨x8,rfl,o,e1,e2,e3⟩:=pv
 have lv:vs5.length=(nx x).length:=by
  show _=((steps x).map (·.2)).length;rw[Qa];exact aP pr5
 rw[lv,Qr (Qg _),<-hbs]at e2 e3;refine⟨_,rfl,?_⟩;refine i_c ⟨_,_,rfl,rfl,?_⟩;have pre:bf n <+: bf (n+1):=Bf.nB n
 have l1:n+1<=(bf (n+1)).length:=by
  have:=pre.length_le;omega
 refine⟨as++[a],_,_,_,by rw[show ((n+1:Nat):Int)=(n:Int)+1 from rfl];rfl,l1,off SH5 o,?_,by rw[Qf,las];rfl,e2,e3,λi y b h1 h2=>?_⟩
 ·rw[tR (by rw[Qf,las];simp;omega) pre];exact e1
 have hi:i<n+1:=by
  have:=(Qc.mp h2).1;rw[Qf,las]at this;simpa using this
 exact keepS hW5 bne hF5 hN5 o (sts5 i y b (Bf.iZ pre (by omega) h1) h2)
end
noncomputable def du:Lm:=match b8 (top 17) with
 | .Return (some (.Call _ [_,.Lambda p b sc pos] _ _)) _::_=>⟨("steps_found" ++ ".<locals>.") ++ "<lambda>", p,b,sc,pos⟩
 | _=>⟨"", { posonlyargs:=[],args:=[],vararg:=none,kwonlyargs:=[],kw_defaults:=[],kwarg:=none,defaults:=[] },.Constant .none 0 ⟨0,0,0,0⟩,au (top 0),⟨0,0,0,0⟩⟩
variable {z y x s h t y1 y2:Str}
theorem xS {ns:List (Str × NameKind)} (h:ns.all (λp=>!(p.2==NameKind.free) || p.1==y)=true) (e:ns.lookup z=some .free):z=y:=by
 have:=Q0.mp h _ (dr e);simpa using this
theorem s0:LmScope "here" "net" du.scope:=⟨rfl,rfl,rfl,rfl,rfl,by decide,by decide +kernel,λz h=>xS (by decide +kernel) h⟩
structure Tk (T:Addr) (H H':Hp):Prop where
 old:∀b o,H b=some o->b≠T->H' b=some o
 tab:d6 T du H'
theorem rn (t:d6 T l H):∃ps,H T=some (.tbl ps):=by rcases t with e|⟨c,e,_⟩ <;> exact⟨_,e⟩
theorem mf {o:HO} (t:d6 T l H) (h:H b=some o) (n:∀ps,o≠.tbl ps):b≠T:=λz=>by
 obtain⟨ps,e⟩:=rn t;rw[z,e]at h;exact n ps (QT h).symm
theorem c7 (t:d6 T l H) (S:aw H H'):d6 T l H':=by
 rcases t with e|⟨c,e,q⟩
 ·exact .inl (S _ _ e)
 exact .inr ⟨c,S _ _ e,S _ _ q⟩
theorem Tk.lst (t:d6 T du H) (k:Tk T H H'):∀b xs,H b=some (.lst xs)->H' b=some (.lst xs):=λb xs e=>k.old b _ e (mf t e λ_ z=>nomatch z)
theorem Tk.tup (t:d6 T du H) (k:Tk T H H'):∀b xs,H b=some (.tup xs)->H' b=some (.tup xs):=λb xs e=>k.old b _ e (mf t e λ_ z=>nomatch z)
theorem Tk.of (t:d6 T du H) (S:aw H H'):Tk T H H':=⟨λb o e _=>S b o e,c7 t S⟩
theorem Tk.trans (a:Tk T H H1) (b:Tk T H1 H2):Tk T H H2:=⟨λc o e n=>b.old c o (a.old c o e n) n,b.tab⟩
variable {gs:C4} {vs ys gvs:List V} {ins ns ms xs os ws wo zs o1 o2:List Str}
theorem NAt.mono (hl:∀b xs,H b=some (.lst xs)->H' b=some (.lst xs)) (ht:fH H H') (h:NAt H a li lg ins vs gs):NAt H' a li lg ins vs gs:=⟨ht _ _ h.ha,hl _ _ h.hi,hl _ _ h.hg,dy ht h.gates⟩
def bO (ps:List (Str × Str)):List (V × Key):=ps.map λp=>(V.str p.1,Sum.inr p.2)
def stN (ins:List Str) (gs:C4):Key->List (V × Key)
 | .inr z=>bO (ak ins gs z)
 | .inl _=>[]
theorem mn {l:Addr} {ps:List (Str × Str)} (hl:H l=some (.lst vs)) (p:Paired (lX H) vs ps):be H l (bO ps):=by
 refine⟨vs,hl,?_⟩;unfold bO;clear hl
 induction p with
 | nil=>exact .nil
 | cons h _ ih=>exact .cons h ih
variable {p:Str × Str}
theorem fZ (h:p∈ak ins gs z):∃i,ins.length<=i/\i<ins.length+gs.length/\p.2=bn z i/\(∃g,gs[i-ins.length]?=some g/\p.1=g.1):=by
 unfold ak at h;obtain⟨q,hq,e⟩:=List.mem_filterMap.mp h;obtain⟨j,hj,ej⟩:=Ql.mp hq;have e2:=Qb hj;rw[ej,List.getElem?_zipIdx]at e2;unfold cC at e
 split at e
 ·cases e
 cases e;rw[List.length_zipIdx]at hj;rw[Qb hj]at e2;cases e2;exact⟨ins.length+j,by omega,by omega,rfl,gs[j],by rw[Xe];exact Qb hj,rfl⟩
theorem bP (ins:List Str) (gs:C4):(aj ins gs).length=ins.length+gs.length:=by unfold aj;rw[Qf,Qa]
theorem dO (st:StOk (aj ins gs).length z) {x:Key} (r:Bf.Reach (nxK (stN ins gs)) (Sum.inr z) x):∃y:Str,x=Sum.inr y/\StOk (aj ins gs).length y:=by
 induction r with
 | start=>exact⟨z,rfl,st⟩
 | @step a b _ hb ih =>
 obtain⟨y,rfl,sy⟩:=ih;unfold nxK stN bO at hb;rw[QS]at hb;obtain⟨p,hp,rfl⟩:=Qp.mp hb;obtain⟨i,h1,h2,e,_⟩:=fZ hp;refine⟨p.2,rfl,?_⟩;rw[e];exact e_ sy (by rw[bP];exact h2)
def lW:Nat->List (List Nat)
 | 0=>[[]]
 | n+1=>(lW n).flatMap λl=>[48::l,49::l]
theorem jC:∀n,(lW n).length=2 ^ n
 | 0=>rfl
 | n+1=>by
  unfold lW;rw[List.length_flatMap];show ((lW n).map λ_=>2).sum=_;rw[List.map_const',List.sum_replicate_nat,jC n,Nat.pow_succ]
theorem jB:∀n (l:List Nat),l.length=n->(∀c∈l,c=48\/c=49)->l∈lW n
 | 0,l,h,_=>by rw[Q5 h];simp[lW]
 | n+1,[],h,_=>by simp at h
 | n+1,c::l,h,hc=>by
  unfold lW;rw[List.mem_flatMap];refine⟨l,jB n l (by simpa using h) (λd hd=>hc d (QG _ hd)),?_⟩;rcases hc c (by simp) with e|e <;> subst e <;> simp
theorem gg {xs:List Key} (n11:n<=11) (nd:xs.Nodup) (h:∀x∈xs,∃y:Str,x=Sum.inr y/\StOk n y):xs.length<=2048:=by
 have:=Bf.d_ xs ((lW n).map λl=>(Sum.inr ⟨l.toArray⟩:Key)) nd λx hx=>by
  obtain⟨y,rfl,st⟩:=h x hx;exact Qp.mpr ⟨y.cps.toList,jB n _ (by rw[Qv];exact st.len) st.signs,by cases y;simp⟩
 rw[Qa,jC]at this;have h2:2 ^ n<=2 ^ 11:=Nat.pow_le_pow_right (by decide) n11;have h3:(2:Nat) ^ 11=2048:=by decide
 omega
def cN (TL:Addr):Sp:=λvs H Q _=>∃a li lg ins gvs gs z,vs=[.ref a,.str z]/\NAt H a li lg ins gvs gs/\NetOk ins gs/\StOk (aj ins gs).length z/\d6 TL du H /\
 ∀(F:Addr) (as:C3) (n:Nat) (H':Hp),Tk TL H H'->H F=none->(Bf.bfs (nxK (stN ins gs)) (Sum.inr z) n).length=n->as.length=n->H' F=some (.dK (fdK (Bf.bfs (nxK (stN ins gs)) (Sum.inr z) n) as)) ->
  (∀(i:Nat) x b,(Bf.bfs (nxK (stN ins gs)) (Sum.inr z) n)[i]?=some x->as[i]?=some b->be H' b (stN ins gs x))->Q (.ref F) H'
section
theorem t9 {f c cell:Addr} (f_steps_from:Fn P w K mg base "steps_from" ["net", "standing"] 12 im):Calls P w K mg base 13 f (vM f du "net" cell c (ml im [] E0 (fw (eR 1) (fw (eR 0) mj)))) :=
 oH (k:=12) s0 (λpm ctv u=>rfl) λA outer s H hr=>vP f_steps_from hr (by rfl) (aa (pv 1) (aa (pv 0) ag))
theorem iT:FnScope ["net", "standing"] ["net", "standing"] (au (top 17)):=by fin2
theorem nZ {TL cc:Addr} {f:Addr} {fd:FuncData} (Fu:FunC K "steps_found" "steps_found" (top 17) f fd cc) (T:Txt K mg TT) (CT:PySem.W.CodeHd base cc TL) (BM:fJ base mg) (f_found_from:Fn P w K mg base "found_from" ["start", "steps_of"] 14 (kR P w K mg base 13)) (f_steps_from:Fn P w K mg base "steps_from" ["net", "standing"] 12 im) :
  FnOk P w K mg base CX0 15 f fd ["net", "standing"] (cN TL):=by
 have S:=iT;refine Fu.ok S (λvs H Q E h=>?_) (λA outer s H vs Q E hr h=>?_)
 ·obtain⟨a,li,lg,ins,gvs,gs,z,rfl,_⟩:=h;rfl
 obtain⟨a,li,lg,ins,gvs,gs,z,rfl,NA,ok,st,tb,k⟩:=h;have hu:=cf hr;have HCL:PySem.closureFor du.scope (PyProof.Rows.envOfC "steps_found" (au (top 17)) s.heap.objs.size f (.ref cc))=pure [(("net" : Str),(s.heap.objs.size+1:Addr))]:=by rfl
 refine'⟨?_,?bb,?_⟩
 case bb =>
  refine' aS ?_;rotate_left 1;walk_at "p";exact(aD (wP (i:=0) f_found_from (hr.mono (by first|decide|omega)) (by rfl) (aa (pv 1) (aa (wO (T:=TL) (cl:=[(("net" : Str),(s.heap.objs.size+1:Addr))]) rfl CT BM HCL) ag) ae) rfl rfl (Or.inr (Or.inl rfl)) rfl rfl))
 x_go;generalize hcell:s.heap.objs.size+1=cell;kt_k;show fw (eR 1) (fw (xy TL du [("net", cell)]) mj) _ _ _;refine af (ad rfl (af ⟨tb,λfl c H2 md=>av ⟨_,rfl,λo uy hd ru hc=>?_⟩⟩));have md:Made TL du [("net", cell)] H fl c H2:=md;obtain rfl:uy=Value.ref a:=ru;have NA2:NAt H2 a li lg ins gvs gs:=NA.mono (λb xs e=>md.old b _ e (mf tb e λ_ z=>nomatch z)) (λb xs e=>md.old b _ e (mf tb e λ_ z=>nomatch z));have S2c:aw H2 (upd H2 cell (cZ o)):=ap hc;have hf2:upd H2 cell (cZ o) fl=some (gT fl du [("net", cell)] c):=S2c _ _ md.fn;have hcc2:upd H2 cell (cZ o) c=some (ic c du.qual):=S2c _ _ md.code;have hcl2:upd H2 cell (cZ o) cell=some (cZ o):=ai;have NA2c:=NA2.same S2c;have k12:∀b u,H b=some u->b≠TL->upd H2 cell (cZ o) b=some u:=λb u e n=>S2c _ _ (md.old b u e n);have tb2:d6 TL du (upd H2 cell (cZ o)):=.inr ⟨c,S2c _ _ md.tab,hcc2⟩;have nocell:∀{b u},H2 b=some u->b≠cell:=λe z=>by rw[z,hc]at e;cases e
 have H2R:∀{b u},H b=some u->b≠TL->b≠cell:=λ{b u} e n=>nocell (md.old b u e n);have Tcell:TL≠cell:=nocell md.tab;generalize upd H2 cell (cZ o)=H2c at *;have w11:(aj ins gs).length<=11:=by rw[bP];have:=ok.i4;have:=ok.g7;omega
 refine⟨Sum.inr z,fl,du,[("net", cell)],c,_,stN ins gs,2048,rfl,hf2,t9 (c:=c) (cell:=cell) f_steps_from,by decide,λx H4 Q1 rx S4 q4=>?_,λxs nd h=>gg w11 nd λx hx=>dO st (h x hx),λF as n H3 S3 hF ln3 las hF3 sts=>?_⟩
 ·obtain⟨y,rfl,sy⟩:=dO st rx;have NA4:=NA2c.same S4;have hcl4:=S4 _ _ hcl2;refine⟨o,Value.ref a,.ref a,S4 _ _ hf2,S4 _ _ hcc2,hcl4,hd,rfl,?_⟩;have dl:∀b xs,H4 b=some (.lst xs)->c6 H4 cell b=some (.lst xs):=λb xs e=>by rw[bp (λz=>by rw[z,hcl4]at e;cases e)];exact e
  have dt:∀b xs,H4 b=some (.tup xs)->c6 H4 cell b=some (.tup xs):=λb xs e=>by rw[bp (λz=>by rw[z,hcl4]at e;cases e)];exact e
  refine aI (af (ad rfl (af (ad rfl (av ?_)))));refine⟨a,li,lg,ins,gvs,gs,y,rfl,NA4.mono dl dt,ok,sy,λl vs' H5 S5 hl0 hl5 pr5 hn5=>?_⟩;have kc:fH H5 (upd H5 cell (cZ o)):=λb xs e=>by rw[ao (λz=>by rw[z,hn5]at e;cases e)];exact e
  refine q4 l _ (λb u e=>?_) (mn (by rw[ao (λz=>by rw[z,hn5]at hl5;cases hl5)];exact hl5) (di kc pr5));by_cases cb:b=cell
  ·subst cb;rw[ai,<-hcl4];exact e
  rw[ao cb];exact S5 _ _ (by rw[bp cb];exact e)
 show Q (V.ref F) (c6 H3 cell);have hcl3:=S3 _ _ hcl2;have d3:∀{b u},H3 b=some u->b≠cell->c6 H3 cell b=some u:=λe n=>by rw[bp n];exact e
 have Fcell:F≠cell:=λz=>by rw[z,hcl2]at hF;cases hF
 have tb3:d6 TL du (c6 H3 cell):=by
  rcases tb2 with e|⟨c',e,q⟩
  ·exact .inl (d3 (S3 _ _ e) Tcell)
  have c'cell:c'≠cell:=λz=>by rw[z,hcl2]at q;cases q
  exact .inr ⟨c',d3 (S3 _ _ e) Tcell,d3 (S3 _ _ q) c'cell⟩
 have F0:H F=none:=by
  cases e:H F with
  | none=>rfl
  | some u =>
  by_cases c:F=TL
  ·obtain⟨ps,e2⟩:=rn tb2;rw[c,e2]at hF;cases hF
  rw[k12 _ _ e c]at hF;cases hF
 refine k F as n _ ⟨λb u e nT=>d3 (S3 _ _ (k12 b u e nT)) (H2R e nT),tb3⟩ F0 ln3 las (d3 hF3 Fcell) λi x b e1 e2=>?_;obtain⟨vs,h1,h2⟩:=sts i x b e1 e2;exact⟨vs,d3 h1 (λz=>by rw[z,hcl3]at h1;cases h1),bM (λv st ⟨b,e,q⟩=>⟨b,e,d3 q (λz=>by rw[z,hcl3]at q;cases q)⟩) h2⟩
end
theorem lH {nm:Str}:∀{ns:List Str},inV (.str nm) (ns.map V.str)=true↔nm∈ns
 | []=>by simp[inV]
 | x::ns=>by
  have ih:=lH (nm:=nm) (ns:=ns);unfold inV at ih ⊢;rw[QH,List.any_cons,Bool.or_eq_true,ih,QQ]
  have:eqV (.str x) (.str nm)=true↔nm=x:=by
   show decide (x=nm)=true↔_;rw[decide_eq_true_iff];exact⟨λh=>h.symm,λh=>h.symm⟩
  rw[this]
theorem qN (ns:List Str):(ns.map V.str).all dA=true:=by
 rw[Q0];intro x hx;obtain⟨y,_,rfl⟩:=Qp.mp hx;rfl
theorem cY {p:Addr} (h:SqL K H p (ns.map V.str)) (q:Q (.bl (!decide (x∈ns))) H):rIn K true (.str x) (.ref p) H Q:=by
 refine⟨p,_,rfl,.inl h,rfl,qN _,?_⟩
 have e:inV (.str x) (ns.map V.str)=decide (x∈ns):=by
  by_cases c:x∈ns
  ·rw[lH.mpr c,QJ c]
  rw[Qx c];exact Bool.eq_false_iff.mpr λz=>c (lH.mp z)
 rw[QB rfl,e];exact q
theorem bz.same {k:Key} {o:Option V} (S:aw H H') (h:bz H a (kV k) o):bz H' a (kV k) o:=by
 rcases h with⟨kvs,k',r,e,q⟩|⟨kvs,k',b,r,e,_⟩
 ·refine .inl ⟨kvs,k',?_,e,q⟩;rcases r with r|⟨ob,r⟩
  ·exact .inl (S _ _ r)
  exact .inr ⟨ob,S _ _ r⟩
 cases k <;> cases e
section
variable (ins:List Str) (gs:C4)
def eY (y:Str):List Str:=(ak ins gs y).map (·.1)
def fE (y:Str) (c:Str) (p:Str × Str):Option (Str × Str):=if p.1≠c/\c∉eY ins gs p.2 then some (c,p.1) else none
def br (y:Str):List (Str × Str):=(eY ins gs y).flatMap λc=>(ak ins gs y).filterMap (fE ins gs y c)
end
theorem bQ (ins:List Str) (gs:C4) (y:Str):(ak ins gs y).length<=gs.length:=by
 unfold ak;have:=List.length_filterMap_le (cC (sgn (aj ins gs) y) y) (gs.zipIdx ins.length);rwa [List.length_zipIdx]at this
def FAt (H:Hp) (F:Addr) (ins:List Str) (gs:C4) (R:Str->Prop):Prop:=∀y,R y->∃b,bz H F (kV (Sum.inr y)) (some (.ref b))/\be H b (bO (ak ins gs y))
theorem FAt.same {R:Str->Prop} (S:aw H H') (h:FAt H F ins gs R):FAt H' F ins gs R:=λy r=>let ⟨b,g,s⟩:=h y r;⟨b,bz.same S g,s.same S⟩
def o9:Sp:=λvs H Q _=>∃(F li:Addr) (ins:List Str) (gs:C4) (R:Str->Prop) (y:Str),vs=[.ref F,.str y,.ref li]/\FAt H F ins gs R/\R y/\H li=some (.lst (ins.map V.str))/\NetOk ins gs/\∀l H',aw H H'->H l=none->H' l=some (.lst ((eY ins gs y).map V.str))->Q (.ref l) H'
def Bi (H:Hp):Option (Str × Str)->V->Prop
 | none,v=>v=.non
 | some p,v=>∃t,v=.ref t/\H t=some (.tup [.str p.1,.str p.2])
def nL:Sp:=λvs H Q _=>∃(F li:Addr) (ins:List Str) (gs:C4) (R:Str->Prop) (y:Str),vs=[.ref F,.str y,.ref li]/\FAt H F ins gs R/\R y/\(∀y,R y->∀p∈ak ins gs y,R p.2)/\H li=some (.lst (ins.map V.str))/\NetOk ins gs/\∀v H',aw H H'->Bi H' (br ins gs y).head? v->Q v H'
theorem dj {ps:List (Str × Str)} (pv:Paired (λv (s:V × Key)=>∃b,v=.ref b/\H b=some (.tup [s.1,kV s.2])) vs (bO ps)) {v:V} (e:vs[i]?=some v):∃p b,ps[i]?=some p/\v=.ref b/\H b=some (.tup [.str p.1,.str p.2]):=by
 obtain⟨st,e1,b,e2,h⟩:=paired_get pv e;unfold bO at e1;rw[Qm]at e1
 cases e3:ps[i]? with
 | none=>rw[e3]at e1;cases e1
 | some p=>rw[e3]at e1;cases e1;exact⟨p,b,rfl,e2,h⟩
theorem ni (ok:NetOk ins gs) (h:p∈ak ins gs y):p.1∉ins:=by
 obtain⟨i,_,_,_,g,hg,e⟩:=fZ h;rw[e];have nd:=ok.nd;unfold aj at nd;intro hm;exact(List.nodup_append.mp nd).2.2 _ hm _ (Qp.mpr ⟨g,Qh hg,rfl⟩) rfl
theorem hV {α β:Type} {g:α->Option β} {r:β}:∀{ys:List α} {j:Nat} {y:α},ys[j]?=some y->(∀j'<j,∀y',ys[j']?=some y'->g y'=none)->g y=some r->(ys.filterMap g).head?=some r
 | [],_,_,e,_,_=>by simp at e
 | y0::ys,0,y,e,_,hr=>by simp at e;subst e;rw[List.filterMap_cons,hr];rfl
 | y0::ys,j+1,y,e,hn,hr=>by
  rw[List.filterMap_cons,hn 0 (by omega) y0 rfl];exact hV (j:=j) (by simpa using e) (λj' h y' e'=>hn (j'+1) (by omega) y' (by simpa using e')) hr
theorem km {α β:Type} {f:α->List β} {r:β}:∀{xs:List α} {i:Nat} {x:α},xs[i]?=some x->(∀i'<i,∀x',xs[i']?=some x'->f x'=[])->(f x).head?=some r->(xs.flatMap f).head?=some r
 | [],_,_,e,_,_=>by simp at e
 | x0::xs,0,x,e,_,hr=>by
  simp at e;subst e;rw[List.flatMap_cons]
  cases h:f x0 with
  | nil=>rw[h]at hr;cases hr
  | cons a l=>rw[h]at hr;exact hr
 | x0::xs,i+1,x,e,hn,hr=>by
  rw[List.flatMap_cons,hn 0 (by omega) x0 rfl,Xo];exact km (i:=i) (by simpa using e) (λi' h x' e'=>hn (i'+1) (by omega) x' (by simpa using e')) hr
section
theorem iU:FnScope ["steps", "here", "inputs"] ["steps", "here", "inputs"] (au (top 21)):=by fin2
theorem sS {f:Addr} {fd:FuncData} (Fu:Fun K "names_asked" "names_asked" (top 21) f fd) (T:Txt K mg TT):FnOk P w K mg base CX0 1 f fd ["steps", "here", "inputs"] o9:=by
 have S:=iU;refine Fu.ok S (by room) (λcdv A outer s H vs Q E hr h=>?_);obtain⟨F,li,ins,gs,R,y,rfl,fa,ry,hli,ok,k⟩:=h;have hu:=cf hr;refine⟨_,(aS (aD (i5 (tgs:=["step"]) (cap:=[("inputs", 2)]) rfl ⟨rfl,rfl,rfl,rfl,rfl,rfl⟩ (bt (bu hu (pv 0) (pv 1))) (λ_ _ _ _=>(cE (i:=0) (show List.Nodup [("step" : Str),("inputs" : Str)] by decide +kernel) rfl (by z_go))) (λ_ _ _ _=>(dP (aF (dE (K:=K) rfl) (aC (ir (K:=K) rfl) (pv 0) am) (pv 1) rfl))) (λ_ _ _ _=>(aC (ir (K:=K) rfl) (pv 0) am))))),?_⟩;x_go;obtain⟨b,dg,vs,hvs,pvs⟩:=fa y ry;have few:=bQ ins gs y;have g7:=ok.g7;have lvs:vs.length=(ak ins gs y).length:=by have:=aP pvs;unfold bO at this;rwa [Qa]at this
 refine bE (i_comp (s_list (i_dget (ad rfl (ad rfl ⟨F,_,rfl,dg,b,rfl,⟨_,SqL.of hvs⟩,λL hL=>?_⟩)))));refine cR (xs:=vs) (λm H' ys=>aw H H'/\H' L=some (.lst ys)/\ys=(((ak ins gs y).take m).map (·.1)).map V.str) ⟨ap hL,ai,by simp⟩ (λm H' ys p=>⟨p.2.1,SqL.of (p.1 _ _ hvs)⟩) (λm v H' ys e p=>?_) (λH' ys p=>?_)
 ·obtain⟨Sm,hd,rfl⟩:=p;obtain⟨p,b2,hp,rfl,hb2⟩:=dj pvs e;have hm:m<vs.length:=(Qc.mp e).1;have nin:=ni ok (Qh hp);refine aq ⟨by repeat' (first|exact trivial|refine⟨rfl,?_⟩),?_⟩;have hb3:=Sm _ _ hb2;refine aQ (aA (aA (ad rfl (i_c (bg hb3 rfl (ad rfl ?_))))));refine cY (SqL.of (Sm _ _ hli)) ⟨_,rfl,?_⟩;refine ifT (by rw[Qx nin];rfl) ?_;refine aA (ad rfl (i_c (bg hb3 rfl ?_)));refine cw.mk hd hm (by rw[Qa,Qa,Qq];omega) ⟨bh Sm hL,ai,?_⟩;rw[QV,hp,Qz,Qz];rfl
 obtain⟨Sm,hd,rfl⟩:=p;rw[lvs,Qr (Qg _)]at hd;exact k L H' Sm hL hd
theorem ig:FnScope ["steps", "here", "inputs", "calmed", "by", "behind"] ["steps", "here", "inputs"] (au (top 22)):=by fin2
theorem uV {f:Addr} {fd:FuncData} (Fu:Fun K "first_calmed" "first_calmed" (top 22) f fd) (T:Txt K mg TT) (f_names_asked:Fn P w K mg base "names_asked" ["steps", "here", "inputs"] 1 o9):FnOk P w K mg base CX0 2 f fd ["steps", "here", "inputs"] nL:=by
 have S:=ig;refine Fu.ok S (by room) (λcdv A outer s H vs Q E hr h=>?_);obtain⟨F,li,ins,gs,R,y,rfl,fa,ry,cl,hli,ok,k⟩:=h;have hu:=cf hr;refine'⟨?_,?bb,?_⟩
 case bb =>
  walk_at "b";walk_at "f";exact(bt (aE f_names_asked hr (aa (pv 0) (aa (pv 1) (aa (pv 2) ag ae) ae) ae)));exact(bG 3 S.nd);walk_at "p";walk_at "f";exact(bt (bu hu (pv 0) (pv 1)));exact(gG rfl (aZ (bG 4 S.nd) (aZ (bG 5 S.nd) cT)));walk_at "p";exact(PW.pt (gD (aF gb (pv 4) (pv 3) (aN _)) (ff (aF bY (pv 3) (aE f_names_asked hr (aa (pv 0) (aa (pv 5) (aa (pv 2) ag ae) ae) ae)) rfl))));exact(aD (pe_tup (aa (pv 3) (aa (pv 4) ag ae) ae)));exact(aD bX)
 x_go;obtain⟨b,dg,vs,hvs,pvs⟩:=fa y ry;have few:=bQ ins gs y;have g7:=ok.g7;have lvs:vs.length=(ak ins gs y).length:=by have:=aP pvs;unfold bO at this;rwa [Qa]at this
 kt_k;refine s_for (s_list (aI (af (ad rfl (af (ad rfl (af (ad rfl (av ?_)))))))));refine⟨F,li,ins,gs,R,y,rfl,fa,ry,hli,ok,λl H1 S1 hl0 hl1=>?_⟩;refine⟨l,rfl,⟨_,SqL.of hl1⟩,?_⟩;let I6:IvF:=λi σ' H'=>(∃x3 x4 x5,σ'=[some (.ref F),some (.str y),some (.ref li),x3,x4,x5])/\aw H1 H'/\∀i'<i,∀c,(eY ins gs y)[i']?=some c->(ak ins gs y).filterMap (fE ins gs y c)=[]
 refine cH (xs:=(eY ins gs y).map V.str) I6
  ⟨⟨_,_,_,rfl⟩,aw.refl _,λi' h=>absurd h (Nat.not_lt_zero _)⟩ (λi σ' H' _ pv=>SqL.of (pv.2.1 _ _ hl1)) (λi v σ' H' hv pv=>?_) (λσ' H' pv=>?_)
 ·obtain⟨⟨x3,x4,x5,rfl⟩,SS,none0⟩:=pv;rw[Qm]at hv
  cases ec:(eY ins gs y)[i]? with
  | none=>rw[ec]at hv;cases hv
  | some c =>
  rw[ec]at hv;cases hv;refine aq ?_;have S0:=S1.trans SS;refine s_for (s_list (i_dget (ad rfl (ad rfl ⟨F,_,rfl,bz.same S0 dg,b,rfl,⟨_,SqL.of (S0 _ _ hvs)⟩,?_⟩))));let I7:IvF:=λj σ' H''=>(∃x4 x5,σ'=[some (.ref F),some (.str y),some (.ref li),some (.str c),x4,x5])/\aw H' H''/\∀j'<j,∀p,(ak ins gs y)[j']?=some p->fE ins gs y c p=none
  refine cH (xs:=vs) I7
   ⟨⟨_,_,rfl⟩,aw.refl _,λj' h=>absurd h (Nat.not_lt_zero _)⟩ (λj σ' H'' _ pv=>SqL.of (pv.2.1 _ _ (S0 _ _ hvs))) (λj v σ' H'' hv pv=>?_) (λσ' H'' pv=>?_)
  ·obtain⟨⟨x4,x5,rfl⟩,S2,none1⟩:=pv;have S02:=S0.trans S2;obtain⟨p,b2,hp,rfl,hb2⟩:=dj pvs hv;have hb3:=S02 _ _ hb2;refine⟨b2,_,rfl,SqT.of hb3,rfl,_,_,rfl,aq ⟨_,_,rfl,aq ⟨rfl,?_⟩⟩⟩;kt_k;with_reducible refine i_and ?_
   refine aQ (aA (ad rfl (ad rfl (i_ne rfl ⟨_,rfl,?_⟩))))
   have nx:∀(H4:Hp),aw H'' H4->fE ins gs y c p=none->(∃x4 x5,([some (.ref F),some (.str y),some (.ref li),some (.str c),some (.str p.1),some (.str p.2)]:St)=[some (.ref F),some (.str y),some (.ref li),some (.str c),x4,x5])/\aw H' H4/\∀j'<j+1,∀p,(ak ins gs y)[j']?=some p->fE ins gs y c p=none:=λH4 S4 hn=>⟨⟨_,_,rfl⟩,S2.trans S4,λj' h q e=>by
    by_cases cj:j'<j
    ·exact none1 j' cj q e
    have:j'=j:=by omega
    subst this;rw[hp]at e;cases e
    exact hn⟩
   by_cases c1:p.1=c
   ·refine ifF (by rw[QJ (by rw[c1])];rfl) (iteF ?_);lk;exact nx H'' (aw.refl _) (by unfold fE;rw[QC (λz=>z.1 c1)])
   refine ifT (by rw[Qx (λz=>c1 (V.str.inj z))];rfl) ?_;refine aQ (aA (ad rfl (aI (af (ad rfl (af (ad rfl (af (ad rfl (av ?_))))))))));refine⟨F,li,ins,gs,R,p.2,rfl,fa.same S02,cl y ry p (Qh hp),S02 _ _ hli,ok,λl2 H3 S3 hl20 hl23=>?_⟩;refine cY (SqL.of hl23) ⟨_,rfl,?_⟩;by_cases c2:c∈eY ins gs p.2
   ·refine ifF (by rw[QJ c2];rfl) ?_;lk;exact nx H3 S3 (by unfold fE;rw[QC (λz=>z.2 c2)])
   refine ifT (by rw[Qx c2];rfl) ?_;lk;refine⟨by simp[sizeLine],λt ht=>?_⟩;refine k _ _ (S02.trans (S3.trans (ap ht))) ?_;have e:(br ins gs y).head?=some (c,p.1):=km ec none0 (hV hp none1 (by unfold fE;rw[QB ⟨c1,c2⟩]));rw[e];exact⟨t,rfl,ai⟩
  obtain⟨⟨x4,x5,rfl⟩,S2,none1⟩:=pv;refine⟨⟨_,_,_,rfl⟩,SS.trans S2,λi' h c' e=>?_⟩;by_cases ci:i'<i
  ·exact none0 i' ci c' e
  have:i'=i:=by omega
  subst this;rw[ec]at e;cases e;rw[List.filterMap_eq_nil_iff];intro p hp;obtain⟨j,hj,ej⟩:=Ql.mp hp;exact none1 j (by omega) p (by rw[Qb hj,ej])
 obtain⟨⟨x3,x4,x5,rfl⟩,SS,none0⟩:=pv;rw[Qa]at none0;lk;refine k _ _ (S1.trans SS) ?_
 have e:br ins gs y=[]:=by
  unfold br;rw[List.flatMap_eq_nil_iff];intro c hc;obtain⟨i,hi,ei⟩:=Ql.mp hc;exact none0 i hi c (by rw[Qb hi,ei])
 rw[e];rfl
end
section
variable (st:Str->List (Str × Str))
def evs (xs:List Str):List (Str × (Str × Str)):=xs.flatMap λh=>(st h).map λp=>(p.2,(p.1,h))
def cK (es:List (Str × (Str × Str))) (x:Str):Option (Str × Str):=(es.find? λe=>e.1==x).map (·.2)
inductive Path (xs:List Str) (s:Str):Str->List Str->Prop
 | nil:Path xs s s []
 | snoc {x h nm:Str} {ns:List Str}:x≠s->cK (evs st xs) x=some (nm,h)->Path xs s h ns->Path xs s x (ns++[nm])
end
theorem Path.det {st:Str->List (Str × Str)} (a:Path st xs s x ns):Path st xs s x ms->ns=ms:=by
 induction a generalizing ms with
 | nil=>intro b;cases b with
  | nil=>rfl
  | snoc h _ _=>exact absurd rfl h
 | snoc h c _ ih=>intro b;cases b with
  | nil=>exact absurd rfl h
  | snoc h' c' p' =>
   rw[c]at c';cases c';rw[ih p']
theorem Path.start {st:Str->List (Str × Str)} {xs:List Str} (a:Path st xs s s ns):ns=[]:=a.det .nil
theorem eB {es:List (Str × (Str × Str))} {e:Str × (Str × Str)}:cK (es++[e]) x=match cK es x with|some r=>some r|none=>if e.1=x then some e.2 else none:=by
 unfold cK;rw[List.find?_append]
 cases h:es.find? (λe=>e.1==x) with
 | some r=>rfl
 | none =>
 rw[Option.none_or];by_cases c:e.1=x
 ·rw[QB c,List.find?_cons,show (e.1==x)=true from by simpa using c];rfl
 rw[QC c,List.find?_cons,show (e.1==x)=false from by simpa using c];rfl
structure CAt (H:Hp) (C:Addr) (kvs:List (Key × V)) (es:List (Str × (Str × Str))):Prop where
 hC:H C=some (.dK kvs)
 some:∀x r,cK es x=some r->∃t,aU kvs (Sum.inr x)=some (.ref t)/\H t=some (.tup [.str r.1,.str r.2])
 none:∀x,cK es x=none->aU kvs (Sum.inr x)=none
 len:kvs.length<=es.length
def az (xs:List Str):List Key:=xs.map Sum.inr
def rN:Sp:=λvs H Q _=>∃(F:Addr) (as:C3) (st:Str->List (Str × Str)) (xs:List Str) (s x:Str) (ns:List Str),vs=[.ref F,.str s,.str x]/\Rd H F (.dK (fdK (az xs) as))/\as.length=xs.length/\xs.length<=2048/\xs.Nodup/\(∀h,(st h).length<=7) /\
 (∀(i:Nat) h b,xs[i]?=some h->as[i]?=some b->be H b (bO (st h)))/\Path st xs s x ns/\ns.length<=3000/\∀l H',aw H H'->H l=none->H' l=some (.lst (ns.map V.str))->Q (.ref l) H'
theorem gK {k:Key} {v:V} (h:(fdK (az xs) as)[j]?=some (k,v)):∃x b,xs[j]?=some x/\as[j]?=some b/\k=Sum.inr x/\v=.ref b:=by
 unfold fdK az at h;rw[Qm]at h
 cases q:((xs.map Sum.inr:List Key).zip as)[j]? with
 | none=>rw[q]at h;cases h
 | some p =>
 obtain⟨p1,p2⟩:=p;rw[q]at h;cases h;obtain⟨h1,h2⟩:=List.getElem?_zip_eq_some.mp q;rw[Qm]at h1
 cases e:xs[j]? with
 | none=>rw[e]at h1;cases h1
 | some x=>rw[e]at h1;cases h1;exact⟨x,p2,rfl,h2,rfl,rfl⟩
theorem bV (nd:(kvs.map (·.1)).Nodup):∀{i:Nat} {k:Key} {v:V},kvs[i]?=some (k,v)->aU kvs k=some v:=by
 induction kvs with
 | nil=>intro i k v e;simp at e
 | cons p r ih =>
 intro i k v e;rw[QH,Q7]at nd
 cases i with
 | zero =>
  simp at e;subst e;exact bJ (p:=(k,v)) rfl
 | succ i =>
 simp at e;rw[bK (λz:p.1=k=>nd.1 (by rw[z];exact Qp.mpr ⟨(k,v),Qh e,rfl⟩))];exact ih nd.2 e
theorem dw (nd:xs.Nodup):((fdK (az xs) as).map (·.1)).Nodup:=by
 rw[ji];refine(List.take_sublist _ _).nodup ?_;unfold az;exact List.Pairwise.map _ (λa b h z=>h (Sum.inr.inj z)) nd
theorem xh {ta:TA} (q:ta U H λvs H1=>∃l xs,vs=[.ref l]/\SqL K H1 l xs/\∀p,H1 p=none->Q (.ref p) (upd H1 p (.lst xs.reverse))):vz K ta U H Q:=q
section
theorem mF:FnScope ["found", "start", "other", "came", "here", "name", "behind", "names"] ["found", "start", "other"] (au (top 18)):=by fin2
theorem wZ {f:Addr} {fd:FuncData} (Fu:Fun K "order_to" "order_to" (top 18) f fd) (T:Txt K mg TT):FnOk P w K mg base CX0 1 f fd ["found", "start", "other"] rN:=by
 have S:=mF;refine Fu.ok S (by room) (λcdv A outer s H vs Q E hr h=>?_);obtain⟨F,as,st,xs,z,x,ns,rfl,rd,las,lxs,nd,few,sts,pth,lns,k⟩:=h;have hu:=cf hr;refine'⟨?_,?bb,?_⟩
 case bb =>
  walk_at "b";exact aH 3 S.nd ga;refine' nR ?_;rotate_left 1;walk_at "f";exact(dQ (pv 0));exact(bG 4 S.nd);walk_at "p";walk_at "f";exact(bt (bu hu (pv 0) (pv 4)));exact(gG rfl (aZ (bG 5 S.nd) (aZ (bG 6 S.nd) cT)));walk_at "p";exact(bU (sf (pv 3) (pv 6) (pe_tup (aa (pv 5) (aa (pv 4) ag ae) ae)) ⟨rfl,rfl,rfl,rfl⟩));exact aH 7 S.nd (pe_lst ag);exact aH 4 S.nd (pv 2);refine' f_ PassesOwn.never ?_ ?_;rotate_left 2;exact(aF gb (pv 4) (pv 1) (aN _));walk_at "p";exact(bU (fz Q6 Xa Xb bR (pv 7) (aa (aC aG (bu hu (pv 3) (pv 4)) am) ag)));exact aH 4 S.nd (aC aG (bu hu (pv 3) (pv 4)) am);exact(aD (uD rfl (by rfl) T.n_list (by rfl) T.n_reversed (aa (pv 7) ag ae)))
 x_go;refine s_seq (aY ?_);intro C hC;refine aq ?_;ctx_has H C H1 S1 q1 aJ hC;obtain⟨uF,hF⟩:=f9 rd;have FC:F≠C:=aB hF hC
 have rd1:Rd H1 F (.dK (fdK (az xs) as)):=by
  rcases rd with e|⟨o,e⟩
  ·exact .inl (S1 _ _ e)
  exact .inr ⟨o,S1 _ _ e⟩
 kt_k;refine rP (a:=F) (u:=.dK (fdK (az xs) as)) rd1 trivial λob=>?_;have h2:∀b,b≠F->upd H1 F (.frz ob (.dK (fdK (az xs) as))) b=H1 b:=λb n=>ao n;have hF2:upd H1 F (.frz ob (.dK (fdK (az xs) as))) F=some (.frz ob (.dK (fdK (az xs) as))):=ai;generalize upd H1 F (.frz ob (.dK (fdK (az xs) as)))=H2 at *
 have nFl:∀{b xs'},H b=some (.lst xs')->b≠F:=λ{b xs'} e zz=>by
  rw[zz]at e;rcases rd with e'|⟨o,e'⟩ <;> rw[e]at e' <;> cases e'
 have nFt:∀{b xs'},H b=some (.tup xs')->b≠F:=λ{b xs'} e zz=>by
  rw[zz]at e;rcases rd with e'|⟨o,e'⟩ <;> rw[e]at e' <;> cases e'
 have sts2:∀(i:Nat) h b,xs[i]?=some h->as[i]?=some b->be H2 b (bO (st h)):=λi h b e1 e2=>by
  obtain⟨vs,v1,v2⟩:=sts i h b e1 e2;exact⟨vs,by rw[h2 _ (nFl v1)];exact S1 _ _ v1,bM (λv s ⟨b,e,q⟩=>⟨b,e,by rw[h2 _ (nFt q)];exact S1 _ _ q⟩) v2⟩
 have hC2:H2 C=some (.dK []):=by rw[h2 C FC.symm];exact q1
 have lfd:(fdK (az xs) as).length=xs.length:=by rw[lK (by unfold az;rw[Qa];omega)];exact las
 have levs:∀ys:List Str,(evs st ys).length<=7*ys.length:=λys=>by
  unfold evs
  induction ys with
  | nil=>simp
  | cons y ys ih =>
  rw[List.flatMap_cons,Qf,Qa,QK];have:=few y;omega
 refine s_for (fe (ad rfl ⟨F,ob,_,rfl,hF2,?_⟩));let I8:IvF:=λj σ' H'=>∃(kvs:List (Key × V)) (x4 x5 x6:Option V),σ'=[some (.ref F),some (.str z),some (.str x),some (.ref C),x4,x5,x6,none]/\(∀b u,H2 b=some u->b≠C->H' b=some u)/\CAt H' C kvs (evs st (xs.take j))
 refine jg I8
  ⟨_,_,_,_,rfl,λb u e _=>e,⟨hC2,λx r e=>by simp[evs,cK]at e,λx _=>rfl,Qg _⟩⟩ (λj σ' H' _ pv=>?_) (λj ky vl σ' H' hj pv=>?_) (λσ' H' pv=>?_)
 ·obtain⟨_,_,_,_,_,o2,_⟩:=pv;exact o2 F _ hF2 FC
 ·obtain⟨kvs,x4,x5,x6,rfl,o2,ca⟩:=pv;obtain⟨h,b,hx,hb,rfl,rfl⟩:=gK hj;obtain⟨vs,hvs,pvs⟩:=sts2 j h b hx hb;have bC:b≠C:=λzz=>by rw[zz,hC2]at hvs;cases hvs
  have lvs:vs.length=(st h).length:=by have:=aP pvs;unfold bO at this;rwa [Qa]at this
  have dg:bz H' F (kV (Sum.inr h)) (some (.ref b)):=.inl ⟨_,Sum.inr h,.inr ⟨ob,o2 F _ hF2 FC⟩,rfl,(bV (dw nd) hj).symm⟩;have hjx:j<xs.length:=(Qc.mp hx).1;refine aq ?_;refine s_for (s_list (i_dget (ad rfl (ad rfl ⟨F,_,rfl,dg,b,rfl,⟨_,SqL.of (o2 _ _ hvs bC)⟩,?_⟩))));let I9:IvF:=λi σ' H'=>∃(kvs:List (Key × V)) (x5 x6:Option V),σ'=[some (.ref F),some (.str z),some (.str x),some (.ref C),some (.str h),x5,x6,none]/\(∀b u,H2 b=some u->b≠C->H' b=some u)/\CAt H' C kvs (evs st (xs.take j)++((st h).take i).map λp=>(p.2,(p.1,h)))
  refine cH (xs:=vs) I9
   ⟨kvs,_,_,rfl,o2,by simpa using ca⟩ (λi σ' H' _ pv=>?_) (λi v σ' H' hv pv=>?_) (λσ' H' pv=>?_)
  ·obtain⟨_,_,_,_,o3,_⟩:=pv;exact SqL.of (o3 _ _ hvs bC)
  ·obtain⟨kvs,x5,x6,rfl,o3,ca3⟩:=pv;obtain⟨p,b2,hp,rfl,hb2⟩:=dj pvs hv;have hb3:H' b2=some (.tup [.str p.1,.str p.2]):=o3 _ _ hb2 (λzz=>by rw[zz,hC2]at hb2;cases hb2);have hi:i<vs.length:=(Qc.mp hv).1;refine⟨b2,_,rfl,SqT.of hb3,rfl,_,_,rfl,aq ⟨_,_,rfl,aq ⟨rfl,?_⟩⟩⟩;refine s_drop (u9 (ad rfl ⟨C,rfl,.inl ⟨_,.inl ca3.hC⟩,ad rfl ?_⟩));refine i_tup (af (ad rfl (af (ad rfl (av ⟨by simp[sizeLine],λt ht=>?_⟩)))))
   have hev:evs st (xs.take j)++((st h).take (i+1)).map (λp=>(p.2,(p.1,h)))=(evs st (xs.take j)++((st h).take i).map λp=>(p.2,(p.1,h)))++[(p.2,(p.1,h))]:=by
    rw[QV,hp,Qz,Q2];rfl
   have lk:=ca3.len
   have lev:(evs st (xs.take j)++((st h).take i).map λp=>(p.2,(p.1,h))).length<=7*2048+7:=by
    rw[Qf,Qa,Qq];have h1:=levs (xs.take j);have h2:=few h;rw[Qq]at h1;omega
   have St:aw H' (upd H' t (.tup [.str p.1,.str h])):=ap ht;have tC:t≠C:=mY ca3.hC ht;refine⟨kvs,Sum.inr p.2,St _ _ ca3.hC,rfl,λv hv=>?_,λhn=>⟨by omega,?_⟩⟩
   ·refine⟨kvs,_,_,rfl,λb u e n=>St _ _ (o3 b u e n),?_⟩;rw[hev]
    have hs:∃r,cK (evs st (xs.take j)++((st h).take i).map λp=>(p.2,(p.1,h))) p.2=some r:=by
     cases e:cK (evs st (xs.take j)++((st h).take i).map λp=>(p.2,(p.1,h))) p.2 with
     | some r=>exact⟨r,rfl⟩
     | none=>rw[ca3.none _ e]at hv;cases hv
    obtain⟨r0,hr0⟩:=hs;refine⟨St _ _ ca3.hC,λy r e=>?_,λy e=>?_,by rw[Qf];exact QM lk (Nat.le_add_right _ _)⟩
    ·rw[eB]at e
     cases c:cK (evs st (xs.take j)++((st h).take i).map λp=>(p.2,(p.1,h))) y with
     | some r' =>
      rw[c]at e;cases e;obtain⟨t',a1,a2⟩:=ca3.some y _ c;exact⟨t',a1,St _ _ a2⟩
     | none =>
     rw[c]at e;by_cases cy:p.2=y
     ·rw[<-cy,hr0]at c;cases c
     simp[cy]at e
    rw[eB]at e
    cases c:cK (evs st (xs.take j)++((st h).take i).map λp=>(p.2,(p.1,h))) y with
    | some r'=>rw[c]at e;cases e
    | none=>exact ca3.none y c
   have upd3:∀b u,upd H' t (.tup [.str p.1,.str h]) b=some u->b≠C->upd (upd H' t (.tup [.str p.1,.str h])) C (.dK (bB kvs (Sum.inr p.2) (.ref t))) b=some u:=λb u e n=>by rw[ao n];exact e
   refine⟨bB kvs (Sum.inr p.2) (.ref t),_,_,rfl,λb u e n=>upd3 _ _ (St _ _ (o3 b u e n)) n,?_⟩;rw[hev];refine⟨ai,λy r e=>?_,λy e=>?_,?_⟩
   ·rw[eB]at e
    cases c:cK (evs st (xs.take j)++((st h).take i).map λp=>(p.2,(p.1,h))) y with
    | some r' =>
     rw[c]at e;cases e;obtain⟨t',a1,a2⟩:=ca3.some y _ c;refine⟨t',?_,upd3 _ _ (St _ _ a2) (λzz=>by rw[zz,ca3.hC]at a2;cases a2)⟩;rw[cV,QC (λzz=>by rw[zz,hn]at a1;cases a1)];exact a1
    | none =>
    rw[c]at e;by_cases cy:p.2=y
    ·subst cy;simp at e;subst e;exact⟨t,by rw[cV,QB rfl],upd3 _ _ ai tC⟩
    simp[cy]at e
   ·rw[eB]at e
    cases c:cK (evs st (xs.take j)++((st h).take i).map λp=>(p.2,(p.1,h))) y with
    | some r'=>rw[c]at e;cases e
    | none =>
    rw[c]at e;by_cases cy:p.2=y
    ·simp[cy]at e
    rw[cV,QC (λzz=>cy (Sum.inr.inj zz).symm)];exact ca3.none y c
   rw[cW _ hn,Qf,Qf];show kvs.length+1<=_+1;omega
  obtain⟨kvs,x5,x6,rfl,o3,ca3⟩:=pv;refine⟨kvs,_,_,_,rfl,o3,?_⟩;rw[lvs,Qr (Qg _)]at ca3
  have e:evs st (xs.take (j+1))=evs st (xs.take j)++(st h).map λp=>(p.2,(p.1,h)):=by
   unfold evs;rw[QV,hx,List.flatMap_append];simp
  rw[e];exact ca3
 obtain⟨kvs,x4,x5,x6,rfl,o2,ca⟩:=pv;refine⟨o2 F _ hF2 FC,?_⟩;rw[lfd,Qr (Qg _)]at ca;have hC3:back H1 F H' C=some (.dK kvs):=by rw[bi FC.symm];exact ca.hC
 have ca':CAt (back H1 F H') C kvs (evs st xs):=⟨hC3,λy r e=>by
  obtain⟨t,a1,a2⟩:=ca.some y r e;refine⟨t,a1,?_⟩;rw[bi (λzz=>by rw[zz,o2 F _ hF2 FC]at a2;cases a2)]
  exact a2,ca.none,ca.len⟩
 have S3:aw H (back H1 F H'):=λb u e=>by
  have nC:b≠C:=aB e hC;by_cases cF:b=F
  ·subst cF;rw[de];exact S1 _ _ e
  rw[bi cF];exact o2 b u (by rw[h2 b cF];exact S1 _ _ e) nC
 generalize back H1 F H'=H3 at *;kt_k;refine aY (i_lst (av ⟨by simp[sizeLine],λN hN=>aq ?_⟩));ctx_has H3 N H4 S4 q4 aJ hN;kt_k;refine aY (ad rfl (aq ?_));kt_k;let I10:IvF:=λm σ' H'=>∃(y:Str) (ys ms:List Str) (x5 x6:Option V),σ'=[some (.ref F),some (.str z),some (.str x),some (.ref C),some (.str y),x5,x6,some (.ref N)]/\m=ms.length/\(∀b u,H3 b=some u->H' b=some u)/\H' N=some (.lst (ys.map V.str))/\Path st xs z y ms/\ns=ms++ys.reverse;refine⟨I10,⟨_,x,[],ns,_,_,rfl,rfl,S4,q4,pth,by simp⟩,λm σ' H' pv=>?_⟩;obtain⟨y,ys,ms,x5,x6,rfl,rfl,o4,hN4,py,ens⟩:=pv;have lens:ns.length=ms.length+ys.length:=by rw[ens,Qf,List.length_reverse]
 refine aQ (aA (ad rfl (ad rfl (i_ne rfl ⟨_,rfl,?_⟩))));by_cases cy:y=z
 ·subst cy;refine ifF (by rw[QJ rfl];rfl) ?_;have e0:=py.start;subst e0;rw[Xo]at ens;refine bE (xh (af (ad rfl (av ⟨N,_,rfl,SqL.of hN4,λp hp=>?_⟩))));have Sf:aw H (upd H' p (.lst (ys.map V.str).reverse)):=λb u e=>ap hp _ _ (o4 _ _ (S3 _ _ e))
  have p0:H p=none:=by
   cases e:H p with
   | none=>rfl
   | some u=>rw[o4 _ _ (S3 _ _ e)]at hp;cases hp
  exact k p _ Sf p0 (by rw[ai,ens,List.map_reverse])
 refine ifT (by rw[Qx (λzz=>cy (V.str.inj zz))];rfl) ⟨_,λ_ _ h=>h,?_⟩
 cases py with
 | nil=>exact absurd rfl cy
 | @snoc _ h nm ms' _ cm ph =>
 obtain⟨t,a1,a2⟩:=ca'.some y _ cm
 have dgC:∀{H5:Hp},H5 C=some (.dK kvs)->bz H5 C (.str y) (some (.ref t)):=λ{H5} e=>by
  have:=bz.k (k:=Sum.inr y) e;rw[a1]at this;exact this
 have hCt:=o4 _ _ hC3;have ht:=o4 _ _ a2;have tN:t≠N:=λzz=>by rw[zz,hN]at a2;cases a2
 have CN:C≠N:=λzz=>by rw[zz,hN]at hC3;cases hC3
 rw[Qf]at lens;kt_k;refine s_drop (i_bm (ad rfl ⟨i_tyL hN4,af (aA (i_dget (ad rfl (ad rfl ⟨C,_,rfl,dgC hCt,i_c (bg ht rfl (av (hU hN4 (by rw[Qa];simp at lens;omega) ?_)))⟩))))⟩));have hC5:upd H' N (.lst (ys.map V.str++[.str nm])) C=some (.dK kvs):=by rw[ao CN];exact hCt
 have ht5:upd H' N (.lst (ys.map V.str++[.str nm])) t=some (.tup [.str nm,.str h]):=by rw[ao tN];exact ht
 refine aY (aA (i_dget (ad rfl (ad rfl ⟨C,_,rfl,dgC hC5,i_c (bg ht5 rfl (aq ?_))⟩))));refine⟨ms'.length,by rw[Qf];simp,h,ys++[nm],ms',_,_,rfl,rfl,λb u e=>?_,by rw[ai,Qz];rfl,ph,?_⟩
 ·rw[ao (λzz=>by rw[zz,hN]at e;cases e)];exact o4 _ _ e
 rw[ens,List.reverse_append];simp
end
theorem jf:∀{ks:List Key},(∀k∈ks,∃y:Str,k=Sum.inr y)->∃xs:List Str,ks=az xs
 | [],_=>⟨[],rfl⟩
 | k::ks,h=>by
  obtain⟨y,rfl⟩:=h k (by simp);obtain⟨xs,rfl⟩:=jf λk hk=>h k (QG _ hk);exact⟨y::xs,rfl⟩
theorem bq {k:Key}:(az xs)[i]?=some k↔∃x,xs[i]?=some x/\k=Sum.inr x:=by
 unfold az;rw[Qm]
 cases xs[i]? with
 | none=>simp
 | some x=>simp[eq_comm]
theorem ki:∀{xs ys:List Str},az xs=az ys->xs=ys
 | [],[],_=>rfl
 | [],y::ys,h=>by cases h
 | x::xs,[],h=>by cases h
 | x::xs,y::ys,h=>by
  unfold az at h;rw[QH,QH]at h;injection h with h1 h2;rw[Sum.inr.inj h1,ki (xs:=xs) (ys:=ys) h2]
structure Met (ins:List Str) (gs:C4) (z:Str) (xs:List Str):Prop where
 bfs:az xs=Bf.bfs (nxK (stN ins gs)) (Sum.inr z) xs.length
 st:∀x∈xs,StOk (aj ins gs).length x
theorem sV {k:Key}:k∈nxK (stN ins gs) (Sum.inr h)↔∃p∈ak ins gs h,k=Sum.inr p.2:=by
 unfold nxK stN bO;rw[QS]
 constructor
 ·intro q;obtain⟨p,hp,e⟩:=Qp.mp q;exact⟨p,hp,e.symm⟩
 rintro⟨p,hp,rfl⟩;exact Qp.mpr ⟨p,hp,rfl⟩
variable {ins:List Str} {gs:C4} {z:Str} {xs:List Str}
section
theorem Met.len (m:Met ins gs z xs):(Bf.bfs (nxK (stN ins gs)) (Sum.inr z) xs.length).length=xs.length:=by rw[<-m.bfs];unfold az;rw[Qa]
theorem Met.nd (m:Met ins gs z xs):xs.Nodup:=by
 have:=Bf.bS (nx:=nxK (stN ins gs)) (s:=(Sum.inr z:Key)) xs.length;rw[<-m.bfs]at this;unfold az at this;exact(List.pairwise_map.mp this).imp λh e=>h (by rw[e])
theorem Met.zero (m:Met ins gs z xs):xs[0]?=some z:=by
 have:=Bf.nz (nx:=nxK (stN ins gs)) (s:=(Sum.inr z:Key)) xs.length;rw[<-m.bfs]at this;obtain⟨x,h1,h2⟩:=bq.mp this;cases h2;exact h1
theorem Met.pred (m:Met ins gs z xs) {j:Nat} {x:Str} (hj:0<j) (e:xs[j]?=some x):∃i h p,i<j/\xs[i]?=some h/\p∈ak ins gs h/\p.2=x:=by
 obtain⟨i,k,h1,_,h3,h4⟩:=Bf.jx (nx:=nxK (stN ins gs)) (s:=(Sum.inr z:Key)) xs.length j (Sum.inr x) hj (by rw[<-m.bfs];exact bq.mpr ⟨x,e,rfl⟩);rw[<-m.bfs]at h3;obtain⟨h,e1,rfl⟩:=bq.mp h3;obtain⟨p,hp,e2⟩:=sV.mp h4;exact⟨i,h,p,h1,e1,hp,(Sum.inr.inj e2).symm⟩
theorem Met.closed (m:Met ins gs z xs) {h:Str} (hh:h∈xs) {p:Str × Str} (hp:p∈ak ins gs h):p.2∈xs:=by
 obtain⟨i,hi,e⟩:=Ql.mp hh;have:=Bf.jy (nx:=nxK (stN ins gs)) (s:=(Sum.inr z:Key)) (n:=xs.length) (i:=i) hi (by rw[<-m.bfs];exact bq.mpr ⟨h,by rw[Qb hi,e],rfl⟩) (Sum.inr p.2) (sV.mpr ⟨p,hp,rfl⟩);rw[<-m.bfs]at this;unfold az at this;obtain⟨y,hy,e⟩:=Qp.mp this;cases e;exact hy
theorem Met.one {ys:List Str} (m:Met ins gs z xs) (m':Met ins gs z ys):xs=ys:=by
 have e:=Bf.vh m.len m'.len;have h:=m.bfs;rw[e,<-m'.bfs]at h;exact ki h
theorem ju {st:Str->List (Str × Str)}:∀{xs:List Str} {i:Nat} {h:Str} {p:Str × Str},xs[i]?=some h->p∈st h->∃i' h' nm,i'<=i/\xs[i']?=some h'/\cK (evs st xs) p.2=some (nm,h')
 | [],_,_,_,e,_=>by simp at e
 | x0::xs,i,h,p,e,hp=>by
  have split:evs st (x0::xs)=((st x0).map λp=>(p.2,(p.1,x0)))++evs st xs:=rfl
  cases q:((st x0).map λp=>(p.2,(p.1,x0))).find? λe=>e.1==p.2 with
  | some r =>
   have hm:=List.mem_of_find?_eq_some q;obtain⟨p',_,rfl⟩:=Qp.mp hm;refine⟨0,x0,p'.1,QO _,rfl,?_⟩;unfold cK;rw[split,List.find?_append,q];rfl
  | none =>
  cases i with
  | zero =>
   simp at e;subst e;have:=List.find?_eq_none.mp q (p.2,(p.1,x0)) (Qp.mpr ⟨p,hp,rfl⟩);simp at this
  | succ i =>
  obtain⟨i',h',nm,a,b,c⟩:=ju (xs:=xs) (i:=i) (by simpa using e) hp;refine⟨i'+1,h',nm,by omega,by simpa using b,?_⟩;unfold cK at c ⊢;rw[split,List.find?_append,q,Option.none_or];exact c
theorem Met.path (m:Met ins gs z xs):∀(j:Nat) (x:Str),xs[j]?=some x->∃ns,Path (ak ins gs) xs z x ns/\ns.length<=j:=by
 intro j
 induction j using Nat.strongRecOn with
 | _ j ih =>
 intro x e;by_cases hj:j=0
 ·subst hj;rw[m.zero]at e;cases e;exact⟨[],.nil,Qg _⟩
 obtain⟨i,h,p,h1,h2,h3,rfl⟩:=m.pred (by omega) e;obtain⟨i',h',nm,a,b,c⟩:=ju h2 h3;obtain⟨ns,pn,ln⟩:=ih i' (by omega) h' b;refine⟨ns++[nm],.snoc (λq=>?_) c pn,by rw[Qf];simp;omega⟩;rw[q]at e;have e0:=m.zero;have hl:=(Qc.mp e).1;have:=(List.getElem?_inj (i:=0) (j:=j) (by omega) m.nd).mp (by rw[e0,e]);omega
end
def uc (ins:List Str) (gs:C4) (z:Str) (r:Option (List Str × Str × Str)):Prop:=∃xs,Met ins gs z xs/\match r with
 | none=>∀h∈xs,(br ins gs h).head?=none
 | some (ns,c,b)=>∃(j:Nat) (h:Str),xs[j]?=some h/\(∀j'<j,∀h',xs[j']?=some h'->(br ins gs h').head?=none)/\(br ins gs h).head?=some (c,b)/\Path (ak ins gs) xs z h ns
def Bd (H H':Hp):Option (List Str × Str × Str)->V->Prop
 | none,v=>v=.non
 | some (ns,c,b),v=>∃t l,v=.ref t/\H t=none/\H l=none/\H' t=some (.tup [.ref l,.str c,.str b])/\H' l=some (.lst (ns.map V.str))
def rM (TL:Addr):Sp:=λvs H Q _=>∃a li lg ins gvs gs z,vs=[.ref a,.str z]/\NAt H a li lg ins gvs gs/\NetOk ins gs/\StOk (aj ins gs).length z/\d6 TL du H /\
 ∀r v H',Tk TL H H'->uc ins gs z r->Bd H H' r v->Q v H'
section
theorem jR:FnScope ["net", "standing", "found", "here", "pair"] ["net", "standing"] (au (top 24)):=by fin2
theorem uQ {TL:Addr} {f:Addr} {fd:FuncData} (Fu:Fun K "first_race" "first_race" (top 24) f fd) (T:Txt K mg TT) (f_check_standing:Fn P w K mg base "check_standing" ["net", "thing"] 3 (gu .non)) (f_steps_found:Fn P w K mg base "steps_found" ["net", "standing"] 15 (cN TL)) (f_first_calmed:Fn P w K mg base "first_calmed" ["steps", "here", "inputs"] 2 nL) (f_order_to:Fn P w K mg base "order_to" ["found", "start", "other"] 1 rN) :
  FnOk P w K mg base CX0 16 f fd ["net", "standing"] (rM TL):=by
 have S:=jR;refine Fu.ok S (by room) (λcdv A outer s H vs Q E hr h=>?_);obtain⟨a,li,lg,ins,gvs,gs,z,rfl,NA,ok,st,tb,k⟩:=h;have hu:=cf hr;refine'⟨?_,?bb,?_⟩
 case bb =>
  walk_at "b";exact(bU (aE f_check_standing hr (aa (pv 0) (aa (pv 1) ag ae) ae)));exact aH 2 S.nd (aE f_steps_found hr (aa (pv 0) (aa (pv 1) ag ae) ae));refine' nR ?_;rotate_left 1;walk_at "f";exact(dQ (pv 2));exact(bG 3 S.nd);walk_at "p";exact aH 4 S.nd (aE f_first_calmed hr (aa (pv 2) (aa (pv 3) (aa (aC aG (pv 0) am) ag) ae) ae));exact(aF lA (pv 4) bX rfl);exact(aD (pe_tup (aa (aE f_order_to hr (aa (pv 2) (aa (pv 1) (aa (pv 3) ag ae) ae) ae)) (aa (aC aG (pv 4) am) (aa (aC aG (pv 4) am) ag)) se_call)));exact(aD bX)
 x_go;lk;refine⟨a,li,lg,ins,gvs,gs,z,rfl,NA,ok,st,λH0 S0=>?_⟩;have NA0:=NA.same S0;have tb0:=c7 tb S0;lk;refine⟨a,li,lg,ins,gvs,gs,z,rfl,NA0,ok,st,tb0,λF as n H1 t1 hF0 ln las hF1 sts=>?_⟩;have w11:(aj ins gs).length<=11:=by rw[bP];have:=ok.i4;have:=ok.g7;omega
 obtain⟨xs,exs⟩:=jf (ks:=Bf.bfs (nxK (stN ins gs)) (Sum.inr z) n) λk hk=>by
  obtain⟨y,e,_⟩:=dO st (Bf.b9 n k hk);exact⟨y,e⟩
 have lxs:xs.length=n:=by rw[<-ln,exs];unfold az;rw[Qa]
 have met:Met ins gs z xs:=⟨by rw[lxs];exact exs.symm,λx hx=>by
  obtain⟨y,e,sy⟩:=dO st (Bf.b9 n (Sum.inr x) (by rw[exs];exact Qp.mpr ⟨x,hx,rfl⟩));cases e
  exact sy⟩
 have few:xs.length<=2048:=by
  have:=gg w11 (xs:=az xs) (by rw[<-exs];exact Bf.bS n) λx hx=>by
   obtain⟨y,hy,rfl⟩:=Qp.mp hx;exact⟨y,rfl,met.st y hy⟩
  unfold az at this;rwa [Qa]at this
 rw[exs]at hF1 sts;have sts:∀(i:Nat) h b,xs[i]?=some h->as[i]?=some b->be H1 b (bO (ak ins gs h)):=λi h b e1 e2=>sts i (Sum.inr h) b (bq.mpr ⟨h,e1,rfl⟩) e2;have NA1:NAt H1 a li lg ins gvs gs:=NA0.mono (t1.lst tb0) (t1.tup tb0);kt_k;kt_k;refine rP (a:=F) (u:=.dK (fdK (az xs) as)) (.inl hF1) trivial λob=>?_;have h2:∀b,b≠F->upd H1 F (.frz ob (.dK (fdK (az xs) as))) b=H1 b:=λb n=>ao n;have hF2:upd H1 F (.frz ob (.dK (fdK (az xs) as))) F=some (.frz ob (.dK (fdK (az xs) as))):=ai;generalize upd H1 F (.frz ob (.dK (fdK (az xs) as)))=H2 at *;have l2:∀b ys,H1 b=some (.lst ys)->H2 b=some (.lst ys):=λb ys e=>by rw[h2 b (λzz=>by rw[zz,hF1]at e;cases e)];exact e
 have t2:∀b ys,H1 b=some (.tup ys)->H2 b=some (.tup ys):=λb ys e=>by rw[h2 b (λzz=>by rw[zz,hF1]at e;cases e)];exact e
 have NA2:=NA1.mono l2 t2
 have sts2:∀(i:Nat) h b,xs[i]?=some h->as[i]?=some b->be H2 b (bO (ak ins gs h)):=λi h b e1 e2=>by
  obtain⟨vs,v1,v2⟩:=sts i h b e1 e2;exact⟨vs,l2 _ _ v1,bM (λv s ⟨b,e,q⟩=>⟨b,e,t2 _ _ q⟩) v2⟩
 have fa:FAt H2 F ins gs (λy=>y∈xs):=λy hy=>by
  obtain⟨i,hi,e⟩:=Ql.mp hy;have e1:xs[i]?=some y:=by rw[Qb hi,e]
  have hia:i<as.length:=by omega
  have hk:(fdK (az xs) as)[i]?=some (Sum.inr y,.ref as[i]):=by
   have hz:((az xs).zip as)[i]?=some (Sum.inr y,as[i]):=List.getElem?_zip_eq_some.mpr ⟨bq.mpr ⟨y,e1,rfl⟩,Qb hia⟩;unfold fdK;rw[Qm,hz];rfl
  exact⟨as[i],.inl ⟨_,Sum.inr y,.inr ⟨ob,hF2⟩,rfl,(bV (dw met.nd) hk).symm⟩,sts2 i y _ e1 (Qb hia)⟩
 have F0:H F=none:=by
  cases e:H F with
  | none=>rfl
  | some u=>rw[S0 _ _ e]at hF0;cases hF0
 have t01:Tk TL H H1:=(Tk.of tb S0).trans t1
 have fin:∀H',aw H2 H'->Tk TL H (back H1 F H'):=λH' S'=>by
  have bk:∀{b u},H1 b=some u->back H1 F H' b=some u:=λ{b u} e=>by
   by_cases c:b=F
   ·subst c;rw[de];exact e
   rw[bi c];exact S' b u (by rw[h2 b c];exact e)
  refine⟨λb u e n=>bk (t01.old b u e n),?_⟩;rcases t01.tab with e|⟨c,e,q⟩
  ·exact .inl (bk e)
  exact .inr ⟨c,bk e,bk q⟩
 have free2:∀{b:Addr},H2 b=none->H b=none:=λ{b} e=>by
  cases eb:H b with
  | none=>rfl
  | some u =>
  exfalso;by_cases c:b=TL
  ·obtain⟨ps,e2⟩:=rn t01.tab;have:b≠F:=λzz=>by rw[zz,F0]at eb;cases eb
   rw[h2 b this,c,e2]at e;cases e
  have:b≠F:=λzz=>by rw[zz,F0]at eb;cases eb
  rw[h2 b this,t01.old _ _ eb c]at e;cases e
 have lfd:(fdK (az xs) as).length=xs.length:=by rw[lK (by unfold az;rw[Qa];omega)];omega
 refine s_for (fe (ad rfl ⟨F,ob,_,rfl,hF2,?_⟩));let I11:IvF:=λj σ' H'=>(∃x3 x4:Option V,σ'=[some (.ref a),some (.str z),some (.ref F),x3,x4])/\aw H2 H'/\∀j'<j,∀h,xs[j']?=some h->(br ins gs h).head?=none;refine jg I11 ⟨⟨_,_,rfl⟩,aw.refl _,λj' h=>absurd h (Nat.not_lt_zero _)⟩ (λj σ' H' _ pv=>pv.2.1 _ _ hF2) (λj ky vl σ' H' hj pv=>?_) (λσ' H' pv=>?_)
 ·obtain⟨⟨x3,x4,rfl⟩,S',no⟩:=pv;obtain⟨h,b,hx,hb,rfl,rfl⟩:=gK hj;have NA':=NA2.same S';have ha':=NA'.ha;have hm:=Qh hx;refine aq ?_;lk;refine⟨F,li,ins,gs,_,h,rfl,fa.same S',hm,λy hy p hp=>met.closed hy hp,NA'.hi,ok,λv H3 S3 cv=>?_⟩;have S23:=S'.trans S3;kt_k
  cases hc:(br ins gs h).head? with
  | none =>
   rw[hc]at cv;have cv:v=.non:=cv;subst cv;lk;refine⟨rfl,_,rfl,?_⟩;refine ifF rfl ?_;lk;refine⟨⟨_,_,rfl⟩,S23,λj' hj' h' e=>?_⟩;by_cases c:j'<j
   ·exact no j' c h' e
   have:j'=j:=by omega
   subst this;rw[hx]at e;cases e;exact hc
  | some p =>
  rw[hc]at cv;obtain⟨t,rfl,ht⟩:=cv;obtain⟨ns,pth,lns⟩:=met.path j h hx;have hjx:=(Qc.mp hx).1;lk;refine⟨rfl,_,rfl,?_⟩;refine ifT (by rw[Qx (λz=>nomatch z)];rfl) ?_;refine bE (i_tup (af (aI (af (ad rfl (af (ad rfl (af (ad rfl (av ?_)))))))))) ;refine⟨F,as,ak ins gs,xs,z,h,ns,rfl,.inr ⟨ob,S23 _ _ hF2⟩,by omega,few,met.nd,λh=>QM (bQ ins gs h) ok.g7,λi h' b' e1 e2=>(sts2 i h' b' e1 e2).same S23,pth,by omega,λl H4 S4 hl0 hl4=>?_⟩;have ht4:=S4 _ _ ht;refine af (aA (ad rfl (i_c (bg ht4 rfl (af (aA (ad rfl (i_c (bg ht4 rfl (av ⟨by simp[sizeLine],λt' ht'=>?_⟩))))))))));have S24:=S23.trans S4;ctx_has H4 t' H5 S5 q5 aJ ht';have S25:=S24.trans S5
  have nl:H2 l=none:=by
   cases e:H2 l with
   | none=>rfl
   | some u=>rw[S23 _ _ e]at hl0;cases hl0
  have nt:H2 t'=none:=by
   cases e:H2 t' with
   | none=>rfl
   | some u=>rw[S24 _ _ e]at ht';cases ht'
  have lF:l≠F:=λzz=>by rw[zz,hF2]at nl;cases nl
  have tF:t'≠F:=λzz=>by rw[zz,hF2]at nt;cases nt
  refine⟨S25 _ _ hF2,k (some (ns,p.1,p.2)) _ _ (fin _ S25) ⟨xs,met,j,h,hx,no,hc,pth⟩ ⟨t',l,rfl,free2 nt,free2 nl,by rw[bi tF];exact q5,by rw[bi lF];exact S5 _ _ hl4⟩⟩
 obtain⟨⟨x3,x4,rfl⟩,S',no⟩:=pv;rw[lfd]at no;refine⟨S' _ _ hF2,?_⟩;lk;refine k none _ _ (fin _ S') ⟨xs,met,λh hh=>?_⟩ rfl;obtain⟨i,hi,e⟩:=Ql.mp hh;exact no i hi h (by rw[Qb hi,e])
end
theorem xn (nd:xs.Nodup) (e1:xs[i]?=some x) (e2:ls[i]?=some b):aU (fdK (az xs) ls) (Sum.inr x)=some (.ref b):=by
 refine bV (dw nd) (i:=i) ?_;have hz:((az xs).zip ls)[i]?=some (Sum.inr x,b):=List.getElem?_zip_eq_some.mpr ⟨bq.mpr ⟨x,e1,rfl⟩,e2⟩;unfold fdK;rw[Qm,hz];rfl
theorem tz {t:TE} {u:HO} (r:Rd H a u) (f:Fz u) (q:∀o,t U (upd H a (.frz o u)) λv H'=>H' a=some (.frz o u)/\Q v (back H a H')):vA t U H Q:=⟨a,u,r,f,q⟩
def SD (H:Hp) (F:Addr) (ins:List Str) (gs:C4) (xs:List Str):Prop:=∃as:C3,Rd H F (.dK (fdK (az xs) as))/\as.length=xs.length/\∀(i:Nat) x b,xs[i]?=some x->as[i]?=some b->be H b (bO (ak ins gs x))
theorem pc {u:HO} (S:aw H H') (r:Rd H a u):Rd H' a u:=by
 rcases r with r|⟨o,r⟩
 ·exact .inl (S _ _ r)
 exact .inr ⟨o,S _ _ r⟩
theorem fq (h:Rd H F (.dK (fdK (az xs) as))) (nd:xs.Nodup) (e1:xs[i]?=some x) (e2:as[i]?=some b):bz H F (.str x) (some (.ref b)) :=
 .inl ⟨_,Sum.inr x,h,rfl,(xn nd e1 e2).symm⟩
variable {H H':Hp} {F:Addr} {ins:List Str} {gs:C4} {xs:List Str}
section
theorem SD.fat (h:SD H F ins gs xs) (nd:xs.Nodup):FAt H F ins gs (·∈xs):=λy hy=>by
 obtain⟨as,r,las,sts⟩:=h;obtain⟨i,hi,e⟩:=Ql.mp hy;have e1:xs[i]?=some y:=by rw[Qb hi,e]
 obtain⟨b,e2⟩:∃b,as[i]?=some b:=⟨_,Qb (by omega)⟩;exact⟨b,fq r nd e1 e2,sts i y b e1 e2⟩
theorem SD.same (S:aw H H') (h:SD H F ins gs xs):SD H' F ins gs xs:=let ⟨as,r,l,s⟩:=h;⟨as,pc S r,l,λi x b e1 e2=>(s i x b e1 e2).same S⟩
variable {kvs:List (Key × V)}
theorem eS (r:Rd H F (.dK kvs)) {b:Addr} {o:HO} (e:H b=some o) (n1:∀k,o≠.dK k) (n2:∀ob u,o≠.frz ob u):b≠F:=λz=>by
 rcases r with r|⟨ob,r⟩
 ·rw[z,r]at e;exact n1 _ (QT e).symm
 rw[z,r]at e;exact n2 _ _ (QT e).symm
theorem SD.frz {o:Obj} (h:SD H F ins gs xs) (r:Rd H F (.dK kvs)) (e:∀{as:C3},Rd H F (.dK (fdK (az xs) as))->kvs=fdK (az xs) as):SD (upd H F (.frz o (.dK kvs))) F ins gs xs:=by
 obtain⟨as,r2,las,sts⟩:=h;refine⟨as,.inr ⟨o,by rw[<-e r2];exact ai⟩,las,λi x b e1 e2=>?_⟩;obtain⟨vs,h1,h2⟩:=sts i x b e1 e2;refine⟨vs,by rw[ao (eS r h1 (λ_ z=>nomatch z) λ_ _ z=>nomatch z)];exact h1,bM (λv s ⟨c,ec,q⟩=>⟨c,ec,?_⟩) h2⟩;rw[ao (eS r q (λ_ z=>nomatch z) λ_ _ z=>nomatch z)];exact q
theorem wG {u v:HO} {a:Addr} (r:Rd H a u) (f:Fz u) (r2:Rd H a v) (f2:Fz v):u=v:=by
 rcases r with r|⟨o,r⟩ <;> rcases r2 with r2|⟨o2,r2⟩ <;> rw[r]at r2 <;> cases r2 <;> first|rfl|exact f.elim|exact f2.elim
theorem fS {o:Obj} {u:HO} (r:Rd H F u) (S:aw (upd H F (.frz o u)) H'):aw H (back H F H'):=λb w e=>by
 by_cases c:b=F
 ·subst c;rw[de];exact e
 rw[bi c];exact S _ _ (by rw[ao c];exact e)
end
def nv (ins:List Str) (gs:C4) (xs:List Str):Bool:=xs.all λh=>decide ((br ins gs h).head?=none)
def gk (ins:List Str) (gs:C4) (xs:List Str):Bool:=xs.all λh=>(ak ins gs h).all λp=>decide (p.2∈xs)
def mx:Sp:=λvs H Q _=>∃(F li:Addr) (ins:List Str) (gs:C4) (xs:List Str),vs=[.ref F,.ref li]/\SD H F ins gs xs/\xs.Nodup/\xs.length<=5000/\gk ins gs xs=true/\H li=some (.lst (ins.map V.str))/\NetOk ins gs/\∀H',aw H H'->Q (.bl (nv ins gs xs)) H'
theorem hZ:gk ins gs xs=true↔∀h∈xs,∀p∈ak ins gs h,p.2∈xs:=by
 unfold gk;simp[Q0]
section
theorem nO:FnScope ["steps", "inputs"] ["steps", "inputs"] (au (top 23)):=by fin2
theorem qt {f:Addr} {fd:FuncData} (Fu:Fun K "is_calm" "is_calm" (top 23) f fd) (T:Txt K mg TT) (f_first_calmed:Fn P w K mg base "first_calmed" ["steps", "here", "inputs"] 2 nL):FnOk P w K mg base CX0 3 f fd ["steps", "inputs"] mx:=by
 have S:=nO;refine Fu.ok S (by room) (λcdv A outer s H vs Q E hr h=>?_);obtain⟨F,li,ins,gs,xs,rfl,sd,nd,few,cl,hli,ok,k⟩:=h;have hu:=cf hr;refine⟨_,(aS (aD (aV (ny rfl) (by rfl) T.n_all PyProof.Rows.boot_all (aa (nV (i6 "here" [("steps", 0),("inputs", 1)] (dQ (pv 0)) (λ_ _ _ _=>(bH fO (aE f_first_calmed hr (aa (pv 1) (aa (pv 0) (aa (pv 2) ag ae) ae) ae)) bX rfl)))) ag)))),?_⟩;x_go;have cl:=hZ.mp cl;obtain⟨as,r,las,sts⟩:=id sd;refine bE (i_cb (af (tz r trivial λo=>?_)))
 have sd2:SD (upd H F (.frz o (.dK (fdK (az xs) as)))) F ins gs xs:=sd.frz r λr2=>by
  injection wG r trivial r2 trivial
 have hF2:upd H F (.frz o (.dK (fdK (az xs) as))) F=some (.frz o (.dK (fdK (az xs) as))):=ai;have bk:∀{H':Hp},aw (upd H F (.frz o (.dK (fdK (az xs) as)))) H'->aw H (back H F H'):=λS=>fS r S;have hli2:upd H F (.frz o (.dK (fdK (az xs) as))) li=some (.lst (ins.map V.str)):=by rw[ao (eS r hli (λ_ z=>nomatch z) λ_ _ z=>nomatch z)];exact hli
 generalize upd H F (.frz o (.dK (fdK (az xs) as)))=H2 at *;have lk:(fdK (az xs) as).length=xs.length:=by unfold fdK az;simp[las]
 refine i_comp (fe (ad rfl ⟨F,o,_,rfl,hF2,λL hL=>?_⟩));let I12:IvC:=λm H' ys=>aw H2 H'/\H' L=some (.lst ys)/\ys=((xs.take m).map λh=>decide ((br ins gs h).head?=none)).map V.bl;refine gN I12 ⟨ap hL,ai,rfl⟩ (λm H' ys p=>⟨p.2.1,p.1 _ _ hF2⟩) (λm k' v H' ys e p=>?_) (λH' ys p=>?_)
 ·obtain⟨Sm,hd,rfl⟩:=p;obtain⟨x,b,e1,e2,rfl,rfl⟩:=gK e;have hm:m<xs.length:=(Qc.mp e1).1;have hx:=Qh e1;refine aq ⟨by repeat' (first|exact trivial|refine⟨rfl,?_⟩),i_yes (iteT ?_)⟩;refine aA (aI (af (ad rfl (af (ad rfl (af (ad rfl (av ?_))))))));refine⟨F,li,ins,gs,(·∈xs),x,rfl,(sd2.same Sm).fat nd,hx,cl,Sm _ _ hli2,ok,λv H3 S3 cv=>?_⟩;refine i_c ⟨rfl,?_⟩
  have dv:decide (v=V.non)=decide ((br ins gs x).head?=none):=by
   cases hc:(br ins gs x).head? with
   | none=>rw[hc]at cv;cases cv;rfl
   | some p=>rw[hc]at cv;obtain⟨t,rfl,_⟩:=cv;rfl
  refine cw.mk (S3 _ _ hd) (by rw[lk];exact hm) (by rw[Qa,Qa,Qq];omega) ⟨bh (Sm.trans S3) hL,ai,?_⟩;rw[QV,e1,Option.toList_some,Qz,Qz,dv];rfl
 obtain⟨Sm,hd,rfl⟩:=p;rw[lk,Qr (Qg _)]at hd;have hLF:L≠F:=λz=>by rw[z,hF2]at hL;cases hL
 refine⟨Sm _ _ hF2,av ⟨L,_,rfl,SqL.of (by rw[bi hLF];exact hd),?_⟩⟩;rw[List.all_map];exact k _ (bk Sm)
end
theorem tD {ta:TA} (q:ta U H λvs H1=>∃l xs ps,vs=[.ref l]/\SqL K H1 l xs/\xs.length<10000/\Paired (nF H1) xs ps/\∀d,H1 d=none->Q (.ref d) (upd H1 d (.dK (bw [] (cI ps))))):kM K ta U H Q:=q
noncomputable def Bm (ss:List Str):Bool:=@decide (ss.Nodup/\ss.Pairwise leT) (Classical.propDecidable _)
noncomputable def Bo (n:Nat) (ss:List Str):Bool:=ss.all (stB n)&&Bm ss
def gW (TL:Addr):Sp:=λvs H Q _=>∃a li lg ins gvs gs z,vs=[.ref a,.str z]/\NAt H a li lg ins gvs gs/\NetOk ins gs/\StOk (aj ins gs).length z/\d6 TL du H /\
 ∀(xs:List Str) v (H':Hp),Tk TL H H'->Met ins gs z xs->(if nv ins gs xs=true then ∃(p:Addr) (ss:List Str),v=.ref p/\H p=none/\ss.Perm xs/\ss.Pairwise leT/\H' p=some (.lst (ss.map V.str)) else v=.non)->Q v H'
noncomputable def showsB (ins:List Str) (gs:C4) (z:Str) (ss:List Str):Bool:=Bo (aj ins gs).length ss&&decide (z∈ss)&&gk ins gs ss&&nv ins gs ss
theorem lC (ok:NetOk ins gs) (st:StOk (aj ins gs).length z) (ln:(Bf.bfs (nxK (stN ins gs)) (Sum.inr z) n).length=n):∃xs,Bf.bfs (nxK (stN ins gs)) (Sum.inr z) n=az xs/\xs.length=n/\Met ins gs z xs/\xs.length<=2048:=by
 have w11:(aj ins gs).length<=11:=by rw[bP];have:=ok.i4;have:=ok.g7;omega
 obtain⟨xs,exs⟩:=jf (ks:=Bf.bfs (nxK (stN ins gs)) (Sum.inr z) n) λk hk=>by
  obtain⟨y,e,_⟩:=dO st (Bf.b9 n k hk);exact⟨y,e⟩
 have lxs:xs.length=n:=by rw[<-ln,exs];unfold az;rw[Qa]
 have met:Met ins gs z xs:=⟨by rw[lxs];exact exs.symm,λx hx=>by
  obtain⟨y,e,sy⟩:=dO st (Bf.b9 n (Sum.inr x) (by rw[exs];exact Qp.mpr ⟨x,hx,rfl⟩));cases e
  exact sy⟩
 refine⟨xs,exs,lxs,met,?_⟩
 have:=gg w11 (xs:=az xs) (by rw[<-exs];exact Bf.bS n) λx hx=>by
  obtain⟨y,hy,rfl⟩:=Qp.mp hx;exact⟨y,rfl,met.st y hy⟩
 unfold az at this;rwa [Qa]at this
theorem tO (h:Rd H F (.dK (fdK (az xs) as))) (l:as.length=xs.length):Bc K H F xs:=.inr ⟨_,h,by rw[ji,Qr (by unfold az;rw[Qa];omega)];rfl⟩
section
theorem jS:FnScope ["net", "standing", "found"] ["net", "standing"] (au (top 25)):=by fin2
theorem lB {TL:Addr} {f:Addr} {fd:FuncData} (Fu:Fun K "calm_paper" "calm_paper" (top 25) f fd) (T:Txt K mg TT) (f_check_standing:Fn P w K mg base "check_standing" ["net", "thing"] 3 (gu .non)) (f_steps_found:Fn P w K mg base "steps_found" ["net", "standing"] 15 (cN TL)) (f_is_calm:Fn P w K mg base "is_calm" ["steps", "inputs"] 3 mx) :
  FnOk P w K mg base CX0 16 f fd ["net", "standing"] (gW TL):=by
 have S:=jS;refine Fu.ok S (by room) (λcdv A outer s H vs Q E hr h=>?_);obtain⟨a,li,lg,ins,gvs,gs,z,rfl,NA,ok,st,tb,k⟩:=h;refine'⟨?_,?bb,?_⟩
 case bb =>
  walk_at "b";exact(bU (aE f_check_standing hr (aa (pv 0) (aa (pv 1) ag ae) ae)));exact aH 2 S.nd (aE f_steps_found hr (aa (pv 0) (aa (pv 1) ag ae) ae));exact(aD (i7 (eU (aE f_is_calm hr (aa (pv 2) (aa (aC aG (pv 0) am) ag) ae))) (aV (jv rfl) (by rfl) T.n_sorted PyProof.Rows.boot_sorted (aa (pv 2) ag ae)) bX))
 x_go;lk;refine⟨a,li,lg,ins,gvs,gs,z,rfl,NA,ok,st,λH0 S0=>?_⟩;have NA0:=NA.same S0;have tb0:=c7 tb S0;lk;refine⟨a,li,lg,ins,gvs,gs,z,rfl,NA0,ok,st,tb0,λF as n H1 t1 hF0 ln las hF1 sts=>?_⟩;obtain⟨xs,exs,lxs,met,few⟩:=lC ok st ln;rw[exs]at hF1 sts;have NA1:=NA0.mono (t1.lst tb0) (t1.tup tb0);have sd:SD H1 F ins gs xs:=⟨as,.inl hF1,by omega,λi x b e1 e2=>sts i (Sum.inr x) b (bq.mpr ⟨x,e1,rfl⟩) e2⟩;have t01:Tk TL H H1:=(Tk.of tb S0).trans t1;have cl:gk ins gs xs=true:=hZ.mpr λh hh p hp=>met.closed hh hp;refine aq ?_;refine bE (i_ifE (i_tB (aI (af (ad rfl (af (aA (ad rfl (i_c (bg NA1.ha rfl (av ⟨F,li,ins,gs,xs,rfl,sd,met.nd,by omega,cl,NA1.hi,ok,λH2 S2=>?_⟩)))))))))));refine⟨_,rfl,?_⟩;have t02:Tk TL H H2:=t01.trans (Tk.of t01.tab S2);by_cases c:nv ins gs xs=true
 ·rw[c];refine iteT (i_cb (af (ad rfl (av ⟨F,xs,rfl,tO (.inl (S2 _ _ hF1)) (by omega),by omega,λp ss hp pm so=>?_⟩))))
  have p0:H p=none:=by
   cases e:H p with
   | none=>rfl
   | some u =>
   by_cases c:p=TL
   ·obtain⟨ps,e2⟩:=rn t02.tab;rw[c,e2]at hp;cases hp
   rw[t02.old _ _ e c]at hp;cases hp
  refine k xs _ _ (t02.trans (Tk.of t02.tab (ap hp))) met ?_;rw[QB c];exact⟨p,ss,rfl,p0,pm,so,ai⟩
 rw[Bool.eq_false_iff.mpr c];refine iteF (i_c ?_);refine k xs _ _ t02 met ?_;rw[QC c]
end
theorem Met.few (m:Met ins gs z xs) (ok:NetOk ins gs):xs.length<=2048:=by
 have w11:(aj ins gs).length<=11:=by rw[bP];have:=ok.i4;have:=ok.g7;omega
 have:=gg w11 (xs:=az xs) (by unfold az;exact List.Pairwise.map _ (λa b h zz=>h (Sum.inr.inj zz)) m.nd) λx hx=>by
  obtain⟨y,hy,rfl⟩:=Qp.mp hx;exact⟨y,rfl,m.st y hy⟩
 unfold az at this;rwa [Qa]at this
def dN:Sp:=λvs H Q _=>∃(F:Addr) (xs:List Str) (as:C3) (cnt:Str->Nat),vs=[.ref F]/\Rd H F (.dK (fdK (az xs) as))/\as.length=xs.length/\xs.length<=2048/\xs.Nodup /\
 (∀(i:Nat) x b,xs[i]?=some x->as[i]?=some b->∃vs,H b=some (.lst vs)/\vs.length=cnt x)/\∀(p:Addr) (ss:List Str) (H':Hp),aw H H'->H p=none->ss.Perm xs->ss.Pairwise leT->H' p=some (.lst ((ss.filter λh=>decide (cnt h=0)).map V.str))->Q (.ref p) H'
section
theorem mE:FnScope ["steps"] ["steps"] (au (top 19)):=by fin2
theorem n8 {f:Addr} {fd:FuncData} (Fu:Fun K "rests_in" "rests_in" (top 19) f fd) (T:Txt K mg TT):FnOk P w K mg base CX0 1 f fd ["steps"] dN:=by
 have S:=mE;refine Fu.ok S (by room) (λcdv A outer s H vs Q E hr h=>?_);obtain⟨F,xs,as,cnt,rfl,hF,las,few,nd,sts,k⟩:=h;have hu:=cf hr;refine⟨_,(aS (aD (i5 (tgs:=["here"]) (cap:=[("steps", 0)]) rfl ⟨rfl,rfl,rfl,rfl,rfl,rfl⟩ (bt (aV (jv rfl) (by rfl) T.n_sorted PyProof.Rows.boot_sorted (aa (pv 0) ag ae))) (λ_ _ _ _=>(cE (i:=0) (show List.Nodup [("here" : Str),("steps" : Str)] by decide +kernel) rfl (by z_go))) (λ_ _ _ _=>(dP (aF cG (aV (fF (K:=K) rfl) (by rfl) T.n_len QW (aa (bu hu (pv 1) (pv 0)) ag)) am (aN _)))) (λ_ _ _ _=>(pv 0))))),?_⟩;x_go;refine bE (i_comp (s_list (i_cb (af (ad rfl (av ⟨F,xs,rfl,tO hF las,by omega,λp ss hp pm so=>?_⟩))))));ctx_has H p H1 S1 q1 aJ hp;have lss:=pm.length_eq;refine⟨p,rfl,⟨_,SqL.of q1⟩,λL hL=>?_⟩;refine cR (xs:=ss.map V.str) (λm H' ys=>aw H1 H'/\H' L=some (.lst ys)/\ys=((ss.take m).filter λh=>decide (cnt h=0)).map V.str) ⟨ap hL,ai,by simp⟩ (λm H' ys p=>⟨p.2.1,SqL.of (p.1 _ _ q1)⟩) (λm v H' ys e p=>?_) (λH' ys p=>?_)
 ·obtain⟨Sm,hd,rfl⟩:=p;rw[Qm]at e
  cases ex:ss[m]? with
  | none=>rw[ex]at e;cases e
  | some x =>
  rw[ex]at e;cases e;have hm:m<ss.length:=(Qc.mp ex).1;obtain⟨i,hi,exi⟩:=Ql.mp (pm.mem_iff.mp (Qh ex));have e1:xs[i]?=some x:=by rw[Qb hi,exi]
  obtain⟨b,e2⟩:∃b,as[i]?=some b:=⟨_,Qb (by omega)⟩;obtain⟨vs,hvs,lvs⟩:=sts i x b e1 e2;have S0m:=S1.trans Sm
  have hF':Rd H' F (.dK (fdK (az xs) as)):=by
   rcases hF with r|⟨o,r⟩
   ·exact .inl (S0m _ _ r)
   exact .inr ⟨o,S0m _ _ r⟩
  refine aq ⟨by repeat' (first|exact trivial|refine⟨rfl,?_⟩),?_⟩;refine aQ (aA (i_cb (af (i_dget (ad rfl (ad rfl ⟨F,_,rfl,fq hF' nd e1 e2,av ⟨b,vs,rfl,.inl (SqL.of (S0m _ _ hvs)),i_c (i_eq rfl ⟨_,rfl,?_⟩)⟩⟩))))));have tk:(ss.take (m+1)).filter (λh=>decide (cnt h=0))=(ss.take m).filter (λh=>decide (cnt h=0))++[x].filter (λh=>decide (cnt h=0)):=by rw[QV,ex,List.filter_append];rfl
  by_cases c:cnt x=0
  ·refine ifT (by rw[lvs,c];rfl) ?_;refine ad rfl (cw.mk hd (by rw[Qa];exact hm) ?_ ⟨bh Sm hL,ai,?_⟩)
   ·rw[Qa];have:=List.length_filter_le (λh=>decide (cnt h=0)) (ss.take m);rw[Qq]at this;omega
   rw[tk,Qz];simp[c]
  refine ifF (by rw[lvs];exact Qx λz=>c (by injection z with z;omega)) ?_;rw[Qa];refine⟨ss.length-(m+1),by omega,rfl,by omega,Sm,hd,?_⟩;rw[tk];simp[c]
 obtain⟨Sm,hd,rfl⟩:=p;rw[Qa,Qr (Qg _)]at hd;exact k L ss H' (S1.trans Sm) (aw.free S1 hL) pm so hd
end
inductive Run (ins:List Str) (gs:C4):Str->List Str->Str->Prop where
 | nil {z:Str}:Run ins gs z [] z
 | cons {z y w:Str} {n:Str} {os:List Str}:(n,y)∈ak ins gs z->StOk (aj ins gs).length y->Run ins gs y os w->Run ins gs z (n::os) w
section
end
theorem mm {n:Str} (st:StOk (aj ins gs).length z) (h:(n,y)∈ak ins gs z):StOk (aj ins gs).length y:=by
 unfold ak at h;obtain⟨⟨g,p⟩,hm,e⟩:=List.mem_filterMap.mp h;have hp:=List.mem_zipIdx hm;have wl:(aj ins gs).length=ins.length+gs.length:=by unfold aj;rw[Qf,Qa]
 unfold cC at e
 split at e
 ·cases e
 cases e;exact e_ st (by omega)
structure Wlk (ins:List Str) (gs:C4) (z:Str) (os as:List Str):Prop where
 len:as.length=os.length+1
 hd:as[0]?=some z
 st:∀x∈as,StOk (aj ins gs).length x
 step:∀(k:Nat) x n y,as[k]?=some x->os[k]?=some n->as[k+1]?=some y->(n,y)∈ak ins gs x
theorem Wlk.run {as:List Str} (W:Wlk ins gs z os as):∀(m i:Nat) x y,i+m<=os.length->as[i]?=some x->as[i+m]?=some y->Run ins gs x ((os.drop i).take m) y
 | 0,i,x,y,_,hx,hy=>by
  rw[Nat.add_zero,hx]at hy;cases hy;exact .nil
 | m+1,i,x,y,hl,hx,hy=>by
  have hi:i<os.length:=by omega
  have len:=W.len;obtain⟨u,hu⟩:∃u,as[i+1]?=some u:=⟨as[i+1]'(by omega),Qb _⟩;rw[Xg hi,List.take_succ_cons];refine .cons (W.step i x _ u hx (Qb hi) hu) (W.st u (Qh hu)) (W.run m (i+1) u y (by omega) hu ?_);rw[show i+1+m=i+(m+1) from by omega];exact hy
theorem gP (h:ns[j]?=some x) (hl:ns.length=j+1):atI (ns.map V.str) (-1)=some (.str x):=by
 have e:ixN (ns.map V.str).length (-1)=some j:=by
  unfold ixN;rw[Qa,QC (by decide),QB (by omega)];congr 1;omega
 unfold atI;rw[e];show (ns.map V.str)[j]?=_;rw[Qm,h];rfl
section
end
theorem pT {st:Str->List (Str × Str)}:∀{xs:List Str} {x nm h:Str},cK (evs st xs) x=some (nm,h)->∃b:Nat,xs[b]?=some h/\(nm,x)∈st h/\∀(c:Nat) g,c<b->xs[c]?=some g->∀p∈st g,p.2≠x
 | [],x,nm,h,e=>by cases e
 | x0::xs,x,nm,h,e=>by
  have split:evs st (x0::xs)=((st x0).map λp=>(p.2,(p.1,x0)))++evs st xs:=rfl;unfold cK at e;rw[split,List.find?_append]at e
  cases q:((st x0).map λp=>(p.2,(p.1,x0))).find? λe=>e.1==x with
  | some r =>
   rw[q]at e;have hm:=List.mem_of_find?_eq_some q;have hx:=List.find?_some q;obtain⟨p',hp,rfl⟩:=Qp.mp hm;cases e;have hx:p'.2=x:=by simpa using hx
   exact⟨0,rfl,by rw[<-hx];exact hp,λc g l=>by omega⟩
  | none =>
  rw[q,Option.none_or]at e;obtain⟨b,h1,h2,h3⟩:=pT (xs:=xs) (x:=x) (nm:=nm) (h:=h) e;refine⟨b+1,by simpa using h1,h2,λc g l e2 p hp z=>?_⟩
  cases c with
  | zero =>
   simp at e2;subst e2;have:=List.find?_eq_none.mp q (p.2,(p.1,x0)) (Qp.mpr ⟨p,hp,rfl⟩);simp[z]at this
  | succ c=>exact h3 c g (by omega) (by simpa using e2) p hp z
section
theorem Run.snoc {x y w n:Str} {os:List Str} (r:Run ins gs x os y) (s:(n,w)∈ak ins gs y) (st:StOk (aj ins gs).length w):Run ins gs x (os++[n]) w:=by
 induction r with
 | nil=>exact .cons s st .nil
 | cons a b _ ih=>exact .cons a b (ih s)
theorem Met.run (m:Met ins gs z xs) {y:Str} {ns:List Str} (p:Path (ak ins gs) xs z y ns):y∈xs/\Run ins gs z ns y:=by
 induction p with
 | nil=>exact⟨Qh m.zero,.nil⟩
 | snoc ne c p ih =>
 obtain⟨b,hb,hs,_⟩:=pT c;have hm:=m.closed (Qh hb) hs;exact⟨hm,ih.2.snoc hs (m.st _ hm)⟩
end
theorem pJ (h:x∈ws):ws[ws.idxOf x]?=some x:=by
 have hi:=List.idxOf_lt_length_of_mem h;rw[Qb hi];exact congrArg some (List.getElem_idxOf hi)
theorem tK (ok:NetOk ins gs) {g:Str × Rl} (e:gs[m]?=some g):(aj ins gs).idxOf g.1=ins.length+m:=by
 have hm:=(Qc.mp e).1;have hl:ins.length+m<(aj ins gs).length:=by rw[bP];omega
 have e2:(aj ins gs)[ins.length+m]=g.1:=by
  have:(aj ins gs)[ins.length+m]?=some g.1:=by
   unfold aj;rw[Qs (by omega),Xe,Qm,e];rfl
  rw[Qb hl]at this;exact QT this
 rw[<-e2];exact ok.nd.idxOf_getElem _ hl
theorem bA (ok:NetOk ins gs) (h:p∈ak ins gs z):p.1∈aj ins gs/\bn z ((aj ins gs).idxOf p.1)=p.2:=by
 obtain⟨i,h1,h2,e,g,hg,e2⟩:=fZ h;refine⟨?_,?_⟩
 ·rw[e2];exact QN _ (Qp.mpr ⟨g,Qh hg,rfl⟩)
 rw[e2,tK ok hg,e,show ins.length+(i-ins.length)=i by omega]
theorem Tk.free {p:Addr} (k:Tk T H H') (h:H' p=none):H p=none:=by
 cases e:H p with
 | none=>rfl
 | some u =>
 by_cases c:p=T
 ·obtain⟨ps,e2⟩:=rn k.tab;rw[c,e2]at h;cases h
 rw[k.old _ _ e c]at h;cases h
def flC (c:Nat):Nat:=if (c==49)=true then 48 else 49
theorem gJ {l:List Nat} (h:y.cps.toList=l) (j:Nat):y.cps.getD j 0=l[j]?.getD 0:=by
 rw[<-h,QA];simp[Array.getD_eq_getD_getElem?]
theorem fX (st:StOk n z) (hi:i<n):(bn z i).cps.toList=z.cps.toList.set i (flC (z.cps.getD i 0)):=by
 have l:z.cps.toList.length=n:=by rw[Qv];exact st.len
 rw[turn_list st hi,List.set_eq_take_append_cons_drop,QB (show i<z.cps.toList.length by omega)];rfl
theorem p8 (st:StOk n z) (hi:i<n) (hj:j<n) (ne:i≠j):bn (bn z i) j=bn (bn z j) i:=by
 have e1:=fX st hi;have e2:=fX st hj;have e3:=fX (e_ st hi) hj;have e4:=fX (e_ st hj) hi;rw[gJ e1,e1,List.getElem?_set_ne ne]at e3;rw[gJ e2,e2,List.getElem?_set_ne (Xs ne)]at e4;have g:∀k,z.cps.toList[k]?.getD 0=z.cps.getD k 0:=λk=>(gJ rfl k).symm;rw[g]at e3 e4;have e:(bn (bn z i) j).cps.toList=(bn (bn z j) i).cps.toList:=by rw[e3,e4,List.set_comm _ _ ne]
 have e':=Array.toList_inj.mp e;cases h1:bn (bn z i) j;cases h2:bn (bn z j) i;rw[h1,h2]at e';exact congrArg Str.mk e'
section
variable {ins:List Str} {gs:C4}
variable {h a y y' c b x ya yb e f:Str}
theorem cM (ok:NetOk ins gs) {p:Str × Str} (hp:p∈ak ins gs h):(aj ins gs).idxOf p.1<(aj ins gs).length/\bn h ((aj ins gs).idxOf p.1)=p.2:=by
 obtain⟨h1,h2⟩:=bA ok hp;exact⟨List.idxOf_lt_length_iff.mpr h1,h2⟩
theorem rH (ok:NetOk ins gs) (h1:(a,y)∈ak ins gs h) (h2:(a,y')∈ak ins gs h):y=y':=(bA ok h1).2.symm.trans (bA ok h2).2
theorem jA (hc:c∈eY ins gs h):∃y,(c,y)∈ak ins gs h:=by
 unfold eY at hc;obtain⟨p,hp,rfl⟩:=Qp.mp hc;exact⟨p.2,hp⟩
theorem lL (e:(br ins gs h).head?=none) (hc:(c,y)∈ak ins gs h) (hb:(b,x)∈ak ins gs h) (ne:b≠c):c∈eY ins gs x:=by
 have e:br ins gs h=[]:=List.head?_eq_none_iff.mp e;unfold br at e;rw[List.flatMap_eq_nil_iff]at e;have e2:=e c (by unfold eY;exact Qp.mpr ⟨_,hc,rfl⟩);rw[List.filterMap_eq_nil_iff]at e2;have e3:=e2 (b,x) hb;unfold fE at e3;by_cases q:c∈eY ins gs x
 ·exact q
 rw[QB ⟨ne,q⟩]at e3;cases e3
theorem ve (ok:NetOk ins gs) (st:StOk (aj ins gs).length h) (e:(br ins gs h).head?=none) (ha:(a,ya)∈ak ins gs h) (hb:(b,yb)∈ak ins gs h) (ne:a≠b):∃u,(b,u)∈ak ins gs ya/\(a,u)∈ak ins gs yb:=by
 obtain⟨u,hu⟩:=jA (lL e hb ha ne);obtain⟨v,hv⟩:=jA (lL e ha hb (Xs ne));have ia:(aj ins gs).idxOf a<(aj ins gs).length:=(cM ok ha).1;have ib:(aj ins gs).idxOf b<(aj ins gs).length:=(cM ok hb).1;have ea:bn h ((aj ins gs).idxOf a)=ya:=(cM ok ha).2;have eb:bn h ((aj ins gs).idxOf b)=yb:=(cM ok hb).2;have eu:bn ya ((aj ins gs).idxOf b)=u:=(cM ok hu).2;have ev:bn yb ((aj ins gs).idxOf a)=v:=(cM ok hv).2
 have nab:(aj ins gs).idxOf a≠(aj ins gs).idxOf b:=λz=>ne (by
  have h1:=pJ (bA ok ha).1;have h2:=pJ (bA ok hb).1;dsimp only at h1 h2;rw[z,h2]at h1
  exact(QT h1).symm)
 have:u=v:=by
  rw[<-eu,<-ev,<-ea,<-eb];exact p8 st ia ib nab
 subst this;exact⟨u,hu,hv⟩
variable {xs:List Str} (ok:NetOk ins gs) (sx:∀x∈xs,StOk (aj ins gs).length x) (cl:∀h∈xs,∀p∈ak ins gs h,p.2∈xs) (cb:∀h∈xs,(br ins gs h).head?=none)
include ok sx cl cb
theorem Run.swap {wo:List Str} (r:Run ins gs h wo e):h∈xs->ak ins gs e=[]->∀{g y},(g,y)∈ak ins gs h->∃w',Run ins gs y w' e/\wo.Perm (g::w'):=by
 induction r with
 | nil=>intro _ re g y hg;rw[re]at hg;cases hg
 | @cons z y1 w' n os hn sy rr ih =>
 intro hz re g y hg;by_cases c:n=g
 ·subst c;obtain rfl:=rH ok hn hg;exact⟨os,rr,List.Perm.refl _⟩
 obtain⟨u,hu,hv⟩:=ve ok (sx z hz) (cb z hz) hn hg c;obtain⟨w'',r2,p2⟩:=ih (cl z hz _ hn) re hu;have hy:=cl z hz _ hg;exact⟨n::w'',.cons hv (sx u (cl y hy _ hv)) r2,(List.Perm.cons n p2).trans (List.Perm.swap _ _ _)⟩
theorem Run.meet {v:List Str} (r:Run ins gs h v f):h∈xs->∀{wo e},Run ins gs h wo e->ak ins gs e=[]->∃u,Run ins gs f u e/\wo.Perm (v++u):=by
 induction r with
 | nil=>intro _ wo e rw _;exact⟨wo,rw,List.Perm.refl _⟩
 | @cons z y1 w' n os hn sy rr ih =>
 intro hz wo e rw re;obtain⟨w1,r1,p1⟩:=rw.swap ok sx cl cb hz re hn;obtain⟨u,r2,p2⟩:=ih (cl z hz _ hn) r1 re;exact⟨u,r2,p1.trans (List.Perm.cons n p2)⟩
end
theorem Run.rest {e:Str} (r:Run ins gs h wo e) (re:ak ins gs h=[]):wo=[]/\e=h:=by
 cases r with
 | nil=>exact⟨rfl,rfl⟩
 | cons hn _ _=>rw[re]at hn;cases hn
def eG (ins:List Str) (gs:C4) (z:Str) (n:Nat):Prop:=(∀os y,Run ins gs z os y->os.length<=n)/\∃os y,Run ins gs z os y/\os.length=n
def nxS (ins:List Str) (gs:C4) (h:Str):List Str:=(ak ins gs h).map (·.2)
def ahL (es:List (Str × (Str × Str))) (x:Str):List Str:=(es.filter λe=>e.1==x).map (·.2.2)
theorem fT (a b:List (Str × (Str × Str))) (x:Str):ahL (a++b) x=ahL a x++ahL b x:=by unfold ahL;rw[List.filter_append,Qz]
theorem pX (y x:Str):∀ps:List (Str × Str),ahL (ps.map λp=>(p.2,(p.1,y))) x=List.replicate ((ps.map (·.2)).count x) y
 | []=>rfl
 | p::ps=>by
  rw[QH,QH,List.count_cons,show ((p.2,p.1,y)::ps.map λp=>(p.2,p.1,y))=[(p.2,p.1,y)]++ps.map λp=>(p.2,p.1,y) from rfl,fT,pX y x ps];by_cases c:p.2=x
  ·rw[QB (by simpa using c),List.replicate_succ];unfold ahL;simp[c]
  rw[QC (by simpa using c)];unfold ahL;simp[c]
theorem pY {st:Str->List (Str × Str)} {b:Str} (h:b∈ahL (evs st xs) x):b∈xs/\x∈(st b).map (·.2):=by
 unfold ahL evs at h;obtain⟨e,he,rfl⟩:=Qp.mp h;obtain⟨h1,h2⟩:=List.mem_filter.mp he;obtain⟨y,hy,h3⟩:=List.mem_flatMap.mp h1;obtain⟨p,hp,rfl⟩:=Qp.mp h3;exact⟨hy,Qp.mpr ⟨p,hp,by simpa using h2⟩⟩
theorem gR {st:Str->List (Str × Str)} {x h:Str}:∀{xs:List Str},xs.Nodup->h∈xs->(ahL (evs st xs) x).count h=((st h).map (·.2)).count x
 | [],_,m=>nomatch m
 | y::xs,nd,m=>by
  rw[Q7]at nd;have e:evs st (y::xs)=((st y).map λp=>(p.2,(p.1,y)))++evs st xs:=by unfold evs;rw[List.flatMap_cons]
  rw[e,fT,pX,List.count_append,List.count_replicate];by_cases c:y=h
  ·subst c;rw[QB (by simp),List.count_eq_zero_of_not_mem (λq=>nd.1 (pY q).1),Nat.add_zero]
  rw[QC (by simpa using c),Nat.zero_add];exact gR nd.2 ((QQ.mp m).resolve_left λz=>c z.symm)
def cP (ws l:List Str):Nat:=l.countP λx=>decide (x∈ws)
theorem lO {ws:List Str} {w:Str} (h:w∉ws):∀l,cP (ws++[w]) l=cP ws l+l.count w
 | []=>rfl
 | x::l=>by
  have ih:=lO h l;unfold cP at ih ⊢;rw[List.countP_cons,List.countP_cons,List.count_cons,ih];by_cases c:x=w
  ·subst c;simp[h];omega
  simp[c];omega
theorem A7 (ws l:List Str):cP ws l<=l.length:=List.countP_le_length
theorem xq {ws l:List Str} (h:cP ws l=l.length):∀x∈l,x∈ws:=λx hx=>by simpa using List.countP_eq_length.mp h x hx
section
theorem eG.rest {h:Str} (e:ak ins gs h=[]):eG ins gs h 0:=by
 refine⟨λos y r=>?_,[],h,.nil,rfl⟩
 cases r with
 | nil=>exact Qg _
 | cons m _ _=>rw[e]at m;cases m
variable {n a:Nat}
theorem eG.up {h:Str} (st:StOk (aj ins gs).length h) (all:∀p∈ak ins gs h,∃m,m<=n/\eG ins gs p.2 m) (one:∃p∈ak ins gs h,eG ins gs p.2 n):eG ins gs h (n+1):=by
 refine⟨λos y r=>?_,?_⟩
 ·cases r with
  | nil=>exact QO _
  | @cons _ y _ nm os m _ r =>
   obtain⟨k,hk,l⟩:=all _ m;have:=l.1 _ _ r;rw[QK];omega
 obtain⟨p,hp,_,os,y,r,e⟩:=one;exact⟨p.1::os,y,.cons hp (mm st hp) r,by rw[QK,e]⟩
structure NumOk (ins:List Str) (gs:C4) (xs:List Str) (ps:List (Str × Nat)):Prop where
 nd:(ps.map (·.1)).Nodup
 sub:∀p∈ps,p.1∈xs
 long:∀p∈ps,eG ins gs p.1 p.2
 out:∀h∈xs,h∉ps.map (·.1)->∃p∈ak ins gs h,p.2∉ps.map (·.1)
structure Cnt (ins:List Str) (gs:C4) (xs:List Str) (ps:List (Str × Nat)) (a:Nat) (tk:List Str) (lf:Str->Int):Prop where
 nd:(ps.map (·.1)).Nodup
 sub:∀p∈ps,p.1∈xs
 mono:∀(i j:Nat) p q,i<=j->ps[i]?=some p->ps[j]?=some q->p.2<=q.2
 near:∀(i:Nat) p q,a<=i->ps[i]?=some p->q∈ps->q.2<=p.2+1
 long:∀p∈ps,eG ins gs p.1 p.2
 val:∀h∈xs,lf h=((nxS ins gs h).length:Int)-cP ((ps.take a).map (·.1)) (nxS ins gs h)-tk.count h
 zero:∀h∈xs,lf h=0↔h∈ps.map (·.1)
theorem Cnt.start {rs:List Str} (nd:rs.Nodup) (h:∀x,x∈rs↔x∈xs/\ak ins gs x=[]):Cnt ins gs xs (rs.map λx=>(x,0)) 0 [] λx=>((ak ins gs x).length:Int):=by
 have e:(rs.map λx=>(x,0)).map (·.1)=rs:=by rw[QS];exact List.map_id _
 have z0:∀p∈rs.map λx=>((x,0):Str × Nat),p.2=0/\p.1∈rs:=λp hp=>by
  obtain⟨x,hx,rfl⟩:=Qp.mp hp;exact⟨rfl,hx⟩
 refine⟨by rw[e];exact nd,λp hp=>((h _).mp (z0 p hp).2).1,λi j p q _ hp hq=>?_,λi p q _ hp hq=>?_,λp hp=>?_,λx hx=>?_,λx hx=>?_⟩
 ·rw[(z0 p (Qh hp)).1];exact QO _
 ·rw[(z0 q hq).1];exact QO _
 ·rw[(z0 p hp).1];exact .rest ((h _).mp (z0 p hp).2).2
 ·unfold nxS cP;rw[Qa];simp
 rw[e,h];show ((ak ins gs x).length:Int)=0↔_;rw[<-List.length_eq_zero_iff];exact⟨λq=>⟨hx,by omega⟩,λq=>by omega⟩
variable {lf:Str->Int} {ps:List (Str × Nat)}
theorem Cnt.few {tk:List Str} (c:Cnt ins gs xs ps a tk lf):ps.length<=xs.length:=by
 have:=Bf.d_ (ps.map (·.1)) xs c.nd λx hx=>by
  obtain⟨p,hp,rfl⟩:=Qp.mp hx;exact c.sub p hp
 rwa [Qa]at this
theorem Cnt.go (m:Met ins gs z xs) {tk:List Str} (c:Cnt ins gs xs ps a tk lf) {here:Str × Nat} (e:ps[a]?=some here) {b:Str} {tl:List Str} (full:ahL (evs (ak ins gs) xs) here.1=tk++b::tl) :
  b∈xs/\b∉ps.map (·.1)/\(lf b-1=0->Cnt ins gs xs (ps++[(b,here.2+1)]) a (tk++[b]) λx=>if x=b then lf b-1 else lf x)/\(lf b-1≠0->Cnt ins gs xs ps a (tk++[b]) λx=>if x=b then lf b-1 else lf x):=by
 obtain⟨hb,hin⟩:=pY (show b∈ahL (evs (ak ins gs) xs) here.1 by rw[full];simp);have hc:=gR (st:=ak ins gs) (x:=here.1) m.nd hb;rw[full,List.count_append,List.count_cons]at hc;simp only[beq_self_eq_true,if_true]at hc;have ha:a<ps.length:=(Qc.mp e).1
 have hout:here.1∉(ps.take a).map (·.1):=λq=>by
  obtain⟨i,hi,ei⟩:=Ql.mp q;rw[Qa,Qq]at hi;rw[List.getElem_map,List.getElem_take]at ei;have nd:=c.nd;have:=(List.getElem_inj (i:=i) (j:=a) (h₀:=by rw[Qa];omega) (h₁:=by rw[Qa];exact ha) nd).mp (by rw[List.getElem_map,List.getElem_map,ei,(Qc.mp e).2]);omega
 have hsn:=lO hout (nxS ins gs b);have hle:=A7 ((ps.take a).map (·.1)++[here.1]) (nxS ins gs b);have hl:=c.val b hb;have hnx:((ak ins gs b).map (·.2))=nxS ins gs b:=rfl;rw[hnx]at hc;have lfb:1<=lf b:=by omega
 have bout:b∉ps.map (·.1):=λq=>by
  have:=(c.zero b hb).mpr q;omega
 have lfs:∀(qs:List (Str × Nat)),(qs.take a).map (·.1)=(ps.take a).map (·.1)->∀h∈xs,(if h=b then lf b-1 else lf h)=((nxS ins gs h).length:Int)-cP ((qs.take a).map (·.1)) (nxS ins gs h)-(tk++[b]).count h:=λqs eq h hh=>by
  rw[eq,List.count_append,List.count_singleton];by_cases cb:h=b
  ·subst cb;rw[QB rfl,hl];simp;omega
  rw[QC cb,c.val h hh,QC (by simpa using λz=>cb z.symm)];simp
 refine⟨hb,bout,λz0=>?_,λz0=>?_⟩
 ·have et:((ps++[(b,here.2+1)]).take a).map (·.1)=(ps.take a).map (·.1):=by rw[List.take_append_of_le_length (by omega)]
  have hq2:∀q∈ps,q.2<=here.2+1:=λq hq=>c.near a here q (Qg _) e hq
  have ge:∀(i:Nat) p,(ps++[(b,here.2+1)])[i]?=some p->(ps[i]?=some p)\/(i=ps.length/\p=(b,here.2+1)):=λi p hp=>by
   by_cases ci:i<ps.length
   ·rw[Qu ci]at hp;exact .inl hp
   rw[Qs (by omega)]at hp
   have:i-ps.length=0:=by
    have:=(Qc.mp hp).1;simp at this;omega
   rw[this]at hp;cases hp;exact .inr ⟨by omega,rfl⟩
  have mem:∀q,q∈ps++[(b,here.2+1)]->q∈ps\/q=(b,here.2+1):=λq hq=>(Qy.mp hq).imp id QL.mp
  have lb:eG ins gs b (here.2+1):=by
   refine .up (m.st b hb) (λp hp=>?_) ?_
   ·have all:=xq (ws:=(ps.take a).map (·.1)++[here.1]) (l:=nxS ins gs b) (by omega) p.2 (Qp.mpr ⟨p,hp,rfl⟩);rcases Qy.mp all with q|q
    ·obtain⟨r,hr,er⟩:=Qp.mp q;obtain⟨i,hi⟩:=List.mem_iff_getElem?.mp hr
     have hia:i<a:=by
      have:=(Qc.mp hi).1;rw[Qq]at this;omega
     rw[List.getElem?_take_of_lt hia]at hi;exact⟨r.2,c.mono i a r here (by omega) hi e,by rw[<-er];exact c.long r (Qh hi)⟩
    rw[QL]at q;exact⟨here.2,Qg _,by rw[q];exact c.long here (Qh e)⟩
   obtain⟨p,hp,ep⟩:=Qp.mp hin;exact⟨p,hp,by rw[ep];exact c.long here (Qh e)⟩
  refine⟨?_,λq hq=>?_,λi j p q hij hp hq=>?_,λi p q hi hp hq=>?_,λq hq=>?_,lfs _ et,λh hh=>?_⟩
  ·rw[Qz]
   exact List.nodup_append.mpr ⟨c.nd,by simp,λx hx y hy z=>by
    have:y=b:=by simpa using hy
    exact bout (by rw[<-this,<-z];exact hx)⟩
  ·rcases mem q hq with q'|rfl
   ·exact c.sub q q'
   exact hb
  ·rcases ge i p hp with hp|⟨hp1,rfl⟩
   ·rcases ge j q hq with hq|⟨hq1,rfl⟩
    ·exact c.mono i j p q hij hp hq
    exact hq2 p (Qh hp)
   rcases ge j q hq with hq|⟨hq1,rfl⟩
   ·have:=(Qc.mp hq).1;omega
   exact Qg _
  ·rcases ge i p hp with hp|⟨hp1,rfl⟩
   ·have hm:=c.mono a i here p hi e hp;rcases mem q hq with q'|rfl
    ·exact c.near i p q hi hp q'
    show here.2+1<=p.2+1;omega
   rcases mem q hq with q'|rfl
   ·have:=hq2 q q';show q.2<=here.2+1+1;omega
   show here.2+1<=here.2+1+1;omega
  ·rcases mem q hq with q'|rfl
   ·exact c.long q q'
   exact lb
  rw[Qz,Qy];by_cases cb:h=b
  ·subst cb;rw[QB rfl];exact⟨λ_=>.inr (by simp),λ_=>z0⟩
  rw[QC cb,c.zero h hh];exact⟨.inl,λq=>q.resolve_right λy=>cb (by simpa using y)⟩
 refine⟨c.nd,c.sub,c.mono,c.near,c.long,lfs _ rfl,λh hh=>?_⟩;by_cases cb:h=b
 ·subst cb;rw[QB rfl];exact⟨λq=>absurd q z0,λq=>absurd q bout⟩
 rw[QC cb];exact c.zero h hh
theorem Cnt.turn (m:Met ins gs z xs) {here:Str × Nat} (e:ps[a]?=some here) (c:Cnt ins gs xs ps a (ahL (evs (ak ins gs) xs) here.1) lf):Cnt ins gs xs ps (a+1) [] lf:=by
 have ha:a<ps.length:=(Qc.mp e).1;have et:(ps.take (a+1)).map (·.1)=(ps.take a).map (·.1)++[here.1]:=by rw[QV,e,Qz];rfl
 have hout:here.1∉(ps.take a).map (·.1):=λq=>by
  have nd:=c.nd;rw[<-QU (a+1) ps,Qz]at nd;have nd:=(List.nodup_append.mp nd).1;rw[et]at nd;exact(List.nodup_append.mp nd).2.2 _ q _ (by simp) rfl
 refine⟨c.nd,c.sub,c.mono,λi p q hi hp hq=>c.near i p q (by omega) hp hq,c.long,λh hh=>?_,c.zero⟩;rw[c.val h hh,et,lO hout,gR m.nd hh];show _=_-((cP _ _+(nxS ins gs h).count here.1:Nat):Int)-_;rw[show ((ak ins gs h).map (·.2))=nxS ins gs h from rfl];simp;omega
theorem Cnt.fin (c:Cnt ins gs xs ps a [] lf) (e:ps.length<=a):NumOk ins gs xs ps:=by
 refine⟨c.nd,c.sub,c.long,λh hh ho=>?_⟩;have n0:lf h≠0:=λz=>ho ((c.zero h hh).mp z);have hl:=c.val h hh;rw[Qr e]at hl;simp at hl;by_cases ex:∃p∈ak ins gs h,p.2∉ps.map (·.1)
 ·exact ex
 refine absurd ?_ n0
 have:cP (ps.map (·.1)) (nxS ins gs h)=(nxS ins gs h).length:=List.countP_eq_length.mpr λx hx=>by
  obtain⟨p,hp,rfl⟩:=Qp.mp hx;exact QJ (Decidable.byContradiction λq=>ex ⟨p,hp,q⟩)
 rw[hl,this];omega
end
theorem ow {ta:TA} (q:ta U H λvs H1=>∃l xs ps,vs=[.ref l]/\SqL K H1 l xs/\xs.length<10000/\Paired (nF H1) xs ps/\∀d,H1 d=none->Q (.ref d) (upd H1 d (.dK (bw [] (cI ps))))):kM K ta U H Q:=q
theorem wE {rd:V->V->Hp->VK->Prop} {D:Ends} (q:td U H λx H1=>ty U H1 λy H2=>∃a v,x=.ref a/\bz H2 a y (some v)/\tv U H2 λy2 H3=>rd v y2 H3 λz H4=>∃H5,gp H4 a y z H5/\D.nx U H5):vJ td ty tv rd D U H:=q
section
theorem j8 {kvs:List (Key × V)} {o:Obj} (r:Rd H F (.dK kvs)) {b:Addr} {sts:List (V × Key)} (h:be H b sts):be (upd H F (.frz o (.dK kvs))) b sts:=by
 obtain⟨vs,h1,h2⟩:=h;refine⟨vs,by rw[ao (eS r h1 (λ_ z=>nomatch z) λ_ _ z=>nomatch z)];exact h1,bM (λv s ⟨c,ec,q⟩=>⟨c,ec,?_⟩) h2⟩;rw[ao (eS r q (λ_ z=>nomatch z) λ_ _ z=>nomatch z)];exact q
end
theorem gH {α β:Type} {R:α->β->Prop}:∀{as:List α} {bs:List β},as.length=bs.length->(∀(i:Nat) a b,as[i]?=some a->bs[i]?=some b->R a b)->Paired R as bs
 | [],[],_,_=>.nil
 | [],_::_,h,_=>by simp at h
 | _::_,[],h,_=>by simp at h
 | a::as,b::bs,h,f=>.cons (f 0 a b rfl rfl) (gH (by simpa using h) λi x y e1 e2=>f (i+1) x y (by simpa using e1) (by simpa using e2))
theorem fg:∀(ps acc:List (Key × V)),(ps.map (·.1)).Nodup->(∀p∈ps,aU acc p.1=none)->bw acc ps=acc++ps
 | [],acc,_,_=>by rw[Xn];rfl
 | p::ps,acc,nd,h=>by
  rw[QH,Q7]at nd;show bw (bB acc p.1 p.2) ps=_;rw[cW _ (h p (by simp)),fg ps _ nd.2 (λq hq=>?_),Q2]
  ·rfl
  have h1:=dL.mp (h q (QG _ hq));refine dL.mpr λz=>?_;rw[Qz]at z;rcases Qy.mp z with z|z
  ·exact h1 z
  have:q.1=p.1:=by simpa using z
  exact nd.1 (by rw[<-this];exact Qp.mpr ⟨q,hq,rfl⟩)
theorem tP (xs:List Str) (bs:C3):cI ((xs.zip bs).map λp=>(p.1,V.ref p.2))=fdK (az xs) bs:=by
 unfold cI fdK az;rw[List.zip_map_left,QS,QS];rfl
theorem xk {bs:C3} (nd:xs.Nodup):bw [] (cI ((xs.zip bs).map λp=>(p.1,V.ref p.2)))=fdK (az xs) bs:=by
 rw[tP,fg _ _ (dw nd) (λ_ _=>rfl),Xo]
def o_:Sp:=λvs H Q _=>∃(F:Addr) (ins:List Str) (gs:C4) (xs:List Str),vs=[.ref F]/\SD H F ins gs xs/\xs.Nodup/\xs.length<=2048/\(∀h∈xs,∀p∈ak ins gs h,p.2∈xs)/\gs.length<=7 /\
 ∀(A:Addr) (bs:C3) (H':Hp),aw H H'->H A=none->H' A=some (.dK (fdK (az xs) bs))->bs.length=xs.length->(∀(i:Nat) x b,xs[i]?=some x->bs[i]?=some b->H b=none/\H' b=some (.lst ((ahL (evs (ak ins gs) xs) x).map V.str)))->Q (.ref A) H'
theorem vd {ins:List Str} (g7:gs.length<=7):∀ys:List Str,(evs (ak ins gs) ys).length<=7*ys.length:=λys=>by
 unfold evs
 induction ys with
 | nil=>simp
 | cons y ys ih =>
 rw[List.flatMap_cons,Qf,Qa,QK];have:=bQ ins gs y;omega
theorem vj (es:List (Str × (Str × Str))) (x:Str):(ahL es x).length<=es.length:=by unfold ahL;rw[Qa];exact List.length_filter_le _ _
theorem ub (es:List (Str × (Str × Str))) (y n h x:Str):ahL (es++[(y,(n,h))]) x=if x=y then ahL es x++[h] else ahL es x:=by
 rw[fT];by_cases c:x=y
 ·subst c;rw[QB rfl];congr 1;unfold ahL;simp
 rw[QC c];have:ahL [(y,n,h)] x=[]:=by unfold ahL;simp;exact λz=>c z.symm
 rw[this,Xn]
section
theorem fK:FnScope ["found", "ahead", "here", "step"] ["found"] (au (top 27)):=by fin2
theorem sT {f:Addr} {fd:FuncData} (Fu:Fun K "standings_ahead" "standings_ahead" (top 27) f fd) (T:Txt K mg TT):FnOk P w K mg base CX0 1 f fd ["found"] o_:=by
 have S:=fK;refine Fu.ok S (by room) (λcdv A outer s H vs Q E hr h=>?_);obtain⟨F,ins,gs,xs,rfl,sd,nd,few,cl,g7,k⟩:=h;have hu:=cf hr;refine'⟨?_,?bb,?_⟩
 case bb =>
  walk_at "b";exact aH 1 S.nd (fi rfl (by rfl) T.n_dict (aa (nV (i6 "here" [] (dQ (pv 0)) (λ_ _ _ _=>(pe_tup (aa (pv 0) (aa (pe_lst ag) ag se_lst) ae))))) ag));refine' nR ?_;rotate_left 1;walk_at "f";exact(dQ (pv 0));exact(bG 2 S.nd);walk_at "p";walk_at "f";exact(bt (bu hu (pv 0) (pv 2)));exact(bG 3 S.nd);walk_at "p";exact(bU (fz Q6 Xa Xb bR (bu hu (pv 1) (aC aG (pv 3) am)) (aa (pv 2) ag ae)));exact(aD (pv 1))
 x_go;obtain⟨as,r,las,sts⟩:=id sd;have lk:(fdK (az xs) as).length=xs.length:=by unfold fdK az;simp[las]
 kt_k;refine aY (ow (af (tz r trivial λo=>?_)));have hF2:upd H F (.frz o (.dK (fdK (az xs) as))) F=some (.frz o (.dK (fdK (az xs) as))):=ai;have bk:∀{H':Hp},aw (upd H F (.frz o (.dK (fdK (az xs) as)))) H'->aw H (back H F H'):=λS=>fS r S
 have fr2:∀{b},upd H F (.frz o (.dK (fdK (az xs) as))) b=none->H b=none:=λ{b} e=>by
  by_cases c:b=F
  ·rw[c,hF2]at e;cases e
  rw[ao c]at e;exact e
 generalize upd H F (.frz o (.dK (fdK (az xs) as)))=H2 at *;refine i_comp (fe (ad rfl ⟨F,o,_,rfl,hF2,λL hL=>?_⟩));let I13:IvC:=λm H' ys=>∃bs ts:C3,bs.length=m/\ts.length=m/\ys=ts.map V.ref/\aw H2 H'/\H' L=some (.lst ys)/\bs.Nodup/\(∀b∈bs,H2 b=none/\b≠L/\H' b=some (.lst []))/\∀(i:Nat) t x b,ts[i]?=some t->xs[i]?=some x->bs[i]?=some b->H' t=some (.tup [.str x,.ref b])
 refine gN I13
  ⟨[],[],rfl,rfl,rfl,ap hL,ai,by simp,λb hb=>(nomatch hb),λi t x b e=>(nomatch e)⟩ (λm H' ys ⟨bs,ts,p⟩=>⟨p.2.2.2.2.1,p.2.2.2.1 _ _ hF2⟩) (λm k' v H' ys e p=>?_) (λH' ys p=>?_)
 ·obtain⟨bs,ts,lb,lt,rfl,Sm,hd,ndb,hbs,hts⟩:=p;obtain⟨x,b0,e1,e2,rfl,rfl⟩:=gK e;have hm:m<xs.length:=(Qc.mp e1).1;refine aq ⟨by repeat' (first|exact trivial|refine⟨rfl,?_⟩),i_yes (iteT ?_)⟩;refine i_tup (af (ad rfl (af (i_lst (av ⟨by simp[sizeLine],λb hb=>av ⟨by simp[sizeLine],λt ht=>?_⟩⟩)))));have S3:aw H' (upd H' b (.lst [])):=ap hb;have S4:aw (upd H' b (.lst [])) (upd (upd H' b (.lst [])) t (.tup [kV (Sum.inr x),.ref b])):=ap ht;have b4:upd (upd H' b (.lst [])) t (.tup [kV (Sum.inr x),.ref b]) b=some (.lst []):=S4 _ _ ai;have t4:upd (upd H' b (.lst [])) t (.tup [kV (Sum.inr x),.ref b]) t=some (.tup [.str x,.ref b]):=ai;have tL:t≠L:=λz=>by rw[z,S3 _ _ hd]at ht;cases ht
  have bL:b≠L:=λz=>by rw[z,hd]at hb;cases hb
  have S34:=S3.trans S4;generalize upd (upd H' b (.lst [])) t (.tup [kV (Sum.inr x),.ref b])=H4 at *;have hL4:=S34 _ _ hd;refine cw.mk hL4 (by rw[lk];exact hm) (by rw[Qa];omega) ⟨bs++[b],ts++[t],by simp[lb],by simp[lt],by simp,bh (Sm.trans S34) hL,ai,?_,λc hc=>?_,λi t' x' b' h1 h2 h3=>?_⟩
  ·refine List.nodup_append.mpr ⟨ndb,by simp,λc hc y hy z=>?_⟩;have:y=b:=by simpa using hy
   have:=(hbs c hc).2.2;rw[z,‹y=b›,hb]at this;cases this
  ·rcases Qy.mp hc with hc|hc
   ·obtain⟨q1,q2,q3⟩:=hbs c hc;exact⟨q1,q2,by rw[ao q2];exact S34 _ _ q3⟩
   rw[QL]at hc;subst hc;exact⟨aw.free Sm hb,bL,by rw[ao bL];exact b4⟩
  by_cases ci:i<m
  ·rw[Qu (by omega)]at h1 h3;have q:=hts i t' x' b' h1 h2 h3;rw[ao (λz=>by rw[z,hd]at q;cases q)];exact S34 _ _ q
  rw[Qs (by omega)]at h1 h3
  have ei:i=m:=by
   have:=(Qc.mp h1).1;simp at this;omega
  subst ei;rw[lt,Nat.sub_self]at h1;rw[lb,Nat.sub_self]at h3;rw[e1]at h2;cases h1;cases h2;cases h3;rw[ao tL];exact t4
 rw[lk]at p;obtain⟨bs,ts,lb,lt,rfl,Sm,hd,ndb,hbs,hts⟩:=p;refine⟨Sm _ _ hF2,av ?_⟩;have LF:L≠F:=λz=>by rw[z,hF2]at hL;cases hL
 have bkx:∀{b u},H' b=some u->b≠F->back H F H' b=some u:=λe n=>by rw[bi n];exact e
 have SB:=bk Sm;have hbF:∀b∈bs,b≠F:=λb hb z=>by have:=(hbs b hb).1;rw[z,hF2]at this;cases this
 have hb0:∀b∈bs,H b=none:=λb hb=>fr2 (hbs b hb).1;have hb3:∀b∈bs,back H F H' b=some (.lst []):=λb hb=>bkx (hbs b hb).2.2 (hbF b hb);refine⟨L,ts.map V.ref,(xs.zip bs).map λp=>(p.1,V.ref p.2),rfl,SqL.of (bkx hd LF),by rw[Qa];omega,?_,λd hd3=>?_⟩
 ·refine gH (by simp[lt,lb]) λi v p e1 e2=>?_;rw[Qm]at e1 e2
  cases q1:ts[i]? with
  | none=>rw[q1]at e1;cases e1
  | some t =>
  rw[q1]at e1;cases e1
  cases q2:(xs.zip bs)[i]? with
  | none=>rw[q2]at e2;cases e2
  | some xb =>
  rw[q2]at e2;cases e2;obtain⟨a1,a2⟩:=List.getElem?_zip_eq_some.mp q2;have q:=hts i t xb.1 xb.2 q1 a1 a2;exact⟨t,rfl,bkx q λz=>by rw[z,Sm _ _ hF2]at q;cases q⟩
 rw[xk nd];refine aq ?_;generalize hE:upd (back H F H') d _=H3;obtain⟨S3,q3⟩:=aJ hd3 hE;clear hE;have SH3:=SB.trans S3;have d0:H d=none:=aw.free SB hd3;have hb4:∀b∈bs,H3 b=some (.lst []):=λb hb=>S3 _ _ (hb3 b hb);have r3:=pc SH3 r;have sts3:∀(i:Nat) h b,xs[i]?=some h->as[i]?=some b->be H3 b (bO (ak ins gs h)):=λi h b e1 e2=>(sts i h b e1 e2).same SH3
 have asb:∀(i:Nat) h b,xs[i]?=some h->as[i]?=some b->b∉bs:=λi h b e1 e2 hb=>by
  obtain⟨vs,q,_⟩:=sts i h b e1 e2;rw[hb0 b hb]at q;cases q
 clear hbs hts hd hb3;kt_k;refine rP (a:=F) (u:=.dK (fdK (az xs) as)) r3 trivial λob=>?_;have sts4:∀(i:Nat) h b,xs[i]?=some h->as[i]?=some b->be (upd H3 F (.frz ob (.dK (fdK (az xs) as)))) b (bO (ak ins gs h)):=λi h b e1 e2=>j8 r3 (sts3 i h b e1 e2);have h4:∀b,b≠F->upd H3 F (.frz ob (.dK (fdK (az xs) as))) b=H3 b:=λb n=>ao n;have hF4:upd H3 F (.frz ob (.dK (fdK (az xs) as))) F=some (.frz ob (.dK (fdK (az xs) as))):=ai
 have dF:d≠F:=λz=>by
  obtain⟨u,hu⟩:=f9 r;rw[z,hu]at d0;cases d0
 generalize upd H3 F (.frz ob (.dK (fdK (az xs) as)))=H4 at *;have hd4:H4 d=some (.dK (fdK (az xs) bs)):=by rw[h4 d dF];exact q3
 have Fb:F∉bs:=λhb=>hbF F hb rfl;have db:d∉bs:=λhb=>by rw[hb4 d hb]at q3;cases q3
 let AH:=λ(H':Hp) (es:List (Str × (Str × Str)))=>∀(i:Nat) x b,xs[i]?=some x->bs[i]?=some b->H' b=some (.lst ((ahL es x).map V.str));refine s_for (fe (ad rfl ⟨F,ob,_,rfl,hF4,?_⟩));let I14:IvF:=λj σ' H'=>∃(x2 x3:Option V),σ'=[some (.ref F),some (.ref d),x2,x3]/\(∀b u,H4 b=some u->b∉bs->H' b=some u)/\AH H' (evs (ak ins gs) (xs.take j))
 refine jg I14
  ⟨_,_,rfl,λb u e _=>e,λi x b _ e2=>by rw[h4 b (hbF b (Qh e2))];exact hb4 b (Qh e2)⟩ (λj σ' H' _ pv=>?_) (λj ky vl σ' H' hj pv=>?_) (λσ' H' pv=>?_)
 ·obtain⟨_,_,_,o2,_⟩:=pv;exact o2 F _ hF4 Fb
 ·obtain⟨x2,x3,rfl,o2,ah⟩:=pv;obtain⟨h,b,hx,hb,rfl,rfl⟩:=gK hj;obtain⟨vs,hvs,pvs⟩:=sts4 j h b hx hb;have bb:=asb j h b hx hb;have hxm:=Qh hx;have dg:bz H' F (kV (Sum.inr h)) (some (.ref b)):=.inl ⟨_,Sum.inr h,.inr ⟨ob,o2 F _ hF4 Fb⟩,rfl,(bV (dw nd) hj).symm⟩;refine aq ?_;refine s_for (s_list (i_dget (ad rfl (ad rfl ⟨F,_,rfl,dg,b,rfl,⟨_,SqL.of (o2 _ _ hvs bb)⟩,?_⟩))));let I15:IvF:=λi σ' H'=>∃(x3:Option V),σ'=[some (.ref F),some (.ref d),some (.str h),x3]/\(∀b u,H4 b=some u->b∉bs->H' b=some u)/\AH H' (evs (ak ins gs) (xs.take j)++((ak ins gs h).take i).map λp=>(p.2,(p.1,h)))
  refine cH (xs:=vs) I15
   ⟨_,rfl,o2,by simpa using ah⟩ (λi σ' H' _ pv=>?_) (λi v σ' H' hv pv=>?_) (λσ' H' pv=>?_)
  ·obtain⟨_,_,o3,_⟩:=pv;exact SqL.of (o3 _ _ hvs bb)
  ·obtain⟨x3,rfl,o3,ah3⟩:=pv;obtain⟨p,b2,hp,rfl,hb2⟩:=dj pvs hv;have hb2H:H4 b2=some (.tup [.str p.1,.str p.2]):=hb2;have b2b:b2∉bs:=λhb=>by rw[h4 b2 (hbF b2 hb),hb4 b2 hb]at hb2H;cases hb2H
   have hb3:H' b2=some (.tup [.str p.1,.str p.2]):=o3 _ _ hb2 b2b;have hpm:p∈ak ins gs h:=Qh hp;obtain⟨i2,hi2,ei2⟩:=Ql.mp (cl h hxm p hpm);have e1:xs[i2]?=some p.2:=by rw[Qb hi2,ei2]
   obtain⟨c,e2⟩:∃c,bs[i2]?=some c:=⟨_,Qb (by omega)⟩;have hc:=ah3 i2 p.2 c e1 e2;have cm:=Qh e2;have dg2:bz H' d (.str p.2) (some (.ref c)):=fq (.inl (o3 _ _ hd4 db)) nd e1 e2
   have hev:evs (ak ins gs) (xs.take j)++((ak ins gs h).take (i+1)).map (λp=>(p.2,(p.1,h)))=(evs (ak ins gs) (xs.take j)++((ak ins gs h).take i).map λp=>(p.2,(p.1,h)))++[(p.2,(p.1,h))]:=by
    rw[QV,hp,Qz,Q2];rfl
   have lev:(evs (ak ins gs) (xs.take j)++((ak ins gs h).take i).map λp=>(p.2,(p.1,h))).length<=7*2048+7:=by
    rw[Qf,Qa,Qq];have h1:=vd (ins:=ins) g7 (xs.take j);have h2:=bQ ins gs h;rw[Qq]at h1;omega
   refine aq ?_;have la:=vj (evs (ak ins gs) (xs.take j)++((ak ins gs h).take i).map λp=>(p.2,(p.1,h))) p.2;refine s_drop (i_bm (i_dget (ad rfl (aA (ad rfl (i_c (bg hb3 rfl ⟨d,_,rfl,dg2,i_tyL hc,af (ad rfl (av (hU hc (by rw[Qa];omega) ?_)))⟩)))))));refine⟨_,rfl,λb' u e n=>by rw[ao (λz=>n (by rw[z];exact cm))];exact o3 b' u e n,λi3 x3 b3 e3 e4=>?_⟩;rw[hev,ub];by_cases cx:x3=p.2
   ·subst cx;have:i3=i2:=(List.getElem?_inj (Qc.mp e3).1 nd).mp (by rw[e3,e1]);subst this;rw[e2]at e4;cases e4;rw[QB rfl,ai,Qz];rfl
   rw[QC cx,ao (λz=>cx ?_)]
   ·exact ah3 i3 x3 b3 e3 e4
   subst z;have:i3=i2:=(List.getElem?_inj (Qc.mp e4).1 ndb).mp (by rw[e4,e2]);subst this;rw[e3]at e1;cases e1;rfl
  obtain⟨x3,rfl,o3,ah3⟩:=pv;refine⟨_,_,rfl,o3,?_⟩;have lvs:vs.length=(ak ins gs h).length:=by have:=aP pvs;unfold bO at this;rwa [Qa]at this
  rw[lvs,Qr (Qg _)]at ah3
  have e:evs (ak ins gs) (xs.take (j+1))=evs (ak ins gs) (xs.take j)++(ak ins gs h).map λp=>(p.2,(p.1,h)):=by
   unfold evs;rw[QV,hx,List.flatMap_append];simp
  rw[e];exact ah3
 obtain⟨x2,x3,rfl,o2,ah⟩:=pv;rw[lk,Qr (Qg _)]at ah;refine⟨o2 F _ hF4 Fb,?_⟩;refine bE (ad rfl (k d bs _ (λb u e=>?_) d0 ?_ lb λi x b e1 e2=>?_))
 ·by_cases cF:b=F
  ·subst cF;rw[de];exact SH3 _ _ e
  rw[bi cF];exact o2 b u (by rw[h4 b cF];exact SH3 _ _ e) λhb=>by rw[hb0 b hb]at e;cases e
 ·rw[bi dF];exact o2 _ _ hd4 db
 have hb:=Qh e2;exact⟨hb0 b hb,by rw[bi (hbF b hb)];exact ah i x b e1 e2⟩
end
def ce (ps:List (Str × Nat)):List (Key × V):=eP (ps.map λp=>(p.1,(p.2:Int)))
def dB (xs:List Str) (f:Str->Int):List (Key × V):=xs.map λx=>(Sum.inr x,V.int (f x))
theorem qF (xs:List Str) (f:Str->Int):(dB xs f).map (·.1)=az xs:=by unfold dB az;rw[QS];rfl
theorem gi {xs:List Str} (f:Str->Int) {b:Str}:∀{xs:List Str},b∈xs->aU (dB xs f) (Sum.inr b)=some (.int (f b))
 | [],h=>nomatch h
 | x::xs,h=>by
  by_cases c:x=b
  ·subst c;exact bJ rfl
  exact(bK (λz=>c (Sum.inr.inj z))).trans (gi (xs:=xs) f ((QQ.mp h).resolve_left λz=>c z.symm))
theorem tm {xs:List Str} (f:Str->Int) {b:Str} (v:Int) (h:b∈xs):bB (dB xs f) (Sum.inr b) (.int v)=dB xs λx=>if x=b then v else f x:=by
 unfold bB;rw[cA,gi (xs:=xs) f h,Option.isSome_some,QB rfl];unfold dB;rw[QS];refine List.map_congr_left λx _=>?_;by_cases c:x=b
 ·subst c;simp
 simp[c]
theorem fm (ps:List (Str × Nat)):(ce ps).map (·.1)=az (ps.map (·.1)):=by unfold ce eP az;rw[QS,QS,QS];rfl
theorem gh (nd:xs.Nodup):(az xs).Nodup:=by unfold az;exact List.Pairwise.map _ (λa b h z=>h (Sum.inr.inj z)) nd
variable {ps:List (Str × Nat)}
theorem m8 (nd:(ps.map (·.1)).Nodup) {p:Str × Nat} (h:p∈ps):aU (ce ps) (Sum.inr p.1)=some (.int p.2):=by
 obtain⟨i,hi,e⟩:=Ql.mp h;refine bV (i:=i) (by rw[fm];exact gh nd) ?_;unfold ce eP;rw[QS,Qm,Qb hi,e];rfl
theorem bZ:aU (ce ps) (Sum.inr x)=none↔x∉ps.map (·.1):=by
 rw[dL,fm];unfold az;refine not_congr ⟨λh=>?_,λh=>Qp.mpr ⟨x,h,rfl⟩⟩;obtain⟨y,hy,e⟩:=Qp.mp h;cases e;exact hy
theorem m9 (h:x∉ps.map (·.1)):bB (ce ps) (Sum.inr x) (.int n)=ce (ps++[(x,n)]):=by
 rw[cW _ (bZ.mpr h)];unfold ce eP;rw[Qz,Qz];rfl
def ud (H:Hp) (ts:C3) (xs:List Str) (f:Str->Int):Prop:=∀(i:Nat) t x,ts[i]?=some t->xs[i]?=some x->H t=some (.tup [.str x,.int (f x)])
theorem mN {f:Str->Int} {t:Addr} (lt:ts.length=m) (h:ud H' ts xs f) (S:aw H' H4) (hd:H' L=some (.lst ys)) (ht:H4 t=some (.tup [.str x,.int (f x)])) (e1:xs[m]?=some x) (tL:t≠L) {o:HO}:ud (upd H4 L o) (ts++[t]) xs f:=λi t' x' h1 h2=>by
 by_cases ci:i<m
 ·rw[Qu (by omega)]at h1;have q:=h i t' x' h1 h2;rw[ao (λz=>by rw[z,hd]at q;cases q)];exact S _ _ q
 rw[Qs (by omega)]at h1
 have ei:i=m:=by
  have:=(Qc.mp h1).1;simp at this;omega
 subst ei;rw[lt,Nat.sub_self]at h1;rw[e1]at h2;cases h1;cases h2;rw[ao tL];exact ht
theorem iY {f:Str->Int} (lt:ts.length=xs.length) (h:ud H ts xs f):Paired (nF H) (ts.map V.ref) (xs.map λx=>(x,V.int (f x))):=by
 refine gH (by simp[lt]) λi v p e1 e2=>?_;rw[Qm]at e1 e2
 cases q1:ts[i]? with
 | none=>rw[q1]at e1;cases e1
 | some t =>
 rw[q1]at e1;cases e1
 cases q2:xs[i]? with
 | none=>rw[q2]at e2;cases e2
 | some x =>
 rw[q2]at e2;cases e2;exact⟨t,rfl,h i t x q1 q2⟩
theorem m_ (nd:xs.Nodup) (f:Str->Int):bw [] (cI (xs.map λx=>(x,V.int (f x))))=dB xs f:=by
 have e:cI (xs.map λx=>(x,V.int (f x)))=dB xs f:=by unfold cI dB;rw[QS];rfl
 rw[e,fg _ _ (by rw[qF];exact gh nd) (λ_ _=>rfl),Xo]
def kP:Sp:=λvs H Q _=>∃(F:Addr) (ins:List Str) (gs:C4) (z:Str) (xs:List Str),vs=[.ref F]/\SD H F ins gs xs/\Met ins gs z xs/\NetOk ins gs /\
 ∀(N:Addr) (ps:List (Str × Nat)) (H':Hp),aw H H'->H N=none->H' N=some (.dK (ce ps))->NumOk ins gs xs ps->Q (.ref N) H'
section
theorem fL:FnScope ["found", "ahead", "left", "waiting", "numbers", "at", "here", "before"] ["found"] (au (top 28)):=by fin2
theorem uR {f:Addr} {fd:FuncData} (Fu:Fun K "most_switchings" "most_switchings" (top 28) f fd) (T:Txt K mg TT) (f_standings_ahead:Fn P w K mg base "standings_ahead" ["found"] 1 o_) (f_rests_in:Fn P w K mg base "rests_in" ["steps"] 1 dN):FnOk P w K mg base CX0 2 f fd ["found"] kP:=by
 have S:=fL;refine Fu.ok S (by room) (λcdv A outer s H vs Q E hr h=>?_);obtain⟨F,ins,gs,z,xs,rfl,sd,met,ok,k⟩:=h;have hu:=cf hr;refine'⟨?_,?bb,?_⟩
 case bb =>
  walk_at "b";exact aH 1 S.nd (aE f_standings_ahead hr (aa (pv 0) ag ae));exact aH 2 S.nd (fi rfl (by rfl) T.n_dict (aa (nV (i6 "here" [("found", 0)] (dQ (pv 0)) (λ_ _ _ _=>(pe_tup (aa (pv 0) (aa (aV (fF (K:=K) rfl) (by rfl) T.n_len QW (aa (bu hu (pv 1) (pv 0)) ag)) ag se_call) ae))))) ag));exact aH 3 S.nd (aE f_rests_in hr (aa (pv 0) ag ae));exact aH 4 S.nd (fi rfl (by rfl) T.n_dict (aa (i6 "rest" [] (bt (pv 3)) (λ_ _ _ _=>(pe_tup (aa (pv 0) (aa am ag se_con) ae)))) ag));exact aH 5 S.nd am;refine' f_ PassesOwn.never ?_ ?_;rotate_left 2;exact(aF kg (pv 5) (aV aM (by rfl) T.n_len QW (aa (pv 3) ag ae)) (aN _));walk_at "p";exact aH 6 S.nd (aC bd (pv 3) (pv 5));walk_at "f";exact(bt (bu hu (pv 1) (pv 6)));exact(bG 7 S.nd);walk_at "p";exact(uw hu (pv 2) (pv 7) am xg (by intros;rfl));exact(aF cG (bu hu (pv 2) (pv 7)) am (aN _));exact(fh hu (pv 4) (pv 7) (aR b_ (bu hu (pv 4) (pv 6)) am) rfl);exact(bU (fz Q6 Xa Xb bR (pv 3) (aa (pv 7) ag ae)));exact(rX (i:=5) S.nd rfl (by z_go) am tw);exact(aD (pv 4))
 x_go;have few:=met.few ok;have nd:=met.nd;have cl:∀h∈xs,∀p∈ak ins gs h,p.2∈xs:=λh hh p hp=>met.closed hh hp;lk;refine⟨F,ins,gs,xs,rfl,sd,nd,few,cl,ok.g7,λA bs H1 S1 hA0 hA lb hbs=>?_⟩;obtain⟨as,r,las,sts⟩:=sd.same S1;have lk:(fdK (az xs) as).length=xs.length:=by unfold fdK az;simp[las]
 refine aq ?_;kt_k;refine aY (ow (af (tz r trivial λo=>?_)));have hF2:upd H1 F (.frz o (.dK (fdK (az xs) as))) F=some (.frz o (.dK (fdK (az xs) as))):=ai;have bk:∀{H':Hp},aw (upd H1 F (.frz o (.dK (fdK (az xs) as)))) H'->aw H1 (back H1 F H'):=λS=>fS r S;have sts2:∀(i:Nat) x b,xs[i]?=some x->as[i]?=some b->be (upd H1 F (.frz o (.dK (fdK (az xs) as)))) b (bO (ak ins gs x)):=λi x b e1 e2=>j8 r (sts i x b e1 e2);generalize upd H1 F (.frz o (.dK (fdK (az xs) as)))=H2 at *;refine i_comp (fe (ad rfl ⟨F,o,_,rfl,hF2,λL hL=>?_⟩));let I16:IvC:=λm H' ys=>∃ts:C3,ts.length=m/\ys=ts.map V.ref/\aw H2 H'/\H' L=some (.lst ys)/\ud H' ts xs λx=>((ak ins gs x).length:Int)
 refine gN I16
  ⟨[],rfl,rfl,ap hL,ai,λi t x e=>(nomatch e)⟩ (λm H' ys ⟨ts,p⟩=>⟨p.2.2.2.1,p.2.2.1 _ _ hF2⟩) (λm k' v H' ys e p=>?_) (λH' ys p=>?_)
 ·obtain⟨ts,lt,rfl,Sm,hd,hts⟩:=p;obtain⟨x,b,e1,e2,rfl,rfl⟩:=gK e;obtain⟨vs,hvs,pvs⟩:=(sts2 m x b e1 e2).same Sm;have hm:m<xs.length:=(Qc.mp e1).1;have lv:vs.length=(ak ins gs x).length:=by have:=aP pvs;unfold bO at this;rwa [Qa]at this
  refine aq ⟨by repeat' (first|exact trivial|refine⟨rfl,?_⟩),i_yes (iteT ?_)⟩;refine i_tup (af (ad rfl (af (i_cb (af (i_dget (ad rfl (ad rfl ⟨F,_,rfl,fq (.inr ⟨o,Sm _ _ hF2⟩) nd e1 e2,av ⟨b,vs,rfl,.inl (SqL.of hvs),av ⟨by simp[sizeLine],λt ht=>?_⟩⟩⟩))))))));have S3:aw H' (upd H' t (.tup [kV (Sum.inr x),.int vs.length])):=ap ht;have t3:upd H' t (.tup [kV (Sum.inr x),.int vs.length]) t=some (.tup [.str x,.int ((ak ins gs x).length:Int)]):=by rw[ai,lv];rfl
  have tL:t≠L:=λz=>by rw[z,hd]at ht;cases ht
  generalize upd H' t (.tup [kV (Sum.inr x),.int vs.length])=H4 at *;exact cw.mk (S3 _ _ hd) (by rw[lk];exact hm) (by rw[Qa];omega) ⟨ts++[t],by simp[lt],by simp,bh (Sm.trans S3) hL,ai,mN lt hts S3 hd t3 e1 tL⟩
 rw[lk]at p;obtain⟨ts,lt,rfl,Sm,hd,hts⟩:=p;refine⟨Sm _ _ hF2,av ?_⟩;have LF:L≠F:=λz=>by rw[z,hF2]at hL;cases hL
 have bkx:∀{b u},H' b=some u->b≠F->back H1 F H' b=some u:=λe n=>by rw[bi n];exact e
 have SB:=bk Sm;refine⟨L,ts.map V.ref,_,rfl,SqL.of (bkx hd LF),by rw[Qa];omega,iY lt λi t x e1 e2=>bkx (hts i t x e1 e2) (λz=>by have q:=hts i t x e1 e2;rw[z,Sm _ _ hF2]at q;cases q),λLf hLf=>?_⟩;rw[m_ nd];generalize hE:upd (back H1 F H') Lf _=H3;obtain⟨S3,hLf3⟩:=aJ hLf hE;clear hE;have S13:=SB.trans S3;have Lf1:H1 Lf=none:=aw.free SB hLf;clear hts hd bkx;lk;obtain⟨as3,r3,las3,sts3⟩:=(sd.same S1).same S13;refine⟨F,xs,as3,λh=>(ak ins gs h).length,rfl,r3,las3,few,nd,λi x b e1 e2=>?_,λWt ss H4 S4 hWt pm so hW4=>?_⟩
 ·obtain⟨vs,h1,h2⟩:=sts3 i x b e1 e2;exact⟨vs,h1,by have:=aP h2;unfold bO at this;rwa [Qa]at this⟩
 have rnd:(ss.filter λh=>decide ((ak ins gs h).length=0)).Nodup:=(pm.nodup_iff.mpr nd).filter _
 have rmem:∀x,x∈(ss.filter λh=>decide ((ak ins gs h).length=0))↔x∈xs/\ak ins gs x=[]:=λx=>by
  rw[List.mem_filter,pm.mem_iff,decide_eq_true_iff,List.length_eq_zero_iff]
 generalize (ss.filter λh=>decide ((ak ins gs h).length=0))=rs at *;have c0:=Cnt.start (ins:=ins) (gs:=gs) (xs:=xs) rnd rmem;have lrs:rs.length<=xs.length:=by have:=c0.few;rwa [Qa]at this
 clear so pm;refine aq ?_;kt_k;refine aY (ow (af (i_comp (s_list (ad rfl ⟨Wt,rfl,⟨_,SqL.of hW4⟩,λL2 hL2=>?_⟩)))));let I17:IvC:=λm H' ys=>∃ts:C3,ts.length=m/\ys=ts.map V.ref/\aw H4 H'/\H' L2=some (.lst ys)/\ud H' ts rs λ_=>0
 refine gM (xs:=rs.map V.str) I17
  ⟨[],rfl,rfl,ap hL2,ai,λi t x e=>(nomatch e)⟩ (λm H' ys ⟨ts,p⟩=>⟨p.2.2.2.1,SqL.of (p.2.2.1 _ _ hW4)⟩) (λm v H' ys e p=>?_) (λH5 ys p=>?_)
 ·obtain⟨ts,lt,rfl,Sm,hd,hts⟩:=p;rw[Qm]at e
  cases ex:rs[m]? with
  | none=>rw[ex]at e;cases e
  | some x =>
  rw[ex]at e;cases e;have hm:m<rs.length:=(Qc.mp ex).1;refine aq ⟨by repeat' (first|exact trivial|refine⟨rfl,?_⟩),i_yes (iteT ?_)⟩;refine i_tup (af (ad rfl (af (i_c (av ⟨by simp[sizeLine],λt ht=>?_⟩)))));have S3:aw H' (upd H' t (.tup [.str x,.int 0])):=ap ht;have t3:upd H' t (.tup [.str x,.int 0]) t=some (.tup [.str x,.int 0]):=ai;have tL:t≠L2:=λz=>by rw[z,hd]at ht;cases ht
  generalize upd H' t (.tup [.str x,.int 0])=H6 at *;exact cw.mk (S3 _ _ hd) (by rw[Qa];exact hm) (by rw[Qa];omega) ⟨ts++[t],by simp[lt],by simp,bh (Sm.trans S3) hL2,ai,mN (f:=λ_=>0) lt hts S3 hd t3 ex tL⟩
 rw[Qa]at p;obtain⟨ts,lt,rfl,Sm,hd,hts⟩:=p;refine av ⟨L2,ts.map V.ref,_,rfl,SqL.of hd,by rw[Qa];omega,iY (f:=λ_=>0) lt hts,λN hN=>?_⟩;rw[m_ rnd];ctx_has H5 N H6 S6 hN6 aJ hN;have eN:dB rs (λ_=>0)=ce (rs.map λx=>(x,0)):=by unfold dB ce eP;rw[QS,QS];rfl
 rw[eN]at hN6;have S16:aw H1 H6:=S13.trans (S4.trans (Sm.trans S6));have hLf6:H6 Lf=some (.dK (dB xs λx=>((ak ins gs x).length:Int))):=(S4.trans (Sm.trans S6)) _ _ hLf3
 have hW6:H6 Wt=some (.lst (((rs.map λx=>((x,0):Str × Nat)).map (·.1)).map V.str)):=by
  rw[show (rs.map λx=>((x,0):Str × Nat)).map (·.1)=rs by rw[QS];exact List.map_id _];exact(Sm.trans S6) _ _ hW4
 have Wt1:H1 Wt=none:=aw.free S13 hWt;have N1:H1 N=none:=aw.free (S13.trans (S4.trans Sm)) hN;have LW:Lf≠Wt:=λz=>by rw[z]at hLf3;rw[hWt]at hLf3;cases hLf3
 have LN:Lf≠N:=λz=>by rw[<-z,(S4.trans Sm) _ _ hLf3]at hN;cases hN
 have WN:Wt≠N:=λz=>by rw[<-z,Sm _ _ hW4]at hN;cases hN
 clear hts hd hW4 hLf3;lk;let I18:IvF:=λm U H'=>∃(a:Nat) (ps:List (Str × Nat)) (lf:Str->Int) (x6 x7:Option V),U=[some (.ref F),some (.ref A),some (.ref Lf),some (.ref Wt),some (.ref N),some (.int (a:Int)),x6,x7]/\m=xs.length+1-a/\a<=ps.length/\jV Lf Wt N H6 H'/\H' Lf=some (.dK (dB xs lf))/\H' Wt=some (.lst ((ps.map (·.1)).map V.str))/\H' N=some (.dK (ce ps))/\Cnt ins gs xs ps a [] lf
 refine⟨I18,
  ⟨_,0,_,_,_,_,rfl,rfl,QO _,λb o e _ _ _=>e,hLf6,hW6,hN6,c0⟩,?_⟩
 rintro m U H' ⟨a,ps,lf,x6,x7,rfl,rfl,ha,off,hLf',hW',hN',c⟩;lk;rw[Qa,Qa];by_cases cn:a<ps.length
 case neg =>
  refine ifF (Qx (by omega)) ?_;refine bE (ad rfl (k N ps H' (λb u e=>off b u (S16 _ _ (S1 _ _ e)) (λz=>?_) (λz=>?_) λz=>?_) (aw.free S1 N1) hN' (c.fin (by omega))))
  ·rw[z,aw.free S1 Lf1]at e;cases e
  ·rw[z,aw.free S1 Wt1]at e;cases e
  rw[z,aw.free S1 N1]at e;cases e
 refine ifT (QJ (by omega)) ?_;have fewp:=c.few;let I19:IvJ:=λσ' H''=>∃(ps:List (Str × Nat)) (lf:Str->Int) (x6 x7:Option V),σ'=[some (.ref F),some (.ref A),some (.ref Lf),some (.ref Wt),some (.ref N),some (.int ((a+1:Nat):Int)),x6,x7]/\a+1<=ps.length/\jV Lf Wt N H6 H''/\H'' Lf=some (.dK (dB xs lf))/\H'' Wt=some (.lst ((ps.map (·.1)).map V.str))/\H'' N=some (.dK (ce ps))/\Cnt ins gs xs ps (a+1) [] lf;refine⟨I19,λσ' H'' h=>?_,?_⟩
 ·obtain⟨ps,lf,x6,x7,e1,e2,e3⟩:=h;exact⟨xs.length+1-(a+1),by omega,a+1,ps,lf,x6,x7,e1,rfl,e2,e3⟩
 obtain⟨here,eh⟩:∃here,ps[a]?=some here:=⟨_,Qb cn⟩;have hhere:=c.sub here (Qh eh);obtain⟨ix,hix,eix⟩:=Ql.mp hhere;have ex:xs[ix]?=some here.1:=by rw[Qb hix,eix]
 obtain⟨b,eb⟩:∃b,bs[ix]?=some b:=⟨_,Qb (by omega)⟩;obtain⟨_,hb1⟩:=hbs ix here.1 b ex eb;have bL:b≠Lf:=λz=>by rw[z,Lf1]at hb1;cases hb1
 have bW:b≠Wt:=λz=>by rw[z,Wt1]at hb1;cases hb1
 have bN:b≠N:=λz=>by rw[z,N1]at hb1;cases hb1
 have AL:A≠Lf:=λz=>by rw[z,Lf1]at hA;cases hA
 have AW:A≠Wt:=λz=>by rw[z,Wt1]at hA;cases hA
 have AN:A≠N:=λz=>by rw[z,N1]at hA;cases hA
 have hb6:∀{H'':Hp},jV Lf Wt N H6 H''->H'' b=some (.lst ((ahL (evs (ak ins gs) xs) here.1).map V.str)):=λo=>o b _ (S16 _ _ hb1) bL bW bN;have hA6:∀{H'':Hp},jV Lf Wt N H6 H''->H'' A=some (.dK (fdK (az xs) bs)):=λo=>o A _ (S16 _ _ hA) AL AW AN;generalize hfull:ahL (evs (ak ins gs) xs) here.1=full at *;kt_k;refine aY (aA (ad rfl (ad rfl (bD (v:=.str here.1) (SqL.of hW') (cg (by rw[Qm,Qm,eh];rfl)) (aq ?_)))));kt_k;refine s_for (s_list (i_dget (ad rfl (ad rfl ⟨A,_,rfl,fq (.inl (hA6 off)) nd ex eb,b,rfl,⟨_,SqL.of (hb6 off)⟩,?_⟩))));let I20:IvF:=λi σ' H'=>∃(ps:List (Str × Nat)) (lf:Str->Int) (x7:Option V),σ'=[some (.ref F),some (.ref A),some (.ref Lf),some (.ref Wt),some (.ref N),some (.int (a:Int)),some (.str here.1),x7]/\jV Lf Wt N H6 H'/\H' Lf=some (.dK (dB xs lf))/\H' Wt=some (.lst ((ps.map (·.1)).map V.str))/\H' N=some (.dK (ce ps))/\ps[a]?=some here/\Cnt ins gs xs ps a (full.take i) lf
 refine cH (xs:=full.map V.str) I20
  ⟨ps,lf,_,rfl,off,hLf',hW',hN',eh,by rw[List.take_zero];exact c⟩ (λi σ' H' _ pv=>?_) (λi v σ' H' hv pv=>?_) (λσ' H' pv=>?_)
 ·obtain⟨_,_,_,_,o,_⟩:=pv;exact SqL.of (hb6 o)
 ·obtain⟨ps,lf,x7,rfl,o,hLf',hW',hN',eh,c⟩:=pv;rw[Qm]at hv
  cases ef:full[i]? with
  | none=>rw[ef]at hv;cases hv
  | some y =>
  rw[ef]at hv;cases hv;have hi:i<full.length:=(Qc.mp ef).1
  have es:full=full.take i++y::full.drop (i+1):=by
   rw[<-(Qc.mp ef).2,<-Xg hi,QU]
  have et:full.take (i+1)=full.take i++[y]:=by rw[QV,ef];rfl
  obtain⟨hy,ho,g1,g2⟩:=c.go met eh (hfull.trans es);rw[<-et]at g1 g2;have fewp:=c.few;refine aq ?_;kt_k;have dgL:bz H' Lf (.str y) (some (.int (lf y))):=.inl ⟨_,Sum.inr y,.inl hLf',rfl,(gi (xs:=xs) lf hy).symm⟩;refine wE (ad rfl (ad rfl ⟨Lf,_,rfl,dgL,i_c ⟨_,_,rfl,rfl,_,gp.k (k:=Sum.inr y) hLf' (by unfold dB;rw[Qa];omega),?_⟩⟩));rw[tm (xs:=xs) lf _ hy];have hLf2:upd H' Lf (.dK (dB xs λx=>if x=y then lf y-1 else lf x)) Lf=some (.dK (dB xs λx=>if x=y then lf y-1 else lf x)):=ai;have o2:jV Lf Wt N H6 (upd H' Lf (.dK (dB xs λx=>if x=y then lf y-1 else lf x))):=λb u e h1 h2 h3=>by rw[ao h1];exact o b u e h1 h2 h3
  have hW2:upd H' Lf (.dK (dB xs λx=>if x=y then lf y-1 else lf x)) Wt=some (.lst ((ps.map (·.1)).map V.str)):=by rw[ao LW.symm];exact hW'
  have hN2:upd H' Lf (.dK (dB xs λx=>if x=y then lf y-1 else lf x)) N=some (.dK (ce ps)):=by rw[ao LN.symm];exact hN'
  generalize upd H' Lf (.dK (dB xs λx=>if x=y then lf y-1 else lf x))=H7 at *;have dgL2:bz H7 Lf (.str y) (some (.int (lf y-1))):=.inl ⟨_,Sum.inr y,.inl hLf2,rfl,by rw[gi (xs:=xs) _ hy,QB rfl]⟩;refine s_if (aQ (aA (i_dget (ad rfl (ad rfl ⟨Lf,_,rfl,dgL2,i_c (i_eq rfl ⟨_,rfl,?_⟩)⟩)))));by_cases cz:lf y-1=0
  ·refine ifT (by rw[cz];rfl) ?_;have dgN:bz H7 N (.str here.1) (some (.int here.2)):=.inl ⟨_,Sum.inr here.1,.inl hN2,rfl,(m8 c.nd (Qh eh)).symm⟩;kt_k;refine gA (aA (i_dget (ad rfl (ad rfl ⟨N,_,rfl,dgN,i_c (i_rI0 (ad rfl (ad rfl ⟨N,_,rfl,gp.k (k:=Sum.inr y) hN2 (by have:=congrArg List.length (fm ps);unfold az at this;simp at this;omega),?_⟩)))⟩))));rw[show ((here.2:Int)+1)=((here.2+1:Nat):Int) from rfl,m9 ho];have hW3:upd H7 N (.dK (ce (ps++[(y,here.2+1)]))) Wt=some (.lst ((ps.map (·.1)).map V.str)):=by rw[ao WN];exact hW2
   refine s_drop (i_bm (ad rfl ⟨i_tyL hW3,af (ad rfl (av (hU hW3 (by rw[Qa,Qa];omega) ?_)))⟩));refine⟨ps++[(y,here.2+1)],_,_,rfl,λb u e h1 h2 h3=>by rw[ao h2,ao h3];exact o2 b u e h1 h2 h3,by rw[ao LW,ao LN];exact hLf2,by rw[ai];simp,by rw[ao WN.symm,ai],by rw[Qu (Qc.mp eh).1];exact eh,g1 cz⟩
  refine ifF (Qx λz=>cz (V.int.inj z)) ?_;exact⟨ps,_,_,rfl,o2,hLf2,hW2,hN2,eh,g2 cz⟩
 obtain⟨ps,lf,x7,rfl,o,hLf',hW',hN',eh,c⟩:=pv;rw[Qa,Qr (Qg _),<-hfull]at c;refine⟨_,rfl,i_c ⟨_,_,rfl,rfl,?_⟩⟩;exact⟨ps,lf,_,_,by rw[show ((a+1:Nat):Int)=(a:Int)+1 from rfl];rfl,(Qc.mp eh).1,o,hLf',hW',hN',c.turn met eh⟩
end
section
variable {os ss rs:List Str} {x y w h a r:Str}
theorem Run.trans {ps:List Str} (r:Run ins gs x os y) (q:Run ins gs y ps w):Run ins gs x (os++ps) w:=by
 induction r with
 | nil=>exact q
 | cons a b _ ih=>exact .cons a b (ih q)
theorem Run.rep (r:Run ins gs x os x):∀k,Run ins gs x (List.replicate k os).flatten x
 | 0=>.nil
 | k+1=>by rw[List.replicate_succ,List.flatten_cons];exact r.trans (r.rep k)
theorem Met.start (m:Met ins gs z xs):z∈xs:=Qh m.zero
theorem Met.runs (m:Met ins gs z xs) (r:Run ins gs x os y) (hx:x∈xs):y∈xs:=by
 induction r with
 | nil=>exact hx
 | cons a _ _ ih=>exact ih (m.closed hx a)
theorem Met.to (m:Met ins gs z xs) (hx:x∈xs):∃os,Run ins gs z os x:=by
 obtain⟨i,hi,e⟩:=Ql.mp hx;obtain⟨ns,p,_⟩:=m.path i x (by rw[Qb hi,e]);exact⟨ns,(m.run p).2⟩
theorem rY {p:Str × Str} (st:StOk (aj ins gs).length h) (hp:p∈ak ins gs h):p.2.cps.toList.take ins.length=h.cps.toList.take ins.length:=by
 obtain⟨i,h1,h2,e,_⟩:=fZ hp;rw[e,turn_list st (by rw[bP];exact h2),List.take_append_of_le_length,List.take_take,Nat.min_eq_left h1];have:=st.len;have hl:h.cps.toList.length=h.cps.size:=Qv;rw[bP]at this;rw[Qq];omega
theorem Met.pre (m:Met ins gs z xs) (hx:x∈xs):x.cps.toList.take ins.length=z.cps.toList.take ins.length:=by
 obtain⟨os,r⟩:=m.to hx;have st:=m.st z m.start;clear hx m
 induction r with
 | nil=>rfl
 | cons a b _ ih=>exact(ih b).trans (rY st a)
theorem Met.few7 (m:Met ins gs z xs) (ok:NetOk ins gs):xs.length<=128:=by
 have nd:(xs.map λx=>x.cps.toList.drop ins.length).Nodup:=by
  rw[List.Nodup,List.pairwise_map];refine List.Pairwise.imp_of_mem (λ{a b} ha hb n e=>n ?_) m.nd
  have:a.cps.toList=b.cps.toList:=by
   rw[<-QU ins.length a.cps.toList,<-QU ins.length b.cps.toList,m.pre ha,m.pre hb,e]
  cases a;cases b;simpa using this
 have:=Bf.d_ _ (lW gs.length) nd λl hl=>by
  obtain⟨x,hx,rfl⟩:=Qp.mp hl;have st:=m.st x hx;refine jB _ _ ?_ λc hc=>st.signs c (List.mem_of_mem_drop hc);rw[QX,Qv,st.len,bP];omega
 rw[Qa,jC]at this;have h2:2 ^ gs.length<=2 ^ 7:=Nat.pow_le_pow_right (by decide) ok.g7;have h3:(2:Nat) ^ 7=128:=by decide
 omega
theorem eG.calm {n:Nat} {ps:List Str} (l:eG ins gs h n) (r:Run ins gs h os a) (q:Run ins gs a ps a):ps=[]:=by
 cases ps with
 | nil=>rfl
 | cons p ps =>
 have:=l.1 _ _ (r.trans (q.rep (n+1)));rw[Qf,uZ,QK]at this;have:n+1<=(n+1)*(ps.length+1):=Nat.le_mul_of_pos_right _ (by omega);omega
theorem Run.seen (r:Run ins gs h os y):(∀a ps qs,Run ins gs h ps a->Run ins gs a qs a->qs=[])->∃as:List Str,as.length=os.length+1/\as.Nodup/\∀a∈as,∃ps,Run ins gs h ps a:=by
 induction r with
 | nil=>exact λ_=>⟨[_],rfl,by simp,λa ha=>by rw[QL]at ha;rw[ha];exact⟨[],.nil⟩⟩
 | @cons z y w n os m st r ih =>
 intro c;obtain⟨as,h1,h2,h3⟩:=ih λa ps qs r1 r2=>c a (n::ps) qs (.cons m st r1) r2;refine⟨z::as,by simp[h1],Q7.mpr ⟨λhz=>?_,h2⟩,λa ha=>?_⟩
 ·obtain⟨ps,q⟩:=h3 z hz;exact nomatch (c z [] (n::ps) .nil (.cons m st q))
 rcases QQ.mp ha with rfl|ha
 ·exact⟨[],.nil⟩
 obtain⟨ps,q⟩:=h3 a ha;exact⟨n::ps,.cons m st q⟩
theorem eG.lt (m:Met ins gs z xs) {n:Nat} (l:eG ins gs z n) (r:Run ins gs z os y):os.length<xs.length:=by
 obtain⟨as,h1,h2,h3⟩:=r.seen λa ps qs r1 r2=>l.calm r1 r2
 have:=Bf.d_ as xs h2 λa ha=>by
  obtain⟨ps,q⟩:=h3 a ha;exact m.runs q m.start
 omega
theorem eG.stop {n:Nat} (l:eG ins gs h n) (st:StOk (aj ins gs).length h):∃os y,Run ins gs h os y/\ak ins gs y=[]:=by
 obtain⟨l1,os,y,r,e⟩:=l;refine⟨os,y,r,?_⟩
 cases q:ak ins gs y with
 | nil=>rfl
 | cons p ps =>
 have hp:p∈ak ins gs y:=by rw[q];simp
 have sy:StOk (aj ins gs).length y:=by
  clear e q hp l1
  induction r with
  | nil=>exact st
  | cons _ b _ ih=>exact ih b
 have:=l1 _ _ (r.snoc (n:=p.1) (w:=p.2) hp (mm sy hp));rw[Qf,List.length_singleton]at this;omega
variable {ps:List (Str × Nat)}
theorem NumOk.on (m:Met ins gs z xs) (o:NumOk ins gs xs ps):∀(k:Nat) h,h∈xs->h∉ps.map (·.1)->∃os y,Run ins gs h os y/\os.length=k
 | 0,h,_,_=>⟨[],h,.nil,rfl⟩
 | k+1,h,hh,ho=>by
  obtain⟨p,hp,hn⟩:=o.out h hh ho;obtain⟨os,y,r,e⟩:=o.on m k p.2 (m.closed hh hp) hn;exact⟨p.1::os,y,.cons hp (m.st _ (m.closed hh hp)) r,by rw[QK,e]⟩
theorem NumOk.iff (m:Met ins gs z xs) (o:NumOk ins gs xs ps) (hh:h∈xs):h∈ps.map (·.1)↔∃n,∀os y,Run ins gs h os y->os.length<=n:=by
 refine⟨λhm=>?_,λ⟨n,l⟩=>Decidable.byContradiction λho=>?_⟩
 ·obtain⟨p,hp,rfl⟩:=Qp.mp hm;exact⟨p.2,(o.long p hp).1⟩
 obtain⟨os,y,r,e⟩:=o.on m (n+1) h hh ho;have:=l os y r;omega
def jF (ins:List Str) (gs:C4) (z r:Str):Prop:=∃xs,Met ins gs z xs/\(∀x,x∈xs/\ak ins gs x=[]↔x=r)/\∃n,eG ins gs z n
theorem NumOk.long_of (m:Met ins gs z xs) (o:NumOk ins gs xs ps) (hh:h∈xs):h∈ps.map (·.1)↔∃n,eG ins gs h n:=by
 refine⟨λhm=>?_,λ⟨n,l⟩=>(o.iff m hh).mpr ⟨n,l.1⟩⟩;obtain⟨p,hp,rfl⟩:=Qp.mp hm;exact⟨p.2,o.long p hp⟩
theorem gB (m:Met ins gs z xs) (pm:ss.Perm xs):(ss.filter λh=>decide ((ak ins gs h).length=0)).Nodup/\∀x,x∈(ss.filter λh=>decide ((ak ins gs h).length=0))↔x∈xs/\ak ins gs x=[]:=by
 refine⟨(pm.nodup_iff.mpr m.nd).filter _,λx=>?_⟩;rw[List.mem_filter,pm.mem_iff,decide_eq_true_iff,List.length_eq_zero_iff]
theorem qk {α:Type} {rs:List α} {r:α} (nd:rs.Nodup) (h:∀x,x∈rs↔x=r):rs=[r]:=by
 cases rs with
 | nil=>exact absurd ((h r).mpr rfl) (by simp)
 | cons a t =>
 have ea:=(h a).mp (by simp);subst ea
 cases t with
 | nil=>rfl
 | cons b t =>
 have eb:=(h b).mp (by simp);subst eb;simp at nd
theorem mQ (nd:rs.Nodup) (h:∀x,x∈rs↔x=r):rs=[r]:=qk nd h
end
def onw (ins:List Str) (gs:C4) (ks:List Str) (h:Str):List (Str × Str):=(ak ins gs h).filter λp=>decide (p.2∉ks)
structure RWalk (ins:List Str) (gs:C4) (xs ks:List Str) (z:Str) (hs ns:List Str) (here:Str):Prop where
 len:hs.length=ns.length
 hd:(hs++[here])[0]?=some z
 nd:hs.Nodup
 far:∀x∈hs++[here],x∈xs/\x∉ks
 step:∀(i:Nat) x n y,hs[i]?=some x->ns[i]?=some n->(hs++[here])[i+1]?=some y->(onw ins gs ks x)[0]?=some (n,y)
section
variable {ins:List Str} {gs:C4} {xs ks:List Str} {z z0:Str} {hs ns:List Str} {here:Str}
theorem pB {h:Str} {p:Str × Str} (hp:p∈onw ins gs ks h):p∈ak ins gs h/\p.2∉ks:=by
 unfold onw at hp;obtain⟨a,b⟩:=List.mem_filter.mp hp;exact⟨a,by simpa using b⟩
theorem RWalk.go (r:RWalk ins gs xs ks z hs ns here) (m:Met ins gs z0 xs) (no:here∉hs) {p:Str × Str} (e:(onw ins gs ks here)[0]?=some p):RWalk ins gs xs ks z (hs++[here]) (ns++[p.1]) p.2:=by
 have hp:=pB (Qh e);have l:=r.len;refine⟨by simp[l],?_,?_,λx hx=>?_,λi x n y h1 h2 h3=>?_⟩
 ·rw[Qu (by simp)];exact r.hd
 ·exact List.nodup_append.mpr ⟨r.nd,by simp,λa ha b hb q=>no (by rw[QL]at hb;rw[<-hb,<-q];exact ha)⟩
 ·rcases Qy.mp hx with hx|hx
  ·exact r.far x hx
  rw[QL]at hx;rw[hx];exact⟨m.closed (r.far here (by simp)).1 hp.1,hp.2⟩
 by_cases c:i<hs.length
 ·rw[Qu c]at h1;rw[Qu (by omega)]at h2;rw[Qu (by simp;omega)]at h3;exact r.step i x n y h1 h2 h3
 have ei:i=hs.length:=by
  have:=(Qc.mp h1).1;simp at this;omega
 subst ei;rw[Qs (Qg _),Nat.sub_self]at h1;rw[Qs (by omega),l,Nat.sub_self]at h2;rw[Qs (by simp)]at h3;simp at h1 h2 h3;rw[<-h1,<-h2,<-h3];exact e
theorem RWalk.part (r:RWalk ins gs xs ks z hs ns here) (m:Met ins gs z0 xs):∀(k i:Nat) x y,(hs++[here])[i]?=some x->(hs++[here])[i+k]?=some y->Run ins gs x ((ns.drop i).take k) y
 | 0,i,x,y,h1,h2=>by
  rw[Nat.add_zero,h1]at h2;cases h2;exact .nil
 | k+1,i,x,y,h1,h2=>by
  have l:=r.len;have hl:=(Qc.mp h2).1;rw[Qf,List.length_singleton]at hl;have hi:i<ns.length:=by omega
  obtain⟨u,hu⟩:∃u,(hs++[here])[i+1]?=some u:=⟨_,Qb (by rw[Qf,List.length_singleton];omega)⟩;rw[Xg hi,List.take_succ_cons];have s:=r.step i x _ u (by rw[Qu (by omega)]at h1;exact h1) (Qb hi) hu;refine .cons (pB (Qh s)).1 (m.st u (r.far u (Qh hu)).1) (r.part m k (i+1) u y hu ?_);rw[show i+1+k=i+(k+1) from by omega];exact h2
theorem RWalk.few (r:RWalk ins gs xs ks z hs ns here):ns.length<=xs.length:=by
 rw[<-r.len];exact Bf.d_ _ _ r.nd λx hx=>(r.far x (List.mem_append_left _ hx)).1
theorem RWalk.run (r:RWalk ins gs xs ks z hs ns here) (m:Met ins gs z0 xs) {i:Nat} (e:hs[i]?=some here):Run ins gs z (ns.take i) here/\Run ins gs here (ns.drop i) here/\i<ns.length:=by
 have hi:=(Qc.mp e).1;have l:=r.len;have e1:(hs++[here])[i]?=some here:=by rw[Qu hi];exact e
 refine⟨by have:=r.part m i 0 z here r.hd (by rw[Nat.zero_add];exact e1);simpa using this,?_,by omega⟩;have:=r.part m (ns.length-i) i here here e1 (by rw[Nat.add_sub_cancel' (by omega),<-l,Qs (Qg _),Nat.sub_self];rfl);rwa [Qr (by rw[QX];omega)]at this
end
theorem qZ (hs:List Str):(hs.zipIdx.map (·.1))=hs:=List.zipIdx_map_fst 0 hs
def oX:Sp:=λvs H Q _=>∃(F N:Addr) (ins:List Str) (gs:C4) (z0 z:Str) (xs:List Str) (ps:List (Str × Nat)),vs=[.ref F,.ref N,.str z]/\SD H F ins gs xs/\Met ins gs z0 xs/\NetOk ins gs/\H N=some (.dK (ce ps))/\NumOk ins gs xs ps/\z∈xs/\z∉ps.map (·.1) /\
 ∀(t p q:Addr) (hs ns:List Str) (here:Str) (i:Nat) (H':Hp),aw H H'->H t=none->RWalk ins gs xs (ps.map (·.1)) z hs ns here->hs[i]?=some here->H' t=some (.tup [.str "round", .ref p,.ref q])->H' p=some (.lst ((ns.take i).map V.str))->H' q=some (.lst ((ns.drop i).map V.str))->Q (.ref t) H'
section
theorem jM:FnScope ["found", "numbers", "standing", "places", "names", "here", "onward", "at"] ["found", "numbers", "standing"] (au (top 31)):=by fin2
theorem sI {f:Addr} {fd:FuncData} (Fu:Fun K "round_told" "round_told" (top 31) f fd) (T:Txt K mg TT):FnOk P w K mg base CX0 1 f fd ["found", "numbers", "standing"] oX:=by
 have S:=jM;refine Fu.ok S (by room) (λcdv A outer s H vs Q E hr h=>?_);obtain⟨F,N,ins,gs,z0,z,xs,ps,rfl,sd,met,ok,hN,num,hz,hzo,k⟩:=h;have hu:=cf hr;refine'⟨?_,?bb,?_⟩
 case bb =>
  walk_at "b";exact aH 3 S.nd ga;exact aH 4 S.nd (pe_lst ag);exact aH 5 S.nd (pv 2);refine' f_ PassesOwn.never ?_ ?_;rotate_left 2;exact(fM (dR hu (pv 5) (pv 3)));walk_at "p";exact(fh hu (pv 3) (pv 5) (aV aM (by rfl) T.n_len QW (aa (pv 4) ag ae)) rfl);exact(xP (j:=6) S.nd rfl (by z_go) (tgs:=["step"]) (cap:=[("numbers", 1)]) rfl ⟨rfl,rfl,rfl,rfl,rfl,rfl⟩ (bt (bu hu (pv 0) (pv 5))) (λ_ _ _ _=>(cE (i:=0) (show List.Nodup [("step" : Str),("numbers" : Str)] by decide +kernel) rfl (by z_go))) (λ_ _ _ _=>(dP (fM (dR hu (aC (ir (K:=K) rfl) (pv 0) am) (pv 1))))) (λ_ _ _ _=>(pv 0)));exact(bU (fz Q6 Xa Xb bR (pv 4) (aa (aC aG (aC bd (pv 6) am) am) ag)));exact aH 5 S.nd (aC aG (aC bd (pv 6) am) am);exact aH 7 S.nd (bu hu (pv 3) (pv 5));exact(aD (pe_tup (aa a7 (aa (cX io (pv 4) dD (dC (pv 7))) (aa (cX io (pv 4) (dC (pv 7)) dD) ag)) se_con)))
 x_go;have few:=met.few ok;have nd:=met.nd;refine s_seq (aY ?_);intro Pl hPl;refine aq ?_;ctx_has H Pl H1 S1 q1 aJ hPl;kt_k;refine aY (i_lst (av ⟨by simp[sizeLine],λNm hNm=>aq ?_⟩));ctx_has H1 Nm H2 S2 q2 aJ hNm;have Nm0:H Nm=none:=aw.free S1 hNm;have PN:Pl≠Nm:=aB q1 hNm;kt_k;refine aY (ad rfl (aq ?_));kt_k;let I21:IvF:=λm U H'=>∃(hs ns:List Str) (here:Str) (x6 x7:Option V),U=[some (.ref F),some (.ref N),some (.str z),some (.ref Pl),some (.ref Nm),some (.str here),x6,x7]/\m=xs.length+1-hs.length/\aw H H'/\H' Pl=some (.dK (ce hs.zipIdx))/\H' Nm=some (.lst (ns.map V.str))/\RWalk ins gs xs (ps.map (·.1)) z hs ns here
 refine⟨I21,
  ⟨_,[],[],z,_,_,rfl,rfl,S1.trans S2,S2 _ _ q1,q2,rfl,rfl,by simp,λx hx=>by rw[Xo,QL]at hx;rw[hx];exact⟨hz,hzo⟩,λi x n y h=>(nomatch h)⟩,?_⟩
 rintro m U H' ⟨hs,ns,here,x6,x7,rfl,rfl,SH,hPl',hNm',rw⟩;have lrw:=rw.len;have frw:=rw.few;have kk:hs.zipIdx.map (·.1)=hs:=qZ hs;obtain⟨hx,hxo⟩:=rw.far here (by simp);by_cases cin:here∈hs
 ·obtain⟨i,hi,ei⟩:=Ql.mp cin;have e1:hs[i]?=some here:=by rw[Qb hi,ei]
  have vl:aU (ce hs.zipIdx) (Sum.inr here)=some (.int i):=m8 (p:=(here,i)) (by rw[kk];exact rw.nd) (List.mem_zipIdx_iff_getElem?.mpr e1);have dg:bz H' Pl (.str here) (some (.int i)):=.inl ⟨_,Sum.inr here,.inl hPl',rfl,vl.symm⟩;refine aQ (dU (ad rfl (ad rfl ⟨Pl,_,rfl,dg,_,rfl,ifF rfl ?_⟩)));kt_k;refine aY (i_dget (ad rfl (ad rfl ⟨Pl,_,rfl,dg,aq ?_⟩)));refine bE (i_tup (af (i_c (af (i_sl (ad rfl (i_nopart (i_part (ad rfl ⟨_,rfl,pK (SqL.of hNm') λp hp=>?_⟩)))))))));rw[cut_to (by rw[Qa];omega)];ctx_has H' p H3 S3 q3 aJ hp;refine af (i_sl (ad rfl (i_part (ad rfl ⟨_,rfl,i_nopart (pK (SqL.of (S3 _ _ hNm')) λq hq=>?_)⟩))));rw[tV (by rw[Qa];omega)];ctx_has H3 q H4 S4 q4 aJ hq;refine av ⟨by simp[sizeLine],λt ht=>?_⟩;ctx_has H4 t H5 S5 q5 aJ ht;have S05:=((SH.trans S3).trans S4).trans S5;exact k t p q hs ns here i H5 S05 (aw.free ((SH.trans S3).trans S4) ht) rw e1 q5 (by rw[(S4.trans S5) _ _ q3,List.map_take]) (by rw[S5 _ _ q4,List.map_drop])
 have dg:bz H' Pl (.str here) none:=.inl ⟨_,Sum.inr here,.inl hPl',rfl,(bZ.mpr (by rw[kk];exact cin)).symm⟩;refine aQ (dU (ad rfl (ad rfl ⟨Pl,_,rfl,dg,_,rfl,ifT rfl ?_⟩)));refine⟨_,λ_ _ h=>h,?_⟩;kt_k;have lz:(ce hs.zipIdx).length=hs.length:=by have:=congrArg List.length (fm hs.zipIdx);rw[kk]at this;unfold az at this;simpa using this
 refine gA (i_cb (af (ad rfl (av ⟨Nm,_,rfl,.inl (SqL.of hNm'),ad rfl (ad rfl ⟨Pl,_,rfl,gp.k (k:=Sum.inr here) hPl' (by omega),?_⟩)⟩))));rw[Qa,<-lrw,m9 (by rw[kk];exact cin),show hs.zipIdx++[(here,hs.length)]=(hs++[here]).zipIdx by rw[List.zipIdx_append];simp];have SH3:aw H (upd H' Pl (.dK (ce (hs++[here]).zipIdx))):=bh SH hPl;have hPl3:upd H' Pl (.dK (ce (hs++[here]).zipIdx)) Pl=some (.dK (ce (hs++[here]).zipIdx)):=ai;have hNm3:upd H' Pl (.dK (ce (hs++[here]).zipIdx)) Nm=some (.lst (ns.map V.str)):=by rw[ao PN.symm];exact hNm'
 generalize upd H' Pl (.dK (ce (hs++[here]).zipIdx))=H3 at *;obtain⟨as,r,las,sts⟩:=sd.same SH3;obtain⟨ix,hix,eix⟩:=Ql.mp hx;have ex:xs[ix]?=some here:=by rw[Qb hix,eix]
 obtain⟨b,eb⟩:∃b,as[ix]?=some b:=⟨_,Qb (by omega)⟩;obtain⟨vs,hvs,pvs⟩:=sts ix here b ex eb;have lvs:vs.length=(ak ins gs here).length:=by have:=aP pvs;unfold bO at this;rwa [Qa]at this
 have l7:=bQ ins gs here;have g7:=ok.g7;have hN3:=SH3 _ _ hN;kt_k;refine aY (i_comp (s_list (i_dget (ad rfl (ad rfl ⟨F,_,rfl,fq r nd ex eb,b,rfl,⟨_,SqL.of hvs⟩,λL hL=>?_⟩)))));let I22:IvC:=λm H'' ys=>aw H3 H''/\H'' L=some (.lst ys)/\Paired (lX H3) ys (((ak ins gs here).take m).filter λp=>decide (p.2∉ps.map (·.1)));refine cR (xs:=vs) I22 ⟨ap hL,ai,by simp;exact .nil⟩ (λm H'' ys p=>⟨p.2.1,SqL.of (p.1 _ _ hvs)⟩) (λm v H'' ys e p=>?_) (λH'' ys p=>?_)
 ·obtain⟨Sm,hd,pr⟩:=p;obtain⟨p,b2,hp,rfl,hb2⟩:=dj pvs e;have hm:m<vs.length:=(Qc.mp e).1;have tk:((ak ins gs here).take (m+1)).filter (λp=>decide (p.2∉ps.map (·.1)))=((ak ins gs here).take m).filter (λp=>decide (p.2∉ps.map (·.1)))++[p].filter (λp=>decide (p.2∉ps.map (·.1))):=by rw[QV,hp,List.filter_append];rfl
  have dgN:bz H'' N (.str p.2) (aU (ce ps) (Sum.inr p.2)):=.inl ⟨_,Sum.inr p.2,.inl (Sm _ _ hN3),rfl,rfl⟩;refine aq ⟨by repeat' (first|exact trivial|refine⟨rfl,?_⟩),?_⟩;refine aQ (dU (aA (ad rfl (i_c (bg (Sm _ _ hb2) rfl (ad rfl ⟨N,_,rfl,dgN,_,rfl,?_⟩))))));by_cases c:p.2∈ps.map (·.1)
  ·refine ifF ?_ ?_
   ·cases q:aU (ce ps) (Sum.inr p.2) with
    | none=>exact absurd c (bZ.mp q)
    | some _=>rfl
   refine⟨vs.length-(m+1),by omega,rfl,by omega,Sm,hd,?_⟩;rw[tk,List.filter_cons_of_neg (by simpa using c),List.filter_nil,Xn];exact pr
  refine ifT (by rw[bZ.mpr c];rfl) ?_;have lp:=aP pr;have lf:=List.length_filter_le (λp:Str × Str=>decide (p.2∉ps.map (·.1))) ((ak ins gs here).take m);rw[Qq]at lf;refine ad rfl (cw.mk hd hm (by omega) ⟨bh Sm hL,ai,?_⟩);rw[tk,List.filter_cons_of_pos (by simpa using c),List.filter_nil];exact ed pr ⟨b2,rfl,hb2⟩
 obtain⟨Sm,hd,pr⟩:=p;rw[lvs,Qr (Qg _)]at pr;have hPl4:=Sm _ _ hPl3;have hNm4:=Sm _ _ hNm3;have SH4:=SH3.trans Sm
 obtain⟨p0,e0⟩:∃p0,(onw ins gs (ps.map (·.1)) here)[0]?=some p0:=by
  obtain⟨p,hp,hn⟩:=num.out here hx hxo;have:p∈onw ins gs (ps.map (·.1)) here:=List.mem_filter.mpr ⟨hp,by simpa using hn⟩
  cases q:onw ins gs (ps.map (·.1)) here with
  | nil=>rw[q]at this;cases this
  | cons p' _=>exact⟨p',rfl⟩
 have lp:=aP pr
 have l0:0<ys.length:=by
  rw[lp];exact(Qc.mp e0).1
 obtain⟨v0,ev⟩:∃v0,ys[0]?=some v0:=⟨_,Qb l0⟩;obtain⟨p1,e1,b0,rfl,hb0⟩:=c_ pr 0 v0 ev
 have:p1=p0:=by
  unfold onw at e0;rw[e0]at e1;cases e1;rfl
 subst this;have hb4:=Sm _ _ hb0;refine aq ?_;kt_k;refine s_drop (i_bm (ad rfl ⟨i_tyL hNm4,af (aA (aA (ad rfl (i_c (bD (SqL.of hd) (cg (j:=0) ev) (i_c (bg hb4 rfl (av (hU hNm4 (by rw[Qa];omega) ?_)))))))))⟩));have NL:L≠Nm:=λz=>by rw[z,hNm3]at hL;cases hL
 have b0N:b0≠Nm:=λz=>by rw[z,hNm3]at hb0;cases hb0
 refine aY (aA (aA (ad rfl (i_c (bD (SqL.of (by rw[ao NL];exact hd)) (cg (j:=0) ev) (i_c (bg (by rw[ao b0N];exact hb4) rfl (aq ?_))))))));exact⟨xs.length+1-(hs++[here]).length,by simp;omega,hs++[here],ns++[p1.1],p1.2,_,_,rfl,rfl,bh SH4 Nm0,by rw[ao PN];exact hPl4,by rw[ai];simp,rw.go met cin e0⟩
end
def vE (TL:Addr):Sp:=λvs H Q _=>∃a li lg ins gvs gs z,vs=[.ref a,.str z]/\NAt H a li lg ins gvs gs/\NetOk ins gs/\StOk (aj ins gs).length z/\d6 TL du H /\
 (∀(r:Str) (xs:List Str) H',Tk TL H H'->Met ins gs z xs->jF ins gs z r->Q (.str r) H')/\(∀(xs:List Str) H',Tk TL H H'->Met ins gs z xs->(∀r,¬jF ins gs z r)->Q .non H')
def oY (TL:Addr):Sp:=λvs H Q _=>∃a li lg ins gvs gs z r,vs=[.ref a,.str z]/\NAt H a li lg ins gvs gs/\NetOk ins gs/\StOk (aj ins gs).length z/\d6 TL du H/\jF ins gs z r /\
 ∀(p:Addr) (xs:List Str) (ps:List (Str × Nat)) (bs:C3) (kf:Addr->Str × Int) H',Tk TL H H'->H p=none->Met ins gs z xs->NumOk ins gs xs ps->(bs.map kf).Perm (ps.map λp=>(p.1,(p.2:Int)))->bs.Pairwise (λx y=>leT (kf x).1 (kf y).1)->(∀b∈bs,H' b=some (.tup [.str (kf b).1,.int (kf b).2]))->H' p=some (.lst (bs.map V.ref))->Q (.ref p) H'
inductive Told (ins:List Str) (gs:C4) (z:Str) (H:Hp):V->Prop where
 | none {r:Str}:jF ins gs z r->Told ins gs z H .non
 | rests {t p q:Addr} {os ps:List Str} {x y:Str}:H t=some (.tup [.str "rests", .ref p,.ref q])->H p=some (.lst (os.map V.str))->H q=some (.lst (ps.map V.str))->os.length<=2048->ps.length<=2048->Run ins gs z os x->Run ins gs z ps y->x≠y->ak ins gs x=[]->ak ins gs y=[]->Told ins gs z H (.ref t)
 | round {t p q:Addr} {os ps:List Str} {x:Str}:H t=some (.tup [.str "round", .ref p,.ref q])->H p=some (.lst (os.map V.str))->H q=some (.lst (ps.map V.str))->os.length<=128->ps.length<=128->Run ins gs z os x->Run ins gs x ps x->ps≠[]->Told ins gs z H (.ref t)
def rL (TL:Addr):Sp:=λvs H Q _=>∃a li lg ins gvs gs z,vs=[.ref a,.str z]/\NAt H a li lg ins gvs gs/\NetOk ins gs/\StOk (aj ins gs).length z/\d6 TL du H /\
 ∀v H',Tk TL H H'->Told ins gs z H' v->Q v H'
theorem u8 (q:tl U H λx H1=>∃a kvs,x=.ref a/\H1 a=some (.dK kvs)/\∀r,H1 r=none->Q (.ref r) (upd H1 r (cZ (l_ a)))):rq tl U H Q:=q
section
theorem mG:FnScope ["net", "standing", "found", "rests"] ["net", "standing"] (au (top 29)):=by fin2
variable {fd:FuncData} {f TL:Addr}
theorem w4 (Fu:Fun K "one_rest" "one_rest" (top 29) f fd) (T:Txt K mg TT) (f_check_standing:Fn P w K mg base "check_standing" ["net", "thing"] 3 (gu .non)) (f_steps_found:Fn P w K mg base "steps_found" ["net", "standing"] 15 (cN TL)) (f_rests_in:Fn P w K mg base "rests_in" ["steps"] 1 dN) (f_most_switchings:Fn P w K mg base "most_switchings" ["found"] 2 kP) :
  FnOk P w K mg base CX0 16 f fd ["net", "standing"] (vE TL):=by
 have S:=mG;refine Fu.ok S (by room) (λcdv A outer s H vs Q E hr h=>?_);obtain⟨a,li,lg,ins,gvs,gs,z,rfl,NA,ok,st,tb,k1,k2⟩:=h;have hu:=cf hr;refine'⟨?_,?bb,?_⟩
 case bb =>
  walk_at "b";exact(bU (aE f_check_standing hr (aa (pv 0) (aa (pv 1) ag ae) ae)));exact aH 2 S.nd (aE f_steps_found hr (aa (pv 0) (aa (pv 1) ag ae) ae));exact aH 3 S.nd (aE f_rests_in hr (aa (pv 2) ag ae));exact(PW.pt (eT (aF gb (aV aM (by rfl) T.n_len QW (aa (pv 3) ag ae)) am (aN _)) (d9 (fM (dR hu (pv 1) (aE f_most_switchings hr (aa (pv 2) ag ae)))))));exact(aD bX);exact(aD (aC bd (pv 3) am))
 x_go;lk;refine⟨a,li,lg,ins,gvs,gs,z,rfl,NA,ok,st,λH0 S0=>?_⟩;have NA0:=NA.same S0;have tb0:=c7 tb S0;lk;refine⟨a,li,lg,ins,gvs,gs,z,rfl,NA0,ok,st,tb0,λF as n H1 t1 hF0 ln las hF1 sts=>?_⟩;obtain⟨xs,exs,lxs,met,few⟩:=lC ok st ln;rw[exs]at hF1 sts;have t01:Tk TL H H1:=(Tk.of tb S0).trans t1;have sd:SD H1 F ins gs xs:=⟨as,.inl hF1,by omega,λi x b e1 e2=>sts i (Sum.inr x) b (bq.mpr ⟨x,e1,rfl⟩) e2⟩;lk;refine⟨F,xs,as,λh=>(ak ins gs h).length,rfl,.inl hF1,by omega,few,met.nd,λi x b e1 e2=>?_,λRs ss H2 S2 hp pm so hp2=>?_⟩
 ·obtain⟨vs,h1,h2⟩:=sts i (Sum.inr x) b (bq.mpr ⟨x,e1,rfl⟩) e2;exact⟨vs,h1,by have:=aP h2;unfold stN bO at this;rwa [Qa]at this⟩
 have t02:Tk TL H H2:=t01.trans (Tk.of t01.tab S2);obtain⟨ndr,rmem⟩:=gB met pm;generalize (ss.filter λh=>decide ((ak ins gs h).length=0))=rs at *
 have non:∀{r},jF ins gs z r->rs=[r]/\∃n,eG ins gs z n:=λ{r} ⟨ys,m',h,l⟩=>by
  have:=met.one m';subst this;exact⟨mQ ndr λx=>(rmem x).trans (h x),l⟩
 lk;rw[Qa];by_cases c1:rs.length=1
 ·refine ifF (by rw[c1];rfl) ?_;refine aQ (dU (ad rfl ?_));lk;refine⟨F,ins,gs,z,xs,rfl,sd.same S2,met,ok,λN ps H3 S3 hN0 hN num=>?_⟩;have t03:Tk TL H H3:=t02.trans (Tk.of t02.tab S3);have dg:bz H3 N (.str z) (aU (ce ps) (Sum.inr z)):=.inl ⟨_,Sum.inr z,.inl hN,rfl,rfl⟩;refine⟨N,_,rfl,dg,_,rfl,?_⟩;by_cases c2:z∈ps.map (·.1)
  ·refine ifF ?_ ?_
   ·cases q:aU (ce ps) (Sum.inr z) with
    | none=>exact absurd c2 (bZ.mp q)
    | some _=>rfl
   obtain⟨r,er⟩:∃r,rs=[r]:=List.length_eq_one_iff.mp c1;subst er;lk;refine bD (SqL.of (S3 _ _ hp2)) (cg (j:=0) rfl) (k1 r xs H3 t03 met ⟨xs,met,λx=>(rmem x).symm.trans QL,(num.long_of met met.start).mp c2⟩)
  refine ifT (by rw[bZ.mpr c2];rfl) ?_;lk;exact k2 xs H3 t03 met λr o=>c2 ((num.long_of met met.start).mpr (non o).2)
 refine ifT (by simpa using λz=>c1 (by omega)) ?_;lk;exact k2 xs H2 t02 met λr o=>c1 (by rw[(non o).1];rfl)
theorem jN:FnScope ["net", "standing", "found", "numbers"] ["net", "standing"] (au (top 30)):=by fin2
theorem sJ (Fu:Fun K "rest_paper" "rest_paper" (top 30) f fd) (T:Txt K mg TT) (f_check_standing:Fn P w K mg base "check_standing" ["net", "thing"] 3 (gu .non)) (f_steps_found:Fn P w K mg base "steps_found" ["net", "standing"] 15 (cN TL)) (f_rests_in:Fn P w K mg base "rests_in" ["steps"] 1 dN) (f_most_switchings:Fn P w K mg base "most_switchings" ["found"] 2 kP) :
  FnOk P w K mg base CX0 16 f fd ["net", "standing"] (oY TL):=by
 have S:=jN;refine Fu.ok S (by room) (λcdv A outer s H vs Q E hr h=>?_);obtain⟨a,li,lg,ins,gvs,gs,z,r,rfl,NA,ok,st,tb,one,k⟩:=h;have hu:=cf hr;refine'⟨?_,?bb,?_⟩
 case bb =>
  walk_at "b";exact(bU (aE f_check_standing hr (aa (pv 0) (aa (pv 1) ag ae) ae)));exact aH 2 S.nd (aE f_steps_found hr (aa (pv 0) (aa (pv 1) ag ae) ae));exact aH 3 S.nd (aE f_most_switchings hr (aa (pv 2) ag ae));exact(PW.pt (eT (aF gb (aV aM (by rfl) T.n_len QW (aa (aE f_rests_in hr (aa (pv 2) ag ae)) ag se_call)) am (aN _)) (d9 (fM (dR hu (pv 1) (pv 3))))));exact(aD bX);exact(aD (aV (oI rfl) (by rfl) T.n_sorted PyProof.Rows.boot_sorted (aa (se (pv 3)) ag se_call)))
 x_go;lk;refine⟨a,li,lg,ins,gvs,gs,z,rfl,NA,ok,st,λH0 S0=>?_⟩;have NA0:=NA.same S0;have tb0:=c7 tb S0;lk;refine⟨a,li,lg,ins,gvs,gs,z,rfl,NA0,ok,st,tb0,λF as n H1 t1 hF0 ln las hF1 sts=>?_⟩;obtain⟨xs,exs,lxs,met,few⟩:=lC ok st ln;rw[exs]at hF1 sts;have t01:Tk TL H H1:=(Tk.of tb S0).trans t1;have sd:SD H1 F ins gs xs:=⟨as,.inl hF1,by omega,λi x b e1 e2=>sts i (Sum.inr x) b (bq.mpr ⟨x,e1,rfl⟩) e2⟩;lk;refine⟨F,ins,gs,z,xs,rfl,sd,met,ok,λN ps H2 S2 hN0 hN num=>?_⟩;obtain⟨as2,r2,las2,sts2⟩:=sd.same S2;lk;refine⟨F,xs,as2,λh=>(ak ins gs h).length,rfl,r2,las2,few,met.nd,λi x b e1 e2=>?_,λRs ss H3 S3 hp pm so hp2=>?_⟩
 ·obtain⟨vs,h1,h2⟩:=sts2 i x b e1 e2;exact⟨vs,h1,by have:=aP h2;unfold bO at this;rwa [Qa]at this⟩
 have t03:Tk TL H H3:=(t01.trans (Tk.of t01.tab S2)).trans (Tk.of (c7 t01.tab S2) S3);obtain⟨ndr,rmem⟩:=gB met pm;obtain⟨ys,m',h,l⟩:=id one;have e:=met.one m';subst e;have er:=mQ ndr λx=>(rmem x).trans (h x);rw[er]at hp2;have c2:=(num.long_of met met.start).mpr l;lk;refine ifF rfl ?_;have hN3:=S3 _ _ hN;have dg:bz H3 N (.str z) (aU (ce ps) (Sum.inr z)):=.inl ⟨_,Sum.inr z,.inl hN3,rfl,rfl⟩;refine aQ (dU (ad rfl (ad rfl ⟨N,_,rfl,dg,_,rfl,?_⟩)));refine ifF ?_ ?_
 ·cases q:aU (ce ps) (Sum.inr z) with
  | none=>exact absurd c2 (bZ.mp q)
  | some _=>rfl
 have lps:ps.length<=xs.length:=by
  have:=Bf.d_ (ps.map (·.1)) xs num.nd λx hx=>by
   obtain⟨p,hp,rfl⟩:=Qp.mp hx;exact num.sub p hp
  rwa [Qa]at this
 refine bE (i_cb (af (u8 (ad rfl ⟨N,_,rfl,hN3,λv hv=>av ?_⟩))));ctx_has H3 v H4 S4 q4 aJ hv;refine⟨v,N,ps.map λ(p:Str × Nat)=>((p.1,(p.2:Int)):Str × Int),rfl,q4,S4 _ _ hN3,by rw[Qa];omega,λe=>?_,λp bs kf H5 S5 hp5 pm5 so5 tup hl=>?_⟩
 ·rw[List.map_eq_nil_iff]at e;rw[e]at c2;cases c2
 have t04:=t03.trans (Tk.of t03.tab S4);exact k p xs ps bs kf H5 (t04.trans (Tk.of t04.tab S5)) (t04.free hp5) met num pm5 so5 tup hl
theorem ie:FnScope ["net", "standing", "found", "rests", "numbers"] ["net", "standing"] (au (top 32)):=by fin2
theorem uP (Fu:Fun K "told_parting" "told_parting" (top 32) f fd) (T:Txt K mg TT) (f_check_standing:Fn P w K mg base "check_standing" ["net", "thing"] 3 (gu .non)) (f_steps_found:Fn P w K mg base "steps_found" ["net", "standing"] 15 (cN TL)) (f_rests_in:Fn P w K mg base "rests_in" ["steps"] 1 dN) (f_order_to:Fn P w K mg base "order_to" ["found", "start", "other"] 1 rN) (f_most_switchings:Fn P w K mg base "most_switchings" ["found"] 2 kP) (f_round_told:Fn P w K mg base "round_told" ["found", "numbers", "standing"] 1 oX) :
  FnOk P w K mg base CX0 16 f fd ["net", "standing"] (rL TL):=by
 have S:=ie;refine Fu.ok S (by room) (λcdv A outer s H vs Q E hr h=>?_);obtain⟨a,li,lg,ins,gvs,gs,z,rfl,NA,ok,st,tb,k⟩:=h;have hu:=cf hr;refine'⟨?_,?bb,?_⟩
 case bb =>
  walk_at "b";exact(bU (aE f_check_standing hr (aa (pv 0) (aa (pv 1) ag ae) ae)));exact aH 2 S.nd (aE f_steps_found hr (aa (pv 0) (aa (pv 1) ag ae) ae));exact aH 3 S.nd (aE f_rests_in hr (aa (pv 2) ag ae));exact(aF vR (aV aM (by rfl) T.n_len QW (aa (pv 3) ag ae)) am (aN _));exact(aD (pe_tup (aa a7 (aa (aE f_order_to hr (aa (pv 2) (aa (pv 1) (aa (aC bd (pv 3) am) ag) ae) ae)) (aa (aE f_order_to hr (aa (pv 2) (aa (pv 1) (aa (aC bd (pv 3) am) ag) ae) ae)) ag se_call) se_call) se_con)));exact aH 4 S.nd (aE f_most_switchings hr (aa (pv 2) ag ae));exact(aD (i7 (fM (sk hu (pv 1) (pv 4))) bX (aE f_round_told hr (aa (pv 2) (aa (pv 4) (aa (pv 1) ag ae) ae) ae))))
 x_go;lk;refine⟨a,li,lg,ins,gvs,gs,z,rfl,NA,ok,st,λH0 S0=>?_⟩;have NA0:=NA.same S0;have tb0:=c7 tb S0;lk;refine⟨a,li,lg,ins,gvs,gs,z,rfl,NA0,ok,st,tb0,λF as n H1 t1 hF0 ln las hF1 sts=>?_⟩;obtain⟨xs,exs,lxs,met,few⟩:=lC ok st ln;rw[exs]at hF1 sts;have t01:Tk TL H H1:=(Tk.of tb S0).trans t1;have sd:SD H1 F ins gs xs:=⟨as,.inl hF1,by omega,λi x b e1 e2=>sts i (Sum.inr x) b (bq.mpr ⟨x,e1,rfl⟩) e2⟩;lk;refine⟨F,xs,as,λh=>(ak ins gs h).length,rfl,.inl hF1,by omega,few,met.nd,λi x b e1 e2=>?_,λRs ss H2 S2 hp pm so hp2=>?_⟩
 ·obtain⟨vs,h1,h2⟩:=sts i (Sum.inr x) b (bq.mpr ⟨x,e1,rfl⟩) e2;exact⟨vs,h1,by have:=aP h2;unfold stN bO at this;rwa [Qa]at this⟩
 have t02:Tk TL H H2:=t01.trans (Tk.of t01.tab S2);obtain⟨ndr,rmem⟩:=gB met pm;generalize (ss.filter λh=>decide ((ak ins gs h).length=0))=rs at *;lk;rw[Qa]
 have pth:∀x∈rs,∃ns,Path (ak ins gs) xs z x ns/\ns.length<=2048:=λx hx=>by
  obtain⟨i,hi,e⟩:=Ql.mp ((rmem x).mp hx).1;obtain⟨ns,p,l⟩:=met.path i x (by rw[Qb hi,e]);exact⟨ns,p,by omega⟩
 by_cases c1:1<rs.length
 ·refine ifT (QJ (by omega)) ?_
  match rs,c1 with
  | x::y::rs,_=>?_
  have hx:=(rmem x).mp (by simp);have hy:=(rmem y).mp (by simp);have ne:x≠y:=λe=>by rw[e]at ndr;simp at ndr
  obtain⟨os,p1,l1⟩:=pth x (by simp);obtain⟨os2,p2,l2⟩:=pth y (by simp);lk;refine bD (SqL.of hp2) (cg (j:=0) rfl) ?_;lk;obtain⟨as2,r2,las2,sts2⟩:=sd.same S2;refine⟨F,as2,ak ins gs,xs,z,x,os,rfl,r2,las2,few,met.nd,λh=>QM (bQ ins gs h) ok.g7,sts2,p1,by omega,λl H3 S3 hl0 hl3=>?_⟩;lk;refine bD (SqL.of (S3 _ _ hp2)) (cg (j:=1) rfl) ?_;lk;obtain⟨as3,r3,las3,sts3⟩:=(sd.same S2).same S3;refine⟨F,as3,ak ins gs,xs,z,y,os2,rfl,r3,las3,few,met.nd,λh=>QM (bQ ins gs h) ok.g7,sts3,p2,by omega,λl' H4 S4 hl0' hl4=>?_⟩;lk;refine⟨by simp[sizeLine],λt ht=>?_⟩;ctx_has H4 t H5 S5 q5 aJ ht;exact k _ H5 (t02.trans (Tk.of t02.tab (S3.trans (S4.trans S5)))) (.rests q5 ((S4.trans S5) _ _ hl3) (S5 _ _ hl4) l1 l2 (met.run p1).2 (met.run p2).2 ne hx.2 hy.2)
 refine ifF (Qx (by omega)) ?_;lk;refine⟨F,ins,gs,z,xs,rfl,sd.same S2,met,ok,λN ps H3 S3 hN0 hN num=>?_⟩;have t03:Tk TL H H3:=t02.trans (Tk.of t02.tab S3);have dg:bz H3 N (.str z) (aU (ce ps) (Sum.inr z)):=.inl ⟨_,Sum.inr z,.inl hN,rfl,rfl⟩;kt_k;refine bE (i_ifE (aQ (wp (ad rfl (ad rfl ⟨N,_,rfl,dg,_,rfl,?_⟩)))));by_cases c2:z∈ps.map (·.1)
 ·refine ifT ?_ ?_
  ·cases q:aU (ce ps) (Sum.inr z) with
   | none=>exact absurd c2 (bZ.mp q)
   | some _=>rfl
  obtain⟨n,l⟩:=(num.long_of met met.start).mp c2;obtain⟨os,y,ru,ey⟩:=l.stop st;have hy:=(rmem y).mpr ⟨met.runs ru met.start,ey⟩
  have er:rs=[y]:=by
   match rs,c1,hy with
   | [],_,hy=>cases hy
   | [x],_,hy=>rw[QL.mp hy]
   | x::y::rs,c1,_=>simp at c1
  subst er;exact k _ H3 t03 (.none ⟨xs,met,λx=>(rmem x).symm.trans QL,n,l⟩)
 refine ifF (by rw[bZ.mpr c2];rfl) ?_;lk;refine⟨F,N,ins,gs,z,z,xs,ps,rfl,(sd.same S2).same S3,met,ok,hN,num,met.start,c2,λt p q hs ns here i H4 S4 ht rwk ei q1 q2 q3=>?_⟩;obtain⟨r1,r2,li⟩:=rwk.run met ei;have l8:=met.few7 ok;have lw:=rwk.few;exact k _ H4 (t03.trans (Tk.of t03.tab S4)) (.round q1 q2 q3 (by rw[Qq];omega) (by rw[QX];omega) r1 r2 λe=>by have:=congrArg List.length e;rw[QX,Q8]at this;omega)
end
def nK (K:PySem.W.Frag):Sp:=λvs H Q _=>∃(s:Addr) (ns:List Int) (k:Nat),vs=[.ref s,.int (k:Int)]/\SqL K H s (ns.map V.int)/\k<=100/\∀(c:Int),Q (.int c) H
theorem pV {ws:List Str} {r:Int} (h0:0<=r) (h1:r<ws.length):∃n∈ws,atI (ws.map V.str) r=some (.str n):=by
 have hr:r.toNat<ws.length:=by omega
 refine⟨ws[r.toNat],List.getElem_mem hr,?_⟩;have e:r=((r.toNat:Nat):Int):=by omega
 have q:=cg (xs:=ws.map V.str) (j:=r.toNat) (v:=.str ws[r.toNat]) (by rw[Qm,Qb hr];rfl);rw[<-e]at q;exact q
def oZ:Sp:=λvs H Q _=>∃(c:Int) (k:Nat),vs=[.int c,.int (k:Int)]/\k<=100/\∀c':Int,Q (.int c') H
def rK:Sp:=λvs H Q _=>∃n:Str,vs=[.str n]/\∀t H',aw H H'->H' t=some (.tup [.str "wire", .str n])->Q (.ref t) H'
def kO (d:Nat):Sp:=λvs H Q _=>∃(c:Int) (l:Addr) (ns:List Str) (m:Nat),vs=[.int c,.ref l,.int (m:Int)]/\m+1<=d/\H l=some (.lst (ns.map V.str))/\ns≠[]/\ns.length<=100/\∀t u (r:Rl) (e:Int) H',aw H H'->H' t=some (.tup [u,.int e])->RAt H' u r->r.dep<=m+1->r.ok ns->Q (.ref t) H'
section
theorem mJ:FnScope ["script", "k"] ["script", "k"] (au (top 34)):=by fin2
variable {fd:FuncData}
theorem uU {f:Addr} (Fu:Fun K "_law_cell" "_law_cell" (top 34) f fd) (T:Txt K mg TT):FnOk P w K mg base CX0 1 f fd ["script", "k"] (nK K):=by
 have S:=mJ;refine Fu.ok S (by room) (λcdv A outer s H vs Q E hr h=>?_);obtain⟨s,ns,k,rfl,hS,k100,q⟩:=h
 refine⟨_,(pss_cons (ps_if (aF kg (pv 1) (aV aM (by rfl) T.n_len QW (aa (pv 0) ag ae)) (aN _)) (aS (aD (aC bd (pv 0) (pv 1)))) pss_nil)
  (aS (aD (aR b_ (aR b_ (aR dq (aR dq am (pv 1)) (pv 1)) (aR dq am (pv 1))) am)))),?_⟩
 x_go;lk;refine⟨_,_,rfl,Or.inl hS,?_⟩;lk;rw[Qa];by_cases c:k<ns.length
 ·refine ifT (QJ (by omega)) ?_;lk;refine bD (v:=.int ns[k]) hS (cg (by rw[Qm,Qb c];rfl)) ?_;exact q _
 refine ifF (Qx (by omega)) ?_;lk
 first
 | exact q _
 | (refine i_rI (.inl ⟨by omega,by omega⟩) ?_;lk;exact q _)
theorem kZ:FnScope ["cell", "k", "number"] ["cell", "k"] (au (top 35)):=by fin2
theorem sK {f:Addr} (Fu:Fun K "_law_mixed" "_law_mixed" (top 35) f fd) (T:Txt K mg TT):FnOk P w K mg base CX0 1 f fd ["cell", "k"] oZ:=by
 have S:=kZ;refine Fu.ok S (by room) (λcdv A outer s H vs Q E hr h=>?_);obtain⟨c,k,rfl,k100,q⟩:=h
 refine⟨_,(pss_cons (aH 2 S.nd (aR dG (aR b_ (aR b_ (aR b_ (aR dq (pv 0) am) (aR dq (aR dq am (pv 1)) (pv 1))) (aR dq am (pv 1))) am) am))
  (pss_cons (aH 2 S.nd (aR dG (aR dq (pv 2) (pv 2)) am))
  (aS (aD (aR b_ (aR dq (pv 2) am) (aR dG (pv 0) am)))))),?_⟩
 x_go;lk;exact q _
theorem mH:FnScope ["name"] ["name"] (au (top 36)):=by fin2
theorem uO {f:Addr} (Fu:Fun K "_law_wire" "_law_wire" (top 36) f fd) (T:Txt K mg TT):FnOk P w K mg base CX0 1 f fd ["name"] rK:=by
 have S:=mH;refine Fu.ok S (by room) (λcdv A outer s H vs Q E hr h=>?_);obtain⟨n,rfl,q⟩:=h;refine⟨_,(aS (aD (pe_tup (aa a7 (aa (pv 0) ag ae) se_con)))),?_⟩;x_go;lk;exact⟨by simp[sizeLine],λt ht=>q t _ (ap ht) ai⟩
theorem mI:FnScope ["cell", "names", "depth", "kind", "rest", "one", "other"] ["cell", "names", "depth"] (au (top 37)):=by fin2
theorem mS {f:Addr} {fd:FuncData} (Fu:Fun K "_law_rule" "_law_rule" (top 37) f fd) (T:Txt K mg TT) (f_law_wire:Fn P w K mg base "_law_wire" ["name"] 1 rK) (hm:mg "_law_rule" = some (.ref f)) (hk:PySem.W.keepIn K (.ref f)=true) (hb:fI K fd ["cell", "names", "depth"] []):∀d,FnOk P w K mg base CX0 (d+1) f fd ["cell", "names", "depth"] (kO d)
 | 0=>fR λvs H Q E ⟨c,l,ns,m,_,h,_⟩=>by omega
 | d+1=>by
  have S:=mI;have f_law_rule:Fn P w K mg base "_law_rule" ["cell", "names", "depth"] (d+1) (kO d):=⟨f,fd,mS Fu T f_law_wire hm hk hb d,hm,hk,hb⟩;refine Fu.ok S (λvs H Q E h=>?_) (λcdv A outer s H vs Q E hr h=>?_)
  ·obtain⟨c,l,ns,m,rfl,_⟩:=h;rfl
  obtain⟨c,l,ns,m,rfl,hd,hl,ne,few,q⟩:=h;have hu:=cf hr;refine'⟨?_,?bb,?_⟩
  case bb =>
   walk_at "b";exact aH 3 S.nd (aR dG (pv 0) am);exact aH 4 S.nd (aR fj (pv 0) am);exact(PW.pt (eT (aF cG (pv 2) am (aN _)) (d9 (aF kg (pv 3) am (aN _)))));exact(aD (pe_tup (aa (aE f_law_wire hr (aa (aC bd (pv 1) (aR dG (pv 4) (aV aM (by rfl) T.n_len QW (aa (pv 1) ag ae)))) ag)) (aa (aR fj (pv 4) (aV aM (by rfl) T.n_len QW (aa (pv 1) ag ae))) ag) se_call)));exact(nS (aE f_law_rule hr (aa (pv 4) (aa (pv 1) (aa (aR ly (pv 2) am) ag) ae) ae)) (gG rfl (aZ (bG 5 S.nd) (aZ (bG 4 S.nd) cT))));exact(aF kg (pv 3) am (aN _));refine' aD ?e
   case e =>
    walk_at "q";exact(pv 5);exact(pv 4)
   exact(nS (aE f_law_rule hr (aa (pv 4) (aa (pv 1) (aa (aR ly (pv 2) am) ag) ae) ae)) (gG rfl (aZ (bG 6 S.nd) (aZ (bG 4 S.nd) cT))));refine' aD ?e
   case e =>
    walk_at "q";exact(aC bd (pe_lst (aa a7 (aa a7 ag se_con) se_con)) (aR ly (pv 3) am));exact(pv 5);exact(pv 6);exact(pv 4)
  x_go;have k0:0<=c % 5:=Int.emod_nonneg _ (by decide);have k5:c % 5<5:=Int.emod_lt_of_pos _ (by decide);have lp:0<(ns.length:Int):=by have:=List.length_pos_iff.mpr ne;omega
  lk;generalize hkk:c % 5=kk at *;generalize c / 5=rest at *;have m0:=Int.emod_nonneg rest (show (ns.length:Int)≠0 by omega);have m1:=Int.emod_lt_of_pos rest lp;obtain⟨n,hn,en⟩:=pV (ws:=ns) m0 m1;by_cases h0:m=0
  ·refine ifT (by rw[h0];rfl) (iteT ?_);lk;show rI _ _ _ _ _ _;rw[Qa];refine i_rI lp (bD (SqL.of hl) en ?_);lk;refine⟨n,rfl,λt1 H1 S1 h1=>?_⟩;have hl1:=S1 _ _ hl;lk;show rI _ _ _ _ _ _;rw[Qa];refine i_rI ⟨by omega,by omega⟩ ?_;lk;refine⟨by simp[sizeLine],λt2 h2=>?_⟩;exact q t2 _ (.w n) _ _ (S1.trans (ap h2)) ai (.w (ap h2 _ _ h1)) (by simp only[Rl.dep];omega) hn
  refine ifF (Qx λz=>h0 (by injection z with z;omega)) ?_;lk;by_cases h1:kk<1
  ·refine ifT (QJ h1) ?_;lk;show rI _ _ _ _ _ _;rw[Qa];refine i_rI lp (bD (SqL.of hl) en ?_);lk;refine⟨n,rfl,λt1 H1 S1 h1=>?_⟩;have hl1:=S1 _ _ hl;lk;show rI _ _ _ _ _ _;rw[Qa];refine i_rI ⟨by omega,by omega⟩ ?_;lk;refine⟨by simp[sizeLine],λt2 h2=>?_⟩;exact q t2 _ (.w n) _ _ (S1.trans (ap h2)) ai (.w (ap h2 _ _ h1)) (by simp only[Rl.dep];omega) hn
  refine ifF (Qx h1) ?_;lk;refine⟨rest,l,ns,m-1,by rw[show ((m:Int)-1)=((m-1:Nat):Int) by omega],by omega,hl,ne,few,λt1 u1 r1 e1 H1 S1 ht1 ru1 d1 k1=>?_⟩;refine⟨t1,_,rfl,SqT.of ht1,rfl,?_⟩;refine⟨_,_,rfl,aq ⟨_,_,rfl,aq ⟨rfl,?_⟩⟩⟩;have hl1:=S1 _ _ hl;lk;by_cases h3:kk<3
  ·refine ifT (QJ h3) ?_;lk;refine⟨by simp[sizeLine],λt2 h2=>?_⟩;lk;refine⟨by simp[sizeLine],λt3 h3=>?_⟩;have S2:=ap (o:=.tup [.str "not", u1]) h2;have S3:=S2.trans (ap (o:=.tup [.ref t2,.int e1]) h3);exact q t3 _ (.no r1) _ _ (S1.trans S3) ai (.no (ap h3 _ _ ai) (ru1.mono (aw.tups S3))) (by simp only[Rl.dep];omega) k1
  refine ifF (Qx h3) ?_;lk;refine⟨e1,l,ns,m-1,by rw[show ((m:Int)-1)=((m-1:Nat):Int) by omega],by omega,hl1,ne,few,λt2 u2 r2 e2 H2 S2 ht2 ru2 d2 k2=>?_⟩;refine⟨t2,_,rfl,SqT.of ht2,rfl,?_⟩;refine⟨_,_,rfl,aq ⟨_,_,rfl,aq ⟨rfl,?_⟩⟩⟩;lk;refine⟨by simp[sizeLine],λp hp=>?_⟩;ctx_has H2 p H3 S3 q3 aJ hp;have S13:=S2.trans S3;lk;by_cases h4:kk=3
  ·subst h4;refine bD (v:=.str "and") (SqL.of q3) rfl ?_;lk;refine⟨by simp[sizeLine],λt3 h3=>?_⟩;lk;refine⟨by simp[sizeLine],λt4 h4=>?_⟩;have S4:=ap (o:=.tup [.str "and", u1,u2]) h3;have S5:=S4.trans (ap (o:=.tup [.ref t3,.int e2]) h4);exact q t4 _ (.an r1 r2) _ _ (S1.trans (S13.trans S5)) ai (.an (ap h4 _ _ ai) (ru1.mono (aw.tups (S13.trans S5))) (ru2.mono (aw.tups (S3.trans S5)))) (by simp only[Rl.dep];omega) ⟨k1,k2⟩
  have h5:kk=4:=by omega
  subst h5;refine bD (v:=.str "or") (SqL.of q3) rfl ?_;lk;refine⟨by simp[sizeLine],λt3 h3=>?_⟩;lk;refine⟨by simp[sizeLine],λt4 h4=>?_⟩;have S4:=ap (o:=.tup [.str "or", u1,u2]) h3;have S5:=S4.trans (ap (o:=.tup [.ref t3,.int e2]) h4);exact q t4 _ (.orr r1 r2) _ _ (S1.trans (S13.trans S5)) ai (.orr (ap h4 _ _ ai) (ru1.mono (aw.tups (S13.trans S5))) (ru2.mono (aw.tups (S3.trans S5)))) (by simp only[Rl.dep];omega) ⟨k1,k2⟩
end
def bx (ins:List Str) (gs:C4) (z:Str):List Str:=(gs.filter λg=>!(g.2.val (sgn (aj ins gs) z)==sgn (aj ins gs) z g.1)).map (·.1)
theorem eK {f:Str->Bool} {z:Str}:∀(gs:C4) (n:Nat),(∀(j:Nat) g,gs[j]?=some g->(z.cps.getD (n+j) 0==49)=f g.1)->((gs.zipIdx n).filterMap (cC f z)).map (·.1)=(gs.filter λg=>!(g.2.val f==f g.1)).map (·.1)
 | [],_,_=>rfl
 | g::gs,n,h=>by
  have h0:=h 0 g rfl
  have ih:=eK gs (n+1) λj g' e=>by
   have q:=h (j+1) g' (by simpa using e);rw[show n+1+j=n+(j+1) from by omega];exact q
  rw[List.zipIdx_cons,List.filterMap_cons,List.filter_cons]
  have so:cC f z (g,n)=if (g.2.val f==f g.1)=true then none else some (g.1,bn z n):=by
   unfold cC;rw[<-h0];rfl
  rw[so]
  cases (g.2.val f==f g.1) with
  | true=>simpa using ih
  | false=>simpa using ih
theorem mo (nd:(aj ins gs).Nodup):(ak ins gs z).map (·.1)=bx ins gs z:=by
 refine eK gs ins.length λj g e=>?_;have hj:j<gs.length:=(Qc.mp e).1
 have hw:(aj ins gs)[ins.length+j]?=some g.1:=by
  unfold aj;rw[Qs (by omega),Qm,show ins.length+j-ins.length=j from by omega,e];rfl
 have hl:ins.length+j<(aj ins gs).length:=(Qc.mp hw).1
 have hi:(aj ins gs).idxOf g.1=ins.length+j:=by
  have e2:(aj ins gs)[ins.length+j]=g.1:=(Qc.mp hw).2;rw[<-e2];exact List.Nodup.idxOf_getElem nd _ hl
 unfold sgn;rw[hi]
def iM:Sp:=λvs H Q _=>∃a li lg ins gvs gs z,vs=[.ref a,.str z]/\NAt H a li lg ins gvs gs/\NetOk ins gs/\(aj ins gs).Nodup/\StOk (aj ins gs).length z /\
 ∀l H',aw H H'->H l=none->H' l=some (.lst ((bx ins gs z).map V.str))->Q (.ref l) H'
theorem wC (b:Bool):sg b=.str ⟨#[if b then 49 else 48]⟩:=by
 cases b
 ·decide +kernel
 decide +kernel
def s1 (b:Bool):Str:=if b then "1" else "0"
theorem vG (b:Bool):sg b=.str (s1 b):=by cases b <;> rfl
theorem rR (b:Bool):intText? (s1 b)=some (if b then 1 else 0):=by
 cases b
 ·decide +kernel
 decide +kernel
theorem sW (b:Bool):atI ("10" : Str).cps.toList (if b then 1 else 0)=some (if (!b) then 49 else 48):=by
 cases b
 ·decide +kernel
 decide +kernel
theorem q_ (b:Bool):atI ("01" : Str).cps.toList (if b then 1 else 0)=some (if b then 49 else 48):=by
 cases b
 ·decide +kernel
 decide +kernel
theorem rQ (b:Bool):(s1 b).length=1:=by
 cases b
 ·decide +kernel
 decide +kernel
theorem tG {b1 b2:Bool} (h1:U[i]?=some (some (.bl b1))) (h2:U[j]?=some (some (.bl b2))) (q:Q (.bl (b1&&b2)) H):rF (eR i) (eR j) U H Q:=by
 refine i_andV (ad h1 ⟨b1,rfl,?_⟩)
 cases b1 with
 | true=>exact iteT (ad h2 q)
 | false=>exact iteF q
theorem wn {b1 b2:Bool} (h1:U[i]?=some (some (.bl b1))) (h2:U[j]?=some (some (.bl b2))) (q:Q (.bl (b1 || b2)) H):wy (eR i) (eR j) U H Q:=by
 refine i_orV (ad h1 ⟨b1,rfl,?_⟩)
 cases b1 with
 | true=>exact iteT q
 | false=>exact iteF (ad h2 q)
theorem uB (b c:V):atI [b,c] (if (decide (V.str "and" = V.str "or"))=true then 1 else 0)=some b:=by rw[show decide (V.str "and" = V.str "or")=false by decide +kernel];rfl
theorem uA (b c:V):atI [b,c] (if (decide (V.str "or" = V.str "or"))=true then 1 else 0)=some c:=by rw[show decide (V.str "or" = V.str "or")=true by decide +kernel];rfl
theorem qO {g:Str × Rl} (f:Str × Rl->Bool) (h:gs[i]?=some g):((gs.take (i+1)).filter f).map (·.1)=((gs.take i).filter f).map (·.1)++(if f g=true then [g.1] else []):=by
 rw[QV,h,List.filter_append,Qz];cases hf:f g <;> simp[hf]
def iK (d:Nat):Sp:=λvs H Q _=>∃v a kvs r ns g,vs=[v,.ref a]/\RAt H v r/\r.dep<=d/\r.ok ns/\H a=some (.dK kvs)/\DFn kvs ns g/\∀H',aw H H'->Q (sg (r.val g)) H'
theorem vg (hte:∀R:VK,R (.ref lg) H->te U H R) (hg:H lg=some (.lst gvs)) (gts:Paired (GAt H) gvs gs) (few:gs.length<=1000)
  (q:∀D H',H D=none->aw H H'->H' D=some (.lst ((gs.map (·.1)).map V.str))->Q (.ref D) H') :
  iD (nh K te) (xj K 2 (tM (dW 0) (tM (dW 1) A5))) fY (eR 0) (bI [x,y] []) U H Q:=by
 have big:10000<sizeLine:=by decide
 have lgv:=aP gts;refine i_comp (s_list (hte _ ⟨lg,rfl,⟨_,SqL.of hg⟩,λD hD=>?_⟩));refine gM (xs:=gvs) (λn H' ys=>aw H H'/\H' D=some (.lst ys)/\ys=((gs.map (·.1)).map V.str).take n) ⟨ap hD,ai,by simp⟩ (λn H' ys p=>⟨p.2.1,SqL.of (p.1 _ _ hg)⟩) (λn x H' ys e p=>?_) (λH1 ys p=>?_)
 ·obtain⟨Sm,hd,rfl⟩:=p;obtain⟨g,hgi,b,rv,rfl,hb,hrv⟩:=c_ gts n x e;have hn:n<gvs.length:=(Qc.mp e).1;refine⟨b,_,rfl,SqT.of (Sm _ _ hb),rfl,?_⟩;refine⟨_,_,rfl,aq ⟨_,_,rfl,aq ⟨rfl,⟨trivial,i_yes (iteT ?_)⟩⟩⟩⟩;refine ad rfl (cw.mk hd hn (by rw[Qq];omega) ⟨bh Sm hD,ai,?_⟩);rw[QV,Qm,Qm,hgi];rfl
 obtain⟨S1,hD1,rfl⟩:=p;rw[Qr (by rw[Qa,Qa];omega)]at hD1;exact q D H1 hD S1 hD1
section
theorem kW:FnScope ["rule", "signs", "one", "other"] ["rule", "signs"] (au (top 38)):=by fin2
theorem kh {f:Addr} {fd:FuncData} (Fu:Fun K "_law_worth" "_law_worth" (top 38) f fd) (T:Txt K mg TT) (hm:mg "_law_worth" = some (.ref f)) (hk:PySem.W.keepIn K (.ref f)=true) (hb:fI K fd ["rule", "signs"] []):∀d,FnOk P w K mg base CX0 d f fd ["rule", "signs"] (iK d)
 | 0=>fR λvs H Q E ⟨v,a,kvs,r,ns,g,_,_,h,_⟩=>by have:=pN r;omega
 | d+1=>by
  have S:=kW;have f_law_worth:Fn P w K mg base "_law_worth" ["rule", "signs"] d (iK d):=⟨f,fd,kh Fu T hm hk hb d,hm,hk,hb⟩;refine Fu.ok S (λvs H Q E h=>?_) (λcdv A outer s H vs Q E hr h=>?_)
  ·obtain⟨v,a,kvs,r,ns,g,rfl,_⟩:=h;rfl
  obtain⟨v,a,kvs,r,ns,g,rfl,ra,hd,rok,ha,hf,q⟩:=h;have hu:=cf hr
  refine⟨_,(pss_cons (ps_if (aF cG (aC aG (pv 0) am) a7 (aN _)) (aS (aD (bu hu (pv 1) (aC aG (pv 0) am)))) pss_nil)
  (pss_cons (ps_if (aF cG (aC aG (pv 0) am) a7 (aN _)) (aS (aD (aC fP a7 (c9 fG (by rfl) T.n_int PyProof.Rows.boot_int (aa (aE f_law_worth hr (aa (aC aG (pv 0) am) (aa (pv 1) ag ae))) ag se_call))))) pss_nil)
  (pss_cons (aH 2 S.nd (bH cG (aE f_law_worth hr (aa (aC aG (pv 0) am) (aa (pv 1) ag ae))) a7 (aN _)))
  (pss_cons (aH 3 S.nd (bH cG (aE f_law_worth hr (aa (aC aG (pv 0) am) (aa (pv 1) ag ae))) a7 (aN _)))
  (aS (aD (aC fP a7 (c9 kB (by rfl) T.n_int PyProof.Rows.boot_int (aa (aC bd (pe_lst (aa (fN (pv 2) (eV (pv 3))) (aa (pk (pv 2) (eV (pv 3))) ag))) (c9 kB (by rfl) T.n_int PyProof.Rows.boot_int (aa (bH cG (aC aG (pv 0) am) a7 (aN _)) ag))) ag))))))))),?_⟩
  x_go
  cases ra with
  | @w b n hb =>
   lk;refine ifT (by decide +kernel) ?_;lk;have hv:aU kvs (Sum.inr n:Key)=some (sg (g n)):=hf n rok;refine⟨a,sg (g n),rfl,by rw[<-hv];exact bz.k (k:=Sum.inr n) ha,?_⟩;exact q H (aw.refl _)
  | @no b u r hb hr1 =>
   lk;refine ifF (by decide +kernel) ?_;lk;refine ifT (by decide +kernel) ?_;lk;refine⟨u,a,kvs,r,ns,g,rfl,hr1,by simp only[Rl.dep]at hd;omega,rok,ha,hf,λH1 S1=>?_⟩;have e:Rl.val g (Rl.no r)=!r.val g:=rfl;rw[e]at q;lk;refine⟨s1 (r.val g),_,by rw[vG],rR _,by rw[rQ];decide,?_⟩;refine g_ (by decide +kernel) (sW _) ?_;rw[<-wC];exact q H1 S1
  | @an b u x r1 r2 hb hr1 hr2 =>
   lk;refine ifF (by decide +kernel) ?_;lk;refine ifF (by decide +kernel) ?_;simp only[Rl.dep]at hd;have e:Rl.val g (Rl.an r1 r2)=(r1.val g&&r2.val g):=rfl;rw[e]at q;kt_k;kt_k;refine aY (aA (aI (af (aA (ad rfl (i_c (bg hb rfl (af (ad rfl (av ⟨u,a,kvs,r1,ns,g,rfl,hr1,by omega,rok.1,ha,hf,λH1 S1=>i_c (i_eq (by cases r1.val g <;> rfl) ?_)⟩))))))))));rw[iR];refine aq ?_;kt_k;refine aY (aA (aI (af (aA (ad rfl (i_c (bg (S1 _ _ hb) rfl (af (ad rfl (av ⟨x,a,kvs,r2,ns,g,rfl,hr2.mono (aw.tups S1),by omega,rok.2,S1 _ _ ha,hf,λH2 S2=>i_c (i_eq (by cases r2.val g <;> rfl) ?_)⟩))))))))));rw[iR];refine aq ?_;generalize r1.val g=b1 at *;generalize r2.val g=b2 at *
   try dsimp only
   refine bE (aA (i_c (i_cb (af (aA (i_lst (af ?_)))))));refine tG rfl rfl (af (wn rfl rfl (av ⟨by simp[sizeLine],λp hp=>?_⟩)));have S3:=ap (o:=.lst [.bl (b1&&b2),.bl (b1 || b2)]) hp;have S13:=S1.trans (S2.trans S3);refine i_cb (af (aA (aA (ad rfl (i_c (bg (S13 _ _ hb) rfl (i_c (i_eq rfl (av (.inr ⟨_,rfl,?_⟩))))))))));refine bD (SqL.of ai) (uB _ _) ?_;refine av (.inr ⟨_,rfl,g_ (by decide +kernel) (q_ _) ?_⟩);rw[<-wC];exact q _ S13
  | @orr b u x r1 r2 hb hr1 hr2 =>
  lk;refine ifF (by decide +kernel) ?_;lk;refine ifF (by decide +kernel) ?_;simp only[Rl.dep]at hd;have e:Rl.val g (Rl.orr r1 r2)=(r1.val g || r2.val g):=rfl;rw[e]at q;kt_k;kt_k;refine aY (aA (aI (af (aA (ad rfl (i_c (bg hb rfl (af (ad rfl (av ⟨u,a,kvs,r1,ns,g,rfl,hr1,by omega,rok.1,ha,hf,λH1 S1=>i_c (i_eq (by cases r1.val g <;> rfl) ?_)⟩))))))))));rw[iR];refine aq ?_;kt_k;refine aY (aA (aI (af (aA (ad rfl (i_c (bg (S1 _ _ hb) rfl (af (ad rfl (av ⟨x,a,kvs,r2,ns,g,rfl,hr2.mono (aw.tups S1),by omega,rok.2,S1 _ _ ha,hf,λH2 S2=>i_c (i_eq (by cases r2.val g <;> rfl) ?_)⟩))))))))));rw[iR];refine aq ?_;generalize r1.val g=b1 at *;generalize r2.val g=b2 at *
  try dsimp only
  refine bE (aA (i_c (i_cb (af (aA (i_lst (af ?_)))))));refine tG rfl rfl (af (wn rfl rfl (av ⟨by simp[sizeLine],λp hp=>?_⟩)));have S3:=ap (o:=.lst [.bl (b1&&b2),.bl (b1 || b2)]) hp;have S13:=S1.trans (S2.trans S3);refine i_cb (af (aA (aA (ad rfl (i_c (bg (S13 _ _ hb) rfl (i_c (i_eq rfl (av (.inr ⟨_,rfl,?_⟩))))))))));refine bD (SqL.of ai) (uA _ _) ?_;refine av (.inr ⟨_,rfl,g_ (by decide +kernel) (q_ _) ?_⟩);rw[<-wC];exact q _ S13
theorem kY:FnScope ["net"] ["net"] (au (top 39)):=by fin2
theorem qq {f:Addr} {fd:FuncData} (Fu:Fun K "_law_names" "_law_names" (top 39) f fd) (T:Txt K mg TT):FnOk P w K mg base CX0 1 f fd ["net"] f6:=by
 have S:=kY;refine Fu.ok S (by room) (λcdv A outer s H vs Q E hr h=>?_);obtain⟨a,li,lg,ins,gvs,gs,rfl,NA,ok,k⟩:=h;have g7:=ok.g7;refine⟨_,(aS (aD (aR nY (c9 gl (by rfl) T.n_list PyProof.Rows.boot_list (aa (aC aG (pv 0) am) ag)) (i5 (tgs:=["name", "rule"]) (cap:=[]) rfl ⟨rfl,rfl,rfl,rfl,rfl,rfl⟩ (bt (aC aG (pv 0) am)) (λ_ _ _ _=>(pj (K:=K) (n:=2) rfl rfl (aZ (cE (i:=0) (show List.Nodup [("name" : Str),("rule" : Str)] by decide +kernel) rfl (by z_go)) (aZ (cE (i:=1) (show List.Nodup [("name" : Str),("rule" : Str)] by decide +kernel) rfl (by z_go)) cT)))) (λ_ _ _ _=>mO) (λ_ _ _ _=>(pv 0)))))),?_⟩;x_go;refine bE (aA (i_cb (af (aA (ad rfl (i_c (bg NA.ha rfl (av ⟨li,_,rfl,.inl (SqL.of NA.hi),λl hl=>?_⟩))))))));have s1:=ap (o:=.lst (ins.map V.str)) hl;have NA1:=NA.same s1;refine vg (λR q=>aA (ad rfl (i_c (bg NA1.ha rfl q)))) NA1.hg NA1.gates (by omega) λD H2 hD s2 h2=>?_;have hl2:H2 l=some (.lst (ins.map V.str)):=s2 _ _ ai;refine tE hl2 h2 (jX ok) λp hp=>?_;have hs:aw H (upd H2 p (HO.lst (ins.map V.str++(gs.map (·.1)).map V.str))):=s1.trans (s2.trans (ap hp));refine k p _ hs (aw.free (s1.trans s2) hp) ?_;rw[ai,jW]
theorem k9:FnScope ["net", "standing", "signs"] ["net", "standing"] (au (top 40)):=by fin2
theorem qr {f:Addr} {fd:FuncData} (Fu:Fun K "_law_asked" "_law_asked" (top 40) f fd) (T:Txt K mg TT) (f_law_names:Fn P w K mg base "_law_names" ["net"] 1 f6) (f_law_worth:Fn P w K mg base "_law_worth" ["rule", "signs"] 10 (iK 10)) :
  FnOk P w K mg base CX0 11 f fd ["net", "standing"] iM:=by
 have S:=k9;refine Fu.ok S (by room) (λcdv A outer s H vs Q E hr h=>?_);obtain⟨a,li,lg,ins,gvs,gs,z,rfl,NA,ok,nd,st,k⟩:=h;have hu:=cf hr
 refine⟨_,(pss_cons (aH 2 S.nd (pq rfl (by rfl) T.n_dict (by rfl) T.n_zip (aa (aE f_law_names hr (aa (pv 0) ag ae)) (aa (pv 1) ag ae) se_call)))
  (aS (aD (i5 (tgs:=["name", "rule"]) (cap:=[("signs", 2)]) rfl ⟨rfl,rfl,rfl,rfl,rfl,rfl⟩ (bt (aC aG (pv 0) am)) (λ_ _ _ _=>(pj (K:=K) (n:=2) rfl rfl (aZ (cE (i:=0) (show List.Nodup [("name" : Str),("rule" : Str),("signs" : Str)] by decide +kernel) rfl (by z_go)) (aZ (cE (i:=1) (show List.Nodup [("name" : Str),("rule" : Str),("signs" : Str)] by decide +kernel) rfl (by z_go)) cT)))) (λ_ _ _ _=>(dP (aF gb (aE f_law_worth hr (aa (pv 1) (aa (pv 2) ag ae) ae)) (bu hu (pv 2) (pv 0)) (aN _)))) (λ_ _ _ _=>(pv 0)))))),?_⟩
 x_go
 have wl:(aj ins gs).length<1000:=by
  have i4:=ok.i4;have g7:=ok.g7;unfold aj;rw[Qf,Qa];omega
 lk;show fw _ _ _ _ _;lk;refine⟨a,li,lg,ins,gvs,gs,rfl,NA,ok,λl H0 S0 hl h1=>?_⟩;lk;refine⟨l,aj ins gs,z,rfl,SqL.of h1,by rw[st.len];omega,wl,λd hd0=>?_⟩;have df:=pM nd st;generalize hkv:bw [] (cL (aj ins gs) z)=kvs at *;ctx_has H0 d H1 Sd hd aJ hd0;have S1:=S0.trans Sd;have NA1:=NA.same S1;have g7:=ok.g7;have lgn:=aP NA.gates;have big:1000<sizeLine:=by decide
 refine aq ?_;refine bE (i_comp (s_list (aA (ad rfl (i_c (bg NA1.ha rfl ⟨lg,rfl,⟨_,SqL.of NA1.hg⟩,λD hD=>?_⟩))))));let I23:IvC:=λn H' ys=>aw H1 H'/\H' D=some (.lst ys)/\ys.length<=n/\ys=(((gs.take n).filter λg=>!(g.2.val (sgn (aj ins gs) z)==sgn (aj ins gs) z g.1)).map (·.1)).map V.str;refine cR (xs:=gvs) I23 ⟨ap hD,ai,by simp,by simp⟩ (λn H' ys p=>⟨p.2.1,SqL.of (p.1 _ _ NA1.hg)⟩) (λn x H' ys e p=>?_) (λH' ys p=>?_)
 ·obtain⟨Sm,hDl,hys,he⟩:=p;obtain⟨g,hgi,b,rv,rfl,hb,hrv⟩:=c_ NA1.gates n x e;have hn:n<gvs.length:=(Qc.mp e).1;have gm:g∈gs:=Qh hgi;obtain⟨rok,rdep⟩:=ok.rules g gm;have ft:=qO (λg=>!(g.2.val (sgn (aj ins gs) z)==sgn (aj ins gs) z g.1)) hgi
  have gw:g.1∈aj ins gs:=by
   unfold aj;exact QN _ (List.mem_map_of_mem gm)
  have hv:aU kvs (Sum.inr g.1:Key)=some (sg (sgn (aj ins gs) z g.1)):=df g.1 gw;refine⟨b,_,rfl,SqT.of (Sm _ _ hb),rfl,?_⟩;refine⟨_,_,rfl,aq ⟨_,_,rfl,aq ⟨rfl,⟨⟨rfl,trivial⟩,?_⟩⟩⟩⟩;show ro _ [some (.str g.1),some rv,some (.ref d)] _ _;refine aQ (aA (aI (af (ad rfl (af (ad rfl (av ⟨rv,d,kvs,g.2,_,_,rfl,hrv.mono (aw.tups Sm),rdep,rok,Sm _ _ hd,df,λH2 S2=>i_dget (ad rfl (ad rfl ⟨d,_,rfl,by rw[<-hv];exact bz.k (k:=Sum.inr g.1) ((Sm.trans S2) _ _ hd),?_⟩))⟩)))))));generalize hb1:g.2.val (sgn (aj ins gs) z)=b1 at *;generalize hb2:sgn (aj ins gs) z g.1=b2 at *;refine i_ne (by cases b1 <;> cases b2 <;> rfl) ?_;rw[vH];refine⟨_,rfl,?_⟩
  cases hc:(b1==b2) with
  | true =>
   rw[hc]at ft;refine iteF ⟨_,by omega,rfl,by omega,Sm.trans S2,S2 _ _ hDl,by omega,?_⟩;rw[ft,he];simp
  | false =>
  rw[hc]at ft;refine iteT (ad rfl ?_);refine cw.mk (S2 _ _ hDl) hn (by omega) ⟨bh (Sm.trans S2) hD,ai,by simp;omega,?_⟩;rw[ft,he];simp
 obtain⟨Sm,hDl,hys,rfl⟩:=p;refine k D H' (S1.trans Sm) (aw.free S1 hD) ?_;rw[hDl,Qr (by omega)];rfl
end
theorem Bj (ins:List Str) (gs:C4):(aj ins gs).length=ins.length+gs.length:=by unfold aj;rw[Qf,Qa]
def fc:Sp:=λvs H Q _=>∃a li lg ins gvs gs z n,vs=[.ref a,.str z,.str n]/\NAt H a li lg ins gvs gs/\NetOk ins gs/\(aj ins gs).Nodup/\StOk (aj ins gs).length z/\n∈aj ins gs/\∀H',aw H H'->Q (.str (bn z ((aj ins gs).idxOf n))) H'
section
theorem jP:FnScope ["net", "standing", "name", "at"] ["net", "standing", "name"] (au (top 41)):=by fin2
theorem n_ {f:Addr} {fd:FuncData} (Fu:Fun K "_law_turned" "_law_turned" (top 41) f fd) (T:Txt K mg TT) (f_law_names:Fn P w K mg base "_law_names" ["net"] 1 f6):FnOk P w K mg base CX0 2 f fd ["net", "standing", "name"] fc:=by
 have S:=jP;refine Fu.ok S (by room) (λcdv A outer s H vs Q E hr h=>?_);obtain⟨a,li,lg,ins,gvs,gs,z,n,rfl,NA,ok,nd,st,hn,k⟩:=h
 refine⟨_,(pss_cons (aH 3 S.nd (fz Q6 PySem.F.slot_list_index PySem.F.type_list_index sY (aE f_law_names hr (aa (pv 0) ag ae)) (aa (pv 2) ag ae)))
  (aS (aD (aR ee (aR ee (cX kT (pv 1) dD (dC (pv 3))) (aC fP a7 (c9 fG (by rfl) T.n_int PyProof.Rows.boot_int (aa (aC fP (pv 1) (pv 3)) ag)))) (cX kT (pv 1) (dC (aR b_ (pv 3) am)) dD))))),?_⟩
 x_go;have i4:=ok.i4;have g7:=ok.g7;have wl:=Bj ins gs;have hz:z.length=(aj ins gs).length:=st.len;have hl:(aj ins gs).idxOf n<(aj ins gs).length:=List.idxOf_lt_length_iff.mpr hn;have hw:(aj ins gs)[(aj ins gs).idxOf n]?=some n:=by rw[Qb hl,List.getElem_idxOf hl]
 have hno:∀m,m<(aj ins gs).idxOf n->(aj ins gs)[m]?≠some n:=λm hm h=>by
  have h3:(aj ins gs)[m]'(by omega)=n:=(Qc.mp h).2;have h4:=List.not_of_lt_findIdx (p:=(·==n)) hm;simp[h3]at h4
 generalize (aj ins gs).idxOf n=i at *;kt_k;refine aY (i_bm (aI (af (ad rfl (av ⟨a,li,lg,ins,gvs,gs,rfl,NA,ok,λl H1 S1 _ h1=>⟨i_tyL h1,af (ad rfl (av ⟨l,_,n,i,rfl,rfl,h1,hw,hno,by omega,aq ?_⟩))⟩⟩)))));have s1':=Txt.slice_le z none (some (i:Int));have s2:=Txt.slice_le z (some ((i:Int)+1)) none;have e:=ip st hl;unfold eL at e
 try dsimp only
 refine bE (aA (aA (i_sl (ad rfl (i_nopart (i_part (ad rfl ⟨_,rfl,z,rfl,by omega,?_⟩)))))));refine aA (i_c (i_cb (af (aA (ad rfl (ad rfl (g_ (by omega) (lT st hl) (av ?_))))))));rw[e,vG];refine⟨_,_,rfl,rR _,by rw[rQ];decide,g_ (by decide +kernel) (sW _) ?_⟩
 have ef:(⟨#[if (!(z.cps.getD i 0==49))=true then 49 else 48]⟩:Str)=cr z i:=by
  unfold cr;cases (z.cps.getD i 0==49) <;> decide +kernel
 rw[ef]
 have fl:(cr z i).length=1:=by
  unfold cr
  split
  ·decide +kernel
  decide +kernel
 have l1:(Txt.slice z none (some (i:Int))++cr z i).length=(Txt.slice z none (some (i:Int))).length+(cr z i).length:=Xl;refine⟨_,_,rfl,rfl,by omega,?_⟩;refine i_sl (ad rfl (i_part (aA (ad rfl (i_c (i_rI0 ⟨_,rfl,i_nopart ⟨z,rfl,by omega,⟨_,_,rfl,rfl,by omega,?_⟩⟩⟩))))));have et:Txt.slice z none (some (i:Int))++cr z i++Txt.slice z (some ((i:Int)+1)) none=bn z i:=rfl;rw[et];exact k H1 S1
end
theorem lh {R:Bool->Hp->Prop} {l:Addr} {xs:List V} {U:L2.St} (hl:H l=some (.lst xs)) (q:∀H',aw H H'->R (!decide (xs.length=0)) H'):rp mj U H λy H2=>rV K true (.ref l) y H2 λx H'=>∃k,x=.bl k/\R k H':=by
 refine i_lst (av ⟨by simp[sizeLine],λp hp=>?_⟩);refine⟨l,p,xs,[],λ_=>true,rfl,rfl,SqL.of (ap hp _ _ hl),SqL.of ai,λj x y _ e=>by simp at e,_,rfl,?_⟩
 have e:(if true=true then !(xs.length==([]:List V).length&&(List.range xs.length).all λ_=>true) else (xs.length==([]:List V).length&&(List.range xs.length).all λ_=>true))=!decide (xs.length=0):=by
  rw[QB rfl,oM,Bool.and_true];rfl
 rw[e];exact q _ (ap hp)
theorem rT {l:Addr} {xs:List V} {U:L2.St} (hl:H l=some (.lst xs)) (q:∀H',aw H H'->Q (.bl (decide (xs.length=0))) H'):rp mj U H λy H2=>rV K false (.ref l) y H2 Q:=by
 refine i_lst (av ⟨by simp[sizeLine],λp hp=>?_⟩);refine⟨l,p,xs,[],λ_=>true,rfl,rfl,SqL.of (ap hp _ _ hl),SqL.of ai,λj x y _ e=>by simp at e,?_⟩
 have e:(if false=true then !(xs.length==([]:List V).length&&(List.range xs.length).all λ_=>true) else (xs.length==([]:List V).length&&(List.range xs.length).all λ_=>true))=decide (xs.length=0):=by
  rw[QC Qj,oM,Bool.and_true];rfl
 rw[e];exact q _ (ap hp)
section
variable {ins:List Str} {gs:C4}
theorem Run.st {z y:Str} {os:List Str} (r:Run ins gs z os y) (st:StOk (aj ins gs).length z):StOk (aj ins gs).length y:=by
 induction r with
 | nil=>exact st
 | cons _ b _ ih=>exact ih b
variable {z n y u:Str}
theorem Run.inv {os:List Str} (r:Run ins gs z (n::os) y):∃u,(n,u)∈ak ins gs z/\StOk (aj ins gs).length u/\Run ins gs u os y:=by
 cases r with
 | cons a b c=>exact⟨_,a,b,c⟩
theorem eC (ok:NetOk ins gs) (z:Str):eY ins gs z=bx ins gs z:=mo ok.nd
theorem mt (ok:NetOk ins gs) (h:(n,u)∈ak ins gs z):n∈bx ins gs z:=by
 rw[<-eC ok];unfold eY;exact Qp.mpr ⟨_,h,rfl⟩
theorem jz (ok:NetOk ins gs) (h:n∈bx ins gs z):n∈aj ins gs/\(n,bn z ((aj ins gs).idxOf n))∈ak ins gs z:=by
 rw[<-eC ok]at h;obtain⟨y,hy⟩:=jA h;obtain⟨h1,h2⟩:=bA ok hy;exact⟨h1,by rw[h2];exact hy⟩
theorem gQ (ok:NetOk ins gs):bx ins gs z=[]↔ak ins gs z=[]:=by
 rw[<-eC ok];unfold eY;exact List.map_eq_nil_iff
theorem qX (ok:NetOk ins gs) (z:Str):(bx ins gs z).length<=7:=by
 rw[<-eC ok];unfold eY;rw[Qa];exact QM (bQ ins gs z) ok.g7
end
def iH:Sp:=λvs H Q _=>∃a li lg ins gvs gs z oa os y,vs=[.ref a,.str z,.ref oa]/\NAt H a li lg ins gvs gs/\NetOk ins gs/\StOk (aj ins gs).length z/\H oa=some (.lst (os.map V.str))/\os.length<=5000/\Run ins gs z os y/\∀H',aw H H'->Q (.str y) H'
def iI:Sp:=λvs H Q _=>∃a li lg ins gvs gs z t l c b ns h,vs=[.ref a,.str z,.ref t]/\NAt H a li lg ins gvs gs/\NetOk ins gs/\StOk (aj ins gs).length z/\H t=some (.tup [.ref l,.str c,.str b])/\H l=some (.lst (ns.map V.str))/\ns.length<=5000/\Run ins gs z ns h/\StOk (aj ins gs).length h/\c∈bx ins gs h/\b∈bx ins gs h/\c≠b/\c∉bx ins gs (bn h ((aj ins gs).idxOf b))/\∀H',aw H H'->Q (.bl true) H'
def iJ:Sp:=λvs H Q _=>∃a li lg ins gvs gs z t,vs=[.ref a,.str z,.ref t]/\NAt H a li lg ins gvs gs/\NetOk ins gs/\StOk (aj ins gs).length z/\Told ins gs z H (.ref t)/\∀H',aw H H'->Q (.bl true) H'
theorem nP (ok:NetOk ins gs) {c b:Str} (h:uc ins gs z (some (ns,c,b))):∃x,ns.length<=5000/\Run ins gs z ns x/\StOk (aj ins gs).length x/\c∈bx ins gs x/\b∈bx ins gs x/\c≠b/\c∉bx ins gs (bn x ((aj ins gs).idxOf b)):=by
 obtain⟨xs,m,j,x,e,_,q,p⟩:=h;obtain⟨ns',p',ln⟩:=m.path j x e;have:=p.det p';subst this;have hj:=(Qc.mp e).1;have f7:=m.few7 ok;have hc:(c,b)∈br ins gs x:=List.mem_of_head? q;unfold br at hc;obtain⟨c',hc',h2⟩:=List.mem_flatMap.mp hc;obtain⟨s,hs,h3⟩:=List.mem_filterMap.mp h2;unfold fE at h3;by_cases cc:s.1≠c'/\c'∉eY ins gs s.2
 ·rw[QB cc]at h3;cases h3;obtain⟨_,e2⟩:=bA ok hs;refine⟨x,by omega,(m.run p).2,m.st x (Qh e),by rw[<-eC ok];exact hc',mt ok (n:=s.1) (u:=s.2) hs,λz=>cc.1 z.symm,?_⟩;rw[e2,<-eC ok];exact cc.2
 rw[QC cc]at h3;cases h3
section
theorem jO:FnScope ["net", "standing", "order", "name"] ["net", "standing", "order"] (au (top 44)):=by fin2
variable {fd:FuncData}
theorem n9 {f:Addr} (Fu:Fun K "_law_walked" "_law_walked" (top 44) f fd) (T:Txt K mg TT) (f_law_asked:Fn P w K mg base "_law_asked" ["net", "standing"] 11 iM) (f_law_turned:Fn P w K mg base "_law_turned" ["net", "standing", "name"] 2 fc):FnOk P w K mg base CX0 12 f fd ["net", "standing", "order"] iH:=by
 have S:=jO;refine Fu.ok S (by room) (λcdv A outer s H vs Q E hr h=>?_);obtain⟨a,li,lg,ins,gvs,gs,z,oa,os,y,rfl,NA,ok,st,ho,lo,run,k⟩:=h;refine'⟨?_,?bb,?_⟩
 case bb =>
  walk_at "b";walk_at "f";exact(bt (pv 2));exact(bG 3 S.nd);walk_at "p";exact(aF bY (pv 3) (aE f_law_asked hr (aa (pv 0) (aa (pv 1) ag ae) ae)) rfl);exact(aD bX);exact aH 1 S.nd (aE f_law_turned hr (aa (pv 0) (aa (pv 1) (aa (pv 3) ag ae) ae) ae));exact(aD (pv 1))
 x_go;kt_k;refine s_for (s_list (ad rfl ⟨oa,rfl,⟨_,SqL.of ho⟩,?_⟩));let I24:IvF:=λj U H'=>(∃u x3,U=[some (.ref a),some (.str u),some (.ref oa),x3]/\StOk (aj ins gs).length u/\Run ins gs u (os.drop j) y)/\aw H H';refine cH (xs:=os.map V.str) I24 ⟨⟨z,_,rfl,st,run⟩,aw.refl _⟩ (λj U H' _ pv=>SqL.of (pv.2 _ _ ho)) (λj v U H' hv pv=>?_) (λU H' pv=>?_)
 ·obtain⟨⟨u,x3,rfl,su,ru⟩,S1⟩:=pv;rw[Qm]at hv
  cases ex:os[j]? with
  | none=>rw[ex]at hv;cases hv
  | some n =>
  rw[ex]at hv;cases hv;obtain⟨hj,ej⟩:=Qc.mp ex;rw[Xg hj,ej]at ru;obtain⟨y1,hn,sy,rr⟩:=ru.inv;obtain⟨hw,et⟩:=bA ok hn;dsimp only at hw et;have NA1:=NA.same S1;refine aq ?_;kt_k;kt_k;refine aQ (aA (ad rfl (aI (af (ad rfl (af (ad rfl (av ⟨a,li,lg,ins,gvs,gs,u,rfl,NA1,ok,ok.nd,su,λA H2 S2 _ hA=>cY (SqL.of hA) ⟨_,rfl,?_⟩⟩))))))));rw[QJ (mt ok hn)];refine ifF rfl ?_;kt_k;refine aY (aI (af (ad rfl (af (ad rfl (af (ad rfl (av ⟨a,li,lg,ins,gvs,gs,u,n,rfl,NA1.same S2,ok,ok.nd,su,hw,λH3 S3=>aq ?_⟩))))))));rw[et];exact⟨⟨y1,_,rfl,sy,rr⟩,S1.trans (S2.trans S3)⟩
 obtain⟨⟨u,x3,rfl,su,ru⟩,S1⟩:=pv;rw[Qa,List.drop_length]at ru;cases ru
 try dsimp only
 exact bE (ad rfl (k _ S1))
theorem gy:FnScope ["net", "standing", "told", "here", "some"] ["net", "standing", "told"] (au (top 45)):=by fin2
theorem sL {f:Addr} (Fu:Fun K "_law_race_good" "_law_race_good" (top 45) f fd) (T:Txt K mg TT) (f_law_asked:Fn P w K mg base "_law_asked" ["net", "standing"] 11 iM) (f_law_turned:Fn P w K mg base "_law_turned" ["net", "standing", "name"] 2 fc) (f_law_walked:Fn P w K mg base "_law_walked" ["net", "standing", "order"] 12 iH):FnOk P w K mg base CX0 13 f fd ["net", "standing", "told"] iI:=by
 have S:=gy;refine Fu.ok S (by room) (λcdv A outer s H vs Q E hr h=>?_);obtain⟨a,li,lg,ins,gvs,gs,z,t,l,c,b,ns,x,rfl,NA,ok,st,ht,hl,ln,run,sx,hc,hb,ne,nc,k⟩:=h;refine'⟨?_,?bb,?_⟩
 case bb =>
  walk_at "b";exact aH 3 S.nd (aE f_law_walked hr (aa (pv 0) (aa (pv 1) (aa (aC aG (pv 2) am) ag) ae) ae));exact(aF fO (pv 3) bX rfl);exact(aD eM);exact aH 4 S.nd (aE f_law_asked hr (aa (pv 0) (aa (pv 3) ag ae) ae));exact(PW.pt (eT (aF bY (aC aG (pv 2) am) (pv 4) rfl) (eT (aF bY (aC aG (pv 2) am) (pv 4) rfl) (d9 (aF cG (aC aG (pv 2) am) (aC aG (pv 2) am) (aN _))))));exact(aD eM);exact(aD (bH bY (aC aG (pv 2) am) (aE f_law_asked hr (aa (pv 0) (aa (aE f_law_turned hr (aa (pv 0) (aa (pv 3) (aa (aC aG (pv 2) am) ag) ae) ae)) ag se_call) ae)) rfl))
 x_go;kt_k;refine aY (aI (af (ad rfl (af (ad rfl (af (aA (ad rfl (i_c (bg ht rfl (av ⟨a,li,lg,ins,gvs,gs,z,l,ns,x,rfl,NA,ok,st,hl,ln,run,λH1 S1=>aq ?_⟩)))))))))));have NA1:=NA.same S1;kt_k;kt_k;refine aQ (aA (ad rfl (i_c ⟨rfl,⟨_,rfl,ifF rfl ?_⟩⟩)));kt_k;kt_k;refine aY (aI (af (ad rfl (af (ad rfl (av ⟨a,li,lg,ins,gvs,gs,x,rfl,NA1,ok,ok.nd,sx,λA H2 S2 _ hA=>aq ?_⟩))))));have ht2:=(S1.trans S2) _ _ ht;kt_k;kt_k;kt_k;refine aQ (aA (aA (ad rfl (i_c (bg ht2 rfl (ad rfl (cY (SqL.of hA) ⟨_,rfl,?_⟩)))))));rw[QJ hc];refine ifF rfl ?_;kt_k;refine aQ (aA (aA (ad rfl (i_c (bg ht2 rfl (ad rfl (cY (SqL.of hA) ⟨_,rfl,?_⟩)))))));rw[QJ hb];refine ifF rfl ?_;refine aQ (aA (aA (ad rfl (i_c (bg ht2 rfl (aA (ad rfl (i_c (bg ht2 rfl (i_eq rfl ⟨_,rfl,?_⟩))))))))));rw[Qx λe=>ne (V.str.inj e)];refine ifF rfl ?_;kt_k;have hw:=(jz ok hb).1;have NA2:=NA1.same S2;refine bE (aA (aA (ad rfl (i_c (bg ht2 rfl (aI (af (ad rfl (af (aI (af (ad rfl (af (ad rfl (af (aA (ad rfl (i_c (bg ht2 rfl (av ⟨a,li,lg,ins,gvs,gs,x,b,rfl,NA2,ok,ok.nd,sx,hw,λH3 S3=>av ?_⟩))))))))))))))))))));refine⟨a,li,lg,ins,gvs,gs,_,rfl,NA2.same S3,ok,ok.nd,e_ sx (List.idxOf_lt_length_iff.mpr hw),λB H4 S4 _ hB=>cY (SqL.of hB) ?_⟩;rw[Qx nc];exact k _ (S1.trans (S2.trans (S3.trans S4)))
theorem fu:FnScope ["net", "standing", "told", "one", "other", "here"] ["net", "standing", "told"] (au (top 46)):=by fin2
theorem sM {f:Addr} (Fu:Fun K "_law_parting_good" "_law_parting_good" (top 46) f fd) (T:Txt K mg TT) (f_law_asked:Fn P w K mg base "_law_asked" ["net", "standing"] 11 iM) (f_law_walked:Fn P w K mg base "_law_walked" ["net", "standing", "order"] 12 iH):FnOk P w K mg base CX0 13 f fd ["net", "standing", "told"] iJ:=by
 have S:=fu;refine Fu.ok S (by room) (λcdv A outer s H vs Q E hr h=>?_);obtain⟨a,li,lg,ins,gvs,gs,z,t,rfl,NA,ok,st,told,k⟩:=h;refine'⟨?_,?bb,?_⟩
 case bb =>
  walk_at "b";exact(aF cG (aC aG (pv 2) am) a7 (aN _));exact aH 3 S.nd (aE f_law_walked hr (aa (pv 0) (aa (pv 1) (aa (aC aG (pv 2) am) ag) ae) ae));exact aH 4 S.nd (aE f_law_walked hr (aa (pv 0) (aa (pv 1) (aa (aC aG (pv 2) am) ag) ae) ae));exact(PW.pt (eT (aF fO (pv 3) bX rfl) (eT (aF fO (pv 4) bX rfl) (d9 (aF cG (pv 3) (pv 4) (aN _))))));exact(aD eM)
  with_reducible refine' aD ?e
  case e =>
   exact(fN (bH (nX hr.units) (aE f_law_asked hr (aa (pv 0) (aa (pv 3) ag ae) ae)) (pe_lst ag) (aN _)) (eV (bH (nX hr.units) (aE f_law_asked hr (aa (pv 0) (aa (pv 4) ag ae) ae)) (pe_lst ag) (aN _))))
  exact aH 5 S.nd (aE f_law_walked hr (aa (pv 0) (aa (pv 1) (aa (aC aG (pv 2) am) ag) ae) ae))
  with_reducible refine' aD ?e
  case e =>
   exact(fN (bH cG (aC aG (pv 2) am) a7 (aN _)) (fN (bH (nW hr.units) (aC aG (pv 2) am) (pe_lst ag) (aN _)) (fN (bH lA (pv 5) bX rfl) (eV (bH cG (aE f_law_walked hr (aa (pv 0) (aa (pv 5) (aa (aC aG (pv 2) am) ag) ae) ae)) (pv 5) (aN _))))))
 x_go
 cases told with
 | @rests t p q os ps x y ht hp hq l1 l2 r1 r2 ne e1 e2 =>
  kt_k;kt_k;refine aQ (aA (aA (ad rfl (i_c (bg ht rfl (i_c (i_eq rfl ⟨_,rfl,?_⟩)))))));rw[QJ rfl];refine ifT rfl ?_;kt_k;refine aY (aI (af (ad rfl (af (ad rfl (af (aA (ad rfl (i_c (bg ht rfl (av ⟨a,li,lg,ins,gvs,gs,z,p,os,x,rfl,NA,ok,st,hp,by omega,r1,λH1 S1=>aq ?_⟩)))))))))));have NA1:=NA.same S1;have sx:=r1.st st;have sy:=r2.st st;kt_k;refine aY (aI (af (ad rfl (af (ad rfl (af (aA (ad rfl (i_c (bg (S1 _ _ ht) rfl (av ⟨a,li,lg,ins,gvs,gs,z,q,ps,y,rfl,NA1,ok,st,S1 _ _ hq,by omega,r2,λH2 S2=>aq ?_⟩)))))))))));have NA2:=NA1.same S2;kt_k;kt_k;kt_k;refine aQ (aA (ad rfl (i_c ⟨rfl,⟨_,rfl,ifF rfl ?_⟩⟩)));kt_k;refine aQ (aA (ad rfl (i_c ⟨rfl,⟨_,rfl,ifF rfl ?_⟩⟩)));refine aQ (aA (ad rfl (ad rfl (i_eq rfl ⟨_,rfl,?_⟩))));rw[Qx λe=>ne (V.str.inj e)];refine ifF rfl ?_;kt_k;refine bE (i_andV (aA (aI (af (ad rfl (af (ad rfl (av ⟨a,li,lg,ins,gvs,gs,x,rfl,NA2,ok,ok.nd,sx,λA H3 S3 _ hA=>pd hA λH4 S4=>?_⟩))))))));rw[(gQ ok).mpr e1];refine ifT rfl ?_;refine aA (aI (af (ad rfl (af (ad rfl (av ⟨a,li,lg,ins,gvs,gs,y,rfl,NA2.same (S3.trans S4),ok,ok.nd,sy,λB H5 S5 _ hB=>rT hB λH6 S6=>?_⟩))))));rw[(gQ ok).mpr e2];exact k _ (S1.trans (S2.trans (S3.trans (S4.trans (S5.trans S6)))))
 | @round t p q os ps x ht hp hq l1 l2 r1 r2 ne =>
 kt_k;kt_k;refine aQ (aA (aA (ad rfl (i_c (bg ht rfl (i_c (i_eq rfl ⟨_,rfl,?_⟩)))))));refine ifF (Qx (by decide)) ?_;kt_k;have sx:=r1.st st;kt_k;refine aY (aI (af (ad rfl (af (ad rfl (af (aA (ad rfl (i_c (bg ht rfl (av ⟨a,li,lg,ins,gvs,gs,z,p,os,x,rfl,NA,ok,st,hp,by omega,r1,λH1 S1=>aq ?_⟩)))))))))));have NA1:=NA.same S1;have ht1:=S1 _ _ ht;refine bE (i_andV (aA (aA (ad rfl (i_c (bg ht1 rfl (i_c (i_eq rfl ⟨_,rfl,?_⟩))))))));rw[QJ rfl];refine ifT rfl (i_andV (aA (aA (ad rfl (i_c (bg ht1 rfl (lh (S1 _ _ hq) λH2 S2=>?_)))))));rw[Qx (by rw[Qa];exact λz=>ne (List.length_eq_zero_iff.mp z))];refine ifT rfl (i_andV (aA (ad rfl (i_c ⟨rfl,⟨_,rfl,ifT rfl ?_⟩⟩))));refine aA (aI (af (ad rfl (af (ad rfl (af (aA (ad rfl (i_c (bg (S2 _ _ ht1) rfl (av ⟨a,li,lg,ins,gvs,gs,x,q,ps,x,rfl,NA1.same S2,ok,sx,S2 _ _ (S1 _ _ hq),by omega,r2,λH3 S3=>ad rfl (i_eq rfl ?_)⟩)))))))))));rw[QJ rfl];exact k _ (S1.trans (S2.trans S3))
end
theorem em {T:List Nat}:∀(zs:List Str),(∀z∈zs,∃c∈T,z=⟨#[c]⟩)->((zs.map (·.cps.toList)).flatten).length=zs.length/\(∀c∈(zs.map (·.cps.toList)).flatten,c∈T)/\(zs.map (·.length)).sum=zs.length
 | [],_=>⟨rfl,λc h=>(List.not_mem_nil h).elim,rfl⟩
 | z::zs,h=>by
  obtain⟨c,hc,rfl⟩:=h z (by simp);obtain⟨e1,e2,e3⟩:=em zs λz hz=>h z (QG _ hz);refine⟨?_,λd hd=>?_,?_⟩
  ·simp only[QH,List.flatten_cons,Qf,e1,QK];show (#[c]:Array Nat).toList.length+zs.length=_;simp;omega
  ·simp only[QH,List.flatten_cons,Qy]at hd;rcases hd with hd|hd
   ·have:d=c:=by simpa using hd
    rw[this];exact hc
   exact e2 d hd
  simp only[QH,List.sum_cons,QK,e3];show (#[c]:Array Nat).size+zs.length=_;simp;omega
theorem qG {T:List Nat} (h:∀z∈zs,∃c∈T,z=⟨#[c]⟩):(Txt.join Str.empty zs).cps.size=zs.length/\∀c∈(Txt.join Str.empty zs).cps.toList,c∈T:=by
 obtain⟨e1,e2,_⟩:=em zs h;rw[<-Qv,qL];exact⟨e1,e2⟩
theorem vi {r:Int} (h0:0<=r) (h1:r<t.cps.size):∃c,atI t.cps.toList r=some c/\c∈t.cps.toList:=by
 have hr:r.toNat<t.cps.toList.length:=by rw[Qv];omega
 refine⟨t.cps.toList[r.toNat],?_,List.getElem_mem hr⟩;have e:r=((r.toNat:Nat):Int):=by omega
 have q:=cg (xs:=t.cps.toList) (j:=r.toNat) (v:=t.cps.toList[r.toNat]) (Qb hr);rw[<-e]at q;exact q
theorem sqs {xs:List V} (S:aw H H') (h:SqL K H a xs):SqL K H' a xs:=h.imp (λr=>r.imp (λe=>S _ _ e) λ⟨o,e⟩=>⟨o,S _ _ e⟩) id
theorem cut_to {xs:List V} {a:Nat} (h:a<=xs.length):jm xs none (some (a:Int))=xs.take a:=by
 unfold jm;rw[HT.k_,HT.iW,Nat.min_eq_left h];simp
noncomputable def Ba:Bool:=((List.range 3).all λi=>(List.range 6).all λj=>((["p", "q"]:List Str).take i++(["a", "b", "c", "d", "e"]:List Str).take j).Nodup&&!decide (("calmed" : Str)∈(["p", "q"]:List Str).take i++(["a", "b", "c", "d", "e"]:List Str).take j))
theorem A_:Ba=true:=by decide +kernel
theorem w6 {i j:Nat} (hi:i<=2) (h2:2<=j) (hj:j<=5) (e:gs.map (·.1)=(["a", "b", "c", "d", "e"]:List Str).take j) (r:∀g∈gs,g.2.ok ((["p", "q"]:List Str).take i++(["a", "b", "c", "d", "e"]:List Str).take j)/\g.2.dep<=3):NetOk ((["p", "q"]:List Str).take i) gs/\("calmed" : Str)∉aj ((["p", "q"]:List Str).take i) gs:=by
 have h:=A_;unfold Ba at h;have h:=Q0.mp (Q0.mp h i (List.mem_range.mpr (by omega))) j (List.mem_range.mpr (by omega));rw[Bool.and_eq_true]at h;have ew:aj ((["p", "q"]:List Str).take i) gs=(["p", "q"]:List Str).take i++(["a", "b", "c", "d", "e"]:List Str).take j:=by unfold aj;rw[e]
 have l:gs.length=((["a", "b", "c", "d", "e"]:List Str).take j).length:=by rw[<-e,Qa]
 rw[Qq]at l;simp only[QK,Q8]at l;refine⟨⟨by rw[ew];exact of_decide_eq_true h.1,by rw[Qq];simp only[QK,Q8];omega,by omega,by omega,λg hg=>by rw[ew];exact⟨(r g hg).1,QM (r g hg).2 (by decide)⟩⟩,by rw[ew];simpa using h.2⟩
def rO (K:PySem.W.Frag):Sp:=λvs H Q _=>∃(s:Addr) (cs:List Int),vs=[.ref s]/\SqL K H s (cs.map V.int) /\
 ∀l a li lg ins gvs gs z H',aw H H'->H' l=some (.lst [.ref a,.str z])->NAt H' a li lg ins gvs gs->NetOk ins gs->("calmed" : Str)∉aj ins gs->StOk (aj ins gs).length z->Q (.ref l) H'
section
theorem nN:FnScope ["script", "inputs", "names", "every", "gates", "k", "cell", "standing"] ["script"] (au (top 42)):=by fin2
theorem uS {f:Addr} {fd:FuncData} (Fu:Fun K "_law_net" "_law_net" (top 42) f fd) (T:Txt K mg TT) (f_law_cell:Fn P w K mg base "_law_cell" ["script", "k"] 1 (nK K)) (f_law_mixed:Fn P w K mg base "_law_mixed" ["cell", "k"] 1 oZ) (f_law_rule:Fn P w K mg base "_law_rule" ["cell", "names", "depth"] 4 (kO 3)) :
  FnOk P w K mg base CX0 5 f fd ["script"] (rO K):=by
 have S:=nN;refine Fu.ok S (by room) (λcdv A outer s H vs Q E hr h=>?_);obtain⟨sc,cs,rfl,hS,kk⟩:=h;refine'⟨?_,?bb,?_⟩
 case bb =>
  walk_at "b";exact aH 1 S.nd (cX io (pe_lst (aa a7 (aa a7 ag se_con) se_con)) dD (dC (aR dG (aE f_law_cell hr (aa (pv 0) (aa am ag se_con) ae)) am)));exact aH 2 S.nd (cX io (pe_lst (aa a7 (aa a7 (aa a7 (aa a7 (aa a7 ag se_con) se_con) se_con) se_con) se_con)) dD (dC (aR b_ am (aR dG (aR fj (aE f_law_cell hr (aa (pv 0) (aa am ag se_con) ae)) am) am))));exact aH 3 S.nd (aR nY (pv 1) (pv 2));exact aH 4 S.nd (pe_lst ag);walk_at "f";exact(gF (by rfl) T.n_range (aa (aV aM (by rfl) T.n_len QW (aa (pv 2) ag ae)) ag se_call));exact(bG 5 S.nd);walk_at "p";exact aH 6 S.nd (aE f_law_cell hr (aa (pv 0) (aa (aR b_ am (pv 5)) ag) ae));exact(aF cG (aR dG (aE f_law_cell hr (aa (pv 0) (aa am ag se_con) ae)) am) am (aN _));exact aH 6 S.nd (aE f_law_mixed hr (aa (pv 6) (aa (pv 5) ag ae) ae));refine' bU (fz Q6 Xa Xb bR (pv 4) ?a)
  case a =>
   walk_at "q";exact(aC bd (pv 2) (pv 5));exact(aC aG (aE f_law_rule hr (aa (pv 6) (aa (pv 3) (aa am ag se_con) ae) ae)) am)
  exact aH 7 S.nd (fz PySem.F.plainAttrs_str PySem.F.slot_str_join PySem.F.type_str_join uY a7 (aa (i6 "k" [("script", 0)] (gF (by rfl) T.n_range (aa (aV aM (by rfl) T.n_len QW (aa (pv 3) ag ae)) ag se_call)) (λ_ _ _ _=>(aC fP a7 (aR dG (aR fj (aE f_law_cell hr (aa (pv 1) (aa am ag se_con) ae)) (aR b_ am (aR dq am (pv 0)))) am)))) ag));refine' aD ?e
  case e =>
   walk_at "q";exact(pv 1);exact(pv 4);exact(pv 7)
 x_go;kt_k;refine aY (i_sl (i_lst (af (i_c (af (i_c (av ⟨by simp[sizeLine],λp0 hp0=>i_nopart (i_part (aA (aI (af (ad rfl (af (i_c (av ⟨sc,cs,0,rfl,sqs (ap hp0) hS,by omega,λc=>i_c (i_rI (by decide) ⟨_,rfl,pK (SqL.of ai) λr hr=>aq ?_⟩)⟩))))))))⟩)))))));obtain⟨i,hi⟩:∃i:Nat,c % 3=(i:Int):=⟨(c % 3).toNat,by omega⟩;have i2:i<=2:=by omega
 rw[hi,show [V.str "p", V.str "q"]=(["p", "q"]:List Str).map V.str from rfl,cut_to (by rw[Qa];exact i2),<-List.map_take] at *;generalize hE:upd H p0 _=H0;obtain⟨S0,_⟩:=aJ hp0 hE;rw[hE]at hr;clear hE;generalize hE:upd H0 r _=H1;obtain⟨S01,q1⟩:=aJ hr hE;clear hE hi c;have S1:=S0.trans S01;have lI:((["p", "q"]:List Str).take i).length<=2:=by rw[Qq];exact Nat.min_le_right _ _
 kt_k;refine aY (i_sl (i_lst (af (i_c (af (i_c (af (i_c (af (i_c (af (i_c (av ⟨by simp[sizeLine],λp2 hp2=>i_nopart (i_part (aA (i_c (aA (aA (aI (af (ad rfl (af (i_c (av ⟨sc,cs,0,rfl,sqs (S1.trans (ap hp2)) hS,by omega,λc=>i_c (i_rI ⟨by decide,by decide⟩ (i_c (i_rI (by decide) (i_rI0 ⟨_,rfl,pK (SqL.of ai) λr2 hr2=>aq ?_⟩))))⟩)))))))))))⟩)))))))))))));obtain⟨j,hj⟩:∃j:Nat,2+c / 3 % 4=(j:Int):=⟨(2+c / 3 % 4).toNat,by omega⟩;have j2:2<=j:=by omega
 have j5:j<=5:=by omega
 rw[hj,show [V.str "a", V.str "b", V.str "c", V.str "d", V.str "e"]=(["a", "b", "c", "d", "e"]:List Str).map V.str from rfl,cut_to (by rw[Qa];exact j5),<-List.map_take] at *;generalize hE:upd H1 p2 _=H2;obtain⟨S12,_⟩:=aJ hp2 hE;rw[hE]at hr2;clear hE;generalize hE:upd H2 r2 _=H3;obtain⟨S23,q3⟩:=aJ hr2 hE;clear hE hj c;have S13:=S12.trans S23;have nok:=λgs e r=>w6 (i:=i) (j:=j) i2 j2 j5 (gs:=gs) e r;have lN:((["a", "b", "c", "d", "e"]:List Str).take j).length<=5:=by rw[Qq];exact Nat.min_le_right _ _
 have lN2:1<=((["a", "b", "c", "d", "e"]:List Str).take j).length:=by rw[Qq];simp only[QK,Q8];omega
 generalize (["p", "q"]:List Str).take i=is at *;generalize (["a", "b", "c", "d", "e"]:List Str).take j=ns at *;have q13:=S13 _ _ q1;kt_k;refine aY (aA (ad rfl (ad rfl (tE q13 q3 (by simp only[Qa];omega) λe4 he4=>aq ?_))));rw[<-Qz];ctx_has H3 e4 H4 S4 q4 aJ he4;kt_k;refine aY (i_lst (av ⟨by simp[sizeLine],λG hG=>aq ?_⟩));ctx_has H4 G H5 S5 q5 aJ hG;have S35:=S4.trans S5;have q35:=S35 _ _ q3;have q45:=S5 _ _ q4;have q15:=S35 _ _ q13;have S05:=S1.trans (S13.trans S35);have hS5:=sqs S05 hS;have G0:H3 G=none:=aw.free S4 hG;kt_k;refine s_for (s_rng1 (af (i_cb (af (ad rfl (av ⟨r2,_,rfl,.inl (SqL.of q35),av ⟨_,rfl,by rw[Qa];omega,by rw[Qa];omega,?_⟩⟩))))));rw[Qa,Int.toNat_natCast];let I25:IvF:=λi U H'=>(∃x5 x6,U=[some (.ref sc),some (.ref r),some (.ref r2),some (.ref e4),some (.ref G),x5,x6,none])/\aw H4 H'/\∃gvs gs,H' G=some (.lst gvs)/\Paired (GAt H') gvs gs/\gs.length=i/\gs.map (·.1)=ns.take i/\∀g∈gs,g.2.ok (is++ns)/\g.2.dep<=3;refine kn (n:=ns.length) I25 ⟨⟨_,_,rfl⟩,S5,[],[],q5,.nil,rfl,rfl,λg h=>nomatch h⟩ (λi U H' hi pv=>?_) (λU H' pv=>?_)
 ·obtain⟨⟨x5,x6,rfl⟩,SH,gvs,gs,hG',gts,lgs,nms,ok⟩:=pv;obtain⟨x,ex⟩:∃x,ns[i]?=some x:=⟨_,Qb hi⟩;have hS':=sqs (S1.trans (S13.trans (S4.trans SH))) hS;refine aq ?_;kt_k;refine aY (aI (af (ad rfl (af (aA (i_c (ad rfl (i_rI0 (av ⟨sc,cs,2+i,?_,hS',by omega,λc=>aq ?_⟩)))))))))
  ·congr 2;congr 1;congr 1;omega
  let I26:IvJ:=λσ' H2=>(∃c:Int,σ'=[some (.ref sc),some (.ref r),some (.ref r2),some (.ref e4),some (.ref G),some (.int (0+(i:Int))),some (.int c),none])/\H2=H';with_reducible refine iS I26 (λR hR=>?_) (λσ' H2 pv=>?_)
  ·kt_k;refine aQ (aA (aA (aI (af (ad rfl (af (i_c (av ⟨sc,cs,1,rfl,hS',by omega,λc1=>i_c (i_rI (by decide) (i_c (i_eq rfl ⟨_,rfl,?_⟩)))⟩))))))));generalize decide (V.int (c1 % 2)=V.int 1)=bb
   cases bb with
   | false=>exact ifF rfl (s_next (hR _ _ ⟨⟨_,rfl⟩,rfl⟩))
   | true =>
   refine ifT rfl ?_;refine aY (aI (af (ad rfl (af (ad rfl (av ⟨c,i,?_,by omega,λc'=>aq (hR _ _ ⟨⟨_,rfl⟩,rfl⟩)⟩))))));congr 2;congr 1;congr 1;omega
  obtain⟨⟨c,rfl⟩,rfl⟩:=pv;refine s_drop (i_bm (ad rfl ⟨i_tyL hG',af (i_tup (af (aA (ad rfl (ad rfl (bD (v:=.str x) (SqL.of (SH _ _ (S4 _ _ q3))) (by rw[Int.zero_add];exact cg (by rw[Qm,ex];rfl)) ?_))))))⟩));refine af (aA (aI (af (ad rfl (af (ad rfl (af (i_c (av ⟨c,e4,is++ns,2,rfl,by omega,SH _ _ q4,λe=>by rw[(List.append_eq_nil_iff.mp e).2]at lN2;simp at lN2,by rw[Qf];omega,λt u r e H3 S3 ht hu rd rok=>i_c (bg ht rfl (av ⟨by simp[sizeLine],λb hb=>av ?_⟩))⟩)))))))));ctx_has H3 b H6 S6 q6 aJ hb;have lgv:=aP gts;have S36:=S3.trans S6;have hG4:=S36 _ _ hG';refine hU hG4 (by omega) ?_;have kt:fH H6 (upd H6 G (.lst (gvs++[.ref b]))):=λc us e=>by rw[ao λzz=>by rw[zz,hG4]at e;cases e];exact e
  refine⟨⟨_,_,rfl⟩,bh (SH.trans S36) hG,gvs++[.ref b],gs++[(x,r)],ai,?_,by simp[lgs],?_,λg hg=>?_⟩
  ·exact gX (dy (λc us e=>kt _ _ (S36 _ _ e)) gts) ⟨b,u,rfl,kt _ _ q6,(hu.mono λc us e=>S6 _ _ e).mono kt⟩
  ·rw[Qz,nms,QV,ex];rfl
  rcases Qy.mp hg with h|h
  ·exact ok g h
  rw[QL]at h;rw[h];exact⟨rok,rd⟩
 obtain⟨⟨x5,x6,rfl⟩,SH,gvs,gs,hG',gts,lgs,nms,rok⟩:=pv
 try dsimp only
 rw[Qr (Qg _)]at nms;obtain⟨ok,nc⟩:=nok gs nms rok;have ew:aj is gs=is++ns:=by unfold aj;rw[nms]
 have lw:(aj is gs).length<=7:=by rw[ew,Qf];omega
 have q46:=SH _ _ q4;have hS6:=sqs (S1.trans (S13.trans (S4.trans SH))) hS;rw[<-ew]at q46;kt_k;refine aY (i_bm (i_c ⟨AZ,?_⟩));refine af (i_comp (s_rng1 (af (i_cb (af (ad rfl (av ⟨e4,_,rfl,.inl (SqL.of q46),av ⟨_,rfl,by rw[Qa];omega,by rw[Qa];omega,λL hL=>?_⟩⟩)))))));rw[Qa,Int.toNat_natCast];let I27:IvC:=λn H2 ys=>aw H' H2/\H2 L=some (.lst ys)/\∃zs:List Str,ys=zs.map V.str/\zs.length=n/\∀z∈zs,∃c∈("01" : Str).cps.toList,z=⟨#[c]⟩;refine oE (n:=(aj is gs).length) I27 ⟨ap hL,ai,[],rfl,rfl,λz h=>nomatch h⟩ (λn H2 ys p=>p.2.1) (λn H2 ys hn p=>?_) (λH11 ys p=>?_)
 ·obtain⟨S11,hd,zs,rfl,lz,hz⟩:=p;refine aq ⟨by repeat' (first|exact trivial|refine⟨rfl,?_⟩),i_yes (iteT ?_)⟩;refine aA (i_c (aA (aA (aI (af (ad rfl (af (i_c (av ⟨sc,cs,1,rfl,sqs S11 hS6,by omega,λc=>?_⟩)))))))));refine aA (i_c (aA (i_c (ad rfl (i_rI (.inl ⟨by decide,by decide⟩) (i_rI0 (i_rI ⟨by omega,by omega⟩ (i_c (i_rI (by decide) ?_)))))))));have z2:(("01" : Str).cps.size:Int)=2:=by decide +kernel
  generalize c / (2+3*(0+(n:Int)))=cc;obtain⟨u,e,hu⟩:=vi (t := "01") (r:=cc % 2) (by omega) (by rw[z2];omega);refine g_ (by decide +kernel) e ?_;refine cw.mk hd hn (by rw[Qa];omega) ⟨bh S11 hL,ai,zs++[⟨#[u]⟩],by rw[Qz];rfl,by rw[Qf,lz];rfl,λz hz'=>?_⟩;rcases Qy.mp hz' with h|h
  ·exact hz z h
  rw[QL]at h;exact⟨u,hu,h⟩
 obtain⟨S11,hd,zs,rfl,lz,hz⟩:=p;obtain⟨e1,e2⟩:=qG hz;obtain⟨_,_,e3⟩:=em zs hz;refine av ⟨"", L,zs,rfl,rfl,SqL.of hd,?_,?_⟩
 ·have:("" : Str).length=0:=by decide +kernel
  rw[e3,this];omega
 have e0:("" : Str)=Str.empty:=by decide +kernel
 rw[e0];have st:StOk (aj is gs).length (Txt.join Str.empty zs):=⟨by rw[e1,lz],λc hc'=>(by decide +kernel:∀c∈("01" : Str).cps.toList,c=48\/c=49) c (e2 c hc')⟩;generalize Txt.join Str.empty zs=z at *;refine aq (bE (i_lst (af (i_tup (af (ad rfl (af (ad rfl (av ⟨by simp[sizeLine],λa ha=>af (ad rfl (av ⟨by simp[sizeLine],λl hl=>?_⟩))⟩)))))))));generalize hE:upd H11 a _=H12 at *;obtain⟨T12,q12⟩:=aJ ha hE;clear hE;have T13:=ap (o:=.lst [.ref a,.str z]) hl;have S611:=S11.trans (T12.trans T13);have q16:=SH _ _ (S4 _ _ q13);exact kk l a r G is gvs gs z _ (S1.trans (S13.trans (S4.trans (SH.trans S611)))) ai ⟨T13 _ _ q12,S611 _ _ q16,S611 _ _ hG',dy (λb us e=>S611 _ _ e) gts⟩ ok nc st
end
theorem mM (kvs:List (Key × V)) (k:Key) (v:V) (h:(aU kvs k).isSome=true):(bB kvs k v).map (·.1)=kvs.map (·.1):=by
 unfold bB;rw[cA,QB h,QS];refine List.map_congr_left λp _=>?_;show (if p.1=k then (p.1,v) else p).1=p.1
 split <;> rfl
theorem rj {k:Key} {v:V} (h:aU kvs k=some v):k∈kvs.map (·.1):=by
 unfold aU at h;obtain⟨p,hp,_⟩:=Option.map_eq_some_iff.mp h;have h2:=List.find?_some hp;exact Qp.mpr ⟨p,List.mem_of_find?_eq_some hp,by simpa using h2⟩
structure CntOf (kvs:List (Key × V)) (os:List Str):Prop where
 nd:(kvs.map (·.1)).Nodup
 txt:∀k∈kvs.map (·.1),∃n:Str,k=Sum.inr n
 val:∀n:Str,aU kvs (Sum.inr n)=if n∈os then some (.int (os.count n:Nat)) else none
theorem CntOf.put (c:CntOf kvs os) {n:Str} {m:Int} (h:(aU kvs (Sum.inr n)).getD (.int 0)=.int m):CntOf (bB kvs (Sum.inr n) (.int (m+1))) (os++[n]):=by
 have hm:m=(os.count n:Nat):=by
  rw[c.val n]at h;by_cases i:n∈os
  ·rw[QB i]at h;exact(V.int.inj h).symm
  rw[QC i]at h;rw[List.count_eq_zero_of_not_mem i];exact(V.int.inj h).symm
 subst hm;refine⟨?_,λk hk=>?_,λx=>?_⟩
 ·cases e:aU kvs (Sum.inr n) with
  | none=>exact uX _ c.nd e
  | some v=>rw[mM _ _ _ (by rw[e];rfl)];exact c.nd
 ·cases e:aU kvs (Sum.inr n) with
  | none =>
   rw[cW _ e,Qz,Qy]at hk;rcases hk with hk|hk
   ·exact c.txt k hk
   exact⟨n,by simpa using hk⟩
  | some v=>rw[mM _ _ _ (by rw[e];rfl)]at hk;exact c.txt k hk
 rw[cV,List.count_append,List.count_singleton];by_cases e:x=n
 ·subst e;rw[QB rfl,QB (by simp)];simp
 rw[QC (λz=>e (Sum.inr.inj z)),c.val x,QC (show ¬(n==x)=true by simpa using λz=>e z.symm),Nat.add_zero];by_cases i:x∈os
 ·rw[QB i,QB (by simp[i])]
 rw[QC i,QC (by simp[i,e])]
theorem CntOf.sub {ps:List Str} (a:CntOf ka os) (b:CntOf kb ps) (pm:os.Perm ps):∀p∈ka,dA p.2=true/\aU kb p.1=some p.2:=λp hp=>by
 obtain⟨n,hn⟩:=a.txt p.1 (List.mem_map_of_mem hp);obtain⟨i,hi,e⟩:=Ql.mp hp;have h1:aU ka p.1=some p.2:=bV a.nd (i:=i) (by rw[Qb hi,e]);rw[hn,a.val n]at h1;by_cases i:n∈os
 ·rw[QB i]at h1;have h1:=QT h1;rw[<-h1,hn,b.val n,QB (pm.mem_iff.mp i),pm.count_eq];exact⟨rfl,rfl⟩
 rw[QC i]at h1;cases h1
theorem CntOf.le {ps:List Str} (a:CntOf ka os) (b:CntOf kb ps) (pm:os.Perm ps):ka.length<=kb.length:=by
 have:=Bf.d_ (ka.map (·.1)) (kb.map (·.1)) a.nd λk hk=>by
  obtain⟨p,hp,rfl⟩:=Qp.mp hk;exact rj (a.sub b pm p hp).2
 rwa [Qa,Qa]at this
theorem Wlk.snoc {as:List Str} (W:Wlk ins gs z os as) {n:Str} (hx:as[os.length]?=some x) (h:(n,y)∈ak ins gs x) (sy:StOk (aj ins gs).length y):Wlk ins gs z (os++[n]) (as++[y]):=by
 have len:=W.len;refine⟨by simp[len],by rw[Qu (by omega)];exact W.hd,λu hu=>?_,λk u m v e1 e2 e3=>?_⟩
 ·rcases Qy.mp hu with h|h
  ·exact W.st u h
  rw[QL]at h;rw[h];exact sy
 by_cases c:k<os.length
 ·rw[Qu (by omega)]at e1 e2 e3;exact W.step k u m v e1 e2 e3
 by_cases c2:k=os.length
 ·subst c2;rw[Qu (by omega),hx]at e1;rw[Qs (Qg _),Nat.sub_self]at e2;rw[Qs (by omega),show os.length+1-as.length=0 by omega]at e3;cases e1;cases e2;cases e3;exact h
 rw[Xk (by simp;omega)]at e2;cases e2
structure OrdOk (ins:List Str) (gs:C4) (z:Str) (os as:List Str) (e:Bool) (kvs:List (Key × V)):Prop where
 wlk:Wlk ins gs z os as
 l40:os.length<=40
 fin:e=true->∀y,as[os.length]?=some y->ak ins gs y=[]
 not:e=false->os.length=40
 cnt:(∀x∈as,(br ins gs x).head?=none)->CntOf kvs os
structure OrdAt (H:Hp) (o ra ca:Addr) (as:List Str) (e:Bool) (kvs:List (Key × V)):Prop where
 ho:H o=some (.lst [.ref ra,.ref ca,.bl e])
 hr:H ra=some (.lst (as.map V.str))
 hc:H ca=some (.dK kvs)
theorem OrdAt.same {o:Addr} {as:List Str} {e:Bool} (S:aw H H') (h:OrdAt H o ra ca as e kvs):OrdAt H' o ra ca as e kvs:=⟨S _ _ h.ho,S _ _ h.hr,S _ _ h.hc⟩
theorem OrdAt.tk {o:Addr} {as:List Str} {e:Bool} (tb:d6 TL du H) (t:Tk TL H H') (h:OrdAt H o ra ca as e kvs):OrdAt H' o ra ca as e kvs:=⟨t.lst tb _ _ h.ho,t.lst tb _ _ h.hr,t.old _ _ h.hc (mf tb h.hc λ_ z=>nomatch z)⟩
theorem A0 {U:L2.St} (q:td U H λx H1=>∃a,x=.ref a/\IsD H1 a/\ty U H1 λy H2=>tx U H2 λz H3=>∃o,bz H3 a y o/\Q (o.getD z) H3):rC td ty tx U H Q:=q
def mw:Sp:=λvs H Q _=>∃(a li lg:Addr) (ins:List Str) (gvs:List V) (gs:C4) (z:Str) (c:Int),vs=[.ref a,.str z,.int c]/\NAt H a li lg ins gvs gs/\NetOk ins gs/\StOk (aj ins gs).length z /\
 ∀o ra ca os as e kvs H',aw H H'->OrdAt H' o ra ca as e kvs->OrdOk ins gs z os as e kvs->Q (.ref o) H'
section
theorem kX:FnScope ["net", "standing", "cell", "rows", "counts", "turn", "some", "name", "after"] ["net", "standing", "cell"] (au (top 43)):=by fin2
theorem qp {f:Addr} {fd:FuncData} (Fu:Fun K "_law_order" "_law_order" (top 43) f fd) (T:Txt K mg TT) (f_law_asked:Fn P w K mg base "_law_asked" ["net", "standing"] 11 iM) (f_law_turned:Fn P w K mg base "_law_turned" ["net", "standing", "name"] 2 fc):FnOk P w K mg base CX0 12 f fd ["net", "standing", "cell"] mw:=by
 have S:=kX;refine Fu.ok S (by room) (λcdv A outer s H vs Q E hr h=>?_);obtain⟨a,li,lg,ins,gvs,gs,z,c,rfl,NA,ok,st,k⟩:=h;have hu:=cf hr;refine'⟨?_,?bb,?_⟩
 case bb =>
  walk_at "b";exact aH 3 S.nd (pe_lst (aa (pv 1) ag ae));exact aH 4 S.nd ga;walk_at "f";exact(gF (by rfl) T.n_range (aa am ag se_con));exact(bG 5 S.nd);walk_at "p";exact aH 6 S.nd (aE f_law_asked hr (aa (pv 0) (aa (aC bd (pv 3) (ke gt am)) ag) ae));exact(aF (nX hr.units) (pv 6) (pe_lst ag) (aN _));exact(aD (pe_lst (aa (pv 3) (aa (pv 4) (aa eM ag se_con) ae) ae)));exact aH 7 S.nd (aC bd (pv 6) (aR dG (aR b_ (aR fj (pv 2) (aR b_ (pv 5) am)) (aR dq (aR fj (pv 2) am) (pv 5))) (aV aM (by rfl) T.n_len QW (aa (pv 6) ag ae))));exact(bU (fz Q6 Xa Xb bR (pv 3) (aa (aE f_law_turned hr (aa (pv 0) (aa (aC bd (pv 3) (ke gt am)) (aa (pv 7) ag ae)) ae)) ag se_call)));exact(fh hu (pv 4) (pv 7) (aR b_ (si hu (pv 4) (pv 7) am ⟨rfl,rfl,rfl,rfl⟩) am) rfl);exact aH 8 S.nd (aE f_law_asked hr (aa (pv 0) (aa (aC bd (pv 3) (ke gt am)) ag) ae));exact(aF (nW hr.units) (i5 (tgs:=["gate"]) (cap:=[("name", 7),("after", 8)]) rfl ⟨rfl,rfl,rfl,rfl,rfl,rfl⟩ (bt (pv 6)) (λ_ _ _ _=>(cE (i:=0) (show List.Nodup [("gate" : Str),("name" : Str),("after" : Str)] by decide +kernel) rfl (by z_go))) (λ_ _ _ _=>(dP (PW.pt (gD (aF gb (pv 0) (pv 1) (aN _)) (ff (aF (dE (K:=K) rfl) (pv 0) (pv 2) rfl)))))) (λ_ _ _ _=>(pv 0))) (pe_lst ag) (aN _));exact(fh hu (pv 4) a7 am rfl);exact(aD (pe_lst (aa (pv 3) (aa (pv 4) (aa eM ag se_con) ae) ae)))
 x_go;kt_k;refine aY (i_lst (af (ad rfl (av ⟨by simp[sizeLine],λR hR=>aq ?_⟩))));ctx_has H R H1 S1 q1 aJ hR;kt_k;refine aY (λC hC=>aq ?_);ctx_has H1 C H2 S2 q2 aJ hC;have CR:C≠R:=λe=>by rw[e,q1]at hC;cases hC
 have hC0:H C=none:=aw.free S1 hC;kt_k;refine s_for (s_rng1 (af (i_c (av ⟨40,rfl,by decide,by decide,?_⟩))));let I28:IvF:=λi U H'=>(∃x5 x6 x7 x8,U=[some (.ref a),some (.str z),some (.int c),some (.ref R),some (.ref C),x5,x6,x7,x8])/\aw H H'/\∃os as kvs,H' R=some (.lst (as.map V.str))/\H' C=some (.dK kvs)/\Wlk ins gs z os as/\os.length=i/\kvs.length<=2*i/\(∀n v,aU kvs (Sum.inr n)=some v->∃m:Int,v=.int m)/\((∀x∈as,(br ins gs x).head?=none)->CntOf kvs os);refine kn (n:=40) I28 ⟨⟨_,_,_,_,rfl⟩,S1.trans S2,[],[z],[],S2 _ _ q1,q2,⟨rfl,rfl,λx hx=>by rw[QL]at hx;rw[hx];exact st,λk x n y _ e _=>by simp at e⟩,rfl,QO _,λn v e=>by(cases e),λ_=>⟨List.nodup_nil,λk h=>(nomatch h),λn=>rfl⟩⟩ (λi U H' hi pv=>?_) (λU H' pv=>?_);rotate_left
 ·obtain⟨⟨x5,x6,x7,x8,rfl⟩,SH,os,as,kvs,hR',hC',W,lo,lk,ivs,cnt⟩:=pv
  try dsimp only
  refine bE (i_lst (af (ad rfl (af (ad rfl (af (i_c (av ⟨by simp[sizeLine],λo ho=>?_⟩))))))));have S9:=ap (o:=.lst [.ref R,.ref C,.bl false]) ho;exact k o R C os as false kvs _ (SH.trans S9) ⟨ai,S9 _ _ hR',S9 _ _ hC'⟩ ⟨W,by omega,λe=>by(cases e),λ_=>lo,cnt⟩
 obtain⟨⟨x5,x6,x7,x8,rfl⟩,SH,os,as,kvs,hR',hC',W,lo,lk,ivs,cnt⟩:=pv;have len:=W.len;obtain⟨x,hx⟩:∃x,as[os.length]?=some x:=⟨as[os.length]'(by omega),Qb _⟩;have xm:x∈as:=Qh hx;have sx:=W.st x xm;have NA':=NA.same SH;have la:=qX ok x;refine aq ?_;kt_k;refine aY (aI (af (ad rfl (af (aA (ad rfl (i_un (i_c (i_rU (bD (SqL.of hR') (gP hx len) (av ⟨a,li,lg,ins,gvs,gs,x,rfl,NA',ok,ok.nd,sx,λA H1 S1 nA hA=>aq ?_⟩)))))))))));have AR:A≠R:=λe=>by rw[e,hR']at nA;cases nA
 have AC:A≠C:=λe=>by rw[e,hC']at nA;cases nA
 kt_k;kt_k;refine aQ (aA (ad rfl (pd hA λH2 S2=>?_)));rw[Qa];have S12:=S1.trans S2;have hR2:=S12 _ _ hR';have hC2:=S12 _ _ hC';by_cases c0:(bx ins gs x).length=0
 ·rw[QJ c0];refine iteT (bE (i_lst (af (ad rfl (af (ad rfl (af (i_c (av ⟨by simp[sizeLine],λo ho=>?_⟩)))))))));have S9:=ap (o:=.lst [.ref R,.ref C,.bl true]) ho;refine k o R C os as true kvs _ (SH.trans (S12.trans S9)) ⟨ai,S9 _ _ hR2,S9 _ _ hC2⟩ ⟨W,by omega,λ_ y hy=>?_,λe=>by(cases e),cnt⟩;rw[hx]at hy;cases hy;exact(gQ ok).mp (List.length_eq_zero_iff.mp c0)
 rw[Qx c0];refine iteF ?_;kt_k;have hA2:=S2 _ _ hA;kt_k;refine aY (aA (ad rfl (aA (aA (aA (ad rfl (aA (ad rfl (i_c (i_rI0 (i_rI ⟨by omega,by omega⟩ (aA (aA (ad rfl (i_c (i_rI ⟨by decide,by decide⟩ (ad rfl (i_rI (.inr ⟨by omega,by omega⟩) (i_rI0 ?_)))))))))))))))))));refine i_cb (af (ad rfl (av ⟨A,_,rfl,.inl (SqL.of hA2),?_⟩)));rw[Qa];refine i_rI (by omega) ?_;generalize c / (0+(i:Int)+1)+c / 11*(0+(i:Int))=cx;obtain⟨n,hn,en⟩:=pV (ws:=bx ins gs x) (r:=cx % ((bx ins gs x).length:Int)) (Int.emod_nonneg _ (by omega)) (Int.emod_lt_of_pos _ (by omega));refine bD (SqL.of hA2) en (aq ?_);obtain⟨hw,hst⟩:=jz ok hn;have sy:=e_ sx (List.idxOf_lt_length_iff.mpr hw);have NA2:=NA'.same S12;kt_k;refine s_drop (i_bm (ad rfl ⟨i_tyL hR2,af (aI (af (ad rfl (af (aA (ad rfl (i_un (i_c (i_rU (bD (SqL.of hR2) (gP hx len) (af (ad rfl (av ⟨a,li,lg,ins,gvs,gs,x,n,rfl,NA2,ok,ok.nd,sx,hw,λH3 S3=>av (hU (S3 _ _ hR2) (by rw[Qa];omega) ?_)⟩)))))))))))))⟩));generalize hy:bn x ((aj ins gs).idxOf n)=y at *;have ey:as.map V.str++[V.str y]=(as++[y]).map V.str:=by rw[Qz];rfl
 rw[ey];have hA3:=S3 _ _ hA2;have hC3:=S3 _ _ hC2;have SH3:=SH.trans (S12.trans S3);generalize hE:upd H3 R _=H4;have SH4:aw H H4:=by rw[<-hE];exact bh SH3 hR
 have hR4:H4 R=some (.lst ((as++[y]).map V.str)):=by rw[<-hE];exact ai
 have hC4:H4 C=some (.dK kvs):=by rw[<-hE,ao CR];exact hC3
 have hA4:H4 A=some (.lst ((bx ins gs x).map V.str)):=by rw[<-hE,ao AR];exact hA3
 clear hE
 obtain⟨m,hm⟩:∃m:Int,(aU kvs (Sum.inr n)).getD (.int 0)=.int m:=by
  cases e:aU kvs (Sum.inr n) with
  | none=>exact⟨0,rfl⟩
  | some v=>exact ivs n v e
 kt_k;refine gA (aA (A0 (ad rfl ⟨C,rfl,.inl ⟨_,.inl hC4⟩,ad rfl (i_c ⟨_,bz.k (k:=Sum.inr n) hC4,?_⟩)⟩)));rw[hm];refine i_c (i_rI0 (ad rfl (ad rfl ⟨C,_,rfl,gp.k (k:=Sum.inr n) hC4 (by omega),?_⟩)));have lp:=cq kvs (Sum.inr n) (.int (m+1))
 have vp:∀x v,aU (bB kvs (Sum.inr n) (.int (m+1))) (Sum.inr x)=some v->∃m:Int,v=.int m:=λx v e=>by
  rw[cV]at e
  split at e
  ·cases e;exact⟨_,rfl⟩
  exact ivs x v e
 have cp:(∀u∈as,(br ins gs u).head?=none)->CntOf (bB kvs (Sum.inr n) (.int (m+1))) (os++[n]):=λh=>(cnt h).put hm;generalize bB kvs (Sum.inr n) (.int (m+1))=kv2 at *;generalize hE:upd H4 C _=H5;have SH5:aw H H5:=by rw[<-hE];exact bh SH4 hC0
 have hR5:H5 R=some (.lst ((as++[y]).map V.str)):=by rw[<-hE,ao (Xs CR)];exact hR4
 have hC5:H5 C=some (.dK kv2):=by rw[<-hE];exact ai
 have hA5:H5 A=some (.lst ((bx ins gs x).map V.str)):=by rw[<-hE,ao AC];exact hA4
 clear hE;have W2:=W.snoc hx hst sy;have len2:=W2.len
 have hx2:(as++[y])[(os++[n]).length]?=some y:=by
  rw[Qs (by simp;omega),show (os++[n]).length-as.length=0 by simp;omega];rfl
 kt_k;refine aY (aI (af (ad rfl (af (aA (ad rfl (i_un (i_c (i_rU (bD (SqL.of hR5) (gP hx2 len2) (av ⟨a,li,lg,ins,gvs,gs,y,rfl,NA.same SH5,ok,ok.nd,sy,λB H6 S6 _ hB=>aq ?_⟩)))))))))));have hA6:=S6 _ _ hA5
 have calm:(br ins gs x).head?=none->∀g∈bx ins gs x,g≠n->g∈bx ins gs y:=λh g hg ne=>by
  have:=lL h (jz ok hg).2 hst (Xs ne);rwa [eC ok]at this
 kt_k;refine aQ (aA (i_comp (s_list (ad rfl ⟨A,rfl,⟨_,SqL.of hA6⟩,λL hL=>?_⟩))));generalize bx ins gs x=As at *;generalize bx ins gs y=Bs at *;refine cR (xs:=As.map V.str) (λm H' us=>aw H6 H'/\H' L=some (.lst us)/\us.length<=m/\((br ins gs x).head?=none->us=[])) ⟨ap hL,ai,Qg _,λ_=>rfl⟩ (λm H' ys p=>⟨p.2.1,SqL.of (p.1 _ _ hA6)⟩) (λm v H' us e p=>?_) (λH7 us p=>?_)
 ·obtain⟨Sm,hd,lu,nil⟩:=p;rw[Qm]at e
  cases ex:As[m]? with
  | none=>rw[ex]at e;cases e
  | some g =>
  rw[ex]at e;cases e;have hm:m<As.length:=(Qc.mp ex).1;have hg:=Qh ex
  have no:∃m',m'<(As.map V.str).length-m/\(m'=(As.map V.str).length-(m+1)/\m+1<=(As.map V.str).length/\(aw H6 H'/\H' L=some (.lst us)/\us.length<=m+1/\((br ins gs x).head?=none->us=[]))):=by
   rw[Qa];exact⟨_,by omega,rfl,by omega,Sm,hd,by omega,nil⟩
  refine aq ⟨by repeat' (first|exact trivial|refine⟨rfl,?_⟩),?_⟩;with_reducible refine i_and ?_
  refine aQ (aA (ad rfl (ad rfl (i_ne rfl ⟨_,rfl,?_⟩))));by_cases c1:g=n
  ·refine ifF (by rw[c1];simp) (ifF rfl no)
  refine ifT (by simp[c1]) ?_;refine aQ (aA (ad rfl (ad rfl (cY (SqL.of (Sm _ _ hB)) ⟨_,rfl,?_⟩))));by_cases c2:g∈Bs
  ·rw[QJ c2];exact ifF rfl no
  rw[Qx c2];refine ifT rfl (ad rfl (cw.mk hd (by rw[Qa];exact hm) (by omega) ⟨bh Sm hL,ai,by rw[Qf];exact Nat.succ_le_succ lu,λhc=>absurd (calm hc g hg c1) c2⟩))
 obtain⟨S7,hd7,lu,nil⟩:=p;refine lh hd7 λH8 S8=>?_;have S68:=S6.trans (S7.trans S8);have hR8:=S68 _ _ hR5;have hC8:=S68 _ _ hC5;have SH8:=SH5.trans S68;have asub:(∀u∈as++[y],(br ins gs u).head?=none)->∀u∈as,(br ins gs u).head?=none:=λh u hu=>h u (List.mem_append_left _ hu);by_cases cu:us.length=0
 ·rw[QJ cu];refine iteF ?_;kt_k;exact⟨⟨_,_,_,_,rfl⟩,SH8,os++[n],as++[y],kv2,hR8,hC8,W2,by rw[Qf,lo];rfl,by omega,vp,λh=>cp (asub h)⟩
 rw[Qx cu];refine iteT ?_;refine gA (i_c (ad rfl (i_c ⟨C,_,rfl,gp.k (k:=Sum.inr "calmed") hC8 (by omega),?_⟩)));have lp2:=cq kv2 (Sum.inr "calmed") (.int 1);refine⟨⟨_,_,_,_,rfl⟩,bh SH8 hC0,os++[n],as++[y],_,by rw[ao (Xs CR)];exact hR8,ai,W2,by rw[Qf,lo];rfl,by omega,λx v e=>?_,λh=>absurd (nil (asub h x xm)) λz=>cu (by rw[z];rfl)⟩;rw[cV]at e
 split at e
 ·cases e;exact⟨_,rfl⟩
 exact vp x v e
end
section
variable {ins:List Str} {gs:C4} {z:Str} {os as:List Str}
theorem Wlk.to (W:Wlk ins gs z os as) {k:Nat} {x:Str} (e:as[k]?=some x):Run ins gs z (os.take k) x:=by
 have len:=W.len;have hk:=(Qc.mp e).1;have:=W.run k 0 z x (by omega) W.hd (by rw[Nat.zero_add];exact e);rwa [List.drop_zero]at this
theorem Wlk.met (W:Wlk ins gs z os as) {xs:List Str} (m:Met ins gs z xs):∀x∈as,x∈xs:=λx hx=>by
 obtain⟨i,hi,e⟩:=Ql.mp hx;exact m.runs (W.to (k:=i) (by rw[Qb hi,e])) m.start
theorem Wlk.last (W:Wlk ins gs z os as):∃y,as[os.length]?=some y/\Run ins gs z os y:=by
 have len:=W.len;obtain⟨y,hy⟩:∃y,as[os.length]?=some y:=⟨as[os.length]'(by omega),Qb _⟩;have:=W.to hy;rw[Qr (Qg _)]at this;exact⟨y,hy,this⟩
theorem OrdOk.no {e:Bool} {kvs:List (Key × V)} (o:OrdOk ins gs z os as e kvs) (ok:NetOk ins gs) (nc:("calmed" : Str)∉aj ins gs) {xs:List Str} (m:Met ins gs z xs) (cb:∀h∈xs,(br ins gs h).head?=none):aU kvs (Sum.inr "calmed")=none:=by
 have c:=o.cnt λx hx=>cb x (o.wlk.met m x hx);rw[c.val,QC λh=>nc ?_];obtain⟨i,hi,e⟩:=Ql.mp h;have len:=o.wlk.len;have hs:=o.wlk.step i _ "calmed" _ (Qb (by omega)) (by rw[Qb hi,e]) (Qb (by omega));exact(bA ok hs).1
end
theorem rl (ok:NetOk ins gs) (m:Met ins gs z xs) (cb:∀h∈xs,(br ins gs h).head?=none) (r1:Run ins gs z o1 y1) (r2:Run ins gs z o2 y2) (f1:ak ins gs y1=[]) (f2:ak ins gs y2=[]):y1=y2/\o1.Perm o2:=by
 obtain⟨u,h1,h2⟩:=r1.meet ok m.st (λh hh p hp=>m.closed hh hp) cb m.start r2 f2;obtain⟨rfl,e⟩:=h1.rest f1;rw[Xn]at h2;exact⟨e.symm,h2.symm⟩
def iL (TL:Addr):Sp:=λvs H Q _=>∃(a li lg:Addr) (ins:List Str) (gvs:List V) (gs:C4) (z:Str) (o1 r1 c1:Addr) (s1 p1:List Str) (e1:Bool) (k1:List (Key × V)) (o2 r2 c2:Addr) (s2 p2:List Str) (e2:Bool) (k2:List (Key × V)),vs=[.ref a,.str z,.ref o1,.ref o2]/\NAt H a li lg ins gvs gs/\NetOk ins gs/\("calmed" : Str)∉aj ins gs/\StOk (aj ins gs).length z/\d6 TL du H /\
 OrdAt H o1 r1 c1 s1 e1 k1/\OrdOk ins gs z p1 s1 e1 k1/\OrdAt H o2 r2 c2 s2 e2 k2/\OrdOk ins gs z p2 s2 e2 k2/\uc ins gs z none/\∀H',Tk TL H H'->Q (.bl true) H'
section
theorem gz:FnScope ["net", "standing", "one", "other", "paper", "rows", "counts", "ended"] ["net", "standing", "one", "other"] (au (top 47)):=by fin2
theorem sN {TL:Addr} {f:Addr} {fd:FuncData} (Fu:Fun K "_law_calm_good" "_law_calm_good" (top 47) f fd) (T:Txt K mg TT) (f_calm_paper:Fn P w K mg base "calm_paper" ["net", "standing"] 16 (gW TL)):FnOk P w K mg base CX0 17 f fd ["net", "standing", "one", "other"] (iL TL):=by
 have S:=gz;refine Fu.ok S (by room) (λcdv A outer s H vs Q E hr h=>?_);obtain⟨a,li,lg,ins,gvs,gs,z,o1,r1,c1,s1,p1,e1,k1,o2,r2,c2,s2,p2,e2,k2,rfl,NA,ok,nc,st,tb,A1,O1,A2,O2,race,k⟩:=h;have hu:=cf hr;refine'⟨?_,?bb,?_⟩
 case bb =>
  walk_at "b";exact aH 4 S.nd (aE f_calm_paper hr (aa (pv 0) (aa (pv 1) ag ae) ae));walk_at "f";exact(bt (pe_lst (aa (pv 2) (aa (pv 3) ag ae) ae)));exact(lx rfl (aZ (bG 5 S.nd) (aZ (bG 6 S.nd) (aZ (bG 7 S.nd) cT))));walk_at "p";exact(PW.pt (eT (fM (sk hu a7 (pv 6))) (d9 (aF (nW hr.units) (i5 (tgs:=["row"]) (cap:=[("paper", 4)]) rfl ⟨rfl,rfl,rfl,rfl,rfl,rfl⟩ (bt (pv 5)) (λ_ _ _ _=>(cE (i:=0) (show List.Nodup [("row" : Str),("paper" : Str)] by decide +kernel) rfl (by z_go))) (λ_ _ _ _=>(dP (aF (dE (K:=K) rfl) (pv 0) (pv 1) rfl))) (λ_ _ _ _=>(pv 0))) (pe_lst ag) (aN _)))));exact(aD eM);exact(aD (pk (nU (aC bd (pv 2) am)) (pk (nU (aC bd (pv 3) am)) (eV (fN (bH cG (aC bd (aC bd (pv 2) am) (ke gt am)) (aC bd (aC bd (pv 3) am) (ke gt am)) (aN _)) (eV (bH (uJ hr.units) (aC bd (pv 2) am) (aC bd (pv 3) am) (aN _))))))))
 x_go;obtain⟨xs,m,cb⟩:=race;have cb:∀h∈xs,(br ins gs h).head?=none:=cb;kt_k;refine aY (aI (af (ad rfl (af (ad rfl (av ⟨a,li,lg,ins,gvs,gs,z,rfl,NA,ok,st,tb,λxs' v H1 t1 m' hv=>?_⟩))))));have ex:=m.one m';subst ex;rw[QB (show nv ins gs xs=true from Q0.mpr λh hh=>QJ (cb h hh))]at hv;obtain⟨p,ss,rfl,_,pm,_,hp⟩:=hv;refine aq ?_;have tb1:=t1.tab;have A11:=A1.tk tb t1;have A21:=A2.tk tb t1;kt_k;refine s_for (s_list (i_lst (af (ad rfl (af (ad rfl (av ⟨by simp[sizeLine],λL hL=>⟨L,rfl,⟨_,SqL.of ai⟩,?_⟩⟩)))))));ctx_has H1 L H2 S2 q2 aJ hL;let I29:IvF:=λj U H'=>(∃x5 x6 x7,U=[some (.ref a),some (.str z),some (.ref o1),some (.ref o2),some (.ref p),x5,x6,x7])/\aw H2 H';refine cH (xs:=[.ref o1,.ref o2]) I29 ⟨⟨_,_,_,rfl⟩,aw.refl _⟩ (λj U H' _ pv=>SqL.of (pv.2 _ _ q2)) (λj v U H' hv pv=>?_) (λU H' pv=>?_)
 ·obtain⟨⟨x5,x6,x7,rfl⟩,S3⟩:=pv
  obtain⟨o,ra,ca,as,os,e,kvs,rfl,OA,OO⟩:∃o ra ca as os e kvs,v=.ref o/\OrdAt H' o ra ca as e kvs/\OrdOk ins gs z os as e kvs:=by
   match j,hv with
   | 0,hv=>cases hv;exact⟨_,_,_,_,_,_,_,rfl,A11.same (S2.trans S3),O1⟩
   | 1,hv=>cases hv;exact⟨_,_,_,_,_,_,_,rfl,A21.same (S2.trans S3),O2⟩
   | j+2,hv=>simp at hv
  have hp':=(S2.trans S3) _ _ hp;have len:=OO.wlk.len;have l40:=OO.l40;refine⟨o,_,rfl,SqL.of OA.ho,rfl,?_⟩;refine⟨_,_,rfl,aq ⟨_,_,rfl,aq ⟨_,_,rfl,aq ⟨rfl,?_⟩⟩⟩⟩;kt_k;kt_k;refine aQ (wp (i_c (ad rfl ⟨ca,_,rfl,bz.k (k:=Sum.inr "calmed") OA.hc,⟨_,rfl,?_⟩⟩)));rw[OO.no ok nc m cb];refine ifF rfl ?_;refine aQ (aA (i_comp (s_list (ad rfl ⟨ra,rfl,⟨_,SqL.of OA.hr⟩,λD hD=>?_⟩))));refine cR (xs:=as.map V.str) (λn H4 us=>aw H' H4/\H4 D=some (.lst us)/\us=[]) ⟨ap hD,ai,rfl⟩ (λn H4 us q=>⟨q.2.1,SqL.of (q.1 _ _ OA.hr)⟩) (λn v H4 us e q=>?_) (λH4 us q=>?_)
  ·obtain⟨S4,hd,rfl⟩:=q;rw[Qm]at e
   cases ex:as[n]? with
   | none=>rw[ex]at e;cases e
   | some x =>
   rw[ex]at e;cases e;have hn:n<as.length:=(Qc.mp ex).1;refine aq ⟨by repeat' (first|exact trivial|refine⟨rfl,?_⟩),?_⟩;refine aQ (aA (ad rfl (ad rfl (cY (SqL.of (S4 _ _ hp')) ⟨_,rfl,?_⟩))));rw[QJ (pm.mem_iff.mpr (OO.wlk.met m x (Qh ex)))];refine iteF ⟨_,by rw[Qa];omega,rfl,by rw[Qa];omega,S4,hd,rfl⟩
  obtain⟨S4,hd,rfl⟩:=q;refine lh hd λH5 S5=>iteF ?_;kt_k;exact⟨⟨_,_,_,rfl⟩,S3.trans (S4.trans S5)⟩
 obtain⟨⟨x5,x6,x7,rfl⟩,S3⟩:=pv
 try dsimp only
 have B1:=A11.same (S2.trans S3);have B2:=A21.same (S2.trans S3);have k:=k H' (t1.trans (Tk.of t1.tab (S2.trans S3)));refine bE (i_orV (i_notV (aA (ad rfl (i_c (bD (v:=.bl e1) (SqL.of B1.ho) rfl ⟨_,rfl,⟨_,rfl,?_⟩⟩))))))
 cases he1:e1 with
 | false=>exact ifT rfl k
 | true =>
 refine ifF rfl ?_;refine i_orV (i_notV (aA (ad rfl (i_c (bD (v:=.bl e2) (SqL.of B2.ho) rfl ⟨_,rfl,⟨_,rfl,?_⟩⟩)))))
 cases he2:e2 with
 | false=>exact ifT rfl k
 | true =>
 refine ifF rfl ?_;obtain⟨y1,hy1,ru1⟩:=O1.wlk.last;obtain⟨y2,hy2,ru2⟩:=O2.wlk.last;obtain⟨ey,pm12⟩:=rl ok m cb ru1 ru2 (O1.fin he1 y1 hy1) (O2.fin he2 y2 hy2);have n1:=O1.cnt λx hx=>cb x (O1.wlk.met m x hx);have n2:=O2.cnt λx hx=>cb x (O2.wlk.met m x hx);refine i_andV (aA (aA (aA (ad rfl (i_c (bD (v:=.ref r1) (SqL.of B1.ho) rfl (i_un (i_c (i_rU (bD (SqL.of B1.hr) (gP hy1 O1.wlk.len) ?_))))))))));refine aA (aA (ad rfl (i_c (bD (v:=.ref r2) (SqL.of B2.ho) rfl (i_un (i_c (i_rU (bD (SqL.of B2.hr) (gP hy2 O2.wlk.len) (i_eq rfl ⟨_,rfl,?_⟩)))))))));rw[QJ (by rw[ey])];refine ifT rfl ?_;exact aA (aA (ad rfl (i_c (bD (v:=.ref c1) (SqL.of B1.ho) rfl (aA (ad rfl (i_c (bD (v:=.ref c2) (SqL.of B2.ho) rfl ⟨c1,c2,k1,k2,rfl,rfl,B1.hc,B2.hc,Nat.le_antisymm (n1.le n2 pm12) (n2.le n1 pm12.symm),n1.sub n2 pm12,k⟩))))))))
end
theorem tj {qs:List (Str × Int)} (nd:(qs.map (·.1)).Nodup) {q:Str × Int} (h:q∈qs):aU (eP qs) (Sum.inr q.1)=some (.int q.2):=by
 obtain⟨i,hi,e⟩:=Ql.mp h;have e2:(eP qs).map (·.1)=az (qs.map (·.1)):=by unfold eP az;rw[QS,QS];rfl
 refine bV (i:=i) (by rw[e2];exact gh nd) ?_;unfold eP;rw[Qm,Qb hi,e];rfl
section
variable {ins:List Str} {gs:C4} {z r:Str} {H:Hp}
theorem Told.non {v:V} (t:Told ins gs z H v) (o:jF ins gs z r):v=.non:=by
 obtain⟨xs,m,h,n,l⟩:=o
 cases t with
 | none=>rfl
 | rests _ _ _ _ _ r1 r2 ne e1 e2=>exact absurd (((h _).mp ⟨m.runs r1 m.start,e1⟩).trans ((h _).mp ⟨m.runs r2 m.start,e2⟩).symm) ne
 | round _ _ _ _ _ r1 r2 ne=>exact absurd (l.calm r1 r2) ne
theorem Told.ref {v:V} (t:Told ins gs z H v) (no:∀r,¬jF ins gs z r):∃a,v=.ref a:=by
 cases t with
 | none o=>exact absurd o (no _)
 | rests=>exact⟨_,rfl⟩
 | round=>exact⟨_,rfl⟩
theorem qi {xs:List Str} {ps:List (Str × Nat)} {qs:List (Str × Int)} (num:NumOk ins gs xs ps) (pm:qs.Perm (ps.map λp=>(p.1,(p.2:Int)))) {x:Str} (hx:x∈ps.map (·.1)):∃n:Nat,aU (eP qs) (Sum.inr x)=some (.int n)/\eG ins gs x n:=by
 obtain⟨p,hp,rfl⟩:=Qp.mp hx;refine⟨p.2,tj (q:=(p.1,(p.2:Int))) ?_ (pm.mem_iff.mpr (Qp.mpr ⟨p,hp,rfl⟩)),num.long p hp⟩;rw[(pm.map _).nodup_iff,QS];exact num.nd
variable {kf:Addr->Str × Int}
theorem qh {bs:C3} (tup:∀b∈bs,H b=some (.tup [.str (kf b).1,.int (kf b).2])):Paired (nF H) (bs.map V.ref) (bs.map λb=>((kf b).1,V.int (kf b).2)):=by
 induction bs with
 | nil=>exact .nil
 | cons b bs ih=>exact .cons ⟨b,rfl,tup b (by simp)⟩ (ih λb hb=>tup b (QG _ hb))
theorem qg {bs:C3} (nd:((bs.map kf).map (·.1)).Nodup):bw [] (cI (bs.map λb=>((kf b).1,V.int (kf b).2)))=eP (bs.map kf):=by
 have e:cI (bs.map λb=>((kf b).1,V.int (kf b).2))=eP (bs.map kf):=by unfold cI eP;rw[QS,QS];rfl
 have e2:(eP (bs.map kf)).map (·.1)=az ((bs.map kf).map (·.1)):=by unfold eP az;simp
 rw[e,fg _ _ (by rw[e2];exact gh nd) (λ_ _=>rfl),Xo]
end
def o0 (K:PySem.W.Frag) (TL:Addr):Sp:=λvs H Q _=>∃(a:Addr) (ns:List Int),vs=[.ref a]/\SqL K H a (ns.map V.int)/\ns.length<=63/\d6 TL du H/\∀H',Q (.bl true) H'
section
theorem wD:FnScope ["script", "net", "standing", "one", "other", "told", "rest", "most", "rows", "counts", "ended"] ["script"] (au (top 48)):=by fin2
theorem sO {TL:Addr} {f:Addr} {fd:FuncData} (Fu:Fun K "law" "law" (top 48) f fd) (T:Txt K mg TT) (f_law_net:Fn P w K mg base "_law_net" ["script"] 5 (rO K)) (f_law_cell:Fn P w K mg base "_law_cell" ["script", "k"] 1 (nK K)) (f_law_order:Fn P w K mg base "_law_order" ["net", "standing", "cell"] 12 mw) (f_first_race:Fn P w K mg base "first_race" ["net", "standing"] 16 (rM TL))
  (f_law_calm_good:Fn P w K mg base "_law_calm_good" ["net", "standing", "one", "other"] 17 (iL TL)) (f_law_race_good:Fn P w K mg base "_law_race_good" ["net", "standing", "told"] 13 iI) (f_law_parting_good:Fn P w K mg base "_law_parting_good" ["net", "standing", "told"] 13 iJ)
  (f_one_rest:Fn P w K mg base "one_rest" ["net", "standing"] 16 (vE TL)) (f_rest_paper:Fn P w K mg base "rest_paper" ["net", "standing"] 16 (oY TL)) (f_told_parting:Fn P w K mg base "told_parting" ["net", "standing"] 16 (rL TL)):FnOk P w K mg base CX0 18 f fd ["script"] (o0 K TL):=by
 have S:=wD;refine Fu.ok S (by room) (λcdv A outer s H vs Q E hr h=>?_);obtain⟨sc,cells,rfl,hS,hlen,tb,k⟩:=h;have hu:=cf hr;refine'⟨?_,?bb,?_⟩
 case bb =>
  walk_at "b";exact(nS (aE f_law_net hr (aa (pv 0) ag ae)) (lx rfl (aZ (bG 1 S.nd) (aZ (bG 2 S.nd) cT))));exact aH 3 S.nd (aE f_law_order hr (aa (pv 1) (aa (pv 2) (aa (aE f_law_cell hr (aa (pv 0) (aa am ag se_con) ae)) ag se_call) ae) ae));exact aH 4 S.nd (aE f_law_order hr (aa (pv 1) (aa (pv 2) (aa (aE f_law_cell hr (aa (pv 0) (aa am ag se_con) ae)) ag se_call) ae) ae));exact aH 5 S.nd (aE f_first_race hr (aa (pv 1) (aa (pv 2) ag ae) ae));exact(PW.pt (gD (aF fO (pv 5) bX rfl) (ff (iX (eU (aE f_law_calm_good hr (aa (pv 1) (aa (pv 2) (aa (pv 3) (aa (pv 4) ag ae) ae) ae) ae)))))));exact(aD eM);exact(PW.pt (gD (aF lA (pv 5) bX rfl) (ff (iX (eU (aE f_law_race_good hr (aa (pv 1) (aa (pv 2) (aa (pv 5) ag ae) ae) ae)))))));exact(aD eM);exact aH 6 S.nd (aE f_one_rest hr (aa (pv 1) (aa (pv 2) ag ae) ae));exact(aF fO (pv 6) bX rfl);exact(aD (aE f_law_parting_good hr (aa (pv 1) (aa (pv 2) (aa (aE f_told_parting hr (aa (pv 1) (aa (pv 2) ag ae) ae)) ag se_call) ae) ae)));exact aH 7 S.nd (bu hu (fi rfl (by rfl) T.n_dict (aa (aE f_rest_paper hr (aa (pv 1) (aa (pv 2) ag ae) ae)) ag se_call)) (pv 2));walk_at "f";exact(bt (pe_lst (aa (pv 3) (aa (pv 4) ag ae) ae)));exact(lx rfl (aZ (bG 8 S.nd) (aZ (bG 9 S.nd) (aZ (bG 10 S.nd) cT))));walk_at "p";exact(PW.pt (eT (PW.pt (gD (eU (pv 10)) (ff (PW.pt (eT (aF gb (aC bd (pv 8) (ke gt am)) (pv 6) (aN _)) (d9 (aF vR (aR ly (aV aM (by rfl) T.n_len QW (aa (pv 8) ag ae)) am) (pv 7) (aN _)))))))) (d9 (PW.pt (gD (iX (eU (pv 10))) (ff (aF kg (pv 7) am (aN _))))))));exact(aD eM);exact(aD (bH fO (aE f_told_parting hr (aa (pv 1) (aa (pv 2) ag ae) ae)) bX rfl))
 x_go;kt_k;refine aY (aI (af (ad rfl (av ⟨sc,cells,rfl,hS,λl a li lg ins gvs gs z H1 S1 hl NA ok nc st=>?_⟩))));refine⟨l,_,rfl,SqL.of hl,rfl,?_⟩;refine⟨_,_,rfl,aq ⟨_,_,rfl,aq ⟨rfl,?_⟩⟩⟩;have hS1:=sqs S1 hS;kt_k;refine aY (aI (af (ad rfl (af (ad rfl (af (aI (af (ad rfl (af (i_c (av ⟨sc,cells,20,rfl,hS1,by omega,λc1=>av ⟨a,li,lg,ins,gvs,gs,z,c1,rfl,NA,ok,st,λo1 r1 k1 p1 s1 e1 d1 H2 S2 A1 O1=>aq ?_⟩⟩))))))))))));have NA2:=NA.same S2;kt_k;refine aY (aI (af (ad rfl (af (ad rfl (af (aI (af (ad rfl (af (i_c (av ⟨sc,cells,21,rfl,sqs S2 hS1,by omega,λc2=>av ⟨a,li,lg,ins,gvs,gs,z,c2,rfl,NA2,ok,st,λo2 r2 k2 p2 s2 e2 d2 H3 S3 A2 O2=>aq ?_⟩⟩))))))))))));have NA3:=NA2.same S3;have A13:=A1.same S3;have tb3:=c7 tb (S1.trans (S2.trans S3));kt_k;refine aY (aI (af (ad rfl (af (ad rfl (av ⟨a,li,lg,ins,gvs,gs,z,rfl,NA3,ok,st,tb3,λrc v H4 t4 rr rv=>aq ?_⟩))))));have tb4:=t4.tab;have NA4:=NA3.mono (t4.lst tb3) (t4.tup tb3);have A14:=A13.tk tb3 t4;have A24:=A2.tk tb3 t4;let I30:IvJ:=λσ' H5=>σ'=[some (.ref sc),some (.ref a),some (.str z),some (.ref o1),some (.ref o2),some v,none,none,none,none,none]/\Tk TL H4 H5;with_reducible refine iS I30 (λR hR=>?_) (λσ' H5 pv=>?_)
 ·kt_k;with_reducible refine i_and ?_
  match rc,rr,rv with
  | none,rr,rv =>
   have rv:v=.non:=rv;subst rv;refine aQ (aA (ad rfl (i_c ⟨rfl,⟨_,rfl,ifT rfl ?_⟩⟩)));refine i_not (i_tB (aI (af (ad rfl (af (ad rfl (af (ad rfl (af (ad rfl (av ⟨a,li,lg,ins,gvs,gs,z,o1,r1,k1,s1,p1,e1,d1,o2,r2,k2,s2,p2,e2,d2,rfl,NA4,ok,nc,st,tb4,A14,O1,A24,O2,rr,λH5 t5=>⟨_,rfl,iteF ?_⟩⟩)))))))))));kt_k;exact hR _ _ ⟨rfl,t5⟩
  | some (ns,cc,bb),rr,rv =>
   obtain⟨t,l,ev,_⟩:=rv;subst ev;refine aQ (aA (ad rfl (i_c ⟨rfl,⟨_,rfl,ifF rfl (ifF rfl ?_)⟩⟩)));kt_k;exact hR _ _ ⟨rfl,Tk.of tb4 (aw.refl _)⟩
 obtain⟨rfl,t5⟩:=pv;have tb5:=t5.tab;have NA5:=NA4.mono (t5.lst tb4) (t5.tup tb4);let I31:IvJ:=λσ' H6=>σ'=[some (.ref sc),some (.ref a),some (.str z),some (.ref o1),some (.ref o2),some v,none,none,none,none,none]/\Tk TL H5 H6;with_reducible refine iS I31 (λR hR=>?_) (λσ' H6 pv=>?_)
 ·kt_k;with_reducible refine i_and ?_
  match rc,rr,rv with
  | none,rr,rv =>
   have rv:v=.non:=rv;subst rv;refine aQ (aA (ad rfl (i_c ⟨rfl,⟨_,rfl,ifF rfl (ifF rfl ?_)⟩⟩)));kt_k;exact hR _ _ ⟨rfl,Tk.of tb5 (aw.refl _)⟩
  | some (ns,cc,bb),rr,rv =>
   obtain⟨t,l,ev,_,_,ht,hl⟩:=rv;subst ev;obtain⟨x,ln,run,sx,hc,hb,ne,nca⟩:=nP ok rr;refine aQ (aA (ad rfl (i_c ⟨rfl,⟨_,rfl,ifT rfl ?_⟩⟩)));refine i_not (i_tB (aI (af (ad rfl (af (ad rfl (af (ad rfl (av ⟨a,li,lg,ins,gvs,gs,z,t,l,cc,bb,ns,x,rfl,NA5,ok,st,t5.tup tb4 _ _ ht,t5.lst tb4 _ _ hl,ln,run,sx,hc,hb,ne,nca,λH6 S6=>⟨_,rfl,iteF ?_⟩⟩)))))))));kt_k;exact hR _ _ ⟨rfl,Tk.of tb5 S6⟩
 obtain⟨rfl,t6⟩:=pv;have t46:=t5.trans t6;have tb6:=t6.tab;have NA6:=NA5.mono (t6.lst tb5) (t6.tup tb5);have A16:=A14.tk tb4 t46;have A26:=A24.tk tb4 t46;clear rr rv A1 A13 A2 A14 A24 NA NA2 NA3 NA4 NA5 hS hS1;kt_k;refine aY (aI (af (ad rfl (af (ad rfl (av ?_))))));refine⟨a,li,lg,ins,gvs,gs,z,rfl,NA6,ok,st,tb6,λr xs H7 t7 met one=>aq ?_,λxs H7 t7 met no=>aq ?_⟩;rotate_left
 ·have tb7:=t7.tab;have NA7:=NA6.mono (t7.lst tb6) (t7.tup tb6);kt_k;kt_k;refine aQ (aA (ad rfl (i_c ⟨rfl,⟨_,rfl,ifT rfl ?_⟩⟩)));refine bE (aI (af (ad rfl (af (ad rfl (af (aI (af (ad rfl (af (ad rfl (av ⟨a,li,lg,ins,gvs,gs,z,rfl,NA7,ok,st,tb7,λv H8 t8 told=>av ?_⟩))))))))))));obtain⟨t,rfl⟩:=told.ref no;exact⟨a,li,lg,ins,gvs,gs,z,t,rfl,NA7.mono (t8.lst tb7) (t8.tup tb7),ok,st,told,λH9 _=>k _⟩
 have tb7:=t7.tab;have NA7:=NA6.mono (t7.lst tb6) (t7.tup tb6);have A17:=A16.tk tb6 t7;have A27:=A26.tk tb6 t7;kt_k;kt_k;refine aQ (aA (ad rfl (i_c ⟨rfl,⟨_,rfl,ifF rfl ?_⟩⟩)));kt_k;kt_k;refine aY (i_dget (tD (af (aI (af (ad rfl (af (ad rfl (av ⟨a,li,lg,ins,gvs,gs,z,r,rfl,NA7,ok,st,tb7,one,λp xs8 ps bs kf H8 t8 hp met8 num pm so tup hp8=>av ?_⟩)))))))));have ex:=met.one met8;subst ex;obtain⟨ys,my,hone,ll⟩:=id one;have ey:=met.one my;subst ey;obtain⟨n,vn,lng⟩:=qi num pm ((num.long_of met met.start).mpr ll);have few:=met.few7 ok
 have lps:ps.length<=xs.length:=by
  have:=Bf.d_ (ps.map (·.1)) xs num.nd λx hx=>by
   obtain⟨q,hq,rfl⟩:=Qp.mp hx;exact num.sub q hq
  rwa [Qa]at this
 have lbs:bs.length=ps.length:=by have:=pm.length_eq;rwa [Qa,Qa]at this
 have ndb:((bs.map kf).map (·.1)).Nodup:=by
  rw[(pm.map _).nodup_iff,QS];exact num.nd
 refine⟨p,_,_,rfl,SqL.of hp8,by rw[Qa];omega,qh tup,λd hd=>ad rfl ⟨d,.int n,rfl,by rw[<-vn,<-qg ndb];exact bz.k (k:=Sum.inr z) ai,aq ?_⟩⟩;generalize hE:upd H8 d _=H9;obtain⟨S9,_⟩:=aJ hd hE;clear hE;have t89:Tk TL H7 H9:=t8.trans (Tk.of t8.tab S9);have tb9:=t89.tab;have NA9:=NA7.mono (t89.lst tb7) (t89.tup tb7);have A19:=A17.tk tb7 t89;have A29:=A27.tk tb7 t89;kt_k;refine s_for (s_list (i_lst (af (ad rfl (af (ad rfl (av ⟨by simp[sizeLine],λL hL=>⟨L,rfl,⟨_,SqL.of ai⟩,?_⟩⟩)))))));ctx_has H9 L H10 S10 q10 aJ hL;let I32:IvF:=λj U H'=>(∃x8 x9 x10,U=[some (.ref sc),some (.ref a),some (.str z),some (.ref o1),some (.ref o2),some v,some (.str r),some (.int (n:Int)),x8,x9,x10])/\aw H10 H';refine cH (xs:=[.ref o1,.ref o2]) I32 ⟨⟨_,_,_,rfl⟩,aw.refl _⟩ (λj U H' _ pv=>SqL.of (pv.2 _ _ q10)) (λj v U H' hv pv=>?_) (λU H' pv=>?_)
 ·obtain⟨⟨x8,x9,x10,rfl⟩,S11⟩:=pv
  obtain⟨o,ra,ca,as,os,e,kvs,rfl,OA,OO⟩:∃o ra ca as os e kvs,v=.ref o/\OrdAt H' o ra ca as e kvs/\OrdOk ins gs z os as e kvs:=by
   match j,hv with
   | 0,hv=>cases hv;exact⟨_,_,_,_,_,_,_,rfl,A19.same (S10.trans S11),O1⟩
   | 1,hv=>cases hv;exact⟨_,_,_,_,_,_,_,rfl,A29.same (S10.trans S11),O2⟩
   | j+2,hv=>simp at hv
  obtain⟨y,hy,ru⟩:=OO.wlk.last;have len:=OO.wlk.len;have le:=lng.1 _ _ ru;refine⟨o,_,rfl,SqL.of OA.ho,rfl,?_⟩;refine⟨_,_,rfl,aq ⟨_,_,rfl,aq ⟨_,_,rfl,aq ⟨rfl,?_⟩⟩⟩⟩;kt_k;kt_k;with_reducible refine i_and ?_
  refine i_tB (ad rfl ⟨e,rfl,?_⟩)
  cases he:e with
  | true =>
   have er:y=r:=(hone y).mp ⟨met.runs ru met.start,OO.fin he y hy⟩;refine ifT rfl ?_;kt_k;refine aQ (aA (aA (ad rfl (i_un (i_c (i_rU (bD (SqL.of OA.hr) (gP hy len) (ad rfl (i_ne rfl ⟨_,rfl,?_⟩)))))))));rw[QJ (by rw[er])];refine ifF rfl ?_;refine aQ (aA (aA (i_cb (af (ad rfl (av ⟨ra,_,rfl,.inl (SqL.of OA.hr),i_c (i_rI0 (ad rfl (i_rI0 ⟨_,rfl,?_⟩)))⟩))))));rw[Qx (by rw[Qa];omega)];refine ifF rfl ?_;with_reducible refine i_and ?_
   refine i_not (i_tB (ad rfl ⟨true,rfl,ifF rfl (ifF rfl ?_)⟩));kt_k;exact⟨⟨_,_,_,rfl⟩,S11⟩
  | false =>
  have e40:=OO.not he;refine ifF rfl (ifF rfl ?_);with_reducible refine i_and ?_
  refine i_not (i_tB (ad rfl ⟨false,rfl,ifT rfl ?_⟩));refine aQ (aA (ad rfl (i_c (i_rI0 ⟨_,rfl,?_⟩))));rw[Qx (by omega)];refine ifF rfl ?_;kt_k;exact⟨⟨_,_,_,rfl⟩,S11⟩
 obtain⟨⟨x8,x9,x10,rfl⟩,S11⟩:=pv
 try dsimp only
 have S911:=S10.trans S11;refine bE (aA (aI (af (ad rfl (af (ad rfl (av ⟨a,li,lg,ins,gvs,gs,z,rfl,NA9.same S911,ok,st,c7 tb9 S911,λv H12 t12 told=>i_c ⟨rfl,?_⟩⟩)))))));rw[told.non one];exact k _
end
end K2
namespace K2
open PySem L2 PySem.Spec PyProof.Rows
variable {A:Type}
theorem wg {us:List A} (h:us.length=1):∃a0,us=[a0]:=by
 match us,h with
 | [a0],_=>exact⟨_,rfl⟩
theorem wf {us:List A} (h:us.length=2):∃a0 a1,us=[a0,a1]:=by
 match us,h with
 | [a0,a1],_=>exact⟨_,_,rfl⟩
theorem AV {us:List A} (h:us.length=3):∃a0 a1 a2,us=[a0,a1,a2]:=by
 match us,h with
 | [a0,a1,a2],_=>exact⟨_,_,_,rfl⟩
theorem AU {us:List A} (h:us.length=4):∃a0 a1 a2 a3,us=[a0,a1,a2,a3]:=by
 match us,h with
 | [a0,a1,a2,a3],_=>exact⟨_,_,_,_,rfl⟩
structure FX (K:PySem.W.Frag) (n:Str) (i:Nat) (f:Addr) (cd:Value):Prop where
 a:PySem.W.nsIn K mainGlobals n=some (some (.ref f))
 l:∃oc od kV dc pm an ct sl,K.lookup f=some ⟨oc,od,.func (PySem.W.fnOf n n (cU (top i)) (b8 (top i)) (au (top i)) .none kV dc pm an cd ct),sl⟩
 c:PySem.W.codeIn K cd n=true
 k:PySem.W.keepIn K (.ref f)=true
variable {mg:C2} {f fa TL0:Addr} {K:PySem.W.Frag}
theorem FX.fn {n:Str} {i:Nat} {cd:Value} {h:Heap} (X:K.In h) (G:h.Ns mainGlobals mg) (x:FX K n i f cd):∃fd,Fun K n n (top i) f fd/\mg n=some (.ref f):=by
 obtain⟨a,⟨_,_,_,_,_,_,_,_,l⟩,c,k⟩:=x;exact⟨_,oz (st:=top i) l c k,PySem.W.mg_of X G a⟩
abbrev ZN (K:PySem.W.Frag) (n:Str):Prop:=PySem.W.nsIn K mainGlobals n=some none
theorem FX.go (P:Program) (w:World) (base:Heap) {n:Str} {i k:Nat} {cd:Value} {h:Heap} {ps:List Str} {sp:Sp} (X:K.In h) (G:h.Ns mainGlobals mg) (x:FX K n i f cd) (o:∀fd,Fun K n n (top i) f fd->mg n=some (.ref f)->fI K fd ps []->FnOk P w K mg base CX0 k f fd ps sp)
  (hb:∀(kV doc pm:Value) (an:Option Addr) (cdv ct:Value) (us:List Value),us.length=ps.length->bindArgs (PySem.W.fnOf n n (cU (top i)) (b8 (top i)) (au (top i)) .none kV doc pm an cdv ct) ⟨us,[]⟩=pure (ps.zip us):=by intro _ _ _ _ _ _ us hl;first|(obtain⟨_,e⟩:=wg hl;subst e;rfl)|(obtain⟨_,_,e⟩:=wf hl;subst e;rfl)|(obtain⟨_,_,_,e⟩:=AV hl;subst e;rfl)|(obtain⟨_,_,_,_,e⟩:=AU hl;subst e;rfl)):Fn P w K mg base n ps k sp:=by
 obtain⟨fd,F,m⟩:=x.fn X G;have b:=F.binds hb;exact⟨f,fd,o fd F m b,m,x.k,b⟩
theorem xt {l:PySem.W.OpenLaw} {w:World} {h:Heap} (X:K.In h) (G:h.Ns mainGlobals mg) (hfa:mg "law" = some (.ref fa))
  (aT:PySem.W.nsIn K mainGlobals "TURNED" = some (some (.ref 40))) (tab:oR K 40 [("0", .flat (.str "1")),("1", .flat (.str "0"))])
  (x0:FX K "is_row" 5 45 (.ref 44)) (x1:FX K "gates_of" 6 50 (.ref 49)) (x2:FX K "wires_of" 7 57 (.ref 56)) (x3:FX K "is_standing" 8 64 (.ref 63)) (x4:FX K "check_standing" 9 71 (.ref 70)) (x5:FX K "rule_holds" 10 78 (.ref 77)) (x6:FX K "rule_worth" 11 85 (.ref 84)) (x7:FX K "signs_in" 12 92 (.ref 91)) (x8:FX K "turned_at" 13 99 (.ref 98)) (x9:FX K "steps_from" 14 106 (.ref 105)) (x10:FX K "found_from" 16 113 (.ref 112)) (x11:FX K "steps_found" 17 120 (.ref 119))(h11:PySem.W.codeHdIn K 119 115=true) (x12:FX K "order_to" 18 127 (.ref 126)) (x13:FX K "rests_in" 19 132 (.ref 131)) (x14:FX K "names_asked" 21 137 (.ref 136)) (x15:FX K "first_calmed" 22 144 (.ref 143)) (x16:FX K "is_calm" 23 149 (.ref 148)) (x17:FX K "first_race" 24 156 (.ref 155)) (x18:FX K "calm_paper" 25 163 (.ref 162)) (x19:FX K "standings_ahead" 27 168 (.ref 167)) (x20:FX K "most_switchings" 28 173 (.ref 172)) (x21:FX K "one_rest" 29 180 (.ref 179)) (x22:FX K "rest_paper" 30 187 (.ref 186)) (x23:FX K "round_told" 31 192 (.ref 191)) (x24:FX K "told_parting" 32 199 (.ref 198)) (x25:FX K "_law_cell" 34 206 (.ref 205)) (x26:FX K "_law_mixed" 35 213 (.ref 212)) (x27:FX K "_law_wire" 36 220 (.ref 219)) (x28:FX K "_law_rule" 37 227 (.ref 226)) (x29:FX K "_law_worth" 38 234 (.ref 233)) (x30:FX K "_law_names" 39 239 (.ref 238)) (x31:FX K "_law_asked" 40 244 (.ref 243)) (x32:FX K "_law_turned" 41 251 (.ref 250)) (x33:FX K "_law_net" 42 256 (.ref 255)) (x34:FX K "_law_order" 43 261 (.ref 260)) (x35:FX K "_law_walked" 44 268 (.ref 267)) (x36:FX K "_law_race_good" 45 275 (.ref 274)) (x37:FX K "_law_parting_good" 46 282 (.ref 281)) (x38:FX K "_law_calm_good" 47 287 (.ref 286)) (x39:FX K "law" 48 294 (.ref 293))
  (z0:ZN K "len") (z1:ZN K "range") (z2:ZN K "max") (z3:ZN K "min") (z4:ZN K "int") (z5:ZN K "list") (z6:ZN K "str") (z7:ZN K "isinstance") (z8:ZN K "all") (z9:ZN K "set") (z10:ZN K "dict") (z11:ZN K "enumerate") (z12:ZN K "sorted") (z13:ZN K "tuple") (z14:ZN K "bool") (z15:ZN K "zip") (z16:ZN K "reversed")
  : ∃fd:FuncData,(∀(s:Shared) (v:Value),BindsTo s fd ⟨[v],[]⟩ [("script", v)])/\∀base:Heap,K.In base->base.Ns mainGlobals mg->L2.fJ base mg->FnOk l.prog w K mg base CX0 18 fa fd ["script"] (o0 K 115):=by
 have e:=hfa.symm.trans (PySem.W.mg_of X G x39.a);cases e;have T:Txt K mg 40:=⟨QR X G z0,QR X G z1,QR X G z2,QR X G z3,QR X G z4,QR X G z5,QR X G z6,QR X G z7,QR X G z8,QR X G z9,QR X G z10,QR X G z11,QR X G z12,QR X G z13,QR X G z14,QR X G z15,QR X G z16,PySem.W.mg_of X G aT,tab⟩;obtain⟨a11,⟨_,_,_,_,_,_,_,_,l11⟩,c11,k11⟩:=x11;have m11:=PySem.W.mg_of X G a11;have F11:=oz (st:=top 17) l11 c11 k11;have b11:=F11.binds (ps:=["net", "standing"]) λ_ _ _ _ _ _ us hl=>by obtain⟨_,_,rfl⟩:=wf hl;rfl
 obtain⟨a39,⟨_,_,kV,dc,pm,an,ct,_,l39⟩,c39,k39⟩:=x39;have m39:=PySem.W.mg_of X G a39;have F39:=oz (st:=top 48) l39 c39 k39;have b39:=F39.binds (ps:=["script"]) λ_ _ _ _ _ _ us hl=>by obtain⟨_,rfl⟩:=wg hl;rfl
 refine⟨PySem.W.fnOf "law" "law" (cU (top 48)) (b8 (top 48)) (au (top 48)) .none kV dc pm an (.ref 293) ct,λs v=>.of_eq rfl,λbase KB _ BM=>?_⟩;have CT0:=PySem.W.codeHd_of_K KB h11;have FC11:FunC K "steps_found" "steps_found" (top 17) 120 _ 119:=⟨_,_,_,_,_,_,_,_,rfl,l11,c11⟩;have g25:=x25.go l.prog w base X G λ_ F _ _=>uU F T;have g26:=x26.go l.prog w base X G λ_ F _ _=>sK F T;have g27:=x27.go l.prog w base X G λ_ F _ _=>uO F T;have g28:=x28.go l.prog w base X G λ_ F m b=>mS F T g27 m x28.k b 3;have g33:=x33.go l.prog w base X G λ_ F _ _=>uS F T g25 g26 g28;have g30:=x30.go l.prog w base X G λ_ F _ _=>qq F T;have g29:=x29.go l.prog w base X G λ_ F m b=>kh F T m x29.k b 10;have g31:=x31.go l.prog w base X G λ_ F _ _=>qr F T g30 g29;have g32:=x32.go l.prog w base X G λ_ F _ _=>n_ F T g30;have g34:=x34.go l.prog w base X G λ_ F _ _=>qp F T g31 g32;have g0:=x0.go l.prog w base X G λ_ F _ _=>wY F T;have g3:=x3.go l.prog w base X G λ_ F _ _=>uT F T g0;have g4:=x4.go l.prog w base X G λ_ F _ _=>sR F T g3;have g10:=x10.go (sp:=(kR l.prog w K mg base 13)) l.prog w base X G λ_ F _ _=>sQ F T;have g1:=x1.go l.prog w base X G λ_ F _ _=>sP F T;have g2:=x2.go l.prog w base X G λ_ F _ _=>sG F T g1;have g7:=x7.go l.prog w base X G λ_ F _ _=>n5 F T g2;have g5:=x5.go l.prog w base X G λ_ F m b=>mT F T m x5.k b 10;have g6:=x6.go l.prog w base X G λ_ F _ _=>sF F T g5;have g8:=x8.go l.prog w base X G λ_ F _ _=>qo F T;have g9:=x9.go l.prog w base X G λ_ F _ _=>sH F T g7 g6 g8;have g11:Fn l.prog w K mg base "steps_found" ["net", "standing"] 15 (cN 115):=⟨_,_,nZ FC11 T CT0 BM g10 g9,m11,k11,b11⟩;have g14:=x14.go l.prog w base X G λ_ F _ _=>sS F T;have g15:=x15.go l.prog w base X G λ_ F _ _=>uV F T g14;have g12:=x12.go l.prog w base X G λ_ F _ _=>wZ F T;have g17:=x17.go l.prog w base X G λ_ F _ _=>uQ F T g4 g11 g15 g12;have g16:=x16.go l.prog w base X G λ_ F _ _=>qt F T g15;have g18:=x18.go l.prog w base X G λ_ F _ _=>lB F T g4 g11 g16;have g38:=x38.go l.prog w base X G λ_ F _ _=>sN F T g18;have g35:=x35.go l.prog w base X G λ_ F _ _=>n9 F T g31 g32;have g36:=x36.go l.prog w base X G λ_ F _ _=>sL F T g31 g32 g35;have g37:=x37.go l.prog w base X G λ_ F _ _=>sM F T g31 g35;have g13:=x13.go l.prog w base X G λ_ F _ _=>n8 F T;have g19:=x19.go l.prog w base X G λ_ F _ _=>sT F T;have g20:=x20.go l.prog w base X G λ_ F _ _=>uR F T g19 g13;have g21:=x21.go l.prog w base X G λ_ F _ _=>w4 F T g4 g11 g13 g20;have g22:=x22.go l.prog w base X G λ_ F _ _=>sJ F T g4 g11 g13 g20;have g23:=x23.go l.prog w base X G λ_ F _ _=>sI F T;have g24:=x24.go l.prog w base X G λ_ F _ _=>uP F T g4 g11 g13 g12 g20 g23;exact sO F39 T g33 g25 g34 g17 g38 g36 g37 g21 g22 g24
theorem Bk {l:PySem.W.OpenLaw} {q:Program} {loose:List Str} {XP:C2->Heap->Prop} {d:DefRec} {K:Params->PySem.W.Frag} {as:C3} {e:∀P,as=(K P).map (·.1)} (hn:l.most=some 63) (hdf:d.params.defaults=[]) (ok:∀w:World,gd (K w.params) [TL0]=true)
  (F:∀(w:World) (mg:C2) (fa:Addr) (h:Heap),(K w.params).In h->h.Ns mainGlobals mg->mg d.name=some (.ref fa) ->
   ∃fd:FuncData,(∀(s:Shared) (u:Value),BindsTo s fd ⟨[u],[]⟩ [("script", u)])/\∀base:Heap,(K w.params).In base->base.Ns mainGlobals mg->L2.fJ base mg->FnOk l.prog w (K w.params) mg base CX0 18 fa fd ["script"] (o0 (K w.params) TL0)) :
  PySem.W.WalkO q loose XP (PySem.W.kmHook K as e [TL0]).says l.row.toRowW d [] (λf vs=>PySem.call f vs) :=
 L2.rh (n:=63) (k:=18) (x := "script") (CX:=λ_=>CX0) (sp:=λw=>o0 (K w.params) TL0) hn (by decide) hdf ⟨rfl,by decide,by decide⟩ ok F (λ_ _ a ns hl hT hS=>⟨a,ns,rfl,hS,hl,(.inl (hT _ (by simp))),λ_=>rfl⟩) λ_ _ _ _ _ z=>z
end K2
open PySem PySem.W PyProof.Rows
set_option maxRecDepth 100000 in
set_option maxHeartbeats 0 in
theorem PySem.Challenge.cw_anydelay_k45_whole_calm_nets_come_to_one_holds : PySem.Challenge.rw_anydelay_k45_whole_calm_nets_come_to_one.Holds := by
 w_on;refine holds_law (by kernel_rfl) λsaid=>?_
 refine holds_open (q:=K2.vw) (loose:=[("TURNED" : Str)]) (Xt:=λs=>xlAt K2.vw [] s&&recOk (RowW.records PySem.Challenge.rw_anydelay_k45_whole_calm_nets_come_to_one.row.toRowW) s) (XP:=XL K2.vw []) (Yf:=Hook.obs K2.hk) (Ya:=Hook.val K2.hk) (YP:=Hook.says K2.hk) (N:=3528) K2.left (Hook.of K2.hk) (Hook.keeps K2.hk) (λs e=>xl_of s (Bool.and_eq_true_iff.mp e).1) XL.keeps (by rfl) (by rfl) (by rfl) (λs e=>recFacts_of (Bool.and_eq_true_iff.mp e).2) (by rfl) (by first|assumption|decide +kernel) (by decide +kernel) ⟨rfl,rfl,rfl,rfl,rfl,by decide +kernel⟩ ?hw ?hc
 (case hw=>w_witness2)
 refine K2.Bk (l:=PySem.Challenge.rw_anydelay_k45_whole_calm_nets_come_to_one) (K:=K2.KF) (as:=[3,40,44,45,49,50,56,57,63,64,70,71,77,78,84,85,91,92,98,99,105,106,112,113,119,120,126,127,131,132,136,137,143,144,148,149,155,156,162,163,167,168,172,173,179,180,186,187,191,192,198,199,205,206,212,213,219,220,226,227,233,234,238,239,243,244,250,251,255,256,260,261,267,268,274,275,281,282,286,287,293,294]) (e:=λ_=>rfl) rfl rfl (λw=>by kernel_rfl) ?F
 case F =>
  intro w mg fa h KX G hmg;refine' K2.xt KX G hmg ?_ ?_ ?_ ?_ ?_ ?_ ?_ ?_ ?_ ?_ ?_ ?_ ?_ ?_ ?_ ?_ ?_ ?_ ?_ ?_ ?_ ?_ ?_ ?_ ?_ ?_ ?_ ?_ ?_ ?_ ?_ ?_ ?_ ?_ ?_ ?_ ?_ ?_ ?_ ?_ ?_ ?_ ?_ ?_ ?_ ?_ ?_ ?_ ?_ ?_ ?_ ?_ ?_ ?_ ?_ ?_ ?_ ?_ ?_ ?_
  all_goals first|exact⟨by kernel_rfl,⟨_,_,_,_,_,_,_,_,rfl⟩,by kernel_rfl,by kernel_rfl⟩|kernel_rfl|rfl|decide|decide +kernel
