import PyProof.Rows.All
import Wide.All
import OpenK.AllK
import Wide.FinOn
import Lean
import PyProof.EqAt
import PyProof.EqKinds
import PyProof.TupleCall
import PyProof.NeKinds
import KE.KTabLook
import KE.KIntText
import KE.KUnpack
import PyProof.StrBlock2
import KE.KLam
import KE.KDictLaws
import PyProof.DictWalks
import PyProof.Rows.StrInSeq3
import PyProof.FactsAll.list_1
import PyProof.Rows.SortShellK
import PyProof.Rows.SortKeyStr
import KE.KDictSum
import KE.KItemsList
import PyProof.Rows.SortStr
import PyProof.ZipIter
import PyProof.Draws
import PyProof.AttrMissHeap
import PyProof.DictUpdate
import PyProof.ListNew
import PyProof.FactsAll.dict_1
import PyProof.Rows.DictSet
import PyProof.ForAppend
import KE.KDictList
import PyProof.TupleIter
import PyProof.CompUse
import KE.KRevSl
import PyProof.Rows.StrNews
import PyProof.StrLawsTight
import PyProof.PureStr
import PyProof.FitsStr
import KE.KEqDict
import PyProof.StationsW
import PyProof.RulesAs
import PyProof.ExcClass2
import KE.KTryMore
import PyProof.InstStoreFacts
import PyProof.ExcBaseAll.ValueError
import PyProof.NsDelKeeps
import PySem.Challenge.RW_anydelay_k82_ring_sheets_written_and_rea
namespace PySem
abbrev B0:=Value->Shared->Prop
abbrev B1:=List (Addr × Obj)
abbrev B2:=Str->Option Value
abbrev B3:=List Addr
end PySem
set_option linter.all false
set_option maxRecDepth 100000
set_option Elab.async false
abbrev Qa:=@PySem.wpAny_bind
abbrev Qb:=@List.length_map
abbrev Qc:=@List.getElem?_eq_getElem
abbrev Qd:=@PySem.Heap.get?_push_of_some
abbrev Qe:=@Array.length_toList
abbrev Qf:=@PySem.wpAny_pure
abbrev Qg:=@List.length_append
abbrev Qh:=@Bool.false_ne_true
abbrev Qi:=@Nat.le_refl
abbrev Qj:=@List.mem_cons_of_mem
abbrev Qk:=@List.size_toArray
abbrev Ql:=@List.getElem?_eq_some_iff
abbrev Qm:=@Array.getElem?_toList
abbrev Qn:=@List.mem_map
abbrev Qo:=@List.map_cons
abbrev Qp:=@List.mem_append
abbrev Qq:=@PyProof.Rows.wpS_bind
abbrev Qr:=@PyProof.Rows.boot_isinstance
abbrev Qs:=@PySem.Heap.lt_size
abbrev Qt:=@if_neg
abbrev Qu:=@if_pos
abbrev Qv:=@PySem.Heap.get?_push_size
abbrev Qw:=@List.mem_cons
abbrev Qx:=@PyProof.Rows.wpS_pure
abbrev Qy:=@Array.getElem?_eq_getElem
abbrev Qz:=@List.mem_of_getElem?
abbrev QA:=@decide_eq_true
abbrev QB:=@List.getElem?_map
abbrev QC:=@List.length_cons
abbrev QE:=@decide_eq_false
abbrev QF:=@Nat.ne_of_lt
abbrev QG:=@List.mem_singleton
abbrev QH:=@List.getD_eq_getElem?_getD
abbrev QI:=@List.mem_append_right
abbrev QJ:=@List.length_take
abbrev QK:=@List.mem_append_left
abbrev QL:=@Option.some.inj
abbrev QM:=@PySem.boot_len
abbrev QN:=@PySem.F.plainAttrs_str
abbrev QO:=@Nat.le_trans
abbrev QP:=@List.map_append
abbrev QQ:=@Array.toList_append
abbrev QR:=@Nat.zero_le
abbrev QS:=@Nat.lt_of_lt_of_le
abbrev QT:=@PySem.W.mg_none_of
abbrev QU:=@List.length_drop
abbrev QV:=@List.take_append_drop
abbrev QW:=@List.getElem?_append_right
abbrev QX:=@Bool.false_eq_true
abbrev QY:=@List.append_assoc
abbrev QZ:=@List.getElem?_append_left
abbrev Q0:=@List.take_of_length_le
abbrev Q1:=@List.pairwise_map
abbrev Q2:=@List.mem_iff_getElem
abbrev Q3:=@List.pairwise_append
abbrev Q4:=@PySem.F.plainAttrs_list
abbrev Q5:=@Array.getElem?_eq_some_iff
abbrev Q6:=@Int.toNat_natCast
abbrev Q7:=@List.getElem?_eq_none
abbrev Q8:=@PySem.Heap.SameBut.update
abbrev Q9:=@PySem.Heap.get?_update_other
abbrev Xa:=@List.lookup_cons
abbrev Xb:=@List.nodup_cons
abbrev Xc:=@PySem.wpAny_setState_of
abbrev Xd:=@List.mem_cons_self
abbrev Xe:=@PySem.Heap.get?_update_self
abbrev Xf:=@PySem.Paired.length
abbrev Xg:=@List.all_eq_true
abbrev Xh:=@PySem.F.slot_list_append
abbrev Xi:=@PySem.F.type_list_append
abbrev Xj:=@PySem.F.slot_str_join
abbrev Xk:=@PySem.F.type_str_join
abbrev Xl:=@List.getElem_of_mem
abbrev Xm:=@PySem.wpAny_holding
abbrev Xn:=@PySem.wpAny_truthy_bool
abbrev Xo:=@List.eq_nil_of_length_eq_zero
abbrev Xp:=@PySem.Around.under_plainId
abbrev Xq:=@Nat.add_sub_cancel
abbrev Xr:=@PyProof.Rows.wpS_forRange
abbrev Xs:=@PySem.F.called_set
abbrev Xu:=@PySem.wpAny_call_entry
abbrev Xv:=@List.getElem_mem
abbrev Xw:=@PyProof.Rows.boot_str
abbrev Xx:=@PyProof.Rows.callWith_type1
abbrev Xy:=@List.map_map
abbrev Xz:=@List.mem_range
abbrev XA:=@List.getElem?_drop
abbrev XB:=@PySem.Heap.size_push
abbrev XD:=@List.append_nil
abbrev XF:=@PySem.W.kia_one
abbrev XG:=@List.length_nil
abbrev XH:=@PySem.codeAny_builtin
abbrev XI:=@Bool.and_eq_true
abbrev XJ:=@List.not_mem_nil
abbrev XM:=@PyProof.Rows.boot_list
abbrev XQ:=@PySem.wpAny_mono
abbrev XR:=@of_decide_eq_true
abbrev XS:=@Array.size_append
abbrev XT:=@List.length_singleton
abbrev XU:=@PyProof.Rows.boot_int
abbrev XV:=@PyProof.Rows.KeyOrd.kle_refl
abbrev XW:=@PySem.F.slot_dict_keyiterator_next
abbrev XX:=@Nat.lt_of_le_of_lt
abbrev XY:=@PySem.Obj.data_mapFields
abbrev XZ:=@Nat.add_sub_cancel_left
abbrev X0:=@PyProof.Rows.F.plain_set_update_loop
abbrev X1:=@PyProof.Rows.boot_tuple
local macro_rules|`(tactic|z_go)=>`(tactic|first|exact .inl rfl|exact .inr rfl|assumption)
noncomputable section
namespace L2
open PySem
def cq (s:Stmt):Arguments:=match s with
 | .FunctionDef _ a _ _ _ _ _ _ _ _=>a
 | _=>{ posonlyargs:=[],args:=[],vararg:=none,kwonlyargs:=[],kw_defaults:=[],kwarg:=none,defaults:=[] }
def bM (s:Stmt):List Stmt:=match s with
 | .FunctionDef _ _ b _ _ _ _ _ _ _=>b
 | _=>[]
def am (s:Stmt):Scope:=match s with
 | .FunctionDef _ _ _ _ _ _ sc _ _ _=>sc
 | _=>{ kind:=.function,names:=[],isGenerator:=false,isCoroutine:=false }
end L2
namespace K2
open PySem L2 PySem.W
def top (i:Nat):Stmt:=PySem.Challenge.pw_anydelay_k82_ring_sheets_written_and_rea.main.body.getD i (.Pass ⟨0,0,0,0⟩)
noncomputable def kC (n:Str) (t:Nat) (l a fl:Int) (r:Addr) (x y:Value) (z:Addr) (u:Nat):Obj:={ cls:=.type "code", data:=.fields #[.str n t,.str n (t+1),.str "/claim/cut.py" (t+2),.int l 0,.int a 0,.int 0 0,.int 0 0,.int 3 0,.ref r,.bool true,.int fl 0,.ref (r+1),.none,x,y,.ref z,.int u 0,.int l 0,.str "/claim/cut.py" (u+1)] }
noncomputable def kF (n:Str) (i:Nat) (m:Str) (t:Nat) (c:Addr):Obj:={ cls:=.type "function", data:=.func { name:=n,qualname:=n,params:=cq (top i),body:=.stmts (bM (top i)),scope:=am (top i),globals:=3,closure:=[],defaults:=.none,kwdefaults:=.none,pyModule:=.str m t,code:=.ref c } }
def kE (P:Params) (x:Str) (t:Nat) (v:Value):DictEntry:={ hash:=PyData.keyHash P x,key:=.str x t,val:=v }
noncomputable def KF (P:Params):Frag:=[(3,{ cls:=.type "dict", data:=.dict #[kE P "__name__" 165 (.str "law_anydelay_k82_ring_sheets_written_and_rea" 381),kE P "__doc__" 166 .none,kE P "__package__" 167 .none,kE P "__loader__" 168 (.builtin "__main__.__loader__#opaque"),kE P "__spec__" 169 .none,kE P "__annotations__" 170 (.ref 6),kE P "__builtins__" 171 (.ref 4),kE P "__file__" 173 (.str "/claim/cut.py" 172),kE P "__cached__" 174 .none,kE P "NetError" 206 (.ref 24),kE P "NoText" 222 (.ref 37),kE P "LETTERS" 226 (.str "abcdefghijklmnopqrstuvwxyz" 225),kE P "MOST_LETTERS" 228 (.int 8 227),kE P "TURNED" 235 (.ref 40),kE P "is_name" 241 (.ref 45),kE P "is_pair" 248 (.ref 52),kE P "is_whole" 255 (.ref 59),kE P "is_number_below" 263 (.ref 66),kE P "is_row" 269 (.ref 71),kE P "are_unlike_names" 275 (.ref 76),kE P "has_wires" 283 (.ref 81),kE P "MOST_WIRES" 287 (.int 5 286),kE P "SIGNS_AHEAD" 294 (.ref 82),kE P "is_ring_turn" 302 (.ref 89),kE P "is_arc" 310 (.ref 96),kE P "waiting_turns" 316 (.ref 101),kE P "are_arcs" 322 (.ref 106),kE P "is_ring_sheet" 330 (.ref 113),kE P "show_inputs" 339 (.ref 120),kE P "show_arc" 346 (.ref 127),kE P "show_ring_sheet" 352 (.ref 132),kE P "read_inputs" 359 (.ref 139),kE P "read_turn" 366 (.ref 146),kE P "read_arc" 374 (.ref 153),kE P "read_ring_sheet" 380 (.ref 158),kE P "_law_cell_at" 390 (.ref 165),kE P "_law_numbers" 403 (.ref 172),kE P "_law_deck" 411 (.ref 179),kE P "_law_take" 419 (.ref 186),kE P "_law_wire_names" 432 (.ref 193),kE P "_law_order" 444 (.ref 200),kE P "_law_ring" 450 (.ref 205),kE P "_law_one_ring" 462 (.ref 212),kE P "_law_ring_written" 473 (.ref 219),kE P "_law_alike" 479 (.ref 224),kE P "_law_copy" 486 (.ref 231),kE P "law" 499 (.ref 238)] 47 }),
 (40,{ cls:=.type "dict", data:=.dict #[kE P "0" 229 (.str "1" 230),kE P "1" 231 (.str "0" 232)] 2 }),
 (44,kC "is_name" 236 10 1 181 41 .none .none 43 239),
 (45,kF "is_name" 7 "anydelay.nets" 223 44),
 (51,kC "is_pair" 242 14 1 181 46 (.ref 48) (.ref 49) 50 246),
 (52,kF "is_pair" 8 "anydelay.nets" 223 51),
 (58,kC "is_whole" 249 16 1 181 53 (.ref 55) (.ref 56) 57 253),
 (59,kF "is_whole" 9 "anydelay.nets" 223 58),
 (65,kC "is_number_below" 256 18 2 181 60 (.ref 62) (.ref 63) 64 261),
 (66,kF "is_number_below" 10 "anydelay.nets" 223 65),
 (70,kC "is_row" 264 20 2 181 67 .none .none 69 267),
 (71,kF "is_row" 11 "anydelay.nets" 223 70),
 (75,kC "are_unlike_names" 270 24 1 181 72 .none .none 74 273),
 (76,kF "are_unlike_names" 12 "anydelay.nets" 223 75),
 (80,kC "has_wires" 278 27 1 181 77 .none .none 79 281),
 (81,kF "has_wires" 14 "anydelay.sheets" 276 80),
 (82,{ cls:=.type "dict", data:=.dict #[kE P "+" 288 (.str "0" 289),kE P "-" 290 (.str "1" 291)] 2 }),
 (88,kC "is_ring_turn" 295 37 2 181 83 (.ref 85) (.ref 86) 87 300),
 (89,kF "is_ring_turn" 18 "anydelay.turnsheets" 284 88),
 (95,kC "is_arc" 303 41 2 181 90 (.ref 92) (.ref 93) 94 308),
 (96,kF "is_arc" 19 "anydelay.turnsheets" 284 95),
 (100,kC "waiting_turns" 311 47 1 181 97 .none .none 99 314),
 (101,kF "waiting_turns" 20 "anydelay.turnsheets" 284 100),
 (105,kC "are_arcs" 317 49 2 181 102 .none .none 104 320),
 (106,kF "are_arcs" 21 "anydelay.turnsheets" 284 105),
 (112,kC "is_ring_sheet" 323 54 1 181 107 (.ref 109) (.ref 110) 111 328),
 (113,kF "is_ring_sheet" 22 "anydelay.turnsheets" 284 112),
 (119,kC "show_inputs" 333 60 1 181 114 (.ref 116) (.ref 117) 118 337),
 (120,kF "show_inputs" 24 "anydelay.texts" 331 119),
 (126,kC "show_arc" 340 62 1 181 121 (.ref 123) (.ref 124) 125 344),
 (127,kF "show_arc" 25 "anydelay.texts" 331 126),
 (131,kC "show_ring_sheet" 347 64 1 181 128 .none .none 130 350),
 (132,kF "show_ring_sheet" 26 "anydelay.texts" 331 131),
 (138,kC "read_inputs" 353 67 1 181 133 (.ref 135) (.ref 136) 137 357),
 (139,kF "read_inputs" 27 "anydelay.texts" 331 138),
 (145,kC "read_turn" 360 69 1 181 140 (.ref 142) (.ref 143) 144 364),
 (146,kF "read_turn" 28 "anydelay.texts" 331 145),
 (152,kC "read_arc" 367 71 1 181 147 (.ref 149) (.ref 150) 151 372),
 (153,kF "read_arc" 29 "anydelay.texts" 331 152),
 (157,kC "read_ring_sheet" 375 74 1 181 154 .none .none 156 378),
 (158,kF "read_ring_sheet" 30 "anydelay.texts" 331 157),
 (164,kC "_law_cell_at" 383 86 2 181 159 (.ref 161) (.ref 162) 163 388),
 (165,kF "_law_cell_at" 32 "law_anydelay_k82_ring_sheets_written_and_rea" 381 164),
 (171,kC "_law_numbers" 391 90 2 181 166 (.ref 168) (.ref 169) 170 401),
 (172,kF "_law_numbers" 33 "law_anydelay_k82_ring_sheets_written_and_rea" 381 171),
 (178,kC "_law_deck" 404 103 2 181 173 (.ref 175) (.ref 176) 177 409),
 (179,kF "_law_deck" 34 "law_anydelay_k82_ring_sheets_written_and_rea" 381 178),
 (185,kC "_law_take" 412 105 2 181 180 (.ref 182) (.ref 183) 184 417),
 (186,kF "_law_take" 35 "law_anydelay_k82_ring_sheets_written_and_rea" 381 185),
 (192,kC "_law_wire_names" 420 109 2 181 187 (.ref 189) (.ref 190) 191 430),
 (193,kF "_law_wire_names" 36 "law_anydelay_k82_ring_sheets_written_and_rea" 381 192),
 (199,kC "_law_order" 433 120 2 181 194 (.ref 196) (.ref 197) 198 442),
 (200,kF "_law_order" 37 "law_anydelay_k82_ring_sheets_written_and_rea" 381 199),
 (204,kC "_law_ring" 445 132 5 181 201 .none .none 203 448),
 (205,kF "_law_ring" 38 "law_anydelay_k82_ring_sheets_written_and_rea" 381 204),
 (211,kC "_law_one_ring" 451 151 2 181 206 (.ref 208) (.ref 209) 210 460),
 (212,kF "_law_one_ring" 39 "law_anydelay_k82_ring_sheets_written_and_rea" 381 211),
 (218,kC "_law_ring_written" 463 156 1 181 213 (.ref 215) (.ref 216) 217 471),
 (219,kF "_law_ring_written" 40 "law_anydelay_k82_ring_sheets_written_and_rea" 381 218),
 (223,kC "_law_alike" 474 164 2 181 220 .none .none 222 477),
 (224,kF "_law_alike" 41 "law_anydelay_k82_ring_sheets_written_and_rea" 381 223),
 (230,kC "_law_copy" 480 176 1 181 225 (.ref 227) (.ref 228) 229 484),
 (231,kF "_law_copy" 42 "law_anydelay_k82_ring_sheets_written_and_rea" 381 230),
 (237,kC "law" 487 178 1 181 232 (.ref 234) (.ref 235) 236 497),
 (238,kF "law" 43 "law_anydelay_k82_ring_sheets_written_and_rea" 381 237)]
noncomputable def hk:Hook:=kmHook KF [3,40,44,45,51,52,58,59,65,66,70,71,75,76,80,81,82,88,89,95,96,100,101,105,106,112,113,119,120,126,127,131,132,138,139,145,146,152,153,157,158,164,165,171,172,178,179,185,186,192,193,199,200,204,205,211,212,218,219,223,224,230,231,237,238] (λ_=>rfl) []
noncomputable def vw:Program:={ PySem.Challenge.pw_anydelay_k82_ring_sheets_written_and_rea with main:={ PySem.Challenge.pw_anydelay_k82_ring_sheets_written_and_rea.main with body:=[1,2,4,5,6,7,8,9,10,11,12,14,16,17,18,19,20,21,22,24,25,26,27,28,29,30,32,33,34,35,36,37,38,39,40,41,42,43].map top } }
def LW (w:World):Prop:=(openEnds treeTable PySem.Challenge.rw_anydelay_k82_ring_sheets_written_and_rea.prog w 3064).map (λs=>(openSeen vw [("TURNED" : Str),("SIGNS_AHEAD" : Str)] (importedModules PySem.Challenge.rw_anydelay_k82_ring_sheets_written_and_rea.prog.main.body) (λs=>xlAt vw [] s&&recOk (RowW.records PySem.Challenge.rw_anydelay_k82_ring_sheets_written_and_rea.row.toRowW) s) true s,Hook.obs hk s))=some (openGood vw [("TURNED" : Str),("SIGNS_AHEAD" : Str)],Hook.val hk w)
set_option maxHeartbeats 0 in
theorem sd:PySem.Challenge.rw_anydelay_k82_ring_sheets_written_and_rea.wellSaid=true:=by kernel_rfl
set_option maxHeartbeats 0 in
theorem zW:∀w:World,LW (w.withFollow "special-get-raises" false):=λw=>by unfold LW;kernel_rfl
set_option maxHeartbeats 0 in
theorem zV:∀w:World,LW (w.withFollow "special-get-raises" true):=λw=>by unfold LW;kernel_rfl
theorem left:LeftO PySem.Challenge.rw_anydelay_k82_ring_sheets_written_and_rea.prog vw [("TURNED" : Str),("SIGNS_AHEAD" : Str)] (λs=>xlAt vw [] s&&recOk (RowW.records PySem.Challenge.rw_anydelay_k82_ring_sheets_written_and_rea.row.toRowW) s) (Hook.obs hk) (Hook.val hk) 3064:=λw=>byRow2 (P:=LW) "special-get-raises" zW zV w
end K2
section
variable {a b c d e f g h i j k l m n x r lo:Nat}
local macro_rules | `(tactic|kd_p) => `(tactic| (intros; first | solve_by_elim (maxDepth := 3) [Nat.le_of_lt, QS, XX, QO, Nat.lt_of_not_ge, Nat.lt_of_not_le, Nat.le_of_not_lt, Nat.ge_of_not_lt, Nat.le_add_right, Nat.le_add_left, Nat.sub_le, Nat.lt_succ_self, Nat.le_succ, Nat.add_le_add_left, Nat.add_le_add_right, Nat.add_lt_add_left, Nat.add_lt_add_right, Nat.succ_le_of_lt, Nat.lt_of_succ_le, Nat.le_of_eq, Nat.le_antisymm, Nat.lt_of_le_of_ne, Qi, QR, Nat.sub_lt, Nat.succ_le_succ, Nat.lt_succ_of_le, Nat.le_of_lt_succ, Eq.symm, Eq.trans] | (subst_vars; solve_by_elim (maxDepth := 3) [Nat.le_of_lt, QS, XX, QO, Nat.lt_of_not_ge, Nat.lt_of_not_le, Nat.le_of_not_lt, Nat.ge_of_not_lt, Nat.le_add_right, Nat.le_add_left, Nat.sub_le, Nat.lt_succ_self, Nat.le_succ, Nat.add_le_add_left, Nat.add_le_add_right, Nat.add_lt_add_left, Nat.add_lt_add_right, Nat.succ_le_of_lt, Nat.lt_of_succ_le, Nat.le_of_eq, Nat.le_antisymm, Nat.lt_of_le_of_ne, Qi, QR, Nat.sub_lt, Nat.succ_le_succ, Nat.lt_succ_of_le, Nat.le_of_lt_succ, Eq.symm, Eq.trans])))
theorem om0:a<=b->¬a<b->a=b:=by grind
theorem om1:a-b<=a-b:=by simp_all
theorem om2:¬b<a->a<=b:=by kd_p
theorem om4:c<=b->c=a->a<=b:=by kd_p
theorem om6:b<a->a-(b+1)<a-b:=by omega
theorem om7:c=d->c=a->d=b->a=b:=by kd_p
theorem om8:a+(c+1)<b->a<b:=by grind
theorem om9:b=c->b=d->c=e->a<d->a<b:=by intros;simp_all
theorem Bh:c=b->c=d->b=e->a<d->a<b:=by intros;simp_all
theorem zL:a+(b+1)<c->a+1+b<c:=by omega
theorem wa:b=c->a<c->a<b:=by kd_p
theorem zp:a<c->b=c->a<b:=by kd_p
theorem zc:c=a->d=b->c=d->a=b:=by kd_p
theorem oX:a+64<b->a<b:=by grind
theorem v_:a+64<b->a+1+8<b:=by grind
theorem yE:c=b->a<c->a<b:=by kd_p
theorem Bg:b<=a->a<=c->a-b<=c-0:=by grind
theorem Be:a<b->a+(b-a) / 2+1<=b:=by grind
theorem Bd:a<b+(c-b) / 2+1->a<=b+(c-b) / 2:=by kd_p
theorem Bc:b<=c->a<b->a+(b-a) / 2<c:=by grind
theorem Bb:a<=a+(b-a) / 2:=by kd_p
theorem Ba:b<=c->a<b->a+(b-a) / 2<=c:=by omega
theorem xJ:a<=b->b-a<=c-max 0 c->a=b:=by grind
theorem A_:a<b->a+0<b:=by kd_p
theorem xI:a<c->¬b>=c-a->a+b<c:=by grind
theorem xH:a<2*a+1:=by grind
theorem A9:a<d->b<c->a+b<d->a+b+1<=a+min c (d-a):=by grind
theorem A8:a<c->a+min b (c-a)<=c:=by grind
theorem A7:a<b+c+1->a<=b+c:=by kd_p
theorem A6:a<d->a+min b (d-a)<=c->b<d-a->a+b<=c:=by grind
theorem v9:a<=b->a>=b->a=b:=by grind
theorem xG:b<=c->¬a>=b->a+(b-a) / 2<c:=by grind
theorem tO:¬a>=b->a<b:=by kd_p
theorem v8:0<=a:=by kd_p
theorem A5:a<c->d<b->¬b>=a+1->a-b<c:=by grind
theorem A4:¬a>=b+1->a<=b:=by kd_p
theorem A3:c<b->c<=a->a+1-min b (a+1)<=a-c:=by omega
theorem A2:a<c->b<=a->a-b<=c:=by grind
theorem A1:a<b+1-min c (b+1)->c<b+1->a<=b-c:=by grind
theorem A0:a<c->d<b->b<a+1->a-b<c:=by grind
theorem AZ:a+1=b->a<b:=by kd_p
theorem AY:a+b+1=a+(b+1):=by kd_p
theorem tN:a<=b->a+1<=b+1:=by kd_p
theorem AX:a+b+1=a+1+b:=by grind
theorem xF:a<min b c->a<min b c:=by kd_p
theorem tM:a<min b c->a<b:=by grind
theorem xE:a+b<=c->min (a+b) c-a=b:=by intros;simp_all
theorem AW:a+b+c=a+c+b:=by grind
theorem xD:c=d->a<=b->a<=b+c:=by grind
theorem AV:a+b+c=a+(b+c):=by grind
theorem xC:a<=b->¬a=b->a<b:=by grind
theorem xB:a+d<=c->b<d->a+b<c:=by grind
theorem AU:a+d<=c->b<=e->e<d->a+b<c:=by grind
theorem ra:a<=a+b:=by kd_p
theorem AT:b<=c->a+b<=a+c:=by kd_p
theorem AS:b<c->a+b<a+c:=by kd_p
theorem q_:1<=a->0<a:=by kd_p
theorem xA:1<=a->0<=a:=by kd_p
theorem AR:1<=a->¬0+1=a->0+1<a:=by grind
theorem AQ:1<=b->1<=a->¬1=a->¬0+1=b->1<a:=by grind
theorem v7:a+1<b->a<b:=by kd_p
theorem v6:a<b->¬a+1=b->a+1<b:=by omega
theorem tL:a+1+(b+1)<=a+1+b+1:=by kd_p
theorem xy:a+1<b->¬a+1+1=b->a+1+1<b:=by omega
theorem AO:a+1<b->a+(b-a)<=b:=by grind
theorem AN:b+1<a->0<a-b:=by grind
theorem AM:a<b->a+1+(b-(a+1))<=b:=by omega
theorem AL:b<a->¬b+1=a->0<a-(b+1):=by omega
theorem xx:a+1+(b+1)<=a+1+b+1+1:=by kd_p
theorem AK:a<c->b<=c-(a+1)->a+1+b<=c:=by grind
theorem xw:¬a>0->a=0:=by simp
theorem AJ:b<a->¬b+1=a->0<=a-(b+1)->0<a-(b+1):=by grind
theorem AI:a+1<c->b<=c-a->a+b<=c:=by grind
theorem AH:b+1<a->0<=a-b->0<a-b:=by omega
theorem AG:1<=a->a=a-1+1:=by intros;simp_all
theorem xv:1<=a->a<=b->a-1<=b:=by grind
theorem AF:1<=b->a+b+c=d+e->a+1+(b-1)+c=d+e:=by grind
theorem AE:1<=c->a+b+c=d+e->a+1+b+(c-1)=d+e:=by grind
theorem AD:a<min b c-d->a<min b c-d:=by intros;simp_all
theorem xu:b<min c d-a->a+b<c:=by omega
theorem xt:c<=a->a<=b->min a b-c=a-c:=by intros;simp_all
theorem xr:a<=c->c<=b->a<=b:=by grind
theorem xq:c=d-e->a<=b->a<=b+c:=by grind
theorem oW:1<=a->a-1<a:=by grind
theorem AC:1<=b->1<=c->¬a=0->¬c=1->1<=a:=by grind
theorem v4:1<=a->a<=b->a-1<b:=by omega
theorem v3:2<=a->a<=b->a-1<b:=by grind
theorem qZ:2<=a->1<=a:=by kd_p
theorem xg:1<=a->¬a-1=0->1<=a-1:=by omega
theorem xf:2<=a->¬a-1=1->2<=a-1:=by grind
theorem AB:a<=b->0+a<=b:=by grind
theorem AA:2<=a->a<=b->0+(a-1)<=b:=by grind
theorem Az:2<=a->a-1-1<a-1:=by grind
theorem Ay:a<=b-1->a<=b-1:=by kd_p
theorem Ax:¬a=1->¬a=0->2<=a:=by grind
theorem Aw:2<=a->c=a-1-b->¬c>0->a-1-1<b:=by omega
theorem v0:a<=b->a<=b:=by simp
theorem zQ:¬a=0->1<=a:=by grind
theorem zP:1<=a->c=a-b->¬c>0->a-1<b:=by omega
theorem zO:a<=b->b<1->a=b:=by intros;simp_all
theorem uY:a<b+1->¬a<b->a=b:=by grind
theorem uX:a<=b->1<=b->¬a=b->a<=b-1:=by grind
theorem uW:1<=b->b<=a->1<=a:=by omega
theorem rc:a<b->a<=b:=by kd_p
theorem zN:a<=b->max a b=b:=by intros;simp_all
theorem zM:d<=a->b<d->¬(a<=b/\b<c):=by grind
theorem uV:1<=b->a+b-1=a+(b-1):=by grind
theorem zK:a<=b->¬a=b->max (a+1) b=b:=by grind
theorem nG:a+d<=e->b<d->c=e->a+b<c:=by omega
theorem zJ:c+1<=b->a+b-1=a+(b-1):=by grind
theorem rb:b+1<=a->1<=a:=by grind
theorem uU:c+1<=b->a<=a+b-(c+1):=by omega
theorem zI:a+d<=e->b<d->c=e->a+b<=c:=by grind
theorem uT:0+1<=a+1:=by kd_p
theorem zH:b+1-(0+1)<=a->a<b+1->a=b+1-1:=by grind
theorem zF:a+1<=b->a+1+1<=b+1:=by kd_p
theorem zE:a+1-1=a:=by kd_p
theorem zD:a<b+1->¬a=b->a<b:=by omega
theorem zC:a+d<=e->b<=d->f=e->c=e->a+b<=c:=by grind
theorem zB:b<=d->d<c->a<=a+b/\a+b<a+c:=by grind
theorem zw:b<c->a<=a+b/\a+b<a+c:=by intros;simp_all
theorem zv:c<=b->b<a->a-1-b<=a-1-c:=by omega
theorem zu:b<=c->c<a->a-1-b<a:=by grind
theorem zt:b+1<=c->c<=a->1<=a:=by grind
theorem zq:a+d<=e->b<=d->c=e->a+b<=c:=by grind
theorem zo:1<=c->a+c<=b->a<b:=by grind
theorem zn:b>1->a+b-1=a+(b-1):=by grind
theorem zm:b>1->a<b->a<=b-1:=by grind
theorem zk:a>1->a-1<a:=by omega
theorem zj:a+d<=c->b<=d->a+b<=c:=by grind
theorem zi:a<=c->c<b->a<b:=by grind
theorem zh:1<=c->¬c>1->a<=b->b<c->a=b:=by grind
theorem zg:a<=b->b<min (max c 1) d->c=0->a=b:=by grind
theorem ze:b<=c->a<min (max b 1) c->¬b=0->a<b:=by grind
theorem zd:min (max (max a 1) b) b=b:=by grind
theorem zb:a<b->min a b=a:=by grind
theorem za:a<=a:=by simp
theorem y_:a-0<=a-0:=by kd_p
theorem yZ:¬a>=b->a<=(a+b) / 2:=by grind
theorem yY:b<=c->¬a>=b->(a+b) / 2<=c:=by grind
theorem yX:¬a>=b->(a+b) / 2+1<=b:=by omega
theorem yW:a<(b+c) / 2+1->a<=(b+c) / 2:=by kd_p
theorem yV:b<=c->¬a>=b->(a+b) / 2<c:=by omega
theorem yU:c<=b->d<a->a+b-(a+c)<=a+b:=by kd_p
theorem yT:d<=c->a<b->¬a=b+c-(b+c-(b+d)):=by omega
theorem yS:a<b->min (a+1) b=a+1:=by grind
theorem uS:c<=b->a+b-(a+c)<=a+b:=by kd_p
theorem yR:c<=b->a+b-(a+b-(a+c))=a+c:=by grind
theorem yQ:c<b->a+b-1=a+(b-1):=by grind
theorem uR:b<c->¬a+b=a+c:=by grind
theorem uQ:c<b->¬(a+b<a+c/\a+c<=a+d):=by grind
theorem yP:c<=b->a<b+1->a<c->a<b:=by grind
theorem uP:b=c->a+b=a+c:=by kd_p
theorem uO:¬b=c->¬a+b=a+c:=by simp
theorem uN:¬b<a->¬b=a->a<b:=by grind
theorem yO:a<=b->a<c->¬b<c->a<=b-1:=by grind
theorem yN:c<=b->d<=a->a<b+1->d<c->a-1<b:=by omega
theorem yM:d=c->b=c->a+b=a+c:=by kd_p
theorem yL:d=c->¬b=c->¬a+b=a+c:=by intros;simp_all
theorem yK:c<=b->c=a->¬b=a->a<b:=by omega
theorem yJ:c<=b->c=a->¬b=a->a<=b-1:=by grind
theorem yI:c<=a->a<b+1->c=d->¬a=d->a-1<b:=by grind
theorem yH:d<=b->¬d<c->¬d=c->¬a+b=a+c:=by grind
theorem yG:c<=b->¬c<a->¬c=a->a<b:=by grind
theorem yF:a<=b->a-1<=b-1:=by omega
theorem yD:c<=a->a<b+1->¬c<d->¬c=d->a-1<b:=by grind
theorem yC:c=a+b->¬a+b<c:=by intros;simp_all
theorem yB:c=a+b->a+b-c=0:=by intros;simp_all
theorem yA:a=b+c->a+1=b+(c+1):=by kd_p
theorem yz:¬a+1<a:=by simp
theorem yx:1<=b->d=a+(b+(e+f))->a<=a+b+c:=by grind
theorem yw:1<=a->d=b+(a+(e+f))->a<=b+a+c-b:=by grind
theorem yu:a+b+c-a-b=c:=by grind
theorem yt:1<=b->c=d+(b+(e+f))->a<b->a<=b-1:=by grind
theorem yr:1<=d->c=a+(b+(d+e))->a+b<=c:=by kd_p
theorem yq:1<=a->b=c+(a+(d+e))->0<a:=by kd_p
theorem yp:a<=b->a+(b-a)=b:=by intros;simp_all
theorem yo:a<=c->c<=b->a+(b-a)=b:=by grind
theorem yn:b<=a->a<=c->a-b<=c-b:=by grind
theorem ym:c=d+(b+(e+f))->g<=b->a<g->a<b:=by grind
theorem yk:1<=a->b=c+(a+(d+e))->a-1<a:=by grind
theorem yj:d=a+(b+(c+e))->a+b+c<=d:=by grind
theorem yi:c<=b->a<c->a<b:=by grind
theorem yh:a=0->a<=b:=by intros;simp_all
theorem yg:d=a+(c+(e+f))->b<=c->a+min b c=a+b+0:=by intros;simp_all
theorem yf:c<=d->e=c->a-b+min c d=a-b+c:=by intros;simp_all
theorem ye:c=d->d<=b->a<d->a<=b:=by grind
theorem yd:a<c->c<=b->a<=b:=by grind
theorem uM:a<min b (c-d)->a<b:=by grind
theorem yc:a+1<b->min a b=a:=by grind
theorem yb:b=c+a->max 0 b<=c->a=0:=by grind
theorem ya:b=c->c=d+a->d>=c->a=0:=by grind
theorem x_:c=d->¬b>=d->d=b->a<=b:=by kd_p
theorem xZ:c=a->a=b+d->¬b>=a->1<=a-b:=by grind
theorem xY:c=b->b=a+d->¬a>=b->a+(b-a)<=c:=by intros;simp_all
theorem xX:a<=c->1<=d->e=c->b=c+d->a+1<=b:=by grind
theorem xW:a=b->a>1->a-2+1<b:=by grind
theorem xV:a=c+d->a+b=c+(d+b):=by grind
theorem xU:a<=c->b≠0->a+1<=b+c:=by grind
theorem xT:b=c->a<=c->a+0<=b+1:=by kd_p
theorem xS:b=a->b<=1->a<=1:=by kd_p
theorem xR:b=c->a+max 0 b<=b+1->a<=1:=by grind
theorem uL:a<=100000->a<=16777216:=by grind
theorem xQ:a<=100000->b=a->b<2->a<=16777216+1:=by grind
theorem xP:a<=100000->b=a->¬b<2->2<=a:=by kd_p
theorem xO:a<=100000->b=a->¬b<2->a<=16777216+1:=by grind
theorem xN:c+2<=b->a<=c+1->a+1<=b:=by grind
theorem xM:a+2<=b->a<=b:=by grind
theorem xL:c<=b->a=c->a<=b:=by kd_p
theorem xK:a+64<b->a+1+30<b:=by grind
theorem xp (h:k-l<=n-x):k-(l+(k-l)/2+1)<=n-(x+1):=by rw[Nat.add_assoc,<-Nat.sub_sub,<-Nat.sub_sub n x 1];exact QO (Nat.sub_le_sub_left (Nat.le_add_left 1 _) _) (Nat.sub_le_sub_right h 1)
theorem xo (h:k-l<=n-x) (e:l<k):l+(k-l)/2-l<=n-(x+1):=by rw[XZ,<-Nat.sub_sub n x 1];exact QO (Nat.le_sub_one_of_lt (Nat.div_lt_self (Nat.sub_pos_of_lt e) (by decide))) (Nat.sub_le_sub_right h 1)
theorem xn (h:r-l<=k-x) (c:¬l>=r):r-((l+r)/2+1)<=k-(x+1):=by rw[<-Nat.sub_sub,<-Nat.sub_sub k x 1];exact Nat.sub_le_sub_right (QO (Nat.sub_le_sub_left ((Nat.le_div_iff_mul_le (by decide)).mpr (by rw[Nat.mul_two];exact Nat.add_le_add_left (Nat.le_of_lt (Nat.lt_of_not_ge c)) _)) _) h) 1
theorem xm (h:r-l<=k-x) (c:¬l>=r):(l+r)/2-l<=k-(x+1):=by rw[<-Nat.sub_sub k x 1];refine QO ?_ (Nat.sub_le_sub_right h 1);rw[Nat.sub_sub,Nat.add_comm l 1,<-Nat.sub_sub];exact Nat.sub_le_sub_right (Nat.le_sub_one_of_lt ((Nat.div_lt_iff_lt_mul (by decide)).mpr (by rw[Nat.mul_two];exact Nat.add_lt_add_right (Nat.lt_of_not_ge c) _))) _
theorem uK (h:d<=x) (q:lo+x-d<=lo+i/\lo+i<lo+x):lo+x-d+(lo+x)-1-(lo+i)=lo+(x-d+x-1-i)/\x-d<=x-d+x-1-i/\x-d+x-1-i<x/\x-d<=i/\i<x:=by obtain⟨y,rfl⟩:∃y,x=y+d:=⟨x-d,(Nat.sub_add_cancel h).symm⟩;have e:lo+(y+d)-d=lo+y:=(by rw[<-Nat.add_assoc,Xq]);rw[e]at q;rw[e,Xq];obtain⟨p,rfl⟩:∃p,i=y+p:=⟨i-y,(Nat.add_sub_of_le (Nat.le_of_add_le_add_left q.1)).symm⟩;have l:=Nat.lt_of_add_lt_add_left (Nat.lt_of_add_lt_add_left q.2);obtain⟨z,rfl⟩:∃z,d=p+1+z:=⟨d-(p+1),(Nat.add_sub_of_le l).symm⟩;have t:∀u:Nat,u+y+(u+(y+(p+1+z)))-1-(u+(y+p))=u+(y+z):=(λu=>by rw[show u+y+(u+(y+(p+1+z)))=u+(y+p)+(u+(y+z))+1 by ac_rfl,Xq,XZ]);have t0:=t 0;simp only[Nat.zero_add]at t0;rw[t,t0];exact⟨rfl,Nat.le_add_right _ _,by omega,Nat.le_add_right _ _,Nat.add_lt_add_left l _⟩
theorem qY (q:i<n):lo+(lo+n)-1-(lo+i)=lo+(n-1-i):=by obtain⟨p,rfl⟩:∃p,n=i+1+p:=⟨n-(i+1),(Nat.add_sub_of_le q).symm⟩;rw[show lo+(lo+(i+1+p))=lo+i+(lo+p)+1 by ac_rfl,Xq,XZ,Nat.sub_sub,Nat.add_comm 1 i,XZ]
theorem xk (h:k<=x):f+k+(x-k)-1=f+(x-1)\/x=0:=by obtain⟨y,rfl⟩:∃y,x=k+y:=⟨x-k,(Nat.add_sub_of_le h).symm⟩;rw[XZ,Nat.add_assoc];cases (k+y);exact .inr rfl;exact .inl rfl
theorem xj (h:k<=x) (q:¬x-k=0) (z:m=x-k):k+(m-1)=x-1:=by subst z;rw[<-Nat.add_sub_assoc (Nat.pos_of_ne_zero q),Nat.add_sub_of_le h]
theorem xi (h:2<=n) (q:¬n-1=1):2<=n-1:=Nat.le_sub_one_of_lt (Nat.lt_of_le_of_ne h λz=>q (by rw[<-z]))
theorem xh (h:j=n-2-1\/j=n-2) (q:¬n<=1) (e:n=m):j+1<m:=by subst e;obtain⟨z,rfl⟩:∃z,n=z+2:=⟨n-2,(Nat.sub_add_cancel (Nat.lt_of_not_le q)).symm⟩;rw[Xq]at h;rcases h with rfl|rfl;exact Nat.lt_succ_of_le (Nat.add_le_add_right (Nat.sub_le _ _) 1);exact Nat.lt_succ_self _
end
set_option maxHeartbeats 4000000
namespace TK
open PySem
section
variable {prog:Program} {w:World} {K:Type} [DecidableEq K] (knd:KeyKind prog w K)
def It (h:Heap):K ⊕ List K->Value->Prop
 | .inl k,v=>knd.is k v=true
 | .inr ks,v=>∃a,v=.ref a/\IsTupleKey knd h ks a
inductive Its (h:Heap):List (K ⊕ List K)->List Value->Prop
 | nil:Its h [] []
 | cons {k:K ⊕ List K} {v:Value} {ks:List (K ⊕ List K)} {vs:List Value}:It knd h k v->Its h ks vs->Its h (k::ks) (v::vs)
def IsT (h:Heap) (ks:List (K ⊕ List K)) (a:Addr):Prop:=∃o items n,h.get? a=some o/\o.cls=.type "tuple" /\ o.data=.seq items n/\Its knd h ks items.toList
def hsh:K ⊕ List K->Int
 | .inl k=>knd.hash k
 | .inr ks=>tupleKeyHash knd ks
def drw:K ⊕ List K->Nat
 | .inl _=>1
 | .inr ks=>ks.length+1
def mI (ks:List (K ⊕ List K)):Nat:=(ks.map drw).sum
def wF (ks:List (K ⊕ List K)):Int:=reduceHash (Builtin.Tuple.tupleHashOf (ks.map (hsh knd)))
variable {knd}
variable {v u:Value} {h h':Heap}
theorem It.inj {x y:K ⊕ List K} (hx:It knd h x v) (hy:It knd h y v):x=y:=by
 cases x with
 | inl k =>
  cases y with
  | inl j=>rw[knd.inj _ _ _ hx hy]
  | inr js =>
  obtain⟨a,rfl,_⟩:=hy;exact absurd (knd.byValue _ _ hx) (by simp[carriedByValue])
 | inr ks =>
 obtain⟨a,rfl,hx⟩:=hx
 cases y with
 | inl j=>exact absurd (knd.byValue _ _ hy) (by simp[carriedByValue])
 | inr js =>
 obtain⟨b,e,hy⟩:=hy;cases e;rw[hx.inj hy]
variable {x y ks:List (K ⊕ List K)}
theorem Its.inj {vs:List Value} (hx:Its knd h x vs) (hy:Its knd h y vs):x=y:=by
 induction hx generalizing y with
 | nil=>cases hy;rfl
 | cons h1 _ ih =>
 cases hy with
 | cons h2 t2=>rw[h1.inj h2,ih t2]
variable {d a b:Addr}
theorem It.keeps {k:K ⊕ List K} {o:Obj} {es ep} (x:It knd h k v) (ho:h.get? d=some o) (hd:o.data=.dict es ep) (hs:Heap.SameBut d h h'):It knd h' k v:=by
 cases k with
 | inl k=>exact x
 | inr ks=>obtain⟨a,e,x⟩:=x;exact⟨a,e,x.keeps ho hd hs⟩
theorem Its.imp {vs:List Value} (f:∀k v,It knd h k v->It knd h' k v) (x:Its knd h ks vs):Its knd h' ks vs:=by
 induction x with
 | nil=>exact .nil
 | cons h1 _ ih=>exact .cons (f _ _ h1) ih
theorem IsT.typeIs {s:Shared} (x:IsT knd s.heap ks a):s.TypeIs (.ref a) "tuple" := let ⟨o,_,_,ho,hc,_⟩:=x;⟨o,ho,hc⟩
theorem IsT.inj (hx:IsT knd h x a) (hy:IsT knd h y a):x=y:=by
 obtain⟨o,items,n,ho,_,hd,hi⟩:=hx;obtain⟨o',items',n',ho',_,hd',hi'⟩:=hy;obtain rfl:o=o':=QL (ho.symm.trans ho');rw[hd]at hd';injection hd' with h1 _;subst h1;exact hi.inj hi'
theorem IsT.keeps {o:Obj} {es ep} (x:IsT knd h ks a) (ho:h.get? d=some o) (hd:o.data=.dict es ep) (hs:Heap.SameBut d h h'):IsT knd h' ks a:=by
 obtain⟨o',items,n,ho',hc,hd',hi⟩:=x
 have hne:a≠d:=by
  rintro rfl;obtain rfl:o'=o:=QL (ho'.symm.trans ho);rw[hd]at hd';exact nomatch hd'
 exact⟨o',items,n,(hs.2 a hne).trans ho',hc,hd',hi.imp λk v x=>x.keeps ho hd hs⟩
variable {A:Around} {E:B0} {s:Shared}
theorem It.toks {k:K ⊕ List K} {v:Value} {t:Nat} (x:It knd s.heap k v):It knd { s with toks:=t }.heap k v:=x
theorem t9 {k:K ⊕ List K} {Q:Int->Shared->Prop} (hu:A.units<cLine) (hk:It knd s.heap k v) (h:Q (hsh knd k) { s with toks:=s.toks+drw k }):wpAny (model prog w) A (pyHash v) Q E s:=by
 cases k with
 | inl k=>exact knd.pyHash hk h
 | inr ks=>obtain⟨a,rfl,hk⟩:=hk;exact wpAny_pyHash_tuple hu hk h
theorem vj {Q:Int->Shared->Prop} (hu:A.units+1<cLine) (hk:IsT knd s.heap ks a) (h:Q (wF knd ks) { s with toks:=s.toks+(mI ks+1) }) :
  wpAny (model prog w) A (pyHash (.ref a)) Q E s:=by
 have hT:=hk.typeIs;obtain⟨o,items,n,ho,_,hd,hi⟩:=hk;unfold pyHash
 first|unfold pyHashByItsType|skip
 first|refine Qa (wpAny_cRoomFor_or (.inr (Nat.lt_of_succ_lt hu)) ?_)|skip
 refine Qa (wpAny_specialOf hT F.slot_tuple_hash.lookup ?_);show wpAny _ _ (if (some (Value.builtin "tuple.__hash__")==some Value.none)=true then _ else _) Q E s;rw[Qt (by rw[beq_builtin_none];exact Qh)];refine Qa (wpAny_specialOf hT F.slot_tuple_hash.lookup ?_);show wpAny _ _ (callSpecialIfBoundUnlessNone? (.ref a) "__hash__" _ >>= _) Q E s;refine Qa (wpAny_callSpecialIfBoundUnlessNone?_slot hT F.slot_tuple_hash (Xu F.slot_tuple_hash hT F.entry_tuple_hash ?_ (F.args_tuple_hash_1 _)));show wpAny _ _ (Builtin.Tuple.tupleItemsOf (.ref a) >>= _) _ _ s;refine Qa (wpAny_tupleItemsOf ho hd ?_);refine Qa ?_;rw[<-Array.forIn_toList]
 refine wpAny_forIn_list _
  (λrest (b:Array Int) s'=>∃done left,ks=done++left/\Its knd s.heap left rest/\b.toList=done.map (hsh knd)/\s'={ s with toks:=s.toks+mI done })
  _ ?_ ?_ _ _ ⟨[],ks,rfl,hi,rfl,rfl⟩
 ·rintro x rest b s' ⟨done,left,rfl,hl,hb,rfl⟩
  cases hl with
  | @cons k _ ks' _ h1 hl' =>
  have e:mI (done++[k])=mI done+drw k:=by simp[mI]
  refine Qa (t9 (s:={ s with toks:=s.toks+mI done }) hu h1 ?_)
  first
   | exact Qf ⟨done++[k],ks',by simp,hl',by simp[hb],by simp[e,Nat.add_assoc]⟩
   | exact Qa (Qf (Qf ⟨done++[k],ks',by simp,hl',by simp[hb],by simp[e,Nat.add_assoc]⟩))
 rintro b s' ⟨done,left,rfl,hl,hb,rfl⟩;cases hl;rw[XD]at h;show wpAny _ _ (retInt (Builtin.Tuple.tupleHashOf b.toList)) _ _ _;rw[hb];refine wpAny_ret_mkInt ?_;show wpAny _ _ (if (decide (-(2:Int) ^ 63<=Builtin.Tuple.tupleHashOf (done.map (hsh knd)))&&decide (Builtin.Tuple.tupleHashOf (done.map (hsh knd))<2 ^ 63))=true then _ else _) Q E _;unfold wF reduceHash at h;by_cases hr:(decide (-(2:Int) ^ 63<=Builtin.Tuple.tupleHashOf (done.map (hsh knd)))&&decide (Builtin.Tuple.tupleHashOf (done.map (hsh knd))<2 ^ 63))=true
 ·rw[Qu hr];rw[Qu hr]at h;exact Qf (by simpa[Nat.add_assoc] using h)
 rw[Qt hr];rw[Qt hr]at h;exact Qa (wpAny_rule (Qf (by simpa[Nat.add_assoc] using h)))
def Apt (knd:KeyKind prog w K):Prop:=∀{A:Around} {E:B0} {s:Shared} {k:K} {u:Value} {a:Addr} {items:Array Value} {Q:Bool->Shared->Prop},A.units<cLine->knd.is k u=true->s.heap.IsTuple a items->Q false s ->
 wpAny (model prog w) A (eqBool u (.ref a)) Q E s/\wpAny (model prog w) A (eqBool (.ref a) u) Q E s
theorem pZ {ks:List K} (x:IsTupleKey knd h ks a):∃items,h.IsTuple a items:=let ⟨o,items,n,h1,h2,h3,_⟩:=x;⟨items,o,h1,h2,n,h3⟩
variable {Q:Bool->Shared->Prop}
theorem it_eq {x y:K ⊕ List K} (ap:Apt knd) (hu:A.units<cLine) (hx:It knd s.heap x u) (hy:It knd s.heap y v) (h:Q (decide (x=y)) s):wpAny (model prog w) A (eqBool u v) Q E s:=by
 cases x with
 | inl k =>
  cases y with
  | inl j=>exact knd.eqBool hx hy (by simpa using h)
  | inr js=>obtain⟨b,rfl,hy⟩:=hy;obtain⟨_,t⟩:=pZ hy;exact(ap hu hx t (by simpa using h)).1
 | inr ks =>
 obtain⟨a,rfl,hx⟩:=hx
 cases y with
 | inl j=>obtain⟨_,t⟩:=pZ hx;exact(ap hu hy t (by simpa using h)).2
 | inr js=>obtain⟨b,rfl,hy⟩:=hy;exact wpAny_eqBool_tuple hu hx hy (by simpa using h)
theorem oF {P:Fin->Shared->Prop} (ap:Apt knd) (hu:A.units<cLine) (hx:IsT knd s.heap x a) (hy:IsT knd s.heap y b) (h:P (.done (.ret (.bool (decide (x=y))))) s) :
  wpAny (model prog w) A (Builtin.«tuple.__eq__» ⟨[.ref a,.ref b],[]⟩) P E s:=by
 have hTb:=hy.typeIs;obtain⟨oa,xs,na,hoa,_,hda,hia⟩:=hx;obtain⟨ob,ys,nb,hob,_,hdb,hib⟩:=hy;show wpAny _ _ (isInstance (.ref b) (.type "tuple") >>= _) _ _ s;refine Qa (wpAny_isInstance hTb isSubtype_tuple_tuple ?_);simp only[Bool.not_true,QX,if_false];refine Qa (wpAny_tupleItemsOf hoa hda ?_);refine Qa (wpAny_tupleItemsOf hob hdb ?_);refine Qa ?_
 refine wpAny_forIn_list _
  (λrest r s'=>r.1=none/\s'=s/\∃x' y' xs' ys',rest=List.zip xs' ys'/\Its knd s.heap x' xs'/\Its knd s.heap y' ys'/\decide (x'=y')=decide (x=y)/\(xs'.length==ys'.length)=(xs.size==ys.size))
  _ ?_ ?_ _ _ ⟨rfl,rfl,x,y,xs.toList,ys.toList,rfl,hia,hib,rfl,by simp⟩
 ·rintro⟨u,v⟩ rest r s' ⟨hr,rfl,x',y',xs',ys',hz,hx',hy',hdec,hlen⟩
  cases hx' with
  | nil=>simp at hz
  | @cons k1 u' x'' xs'' h1 hx'' =>
  cases hy' with
  | nil=>simp at hz
  | @cons k2 v' y'' ys'' h2 hy'' =>
  simp only[List.zip_cons_cons,List.cons.injEq,Prod.mk.injEq]at hz;obtain⟨⟨rfl,rfl⟩,rfl⟩:=hz;refine Qa (it_eq ap hu h1 h2 ?_);by_cases hk:k1=k2
  ·subst hk;rw[QA rfl];simp only[Bool.not_true,QX,if_false];refine Qf ⟨rfl,rfl,x'',y'',xs'',ys'',rfl,hx'',hy'',?_,by simpa using hlen⟩;rw[<-hdec];by_cases hxy:x''=y''
   ·simp[hxy]
   simp[hxy]
  rw[QE hk];simp only[Bool.not_false,if_true];have hf:decide (x=y)=false:=by rw[<-hdec];simp[hk]
  rw[hf]at h;exact Qa (Qf (Qf (Qf h)))
 rintro⟨r1,r2⟩ s' ⟨hr,rfl,x',y',xs',ys',hz,hx',hy',hdec,hlen⟩;simp only at hr;subst hr;refine Qf ?_
 have hfin:(xs.size==ys.size)=decide (x=y):=by
  rw[<-hdec,<-hlen]
  cases hx' with
  | nil =>
   cases hy' with
   | nil=>simp
   | cons _ _=>simp
  | cons _ _ =>
  cases hy' with
  | nil=>simp
  | cons _ _=>simp at hz
 show P (.done (.ret (.bool (xs.size==ys.size)))) s';rw[hfin];exact h
theorem t_eq (ap:Apt knd) (hu:A.units+1<cLine) (hx:IsT knd s.heap x a) (hy:IsT knd s.heap y b) (h:Q (decide (x=y)) s) :
  wpAny (model prog w) A (eqBool (.ref a) (.ref b)) Q E s:=by
 unfold eqBool
 try with_reducible refine Xm ?_
 show wpAny _ _ (if (Value.ref a==Value.ref b)=true then _ else _) Q E s;by_cases hab:(Value.ref a==Value.ref b)=true
 ·rw[Qu hab];have e:a=b:=by have:=eq_of_beq hab;injection this
  subst e;obtain rfl:=hx.inj hy;exact Qa (wpAny_rule (Qf (by simpa using h)))
 rw[Qt hab]
 exact Qa (wpAny_richCompare_same_room (op:=.Eq) hx.typeIs hy.typeIs F.slot_tuple_eq
  (Xu F.slot_tuple_eq hx.typeIs F.entry_tuple_eq (oF ap hu hx hy ⟨_,rfl,(λe=>nomatch e),Xn h⟩) (F.args_tuple_eq_2 _ _)) (Nat.lt_of_succ_lt hu))
theorem oE {ks:List K} {m:Nat} (hk:IsTupleKey knd s.heap ks a) (h:Q true s):wpAny (model prog w) A (eqIsQuiet (m+1) (.ref a)) Q E s:=by
 have hT:=hk.typeIs;obtain⟨o,items,n,ho,_,hd,hi⟩:=hk;unfold eqIsQuiet;refine Qa (wpAny_specialOf hT F.slot_tuple_eq.lookup ?_);show wpAny _ _ (isInstance (.ref a) (.type "tuple") >>= _) _ _ s;refine Qa (wpAny_isInstance hT isSubtype_tuple_tuple ?_);simp only[Bool.not_true,QX,if_false];refine Qa (wpAny_seqItems ho hd ?_);refine Qa ?_;show wpAny _ _ (forIn items _ _) _ _ s;rw[<-Array.forIn_toList];refine wpAny_forIn_list _ (λrest r s'=>r.1=none/\s'=s/\∀v∈rest,carriedByValue v=true) _ ?_ ?_ _ _ ⟨rfl,rfl,hi.byValue⟩
 ·rintro v rest r s' ⟨hr,rfl,hall⟩;rw[eqIsQuiet_byValue _ (hall v Xd)];refine Qa (Qf ?_);simp only[Bool.not_true,QX,if_false];exact Qf ⟨rfl,rfl,λu hu'=>hall u (Qj _ hu')⟩
 rintro⟨r1,r2⟩ s' ⟨hr,rfl,_⟩;simp only at hr;subst hr;exact Qf h
theorem rX {k:K ⊕ List K} {m:Nat} (hk:It knd s.heap k v) (h:Q true s):wpAny (model prog w) A (eqIsQuiet (m+1) v) Q E s:=by
 cases k with
 | inl k=>rw[eqIsQuiet_byValue _ (knd.byValue _ _ hk)];exact Qf h
 | inr ks=>obtain⟨a,rfl,hk⟩:=hk;exact oE hk h
theorem t_quiet (hk:IsT knd s.heap ks a) (h:Q true s):wpAny (model prog w) A (eqIsQuiet 8 (.ref a)) Q E s:=by
 have hT:=hk.typeIs;obtain⟨o,items,n,ho,_,hd,hi⟩:=hk;unfold eqIsQuiet;refine Qa (wpAny_specialOf hT F.slot_tuple_eq.lookup ?_);show wpAny _ _ (isInstance (.ref a) (.type "tuple") >>= _) _ _ s;refine Qa (wpAny_isInstance hT isSubtype_tuple_tuple ?_);simp only[Bool.not_true,QX,if_false];refine Qa (wpAny_seqItems ho hd ?_);refine Qa ?_;show wpAny _ _ (forIn items _ _) _ _ s;rw[<-Array.forIn_toList];refine wpAny_forIn_list _ (λrest r s'=>r.1=none/\s'=s/\∃ks,Its knd s.heap ks rest) _ ?_ ?_ _ _ ⟨rfl,rfl,_,hi⟩
 ·rintro v rest r s' ⟨hr,rfl,ks',hall⟩
  cases hall with
  | cons h1 h2 =>
  refine Qa (rX h1 ?_);simp only[Bool.not_true,QX,if_false];exact Qf ⟨rfl,rfl,_,h2⟩
 rintro⟨r1,r2⟩ s' ⟨hr,rfl,_⟩;simp only at hr;subst hr;exact Qf h
noncomputable def kind (knd:KeyKind prog w K) (ap:Apt knd):HeapKind prog w (List (K ⊕ List K)) where
 is:=IsT knd
 hash:=wF knd
 draws:=λks=>mI ks+1
 room:=λA=>A.units+1<cLine
 inj:=λhx hy=>hx.inj hy
 keeps:=λx ho hd hs=>x.keeps ho hd hs
 pyHash:=λhu hk h=>vj hu hk h
 eqBool:=λhu hx hy h=>t_eq ap hu hx hy h
 quiet:=λhk h=>t_quiet hk h
end
end TK
-- CHANGE: your row's module here,as the last of these rows
namespace L2
open PySem PySem.Spec PyProof.Rows
abbrev Key:=Sum Int Str
def cT:Key->Value->Bool
 | .inl k,v=>Value.isInt k v
 | .inr x,v=>Value.isStrOf x v
def Bi (w:World):Key->Int
 | .inl k=>hashInt k
 | .inr x=>hashStr w x
theorem aJ:∀{k:Key} {v:Value},cT k v=true->(∃i t,k=Sum.inl i/\v=Value.int i t)\/(∃x t,k=Sum.inr x/\v=Value.str x t)
 | .inl i,v,h=>by
  obtain⟨t,e⟩:=Value.isInt_shape (k:=i) (v:=v) h;exact .inl ⟨i,t,rfl,e⟩
 | .inr x,v,h=>by
  obtain⟨t,e⟩:=Value.isStrOf_shape (x:=x) (v:=v) h;exact .inr ⟨x,t,rfl,e⟩
theorem pC (i:Int) (t:Tok):cT (.inl i) (.int i t)=true:=by simp[cT,Value.isInt]
theorem pB (x:Str) (t:Tok):cT (.inr x) (.str x t)=true:=by simp[cT,Value.isStrOf]
theorem rQ (a b:Int):decide ((Sum.inl a:Key)=Sum.inl b)=(a==b):=by
 by_cases e:a=b
 ·subst e;simp
 have h:¬(Sum.inl a:Key)=Sum.inl b:=λq=>e (Sum.inl.inj q);rw[QE h];exact(beq_eq_false_iff_ne.mpr e).symm
theorem rP (a b:Str):decide ((Sum.inr a:Key)=Sum.inr b)=decide (a=b):=by
 by_cases e:a=b
 ·subst e;simp
 have h:¬(Sum.inr a:Key)=Sum.inr b:=λq=>e (Sum.inr.inj q);rw[QE h,QE e]
theorem wy (a:Int) (b:Str):decide ((Sum.inl a:Key)=Sum.inr b)=false:=QE (λq=>nomatch q)
theorem wx (a:Str) (b:Int):decide ((Sum.inr a:Key)=Sum.inl b)=false:=QE (λq=>nomatch q)
noncomputable def aq (prog:Program) (w:World):PySem.KeyKind prog w Key where
 is:=cT
 hash:=Bi w
 inj:=λv a b ha hb=>by
  rcases aJ ha with⟨i,t,rfl,rfl⟩|⟨x,t,rfl,rfl⟩
  ·rcases aJ hb with⟨j,u,rfl,e⟩|⟨y,u,rfl,e⟩
   ·injection e with e1 _;rw[e1]
   exact nomatch e
  rcases aJ hb with⟨j,u,rfl,e⟩|⟨y,u,rfl,e⟩
  ·exact nomatch e
  injection e with e1 _;rw[e1]
 byValue:=λk v h=>by
  rcases aJ h with⟨i,t,rfl,rfl⟩|⟨x,t,rfl,rfl⟩ <;> rfl
 pyHash:=λhv h=>by
  rcases aJ hv with⟨i,t,rfl,rfl⟩|⟨x,t,rfl,rfl⟩
  ·exact wpAny_pyHash_int h
  exact wpAny_pyHash_str h
 eqBool:=λhu hv h=>by
  rcases aJ hu with⟨i,t,rfl,rfl⟩|⟨x,t,rfl,rfl⟩
  ·rcases aJ hv with⟨j,u,rfl,rfl⟩|⟨y,u,rfl,rfl⟩
   ·rw[rQ]at h;exact wpAny_eqBool_int h
   rw[wy]at h;exact SeqAt.EqAt.int_str i t y u _ _ _ _ h
  rcases aJ hv with⟨j,u,rfl,rfl⟩|⟨y,u,rfl,rfl⟩
  ·rw[wx]at h;exact SeqAt.EqAt.str_int x t j u _ _ _ _ h
  rw[rP]at h;exact wpAny_eqBool_str h
 «strs»:=λk x t v h=>by
  rcases aJ h with⟨i,u,rfl,e⟩|⟨y,u,rfl,e⟩
  ·exact nomatch e
  injection e with e1 _;subst e1;cases v <;> rfl
theorem kB (prog:Program) (w:World) (i:Int) (t:Tok):(aq prog w).is (.inl i) (.int i t)=true:=pC i t
theorem kA (prog:Program) (w:World) (x:Str) (t:Tok):(aq prog w).is (.inr x) (.str x t)=true:=pB x t
theorem iR (prog:Program) (w:World):TK.Apt (aq prog w):=λhu hk t h=>by
 rcases aJ hk with⟨i,u,rfl,rfl⟩|⟨x,u,rfl,rfl⟩
 ·exact⟨SeqAt.EqAt.int_tuple _ _ t hu _ _ _ _ h,SeqAt.EqAt.tuple_int _ _ t hu _ _ _ _ h⟩
 exact⟨SeqAt.EqAt.str_tuple _ _ t hu _ _ _ _ h,SeqAt.EqAt.tuple_str _ _ t hu _ _ _ _ h⟩
abbrev ak:=List (Key ⊕ List Key)
abbrev bq (P:Program) (w:World):HeapKind P w ak:=TK.kind (aq P w) (iR P w)
variable {A:Around}
theorem iA {P:Program} {w:World} (hu:A.units+8<cLine):(bq P w).room A.in1:=show A.units+1+1<cLine by omega
inductive V where
 | non|bl (b:Bool)|int (i:Int)|str (x:Str)|byt (b:Array UInt8)|flt (b:UInt64)|ref (a:Addr)|ty (n:String)
 deriving DecidableEq
noncomputable def aX:V->Value->Prop
 | .non,u=>u=Value.none
 | .bl b,u=>u=Value.bool b
 | .int i,u=>∃t,u=Value.int i t
 | .str x,u=>∃t,u=Value.str x t
 | .byt b,u=>∃t,u=Value.bytes b t
 | .flt b,u=>∃t,u=Value.float b t
 | .ref a,u=>u=Value.ref a
 | .ty n,u=>u=Value.type n
abbrev aI:List V->List Value->Prop:=Paired aX
theorem aI.length {xs:List V} {us:List Value} (r:aI xs us):xs.length=us.length:=Xf r
theorem aI.get:∀{xs:List V} {us:List Value} {i:Nat} {x:V},aI xs us->xs[i]?=some x->∃u,us[i]?=some u/\aX x u
 | _,_,_,_,.nil,e=>by simp at e
 | _,_,0,_,.cons r _,e=>by simp at e;subst e;exact⟨_,rfl,r⟩
 | _,_,i+1,x,.cons _ t,e=>by
  obtain⟨u,h1,h2⟩:=aI.get (i:=i) (x:=x) t (by simpa using e);exact⟨u,by simpa using h1,h2⟩
variable {u cd dV doc pm cdv ct oc:Value}
theorem aI.set {x:V} (r:aX x u):∀{xs:List V} {us:List Value} (i:Nat),aI xs us->aI (xs.set i x) (us.set i u)
 | _,_,_,.nil=>.nil
 | _,_,0,.cons _ t=>.cons r t
 | _,_,i+1,.cons q t=>.cons q (aI.set r i t)
theorem aI.append:∀{xs ys:List V} {us ws:List Value},aI xs us->aI ys ws->aI (xs++ys) (us++ws)
 | _,_,_,_,.nil,s=>s
 | _,_,_,_,.cons r t,s=>.cons r (aI.append t s)
theorem aI.take:∀{xs:List V} {us:List Value} (n:Nat),aI xs us->aI (xs.take n) (us.take n)
 | _,_,0,_=>.nil
 | _,_,_+1,.nil=>.nil
 | _,_,n+1,.cons r t=>.cons r (aI.take n t)
theorem aI.drop:∀{xs:List V} {us:List Value} (n:Nat),aI xs us->aI (xs.drop n) (us.drop n)
 | _,_,0,r=>r
 | _,_,_+1,.nil=>.nil
 | _,_,n+1,.cons _ t=>aI.drop n t
theorem aI.none_of:∀{xs:List V} {us:List Value} {i:Nat},aI xs us->xs[i]?=none->us[i]?=none:=λ{xs us i} r e=>by
 have h1:=r.length;have h2:xs.length<=i:=List.getElem?_eq_none_iff.mp e;exact List.getElem?_eq_none_iff.mpr (by omega)
def ft:Option V->Option Value->Prop
 | some v,some u=>aX v u
 | none,none=>True
 | _,_=>False
def KV {κ:Type}:List (κ × V)->List (κ × Value)->Prop:=Paired λ(p:κ × V) (q:κ × Value)=>p.1=q.1/\aX p.2 q.2
def kV:Key->V
 | .inl i=>.int i
 | .inr x=>.str x
inductive HO where
 /-- a list -/
 | lst (xs:List V)
 /-- a tuple (never changes) -/
 | tup (xs:List V)
 /-- a dict whose keys are ints and texts;one whose keys are tuples of ints and texts (the empty one is both) -/
 | dK (kvs:List (Key × V))|dT (kvs:List (ak × V))
 /-- a set of ints: its members,its size -/
 | set (S:Int->Bool) (n:Nat)
 /-- an instance of the class at C,its dict at dx,its attributes -/
 | ins (C dx:Addr) (fs:List (Str × V))
 /-- the dict of the instance at x -/
 | own (x:Addr)
 /-- the dict of an exception -/
 | xd (fs:List (Str × V))
 /-- a bound method,f of x -/
 | met (f x:Addr)
 /-- a range object lo,lo+1,.. below hi -/
 | rng (lo hi:Int)
 /-- a thing that is known to the object (the script;a dict while a loop uw it): read,never written while it is so -/
 | frz (o:Obj) (u:HO)
 /-- a code object's table -/
 | tbl (ps:Array Value)
 /-- any other thing,by what is true of its one object (a def of one's own: SetO a S n:=HO.ext λh=>..) -/
 | ext (φ:Heap->Prop)
abbrev Hp:=Addr->Option HO
def upd (H:Hp) (a:Addr) (o:HO):Hp:=λb=>if b=a then some o else H b
variable {a b it dx C f:Addr} {H H':Hp}
theorem ag {o:HO}:upd H a o a=some o:=by unfold upd;rw[Qu rfl]
theorem ao {o:HO} (h:b≠a):upd H a o b=H b:=by unfold upd;rw[Qt h]
theorem zR {o u:HO} (h:H a=some o) (h':H b=some u) (d:o≠u):a≠b:=by
 intro e;subst e;rw[h]at h';exact d (QL h')
theorem aV {o:HO} (h:H a=some o) (h':H b=none):a≠b:=by
 intro e;subst e;rw[h]at h';cases h'
def KIt (H:Hp):Key ⊕ List Key->V->Prop
 | .inl k,v=>v=kV k
 | .inr ks,v=>∃c,v=.ref c/\H c=some (.tup (ks.map kV))
def bC (H:Hp) (k:ak) (b:Addr):Prop:=∃vs,H b=some (.tup vs)/\Paired (KIt H) k vs
theorem KIt.keeps {k:Key ⊕ List Key} {v:V} (ht:∀b xs,H b=some (.tup xs)->H' b=some (.tup xs)) (h:KIt H k v):KIt H' k v:=by
 cases k with
 | inl k=>exact h
 | inr ks=>obtain⟨c,e,h⟩:=h;exact⟨c,e,ht _ _ h⟩
theorem Paired.mapT {α β:Type} {F G:α->β->Prop}:∀{l₁:List α} {l₂:List β},Paired F l₁ l₂->(∀a b,F a b->G a b)->Paired G l₁ l₂
 | _,_,.nil,_=>.nil
 | _,_,.cons r t,f=>.cons (f _ _ r) (Paired.mapT t f)
theorem bC.keeps {k:ak} (h:bC H k b) (ht:∀b xs,H b=some (.tup xs)->H' b=some (.tup xs)):bC H' k b:=by
 obtain⟨vs,h1,h2⟩:=h;exact⟨vs,ht _ _ h1,Paired.mapT h2 λ_ _ z=>z.keeps ht⟩
section
variable (P:Program) (w:World)
noncomputable def bi (H:Hp) (h:Heap) (a:Addr):HO->Prop
 | .lst xs=>xs.length<=sizeLine/\∃(its:List Value) (n:Nat),aI xs its/\h.get? a=some { cls:=.type "list", data:=.seq its.toArray n }
 | .tup xs=>xs.length<=sizeLine/\∃its:List Value,aI xs its/\IsTup h a its.toArray
 | .dK kvs=>kvs.length<=sizeLine/\(a==sysModules)=false/\∃vs,KV kvs vs/\h.DictOf (aq P w) a vs
 | .dT kvs=>kvs.length<=sizeLine/\(a==sysModules)=false/\∃xs:List (ak × Addr × Value),
   Paired (λ(p:ak × V) (q:ak × Addr × Value)=>p.1=q.1/\bC H p.1 q.2.1/\aX p.2 q.2.2) kvs xs /\
   ∃o es ep,h.get? a=some o/\o.ExactDict/\o.data=.dict es ep/\es.toList=xs.map (entryOfKey (bq P w))/\(xs.map (·.1)).Nodup
 | .set S n=>h.SetOf (intKind P w) a S n
 | .ins C dx fs=>H dx=some (.own a)/\fs.length<=1000/\dx≠a/\h.get? a=some (PySem.W.instObj C dx) /\
   ∃mA,h.Ns1 dx mA/\(∀f,ft (fs.lookup f) (mA f))/\PySem.Within mA (fs.map (·.1))
 | .own _=>∃o,h.get? a=some o
 | .xd fs=>∃mA,h.Ns1 a mA/\∀f,ft (fs.lookup f) (mA f)
 | .rng lo hi=>∃t u v,h.get? a=some { cls:=.type "range", data:=.fields #[.int lo t,.int hi u,.int 1 v] }
 | .frz o u=>h.get? a=some o/\bi H h a u
 | .tbl ps=>h.get? a=some { cls:=.none,data:=.fields ps }
 | .met f x=>h.get? a=some (PySem.W.methodObj (.ref f) (.ref x))
 | .ext φ=>φ h/\(∃o,h.get? a=some o)/\∀h1 h2:Heap,φ h1->(∀o,h1.get? a=some o->h2.get? a=some o)->φ h2
def HOk (H:Hp) (h:Heap):Prop:=∀a o,H a=some o->bi P w H h a o
end
section
variable {P:Program} {w:World} {H H':Hp} {h h':Heap} {a:Addr} {o:HO}
theorem bi.lt (x:bi P w H h a o):a<h.objs.size:=by
 cases o with
 | lst xs=>obtain⟨_,_,_,_,e⟩:=x;exact Qs e
 | tup xs=>obtain⟨_,_,_,p⟩:=x;exact p.lt
 | dK kvs=>obtain⟨_,_,_,_,o,_,_,e,_⟩:=x;exact Qs e
 | dT kvs=>obtain⟨_,_,_,_,o,_,_,e,_⟩:=x;exact Qs e
 | set S n=>obtain⟨o,_,_,_,e,_⟩:=x;exact Qs e
 | ins C dx fs=>obtain⟨_,_,_,e,_⟩:=x;exact Qs e
 | own y=>obtain⟨_,e⟩:=x;exact Qs e
 | xd fs=>obtain⟨_,⟨_,_,_,e,_⟩,_⟩:=x;exact Qs e
 | rng lo hi=>obtain⟨_,_,_,e⟩:=x;exact Qs e
 | frz ob u=>obtain⟨e,_⟩:=x;exact Qs e
 | tbl ps=>exact Qs (show h.get? a=some _ from x)
 | met f y=>exact Qs (show h.get? a=some _ from x)
 | ext φ=>obtain⟨_,⟨_,e⟩,_⟩:=x;exact Qs e
theorem Paired.mapP {α β:Type} {F G:α->β->Prop}:∀{l₁:List α} {l₂:List β},Paired F l₁ l₂->(∀a b,F a b->G a b)->Paired G l₁ l₂
 | _,_,.nil,_=>.nil
 | _,_,.cons r t,f=>.cons (f _ _ r) (Paired.mapP t f)
theorem bi.stay (x:bi P w H h a o) (k:∀b u,(b=a\/H b=some (.own a))->h.get? b=some u->h'.get? b=some u)
  (ho:∀b,H b=some (.own a)->H' b=some (.own a)) (ht:∀b xs,H b=some (.tup xs)->H' b=some (.tup xs)):bi P w H' h' a o:=by
 induction o with
 | lst xs=>obtain⟨z,its,n,r,e⟩:=x;exact⟨z,its,n,r,k _ _ (.inl rfl) e⟩
 | tup xs=>obtain⟨z,its,r,ob,e,c⟩:=x;exact⟨z,its,r,ob,k _ _ (.inl rfl) e,c⟩
 | dK kvs=>obtain⟨z,y,vs,r,ob,es,ep,e,c⟩:=x;exact⟨z,y,vs,r,ob,es,ep,k _ _ (.inl rfl) e,c⟩
 | dT kvs =>
  obtain⟨z,y,xs,r,ob,es,ep,e,c⟩:=x;exact⟨z,y,xs,Paired.mapP r λp q z=>⟨z.1,z.2.1.keeps ht,z.2.2⟩,ob,es,ep,k _ _ (.inl rfl) e,c⟩
 | set S n=>obtain⟨ob,es,ep,t,e,c⟩:=x;exact⟨ob,es,ep,t,k _ _ (.inl rfl) e,c⟩
 | ins C dx fs =>
  obtain⟨d,z,ne,e,mA,⟨od,es,ep,e2,c⟩,r⟩:=x;exact⟨ho _ d,z,ne,k _ _ (.inl rfl) e,mA,⟨od,es,ep,k _ _ (.inr d) e2,c⟩,r⟩
 | own y=>obtain⟨ob,e⟩:=x;exact⟨ob,k _ _ (.inl rfl) e⟩
 | xd fs=>obtain⟨mA,⟨od,es,ep,e,c⟩,r⟩:=x;exact⟨mA,⟨od,es,ep,k _ _ (.inl rfl) e,c⟩,r⟩
 | rng lo hi=>obtain⟨t,u,v,e⟩:=x;exact⟨t,u,v,k _ _ (.inl rfl) e⟩
 | frz ob u ih=>obtain⟨e,q⟩:=x;exact⟨k _ _ (.inl rfl) e,ih q⟩
 | tbl ps =>
  have e:h.get? a=some { cls:=.none,data:=.fields ps }:=x;show h'.get? a=some { cls:=.none,data:=.fields ps };exact k a _ (.inl rfl) e
 | met f y =>
  have e:h.get? a=some (PySem.W.methodObj (.ref f) (.ref y)):=x;show h'.get? a=some (PySem.W.methodObj (.ref f) (.ref y));exact k a _ (.inl rfl) e
 | ext φ=>obtain⟨p,⟨o,e⟩,st⟩:=x;exact⟨st _ _ p λo q=>k _ _ (.inl rfl) q,⟨o,k _ _ (.inl rfl) e⟩,st⟩
theorem HOk.lt (x:HOk P w H h) (e:H a=some o):a<h.objs.size:=(x a o e).lt
theorem HOk.fresh (x:HOk P w H h) (e:h.objs.size<=a):H a=none:=by
 cases q:H a with
 | none=>rfl
 | some u=>exact absurd (QS (x.lt q) e) (Nat.lt_irrefl _)
theorem HOk.kept (x:HOk P w H h) (k:∀b u,h.get? b=some u->h'.get? b=some u):HOk P w H h':=λa o e =>
 (x a o e).stay (λb u _ q=>k b u q) (λ_ q=>q) λ_ _ q=>q
theorem HOk.laid (x:HOk P w H h) (k:∀b u,h.get? b=some u->h'.get? b=some u) (hp:h.objs.size<=a) (new:bi P w (upd H a o) h' a o):HOk P w (upd H a o) h':=λb u e=>by
 have hn:=x.fresh hp;by_cases hb:b=a
 ·subst hb;rw[ag]at e;cases e;exact new
 rw[ao hb]at e;exact(x b u e).stay (λc v _ q=>k c v q) (λc q=>by rw[ao (aV q hn)];exact q) λc xs q=>by rw[ao (aV q hn)];exact q
end
def Rd (H:Hp) (a:Addr) (u:HO):Prop:=H a=some u\/∃o,H a=some (.frz o u)
variable {h:Heap}
theorem Rd.ok {P:Program} {w:World} {u:HO} (r:Rd H a u) (x:HOk P w H h):bi P w H h a u:=by
 rcases r with r|⟨o,r⟩
 ·exact x a u r
 obtain⟨_,q⟩:=x a _ r;exact q
def Mut:Option HO->Prop
 | some (.lst _)=>True
 | some (.dK _)=>True
 | some (.dT _)=>True
 | some (.set _ _)=>True
 | some (.ins _ _ _)=>True
 | some (.ext _)=>True
 | _=>False
section
variable {P:Program} {w:World} {H:Hp} {h h':Heap} {x e:Addr} {o':HO}
theorem HOk.write (ok:HOk P w H h) (mu:Mut (H x)) (he:e=x\/H e=some (.own x)) (k:∀b u,b≠e->h.get? b=some u->h'.get? b=some u) (heo:∃u,h'.get? e=some u)
  (new:bi P w (upd H x o') h' x o'):HOk P w (upd H x o') h':=λb u q=>by
 have nown:∀c y,H c=some (.own y)->c≠x:=λc y r z=>by subst z;rw[r]at mu;exact mu
 have ntup:∀c xs,H c=some (.tup xs)->c≠x:=λc xs r z=>by subst z;rw[r]at mu;exact mu
 by_cases hb:b=x
 ·subst hb;rw[ag]at q;cases q;exact new
 rw[ao hb]at q;by_cases hbe:b=e
 ·have q':H b=some (.own x):=by
   rcases he with z|z
   ·exact absurd (hbe.trans z) hb
   rw[hbe];exact z
  rw[q]at q';cases q';obtain⟨v,hv⟩:=heo;exact⟨v,by rw[hbe];exact hv⟩
 refine(ok b u q).stay (λc v hc r=>k c v ?_ r) (λc r=>by rw[ao (nown c b r)];exact r) λc xs r=>by rw[ao (ntup c xs r)];exact r
 rcases hc with rfl|hc
 ·exact hbe
 rintro rfl;rcases he with z|z
 ·exact nown c b hc z
 rw[hc]at z;cases z;exact hb rfl
end
structure Un (fs ex:B3) (H H':Hp) (h h':Heap):Prop where
 keep:∀b o,h.get? b=some o->H b=none->b∉fs->b∉ex->h'.get? b=some o
 slot:∀b o,h.get? b=some o->H b=none->b∈fs->b∉ex->∃sl,h'.get? b=some { o with slots:=sl }
 free:∀b o,h.get? b=some o->H b=none->b∉ex->H' b=none
 there:∀b o,h.get? b=some o->b∉ex->∃o',h'.get? b=some o'
 tups:∀b xs,H b=some (.tup xs)->H' b=some (.tup xs)
 frzs:∀b o u,H b=some (.frz o u)->H' b=some (.frz o u)
 tbls:∀b ps,H b=some (.tbl ps)->∃more,H' b=some (.tbl (ps++more))
section
variable {fs fs' ex ex':B3} {H H1 H2:Hp} {h h1 h2 h':Heap} {a x e:Addr} {o:HO}
theorem Un.any (u:Un fs ex H H1 h h1) {b:Addr} {ob:Obj} (q:h.get? b=some ob) (n:H b=none) (hx:b∉ex):∃sl,h1.get? b=some { ob with slots:=sl }:=by
 by_cases hb:b∈fs
 ·exact u.slot b ob q n hb hx
 exact⟨ob.slots,u.keep b ob q n hb hx⟩
theorem Un.kept (k:∀b u,h.get? b=some u->h'.get? b=some u):Un fs ex H H h h' :=
 ⟨λb ob q _ _ _=>k b ob q,λb ob q _ _ _=>⟨ob.slots,k b ob q⟩,λ_ _ _ n _=>n,λb ob q _=>⟨ob,k b ob q⟩,λ_ _ q=>q,λ_ _ _ q=>q,λ_ ps q=>⟨#[],by rw[q];simp⟩⟩
theorem Un.refl:Un fs ex H H h h:=Un.kept λ_ _ q=>q
theorem Un.laid (k:∀b u,h.get? b=some u->h'.get? b=some u) (hp:h.objs.size<=a) (hn:H a=none):Un fs ex H (upd H a o) h h' where
 keep:=λb u q _ _ _=>k b u q
 slot:=λb u q _ _ _=>⟨u.slots,k b u q⟩
 free:=λb u q n _=>by rw[ao (QF (QS (Qs q) hp))];exact n
 there:=λb u q _=>⟨u,k b u q⟩
 tups:=λb xs q=>by rw[ao (aV q hn)];exact q
 frzs:=λb u xs q=>by rw[ao (aV q hn)];exact q
 tbls:=λb ps q=>⟨#[],by rw[ao (aV q hn),q];simp⟩
theorem Un.write (mu:Mut (H x)) (he:e=x\/H e=some (.own x)) (k:∀b u,b≠e->h.get? b=some u->h'.get? b=some u) (heo:∃u,h'.get? e=some u):Un fs ex H (upd H x o) h h':=by
 have hx:∀b,H b=none->b≠x:=λb n z=>by subst z;rw[n]at mu;exact mu
 have hb:∀b,H b=none->b≠e:=λb n z=>by
  subst z;rcases he with r|r
  ·exact hx b n r
  rw[n]at r;cases r
 have hm:∀b u,H b=some u->¬Mut (some u)->b≠x:=λb u q nm z=>by subst z;rw[q]at mu;exact nm mu
 refine⟨λb u q n _ _=>k b u (hb b n) q,λb u q n _ _=>⟨u.slots,k b u (hb b n) q⟩,λb u q n _=>by rw[ao (hx b n)];exact n,λb u q _=>?_,
  λb xs q=>by rw[ao (hm b _ q λz=>z)];exact q,λb u xs q=>by rw[ao (hm b _ q λz=>z)];exact q,λb ps q=>⟨#[],by rw[ao (hm b _ q λz=>z),q];simp⟩⟩
 by_cases hbe:b=e
 ·subst hbe;exact heo
 exact⟨u,k b u hbe q⟩
end
def trk (h:Heap) (H:Hp):B3:=(List.range h.objs.size).filter λa=>(H a).isSome
def gN (h:Heap) (H:Hp):Heap:=PySem.W.hideAll h (trk h H)
theorem pG (h:Heap) (H:Hp):(gN h H).objs.size=h.objs.size:=PySem.W.hideAll_size _ _
theorem si {o:Obj} (e:h.get? b=some o) (n:H b=none):(gN h H).get? b=some o :=
 PySem.W.hideAll_get _ e λhm=>by
  have q:(H b).isSome=true:=(List.mem_filter.mp hm).2;rw[n]at q;simp at q
theorem tW {o:Obj} (e:(gN h H).get? b=some o):h.get? b=some o/\H b=none:=by
 have e':h.get? b=some o:=PySem.W.of_hideAll (trk h H) e;refine⟨e',?_⟩
 cases q:H b with
 | none=>rfl
 | some x =>
 have hm:b∈trk h H:=List.mem_filter.mpr ⟨Xz.mpr (Qs e'),by simp[q]⟩;have z:(gN h H).get? b=none:=PySem.W.hideAll_none (trk h H) hm;rw[z]at e;cases e
structure Mod (K:PySem.W.Frag) (mg:B2) (base:Heap):Prop where
 kin:K.In base
 glob:base.Ns mainGlobals mg
 blt:∃mb,base.Ns builtinsNs mb/\∀x:Str,x ≠ "__name__" -> mb x=bootBuiltins x
 nolimit:base.NoLimit
/-- the context: a def's body (or a comprehension's block) running. base: fixed through the whole law;s₀,H₀: the n0;outer: the frames whose slots others may change (a def's callers);stack: all frames that run;
  ex: iterators that were made ahead of the n0 and are walked here (a comprehension's);fn: the names whose cells were made at the n0 (a def: all;a comprehension's block: its own);calm: not within an except suite;pn: pins that every state bears;xe: what is wanted of an exception that leaves the code -/
structure Cx where
 prog:Program
 w:World
 K:PySem.W.Frag
 mg:B2
 base:Heap
 A:Around
 N:List Str
 s₀:Shared
 H₀:Hp
 env:Env
 outer:List Env
 stack:List Env
 ex:B3
 fn:Str->Bool
 calm:Bool
 pn:B1
 xe:B0
def frs (l:List Env):B3:=l.filterMap (·.frame)
abbrev Cx.fs (X:Cx):B3:=frs X.outer
def Vis (sc:Scope) (x:Str):Prop:=sc.names.lookup x=some .local\/sc.names.lookup x=some .cell\/sc.names.lookup x=some .free
def Loc (sc:Scope) (x:Str):Prop:=sc.names.lookup x=some .local\/sc.names.lookup x=some .cell
def Bp (env:Env) (h:Heap) (m:B2) (x:Str) (u:Value):Prop :=
 (env.kindOf x=some .local/\m x=some u)\/((env.kindOf x=some .cell\/env.kindOf x=some .free)/\∃c,env.cells.lookup x=some c/\h.IsCell c (some u))
structure Cx.Ok (X:Cx):Prop where
 mod:Mod X.K X.mg X.base
 kind:X.env.scope.kind=.function
 glob:X.env.globals=mainGlobals
 blt:X.env.builtins=builtinsNs
 above:X.s₀.heap.objs.size<=X.env.locals
 inj:∀x y c,X.env.cells.lookup x=some c->X.env.cells.lookup y=some c->x=y
 has:∀x,(X.env.kindOf x=some .cell\/X.env.kindOf x=some .free)->∃c,X.env.cells.lookup x=some c
 cab:∀x c,X.fn x=true->X.env.cells.lookup x=some c->X.s₀.heap.objs.size<=c
 hd:X.calm=true->X.A.handled=none
 frames:X.A.frames=some X.stack
 stk:X.stack=X.outer\/(X.stack=X.env::X.outer/\X.env.frame=some X.env.locals)
 exf:∀b∈X.ex,b≠X.env.locals/\∀x c,X.env.cells.lookup x=some c->c≠b
 bs:∀b o,X.base.get? b=some o->X.s₀.heap.get? b=some o/\X.H₀ b=none
 bsz:X.base.objs.size<=X.s₀.heap.objs.size
 noex:∀b o,X.base.get? b=some o->b∉X.ex
 exfs:∀b∈X.ex,b∉X.fs
 funs:X.s₀.heap.FunFrames X.base X.outer
 frf:∀b∈X.fs,X.H₀ b=none
structure Inv (X:Cx) (pins:B1) (U:List (Option V)) (H:Hp) (s:Shared):Prop where
 ok:X.Ok
 os:s.os=X.s₀.os
 bare:AllBare s.gens
 base:Un X.fs X.ex X.H₀ H X.s₀.heap s.heap
 loc:∃m,s.heap.Ns X.env.locals m/\∀(i:Nat) (x:Str) (v:V),X.N[i]?=some x->U[i]?=some (some v)->Vis X.env.scope x->∃u,aX v u/\Bp X.env s.heap m x u
 cell:∀x c,X.env.cells.lookup x=some c->∃v,s.heap.IsCell c v
 free:H X.env.locals=none
 freeC:∀x c,X.env.cells.lookup x=some c->H c=none
 pin:∀p∈X.pn++pins,s.heap.get? p.1=some p.2/\H p.1=none/\p.1≠X.env.locals/\p.1∉X.fs/\∀v,p.2.data≠.cell v
 hok:HOk X.prog X.w H s.heap
 len:U.length=X.N.length
section
variable {X:Cx} {pins:B1} {U:List (Option V)} {H H':Hp} {s:Shared} {h':Heap}
theorem Cx.Ok.nofr (ok:X.Ok) {b:Addr} {o:Obj} (e:X.base.get? b=some o):b∉X.fs:=λhb=>by
 have:=(ok.funs.mem hb).1;rw[e]at this;cases this
theorem Inv.bs (I:Inv X pins U H s):∀b o,X.base.get? b=some o->s.heap.get? b=some o/\H b=none:=λb o e =>
 ⟨I.base.keep b o (I.ok.bs b o e).1 (I.ok.bs b o e).2 (I.ok.nofr e) (I.ok.noex b o e),I.base.free b o (I.ok.bs b o e).1 (I.ok.bs b o e).2 (I.ok.noex b o e)⟩
theorem Inv.bk (I:Inv X pins U H s):∀b o,X.base.get? b=some o->s.heap.get? b=some o:=λb o e=>(I.bs b o e).1
theorem Inv.mod (I:Inv X pins U H s):Mod X.K X.mg X.base:=I.ok.mod
theorem Inv.kIn (I:Inv X pins U H s):X.K.In s.heap:=I.ok.mod.kin.keeps I.bk
theorem Inv.lt (I:Inv X pins U H s):X.env.locals<s.heap.objs.size:=let ⟨_,hn,_⟩:=I.loc;hn.lt
theorem Inv.sz (I:Inv X pins U H s):X.s₀.heap.objs.size<=s.heap.objs.size:=QO I.ok.above (Nat.le_of_lt I.lt)
theorem Inv.nofs (I:Inv X pins U H s) {a:Addr} (h:s.heap.objs.size<=a):a∉X.fs:=λhb=>by
 obtain⟨_,o,ho,_⟩:=I.ok.funs.mem hb;exact absurd (QS (Qs ho) (QO I.sz h)) (Nat.lt_irrefl _)
theorem Inv.cne (I:Inv X pins U H s):∀x c,X.env.cells.lookup x=some c->c≠X.env.locals:=λx c e z=>by
 obtain⟨v,o,ho,hd⟩:=I.cell x c e;obtain⟨m,⟨o',es,ep,ho',hd',_⟩,_⟩:=I.loc;rw[z,ho']at ho;cases ho;rw[hd']at hd;cases hd
theorem Inv.funs (I:Inv X pins U H s):s.heap.FunFrames X.base X.outer:=by
 have all:∀(l:List Env),(∀b∈frs l,b∈X.fs)->X.s₀.heap.FunFrames X.base l->s.heap.FunFrames X.base l:=by
  intro l
  induction l with
  | nil=>intro _ _;trivial
  | cons env r ih =>
  intro hs hl;obtain⟨hk,⟨L,o,hf,hn,ho,hd⟩,hr⟩:=hl;have hL:L∈X.fs:=hs L (by unfold frs;rw[List.filterMap_cons,hf];exact Xd);obtain⟨sl,e⟩:=I.base.slot L o ho (I.ok.frf L hL) hL λz=>I.ok.exfs L z hL;exact⟨hk,⟨L,_,hf,hn,e,hd⟩,ih (λb hb=>hs b (by unfold frs;rw[List.filterMap_cons,hf];exact Qj _ hb)) hr⟩
 exact all X.outer (λ_ hb=>hb) I.ok.funs
theorem Inv.stack (I:Inv X pins U H s):s.heap.FunFrames X.base X.stack:=by
 rcases I.ok.stk with e|⟨e,hf⟩
 ·rw[e];exact I.funs
 rw[e];obtain⟨m,hn,_⟩:=I.loc;refine .cons (by rw[I.ok.kind];decide) hf hn ?_ I.funs;exact Heap.get?_none_of_le (QO I.ok.bsz I.ok.above)
theorem Inv.stkSub (I:Inv X pins U H s):∀b∈frs X.stack,b∈X.env.locals::X.fs:=λb hb=>by
 rcases I.ok.stk with e|⟨e,hf⟩
 ·rw[e]at hb;exact Qj _ hb
 rw[e]at hb;unfold frs at hb;rw[List.filterMap_cons,hf]at hb;exact hb
theorem Inv.stkFree (I:Inv X pins U H s):∀b∈frs X.stack,H b=none:=λb hb=>by
 rcases Qw.mp (I.stkSub b hb) with e|hb
 ·rw[e];exact I.free
 obtain⟨_,o,ho,_⟩:=I.ok.funs.mem hb;exact I.base.free b o ho (I.ok.frf b hb) λz=>I.ok.exfs b z hb
theorem Inv.step {g':Array GenState} {t':Nat} {d':Drawn} {ch:B3} (I:Inv X pins U H s)
  (hch:∀b∈ch,(b∈X.ex\/X.s₀.heap.objs.size<=b)/\b≠X.env.locals/\(∀x c,X.env.cells.lookup x=some c->c≠b)/\∀p∈X.pn++pins,p.1≠b)
  (keep:∀b o,b≠X.env.locals->b∉X.fs->b∉ch->s.heap.get? b=some o->H b=none->h'.get? b=some o)
  (slot:∀b o,b≠X.env.locals->b∈X.fs->b∉ch->s.heap.get? b=some o->H b=none->∃sl,h'.get? b=some { o with slots:=sl }) (free:∀b o,b∉ch->s.heap.get? b=some o->H b=none->H' b=none)
  (there:∀b o,b∉ch->s.heap.get? b=some o->∃o',h'.get? b=some o')
  (tups:∀b xs,H b=some (.tup xs)->H' b=some (.tup xs)) (frzs:∀b o u,H b=some (.frz o u)->H' b=some (.frz o u)) (tbls:∀b ps,H b=some (.tbl ps)->∃more,H' b=some (.tbl (ps++more)))
  (ns:∀m,s.heap.Ns X.env.locals m->h'.Ns X.env.locals m) (hok:HOk X.prog X.w H' h') (hg:AllBare g') :
  Inv X pins U H' { s with heap:=h',gens:=g',drawn:=d',toks:=t' }:=by
 have neL:∀b o,X.s₀.heap.get? b=some o->b≠X.env.locals:=λb o e=>QF (QS (Qs e) I.ok.above)
 have neC:∀b o,X.s₀.heap.get? b=some o->b∉X.ex->b∉ch:=λb o e hx hb=>by
  rcases(hch b hb).1 with z|z
  ·exact hx z
  exact absurd (QS (Qs e) z) (Nat.lt_irrefl _)
 have cellK:∀x c,X.env.cells.lookup x=some c->∀v,s.heap.IsCell c v->h'.IsCell c v:=λx c e v ⟨o,ho,hd⟩=>by
  have nch:c∉ch:=λz=>(hch c z).2.2.1 x c e rfl;by_cases hc:c∈X.fs
  ·obtain⟨sl,q⟩:=slot c o (I.cne x c e) hc nch ho (I.freeC x c e);exact⟨_,q,hd⟩
  exact⟨o,keep c o (I.cne x c e) hc nch ho (I.freeC x c e),hd⟩
 refine⟨I.ok,I.os,hg,⟨λb o e n hb hx=>?_,λb o e n hb hx=>?_,λb o e n hx=>?_,λb o e hx=>?_,λb xs e=>tups b xs (I.base.tups b xs e),λb o xs e=>frzs b o xs (I.base.frzs b o xs e),λb ps e=>?_⟩,?_,λx c e=>?_,?_,λx c e=>?_,λp hp=>?_,hok,I.len⟩
 ·exact keep b o (neL b o e) hb (neC b o e hx) (I.base.keep b o e n hb hx) (I.base.free b o e n hx)
 ·obtain⟨sl,e1⟩:=I.base.slot b o e n hb hx;obtain⟨sl',e2⟩:=slot b _ (neL b o e) hb (neC b o e hx) e1 (I.base.free b o e n hx);exact⟨sl',e2⟩
 ·obtain⟨o',e1⟩:=I.base.there b o e hx;exact free b o' (neC b o e hx) e1 (I.base.free b o e n hx)
 ·obtain⟨o',e1⟩:=I.base.there b o e hx;exact there b o' (neC b o e hx) e1
 ·obtain⟨m1,e1⟩:=I.base.tbls b ps e;obtain⟨m2,e2⟩:=tbls b _ e1;exact⟨m1++m2,by rw[e2,Array.append_assoc]⟩
 ·obtain⟨m,hn,hl⟩:=I.loc;refine⟨m,ns m hn,λi x v e1 e2 e3=>?_⟩;obtain⟨u,r,l⟩:=hl i x v e1 e2 e3;refine⟨u,r,?_⟩;rcases l with l|⟨k,c,e,z⟩
  ·exact .inl l
  exact .inr ⟨k,c,e,cellK x c e _ z⟩
 ·obtain⟨v,z⟩:=I.cell x c e;exact⟨v,cellK x c e v z⟩
 ·obtain⟨m,⟨o,_,_,ho,_⟩,_⟩:=I.loc;exact free _ o (λz=>(hch _ z).2.1 rfl) ho I.free
 ·obtain⟨v,o,ho,hd⟩:=I.cell x c e;exact free c o (λz=>(hch c z).2.2.1 x c e rfl) ho (I.freeC x c e)
 obtain⟨e,n,ne,nf,d⟩:=I.pin p hp;have nch:p.1∉ch:=λz=>(hch p.1 z).2.2.2 p hp rfl;exact⟨keep p.1 p.2 ne nf nch e n,free p.1 p.2 nch e n,ne,nf,d⟩
theorem Inv.un {t':Nat} (I:Inv X pins U H s) (u:Un X.fs [] H H' s.heap h') (hok:HOk X.prog X.w H' h'):Inv X pins U H' { s with heap:=h',toks:=t' }:=by
 obtain⟨m,⟨o,es,ep,ho,r⟩,_⟩:=id I.loc;obtain⟨sl,hL⟩:=u.any ho I.free (by simp)
 exact I.step (g':=s.gens) (d':=s.drawn) (ch:=[]) (λ_ z=>nomatch z) (λb o _ hb _ e n=>u.keep b o e n hb (by simp)) (λb o _ hb _ e n=>u.slot b o e n hb (by simp)) (λb o _ e n=>u.free b o e n (by simp)) (λb o _ e=>u.there b o e (by simp)) u.tups u.frzs u.tbls (λm' hm=>by
  obtain⟨o',es',ep',ho',r'⟩:=hm;rw[ho]at ho';cases ho'
  exact⟨_,es',ep',hL,r'⟩) hok I.bare
theorem Inv.call {g':Array GenState} {t':Nat} {d':Drawn} {ch:B3} (I:Inv X pins U H s) (u:Un (frs X.stack) ch H H' s.heap h') (hok:HOk X.prog X.w H' h') (hg:AllBare g')
  (hch:∀b∈ch,(b∈X.ex\/X.s₀.heap.objs.size<=b)/\b≠X.env.locals/\(∀x c,X.env.cells.lookup x=some c->c≠b)/\∀p∈X.pn++pins,p.1≠b) :
  Inv X pins U H' { s with heap:=h',gens:=g',drawn:=d',toks:=t' }:=by
 obtain⟨m,⟨o,es,ep,ho,r⟩,_⟩:=id I.loc;obtain⟨sl,hL⟩:=u.any ho I.free λz=>(hch _ z).2.1 rfl
 exact I.step (ch:=ch) hch (λb o hL hb hc e n=>u.keep b o e n (λz=>(Qw.mp (I.stkSub b z)).elim hL hb) hc) (λb o _ _ hc e n=>u.any e n hc) (λb o hc e n=>u.free b o e n hc) (λb o hc e=>u.there b o e hc) u.tups u.frzs u.tbls (λm' hm=>by
  obtain⟨o',es',ep',ho',r'⟩:=hm;rw[ho]at ho';cases ho'
  exact⟨_,es',ep',hL,r'⟩) hok hg
theorem Inv.turned {t':Nat} {it:Addr} (I:Inv X pins U H s) (k:∀b o,b≠it->s.heap.get? b=some o->h'.get? b=some o) (hn:H it=none) (hL:it≠X.env.locals)
  (h1:it∈X.ex\/X.s₀.heap.objs.size<=it) (h2:∀x c,X.env.cells.lookup x=some c->c≠it) (h3:∀p∈X.pn++pins,p.1≠it):Inv X pins U H { s with heap:=h',toks:=t' }:=by
 have nit:∀b u,H b=some u->b≠it:=λb u e z=>by rw[z,hn]at e;cases e
 refine I.step (g':=s.gens) (d':=s.drawn) (ch:=[it]) (λb hb=>?_) (λb o _ _ hc e _=>k b o (λz=>hc (by simp[z])) e) (λb o _ _ hc e _=>⟨o.slots,k b o (λz=>hc (by simp[z])) e⟩) (λ_ _ _ _ n=>n)
  (λb o hc e=>⟨o,k b o (λz=>hc (by simp[z])) e⟩) (λ_ _ e=>e) (λ_ _ _ e=>e) (λb ps e=>⟨#[],by rw[e];simp⟩) (λm hm=>?_) (λb u e=>?_) I.bare
 ·have e:b=it:=by simpa using hb
  subst e;exact⟨h1,hL,h2,h3⟩
 ·obtain⟨o,es,ep,ho,r⟩:=hm;exact⟨o,es,ep,k _ o (Ne.symm hL) ho,r⟩
 refine(I.hok b u e).stay (λc v hc q=>k c v ?_ q) (λ_ q=>q) λ_ _ q=>q;rcases hc with z|z
 ·rw[z];exact nit b u e
 exact nit c _ z
theorem Inv.tok (I:Inv X pins U H s) (t:Nat):Inv X pins U H { s with toks:=t }:=I.un (h':=s.heap) (t':=t) Un.refl I.hok
theorem Inv.kept {t':Nat} (I:Inv X pins U H s) (k:∀b u,s.heap.get? b=some u->h'.get? b=some u):Inv X pins U H { s with heap:=h',toks:=t' }:=I.un (Un.kept k) (I.hok.kept k)
theorem Inv.laid {a:Addr} {o:HO} {t':Nat} (I:Inv X pins U H s) (k:∀b u,s.heap.get? b=some u->h'.get? b=some u) (hp:s.heap.objs.size<=a) (new:bi X.prog X.w (upd H a o) h' a o) :
  Inv X pins U (upd H a o) { s with heap:=h',toks:=t' }:=I.un (Un.laid k hp (I.hok.fresh hp)) (I.hok.laid k hp new)
theorem Inv.write {x e:Addr} {o:HO} {t':Nat} (I:Inv X pins U H s) (mu:Mut (H x)) (he:e=x\/H e=some (.own x)) (k:∀b u,b≠e->s.heap.get? b=some u->h'.get? b=some u) (heo:∃u,h'.get? e=some u)
  (new:bi X.prog X.w (upd H x o) h' x o):Inv X pins U (upd H x o) { s with heap:=h',toks:=t' }:=I.un (Un.write mu he k heo) (I.hok.write mu he k heo new)
theorem Inv.weak {σ':List (Option V)} (I:Inv X pins U H s) (hl:σ'.length=U.length) (w:∀(i:Nat) v,σ'[i]?=some (some v)->U[i]?=some (some v)):Inv X pins σ' H s :=
 ⟨I.ok,I.os,I.bare,I.base,let ⟨m,hn,hl'⟩:=I.loc;⟨m,hn,λi x v e1 e2 e3=>hl' i x v e1 (w i v e2) e3⟩,I.cell,I.free,I.freeC,I.pin,I.hok,hl.trans I.len⟩
theorem Inv.pins_of {pins':B1} (I:Inv X pins U H s) (h:∀p∈pins',s.heap.get? p.1=some p.2/\H p.1=none/\p.1≠X.env.locals/\p.1∉X.fs/\∀v,p.2.data≠.cell v):Inv X pins' U H s :=
 ⟨I.ok,I.os,I.bare,I.base,I.loc,I.cell,I.free,I.freeC,λp hp=>(Qp.mp hp).elim (λz=>I.pin p (QK _ z)) (h p),I.hok,I.len⟩
theorem km {N:List Str} (hN:N.Nodup) {i j:Nat} {x:Str} (a:N[i]?=some x) (b:N[j]?=some x):i=j:=by
 obtain⟨h1,e1⟩:=Ql.mp a;obtain⟨h2,e2⟩:=Ql.mp b;exact(List.getElem_inj hN).mp (e1.trans e2.symm)
variable {Q:Unit->Shared->Prop} {E:B0}
theorem gX {M:Model} {A:Around} {i:Nat} {x:Str} {v:V} {u:Value} (I:Inv X pins U H s) (hN:X.N.Nodup) (hi:X.N[i]?=some x) (hx:Loc X.env.scope x) (r:aX v u)
  (h:∀s',Inv X pins (U.set i (some v)) H s'->(∃a,Heap.SameBut a s.heap s'.heap/\(a=X.env.locals\/X.env.cells.lookup x=some a))->Q () s') (hf:X.fn x=true\/X.env.scope.names.lookup x=some .local:=by z_go):wpAny M A (storeName X.env x u) Q E s:=by
 obtain⟨m,hn,hl⟩:=id I.loc;have hcls:(X.env.scope.kind==.class || (X.env.scope.kind==.module&&X.env.locals != X.env.globals))=false:=by rw[I.ok.kind];rfl
 have hiσ:i<U.length:=by rw[I.len];exact(Ql.mp hi).1
 have cne:=I.cne
 have tracked:∀{a:Addr} {h':Heap},(∃o,s.heap.get? a=some o/\H a=none)->Heap.SameBut a s.heap h'->HOk X.prog X.w H h':=λ{a h'} ha hs b ob e=>by
  obtain⟨_,_,hfree⟩:=ha;refine(I.hok b ob e).stay (λc w' hc q=>(hs.2 c ?_).trans q) (λ_ q=>q) λ_ _ q=>q;rintro rfl;rcases hc with rfl|hc
  ·rw[hfree]at e;cases e
  rw[hfree]at hc;cases hc
 rcases hx with hk|hk
 ·refine wpAny_storeName_local hk hn (λh' hn' hs=>?_) hcls;obtain⟨oL,_,_,hoL,_⟩:=id hn;refine h _ ⟨I.ok,I.os,I.bare,⟨λb o e n hb hx=>?_,λb o e n hb hx=>?_,I.base.free,λb o e hx=>?_,I.base.tups,I.base.frzs,I.base.tbls⟩,⟨_,hn',λj y v' e1 e2 e3=>?_⟩,λy c e=>?_,I.free,I.freeC,λp hp=>?_,tracked ⟨oL,hoL,I.free⟩ hs,by simpa using I.len⟩ ⟨_,hs,.inl rfl⟩
  ·exact(hs.2 b (QF (QS (Qs e) I.ok.above))).trans (I.base.keep b o e n hb hx)
  ·obtain⟨sl,e1⟩:=I.base.slot b o e n hb hx;exact⟨sl,(hs.2 b (QF (QS (Qs e) I.ok.above))).trans e1⟩
  ·obtain⟨o',e1⟩:=I.base.there b o e hx;exact⟨o',(hs.2 b (QF (QS (Qs e) I.ok.above))).trans e1⟩
  ·by_cases hj:j=i
   ·subst hj;rw[hi]at e1;cases e1;rw[List.getElem?_set_self hiσ]at e2;cases e2;exact⟨u,r,.inl ⟨hk,by simp⟩⟩
   rw[List.getElem?_set_ne (Ne.symm hj)]at e2;obtain⟨u',r',q⟩:=hl j y v' e1 e2 e3;refine⟨u',r',?_⟩;rcases q with⟨k,e⟩|⟨k,c,e,z⟩
   ·refine .inl ⟨k,?_⟩;have:y≠x:=λe=>hj (km hN e1 (e▸hi));simp[this,e]
   exact .inr ⟨k,c,e,z.sameBut hs (cne y c e)⟩
  ·obtain⟨w',z⟩:=I.cell y c e;exact⟨w',z.sameBut hs (cne y c e)⟩
  obtain⟨e,n,ne,nf,d⟩:=I.pin p hp;exact⟨(hs.2 p.1 ne).trans e,n,ne,nf,d⟩
 have hfn:X.fn x=true:=by
  rcases hf with z|z
  ·exact z
  rw[z]at hk;cases hk
 obtain⟨c,hc⟩:=I.ok.has x (.inl hk);obtain⟨w',z⟩:=I.cell x c hc;refine wpAny_storeName_cell I.ok.kind hk hc z (λh' hc' hs=>?_);obtain⟨oc,hoc,hocd⟩:=id z;refine h { s with heap:=h' } ⟨I.ok,I.os,I.bare,⟨λb o e n hb hx=>?_,λb o e n hb hx=>?_,I.base.free,λb o e hx=>?_,I.base.tups,I.base.frzs,I.base.tbls⟩,⟨m,hn.sameBut hs (Ne.symm (cne x c hc)),λj y v' e1 e2 e3=>?_⟩,λy c' e=>?_,I.free,I.freeC,λp hp=>?_,tracked ⟨oc,hoc,I.freeC x c hc⟩ hs,by simpa using I.len⟩ ⟨c,hs,.inr hc⟩
 ·exact(hs.2 b (QF (QS (Qs e) (I.ok.cab x c hfn hc)))).trans (I.base.keep b o e n hb hx)
 ·obtain⟨sl,e1⟩:=I.base.slot b o e n hb hx;exact⟨sl,(hs.2 b (QF (QS (Qs e) (I.ok.cab x c hfn hc)))).trans e1⟩
 ·obtain⟨o',e1⟩:=I.base.there b o e hx;exact⟨o',(hs.2 b (QF (QS (Qs e) (I.ok.cab x c hfn hc)))).trans e1⟩
 ·by_cases hj:j=i
  ·subst hj;rw[hi]at e1;cases e1;rw[List.getElem?_set_self hiσ]at e2;cases e2;exact⟨u,r,.inr ⟨.inl hk,c,hc,hc'⟩⟩
  rw[List.getElem?_set_ne (Ne.symm hj)]at e2;obtain⟨u',r',q⟩:=hl j y v' e1 e2 e3;refine⟨u',r',?_⟩;rcases q with q|⟨k,c',e,z'⟩
  ·exact .inl q
  refine .inr ⟨k,c',e,z'.sameBut hs ?_⟩;rintro rfl;exact hj (km hN e1 (I.ok.inj _ _ _ e hc▸hi))
 ·by_cases hcc:c'=c
  ·subst hcc;exact⟨_,hc'⟩
  obtain⟨w2,z2⟩:=I.cell y c' e;exact⟨w2,z2.sameBut hs hcc⟩
 obtain⟨e,n,ne,nf,d⟩:=I.pin p hp;refine⟨(hs.2 p.1 ?_).trans e,n,ne,nf,d⟩;intro q;rw[q,hoc]at e;have q':oc=p.2:=QL e;exact d w' (by rw[<-q'];exact hocd)
theorem jI {M:Model} {A:Around} {i:Nat} {x:Str} {v:V} {u:Value} (I:Inv X pins U H s) (hN:X.N.Nodup) (hi:X.N[i]?=some x) (hx:Loc X.env.scope x) (r:aX v u)
  (h:∀s',Inv X pins (U.set i (some v)) H s'->Q () s') (hf:X.fn x=true\/X.env.scope.names.lookup x=some .local:=by z_go):wpAny M A (storeName X.env x u) Q E s :=
 gX I hN hi hx r (λs' I' _=>h s' I') hf
theorem Inv.call' {s':Shared} {ch:B3} (I:Inv X pins U H s) (ho:s'.os=s.os) (u:Un (frs X.stack) ch H H' s.heap s'.heap) (hok:HOk X.prog X.w H' s'.heap) (hg:AllBare s'.gens)
  (hch:∀b∈ch,(b∈X.ex\/X.s₀.heap.objs.size<=b)/\b≠X.env.locals/\(∀x c,X.env.cells.lookup x=some c->c≠b)/\∀p∈X.pn++pins,p.1≠b):Inv X pins U H' s':=by
 obtain⟨h',g',d',t',o'⟩:=s';have e:o'=s.os:=ho;subst e;exact I.call (g':=g') (t':=t') (d':=d') u hok hg hch
end
abbrev XK:=Value->Option Addr->Hp->Prop
abbrev St:=List (Option V)
abbrev VK:=V->Hp->Prop
abbrev TE:=St->Hp->VK->Prop
abbrev TT:=St->Hp->(Bool->Hp->Prop)->Prop
abbrev TA:=St->Hp->(List V->Hp->Prop)->Prop
structure Ends where
 nx:St->Hp->Prop
 rt:VK
 bk:St->Hp->Prop:=λ_ _=>False
 ct:St->Hp->Prop:=λ_ _=>False
abbrev TS:=Ends->St->Hp->Prop
def EP (X:Cx) (pins:B1) (U:St) (Q:VK) (u:Value) (s':Shared):Prop:=∃v H',Inv X pins U H' s'/\aX v u/\Q v H'
def TP (X:Cx) (pins:B1) (U:St) (Q:Bool->Hp->Prop) (b:Bool) (s':Shared):Prop:=∃H',Inv X pins U H' s'/\Q b H'
def AP (X:Cx) (pins:B1) (U:St) (Q:List V->Hp->Prop) (us:List Value) (s':Shared):Prop:=∃vs H',Inv X pins U H' s'/\aI vs us/\Q vs H'
def SP (X:Cx) (pins:B1) (D:Ends) (f:Flow) (s':Shared):Prop :=
 match f with
 | .next=>∃σ' H',Inv X pins σ' H' s'/\D.nx σ' H'
 | .brk=>∃σ' H',Inv X pins σ' H' s'/\D.bk σ' H'
 | .cont=>∃σ' H',Inv X pins σ' H' s'/\D.ct σ' H'
 | .ret u=>∃v σ' H',Inv X pins σ' H' s'/\aX v u/\D.rt v H'
def PE (X:Cx) (e:Expr) (t:TE):Prop :=
 ∀(pins:B1) (s:Shared) (U:St) (H:Hp) (Q:VK),Inv X pins U H s->t U H Q->wpAny (model X.prog X.w) X.A (eval e X.env) (EP X pins U Q) X.xe s
def PT (X:Cx) (e:Expr) (t:TT):Prop :=
 ∀(pins:B1) (s:Shared) (U:St) (H:Hp) (Q:Bool->Hp->Prop),Inv X pins U H s->t U H Q->wpAny (model X.prog X.w) X.A (isTrue e X.env (eval e X.env)) (TP X pins U Q) X.xe s
def PW (X:Cx) (e:Expr) (t:TT):Prop :=
 ∀(whole:Sem Value) (pins:B1) (s:Shared) (U:St) (H:Hp) (Q:Bool->Hp->Prop),Inv X pins U H s->t U H Q->wpAny (model X.prog X.w) X.A (isTrue e X.env whole) (TP X pins U Q) X.xe s
variable {e tg:Expr} {X:Cx}
theorem PW.pt {t:TT} (h:PW X e t):PT X e t:=h _
def PA (X:Cx) (es:List Expr) (t:TA):Prop :=
 ∀(pos:Pos) (pins:B1) (s:Shared) (U:St) (H:Hp) (Q:List V->Hp->Prop),Inv X pins U H s->t U H Q->wpAny (model X.prog X.w) X.A (spliced (backTo pos (starEach es X.env))) (AP X pins U Q) X.xe s
def PS (X:Cx) (st:Stmt) (t:TS):Prop :=
 ∀(pins:B1) (s:Shared) (U:St) (H:Hp) (D:Ends),Inv X pins U H s->t D U H->wpAny (model X.prog X.w) X.A (exec st X.env) (SP X pins D) X.xe s
def PSs (X:Cx) (st:List Stmt) (t:TS):Prop :=
 ∀(pins:B1) (s:Shared) (U:St) (H:Hp) (D:Ends),Inv X pins U H s->t D U H->wpAny (model X.prog X.w) X.A (execs st X.env) (SP X pins D) X.xe s
variable {s s1:Shared} {E:B0}
theorem thn {α:Type} {t:Sem α} {Q Q':α->Shared->Prop} {M:Model} (h:wpAny M A t Q E s) (hQ:∀a s,Q a s->Q' a s):wpAny M A t Q' E s:=XQ h hQ λ_ _ x=>x
section
variable {X:Cx}
def bX (i:Nat):TE:=λU H Q=>∃v,U[i]?=some (some v)/\Q v H
def tC (v:V):TE:=λ_ H Q=>Q v H
variable {x:Str}
theorem vQ {i:Nat} {pos:Pos} (hN:X.N[i]?=some x) (hv:Vis X.env.scope x) (hd:(x==("__debug__" : Str))=false:=by decide) (hcd:(x==("__classdict__" : Str))=false:=by decide):PE X (.Name x pos) (bX i):=by
 intro pins s U H Q I h;obtain⟨v,e,h⟩:=h;obtain⟨m,hn,hl⟩:=I.loc;obtain⟨u,r,l⟩:=hl i x v hN e hv;have fin:EP X pins U Q u s:=⟨v,H,I,r,h⟩;rcases l with⟨hk,hm⟩|⟨hk,c,hc,hcell⟩
 ·exact wpAny_Name (wpAny_loadName_local I.ok.kind hk hn hm fin) hd
 rcases hk with hk|hk
 ·exact wpAny_Name (wpAny_loadName_cell I.ok.kind hk hc hcell fin) hd
 exact wpAny_Name (wpAny_loadName_free I.ok.kind hk hc hcell fin hcd) hd
theorem af {i j pos}:PE X (.Constant (.int i) j pos) (tC (.int i)):=λ_ _ _ H _ I h=>wpAny_Constant_int ⟨.int i,H,I.tok _,⟨_,rfl⟩,h⟩
theorem cz {b j pos}:PE X (.Constant (.bool b) j pos) (tC (.bl b)):=λ_ _ _ H _ I h=>Constant_bool ⟨.bl b,H,I,rfl,h⟩
theorem qN {j pos}:PE X (.Constant .none j pos) (tC .non):=λ_ _ _ H _ I h=>Constant_none ⟨.non,H,I,rfl,h⟩
theorem ax {x j pos}:PE X (.Constant (.str x) j pos) (tC (.str x)):=λ_ _ _ H _ I h=>Calls.Constant_str ⟨.str x,H,I.tok _,⟨_,rfl⟩,h⟩
def Gl (X:Cx) (x:Str):Prop:=X.env.kindOf x=some .globalImplicit
variable {Q E:B0} {u:Value} {pins:B1}
theorem nP {s:Shared} {U:St} {H:Hp} {pos:Pos} (I:Inv X pins U H s) (hg:Gl X x) (hm:X.mg x=some u) (h:Q u s)
  (hd:(x==("__debug__" : Str))=false:=by decide):wpAny (model X.prog X.w) X.A (eval (.Name x pos) X.env) Q E s :=
 Calls.Name_function_global I.ok.kind hg (Calls.loadGlobal_global (by rw[I.ok.glob];exact I.mod.glob.keeps I.bk) hm h) hd
theorem cH {s:Shared} {U:St} {H:Hp} {pos:Pos} (I:Inv X pins U H s) (hg:Gl X x) (hm:X.mg x=none) (hv:bootBuiltins x=some u) (h:Q u s)
  (hn:x ≠ "__name__" := by decide) (hd:(x==("__debug__" : Str))=false:=by decide):wpAny (model X.prog X.w) X.A (eval (.Name x pos) X.env) Q E s:=by
 obtain⟨mb,h1,h2⟩:=I.mod.blt;exact Calls.Name_function_global I.ok.kind hg (Calls.loadGlobal_builtin (by rw[I.ok.glob];exact I.mod.glob.keeps I.bk) hm (by rw[I.ok.blt];exact h1.keeps I.bk) ((h2 x hn).trans hv) h) hd
theorem eG {v:V} {pos:Pos} (hg:Gl X x) (hm:X.mg x=some u) (r:aX v u) (hd:(x==("__debug__" : Str))=false:=by decide):PE X (.Name x pos) (tC v) :=
 λ_ _ _ H _ I h=>nP I hg hm ⟨v,H,I,r,h⟩ hd
theorem bg {v:V} {pos:Pos} (hg:Gl X x) (hm:X.mg x=none) (hv:bootBuiltins x=some u) (r:aX v u) (hn:x ≠ "__name__" := by decide) (hd:(x==("__debug__" : Str))=false:=by decide):PE X (.Name x pos) (tC v) :=
 λ_ _ _ H _ I h=>cH I hg hm hv ⟨v,H,I,r,h⟩ hn hd
variable {a b:Expr} {ta tb:TE} {pos:Pos}
def PC (X:Cx) (op:CmpOp) (a b:Expr) (t:TE):Prop :=
 ∀(pins:B1) (s:Shared) (U:St) (H:Hp) (Q:VK),Inv X pins U H s->t U H Q ->
  wpAny (model X.prog X.w) X.A (eval a X.env) (λv s₁=>wpAny (model X.prog X.w) X.A (eval b X.env) (λu s₂=>wpAny (model X.prog X.w) X.A (compareOp op v u) (EP X pins U Q) X.xe s₂) X.xe s₁) X.xe s
def tB (t:TE):TT:=λU H Q=>t U H λx H1=>∃c,x=.bl c/\Q c H1
theorem vM {op:CmpOp} {t:TE} (h:PC X op a b t) (h1:behindInMarks op b=false:=by first|exact nobehind _ (by decide) (by decide)|rfl):PT X (.Compare a [op] [b] pos) (tB t):=by
 intro pins s U H Q I hw;refine wpAny_isTrue_Compare1 (thn (h pins s U H _ I hw) λv s1 h1=>thn h1 λu s2 h2=>thn h2 λc s3 ⟨x,H1,I1,r1,q1⟩=>?_) h1;obtain⟨d,rfl,q⟩:=q1;cases r1;exact Xn ⟨H1,I1,q⟩
theorem bp {e:Expr} {t:TE} (h:PE X e t) (he:∀whole,isTrue e X.env whole=(do let v <-whole;standAt e.pos;holding [v] (truthy v)):=by intro _;rfl):PT X e (tB t):=by
 intro pins s U H Q I hw;refine isTrue_plain (thn (h pins s U H _ I hw) λv s1 ⟨x,H1,I1,r1,q1⟩=>?_) (he _);obtain⟨d,rfl,q⟩:=q1;cases r1;exact Xn ⟨H1,I1,q⟩
variable {tA tB':TT} {rest:List Expr}
def wU (t u:TT):TT:=λU H Q=>t U H λc H1=>if c=true then u U H1 Q else Q false H1
def tOr (t u:TT):TT:=λU H Q=>t U H λc H1=>if c=true then Q true H1 else u U H1 Q
def vp (t:TT):TT:=λU H Q=>t U H λc H1=>Q (!c) H1
theorem fP (ha:PT X a tA):PW X (.BoolOp .And [a] pos) tA:=by
 intro wh pins s U H Q I h;refine isTrue_and (thn (ha pins s U H Q I h) λc s1 e=>?_)
 cases c with
 | true=>exact isTrue_and_nil e
 | false=>exact e
theorem bZ (ha:PT X a tA):PW X (.BoolOp .Or [a] pos) tA:=by
 intro wh pins s U H Q I h;refine isTrue_or (thn (ha pins s U H Q I h) λc s1 e=>?_)
 cases c with
 | false=>exact isTrue_or_nil e
 | true=>exact e
theorem iM (ha:PT X a tA) (hb:PW X (.BoolOp .And (b::rest) pos) tB'):PW X (.BoolOp .And (a::b::rest) pos) (wU tA tB'):=by
 intro wh pins s U H Q I h;refine isTrue_and (thn (ha pins s U H _ I h) λc s1 ⟨H1,I1,q1⟩=>?_)
 cases c with
 | true=>exact hb wh pins s1 U H1 Q I1 q1
 | false=>exact⟨H1,I1,q1⟩
theorem cF (ha:PT X a tA) (hb:PW X (.BoolOp .Or (b::rest) pos) tB'):PW X (.BoolOp .Or (a::b::rest) pos) (tOr tA tB'):=by
 intro wh pins s U H Q I h;refine isTrue_or (thn (ha pins s U H _ I h) λc s1 ⟨H1,I1,q1⟩=>?_)
 cases c with
 | true=>exact⟨H1,I1,q1⟩
 | false=>exact hb wh pins s1 U H1 Q I1 q1
theorem br (ha:PT X a tA):PT X (.UnaryOp .Not a pos) (vp tA):=by
 intro pins s U H Q I h;exact isTrue_not (ha pins s U H (λc H1=>Q (!c) H1) I h)
def uB (ta tb:TE):TE:=λU H Q=>ta U H λx H1=>∃c,x=.bl c/\if c=true then tb U H1 Q else Q (.bl false) H1
def wQ (ta tb:TE):TE:=λU H Q=>ta U H λx H1=>∃c,x=.bl c/\if c=true then Q (.bl true) H1 else tb U H1 Q
def uz (ta:TE):TE:=λU H Q=>ta U H λx H1=>∃c,x=.bl c/\Q (.bl (!c)) H1
theorem b9 {op} {t:TE} (h:PE X a t):PE X (.BoolOp op [a] pos) t:=λpins s U H Q I hw=>BoolOp_one (h pins s U H Q I hw)
theorem bW (ha:PE X a ta) (hb:PE X (.BoolOp .And (b::rest) pos) tb):PE X (.BoolOp .And (a::b::rest) pos) (uB ta tb):=by
 intro pins s U H Q I h;refine BoolOp_and (thn (ha pins s U H _ I h) λv s1 ⟨x,H1,I1,r1,q1⟩=>?_);obtain⟨c,rfl,q1⟩:=q1;cases r1;refine Xn ?_
 cases c with
 | true=>exact hb pins s1 U H1 Q I1 q1
 | false=>exact⟨.bl false,H1,I1,rfl,q1⟩
theorem w6 (ha:PE X a ta) (hb:PE X (.BoolOp .Or (b::rest) pos) tb):PE X (.BoolOp .Or (a::b::rest) pos) (wQ ta tb):=by
 intro pins s U H Q I h;refine BoolOp_or (thn (ha pins s U H _ I h) λv s1 ⟨x,H1,I1,r1,q1⟩=>?_);obtain⟨c,rfl,q1⟩:=q1;cases r1;refine Xn ?_
 cases c with
 | false=>exact hb pins s1 U H1 Q I1 q1
 | true=>exact⟨.bl true,H1,I1,rfl,q1⟩
theorem qM (ha:PE X a ta):PE X (.UnaryOp .Not a pos) (uz ta):=by
 intro pins s U H Q I h;refine UnaryOp_ (thn (ha pins s U H _ I h) λv s1 ⟨x,H1,I1,r1,q1⟩=>?_);obtain⟨c,rfl,q1⟩:=q1;cases r1;exact not_of (Xn ⟨.bl (!c),H1,I1,rfl,q1⟩)
def tIf (t:TT) (ta tb:TE):TE:=λU H Q=>t U H λc H1=>if c=true then ta U H1 Q else tb U H1 Q
theorem eE {c:Expr} (hc:PT X c tA) (ha:PE X a ta) (hb:PE X b tb):PE X (.IfExp c a b pos) (tIf tA ta tb):=by
 intro pins s U H Q I h;refine wpAny_IfExp (thn (hc pins s U H _ I h) λd s1 ⟨H1,I1,q1⟩=>?_)
 cases d with
 | true=>exact ha pins s1 U H1 Q I1 q1
 | false=>exact hb pins s1 U H1 Q I1 q1
end
def SqL (K:PySem.W.Frag) (H:Hp) (a:Addr) (xs:List V):Prop :=
 Rd H a (.lst xs) \/
  ∃(o:Obj) (its:Array Value) (n:Nat),K.lookup a=some o/\o.cls=.type "list" /\ o.dict=none/\o.data=.seq its n/\its.size<=sizeLine/\aI xs its.toList
def SqT (K:PySem.W.Frag) (H:Hp) (a:Addr) (xs:List V):Prop :=
 Rd H a (.tup xs) \/
  ∃(o:Obj) (its:Array Value) (n:Nat),K.lookup a=some o/\o.cls=.type "tuple" /\ o.data=.seq its n/\its.size<=sizeLine/\aI xs its.toList
noncomputable def Bn:Value->Option V
 | .none=>some .non
 | .bool b=>some (.bl b)
 | .int i _=>some (.int i)
 | .str x _=>some (.str x)
 | .bytes b _=>some (.byt b)
 | .float b _=>some (.flt b)
 | .ref a=>some (.ref a)
 | .type n=>some (.ty n)
 | _=>none
theorem aX.abs {x:V} (r:aX x u):Bn u=some x:=by
 cases x with
 | non=>cases r;rfl
 | bl _=>cases r;rfl
 | int _=>obtain⟨t,rfl⟩:=r;rfl
 | str _=>obtain⟨t,rfl⟩:=r;rfl
 | byt _=>obtain⟨t,rfl⟩:=r;rfl
 | flt _=>obtain⟨t,rfl⟩:=r;rfl
 | ref _=>cases r;rfl
 | ty _=>cases r;rfl
theorem aX.inj {x y:V} (r:aX x u) (q:aX y u):x=y:=QL (r.abs.symm.trans q.abs)
theorem aI.inj:∀{xs ys:List V} {us:List Value},aI xs us->aI ys us->xs=ys
 | _,_,_,.nil,.nil=>rfl
 | _,_,_,.cons r t,.cons r' t'=>by rw[r.inj r',aI.inj t t']
section
variable {X:Cx} {pins:B1} {U:St} {H:Hp} {s:Shared} {a:Addr} {xs ys:List V}
theorem SqL.of {K:PySem.W.Frag} (h:H a=some (.lst xs)):SqL K H a xs:=.inl (.inl h)
theorem SqT.of {K:PySem.W.Frag} (h:H a=some (.tup xs)):SqT K H a xs:=.inl (.inl h)
theorem Inv.list (I:Inv X pins U H s) (h:SqL X.K H a xs):∃its:List Value,aI xs its/\PlainL s.heap a its.toArray/\xs.length<=sizeLine:=by
 rcases h with h|⟨o,its,n,hk,hc,hd,hs,hz,r⟩
 ·obtain⟨z,its,n,r,e⟩:=h.ok I.hok;exact⟨its,r,⟨_,n,e,rfl,rfl,rfl⟩,z⟩
 refine⟨its.toList,r,⟨o,n,I.kIn a o hk,hc,hd,by simpa using hs⟩,?_⟩;have e:=r.length;simp only[Qe]at e;omega
theorem Inv.tuple (I:Inv X pins U H s) (h:SqT X.K H a xs):∃its:List Value,aI xs its/\IsTup s.heap a its.toArray/\xs.length<=sizeLine:=by
 rcases h with h|⟨o,its,n,hk,hc,hs,hz,r⟩
 ·obtain⟨z,its,r,p⟩:=h.ok I.hok;exact⟨its,r,p,z⟩
 refine⟨its.toList,r,⟨o,I.kIn a o hk,hc,n,by simpa using hs⟩,?_⟩;have e:=r.length;simp only[Qe]at e;omega
theorem Inv.list_inj (I:Inv X pins U H s) (h:SqL X.K H a xs) (h':SqL X.K H a ys):xs=ys:=by
 obtain⟨its,r,⟨o,n,e,_,_,d⟩,_⟩:=I.list h;obtain⟨its',r',⟨o',n',e',_,_,d'⟩,_⟩:=I.list h';rw[e]at e';cases e';rw[d]at d';injection d' with d1 _;have:its=its':=by simpa using congrArg Array.toList d1
 subst this;exact r.inj r'
theorem Inv.tuple_inj (I:Inv X pins U H s) (h:SqT X.K H a xs) (h':SqT X.K H a ys):xs=ys:=by
 obtain⟨its,r,⟨o,e,_,n,d⟩,_⟩:=I.tuple h;obtain⟨its',r',⟨o',e',_,n',d'⟩,_⟩:=I.tuple h';rw[e]at e';cases e';rw[d]at d';injection d' with d1 _;have:its=its':=by simpa using congrArg Array.toList d1
 subst this;exact r.inj r'
end
abbrev Cx.wish (X:Cx) (E:B0):Cx:={ X with xe:=E }
abbrev Cx.nox (X:Cx):Cx:=X.wish λ_ _=>False
theorem Cx.Ok.wish (ok:X.Ok) (E:B0):(X.wish E).Ok :=
 ⟨ok.mod,ok.kind,ok.glob,ok.blt,ok.above,ok.inj,ok.has,ok.cab,ok.hd,ok.frames,ok.stk,ok.exf,ok.bs,ok.bsz,ok.noex,ok.exfs,ok.funs,ok.frf⟩
theorem Cx.Ok.unwish (ok:(X.wish E).Ok):X.Ok :=
 ⟨ok.mod,ok.kind,ok.glob,ok.blt,ok.above,ok.inj,ok.has,ok.cab,ok.hd,ok.frames,ok.stk,ok.exf,ok.bs,ok.bsz,ok.noex,ok.exfs,ok.funs,ok.frf⟩
section
variable {X:Cx} {pins:B1} {U:St} {H:Hp} {s:Shared} {E:B0}
theorem Inv.wish (I:Inv X pins U H s) (E:B0):Inv (X.wish E) pins U H s:=⟨I.ok.wish E,I.os,I.bare,I.base,I.loc,I.cell,I.free,I.freeC,I.pin,I.hok,I.len⟩
theorem Inv.unwish (I:Inv (X.wish E) pins U H s):Inv X pins U H s:=⟨I.ok.unwish,I.os,I.bare,I.base,I.loc,I.cell,I.free,I.freeC,I.pin,I.hok,I.len⟩
theorem SP.unwish {D:Ends} {f:Flow} {s':Shared} (h:SP (X.wish E) pins D f s'):SP X pins D f s':=by
 cases f with
 | next=>obtain⟨σ',H',I,q⟩:=h;exact⟨σ',H',I.unwish,q⟩
 | brk=>obtain⟨σ',H',I,q⟩:=h;exact⟨σ',H',I.unwish,q⟩
 | cont=>obtain⟨σ',H',I,q⟩:=h;exact⟨σ',H',I.unwish,q⟩
 | ret u=>obtain⟨v,σ',H',I,r,q⟩:=h;exact⟨v,σ',H',I.unwish,r,q⟩
theorem PSs.nox {st:List Stmt} {t:TS} (h:PSs X.nox st t):PSs X st t:=λpins s U H D I hw =>
 XQ (h pins s U H D (I.wish _) hw) (λ_ _ q=>q.unwish) λ_ _ z=>False.elim z
end
section
variable {X:Cx} {st:Stmt} {rest:List Stmt} {t u:TS} {e:Expr} {te:TE} {pos:Pos}
def p_:TS:=λD U H=>D.nx U H
def jF (t u:TS):TS:=λD U H=>t { D with nx:=u D } U H
theorem pss_nil:PSs X [] p_:=λ_ _ U H _ I h=>wpAny_execs_nil ⟨U,H,I,h⟩
theorem pss_cons (h1:PS X st t) (h2:PSs X rest u):PSs X (st::rest) (jF t u):=by
 intro pins s U H D I h;refine wpAny_execs_cons (thn (h1 pins s U H { D with nx:=u D } I h) λf s1 q=>?_)
 cases f with
 | next =>
  obtain⟨σ',H',I',q⟩:=q;exact h2 pins s1 σ' H' D I' q
 | ret v=>exact q
 | brk=>exact q
 | cont=>exact q
theorem aK (h1:PS X st t):PSs X [st] t:=by
 intro pins s U H D I h;refine wpAny_execs_cons (thn (h1 pins s U H D I h) λf s1 q=>?_)
 cases f with
 | next=>exact wpAny_execs_nil q
 | ret v=>exact q
 | brk=>exact q
 | cont=>exact q
theorem Inv.quiet {pins:B1} {U:St} {H:Hp} {s:Shared} (I:Inv X pins U H s):interactive X.env=false:=by simp[interactive,I.ok.kind]
def qi (te:TE):TS:=λD U H=>te U H λ_ H1=>D.nx U H1
theorem cJ (he:PE X e te) (hs:swapsWith e none pos.line X.env=pure false:=by rfl):PS X (.Expr e pos) (qi te):=by
 intro pins s U H D I h;exact wpAny_Expr_any (thn (he pins s U H _ I h) λv s1 ⟨x,H1,I1,r1,q1⟩=>⟨U,H1,I1,q1⟩) I.quiet hs
def p8 (te:TE):TS:=λD U H=>te U H D.rt
theorem aA (he:PE X e te):PS X (.Return (some e) pos) (p8 te):=by
 intro pins s U H D I h;exact wpAny_Return_some (thn (he pins s U H _ I h) λv s1 ⟨x,H1,I1,r1,q1⟩=>⟨x,U,H1,I1,r1,q1⟩)
def vv (c:TT) (t u:TS):TS:=λD U H=>c U H λb H1=>if b=true then t D U H1 else u D U H1
theorem ps_if {c:Expr} {a b:List Stmt} {tc:TT} (hc:PT X c tc) (ha:PSs X a t) (hb:PSs X b u):PS X (.If c a b pos) (vv tc t u):=by
 intro pins s U H D I h;refine wpAny_If (thn (hc pins s U H _ I h) λd s1 ⟨H1,I1,q1⟩=>?_)
 cases d with
 | true=>exact ha pins s1 U H1 D I1 q1
 | false=>exact hb pins s1 U H1 D I1 q1
def vq:TS:=λ_ _ _=>False
theorem e9 {sts:List Stmt}:PSs X sts vq:=λ_ _ _ _ _ _ h=>h.elim
end
abbrev TG:=V->St->Hp->(St->Hp->Prop)->Prop
abbrev TGs:=List V->St->Hp->(St->Hp->Prop)->Prop
def PG (X:Cx) (target:Expr) (t:TG):Prop :=
 ∀(pins:B1) (s:Shared) (U:St) (H:Hp) (v:V) (u:Value) (Q:St->Hp->Prop),Inv X pins U H s->aX v u->t v U H Q ->
  wpAny (model X.prog X.w) X.A (assign target X.env u) (λ_ s'=>∃σ' H',Inv X pins σ' H' s'/\Q σ' H') X.xe s
def PGs (X:Cx) (ts:List Expr) (t:TGs):Prop :=
 ∀(pins:B1) (s:Shared) (U:St) (H:Hp) (vs:List V) (us:List Value) (Q:St->Hp->Prop),Inv X pins U H s->aI vs us->t vs U H Q ->
  wpAny (model X.prog X.w) X.A (assignInOrder ((assignEach ts X.env).map (·.2)) us) (λ_ s'=>∃σ' H',Inv X pins σ' H' s'/\Q σ' H') X.xe s
abbrev ut:=V->V->V->Hp->(Hp->Prop)->Prop
def An (X:Cx) (t:ut):Prop :=
 ∀(pins:B1) (s:Shared) (U:St) (H:Hp) (o i v:V) (ov iv u:Value) (Q:Hp->Prop),Inv X pins U H s->aX o ov->aX i iv->aX v u->t o i v H Q ->
  wpAny (model X.prog X.w) X.A (setItem ov iv u) (λ_ s'=>∃H',Inv X pins U H' s'/\Q H') X.xe s
section
variable {X:Cx} {pos:Pos}
def df (i:Nat):TG:=λv U H Q=>Q (U.set i (some v)) H
variable {x:Str}
theorem cK {i:Nat} (hN:X.N.Nodup) (hi:X.N[i]?=some x) (hx:Loc X.env.scope x) (hf:X.fn x=true\/X.env.scope.names.lookup x=some .local:=by z_go):PG X (.Name x pos) (df i):=by
 intro pins s U H v u Q I r h;exact wpAny_assign_Name (jI I hN hi hx r (λs' I'=>⟨_,H,I',h⟩) hf)
theorem de (i:Nat) (hN:X.N.Nodup) (hi:X.N[i]?=some x:=by rfl) (hx:Loc X.env.scope x:=by z_go) (hf:X.fn x=true\/X.env.scope.names.lookup x=some .local:=by z_go):PG X (.Name x pos) (df i):=cK hN hi hx hf
def Bl:TGs:=λvs U H Q=>vs=[]/\Q U H
def Ah (t:TG) (u:TGs):TGs:=λvs U H Q=>∃v r,vs=v::r/\t v U H λσ' H'=>u r σ' H' Q
theorem iN:PGs X [] Bl:=by
 intro pins s U H vs us Q I r h;obtain⟨e,h⟩:=h;subst e;cases r;exact assignInOrder_nil ⟨U,H,I,h⟩
variable {e o i tg:Expr}
theorem cG {es:List Expr} {t:TG} {u:TGs} (h1:PG X e t) (h2:PGs X es u)
  (hs:(assignEach (e::es) X.env).map (·.2)=assign e X.env::(assignEach es X.env).map (·.2):=by rfl):PGs X (e::es) (Ah t u):=by
 intro pins s U H vs us Q I r h;obtain⟨v,vr,e1,h⟩:=h;subst e1
 cases r with
 | cons r rr =>
 rw[hs];refine assignInOrder_cons (thn (h1 pins s U H _ _ _ I r h) λ_ s1 ⟨σ1,H1,I1,q1⟩=>?_);exact h2 pins s1 σ1 H1 _ _ Q I1 rr q1
def Af (K:PySem.W.Frag) (n:Nat) (t:TGs):TG:=λv U H Q=>∃a xs,v=.ref a/\SqT K H a xs/\xs.length=n/\t xs U H Q
theorem lW {es:List Expr} {k:Nat} {t:TGs} {n:Nat} (hc:X.calm=true) (h:PGs X es t)
  (hn:(assignEach es X.env).length=n:=by rfl) (hst:(assignEach es X.env).findIdx? (·.1)=none:=by rfl):PG X (.Tuple es k pos) (Af X.K n t):=by
 intro pins s U H v u Q I r hw;obtain⟨a,xs,e1,hq,hl,hw⟩:=hw;subst e1;cases r;obtain⟨its,rv,ht,hz⟩:=I.tuple hq;refine assign_Tuple_tuple (I.ok.hd hc) ht (by simp[hn,<-hl,rv.length]) hst λh' hx=>?_;have I1:Inv X pins U H { s with heap:=h' }:=I.kept (t':=s.toks) λb o e=>hx b o (QF (Qs e)) e;exact h pins _ U H xs _ Q I1 (by simpa using rv) hw
def Ag (to ti:TE) (t:ut):TG:=λv U H Q=>to U H λo H1=>ti U H1 λi H2=>t o i v H2 λH3=>Q U H3
variable {to ti te:TE}
theorem vP {t:ut} (ho:PE X o to) (hi:PE X i ti) (hs:An X t)
  (ha:∀v,assign (.Subscript o i pos) X.env v=(do
   let ov <-holding [v] (eval o X.env);let iv <-holding [v,ov] (eval i X.env)
   standAt pos
   holding [v,ov,iv] (setItem ov iv v)
   release [v,ov,iv] []):=by intro _;rfl):PG X (.Subscript o i pos) (Ag to ti t):=by
 intro pins s U H v u Q I r h;rw[ha];refine Qa (Xm (thn (ho pins s U H _ I h) λov s1 ⟨x,H1,I1,r1,q1⟩=>?_));refine Qa (Xm (thn (hi pins s1 U H1 _ I1 q1) λiv s2 ⟨y,H2,I2,r2,q2⟩=>?_));refine Qa (wpAny_standAt (Qa (Xm (thn (hs pins s2 U H2 x y v ov iv u _ I2 r1 r2 r q2) λ_ s3 ⟨H3,I3,q3⟩=>?_))));exact wpAny_release ⟨U,H3,I3,q3⟩
def lI (te:TE) (g:TG):TS:=λD U H=>te U H λx H1=>g x U H1 D.nx
theorem qJ {g:TG} (he:PE X e te) (hg:PG X tg g) (hs:swapsWithSole [tg] e pos.line X.env=pure false:=by rfl) (hw:swappedStores [tg] e X.env=pure none:=by rfl)
  (h1:(assignEach [tg] X.env).map (·.2)=[assign tg X.env]:=by rfl):PS X (.Assign [tg] e pos) (lI te g):=by
 intro pins s U H D I h;refine wpAny_Assign_stores (thn (he pins s U H _ I h) λv s1 ⟨x,H1,I1,r1,q1⟩=>?_) hs hw;rw[h1];exact thn (hg pins s1 U H1 x v _ I1 r1 q1) λ_ s2 q=>q
theorem qH {i:Nat} {pos':Pos} (hN:X.N.Nodup) (hi:X.N[i]?=some x) (hx:Loc X.env.scope x) (he:PE X e te) (hs:swapsWith e (some (.Name x pos')) pos.line X.env=pure false:=by rfl) (hf:X.fn x=true\/X.env.scope.names.lookup x=some .local:=by z_go) :
  PS X (.Assign [.Name x pos'] e pos) (lI te (df i)):=by
 intro pins s U H D I h;refine wpAny_Assign_Name (thn (he pins s U H _ I h) λv s1 ⟨y,H1,I1,r1,q1⟩=>?_) hs;exact jI I1 hN hi hx r1 (λs2 I2=>⟨_,H1,I2,q1⟩) hf
theorem bo {pos':Pos} (i:Nat) (hN:X.N.Nodup) (he:PE X e te) (hi:X.N[i]?=some x:=by rfl) (hx:Loc X.env.scope x:=by z_go) (hs:swapsWith e (some (.Name x pos')) pos.line X.env=pure false:=by rfl) (hf:X.fn x=true\/X.env.scope.names.lookup x=some .local:=by z_go):PS X (.Assign [.Name x pos'] e pos) (lI te (df i)):=qH hN hi hx he hs hf
end
section
variable {X:Cx} {pos:Pos}
def vn (c:TT) (tb:TS):TS:=λD U H=>∃W:Nat->St->Hp->Prop,(∃m,W m U H)/\∀m U H,W m U H ->
 c U H λb H1=>if b=true then ∃N:St->Hp->Prop,(∀σ' H',N σ' H'->∃m',m'<m/\W m' σ' H')/\tb { D with nx:=N,ct:=N,bk:=D.nx } U H1 else D.nx U H1
theorem qG {c:Expr} {body:List Stmt} {tc:TT} {tb:TS} (hp:PassesOwn (model X.prog X.w) X.A X.env X.xe) (hc:PT X c tc) (hb:PSs X body tb):PS X (.While c body [] pos) (vn tc tb):=by
 intro pins s U H D I h;obtain⟨W,⟨m0,w0⟩,turn⟩:=h;refine wpAny_While (codeAny_whileLoop (λn s'=>∃σ' H',Inv X pins σ' H' s'/\W n σ' H') ?_ m0 ⟨U,H,I,w0⟩);rintro n s1 ⟨σ1,H1,I1,w1⟩;refine wpAny_passesOwn hp (thn (hc pins s1 σ1 H1 _ I1 (turn n σ1 H1 w1)) λb s2 ⟨H2,I2,q2⟩=>?_)
 cases b with
 | true =>
  obtain⟨N,hN,q2⟩:=q2;rw[Qu rfl];refine wpAny_passesOwn hp (thn (hb pins s2 σ1 H2 _ I2 q2) λf s3 q3=>?_)
  cases f with
  | next =>
   obtain⟨σ3,H3,I3,n3⟩:=q3;obtain⟨m',hm,w3⟩:=hN σ3 H3 n3;exact⟨m',hm,σ3,H3,I3,w3⟩
  | cont =>
   obtain⟨σ3,H3,I3,n3⟩:=q3;obtain⟨m',hm,w3⟩:=hN σ3 H3 n3;exact⟨m',hm,σ3,H3,I3,w3⟩
  | brk=>exact q3
  | ret v=>exact q3
 | false =>
 rw[Qt Qh];exact wpAny_execs_nil ⟨σ1,H2,I2,q2⟩
end
structure It where
 go:Nat->Hp->Prop
 yld:Nat->Hp->V->Hp->Prop
 stop:Nat->Hp->Prop
def fv (X:Cx) (pins:B1) (H:Hp) (b:Addr):Prop :=
 H b=none/\b≠X.env.locals/\b∉X.fs/\(b∈X.ex\/X.s₀.heap.objs.size<=b)/\(∀x c,X.env.cells.lookup x=some c->c≠b)/\∀p∈X.pn++pins,p.1≠b
theorem Inv.fpOk {pins:B1} {U:St} (I:Inv X pins U H s) (hb:s.heap.objs.size<=b) (hn:H' b=none):fv X pins H' b:=by
 refine⟨hn,Nat.ne_of_gt (QS I.lt hb),I.nofs hb,.inr (QO I.sz hb),λx c e z=>?_,λp hp z=>?_⟩
 ·obtain⟨v,q⟩:=I.cell x c e;exact absurd (QS q.lt (by rw[z];exact hb)) (Nat.lt_irrefl _)
 exact absurd (QS (Qs (I.pin p hp).1) (by rw[z];exact hb)) (Nat.lt_irrefl _)
structure Turn (P:Program) (w:World) (K:PySem.W.Frag) (tg:Expr) (J:It) (fp:B3) (it:Addr) (tn:Nat->Heap->Prop):Prop where
 mem:it∈fp
 obj:∀i h,tn i h->∀b∈fp,∃o,h.get? b=some o/\∀v,o.data≠.cell v
 keep:∀i h h',tn i h->(∀b∈fp,∀o,h.get? b=some o->h'.get? b=some o)->tn i h'
 item:∀(X:Cx),X.prog=P->X.w=w->X.K=K->X.calm=true->∀(i:Nat) (pins:B1) (s:Shared) (U:St) (H:Hp) (E:B0),Inv X pins U H s->(∀b∈fp,fv X pins H b)->tn i s.heap->J.go i H ->
  wpAny (model P w) X.A (pyNext (.ref it)) (λr s1=>∃u,r=some u /\
   wpAny (model P w) X.A (letOwnedTupleGo tg (.ref it) u) (λ_ s2=>∃x H',Inv X pins U H' s2/\aX x u/\J.yld i H x H'/\tn (i+1) s2.heap/\∀b∈fp,H' b=none) E s1) E s
 done:∀(X:Cx),X.prog=P->X.w=w->X.K=K->X.calm=true->∀(i:Nat) (pins:B1) (s:Shared) (U:St) (H:Hp) (E:B0),Inv X pins U H s->(∀b∈fp,fv X pins H b)->tn i s.heap->J.stop i H ->
  wpAny (model P w) X.A (pyNext (.ref it)) (λr s1=>r=none/\Inv X pins U H s1) E s
 self:∀(A:Around) (i:Nat) (s:Shared) (Q:B0) (E:B0),tn i s.heap->Q (.ref it) s->wpAny (model P w) A (pyIter (.ref it)) Q E s
abbrev TI:=St->Hp->(It->Hp->Prop)->Prop
def PIE (X:Cx) (pins:B1) (U:St) (tg:Expr) (R:It->Hp->Prop) (itv:Value) (s2:Shared):Prop :=
 ∃(it:Addr) (fp:B3) (tn:Nat->Heap->Prop) (J:It) (H':Hp),itv=.ref it/\Inv X pins U H' s2/\Turn X.prog X.w X.K tg J fp it tn/\tn 0 s2.heap/\(∀b∈fp,fv X pins H' b)/\R J H'
def PI (X:Cx) (tg iter:Expr) (wi:TI):Prop :=
 ∀(pins:B1) (s:Shared) (U:St) (H:Hp) (R:It->Hp->Prop),Inv X pins U H s->wi U H R ->
  wpAny (model X.prog X.w) X.A (eval iter X.env) (λv s1=>wpAny (model X.prog X.w) X.A (pyIter v) (PIE X pins U tg R) X.xe s1) X.xe s
theorem nV {M:Model} {s:Shared} {o:Obj} {n:String} {vs:Array Value} {Q:Unit->Shared->Prop} (ho:s.heap.get? it=some o) (hc:o.cls=.type n) (hd:o.data=.fields vs)
  (hn:["enumerate", "zip", "dict_itemiterator", "dict_reverseitemiterator", "odict_iterator", "itertools.zip_longest", "itertools.pairwise"].contains n=false) (hQ:Q () s):wpAny M A (letOwnedTupleGo tg (.ref it) u) Q E s:=by
 unfold letOwnedTupleGo
 cases tg <;> first
  | exact Qf hQ
  | (cases u <;> first
    | exact Qf hQ
    |(refine Qa (wpAny_load ho ?_)
      rw[hc,hd];show wpAny M A (if (["enumerate", "zip", "dict_itemiterator", "dict_reverseitemiterator", "odict_iterator", "itertools.zip_longest", "itertools.pairwise"].contains n&&vs[0]?==some (rawInt _))=true then _ else _) Q E s;rw[Qt (by intro h;rw[hn,Bool.false_and]at h;cases h)]
      exact Qf hQ))
def Itl (K:PySem.W.Frag) (a:Addr):It :=
 ⟨λi H=>∃xs x,SqL K H a xs/\xs[i]?=some x,λi H x H'=>H'=H/\∀xs,SqL K H a xs->xs[i]?=some x,λi H=>∃xs,SqL K H a xs/\xs.length<=i⟩
def Itt (K:PySem.W.Frag) (a:Addr):It :=
 ⟨λi H=>∃xs x,SqT K H a xs/\xs[i]?=some x,λi H x H'=>H'=H/\∀xs,SqT K H a xs->xs[i]?=some x,λi H=>∃xs,SqT K H a xs/\xs.length<=i⟩
def Itr (lo:Int) (n:Nat):It:=⟨λi _=>i<n,λi H x H'=>H'=H/\x=.int (lo+i),λi _=>n<=i⟩
theorem oD {P:Program} {w:World} {K:PySem.W.Frag} (a it:Addr):Turn P w K tg (Itl K a) [it] it (λi h=>h.IsListIter it a i) where
 mem:=by simp
 obj:=λi h st b hb=>by
  have e:b=it:=by simpa using hb
  subst e;obtain⟨o,e,c,d⟩:=st;exact⟨o,e,λv z=>by rw[d]at z;cases z⟩
 keep:=λi h h' st k=>st.at λo e=>k it (by simp) o e
 item:=by
  intro X hP hw hK hc i pins s U H E I hf st hg;subst hP hw hK;obtain⟨xs,x,hq,hx⟩:=hg;obtain⟨its,rv,p,hz⟩:=I.list hq;obtain⟨u,hu,ru⟩:=rv.get hx;obtain⟨f0,f1,f2,f3,f4,f5⟩:=hf it (by simp);refine wpAny_pyNext_list_item st p.isList (x:=u) (by simpa using hu) λh' st' sb=>?_;have I1:Inv X pins U H { s with heap:=h' }:=I.turned (t':=s.toks) (λb o hb e=>(sb.2 b hb).trans e) f0 f1 f3 f4 f5;obtain⟨o,e,c,d⟩:=id st';exact⟨u,rfl,nV (s:={ s with heap:=h' }) e c d (by decide) ⟨x,H,I1,ru,⟨rfl,λys hy=>by rw[I.list_inj hy hq];exact hx⟩,st',λb hb=>(hf b hb).1⟩⟩
 done:=by
  intro X hP hw hK hc i pins s U H E I hf st hg;subst hP hw hK;obtain⟨xs,hq,hx⟩:=hg;obtain⟨its,rv,p,hz⟩:=I.list hq;obtain⟨f0,f1,f2,f3,f4,f5⟩:=hf it (by simp);have hl:=rv.length;exact wpAny_pyNext_list_end (I.ok.hd hc) st p.isList (by simp;omega) λh' eb=>⟨rfl,I.turned (t':=s.toks) (λb o hb e=>eb b o hb e) f0 f1 f3 f4 f5⟩
 self:=λ_ _ _ _ _ st h=>wpAny_pyIter_listiter st h
theorem lD {P:Program} {w:World} {K:PySem.W.Frag} (a it:Addr):Turn P w K tg (Itt K a) [it] it (λi h=>h.IsTupleIter it a i) where
 mem:=by simp
 obj:=λi h st b hb=>by
  have e:b=it:=by simpa using hb
  subst e;obtain⟨o,e,c,d⟩:=st;exact⟨o,e,λv z=>by rw[d]at z;cases z⟩
 keep:=λi h h' st k=>st.at λo e=>k it (by simp) o e
 item:=by
  intro X hP hw hK hc i pins s U H E I hf st hg;subst hP hw hK;obtain⟨xs,x,hq,hx⟩:=hg;obtain⟨its,rv,p,hz⟩:=I.tuple hq;obtain⟨u,hu,ru⟩:=rv.get hx;obtain⟨f0,f1,f2,f3,f4,f5⟩:=hf it (by simp);refine wpAny_pyNext_tuple_item st (show s.heap.IsTuple a its.toArray from p) (x:=u) (by simpa using hu) λh' st' sb=>?_;have I1:Inv X pins U H { s with heap:=h' }:=I.turned (t':=s.toks) (λb o hb e=>(sb.2 b hb).trans e) f0 f1 f3 f4 f5;obtain⟨o,e,c,d⟩:=id st';exact⟨u,rfl,nV (s:={ s with heap:=h' }) e c d (by decide) ⟨x,H,I1,ru,⟨rfl,λys hy=>by rw[I.tuple_inj hy hq];exact hx⟩,st',λb hb=>(hf b hb).1⟩⟩
 done:=by
  intro X hP hw hK hc i pins s U H E I hf st hg;subst hP hw hK;obtain⟨xs,hq,hx⟩:=hg;obtain⟨its,rv,p,hz⟩:=I.tuple hq;obtain⟨f0,f1,f2,f3,f4,f5⟩:=hf it (by simp);have hl:=rv.length;exact wpAny_pyNext_tuple_end (I.ok.hd hc) st (show s.heap.IsTuple a its.toArray from p) (by simp;omega) λh' eb=>⟨rfl,I.turned (t':=s.toks) (λb o hb e=>eb b o hb e) f0 f1 f3 f4 f5⟩
 self:=λ_ _ _ _ _ st h=>wpAny_pyIter_tupleiter st h
theorem lE {P:Program} {w:World} {K:PySem.W.Frag} (it:Addr) (lo:Int) (n:Nat):Turn P w K tg (Itr lo n) [it] it (λi h=>IsRangeIter h it (lo+(i:Nat)*1) ((n:Int)-(i:Nat)) 1) where
 mem:=by simp
 obj:=λi h st b hb=>by
  have e:b=it:=by simpa using hb
  subst e
  exact⟨_,st,λv z=>by
   have z':Data.fields _=Data.cell v:=z
   cases z'⟩
 keep:=λi h h' st k=>k it (by simp) _ st
 item:=by
  intro X hP hw hK hc i pins s U H E I hf st hg;subst hP hw hK;obtain⟨f0,f1,f2,f3,f4,f5⟩:=hf it (by simp);have W:=Walks.range (prog:=X.prog) (w:=X.w) (I.ok.hd hc) it lo 1 n;refine W.item i s _ _ hg st λv h' tk hv st' kk=>?_;obtain⟨t,rfl⟩:=hv;have I1:Inv X pins U H { s with heap:=h',toks:=tk }:=I.turned (λb o hb e=>kk b o (by simpa using hb) e) f0 f1 f3 f4 f5;refine⟨_,rfl,nV (s:={ s with heap:=h',toks:=tk }) (n := "range_iterator") st' rfl rfl (by decide) ⟨.int (lo+i),H,I1,⟨t,?_⟩,⟨rfl,rfl⟩,st',λb hb=>(hf b hb).1⟩⟩;rw[Int.mul_one]
 done:=by
  intro X hP hw hK hc i pins s U H E I hf st hg;subst hP hw hK;obtain⟨f0,f1,f2,f3,f4,f5⟩:=hf it (by simp);exact wpAny_pyNext_range_end (I.ok.hd hc) st (by have:n<=i:=hg;omega) λh' eb=>⟨rfl,I.turned (t':=s.toks) (λb o hb e=>eb b o hb e) f0 f1 f3 f4 f5⟩
 self:=λ_ _ _ _ _ st h=>wpAny_pyIter_rangeiter st h
section
variable {X:Cx} {tg:Expr}
def u5 (K:PySem.W.Frag) (tl:TE):TI:=λU H R=>tl U H λx H1=>∃a,x=.ref a/\(∃xs,SqL K H1 a xs)/\R (Itl K a) H1
def Ad (K:PySem.W.Frag) (tl:TE):TI:=λU H R=>tl U H λx H1=>∃a,x=.ref a/\(∃xs,SqT K H1 a xs)/\R (Itt K a) H1
variable {l a:Expr}
theorem cC {tl:TE} (hl:PE X l tl):PI X tg l (u5 X.K tl):=by
 intro pins s U H R I h;refine thn (hl pins s U H _ I h) λv s1 ⟨x,H1,I1,r1,q1⟩=>?_;obtain⟨a,e,⟨xs,hq⟩,q⟩:=q1;subst e;cases r1;obtain⟨its,rv,p,hz⟩:=I1.list hq;refine wpAny_pyIter_list p.isList ?_;refine⟨s1.heap.objs.size,[s1.heap.objs.size],_,_,H1,rfl,I1.kept (t':=s1.toks) λb o e=>Qd _ e,oD a _,⟨_,Qv _ rfl,rfl,rfl⟩,λb hb=>?_,q⟩;have e:b=s1.heap.objs.size:=by simpa using hb
 subst e;exact I1.fpOk (Qi _) (I1.hok.fresh (Qi _))
theorem vO {tl:TE} (hl:PE X l tl):PI X tg l (Ad X.K tl):=by
 intro pins s U H R I h;refine thn (hl pins s U H _ I h) λv s1 ⟨x,H1,I1,r1,q1⟩=>?_;obtain⟨a,e,⟨xs,hq⟩,q⟩:=q1;subst e;cases r1;obtain⟨its,rv,p,hz⟩:=I1.tuple hq;refine wpAny_pyIter_tuple (show s1.heap.IsTuple a its.toArray from p) ?_;refine⟨s1.heap.objs.size,[s1.heap.objs.size],_,_,H1,rfl,I1.kept (t':=s1.toks) λb o e=>Qd _ e,lD a _,⟨_,Qv _ rfl,rfl,rfl⟩,λb hb=>?_,q⟩;have e:b=s1.heap.objs.size:=by simpa using hb
 subst e;exact I1.fpOk (Qi _) (I1.hok.fresh (Qi _))
variable {s:Shared} {pins pl:B1}
theorem j7 {U:St} {H:Hp} {R:It->Hp->Prop} {E:B0} {lo hi:Int} {t u v:Tok} {tk:Nat} (I:Inv X pins U H s) (h1:-(2 ^ 62)<=lo) (h2:lo<2 ^ 62) (h3:-(2 ^ 62)<=hi) (h4:hi<2 ^ 62)
  (q:R (Itr lo (hi-lo).toNat) H):wpAny (model X.prog X.w) X.A (pyIter (.ref s.heap.objs.size)) (PIE X pins U tg R) E { s with heap:=s.heap.push { cls:=.type "range", data:=.fields #[.int lo t,.int hi u,.int 1 v] },toks:=tk }:=by
 refine wpAny_pyIter_range (IsRange.new ..) (small_one h1 h2 h3 h4) ?_;have I1:Inv X pins U H { s with heap:=s.heap.push { cls:=.type "range", data:=.fields #[.int lo t,.int hi u,.int 1 v] },toks:=tk }:=I.kept λb o e=>Qd _ e
 refine⟨(s.heap.push { cls:=.type "range", data:=.fields #[.int lo t,.int hi u,.int 1 v] }).objs.size,[(s.heap.push { cls:=.type "range", data:=.fields #[.int lo t,.int hi u,.int 1 v] }).objs.size],_,_,H,rfl,
  I1.kept (t':=tk) λb o e=>Qd _ e,lE _ lo (hi-lo).toNat,?_,λb hb=>?_,q⟩
 ·have e1:lo+((0:Nat):Int)*1=lo:=by simp
  have e2:(((hi-lo).toNat:Nat):Int)-((0:Nat):Int)=Builtin.Range.rangeSize lo hi 1:=by rw[rangeSize_one];split <;> omega
  show IsRangeIter _ _ (lo+((0:Nat):Int)*1) ((((hi-lo).toNat:Nat):Int)-((0:Nat):Int)) 1;rw[e1,e2];exact Qv _ rfl
 have e:b=(s.heap.push { cls:=.type "range", data:=.fields #[.int lo t,.int hi u,.int 1 v] }).objs.size:=by simpa using hb
 subst e;exact I1.fpOk (Qi _) (I1.hok.fresh (Qi _))
def se (ta:TA):TI:=λU H R=>ta U H λvs H1=>∃j:Int,vs=[.int j]/\-(2 ^ 62)<=j/\j<2 ^ 62/\R (Itr 0 j.toNat) H1
def u4 (ta:TA):TI:=λU H R=>ta U H λvs H1=>∃i j:Int,vs=[.int i,.int j]/\(-(2 ^ 62)<=i/\i<2 ^ 62/\-(2 ^ 62)<=j/\j<2 ^ 62)/\R (Itr i (j-i).toNat) H1
theorem b8 {ta:TA} {p pos:Pos} (hg:Gl X "range") (hm:X.mg "range" = none) (ha:PA X [a] ta) (hs:starEach [a] X.env=[(false,eval a X.env)]:=by rfl):PI X tg (.Call (.Name "range" p) [a] [] pos) (se ta):=by
 intro pins s U H R I h;refine Call_ (cH I hg hm boot_range (Xx (thn (ha pos pins s U H _ I h) λus s1 ⟨vs,H1,I1,r1,q1⟩=>?_) hs rfl));obtain⟨j,e,q1,q2,q⟩:=q1;subst e
 cases r1 with
 | cons r rr =>
 cases rr;obtain⟨t,rfl⟩:=r;exact call_range_1 (j7 I1 (by omega) (by omega) q1 q2 (by simpa using q))
theorem oR {b:Expr} {ta:TA} {p pos:Pos} (hg:Gl X "range") (hm:X.mg "range" = none) (ha:PA X [a,b] ta) (hs:starEach [a,b] X.env=[(false,eval a X.env),(false,eval b X.env)]:=by rfl) (hs2:starEach [b] X.env=[(false,eval b X.env)]:=by rfl) :
  PI X tg (.Call (.Name "range" p) [a,b] [] pos) (u4 ta):=by
 intro pins s U H R I h;refine Call_ (cH I hg hm boot_range (Xx (thn (ha pos pins s U H _ I h) λus s1 ⟨vs,H1,I1,r1,q1⟩=>?_) (by rw[hs,hs2]) (by rw[hs2];rfl)));obtain⟨i,j,e,⟨q1,q2,q3,q4⟩,q⟩:=q1;subst e
 cases r1 with
 | cons r rr =>
 cases rr with
 | cons r' rr =>
 cases rr;obtain⟨t,rfl⟩:=r;obtain⟨t',rfl⟩:=r';exact call_range_2 (j7 I1 q1 q2 q3 q4 q)
def wS (wi:TI) (g:TG) (tb:TS):TS:=λD U H=>wi U H λJ H1=>∃W:Nat->Nat->St->Hp->Prop,(∃m,W 0 m U H1)/\∀i m U H,W i m U H ->
 (J.stop i H/\D.nx U H)\/(J.go i H/\∃N:St->Hp->Prop,(∀σ' H',N σ' H'->∃m',m'<m/\W (i+1) m' σ' H')/\∀x H',J.yld i H x H'->g x U H' λσ2 H2=>tb { D with nx:=N,ct:=N,bk:=D.nx } σ2 H2)
def e_ (fp:B3) (h:Heap):B1:=fp.filterMap λb=>(h.get? b).map λo=>(b,o)
variable {fp:B3}
theorem b_ {h:Heap} {b:Addr} {o:Obj} (hb:b∈fp) (e:h.get? b=some o):(b,o)∈e_ fp h:=List.mem_filterMap.mpr ⟨b,hb,by rw[e];rfl⟩
theorem ph {h:Heap} {p:Addr × Obj} (hp:p∈e_ fp h):p.1∈fp/\h.get? p.1=some p.2:=by
 obtain⟨b,hb,e⟩:=List.mem_filterMap.mp hp
 cases q:h.get? b with
 | none=>rw[q]at e;cases e
 | some o =>
 rw[q]at e;have e':(b,o)=p:=QL e;subst e';exact⟨hb,q⟩
theorem Inv.pinned {U:St} {H:Hp} (I:Inv X pins U H s) (hf:∀b∈fp,fv X pins H b) (ho:∀b∈fp,∃o,s.heap.get? b=some o/\∀v,o.data≠.cell v):Inv X (pins++e_ fp s.heap) U H s :=
 I.pins_of λp hp=>(Qp.mp hp).elim (λz=>I.pin p (QI _ z)) λz=>by
  obtain⟨hb,e⟩:=ph z;obtain⟨f0,f1,f2,_⟩:=hf p.1 hb;obtain⟨o,e',d⟩:=ho p.1 hb;rw[e]at e';cases e';exact⟨e,f0,f1,f2,d⟩
theorem Inv.unpinned {U:St} {H:Hp} (I:Inv X (pins++pl) U H s):Inv X pins U H s:=I.pins_of λp hp=>I.pin p (QI _ (QK _ hp))
theorem ps_for {iter:Expr} {body:List Stmt} {wi:TI} {g:TG} {tb:TS} {pos:Pos} (hp:PassesOwn (model X.prog X.w) X.A X.env X.xe) (hc:X.calm=true) (hi:PI X tg iter wi) (hg:PG X tg g) (hb:PSs X body tb)
  (hs:∀x,foldedSetIterable iter X.env x=pure x:=by intro _;rfl):PS X (.For tg iter body [] pos) (wS wi g tb):=by
 intro pins s U H D I h;refine wpAny_For (thn (hi pins s U H _ I h) λv s1 h1=>thn h1 λitv s2 h2=>?_) hs;obtain⟨it,fp,tn,J,H2,e,I2,T,st2,f2,W,⟨m0,w0⟩,turn⟩:=h2;subst e
 -- what stays true of the iterator's objects through the loop
 have stat:∀{H':Hp},(∀b∈fp,H' b=none)->∀b∈fp,fv X pins H' b:=λhn b hb=>⟨hn b hb,(f2 b hb).2⟩;refine codeAny_forLoop_any (λn s'=>∃i σ' H',Inv X pins σ' H' s'/\tn i s'.heap/\(∀b∈fp,H' b=none)/\W i n σ' H') ?_ m0 ⟨0,U,H2,I2,st2,λb hb=>(f2 b hb).1,w0⟩;rintro n s3 ⟨i,σ3,H3,I3,st3,fr3,w3⟩;rcases turn i n σ3 H3 w3 with⟨stop,qn⟩|⟨go,N,hN,step⟩
 ·refine wpAny_passesOwn hp (thn (T.done X rfl rfl rfl hc i pins s3 σ3 H3 X.xe I3 (stat fr3) st3 stop) λr s4 ⟨hr,I4⟩=>?_);subst hr;exact wpAny_execs_nil ⟨σ3,H3,I4,qn⟩
 refine wpAny_passesOwn hp (thn (T.item X rfl rfl rfl hc i pins s3 σ3 H3 X.xe I3 (stat fr3) st3 go) λr s4 ⟨u,hr,h4⟩=>?_);subst hr;refine wpAny_passesOwn hp (thn h4 λ_ s5 ⟨x,H5,I5,r5,y5,st5,fr5⟩=>?_);have I5':=I5.pinned (stat fr5) (T.obj _ _ st5);refine wpAny_passesOwn hp (thn (hg _ s5 σ3 H5 x u _ I5' r5 (step x H5 y5)) λ_ s6 ⟨σ6,H6,I6,q6⟩=>?_);refine wpAny_passesOwn hp (thn (hb _ s6 σ6 H6 _ I6 q6) λf s7 q7=>?_)
 have again:∀{σ7:St} {H7:Hp},Inv X (pins++e_ fp s5.heap) σ7 H7 s7->N σ7 H7->∃m,m<n/\∃i σ' H',Inv X pins σ' H' s7/\tn i s7.heap/\(∀b∈fp,H' b=none)/\W i m σ' H':=λ{σ7 H7} I7 n7=>by
  obtain⟨m',hm,w7⟩:=hN σ7 H7 n7;refine⟨m',hm,i+1,σ7,H7,I7.unpinned,T.keep _ _ _ st5 λb hb o e=>(I7.pin (b,o) (QI _ (QI _ (b_ hb e)))).1,λb hb=>?_,w7⟩;obtain⟨o,e,d⟩:=T.obj _ _ st5 b hb;exact(I7.pin (b,o) (QI _ (QI _ (b_ hb e)))).2.1
 cases f with
 | next=>obtain⟨σ7,H7,I7,n7⟩:=q7;exact again I7 n7
 | cont=>obtain⟨σ7,H7,I7,n7⟩:=q7;exact again I7 n7
 | brk=>obtain⟨σ7,H7,I7,q7⟩:=q7;exact⟨σ7,H7,I7.unpinned,q7⟩
 | ret v=>obtain⟨x7,σ7,H7,I7,r7,q7⟩:=q7;exact⟨x7,σ7,H7,I7.unpinned,r7,q7⟩
end
theorem sm {K:PySem.W.Frag} {xs:List V} {g:TG} {tb:TS} {D:Ends} {U:St} (Pv:Nat->St->Hp->Prop) (h0:Pv 0 U H) (hl:∀i U H,i<=xs.length->Pv i U H->SqL K H a xs)
  (hs:∀i x U H,xs[i]?=some x->Pv i U H->g x U H λσ2 H2=>tb { D with nx:=Pv (i+1),ct:=Pv (i+1),bk:=D.nx } σ2 H2) (hd:∀U H,Pv xs.length U H->D.nx U H) :
  ∃W:Nat->Nat->St->Hp->Prop,(∃m,W 0 m U H)/\∀i m U H,W i m U H ->
   ((Itl K a).stop i H/\D.nx U H)\/((Itl K a).go i H/\∃N:St->Hp->Prop,(∀σ' H',N σ' H'->∃m',m'<m/\W (i+1) m' σ' H')/\∀x H',(Itl K a).yld i H x H'->g x U H' λσ2 H2=>tb { D with nx:=N,ct:=N,bk:=D.nx } σ2 H2):=by
 refine⟨λi m U H=>m=xs.length-i/\i<=xs.length/\Pv i U H,⟨xs.length,by simp,QR _,h0⟩,?_⟩;rintro i m U H ⟨rfl,hi,p⟩;have q:=hl i U H hi p;by_cases hlt:i<xs.length
 ·refine .inr ⟨⟨xs,xs[i],q,by simp[hlt]⟩,Pv (i+1),λσ' H' p'=>⟨xs.length-(i+1),by omega,rfl,hlt,p'⟩,λx H' y=>?_⟩;obtain⟨e,y⟩:=y;subst e;exact hs i x U _ (y xs q) p
 have e:i=xs.length:=by omega
 subst e;exact .inl ⟨⟨xs,q,Qi _⟩,hd U H p⟩
theorem cc {lo:Int} {n:Nat} {g:TG} {tb:TS} {D:Ends} {U:St} (Pv:Nat->St->Hp->Prop) (h0:Pv 0 U H)
  (hs:∀i U H,i<n->Pv i U H->g (.int (lo+i)) U H λσ2 H2=>tb { D with nx:=Pv (i+1),ct:=Pv (i+1),bk:=D.nx } σ2 H2) (hd:∀U H,Pv n U H->D.nx U H) :
  ∃W:Nat->Nat->St->Hp->Prop,(∃m,W 0 m U H)/\∀i m U H,W i m U H ->
   ((Itr lo n).stop i H/\D.nx U H)\/((Itr lo n).go i H/\∃N:St->Hp->Prop,(∀σ' H',N σ' H'->∃m',m'<m/\W (i+1) m' σ' H')/\∀x H',(Itr lo n).yld i H x H'->g x U H' λσ2 H2=>tb { D with nx:=N,ct:=N,bk:=D.nx } σ2 H2):=by
 refine⟨λi m U H=>m=n-i/\i<=n/\Pv i U H,⟨n,by simp,QR _,h0⟩,?_⟩;rintro i m U H ⟨rfl,hi,p⟩;by_cases hlt:i<n
 ·refine .inr ⟨hlt,Pv (i+1),λσ' H' p'=>⟨n-(i+1),by omega,rfl,hlt,p'⟩,λx H' y=>?_⟩;obtain⟨e,y⟩:=y;subst e y;exact hs i U _ hlt p
 have e:i=n:=by omega
 subst e;exact .inl ⟨Qi _,hd U H p⟩
abbrev R2:=V->V->Hp->VK->Prop
def OpR (X:Cx) (f:Value->Value->Sem Value) (r:R2):Prop :=
 ∀(pins:B1) (s:Shared) (U:St) (H:Hp) (x y:V) (v u:Value) (Q:VK),Inv X pins U H s->aX x v->aX y u->r x y H Q ->
  wpAny (model X.prog X.w) X.A (f v u) (EP X pins U Q) X.xe s
def UnR (X:Cx) (f:Value->Sem Value) (r:V->Hp->VK->Prop):Prop :=
 ∀(pins:B1) (s:Shared) (U:St) (H:Hp) (x:V) (v:Value) (Q:VK),Inv X pins U H s->aX x v->r x H Q ->
  wpAny (model X.prog X.w) X.A (f v) (EP X pins U Q) X.xe s
def cW (X:Cx) (f:Value) (r:List V->Hp->VK->Prop):Prop :=
 ∀(pins:B1) (s:Shared) (U:St) (H:Hp) (xs:List V) (us:List Value) (Q:VK),Inv X pins U H s->aI xs us->r xs H Q ->
  wpAny (model X.prog X.w) X.A (call f us) (EP X pins U Q) X.xe s
def tOp (r:R2) (ta tb:TE):TE:=λU H Q=>ta U H λx H1=>tb U H1 λy H2=>r x y H2 Q
def tUn (r:V->Hp->VK->Prop) (ta:TE):TE:=λU H Q=>ta U H λx H1=>r x H1 Q
def rI (C:Int->Int->Prop) (g:Int->Int->V):R2:=λx y H Q=>∃i j,x=.int i/\y=.int j/\C i j/\Q (g i j) H
def rI0 (g:Int->Int->V):R2:=λx y H Q=>∃i j,x=.int i/\y=.int j/\Q (g i j) H
def rU (g:Int->V):V->Hp->VK->Prop:=λx H Q=>∃i,x=.int i/\Q (g i) H
section
variable {X:Cx} {a b c:Expr} {ta tb tc:TE} {pos:Pos}
variable {f:Value->Value->Sem Value}
theorem wM (ha:PE X a ta) (hb:PE X b tb) {pins:B1} {s:Shared} {U:St} {H:Hp} {R:V->V->Hp->Prop} (I:Inv X pins U H s)
  (h:ta U H λx H1=>tb U H1 λy H2=>R x y H2) {Q:B0}
  (hf:∀v u s2 x y H2,Inv X pins U H2 s2->aX x v->aX y u->R x y H2->wpAny (model X.prog X.w) X.A (f v u) Q X.xe s2) :
  wpAny (model X.prog X.w) X.A (eval a X.env) (λv s₁=>wpAny (model X.prog X.w) X.A (eval b X.env) (λu s₂=>wpAny (model X.prog X.w) X.A (f v u) Q X.xe s₂) X.xe s₁) X.xe s:=by
 refine thn (ha pins s U H _ I h) λv s1 ⟨x,H1,I1,r1,q1⟩=>?_;refine thn (hb pins s1 U H1 _ I1 q1) λu s2 ⟨y,H2,I2,r2,q2⟩=>?_;exact hf v u s2 x y H2 I2 r1 r2 q2
theorem aQ {op:Operator} {r:R2} (ho:OpR X (binaryOp op) r) (ha:PE X a ta) (hb:PE X b tb):PE X (.BinOp a op b pos) (tOp r ta tb):=by
 intro pins s U H Q I h;exact wpAny_BinOp (wM ha hb I h λv u s2 x y H2 I2 rx ry q=>ho pins s2 U H2 x y v u Q I2 rx ry q)
theorem gm {op:UnaryOp} {r:V->Hp->VK->Prop} (ho:UnR X (unaryOp op) r) (ha:PE X a ta):PE X (.UnaryOp op a pos) (tUn r ta):=by
 intro pins s U H Q I h;exact UnaryOp_ (thn (ha pins s U H _ I h) λv s1 ⟨x,H1,I1,r1,q1⟩=>ho pins s1 U H1 x v Q I1 r1 q1)
theorem opI {C:Int->Int->Prop} {g:Int->Int->Int}
  (rule:∀(i j:Int) (t u:Tok) (s:Shared) (Q:B0) (E:B0),C i j->Q (.int (g i j) s.toks) { s with toks:=s.toks+1 }->wpAny (model X.prog X.w) X.A (f (.int i t) (.int j u)) Q E s) :
  OpR X f (rI C λi j=>.int (g i j)):=by
 intro pins s U H x y v u Q I rx ry h;obtain⟨i,j,rfl,rfl,hc,q⟩:=h;obtain⟨t,rfl⟩:=rx;obtain⟨t',rfl⟩:=ry;exact rule i j t t' s _ _ hc ⟨.int (g i j),H,I.tok _,⟨_,rfl⟩,q⟩
theorem xb {g:Int->Int->Int}
  (rule:∀(i j:Int) (t u:Tok) (s:Shared) (Q:B0) (E:B0),Q (.int (g i j) s.toks) { s with toks:=s.toks+1 }->wpAny (model X.prog X.w) X.A (f (.int i t) (.int j u)) Q E s) :
  OpR X f (rI0 λi j=>.int (g i j)):=by
 intro pins s U H x y v u Q I rx ry h;obtain⟨i,j,rfl,rfl,q⟩:=h;obtain⟨t,rfl⟩:=rx;obtain⟨t',rfl⟩:=ry;exact rule i j t t' s _ _ ⟨.int (g i j),H,I.tok _,⟨_,rfl⟩,q⟩
theorem tK {g:Int->Int->Bool}
  (rule:∀(i j:Int) (t u:Tok) (s:Shared) (Q:B0) (E:B0),Q (.bool (g i j)) s->wpAny (model X.prog X.w) X.A (f (.int i t) (.int j u)) Q E s) :
  OpR X f (rI0 λi j=>.bl (g i j)):=by
 intro pins s U H x y v u Q I rx ry h;obtain⟨i,j,rfl,rfl,q⟩:=h;obtain⟨t,rfl⟩:=rx;obtain⟨t',rfl⟩:=ry;exact rule i j t t' s _ _ ⟨.bl (g i j),H,I,rfl,q⟩
def Ar (i j:Int):Prop:=0<j/\j<1073741824
def BD (i j:Int):Prop:=0<=j/\j<=1000000/\i.natAbs<2 ^ 64
def mN (i j:Int):Prop:=(-(2 ^ 64)<i/\i<2 ^ 64)\/(-(2 ^ 64)<j/\j<2 ^ 64)
theorem mN.ok {i j:Int} (h:mN i j):IntMulOk i j:=by
 rcases h with⟨h1,h2⟩|⟨h1,h2⟩
 ·exact .of_left (intBits_le_64 h1 h2)
 exact .of_right (intBits_le_64 h1 h2)
theorem gq:OpR X (binaryOp .Add) (rI0 λi j=>.int (i+j)):=xb λ_ _ _ _ _ _ _ q=>add_int q
theorem vY:OpR X (binaryOp .Sub) (rI0 λi j=>.int (i-j)):=xb λ_ _ _ _ _ _ _ q=>sub_int q
theorem d6:OpR X (binaryOp .Mult) (rI mN λi j=>.int (i*j)):=opI λ_ _ _ _ _ _ _ hc q=>mul_int q hc.ok
theorem nE:OpR X (binaryOp .FloorDiv) (rI Ar λi j=>.int (i / j)):=opI λi j _ _ _ _ _ hc q=>by
 have h1:(0:Int)<j:=hc.1;have h2:j<1073741824:=hc.2;exact floordiv_int (by omega) (by rw[Int.fdiv_eq_ediv_of_nonneg i (by omega)];exact q) (.inl (PyProof.noPylong_small (by omega)))
theorem d7:OpR X (binaryOp .Mod) (rI (λ_ j=>0<j) λi j=>.int (i % j)):=opI λi j _ _ _ _ _ hc q=>by
 have h1:(0:Int)<j:=hc;exact mod_int' (by omega) (by rw[Int.fmod_eq_emod_of_nonneg i (by omega)];exact q)
theorem vZ:OpR X (binaryOp .Pow) (rI BD λi j=>.int (i ^ j.toNat)):=opI λ_ _ _ _ _ _ _ hc q=>pow_int_small hc.1 hc.2.1 hc.2.2 q
theorem unI {f:Value->Sem Value} {g:Int->Int}
  (rule:∀(i:Int) (t:Tok) (s:Shared) (Q:B0) (E:B0),Q (.int (g i) s.toks) { s with toks:=s.toks+1 }->wpAny (model X.prog X.w) X.A (f (.int i t)) Q E s) :
  UnR X f (rU λi=>.int (g i)):=by
 intro pins s U H x v Q I rx h;obtain⟨i,rfl,q⟩:=h;obtain⟨t,rfl⟩:=rx;exact rule i t s _ _ ⟨.int (g i),H,I.tok _,⟨_,rfl⟩,q⟩
theorem dU:UnR X (unaryOp .USub) (rU λi=>.int (-i)):=unI λ_ _ _ _ _ q=>neg_int q
end
noncomputable def tq:V->V->Bool
 | .non,.non=>true|.non,.int _=>true|.int _,.non=>true|.non,.bl _=>true|.bl _,.non=>true|.non,.str _=>true|.str _,.non=>true
 | .int _,.int _=>true|.bl _,.bl _=>true|.str _,.str _=>true|.byt _,.byt _=>true
 | .int _,.str _=>true|.str _,.int _=>true|.bl _,.str _=>true|.str _,.bl _=>true
 | _,_=>false
def rEq:R2:=λx y H Q=>tq x y=true/\Q (.bl (decide (x=y))) H
def rNe:R2:=λx y H Q=>tq x y=true/\Q (.bl (!decide (x=y))) H
theorem oh {i j:Int}:decide (V.int i=V.int j)=(i==j):=by
 rw[Bool.eq_iff_iff];simp
theorem sE {i j:Bool}:decide (V.bl i=V.bl j)=(i==j):=by
 rw[Bool.eq_iff_iff];simp
theorem og {i j:Str}:decide (V.str i=V.str j)=(i==j):=by
 rw[Bool.eq_iff_iff];simp
theorem oj {i j:Array UInt8}:decide (V.byt i=V.byt j)=(i.toList==j.toList):=by
 rw[Bool.eq_iff_iff];cases i;cases j;simp
section
variable {X:Cx} {a b c:Expr} {ta tb tc:TE} {pos:Pos}
theorem a_ {pins:B1} {U:St} {H:Hp} {s:Shared} {Q:VK} {k k':Bool} (I:Inv X pins U H s) (q:Q (.bl k) H) (e:k=k'):EP X pins U Q (.bool k') s:=by
 subst e;exact⟨.bl k,H,I,rfl,q⟩
theorem cA:OpR X (compareOp .Eq) rEq:=by
 intro pins s U H x y v u Q I rx ry h;obtain⟨hs,q⟩:=h
 cases x with
 | non =>
  cases rx
  cases y with
  | non=>cases ry;exact PySem.EqNone.eq_none_none (a_ I q (by simp))
  | bl j=>cases ry;exact PySem.EqNone.eq_none_bool (a_ I q (by simp))
  | int j=>obtain⟨t',rfl⟩:=ry;exact PySem.EqNone.eq_none_int (a_ I q (by simp))
  | str j=>obtain⟨t',rfl⟩:=ry;exact PySem.EqNone.eq_none_str (a_ I q (by simp))
  | _=>exact absurd (show false=true from hs) Qh
 | bl i =>
  cases rx
  cases y with
  | non=>cases ry;exact PySem.EqNone.eq_bool_none (a_ I q (by simp))
  | bl j=>cases ry;exact eq_bool (a_ I q sE)
  | str j=>obtain⟨t',rfl⟩:=ry;exact PySem.EqMixed.eq_bool_str (a_ I q (by simp))
  | _=>exact absurd (show false=true from hs) Qh
 | int i =>
  obtain⟨t,rfl⟩:=rx
  cases y with
  | non=>cases ry;exact PySem.EqNone.eq_int_none (a_ I q (by simp))
  | int j=>obtain⟨t',rfl⟩:=ry;exact eq_int (a_ I q oh)
  | str j=>obtain⟨t',rfl⟩:=ry;exact PySem.EqMixed.eq_int_str (a_ I q (by simp))
  | _=>exact absurd (show false=true from hs) Qh
 | str i =>
  obtain⟨t,rfl⟩:=rx
  cases y with
  | non=>cases ry;exact PySem.EqNone.eq_str_none (a_ I q (by simp))
  | bl j=>cases ry;exact PySem.EqMixed.eq_str_bool (a_ I q (by simp))
  | int j=>obtain⟨t',rfl⟩:=ry;exact PySem.EqMixed.eq_str_int (a_ I q (by simp))
  | str j=>obtain⟨t',rfl⟩:=ry;exact eq_str (a_ I q og)
  | _=>exact absurd (show false=true from hs) Qh
 | byt i =>
  obtain⟨t,rfl⟩:=rx
  cases y with
  | byt j=>obtain⟨t',rfl⟩:=ry;exact PySem.W.eq_bytes (a_ I q oj)
  | _=>exact absurd (show false=true from hs) Qh
 | _=>cases y <;> exact absurd (show false=true from hs) Qh
theorem du:OpR X (compareOp .NotEq) rNe:=by
 intro pins s U H x y v u Q I rx ry h;obtain⟨hs,q⟩:=h
 cases x with
 | non =>
  cases rx
  cases y with
  | non=>cases ry;exact PySem.EqNone.ne_none_none (a_ I q (by simp))
  | bl j=>cases ry;exact PySem.EqNone.ne_none_bool (a_ I q (by simp))
  | int j=>obtain⟨t',rfl⟩:=ry;exact PySem.EqNone.ne_none_int (a_ I q (by simp))
  | str j=>obtain⟨t',rfl⟩:=ry;exact PySem.EqNone.ne_none_str (a_ I q (by simp))
  | _=>exact absurd (show false=true from hs) Qh
 | bl i =>
  cases rx
  cases y with
  | non=>cases ry;exact PySem.EqNone.ne_bool_none (a_ I q (by simp))
  | bl j=>cases ry;exact ne_bool (a_ I q (congrArg not sE))
  | str j=>obtain⟨t',rfl⟩:=ry;exact PySem.EqMixed.ne_bool_str (a_ I q (by simp))
  | _=>exact absurd (show false=true from hs) Qh
 | int i =>
  obtain⟨t,rfl⟩:=rx
  cases y with
  | non=>cases ry;exact PySem.EqNone.ne_int_none (a_ I q (by simp))
  | int j=>obtain⟨t',rfl⟩:=ry;exact ne_int (a_ I q (congrArg not oh))
  | str j=>obtain⟨t',rfl⟩:=ry;exact PySem.EqMixed.ne_int_str (a_ I q (by simp))
  | _=>exact absurd (show false=true from hs) Qh
 | str i =>
  obtain⟨t,rfl⟩:=rx
  cases y with
  | non=>cases ry;exact PySem.EqNone.ne_str_none (a_ I q (by simp))
  | bl j=>cases ry;exact PySem.EqMixed.ne_str_bool (a_ I q (by simp))
  | int j=>obtain⟨t',rfl⟩:=ry;exact PySem.EqMixed.ne_str_int (a_ I q (by simp))
  | str j=>obtain⟨t',rfl⟩:=ry;exact ne_str (a_ I q (congrArg not og))
  | _=>exact absurd (show false=true from hs) Qh
 | byt i =>
  obtain⟨t,rfl⟩:=rx
  cases y with
  | byt j=>obtain⟨t',rfl⟩:=ry;exact PySem.W.ne_bytes (a_ I q (congrArg not oj))
  | _=>exact absurd (show false=true from hs) Qh
 | _=>cases y <;> exact absurd (show false=true from hs) Qh
theorem qW:OpR X (compareOp .Lt) (rI0 λi j=>.bl (decide (i<j))):=tK λ_ _ _ _ _ _ _ q=>lt_int q
theorem nC:OpR X (compareOp .LtE) (rI0 λi j=>.bl (decide (i<=j))):=tK λ_ _ _ _ _ _ _ q=>le_int q
theorem uI:OpR X (compareOp .Gt) (rI0 λi j=>.bl (decide (j<i))):=tK λ_ _ _ _ _ _ _ q=>gt_int q
theorem uJ:OpR X (compareOp .GtE) (rI0 λi j=>.bl (decide (j<=i))):=tK λ_ _ _ _ _ _ _ q=>ge_int q
theorem oV:OpR X (compareOp .In) (λx y H Q=>∃i j,x=.str i/\y=.str j/\Q (.bl (!(Builtin.Str.occurrences j i 0 j.length 1).isEmpty)) H):=by
 intro pins s U H x y v u Q I rx ry h;obtain⟨i,j,rfl,rfl,q⟩:=h;obtain⟨t,rfl⟩:=rx;obtain⟨t',rfl⟩:=ry;exact in_str (a_ I q rfl)
theorem qX:OpR X (compareOp .Is) (λx y H Q=>y=.non/\Q (.bl (decide (x=.non))) H):=by
 intro pins s U H x y v u Q I rx ry h;obtain⟨rfl,q⟩:=h;cases ry;refine is_none_gen (a_ I q ?_)
 cases x <;> first
  | (cases rx;rfl)
  | (obtain⟨t,rfl⟩:=rx;rfl)
variable {op op':CmpOp}
theorem aH (b:Expr) (h:op≠.In:=by decide) (h2:op≠.NotIn:=by decide):behindInMarks op b=false:=by
 have e1:(op==CmpOp.In)=false:=by cases op <;> first|rfl|exact absurd rfl h
 have e2:(op==CmpOp.NotIn)=false:=by cases op <;> first|rfl|exact absurd rfl h2
 cases b <;> simp[behindInMarks,e1,e2]
variable {r r':R2}
theorem bj (ho:OpR X (compareOp op) r) (ha:PE X a ta) (hb:PE X b tb) (hm:behindInMarks op b=false):PE X (.Compare a [op] [b] pos) (tOp r ta tb):=by
 intro pins s U H Q I h;exact wpAny_Compare1 (wM ha hb I h λv u s2 x y H2 I2 rx ry q=>ho pins s2 U H2 x y v u Q I2 rx ry q) hm
def jE (t:TE):TT:=λU H Q=>t U H λx H'=>∃k,x=.bl k/\Q k H'
theorem aP (ho:OpR X (compareOp op) r) (ha:PE X a ta) (hb:PE X b tb) (hm:behindInMarks op b=false):PT X (.Compare a [op] [b] pos) (jE (tOp r ta tb)):=by
 intro pins s U H Q I h
 refine wpAny_isTrue_Compare1 (thn (ha pins s U H _ I h) λv s1 ⟨x,H1,I1,r1,q1⟩=>thn (hb pins s1 U H1 _ I1 q1) λu s2 ⟨y,H2,I2,r2,q2⟩ =>
  thn (ho pins s2 U H2 x y v u _ I2 r1 r2 q2) λc s3 ⟨z,H3,I3,r3,k,e,q3⟩=>?_) hm
 subst e;cases r3;exact Xn ⟨H3,I3,q3⟩
def lH (r r':R2) (ta tb tc:TE):TE:=λU H Q=>ta U H λx H1=>tb U H1 λy H2=>r x y H2 λz H3=>∃k,z=.bl k /\
 (if k=true then tc U H3 λw' H4=>r' y w' H4 Q else Q (.bl false) H3)
theorem qR (ho:OpR X (compareOp op) r) (ho':OpR X (compareOp op') r') (ha:PE X a ta) (hb:PE X b tb) (hc:PE X c tc)
  (hm:lastMarks [op,op'] [b,c]=false:=by with_unfolding_all rfl):PE X (.Compare a [op,op'] [b,c] pos) (lH r r' ta tb tc):=by
 intro pins s U H Q I h
 refine Compare_chain (thn (ha pins s U H _ I h) λv s1 ⟨x,H1,I1,r1,q1⟩=>chain_link (thn (hb pins s1 U H1 _ I1 q1) λu s2 ⟨y,H2,I2,r2,q2⟩ =>
  thn (ho pins s2 U H2 x y v u _ I2 r1 r2 q2) λd s3 ⟨z,H3,I3,r3,k,e,q3⟩=>?_)) hm
 subst e;cases r3;refine Xn ?_
 cases k with
 | false=>exact ite_ff ⟨.bl false,H3,I3,rfl,q3⟩
 | true=>exact ite_tt (chain_last (thn (hc pins s3 U H3 _ I3 q3) λw' s4 ⟨z',H4,I4,r4,q4⟩=>ho' pins s4 U H4 y z' u w' Q I4 r2 r4 q4))
theorem qF (ho:OpR X (compareOp op) r) (ho':OpR X (compareOp op') r') (ha:PE X a ta) (hb:PE X b tb) (hc:PE X c tc)
  (hm:lastMarks [op,op'] [b,c]=false:=by with_unfolding_all rfl):PT X (.Compare a [op,op'] [b,c] pos) (jE (lH r r' ta tb tc)):=by
 intro pins s U H Q I h
 refine isTrue_chain (thn (ha pins s U H _ I h) λv s1 ⟨x,H1,I1,r1,q1⟩=>test_link (thn (hb pins s1 U H1 _ I1 q1) λu s2 ⟨y,H2,I2,r2,q2⟩ =>
  thn (ho pins s2 U H2 x y v u _ I2 r1 r2 q2) λd s3 ⟨z,H3,I3,r3,k,e,q3⟩=>?_)) hm
 subst e;cases r3;refine Xn ?_
 cases k with
 | false =>
  obtain⟨k',e',q'⟩:=q3;cases e';exact ite_ff ⟨H3,I3,q'⟩
 | true =>
 refine ite_tt (test_last (thn (hc pins s3 U H3 _ I3 q3) λw' s4 ⟨z',H4,I4,r4,q4⟩=>thn (ho' pins s4 U H4 y z' u w' _ I4 r2 r4 q4) λd' s5 ⟨z2,H5,I5,r5,k2,e2,q5⟩=>?_));subst e2;cases r5;exact Xn ⟨H5,I5,q5⟩
theorem ff:(sizeLine:Nat)<2 ^ 63:=by rw[sizeLine_eq];decide
theorem aY:OpR X (binaryOp .Add) (λx y H Q=>∃i j,x=.str i/\y=.str j/\i.length+j.length<=sizeLine/\Q (.str (i++j)) H):=by
 intro pins s U H x y v u Q I rx ry h;obtain⟨i,j,rfl,rfl,hz,q⟩:=h;obtain⟨t,rfl⟩:=rx;obtain⟨t',rfl⟩:=ry;exact add_str (λt' tk=>⟨.str (i++j),H,I.tok _,⟨_,rfl⟩,q⟩) hz
theorem cI {x:V} {us:List Value} (r:aI [x] us):∃u,us=[u]/\aX x u:=by
 cases r with
 | cons r1 r2=>cases r2;exact⟨_,rfl,r1⟩
theorem pU {x y:V} {us:List Value} (r:aI [x,y] us):∃u w',us=[u,w']/\aX x u/\aX y w':=by
 cases r with
 | cons r1 r2 =>
 cases r2 with
 | cons r3 r4=>cases r4;exact⟨_,_,rfl,r1,r3⟩
theorem pO (hc:X.calm=true):cW X (.builtin "max") (λxs H Q=>∃i j,xs=[.int i,.int j]/\Q (.int (if j>i then j else i)) H):=by
 intro pins s U H xs us Q I r h;obtain⟨i,j,rfl,q⟩:=h;obtain⟨u,w',rfl,⟨t,rfl⟩,⟨t',rfl⟩⟩:=pU r;refine max_two_ints (I.ok.hd hc) λh' tk k=>⟨_,H,I.kept k,?_,q⟩;by_cases hj:j>i
 ·rw[Qu hj,Qu hj];exact⟨_,rfl⟩
 rw[Qt hj,Qt hj];exact⟨_,rfl⟩
theorem pN (hc:X.calm=true):cW X (.builtin "min") (λxs H Q=>∃i j,xs=[.int i,.int j]/\Q (.int (if j<i then j else i)) H):=by
 intro pins s U H xs us Q I r h;obtain⟨i,j,rfl,q⟩:=h;obtain⟨u,w',rfl,⟨t,rfl⟩,⟨t',rfl⟩⟩:=pU r;refine min_two_ints (I.ok.hd hc) λh' tk k=>⟨_,H,I.kept k,?_,q⟩;by_cases hj:j<i
 ·rw[Qu hj,Qu hj];exact⟨_,rfl⟩
 rw[Qt hj,Qt hj];exact⟨_,rfl⟩
theorem fj:cW X (.type "int") (λxs H Q=>(∃i,xs=[.int i]/\Q (.int i) H)\/∃k,xs=[.bl k]/\Q (.int (if k then 1 else 0)) H):=by
 intro pins s U H xs us Q I r h;rcases h with⟨i,rfl,q⟩|⟨k,rfl,q⟩
 ·obtain⟨u,rfl,t,rfl⟩:=cI r;exact call_int_int ⟨.int i,H,I,⟨_,rfl⟩,q⟩
 obtain⟨u,rfl,r1⟩:=cI r;cases r1;exact call_int_bool ⟨.int (if k then 1 else 0),H,I.tok _,⟨_,rfl⟩,q⟩
end
structure ObjM (h:Heap) (x dx C:Addr) (mA:B2):Prop where
 obj:h.get? x=some (PySem.W.instObj C dx)
 ns:h.Ns1 dx mA
 ne:dx≠x
variable {mA:B2}
theorem pj (n:h.Ns1 dx mA):∃od,h.get? dx=some od/\∀name,PySem.W.lookIn name od=some (mA name):=by
 obtain⟨o,es,ep,ho,hd,hk,_,hm⟩:=n;refine⟨o,ho,λname=>?_⟩;have e:=hm name;unfold nsFind findBy at e;rw[<-Array.find?_toList]at e;unfold PySem.W.lookIn;rw[hd];dsimp only
 split
 ·rename_i y q
  rw[q]at e;exact congrArg some e
 rename_i q
 rw[q]at e
 have a:es.toList.any (·.refKey)=false:=by
  rw[List.any_eq_false];intro y hy;obtain⟨z,t,hkey⟩:=hk y (Array.mem_toList_iff.mp hy);simp[DictEntry.refKey,hkey]
 have a':¬es.toList.any (·.refKey)=true:=by rw[a];exact Qh
 rw[Qt a'];exact congrArg some e
theorem ObjM.look {x:Addr} (I:ObjM h x dx C mA):∃od,PySem.W.InstAt h x (PySem.W.instObj C dx) C (some od)/\∀name,PySem.W.lookIn name od=some (mA name) :=
 let ⟨od,ho,hl⟩:=pj I.ns
 ⟨od,⟨I.obj,rfl,rfl,ho⟩,hl⟩
section
variable {prog:Program} {w:World} {A:Around} {E:B0} {s:Shared} {K:PySem.W.Frag} {x dx C f:Addr} {mA:B2} {name:Str} {v:Value}
end
theorem ft.some_of {v:V} {o:Option Value} (r:ft (some v) o):∃u,o=some u/\aX v u:=by
 cases o with
 | none=>exact(show False from r).elim
 | some u=>exact⟨u,rfl,r⟩
theorem ft.none_of {o:Option Value} (r:ft none o):o=none:=by
 cases o with
 | none=>rfl
 | some u=>exact(show False from r).elim
section
variable {P:Program} {w:World} {H H':Hp} {h h':Heap} {a C dx:Addr} {fs fs':List (Str × V)}
theorem t_ (hok:HOk P w H h) (e:H a=some (.ins C dx fs)):∃mA,ObjM h a dx C mA/\(∀f,ft (fs.lookup f) (mA f))/\PySem.Within mA (fs.map (·.1))/\fs.length<=1000/\H dx=some (.own a):=by
 obtain⟨d,z,ne,ob,mA,n,r,q⟩:=(show bi P w H h a (.ins C dx fs) from hok a _ e);exact⟨mA,⟨ob,n,ne⟩,r,q,z,d⟩
end
structure Cls (K:PySem.W.Frag) (C:Addr):Prop where
 pg:PySem.W.plainGet K C Str.empty=true
 hd:PySem.W.hasDictIn K C=true
 po:PySem.W.plainOver K C=true
 sa:PySem.W.findIn K (.ref C) "__setattr__" = some (some (.builtin "object.__setattr__"))
theorem Cls.get {K:PySem.W.Frag} (c:Cls K C) (f:Str):PySem.W.plainGet K C f=true:=c.pg
structure Con (K:PySem.W.Frag) (C:Addr) (f:Str) (v:V) (u:Value):Prop where
 at_:PySem.W.findIn K (.ref C) f=some (some u)
 rel:aX v u
 get:PySem.W.specialIn K u "__get__" = some none
 cp:PySem.W.copiedNames.contains f=false
structure Meth (K:PySem.W.Frag) (C:Addr) (m:Str) (f:Addr):Prop where
 at_:PySem.W.findIn K (.ref C) m=some (some (.ref f))
 fn:PySem.W.isFn K (.ref f)=true
 kp:PySem.W.keepIn K (.ref f)=true
section
variable {X:Cx} {pins:B1} {U:St} {H:Hp} {s:Shared} {a C dx:Addr} {fs:List (Str × V)} {f:Str} {v:V} {A:Around} {E:B0}
end
section
variable {X:Cx} {o e value:Expr} {f:Str} {pos pos' tpos:Pos} {ta tv:TE}
end
section
variable {X:Cx} {pins:B1} {U:St} {H:Hp} {s:Shared} {A:Around} {E:B0} {Q:B0} {c:Value} {b:Bool}
inductive TyOf (K:PySem.W.Frag) (H:Hp):V->Value->Prop where
 | non:TyOf K H .non (.type "NoneType")
 | bl (x:Bool):TyOf K H (.bl x) (.type "bool")
 | int (i:Int):TyOf K H (.int i) (.type "int")
 | str (x:Str):TyOf K H (.str x) (.type "str")
 | flt (x:UInt64):TyOf K H (.flt x) (.type "float")
 | lst {a:Addr} {xs:List V} (e:H a=some (.lst xs)):TyOf K H (.ref a) (.type "list")
 | frz {a:Addr} {o:Obj} {xs:List V} (e:H a=some (.frz o (.lst xs))):TyOf K H (.ref a) (.type "list")
 | tup {a:Addr} {xs:List V} (e:H a=some (.tup xs)):TyOf K H (.ref a) (.type "tuple")
 | dK {a:Addr} {kvs:List (Key × V)} (e:H a=some (.dK kvs)):TyOf K H (.ref a) (.type "dict")
 | dT {a:Addr} {kvs:List (ak × V)} (e:H a=some (.dT kvs)):TyOf K H (.ref a) (.type "dict")
 | ins {a C dx:Addr} {fs:List (Str × V)} (e:H a=some (.ins C dx fs)) (cl:Cls K C) (ha:PySem.W.findIn K (.ref C) "__class__" = some (some (.builtin "object.__class__")))
   (hn:PySem.W.specialIn K (.builtin "object.__class__") "__get__" = some (some (.builtin "getset_descriptor.__get__"))) (htk:PySem.W.takesIn K (.builtin "object.__class__")=some true)
   (hm:PySem.W.mroIn K C (.type "object")=some true):TyOf K H (.ref a) (.ref C)
theorem pD {x:V} {u t:Value} (I:Inv X pins U H s) (rx:aX x u) (ty:TyOf X.K H x t) (e:PySem.W.kitOne X.K t c=some b) (h:∀tk,Q (.bool b) { s with toks:=tk }) :
  wpAny (model X.prog X.w) A (call (.builtin "isinstance") [u,c]) Q E s:=by
 cases ty with
 | non=>cases (show u=Value.none from rx);exact XF PySem.W.kitx_none I.kIn True.intro e (λz=>nomatch z) h
 | bl y=>cases (show u=Value.bool y from rx);exact XF PySem.W.kitx_bool I.kIn True.intro e (λz=>nomatch z) h
 | int i=>obtain⟨t,q⟩:=(show ∃t,u=Value.int i t from rx);cases q;exact XF PySem.W.kitx_int I.kIn True.intro e (λz=>nomatch z) h
 | str y=>obtain⟨t,q⟩:=(show ∃t,u=Value.str y t from rx);cases q;exact XF PySem.W.kitx_str I.kIn True.intro e (λz=>nomatch z) h
 | flt y=>obtain⟨t,q⟩:=(show ∃t,u=Value.float y t from rx);cases q;exact XF PySem.W.kitx_float I.kIn True.intro e (λz=>nomatch z) h
 | @lst a xs ea =>
  cases (show u=Value.ref a from rx);obtain⟨_,_,n,_,h1⟩:=(show bi X.prog X.w H s.heap a (.lst xs) from I.hok a _ ea);exact XF PySem.W.kitx_list I.kIn ⟨_,h1,rfl⟩ e (λz=>nomatch z) h
 | @frz a ob xs ea =>
  cases (show u=Value.ref a from rx);obtain⟨_,_,_,n,_,h1⟩:=(show bi X.prog X.w H s.heap a (.frz ob (.lst xs)) from I.hok a _ ea);exact XF PySem.W.kitx_list I.kIn ⟨_,h1,rfl⟩ e (λz=>nomatch z) h
 | @tup a xs ea =>
  cases (show u=Value.ref a from rx);obtain⟨_,_,_,p⟩:=(show bi X.prog X.w H s.heap a (.tup xs) from I.hok a _ ea);obtain⟨o,h1,h2,_⟩:=p;exact XF PySem.W.kitx_tuple I.kIn ⟨o,h1,h2⟩ e (λz=>nomatch z) h
 | @dK a kvs ea =>
  cases (show u=Value.ref a from rx);obtain⟨_,_,vs,_,p⟩:=(show bi X.prog X.w H s.heap a (.dK kvs) from I.hok a _ ea);obtain⟨o,es,ep,h1,h2,_⟩:=p;exact XF PySem.W.kitx_dict I.kIn ⟨o,h1,h2.1⟩ e (λz=>nomatch z) h
 | @dT a kvs ea =>
  cases (show u=Value.ref a from rx);obtain⟨_,_,xs,_,o,es,ep,h1,h2,_⟩:=(show bi X.prog X.w H s.heap a (.dT kvs) from I.hok a _ ea);exact XF PySem.W.kitx_dict I.kIn ⟨o,h1,h2.1⟩ e (λz=>nomatch z) h
 | @ins a C dx fs ea cl ha hn htk hm =>
 cases (show u=Value.ref a from rx);obtain⟨mA,O,_⟩:=t_ I.hok ea;obtain⟨od,J,_⟩:=O.look;exact XF (PySem.W.kitx_own (cl.get _) cl.hd ha hn htk hm) I.kIn J e (λz=>nomatch z) h
end
structure Room (k:Nat) (A:Around):Prop where
 hd:A.handled=none
 dp:A.depth+3*k+5<recursionLimit
 un:A.units+16*k+200<cLine
theorem Room.mono {j k:Nat} (r:Room k A) (h:j<=k):Room j A:=⟨r.hd,by have:=r.dp;omega,by have:=r.un;omega⟩
theorem Room.deeper {k:Nat} (r:Room (k+1) A) (env:Env):Room k (A.deeper env) :=
 ⟨r.hd,by have:=r.dp;show A.depth+1+3*k+5<_;omega,by have:=r.un;show A.units+3+16*k+200<_;omega⟩
theorem Room.depth {k:Nat} (r:Room k A):A.depth<recursionLimit:=by have:=r.dp;omega
theorem Room.units {k:Nat} (r:Room k A):A.units+64<cLine:=by have:=r.un;omega
def f8:TA:=λ_ H Q=>Q [] H
def cS (ta:TE) (tr:TA):TA:=λU H Q=>ta U H λx H1=>tr U H1 λxs H2=>Q (x::xs) H2
section
variable {X:Cx} {e:Expr} {es:List Expr} {te:TE} {t:TA} {pos:Pos}
theorem ad:PA X [] f8:=λ_ _ _ _ H Q I h=>Calls.spliced_nil ⟨[],H,I,.nil,h⟩
theorem aa (ha:PE X e te) (hr:PA X es t) (hs:starEach (e::es) X.env=(false,eval e X.env)::starEach es X.env:=by rfl):PA X (e::es) (cS te t):=by
 intro pos pins s U H Q I h;rw[hs];show wpAny _ _ (spliced ((false,eval e X.env)::backTo pos (starEach es X.env))) _ _ s;refine Calls.spliced_cons (thn (ha pins s U H _ I h) λu s1 ⟨x,H1,I1,r1,q1⟩=>?_);exact thn (hr pos pins s1 U H1 _ I1 q1) λus s2 ⟨xs,H2,I2,r2,q2⟩=>⟨x::xs,H2,I2,.cons r1 r2,q2⟩
def sV (t:TA):TE:=λU H Q=>t U H λxs H1=>xs.length<=sizeLine/\∀p,H1 p=none->Q (.ref p) (upd H1 p (.tup xs))
def vt (t:TA):TE:=λU H Q=>t U H λxs H1=>xs.length<=sizeLine/\∀p,H1 p=none->Q (.ref p) (upd H1 p (.lst xs))
theorem pe_tup {x1} (h:PA X es t):PE X (.Tuple es x1 pos) (sV t):=by
 intro pins s U H Q I hq;refine wpAny_Tuple_spliced (thn (h pos pins s U H _ I hq) λus s1 ⟨xs,H1,I1,r,z,q⟩=>⟨by rw[<-r.length];exact z,?_⟩);have hf:H1 s1.heap.objs.size=none:=I1.hok.fresh (Qi _);refine⟨.ref s1.heap.objs.size,upd H1 s1.heap.objs.size (.tup xs),I1.laid (t':=s1.toks) (λb u e=>Qd _ e) (Qi _) ?_,rfl,q _ hf⟩;exact⟨z,us,r,⟨_,Qv _ rfl,rfl,_,rfl⟩⟩
theorem pe_lst (h:PA X es t):PE X (.List es pos) (vt t):=by
 intro pins s U H Q I hq;refine wpAny_List_spliced (thn (h pos pins s U H _ I hq) λus s1 ⟨xs,H1,I1,r,z,q⟩=>⟨by rw[<-r.length];exact z,?_⟩);have hf:H1 s1.heap.objs.size=none:=I1.hok.fresh (Qi _);refine⟨.ref s1.heap.objs.size,upd H1 s1.heap.objs.size (.lst xs),I1.laid (t':=s1.toks) (λb u e=>Qd _ e) (Qi _) ?_,rfl,q _ hf⟩;exact⟨z,us,0,r,Qv _ rfl⟩
end
abbrev Sp:=List V->Hp->VK->XK->Prop
abbrev CXT:=List Env->Hp->Shared->XK->B0
structure Env0 (P:Program) (w:World) (K:PySem.W.Frag) (mg:B2) (base:Heap) (A:Around) (outer:List Env) (s:Shared) (H:Hp):Prop where
 frames:A.frames=some outer
 mod:Mod K mg base
 bs:∀b o,base.get? b=some o->s.heap.get? b=some o/\H b=none
 bsz:base.objs.size<=s.heap.objs.size
 funs:s.heap.FunFrames base outer
 frf:∀b∈frs outer,H b=none
 hok:HOk P w H s.heap
 bare:AllBare s.gens
def CE (outer:List Env) (P:Program) (w:World) (H:Hp) (s:Shared) (Q:VK) (u:Value) (s':Shared):Prop :=
 ∃v H',s'.os=s.os/\AllBare s'.gens/\Un (frs outer) [] H H' s.heap s'.heap/\HOk P w H' s'.heap/\aX v u/\Q v H'
def CR (CX:CXT) (outer:List Env) (P:Program) (w:World) (H:Hp) (s:Shared) (Q:VK) (E:XK) (r:Result) (s':Shared):Prop :=
 match r with
 | .ok (.ret u)=>CE outer P w H s Q u s'
 | .ok _=>False
 | .error e=>CX outer H s E e s'
structure FnOk (P:Program) (w:World) (K:PySem.W.Frag) (mg:B2) (base:Heap) (CX:CXT) (k:Nat) (f:Addr) (fd:FuncData) (ps:List Str) (sp:Sp):Prop where
 len:∀vs H Q E,sp vs H Q E->vs.length=ps.length
 run:∀(A:Around) (outer:List Env) (s:Shared) (H:Hp) (args:Args) (us:List Value) (vs:List V) (Q:VK) (E:XK),Room k A->Env0 P w K mg base A outer s H->BindsTo s fd args (ps.zip us)->aI vs us->sp vs H Q E ->
  codeAny (model P w) A (.call (.ref f) args) (CR CX outer P w H s Q E) s
section
variable {X:Cx} {pins:B1} {U:St} {H:Hp} {s s':Shared}
theorem Inv.env0 (I:Inv X pins U H s):Env0 X.prog X.w X.K X.mg X.base X.A X.stack s H :=
 ⟨I.ok.frames,I.ok.mod,I.bs,QO I.ok.bsz I.sz,I.stack,I.stkFree,I.hok,I.bare⟩
theorem Inv.after {Q:VK} {u:Value} (I:Inv X pins U H s) (h:CE X.stack X.prog X.w H s Q u s'):EP X pins U Q u s':=by
 obtain⟨v,H',os,bare,un,hok,r,q⟩:=h;obtain⟨hh,g,d,t,os'⟩:=s';obtain rfl:os'=s.os:=os;exact⟨v,H',I.call (h':=hh) (g':=g) (d':=d) (t':=t) (ch:=[]) un hok bare (λb z=>absurd z (by simp)),r,q⟩
end
def gW (sp:Sp) (dvs:List V) (E:XK) (t:TA):TE:=λU H Q=>t U H λvs H1=>sp (vs++dvs) H1 Q E
def fG (K:PySem.W.Frag) (fd:FuncData) (ps:List Str) (ds:List Value):Prop :=
 ∀(s:Shared) (us:List Value),K.In s.heap->(us++ds).length=ps.length->BindsTo s fd ⟨us,[]⟩ (ps.zip (us++ds))
variable {ps N:List Str}
theorem fG.all {K:PySem.W.Frag} {fd:FuncData} (h:∀us:List Value,us.length=ps.length->bindArgs fd ⟨us,[]⟩=pure (ps.zip us)):fG K fd ps []:=λs us _ hl=>by
 rw[XD]at hl ⊢;exact .of_eq (h us hl)
def jk (CX:CXT) (X:Cx) (E:XK):Prop:=∀(pins:B1) (U:St) (H:Hp) (s:Shared) (e:Value) (s':Shared),Inv X pins U H s->CX X.stack H s E e s'->X.xe e s'
section
variable {X:Cx} {CX:CXT} {k:Nat} {f C:Addr} {fd:FuncData} {ps:List Str} {sp:Sp} {dvs:List V} {ds:List Value} {E:XK} {x m:Str} {p pos apos:Pos} {e o:Expr} {es:List Expr} {ta:TE} {t:TA}
theorem vH {pins:B1} {U:St} {H:Hp} {s:Shared} {Q:VK} {us:List Value} {vs:List V} (F:FnOk X.prog X.w X.K X.mg X.base CX k f fd ps sp) (hr:Room k X.A) (hb:fG X.K fd ps ds) (hd:aI dvs ds) (hx:jk CX X E)
  (I:Inv X pins U H s) (r:aI vs us) (h:sp (vs++dvs) H Q E):wpAny (model X.prog X.w) X.A (call (.ref f) us) (EP X pins U Q) X.xe s:=by
 have r2:aI (vs++dvs) (us++ds):=r.append hd;have hl:(us++ds).length=ps.length:=by rw[<-r2.length];exact F.len _ _ _ _ h
 refine wpAny_call (codeAny_mono (F.run X.A X.stack s H ⟨us,[]⟩ (us++ds) (vs++dvs) Q E hr I.env0 (hb s us I.kIn hl) r2 h) λr s' hq=>?_)
 cases r with
 | error e=>exact hx pins U H s e s' I hq
 | ok fl =>
 cases fl with
 | ret u=>exact I.after hq
 | next=>exact False.elim hq
 | brk=>exact False.elim hq
 | cont=>exact False.elim hq
theorem tJ (F:FnOk X.prog X.w X.K X.mg X.base CX k f fd ps sp) (hr:Room k X.A) (hg:Gl X x) (hm:X.mg x=some (.ref f)) (hk:PySem.W.keepIn X.K (.ref f)=true) (hb:fG X.K fd ps ds) (hd:aI dvs ds) (hx:jk CX X E)
  (ha:PA X (e::es) t) (hdb:(x==("__debug__" : Str))=false:=by decide) (he:starEach (e::es) X.env=(false,eval e X.env)::starEach es X.env:=by rfl) (hpl:(backTo pos (starEach es X.env)).any (·.1)=false:=by rfl) :
  PE X (.Call (.Name x p) (e::es) [] pos) (gW sp dvs E t):=by
 intro pins s U H Q I h;refine wpAny_Call_Name_kw (nP I hg hm ?_ hdb);refine PySem.W.callWith_K (h₀:=X.base) I.ok.mod.kin hk (thn (ha pos pins s U H _ I h) λus s1 ⟨vs,H1,I1,r,q⟩=>⟨I1.kIn,?_⟩) he hpl;exact vH F hr hb hd hx I1 r q
structure Mk (K:PySem.W.Frag) (C f:Addr):Prop where
 makes:PySem.W.makesIn K C=true
 init:PySem.W.findIn K (.ref C) "__init__" = some (some (.ref f))
 fn:PySem.W.isFn K (.ref f)=true
 kp:PySem.W.keepIn K (.ref C)=true
end
section
variable {X:Cx} {CX:CXT} {k:Nat} {f C:Addr} {fd:FuncData} {ps ks:List Str} {sp:Sp} {E:XK} {x m:Str} {p pos apos kpos:Pos} {e o:Expr} {es:List Expr} {kws:List Keyword} {te ta:TE} {t tk:TA} {nm:Option Str}
structure KBinds (K:PySem.W.Frag) (fd:FuncData) (ps ks:List Str) (g:List Value->List Value->List Value) (gV:List V->List V->List V):Prop where
 to:∀(s:Shared) (us ws:List Value),K.In s.heap->(g us ws).length=ps.length->BindsTo s fd ⟨us,ks.zip ws⟩ (ps.zip (g us ws))
 rel:∀{vs:List V} {us:List Value} {zs:List V} {ws:List Value},aI vs us->aI zs ws->aI (gV vs zs) (g us ws)
variable {g:List Value->List Value->List Value} {gV:List V->List V->List V}
end
structure FnScope (N P:List Str) (sc:Scope):Prop where
 kind:sc.kind=.function
 co:sc.isCoroutine=false
 gen:sc.isGenerator=false
 nd:N.Nodup
 pre:N.take P.length=P
 par:∀x∈P,sc.names.lookup x=some .local\/sc.names.lookup x=some .cell
 nofree:∀y∈sc.names,y.2≠.free
theorem ik {kindOf:Str->Option NameKind} {x:Str}:∀{binds:List (Str × Value)} {m:B2},(∀v,(x,v)∉binds)->bindL kindOf binds m x=m x
 | [],_,_=>rfl
 | (n,v)::r,m,h=>by
  unfold bindL;rw[ik λw hw=>h w (Qj _ hw)]
  split
  ·have:x≠n:=by rintro rfl;exact h v Xd
   simp[this]
  rfl
theorem io {kindOf:Str->Option NameKind} {x:Str}:∀{binds:List (Str × Value)} {m:B2},(∀v,(x,v)∉binds)->bindC kindOf binds m x=m x
 | [],_,_=>rfl
 | (n,v)::r,m,h=>by
  unfold bindC;rw[io λw hw=>h w (Qj _ hw)]
  split
  ·rfl
  have:x≠n:=by rintro rfl;exact h v Xd
  simp[this]
theorem im {kindOf:Str->Option NameKind} {x:Str} {v:Value}:∀{P:List Str} {vs:List Value} {i:Nat} {m:B2},P.Nodup->P[i]?=some x->vs[i]?=some v->kindOf x=some .local ->
  bindL kindOf (P.zip vs) m x=some v
 | [],_,_,_,_,h,_,_=>by simp at h
 | _::_,[],_,_,_,_,h,_=>by simp at h
 | p::P,w::vs,0,m,nd,h1,h2,hk=>by
  simp at h1 h2;subst h1;subst h2;show bindL kindOf ((p,w)::P.zip vs) m p=_;unfold bindL;rw[ik λv hv=>(Xb.mp nd).1 (List.of_mem_zip hv).1,Qu hk];simp
 | p::P,w::vs,i+1,m,nd,h1,h2,hk=>by
  show bindL kindOf ((p,w)::P.zip vs) m x=_;unfold bindL;exact im (i:=i) (Xb.mp nd).2 (by simpa using h1) (by simpa using h2) hk
theorem ip {kindOf:Str->Option NameKind} {x:Str} {v:Value}:∀{P:List Str} {vs:List Value} {i:Nat} {m:B2},P.Nodup->P[i]?=some x->vs[i]?=some v->kindOf x≠some .local ->
  bindC kindOf (P.zip vs) m x=some v
 | [],_,_,_,_,h,_,_=>by simp at h
 | _::_,[],_,_,_,_,h,_=>by simp at h
 | p::P,w::vs,0,m,nd,h1,h2,hk=>by
  simp at h1 h2;subst h1;subst h2;show bindC kindOf ((p,w)::P.zip vs) m p=_;unfold bindC;rw[io λv hv=>(Xb.mp nd).1 (List.of_mem_zip hv).1,Qt hk];simp
 | p::P,w::vs,i+1,m,nd,h1,h2,hk=>by
  show bindC kindOf ((p,w)::P.zip vs) m x=_;unfold bindC;exact ip (i:=i) (Xb.mp nd).2 (by simpa using h1) (by simpa using h2) hk
def start (N:List Str) (vs:List V):St:=vs.map some++List.replicate (N.length-vs.length) none
noncomputable def cxOf (CX:CXT) (P:Program) (w:World) (K:PySem.W.Frag) (mg:B2) (base:Heap) (N:List Str) (qual:Str) (scope:Scope) (f:Addr) (cd:Value) (A:Around) (outer:List Env) (s:Shared) (H:Hp) (E:XK):Cx where
 prog:=P
 w:=w
 K:=K
 mg:=mg
 base:=base
 A:=A.deeper (envOfC qual scope s.heap.objs.size f cd)
 N:=N
 s₀:=s
 H₀:=H
 env:=envOfC qual scope s.heap.objs.size f cd
 outer:=outer
 stack:=envOfC qual scope s.heap.objs.size f cd::outer
 ex:=[]
 calm:=true
 fn:=λ_=>true
 pn:=[]
 xe:=λe s'=>wpAny (model P w) (A.deeper (envOfC qual scope s.heap.objs.size f cd)) (leaving (envOfC qual scope s.heap.objs.size f cd) e) (λ_ s''=>CX outer H s E e s'') (λe' s''=>CX outer H s E e' s'') s'
variable {sc scope:Scope}
theorem kZ {n:Nat} {x:Str} (h:sc.names.lookup x=some .cell):∃c,(cellsFrom n sc.names []).lookup x=some c:=by
 have q:=PySem.W.cellsFrom_some sc.names n [] (.inl h);exact Option.isSome_iff_exists.mp q
theorem pE {CX:CXT} {P:Program} {w:World} {K:PySem.W.Frag} {mg:B2} {base:Heap} {qual:Str} {outer:List Env} {E:XK} {us:List Value} {vs:List V}
  (S:FnScope N ps scope) (hd:A.handled=none) (e0:Env0 P w K mg base A outer s H) (hl:vs.length=ps.length) (r:aI vs us)
  (x:InCallC s s.heap.objs.size (bindL (envOfC qual scope s.heap.objs.size f cd).kindOf (ps.zip us) λ_=>none) (cellsFrom (s.heap.objs.size+1) scope.names []) (bindC (envOfC qual scope s.heap.objs.size f cd).kindOf (ps.zip us) λ_=>none) s1) :
  Inv (cxOf CX P w K mg base N qual scope f cd A outer s H E) [] (start N vs) H s1:=by
 have hpl:ps.length<=N.length:=by have:=congrArg List.length S.pre;rw[QJ]at this;omega
 obtain⟨h1,tk,rfl,hk⟩:=x.done;have noA:∀b:Addr,b∉(cxOf CX P w K mg base N qual scope f cd A outer s H E).ex:=λb z=>absurd (show b∈([]:B3) from z) (by simp)
 refine⟨⟨e0.mod,S.kind,rfl,rfl,Qi _,λy z c h1 h2=>?_,λy hy=>?_,λy c _ h=>?_,λ_=>hd,Around.frames_deeper e0.frames,.inr ⟨rfl,rfl⟩,λb z=>absurd z (noA b),e0.bs,e0.bsz,λb _ _=>noA b,λb z=>absurd z (noA b),e0.funs,e0.frf⟩,
  rfl,e0.bare,Un.kept hk,⟨_,x.toInCall.ns,λi y v h1 h2 h3=>?_⟩,λy c h=>⟨_,x.cell y c h⟩,e0.hok.fresh (Qi _),λy c h=>?_,λp hp=>absurd (show p∈([]:B1) from hp) (by simp),e0.hok.kept hk,?_⟩
 ·exact name_of_addr x.apart (PySem.mem_of_lookup h1) (PySem.mem_of_lookup h2)
 ·have hy:scope.names.lookup y=some .cell\/scope.names.lookup y=some .free:=hy;rcases hy with hy|hy
  ·exact kZ hy
  exact absurd rfl (S.nofree _ (PySem.mem_of_lookup hy))
 ·exact Nat.le_of_lt (x.above y c (PySem.mem_of_lookup h))
 ·have hi:i<vs.length:=by
   unfold start at h2;by_cases hi:i<vs.length
   ·exact hi
   rw[QW (by simpa using hi)]at h2;rw[List.getElem?_replicate]at h2
   split at h2 <;> cases h2
  have ha:vs[i]?=some v:=by
   unfold start at h2;rw[QZ (by simpa using hi),QB]at h2
   cases e:vs[i]? with
   | none=>rw[e]at h2;cases h2
   | some a=>rw[e]at h2;cases h2;rfl
  obtain⟨u,hu,rv⟩:=r.get ha
  have hp:ps[i]?=some y:=by
   rw[<-S.pre,List.getElem?_take_of_lt (by omega)];exact h1
  have ndP:ps.Nodup:=by rw[<-S.pre];exact S.nd.sublist (List.take_sublist _ _)
  refine⟨u,rv,?_⟩;rcases S.par y (Qz hp) with k|k
  ·exact .inl ⟨k,im ndP hp hu k⟩
  obtain⟨c,e⟩:=kZ (n:=s.heap.objs.size+1) k;refine .inr ⟨.inl k,c,e,?_⟩;have q:=x.cell y c e;rw[ip ndP hp hu (by show scope.names.lookup y≠_;rw[k];decide)]at q;exact q
 ·exact e0.hok.fresh (Nat.le_of_lt (x.above y c (PySem.mem_of_lookup h)))
 unfold start;show _=N.length;rw[Qg,Qb,List.length_replicate];omega
theorem u8 {CX:CXT} {P:Program} {w:World} {K:PySem.W.Frag} {mg:B2} {base:Heap} {k:Nat} {name qual:Str} {params:Arguments} {body:List Stmt} {kV:Value} {an od:Option Addr}
  {osl:Array (Option Value)} {sp:Sp} (lk:K.lookup f=some ⟨oc,od,.func (PySem.W.fnOf name qual params body scope dV kV doc pm an cdv ct),osl⟩) (hcd:PySem.W.codeIn K cdv qual=true) (S:FnScope N ps scope)
  (len:∀vs H Q E,sp vs H Q E->vs.length=ps.length)
  (hbody:∀(A:Around) (outer:List Env) (s:Shared) (H:Hp) (vs:List V) (Q:VK) (E:XK),Room k (A.deeper (envOfC qual scope s.heap.objs.size f cdv))->sp vs H Q E ->
   ∃t,PSs (cxOf CX P w K mg base N qual scope f cdv A outer s H E) body t/\t { nx:=λ_ H'=>Q .non H',rt:=Q } (start N vs) H) :
  FnOk P w K mg base CX (k+1) f (PySem.W.fnOf name qual params body scope dV kV doc pm an cdv ct) ps sp:=by
 refine⟨len,λA outer s H args us vs Q E hr e0 hb r hsp=>?_⟩;have hl:=len _ _ _ _ hsp;have KX:K.In s.heap:=e0.mod.kin.keeps λb o e=>(e0.bs b o e).1;have lim:s.heap.NoLimit:=e0.mod.nolimit.keeps λb o e=>(e0.bs b o e).1
 have hkind:∀y∈ps.zip us,scope.names.lookup y.1=some .local\/(scope.names.lookup y.1=some .cell/\((cellsFrom (s.heap.objs.size+1) scope.names []).lookup y.1).isSome=true):=λ⟨n,v⟩ hy=>by
  rcases S.par n (List.of_mem_zip hy).1 with q|q
  ·exact .inl q
  exact .inr ⟨q,PySem.W.cellsFrom_some _ _ _ (.inl q)⟩
 refine codeAny_call_function hr.depth (KX _ _ lk) rfl S.co S.gen rfl (PySem.W.codeRec_of KX hcd) (hb _ _ _ _ ?_);refine wpAny_newFunctionEnv_cells S.kind hkind λenv he s1 x=>?_;subst he;refine⟨lim.keeps x.toInCall.keep,codeAny_func ?_⟩;obtain⟨t,ht,hq⟩:=hbody A outer s H vs Q E (hr.deeper _) hsp;have I:Inv (cxOf CX P w K mg base N qual scope f cdv A outer s H E) [] (start N vs) H s1:=pE S hr.hd e0 hl r x;refine XQ (ht [] s1 (start N vs) H _ I hq) (λfl s' hs=>?_) λe s' hs=>hs
 have fin:∀{σ':St} {H':Hp} {v:V} {u:Value},Inv (cxOf CX P w K mg base N qual scope f cdv A outer s H E) [] σ' H' s'->aX v u->Q v H'->CE outer P w H s Q u s' :=
  λ{σ' H' v u} J rv q=>⟨v,H',J.os,J.bare,J.base,J.hok,rv,q⟩
 cases fl with
 | ret u =>
  obtain⟨v,σ',H',J,rv,q⟩:=hs;exact fin J rv q
 | next =>
  obtain⟨σ',H',J,q⟩:=hs;exact fin (v:=V.non) (u:=Value.none) J rfl q
 | brk =>
  obtain⟨_,_,_,q⟩:=hs;exact False.elim q
 | cont =>
 obtain⟨_,_,_,q⟩:=hs;exact False.elim q
section
variable {X:Cx} {x:Str} {p pos:Pos} {e:Expr} {es:List Expr} {t:TA} {id T:String} {r:List V->Hp->VK->Prop}
def tCB (r:List V->Hp->VK->Prop) (t:TA):TE:=λU H Q=>t U H λvs H1=>r vs H1 Q
theorem ah (hc:cW X (.builtin id) r) (hg:Gl X x) (hm:X.mg x=none) (hv:bootBuiltins x=some (.builtin id)) (ha:PA X (e::es) t) (hn:x ≠ "__name__" := by decide) (hdb:(x==("__debug__" : Str))=false:=by decide)
  (he:starEach (e::es) X.env=(false,eval e X.env)::starEach es X.env:=by rfl) (hpl:(backTo pos (starEach es X.env)).any (·.1)=false:=by rfl):PE X (.Call (.Name x p) (e::es) [] pos) (tCB r t):=by
 intro pins s U H Q I h;refine wpAny_Call_Name_kw (cH I hg hm hv ?_ hn hdb);exact PyProof.Rows.callWith_builtin1 (thn (ha pos pins s U H _ I h) λus s1 ⟨vs,H1,I1,r1,q1⟩=>hc pins s1 U H1 vs us Q I1 r1 q1) he hpl
theorem bN (hc:cW X (.type T) r) (hg:Gl X x) (hm:X.mg x=none) (hv:bootBuiltins x=some (.type T)) (ha:PA X (e::es) t) (hn:x ≠ "__name__" := by decide) (hdb:(x==("__debug__" : Str))=false:=by decide)
  (he:starEach (e::es) X.env=(false,eval e X.env)::starEach es X.env:=by rfl) (hpl:(backTo pos (starEach es X.env)).any (·.1)=false:=by rfl):PE X (.Call (.Name x p) (e::es) [] pos) (tCB r t):=by
 intro pins s U H Q I h;refine wpAny_Call_Name_kw (cH I hg hm hv ?_ hn hdb);exact Xx (thn (ha pos pins s U H _ I h) λus s1 ⟨vs,H1,I1,r1,q1⟩=>hc pins s1 U H1 vs us Q I1 r1 q1) he hpl
end
end L2
namespace HT
open PySem PyProof.Rows
section
open PySem.SeqAt
open PySem.AutoSeq1 (wpAny_loadPart')
open PySem.MeetsSeq PySem.MeetsSeq2 PySem.MeetsSeq3
end
section
variable {prog:Program} {w:World} {A:Around} {E:B0} {s:Shared}
def sIx (n d:Nat):Option Int->Nat
 | none=>d
 | some v=>if v<0 then (v+(n:Int)).toNat else min v.toNat n
theorem jZ (n d:Nat):sIx n d none=d:=rfl
theorem nu (n d k:Nat):sIx n d (some (k:Int))=min k n:=by
 show (if (k:Int)<0 then ((k:Int)+(n:Int)).toNat else min (k:Int).toNat n)=min k n;rw[Qt (by omega),Q6]
end
end HT
namespace L2
open PySem PySem.Spec PyProof.Rows
abbrev TO:=St->Hp->(Option Int->Hp->Prop)->Prop
def PO (X:Cx) (e:Option Expr) (t:TO):Prop :=
 ∀(pins:B1) (s:Shared) (U:St) (H:Hp) (Q:Option Int->Hp->Prop),Inv X pins U H s->t U H Q ->
  wpAny (model X.prog X.w) X.A (evalPart e X.env) (λu s'=>∃o H',Inv X pins U H' s'/\IsPart u o/\Q o H') X.xe s
def mQ:TO:=λ_ H Q=>Q none H
def ux (t:TE):TO:=λU H Q=>t U H λx H1=>∃i,x=.int i/\Q (some i) H1
section
variable {X:Cx} {e:Expr} {te:TE} {lo hi:Option Expr} {tl th:TO} {pos p2:Pos}
theorem eC:PO X none mQ:=by
 intro pins s U H Q I h;rw[evalPart_none];exact Qf ⟨none,H,I,.none,h⟩
theorem eB (h:PE X e te):PO X (some e) (ux te):=by
 intro pins s U H Q I hw;rw[evalPart_some];refine thn (h pins s U H _ I hw) λu s1 ⟨x,H1,I1,r1,q1⟩=>?_;obtain⟨i,rfl,q⟩:=q1;obtain⟨t,rfl⟩:=r1;exact⟨some i,H1,I1,.int i t,q⟩
def SlR (X:Cx) (r:V->Option Int->Option Int->Hp->VK->Prop):Prop :=
 ∀(pins:B1) (s:Shared) (U:St) (H:Hp) (x:V) (v vl vu:Value) (lo hi:Option Int) (sl:Addr) (Q:VK),Inv X pins U H s->aX x v->s.heap.IsSliceOf sl vl vu .none->IsPart vl lo->IsPart vu hi->r x lo hi H Q ->
  ∃T id,typeLookup (.type T) "__getitem__" = pure (some (.builtin id))/\s.TypeIs v T/\wpAny (model X.prog X.w) X.A (getItem v (.ref sl)) (EP X pins U Q) X.xe s
def tSl (r:V->Option Int->Option Int->Hp->VK->Prop) (te:TE) (tl th:TO):TE:=λU H Q=>te U H λx H1=>tl U H1 λl H2=>th U H2 λu H3=>r x l u H3 Q
theorem dj {r:V->Option Int->Option Int->Hp->VK->Prop} (hr:SlR X r) (he:PE X e te) (hl:PO X lo tl) (hu:PO X hi th):PE X (.Subscript e (.Slice lo hi none p2) pos) (tSl r te tl th):=by
 intro pins s U H Q I h;refine Subscript_ (thn (he pins s U H _ I h) λv s1 ⟨x,H1,I1,r1,q1⟩=>?_);refine wpAny_Slice (thn (hl pins s1 U H1 _ I1 q1) λvl s2 ⟨l,H2,I2,pl,q2⟩=>thn (hu pins s2 U H2 _ I2 q2) λvu s3 ⟨u,H3,I3,pu,q3⟩=>?_);rw[evalPart_none];refine Qf ?_;have I4:Inv X pins U H3 { s3 with heap:=s3.heap.push { cls:=.type "slice", data:=.fields #[vl,vu,.none] } }:=I3.kept (t':=s3.toks) λb ob q=>Qd _ q;obtain⟨T,id,hT,ht,hg⟩:=hr pins { s3 with heap:=s3.heap.push { cls:=.type "slice", data:=.fields #[vl,vu,.none] } } U H3 x v vl vu l u s3.heap.objs.size Q I4 r1 (Heap.IsSliceOf.new ..) pl pu q3;show wpAny (model X.prog X.w) X.A (subscriptTail e (.Slice lo hi none p2) v (.ref s3.heap.objs.size)) (EP X pins U Q) X.xe { s3 with heap:=s3.heap.push { cls:=.type "slice", data:=.fields #[vl,vu,.none] } };exact tail_any (ops:=[.ref s3.heap.objs.size,v]) ht hT hg (by with_unfolding_all rfl)
def i7 (xs:List V) (lo hi:Option Int):List V:=(xs.drop (HT.sIx xs.length 0 lo)).take (HT.sIx xs.length xs.length hi-HT.sIx xs.length 0 lo)
theorem kU (xs:List V) (lo hi:Option Int):(i7 xs lo hi).length<=xs.length:=by
 unfold i7;rw[QJ,QU];omega
end
def ixN (n:Nat) (i:Int):Option Nat:=if 0<=i then (if i<n then some i.toNat else none) else if -(n:Int)<=i then some (i+n).toNat else none
def atI {α:Type} (xs:List α) (i:Int):Option α:=(ixN xs.length i).bind λj=>xs[j]?
theorem fT {n:Nat} {i:Int} {j:Nat} (h:ixN n i=some j):seqIndex? i n=some j/\j<n/\-(n:Int)<=i/\i<n:=by
 unfold ixN at h;by_cases h0:0<=i
 ·rw[Qu h0]at h;by_cases h1:i<n
  ·rw[Qu h1]at h;have e:i.toNat=j:=QL h;exact⟨by rw[seqIndex_of h0 h1,e],by omega,by omega,h1⟩
  rw[Qt h1]at h;cases h
 rw[Qt h0]at h;by_cases h1:-(n:Int)<=i
 ·rw[Qu h1]at h;have e:(i+n).toNat=j:=QL h;exact⟨by rw[seqIndex_neg (by omega) h1,e],by omega,h1,by omega⟩
 rw[Qt h1]at h;cases h
theorem je {α:Type} {xs:List α} {i:Int} {v:α} (h:atI xs i=some v):∃j,seqIndex? i xs.length=some j/\xs[j]?=some v/\j<xs.length/\-(xs.length:Int)<=i/\i<xs.length:=by
 unfold atI at h
 cases e:ixN xs.length i with
 | none=>rw[e]at h;cases h
 | some j =>
 rw[e]at h;obtain⟨h1,h2,h3,h4⟩:=fT e;exact⟨j,h1,h,h2,h3,h4⟩
theorem bv {α:Type} {xs:List α} {j:Nat} {v:α} (h:xs[j]?=some v):atI xs (j:Int)=some v:=by
 have hj:j<xs.length:=(Ql.mp h).1
 have e:ixN xs.length (j:Int)=some j:=by
  unfold ixN;rw[Qu (by omega),Qu (by omega)];simp
 unfold atI;rw[e];exact h
def uu (b:Expr):Prop:=∀o i,subscripted b false o i=operate [o,i] (getItem o i)
def IxR (X:Cx) (r:R2):Prop :=
 ∀(value slice:Expr) (pins:B1) (s:Shared) (U:St) (H:Hp) (x y:V) (v u:Value) (Q:VK),Inv X pins U H s->aX x v->aX y u->r x y H Q ->
  subscripted slice false v u=operate [v,u] (getItem v u)->wpAny (model X.prog X.w) X.A (subscriptTail value slice v u) (EP X pins U Q) X.xe s
def MtR (X:Cx) (id:String) (r:V->List V->Hp->VK->Prop):Prop :=
 ∀(pins:B1) (s:Shared) (U:St) (H:Hp) (x:V) (xs:List V) (v:Value) (us:List Value) (Q:VK),Inv X pins U H s->aX x v->aI xs us->r x xs H Q ->
  wpAny (model X.prog X.w) X.A (call (.builtin id) (v::us)) (EP X pins U Q) X.xe s
section
variable {X:Cx} {a b:Expr} {ta tb:TE} {pos:Pos}
theorem IxR.or {r r':R2} (h:IxR X r) (h':IxR X r'):IxR X (λx y H Q=>r x y H Q\/r' x y H Q):=by
 intro value slice pins s U H x y v u Q I rx ry q hs;rcases q with q|q
 ·exact h value slice pins s U H x y v u Q I rx ry q hs
 exact h' value slice pins s U H x y v u Q I rx ry q hs
theorem au {r:R2} (hr:IxR X r) (ha:PE X a ta) (hb:PE X b tb) (hs:uu b:=by exact λ_ _=>rfl):PE X (.Subscript a b pos) (tOp r ta tb):=by
 intro pins s U H Q I h;exact Subscript_ (wM ha hb I h λv u s2 x y H2 I2 rx ry q=>hr a b pins s2 U H2 x y v u Q I2 rx ry q (hs _ _))
def gM (K:PySem.W.Frag):R2:=λx y H Q=>∃p xs i v,x=.ref p/\y=.int i/\SqL K H p xs/\atI xs i=some v/\Q v H
def lV (K:PySem.W.Frag):R2:=λx y H Q=>∃p xs i v,x=.ref p/\y=.int i/\SqT K H p xs/\atI xs i=some v/\Q v H
def oP:R2:=λx y H Q=>∃z i c,x=.str z/\y=.int i/\z.length<=sizeLine/\atI z.cps.toList i=some c/\Q (.str ⟨#[c]⟩) H
theorem bn:IxR X (gM X.K):=by
 intro value slice pins s U H x y v u Q I rx ry h hs;obtain⟨p,xs,i,z,rfl,rfl,hq,he,q⟩:=h;cases rx;obtain⟨t,rfl⟩:=ry;obtain⟨its,r,pl,hz⟩:=I.list hq;obtain⟨j,h1,h2,h3,h4,h5⟩:=je he;obtain⟨w,ew,rw'⟩:=r.get h2;have hl:=r.length;have hn:=ff;have fin:EP X pins U Q w s:=⟨z,H,I,rw',q⟩;by_cases h0:0<=i
 ·have hj:i.toNat=j:=by
   rw[seqIndex_of h0 h5]at h1;exact QL h1
  exact item_listR pl.isList h0 (by omega) (by rw[hj];simpa using ew) fin hs
 have hj:(i+(its.toArray.size:Int)).toNat=j:=by
  rw[seqIndex_neg (by omega) h4]at h1;rw[Qk,<-hl];exact QL h1
 exact subscriptTail_builtinR (x:=w) pl.isList.typeIs slot_list_getitem.lookup
  (wpAny_getItem_list_neg (Q:=λr s'=>r=w/\EP X pins U Q r s') pl.isList (by omega) (by rw[Qk] <;> omega) (by omega) (by rw[hj];simpa using ew) ⟨rfl,fin⟩) hs
theorem aB:IxR X (lV X.K):=by
 intro value slice pins s U H x y v u Q I rx ry h hs;obtain⟨p,xs,i,z,rfl,rfl,hq,he,q⟩:=h;cases rx;obtain⟨t,rfl⟩:=ry;obtain⟨its,r,pl,hz⟩:=I.tuple hq;obtain⟨j,h1,h2,h3,h4,h5⟩:=je he;obtain⟨w,ew,rw'⟩:=r.get h2;have hl:=r.length;have hn:=ff;have fin:EP X pins U Q w s:=⟨z,H,I,rw',q⟩
 exact subscriptTail_builtinR (x:=w) pl.typeIs slot_tuple_getitem.lookup
  (getItem_tuple (j:=j) (Q:=λr s'=>r=w/\EP X pins U Q r s') pl (by omega) (by omega) (by rw[Qk,<-hl];exact h1) (by simpa using ew) ⟨rfl,fin⟩) hs
theorem iY:IxR X oP:=by
 intro value slice pins s U H x y v u Q I rx ry h hs;obtain⟨z,i,c,rfl,rfl,hz,he,q⟩:=h;obtain⟨t,rfl⟩:=rx;obtain⟨t',rfl⟩:=ry;obtain⟨j,h1,h2,h3,h4,h5⟩:=je he;have hl:z.cps.toList.length=z.length:=by simp[Str.length]
 rw[hl]at h1 h4 h5;have hn:=ff
 exact tail_any (typeIs_str s z t) slot_str_getitem.lookup (getItem_str (c:=c) (by
  have e1:decide (i < -(2 ^ 63:Int))=false:=QE (by omega);have e2:decide (i>=2 ^ 63)=false:=QE (by omega)
  rw[e1,e2,Bool.or_false]) (by rw[h1];simpa using h2) ⟨.str ⟨#[c]⟩,H,I.tok _,⟨_,rfl⟩,q⟩) hs
theorem mh (its:List Value) (n j:Nat) (u:Value):Obj.mapSeq (·.setIfInBounds j u) { cls:=.type "list", data:=.seq its.toArray n }={ cls:=.type "list", data:=.seq (its.set j u).toArray n }:=by
 simp[Obj.mapSeq]
variable {s:Shared} {pins:B1}
theorem Inv.lst {U:St} {H:Hp} {p:Addr} {xs:List V} (I:Inv X pins U H s) (h:H p=some (.lst xs)) :
  ∃(its:List Value) (n:Nat),aI xs its/\s.heap.get? p=some { cls:=.type "list", data:=.seq its.toArray n }/\xs.length<=sizeLine:=by
 obtain⟨z,its,n,r,e⟩:=I.hok p _ h;exact⟨its,n,r,e,z⟩
theorem Inv.lstUpd {U:St} {H:Hp} {p:Addr} {xs ys:List V} {its its':List Value} {n n':Nat} {f:Obj->Obj} (I:Inv X pins U H s) (h:H p=some (.lst xs))
  (ho:s.heap.get? p=some { cls:=.type "list", data:=.seq its.toArray n }) (hf:f { cls:=.type "list", data:=.seq its.toArray n }={ cls:=.type "list", data:=.seq its'.toArray n' }) (r:aI ys its') (hz:ys.length<=sizeLine) (t:Nat) :
  Inv X pins U (upd H p (.lst ys)) { s with heap:=s.heap.update p f,toks:=t }:=by
 have e:(s.heap.update p f).get? p=some { cls:=.type "list", data:=.seq its'.toArray n' }:=by
  rw[Xe f ho (by rw[hf] <;> rfl),hf]
 refine I.write (x:=p) (e:=p) (by rw[h];trivial) (.inl rfl) (λb u hb q=>(Q9 _ _ (Ne.symm hb)).trans q) ⟨_,e⟩ ?_;exact⟨hz,its',n',r,e⟩
def uG:V->V->V->Hp->(Hp->Prop)->Prop:=λo i v H Q=>∃p xs k j,o=.ref p/\i=.int k/\H p=some (.lst xs)/\ixN xs.length k=some j/\Q (upd H p (.lst (xs.set j v)))
theorem qu:An X uG:=by
 intro pins s U H o i v ov iv u Q I ro ri rv h;obtain⟨p,xs,k,j,rfl,rfl,hp,hj,q⟩:=h;cases ro;obtain⟨t,rfl⟩:=ri;obtain⟨its,n,r,ho,hz⟩:=I.lst hp;obtain⟨h1,h2,h3,h4⟩:=fT hj;have hl:=r.length;have hn:=ff
 have I':Inv X pins U (upd H p (.lst (xs.set j v))) { s with heap:=s.heap.update p (Obj.mapSeq (·.setIfInBounds j u)) } :=
  I.lstUpd hp ho (mh its n j u) (r.set rv j) (by rw[List.length_set];exact hz) s.toks
 by_cases h0:0<=k
 ·have hk:k.toNat=j:=by
   rw[seqIndex_of h0 h4]at h1;exact QL h1
  exact PySem.W.ki_setAt ho h0 (by omega) (by rw[Qk,<-hl];exact h4) (by rw[hk];exact⟨_,I',q⟩)
 have hk:(k+(its.toArray.size:Int)).toNat=j:=by
  rw[seqIndex_neg (by omega) h3]at h1;rw[Qk,<-hl];exact QL h1
 exact PySem.W.ki_setBack ho (by omega) (by rw[Qk,<-hl];exact h3) (by omega) (by rw[hk];exact⟨_,I',q⟩)
theorem uE (i:Int) (n:Nat):max 0 (min (if i<0 then i+(n:Int) else i) (n:Int))=(((if i<0 then (i+(n:Int)).toNat else min i.toNat n):Nat):Int):=by
 by_cases h:i<0
 ·rw[Qu h,Qu h,Int.min_eq_left (by omega)];omega
 obtain⟨k,rfl⟩:=Int.eq_ofNat_of_zero_le (Int.not_lt.mp h);rw[Qt h,Qt h,Q6];omega
theorem iE (lo hi:Option Int) (n:Nat):(sliceBounds lo hi none n).1=((HT.sIx n 0 lo:Nat):Int)/\(sliceBounds lo hi none n).2.1=((HT.sIx n n hi:Nat):Int)/\(sliceBounds lo hi none n).2.2=1:=by
 refine⟨?_,?_,rfl⟩
 ·cases lo with
  | none=>simp[sliceBounds,HT.sIx]
  | some i =>
   simp only[sliceBounds,HT.sIx,Option.getD_none,show (1:Int)>0 by decide,if_true];exact uE i n
 cases hi with
 | none=>simp[sliceBounds,HT.sIx]
 | some i =>
 simp only[sliceBounds,HT.sIx,Option.getD_none,show (1:Int)>0 by decide,if_true];exact uE i n
theorem gL (its:List Value) (lo hi:Option Int):slicePick its.toArray lo hi none=((its.drop (HT.sIx its.length 0 lo)).take (HT.sIx its.length its.length hi-HT.sIx its.length 0 lo)).toArray:=by
 obtain⟨h1,h2,h3⟩:=iE lo hi its.toArray.size;unfold slicePick;rw[h1,h2,h3];simp only[sliceRange_one,pick_run,Qk] <;> rfl
def wY (K:PySem.W.Frag):V->Option Int->Option Int->Hp->VK->Prop:=λx lo hi H Q=>∃a xs,x=.ref a/\SqL K H a xs/\∀p,H p=none->Q (.ref p) (upd H p (.lst (i7 xs lo hi)))
theorem np:SlR X (wY X.K):=by
 intro pins s U H x v vl vu lo hi sl Q I rx hs pl pu h;obtain⟨a,xs,rfl,hx,q⟩:=h;cases rx;obtain⟨its,r,ht,hz⟩:=I.list hx;have hlen:=r.length;refine⟨"list", _,slot_list_getitem.lookup,ht.isList.typeIs,?_⟩;refine wpAny_getItem_list_slice ht.isList hs pl pu .none (by simp) ?_ (by rw[Qk] <;> omega);rw[gL,<-hlen];refine⟨.ref s.heap.objs.size,_,I.laid (t':=s.toks) (o:=.lst (i7 xs lo hi)) (λb ob q=>Qd _ q) (Qi _) ?_,rfl,q _ (I.hok.fresh (Qi _))⟩;exact⟨QO (kU xs lo hi) hz,_,0,(r.drop (HT.sIx xs.length 0 lo)).take (HT.sIx xs.length xs.length hi-HT.sIx xs.length 0 lo),Qv _ rfl⟩
def cv:V->Bool
 | .non=>true
 | .bl _=>true
 | .int _=>true
 | .str _=>true
 | _=>false
def eqV:V->V->Bool
 | .non,.non=>true
 | .bl a,.bl b=>a==b
 | .bl a,.int b=>(if a then 1 else 0)==b
 | .int a,.bl b=>a==(if b then 1 else 0)
 | .int a,.int b=>a==b
 | .str a,.str b=>a==b
 | _,_=>false
variable {u v:Value}
theorem sv {A:Around} {y x:V} (ry:aX y u) (rx:aX x v) (fy:cv y=true) (fx:cv x=true):SeqAt.EqAt A s u v (eqV y x):=by
 cases y with
 | non =>
  cases ry
  cases x with
  | non=>cases rx;exact SeqAt.EqAt.same _
  | bl b=>cases rx;exact SeqAt.EqAt.none_bool b
  | int b=>obtain⟨t,rfl⟩:=rx;exact SeqAt.EqAt.none_int b t
  | str b=>obtain⟨t,rfl⟩:=rx;exact SeqAt.EqAt.none_str b t
  | _=>exact absurd (show false=true from fx) Qh
 | bl a =>
  cases ry
  cases x with
  | non=>cases rx;exact SeqAt.EqAt.bool_none a
  | bl b=>cases rx;exact SeqAt.EqAt.bool_bool a b
  | int b=>obtain⟨t,rfl⟩:=rx;exact SeqAt.EqAt.bool_int a b t
  | str b=>obtain⟨t,rfl⟩:=rx;exact SeqAt.EqAt.bool_str a b t
  | _=>exact absurd (show false=true from fx) Qh
 | int a =>
  obtain⟨t',rfl⟩:=ry
  cases x with
  | non=>cases rx;exact SeqAt.EqAt.int_none a t'
  | bl b=>cases rx;exact SeqAt.EqAt.int_bool a t' b
  | int b=>obtain⟨t,rfl⟩:=rx;exact SeqAt.EqAt.int_int a t' b t
  | str b=>obtain⟨t,rfl⟩:=rx;exact SeqAt.EqAt.int_str a t' b t
  | _=>exact absurd (show false=true from fx) Qh
 | str a =>
  obtain⟨t',rfl⟩:=ry
  cases x with
  | non=>cases rx;exact SeqAt.EqAt.str_none a t'
  | bl b=>cases rx;exact SeqAt.EqAt.str_bool a t' b
  | int b=>obtain⟨t,rfl⟩:=rx;exact SeqAt.EqAt.str_int a t' b t
  | str b=>obtain⟨t,rfl⟩:=rx;exact SeqAt.EqAt.str_str a t' b t
  | _=>exact absurd (show false=true from fx) Qh
 | _=>exact absurd (show false=true from fy) Qh
def eqU (x:V) (u:Value):Bool:=match u with
 | .none=>eqV .non x
 | .bool b=>eqV (.bl b) x
 | .int i _=>eqV (.int i) x
 | .str z _=>eqV (.str z) x
 | _=>false
theorem su {x y:V} (r:aX y u) (f:cv y=true):eqU x u=eqV y x:=by
 cases y with
 | non=>cases r;rfl
 | bl b=>cases r;rfl
 | int i=>obtain⟨t,rfl⟩:=r;rfl
 | str z=>obtain⟨t,rfl⟩:=r;rfl
 | _=>exact absurd (show false=true from f) Qh
theorem eS {x:V}:∀{xs:List V} {us:List Value},aI xs us->xs.all cv=true->us.any (eqU x)=xs.any λy=>eqV y x
 | _,_,.nil,_=>rfl
 | y::xs,u::us,.cons r t,f=>by
  rw[List.all_cons,XI]at f;rw[List.any_cons,List.any_cons,su r f.1,eS t f.2]
theorem dv {A:Around} {s:Shared} {x:V} {v:Value} (rx:aX x v) (fx:cv x=true):∀{xs:List V} {us:List Value},aI xs us->xs.all cv=true->∀u∈us,SeqAt.EqAt A s u v (eqU x u)
 | _,_,.nil,_=>λu hu=>by cases hu
 | y::xs,u::us,.cons r t,f=>λu' hu=>by
  rw[List.all_cons,XI]at f;rcases Qw.mp hu with rfl|hu
  ·rw[su r f.1];exact sv r rx f.1 fx
  exact dv rx fx t f.2 u' hu
def inV (x:V) (xs:List V):Bool:=xs.any λy=>eqV y x
def rIn (K:PySem.W.Frag) (neg:Bool):R2:=λx y H Q=>∃p xs,y=.ref p/\(SqL K H p xs\/SqT K H p xs)/\cv x=true/\xs.all cv=true/\Q (.bl (if neg then !inV x xs else inV x xs)) H
theorem hC:OpR X (compareOp .In) (rIn X.K false):=by
 intro pins s U H x y v u Q I rx ry h;obtain⟨p,xs,rfl,hq,fx,fs,q⟩:=h;cases ry;rcases hq with hq|hq
 ·obtain⟨its,r,pl,hz⟩:=I.list hq;refine SeqAt.in_listAt (eqU x) pl.isList (λw hw=>dv rx fx r fs w (by simpa using hw)) ⟨.bl _,H,I,rfl,?_⟩;rw[show its.toArray.any (eqU x)=its.any (eqU x) by simp,eS r fs];exact q
 obtain⟨its,r,pl,hz⟩:=I.tuple hq;refine SeqAt.in_tupleAt (eqU x) pl (λw hw=>dv rx fx r fs w (by simpa using hw)) ⟨.bl _,H,I,rfl,?_⟩;rw[show its.toArray.any (eqU x)=its.any (eqU x) by simp,eS r fs];exact q
theorem iO:OpR X (compareOp .NotIn) (rIn X.K true):=by
 intro pins s U H x y v u Q I rx ry h;obtain⟨p,xs,rfl,hq,fx,fs,q⟩:=h;cases ry;rcases hq with hq|hq
 ·obtain⟨its,r,pl,hz⟩:=I.list hq;refine SeqAt.notIn_listAt (eqU x) pl.isList (λw hw=>dv rx fx r fs w (by simpa using hw)) ⟨.bl _,H,I,rfl,?_⟩;rw[show its.toArray.any (eqU x)=its.any (eqU x) by simp,eS r fs];exact q
 obtain⟨its,r,pl,hz⟩:=I.tuple hq;refine SeqAt.notIn_tupleAt (eqU x) pl (λw hw=>dv rx fx r fs w (by simpa using hw)) ⟨.bl _,H,I,rfl,?_⟩;rw[show its.toArray.any (eqU x)=its.any (eqU x) by simp,eS r fs];exact q
theorem av:cW X (.builtin "len") (λxs H Q=>∃p ys,xs=[.ref p]/\(SqL X.K H p ys\/SqT X.K H p ys)/\Q (.int ys.length) H):=by
 intro pins s U H xs us Q I r h;obtain⟨p,ys,rfl,hq,q⟩:=h;obtain⟨u,rfl,rx⟩:=cI r;cases rx;have hn:=ff;rcases hq with hq|hq
 ·obtain⟨its,r',pl,hz⟩:=I.list hq;have hlen:=r'.length;exact Calls.call_len_list pl.isList (by simp only[Qk] <;> omega) ⟨.int ys.length,H,I.tok _,⟨s.toks+1,by rw[Qk,hlen]⟩,q⟩
 obtain⟨its,r',pl,hz⟩:=I.tuple hq;have hlen:=r'.length;exact len_tuple pl (by simp only[Qk] <;> omega) ⟨.int ys.length,H,I.tok _,⟨s.toks+1,by rw[Qk,hlen]⟩,q⟩
theorem eQ:cW X (.builtin "len") (λxs H Q=>∃z,xs=[.str z]/\z.length<=sizeLine/\Q (.int z.length) H):=by
 intro pins s U H xs us Q I r h;obtain⟨z,rfl,hz,q⟩:=h;obtain⟨u,rfl,t,rfl⟩:=cI r;have hn:=ff;exact len_str (by omega) ⟨.int z.length,H,I.tok _,⟨_,rfl⟩,q⟩
theorem c_:cW X (.type "list") (λxs H Q=>∃p ys,xs=[.ref p]/\(SqL X.K H p ys\/SqT X.K H p ys)/\∀l,H l=none->Q (.ref l) (upd H l (.lst ys))):=by
 intro pins s U H xs us Q I r h;obtain⟨p,ys,rfl,hq,q⟩:=h;obtain⟨u,rfl,rx⟩:=cI r;cases rx
 have fin:∀(its:List Value),aI ys its->ys.length<=sizeLine->∀(h':Heap) (c':Nat),(∀b o',s.heap.get? b=some o'->h'.get? b=some o') ->
   h'.get? s.heap.objs.size=some { cls:=.type "list", dict:=none,data:=.seq its.toArray c',slots:=#[] }->EP X pins U Q (.ref s.heap.objs.size) { s with heap:=h' }:=λits r' hz h' c' kp e =>
  ⟨.ref s.heap.objs.size,_,I.laid (t':=s.toks) kp (Qi _) (show bi X.prog X.w _ h' _ (.lst ys) from⟨hz,its,c',r',e⟩),rfl,q _ (I.hok.fresh (Qi _))⟩
 rcases hq with hq|hq
 ·obtain⟨its,r',pl,hz⟩:=I.list hq;have hlen:=r'.length;obtain⟨o,ho,hc,n,hd⟩:=pl.isList;exact call_list_seq p (.inl rfl) ho hc hd (λh' c' kp e=>fin its r' hz h' c' kp e) (by simp only[Qk] <;> omega)
 obtain⟨its,r',pl,hz⟩:=I.tuple hq;have hlen:=r'.length;obtain⟨o,ho,hc,n,hd⟩:=pl;exact call_list_seq p (.inr rfl) ho hc hd (λh' c' kp e=>fin its r' hz h' c' kp e) (by simp only[Qk] <;> omega)
def tyV (K:PySem.W.Frag) (T:String) (x:V) (H:Hp):Prop:=match x with
 | .str _=>T = "str"
 | .int _=>T = "int"
 | .ref p=>(T = "list" /\ ∃xs,SqL K H p xs)\/(T = "tuple" /\ ∃o,K.lookup p=some o/\o.cls=.type "tuple" /\ o.dict=none) \/
   (T = "dict" /\ ((∃kvs,H p=some (.dK kvs))\/∃kvs,H p=some (.dT kvs)))\/(T = "set" /\ ∃S n,H p=some (.set S n))
 | _=>False
theorem pX {U:St} {H:Hp} {T:String} {x:V} (I:Inv X pins U H s) (r:aX x v) (ty:tyV X.K T x H) :
  s.TypeIs v T/\∀a,v=.ref a->∃ob,s.heap.get? a=some ob/\ob.dict=none:=by
 cases x with
 | str z =>
  obtain⟨t,rfl⟩:=r;cases (show T = "str" from ty);exact⟨typeIs_str s z t,λ_ e=>nomatch e⟩
 | int i =>
  obtain⟨t,rfl⟩:=r;cases (show T = "int" from ty);exact⟨typeIs_int s i t,λ_ e=>nomatch e⟩
 | ref p =>
  cases r;rcases ty with⟨rfl,xs,hq⟩|⟨rfl,o,hk,hc,hd⟩|⟨rfl,hk⟩|⟨rfl,S,n,hk⟩
  ·obtain⟨its,_,pl,_⟩:=I.list hq;refine⟨pl.isList.typeIs,λa e=>?_⟩;cases e;obtain⟨o,n,e,c,hd,_⟩:=pl;exact⟨o,e,hd⟩
  ·refine⟨⟨o,I.kIn p o hk,hc⟩,λa e=>?_⟩;cases e;exact⟨o,I.kIn _ o hk,hd⟩
  ·have z:∃o,s.heap.get? p=some o/\o.ExactDict:=by
    rcases hk with⟨kvs,hk⟩|⟨kvs,hk⟩
    ·obtain⟨_,_,_,_,o,_,_,e,ex,_⟩:=I.hok p _ hk;exact⟨o,e,ex⟩
    obtain⟨_,_,_,_,o,_,_,e,ex,_⟩:=I.hok p _ hk;exact⟨o,e,ex⟩
   obtain⟨o,e,ex⟩:=z;refine⟨⟨o,e,ex.1⟩,λa e2=>?_⟩;cases e2;exact⟨o,e,ex.2.1⟩
  obtain⟨o,_,_,_,e,ex,_⟩:=I.hok p _ hk;refine⟨⟨o,e,ex.1⟩,λa e2=>?_⟩;cases e2;exact⟨o,e,ex.2.1⟩
 | _=>exact False.elim ty
def wT (K:PySem.W.Frag) (T:String) (r:V->List V->Hp->VK->Prop) (to:TE):TE:=λU H Q=>to U H λx H1=>tyV K T x H1/\r x [] H1 Q
def tBM (K:PySem.W.Frag) (T:String) (r:V->List V->Hp->VK->Prop) (to:TE) (t:TA):TE:=λU H Q=>to U H λx H1=>tyV K T x H1/\t U H1 λxs H2=>r x xs H2 Q
variable {o e:Expr} {es:List Expr} {to:TE} {t:TA} {name:Str} {apos cpos:Pos} {T id:String} {r:V->List V->Hp->VK->Prop}
theorem vT (pa:PlainAttrs T) (slot:Slot T name id) (hty:typeOf (.builtin id)=pure (.type "method_descriptor")) (hm:MtR X id r) (ho:PE X o to)
  (hbase:attributeBase o name X.env (eval o X.env)=eval o X.env:=by rfl) (hline:(apos.endLine==cpos.line)=true:=by rfl):PE X (.Call (.Attribute o name apos) [] [] cpos) (wT X.K T r to):=by
 intro pins s U H Q I h;refine wpAny_Call_method0_late hbase hline (thn (ho pins s U H _ I h) λv s1 ⟨x,H1,I1,r1,ty,q1⟩=>?_);obtain⟨h1,h2⟩:=pX I1 r1 ty;exact⟨T,id,pa,slot,hty,h1,h2,Calls.callWith_builtin rfl (PySem.evalArgs_none (hm pins s1 U H1 x [] v [] Q I1 r1 .nil q1))⟩
theorem bt (pa:PlainAttrs T) (slot:Slot T name id) (hty:typeOf (.builtin id)=pure (.type "method_descriptor")) (hm:MtR X id r) (ho:PE X o to) (ha:PA X (e::es) t)
  (hbase:attributeBase o name X.env (eval o X.env)=eval o X.env:=by rfl)
  (hfew:((backTo cpos (starEach (e::es) X.env)).all (fun x=>!x.1)&&(backToKw cpos (keywordEach [] X.env)).all (fun x=>x.1.isSome)
   && decide ((e::es).length+([]:List Keyword).length+(if ([]:List Keyword).isEmpty then 0 else 1)<30))=true:=by rfl)
  (hline:(apos.endLine==cpos.line)=true:=by rfl) (hs:starEach (e::es) X.env=(false,eval e X.env)::starEach es X.env:=by rfl) (hplain:(backTo cpos (starEach es X.env)).any (·.1)=false:=by rfl) :
  PE X (.Call (.Attribute o name apos) (e::es) [] cpos) (tBM X.K T r to t):=by
 intro pins s U H Q I h;refine wpAny_Call_method_late hbase hfew hline rfl (thn (ho pins s U H _ I h) λv s1 ⟨x,H1,I1,r1,ty,q1⟩=>?_);obtain⟨h1,h2⟩:=pX I1 r1 ty;refine⟨T,id,pa,slot,hty,h1,h2,?_⟩;have hA:=ha cpos pins s1 U H1 _ I1 q1;rw[hs]at hA ⊢;refine Calls.callWith_builtin (by show (false || (backTo cpos (starEach es X.env)).any (·.1))=false;rw[hplain] <;> rfl) (Calls.evalArgs_plain ?_);exact thn hA λus s2 ⟨vs,H2,I2,r2,q2⟩=>hm pins s2 U H2 x vs v us Q I2 r1 r2 q2
end
def MtM (X:Cx) (id:String) (r:V->List V->Hp->VK->Prop):Prop :=
 ∀(pins:B1) (s:Shared) (U:St) (H:Hp) (x:V) (xs:List V) (v:Value) (us:List Value) (Q:VK),Inv X pins U H s->aX x v->aI xs us->r x xs H Q ->
  wpAny (model X.prog X.w) X.A (call (.builtin id) (v::us)) (EP X pins U Q) X.xe s
theorem aI.one:∀{x:V} {us:List Value},aI [x] us->∃u,us=[u]/\aX x u
 | _,_,.cons r .nil=>⟨_,rfl,r⟩
theorem aI.two:∀{x y:V} {us:List Value},aI [x,y] us->∃u v,us=[u,v]/\aX x u/\aX y v
 | _,_,_,.cons r (.cons q .nil)=>⟨_,_,rfl,r,q⟩
theorem aI.zero:∀{us:List Value},aI [] us->us=[]
 | _,.nil=>rfl
theorem aI.dropLast {xs:List V} {us:List Value} (h:aI xs us):aI xs.dropLast us.dropLast:=by
 induction h with
 | nil=>exact .nil
 | cons r t ih =>
 cases t with
 | nil=>exact .nil
 | cons q t'=>exact .cons r ih
theorem aI.eraseIdx:∀{xs:List V} {us:List Value} (i:Nat),aI xs us->aI (xs.eraseIdx i) (us.eraseIdx i)
 | _,_,_,.nil=>.nil
 | _,_,0,.cons _ t=>t
 | _,_,i+1,.cons r t=>.cons r (aI.eraseIdx i t)
theorem aI.reverse {xs:List V} {us:List Value} (h:aI xs us):aI xs.reverse us.reverse:=by
 induction h with
 | nil=>exact .nil
 | cons r t ih=>rw[List.reverse_cons,List.reverse_cons];exact aI.append ih (.cons r .nil)
theorem mF {α:Type} (l:List α):l.eraseIdx (l.length-1)=l.dropLast:=by
 induction l with
 | nil=>rfl
 | cons a r ih =>
 cases r with
 | nil=>rfl
 | cons b r =>
 have e:(a::b::r).length-1=((b::r).length-1)+1:=by
  have h1:(a::b::r).length=r.length+2:=rfl;have h2:(b::r).length=r.length+1:=rfl;omega
 rw[e,List.eraseIdx_cons_succ,ih]
 all_goals rfl
theorem h_ {α:Type}:∀(l:List α) (i:Nat),(l.eraseIdx i).length<=l.length
 | [],_=>Qi _
 | _::_,0=>Nat.le_succ _
 | _::r,i+1=>Nat.succ_le_succ (h_ r i)
section
variable {X:Cx} {pins:B1} {U:St} {H:Hp} {s:Shared} {l b:Addr} {xs ys zs:List V}
theorem Inv.lset {its its':List Value} {n:Nat} {f:Array Value->Array Value} {t':Nat} (I:Inv X pins U H s) (hH:H l=some (.lst xs))
  (e:s.heap.get? l=some { cls:=.type "list", data:=.seq its.toArray n }) (hf:f its.toArray=its'.toArray) (hv:aI ys its') (hz:ys.length<=sizeLine) :
  Inv X pins U (upd H l (.lst ys)) { s with heap:=s.heap.update l (Obj.mapSeq f),toks:=t' }:=by
 have q:=PySem.IsL.update e f;rw[hf]at q;refine I.write (x:=l) (e:=l) (by rw[hH];exact trivial) (.inl rfl) (λb' u hb hu=>(Q9 s.heap (Obj.mapSeq f) (Ne.symm hb)).trans hu) ⟨_,q⟩ ?_;exact⟨hz,its',_,hv,q⟩
theorem Inv.lnew {its:List Value} {t':Nat} (I:Inv X pins U H s) (hv:aI ys its) (hz:ys.length<=sizeLine) :
  Inv X pins U (upd H s.heap.objs.size (.lst ys)) { s with heap:=s.heap.push { cls:=.type "list", data:=.seq its.toArray },toks:=t' } :=
 I.laid (λ_ _ q=>Qd _ q) (Qi _) ⟨hz,its,0,hv,Qv _ rfl⟩
theorem Inv.fresh (I:Inv X pins U H s):H s.heap.objs.size=none:=I.hok.fresh (Qi _)
theorem Inv.lstM (I:Inv X pins U H s) (hH:H l=some (.lst xs)):xs.length<=sizeLine/\∃(its:List Value) (n:Nat),aI xs its/\xs.length=its.length/\s.heap.get? l=some { cls:=.type "list", data:=.seq its.toArray n }:=by
 obtain⟨z,its,n,r,e⟩:=I.hok l _ hH;exact⟨z,its,n,r,r.length,e⟩
end
section
variable {X:Cx}
def iL:V->List V->Hp->VK->Prop:=λx vs H Q=>∃l xs y,x=.ref l/\vs=[y]/\H l=some (.lst xs)/\xs.length<sizeLine/\Q .non (upd H l (.lst (xs++[y])))
theorem bx:MtM X "list.append" iL:=by
 intro pins s U H x vs v us Q I rx rv h;obtain⟨l,xs,y,rfl,rfl,hH,hz,q⟩:=h;cases rx;obtain⟨u,rfl,ru⟩:=rv.one;obtain⟨z,its,n,r,hl,e⟩:=I.lstM hH;refine call_meets F.slot_list_append ⟨_,e,rfl⟩ F.entry_list_append (F.args_list_append_2 _ _) (PySem.list_append l its.toArray n u (by rw[Qk];omega)) ⟨e,?_⟩;refine⟨.non,_,I.lset (its':=its++[u]) hH e (by simp) (r.append (.cons ru .nil)) ?_,rfl,q⟩;rw[Qg,XT];omega
def Av:V->List V->Hp->VK->Prop:=λx vs H Q=>∃l xs y,x=.ref l/\vs=[]/\H l=some (.lst xs)/\xs[xs.length-1]?=some y/\Q y (upd H l (.lst xs.dropLast))
theorem wf:MtM X "list.pop" Av:=by
 intro pins s U H x vs v us Q I rx rv h;obtain⟨l,xs,y,rfl,rfl,hH,hy,q⟩:=h;cases rx;have hus:=rv.zero;subst hus;obtain⟨z,its,n,r,hl,e⟩:=I.lstM hH;obtain⟨u,hu,ru⟩:=r.get hy
 have hy':its.toArray[its.toArray.size-1]?=some u:=by
  show its.toArray[its.length-1]?=some u;rw[<-Qm,<-hl];exact hu
 refine call_meets F.slot_list_pop ⟨_,e,rfl⟩ F.entry_list_pop (F.args_list_pop_1 _) (MeetsSeq.list_pop_last l its.toArray n u hy' (by rw[Qk];omega)) ⟨e,?_⟩;refine⟨y,_,I.lset (its':=its.dropLast) hH e ?_ r.dropLast ?_,ru,q⟩
 ·show its.toArray.eraseIdxIfInBounds (its.toArray.size-1)=its.dropLast.toArray;rw[Qk,List.eraseIdxIfInBounds_toArray,mF]
 rw[List.length_dropLast];omega
def vJ:V->List V->Hp->VK->Prop:=λx vs H Q=>∃l xs i k y,x=.ref l/\vs=[.int i]/\H l=some (.lst xs)/\-(2 ^ 63)<=i/\i<2 ^ 63/\seqIndex? i xs.length=some k/\xs[k]?=some y/\Q y (upd H l (.lst (xs.eraseIdx k)))
theorem kq:MtM X "list.pop" vJ:=by
 intro pins s U H x vs v us Q I rx rv h;obtain⟨l,xs,i,k,y,rfl,rfl,hH,h1,h2,hk,hy,q⟩:=h;cases rx;obtain⟨u,rfl,ru⟩:=rv.one;obtain⟨t,rfl⟩:=ru;obtain⟨z,its,n,r,hl,e⟩:=I.lstM hH;obtain⟨w,hw,rw'⟩:=r.get hy
 refine call_meets F.slot_list_pop ⟨_,e,rfl⟩ F.entry_list_pop (F.args_list_pop_2 _ _)
  (MeetsSeq.list_pop_at l its.toArray n i t k w (fitsIndex_both h1 h2) (by rw[Qk,<-hl];exact hk) (by rw[<-Qm];exact hw) (by rw[Qk];omega)) ⟨e,?_⟩
 refine⟨y,_,I.lset (its':=its.eraseIdx k) hH e ?_ (r.eraseIdx k) ?_,rw',q⟩
 ·show its.toArray.eraseIdxIfInBounds k=(its.eraseIdx k).toArray;rw[List.eraseIdxIfInBounds_toArray]
 have:=h_ xs k;omega
def w4:R2:=λx y H Q=>∃l b xs zs,x=.ref l/\y=.ref b/\H l=some (.lst xs)/\H b=some (.lst zs)/\xs.length+zs.length<=sizeLine/\∀p,H p=none->Q (.ref p) (upd H p (.lst (xs++zs)))
theorem cR:OpR X (binaryOp .Add) w4:=by
 intro pins s U H x y v u Q I rx ry h;obtain⟨l,b,xs,zs,rfl,rfl,hH,hB,hz,q⟩:=h;cases rx;cases ry;obtain⟨z,its,n,r,hl,e⟩:=I.lstM hH;obtain⟨z2,its2,n2,r2,hl2,e2⟩:=I.lstM hB;refine PySem.P.add_list e e2 ?_ (by rw[Qk,Qk];omega);have ea:its.toArray++its2.toArray=(its++its2).toArray:=by simp
 rw[ea];exact⟨.ref _,_,I.lnew (t':=s.toks) (r.append r2) (by rw[Qg];omega),rfl,q _ I.fresh⟩
end
section
variable {prog:Program} {w:World} {A:Around} {E:B0} {s:Shared}
end
section
variable {X:Cx}
end
section
variable {κ:Type} [DecidableEq κ]
def bJ (kvs:List (κ × V)) (k:κ):Option V:=(kvs.find? λkv=>decide (kv.1=k)).map (·.2)
def bD (kvs:List (κ × V)) (k:κ) (v:V):List (κ × V) :=
 if (kvs.any λkv=>decide (kv.1=k))=true then kvs.map (λkv=>if kv.1=k then (kv.1,v) else kv) else kvs++[(k,v)]
variable {r kvs:List (κ × V)}
theorem bA {p:κ × V} {k:κ} (e:p.1=k):bJ (p::r) k=some p.2:=by simp[bJ,List.find?_cons,e]
theorem bB {p:κ × V} {k:κ} (e:¬p.1=k):bJ (p::r) k=bJ r k:=by simp[bJ,List.find?_cons,e]
theorem cr (k:κ):∀kvs:List (κ × V),(kvs.any λkv=>decide (kv.1=k))=(bJ kvs k).isSome
 | []=>rfl
 | p::r=>by
  rw[List.any_cons];by_cases e:p.1=k
  ·simp only[bA e,QA e,Bool.true_or,Option.isSome_some]
  rw[bB e,QE e,Bool.false_or];exact cr k r
theorem jz (k j:κ) (y:V):∀kvs:List (κ × V),bJ (kvs.map λkv=>if kv.1=k then (kv.1,y) else kv) j=(bJ kvs j).map λx=>if j=k then y else x
 | []=>rfl
 | p::r=>by
  have ih:=jz k j y r;rw[Qo];by_cases h:p.1=k
  ·rw[Qu h];by_cases e:p.1=j
   ·rw[bA (p:=(p.1,y)) e,bA e,Option.map_some,Qu (e.symm.trans h)]
   rw[bB (p:=(p.1,y)) e,bB e,ih]
  rw[Qt h];by_cases e:p.1=j
  ·rw[bA (p:=p) e,bA e,Option.map_some,Qt (λz=>h (e.trans z))]
  rw[bB (p:=p) e,bB e,ih]
theorem gT (k j:κ) (y:V):∀kvs:List (κ × V),bJ kvs k=none->bJ (kvs++[(k,y)]) j=if j=k then some y else bJ kvs j
 | [],_=>by
  by_cases e:k=j
  ·rw[Qu e.symm];exact bA (p:=(k,y)) e
  rw[Qt (λz=>e z.symm)];exact bB (p:=(k,y)) e
 | p::r,hn=>by
  rw[List.cons_append];have hk:¬p.1=k:=λz=>by rw[bA z]at hn;cases hn
  rw[bB hk]at hn;have ih:=gT k j y r hn;by_cases e:p.1=j
  ·rw[bA e,bA e,Qt (λz=>hk (e.trans z))]
  rw[bB e,bB e,ih]
theorem pV (kvs:List (κ × V)) (k j:κ) (y:V):bJ (bD kvs k y) j=if j=k then some y else bJ kvs j:=by
 unfold bD;by_cases a:(kvs.any λkv=>decide (kv.1=k))=true
 ·rw[Qu a,jz];rw[cr]at a;by_cases e:j=k
  ·obtain⟨x,hx⟩:=Option.isSome_iff_exists.mp a;rw[Qu e,e,hx,Option.map_some,Qu rfl]
  rw[Qt e]
  cases bJ kvs j with
  | none=>rfl
  | some x=>rw[Option.map_some,Qt e]
 rw[Qt a];refine gT k j y kvs ?_;rw[cr]at a
 cases q:bJ kvs k with
 | none=>rfl
 | some x=>rw[q]at a;exact(a rfl).elim
theorem cN (kvs:List (κ × V)) (k:κ) (v:V):(bD kvs k v).length<=kvs.length+1:=by
 unfold bD
 split
 ·rw[Qb];omega
 rw[Qg,QC,XG];omega
theorem qE {k:κ} (v:V) (h:bJ kvs k=none):bD kvs k v=kvs++[(k,v)]:=by
 unfold bD;rw[cr,h];exact Qt (by decide)
theorem ft.isSome_eq {o:Option V} {u:Option Value} (r:ft o u):o.isSome=u.isSome:=by
 cases o with
 | none=>cases u with
  | none=>rfl
  | some _=>exact(show False from r).elim
 | some _=>cases u with
  | none=>exact(show False from r).elim
  | some _=>rfl
variable {vs:List (κ × Value)}
theorem KV.val (r:KV kvs vs) (k:κ):ft (bJ kvs k) (valueAt vs k):=by
 unfold KV at r
 induction r with
 | nil=>exact True.intro
 | @cons p q ps qs h t ih =>
 obtain⟨h1,h2⟩:=h;by_cases e:p.1=k
 ·have e':q.1=k:=h1.symm.trans e;have b:valueAt (q::qs) k=some q.2:=by simp[valueAt,List.find?_cons,e']
  rw[bA e,b];exact h2
 have e':¬q.1=k:=λz=>e (h1.trans z);have b:valueAt (q::qs) k=valueAt qs k:=by simp[valueAt,List.find?_cons,e']
 rw[bB e,b];exact ih
theorem KV.any (r:KV kvs vs) (k:κ):(kvs.any λkv=>decide (kv.1=k))=vs.any λkv=>decide (kv.1=k):=by
 unfold KV at r
 induction r with
 | nil=>rfl
 | cons h t ih=>rw[List.any_cons,List.any_cons,ih,h.1]
theorem KV.repl (r:KV kvs vs) (k:κ) {y:V} {u:Value} (ry:aX y u) :
  KV (kvs.map λkv=>if kv.1=k then (kv.1,y) else kv) (vs.map λkv=>if kv.1=k then (kv.1,u) else kv):=by
 unfold KV at r ⊢
 induction r with
 | nil=>exact .nil
 | @cons p q ps qs h t ih =>
 rw[Qo,Qo];refine .cons ?_ ih;obtain⟨h1,h2⟩:=h;by_cases e:p.1=k
 ·rw[Qu e,Qu (h1.symm.trans e)];exact⟨h1,ry⟩
 rw[Qt e,Qt (λz=>e (h1.trans z))];exact⟨h1,h2⟩
theorem KV.put (r:KV kvs vs) (k:κ) {y:V} {u:Value} (ry:aX y u):KV (bD kvs k y) (stored vs k u):=by
 unfold bD stored;rw[r.any k];by_cases e:(vs.any λkv=>decide (kv.1=k))=true
 ·rw[Qu e,Qu e];exact r.repl k ry
 rw[Qt e,Qt e];exact Paired.snoc r ⟨rfl,ry⟩
theorem KV.length (r:KV kvs vs):kvs.length=vs.length:=Xf r
end
variable {u:Value}
theorem kO {P:Program} {w:World} {k:Key} (r:aX (kV k) u):(aq P w).is k u=true:=by
 cases k with
 | inl i=>obtain⟨t,e⟩:=(show ∃t,u=Value.int i t from r);subst e;exact kB P w i t
 | inr x=>obtain⟨t,e⟩:=(show ∃t,u=Value.str x t from r);subst e;exact kA P w x t
theorem rT {a b:Key} (e:kV a=kV b):a=b:=by
 cases a with
 | inl i=>cases b with
  | inl j=>have e':V.int i=V.int j:=e;injection e' with e';rw[e']
  | inr y=>exact nomatch (show V.int i=V.str y from e)
 | inr x=>cases b with
  | inl j=>exact nomatch (show V.str x=V.int j from e)
  | inr y=>have e':V.str x=V.str y:=e;injection e' with e';rw[e']
theorem iX:∀{a b:List Key},a.map kV=b.map kV->a=b
 | [],[],_=>rfl
 | [],_::_,e=>by simp at e
 | _::_,[],e=>by simp at e
 | x::xs,y::ys,e=>by
  rw[Qo,Qo]at e;injection e with e1 e2;rw[rT e1,iX e2]
theorem ie {P:Program} {w:World}:∀{ks:List Key} {us:List Value},aI (ks.map kV) us->ItemsAre (aq P w) ks us
 | [],_,r=>by rw[List.map_nil]at r;cases r;exact .nil
 | k::ks,_,r=>by
  rw[Qo]at r
  cases r with
  | cons h t=>exact .cons (kO h) (ie t)
abbrev KT (H:Hp):List (ak × V)->List (ak × Addr × Value)->Prop:=Paired λp q=>p.1=q.1/\bC H p.1 q.2.1/\aX p.2 q.2.2
variable {xs:List (ak × Addr × Value)} {kvs:List (ak × V)} {H H':Hp}
theorem KT.val (r:KT H kvs xs) (k:ak):ft (bJ kvs k) ((atKey xs k).map (·.2)):=by
 induction r with
 | nil=>exact True.intro
 | @cons p q ps qs h t ih =>
 obtain⟨h1,_,h2⟩:=h;by_cases e:p.1=k
 ·have e':q.1=k:=h1.symm.trans e;have b:atKey (q::qs) k=some q.2:=by simp[atKey,List.find?_cons,e']
  rw[bA e,b];exact h2
 have e':¬q.1=k:=λz=>e (h1.trans z);have b:atKey (q::qs) k=atKey qs k:=by simp[atKey,List.find?_cons,e']
 rw[bB e,b];exact ih
theorem KT.repl (r:KT H kvs xs) (k:ak) {y:V} (ry:aX y u) :
  KT H (kvs.map λkv=>if kv.1=k then (kv.1,y) else kv) (xs.map (putAt k u)):=by
 induction r with
 | nil=>exact .nil
 | @cons p q ps qs h t ih =>
 rw[Qo,Qo];refine .cons ?_ ih;obtain⟨h1,h2,h3⟩:=h;unfold putAt;by_cases e:p.1=k
 ·rw[Qu e,Qu (h1.symm.trans e)];exact⟨h1,h2,ry⟩
 rw[Qt e,Qt (λz=>e (h1.trans z))];exact⟨h1,h2,h3⟩
theorem KT.put (r:KT H kvs xs) (k:ak) {b:Addr} {y:V} (hb:bC H k b) (ry:aX y u) :
  KT H (bD kvs k y) (storedH xs k b u):=by
 have e:(kvs.any λkv=>decide (kv.1=k))=(atKey xs k).isSome:=by
  rw[cr,(r.val k).isSome_eq,Option.isSome_map]
 unfold bD storedH;rw[e];by_cases q:(atKey xs k).isSome=true
 ·rw[Qu q,Qu q];exact r.repl k ry
 rw[Qt q,Qt q];exact Paired.snoc r ⟨rfl,hb,ry⟩
theorem KT.keeps (r:KT H kvs xs) (ht:∀b ys,H b=some (.tup ys)->H' b=some (.tup ys)):KT H' kvs xs :=
 Paired.mapP r λ_ _ z=>⟨z.1,z.2.1.keeps ht,z.2.2⟩
section
variable {P:Program} {w:World} {H:Hp} {h:Heap} {a:Addr}
theorem qC {u:HO} (ok:HOk P w H h) (e:Rd H a u):bi P w H h a u:=e.ok ok
variable {kvs:List (Key × V)}
theorem n_ (ok:HOk P w H h) (e:Rd H a (.dK kvs)):kvs.length<=sizeLine/\(a==sysModules)=false/\∃vs,KV kvs vs/\h.DictOf (aq P w) a vs :=
 show bi P w H h a (.dK kvs) from qC ok e
theorem Aj (ok:HOk P w H h) (e:H a=some (.dK kvs)):kvs.length<=sizeLine/\(a==sysModules)=false/\∃vs,KV kvs vs/\h.DictOf (aq P w) a vs:=n_ ok (.inl e)
theorem kM (ok:HOk P w H h):∀{ks:ak} {vs:List V} {its:List Value},Paired (KIt H) ks vs->aI vs its->TK.Its (aq P w) h ks its
 | _,_,_,.nil,.nil=>.nil
 | k::_,_,_,.cons q t,.cons rv r=>.cons (by
   cases k with
   | inl k=>cases q;exact kO rv
   | inr ks =>
   obtain⟨c,rfl,q⟩:=q;obtain⟨_,its,r,o,h1,h2,n,h3⟩:=(show bi P w H h c (.tup (ks.map kV)) from ok c _ q)
   exact⟨c,rv,o,its.toArray,n,h1,h2,h3,by simpa using ie r⟩) (kM ok t r)
theorem dw {ks:ak} (ok:HOk P w H h) (e:bC H ks a):(bq P w).is h ks a:=by
 obtain⟨vs,e,pr⟩:=e;obtain⟨_,its,r,o,h1,h2,n,h3⟩:=(show bi P w H h a (.tup vs) from ok a _ e);exact⟨o,its.toArray,n,h1,h2,h3,by simpa using kM ok pr r⟩
theorem n9 {kvs:List (ak × V)} (ok:HOk P w H h) (e:Rd H a (.dT kvs)):kvs.length<=sizeLine/\(a==sysModules)=false /\
  ∃xs,KT H kvs xs/\h.DictOfH (bq P w) a xs:=by
 obtain⟨z,y,xs,r,o,es,ep,h1,h2,h3,h4,h5⟩:=(show bi P w H h a (.dT kvs) from qC ok e);refine⟨z,y,xs,r,o,es,ep,h1,h2,h3,h4,λx hx=>?_,h5⟩
 have all:∀{l:List (ak × V)} {m:List (ak × Addr × Value)},KT H l m->∀x∈m,(bq P w).is h x.1 x.2.1:=by
  intro l m q
  induction q with
  | nil=>intro x hx;exact nomatch hx
  | @cons p q ps qs hq t ih =>
  intro x hx;rcases Qw.mp hx with e|hx
  ·subst e;exact dw ok (by rw[<-hq.1];exact hq.2.1)
  exact ih x hx
 exact all r x hx
theorem Ai {kvs:List (ak × V)} (ok:HOk P w H h) (e:H a=some (.dT kvs)):kvs.length<=sizeLine/\(a==sysModules)=false /\
  ∃xs,KT H kvs xs/\h.DictOfH (bq P w) a xs:=n9 ok (.inl e)
end
def fz (H:Hp) (a:Addr) (y:V) (r:Option V):Prop :=
 (∃kvs k,Rd H a (.dK kvs)/\y=kV k/\r=bJ kvs k)\/∃kvs k b,Rd H a (.dT kvs)/\y=.ref b/\bC H k b/\r=bJ kvs k
def gQ (H:Hp) (a:Addr) (y v:V) (H':Hp):Prop :=
 (∃kvs k,H a=some (.dK kvs)/\y=kV k/\kvs.length<sizeLine/\H'=upd H a (.dK (bD kvs k v))) \/
 ∃kvs k b,H a=some (.dT kvs)/\y=.ref b/\bC H k b/\kvs.length<sizeLine/\H'=upd H a (.dT (bD kvs k v))
theorem fz.k {H:Hp} {a:Addr} {kvs:List (Key × V)} {k:Key} (e:H a=some (.dK kvs)):fz H a (kV k) (bJ kvs k):=.inl ⟨kvs,k,.inl e,rfl,rfl⟩
theorem gQ.k {H:Hp} {a:Addr} {kvs:List (Key × V)} {k:Key} {v:V} (e:H a=some (.dK kvs)) (hl:kvs.length<sizeLine):gQ H a (kV k) v (upd H a (.dK (bD kvs k v))):=.inl ⟨kvs,k,e,rfl,hl,rfl⟩
theorem gQ.t {a b:Addr} {k:ak} {v:V} (e:H a=some (.dT kvs)) (eb:bC H k b) (hl:kvs.length<sizeLine) :
  gQ H a (.ref b) v (upd H a (.dT (bD kvs k v))):=.inr ⟨kvs,k,b,e,rfl,eb,hl,rfl⟩
section
variable {X:Cx} {pins:B1} {U:St} {H:Hp} {s:Shared} {a:Addr} {y v:V} {u r:Value} {o:Option V} {A:Around} {E:B0}
theorem Inv.big (I:Inv X pins U H s):sysModules<s.heap.objs.size:=by
 have h:mainGlobals<s.heap.objs.size:=(I.mod.glob.keeps I.bk).lt;exact Nat.lt_trans (by decide) h
variable {Q:B0}
theorem pL (hu:A.units+8<cLine) (I:Inv X pins U H s) (g:fz H a y (some v)) (ry:aX y u) (h:∀w' s',Inv X pins U H s'->aX v w'->Q w' s') :
  wpAny (model X.prog X.w) A (getItem (.ref a) u) Q E s:=by
 rcases g with⟨kvs,k,e,ey,l⟩|⟨kvs,k,b,e,ey,eb,l⟩
 ·subst ey;obtain⟨z,hd,vs,rel,dd⟩:=n_ I.hok e;obtain⟨w',hw,rw'⟩:=ft.some_of (v:=v) (o:=valueAt vs k) (by rw[l];exact rel.val k);exact wpAny_getItem_of (kO ry) dd.mapOf hw (h w' _ (I.tok _) rw')
 subst ey;cases (show u=Value.ref b from ry);obtain⟨z,hd,xs,rel,dd⟩:=n9 I.hok e;obtain⟨w',hw,rw'⟩:=ft.some_of (v:=v) (o:=(atKey xs k).map (·.2)) (by rw[l];exact rel.val k);obtain⟨p,hp,hp2⟩:=Option.map_eq_some_iff.mp hw;refine wpAny_getItem_heap (iA hu) (dw I.hok eb) dd hp ?_;rw[hp2];exact h w' _ (I.tok _) rw'
theorem ud (hu:A.units+8<cLine) (I:Inv X pins U H s) (g:fz H a y o) (ry:aX y u) (h:∀s',Inv X pins U H s'->Q (.bool (!o.isSome)) s') :
  wpAny (model X.prog X.w) A (compareOp .NotIn u (.ref a)) Q E s:=by
 rcases g with⟨kvs,k,e,ey,l⟩|⟨kvs,k,b,e,ey,eb,l⟩
 ·subst ey;obtain⟨z,hd,vs,rel,dd⟩:=n_ I.hok e;refine wpAny_notIn_of (kO ry) hd dd.mapOf ?_;rw[<-(rel.val k).isSome_eq,<-l];exact h _ (I.tok _)
 subst ey;cases (show u=Value.ref b from ry);obtain⟨z,hd,xs,rel,dd⟩:=n9 I.hok e;refine wpAny_notIn_heap (iA hu) (dw I.hok eb) hd dd ?_;have q:=(rel.val k).isSome_eq;rw[Option.isSome_map]at q;rw[<-q,<-l];exact h _ (I.tok _)
theorem on {h':Heap} {t':Nat} {ob:HO} (I:Inv X pins U H s) (mu:Mut (H a)) (hs:Heap.SameBut a s.heap h') (he:∃q,h'.get? a=some q) (new:bi X.prog X.w (upd H a ob) h' a ob) :
  Inv X pins U (upd H a ob) { s with heap:=h',toks:=t' } :=
 I.write (x:=a) (e:=a) mu (.inl rfl) (λb q hb z=>(hs.2 b hb).trans z) he new
theorem wJ {P:Program} {w:World} {H':Hp} {h':Heap} {kvs:List (Key × V)} {vs:List (Key × Value)} (z:kvs.length<=sizeLine) (hd:(a==sysModules)=false) (rel:KV kvs vs) (dd:h'.DictOf (aq P w) a vs) :
  bi P w H' h' a (.dK kvs):=⟨z,hd,vs,rel,dd⟩
theorem pK {H':Hp} {Q:Unit->Shared->Prop} (hu:A.units+8<cLine) (I:Inv X pins U H s) (g:gQ H a y v H') (ry:aX y u) (rv:aX v r) (h:∀s',Inv X pins U H' s'->Q () s') :
  wpAny (model X.prog X.w) A (setItem (.ref a) u r) Q E s:=by
 rcases g with⟨kvs,k,e,ey,l,eH⟩|⟨kvs,k,b,e,ey,eb,l,eH⟩
 ·subst ey eH;obtain⟨z,hd,vs,rel,dd⟩:=Aj I.hok e;have hz:vs.length<=sizeLine:=by rw[<-rel.length];exact z
  have hl:(bD kvs k v).length<=sizeLine:=by have:=cN kvs k v;omega
  refine wpAny_setItem_pairs (hsz:=hz) (kO ry) dd λh' dd' hs=>h _ ?_;have he:∃q,h'.get? a=some q:=let ⟨q,_,_,hq,_⟩:=dd';⟨q,hq⟩;exact on I (by rw[e];exact True.intro) hs he (wJ hl hd (rel.put k rv) dd')
 subst ey eH;cases (show u=Value.ref b from ry);obtain⟨z,hd,xs,rel,dd⟩:=Ai I.hok e;have hz:xs.length<=sizeLine:=by rw[<-Xf rel];exact z
 have hl:(bD kvs k v).length<=sizeLine:=by have:=cN kvs k v;omega
 refine wpAny_setItem_heap (hsz:=hz) (iA hu) (dw I.hok eb) dd λh' dd' hs=>h _ ?_;obtain⟨q,es,ep,hq,h2,h3,h4,_,h5⟩:=dd';refine on I (by rw[e];exact True.intro) hs ⟨q,hq⟩ ⟨hl,hd,_,(rel.put k eb rv).keeps λc ys ec=>?_,q,es,ep,hq,h2,h3,h4,h5⟩;rw[ao (zR ec e (λz=>nomatch z))];exact ec
end
section
variable {X:Cx} {pins:B1} {U:St} {H:Hp} {s:Shared} {a:Addr} {kvs:List (Key × V)} {k:Key} {u:Value} {A:Around} {E:B0}
end
def Ao (i:Expr):Prop:=∀ov iv,subscripted i false ov iv=operate [ov,iv] (getItem ov iv)
variable {Q E:B0}
theorem sY {prog:Program} {w:World} {A:Around} {s:Shared} {env:Env} {value slice:Expr} {pos:Pos} {T id:String}
  (hl:typeLookup (.type T) "__getitem__" = pure (some (.builtin id))) (hs:Ao slice)
  (h:wpAny (model prog w) A (eval value env) (λo s₁=>wpAny (model prog w) A (eval slice env) (λi s₂=>s₂.TypeIs o T/\wpAny (model prog w) A (getItem o i) Q E s₂) E s₁) E s) :
  wpAny (model prog w) A (eval (.Subscript value slice pos) env) Q E s:=by
 refine Subscript_ (XQ h (λo s₁ h₁=>XQ h₁ (λi s₂ h₂=>?_) λ_ _ x=>x) λ_ _ x=>x);obtain⟨hT,h₂⟩:=h₂;unfold subscriptTail;refine Qa ?_;rw[getitemInPython_of_ne hT.not_modules];refine Qa (wpAny_specialOf hT hl ?_)
 have fin:wpAny (model prog w) A (subscripted slice false o i) (λr s₃=>wpAny (model prog w) A (letTemporaryGo value o r >>= λ_=>pure r) Q E s₃) E s₂:=by
  rw[hs o i];exact wpAny_operating (XQ h₂ (λr s₃ h₃=>Qa (wpAny_letTemporaryGo (Qf h₃))) λ_ _ x=>x)
 first
  | exact Qf (Qa fin)
  | exact Qa (Qf (Qa fin))
  | exact Qa fin
theorem kT {X:Cx} {pins:B1} {U:St} {s:Shared} {a:Addr} {y:V} {o:Option V} (I:Inv X pins U H s) (g:fz H a y o):s.TypeIs (.ref a) "dict" := by
 rcases g with⟨kvs,k,e,_,_⟩|⟨kvs,k,b,e,_,_,_⟩
 ·obtain⟨_,_,vs,_,dd⟩:=n_ I.hok e;exact dd.typeIs
 obtain⟨_,_,xs,_,dd⟩:=n9 I.hok e;exact dd.typeIs
def uA (td ty:TE):TE:=λU H Q=>td U H λx H1=>ty U H1 λy H2=>∃a v,x=.ref a/\fz H2 a y (some v)/\Q v H2
def mS (ty td:TE):TE:=λU H Q=>ty U H λy H1=>td U H1 λx H2=>∃a o,x=.ref a/\fz H2 a y o/\Q (.bl (!o.isSome)) H2
def nv (td ty tv:TE):TS:=λD U H=>tv U H λv H1=>td U H1 λx H2=>ty U H2 λy H3=>∃a H4,x=.ref a/\gQ H3 a y v H4/\D.nx U H4
section
variable {X:Cx} {o i e value:Expr} {pos pos' tpos:Pos} {td ty tv:TE}
theorem fQ (hu:X.A.units+8<cLine) (ho:PE X o td) (hi:PE X i ty) (hs:Ao i:=by exact λ_ _=>rfl):PE X (.Subscript o i pos) (uA td ty):=by
 intro pins s U H Q I h;refine sY PySem.F.slot_dict_getitem.lookup hs (thn (ho pins s U H _ I h) λu s1 ⟨x,H1,I1,rx,q1⟩=>thn (hi pins s1 U H1 _ I1 q1) λiv s2 ⟨y,H2,I2,ry,a,v,ex,g,q2⟩=>?_);subst ex;obtain rfl:u=Value.ref a:=rx;exact⟨kT I2 g,pL hu I2 g ry λw' s3 I3 rw'=>⟨v,H2,I3,rw',q2⟩⟩
theorem oU (hu:X.A.units+8<cLine) (hi:PE X i ty) (ho:PE X o td):PC X .NotIn i o (mS ty td):=by
 intro pins s U H Q I h;refine thn (hi pins s U H _ I h) λiv s1 ⟨y,H1,I1,ry,q1⟩=>thn (ho pins s1 U H1 _ I1 q1) λu s2 ⟨x,H2,I2,rx,a,ov,ex,g,q2⟩=>?_;subst ex;obtain rfl:u=Value.ref a:=rx;exact ud hu I2 g ry λs3 I3=>⟨.bl (!ov.isSome),H2,I3,rfl,q2⟩
theorem dD (hu:X.A.units+8<cLine) (ho:PE X o td) (hi:PE X i ty) (hv:PE X value tv) (hs:swapsWith value (some (.Subscript o i pos')) pos.line X.env=pure false) :
  PS X (.Assign [.Subscript o i pos'] value pos) (nv td ty tv):=by
 intro pins s U H D I h;refine wpAny_Assign_Subscript (thn (hv pins s U H _ I h) λr s1 ⟨v,H1,I1,rv,q1⟩=>thn (ho pins s1 U H1 _ I1 q1) λu s2 ⟨x,H2,I2,rx,q2⟩=>thn (hi pins s2 U H2 _ I2 q2) λiv s3 ⟨y,H3,I3,ry,a,H4,ex,g,q3⟩=>?_) hs;subst ex;obtain rfl:u=Value.ref a:=rx;exact pK hu I3 g ry rv λs4 I4=>⟨U,H4,I4,q3⟩
end
theorem sD {P:Program} {w:World} (h:Heap) (hb:sysModules<h.objs.size):bi P w H (h.push { cls:=.type "dict", data:=.dict #[] }) h.objs.size (.dK []) :=
 ⟨QR _,beq_eq_false_iff_ne.mpr (Ne.symm (QF hb)),[],.nil,Heap.DictOf.new h⟩
theorem sC {P:Program} {w:World} (h:Heap) (hb:sysModules<h.objs.size):bi P w H (h.push { cls:=.type "dict", data:=.dict #[] }) h.objs.size (.dT []) :=
 ⟨QR _,beq_eq_false_iff_ne.mpr (Ne.symm (QF hb)),[],.nil,_,#[],0,Qv _ rfl,⟨rfl,rfl,rfl⟩,rfl,rfl,List.nodup_nil⟩
def vA:TE:=λ_ H Q=>∀p,H p=none->Q (.ref p) (upd H p (.dK []))
def vz:TE:=λ_ H Q=>∀p,H p=none->Q (.ref p) (upd H p (.dT []))
section
variable {X:Cx} {pos:Pos}
theorem qQ:PE X (.Dict [] [] pos) vA:=λpins s U H Q I h =>
 wpAny_Dict_empty ⟨.ref s.heap.objs.size,_,I.laid (a:=s.heap.objs.size) (o:=.dK []) (t':=s.toks) (λ_ _ q=>Qd _ q) (Qi _) (sD s.heap I.big),rfl,h _ (I.hok.fresh (Qi _))⟩
theorem qP:PE X (.Dict [] [] pos) vz:=λpins s U H Q I h =>
 wpAny_Dict_empty ⟨.ref s.heap.objs.size,_,I.laid (a:=s.heap.objs.size) (o:=.dT []) (t':=s.toks) (λ_ _ q=>Qd _ q) (Qi _) (sC s.heap I.big),rfl,h _ (I.hok.fresh (Qi _))⟩
end
structure M1 (X:Cx) (o:Expr) (m:Str) (apos:Pos) (e:Expr) (cpos:Pos):Prop where
 base:attributeBase o m X.env (eval o X.env)=eval o X.env
 few:((backTo cpos (starEach [e] X.env)).all (λx=>!x.1)&&(backToKw cpos (keywordEach [] X.env)).all (λx=>x.1.isSome)
  && decide (([e]:List Expr).length+([]:List Keyword).length+(if ([]:List Keyword).isEmpty then 0 else 1)<30))=true
 line:(apos.endLine==cpos.line)=true
 trees:backTo cpos (starEach [e] X.env)=[(false,eval e X.env)]
structure M2 (X:Cx) (o:Expr) (m:Str) (apos:Pos) (e f:Expr) (cpos:Pos):Prop where
 base:attributeBase o m X.env (eval o X.env)=eval o X.env
 few:((backTo cpos (starEach [e,f] X.env)).all (λx=>!x.1)&&(backToKw cpos (keywordEach [] X.env)).all (λx=>x.1.isSome)
  && decide (([e,f]:List Expr).length+([]:List Keyword).length+(if ([]:List Keyword).isEmpty then 0 else 1)<30))=true
 line:(apos.endLine==cpos.line)=true
 trees:backTo cpos (starEach [e,f] X.env)=[(false,eval e X.env),(false,eval f X.env)]
section
variable {X:Cx} {pins:B1} {U:St} {H:Hp} {s:Shared} {a:Addr} {y d:V} {u r:Value} {o:Option V} {A:Around} {E:B0}
end
section
variable {X:Cx} {o e f:Expr} {apos cpos:Pos} {td ty tx:TE}
end
section
variable {X:Cx} {pins:B1} {U:St} {H:Hp} {s:Shared} {a:Addr} {kvs:List (Key × V)} {A:Around} {E:B0}
end
section
variable {X:Cx} {pins:B1} {U:St} {H:Hp} {s:Shared} {a:Addr} {y:V} {u:Value} {A:Around} {E:B0}
end
end L2
namespace Att
open PySem PySem.W PySem.Calls PyProof.Rows
theorem fK {P:Params} {h:Heap}:∀(ns:List Int) (vs:List Value),WellAll P h vs (ns.map WData.int)->IntsAre vs ns:=by
 intro ns
 induction ns with
 | nil =>
  intro vs w;rw[List.map_nil]at w;cases w;exact .nil
 | cons n ns ih =>
 intro vs w;rw[Qo]at w
 cases w with
 | cons a b =>
 cases a;exact .cons _ _ (ih _ b)
theorem oJ {l:OpenLaw} {n:Nat} (hn:l.most=some n) {P:Params} {h:Heap} {args:List WData} {vals:List Value}
  (hpre:l.row.toRowW.claim.pre args=true) (hwl:WellAll P h vals args) :
  ∃a vs ns,vals=[Value.ref a]/\args=[WData.list (ns.map WData.int)]/\h.get? a=some { cls:=.type "list", data:=.seq vs.toArray }/\IntsAre vs ns/\ns.length<=n:=by
 have hsh:WShape.hasAll [] args [.list .int]=true:=(pre_splitW hpre).1;have hc:l.pre.holds [] { args:=args }=true:=(pre_splitW hpre).2;obtain⟨d,r,rfl,h1,h2⟩:=hasAllW_cons hsh;obtain rfl:=hasAllW_nil h2;obtain⟨xs,rfl,h3⟩:=hasW_list h1;obtain⟨ns,rfl⟩:=items_int h3
 have hlen:ns.length<=n:=by
  unfold OpenLaw.pre at hc
  have h4:(WTm.not (.lt (.lit (.int (n:Int))) (.len (.arg 0)))).holds [] { args:=[.list (ns.map .int)] }=true:=by
   have h4:=(holds_andW hc).1;rw[hn]at h4;exact h4
  have h5:=condW_of h4 (w_not (w_lt w_lit (w_len_list (w_arg rfl))));rw[Qb]at h5;refine Nat.le_of_not_lt λq=>?_;have q':(n:Int)<((ns.length:Nat):Int):=by omega
  first
   | (rw[QA q']at h5;exact absurd h5 (by decide))
   | (simp at h5;omega)
 cases hwl with
 | cons w1 w2 =>
 cases w2
 cases w1 with
 | list ho hall=>exact⟨_,_,ns,rfl,rfl,ho,fK ns _ hall,hlen⟩
theorem oQ (l:OpenLaw) (args:List WData):l.row.toRowW.claim.post args (.bool true) args=true :=
 postW_of (r:=l.row.toRowW) (X:=(true==true))
  (show WShape.has [] (.bool true) .bool=true by first|rfl|decide|simp[WShape.has,WShape.arms,WShape.armsAll])
  (show (WTm.eq .res (.lit (.bool true))).value [] { args:=args,res:=some (.bool true),after:=args }=some (.bool (true==true)) from w_eq_bool (w_res rfl) w_lit) rfl
theorem k_ {l:OpenLaw} {n:Nat} {q:Program} {loose:List Str} {XP:B2->Heap->Prop} {YP:World->Heap->Prop} {d:DefRec}
  (hn:l.most=some n) (hdf:d.params.defaults=[])
  (call:∀(w:World) (s₀ s₁:Shared) (mg mb:B2) (fa:Addr) (o:Obj) (pm cd doc:Value) (a:Addr) (vs:List Value) (ns:List Int),
   Ground q loose [] XP w s₀ mg mb s₁.heap->YP w s₁.heap ->
   s₁.heap.get? fa=some o->o.data=.func (docDef d.name d.params d.body d.scope pm cd doc)->s₁.heap.CodeRec cd d.name->mg d.name=some (.ref fa) ->
   s₁.heap.get? a=some { cls:=.type "list", data:=.seq vs.toArray }->IntsAre vs ns->ns.length<=n->s₁.gens=#[] ->
   codeAny (model l.prog w) callerA (.call (.ref fa) ⟨[.ref a],[]⟩) (λr s'=>r=.ok (.ret (.bool true))/\OldK s₁.heap s'.heap/\s'.os=s₁.os/\AllBare s'.gens) s₁) :
  WalkO q loose XP YP l.row.toRowW d [] (λf vs=>PySem.call f vs):=by
 intro w s₀ s₁ mg mb G Y fa o pm cd doc dV kV ho hd hcd hD hmg hg args vals as hpre hlay hrd hwl hlo;obtain rfl:dV=.none:=Dflts.none hD hdf;obtain rfl:kV=.none:=Dflts.noKw hD;obtain⟨a,vs,ns,rfl,rfl,hobj,hints,hlen⟩:=oJ hn hpre hwl;refine enter_call (codeAny_mono (call w s₀ s₁ mg mb fa o pm cd doc a vs ns G Y ho (fd_plain hd) hcd hmg hobj hints hlen hg) λr s' hq=>?_);obtain⟨rfl,h2,h3,h4⟩:=hq;exact⟨.inl ⟨.bool true,.bool true,[],rfl,λ_=>rfl,.bool true,oQ l _,λ_=>⟨List.Pairwise.nil,λ_ hm=>(nomatch hm)⟩⟩,h2,h3,h4⟩
section
variable {prog:Program} {w:World} {A:Around} {E:B0} {s:Shared} {K:Frag}
end
end Att
namespace L2
open PySem PySem.Spec PyProof.Rows
theorem gS:∀{vs:List Value} {ns:List Int},IntsAre vs ns->aI (ns.map V.int) vs
 | _,_,.nil=>.nil
 | _,_,.cons n t h=>.cons ⟨t,rfl⟩ (gS h)
end L2
/- THE LAST THEOREM (shape;LID,My.* are yours):
  My.Adr: a structure of the addresses that your layer names (classes,functions);My.Txt K t: a structure (Prop) of the equations over K;
  My.txt_mk:{K} {implicit addresses ..} (e1:nsIn K mainGlobals "law" = some (some (.ref f))) (e2:K.lookup f=some ⟨oc,od,.func (fnOf "law" "law" params body scope dV kV doc pm an cdv ct),sl⟩) (e3:codeIn K cdv "law" = true) ..:∃t,My.Txt K t
(the tactic k_is has no namespace: write k_is) -/
namespace L2
open PySem PySem.Spec PyProof.Rows
abbrev CX0:CXT:=λ_ _ _ _ _ _=>False
abbrev E0:XK:=λ_ _ _=>False
theorem w_ {X:Cx}:jk CX0 X E0:=λ_ _ _ _ _ _ _ h=>h.elim
structure Fun (K:PySem.W.Frag) (x qual:Str) (st:Stmt) (f:Addr) (fd:FuncData):Prop where
 ex:∃(oc:Value) (od:Option Addr) (kV doc pm:Value) (an:Option Addr) (cdv ct:Value) (osl:Array (Option Value)),
  fd=PySem.W.fnOf x qual (cq st) (bM st) (am st) .none kV doc pm an cdv ct/\K.lookup f=some ⟨oc,od,.func fd,osl⟩/\PySem.W.codeIn K cdv qual=true
 kp:PySem.W.keepIn K (.ref f)=true
section
variable {P:Program} {w:World} {K:PySem.W.Frag} {mg:B2} {base:Heap}
variable {x qual:Str}
theorem Fun.ok {st:Stmt} {f:Addr} {fd:FuncData} {N ps:List Str} {k:Nat} {sp:Sp} (F:Fun K x qual st f fd) (S:FnScope N ps (am st)) (len:∀vs H Q E,sp vs H Q E->vs.length=ps.length)
  (hbody:∀(cdv:Value) (A:Around) (outer:List Env) (s:Shared) (H:Hp) (vs:List V) (Q:VK) (E:XK),Room k (A.deeper (envOfC qual (am st) s.heap.objs.size f cdv))->sp vs H Q E ->
   ∃t,PSs (cxOf CX0 P w K mg base N qual (am st) f cdv A outer s H E).nox (bM st) t/\t { nx:=λ_ H'=>Q .non H',rt:=Q } (start N vs) H):FnOk P w K mg base CX0 (k+1) f fd ps sp:=by
 obtain⟨oc,od,kV,doc,pm,an,cdv,ct,osl,rfl,lk,hcd⟩:=F.ex;refine u8 lk hcd S len λA outer s H vs Q E hr hsp=>?_;obtain⟨t,h,q⟩:=hbody cdv A outer s H vs Q E hr hsp;exact⟨t,h.nox,q⟩
theorem Fun.binds {st:Stmt} {f:Addr} {fd:FuncData} {ps:List Str} (F:Fun K x qual st f fd)
  (h:∀(kV doc pm:Value) (an:Option Addr) (cdv ct:Value) (us:List Value),us.length=ps.length->bindArgs (PySem.W.fnOf x qual (cq st) (bM st) (am st) .none kV doc pm an cdv ct) ⟨us,[]⟩=pure (ps.zip us)):fG K fd ps []:=by
 obtain⟨oc,od,kV,doc,pm,an,cdv,ct,osl,rfl,lk,hcd⟩:=F.ex;exact .all (h kV doc pm an cdv ct)
theorem sj {st:Stmt} {f:Addr} {oc:Value} {od an:Option Addr} {osl:Array (Option Value)} {kV doc pm cdv ct:Value} (l:K.lookup f=some ⟨oc,od,.func (PySem.W.fnOf x qual (cq st) (bM st) (am st) .none kV doc pm an cdv ct),osl⟩)
  (c:PySem.W.codeIn K cdv qual=true) (k:PySem.W.keepIn K (.ref f)=true):Fun K x qual st f (PySem.W.fnOf x qual (cq st) (bM st) (am st) .none kV doc pm an cdv ct):=⟨⟨oc,od,kV,doc,pm,an,cdv,ct,osl,rfl,l,c⟩,k⟩
end
theorem gz {A:Around} {k:Nat} (hr:Room k A):A.units+8<cLine:=XX (Nat.add_le_add_left (by decide:8<=64) _) hr.units
section
variable {X:Cx}
theorem pv (i:Nat) {x:Str} {pos:Pos} (hN:X.N[i]?=some x:=by rfl) (hv:Vis X.env.scope x:=by first|exact Or.inl rfl|exact Or.inr (Or.inl rfl)|exact Or.inr (Or.inr rfl)) (hd:(x==("__debug__" : Str))=false:=by decide)
  (hcd:(x==("__classdict__" : Str))=false:=by decide):PE X (.Name x pos) (bX i):=vQ hN hv hd hcd
end
theorem cu {A B:Prop} (h:B):if false=true then A else B:=by
 rw[Qt Qh];exact h
theorem iteT {A B:Prop} (h:A):if true=true then A else B:=by
 rw[Qu rfl];exact h
theorem kP {c A B:Prop} [Decidable c] (h1:c->A) (h2:¬c->B):if c then A else B:=by
 by_cases h:c
 ·rw[Qu h];exact h1 h
 rw[Qt h];exact h2 h
def aw (H H':Hp):Prop:=∀b o,H b=some o->H' b=some o
theorem aw.refl (H:Hp):aw H H:=λ_ _ h=>h
variable {H H1 H2 H' H4:Hp}
theorem aw.trans (a:aw H H1) (b:aw H1 H2):aw H H2:=λc o h=>b c o (a c o h)
variable {l a c it D p:Addr}
theorem aw.free (e:aw H H') (h:H' l=Option.none):H l=Option.none:=by
 cases q:H l with
 | none=>rfl
 | some o =>
 rw[e l o q]at h;cases h
theorem aw.seq {K:PySem.W.Frag} {xs:List V} (e:aw H H') (h:SqL K H a xs):SqL K H' a xs:=by
 rcases h with(h|⟨o,h⟩)|h
 ·exact .inl (.inl (e _ _ h))
 ·exact .inl (.inr ⟨o,e _ _ h⟩)
 exact .inr h
section
variable {κ:Type} [DecidableEq κ]
variable {kvs:List (κ × V)}
theorem jy {k:κ} (h:bJ kvs k=none):¬k∈kvs.map (·.1):=by
 intro m;obtain⟨p,hp,e⟩:=Qn.mp m;have q:(kvs.any λkv=>decide (kv.1=k))=true:=List.any_eq_true.mpr ⟨p,hp,QA e⟩;rw[cr,h]at q;exact absurd q (by simp)
theorem sS {k:κ} {v:V} (h:bJ kvs k=some v):k∈kvs.map (·.1):=by
 have q:(kvs.any λkv=>decide (kv.1=k))=true:=by
  rw[cr,h]
  all_goals rfl
 obtain⟨p,hp,e⟩:=List.any_eq_true.mp q;exact Qn.mpr ⟨p,hp,XR e⟩
theorem nJ:∀{l:List κ} {k:κ},l.Nodup->¬k∈l->(l++[k]).Nodup
 | [],k,_,_=>by simp
 | a::r,k,h,hk=>by
  obtain⟨h1,h2⟩:=Xb.mp h;show (a::(r++[k])).Nodup;refine Xb.mpr ⟨λm=>?_,nJ h2 λm=>hk (Qw.mpr (Or.inr m))⟩;rcases Qp.mp m with q|q
  ·exact h1 q
  exact hk (Qw.mpr (Or.inl (QG.mp q).symm))
end
section
variable {X:Cx}
end
def wk:St->St->Prop
 | [],[]=>True
 | none::a,_::b=>wk a b
 | some x::a,y::b=>y=some x/\wk a b
 | _,_=>False
theorem iy:∀{a b:St},wk a b->a.length=b.length
 | [],[],_=>rfl
 | [],_::_,h=>h.elim
 | none::_,[],h=>h.elim
 | some _::_,[],h=>h.elim
 | none::a,_::b,h=>congrArg (·+1) (iy (a:=a) (b:=b) h)
 | some _::a,_::b,h=>congrArg (·+1) (iy (a:=a) (b:=b) h.2)
theorem iz:∀{a b:St},wk a b->∀(i:Nat) (v:V),a[i]?=some (some v)->b[i]?=some (some v)
 | [],[],_,i,v,e=>by simp at e
 | [],_::_,h,_,_,_=>h.elim
 | none::_,[],h,_,_,_=>h.elim
 | some _::_,[],h,_,_,_=>h.elim
 | none::a,y::b,h,0,v,e=>by simp at e
 | none::a,y::b,h,i+1,v,e=>by
  have:=iz (a:=a) (b:=b) h i v (by simpa using e);simpa using this
 | some x::a,y::b,h,0,v,e=>by
  have e':x=v:=by simpa using e
  subst e';rw[h.1];rfl
 | some x::a,y::b,h,i+1,v,e=>by
  have:=iz (a:=a) (b:=b) h.2 i v (by simpa using e);simpa using this
def bY (env:Env):List (Str × NameKind)->List (Str × Addr)->List (Str × Addr)
 | [],acc=>acc
 | (n,k)::r,acc=>bY env r (if (k==.free)=true then (n,(env.cells.lookup n).getD 0)::acc else acc)
theorem gG {env:Env}:∀(ns:List (Str × NameKind)) (acc:List (Str × Addr)),(∀y∈ns,y.2=.free->∃c,env.cells.lookup y.1=some c) ->
  (forIn ns acc (fun x r=>match x with
   | (name,kind)=>if (kind==NameKind.free)=true then (do let c <-cellOf env name;pure (ForInStep.yield ((name,c)::r))) else pure (ForInStep.yield r)):Sem (List (Str × Addr)))=pure (bY env ns acc)
 | [],acc,_=>rfl
 | (n,k)::r,acc,h=>by
  rw[List.forIn_cons];have ih:=λa=>gG (env:=env) r a λy hy=>h y (Qj _ hy);by_cases hk:(k==NameKind.free)=true
  ·obtain⟨c,hc⟩:=h (n,k) Xd (by simpa using hk);have e1:cellOf env n=pure c:=by unfold cellOf;rw[hc]
   simp only[hk,if_true,e1,pure_bind];unfold bY;simp only[hk,if_true,hc,Option.getD_some];exact ih _
  simp only[hk,if_false,pure_bind];unfold bY;simp only[hk,if_false];exact ih _
variable {env:Env} {scope:Scope}
theorem gH (h:∀y∈scope.names,y.2=.free->∃c,env.cells.lookup y.1=some c):closureFor scope env=pure (bY env scope.names []):=by
 have e:=gG scope.names [] h;unfold closureFor
 first
  | (rw[show (forIn scope.names ([]:List (Str × Addr)) _:Sem (List (Str × Addr)))=pure (bY env scope.names []) from e];rfl)
  | (simp only[bind_pure];exact e)
  | exact(congrArg (· >>= pure) e)
theorem fi {env:Env}:∀(ns:List (Str × NameKind)) (acc:List (Str × Addr)) (n:Str) (a:Addr),(n,a)∈bY env ns acc->(n,a)∈acc\/(a=(env.cells.lookup n).getD 0/\(n,NameKind.free)∈ns)
 | [],acc,n,a,h=>.inl h
 | (m,k)::r,acc,n,a,h=>by
  unfold bY at h;by_cases hk:(k==NameKind.free)=true
  ·rw[Qu hk]at h;rcases fi r _ n a h with q|⟨q1,q2⟩
   ·rcases Qw.mp q with q|q
    ·cases q;have hk':k=.free:=by simpa using hk
     subst hk';exact .inr ⟨rfl,Xd⟩
    exact .inl q
   exact .inr ⟨q1,Qj _ q2⟩
  rw[Qt hk]at h;rcases fi r _ n a h with q|⟨q1,q2⟩
  ·exact .inl q
  exact .inr ⟨q1,Qj _ q2⟩
theorem ij {env:Env}:∀(ns:List (Str × NameKind)) (acc:List (Str × Addr)) (p:Str × Addr),p∈acc->p∈bY env ns acc
 | [],_,_,h=>h
 | (m,k)::r,acc,p,h=>by
  unfold bY;refine ij r _ p ?_
  split
  ·exact Qj _ h
  exact h
theorem gF {env:Env}:∀(ns:List (Str × NameKind)) (acc:List (Str × Addr)) (n:Str),(n,NameKind.free)∈ns->(n,(env.cells.lookup n).getD 0)∈bY env ns acc
 | [],_,_,h=>nomatch h
 | (m,k)::r,acc,n,h=>by
  unfold bY;rcases Qw.mp h with q|q
  ·cases q;refine ij r _ _ ?_;rw[Qu (by rfl)];exact Xd
  exact gF r _ n q
theorem c6 {α β:Type} [BEq α] [LawfulBEq α]:∀{l:List (α × β)} {x:α} {y:β},l.lookup x=some y->(x,y)∈l
 | [],_,_,h=>by simp at h
 | (a,b)::r,x,y,h=>by
  rw[Xa]at h;by_cases e:(x==a)=true
  ·rw[e]at h;have e':x=a:=by simpa using e
   have h':b=y:=by simpa using h
   subst e' h';exact Xd
  have e2:(x==a)=false:=by simpa using e
  rw[e2]at h;exact Qj _ (c6 (by simpa using h))
theorem dO {α β:Type} [BEq α] [LawfulBEq α]:∀{l:List (α × β)} {x:α} {y:β},(x,y)∈l->∃z,l.lookup x=some z
 | [],_,_,h=>nomatch h
 | (a,b)::r,x,y,h=>by
  rw[Xa];by_cases e:(x==a)=true
  ·rw[e];exact⟨b,rfl⟩
  have e2:(x==a)=false:=by simpa using e
  rw[e2];rcases Qw.mp h with q|q
  ·cases q;simp at e
  exact dO q
variable {x z:Str} {ns:List (Str × NameKind)}
theorem sJ (h:(bY env ns []).lookup x=some c) (hall:∀y∈ns,y.2=.free->∃c,env.cells.lookup y.1=some c):env.cells.lookup x=some c:=by
 rcases fi ns [] x c (c6 h) with q|⟨q1,q2⟩
 ·nomatch q
 obtain⟨c',hc⟩:=hall _ q2 rfl;have hc':env.cells.lookup x=some c':=hc;rw[hc']at q1;rw[hc',q1];rfl
theorem oq {env:Env} (h:(x,NameKind.free)∈ns):∃c,(bY env ns []).lookup x=some c:=dO (gF ns [] x h)
noncomputable def Cx.block (X:Cx) (N:List Str) (scope:Scope) (C:Addr) (s:Shared) (H:Hp) (fp:B3):Cx :=
 { X with N:=N,s₀:=s,H₀:=H,env:=compEnvC scope (bY X.env scope.names []) C X.env,outer:=X.stack,ex:=fp,fn:=λ_=>false,pn:=[],xe:=λ_ _=>False }
theorem iJ {k:NameKind} (h:(relabel scope env).names.lookup x=some k):∃k',scope.names.lookup x=some k'/\(k=k'\/(k'=.free/\k=.cell)):=by
 unfold relabel at h;generalize scope.names=ns at h
 induction ns with
 | nil=>simp at h
 | cons p r ih =>
 obtain⟨n,k0⟩:=p;rw[Qo]at h;by_cases e:(x==n)=true
 ·refine⟨k0,by rw[Xa,e],?_⟩;by_cases c:(k0==NameKind.free&&env.scope.kind==.function&&env.kindOf n==some .cell)=true
  ·have h1:some NameKind.cell=some k:=by
    have h2:=h;simp only[c,if_true]at h2;rw[Xa,e]at h2;exact h2
   have h3:k0=.free:=by
    simp only[XI,beq_iff_eq]at c;exact c.1.1
   exact .inr ⟨h3,(QL h1).symm⟩
  have h1:some k0=some k:=by
   have h2:=h;simp only[c,QX,if_false]at h2;rw[Xa,e]at h2;exact h2
  exact .inl (QL h1).symm
 have e2:(x==n)=false:=by simpa using e
 rw[Xa,e2];refine ih ?_;by_cases c:(k0==NameKind.free&&env.scope.kind==.function&&env.kindOf n==some .cell)=true
 ·have h2:=h;simp only[c,if_true]at h2;rw[Xa,e2]at h2;exact h2
 have h2:=h;simp only[c,QX,if_false]at h2;rw[Xa,e2]at h2;exact h2
theorem iK (h:scope.names.lookup x=some .free):(relabel scope env).names.lookup x=some .cell\/(relabel scope env).names.lookup x=some .free:=by
 unfold relabel;show List.lookup x (scope.names.map _)=_\/List.lookup x (scope.names.map _)=_;generalize scope.names=ns at h
 induction ns with
 | nil=>simp at h
 | cons p r ih =>
 obtain⟨n,k0⟩:=p;rw[Qo];by_cases e:(x==n)=true
 ·rw[Xa,e]at h;have h':k0=.free:=by simpa using h
  subst h';by_cases c:(NameKind.free==NameKind.free&&env.scope.kind==.function&&env.kindOf n==some .cell)=true
  ·left
   simp only[c,if_true];rw[Xa,e]
  right
  simp only[c,QX,if_false];rw[Xa,e]
 have e2:(x==n)=false:=by simpa using e
 rw[Xa,e2]at h;have h3:=ih h;by_cases c:(k0==NameKind.free&&env.scope.kind==.function&&env.kindOf n==some .cell)=true
 ·simp only[c,if_true];rw[Xa,e2];exact h3
 simp only[c,QX,if_false];rw[Xa,e2];exact h3
def uv (X:Cx) (ifs:List Expr) (t:TT):Prop :=
 ∀(pins:B1) (s:Shared) (U:St) (H:Hp) (Q:Bool->Hp->Prop),Inv X pins U H s->t U H Q ->
  wpAny (model X.prog X.w) X.A (forIn ifs true λc r=>if r=true then do let ok <-isTrue c X.env (eval c X.env);pure (ForInStep.yield ok) else pure (ForInStep.yield r)) (TP X pins U Q) X.xe s
def iC:TT:=λ_ H Q=>Q true H
theorem eD {X:Cx}:uv X [] iC:=λ_ _ _ H _ I h=>wpAny_tests_nil ⟨H,I,h⟩
theorem j9 {X:Cx} {c:Expr} {t:TT} (h:PT X c t):uv X [c] t:=λpins s U H Q I hw=>wpAny_tests_one (h pins s U H Q I hw)
theorem eP {prog:Program} {w:World} {A:Around} {R:Result->Shared->Prop} {s:Shared} {elt target iter:Expr} {ifs:List Expr} {pos:Pos} {it acc:Value} (I:Nat->Shared->Prop)
  (turn:∀n s,I n s->wpAny (model prog w) A (pyNext it) (fun r s1=>match r with
   | none=>R (.ok .next) s1
   | some v=>wpAny (model prog w) A (letOwnedTupleGo target it v) (λ_ s2=>wpAny (model prog w) A (assign target env v) (λ_ s3 =>
     wpAny (model prog w) A (forIn ifs true λc r=>if r=true then do let ok <-isTrue c env (eval c env);pure (ForInStep.yield ok) else pure (ForInStep.yield r)) (λok s4 =>
      if ok=true then wpAny (model prog w) A (eval elt env) (λx s5 =>
       wpAny (model prog w) A (call (.builtin "list.append") [acc,x]) (λ_ s6=>∃m,m<n/\I m s6) (λ_ _=>False) s5) (λ_ _=>False) s4
      else ∃m,m<n/\I m s4) (λ_ _=>False) s3) (λ_ _=>False) s2) (λ_ _=>False) s1) (λ_ _=>False) s)
  (n:Nat) (h:I n s):codeAny (model prog w) A (.compLoop (.ListComp elt [⟨target,iter,ifs,0⟩] scope pos) 0 it acc env) R s:=by
 refine codeAny_loop rfl I (λn s hI=>?_) n h;show wpAny _ A ((compTurn (.ListComp elt [⟨target,iter,ifs,0⟩] scope pos) 0 it acc env).onRaise (λx=>do noteFrame x env;theTreesLotGoes x)) _ _ s;refine wpAny_noted ?_;rw[compTurn_list];have no:∀{E:B0},∀e s',(λ(_:Value) (_:Shared)=>False) e s'->E e s':=λ_ _ z=>False.elim z;refine Qa (wpAny_standAt (Qa (XQ (turn n s hI) (λr s1 h1=>?_) no)))
 cases r with
 | none=>exact Qf h1
 | some v =>
 refine Qa (XQ h1 (λ_ s2 h2=>?_) no);refine Qa (XQ h2 (λ_ s3 h3=>Qa (XQ h3 (λok s4 h4=>?_) no)) no)
 cases ok with
 | false=>exact Qf ⟨rfl,h4⟩
 | true =>
 exact Qa (Qa (XQ h4 (λx s5 h5=>Qa (XQ h5 (λ_ s6 h6=>Qf (Qf ⟨rfl,h6⟩)) no)) no))
def bu (tgs:List Str) (cap:List (Str × Nat)) (U:St):St:=tgs.map (λ_=>none)++cap.map λc=>(U[c.2]?).join
def jH (wi:TI) (g:TG) (tt:TT) (te:TE) (f:St->St):TE:=λU H Q=>wi U H λJ H1=>∀D,H1 D=none->∃W:Nat->Nat->Hp->List V->Prop,(∃m,W 0 m (upd H1 D (.lst [])) []) /\
 ∀i m H ys,W i m H ys->H D=some (.lst ys)/\((J.stop i H/\Q (.ref D) H)\/(J.go i H/\∀x H',J.yld i H x H'->g x (f U) H' λσ2 H2=>wk (f U) σ2/\tt σ2 H2 λb H3 =>
  if b=true then te σ2 H3 λv H4=>H4 D=some (.lst ys)/\ys.length<sizeLine/\∃m',m'<m/\W (i+1) m' (upd H4 D (.lst (ys++[v]))) (ys++[v])
  else ∃m',m'<m/\W (i+1) m' H3 ys))
structure BlockOk (X:Cx) (scope:Scope) (tgs:List Str) (cap:List (Str × Nat)):Prop where
 kind:scope.kind=.function
 nocell:(scope.names.all λy=>!(y.2==NameKind.cell))=true
 names:(scope.names.all λy=>!(y.2==NameKind.local) || (scope.names.lookup y.1==some .local))=true
 free:(scope.names.all λy=>!(y.2==NameKind.free) || (X.env.scope.names.lookup y.1==some .cell) || (X.env.scope.names.lookup y.1==some .free))=true
 caps:(cap.all λc=>decide (X.N[c.2]?=some c.1)&&(scope.names.lookup c.1==some .free)&&(decide (X.env.scope.names.lookup c.1=some .cell) || decide (X.env.scope.names.lookup c.1=some .free)))=true
 tgl:(tgs.all λx=>(scope.names.lookup x==some .local))=true
section
variable {X:Cx} {scope:Scope} {tgs:List Str} {cap:List (Str × Nat)}
theorem BlockOk.cellAt (B:BlockOk X scope tgs cap) (ok:X.Ok):∀y∈scope.names,y.2=.free->∃c,X.env.cells.lookup y.1=some c:=λy hy hk=>by
 have q:=Xg.mp B.free y hy;rw[hk]at q;refine ok.has y.1 ?_;simp only[beq_self_eq_true,Bool.not_true,Bool.false_or,Bool.or_eq_true,beq_iff_eq]at q;exact q
theorem BlockOk.noc (B:BlockOk X scope tgs cap):∀y∈scope.names,y.2≠.cell:=λy hy hk=>by
 have q:=Xg.mp B.nocell y hy;rw[hk]at q;simp at q
theorem BlockOk.locs (B:BlockOk X scope tgs cap):∀y∈scope.names,y.2=.local->scope.names.lookup y.1=some .local:=λy hy hk=>by
 have q:=Xg.mp B.names y hy;rw[hk]at q;simpa using q
variable {pins:B1}
theorem Inv.enter {U:St} {H:Hp} {s:Shared} {h1:Heap} {tk:Nat} {fp:B3} (B:BlockOk X scope tgs cap) (I:Inv X pins U H s) (hfp:∀b∈fp,fv X pins H b) (hlt:∀b∈fp,b<s.heap.objs.size)
  (hns:h1.Ns s.heap.objs.size (λ_=>none)) (old:∀b o,s.heap.get? b=some o->h1.get? b=some o) :
  Inv (X.block (tgs++cap.map (·.1)) scope s.heap.objs.size s H fp) [] (bu tgs cap U) H { s with heap:=h1,toks:=tk }:=by
 have cellsIn:∀x c,(bY X.env scope.names []).lookup x=some c->X.env.cells.lookup x=some c:=λx c e=>sJ e (B.cellAt I.ok)
 have kindIn:∀x,((relabel scope X.env).names.lookup x=some .cell\/(relabel scope X.env).names.lookup x=some .free)->(x,NameKind.free)∈scope.names:=λx hx=>by
  have go:∀k,(relabel scope X.env).names.lookup x=some k->(k=.cell\/k=.free)->(x,NameKind.free)∈scope.names:=λk hk hc=>by
   obtain⟨k',e1,e2⟩:=iJ hk;have m:=c6 e1;rcases e2 with e2|⟨e2,_⟩
   ·subst e2;rcases hc with z|z
    ·exact absurd z (B.noc _ m)
    subst z;exact m
   subst e2;exact m
  rcases hx with h|h
  ·exact go _ h (.inl rfl)
  exact go _ h (.inr rfl)
 have nocl:∀x c,X.env.cells.lookup x=some c->c≠s.heap.objs.size:=λx c e=>by
  obtain⟨v,q⟩:=I.cell x c e;exact QF q.lt
 refine⟨⟨I.ok.mod,?_,I.ok.glob,I.ok.blt,Qi _,λx y c e1 e2=>I.ok.inj x y c (cellsIn x c e1) (cellsIn y c e2),λx hx=>?_,λx c hf _=>absurd (show false=true from hf) Qh,I.ok.hd,I.ok.frames,.inl rfl,
  λb hb=>⟨QF (hlt b hb),λx c e=>?_⟩,I.bs,QO I.ok.bsz I.sz,λb o e hb=>?_,λb hb hf=>?_,I.stack,I.stkFree⟩,
  rfl,I.bare,Un.kept old,⟨_,hns,λi x v h2 h3 h4=>?_⟩,λx c e=>?_,?_,λx c e=>I.freeC x c (cellsIn x c e),λp hp=>absurd (show p∈([]:B1) from hp) (by simp),I.hok.kept old,?_⟩
 ·exact B.kind
 ·exact oq (kindIn x hx)
 ·exact(hfp b hb).2.2.2.2.1 x c (cellsIn x c e)
 ·-- no object of the base is an iterator of ours
  rcases(hfp b hb).2.2.2.1 with z|z
  ·exact I.ok.noex b o e z
  have q:=I.ok.bs b o e;exact absurd (QS (Qs q.1) z) (Nat.lt_irrefl _)
 ·have hf':b∈frs X.stack:=hf;rcases Qw.mp (I.stkSub b hf') with z|z
  ·exact(hfp b hb).2.1 z
  exact(hfp b hb).2.2.1 z
 ·-- a name that is known: one of the captured ones
  have hi:tgs.length<=i:=by
   by_cases hl:i<tgs.length
   ·exfalso;unfold bu at h3;rw[QZ (by simpa using hl),QB]at h3
    cases e:tgs[i]? with
    | none=>rw[e]at h3;cases h3
    | some z=>rw[e]at h3;cases h3
   exact om2 hl
  unfold bu at h3;rw[QW (by simpa using hi),Qb,QB]at h3;have h2':(tgs++cap.map (·.1))[i]?=some x:=h2;rw[QW hi,QB]at h2'
  cases e:cap[i-tgs.length]? with
  | none=>rw[e]at h2';cases h2'
  | some c =>
  rw[e]at h2' h3;have hx:c.1=x:=by simpa using h2'
  have hv:(U[c.2]?).join=some v:=by simpa using h3
  have hm:c∈cap:=Qz e;have q:=Xg.mp B.caps c hm;simp only[XI,decide_eq_true_eq,beq_iff_eq,Bool.or_eq_true]at q;obtain⟨⟨q1,q2⟩,q3⟩:=q
  have hσ:U[c.2]?=some (some v):=by
   cases z:U[c.2]? with
   | none=>rw[z]at hv;cases hv
   | some o =>
   rw[z]at hv;have:o=some v:=by simpa using hv
   rw[this]
  obtain⟨m,_,hl⟩:=I.loc
  obtain⟨u,r,l⟩:=hl c.2 c.1 v q1 hσ (by
   rcases q3 with z|z
   ·exact .inr (.inl z)
   exact .inr (.inr z))
  subst hx;refine⟨u,r,.inr ⟨iK q2,?_⟩⟩
  have nl:¬X.env.kindOf c.1=some .local:=λz=>by
   rcases q3 with y|y
   ·have:X.env.kindOf c.1=some .cell:=y;rw[this]at z;cases z
   have:X.env.kindOf c.1=some .free:=y;rw[this]at z;cases z
  rcases l with⟨l1,_⟩|⟨_,d,l2,l3⟩
  ·exact absurd l1 nl
  obtain⟨d',e'⟩:=oq (env:=X.env) (c6 q2);have:d=d':=QL (l2.symm.trans (cellsIn _ _ e'));subst this;obtain⟨oc,ho,hd⟩:=l3;exact⟨d,e',oc,old d oc ho,hd⟩
 ·obtain⟨v,oc,ho,hd⟩:=I.cell x c (cellsIn x c e);exact⟨v,oc,old c oc ho,hd⟩
 ·exact I.hok.fresh (Qi _)
 unfold bu;show _=(tgs++cap.map (·.1)).length;simp
theorem Inv.leave {U σ':St} {H H':Hp} {s s':Shared} {h2:Heap} {fp:B3} {N:List Str} (I:Inv X pins U H s) (hfp:∀b∈fp,fv X pins H b)
  (J:Inv (X.block N scope s.heap.objs.size s H fp) [] σ' H' s') (hs:Heap.SameBut s.heap.objs.size s'.heap h2):Inv X pins U H' { s' with heap:=h2 }:=by
 have u:Un (frs X.stack) fp H H' s.heap s'.heap:=J.base;have ne:∀b o,s.heap.get? b=some o->b≠s.heap.objs.size:=λb o e=>QF (Qs e);have hf:H' s.heap.objs.size=none:=J.free;have k:∀b o,b≠s.heap.objs.size->s'.heap.get? b=some o->h2.get? b=some o:=λb o hb e=>(hs.2 b hb).trans e
 have u2:Un (frs X.stack) fp H H' s.heap h2 :=
  ⟨λb o e n h1 h3=>k b o (ne b o e) (u.keep b o e n h1 h3),λb o e n h1 h3=>let ⟨sl,q⟩:=u.slot b o e n h1 h3;⟨sl,k b _ (ne b o e) q⟩,u.free,λb o e h3=>let ⟨o',q⟩:=u.there b o e h3;⟨o',k b o' (ne b o e) q⟩,u.tups,u.frzs,u.tbls⟩
 have hok:HOk X.prog X.w H' h2:=λb ob e=>(J.hok b ob e).stay (λc v hc q=>k c v (by
  rcases hc with z|z
  ·subst z;intro y;rw[y,hf]at e;cases e
  intro y
  rw[y,hf]at z;cases z) q) (λ_ q=>q) λ_ _ q=>q
 exact Inv.call' I (s':={ s' with heap:=h2 }) J.os u2 hok J.bare λb hb=>by
  obtain⟨f0,f1,f2,f3,f4,f5⟩:=hfp b hb;exact⟨f3,f1,f4,f5⟩
theorem qO {elt tg iter:Expr} {ifs:List Expr} {pos:Pos} {wi:TI} {g:TG} {tt:TT} {te:TE} (hc:X.calm=true) (B:BlockOk X scope tgs cap) (hi:PI X tg iter wi)
  (hg:∀C s H fp,PG (X.block (tgs++cap.map (·.1)) scope C s H fp) tg g) (ht:∀C s H fp,uv (X.block (tgs++cap.map (·.1)) scope C s H fp) ifs tt) (he:∀C s H fp,PE (X.block (tgs++cap.map (·.1)) scope C s H fp) elt te)
  (hs:∀x,foldedSetIterable iter X.env x=pure x:=by intro _;rfl):PE X (.ListComp elt [⟨tg,iter,ifs,0⟩] scope pos) (jH wi g tt te (bu tgs cap)):=by
 intro pins s U H Q I h;rw[eval_ListComp];refine wpAny_comprehension_free (use:=none) rfl hs (gH (B.cellAt I.ok)) B.kind B.locs (thn (hi pins s U H _ I h) λv s1 h1=>thn h1 λitv s2 h2=>?_);obtain⟨it,fp,tn,J,H2,e,I2,T,st2,f2,q⟩:=h2;subst e;have lt2:∀b∈fp,b<s2.heap.objs.size:=λb hb=>let ⟨o,e,_⟩:=T.obj _ _ st2 b hb;Qs e;have hD:H2 s2.heap.objs.size=none:=I2.hok.fresh (Qi _);obtain⟨W,⟨m0,w0⟩,turn⟩:=q s2.heap.objs.size hD;refine wpAny_newObj_type ?_;have I3:Inv X pins U (upd H2 s2.heap.objs.size (.lst [])) { s2 with heap:=s2.heap.push { cls:=.type "list", dict:=none,data:=.seq ([]:List Value).toArray } }:=I2.lnew (t':=s2.toks) (ys:=[]) (its:=[]) .nil (QR _);have st3:tn 0 (s2.heap.push { cls:=.type "list", dict:=none,data:=.seq ([]:List Value).toArray }):=T.keep _ _ _ st2 λb _ o e=>Qd _ e;have nD:∀b∈fp,b≠s2.heap.objs.size:=λb hb=>QF (lt2 b hb);have f3:∀b∈fp,fv X pins (upd H2 s2.heap.objs.size (.lst [])) b:=λb hb=>⟨by rw[ao (nD b hb)];exact(f2 b hb).1,(f2 b hb).2⟩;generalize hs3:({ s2 with heap:=s2.heap.push { cls:=.type "list", dict:=none,data:=.seq ([]:List Value).toArray } }:Shared)=s3 at I3 st3 ⊢;have st3':tn 0 s3.heap:=by rw[<-hs3];exact st3
 have lt3:∀b∈fp,b<s3.heap.objs.size:=λb hb=>let ⟨o,e,_⟩:=T.obj _ _ st3' b hb;Qs e;generalize hH3:upd H2 s2.heap.objs.size (.lst [])=H3 at I3 f3 w0;generalize s2.heap.objs.size=D at *;refine wpAny_newFunctionEnv B.noc (by intro y hy;simp at hy) (λh1 hns hsb=>?_) B.kind;have old:∀b o,s3.heap.get? b=some o->h1.get? b=some o:=λb o e=>hsb.extBut b o (QF (Qs e)) (Qd _ e);have I4:=Inv.enter (tk:=s3.toks+([]:List (Str × Value)).length) (h1:=h1) B I3 f3 lt3 hns old;have st4:tn 0 h1:=T.keep _ _ _ st3' λb _ o e=>old b o e
 have fpB:∀{H':Hp},(∀b∈fp,H' b=none)->∀b∈fp,fv (X.block (tgs++cap.map (·.1)) scope s3.heap.objs.size s3 H3 fp) [] H' b:=λ{H'} hn b hb =>
  ⟨hn b hb,QF (lt3 b hb),I4.ok.exfs b hb,.inl hb,λx c e=>(I4.ok.exf b hb).2 x c e,λp hp=>absurd (show p∈([]:B1) from hp) (by simp)⟩
 have loop:codeAny (model X.prog X.w) X.A (.compLoop (.ListComp elt [⟨tg,iter,ifs,0⟩] scope pos) 0 (.ref it) (.ref D) (compEnvC scope (bY X.env scope.names []) s3.heap.objs.size X.env))
   (compPost (model X.prog X.w) X.A X.xe none (EP X pins U Q) (.ref D) s3.heap.objs.size) { s3 with heap:=h1,toks:=s3.toks+([]:List (Str × Value)).length }:=by
  refine eP (λn s'=>∃i H' ys,Inv (X.block (tgs++cap.map (·.1)) scope s3.heap.objs.size s3 H3 fp) [] (bu tgs cap U) H' s'/\tn i s'.heap/\(∀b∈fp,H' b=none)/\W i n H' ys) ?_ m0 ⟨0,H3,[],I4,st4,λb hb=>(f3 b hb).1,w0⟩;rintro n s5 ⟨i,H5,ys,I5,st5,fr5,w5⟩;obtain⟨hl,ht5⟩:=turn i n H5 ys w5;rcases ht5 with⟨stop,qd⟩|⟨go,step⟩
  ·refine thn (T.done (X.block (tgs++cap.map (·.1)) scope s3.heap.objs.size s3 H3 fp) rfl rfl rfl hc i [] s5 _ H5 _ I5 (fpB fr5) st5 stop) λr s6 ⟨hr,I6⟩=>?_;subst hr;obtain⟨m6,n6,_⟩:=I6.loc;exact⟨m6,n6,λh' hs'=>⟨.ref D,H5,Inv.leave I3 f3 I6 hs',rfl,qd⟩⟩
  refine thn (T.item (X.block (tgs++cap.map (·.1)) scope s3.heap.objs.size s3 H3 fp) rfl rfl rfl hc i [] s5 _ H5 _ I5 (fpB fr5) st5 go) λr s6 ⟨u,hr,h6⟩=>?_;subst hr;refine thn h6 λ_ s7 ⟨x,H7,I7,r7,y7,st7,fr7⟩=>?_;have I7':=I7.pinned (fpB fr7) (T.obj _ _ st7)
  have again:∀{σ8:St} {H8:Hp} {s8:Shared} {ys8:List V},Inv (X.block (tgs++cap.map (·.1)) scope s3.heap.objs.size s3 H3 fp) ([]++e_ fp s7.heap) σ8 H8 s8->wk (bu tgs cap U) σ8->(∃m',m'<n/\W (i+1) m' H8 ys8) ->
    ∃m,m<n/\∃i H' ys,Inv (X.block (tgs++cap.map (·.1)) scope s3.heap.objs.size s3 H3 fp) [] (bu tgs cap U) H' s8/\tn i s8.heap/\(∀b∈fp,H' b=none)/\W i m H' ys:=λ{σ8 H8 s8 ys8} I8 k8 ⟨m',hm,w8⟩=>by
   refine⟨m',hm,i+1,H8,ys8,I8.unpinned.weak (iy k8) (iz k8),T.keep _ _ _ st7 λb hb o e=>(I8.pin (b,o) (QI _ (QI _ (b_ hb e)))).1,λb hb=>?_,w8⟩;obtain⟨o,e,d⟩:=T.obj _ _ st7 b hb;exact(I8.pin (b,o) (QI _ (QI _ (b_ hb e)))).2.1
  refine thn (hg _ _ _ _ _ s7 _ H7 x u _ I7' r7 (step x H7 y7)) λ_ s8 ⟨σ8,H8,I8,k8,q8⟩=>?_;refine thn (ht _ _ _ _ _ s8 σ8 H8 _ I8 q8) λok s9 ⟨H9,I9,q9⟩=>?_
  cases ok with
  | false =>
   rw[Qt Qh]at q9 ⊢;exact again I9 k8 q9
  | true =>
  rw[Qu rfl]at q9 ⊢;refine thn (he _ _ _ _ _ s9 σ8 H9 _ I9 q9) λy sA ⟨yv,HA,IA,rA,hA,zA,qA⟩=>?_;exact thn (bx _ sA σ8 HA (.ref D) [yv] (.ref D) [y] (λv H'=>v=.non/\∃m',m'<n/\W (i+1) m' H' (ys++[yv])) IA rfl (.cons rA .nil) ⟨D,ys,yv,rfl,rfl,hA,zA,rfl,qA⟩) λ_ sB ⟨_,HB,IB,_,_,qB⟩=>again IB k8 qB
 exact codeAny_compStart_list loop (T.self _ 0 _ _ _ st4 loop)
theorem fB {X:Cx} {scope:Scope} {elt iter:Expr} {p pos:Pos} {wi:TI} {te:TE} (x:Str) (cap:List (Str × Nat)) (hi:PI X (.Name x p) iter wi) (he:∀C s H fp,PE (X.block ([x]++cap.map (·.1)) scope C s H fp) elt te) (hc:X.calm=true:=by rfl) (B:BlockOk X scope [x] cap:=by exact⟨rfl,rfl,rfl,rfl,rfl,rfl⟩) (hN:([x]++cap.map (·.1)).Nodup:=by decide +kernel) (hg:([x]++cap.map (·.1)).Nodup->∀C s H fp,PG (X.block ([x]++cap.map (·.1)) scope C s H fp) (.Name x p) (df 0):=by intro h _ _ _ _;exact cK (i:=0) h rfl (by z_go)) (hs:∀x,foldedSetIterable iter X.env x=pure x:=by intro _;rfl):PE X (.ListComp elt [⟨.Name x p,iter,[],0⟩] scope pos) (jH wi (df 0) iC te (bu [x] cap)):=qO hc B hi (hg hN) (λ_ _ _ _=>eD) he hs
end
def Itf (n:Nat) (f:Nat->V):It:=⟨λi _=>i<n,λi H x H'=>H'=H/\x=f i,λi _=>i=n⟩
variable {n i:Nat}
theorem fZ {P:Program} {w:World} {K:PySem.W.Frag} {px:Pos} {f:Nat->V} {Pv:Nat->Value->Prop} {St:Nat->Heap->Prop}
  (W:∀A:Around,A.handled=none->Walks P w A it [it] [it] n Pv St) (hP:∀i v,Pv i v->aX (f i) v) (hobj:∀i h,St i h->∃o,h.get? it=some o/\∀v,o.data≠.cell v)
  (hfr:∀i h h',St i h->(∀o,h.get? it=some o->h'.get? it=some o)->St i h')
  (hself:∀(A:Around) (i:Nat) (s:Shared) (Q:B0) (E:B0),St i s.heap->Q (.ref it) s->wpAny (model P w) A (pyIter (.ref it)) Q E s) :
  Turn P w K (.Name x px) (Itf n f) [it] it St where
 mem:=by simp
 obj:=λi h st b hb=>by
  have e:b=it:=by simpa using hb
  subst e;exact hobj i h st
 keep:=λi h h' st k=>hfr i h h' st λo e=>k it (by simp) o e
 item:=by
  intro X hP' hw hK hc i pins s U H E I hf st hg;subst hP' hw hK;obtain⟨f0,f1,f2,f3,f4,f5⟩:=hf it (by simp);refine(W X.A (I.ok.hd hc)).item i s _ _ hg st λv h' tk hv st' kk=>?_;have I1:Inv X pins U H { s with heap:=h',toks:=tk }:=I.turned (λb o hb e=>kk b o (by simpa using hb) e) f0 f1 f3 f4 f5;refine⟨v,rfl,wpAny_of_eq (a:=()) (by rfl) ⟨f i,H,I1,hP i v hv,⟨rfl,rfl⟩,st',λb hb=>(hf b hb).1⟩⟩
 done:=by
  intro X hP' hw hK hc i pins s U H E I hf st hg;subst hP' hw hK;obtain⟨f0,f1,f2,f3,f4,f5⟩:=hf it (by simp);have e:i=n:=hg;subst e;exact(W X.A (I.ok.hd hc)).done s _ _ st λh' tk kk=>⟨rfl,I.turned (λb o hb e=>kk b o (by simpa using hb) e) f0 f1 f3 f4 f5⟩
 self:=λA i s Q E st h=>hself A i s Q E st h
def nq (z:Str) (i:Nat):V:=.str ⟨#[z.cps.getD i 0]⟩
theorem gf {v:Value} (h:SignAt z i v):aX (nq z i) v:=by
 obtain⟨c,u,h1,h2⟩:=h;subst h2;refine⟨u,?_⟩;have:z.cps.getD i 0=c:=by rw[Array.getD_eq_getD_getElem?,h1];rfl
 rw[this]
theorem pY {P:Program} {w:World} {K:PySem.W.Frag} {px:Pos} {t:Tok} {ty:String} (hty:ty = "str_ascii_iterator" \/ ty = "str_iterator") :
  Turn P w K (.Name x px) (Itf z.cps.size (nq z)) [it] it (λi h=>h.IsStrIter it ty z t i):=by
 rcases hty with e|e
 ·subst e
  exact fZ (λA hA=>Walks.strAscii hA it z t) (λi v h=>gf h) (λi h st=>let ⟨o,e,_,d⟩:=st;⟨o,e,λv q=>by rw[d]at q;cases q⟩)
   (λi h h' st k=>let ⟨o,e,r⟩:=st;⟨o,k o e,r⟩) λA i s Q E st q=>wpAny_pyIter_striter_ascii st q
 subst e
 exact fZ (λA hA=>Walks.strWide hA it z t) (λi v h=>gf h) (λi h st=>let ⟨o,e,_,d⟩:=st;⟨o,e,λv q=>by rw[d]at q;cases q⟩)
  (λi h h' st k=>let ⟨o,e,r⟩:=st;⟨o,k o e,r⟩) λA i s Q E st q=>wpAny_pyIter_striter_wide st q
section
variable {X:Cx} {x:Str} {px:Pos}
def Ae (tl:TE):TI:=λU H R=>tl U H λv H1=>∃z:Str,v=.str z/\R (Itf z.cps.size (nq z)) H1
theorem qK {l:Expr} {tl:TE} (hl:PE X l tl):PI X (.Name x px) l (Ae tl):=by
 intro pins s U H R I h;refine thn (hl pins s U H _ I h) λv s1 ⟨y,H1,I1,r1,q1⟩=>?_;obtain⟨z,e,q⟩:=q1;subst e;obtain⟨t,e⟩:=r1;subst e
 have fin:∀ty:String,(ty = "str_ascii_iterator" \/ ty = "str_iterator")->PIE X pins U (.Name x px) R (.ref s1.heap.objs.size) { s1 with heap:=s1.heap.push { cls:=.type ty,data:=.fields #[.str z t,.int 0 0] } }:=λty hty=>by
  refine⟨s1.heap.objs.size,[s1.heap.objs.size],_,_,H1,rfl,I1.kept (t':=s1.toks) λb o e=>Qd _ e,pY (t:=t) hty,⟨_,Qv _ rfl,rfl,rfl⟩,λb hb=>?_,q⟩;have e:b=s1.heap.objs.size:=by simpa using hb
  subst e;exact I1.fpOk (Qi _) (I1.hok.fresh (Qi _))
 cases ha:z.cps.all (·<128) with
 | false=>exact wpAny_pyIter_wide ha (fin _ (.inr rfl))
 | true=>exact wpAny_pyIter_ascii ha (fin _ (.inl rfl))
end
section
variable {X:Cx}
def wX:V->Option Int->Option Int->Hp->VK->Prop:=λx lo hi H Q=>∃z:Str,x=.str z/\z.length<=sizeLine/\Q (.str (Txt.slice z lo hi)) H
theorem lN:SlR X wX:=by
 intro pins s U H x v vl vu lo hi sl Q I rx hs pl pu h;obtain⟨z,e,hz,q⟩:=h;subst e;obtain⟨t,e⟩:=rx;subst e;refine⟨"str", _,F.slot_str_getitem.lookup,typeIs_str _ _ _,?_⟩;have fin:∀(t':Tok) (k:Nat),EP X pins U Q (.str (Txt.slice z lo hi) t') { s with toks:=k }:=λt' k=>⟨.str _,H,I.tok k,⟨t',rfl⟩,q⟩
 cases pl with
 | none =>
  cases pu with
  | none=>exact wpAny_getItem_str_slice (l:=none) (u:=none) (st:=none) hs rfl (post_val_or_str ⟨QO (Txt.slice_le z _ _) hz,fin⟩)
  | int j uj=>exact wpAny_getItem_str_slice (l:=none) (u:=some (j,uj)) (st:=none) hs rfl (post_val_or_str ⟨QO (Txt.slice_le z _ _) hz,fin⟩)
 | int i ui =>
 cases pu with
 | none=>exact wpAny_getItem_str_slice (l:=some (i,ui)) (u:=none) (st:=none) hs rfl (post_val_or_str ⟨QO (Txt.slice_le z _ _) hz,fin⟩)
 | int j uj=>exact wpAny_getItem_str_slice (l:=some (i,ui)) (u:=some (j,uj)) (st:=none) hs rfl (post_val_or_str ⟨QO (Txt.slice_le z _ _) hz,fin⟩)
theorem dW:∀{ys:List Str} {us:List Value},aI (ys.map V.str) us->StrsAre us ys
 | [],_,r=>by
  rw[List.map_nil]at r;cases r;exact .nil
 | y::ys,_,r=>by
  rw[Qo]at r
  cases r with
  | cons r1 r2 =>
  obtain⟨t,e⟩:=r1;subst e;exact .cons y t (dW r2)
def uH (K:PySem.W.Frag):V->List V->Hp->VK->Prop:=λx vs H Q=>∃(z:Str) (l:Addr) (ys:List Str),x=.str z/\vs=[.ref l]/\SqL K H l (ys.map V.str)/\(ys.map (·.length)).sum+ys.length*z.length<=16777216/\Q (.str (Txt.join z ys)) H
theorem c4:MtR X "str.join" (uH X.K):=by
 intro pins s U H x vs v us Q I rx rv h;obtain⟨z,l,ys,e1,e2,hl,hz,q⟩:=h;subst e1 e2;obtain⟨t,e⟩:=rx;subst e;obtain⟨u,e,ru⟩:=rv.one;subst e;cases ru;obtain⟨its,r,pl,_⟩:=I.list hl;exact join_list pl.isList (by simpa using dW r) hz λt' k=>⟨.str _,H,I.tok k,⟨t',rfl⟩,q⟩
theorem pH (ys:List Str):(Txt.join Str.empty ys).cps.toList=(ys.map (·.cps.toList)).flatten:=by
 unfold Txt.join;rw[PySem.StrLaws.glued_eq_join]
 induction ys with
 | nil=>rfl
 | cons y r ih =>
 cases r with
 | nil=>simp[Str.join]
 | cons y2 r2 =>
 show (y++Str.empty++Str.join Str.empty (y2::r2)).cps.toList=_;rw[Qo,List.flatten_cons,<-ih];show (y.cps++Str.empty.cps++(Str.join Str.empty (y2::r2)).cps).toList=_;simp[Str.empty]
end
inductive EqD (K:PySem.W.Frag) (H:Hp):Nat->V->V->Bool->Prop
 | flat {n:Nat} {x y:V}:cv x=true->cv y=true->EqD K H n x y (eqV x y)
 | same {n:Nat} {a:Addr}:EqD K H n (.ref a) (.ref a) true
 | lists {n:Nat} {a b:Addr} {xs ys:List V} {e:Nat->Bool}:SqL K H a xs->SqL K H b ys->xs.length=ys.length->(∀(j:Nat) x y,xs[j]?=some x->ys[j]?=some y->EqD K H n x y (e j))->a≠b ->
   EqD K H (n+1) (.ref a) (.ref b) ((List.range xs.length).all e)
 | tups {n:Nat} {a b:Addr} {xs ys:List V} {e:Nat->Bool}:SqT K H a xs->SqT K H b ys->(∀(j:Nat) x y,xs[j]?=some x->ys[j]?=some y->EqD K H n x y (e j))->a≠b ->
   EqD K H (n+1) (.ref a) (.ref b) ((List.range (min xs.length ys.length)).all e&&xs.length==ys.length)
theorem EqD.at {X:Cx} {pins:B1} {U:St} {H:Hp} {s:Shared} (I:Inv X pins U H s) {n:Nat} {x y:V} {b:Bool} (h:EqD X.K H n x y b) :
  ∀{A:Around} {u v:Value},A.units+n<cLine->aX x u->aX y v->SeqAt.EqAt A s u v b:=by
 induction h with
 | flat fx fy=>intro A u v _ rx ry;exact sv rx ry fx fy
 | same =>
  intro A u v _ rx ry;cases rx;cases ry;exact SeqAt.EqAt.same _
 | @lists n a c xs ys e ha hb hl hi hne ih =>
  intro A u v hu rx ry;cases rx;cases ry;obtain⟨its,r1,p1,_⟩:=I.list ha;obtain⟨its2,r2,p2,_⟩:=I.list hb;have l1:=r1.length;have l2:=r2.length;refine SeqAt.EqAt.of_refs hne ?_
  have q:=SeqAt.RcAt.lists (A:=A) (e:=e) p1.isList p2.isList (by rw[Qk,Qk];exact om7 hl l1 l2) (by exact om8 hu) λj h1 h2=>by
   rw[Qk]at h1 h2;have e1:xs[j]?=some xs[j]:=Qc (by exact om9 hl l1 l2 h1);have e2:ys[j]?=some ys[j]:=Qc (by exact Bh hl l1 l2 h1);obtain⟨w1,g1,rr1⟩:=r1.get e1;obtain⟨w2,g2,rr2⟩:=r2.get e2
   have g1':its.toArray[j]=w1:=by
    have:=(Ql.mp g1).2;simpa using this
   have g2':its2.toArray[j]=w2:=by
    have:=(Ql.mp g2).2;simpa using this
   rw[g1',g2'];exact ih j _ _ e1 e2 (by show A.units+1+n<cLine;exact zL hu) rr1 rr2
  rw[Qk,<-l1]at q;exact q
 | @tups n a c xs ys e ha hb hi hne ih =>
 intro A u v hu rx ry;cases rx;cases ry;obtain⟨its,r1,p1,_⟩:=I.tuple ha;obtain⟨its2,r2,p2,_⟩:=I.tuple hb;have l1:=r1.length;have l2:=r2.length;refine SeqAt.EqAt.of_refs hne ?_
 have q:=SeqAt.RcAt.tuples (A:=A) (e:=e) (show s.heap.IsTuple a its.toArray from p1) (show s.heap.IsTuple c its2.toArray from p2) (by exact om8 hu) λj h1 h2=>by
  rw[Qk]at h1 h2;have e1:xs[j]?=some xs[j]:=Qc (by exact wa l1 h1);have e2:ys[j]?=some ys[j]:=Qc (by exact wa l2 h2);obtain⟨w1,g1,rr1⟩:=r1.get e1;obtain⟨w2,g2,rr2⟩:=r2.get e2
  have g1':its.toArray[j]=w1:=by
   have:=(Ql.mp g1).2;simpa using this
  have g2':its2.toArray[j]=w2:=by
   have:=(Ql.mp g2).2;simpa using this
  rw[g1',g2'];exact ih j _ _ e1 e2 (by show A.units+1+n<cLine;exact zL hu) rr1 rr2
 rw[Qk,Qk,<-l1,<-l2]at q;exact q
section
variable {X:Cx}
theorem EqD.items {pins:B1} {U:St} {H:Hp} {s:Shared} (I:Inv X pins U H s) {n:Nat} {A:Around} (hu:A.units+1+n<cLine) {xs ys:List V} {its its2:List Value} (r1:aI xs its) (r2:aI ys its2) {e:Nat->Bool}
  (h:∀(j:Nat) x y,xs[j]?=some x->ys[j]?=some y->EqD X.K H n x y (e j)) (j:Nat) (h1:j<its.toArray.size) (h2:j<its2.toArray.size):SeqAt.EqAt A.in1 s its.toArray[j] its2.toArray[j] (e j):=by
 have l1:=r1.length;have l2:=r2.length;rw[Qk]at h1 h2;have e1:xs[j]?=some xs[j]:=Qc (by exact zp h1 l1);have e2:ys[j]?=some ys[j]:=Qc (by exact zp h2 l2);obtain⟨w1,g1,rr1⟩:=r1.get e1;obtain⟨w2,g2,rr2⟩:=r2.get e2
 have g1':its.toArray[j]=w1:=by
  have:=(Ql.mp g1).2;simpa using this
 have g2':its2.toArray[j]=w2:=by
  have:=(Ql.mp g2).2;simpa using this
 rw[g1',g2'];exact EqD.at I (h j _ _ e1 e2) (by show A.units+1+n<cLine;exact hu) rr1 rr2
def tG (K:PySem.W.Frag) (neg:Bool):R2:=λx y H Q=>∃a b xs ys e,x=.ref a/\y=.ref b/\SqL K H a xs/\SqL K H b ys/\(∀(j:Nat) x y,xs[j]?=some x->ys[j]?=some y->EqD K H 8 x y (e j)) /\
 Q (.bl (if neg then !(xs.length==ys.length&&(List.range xs.length).all e) else (xs.length==ys.length&&(List.range xs.length).all e))) H
def tE (K:PySem.W.Frag) (neg:Bool):R2:=λx y H Q=>∃a b xs ys e,x=.ref a/\y=.ref b/\SqT K H a xs/\SqT K H b ys/\(∀(j:Nat) x y,xs[j]?=some x->ys[j]?=some y->EqD K H 8 x y (e j)) /\
 Q (.bl (if neg then !((List.range (min xs.length ys.length)).all e&&xs.length==ys.length) else ((List.range (min xs.length ys.length)).all e&&xs.length==ys.length))) H
theorem ma (hu:X.A.units+64<cLine):OpR X (compareOp .Eq) (tG X.K false):=by
 intro pins s U H x y v u Q I rx ry h;obtain⟨a,b,xs,ys,e,e1,e2,ha,hb,hi,q⟩:=h;subst e1 e2;cases rx;cases ry;obtain⟨its,r1,p1,_⟩:=I.list ha;obtain⟨its2,r2,p2,_⟩:=I.list hb;have l1:=r1.length;have l2:=r2.length;by_cases hl:xs.length=ys.length
 ·refine SeqAt.eq_listAt (e:=e) p1.isList p2.isList (by rw[Qk,Qk];exact zc l1 l2 hl) (by exact oX hu) (EqD.items I (by exact v_ hu) r1 r2 hi) ⟨.bl _,H,I,rfl,?_⟩;rw[Qk,<-l1];have:(xs.length==ys.length)=true:=by simpa using hl
  rw[this]at q;exact q
 refine SeqAt.eq_list_lengthsAt p1.isList p2.isList (by rw[Qk,Qk,<-l1,<-l2];simpa using hl) (by exact oX hu) ⟨.bl _,H,I,rfl,?_⟩;have:(xs.length==ys.length)=false:=by simpa using hl
 rw[this]at q;exact q
theorem qV (hu:X.A.units+64<cLine):OpR X (compareOp .NotEq) (tG X.K true):=by
 intro pins s U H x y v u Q I rx ry h;obtain⟨a,b,xs,ys,e,e1,e2,ha,hb,hi,q⟩:=h;subst e1 e2;cases rx;cases ry;obtain⟨its,r1,p1,_⟩:=I.list ha;obtain⟨its2,r2,p2,_⟩:=I.list hb;have l1:=r1.length;have l2:=r2.length;by_cases hl:xs.length=ys.length
 ·refine SeqAt.RcNeAt.lists (e:=e) p1.isList p2.isList (by rw[Qk,Qk];exact zc l1 l2 hl) (by exact oX hu) (EqD.items I (by exact v_ hu) r1 r2 hi) _ _ _ _ ⟨.bl _,H,I,rfl,?_⟩;rw[Qk,<-l1];have:(xs.length==ys.length)=true:=by simpa using hl
  rw[this]at q;exact q
 refine SeqAt.RcNeAt.lists_lengths p1.isList p2.isList (by rw[Qk,Qk,<-l1,<-l2];simpa using hl) (by exact oX hu) _ _ _ _ ⟨.bl _,H,I,rfl,?_⟩;have:(xs.length==ys.length)=false:=by simpa using hl
 rw[this]at q;exact q
theorem qU (hu:X.A.units+64<cLine):OpR X (compareOp .NotEq) (tE X.K true):=by
 intro pins s U H x y v u Q I rx ry h;obtain⟨a,b,xs,ys,e,e1,e2,ha,hb,hi,q⟩:=h;subst e1 e2;cases rx;cases ry;obtain⟨its,r1,p1,_⟩:=I.tuple ha;obtain⟨its2,r2,p2,_⟩:=I.tuple hb;have l1:=r1.length;have l2:=r2.length;refine SeqAt.RcNeAt.tuples (e:=e) (show s.heap.IsTuple a its.toArray from p1) (show s.heap.IsTuple b its2.toArray from p2) (by exact oX hu) (EqD.items I (by exact v_ hu) r1 r2 hi) _ _ _ _ ⟨.bl _,H,I,rfl,?_⟩;rw[Qk,Qk,<-l1,<-l2];exact q
end
section
variable {X:Cx}
theorem aC:cW X (.builtin "isinstance") (λxs H Q=>∃x T ty b,xs=[x,.ty T]/\TyOf X.K H x ty/\PySem.W.kitOne X.K ty (.type T)=some b/\Q (.bl b) H):=by
 intro pins s U H xs us Q I r h;obtain⟨x,T,ty,b,e,t,k,q⟩:=h;subst e;obtain⟨u1,u2,e,r1,r2⟩:=pU r;subst e;cases r2;exact pD I r1 t k λtk=>⟨.bl b,H,I.tok tk,rfl,q⟩
theorem be {K:PySem.W.Frag} (T:String):PySem.W.kitOne K (.type T) (.type T)=some true:=by
 unfold PySem.W.kitOne;rw[Qu (by simp)]
theorem pP (bs:List Bool):(List.range bs.length).all (λi=>bs.getD i false)=bs.all id:=by
 rw[Bool.eq_iff_iff];simp only[Xg,Xz]
 constructor
 ·intro h x hx;obtain⟨i,hi,e⟩:=Q2.mp hx;have q:=h i hi;rw[QH,Qc hi,Option.getD_some,e]at q;exact q
 intro h i hi;rw[QH,Qc hi,Option.getD_some];exact h _ (Xv hi)
theorem dy (hc:X.calm=true):cW X (.builtin "all") (λxs H Q=>∃(l:Addr) (bs:List Bool),xs=[.ref l]/\SqL X.K H l (bs.map V.bl)/\Q (.bl (bs.all id)) H):=by
 intro pins s U H xs us Q I r h;obtain⟨l,bs,e,hl,q⟩:=h;subst e;obtain⟨u,e,ru⟩:=cI r;subst e;cases ru;obtain⟨its,rv,pl,hz⟩:=I.list hl;have hlen:=rv.length;rw[Qb]at hlen
 have ne:l≠s.heap.objs.size:=by
  obtain⟨o,ho,_⟩:=pl.isList;exact QF (Qs ho)
 refine call_all_walk (wpAny_pyIter_list pl.isList ?_);refine⟨s.heap.objs.size,_,_,_,_,_,(λi=>bs.getD i false),rfl,Walks.list (show X.A.in1.handled=none from I.ok.hd hc) s.heap.objs.size l ne its.toArray,⟨⟨_,Qv _ rfl,rfl,rfl⟩,pl.isList.push _⟩,?_,λh' tk hk=>?_⟩
 ·intro i v s' Q' E' hP hQ;have hP':its[i]?=some v:=by simpa using hP
  have hi:i<bs.length:=by
   have:=(Ql.mp hP').1;exact wa hlen this
  have e1:(bs.map V.bl)[i]?=some (.bl (bs.getD i false)):=by
   rw[QB,Qc hi,QH,Qc hi];rfl
  obtain⟨u,hu,ru⟩:=rv.get e1;rw[hP']at hu;cases hu;cases ru;exact Xn hQ
 have hs:its.toArray.size=bs.length:=by rw[Qk];exact hlen.symm
 rw[hs,pP]
 exact⟨.bl _,H,I.kept λb o e=>hk b o (by
  have:=Qs e;simp only[QG]
  exact QF this) (Qd _ e),rfl,q⟩
abbrev jD (K:PySem.W.Frag) (T:Addr) (D:List (Str × KTD.Dat)):Prop:=KTD.tabLook (KTD.datLooks λa=>K.lookup a) (λa=>K.lookup a) T D=true
theorem g_ {T:Addr} {D:List (Str × KTD.Dat)} (hT:jD X.K T D):OpR X (compareOp .In) (λx y H Q=>∃z,x=.str z/\y=.ref T/\Q (.bl (KTD.inKeys z D)) H):=by
 intro pins s U H x y v u Q I rx ry h;obtain⟨z,e1,e2,q⟩:=h;subst e1 e2;obtain⟨t,e⟩:=rx;subst e;cases ry;exact KTD.in_text (h₀:=X.base) ⟨KTD.text_of_look (get:=λa=>X.K.lookup a) (λa o e=>I.mod.kin a o e) hT,I.bk⟩ ⟨.bl _,H,I.tok _,rfl,q⟩
theorem dQ:cW X (.type "int") (λxs H Q=>∃z n,xs=[.str z]/\PySem.intText? z=some n/\z.length<=640/\Q (.int n) H):=by
 intro pins s U H xs us Q I r h;obtain⟨z,n,e,h1,h2,q⟩:=h;subst e;obtain⟨u,e,ru⟩:=cI r;subst e;obtain⟨t,e⟩:=ru;subst e;exact PySem.W.KIN.call_text h1 h2 ⟨.int n,H,I.tok _,⟨_,rfl⟩,q⟩
end
section
variable {X:Cx} {elts:List Expr} {k:Nat} {tpos:Pos}
end
structure Fn (P:Program) (w:World) (K:PySem.W.Frag) (mg:B2) (base:Heap) (x:Str) (ps:List Str) (k:Nat) (sp:Sp):Prop where
 ex:∃f fd,FnOk P w K mg base CX0 k f fd ps sp/\mg x=some (.ref f)/\PySem.W.keepIn K (.ref f)=true/\fG K fd ps []
section
variable {X:Cx}
theorem w9 {x:Str} {ps:List Str} {k:Nat} {sp:Sp} {e:Expr} {es:List Expr} {t:TA} {p pos:Pos} (F:Fn X.prog X.w X.K X.mg X.base x ps k sp) (hr:Room k X.A) (hg:Gl X x) (ha:PA X (e::es) t)
  (hdb:(x==("__debug__" : Str))=false:=by decide) (he:starEach (e::es) X.env=(false,eval e X.env)::starEach es X.env:=by rfl) (hpl:(backTo pos (starEach es X.env)).any (·.1)=false:=by rfl) :
  PE X (.Call (.Name x p) (e::es) [] pos) (gW sp [] E0 t):=by
 obtain⟨f,fd,G,hm,hk,hb⟩:=F.ex;exact tJ G hr hg hm hk hb .nil w_ ha hdb he hpl
theorem aR {x:Str} {ps:List Str} {k j:Nat} {sp:Sp} {e:Expr} {es:List Expr} {t:TA} {p pos:Pos} (F:Fn X.prog X.w X.K X.mg X.base x ps k sp) (hr:Room j X.A) (ha:PA X (e::es) t) (hk:k<=j:=by first|decide|omega) (hg:Gl X x:=by rfl) (hdb:(x==("__debug__" : Str))=false:=by decide) (he:starEach (e::es) X.env=(false,eval e X.env)::starEach es X.env:=by rfl) (hpl:(backTo pos (starEach es X.env)).any (·.1)=false:=by rfl):PE X (.Call (.Name x p) (e::es) [] pos) (gW sp [] E0 t):=w9 F (hr.mono hk) hg ha hdb he hpl
end
section
variable {U:St} {H:Hp} {Q:VK} {K:PySem.W.Frag}
variable {v x y:V}
theorem bw {i:Nat} (h:U[i]?=some (some v)) (q:Q v H):bX i U H Q:=⟨v,h,q⟩
theorem i_c (q:Q v H):tC v U H Q:=q
variable {ta tb te to ti tl:TE}
theorem i_op {r:R2} (q:ta U H λx H1=>tb U H1 λy H2=>r x y H2 Q):tOp r ta tb U H Q:=q
variable {i j:Int}
theorem i_rI0 {g:Int->Int->V} (q:Q (g i j) H):rI0 g (.int i) (.int j) H Q:=⟨i,j,rfl,rfl,q⟩
theorem i_rI {C:Int->Int->Prop} {g:Int->Int->V} (c:C i j) (q:Q (g i j) H):rI C g (.int i) (.int j) H Q:=⟨i,j,rfl,rfl,c,q⟩
theorem i_eq (h:tq x y=true) (q:Q (.bl (decide (x=y))) H):rEq x y H Q:=⟨h,q⟩
theorem i_ne (h:tq x y=true) (q:Q (.bl (!decide (x=y))) H):rNe x y H Q:=⟨h,q⟩
variable {R:Bool->Hp->Prop}
theorem i_test {t:TE} (q:t U H λx H'=>∃k,x=.bl k/\R k H'):jE t U H R:=q
theorem i_tB {t:TE} (q:t U H λx H'=>∃k,x=.bl k/\R k H'):tB t U H R:=q
theorem i_and {t u:TT} (q:t U H λc H1=>if c=true then u U H1 R else R false H1):wU t u U H R:=q
theorem i_or {t u:TT} (q:t U H λc H1=>if c=true then R true H1 else u U H1 R):tOr t u U H R:=q
theorem i_not {t:TT} (q:t U H λc H1=>R (!c) H1):vp t U H R:=q
theorem i_andV (q:ta U H λx H1=>∃c,x=.bl c/\if c=true then tb U H1 Q else Q (.bl false) H1):uB ta tb U H Q:=q
theorem i_orV (q:ta U H λx H1=>∃c,x=.bl c/\if c=true then Q (.bl true) H1 else tb U H1 Q):wQ ta tb U H Q:=q
theorem i_notV (q:ta U H λx H1=>∃c,x=.bl c/\Q (.bl (!c)) H1):uz ta U H Q:=q
theorem i_ifE {t:TT} (q:t U H λc H1=>if c=true then ta U H1 Q else tb U H1 Q):tIf t ta tb U H Q:=q
theorem i_nil {R:List V->Hp->Prop} (q:R [] H):f8 U H R:=q
theorem i_cons {tr:TA} {R:List V->Hp->Prop} (q:te U H λx H1=>tr U H1 λxs H2=>R (x::xs) H2):cS te tr U H R:=q
theorem i_call {sp:Sp} {E:XK} {t:TA} (q:t U H λvs H1=>sp vs H1 Q E):gW sp [] E t U H Q:=by
 show t U H λvs H1=>sp (vs++[]) H1 Q E;simpa only[XD] using q
theorem i_cb {r:List V->Hp->VK->Prop} {t:TA} (q:t U H λvs H1=>r vs H1 Q):tCB r t U H Q:=q
theorem i_tup {t:TA} (q:t U H λxs H1=>xs.length<=sizeLine/\∀p,H1 p=none->Q (.ref p) (upd H1 p (.tup xs))):sV t U H Q:=q
theorem i_lst {t:TA} (q:t U H λxs H1=>xs.length<=sizeLine/\∀p,H1 p=none->Q (.ref p) (upd H1 p (.lst xs))):vt t U H Q:=q
theorem i_bm {T:String} {r:V->List V->Hp->VK->Prop} {t:TA} (q:to U H λx H1=>tyV K T x H1/\t U H1 λxs H2=>r x xs H2 Q):tBM K T r to t U H Q:=q
theorem i_sl {r:V->Option Int->Option Int->Hp->VK->Prop} {tl th:TO} (q:te U H λx H1=>tl U H1 λl H2=>th U H2 λu H3=>r x l u H3 Q):tSl r te tl th U H Q:=q
theorem i_nopart {R:Option Int->Hp->Prop} (q:R none H):mQ U H R:=q
theorem i_part {t:TE} {R:Option Int->Hp->Prop} (q:t U H λx H1=>∃i,x=.int i/\R (some i) H1):ux t U H R:=q
variable {xs:List V}
theorem i_ixL {p:Addr} {v:V} (h:SqL K H p xs) (e:atI xs i=some v) (q:Q v H):gM K (.ref p) (.int i) H Q:=⟨p,xs,i,v,rfl,rfl,h,e,q⟩
theorem i_ixT {p:Addr} (h:H p=some (.tup xs)) (e:atI xs i=some v) (q:Q v H):lV K (.ref p) (.int i) H Q:=⟨p,xs,i,v,rfl,rfl,SqT.of h,e,q⟩
theorem kR {z:Str} {c:Nat} (hz:z.length<=sizeLine) (e:atI z.cps.toList i=some c) (q:Q (.str ⟨#[c]⟩) H):oP (.str z) (.int i) H Q:=⟨z,i,c,rfl,rfl,hz,e,q⟩
variable {D:Ends}
theorem s_seq {t u:TS} (q:t { D with nx:=u D } U H):jF t u D U H:=q
theorem s_asg {g:TG} (q:te U H λx H1=>g x U H1 D.nx):lI te g D U H:=q
theorem aZ {i:Nat} {R:St->Hp->Prop} (q:R (U.set i (some v)) H):df i v U H R:=q
theorem s_drop (q:te U H λ_ H1=>D.nx U H1):qi te D U H:=q
theorem s_ret (q:te U H D.rt):p8 te D U H:=q
theorem s_next (q:D.nx U H):p_ D U H:=q
theorem s_if {c:TT} {t u:TS} (q:c U H λb H1=>if b=true then t D U H1 else u D U H1):vv c t u D U H:=q
theorem s_sub {t:ut} {R:St->Hp->Prop} (q:to U H λo H1=>ti U H1 λi H2=>t o i v H2 λH3=>R U H3):Ag to ti t v U H R:=q
theorem s_setL {p:Addr} {k:Int} {j:Nat} {R:Hp->Prop} (h:H p=some (.lst xs)) (e:ixN xs.length k=some j) (q:R (upd H p (.lst (xs.set j v)))):uG (.ref p) (.int k) v H R:=⟨p,xs,k,j,rfl,rfl,h,e,q⟩
theorem s_for {wi:TI} {g:TG} {tb:TS} (q:wi U H λJ H1=>∃W:Nat->Nat->St->Hp->Prop,(∃m,W 0 m U H1)/\∀i m U H,W i m U H ->
 (J.stop i H/\D.nx U H)\/(J.go i H/\∃N:St->Hp->Prop,(∀σ' H',N σ' H'->∃m',m'<m/\W (i+1) m' σ' H')/\∀x H',J.yld i H x H'->g x U H' λσ2 H2=>tb { D with nx:=N,ct:=N,bk:=D.nx } σ2 H2)):wS wi g tb D U H:=q
theorem s_rng1 {ta:TA} {R:It->Hp->Prop} (q:ta U H λvs H1=>∃j:Int,vs=[.int j]/\-(2 ^ 62)<=j/\j<2 ^ 62/\R (Itr 0 j.toNat) H1):se ta U H R:=q
theorem s_list {R:It->Hp->Prop} (q:tl U H λx H1=>∃a,x=.ref a/\(∃xs,SqL K H1 a xs)/\R (Itl K a) H1):u5 K tl U H R:=q
theorem s_str {R:It->Hp->Prop} (q:tl U H λv H1=>∃z:Str,v=.str z/\R (Itf z.cps.size (nq z)) H1):Ae tl U H R:=q
theorem cb {wi:TI} {g:TG} {tt:TT} {f:St->St} (q:wi U H λJ H1=>∀D,H1 D=none->∃W:Nat->Nat->Hp->List V->Prop,(∃m,W 0 m (upd H1 D (.lst [])) []) /\
 ∀i m H ys,W i m H ys->H D=some (.lst ys)/\((J.stop i H/\Q (.ref D) H)\/(J.go i H/\∀x H',J.yld i H x H'->g x (f U) H' λσ2 H2=>wk (f U) σ2/\tt σ2 H2 λb H3 =>
  if b=true then te σ2 H3 λv H4=>H4 D=some (.lst ys)/\ys.length<sizeLine/\∃m',m'<m/\W (i+1) m' (upd H4 D (.lst (ys++[v]))) (ys++[v])
  else ∃m',m'<m/\W (i+1) m' H3 ys))):jH wi g tt te f U H Q:=q
end
def dR (Pv:Nat->Hp->List V->Prop) (n:Nat) (D:Addr) (i:Nat) (ys:List V):VK:=λv H4=>H4 D=some (.lst ys)/\ys.length<sizeLine/\∃m',m'<n-i/\(m'=n-(i+1)/\i+1<=n/\Pv (i+1) (upd H4 D (.lst (ys++[v]))) (ys++[v]))
theorem dR.mk {Pv:Nat->Hp->List V->Prop} {ys:List V} {v:V} (hd:H4 D=some (.lst ys)) (hi:i<n) (hl:ys.length<sizeLine) (p:Pv (i+1) (upd H4 D (.lst (ys++[v]))) (ys++[v])):dR Pv n D i ys v H4 :=
 ⟨hd,hl,n-(i+1),by exact om6 hi,rfl,hi,p⟩
section
variable {K:PySem.W.Frag} {g:TG} {te:TE} {σ0:St} {QD:Hp->Prop} {H1:Hp} {D:Addr}
theorem pM {a:Addr} {xs:List V} (Pv:Nat->Hp->List V->Prop) (h0:Pv 0 (upd H1 D (.lst [])) []) (hD:∀i H ys,Pv i H ys->H D=some (.lst ys)/\SqL K H a xs)
  (hs:∀i x H ys,xs[i]?=some x->Pv i H ys->g x σ0 H λσ2 H2=>wk σ0 σ2/\iC σ2 H2 λb H3=>if b=true then te σ2 H3 (dR Pv xs.length D i ys) else ∃m',m'<xs.length-i/\(m'=xs.length-(i+1)/\i+1<=xs.length/\Pv (i+1) H3 ys)) (hd:∀H ys,Pv xs.length H ys->QD H) :
  ∃W:Nat->Nat->Hp->List V->Prop,(∃m,W 0 m (upd H1 D (.lst [])) [])/\∀i m H ys,W i m H ys->H D=some (.lst ys)/\(((Itl K a).stop i H/\QD H)\/((Itl K a).go i H/\∀x H',(Itl K a).yld i H x H'->g x σ0 H' λσ2 H2=>wk σ0 σ2/\iC σ2 H2 λb H3 =>
   if b=true then te σ2 H3 λv H4=>H4 D=some (.lst ys)/\ys.length<sizeLine/\∃m',m'<m/\W (i+1) m' (upd H4 D (.lst (ys++[v]))) (ys++[v]) else ∃m',m'<m/\W (i+1) m' H3 ys)):=by
 refine⟨λi m H ys=>m=xs.length-i/\i<=xs.length/\Pv i H ys,⟨xs.length,by simp,QR _,h0⟩,?_⟩;rintro i m H ys ⟨rfl,hi,p⟩;obtain⟨d1,d2⟩:=hD i H ys p;refine⟨d1,?_⟩;by_cases hlt:i<xs.length
 ·refine .inr ⟨⟨xs,xs[i],d2,by simp[hlt]⟩,λx H' y=>?_⟩;obtain⟨e,y⟩:=y;subst e;exact hs i x _ ys (y xs d2) p
 have e:i=xs.length:=by exact om0 hi hlt
 subst e;exact .inl ⟨⟨xs,d2,Qi _⟩,hd H ys p⟩
theorem kX {n:Nat} {f:Nat->V} (Pv:Nat->Hp->List V->Prop) (h0:Pv 0 (upd H1 D (.lst [])) []) (hD:∀i H ys,Pv i H ys->H D=some (.lst ys))
  (hs:∀i H ys,i<n->Pv i H ys->g (f i) σ0 H λσ2 H2=>wk σ0 σ2/\iC σ2 H2 λb H3=>if b=true then te σ2 H3 (dR Pv n D i ys) else ∃m',m'<n-i/\(m'=n-(i+1)/\i+1<=n/\Pv (i+1) H3 ys)) (hd:∀H ys,Pv n H ys->QD H) :
  ∃W:Nat->Nat->Hp->List V->Prop,(∃m,W 0 m (upd H1 D (.lst [])) [])/\∀i m H ys,W i m H ys->H D=some (.lst ys)/\(((Itf n f).stop i H/\QD H)\/((Itf n f).go i H/\∀x H',(Itf n f).yld i H x H'->g x σ0 H' λσ2 H2=>wk σ0 σ2/\iC σ2 H2 λb H3 =>
   if b=true then te σ2 H3 λv H4=>H4 D=some (.lst ys)/\ys.length<sizeLine/\∃m',m'<m/\W (i+1) m' (upd H4 D (.lst (ys++[v]))) (ys++[v]) else ∃m',m'<m/\W (i+1) m' H3 ys)):=by
 refine⟨λi m H ys=>m=n-i/\i<=n/\Pv i H ys,⟨n,by simp,QR _,h0⟩,?_⟩;rintro i m H ys ⟨rfl,hi,p⟩;refine⟨hD i H ys p,?_⟩;by_cases hlt:i<n
 ·refine .inr ⟨hlt,λx H' y=>?_⟩;obtain⟨e,y⟩:=y;subst e y;exact hs i _ ys hlt p
 have e:i=n:=by exact om0 hi hlt
 subst e;exact .inl ⟨rfl,hd H ys p⟩
end
section
variable {H:Hp} {Q:VK} {K:PySem.W.Frag}
theorem rZ {z:Str} {lo hi:Option Int} (h:z.length<=sizeLine) (q:Q (.str (Txt.slice z lo hi)) H):wX (.str z) lo hi H Q:=⟨z,rfl,h,q⟩
variable {xs zs:List V} {a l b p:Addr}
theorem u0 {lo hi:Option Int} (h:SqL K H a xs) (q:∀p,H p=none->Q (.ref p) (upd H p (.lst (i7 xs lo hi)))):wY K (.ref a) lo hi H Q:=⟨a,xs,rfl,h,q⟩
theorem dP (h1:H l=some (.lst xs)) (h2:H b=some (.lst zs)) (hz:xs.length+zs.length<=sizeLine) (q:∀p,H p=none->Q (.ref p) (upd H p (.lst (xs++zs)))):w4 (.ref l) (.ref b) H Q:=⟨l,b,xs,zs,rfl,rfl,h1,h2,hz,q⟩
theorem fE {y:V} (h:H l=some (.lst xs)) (hz:xs.length<sizeLine) (q:Q .non (upd H l (.lst (xs++[y])))):iL (.ref l) [y] H Q:=⟨l,xs,y,rfl,rfl,h,hz,q⟩
theorem i_tyL (h:H p=some (.lst xs)):tyV K "list" (.ref p) H:=.inl ⟨rfl,xs,SqL.of h⟩
theorem cB {z:Str}:tyV K "str" (.str z) H:=rfl
theorem d8 {z:Str} {ys:List Str} (h:H l=some (.lst (ys.map V.str))) (hz:(ys.map (·.length)).sum+ys.length*z.length<=16777216) (q:Q (.str (Txt.join z ys)) H):uH K (.str z) [.ref l] H Q:=⟨z,l,ys,rfl,rfl,SqL.of h,hz,q⟩
end
theorem aE {o:HO} (hp:H p=none):aw H (upd H p o):=λb u e=>by rw[ao (aV e hp)];exact e
end L2
namespace L2
open PySem
section
variable {U:St} {H:Hp} {D:Ends}
theorem s_seqT {t u:TS} (q:let D':Ends:={ D with nx:=u D };t D' U H):jF t u D U H:=q
theorem s_nameT {i:Nat} {v:V} {R:St->Hp->Prop} (q:let σ':St:=U.set i (some v);R σ' H):df i v U H R:=q
end
variable {H:Hp}
theorem i_yes {U:St} {R:Bool->Hp->Prop} (q:R true H):iC U H R:=q
theorem i_dget {td ty:TE} {U:St} {Q:VK} (q:td U H λx H1=>ty U H1 λy H2=>∃a v,x=.ref a/\fz H2 a y (some v)/\Q v H2):uA td ty U H Q:=q
theorem i_un {r:V->Hp->VK->Prop} {ta:TE} {U:St} {Q:VK} (q:ta U H λx H1=>r x H1 Q):tUn r ta U H Q:=q
theorem i_rU {g:Int->V} {i:Int} {Q:VK} (q:Q (g i) H):rU g (.int i) H Q:=⟨i,rfl,q⟩
end L2
namespace L2
open PySem PySem.Spec PyProof.Rows
def gD (H:Hp) (c:Addr):Hp:=λb=>if b=c then none else H b
variable {c b cell fa a T:Addr} {H H':Hp}
theorem dJ:gD H c c=none:=Qu rfl
theorem bE (h:b≠c):gD H c b=H b:=Qt h
theorem pJ {o:HO} (h:gD H c b=some o):b≠c/\H b=some o:=by
 by_cases e:b=c
 ·subst e;rw[dJ]at h;cases h
 rw[bE e]at h;exact⟨e,h⟩
def lA (o:Obj):HO:=.frz o (.ext λ_=>True)
section
variable {P:Program} {w:World} {H H1:Hp} {h h1:Heap} {c:Addr} {o:Obj} {fs ex:B3}
theorem uk {H:Hp} (e:h.get? c=some o):bi P w H h c (lA o):=⟨e,trivial,⟨o,e⟩,λ_ _ _ _=>trivial⟩
theorem HOk.drop (x:HOk P w H h) (hc:H c=some (lA o)):HOk P w (gD H c) h:=λb u e=>by
 obtain⟨_,e⟩:=pJ e;refine(x b u e).stay (λ_ _ _ q=>q) (λd q=>?_) λd xs q=>?_
 ·rw[bE];exact q;intro z;subst z;rw[hc]at q;cases q
 rw[bE];exact q;intro z;subst z;rw[hc]at q;cases q
theorem HOk.take (x:HOk P w H h) (hc:H c=none) (e:h.get? c=some o):HOk P w (upd H c (lA o)) h:=λb u q=>by
 by_cases hb:b=c
 ·subst hb;rw[ag]at q;cases q;exact uk e
 rw[ao hb]at q;refine(x b u q).stay (λ_ _ _ r=>r) (λd r=>?_) λd xs r=>?_
 ·rw[ao (aV r hc)];exact r
 rw[ao (aV r hc)];exact r
theorem Un.back (u:Un fs ex (gD H c) H1 h h1) (hc:H c=some (lA o)) (e:h.get? c=some o) (nf:c∉fs) (nx:c∉ex):Un fs ex H (upd H1 c (lA o)) h h1/\H1 c=none/\h1.get? c=some o:=by
 have h1c:=u.free c o e dJ nx;have e1:=u.keep c o e dJ nf nx;have ne:∀{b v},H b=some v->v≠lA o->b≠c:=λq n z=>by subst z;rw[hc]at q;cases q;exact n rfl
 have nn:∀{b},H b=none->b≠c:=λq z=>by subst z;rw[hc]at q;cases q
 refine⟨⟨λb ob q n hb hx=>?_,λb ob q n hb hx=>?_,λb ob q n hx=>?_,λb ob q hx=>u.there b ob q hx,λb xs q=>?_,λb ob v q=>?_,λb ps q=>?_⟩,h1c,e1⟩
 ·exact u.keep b ob q (by rw[bE (nn n)];exact n) hb hx
 ·exact u.slot b ob q (by rw[bE (nn n)];exact n) hb hx
 ·rw[ao (nn n)];exact u.free b ob q (by rw[bE (nn n)];exact n) hx
 ·have nb:=ne q (λz=>by cases z);rw[ao nb];exact u.tups b xs (by rw[bE nb];exact q)
 ·by_cases nb:b=c
  ·subst nb;rw[hc]at q;cases q;exact ag
  rw[ao nb];exact u.frzs b ob v (by rw[bE nb];exact q)
 have nb:=ne q (λz=>by cases z);rw[ao nb];exact u.tbls b ps (by rw[bE nb];exact q)
theorem Un.out (u:Un fs ex (upd H c (lA o)) H1 h h1) (k1:HOk P w H1 h1) (hc:H c=none) (e:h.get? c=some o) (nf:c∉fs):Un fs ex H (gD H1 c) h h1/\HOk P w (gD H1 c) h1/\H1 c=some (lA o):=by
 have h1c:=u.frzs c o _ ag;have e1:=(k1 c _ h1c).1;refine⟨⟨λb ob q n hb hx=>?_,λb ob q n hb hx=>?_,λb ob q n hx=>?_,λb ob q hx=>u.there b ob q hx,λb xs q=>?_,λb ob v q=>?_,λb ps q=>?_⟩,k1.drop h1c,h1c⟩
 ·by_cases nb:b=c
  ·subst nb;rw[e]at q;cases q;exact e1
  exact u.keep b ob q (by rw[ao nb];exact n) hb hx
 ·have nb:b≠c:=λz=>by subst z;exact nf hb
  exact u.slot b ob q (by rw[ao nb];exact n) hb hx
 ·by_cases nb:b=c
  ·subst nb;exact dJ
  rw[bE nb];exact u.free b ob q (by rw[ao nb];exact n) hx
 ·have nb:=aV q hc;rw[bE nb];exact u.tups b xs (by rw[ao nb];exact q)
 ·have nb:=aV q hc;rw[bE nb];exact u.frzs b ob v (by rw[ao nb];exact q)
 have nb:=aV q hc;rw[bE nb];exact u.tbls b ps (by rw[ao nb];exact q)
end
structure Lm where
 qual:Str
 params:Arguments
 body:Expr
 scope:Scope
 pos:Pos
def Aq (c:Addr) (qual:Str):HO:=.ext λh=>h.CodeRec (.ref c) qual
def Bw (f:Addr) (l:Lm) (cl:List (Str × Addr)) (c:Addr):HO:=.ext λh=>∃pm ctv,h.get? f=some (PySem.W.kla_obj "<lambda>" l.qual l.params l.body l.scope cl pm c ctv)
def n0 (l:Lm) (c:Addr):Array Value:=#[rawInt l.pos.line,rawInt l.pos.col,.ref c]
structure Made (T:Addr) (l:Lm) (cl:List (Str × Addr)) (H:Hp) (f c:Addr) (H':Hp):Prop where
 new:H f=none
 fn:H' f=some (Bw f l cl c)
 code:H' c=some (Aq c l.qual)
 tab:H' T=some (.tbl (n0 l c))
 old:∀b o,H b=some o->b≠T->H' b=some o
def fH (base:Heap) (mg:B2):Prop:=∃bm ob,mg "__builtins__" = some (.ref bm)/\bm≠builtinsNs/\bm≠mainGlobals/\base.get? bm=some ob/\ob.cls=.type "module" /\ ob.dict=some builtinsNs/\ob.data=.plain
section
variable {X:Cx}
end
structure LmScope (x y:Str) (sc:Scope):Prop where
 kind:sc.kind=.function
 co:sc.isCoroutine=false
 gen:sc.isGenerator=false
 par:sc.names.lookup x=some .local
 fre:sc.names.lookup y=some .free
 ne:x≠y
 nocell:∀z∈sc.names,z.2≠.cell
 only:∀z,sc.names.lookup z=some .free->z=y
def Calls (P:Program) (w:World) (K:PySem.W.Frag) (mg:B2) (base:Heap) (k:Nat) (f:Addr) (r:V->Hp->VK->Prop):Prop :=
 ∀(X:Cx),X.prog=P->X.w=w->X.K=K->X.mg=mg->X.base=base->jk CX0 X E0->Room k X.A->∀pins s U H vx u (Q:VK),Inv X pins U H s->aX vx u->r vx H Q->wpAny (model X.prog X.w) X.A (call (.ref f) [u]) (EP X pins U Q) X.xe s
variable {y x:Str}
theorem Inv.cellAt {X:Cx} {pins:B1} {s:Shared} {U:St} {i:Nat} {vy:V} (I:Inv X pins U H s) (hN:X.N[i]?=some y) (hi:U[i]?=some (some vy)) (hk:X.env.kindOf y=some .cell) (hv:Vis X.env.scope y) (hl:X.env.cells.lookup y=some cell) :
  ∃o uy,s.heap.get? cell=some o/\o.data=.cell (some uy)/\aX vy uy/\H cell=none:=by
 obtain⟨m,_,loc⟩:=I.loc;obtain⟨u,ru,lk⟩:=loc i y vy hN hi hv;rcases lk with⟨k,_⟩|⟨_,c,e,o,e1,e2⟩
 ·rw[hk]at k;cases k
 rw[hl]at e;cases e;exact⟨o,u,e1,e2,ru,I.freeC y cell hl⟩
structure FunC (K:PySem.W.Frag) (x qual:Str) (st:Stmt) (f:Addr) (fd:FuncData) (c:Addr):Prop where
 ex:∃oc od kV doc pm an ct osl,fd=PySem.W.fnOf x qual (cq st) (bM st) (am st) .none kV doc pm an (.ref c) ct/\K.lookup f=some ⟨oc,od,.func (PySem.W.fnOf x qual (cq st) (bM st) (am st) .none kV doc pm an (.ref c) ct),osl⟩/\PySem.W.codeIn K (.ref c) qual=true
section
variable {P:Program} {w:World} {K:PySem.W.Frag} {mg:B2} {base:Heap}
theorem FunC.ok {x qual:Str} {st:Stmt} {f c:Addr} {fd:FuncData} {N ps:List Str} {k:Nat} {sp:Sp} (F:FunC K x qual st f fd c) (S:FnScope N ps (am st)) (len:∀vs H Q E,sp vs H Q E->vs.length=ps.length)
  (hbody:∀(A:Around) (outer:List Env) (s:Shared) (H:Hp) (vs:List V) (Q:VK) (E:XK),Room k (A.deeper (envOfC qual (am st) s.heap.objs.size f (.ref c)))->sp vs H Q E ->
   ∃t,PSs (cxOf CX0 P w K mg base N qual (am st) f (.ref c) A outer s H E).nox (bM st) t/\t { nx:=λ_ H'=>Q .non H',rt:=Q } (start N vs) H):FnOk P w K mg base CX0 (k+1) f fd ps sp:=by
 obtain⟨oc,od,kV,doc,pm,an,ct,osl,rfl,lk,hcd⟩:=F.ex;refine u8 lk hcd S len λA outer s H vs Q E hr hsp=>?_;obtain⟨t,h,q⟩:=hbody A outer s H vs Q E hr hsp;exact⟨t,h.nox,q⟩
end
structure OnlyT (tabs:List (Addr × Addr)) (H:Hp):Prop where
 tab:∀q∈tabs,H q.2=some (.tbl #[])
 other:∀b,b∉tabs.map (·.2)->H b=none\/∃o xs,H b=some (.frz o (.lst xs))
theorem pA {P:Program} {w:World} {K:PySem.W.Frag} {mg mb:B2} {CX:CXT} {k:Nat} {fd:FuncData} {sp:Sp} {s₁:Shared} {vs:List Value} {ns:List Int} {tabs:List (Addr × Addr)}
  (KX:K.In s₁.heap) (hns:s₁.heap.Ns mainGlobals mg) (hb:s₁.heap.Ns builtinsNs mb) (hbb:∀x:Str,x ≠ "__name__" -> mb x=bootBuiltins x) (hlim:s₁.heap.NoLimit) (hg:s₁.gens=#[])
  (hbm:fH s₁.heap mg) (hT:PySem.W.TabsAt tabs s₁.heap) (hTK:∀q∈tabs,K.lookup q.2=none)
  (ha:s₁.heap.get? a=some { cls:=.type "list", data:=.seq vs.toArray }) (hi:IntsAre vs ns) (hl:ns.length<=sizeLine) (hr:Room k callerA)
  (F:∀base:Heap,K.In base->base.Ns mainGlobals mg->fH base mg->FnOk P w K mg base CX k fa fd [x] sp) (hbind:∀(s:Shared) (u:Value),BindsTo s fd ⟨[u],[]⟩ [(x,u)])
  (hsp:∀H:Hp,OnlyT tabs H->SqL K H a (ns.map V.int)->sp [.ref a] H (λv _=>v=.bl true) λ_ _ _=>False)
  (hCX:∀H e s',CX [] H s₁ (λ_ _ _=>False) e s'->False) :
  codeAny (model P w) callerA (.call (.ref fa) ⟨[.ref a],[]⟩) (λr s'=>r=.ok (.ret (.bool true))/\OldK s₁.heap s'.heap/\s'.os=s₁.os/\AllBare s'.gens) s₁:=by
 have rv:=gS hi;have lenV:=hi.length
 have naT:a∉tabs.map (·.2):=λq=>by
  obtain⟨r,hr,e⟩:=Qn.mp q;have e2:=(hT r hr).2;rw[e,ha]at e2;cases e2
 have core:∀H:Hp,OnlyT tabs H->SqL K H a (ns.map V.int)->HOk P w H s₁.heap->(∀b,H b≠none->b=a\/b∈tabs.map (·.2))->(H a≠none->K.lookup a=none) ->
   codeAny (model P w) callerA (.call (.ref fa) ⟨[.ref a],[]⟩) (λr s'=>r=.ok (.ret (.bool true))/\OldK s₁.heap s'.heap/\s'.os=s₁.os/\AllBare s'.gens) s₁:=by
  intro H hO hS hok hA hK;have base_of:∀{b:Addr} {o:Obj},s₁.heap.get? b=some o->H b=none->(gN s₁.heap H).get? b=some o:=λe n=>si e n
  have noA:∀{b:Addr} {o:Obj},s₁.heap.get? b=some o->(∀ps n,o.data≠.seq ps n)->(∀ps,o.data≠.fields ps)->H b=none:=λ{b o} e d1 d2=>by
   cases q:H b with
   | none=>rfl
   | some u =>
   rcases hA b (by rw[q];simp) with e'|e'
   ·subst e';rw[ha]at e;cases e;exact absurd rfl (d1 _ _)
   obtain⟨r,hr,er⟩:=Qn.mp e';have e2:=(hT r hr).2;rw[er,e]at e2;cases e2;exact absurd rfl (d2 _)
  have nsK:∀{b:Addr} {m:B2},s₁.heap.Ns b m->(gN s₁.heap H).Ns b m:=λ{b m} ⟨o,es,ep,e,d,r⟩=>⟨o,es,ep,base_of e (noA e (λ_ _ z=>by rw[d]at z;cases z) (λ_ z=>by rw[d]at z;cases z)),d,r⟩
  have hKb:K.In (gN s₁.heap H):=λb o e=>base_of (KX b o e) (by
   cases q:H b with
   | none=>rfl
   | some u =>
   rcases hA b (by rw[q];simp) with e'|e'
   ·subst e';rw[hK (by rw[q];simp)]at e;cases e
   obtain⟨r,hr,er⟩:=Qn.mp e';have e2:=hTK r hr;rw[er,e]at e2
   cases e2)
  have hM:Mod K mg (gN s₁.heap H):=⟨hKb,nsK hns,⟨mb,nsK hb,hbb⟩,let ⟨mc,h1,h2⟩:=hlim;⟨mc,nsK h1,h2⟩⟩
  have hB:fH (gN s₁.heap H) mg:=by
   obtain⟨bm,ob,b1,b2,b3,b4,b5,b6,b7⟩:=hbm;exact⟨bm,ob,b1,b2,b3,base_of b4 (noA b4 (λ_ _ z=>by rw[b7]at z;cases z) (λ_ z=>by rw[b7]at z;cases z)),b5,b6,b7⟩
  have e0:Env0 P w K mg (gN s₁.heap H) callerA [] s₁ H:=⟨rfl,hM,λb o e=>tW e,Nat.le_of_eq (pG _ _),trivial,λb hb=>absurd (show b∈([]:B3) from hb) (by simp),hok,.of_eq hg⟩;refine codeAny_mono ((F _ hKb (nsK hns) hB).run callerA [] s₁ H ⟨[.ref a],[]⟩ [.ref a] [.ref a] _ _ hr e0 (hbind s₁ (.ref a)) (.cons rfl .nil) (hsp H hO hS)) λr s' h=>?_
  cases r with
  | error e=>exact(hCX H e s' h).elim
  | ok fl =>
  cases fl with
  | next=>exact False.elim h
  | brk=>exact False.elim h
  | cont=>exact False.elim h
  | ret u =>
  obtain⟨v,H',os,bare,un,hok',r',q⟩:=h;have q':v=.bl true:=q;subst q';obtain rfl:u=Value.bool true:=r';refine⟨rfl,⟨λb o e=>?_,λb o e=>un.there b o e (by simp)⟩,os,bare⟩
  cases q:H b with
  | none=>exact .inl (un.keep b o e q (by intro z;exact absurd (show b∈([]:B3) from z) (by simp)) (by simp))
  | some u =>
  by_cases hb:b∈tabs.map (·.2)
  ·obtain⟨r,hr,er⟩:=Qn.mp hb;have t1:=hO.tab r hr;have e2:=(hT r hr).2;have ict:=((hT r hr).1.tab (hT r hr).2).isCodeTable;rw[er]at t1 e2 ict;rw[e]at e2;cases e2;obtain⟨more,t2⟩:=un.tbls b _ t1;have t3:s'.heap.get? b=some { cls:=.none,data:=.fields (#[]++more) }:=hok' b _ t2;exact .inr (.inl ⟨ict,rfl,#[],more,rfl,t3⟩)
  rcases hO.other b hb with z|⟨ob,xs,z⟩
  ·rw[q]at z;cases z
  have z2:=un.frzs b ob _ z;obtain⟨e1,_⟩:=hok b _ z;obtain⟨e2,_⟩:=hok' b _ z2;rw[e]at e1;cases e1;exact .inl e2
 let HT:Hp:=λb=>if b∈tabs.map (·.2) then some (.tbl #[]) else none
 have htab:∀b,b∈tabs.map (·.2)->s₁.heap.get? b=some (PySem.W.tabObj #[]):=λb hb=>by
  obtain⟨r,hr,er⟩:=Qn.mp hb;rw[<-er];exact(hT r hr).2
 cases hk:K.lookup a with
 | some o =>
  have e:=KX a o hk;rw[ha]at e;cases e;refine core HT ⟨λq hq=>Qu (Qn.mpr ⟨q,hq,rfl⟩),λb hb=>.inl (Qt hb)⟩ (.inr ⟨_,vs.toArray,_,hk,rfl,rfl,rfl,by rw[Qk,lenV];exact hl,by simpa using rv⟩) (λb u z=>?_) (λb z=>?_) λz=>absurd (Qt naT) z
  ·by_cases hb:b∈tabs.map (·.2)
   ·have z':=(Qu hb).symm.trans z;cases z';exact htab b hb
   have z':=(Qt hb).symm.trans z;cases z'
  by_cases hb:b∈tabs.map (·.2)
  ·exact .inr hb
  exact absurd (Qt hb) z
 | none =>
 let HA:Hp:=λb=>if b=a then some (.frz { cls:=.type "list", data:=.seq vs.toArray } (.lst (ns.map V.int))) else HT b;have hA1:HA a=some (.frz { cls:=.type "list", data:=.seq vs.toArray } (.lst (ns.map V.int))):=Qu rfl;have hA2:∀b,b≠a->HA b=HT b:=λb h=>Qt h;refine core HA ⟨λq hq=>?_,λb hb=>?_⟩ (.inl (.inr ⟨{ cls:=.type "list", data:=.seq vs.toArray },hA1⟩)) (λb u z=>?_) (λb z=>?_) λ_=>hk
 ·rw[hA2 _ λz=>naT (Qn.mpr ⟨q,hq,z⟩)];exact Qu (Qn.mpr ⟨q,hq,rfl⟩)
 ·by_cases hba:b=a
  ·subst hba;exact .inr ⟨_,_,hA1⟩
  rw[hA2 b hba];exact .inl (Qt hb)
 ·by_cases hba:b=a
  ·subst hba;rw[hA1]at z;cases z;exact⟨ha,by rw[Qb];exact hl,vs,_,rv,ha⟩
  rw[hA2 b hba]at z;by_cases hb:b∈tabs.map (·.2)
  ·have z':=(Qu hb).symm.trans z;cases z';exact htab b hb
  have z':=(Qt hb).symm.trans z;cases z'
 by_cases hba:b=a
 ·exact .inl hba
 rw[hA2 b hba]at z;by_cases hb:b∈tabs.map (·.2)
 ·exact .inr hb
 exact absurd (Qt hb) z
variable {loose:List Str} {p q:Program}
theorem sK {mean:ExcName->Option Value} {mg mb:B2} {h:Heap} (T:Top p loose mean mg mb h):fH h mg:=by
 obtain⟨bm,ob,b1,b2,b3,b4,b5,b6⟩:=T.bmain;refine⟨bm,ob,b1,b2,λq=>?_,b3,b4,b5,b6⟩;obtain⟨o,es,ep,e,hd,_⟩:=T.g;rw[q,e]at b3;cases b3;rw[hd]at b6;cases b6
variable {l:PySem.W.OpenLaw}
theorem pS {n k:Nat} {XP:B2->Heap->Prop} {YP:World->Heap->Prop} {d:DefRec} {K:Params->PySem.W.Frag} {CX:World->CXT} {sp:World->Sp} (tabs:World->List (Addr × Addr))
  (hn:l.most=some n) (hn2:n<=sizeLine) (hdf:d.params.defaults=[]) (hr:Room k callerA)
  (hY:∀(w:World) (h:Heap),YP w h->(K w.params).In h) (hY2:∀(w:World) (h:Heap),YP w h->PySem.W.TabsAt (tabs w) h) (hTK:∀(w:World),∀q∈tabs w,(K w.params).lookup q.2=none)
  (F:∀(w:World) (mg:B2) (fa:Addr) (h:Heap),(K w.params).In h->h.Ns mainGlobals mg->mg d.name=some (.ref fa) ->
   ∃fd:FuncData,(∀(s:Shared) (u:Value),BindsTo s fd ⟨[u],[]⟩ [(x,u)]) /\
    ∀base:Heap,(K w.params).In base->base.Ns mainGlobals mg->fH base mg->FnOk l.prog w (K w.params) mg base (CX w) k fa fd [x] (sp w))
  (hsp:∀(w:World) (H:Hp) (a:Addr) (ns:List Int),ns.length<=n->OnlyT (tabs w) H->SqL (K w.params) H a (ns.map V.int)->sp w [.ref a] H (λv _=>v=.bl true) λ_ _ _=>False)
  (hCX:∀(w:World) (H:Hp) (s:Shared) (e:Value) (s':Shared),CX w [] H s (λ_ _ _=>False) e s'->False) :
  PySem.W.WalkO q loose XP YP l.row.toRowW d [] (λf vs=>PySem.call f vs):=by
 refine Att.k_ hn hdf λw s₀ s₁ mg mb fa o pm cd doc a vs ns G Y ho hd hcd hmg hobj hints hlen hg=>?_;have KX:=hY w _ Y;obtain⟨fd,hb,hF⟩:=F w mg fa _ KX G.T.g hmg;exact pA KX G.T.g G.T.b G.T.builtins G.T.nolimit hg (sK G.T) (hY2 w _ Y) (hTK w) hobj hints (QO hlen hn2) hr hF hb (λH hO hS=>hsp w H a ns hlen hO hS) λH e s'=>hCX w H s₁ e s'
def mn (K:PySem.W.Frag) (ts:B3):List (Addr × Addr):=ts.flatMap λT=>(K.filter λp=>PySem.W.codeHdIn K p.1 T).map λp=>(p.1,T)
def eK (K:PySem.W.Frag) (ts:B3):Bool:=ts.all λT=>(K.any λp=>PySem.W.codeHdIn K p.1 T)&&(K.lookup T).isNone
variable {ts as:B3}
theorem gt {K:PySem.W.Frag} {q:Addr × Addr} (h:q∈mn K ts):q.2∈ts/\PySem.W.codeHdIn K q.1 q.2=true:=by
 obtain⟨T,hT,h⟩:=List.mem_flatMap.mp h;obtain⟨p,hp,rfl⟩:=Qn.mp h;exact⟨hT,(List.mem_filter.mp hp).2⟩
theorem ml {K:PySem.W.Frag} (ok:eK K ts=true) (hT:T∈ts):∃c,(c,T)∈mn K ts:=by
 have h:=Xg.mp ok T hT;rw[XI]at h;obtain⟨p,hp,e⟩:=List.any_eq_true.mp h.1;exact⟨p.1,List.mem_flatMap.mpr ⟨T,hT,Qn.mpr ⟨p,List.mem_filter.mpr ⟨hp,e⟩,rfl⟩⟩⟩
theorem mj {K:PySem.W.Frag} (ok:eK K ts=true) (hT:T∈ts):K.lookup T=none:=by
 have h:=Xg.mp ok T hT;rw[XI]at h;exact Option.isNone_iff_eq_none.mp h.2
theorem pT {n k:Nat} {XP:B2->Heap->Prop} {d:DefRec} {K:Params->PySem.W.Frag} {e:∀P,as=(K P).map (·.1)} {CX:World->CXT} {sp:World->Sp}
  (hn:l.most=some n) (hn2:n<=sizeLine) (hdf:d.params.defaults=[]) (hr:Room k callerA) (ok:∀w:World,eK (K w.params) ts=true)
  (F:∀(w:World) (mg:B2) (fa:Addr) (h:Heap),(K w.params).In h->h.Ns mainGlobals mg->mg d.name=some (.ref fa) ->
   ∃fd:FuncData,(∀(s:Shared) (u:Value),BindsTo s fd ⟨[u],[]⟩ [(x,u)]) /\
    ∀base:Heap,(K w.params).In base->base.Ns mainGlobals mg->fH base mg->FnOk l.prog w (K w.params) mg base (CX w) k fa fd [x] (sp w))
  (hsp:∀(w:World) (H:Hp) (a:Addr) (ns:List Int),ns.length<=n->(∀T∈ts,H T=some (.tbl #[]))->SqL (K w.params) H a (ns.map V.int)->sp w [.ref a] H (λv _=>v=.bl true) λ_ _ _=>False)
  (hCX:∀(w:World) (H:Hp) (s:Shared) (e:Value) (s':Shared),CX w [] H s (λ_ _ _=>False) e s'->False) :
  PySem.W.WalkO q loose XP (PySem.W.kmHook K as e ts).says l.row.toRowW d [] (λf vs=>PySem.call f vs):=by
 refine pS (λw=>mn (K w.params) ts) hn hn2 hdf hr (λw h Y=>PySem.W.km_in_of Y) (λw h Y q hq=>?_) (λw q hq=>mj (ok w) (gt hq).1) F (λw H a ns h1 hO hS=>hsp w H a ns h1 (λT hT=>?_) hS) hCX
 ·obtain⟨h1,h2⟩:=gt hq;exact⟨PySem.W.codeHd_of_K (PySem.W.km_in_of Y) h2,PySem.W.km_tabs_of Y _ h1⟩
 obtain⟨c,hc⟩:=ml (ok w) hT;exact hO.tab _ hc
def Fz:HO->Prop
 | .dK _=>True
 | .dT _=>True
 | .lst _=>True
 | _=>False
def back (H:Hp) (a:Addr) (H':Hp):Hp:=λb=>if b=a then H a else H' b
theorem fk:back H a H' a=H a:=Qu rfl
theorem bH (h:b≠a):back H a H' b=H' b:=Qt h
section
variable {X:Cx} {pins:B1} {U σ':St} {H H':Hp} {s s':Shared} {a:Addr} {u:HO} {o:Obj}
theorem ny (r:Rd H a u):∃v,H a=some v:=by
 rcases r with r|⟨o,r⟩ <;> exact⟨_,r⟩
theorem uF (r:Rd H a u) (f:Fz u):(∀xs,H a≠some (.tup xs))/\(∀ps,H a≠some (.tbl ps))/\(∀x,H a≠some (.own x))/\∀ob v,H a=some (.frz ob v)->v=u:=by
 rcases r with r|⟨o,r⟩
 ·refine⟨λxs z=>?_,λps z=>?_,λx z=>?_,λob v z=>?_⟩ <;> (rw[r]at z;cases z;exact f.elim)
 refine⟨λxs z=>?_,λps z=>?_,λx z=>?_,λob v z=>?_⟩ <;> (rw[r]at z;cases z);rfl
theorem Inv.freeze (I:Inv X pins U H s) (r:Rd H a u) (f:Fz u) (e:s.heap.get? a=some o):Inv X pins U (upd H a (.frz o u)) s:=by
 obtain⟨v,hv⟩:=ny r;obtain⟨n1,n2,n3,n4⟩:=uF r f;have ne:∀{b},H b=none->b≠a:=λh z=>by rw[z,hv]at h;cases h
 have ok:=r.ok I.hok;refine⟨I.ok,I.os,I.bare,⟨I.base.keep,I.base.slot,λb ob q n hx=>?_,I.base.there,λb xs q=>?_,λb ob w q=>?_,λb ps q=>?_⟩,I.loc,I.cell,?_,λx c h=>?_,λp hp=>?_,λb w q=>?_,I.len⟩
 ·have:=I.base.free b ob q n hx;rw[ao (ne this)];exact this
 ·have:=I.base.tups b xs q;rw[ao (λz=>n1 xs (by rw[<-z];exact this))];exact this
 ·have z:=I.base.frzs b ob w q;by_cases hb:b=a
  ·subst hb;have ew:=n4 ob w z;subst ew;obtain⟨e1,_⟩:=I.hok b _ z;rw[e]at e1;cases e1;exact ag
  rw[ao hb];exact z
 ·obtain⟨more,z⟩:=I.base.tbls b ps q;exact⟨more,by rw[ao (λy=>n2 _ (by rw[<-y];exact z))];exact z⟩
 ·rw[ao (ne I.free)];exact I.free
 ·rw[ao (ne (I.freeC x c h))];exact I.freeC x c h
 ·obtain⟨p1,p2,p3,p4,p5⟩:=I.pin p hp;exact⟨p1,by rw[ao (ne p2)];exact p2,p3,p4,p5⟩
 have st:∀{b w},bi X.prog X.w H s.heap b w->bi X.prog X.w (upd H a (.frz o u)) s.heap b w:=λh=>h.stay (λ_ _ _ q=>q) (λd q=>by rw[ao (λz=>n3 _ (by rw[<-z];exact q))];exact q) λd xs q=>by rw[ao (λz=>n1 _ (by rw[<-z];exact q))];exact q
 by_cases hb:b=a
 ·subst hb;rw[ag]at q;cases q;exact⟨e,st ok⟩
 rw[ao hb]at q;exact st (I.hok b w q)
theorem Inv.thaw (I:Inv X pins U H s) (r:Rd H a u) (f:Fz u) (e:s.heap.get? a=some o) (J:Inv X pins σ' H' s') (h':H' a=some (.frz o u)):Inv X pins σ' (back H a H') s':=by
 obtain⟨v,hv⟩:=ny r;obtain⟨n1,n2,n3,n4⟩:=uF r f;have ne:∀{b},H' b=none->b≠a:=λh z=>by rw[z,h']at h;cases h
 have ok:=J.hok a _ h';refine⟨J.ok,J.os,J.bare,⟨J.base.keep,J.base.slot,λb ob q n hx=>?_,J.base.there,λb xs q=>?_,λb ob w q=>?_,λb ps q=>?_⟩,J.loc,J.cell,?_,λx c h=>?_,λp hp=>?_,λb w q=>?_,J.len⟩
 ·have:=J.base.free b ob q n hx;rw[bH (ne this)];exact this
 ·have:=J.base.tups b xs q;rw[bH (λz=>by rw[z,h']at this;cases this)];exact this
 ·by_cases hb:b=a
  ·subst hb;rw[fk];exact I.base.frzs b ob w q
  rw[bH hb];exact J.base.frzs b ob w q
 ·obtain⟨more,z⟩:=J.base.tbls b ps q;exact⟨more,by rw[bH (λy=>by rw[y,h']at z;cases z)];exact z⟩
 ·rw[bH (ne J.free)];exact J.free
 ·rw[bH (ne (J.freeC x c h))];exact J.freeC x c h
 ·obtain⟨p1,p2,p3,p4,p5⟩:=J.pin p hp;exact⟨p1,by rw[bH (ne p2)];exact p2,p3,p4,p5⟩
 have st:∀{b w},bi X.prog X.w H' s'.heap b w->bi X.prog X.w (back H a H') s'.heap b w:=λh=>h.stay (λ_ _ _ q=>q) (λd q=>by rw[bH (λz=>by rw[z,h']at q;cases q)];exact q) λd xs q=>by rw[bH (λz=>by rw[z,h']at q;cases q)];exact q
 by_cases hb:b=a
 ·subst hb;rw[fk]at q;rcases r with r|⟨o2,r⟩
  ·rw[r]at q;cases q;exact st ok.2
  obtain⟨e2,_⟩:=I.hok b _ r;rw[e]at e2;cases e2;rw[r]at q;cases q;exact⟨ok.1,st ok.2⟩
 rw[bH hb]at q;exact st (J.hok b w q)
def wR (t:TE):TE:=λU H Q=>∃a u,Rd H a u/\Fz u/\∀o,t U (upd H a (.frz o u)) λv H'=>H' a=some (.frz o u)/\Q v (back H a H')
theorem vS {ex:Expr} {t:TE} (h:PE X ex t):PE X ex (wR t):=by
 intro pins s U H Q I q;obtain⟨a,u,r,f,q⟩:=q
 obtain⟨o,e⟩:∃o,s.heap.get? a=some o:=by
  rcases r with r|⟨o,r⟩
  ·have:=(I.hok a _ r)
   cases u with
   | lst xs=>obtain⟨_,_,_,_,e⟩:=this;exact⟨_,e⟩
   | dK kvs=>obtain⟨_,_,_,_,o,_,_,e,_⟩:=this;exact⟨_,e⟩
   | dT kvs=>obtain⟨_,_,_,_,o,_,_,e,_⟩:=this;exact⟨_,e⟩
   | _=>exact f.elim
  exact⟨o,(I.hok a _ r).1⟩
 refine XQ (h pins s U _ _ (I.freeze r f e) (q o)) (λv s' z=>?_) λ_ _ z=>z;obtain⟨v',H',J,rv,h1,h2⟩:=z;exact⟨v',_,I.thaw r f e J h1,rv,h2⟩
end
theorem KV.len {κ:Type} {xs:List (κ × V)} {ys:List (κ × Value)} (r:KV xs ys):xs.length=ys.length:=Xf r
theorem KV.get {κ:Type}:∀{xs:List (κ × V)} {ys:List (κ × Value)} {i:Nat} {k:κ} {v:V},KV xs ys->xs[i]?=some (k,v)->∃u,ys[i]?=some (k,u)/\aX v u
 | _,_,_,_,_,.nil,e=>by simp at e
 | _,(k',u)::_,0,k,v,.cons r _,e=>by
  simp at e;subst e;obtain⟨r1,r2⟩:=r;have r1:k=k':=r1;subst r1;exact⟨u,rfl,r2⟩
 | _,_,i+1,k,v,.cons _ t,e=>by
  obtain⟨u,h1,h2⟩:=KV.get (i:=i) t (by simpa using e);exact⟨u,by simpa using h1,h2⟩
section
variable {X:Cx} {tg:Expr}
end
section
variable {X:Cx} {o e f:Expr} {apos cpos:Pos} {td ty tx:TE}
end
end L2
namespace Bf
section
variable {κ:Type} [DecidableEq κ]
inductive Reach (nx:κ->List κ) (s:κ):κ->Prop
 | start:Reach nx s s
 | step {a b:κ}:Reach nx s a->b∈nx a->Reach nx s b
variable {nx:κ->List κ} {s:κ}
theorem di:∀(xs ys:List κ),xs.Nodup->(∀x∈xs,x∈ys)->xs.length<=ys.length
 | [],_,_,_=>QR _
 | x::xs,ys,nd,h=>by
  rw[Xb]at nd;have hx:x∈ys:=h x Xd;have:=di xs (ys.erase x) nd.2 λy hy=>(List.mem_erase_of_ne (λz:y=x=>nd.1 (by rw[<-z];exact hy))).mpr (h y (Qj _ hy));rw[List.length_erase_of_mem hx]at this;have:0<ys.length:=List.length_pos_of_mem hx;simp only[QC];omega
end
end Bf
namespace L2
open PySem PySem.Spec PyProof.Rows
section
variable {X:Cx}
end
section
variable {X:Cx}
end
section
variable {X:Cx}
end
end L2
set_option maxHeartbeats 1000000
namespace Tm
open PySem PyProof.Rows
def i3:Bool->Keyed->Array Keyed->Nat->Nat->Nat->StateT SortSt Sem (Option Nat):=sortPriv% PySem.Builtin.gallop
def kG:Array Keyed->Array Keyed->StateT SortSt Sem (Array Keyed):=sortPriv% PySem.Builtin.mergeLo
def kH:Array Keyed->Array Keyed->StateT SortSt Sem (Array Keyed):=sortPriv% PySem.Builtin.mergeHi
def fL (κ:KeyKind) (kd:SortKind) (prog:Program) (w:World) (A:Around) (s:Shared):Prop :=
 ∀(E:B0) (x y:Value) (a b:κ.α) (Q:Bool->Shared->Prop),κ.keyOf x=some a->κ.keyOf y=some b->Q (κ.blt a b) s->wpAny (model prog w) A (keyLt' kd x y) Q E s
def kv (κ:KeyKind) (p:Keyed):κ.α:=(κ.keyOf p.1).getD κ.dflt
def Hk (κ:KeyKind) (p:Keyed):Prop:=∃a,κ.keyOf p.1=some a
variable {prog:Program} {w:World} {A:Around} {E:B0} {s:Shared} {κ:KeyKind} {kd:SortKind}
section
theorem aG {U α:Type} {M:Model} {Q:α->U->Prop} {st:U} {c:Prop} [Decidable c] {t e:StateT U Sem α} (h:c) (q:wpS M A E s t Q st):wpS M A E s (if c then t else e) Q st:=by rw[Qu h];exact q
theorem aF {U α:Type} {M:Model} {Q:α->U->Prop} {st:U} {c:Prop} [Decidable c] {t e:StateT U Sem α} (h:¬c) (q:wpS M A E s e Q st):wpS M A E s (if c then t else e) Q st:=by rw[Qt h];exact q
variable {i j n hint:Nat}
theorem bT (h:i=j):(i==j)=true:=by simp[h]
theorem bF (h:¬i=j):¬(i==j)=true:=by simpa using h
variable {Q:Option Bool->SortSt->Prop} {x y p key:Keyed} {st:SortSt}
theorem fY (hL:fL κ kd prog w A s) (hk:kindOf st=kd) (hx:Hk κ x) (hy:Hk κ y) (h:Q (some (κ.blt (kv κ x) (kv κ y))) st):wpS (model prog w) A E s (lt' x y) Q st:=by
 obtain⟨a,ha⟩:=hx;obtain⟨b,hb⟩:=hy;rw[lt'_eq];refine Qq (wpS_get ?_);rw[hk];refine Qq (wpS_lift (wpAny_attempt (hL _ _ _ _ _ _ ha hb ⟨rfl,?_⟩)));unfold kv at h;rw[ha,hb]at h;exact Qx h
variable {arr:Array Keyed}
theorem aU {Q:Keyed->SortSt->Prop} (h:arr[i]?=some p) (q:Q p st):wpS (model prog w) A E s (elem' arr i) Q st:=by
 rw[elem'_eq,h];exact Qx q
def bey (κ:KeyKind) (left:Bool) (key p:Keyed):Bool:=if left then κ.blt (kv κ p) (kv κ key) else !κ.blt (kv κ key) (kv κ p)
theorem cD (hL:fL κ kd prog w A s) {left:Bool} {b:Bool} (hk:kindOf st=kd) (hkey:Hk κ key)
  (hP:∃p,arr[j]?=some p/\Hk κ p/\bey κ left key p=b) (h:Q (some b) st) :
  wpS (model prog w) A E s (elem' arr j >>= λx=>if left=true then lt' x key else lt' key x >>= λr=>pure (Option.map (λz=>!z) r)) Q st:=by
 obtain⟨p,hp,hkp,rfl⟩:=hP;refine Qq (aU hp ?_);unfold bey at h
 cases left with
 | true=>exact fY hL hk hkp hkey h
 | false=>exact Qq (fY hL hk hkey hkp (Qx h))
theorem lB (hL:fL κ kd prog w A s) {left:Bool} {base:Nat} {Q:Option Nat->SortSt->Prop} (P:Nat->Bool) (hk:kindOf st=kd) (hkey:Hk κ key)
  (hP:∀i,i<n->∃p,arr[base+i]?=some p/\Hk κ p/\bey κ left key p=P i) (mono:∀i j,i<=j->j<n->P j=true->P i=true) (hh:hint<n)
  (h:∀k,k<=n->(∀i,i<k->P i=true)->(∀i,k<=i->i<n->P i=false)->Q (some k) st):wpS (model prog w) A E s (i3 left key arr base n hint) Q st:=by
 have monoF:∀i j,i<=j->j<n->P i=false->P j=false:=λi j h1 h2 h3=>by
  cases e:P j with
  | false=>rfl
  | true=>rw[mono i j h1 h2 e]at h3;cases h3
 unfold i3;refine Qq (cD hL hk hkey (hP hint hh) ?_)
 have fin:∀(lo hi:Nat) (F:(Option (Option Nat) × Nat × Nat)->StateT SortSt Sem (Option Nat)) (body:Nat->(Option (Option Nat) × Nat × Nat)->StateT SortSt Sem (ForInStep (Option (Option Nat) × Nat × Nat))),lo<=hi->hi<=n->(∀i,i<lo->P i=true)->(∀i,hi<=i->i<n->P i=false) ->
   (∀l k,F (none,l,k)=pure (some k))->(∀x l k (R:ForInStep (Option (Option Nat) × Nat × Nat)->SortSt->Prop),l<=k->k<=n->(l=k->R (.done (none,l,k)) st)->(l<k->P (l+(k-l) / 2)=true->R (.yield (none,l+(k-l) / 2+1,k)) st)->(l<k->P (l+(k-l) / 2)=false->R (.yield (none,l,l+(k-l) / 2)) st)->wpS (model prog w) A E s (body x (none,l,k)) R st) ->
   wpS (model prog w) A E s (forIn [0:n] (none,lo,hi) body >>= F) Q st:=λlo hi F body h1 h2 h3 h4 hF hb=>by
  refine Qq (wpS_mono (Xr (I:=λx c st'=>st'=st/\∃l k,c=(none,l,k)/\l<=k/\k<=n/\k-l<=n-x/\(∀i,i<l->P i=true)/\(∀i,k<=i->i<n->P i=false))
   (Q:=λc st'=>st'=st/\∃k,c=(none,k,k)/\k<=n/\(∀i,i<k->P i=true)/\(∀i,k<=i->i<n->P i=false)) ?_ ?_ ⟨rfl,lo,hi,rfl,h1,h2,by exact Bg h1 h2,h3,h4⟩) ?_)
  ·rintro x c st' _ hx ⟨rfl,l,k,rfl,a1,a2,a3,a4,a5⟩;refine hb x l k _ a1 a2 (λe=>?_) (λe p=>?_) (λe p=>?_)
   ·subst e;exact⟨rfl,l,rfl,a2,a4,a5⟩
   ·exact⟨rfl,_,k,rfl,by exact Be e,a2,xp a3,λi hi=>mono i _ (by exact Bd hi) (by exact Bc a2 e) p,a5⟩
   exact⟨rfl,l,_,rfl,by exact Bb,by exact Ba a2 e,xo a3 e,a4,λi h1 h2=>monoF _ i h1 h2 p⟩
  ·rintro c st' ⟨rfl,l,k,rfl,a1,a2,a3,a4,a5⟩;have:l=k:=by exact xJ a1 a3
   subst this;exact⟨rfl,l,rfl,a2,a4,a5⟩
  rintro c st' ⟨rfl,k,rfl,a2,a4,a5⟩;rw[hF];exact Qx (h k a2 a4 a5)
 dsimp only
 cases hp:P hint with
 | true =>
  refine aG rfl ?_
  refine Qq (wpS_mono (Xr (I:=λx c st'=>st'=st/\∃l o,c=(none,l,o)/\l<o/\x+1<=o/\hint+l<n/\P (hint+l)=true)
   (Q:=λc st'=>st'=st/\∃l o,c=(none,l,o)/\l<o/\hint+l<n/\P (hint+l)=true/\(o<n-hint->P (hint+o)=false)) ?_ ?_ ⟨rfl,0,1,rfl,by omega,by omega,by exact A_ hh,hp⟩) ?_)
  ·rintro x c st' _ hx ⟨rfl,l,o,rfl,a1,a2,a3,a4⟩;dsimp only;by_cases c1:o>=n-hint
   ·refine aG c1 ?_;exact Qx ⟨rfl,l,o,rfl,a1,a3,a4,λz=>by omega⟩
   refine aF c1 ?_;refine Qq (cD hL hk hkey (hP (hint+o) (by exact xI hh c1)) ?_);dsimp only
   cases e:P (hint+o) with
   | true =>
    refine aF Qh ?_;exact Qx ⟨rfl,o,2*o+1,rfl,by exact xH,by omega,by exact xI hh c1,e⟩
   | false =>
   refine aG rfl ?_;exact Qx ⟨rfl,l,o,rfl,a1,a3,a4,λ_=>e⟩
  ·rintro c st' ⟨rfl,l,o,rfl,a1,a2,a3,a4⟩;exact⟨rfl,l,o,rfl,a1,a3,a4,λz=>by omega⟩
  rintro c st' ⟨rfl,l,o,rfl,a1,a3,a4,a5⟩;dsimp only;refine fin _ _ _ _ (by exact A9 hh a1 a3) (by exact A8 hh) (λi hi=>mono i (hint+l) (by exact A7 hi) a3 a4) (λi h1 h2=>?_) (λl k=>rfl) ?_
  ·by_cases z:o<n-hint
   ·exact monoF (hint+o) i (by exact A6 hh h1 z) h2 (a5 z)
   omega
  intro x l k R h1 h2 q1 q2 q3;dsimp only;by_cases c:l>=k
  ·refine aG c ?_;exact Qx (q1 (by exact v9 h1 c))
  refine aF c ?_;refine Qq (cD hL hk hkey (hP _ (by exact xG h2 c)) ?_);dsimp only
  cases e:P (l+(k-l) / 2) with
  | true=>refine aG rfl ?_;exact Qx (q2 (by exact tO c) e)
  | false=>refine aF Qh ?_;exact Qx (q3 (by exact tO c) e)
 | false =>
 refine aF Qh ?_
 refine Qq (wpS_mono (Xr (I:=λx c st'=>st'=st/\∃l o,c=(none,l,o)/\l<o/\x+1<=o/\l<=hint/\P (hint-l)=false)
  (Q:=λc st'=>st'=st/\∃l o,c=(none,l,o)/\l<o/\l<=hint/\P (hint-l)=false/\(o<hint+1->P (hint-o)=true)) ?_ ?_ ⟨rfl,0,1,rfl,by omega,by omega,by exact v8,hp⟩) ?_)
 ·rintro x c st' _ hx ⟨rfl,l,o,rfl,a1,a2,a3,a4⟩;dsimp only;by_cases c1:o>=hint+1
  ·refine aG c1 ?_;exact Qx ⟨rfl,l,o,rfl,a1,a3,a4,λz=>by omega⟩
  refine aF c1 ?_;refine Qq (cD hL hk hkey (hP (hint-o) (by exact A5 hh a1 c1)) ?_);dsimp only
  cases e:P (hint-o) with
  | true =>
   refine aG rfl ?_;exact Qx ⟨rfl,l,o,rfl,a1,a3,a4,λ_=>e⟩
  | false =>
  refine aF Qh ?_;exact Qx ⟨rfl,o,2*o+1,rfl,by exact xH,by omega,by exact A4 c1,e⟩
 ·rintro c st' ⟨rfl,l,o,rfl,a1,a2,a3,a4⟩;exact⟨rfl,l,o,rfl,a1,a3,a4,λz=>by omega⟩
 rintro c st' ⟨rfl,l,o,rfl,a1,a3,a4,a5⟩;dsimp only;refine fin _ _ _ _ (by exact A3 a1 a3) (by exact A2 hh a3) (λi hi=>?_) (λi h1 h2=>monoF (hint-l) i h1 h2 a4) (λl k=>rfl) ?_
 ·by_cases z:o<hint+1
  ·exact mono i (hint-o) (by exact A1 hi z) (by exact A0 hh a1 z) (a5 z)
  omega
 intro x l k R h1 h2 q1 q2 q3;dsimp only;by_cases c:l>=k
 ·refine aG c ?_;exact Qx (q1 (by exact v9 h1 c))
 refine aF c ?_;refine Qq (cD hL hk hkey (hP _ (by exact xG h2 c)) ?_);dsimp only
 cases e:P (l+(k-l) / 2) with
 | true=>refine aG rfl ?_;exact Qx (q2 (by exact tO c) e)
 | false=>refine aF Qh ?_;exact Qx (q3 (by exact tO c) e)
end
section
variable {κ:KeyKind}
def le (κ:KeyKind) (p q:Keyed):Prop:=κ.kle (kv κ p) (kv κ q)
structure MI (κ:KeyKind) (L o x y:List Keyed):Prop where
 perm:(o++(x++y)).Perm L
 so:o.Pairwise (le κ)
 sx:x.Pairwise (le κ)
 sy:y.Pairwise (le κ)
 ox:∀p∈o,∀q∈x,le κ p q
 oy:∀p∈o,∀q∈y,le κ p q
 last:∀q∈y,∀l,x.getLast?=some l->le κ q l
variable {L o x2 y x y2:List Keyed}
theorem MI.takeXs {x1:List Keyed} (h:MI κ L o (x1++x2) y) (hq:∀p∈x1,∀q∈y,le κ p q):MI κ L (o++x1) x2 y:=by
 have sx:=Q3.mp h.sx;refine⟨?_,Q3.mpr ⟨h.so,sx.1,λp hp q hq=>h.ox p hp q (Qp.mpr (.inl hq))⟩,sx.2.1,h.sy,λp hp q hq'=>?_,λp hp q hq'=>?_,λq hq' l hl=>?_⟩
 ·have:=h.perm;rwa [QY,<-QY o]at this
 ·rcases Qp.mp hp with a|a
  ·exact h.ox p a q (Qp.mpr (.inr hq'))
  exact sx.2.2 p a q hq'
 ·rcases Qp.mp hp with a|a
  ·exact h.oy p a q hq'
  exact hq p a q hq'
 refine h.last q hq' l ?_;rw[List.getLast?_append,hl];rfl
theorem MI.takeYs {y1:List Keyed} (h:MI κ L o x (y1++y2)) (hq:∀q∈y1,∀p∈x,le κ q p):MI κ L (o++y1) x y2:=by
 have sy:=Q3.mp h.sy;refine⟨?_,Q3.mpr ⟨h.so,sy.1,λp hp q hq=>h.oy p hp q (Qp.mpr (.inl hq))⟩,h.sx,sy.2.1,λp hp q hq'=>?_,λp hp q hq'=>?_,λq hq' l hl=>?_⟩
 ·refine List.Perm.trans ?_ h.perm;rw[QY];refine List.Perm.append_left _ ?_;rw[<-QY,<-QY];exact List.Perm.append_right _ List.perm_append_comm
 ·rcases Qp.mp hp with a|a
  ·exact h.ox p a q hq'
  exact hq p a q hq'
 ·rcases Qp.mp hp with a|a
  ·exact h.oy p a q (Qp.mpr (.inr hq'))
  exact sy.2.2 p a q hq'
 exact h.last q (Qp.mpr (.inr hq')) l hl
variable {p q r l:Keyed}
theorem le_trans (a:le κ p q) (b:le κ q r):le κ p r:=KeyOrd.kle_trans a b
theorem dG (s:(p::x).Pairwise (le κ)) (h:le κ q p) (hr:r∈p::x):le κ q r:=by
 rcases Qw.mp hr with e|e
 ·rw[e];exact h
 exact le_trans h ((List.pairwise_cons.mp s).1 r e)
theorem MI.takeY (h:MI κ L o (p::x) (q::y)) (c:le κ q p):MI κ L (o++[q]) (p::x) y :=
 MI.takeYs (y1:=[q]) h λr hr s hs=>by
  have e:r=q:=by simpa using hr
  subst e;exact dG h.sx c hs
theorem MI.takeX (h:MI κ L o (p::x) (q::y)) (c:le κ p q):MI κ L (o++[p]) x (q::y) :=
 MI.takeXs (x1:=[p]) h λr hr s hs=>by
  have e:r=p:=by simpa using hr
  subst e;exact dG h.sy c hs
def Srt (κ:KeyKind) (L r:List Keyed):Prop:=r.Perm L/\r.Pairwise (le κ)
theorem MI.endY (h:MI κ L o x []):Srt κ L (o++x):=⟨by simpa using h.perm,Q3.mpr ⟨h.so,h.sx,h.ox⟩⟩
theorem MI.endX (h:MI κ L o [] y):Srt κ L (o++y):=⟨by simpa using h.perm,Q3.mpr ⟨h.so,h.sy,h.oy⟩⟩
theorem MI.lastX (h:MI κ L o [l] y):Srt κ L (o++y++[l]):=by
 refine⟨List.Perm.trans ?_ h.perm,Q3.mpr ⟨Q3.mpr ⟨h.so,h.sy,h.oy⟩,by simp,λp hp q hq=>?_⟩⟩
 ·rw[QY];exact List.Perm.append_left _ List.perm_append_comm
 have e:q=l:=by simpa using hq
 subst e;rcases Qp.mp hp with a|a
 ·exact h.ox p a q (by simp)
 exact h.last p a q rfl
end
section
structure Gs (st st':SortSt):Prop where
 kind:kindOf st'=kindOf st
 arr:arrOf st'=arrOf st
 pend:pendingOf st'=pendingOf st
 fail:failedOf st'=failedOf st
theorem Gs.refl (st:SortSt):Gs st st:=⟨rfl,rfl,rfl,rfl⟩
theorem Gs.trans {a b c:SortSt} (x:Gs a b) (y:Gs b c):Gs a c:=⟨y.kind.trans x.kind,y.arr.trans x.arr,y.pend.trans x.pend,y.fail.trans x.fail⟩
def nr:Nat->StateT SortSt Sem Unit:=sortPriv% PySem.Builtin.setMinGallop
variable {g ia ib n m i j:Nat}
theorem cX {st:SortSt} {Q:Unit->SortSt->Prop} (h:∀st',Gs st st'->Q () st'):wpS (model prog w) A E s (nr g) Q st:=by
 unfold nr;exact wpS_modify (h _ ⟨rfl,rfl,rfl,rfl⟩)
theorem fg (a:Array Keyed) (i:Nat):(a.extract i a.size).toList=a.toList.drop i:=by
 have:(a.toList.drop i).length<=a.size-i:=by simp
 simpa using Q0 this
theorem fW (a:Array Keyed) (i k:Nat):(a.extract i (i+k)).toList=(a.toList.drop i).take k:=by
 simp
theorem aN {a:Array Keyed} {i:Nat} (h:i<a.size):∃p,a[i]?=some p/\a.toList.drop i=p::a.toList.drop (i+1)/\p∈a.toList :=
 ⟨a[i],Qy h,by rw[List.drop_eq_getElem_cons (by simpa using h)];simp,by simp⟩
structure LJ (κ:KeyKind) (a b:Array Keyed) (n:Nat) (out:Array Keyed) (ia ib:Nat):Prop where
 mi:MI κ (a.toList++b.toList) out.toList (a.toList.drop ia) (b.toList.drop ib)
 la:ia<=a.size
 lb:ib<=b.size
 lo:out.size=ia+ib
 n:n<=out.size
variable {a b:Array Keyed}
theorem LJ.less {out:Array Keyed} (h:LJ κ a b n out ia ib) (hm:m<=n):LJ κ a b m out ia ib:=⟨h.mi,h.la,h.lb,h.lo,QO hm h.n⟩
theorem LJ.doneB {out:Array Keyed} (h:LJ κ a b n out ia ib) (e:ib=b.size):Srt κ (a.toList++b.toList) (out++a.extract ia a.size++b.extract ib b.size).toList:=by
 have m:=h.mi;have d:b.toList.drop ib=[]:=by rw[e];simp
 rw[d]at m;rw[QQ,QQ,fg,fg,d,XD];exact m.endY
theorem LJ.doneA {out:Array Keyed} (h:LJ κ a b n out ia ib) (e:ia=a.size):Srt κ (a.toList++b.toList) (out++a.extract ia a.size++b.extract ib b.size).toList:=by
 have m:=h.mi;have d:a.toList.drop ia=[]:=by rw[e];simp
 rw[d]at m;rw[QQ,QQ,fg,fg,d,XD];exact m.endX
theorem LJ.lastA {out:Array Keyed} (h:LJ κ a b n out ia ib) (e:ia+1=a.size):Srt κ (a.toList++b.toList) (out++b.extract ib b.size++a.extract ia a.size).toList:=by
 have m:=h.mi;obtain⟨p,_,d,_⟩:=aN (a:=a) (i:=ia) (by exact AZ e);have d2:a.toList.drop (ia+1)=[]:=by rw[e];simp
 rw[d2]at d;rw[d]at m;rw[QQ,QQ,fg,fg,d];exact m.lastX
variable {p q key:Keyed}
theorem LJ.pushB {out:Array Keyed} (h:LJ κ a b n out ia ib) (ha:a[ia]?=some p) (hb:b[ib]?=some q) (c:le κ q p):LJ κ a b (n+1) (out.push q) ia (ib+1):=by
 have lb:=(Q5.mp hb).1;have la:=(Q5.mp ha).1;obtain⟨p',e1,d1,_⟩:=aN la;obtain⟨q',e2,d2,_⟩:=aN lb;rw[ha]at e1;rw[hb]at e2;cases e1;cases e2;have m:=h.mi;rw[d1,d2]at m;have m:=m.takeY c;rw[<-d1]at m;refine⟨by rw[Array.toList_push];exact m,h.la,lb,by rw[Array.size_push,h.lo];exact AY,by rw[Array.size_push];have:=h.n;exact tN this⟩
theorem LJ.pushA {out:Array Keyed} (h:LJ κ a b n out ia ib) (ha:a[ia]?=some p) (hb:b[ib]?=some q) (c:le κ p q):LJ κ a b (n+1) (out.push p) (ia+1) ib:=by
 have lb:=(Q5.mp hb).1;have la:=(Q5.mp ha).1;obtain⟨p',e1,d1,_⟩:=aN la;obtain⟨q',e2,d2,_⟩:=aN lb;rw[ha]at e1;rw[hb]at e2;cases e1;cases e2;have m:=h.mi;rw[d1,d2]at m;have m:=m.takeX c;rw[<-d2]at m;refine⟨by rw[Array.toList_push];exact m,la,h.lb,by rw[Array.size_push,h.lo];exact AX,by rw[Array.size_push];have:=h.n;exact tN this⟩
theorem LJ.runA {out:Array Keyed} {k:Nat} (h:LJ κ a b n out ia ib) (hb:b[ib]?=some q) (hk:ia+k<=a.size) (c:∀i,i<k->∀p,a[ia+i]?=some p->le κ p q):LJ κ a b n (out++a.extract ia (ia+k)) (ia+k) ib:=by
 have lb:=(Q5.mp hb).1;obtain⟨q',e2,d2,_⟩:=aN lb;rw[hb]at e2;cases e2;have m:=h.mi;have sy:=m.sy;rw[<-QV k (a.toList.drop ia)]at m
 have m:=m.takeXs λp hp r hr=>by
  obtain⟨i,hi,e⟩:=Q2.mp hp;rw[QJ]at hi;have e3:=Qc (l:=(a.toList.drop ia).take k) (i:=i) (by rw[QJ];exact xF hi);rw[e,List.getElem?_take,Qu (by exact tM hi),XA,Qm]at e3;rw[d2]at hr sy;exact dG sy (c i (by exact tM hi) p e3) hr
 rw[List.drop_drop]at m;have sz:(a.extract ia (ia+k)).size=k:=by rw[Array.size_extract];exact xE hk
 refine⟨by rw[QQ,fW];exact m,hk,h.lb,by rw[XS,sz,h.lo];exact AW,by rw[XS];have:=h.n;exact xD sz this⟩
theorem LJ.runB {out:Array Keyed} {k:Nat} (h:LJ κ a b n out ia ib) (ha:a[ia]?=some p) (hk:ib+k<=b.size) (c:∀i,i<k->∀q,b[ib+i]?=some q->le κ q p):LJ κ a b n (out++b.extract ib (ib+k)) ia (ib+k):=by
 have la:=(Q5.mp ha).1;obtain⟨p',e2,d2,_⟩:=aN la;rw[ha]at e2;cases e2;have m:=h.mi;have sx:=m.sx;rw[<-QV k (b.toList.drop ib)]at m
 have m:=m.takeYs λq hq r hr=>by
  obtain⟨i,hi,e⟩:=Q2.mp hq;rw[QJ]at hi;have e3:=Qc (l:=(b.toList.drop ib).take k) (i:=i) (by rw[QJ];exact xF hi);rw[e,List.getElem?_take,Qu (by exact tM hi),XA,Qm]at e3;rw[d2]at hr sx;exact dG sx (c i (by exact tM hi) q e3) hr
 rw[List.drop_drop]at m;have sz:(b.extract ib (ib+k)).size=k:=by rw[Array.size_extract];exact xE hk
 refine⟨by rw[QQ,fW];exact m,h.la,hk,by rw[XS,sz,h.lo];exact AV,by rw[XS];have:=h.n;exact xD sz this⟩
theorem nO (s:a.toList.Pairwise (le κ)) (h:i<=j) (hi:a[i]?=some p) (hj:a[j]?=some q):le κ p q:=by
 by_cases e:i=j
 ·subst e;rw[hi]at hj;cases hj;exact XV _
 have li:=(Q5.mp hi).1;have lj:=(Q5.mp hj).1;have:=(List.pairwise_iff_getElem.mp s) i j (by simpa using li) (by simpa using lj) (by exact xC h e);rw[Qy li]at hi;rw[Qy lj]at hj;cases hi;cases hj;simpa using this
theorem dC (hL:fL κ kd prog w A s) {st:SortSt} {left:Bool} {a:Array Keyed} {base n hint:Nat} {Q:Option Nat->SortSt->Prop} (hk:kindOf st=kd) (hkey:Hk κ key) (ha:∀p∈a.toList,Hk κ p) (hn:base+n<=a.size)
  (sa:∀i j p q,base<=i->i<=j->j<base+n->a[i]?=some p->a[j]?=some q->le κ p q) (hh:hint<n)
  (h:∀k,k<=n->(∀i,i<k->∀p,a[base+i]?=some p->bey κ left key p=true)->(∀i,k<=i->i<n->∀p,a[base+i]?=some p->bey κ left key p=false)->Q (some k) st):wpS (model prog w) A E s (i3 left key a base n hint) Q st:=by
 refine lB hL (λi=>match a[base+i]? with|some p=>bey κ left key p|none=>false) hk hkey (λi hi=>?_) (λi j h1 h2 h3=>?_) hh (λk h1 h2 h3=>h k h1 (λi hi p e=>?_) (λi hi hj p e=>?_))
 ·have:base+i<a.size:=by exact xB hn hi
  obtain⟨p,e,_,m⟩:=aN this;exact⟨p,e,ha p m,by rw[e]⟩
 ·obtain⟨p,e,_⟩:=aN (a:=a) (i:=base+i) (by exact AU hn h1 h2);obtain⟨q,e2,_⟩:=aN (a:=a) (i:=base+j) (by exact xB hn h2);have l:=sa _ _ p q (by exact ra) (show base+i<=base+j by exact AT h1) (by exact AS h2) e e2;rw[e2]at h3;rw[e];dsimp only at h3 ⊢;unfold bey at h3 ⊢
  cases left with
  | true =>
   rw[Qu rfl]at h3 ⊢;exact KeyOrd.klt_of_kle_of_klt l h3
  | false =>
  rw[Qt (by simp)]at h3 ⊢;have h3:κ.kle (kv κ q) (kv κ key):=by simpa[KeyOrd.kle] using h3
  have:=KeyOrd.kle_trans l h3;simpa[KeyOrd.kle] using this
 ·have:=h2 i hi;rwa [e]at this
 have:=h3 i hi hj;rwa [e]at this
theorem ja (h:bey κ false key p=true):le κ p key:=by
 unfold bey at h;rw[Qt (by simp)]at h;simpa[le,KeyOrd.kle] using h
theorem i_ (h:bey κ true key p=true):le κ p key:=by
 unfold bey at h;rw[Qu rfl]at h;exact KeyOrd.kle_of_klt h
theorem jc (h:bey κ false key p=false):le κ key p:=by
 unfold bey at h;rw[Qt (by simp)]at h;exact KeyOrd.kle_of_klt (show κ.blt (kv κ key) (kv κ p)=true by simpa using h)
theorem jd (h:bey κ true key p=false):le κ key p:=by
 unfold bey at h;rw[Qu rfl]at h;exact h
end
section
theorem eT {U α β:Type} {M:Model} {Q:α->U->Prop} {st:U} {m:StateT U Sem α} (f:β->StateT U Sem α) (I:β->Prop) (J:∀z,I z->wpS M A E s (f z) Q st) (h:(∀z,I z->wpS M A E s (f z) Q st)->wpS M A E s m Q st):wpS M A E s m Q st:=h J
@[reducible] def Bv (κ:KeyKind) (a b:Array Keyed) (st:SortSt) (x:Nat) (c:Option (Array Keyed) × Array Keyed × Nat × Nat × Nat) (st':SortSt):Prop:=Gs st st'/\∃out ia ib mg,c=(none,out,ia,ib,mg)/\LJ κ a b (x+1) out ia ib/\ia+1<a.size/\ib<b.size
@[reducible] def Bu (κ:KeyKind) (a b:Array Keyed) (st:SortSt)  (c:Option (Array Keyed) × Array Keyed × Nat × Nat × Nat) (st':SortSt):Prop:=Gs st st'/\∃r rest,c=(some r,rest)/\Srt κ (a.toList++b.toList) r.toList
@[reducible] def Bt (κ:KeyKind) (a b:Array Keyed) (st:SortSt) (x x':Nat) (c:Option (Array Keyed) × Array Keyed × Nat × Nat × Nat × Nat) (st':SortSt):Prop:=st'=st/\∃out ia ib ac bc,c=(none,out,ia,ib,ac,bc)/\LJ κ a b (x+1+x') out ia ib/\ia+1<a.size/\ib<b.size
@[reducible] def Bs (κ:KeyKind) (a b:Array Keyed) (st:SortSt) (x:Nat) (c:Option (Array Keyed) × Array Keyed × Nat × Nat × Nat × Nat) (st':SortSt):Prop:=st'=st/\((∃r rest,c=(some r,rest)/\Srt κ (a.toList++b.toList) r.toList)\/∃out ia ib ac bc,c=(none,out,ia,ib,ac,bc)/\LJ κ a b (x+1) out ia ib/\ia+1<a.size/\ib<b.size)
@[reducible] def Br (κ:KeyKind) (a b:Array Keyed) (st:SortSt) (x x':Nat) (c:Option (Array Keyed) × Array Keyed × Nat × Nat × Nat × Nat × Nat) (st':SortSt):Prop:=Gs st st'/\∃out ia ib mg ac bc,c=(none,out,ia,ib,mg,ac,bc)/\LJ κ a b (x+1+x') out ia ib/\ia+1<a.size/\ib<b.size
@[reducible] def Bq (κ:KeyKind) (a b:Array Keyed) (st:SortSt) (x:Nat) (c:Option (Array Keyed) × Array Keyed × Nat × Nat × Nat × Nat × Nat) (st':SortSt):Prop:=Gs st st'/\((∃r rest,c=(some r,rest)/\Srt κ (a.toList++b.toList) r.toList)\/∃out ia ib mg ac bc,c=(none,out,ia,ib,mg,ac,bc)/\LJ κ a b (x+2) out ia ib/\ia+1<a.size/\ib<b.size)
theorem jv (hL:fL κ kd prog w A s) {st:SortSt} {a b:Array Keyed} {Q:Array Keyed->SortSt->Prop} (hk:kindOf st=kd) (ha:∀p∈a.toList,Hk κ p) (hb:∀p∈b.toList,Hk κ p)
  (na:1<=a.size) (nb:1<=b.size) (mi:MI κ (a.toList++b.toList) [] a.toList b.toList) (first:∀p∈a.toList,∀q,b[0]?=some q->le κ q p)
  (h:∀r st',Gs st st'->Srt κ (a.toList++b.toList) r.toList->Q r st'):wpS (model prog w) A E s (kG a b) Q st:=by
 have sa:=mi.sx;have sb:=mi.sy;unfold kG;refine Qq (wpS_lift (wpAny_rule ⟨rfl,?_⟩));obtain⟨q0,hq0,_⟩:=aN (a:=b) (i:=0) (by exact q_ nb);obtain⟨p0,hp0,_,mp0⟩:=aN (a:=a) (i:=0) (by exact q_ na);have j0:LJ κ a b 0 #[] 0 0:=⟨by simpa using mi,by exact xA na,by exact xA nb,rfl,QR _⟩;have j1:=j0.pushB hp0 hq0 (first p0 mp0 q0 hq0);have j1:LJ κ a b 1 #[q0] 0 1:=j1;refine Qq (aU hq0 ?_);refine wpS_mono (Q:=λr st'=>Gs st st'/\Srt κ (a.toList++b.toList) r.toList) ?_ (λr st' z=>h r st' z.1 z.2);clear h
 extract_lets out0
 by_cases c1:1=b.size
 ·refine aG (bT c1) ?_;exact Qx ⟨.refl _,j1.doneB c1⟩
 refine aF (bF c1) ?_;by_cases c2:0+1=a.size
 ·refine aG (bT c2) ?_;exact Qx ⟨.refl _,j1.lastA c2⟩
 refine aF (bF c2) ?_;refine Qq (wpS_get ?_)
 extract_lets mg0
 refine Qq (wpS_mono (Xr (I:=Bv κ a b st)
  (Q:=Bu κ a b st) ?step ?fin ⟨.refl _,out0,0,1,mg0,rfl,j1,by exact AR na c2,by exact AQ na nb c1 c2⟩) ?post)
 case post =>
  rintro c st' ⟨g,r,rest,rfl,hr⟩;exact Qx ⟨g,hr⟩
 case fin =>
  rintro c st' ⟨g,out,ia,ib,mg,rfl,j,l1,l2⟩;have:=j.n;have:=j.lo;omega
 case step =>
  rintro x c st1 _ hx ⟨g,out,ia,ib,mg,rfl,j,l1,l2⟩
  refine Qq (wpS_mono (Xr (I:=Bt κ a b st1 x)
   (Q:=Bs κ a b st1 x) ?step1 ?fin1 ⟨rfl,out,ia,ib,0,0,rfl,j,l1,l2⟩) ?post1)
  case fin1 =>
   rintro c st' ⟨rfl,out,ia,ib,ac,bc,rfl,j,l1,l2⟩;have:=j.n;have:=j.lo;omega
  case step1 =>
   clear j l1 l2;rintro x' c st' _ hx' ⟨rfl,out,ia,ib,ac,bc,rfl,j,l1,l2⟩;obtain⟨p,hp,_,mp⟩:=aN (a:=a) (i:=ia) (by exact v7 l1);obtain⟨q,hq,_,mq⟩:=aN (a:=b) (i:=ib) l2;refine Qq (aU hq (Qq (aU hp (Qq (fY hL (by rw[g.kind];exact hk) (hb q mq) (ha p mp) ?_)))));dsimp only
   cases e:κ.blt (kv κ q) (kv κ p) with
   | true =>
    refine aG rfl ?_;refine Qq (aU hq ?_);have j2:=j.pushB hp hq (KeyOrd.kle_of_klt e);by_cases d1:ib+1=b.size
    ·refine aG (bT d1) ?_;exact Qx ⟨rfl,.inl ⟨_,_,rfl,j2.doneB d1⟩⟩
    refine aF (bF d1) ?_;by_cases d2:bc+1>=mg
    ·refine aG d2 ?_;exact Qx ⟨rfl,.inr ⟨_,_,_,_,_,rfl,j2.less (by omega),l1,by exact v6 l2 d1⟩⟩
    refine aF d2 ?_;exact Qx ⟨rfl,_,_,_,_,_,rfl,j2.less (by exact tL),l1,by exact v6 l2 d1⟩
   | false =>
   refine aF Qh ?_;refine Qq (aU hp ?_);have j2:=j.pushA hp hq e;by_cases d1:ia+1+1=a.size
   ·refine aG (bT d1) ?_;exact Qx ⟨rfl,.inl ⟨_,_,rfl,j2.lastA d1⟩⟩
   refine aF (bF d1) ?_;by_cases d2:ac+1>=mg
   ·refine aG d2 ?_;exact Qx ⟨rfl,.inr ⟨_,_,_,_,_,rfl,j2.less (by omega),by exact xy l1 d1,l2⟩⟩
   refine aF d2 ?_;exact Qx ⟨rfl,_,_,_,_,_,rfl,j2.less (by exact tL),by exact xy l1 d1,l2⟩
  case post1 =>
   clear j l1 l2;rintro c st' ⟨rfl,⟨r,rest,rfl,hr⟩|⟨out,ia,ib,ac,bc,rfl,j,l1,l2⟩⟩
   ·exact Qx ⟨g,r,_,rfl,hr⟩
   refine Qq (wpS_lift (wpAny_rule ⟨rfl,?_⟩))
   refine Qq (wpS_mono (Xr (I:=Br κ a b st x)
    (Q:=Bq κ a b st x) ?step2 ?fin2 ⟨g,out,ia,ib,_,ac,bc,rfl,j,l1,l2⟩) ?post2)
   case fin2 =>
    rintro c st' ⟨g,out,ia,ib,mg,ac,bc,rfl,j,l1,l2⟩;have:=j.n;have:=j.lo;omega
   case post2 =>
    rintro c st' ⟨g,⟨r,rest,rfl,hr⟩|⟨out,ia,ib,mg,ac,bc,rfl,j,l1,l2⟩⟩
    ·exact Qx ⟨g,r,_,rfl,hr⟩
    refine Qq (cX λst2 g2=>?_);exact Qx ⟨g.trans g2,_,_,_,_,rfl,j,l1,l2⟩
   case step2 =>
    clear j l1 l2 g;rintro x' c st2 _ hx' ⟨g,out,ia,ib,mg,ac,bc,rfl,j,l1,l2⟩;obtain⟨p,hp,_,mp⟩:=aN (a:=a) (i:=ia) (by exact v7 l1);obtain⟨q,hq,_,mq⟩:=aN (a:=b) (i:=ib) l2
    extract_lets s1 o1 s2 x1 s3 y1 s4 m1 s5 ac1 bc1 ib2 jp mgm
    refine eT (λm=>jp () m) (λ_=>True) (λm _=>?_) (λJ=>?_)
    ·refine Qq (cX λst3 g3=>?_);have g4:=g.trans g3;have hk3:kindOf st3=kd:=by rw[g4.kind];exact hk
     refine Qq (aU hq ?_);refine Qq (dC (a:=a) (base:=ia) (n:=a.size-ia) hL hk3 (hb q mq) ha (by exact AO l1) (λi j p q _ h _ e1 e2=>nO sa h e1 e2) (by exact AN l1) λk k1 k2 k3=>?_);dsimp -zeta only
     extract_lets ac2 jp2 o2 x2
     refine eT (λz:Array Keyed × Nat=>jp2 () z.1 z.2) (λz=>LJ κ a b (x+1+x') z.1 z.2 ib/\z.2+1<a.size/\∀p,a[z.2]?=some p->le κ q p) (λz hz=>?_) (λJ2=>?_)
     ·obtain⟨o3,x3⟩:=z;obtain⟨j3,l3,f3⟩:=hz;dsimp only at j3 l3 f3;obtain⟨p3,hp3,_,mp3⟩:=aN (a:=a) (i:=x3) (by exact v7 l3);refine Qq (aU hq ?_);have j4:=j3.pushB hp3 hq (f3 p3 hp3);by_cases d1:ib+1=b.size
      ·refine aG (bT d1) ?_;exact Qx ⟨g4,.inl ⟨_,_,rfl,j4.doneB d1⟩⟩
      refine aF (bF d1) ?_;refine Qq (aU hp3 ?_);refine Qq (dC (a:=b) (base:=ib+1) (n:=b.size-(ib+1)) hL hk3 (ha p3 mp3) hb (by exact AM l2) (λi j p q _ h _ e1 e2=>nO sb h e1 e2) (by exact AL l2 d1) λk' k1' k2' k3'=>?_);dsimp -zeta only
      extract_lets bc2 ia2 jp3 o4 y4
      refine eT (λz:Array Keyed × Nat=>jp3 () z.1 z.2) (λz=>LJ κ a b (x+1+x'+1) z.1 x3 z.2/\z.2<b.size/\∀q,b[z.2]?=some q->le κ p3 q) (λz hz=>?_) (λJ3=>?_)
      ·obtain⟨o5,y5⟩:=z;obtain⟨j5,l5,f5⟩:=hz;dsimp only at j5 l5 f5;obtain⟨q5,hq5,_,mq5⟩:=aN (a:=b) (i:=y5) l5;refine Qq (aU hp3 ?_);have j6:=j5.pushA hp3 hq5 (f5 q5 hq5);by_cases d2:x3+1+1=a.size
       ·refine aG (bT d2) ?_;exact Qx ⟨g4,.inl ⟨_,_,rfl,j6.lastA d2⟩⟩
       refine aF (bF d2) ?_;by_cases d3:(decide (ac2<7)&&decide (bc2<7))=true
       ·refine aG d3 ?_;exact Qx ⟨g4,.inr ⟨_,_,_,_,_,_,rfl,j6.less (by omega),by omega,l5⟩⟩
       refine aF d3 ?_;exact Qx ⟨g4,_,_,_,_,_,_,rfl,j6.less (by exact xx),by omega,l5⟩
      by_cases d2:k'>0
      ·refine aG d2 ?_;have j5:LJ κ a b (x+1+x'+1) o4 x3 y4:=j4.runB hp3 (by exact AK l2 k1') λi hi p e=>i_ (k2' i hi p e);have e2:y4=ib+1+k':=rfl;by_cases d3:y4=b.size
       ·refine aG (bT d3) ?_;exact Qx ⟨g4,.inl ⟨_,_,rfl,j5.doneB d3⟩⟩
       refine aF (bF d3) ?_;exact J3 (o4,y4) ⟨j5,by dsimp only;omega,λp e=>jd (k3' k' (Qi _) (by omega) p e)⟩
      refine aF d2 ?_;have:k'=0:=by exact xw d2
      subst this;exact J3 (_,ib+1) ⟨j4,by dsimp only;exact v6 l2 d1,λp e=>jd (k3' 0 (Qi _) (by exact AJ l2 d1 k1') p e)⟩
     by_cases d1:k>0
     ·refine aG d1 ?_;have j3:LJ κ a b (x+1+x') o2 x2 ib:=j.runA hq (by exact AI l1 k1) λi hi p e=>ja (k2 i hi p e);have e2:x2=ia+k:=rfl;by_cases d2:x2+1=a.size
      ·refine aG (bT d2) ?_;exact Qx ⟨g4,.inl ⟨_,_,rfl,j3.lastA d2⟩⟩
      refine aF (bF d2) ?_;by_cases d3:x2=a.size
      ·refine aG (bT d3) ?_;exact Qx ⟨g4,.inl ⟨_,_,rfl,j3.doneA d3⟩⟩
      refine aF (bF d3) ?_;exact J2 (o2,x2) ⟨j3,by dsimp only;omega,λp e=>jc (k3 k (Qi _) (by omega) p e)⟩
     refine aF d1 ?_;have:k=0:=by exact xw d1
     subst this;exact J2 (o1,x1) ⟨j,l1,λp e=>jc (k3 0 (Qi _) (by exact AH l1 k1) p e)⟩
    by_cases d:m1>1
    ·refine aG d ?_;exact J _ trivial
    refine aF d ?_;exact J _ trivial
end
noncomputable def wI (κ:KeyKind):KeyKind where
 α:=κ.α
 blt a b:=κ.blt b a
 irrefl a:=κ.irrefl a
 trans a b c h1 h2:=κ.trans c b a h2 h1
 negTrans a b c h:=(κ.negTrans c b a h).symm
 total a b h1 h2:=(κ.total a b h2 h1)
 keyOf:=κ.keyOf
 dflt:=κ.dflt
section
variable {κ:KeyKind}
theorem qD {l:List Keyed} (h:l.Pairwise (le κ)):l.reverse.Pairwise (le (wI κ)):=List.pairwise_reverse.mpr h
theorem iD {L r:List Keyed} (h:Srt (wI κ) L r):Srt κ L r.reverse:=⟨(List.reverse_perm r).trans h.1,List.pairwise_reverse.mpr h.2⟩
variable {p q:Keyed}
theorem bU {a:Array Keyed} {i:Nat} (hi:1<=i) (h:a[i-1]?=some p):(a.toList.take i).reverse=p::(a.toList.take (i-1)).reverse:=by
 obtain⟨j,rfl⟩:∃j,i=j+1:=⟨i-1,by exact AG hi⟩;rw[Xq]at h ⊢;rw[List.take_succ,Qm,h,List.reverse_append];rfl
structure HJ (κ:KeyKind) (a b:Array Keyed) (n:Nat) (out:Array Keyed) (na nb:Nat):Prop where
 mi:MI (wI κ) (a.toList++b.toList) out.toList (b.toList.take nb).reverse (a.toList.take na).reverse
 la:na<=a.size
 lb:nb<=b.size
 lo:out.size+na+nb=a.size+b.size
 n:n<=out.size
variable {na nb n m i j:Nat} {a b:Array Keyed}
theorem HJ.less {out:Array Keyed} (h:HJ κ a b n out na nb) (hm:m<=n):HJ κ a b m out na nb:=⟨h.mi,h.la,h.lb,h.lo,QO hm h.n⟩
theorem cU (a:Array Keyed) (i:Nat):(a.extract 0 i).toList=a.toList.take i:=by simp
theorem HJ.doneA {out:Array Keyed} (h:HJ κ a b n out na nb) (e:na=0):Srt κ (a.toList++b.toList) (a.extract 0 na++b.extract 0 nb++out.reverse).toList:=by
 subst e;have:=iD (MI.endY (by simpa using h.mi));rw[QQ,QQ,cU,cU,Array.toList_reverse];simpa using this
theorem HJ.doneB {out:Array Keyed} (h:HJ κ a b n out na nb) (e:nb=0):Srt κ (a.toList++b.toList) (a.extract 0 na++b.extract 0 nb++out.reverse).toList:=by
 subst e;have:=iD (MI.endX (by simpa using h.mi));rw[QQ,QQ,cU,cU,Array.toList_reverse];simpa using this
theorem HJ.firstB {out:Array Keyed} (h:HJ κ a b n out na nb) (e:nb=1):Srt κ (a.toList++b.toList) (b.extract 0 nb++a.extract 0 na++out.reverse).toList:=by
 subst e;obtain⟨q,hq,_⟩:=aN (a:=b) (i:=0) (by have:=h.lb;exact q_ this);have m:=h.mi;have tr:=bU (a:=b) (i:=1) (Qi _) hq;rw[Nat.sub_self,List.take_zero,List.reverse_nil]at tr;rw[tr]at m;have:=iD m.lastX
 have t1:b.toList.take 1=[q]:=by
  have:=congrArg List.reverse tr;simpa using this
 rw[QQ,QQ,cU,cU,Array.toList_reverse,t1];simpa using this
theorem HJ.pushA {out:Array Keyed} (h:HJ κ a b n out na nb) (n1:1<=na) (n2:1<=nb) (ha:a[na-1]?=some p) (hb:b[nb-1]?=some q) (c:le κ q p):HJ κ a b (n+1) (out.push p) (na-1) nb:=by
 have m:=h.mi;rw[bU n1 ha,bU n2 hb]at m;have m:=m.takeY c;rw[<-bU n2 hb]at m;refine⟨by rw[Array.toList_push];exact m,by have:=h.la;exact xv n1 this,h.lb,by rw[Array.size_push];have:=h.lo;exact AF n1 this,by rw[Array.size_push];have:=h.n;exact tN this⟩
theorem HJ.pushB {out:Array Keyed} (h:HJ κ a b n out na nb) (n1:1<=na) (n2:1<=nb) (ha:a[na-1]?=some p) (hb:b[nb-1]?=some q) (c:le κ p q):HJ κ a b (n+1) (out.push q) na (nb-1):=by
 have m:=h.mi;rw[bU n1 ha,bU n2 hb]at m;have m:=m.takeX c;rw[<-bU n1 ha]at m;refine⟨by rw[Array.toList_push];exact m,h.la,by have:=h.lb;exact xv n2 this,by rw[Array.size_push];have:=h.lo;exact AE n2 this,by rw[Array.size_push];have:=h.n;exact tN this⟩
theorem jC (l:List Keyed) (h:i<=j):(l.take j).reverse=((l.take j).drop i).reverse++(l.take i).reverse:=by
 rw[<-List.reverse_append];congr 1;have:=QV i (l.take j);rw[List.take_take,Nat.min_eq_left h]at this;exact this.symm
theorem nY (a:Array Keyed) (h:i<=j):(a.extract i j).reverse.toList=((a.toList.take j).drop i).reverse:=by
 simp[List.drop_take]
theorem nL (h:p∈((a.toList.take j).drop i).reverse):∃k,i<=k/\k<j/\a[k]?=some p:=by
 rw[List.mem_reverse]at h;obtain⟨m,hm,e⟩:=Q2.mp h;rw[QU,QJ]at hm;have e3:=Qc (l:=(a.toList.take j).drop i) (i:=m) (by rw[QU,QJ];exact AD hm);rw[e,XA,List.getElem?_take,Qu (by exact xu hm),Qm]at e3;exact⟨i+m,by exact ra,by exact xu hm,e3⟩
theorem HJ.runA {out:Array Keyed} {k:Nat} (h:HJ κ a b n out na nb) (n2:1<=nb) (hb:b[nb-1]?=some q) (hk:k<=na) (c:∀i,k<=i->i<na->∀p,a[i]?=some p->le κ q p):HJ κ a b n (out++(a.extract k na).reverse) k nb:=by
 have m:=h.mi;have sx:=m.sx;rw[jC _ hk]at m
 have m:=m.takeYs λp hp r hr=>by
  obtain⟨i,h1,h2,e⟩:=nL hp;rw[bU n2 hb]at hr sx;exact dG sx (c i h1 h2 p e) hr
 have sz:(a.extract k na).reverse.size=na-k:=by rw[Array.size_reverse,Array.size_extract];have:=h.la;exact xt hk this
 refine⟨by rw[QQ,nY _ hk];exact m,by have:=h.la;exact xr hk this,h.lb,by rw[XS,sz];have:=h.lo;omega,by rw[XS];have:=h.n;exact xq sz this⟩
theorem HJ.runB {out:Array Keyed} {k:Nat} (h:HJ κ a b n out na nb) (n1:1<=na) (ha:a[na-1]?=some p) (hk:k<=nb) (c:∀i,k<=i->i<nb->∀q,b[i]?=some q->le κ p q):HJ κ a b n (out++(b.extract k nb).reverse) na k:=by
 have m:=h.mi;have sy:=m.sy;rw[jC _ hk]at m
 have m:=m.takeXs λq hq r hr=>by
  obtain⟨i,h1,h2,e⟩:=nL hq;rw[bU n1 ha]at hr sy;exact dG sy (c i h1 h2 q e) hr
 have sz:(b.extract k nb).reverse.size=nb-k:=by rw[Array.size_reverse,Array.size_extract];have:=h.lb;exact xt hk this
 refine⟨by rw[QQ,nY _ hk];exact m,h.la,by have:=h.lb;exact xr hk this,by rw[XS,sz];have:=h.lo;omega,by rw[XS];have:=h.n;exact xq sz this⟩
end
section
@[reducible] def BC (κ:KeyKind) (a b:Array Keyed) (st:SortSt) (x:Nat) (c:Option (Array Keyed) × Nat × Nat × Array Keyed × Nat) (st':SortSt):Prop:=Gs st st'/\∃na nb out mg,c=(none,na,nb,out,mg)/\HJ κ a b (x+1) out na nb/\1<=na/\2<=nb
@[reducible] def BB (κ:KeyKind) (a b:Array Keyed) (st:SortSt)  (c:Option (Array Keyed) × Nat × Nat × Array Keyed × Nat) (st':SortSt):Prop:=Gs st st'/\∃r rest,c=(some r,rest)/\Srt κ (a.toList++b.toList) r.toList
@[reducible] def BA (κ:KeyKind) (a b:Array Keyed) (st:SortSt) (x x':Nat) (c:Option (Array Keyed) × Nat × Nat × Array Keyed × Nat × Nat) (st':SortSt):Prop:=st'=st/\∃na nb out ac bc,c=(none,na,nb,out,ac,bc)/\HJ κ a b (x+1+x') out na nb/\1<=na/\2<=nb
@[reducible] def Bz (κ:KeyKind) (a b:Array Keyed) (st:SortSt) (x:Nat) (c:Option (Array Keyed) × Nat × Nat × Array Keyed × Nat × Nat) (st':SortSt):Prop:=st'=st/\((∃r rest,c=(some r,rest)/\Srt κ (a.toList++b.toList) r.toList)\/∃na nb out ac bc,c=(none,na,nb,out,ac,bc)/\HJ κ a b (x+1) out na nb/\1<=na/\2<=nb)
@[reducible] def By (κ:KeyKind) (a b:Array Keyed) (st:SortSt) (x x':Nat) (c:Option (Array Keyed) × Nat × Nat × Array Keyed × Nat × Nat × Nat) (st':SortSt):Prop:=Gs st st'/\∃na nb out mg ac bc,c=(none,na,nb,out,mg,ac,bc)/\HJ κ a b (x+1+x') out na nb/\1<=na/\2<=nb
@[reducible] def Bx (κ:KeyKind) (a b:Array Keyed) (st:SortSt) (x:Nat) (c:Option (Array Keyed) × Nat × Nat × Array Keyed × Nat × Nat × Nat) (st':SortSt):Prop:=Gs st st'/\((∃r rest,c=(some r,rest)/\Srt κ (a.toList++b.toList) r.toList)\/∃na nb out mg ac bc,c=(none,na,nb,out,mg,ac,bc)/\HJ κ a b (x+2) out na nb/\1<=na/\2<=nb)
theorem jw (hL:fL κ kd prog w A s) {st:SortSt} {a b:Array Keyed} {Q:Array Keyed->SortSt->Prop} (hk:kindOf st=kd) (ha:∀p∈a.toList,Hk κ p) (hb:∀p∈b.toList,Hk κ p)
  (na:1<=a.size) (nb:1<=b.size) (sa:a.toList.Pairwise (le κ)) (sb:b.toList.Pairwise (le κ)) (first:∀p∈a.toList,∀q,b[0]?=some q->le κ q p) (last:∀q∈b.toList,∀p,a[a.size-1]?=some p->le κ q p)
  (h:∀r st',Gs st st'->Srt κ (a.toList++b.toList) r.toList->Q r st'):wpS (model prog w) A E s (kH a b) Q st:=by
 unfold kH;refine Qq (wpS_lift (wpAny_rule ⟨rfl,?_⟩));obtain⟨q0,hq0,_,mq0⟩:=aN (a:=b) (i:=b.size-1) (by exact oW nb);obtain⟨qf,hqf,_,mqf⟩:=aN (a:=b) (i:=0) (by exact q_ nb);obtain⟨p0,hp0,_,mp0⟩:=aN (a:=a) (i:=a.size-1) (by exact oW na)
 have j0:HJ κ a b 0 #[] a.size b.size:=by
  have e1:a.toList.take a.size=a.toList:=Q0 (by simp);have e2:b.toList.take b.size=b.toList:=Q0 (by simp);refine⟨⟨?_,List.Pairwise.nil,by rw[e2];exact qD sb,by rw[e1];exact qD sa,λp hp=>(nomatch hp),λp hp=>(nomatch hp),λq hq l hl=>?_⟩,Qi _,Qi _,by simp,QR _⟩
  ·rw[e1,e2];show ([]++(b.toList.reverse++a.toList.reverse)).Perm _;rw[List.nil_append,<-List.reverse_append];exact List.reverse_perm _
  rw[e1,List.mem_reverse]at hq;rw[e2,List.getLast?_reverse]at hl;refine first q hq l ?_;rw[<-Qm,<-List.head?_eq_getElem?];exact hl
 have j1:=j0.pushA na nb hp0 hq0 (last q0 mq0 p0 hp0);have j1:HJ κ a b 1 #[p0] (a.size-1) b.size:=j1
 extract_lets tot dn fb na0 nb0 z0
 refine Qq (aU hp0 ?_);refine wpS_mono (Q:=λr st'=>Gs st st'/\Srt κ (a.toList++b.toList) r.toList) ?_ (λr st' z=>h r st' z.1 z.2);clear h
 extract_lets out0
 by_cases c1:na0=0
 ·refine aG (bT c1) ?_;exact Qx ⟨.refl _,j1.doneA c1⟩
 refine aF (bF c1) ?_;by_cases c2:b.size=1
 ·refine aG (bT c2) ?_;exact Qx ⟨.refl _,j1.firstB c2⟩
 refine aF (bF c2) ?_;refine Qq (wpS_get ?_)
 extract_lets mg0
 have e0:na0=a.size-1:=rfl
 refine Qq (wpS_mono (Xr (I:=BC κ a b st)
  (Q:=BB κ a b st) ?step ?fin ⟨.refl _,na0,nb0,out0,mg0,rfl,j1,by exact AC na nb c1 c2,by omega⟩) ?post)
 case post =>
  rintro c st' ⟨g,r,rest,rfl,hr⟩;exact Qx ⟨g,hr⟩
 case fin =>
  rintro c st' ⟨g,na,nb,out,mg,rfl,j,l1,l2⟩;have:=j.n;have:=j.lo;omega
 case step =>
  rintro x c st1 _ hx ⟨g,na,nb,out,mg,rfl,j,l1,l2⟩
  refine Qq (wpS_mono (Xr (I:=BA κ a b st1 x)
   (Q:=Bz κ a b st1 x) ?step1 ?fin1 ⟨rfl,na,nb,out,0,0,rfl,j,l1,l2⟩) ?post1)
  case fin1 =>
   rintro c st' ⟨rfl,na,nb,out,ac,bc,rfl,j,l1,l2⟩;have:=j.n;have:=j.lo;omega
  case step1 =>
   clear j l1 l2;rintro x' c st' _ hx' ⟨rfl,na,nb,out,ac,bc,rfl,j,l1,l2⟩;have la:=j.la;have lb:=j.lb;obtain⟨p,hp,_,mp⟩:=aN (a:=a) (i:=na-1) (by exact v4 l1 la);obtain⟨q,hq,_,mq⟩:=aN (a:=b) (i:=nb-1) (by exact v3 l2 lb);refine Qq (aU hq (Qq (aU hp (Qq (fY hL (by rw[g.kind];exact hk) (hb q mq) (ha p mp) ?_)))));dsimp -zeta only
   cases e:κ.blt (kv κ q) (kv κ p) with
   | true =>
    refine aG rfl ?_;refine Qq (aU hp ?_);have j2:=j.pushA l1 (by exact qZ l2) hp hq (KeyOrd.kle_of_klt e);by_cases d1:na-1=0
    ·refine aG (bT d1) ?_;exact Qx ⟨rfl,.inl ⟨_,_,rfl,j2.doneA d1⟩⟩
    refine aF (bF d1) ?_;by_cases d2:ac+1>=mg
    ·refine aG d2 ?_;exact Qx ⟨rfl,.inr ⟨_,_,_,_,_,rfl,j2.less (by omega),by exact xg l1 d1,l2⟩⟩
    refine aF d2 ?_;exact Qx ⟨rfl,_,_,_,_,_,rfl,j2.less (by exact tL),by exact xg l1 d1,l2⟩
   | false =>
   refine aF Qh ?_;refine Qq (aU hq ?_);have j2:=j.pushB l1 (by exact qZ l2) hp hq e;by_cases d1:nb-1=1
   ·refine aG (bT d1) ?_;exact Qx ⟨rfl,.inl ⟨_,_,rfl,j2.firstB d1⟩⟩
   refine aF (bF d1) ?_;by_cases d2:bc+1>=mg
   ·refine aG d2 ?_;exact Qx ⟨rfl,.inr ⟨_,_,_,_,_,rfl,j2.less (by omega),l1,by exact xf l2 d1⟩⟩
   refine aF d2 ?_;exact Qx ⟨rfl,_,_,_,_,_,rfl,j2.less (by exact tL),l1,by exact xf l2 d1⟩
  case post1 =>
   clear j l1 l2;rintro c st' ⟨rfl,⟨r,rest,rfl,hr⟩|⟨na,nb,out,ac,bc,rfl,j,l1,l2⟩⟩
   ·exact Qx ⟨g,r,_,rfl,hr⟩
   refine Qq (wpS_lift (wpAny_rule ⟨rfl,?_⟩))
   refine Qq (wpS_mono (Xr (I:=By κ a b st x)
    (Q:=Bx κ a b st x) ?step2 ?fin2 ⟨g,na,nb,out,_,ac,bc,rfl,j,l1,l2⟩) ?post2)
   case fin2 =>
    rintro c st' ⟨g,na,nb,out,mg,ac,bc,rfl,j,l1,l2⟩;have:=j.n;have:=j.lo;omega
   case post2 =>
    rintro c st' ⟨g,⟨r,rest,rfl,hr⟩|⟨na,nb,out,mg,ac,bc,rfl,j,l1,l2⟩⟩
    ·exact Qx ⟨g,r,_,rfl,hr⟩
    refine Qq (cX λst2 g2=>?_);exact Qx ⟨g.trans g2,_,_,_,_,rfl,j,l1,l2⟩
   case step2 =>
    clear j l1 l2 g;rintro x' c st2 _ hx' ⟨g,na,nb,out,mg,ac,bc,rfl,j,l1,l2⟩;have la:=j.la;have lb:=j.lb;obtain⟨p,hp,_,mp⟩:=aN (a:=a) (i:=na-1) (by exact v4 l1 la);obtain⟨q,hq,_,mq⟩:=aN (a:=b) (i:=nb-1) (by exact v3 l2 lb)
    extract_lets s1 x1 s2 y1 s3 o1 s4 m1 s5 ac1 bc1 nb2 jp mgm
    refine eT (λm=>jp () m) (λ_=>True) (λm _=>?_) (λJ=>?_)
    ·refine Qq (cX λst3 g3=>?_);have g4:=g.trans g3;have hk3:kindOf st3=kd:=by rw[g4.kind];exact hk
     refine Qq (aU hq ?_);refine Qq (dC (a:=a) (base:=0) (n:=na) (hint:=na-1) hL hk3 (hb q mq) ha (by exact AB la) (λi j p q _ h _ e1 e2=>nO sa h e1 e2) (by exact oW l1) λk k1 k2 k3=>?_);simp only[Nat.zero_add]at k2 k3;dsimp -zeta only
     extract_lets kk ac2 jp2 o2 x2
     refine eT (λz:Nat × Array Keyed=>jp2 () z.1 z.2) (λz=>HJ κ a b (x+1+x') z.2 z.1 nb/\1<=z.1/\∀p,a[z.1-1]?=some p->le κ p q) (λz hz=>?_) (λJ2=>?_)
     ·obtain⟨x3,o3⟩:=z;obtain⟨j3,l3,f3⟩:=hz;dsimp only at j3 l3 f3;have la3:=j3.la;obtain⟨p3,hp3,_,mp3⟩:=aN (a:=a) (i:=x3-1) (by exact v4 l3 la3);refine Qq (aU hq ?_);have j4:=j3.pushB l3 (by exact qZ l2) hp3 hq (f3 p3 hp3);by_cases d1:nb-1=1
      ·refine aG (bT d1) ?_;exact Qx ⟨g4,.inl ⟨_,_,rfl,j4.firstB d1⟩⟩
      refine aF (bF d1) ?_;refine Qq (aU hp3 ?_);refine Qq (dC (a:=b) (base:=0) (n:=nb-1) (hint:=nb-1-1) hL hk3 (ha p3 mp3) hb (by exact AA l2 lb) (λi j p q _ h _ e1 e2=>nO sb h e1 e2) (by exact Az l2) λk' k1' k2' k3'=>?_);simp only[Nat.zero_add]at k2' k3';dsimp -zeta only
      extract_lets kk' bc2 na4 jp3 o4 y4
      refine eT (λz:Nat × Array Keyed=>jp3 () z.1 z.2) (λz=>HJ κ a b (x+1+x'+1) z.2 x3 z.1/\2<=z.1/\∀q,b[z.1-1]?=some q->le κ q p3) (λz hz=>?_) (λJ3=>?_)
      ·obtain⟨y5,o5⟩:=z;obtain⟨j5,l5,f5⟩:=hz;dsimp only at j5 l5 f5;have lb5:=j5.lb;obtain⟨q5,hq5,_,mq5⟩:=aN (a:=b) (i:=y5-1) (by exact v3 l5 lb5);refine Qq (aU hp3 ?_);have j6:=j5.pushA l3 (by exact qZ l5) hp3 hq5 (f5 q5 hq5);by_cases d2:x3-1=0
       ·refine aG (bT d2) ?_;exact Qx ⟨g4,.inl ⟨_,_,rfl,j6.doneA d2⟩⟩
       refine aF (bF d2) ?_;by_cases d3:(decide (ac2<7)&&decide (bc2<7))=true
       ·refine aG d3 ?_;exact Qx ⟨g4,.inr ⟨_,_,_,_,_,_,rfl,j6.less (by omega),by omega,l5⟩⟩
       refine aF d3 ?_;exact Qx ⟨g4,_,_,_,_,_,_,rfl,j6.less (by exact xx),by omega,l5⟩
      have ek':kk'=nb-1-k':=rfl;by_cases d2:kk'>0
      ·refine aG d2 ?_;have j5:HJ κ a b (x+1+x'+1) o4 x3 y4:=j4.runB l3 hp3 (by exact Ay k1') λi h1 h2 p e=>jd (k3' i h1 h2 p e);have e2:y4=k':=rfl;by_cases d3:y4=1
       ·refine aG (bT d3) ?_;exact Qx ⟨g4,.inl ⟨_,_,rfl,j5.firstB d3⟩⟩
       refine aF (bF d3) ?_;by_cases d4:y4=0
       ·refine aG (bT d4) ?_;exact Qx ⟨g4,.inl ⟨_,_,rfl,j5.doneB d4⟩⟩
       refine aF (bF d4) ?_;exact J3 (y4,o4) ⟨j5,by dsimp only;exact Ax d3 d4,λq e=>i_ (k2' (y4-1) (by omega) q e)⟩
      refine aF d2 ?_;exact J3 (nb-1,_) ⟨j4,xi l2 d1,λq e=>i_ (k2' (nb-1-1) (by exact Aw l2 ek' d2) q e)⟩
     have ek:kk=na-k:=rfl;by_cases d1:kk>0
     ·refine aG d1 ?_;have j3:HJ κ a b (x+1+x') o2 x2 nb:=j.runA (by exact qZ l2) hq (by exact v0 k1) λi h1 h2 p e=>jc (k3 i h1 h2 p e);have e2:x2=k:=rfl;by_cases d2:x2=0
      ·refine aG (bT d2) ?_;exact Qx ⟨g4,.inl ⟨_,_,rfl,j3.doneA d2⟩⟩
      refine aF (bF d2) ?_;exact J2 (x2,o2) ⟨j3,by dsimp only;exact zQ d2,λp e=>ja (k2 (x2-1) (by omega) p e)⟩
     refine aF d1 ?_;exact J2 (na,out) ⟨j,l1,λp e=>ja (k2 (na-1) (by exact zP l1 ek d1) p e)⟩
    by_cases d:m1>1
    ·refine aG d ?_;exact J _ trivial
    refine aF d ?_;exact J _ trivial
end
section
structure Sg (lo:Nat) (st st':SortSt):Prop where
 kind:kindOf st'=kindOf st
 pend:pendingOf st'=pendingOf st
 fail:failedOf st'=failedOf st
 head:∀i,i<lo->(arrOf st')[i]?=(arrOf st)[i]?
 perm:(arrOf st').Perm (arrOf st)
theorem Sg.refl (lo:Nat) (st:SortSt):Sg lo st st:=⟨rfl,rfl,rfl,λ_ _=>rfl,Array.Perm.refl _⟩
variable {a b c st:SortSt} {lo i n nrem:Nat}
theorem Sg.trans (x:Sg lo a b) (y:Sg lo b c):Sg lo a c:=⟨y.kind.trans x.kind,y.pend.trans x.pend,y.fail.trans x.fail,λi h=>(y.head i h).trans (x.head i h),y.perm.trans x.perm⟩
theorem Sg.size (x:Sg lo a b):(arrOf b).size=(arrOf a).size:=x.perm.size_eq
theorem Sg.keys (x:Sg lo a b) (h:∀p∈(arrOf a).toList,Hk κ p):∀p∈(arrOf b).toList,Hk κ p:=λp hp=>h p ((Array.perm_iff_toList_perm.mp x.perm).mem_iff.mp hp)
variable {xs:Array Keyed}
theorem rM {p:Keyed} (h:xs[i]?=some p):KK κ xs i=kv κ p:=by unfold KK kv;rw[h]
theorem dB (hL:fL κ kd prog w A s) {i j:Nat} {Q:Option Bool->SortSt->Prop} (hk:kindOf st=kd) (ha:∀p∈(arrOf st).toList,Hk κ p) (hi:i<(arrOf st).size) (hj:j<(arrOf st).size)
  (h:Q (some (κ.blt (KK κ (arrOf st) i) (KK κ (arrOf st) j))) st):wpS (model prog w) A E s (ltAt' i j) Q st:=by
 obtain⟨p,hp,_,mp⟩:=aN hi;obtain⟨q,hq,_,mq⟩:=aN hj;rw[rM hp,rM hq]at h;rw[ltAt'_eq];exact Qq (wpS_get (Qq (aU hp (Qq (aU hq (fY hL hk (ha p mp) (ha q mq) h))))))
def Up (κ:KeyKind) (xs:Array Keyed) (lo n:Nat):Prop:=∀i j,i<=j->j<n->κ.kle (KK κ xs (lo+i)) (KK κ xs (lo+j))
def jt (κ:KeyKind) (xs:Array Keyed) (lo n:Nat):Prop:=∀i j,i<=j->j<n->κ.kle (KK κ xs (lo+j)) (KK κ xs (lo+i))
theorem Up.one:Up κ xs lo 1:=λi j h1 h2=>by
 have:i=j:=by exact zO h1 h2
 subst this;exact XV _
theorem Up.more (h:Up κ xs lo n) (h1:1<=n) (c:κ.kle (KK κ xs (lo+(n-1))) (KK κ xs (lo+n))):Up κ xs lo (n+1):=λi j hij hj=>by
 by_cases e:j<n
 ·exact h i j hij e
 have:j=n:=by exact uY hj e
 subst this;by_cases e2:i=j
 ·subst e2;exact XV _
 exact KeyOrd.kle_trans (h i (j-1) (by exact uX hij h1 e2) (by exact oW h1)) c
theorem jt.more (h:jt κ xs lo n) (h1:1<=n) (c:κ.kle (KK κ xs (lo+n)) (KK κ xs (lo+(n-1)))):jt κ xs lo (n+1):=λi j hij hj=>by
 by_cases e:j<n
 ·exact h i j hij e
 have:j=n:=by exact uY hj e
 subst this;by_cases e2:i=j
 ·subst e2;exact XV _
 exact KeyOrd.kle_trans c (h i (j-1) (by exact uX hij h1 e2) (by exact oW h1))
theorem mO {lo a:Nat} {f:Nat->Option (Option Nat) × Nat->StateT SortSt Sem (ForInStep (Option (Option Nat) × Nat))} {Q:Option (Option Nat) × Nat->SortSt->Prop} (h1:1<=a) (h2:a<=nrem) (up:Up κ (arrOf st) lo a)
  (hf:∀x n (R:ForInStep (Option (Option Nat) × Nat)->SortSt->Prop),1<=n->n<nrem->(κ.klt (KK κ (arrOf st) (lo+n)) (KK κ (arrOf st) (lo+(n-1)))->R (.done (none,n)) st)->(κ.kle (KK κ (arrOf st) (lo+(n-1))) (KK κ (arrOf st) (lo+n))->R (.yield (none,n+1)) st)->wpS (model prog w) A E s (f x (none,n)) R st)
  (h:∀n,a<=n->n<=nrem->Up κ (arrOf st) lo n->(n=nrem\/κ.klt (KK κ (arrOf st) (lo+n)) (KK κ (arrOf st) (lo+(n-1))))->Q (none,n) st):wpS (model prog w) A E s (forIn [a:nrem] (none,a) f) Q st:=by
 refine Xr (I:=λx c st'=>st'=st/\c=(none,x)/\Up κ (arrOf st) lo x) ?_ ?_ ⟨rfl,rfl,up⟩
 ·rintro x c st' hax hx ⟨rfl,rfl,u⟩;exact hf x x _ (by exact uW h1 hax) hx (λe=>h x hax (by exact rc hx) u (.inr e)) λe=>⟨rfl,rfl,u.more (by exact uW h1 hax) e⟩
 rintro c st' ⟨rfl,rfl,u⟩;rw[show max a nrem=nrem by exact zN h2]at u ⊢;exact h nrem h2 (Qi _) u (.inl rfl)
theorem fM {lo i j:Nat} {Q:Unit->SortSt->Prop} (hi:lo<=i) (hj:j<=(arrOf st).size) (h:∀st',Sg lo st st'->(∀k,KK κ (arrOf st') k=if i<=k/\k<j then KK κ (arrOf st) (i+j-1-k) else KK κ (arrOf st) k)->Q () st'):wpS (model prog w) A E s (reverseSlice' i j) Q st:=by
 rw[reverseSlice'_eq];refine wpS_modify (h _ ⟨rfl,rfl,rfl,λk hk=>?_,mirror_perm _ _ _ _⟩ λk=>KK_mirror hj k);show (mirror (arrOf st) i j ((j-i) / 2))[k]?=_;rw[getElem?_mirror_all hj,Qt (by exact zM hi hk)]
theorem eh {U α β:Type} {M:Model} {Q:α->U->Prop} {st:U} {m:StateT U Sem α} (f:β->StateT U Sem α) (I:β->U->Prop) (J:∀z st',I z st'->wpS M A E s (f z) Q st') (h:(∀z st',I z st'->wpS M A E s (f z) Q st')->wpS M A E s m Q st):wpS M A E s m Q st:=h J
def ii:Nat->Nat->StateT SortSt Sem (Option Nat):=sortPriv% PySem.Builtin.countRun
theorem oA (hL:fL κ kd prog w A s) {lo nrem:Nat} {Q:Option Nat->SortSt->Prop} (hk:kindOf st=kd) (ha:∀p∈(arrOf st).toList,Hk κ p) (h1:1<=nrem) (hn:lo+nrem<=(arrOf st).size)
  (h:∀m st',Sg lo st st'->1<=m->m<=nrem->Up κ (arrOf st') lo m->Q (some m) st'):wpS (model prog w) A E s (ii lo nrem) Q st:=by
 unfold ii;refine Qq (mO (κ:=κ) (lo:=lo) (Qi 1) h1 Up.one (λx n R a1 a2 r1 r2=>?_) λn a1 a2 up stop=>?_)
 ·extract_lets
  refine Qq (dB hL hk ha (by omega) (by omega) ?_);rw[show lo+n-1=lo+(n-1) by exact uV a1];dsimp -zeta only
  cases e:κ.blt (KK κ (arrOf st) (lo+n)) (KK κ (arrOf st) (lo+(n-1))) with
  | true=>refine aG rfl ?_;exact Qx (r1 e)
  | false=>refine aF Qh ?_;exact Qx (r2 e)
 show wpS _ _ _ _ (if (n==nrem)=true then pure (some n) else _) _ _;by_cases hnn:n=nrem
 ·refine aG (bT hnn) ?_;exact Qx (h n st (.refl _ _) a1 a2 up)
 refine aF (bF hnn) ?_;have lt0:=stop.resolve_left hnn
 extract_lets jn jq jp
 refine eh (λ_:Unit=>jp ()) (λ_ st'=>Sg lo st st'/\jt κ (arrOf st') lo (n+1)) (λ_ st1 hz=>?_) (λJ=>?_)
 ·obtain⟨g1,dn⟩:=hz;refine Qq (wpS_lift (wpAny_rule ⟨rfl,?_⟩))
  refine Qq (wpS_mono (Xr (I:=λx c st'=>∃neq,c=(none,x,neq)/\Sg lo st st'/\jt κ (arrOf st') lo x/\neq+1<=x/\∀i,x-(neq+1)<=i->i<x->KK κ (arrOf st') (lo+i)=KK κ (arrOf st') (lo+(x-1)))
   (Q:=λc st'=>∃x neq,c=(none,x,neq)/\Sg lo st st'/\x<=nrem/\jt κ (arrOf st') lo x/\neq+1<=x/\∀i,x-(neq+1)<=i->i<x->KK κ (arrOf st') (lo+i)=KK κ (arrOf st') (lo+(x-1))) ?step ?fin ⟨0,rfl,g1,dn,by omega,λi i1 i2=>by rw[show i=n+1-1 by omega]⟩) ?post)
  case fin =>
   rintro c st' ⟨neq,rfl,b1,b2,b3,b4⟩;rw[show max (n+1) nrem=nrem by exact zK a2 hnn]at b2 b3 b4 ⊢;exact⟨nrem,neq,rfl,b1,Qi _,b2,b3,b4⟩
  case step =>
   rintro x c st' hax hx ⟨neq,rfl,b1,b2,b3,b4⟩;have sz:=b1.size;have hk':kindOf st'=kd:=b1.kind.trans hk;have ha':=b1.keys ha;refine Qq (dB (i:=lo+x) (j:=lo+x-1) hL hk' ha' (by exact nG hn hx sz) (by omega) ?_);rw[show lo+x-1=lo+(x-1) by exact zJ b3];dsimp -zeta only
   extract_lets
   cases e:κ.blt (KK κ (arrOf st') (lo+x)) (KK κ (arrOf st') (lo+(x-1))) with
   | true =>
    refine aG rfl ?_;have d1:=b2.more (by exact rb b3) (KeyOrd.kle_of_klt e);by_cases c:neq>0
    ·refine aG c ?_;refine Qq (fM (κ:=κ) (lo:=lo) (by exact uU b3) (by exact zI hn hx sz) λst2 g2 kk=>?_)
     have kk:∀i,KK κ (arrOf st2) (lo+i)=KK κ (arrOf st') (lo+i):=λi=>by
      rw[kk]
      split
      ·rename_i q
       obtain⟨e1,e2,e3,e4,e5⟩:=uK b3 q;rw[e1,b4 _ e2 e3,b4 i e4 e5]
      rfl
     exact Qx ⟨0,rfl,b1.trans g2,λi j h1 h2=>by rw[kk,kk];exact d1 i j h1 h2,by exact uT,λi i1 i2=>by rw[show i=x+1-1 by exact zH i1 i2]⟩
    refine aF c ?_;exact Qx ⟨0,rfl,b1,d1,by exact uT,λi i1 i2=>by rw[show i=x+1-1 by omega]⟩
   | false =>
   refine aF Qh ?_;refine Qq (dB (i:=lo+(x-1)) (j:=lo+x) hL hk' ha' (by omega) (by exact nG hn hx sz) ?_);dsimp -zeta only
   cases e2:κ.blt (KK κ (arrOf st') (lo+(x-1))) (KK κ (arrOf st') (lo+x)) with
   | true =>
    refine aG rfl ?_;exact Qx ⟨x,neq,rfl,b1,by exact rc hx,b2,b3,b4⟩
   | false =>
   refine aF Qh ?_;have eq:KK κ (arrOf st') (lo+x)=KK κ (arrOf st') (lo+(x-1)):=KeyOrd.kle_antisymm e2 e;refine Qx ⟨neq+1,rfl,b1,b2.more (by exact rb b3) (by rw[eq];exact XV _),by exact zF b3,λi i1 i2=>?_⟩;rw[show x+1-1=x by exact zE];by_cases ix:i=x
   ·rw[ix]
   rw[b4 i (by omega) (by exact zD i2 ix),eq]
  case post =>
   rintro c st2 ⟨x,neq,rfl,b1,b2,b3,b4,b5⟩
   extract_lets r2 s2 n2 q2 jp2
   have sz:=b1.size;refine eh (λ_:Unit=>jp2 ()) (λ_ st'=>Sg lo st st'/\jt κ (arrOf st') lo x) (λ_ st3 hz=>?_) (λJ2=>?_)
   ·obtain⟨g3,dn3⟩:=hz;have sz3:=g3.size;refine Qq (fM (κ:=κ) (lo:=lo) (Qi _) (show lo+x<=_ by exact zC hn b2 sz sz3) λst4 g4 kk=>?_);have g5:=g3.trans g4;have sz5:=g5.size;refine Qq (mO (κ:=κ) (lo:=lo) (show 1<=x by exact rb b4) b2 (λi j h1 h2=>?_) (λy n R a1 a2 r1 r2=>?_) λn a1 a2 up stop=>?_)
    ·have h2:j<x:=h2;rw[kk,kk,Qu (by exact zB h1 h2),Qu (by exact zw h2),show lo+(lo+x)-1-(lo+i)=lo+(x-1-i) by exact qY (XX h1 h2),show lo+(lo+x)-1-(lo+j)=lo+(x-1-j) by exact qY h2];exact dn3 _ _ (by exact zv h1 h2) (by exact zu h1 h2)
    ·refine Qq (dB hL (g5.kind.trans hk) (g5.keys ha) (by omega) (by omega) ?_);rw[show lo+n-1=lo+(n-1) by exact uV a1];dsimp -zeta only
     cases e:κ.blt (KK κ (arrOf st4) (lo+n)) (KK κ (arrOf st4) (lo+(n-1))) with
     | true=>refine aG rfl ?_;exact Qx (r1 e)
     | false=>refine aF Qh ?_;exact Qx (r2 e)
    have a1:x<=n:=a1;exact Qx (h n st4 g5 (by exact zt b4 a1) a2 up)
   by_cases c:neq>0
   ·show wpS _ _ _ _ (if neq>0 then _ else _) _ _;refine aG c ?_;refine Qq (fM (κ:=κ) (lo:=lo) (i:=lo+x-(neq+1)) (j:=lo+x) (show lo<=lo+x-(neq+1) by exact uU b4) (show lo+x<=_ by exact zq hn b2 sz) λst3 g3 kk=>?_)
    have kk:∀i,KK κ (arrOf st3) (lo+i)=KK κ (arrOf st2) (lo+i):=λi=>by
     rw[kk]
     split
     ·rename_i q
      obtain⟨e1,e2,e3,e4,e5⟩:=uK b4 q;rw[e1,b5 _ e2 e3,b5 i e4 e5]
     rfl
    exact J2 () st3 ⟨b1.trans g3,λi j h1 h2=>by rw[kk,kk];exact b3 i j h1 h2⟩
   show wpS _ _ _ _ (if neq>0 then _ else _) _ _;refine aF c ?_;exact J2 () st2 ⟨b1,b3⟩
 by_cases c:n>1
 ·refine aG c ?_;refine Qq (dB hL hk ha (by exact zo h1 hn) (by omega) ?_);rw[show lo+n-1=lo+(n-1) by exact zn c];dsimp -zeta only
  cases e:κ.blt (KK κ (arrOf st) lo) (KK κ (arrOf st) (lo+(n-1))) with
  | true =>
   refine aG rfl ?_;exact Qx (h n st (.refl _ _) a1 a2 up)
  | false =>
  refine aF Qh ?_
  have all:∀i,i<n->KK κ (arrOf st) (lo+i)=KK κ (arrOf st) (lo+(n-1)):=λi hi =>
   KeyOrd.kle_antisymm (up i (n-1) (by exact zm c hi) (by exact zk c)) (KeyOrd.kle_trans e (by have:=up 0 i (by exact v8) hi;rwa [Nat.add_zero]at this))
  refine Qq (fM (κ:=κ) (lo:=lo) (Qi _) (show lo+n<=_ by exact zj hn a2) λst3 g3 kk=>?_)
  have kk:∀i,KK κ (arrOf st3) (lo+i)=KK κ (arrOf st) (lo+i):=λi=>by
   rw[kk]
   split
   ·rename_i q
    have l:=Nat.lt_of_add_lt_add_left q.2;rw[qY l,all _ (XX (Nat.sub_le _ _) (Nat.sub_lt (XX (QR _) l) Nat.zero_lt_one)),all i l]
   rfl
  refine J () st3 ⟨g3,jt.more (λi j h1 h2=>?_) a1 ?_⟩
  ·rw[kk,kk,all i (by exact zi h1 h2),all j h2];exact XV _
  rw[kk,kk];exact KeyOrd.kle_of_klt lt0
 refine aF c ?_;refine J () st ⟨.refl _ _,jt.more (λi j h1 h2=>?_) a1 (KeyOrd.kle_of_klt lt0)⟩;have:i=j:=by exact zh a1 c h1 h2
 subst this;exact XV _
end
section
def Ak:Nat->Nat->Nat->StateT SortSt Sem Bool:=sortPriv% PySem.Builtin.binarySort
theorem sR (hL:fL κ kd prog w A s) {st:SortSt} {lo n ok:Nat} {Q:Bool->SortSt->Prop} (hk:kindOf st=kd) (ha:∀p∈(arrOf st).toList,Hk κ p) (h1:ok<=n) (hn:lo+n<=(arrOf st).size) (up:Up κ (arrOf st) lo ok)
  (h:∀st',Sg lo st st'->Up κ (arrOf st') lo n->Q true st'):wpS (model prog w) A E s (Ak lo n ok) Q st:=by
 unfold Ak;refine Qq (wpS_mono (Xr (I:=λk c st'=>c=(none,())/\Sg lo st st'/\Up κ (arrOf st') lo (min k n)) (Q:=λc st'=>c=(none,())/\Sg lo st st'/\Up κ (arrOf st') lo n) ?step ?fin ?init) ?post)
 case post =>
  rintro c st' ⟨rfl,g,u⟩;exact Qx (h st' g u)
 case init =>
  refine⟨rfl,.refl _ _,λi j hij hj=>?_⟩;by_cases e:ok=0
  ·have:i=j:=by exact zg hij hj e
   subst this;exact XV _
  exact up i j hij (by exact ze h1 hj e)
 case fin =>
  rintro c st' ⟨rfl,g,u⟩;rw[show min (max (max ok 1) n) n=n by exact zd]at u;exact⟨rfl,g,u⟩
 case step =>
  rintro k c st' k1 k2 ⟨rfl,g,u⟩;rw[show min k n=k by exact zb k2]at u;have sz:=g.size
  refine Qq (wpS_mono (Xr (I:=λx c st2=>st2=st'/\∃l r,c=(none,l,r)/\l<=r/\r<=k/\r-l<=k-x/\(∀i,i<l->κ.kle (KK κ (arrOf st') (lo+i)) (KK κ (arrOf st') (lo+k)))/\(∀i,r<=i->i<k->κ.kle (KK κ (arrOf st') (lo+k)) (KK κ (arrOf st') (lo+i))))
   (Q:=λc st2=>st2=st'/\∃l,c=(none,l,l)/\l<=k/\(∀i,i<l->κ.kle (KK κ (arrOf st') (lo+i)) (KK κ (arrOf st') (lo+k)))/\(∀i,l<=i->i<k->κ.kle (KK κ (arrOf st') (lo+k)) (KK κ (arrOf st') (lo+i)))) ?istep ?ifin ⟨rfl,0,k,rfl,by exact v8,by exact za,by exact y_,λi hi=>by omega,λi a b=>by omega⟩) ?ipost)
  case ifin =>
   rintro c st2 ⟨rfl,l,r,rfl,a1,a2,a3,a4,a5⟩;have:l=r:=by exact xJ a1 a3
   subst this;exact⟨rfl,l,rfl,a2,a4,a5⟩
  case istep =>
   rintro x c st2 _ hx ⟨rfl,l,r,rfl,a1,a2,a3,a4,a5⟩;dsimp -zeta only
   extract_lets
   by_cases c:l>=r
   ·show wpS _ _ _ _ (if l>=r then _ else _) _ _;refine aG c ?_;have:l=r:=by exact v9 a1 c
    subst this;exact Qx ⟨rfl,l,rfl,a2,a4,a5⟩
   show wpS _ _ _ _ (if l>=r then _ else _) _ _;refine aF c ?_;refine Qq (dB (i:=lo+k) (j:=lo+(l+r) / 2) hL (g.kind.trans hk) (g.keys ha) (by exact nG hn k2 sz) (by omega) ?_);dsimp -zeta only
   cases e:κ.blt (KK κ (arrOf st2) (lo+k)) (KK κ (arrOf st2) (lo+(l+r) / 2)) with
   | true =>
    refine aG rfl ?_;refine Qx ⟨rfl,l,(l+r) / 2,rfl,by exact yZ c,by exact yY a2 c,xm a3 c,a4,λi b1 b2=>?_⟩;exact KeyOrd.kle_trans (KeyOrd.kle_of_klt e) (u _ _ b1 b2)
   | false =>
   refine aF Qh ?_;refine Qx ⟨rfl,(l+r) / 2+1,r,rfl,by exact yX c,by exact v0 a2,xn a3 c,λi b1=>?_,a5⟩;exact KeyOrd.kle_trans (u i ((l+r) / 2) (by exact yW b1) (by exact yV a2 c)) e
  case ipost =>
   rintro c st2 ⟨rfl,l,rfl,a2,a4,a5⟩;show wpS _ _ _ _ (moveDown' (lo+k) (lo+l) >>= _) _ _;rw[moveDown'_eq];have hks:lo+k<(arrOf st2).size:=by exact nG hn k2 sz
   refine Qq (wpS_modify (Qx ⟨rfl,g.trans ⟨rfl,rfl,rfl,λi hi=>?_,bubble_perm _ _ _⟩,λi j hij hj=>?_⟩))
   ·show (bubble (arrOf st2) (lo+k) (lo+k-(lo+l)))[i]?=_;rw[getElem?_bubble hks _ (by exact yU a2 hi),Qt (by exact yT a2 hi),Qt (by omega)]
   rw[show min (k+1) n=k+1 by exact yS k2]at hj;show κ.kle (KK κ (bubble (arrOf st2) (lo+k) (lo+k-(lo+l))) (lo+i)) (KK κ (bubble (arrOf st2) (lo+k) (lo+k-(lo+l))) (lo+j));rw[KK_bubble hks (by exact uS a2),KK_bubble hks (by exact uS a2),show lo+k-(lo+k-(lo+l))=lo+l by exact yR a2];have sh:∀i,l<i->lo+i-1=lo+(i-1):=λi hi=>by exact yQ hi
   by_cases ci:i<l
   ·rw[Qt (by exact uR ci),Qt (by exact uQ ci)];by_cases cj:j<l
    ·rw[Qt (by exact uR cj),Qt (by exact uQ cj)];exact u i j hij (by exact yP a2 hj cj)
    by_cases cj2:j=l
    ·rw[Qu (by exact uP cj2)];exact a4 i ci
    rw[Qt (by exact uO cj2),Qu (by omega),sh j (by exact uN cj cj2)];exact u i (j-1) (by exact yO hij ci cj) (by exact yN a2 hij hj ci)
   by_cases ci2:i=l
   ·rw[Qu (by exact uP ci2)];by_cases cj2:j=l
    ·rw[Qu (by exact yM ci2 cj2)];exact XV _
    rw[Qt (by exact yL ci2 cj2),Qu (by omega),sh j (by exact yK hij ci2 cj2)];exact a5 (j-1) (by exact yJ hij ci2 cj2) (by exact yI hij hj ci2 cj2)
   rw[Qt (by exact uO ci2),Qu (by omega),Qt (by exact yH hij ci ci2),Qu (by omega),sh i (by exact uN ci ci2),sh j (by exact yG hij ci ci2)];exact u (i-1) (j-1) (by exact yF hij) (by exact yD hij hj ci ci2)
end
theorem j8 (o:Nat):∀(M:List Keyed) (j:Nat) (arr:Array Keyed) (P S T:List Keyed),arr.toList=P++(S++T)->P.length=o+j->S.length=M.length->((M.zipIdx j).foldl (λa (x:Keyed × Nat)=>a.setIfInBounds (o+x.2) x.1) arr).toList=P++(M++T)
 | [],j,arr,P,S,T,h,hp,hs=>by
  have:S=[]:=Xo hs;subst this;exact h
 | p::M,j,arr,P,[],T,h,hp,hs=>by simp at hs
 | p::M,j,arr,P,q::S,T,h,hp,hs=>by
  rw[List.zipIdx_cons,List.foldl_cons]
  have e:(arr.setIfInBounds (o+j) p).toList=(P++[p])++(S++T):=by
   rw[Array.toList_setIfInBounds,h,List.set_append,Qt (by exact yC hp),show o+j-P.length=0 by exact yB hp];simp
  have:=j8 o M (j+1) (arr.setIfInBounds (o+j) p) (P++[p]) S T e (by rw[Qg];simp;exact yA hp) (by simpa using hs);rw[this];simp
def cZ:Nat->List (List Keyed)->List (Nat × Nat)
 | _,[]=>[]
 | b,r::rs=>(b,r.length)::cZ (b+r.length) rs
theorem eI (u w:List (List Keyed)):∀b,cZ b (u++w)=cZ b u++cZ (b+u.flatten.length) w:=by
 induction u with
 | nil=>intro b;simp[cZ]
 | cons r u ih =>
 intro b;show (b,r.length)::cZ (b+r.length) (u++w)=_;rw[ih];show _=(b,r.length)::(cZ (b+r.length) u++_);rw[List.flatten_cons,Qg,Nat.add_assoc]
theorem ki (u:List (List Keyed)):∀b,(cZ b u).length=u.length:=by
 induction u with
 | nil=>intro b;rfl
 | cons r u ih=>intro b;show (cZ _ u).length+1=_;rw[ih];rfl
structure RI (κ:KeyKind) (kd:SortKind) (a₀:Array Keyed) (st:SortSt) (rs:List (List Keyed)) (rest:List Keyed):Prop where
 arr:(arrOf st).toList=rs.flatten++rest
 perm:(arrOf st).Perm a₀
 ok:∀r∈rs,r≠[]/\r.Pairwise (le κ)
 pend:(pendingOf st).toList.map (λp=>(p.1,p.2.1))=cZ 0 rs
 kind:kindOf st=kd
 fail:failedOf st=none
theorem tI {ps:Array (Nat × Nat × Nat)} {u v:List (List Keyed)} {X Y:List Keyed} (h:ps.toList.map (λp=>(p.1,p.2.1))=cZ 0 (u++X::Y::v)) :
  ∃p1 p2,ps[u.length]?=some (u.flatten.length,X.length,p1)/\ps[u.length+1]?=some (u.flatten.length+X.length,Y.length,p2) /\
   ((ps.setIfInBounds u.length (u.flatten.length,X.length+Y.length,p1)).eraseIdxIfInBounds (u.length+1)).toList.map (λp=>(p.1,p.2.1))=cZ 0 u++(u.flatten.length,X.length+Y.length)::cZ (u.flatten.length+X.length+Y.length) v:=by
 rw[eI,Nat.zero_add]at h;have h:ps.toList.map (λp=>(p.1,p.2.1))=cZ 0 u++(u.flatten.length,X.length)::(u.flatten.length+X.length,Y.length)::cZ (u.flatten.length+X.length+Y.length) v:=h;have lu:=ki u 0;obtain⟨l1,l2,e,e1,e2⟩:=List.map_eq_append_iff.mp h
 cases l2 with
 | nil=>simp at e2
 | cons a l2 =>
 cases l2 with
 | nil=>simp at e2
 | cons b l2 =>
 obtain⟨a1,a2,a3⟩:=a;obtain⟨b1,b2,b3⟩:=b;simp only[Qo,List.cons.injEq,Prod.mk.injEq]at e2;obtain⟨⟨rfl,rfl⟩,⟨rfl,rfl⟩,e3⟩:=e2;have l1l:l1.length=u.length:=by rw[<-lu,<-e1,Qb]
 have pe:ps=(l1++(u.flatten.length,X.length,a3)::(u.flatten.length+X.length,Y.length,b3)::l2).toArray:=by rw[<-e]
 subst pe;refine⟨a3,b3,?_,?_,?_⟩
 ·rw[<-l1l];simp
 ·rw[<-l1l];simp[QW]
 rw[<-l1l,<-e1,<-e3];simp[Array.eraseIdxIfInBounds,List.set_append,List.eraseIdx_append];rw[Qt (by exact yz)];simp
section
theorem sQ {U:Type} {M:Model} {x:U} {Q:PUnit->U->Prop} {st:U} (h:Q ⟨⟩ x):wpS M A E s (set x:StateT U Sem PUnit) Q st:=by
 unfold wpS;rw[StateT.run_set];exact Qf ⟨rfl,h⟩
theorem fA (hL:fL κ kd prog w A s) {st:SortSt} {a₀:Array Keyed} {u v:List (List Keyed)} {X Y rest:List Keyed} {Q:Bool->SortSt->Prop} (ha:∀p∈a₀.toList,Hk κ p) (I:RI κ kd a₀ st (u++X::Y::v) rest)
  (h:∀Z st',Z.length=X.length+Y.length->RI κ kd a₀ st' (u++Z::v) rest->Q true st'):wpS (model prog w) A E s (mergeAt' u.length) Q st:=by
 obtain⟨earr,perm,ok,pend,kind,fail⟩:=I;obtain⟨p1,p2,e1,e2,e3⟩:=tI pend;obtain⟨xne,sx⟩:=ok X (by simp);obtain⟨yne,sy⟩:=ok Y (by simp);have xl:1<=X.length:=Nat.pos_of_ne_zero λz=>xne (Xo z);have yl:1<=Y.length:=Nat.pos_of_ne_zero λz=>yne (Xo z);have ha':∀p∈(arrOf st).toList,Hk κ p:=λp hp=>ha p ((Array.perm_iff_toList_perm.mp perm).mem_iff.mp hp);have earr:(arrOf st).toList=u.flatten++(X++(Y++(v.flatten++rest))):=by rw[earr];simp
 have sz:(arrOf st).size=u.flatten.length+(X.length+(Y.length+(v.flatten++rest).length)):=by rw[<-Qe,earr];simp only[Qg]
 have atX:∀i,i<X.length->(arrOf st)[u.flatten.length+i]?=X[i]?:=λi hi=>by rw[<-Qm,earr,QW (by exact ra),XZ,QZ hi]
 have atY:∀i,i<Y.length->(arrOf st)[u.flatten.length+X.length+i]?=Y[i]?:=λi hi=>by rw[<-Qm,earr,QW (by exact yx xl sz),QW (by exact yw xl sz),show u.flatten.length+X.length+i-u.flatten.length-X.length=i by exact yu,QZ hi]
 obtain⟨y0,hy0⟩:∃y0,Y[0]?=some y0:=⟨Y[0],by rw[Qc]⟩;obtain⟨xz,hxz⟩:∃xz,X[X.length-1]?=some xz:=⟨X[X.length-1],by rw[Qc]⟩;have key0:(arrOf st)[u.flatten.length+X.length]?=some y0:=by have:=atY 0 (by exact q_ yl);rw[Nat.add_zero]at this;rw[this,hy0]
 have pwi:∀{L:List Keyed},L.Pairwise (le κ)->∀{i j:Nat} {p q:Keyed},i<=j->L[i]?=some p->L[j]?=some q->le κ p q:=λ{L} sl {i j p q} hij hi hj=>by
  by_cases e:i=j
  ·subst e;rw[hi]at hj;cases hj;exact XV _
  obtain⟨li,ei⟩:=Ql.mp hi;obtain⟨lj,ej⟩:=Ql.mp hj;have:=(List.pairwise_iff_getElem.mp sl) i j li lj (by exact xC hij e);rwa [ei,ej]at this
 have leY:∀q∈Y,le κ y0 q:=λq hq=>by
  obtain⟨j,hj,ej⟩:=Q2.mp hq;exact pwi sy (QR j) hy0 (by rw[Qc hj,ej])
 have leX:∀p∈X,le κ p xz:=λp hp=>by
  obtain⟨j,hj,ej⟩:=Q2.mp hp;exact pwi sx (show j<=X.length-1 by exact yt xl sz hj) (by rw[Qc hj,ej]) hxz
 have same:∀st',arrOf st'=arrOf st->kindOf st'=kindOf st->failedOf st'=failedOf st->(pendingOf st').toList.map (λp=>(p.1,p.2.1))=cZ 0 u++(u.flatten.length,X.length+Y.length)::cZ (u.flatten.length+X.length+Y.length) v->(∀p∈X,∀q∈Y,le κ p q)->Q true st':=λst' h1 h2 h3 h4 h5=>by
  refine h (X++Y) st' (by simp) ⟨by rw[h1,earr];simp,by rw[h1];exact perm,λr hr=>?_,?_,h2.trans kind,h3.trans fail⟩
  ·rcases Qp.mp hr with e|e
   ·exact ok r (by simp[e])
   rcases Qw.mp e with e|e
   ·subst e;exact⟨by simp[xne],Q3.mpr ⟨sx,sy,h5⟩⟩
   exact ok r (by simp[e])
  rw[h4,eI,Nat.zero_add];show _=_++(u.flatten.length,(X++Y).length)::cZ (u.flatten.length+(X++Y).length) v;rw[Qg,Nat.add_assoc]
 unfold mergeAt';refine Qq (wpS_get ?_);show wpS _ _ _ _ (match ((pendingOf st)[u.length]?,(pendingOf st)[u.length+1]?) with|(some (sa,na,power),some (sb,nb,_))=>_|x=>_) _ _;rw[e1,e2];dsimp -zeta only;refine Qq (sQ ?_);refine Qq (aU key0 ?_);have hk0:Hk κ y0:=ha' y0 (by rw[Array.mem_toList_iff];exact Array.mem_of_getElem? key0);refine Qq (dC (a:=arrOf st) (base:=u.flatten.length) (n:=X.length) (hint:=0) hL (by exact kind) hk0 ha' (by exact yr yl sz) (λi j p q b1 b2 b3 c1 c2=>?_) (by exact yq xl sz) λk k1 k2 k3=>?_)
 ·have f1:=atX (i-u.flatten.length) (by omega);have f2:=atX (j-u.flatten.length) (by omega);rw[show u.flatten.length+(i-u.flatten.length)=i by exact yp b1,c1]at f1;rw[show u.flatten.length+(j-u.flatten.length)=j by exact yo b1 b2,c2]at f2;exact pwi sx (show i-u.flatten.length<=j-u.flatten.length by exact yn b1 b2) f1.symm f2.symm
 dsimp -zeta only;have k2':∀i,i<k->∀p,X[i]?=some p->le κ p y0:=λi hi p e=>ja (k2 i hi p (by rw[atX i (by exact ym sz k1 hi)];exact e))
 have k3':∀i,k<=i->∀p,X[i]?=some p->le κ y0 p:=λi hi p e=>by
  have hl:=(Ql.mp e).1;exact jc (k3 i hi hl p (by rw[atX i hl];exact e))
 by_cases d1:X.length-k=0
 ·refine aG (bT d1) ?_;refine Qx (same _ rfl rfl rfl e3 λp hp q hq=>?_);obtain⟨j,hj,ej⟩:=Q2.mp hp;exact le_trans (k2' j (by omega) p (by rw[Qc hj,ej])) (leY q hq)
 refine aF (bF d1) ?_
 have keyz:(arrOf st)[u.flatten.length+k+(X.length-k)-1]?=some xz:=by
  rw[(xk (f:=u.flatten.length) k1).resolve_right (λz=>by rw[z]at xl;exact absurd xl (by decide)),atX _ (by exact yk xl sz),hxz]
 refine Qq (aU keyz ?_);have hkz:Hk κ xz:=ha' xz (by rw[Array.mem_toList_iff];exact Array.mem_of_getElem? keyz);refine Qq (dC (a:=arrOf st) (base:=u.flatten.length+X.length) (n:=Y.length) (hint:=Y.length-1) hL (by exact kind) hkz ha' (by exact yj sz) (λi j p q b1 b2 b3 c1 c2=>?_) (by exact oW yl) λm m1 m2 m3=>?_)
 ·have f1:=atY (i-(u.flatten.length+X.length)) (by omega);have f2:=atY (j-(u.flatten.length+X.length)) (by omega);rw[show u.flatten.length+X.length+(i-(u.flatten.length+X.length))=i by omega,c1]at f1;rw[show u.flatten.length+X.length+(j-(u.flatten.length+X.length))=j by omega,c2]at f2;exact pwi sy (show i-(u.flatten.length+X.length)<=j-(u.flatten.length+X.length) by omega) f1.symm f2.symm
 dsimp -zeta only;have m2':∀i,i<m->∀p,Y[i]?=some p->le κ p xz:=λi hi p e=>i_ (m2 i hi p (by rw[atY i (by exact yi m1 hi)];exact e))
 have m3':∀i,m<=i->∀p,Y[i]?=some p->le κ xz p:=λi hi p e=>by
  have hl:=(Ql.mp e).1;exact jd (m3 i hi hl p (by rw[atY i hl];exact e))
 by_cases d2:m=0
 ·refine aG (bT d2) ?_;refine Qx (same _ rfl rfl rfl e3 λp hp q hq=>?_);obtain⟨j,hj,ej⟩:=Q2.mp hq;exact le_trans (leX p hp) (m3' j (by exact yh d2) q (by rw[Qc hj,ej]))
 refine aF (bF d2) ?_
 extract_lets x y jp
 have ex:x.toList=X.drop k:=by
  show ((arrOf st).extract (u.flatten.length+k) (u.flatten.length+X.length)).toList=_;rw[show u.flatten.length+X.length=(u.flatten.length+k)+(X.length-k) by omega,fW,earr,<-List.drop_drop,List.drop_left,List.drop_append_of_le_length (by exact v0 k1),List.take_append_of_le_length (by rw[QU];exact om1),Q0 (by rw[QU];exact om1)]
 have ey:y.toList=Y.take m:=by
  show ((arrOf st).extract (u.flatten.length+X.length) (u.flatten.length+X.length+m)).toList=_;rw[fW,earr,<-List.drop_drop,List.drop_left,List.drop_left,List.take_append_of_le_length m1]
 have zx:x.size=X.length-k:=by rw[<-Qe,ex,QU]
 have zy:y.size=m:=by rw[<-Qe,ey,QJ];omega
 have atx:∀{i p},x[i]?=some p->X[k+i]?=some p:=λ{i p} e=>by rw[<-Qm,ex,XA]at e;exact e
 have aty:∀{i p},y[i]?=some p->Y[i]?=some p:=λ{i p} e=>by
  have hl:=(Q5.mp e).1;rw[<-Qm,ey,List.getElem?_take,Qu (by exact yE zy hl)]at e;exact e
 have inX:∀p∈x.toList,∃i,k<=i/\X[i]?=some p:=λp hp=>by
  obtain⟨i,hi,ei⟩:=Q2.mp hp;exact⟨k+i,by exact ra,atx (by rw[<-Qm,Qc hi,ei])⟩
 have inY:∀p∈y.toList,∃i,i<m/\Y[i]?=some p:=λp hp=>by
  obtain⟨i,hi,ei⟩:=Q2.mp hp;rw[Qe]at hi;exact⟨i,by exact yE zy hi,aty (by rw[<-Qm,Qc (by rw[Qe];exact hi),ei])⟩
 have mX:∀{p i},X[i]?=some p->p∈X:=λe=>Qz e
 have hx:∀p∈x.toList,Hk κ p:=λp hp=>by
  obtain⟨i,_,e⟩:=inX p hp;exact ha' p (by rw[earr];simp[Qz e])
 have hy:∀p∈y.toList,Hk κ p:=λp hp=>by
  obtain⟨i,_,e⟩:=inY p hp;exact ha' p (by rw[earr];simp[Qz e])
 have ssx:x.toList.Pairwise (le κ):=by rw[ex];exact sx.sublist (List.drop_sublist _ _)
 have ssy:y.toList.Pairwise (le κ):=by rw[ey];exact sy.sublist (List.take_sublist _ _)
 have first:∀p∈x.toList,∀q,y[0]?=some q->le κ q p:=λp hp q hq=>by
  obtain⟨i,hi,e⟩:=inX p hp;have:=aty hq;rw[hy0]at this;cases this;exact k3' i hi p e
 have last:∀q∈y.toList,∀p,x[x.size-1]?=some p->le κ q p:=λq hq p hp=>by
  obtain⟨i,hi,e⟩:=inY q hq;have:=atx hp;rw[xj k1 d1 zx,hxz]at this;cases this;exact m2' i hi q e
 refine eh (λz:Array Keyed=>jp z) (λz st'=>Gs (setPending st (((pendingOf st).setIfInBounds u.length (u.flatten.length,X.length+Y.length,p1)).eraseIdxIfInBounds (u.length+1))) st'/\Srt κ (x.toList++y.toList) z.toList) (λz st1 hz=>?_) (λJ=>?_)
 ·obtain⟨g,so⟩:=hz;refine Qq (wpS_modify ?_);refine Qq (wpS_get ?_);have f1:failedOf st1=none:=g.fail.trans fail;have lz:z.toList.length=(X.length-k)+m:=by rw[so.1.length_eq,Qg,Qe,Qe,zx,zy]
  have ar:(List.foldl (λa (x:Keyed × Nat)=>a.setIfInBounds (u.flatten.length+k+x.snd) x.fst) (arrOf st1) z.toList.zipIdx).toList=u.flatten++((X.take k++(z.toList++Y.drop m))++(v.flatten++rest)):=by
   rw[j8 (u.flatten.length+k) z.toList 0 (arrOf st1) (u.flatten++X.take k) (X.drop k++Y.take m) (Y.drop m++(v.flatten++rest)) ?_ ?_ ?_]
   ·simp only[QY]
   ·rw[show arrOf st1=arrOf st from g.arr,earr]
    conv=>lhs;rw[<-QV k X,<-QV m Y]
    simp only[QY]
   ·rw[Qg,QJ];exact yg sz k1
   rw[lz,Qg,QU,QJ];exact yf m1 zy
  have pz:(X.take k++(z.toList++Y.drop m)).Perm (X++Y):=by
   conv=>rhs;rw[<-QV k X,<-QV m Y]
   rw[QY];refine List.Perm.append_left _ ?_;rw[<-QY];refine List.Perm.append_right _ ?_;rw[<-ex,<-ey];exact so.1
  have mz:∀p∈z.toList,(∃i,k<=i/\X[i]?=some p)\/∃i,i<m/\Y[i]?=some p:=λp hp=>by
   rcases Qp.mp (so.1.mem_iff.mp hp) with e|e
   ·exact .inl (inX p e)
   exact .inr (inY p e)
  have tk:∀p∈X.take k,∃i,i<k/\X[i]?=some p:=λp hp=>by
   obtain⟨i,hi,ei⟩:=Q2.mp hp;have:=Qc hi;rw[ei,List.getElem?_take]at this;rw[QJ]at hi;rw[Qu (by omega)]at this;exact⟨i,by omega,this⟩
  have dm:∀p∈Y.drop m,∃i,m<=i/\Y[i]?=some p:=λp hp=>by
   obtain⟨i,hi,ei⟩:=Q2.mp hp;have:=Qc hi;rw[ei,XA]at this;exact⟨m+i,by exact ra,this⟩
  have sz':(X.take k++(z.toList++Y.drop m)).Pairwise (le κ):=by
   refine Q3.mpr ⟨sx.sublist (List.take_sublist _ _),Q3.mpr ⟨so.2,sy.sublist (List.drop_sublist _ _),λp hp q hq=>?_⟩,λp hp q hq=>?_⟩
   ·obtain⟨j,hj,ej⟩:=dm q hq;rcases mz p hp with⟨i,hi,ei⟩|⟨i,hi,ei⟩
    ·exact le_trans (leX p (mX ei)) (m3' j hj q ej)
    exact pwi sy (by exact ye zy hj hi) ei ej
   obtain⟨i,hi,ei⟩:=tk p hp;rcases Qp.mp hq with e|e
   ·rcases mz q e with⟨j,hj,ej⟩|⟨j,hj,ej⟩
    ·exact pwi sx (by exact yd hi hj) ei ej
    exact le_trans (k2' i hi p ei) (leY q (Qz ej))
   obtain⟨j,hj,ej⟩:=dm q e;exact le_trans (k2' i hi p ei) (leY q (Qz ej))
  have fin:∀st',arrOf st'=List.foldl (λa (x:Keyed × Nat)=>a.setIfInBounds (u.flatten.length+k+x.snd) x.fst) (arrOf st1) z.toList.zipIdx->kindOf st'=kindOf st1->failedOf st'=failedOf st1->pendingOf st'=pendingOf st1->Q true st':=λst' h1 h2 h3 h4=>by
   refine h (X.take k++(z.toList++Y.drop m)) st' (by rw[pz.length_eq,Qg]) ⟨?_,?_,λr hr=>?_,?_,h2.trans (g.kind.trans kind),h3.trans f1⟩
   ·rw[h1,ar];simp
   ·refine Array.Perm.trans ?_ perm;rw[Array.perm_iff_toList_perm,h1,ar,earr];refine List.Perm.append_left _ ?_;rw[<-QY X];exact List.Perm.append_right _ pz
   ·rcases Qp.mp hr with e|e
    ·exact ok r (by simp[e])
    rcases Qw.mp e with e|e
    ·subst e;refine⟨λz0=>?_,sz'⟩;have:=pz.length_eq;rw[z0,Qg]at this;simp at this;omega
    exact ok r (by simp[e])
   rw[h4,show pendingOf st1=_ from g.pend];rw[eI,Nat.zero_add];show _=_++(u.flatten.length,(X.take k++(z.toList++Y.drop m)).length)::cZ (u.flatten.length+(X.take k++(z.toList++Y.drop m)).length) v;rw[pz.length_eq,Qg,<-Nat.add_assoc];exact e3
  refine Qx ?_;show Q (failedOf st1).isNone (setArr st1 (List.foldl (λa (x:Keyed × Nat)=>a.setIfInBounds (u.flatten.length+k+x.snd) x.fst) (arrOf st1) z.toList.zipIdx));rw[show (failedOf st1).isNone=true by rw[f1];rfl];exact fin _ rfl rfl rfl rfl
 by_cases d3:X.length-k<=m
 ·refine aG d3 ?_;refine Qq (jv hL (by exact kind) hx hy (by omega) (by omega) ⟨by simp,List.Pairwise.nil,ssx,ssy,λp hp=>(nomatch hp),λp hp=>(nomatch hp),λq hq l hl=>last q hq l ?_⟩ first λr st' g so=>J r st' ⟨g,so⟩);rw[List.getLast?_eq_getElem?,Qm,Qe]at hl;exact hl
 refine aF d3 ?_;exact Qq (jw hL (by exact kind) hx hy (by omega) (by omega) ssx ssy first last λr st' g so=>J r st' ⟨g,so⟩)
end
section
variable {xs a₀:Array Keyed}
theorem sT {lo n:Nat} (h:Up κ xs lo n) (hn:lo+n<=xs.size):((xs.toList.drop lo).take n).Pairwise (le κ):=by
 rw[List.pairwise_iff_getElem];intro i j hi hj hij;rw[QJ,QU,Qe]at hi hj
 have at_:∀(m:Nat) (hm:m<((xs.toList.drop lo).take n).length),kv κ ((xs.toList.drop lo).take n)[m]=KK κ xs (lo+m):=λm hm=>by
  have e:=Qc hm;rw[QJ,QU,Qe]at hm;rw[List.getElem?_take,Qu (by exact uM hm),XA,Qm]at e;exact(rM e).symm
 unfold le;rw[at_,at_];exact h i j (by exact rc hij) (by exact uM hj)
variable {rest:List Keyed} {rs:List (List Keyed)} {st st2:SortSt}
theorem kc (I:RI κ kd a₀ st rs rest):(pendingOf st).size=rs.length:=by
 have:=congrArg List.length I.pend;rwa [Qb,ki,Qe]at this
theorem ql {rs:List (List Keyed)} {i:Nat} (h:i+1<rs.length):∃u X Y v,rs=u++X::Y::v/\u.length=i:=by
 refine⟨rs.take i,rs[i],rs[i+1],rs.drop (i+2),?_,by rw[QJ];exact yc h⟩;rw[<-List.drop_eq_getElem_cons,<-List.drop_eq_getElem_cons,QV]
theorem RI.seg (I:RI κ kd a₀ st rs rest) (g:Sg rs.flatten.length st st2):RI κ kd a₀ st2 rs ((arrOf st2).toList.drop rs.flatten.length):=by
 refine⟨?_,g.perm.trans I.perm,I.ok,by rw[g.pend];exact I.pend,g.kind.trans I.kind,g.fail.trans I.fail⟩
 have:(arrOf st2).toList.take rs.flatten.length=rs.flatten:=by
  refine List.ext_getElem? λi=>?_;rw[List.getElem?_take]
  split
  ·rename_i hi
   rw[Qm,g.head i hi,<-Qm,I.arr,QZ hi]
  rename_i hi
  rw[Q7 (by exact om2 hi)]
 conv=>lhs;rw[<-QV rs.flatten.length (arrOf st2).toList]
 rw[this]
variable {ps:Array (Nat × Nat × Nat)}
theorem RI.power (I:RI κ kd a₀ st rs rest) (h:ps.toList.map (λp=>(p.1,p.2.1))=(pendingOf st).toList.map (λp=>(p.1,p.2.1))):RI κ kd a₀ (setPending st ps) rs rest :=
 ⟨I.arr,I.perm,I.ok,h.trans I.pend,I.kind,I.fail⟩
theorem mf {i pw:Nat}:(ps.modify i λx=>match x with|(st,len,_)=>(st,len,pw)).toList.map (λp=>(p.1,p.2.1))=ps.toList.map (λp=>(p.1,p.2.1)):=by
 refine List.ext_getElem? λj=>?_;rw[QB,QB,Qm,Qm,Array.getElem?_modify]
 split
 ·cases ps[j]? with
  | none=>rfl
  | some p=>rfl
 rfl
theorem pR (hL:fL κ kd prog w A s) {st:SortSt} {a₀:Array Keyed} {Q:Unit->SortSt->Prop} (ha:∀p∈a₀.toList,Hk κ p) (I:RI κ kd a₀ st [] a₀.toList)
  (h:∀st',(arrOf st').Perm a₀->failedOf st'=none->(arrOf st').toList.Pairwise (le κ)->Q () st'):wpS (model prog w) A E s sortRuns' Q st:=by
 have ha2:∀{st:SortSt} {rs:List (List Keyed)} {rest:List Keyed},RI κ kd a₀ st rs rest->∀p∈(arrOf st).toList,Hk κ p:=λI p hp=>ha p ((Array.perm_iff_toList_perm.mp I.perm).mem_iff.mp hp)
 have sz:∀{st:SortSt} {rs:List (List Keyed)} {rest:List Keyed},RI κ kd a₀ st rs rest->(arrOf st).size=a₀.size/\a₀.size=rs.flatten.length+rest.length:=λI=>by
  have:=I.perm.size_eq;refine⟨this,?_⟩;rw[<-this,<-Qe,I.arr,Qg]
 unfold sortRuns';refine Qq (wpS_get ?_)
 extract_lets szv mr lo0
 have ez:szv=a₀.size:=(sz I).1
 clear_value szv mr
 subst ez;refine Qq (wpS_mono (Xr (I:=λx c st'=>∃rs rest,c=(none,rs.flatten.length)/\RI κ kd a₀ st' rs rest/\(x<=rs.flatten.length\/rest=[])) (Q:=λc st'=>∃rs lo,c=(none,lo)/\RI κ kd a₀ st' rs []) ?step ?fin ⟨[],_,rfl,I,.inl (QR _)⟩) ?post)
 case fin =>
  rintro c st' ⟨rs,rest,rfl,J,o⟩;have:=(sz J).2
  have e:rest=[]:=by
   rcases o with o|o
   ·exact Xo (by exact yb this o)
   exact o
  subst e;exact⟨rs,_,rfl,J⟩
 case step =>
  rintro x c st' _ hx ⟨rs,rest,rfl,J,o⟩;have zz:=(sz J).2;have zs:=(sz J).1;generalize hlo:rs.flatten.length=lo at *;by_cases c1:lo>=a₀.size
  ·show wpS _ _ _ _ (if lo>=a₀.size then _ else _) _ _;refine aG c1 ?_;have e:rest=[]:=Xo (by exact ya zs zz c1);subst e;exact Qx ⟨rs,_,rfl,J⟩
  show wpS _ _ _ _ (if lo>=a₀.size then _ else _) _ _;refine aF c1 ?_
  have xlo:x<=lo:=by
   rcases o with o|o
   ·exact o
   subst o;simp at zz;exact x_ zs c1 zz
  refine Qq (oA (lo:=lo) (nrem:=a₀.size-lo) hL J.kind (ha2 J) (by exact xZ zs zz c1) (by exact xY zs zz c1) λm st1 g1 m1 m2 up=>?_);dsimp -zeta only
  extract_lets n jp
  refine eh (λz:Nat=>jp () z) (λz st2=>Sg lo st' st2/\1<=z/\lo+z<=a₀.size/\Up κ (arrOf st2) lo z) (λn st2 hz=>?_) (λJJ=>?_)
  ·obtain⟨g2,n1,n2,up2⟩:=hz;have J2:=J.seg (by rw[hlo];exact g2);rw[hlo]at J2;have z2:=(sz J2).2;have up3:=sT up2 (by rw[(sz J2).1];exact n2);generalize hr2:(arrOf st2).toList.drop lo=rest2 at J2 up3 z2;rw[hlo]at z2;refine Qq (wpS_get ?_)
   extract_lets ln jp2
   refine eh (λ_:Unit=>jp2 ()) (λ_ st3=>∃rs3,RI κ kd a₀ st3 rs3 rest2/\rs3.flatten.length=lo) (λ_ st3 hz=>?_) (λJP=>?_)
   ·obtain⟨rs3,J3,l3⟩:=hz;refine Qq (wpS_modify ?_);refine Qx ⟨rs3++[rest2.take n],rest2.drop n,?_,⟨?_,J3.perm,λr hr=>?_,?_,J3.kind,J3.fail⟩,.inl ?_⟩
    ·have:(rs3++[rest2.take n]).flatten.length=lo+n:=by rw[List.flatten_append,Qg,l3];simp;omega
     rw[this]
    ·rw[List.flatten_append];show (arrOf st3).toList=_;rw[J3.arr];simp
    ·rcases Qp.mp hr with e|e
     ·exact J3.ok r e
     have e:r=rest2.take n:=by simpa using e
     subst e;refine⟨λz0=>?_,up3⟩;have:=congrArg List.length z0;rw[QJ,XG]at this;omega
    ·show ((pendingOf st3).push (lo,n,0)).toList.map _=_;rw[Array.toList_push,QP,J3.pend,eI,Nat.zero_add,l3];show _=_++[(lo,(rest2.take n).length)];rw[QJ,show min n rest2.length=n by omega];rfl
    have:(rs3++[rest2.take n]).flatten.length=lo+n:=by rw[List.flatten_append,Qg,l3];simp;omega
    exact xX xlo n1 l3 this
   cases hb:(pendingOf st2).back? with
   | none=>exact JP () st2 ⟨rs,J2,hlo⟩
   | some p =>
   obtain⟨s1,l1,pw1⟩:=p;dsimp -zeta only
   extract_lets pw
   refine Qq (wpS_mono (Xr (I:=λ_ c st3=>c=(none,())/\∃rs3,RI κ kd a₀ st3 rs3 rest2/\rs3.flatten.length=lo) (Q:=λc st3=>c=(none,())/\∃rs3,RI κ kd a₀ st3 rs3 rest2/\rs3.flatten.length=lo) ?_ (λ_ _ z=>z) ⟨rfl,rs,J2,hlo⟩) ?_)
   ·rintro y c st3 _ _ ⟨rfl,rs3,J3,l3⟩;have pl:=kc J3;refine Qq (wpS_get ?_);show wpS _ _ _ _ (match (if (pendingOf st3).size>1 then (pendingOf st3)[(pendingOf st3).size-2]? else none) with|some (_,_,older)=>_|x=>_) _ _;by_cases c2:(pendingOf st3).size>1
    ·rw[Qu c2];obtain⟨q,hq⟩:∃q,(pendingOf st3)[(pendingOf st3).size-2]?=some q:=⟨(pendingOf st3)[(pendingOf st3).size-2],by rw[Qy]⟩;rw[hq];obtain⟨q1,q2,older⟩:=q;dsimp -zeta only;by_cases c3:older<=pw
     ·refine aG c3 ?_;exact Qx ⟨rfl,rs3,J3,l3⟩
     refine aF c3 ?_;obtain⟨u,X,Y,v,rfl,ul⟩:=ql (rs:=rs3) (i:=(pendingOf st3).size-2) (by exact xW pl c2);rw[<-ul];refine Qq (fA hL ha J3 λZ st4 lz J4=>?_);refine aF Qh ?_;refine Qx ⟨rfl,_,J4,?_⟩;rw[<-l3];simp;exact xV lz
    rw[Qt c2];exact Qx ⟨rfl,rs3,J3,l3⟩
   rintro c st3 ⟨rfl,rs3,J3,l3⟩;refine Qq (wpS_modify ?_);exact JP () _ ⟨rs3,J3.power mf,l3⟩
  have z1:=g1.size;by_cases c2:n<mr
  ·refine aG c2 ?_;refine Qq (wpS_lift (wpAny_rule ⟨rfl,?_⟩));have en:n=m:=rfl;refine Qq (sR (lo:=lo) (n:=min (a₀.size-lo) mr) (ok:=m) hL (g1.kind.trans J.kind) (g1.keys (ha2 J)) (by omega) (by omega) up λst2 g2 up2=>?_);refine aF Qh ?_;exact JJ _ st2 ⟨g1.trans g2,by omega,by omega,up2⟩
  refine aF c2 ?_;exact JJ m st1 ⟨g1,m1,by omega,up⟩
 case post =>
  rintro c st1 ⟨rs,lo,rfl,J⟩;have zz:=(sz J).2
  have short:∀(rs:List (List Keyed)),(∀r∈rs,r≠[]/\r.Pairwise (le κ))->rs.length<=rs.flatten.length:=λrs=>by
   induction rs with
   | nil=>intro _;simp
   | cons r rs ih =>
   intro hr;have h1:=(hr r (by simp)).1;have h2:=ih λr' h'=>hr r' (by simp[h']);have:r.length≠0:=λe=>h1 (Xo e);rw[List.flatten_cons,Qg,QC];exact xU h2 this
  have len0:=short rs J.ok;simp only[XG,Nat.add_zero]at zz;refine Qq (wpS_mono (Xr (I:=λx c st'=>c=(none,())/\∃rs,RI κ kd a₀ st' rs []/\rs.length+x<=a₀.size+1) (Q:=λc st'=>c=(none,())/\∃rs,RI κ kd a₀ st' rs []/\rs.length<=1) ?_ ?_ ⟨rfl,rs,J,by exact xT zz len0⟩) ?_)
  ·rintro x c st' _ hx ⟨rfl,rs,J,l⟩;have pl:=kc J;refine Qq (wpS_get ?_);show wpS _ _ _ _ (if (pendingOf st').size<=1 then _ else _) _ _;by_cases c2:(pendingOf st').size<=1
   ·refine aG c2 ?_;exact Qx ⟨rfl,rs,J,by exact xS pl c2⟩
   refine aF c2 ?_
   extract_lets i bf j
   have hj:j+1<rs.length:=by
    have h1:j=i-1\/j=i:=by
     show (if _ then i-1 else i)=i-1\/(if _ then i-1 else i)=i
     split
     ·exact .inl rfl
     exact .inr rfl
    exact xh h1 c2 pl
   obtain⟨u,X,Y,v,rfl,ul⟩:=ql hj
   clear_value j
   subst ul;refine Qq (fA hL ha J λZ st4 lz J4=>?_);refine aF Qh ?_;refine Qx ⟨rfl,_,J4,?_⟩;simp only[Qg,QC]at l ⊢;omega
  ·rintro c st' ⟨rfl,rs,J,l⟩;exact⟨rfl,rs,J,by exact xR zz l⟩
  rintro c st' ⟨rfl,rs,J,l⟩;refine Qx (h st' J.perm J.fail ?_);rw[J.arr,XD]
  match rs,l,J.ok with
  | [],_,_=>exact List.Pairwise.nil
  | [r],_,ok=>simpa using(ok r (by simp)).2
end
end Tm
namespace Tm
open PySem PySem.Spec PyProof.Rows
def leV (κ:PyProof.Rows.KeyKind) (u v:Value):Prop:=le κ (u,u) (v,v)
theorem ju {vs:List Value} {p:Keyed} (h:p∈vs.zip vs):p.1=p.2/\p.1∈vs:=by
 obtain⟨i,hi,e⟩:=Q2.mp h;rw[List.getElem_zip]at e;subst e;exact⟨rfl,Xv _⟩
theorem qS {κ:PyProof.Rows.KeyKind} {vs:List Value} {xs:Array Keyed} (hp:xs.Perm (pairsOf vs)) (hs:xs.toList.Pairwise (le κ)):((xs.map (·.2)).toList).Perm vs/\((xs.map (·.2)).toList).Pairwise (leV κ):=by
 have hl:xs.toList.Perm (vs.zip vs):=by rw[<-pairsOf_toList];exact Array.perm_iff_toList_perm.mp hp
 have self:∀p∈xs.toList,p.1=p.2:=λp h=>(ju (hl.mem_iff.mp h)).1
 have e:vs=(vs.zip vs).map (·.2):=by
  rw[List.map_snd_zip];exact Qi _
 refine⟨?_,?_⟩
 ·rw[Array.toList_map]
  conv=>rhs;rw[e]
  exact hl.map _
 rw[Array.toList_map,Q1];refine hs.imp_of_mem λ{a b} ha hb h=>?_;have h1:=self a ha;have h2:=self b hb;unfold leV le kv at *;rw[<-h1,<-h2];exact h
section
variable {prog:Program} {w:World} {A:Around} {E:B0} {s:Shared}
structure Can (prog:Program) (w:World) (up:Around->Prop) (κ:PyProof.Rows.KeyKind) (kd:SortKind) (h:Heap) (a:Addr) (vs:List Value):Prop where
 key:∀v∈vs,∃x,κ.keyOf v=some x
 lt:∀(A:Around) (s:Shared),up A->(∀b o,b≠a->h.get? b=some o->s.heap.get? b=some o)->fL κ kd prog w A s
 kind:2<=vs.length->∀(A:Around) (E:B0) (s:Shared) (Q:SortKind->Shared->Prop),(∀b o,b≠a->h.get? b=some o->s.heap.get? b=some o)->Q kd s->wpAny (model prog w) A (keyKind' vs.toArray) Q E s
variable {a b d:Addr}
theorem gu {up:Around->Prop} {κ:PyProof.Rows.KeyKind} {kd:SortKind} {vs:List Value} {n:Nat} {P:Fin->Shared->Prop} (ho:s.heap.get? a=some (seqObj "list" vs.toArray n)) (c:Can prog w up κ kd s.heap a vs) (hu:up A) (hn:vs.length<=100000)
  (h:∀out:Array Value,out.toList.Perm vs->out.toList.Pairwise (leV κ)->P (.done (.ret .none)) { s with heap:=sortedHeap s.heap a vs out }):wpAny (model prog w) A (Builtin.«list.sort» ⟨[.ref a],[]⟩) P E s:=by
 rw[list_sort_plain];have ha:a<s.heap.objs.size:=Qs ho;refine Qa (listItems_at ho rfl (Qa (listUpdate_at ho rfl ?_)));obtain⟨e1,ho1⟩:∃e1,(s.heap.update a (Obj.mapSeq λ_=>#[])).get? a=some (seqObj "list" #[] e1):=⟨_,get?_update_seq ho (λ_=>#[])⟩;refine Qa (seqEpoch_at ho1 rfl (Qa (wpAny_newTuple (Qa (wpAny_newList (Xm ?_))) (by rw[sizeLine_eq];show vs.length<=_;exact uL hn))))
 have keep:∀b o,b≠a->s.heap.get? b=some o->(((s.heap.update a (Obj.mapSeq λ_=>#[])).push (seqObj "tuple" vs.toArray 0)).push (seqObj "list" #[] 0)).get? b=some o:=λb o hb e =>
  Qd _ (Qd _ ((Q9 _ _ (Ne.symm hb)).trans e))
 have ho6:(((s.heap.update a (Obj.mapSeq λ_=>#[])).push (seqObj "tuple" vs.toArray 0)).push (seqObj "list" #[] 0)).get? a=some (seqObj "list" #[] e1):=Qd _ (Qd _ ho1);show wpAny (model prog w) A _ P E { s with heap:=((s.heap.update a (Obj.mapSeq λ_=>#[])).push (seqObj "tuple" vs.toArray 0)).push (seqObj "list" #[] 0) };dsimp only;have zs:vs.toArray.size=vs.length:=by simp
 by_cases c2:vs.toArray.size<2
 ·rw[Qu c2,Qu c2];refine Qa (Qf ?_);rw[StateT.run_pure];refine Qa (Qf (Qa (seqEpoch_at ho6 rfl (Qa (listUpdate_at ho6 rfl ?_ (hsz2:=by rw[Array.size_map];show (pairsOf vs).size<=_;rw[pairsOf_size,sizeLine_eq];exact xQ hn zs c2))))));simp only[bne_self_eq_false,QX,if_false]
  have sh:(pairsOf vs).toList.Pairwise (le κ):=by
   rw[pairsOf_toList]
   match vs,zs,c2 with
   | [],_,_=>exact List.Pairwise.nil
   | [v],_,_=>exact List.pairwise_singleton _ _
   | v::u::r,zs,c2=>exact absurd c2 (by simp)
  obtain⟨p1,p2⟩:=qS (Array.Perm.refl _) sh;exact Qf (h _ p1 p2)
 rw[Qt c2,Qt c2];refine Qa (c.kind (by exact xP hn zs c2) _ _ _ _ keep ?_)
 refine Qa (XQ (pR (κ:=κ) (kd:=kd) (a₀:=pairsOf vs) (st:=SortSt.mk' kd (vs.toArray.zip vs.toArray) #[] 7 none) (Q:=λ_ st'=>(arrOf st').Perm (pairsOf vs)/\failedOf st'=none/\(arrOf st').toList.Pairwise (le κ))
  (c.lt _ _ hu keep) (λp hp=>?_) ⟨rfl,Array.Perm.refl _,λr hr=>(nomatch hr),rfl,rfl,rfl⟩ λst' a1 a2 a3=>⟨a1,a2,a3⟩) ?_ λ_ _ e=>e)
 ·rw[pairsOf_toList]at hp;exact c.key _ (ju hp).2
 rintro⟨⟨⟩,st'⟩ s' ⟨rfl,hp,hf,hs⟩;dsimp only;refine Qa (seqEpoch_at ho6 rfl (Qa (listUpdate_at ho6 rfl ?_ (hsz2:=by refine QO (Nat.le_of_eq ((Array.size_map ..).trans (hp.size_eq.trans (pairsOf_size _)))) ?_;rw[sizeLine_eq];exact xO hn zs c2))));rw[hf];simp only[bne_self_eq_false,QX,if_false];obtain⟨p1,p2⟩:=qS hp hs;exact Qf (h _ p1 p2)
theorem dg {h:Heap} {vs:List Value} {out:Array Value} {o:Obj} (hb:b≠a) (e:h.get? b=some o):(sortedHeap h a vs out).get? b=some o:=by
 unfold sortedHeap;exact(Q9 _ _ (Ne.symm hb)).trans (Qd _ (Qd _ ((Q9 _ _ (Ne.symm hb)).trans e)))
theorem dN {h:Heap} {vs:List Value} {out:Array Value} {n:Nat} (e:h.get? a=some (seqObj "list" vs.toArray n)):∃m,(sortedHeap h a vs out).get? a=some (seqObj "list" out m):=by
 unfold sortedHeap;exact⟨_,get?_update_seq (Qd _ (Qd _ (get?_update_seq e (λ_=>#[])))) (λ_=>out)⟩
theorem oH {up:Around->Prop} {κ:Heap->PyProof.Rows.KeyKind} {kd:SortKind} {r:Value} {Q:B0} {G:Heap->List Value->Prop}
  (col:∀(A:Around) (E:B0) (R:List Value->Shared->Prop),A.handled=none->(∀h' tk vs,(∀b o,s.heap.get? b=some o->h'.get? b=some o)->s.heap.objs.size<=h'.objs.size->G h' vs->R vs { s with heap:=h',toks:=tk })->wpAny (model prog w) A (collect r) R E s)
  (hh:A.handled=none) (hu:up A.in1.in1) (can:∀h' vs D,(∀b o,s.heap.get? b=some o->h'.get? b=some o)->G h' vs->D=h'.objs.size->vs.length<=100000/\Can prog w up (κ h') kd (h'.push (seqObj "list" vs.toArray 0)) D vs)
  (h:∀D h' tk vs h1 (out:Array Value) m,(∀b o,s.heap.get? b=some o->h1.get? b=some o)->G h1 vs->(∀b o,h1.get? b=some o->h'.get? b=some o)->s.heap.objs.size<=D->h1.objs.size<=D->h'.get? D=some (seqObj "list" out m)->out.toList.Perm vs->out.toList.Pairwise (leV (κ h1))->Q (.ref D) { s with heap:=h',toks:=tk }) :
  wpAny (model prog w) A (call (.builtin "sorted") [r]) Q E s:=by
 refine Calls.call_function_entry kind_sorted plain_sorted entry_sorted (args_sorted1 _) ?_;unfold Builtin.«sorted»;refine Qa (m:=checkCount "sorted" 1 1 _) (Qf ?_);refine Qa (col A.in1 E _ hh λh1 tk vs k1 z1 g1=>?_);obtain⟨len,_⟩:=can h1 vs h1.objs.size k1 g1 rfl;refine Qa (wpAny_newList ?_ (by rw[sizeLine_eq];exact uL len));obtain⟨_,cn⟩:=can h1 vs h1.objs.size k1 g1 rfl;have hoL:(h1.push (seqObj "list" vs.toArray 0)).get? h1.objs.size=some (seqObj "list" vs.toArray 0):=Qv _ rfl;refine Qa (Xm (Xu (s:={ s with heap:=h1.push (seqObj "list" vs.toArray 0),toks:=tk }) slot_list_sort ⟨_,hoL,rfl⟩ entry_list_sort (gu hoL cn hu len λout p1 p2=>⟨_,rfl,?_⟩) (args_list_sort _)));obtain⟨m,at'⟩:=dN (vs:=vs) (out:=out) hoL;exact Qf ⟨_,rfl,h _ _ _ vs h1 out m k1 g1 (λb o e=>dg (QF (Qs e)) (Qd _ e)) z1 (Qi _) at' p1 p2⟩
theorem sI {T:String} {r:Addr} {n:Nat} {P:Nat->Value->Prop} {OK:Heap->Prop} {R:List Value->Shared->Prop} (K:PySem.W.KdlSrc prog w T r d n P OK) (hh:A.handled=none) (ok:OK s.heap) (hn:n<=sizeLine)
  (h:∀(g:Heap) (tk:Nat) (acc:Array Value),(∀b o,s.heap.get? b=some o->g.get? b=some o)->s.heap.objs.size<=g.objs.size->PySem.ItemsOf P acc n->R acc.toList { s with heap:=g,toks:=tk }):wpAny (model prog w) A (collect (.ref r)) R E s:=by
 obtain⟨l1,l2⟩:=K.there _ ok;unfold collect;refine Qa (wpAny_runValue (XH entry_proto_collect' ?_));rw[Xp PySem.F.plain_proto_collect _];refine Qa (wpAny_newObj_type (Qf ⟨plainId_quiet PySem.F.plain_list_iadd _,XH entry_list_iadd' ?_⟩));rw[Xp PySem.F.plain_list_iadd _]
 refine XQ (PySem.W.kdl_extend (A:=A) (s:={ s with heap:=s.heap.push { cls:=.type "list", data:=.seq ([]:List Value).toArray } }) (R:=λq s'=>∃(g:Heap) (tk:Nat) (acc:Array Value) (c:Nat),q=.ok (.ret (.ref s.heap.objs.size))/\s'={ s with heap:=g,toks:=tk } /\
   (∀b o,s.heap.get? b=some o->g.get? b=some o)/\g.get? s.heap.objs.size=some { cls:=.type "list", dict:=none,data:=.seq acc c,slots:=#[] }/\PySem.ItemsOf P acc n)
  K hh (K.keep _ _ ok λb _ o e=>Qd _ e) s.heap.objs.size (Nat.ne_of_gt l1) (Nat.ne_of_gt l2) (.ref s.heap.objs.size) 0 (Qv _ rfl)
  (λg tk acc c k at' it=>⟨g,tk,acc,c,rfl,rfl,λb o e=>k b o (QF (Qs e)) (Qd _ e),at',it⟩) hn) (λfn s' x=>?_) λe s' x=>?_
 ·cases fn with
  | done f =>
   obtain⟨g,tk,acc,c,e,rfl,k,at',it⟩:=x;cases e;exact Qa (wpAny_load at' (Qf (h g tk acc k (Nat.le_of_lt (Qs at')) it)))
  | again c1 =>
   refine⟨x.1,codeAny_mono x.2 λq s2 y=>?_⟩;obtain⟨g,tk,acc,c,rfl,rfl,k,at',it⟩:=y;exact Qa (wpAny_load at' (Qf (h g tk acc k (Nat.le_of_lt (Qs at')) it)))
 obtain⟨_,_,_,_,z,_⟩:=x;cases z
end
end Tm
set_option maxHeartbeats 4000000
namespace Tm
open PySem PySem.Spec PyProof.Rows L2
def kb:Key->Key->Bool
 | .inl i,.inl j=>decide (i<j)
 | .inl _,.inr _=>true
 | .inr _,.inl _=>false
 | .inr x,.inr y=>decide (x.cps.toList<y.cps.toList)
def lb:List Key->List Key->Bool
 | [],[]=>false
 | [],_::_=>true
 | _::_,[]=>false
 | a::as,b::bs=>kb a b || (decide (a=b)&&lb as bs)
theorem ue {x y:Str} (e:x.cps.toList=y.cps.toList):x=y:=by cases x;cases y;exact congrArg Str.mk (Array.toList_inj.mp e)
theorem iW (a:Key):kb a a=false:=by
 cases a with
 | inl i=>exact QE (Int.lt_irrefl _)
 | inr x=>exact QE (List.lt_irrefl _)
theorem wA (a b:Key):kb a b=true\/a=b\/kb b a=true:=by
 cases a with
 | inl i =>
  cases b with
  | inl j =>
   rcases Int.lt_trichotomy i j with h|h|h
   ·exact .inl (QA h)
   ·exact .inr (.inl (by rw[h]))
   exact .inr (.inr (QA h))
  | inr y=>exact .inl rfl
 | inr x =>
 cases b with
 | inl j=>exact .inr (.inr rfl)
 | inr y =>
 by_cases h1:x.cps.toList<y.cps.toList
 ·exact .inl (QA h1)
 by_cases h2:y.cps.toList<x.cps.toList
 ·exact .inr (.inr (QA h2))
 exact .inr (.inl (by rw[ue (List.le_antisymm (List.not_lt.mp h2) (List.not_lt.mp h1))]))
theorem rR {a b c:Key} (h1:kb a b=true) (h2:kb b c=true):kb a c=true:=by
 cases a with
 | inl i =>
  cases c with
  | inr z=>rfl
  | inl k =>
  cases b with
  | inr y=>cases h2
  | inl j=>exact QA (Int.lt_trans (XR h1) (XR h2))
 | inr x =>
 cases b with
 | inl j=>cases h1
 | inr y =>
 cases c with
 | inl k=>cases h2
 | inr z=>exact QA (List.lt_trans (XR h1) (XR h2))
theorem mt:∀l:List Key,lb l l=false
 | []=>rfl
 | a::l=>by unfold lb;rw[iW,mt l];simp
theorem mo:∀x y:List Key,lb x y=true\/x=y\/lb y x=true
 | [],[]=>.inr (.inl rfl)
 | [],_::_=>.inl rfl
 | _::_,[]=>.inr (.inr rfl)
 | a::x,b::y=>by
  unfold lb;rcases wA a b with h|rfl|h
  ·exact .inl (by rw[h];rfl)
  ·rcases mo x y with h|rfl|h
   ·exact .inl (by rw[h];simp)
   ·exact .inr (.inl rfl)
   exact .inr (.inr (by rw[h];simp))
  exact .inr (.inr (by rw[h];rfl))
theorem gv:∀{x y z:List Key},lb x y=true->lb y z=true->lb x z=true
 | [],_,[],h1,h2=>by cases h2':(‹List Key›) with
  | nil=>rw[h2']at h1;cases h1
  | cons _ _=>rw[h2']at h2;cases h2
 | [],_,_::_,_,_=>rfl
 | _::_,[],_,h1,_=>by cases h1
 | _::_,_::_,[],_,h2=>by cases h2
 | a::x,b::y,c::z,h1,h2=>by
  unfold lb at h1 h2 ⊢;rw[Bool.or_eq_true,XI,decide_eq_true_eq] at *;rcases h1 with h1|⟨rfl,h1⟩
  ·rcases h2 with h2|⟨rfl,h2⟩
   ·exact .inl (rR h1 h2)
   exact .inl h1
  rcases h2 with h2|⟨rfl,h2⟩
  ·exact .inl h2
  exact .inr ⟨rfl,gv h1 h2⟩
def leK (x y:List Key):Prop:=lb y x=false
theorem kK {x y:List Key} (h1:leK x y) (h2:leK y x):x=y:=by
 rcases mo x y with h|h|h
 ·rw[h2]at h;cases h
 ·exact h
 rw[h1]at h;cases h
noncomputable def wz:PyProof.Rows.KeyOrd where
 α:=List Key
 blt:=lb
 irrefl:=mt
 trans _ _ _ h1 h2:=gv h1 h2
 negTrans a b c h:=by
  rcases mo a b with h1|rfl|h1
  ·exact .inl h1
  ·exact .inr h
  exact .inr (gv h1 h)
 total a b h1 h2:=kK h2 h1
def sh1:Key->Bool
 | .inl _=>false
 | .inr _=>true
def sh2:Key ⊕ List Key->Bool ⊕ List Bool
 | .inl k=>.inl (sh1 k)
 | .inr ks=>.inr (ks.map sh1)
def flat:ak->List Key
 | []=>[]
 | .inl k::r=>k::flat r
 | .inr ks::r=>ks++flat r
theorem fS (a b:Key) (x y:List Key):lb (a::x) (b::y)=(kb a b || (decide (a=b)&&lb x y)):=rfl
theorem mw:∀{x y:List Key} {u v:List Key},x.length=y.length->lb (x++u) (y++v)=(lb x y || (decide (x=y)&&lb u v))
 | [],[],u,v,_=>by simp[lb]
 | a::x,b::y,u,v,h=>by
  rw[List.cons_append,List.cons_append,fS,fS,mw (by simpa using h)];by_cases e:a=b
  ·subst e;simp[iW]
  simp[e]
section
variable {prog:Program} {w:World} {A:Around} {E:B0} {s:Shared}
variable {R:B0}
theorem zY {x y:Key} {u v:Value} (e:sh1 x=sh1 y) (hx:cT x u=true) (hy:cT y v=true) (h:R (.bool (kb x y)) s):wpAny (model prog w) A (compareOp .Lt u v) R E s:=by
 rcases aJ hx with⟨i,t,rfl,rfl⟩|⟨z,t,rfl,rfl⟩
 ·rcases aJ hy with⟨j,t',rfl,rfl⟩|⟨z',t',rfl,rfl⟩
  ·exact lt_int h
  cases e
 rcases aJ hy with⟨j,t',rfl,rfl⟩|⟨z',t',rfl,rfl⟩
 ·cases e
 exact PyProof.Rows.lt_str h
theorem tZ {x y:List Key} {a b:Addr} {P:Fin->Shared->Prop} (e:x.map sh1=y.map sh1) (hx:IsTupleKey (aq prog w) s.heap x a) (hy:IsTupleKey (aq prog w) s.heap y b) (h:P (.done (.ret (.bool (lb x y)))) s) :
  wpAny (model prog w) A (Builtin.«tuple.__lt__» ⟨[.ref a,.ref b],[]⟩) P E s:=by
 have hTb:=hy.typeIs;obtain⟨oa,xs,na,hoa,_,hda,hia⟩:=hx;obtain⟨ob,ys,nb,hob,_,hdb,hib⟩:=hy;show wpAny _ _ (isInstance (.ref b) (.type "tuple") >>= _) _ _ s;refine Qa (wpAny_isInstance hTb isSubtype_tuple_tuple ?_);simp only[Bool.not_true,QX,if_false];refine Qa (wpAny_tupleItemsOf hoa hda ?_);refine Qa (wpAny_tupleItemsOf hob hdb ?_);refine Qa ?_
 have zz:xs.size=ys.size:=by
  have:=congrArg List.length e;rw[Qb,Qb,hia.length,hib.length,Qe,Qe]at this;exact this
 refine wpAny_forIn_list _
  (λrest r s'=>r.1=none/\s'=s/\∃x' y' xs' ys',rest=List.zip xs' ys'/\ItemsAre (aq prog w) x' xs'/\ItemsAre (aq prog w) y' ys'/\lb x' y'=lb x y/\x'.map sh1=y'.map sh1)
  _ ?_ ?_ _ _ ⟨rfl,rfl,x,y,xs.toList,ys.toList,rfl,hia,hib,rfl,e⟩
 ·rintro⟨u,v⟩ rest r s' ⟨hr,rfl,x',y',xs',ys',hz,hx',hy',hdec,hsh⟩
  cases hx' with
  | nil=>simp at hz
  | @cons k1 u' x'' xs'' h1 hx'' =>
  cases hy' with
  | nil=>simp at hz
  | @cons k2 v' y'' ys'' h2 hy'' =>
  simp only[List.zip_cons_cons,List.cons.injEq,Prod.mk.injEq]at hz;obtain⟨⟨rfl,rfl⟩,rfl⟩:=hz;rw[Qo,Qo]at hsh;injection hsh with s1 s2;refine Qa ((aq prog w).eqBool (a:=k1) (b:=k2) h1 h2 ?_);by_cases hk:k1=k2
  ·subst hk;rw[QA rfl];simp only[Bool.not_true,QX,if_false];refine Qf ⟨rfl,rfl,x'',y'',xs'',ys'',rfl,hx'',hy'',?_,s2⟩;rw[<-hdec]
   conv=>rhs;unfold lb
   rw[iW];simp
  rw[QE hk];simp only[Bool.not_false,if_true];have hf:lb x y=kb k1 k2:=by rw[<-hdec];unfold lb;simp[hk]
  rw[hf]at h;refine Qa (wpAny_rule (Qa ?_));refine zY s1 h1 h2 ?_;exact Qa (Qf (Qf (Qf h)))
 rintro⟨r1,r2⟩ s' ⟨hr,rfl,x',y',xs',ys',hz,hx',hy',hdec,hsh⟩;simp only at hr;subst hr;refine Qf ?_
 have e0:lb x y=false:=by
  rw[<-hdec]
  cases hx' with
  | nil=>cases hy' with
   | nil=>rfl
   | cons _ _=>cases hsh
  | cons _ _=>cases hy' with
   | nil=>cases hsh
   | cons _ _=>simp at hz
 rw[e0]at h;have:Builtin.Tuple.tupleCompareSizes .Lt xs.size ys.size=.bool false:=by rw[zz];simp[Builtin.Tuple.tupleCompareSizes]
 show P (.done (.ret (Builtin.Tuple.tupleCompareSizes .Lt xs.size ys.size))) s';rw[this];exact h
theorem vi {x y:List Key} {a b:Addr} (hu:A.units<cLine) (e:x.map sh1=y.map sh1) (hx:IsTupleKey (aq prog w) s.heap x a) (hy:IsTupleKey (aq prog w) s.heap y b) (h:R (.bool (lb x y)) s) :
  wpAny (model prog w) A (compareOp .Lt (.ref a) (.ref b)) R E s:=by
 show wpAny _ _ (richCompare .Lt _ _) _ _ _;exact wpAny_richCompare_same_room (op:=.Lt) hx.typeIs hy.typeIs F.slot_tuple_lt (Xu F.slot_tuple_lt hx.typeIs F.entry_tuple_lt (tZ e hx hy ⟨_,rfl,(λe=>nomatch e),h⟩) (F.args_tuple_lt_2 _ _)) hu
theorem rS {x y:ak} {xs ys:List Value} {b:Bool} {Q:Bool->Shared->Prop} (hu:A.units<cLine) (hx:TK.Its (aq prog w) s.heap x xs) (hy:TK.Its (aq prog w) s.heap y ys) (e:x.map sh2=y.map sh2):∀i,(i=0->b=true->∃k r,x=.inl (.inr k)::r)->Q (lb (flat x) (flat y)) s ->
  PySem.W.KatLex prog w A b false Q (xs.zip ys) i s:=by
 induction hx generalizing y ys with
 | nil =>
  cases hy with
  | nil=>intro i _ q;exact PySem.W.kat_nil q
  | cons _ _=>cases e
 | @cons k1 u x' xs' h1 t1 ih =>
 cases hy with
 | nil=>cases e
 | @cons k2 v y' ys' h2 t2 =>
 intro i hb q;rw[Qo,Qo]at e;injection e with e1 e2;refine PySem.W.kat_cons (TK.it_eq (iR prog w) hu h1 h2 (PySem.W.kat_go (λc=>PySem.W.kat_yes (ih t2 e2 _ (λz=>absurd z (Nat.succ_ne_zero _)) ?_)) (λc=>PySem.W.kat_no ?_)))
 ·obtain rfl:k1=k2:=by simpa using c
  have:lb (flat (k1::x')) (flat (k1::y'))=lb (flat x') (flat y'):=by
   cases k1 with
   | inl k=>show lb (k::flat x') (k::flat y')=_;rw[fS,iW];simp
   | inr ks=>show lb (ks++flat x') (ks++flat y')=_;rw[mw rfl,mt];simp
  rw[this]at q;exact q
 have ne:k1≠k2:=by simpa using c
 cases k1 with
 | inl k =>
  cases k2 with
  | inr js=>cases e1
  | inl j =>
  have hkj:k≠j:=λz=>ne (by rw[z]);have:lb (flat (.inl k::x')) (flat (.inl j::y'))=kb k j:=by show lb (k::flat x') (j::flat y')=_;rw[fS];simp[hkj]
  rw[this]at q;have e1:sh1 k=sh1 j:=Sum.inl.inj e1;by_cases c1:(b&&i==0)=true
  ·rw[c1];rw[XI]at c1;obtain⟨k',r,ek⟩:=hb (by simpa using c1.2) c1.1;injection ek with ek _;injection ek with ek;subst ek;rcases aJ (show cT (.inr k') u=true from h1) with⟨_,_,z,_⟩|⟨_,t,z,rfl⟩
   ·cases z
   cases z;rcases aJ (show cT j v=true from h2) with⟨_,_,rfl,_⟩|⟨z',t',rfl,rfl⟩
   ·cases e1
   exact oneLt_str q
  rw[show (b&&i==0)=false by simpa using c1];exact PySem.W.kat_one _ _ (zY e1 h1 h2 q)
 | inr ks =>
 cases k2 with
 | inl j=>cases e1
 | inr js =>
 obtain⟨a1,rfl,g1⟩:=h1;obtain⟨a2,rfl,g2⟩:=h2;have e1:ks.map sh1=js.map sh1:=Sum.inr.inj e1;have len:ks.length=js.length:=by have:=congrArg List.length e1;simpa using this
 have hkj:ks≠js:=λz=>ne (by rw[z]);have:lb (flat (.inr ks::x')) (flat (.inr js::y'))=lb ks js:=by show lb (ks++flat x') (js++flat y')=_;rw[mw len];simp[hkj]
 rw[this]at q
 have c1:(b&&i==0)=false:=by
  cases c1:(b&&i==0) with
  | false=>rfl
  | true =>
  rw[XI]at c1;obtain⟨k',r,ek⟩:=hb (by simpa using c1.2) c1.1;cases ek
 rw[c1];exact PySem.W.kat_one _ _ (vi hu e1 g1 g2 q)
end
def kN (bs:B3) (tk:Addr->ak):PyProof.Rows.KeyKind:={ wz with
 keyOf:=λv=>match v with
  | .ref b=>if b∈bs then some (flat (tk b)) else none
  | _=>none
 dflt:=[] }
theorem ic {bs:B3} {tk:Addr->ak} {v:Value} {k:List Key} (e:(kN bs tk).keyOf v=some k):∃b,v=.ref b/\b∈bs/\k=flat (tk b):=by
 have no:¬(none:Option (List Key))=some k:=λz=>nomatch z
 cases v with
 | ref b =>
  have e:(if b∈bs then some (flat (tk b)) else none)=some k:=e;by_cases c:b∈bs
  ·rw[Qu c]at e;exact⟨b,rfl,c,(QL e).symm⟩
  rw[Qt c]at e;cases e
 | _=>exact absurd e no
theorem eM {bs:B3} (tk:Addr->ak) {b:Addr} (h:b∈bs):(kN bs tk).keyOf (.ref b)=some (flat (tk b)):=Qu h
def Shp (b:Bool) (bs:B3) (tk:Addr->ak):Prop:=(∀a∈bs,∀c∈bs,(tk a).map sh2=(tk c).map sh2)/\∀a∈bs,if b=true then ∃k r,tk a=.inl (.inr k)::r else ∃k r,tk a=.inr k::r
section
variable {prog:Program} {w:World}
theorem bQ {h h':Heap} {k:ak} {a:Addr} (x:TK.IsT (aq prog w) h k a) (ks:∀b o,h.get? b=some o->o.cls=.type "tuple" -> h'.get? b=some o):TK.IsT (aq prog w) h' k a:=by
 obtain⟨o,items,n,h1,h2,h3,h4⟩:=x;refine⟨o,items,n,ks _ _ h1 h2,h2,h3,h4.imp λk v q=>?_⟩
 cases k with
 | inl k=>exact q
 | inr ks' =>
 obtain⟨c,e,o,items,n,h1,h2,h3,h4⟩:=q;exact⟨c,e,o,items,n,ks _ _ h1 h2,h2,h3,h4⟩
theorem k5 {h:Heap} {a:Addr} {o:Obj} {bs:B3} {tk:Addr->ak} {b:Bool} (ho:h.get? a=some o) (hc:o.cls≠.type "tuple") (p:∀c∈bs,TK.IsT (aq prog w) h (tk c) c) (sp:Shp b bs tk) :
  Can prog w (λA=>A.units<cLine) (kN bs tk) (tuples' b) h a (bs.map Value.ref) where
 key v hv:=by
  obtain⟨c,hc,rfl⟩:=Qn.mp hv;exact⟨_,eM tk hc⟩
 lt A s hu ks:=by
  intro E x y k1 k2 Q h1 h2 q;obtain⟨c1,rfl,m1,rfl⟩:=ic h1;obtain⟨c2,rfl,m2,rfl⟩:=ic h2;have kp:∀b o',h.get? b=some o'->o'.cls=.type "tuple" -> s.heap.get? b=some o':=λb o' e ec=>ks _ _ (λz=>by rw[z,ho]at e;cases e;exact hc ec) e;obtain⟨o1,i1,n1,g1,_,d1,t1⟩:=bQ (p c1 m1) kp;obtain⟨o2,i2,n2,g2,_,d2,t2⟩:=bQ (p c2 m2) kp;have e:=sp.1 _ m1 _ m2
  have ez:decide (i1.size<i2.size)=false:=by
   have l1:∀{k:ak} {vs:List Value},TK.Its (aq prog w) s.heap k vs->k.length=vs.length:=by
    intro k vs q
    induction q with
    | nil=>rfl
    | cons _ _ ih=>simp[ih]
   have:=congrArg List.length e;rw[Qb,Qb,l1 t1,l1 t2,Qe,Qe]at this;rw[this];exact QE (Nat.lt_irrefl _)
  refine PySem.W.kat_lt g1 d1 g2 d2 ?_;rw[ez];refine rS hu t1 t2 e 0 (λ_ hb=>?_) q;have:=sp.2 _ m1;rw[Qu hb]at this;exact this
 kind h2 A E s Q ks hq:=by
  have kp:∀b o',h.get? b=some o'->o'.cls=.type "tuple" -> s.heap.get? b=some o':=λb o' e ec=>ks _ _ (λz=>by rw[z,ho]at e;cases e;exact hc ec) e
  have all:∀{l:B3},(∀c∈l,c∈bs)->∃fs:List Value,fs.length=l.length/\PySem.W.KatTups s.heap (l.map Value.ref) fs/\∀f∈fs,PySem.W.Looks (model prog w) s.heap (typeOf f) (.type (if b=true then "str" else "tuple")):=by
   intro l
   induction l with
   | nil=>intro _;exact⟨[],rfl,.nil,λf hf=>nomatch hf⟩
   | cons c l ih =>
   intro hl;obtain⟨fs,z1,z2,z3⟩:=ih λc h=>hl c (Qj _ h);have hcb:=hl c (by simp);obtain⟨o1,i1,n1,g1,cl,d1,t1⟩:=bQ (p c hcb) kp;have sp2:=sp.2 c hcb
   cases b with
   | true =>
    rw[Qu rfl]at sp2 ⊢;obtain⟨k,r,ek⟩:=sp2;rw[ek]at t1;generalize hv:i1.toList=vs at t1
    cases t1 with
    | @cons _ v _ vs h1 _ =>
    rcases aJ (show cT (.inr k) v=true from h1) with⟨_,_,z,_⟩|⟨_,t,z,rfl⟩
    ·cases z
    refine⟨_::fs,by simp[z1],.cons g1 cl d1 (by rw[<-Qm,hv];rfl) z2,λf hf=>?_⟩;rcases Qw.mp hf with rfl|hf
    ·exact PySem.W.Looks.of_pure rfl
    exact z3 f hf
   | false =>
   rw[Qt Qh]at sp2 ⊢;obtain⟨k,r,ek⟩:=sp2;rw[ek]at t1;generalize hv:i1.toList=vs at t1
   cases t1 with
   | @cons _ v _ vs h1 _ =>
   obtain⟨c',rfl,o2,i2,n2,g2,cl2,_⟩:=h1;refine⟨_::fs,by simp[z1],.cons g1 cl d1 (by rw[<-Qm,hv];rfl) z2,λf hf=>?_⟩;rcases Qw.mp hf with rfl|hf
   ·exact λA Q E s' k q=>wpAny_typeOf_ref (k _ _ g2) (by rw[cl2];exact q)
   exact z3 f hf
  obtain⟨fs,l,kt,hf⟩:=all (l:=bs) λ_ h=>h;rw[Qb]at h2;refine PySem.W.kat_kind (T:=.type (if b=true then "str" else "tuple")) kt (by omega) hf (by cases b <;> decide) ?_;have:(Value.type (if b=true then "str" else "tuple") != Value.type "tuple")=b:=by cases b <;> decide
  rw[this];exact hq
end
end Tm
namespace LZ
open PySem
section
variable {prog:Program} {w:World} {A:Around} {E:B0} {s:Shared}
abbrev IsZ (h:Heap) (z TI TO:Addr) (f0:Value) (f1:Bool):Prop :=
 h.get? z=some { cls:=.type "zip", dict:=none,data:=.fields #[f0,.bool f1,.bool false,.ref TI,.ref TO],slots:=#[] }
structure Apart5 (z TI TO i1 i2 l:Addr):Prop where
 TIz:TI≠z
 TOz:TO≠z
 i1z:i1≠z
 i2z:i2≠z
 TITO:TI≠TO
 TIi1:TI≠i1
 TIi2:TI≠i2
 TOi1:TO≠i1
 TOi2:TO≠i2
 i12:i1≠i2
 lz:l≠z
 lTO:l≠TO
 li1:l≠i1
 li2:l≠i2
end
structure ApartD (z TI TO i1 i2 l d:Addr):Prop extends Apart5 z TI TO i1 i2 l where
 dz:d≠z
 dTI:d≠TI
 dTO:d≠TO
 di1:d≠i1
 di2:d≠i2
 dl:d≠l
structure ZS (h:Heap) (z TI TO i1 i2 l d:Addr) (ty:String) (x:Str) (t:Tok) (xs:Array Value) (k:Nat):Prop where
 zf:(IsZ h z TI TO .none false/\∃a b,IsPair h TO a b)\/∃(T:Addr) (f1:Bool) (oT:Obj),IsZ h z TI TO (rawInt (T:Nat)) f1/\h.get? T=some oT/\T≠z/\T≠i1/\T≠i2/\T≠d
 ti:IsPair h TI (.ref i1) (.ref i2)
 a1:h.IsListIter i1 l k
 a2:h.IsStrIter i2 ty x t k
 li:h.IsList l xs
section
variable {prog:Program} {w:World} {K:Type} [DecidableEq K] {knd:KeyKind prog w K} {A:Around} {R:Result->Shared->Prop}
end
end LZ
namespace L2
open PySem PySem.Spec PyProof.Rows
theorem paired_get {α β:Type} {F:α->β->Prop}:∀{xs:List α} {ys:List β},xs.length=ys.length->(∀(j:Nat) x y,xs[j]?=some x->ys[j]?=some y->F x y)->Paired F xs ys
 | [],[],_,_=>.nil
 | x::xs,y::ys,hl,h=>.cons (h 0 x y rfl rfl) (paired_get (by simpa using hl) λj a b e1 e2=>h (j+1) a b (by simpa using e1) (by simpa using e2))
section
variable {X:Cx} {a b:Expr} {ta:TA} {p1 p2 pos1 pos2:Pos}
end
end L2
namespace LZ
open PySem
section
variable {prog:Program} {w:World} {A:Around} {E:B0} {s:Shared}
end
section
variable {prog:Program} {w:World} {K:Type} [DecidableEq K] {knd:KeyKind prog w K} {A:Around} {R:Result->Shared->Prop}
def jm (h:Heap) (xs:Array Value) (ka va:Nat->Value) (it d:Addr):Prop:=∀k,k<xs.size->∃(T:Addr) (o:Obj) (n:Nat),xs[k]?=some (.ref T)/\h.get? T=some o/\o.cls=.type "tuple" /\ o.data=.seq #[ka k,va k] n/\T≠it/\T≠d
theorem jm.keep {h h':Heap} {xs:Array Value} {ka va:Nat->Value} {it d:Addr} (p:jm h xs ka va it d) (hk:∀c o,c≠it->c≠d->h.get? c=some o->h'.get? c=some o):jm h' xs ka va it d:=λk hlt =>
 let ⟨T,o,n,e1,e2,e3,e4,e5,e6⟩:=p k hlt;⟨T,o,n,e1,hk T o e5 e6 e2,e3,e4,e5,e6⟩
end
end LZ
namespace L2
open PySem PySem.Spec PyProof.Rows
section
variable {X:Cx} {a:Expr} {ta:TA} {p1 pos1:Pos}
end
end L2
namespace LS
open PySem PySem.Spec PyProof.Rows
def Led (w:World) (t:SetTable) (n:Nat):Prop:=w.params.followText "set-order" = true\/(t.led=true/\(n≠0->t.plain=false))
theorem oG (t:SetTable) (n:Nat):(t.orStandIn n).led=t.led/\(t.plain=false->(t.orStandIn n).plain=false):=by
 unfold SetTable.orStandIn
 split
 ·exact⟨rfl,id⟩
 exact⟨rfl,λ_=>rfl⟩
theorem my (t:SetTable) (es:Array (Int × Value)) (h:Int) (x:Value):(layNew t es h x).2.1.led=t.led/\(t.plain=false->(layNew t es h x).2.1.plain=false):=by
 unfold layNew
 split
 ·exact oG (t.put _).1 _
 exact⟨rfl,λ_=>rfl⟩
theorem rK {m f v:Nat} {l p:Bool} {hs:Array Int} {t:SetTable} {o:Array Nat} (h:SetTable.laid m f v l p hs=some (t,o)):t.led=l/\t.plain=p:=by
 unfold SetTable.laid at h
 cases e:SetTable.layClean m hs with
 | none=>rw[e]at h;cases h
 | some ow=>rw[e]at h;cases h;exact⟨rfl,rfl⟩
theorem oO (t:SetTable) (es:Array (Int × Value)) (n:Nat):(relayAll t es n).2.1.led=t.led/\(t.plain=false->(relayAll t es n).2.1.plain=false):=by
 unfold relayAll
 split
 ·rename_i t' o e
  obtain⟨e1,e2⟩:=rK e;dsimp only
  split
  ·exact⟨e1,λz=>e2.trans z⟩
  exact⟨rfl,λ_=>rfl⟩
 exact⟨rfl,λ_=>rfl⟩
def cw (prog:Program) (w:World) (h:Heap) (a:Addr) (S:Str->Bool) (n:Nat):Prop:=∃o es ep t,h.get? a=some o/\o.ExactSet/\o.data=.set es ep t/\ElemsOf (strKind prog w) es.toList/\(∀k,S k=true↔∃e∈es.toList,(strKind prog w).is k e.2=true)/\es.size<scanBound/\t.fits es.size=true/\es.size=n/\Led w t es.size
section
variable {prog:Program} {w:World} {A:Around} {E:B0} {s:Shared} {a:Addr} {S:Str->Bool} {n:Nat}
variable {es' es:Array (Int × Value)}
theorem cw.put {h:Heap} {o:Obj} {ep:Nat} {t:SetTable} (ho:h.get? a=some o) (hex:o.ExactSet) (hd:o.data=.set es ep t) {t':SetTable}
  (hel:ElemsOf (strKind prog w) es'.toList) (hm:∀k,S k=true↔∃e∈es'.toList,(strKind prog w).is k e.2=true) (hb:es'.size<scanBound) (hf:t'.fits es'.size=true) (hn:es'.size=n) (hl:Led w t' es'.size) :
  (h.update a (Obj.putSet es' t')).get? a=some { o with data:=.set es' (ep+1) t' }/\cw prog w (h.update a (Obj.putSet es' t')) a S n:=by
 obtain⟨g,_⟩:=SetOf_store (knd:=strKind prog w) ho hex hd hel hm hb hf;exact⟨g,_,es',ep+1,t',g,hex,rfl,hel,hm,hb,hf,hn,hl⟩
theorem ur {k:Str} {tok:Tok} {Q:Bool->Shared->Prop} (hS:cw prog w s.heap a S n) (hroom:n+1<scanBound)
  (h:∀h' b,Heap.SameBut a s.heap h'->cw prog w h' a (λk'=>S k' || decide (k'=k)) (if S k then n else n+1)->Q b { s with heap:=h' }) :
  wpAny (model prog w) A (setAddHashed a (.str k tok) ((strKind prog w).hash k)) Q E s:=by
 obtain⟨o,es,ep,t,ho,hex,hd,hel,hm,hb,hf,hn,hl⟩:=hS;have hkey:(strKind prog w).is k (.str k tok)=true:=strKind_is _ _ _ _;have hsc:(Value.str k tok).scannable=true:=rfl;unfold setAddHashed setAddHashedIn;refine Xm (Qa (Xc ho hd hf ?_));dsimp only;rw[byScan_of hsc hb hel];simp only[↓reduceIte];unfold setAddByScan;refine Qa (Qa (wpAny_rule (Qa (wpAny_setScan_of hkey ho hd hf hel ?_))))
 cases hr:List.findIdx? (λe=>(strKind prog w).is k e.2) es.toList with
 | some j =>
  dsimp only;obtain⟨hj,hpj,_⟩:=List.findIdx?_eq_some_iff_getElem.mp hr;have hk:S k=true:=(hm k).mpr ⟨_,Xv hj,hpj⟩;refine Qf (Qf (h s.heap _ (Heap.SameBut.refl a s.heap) ⟨o,es,ep,t,ho,hex,hd,hel,λk'=>?_,hb,hf,by rw[hk];exact hn,hl⟩));rw[Bool.or_eq_true,decide_eq_true_eq,<-hm k'];exact⟨λz=>z.elim id λe=>e▸hk,.inl⟩
 | none =>
 dsimp only
 have hk:S k=false:=by
  cases hk:S k with
  | false=>rfl
  | true=>obtain⟨e,he,hp⟩:=(hm k).mp hk;have:=List.findIdx?_eq_none_iff.mp hr e he;rw[hp]at this;exact Bool.noConfusion this
 have hperm:=layNew_perm t es ((strKind prog w).hash k) (.str k tok);have hfits:=layNew_fits t es ((strKind prog w).hash k) (.str k tok);obtain⟨l1,l2⟩:=my t es ((strKind prog w).hash k) (.str k tok);generalize hL:layNew t es ((strKind prog w).hash k) (.str k tok)=L at hperm hfits l1 l2 ⊢;obtain⟨es1,t1,wasDummy,gave⟩:=L;dsimp only at hperm hfits l1 l2 ⊢;rw[Array.toList_push]at hperm;have hel1:=(hel.push hkey hsc).perm hperm;have hm1:∀k',(S k' || decide (k'=k))=true↔∃e∈es1.toList,(strKind prog w).is k' e.2=true:=mem_push_iff hkey hm hperm;have hz:es1.size=n+1:=by rw[<-Qe,hperm.length_eq,Qg,Qe,hn];rfl
 have hb1:es1.size<scanBound:=by rw[hz];exact hroom
 rw[hk]at h
 have tail:∀(t2:SetTable) (s1:Shared) (g:Bool->Sem Unit),(∀(b:Bool) (s₁:Shared) (Q':Unit->Shared->Prop),Q' () s₁->wpAny (model prog w) A (g b) Q' E s₁)->s1=s->t2.fits es1.size=true->Led w t2 es1.size ->
   wpAny (model prog w) A (do
    storeSet a es1 t2
    if (!wasDummy&&t2.tooFull)=true then do
      g (relayAll t2 es1 (SetTable.grown es1.size)).2.2
      storeSet a (relayAll t2 es1 (SetTable.grown es1.size)).1 (relayAll t2 es1 (SetTable.grown es1.size)).2.1
      pure (some true)
     else pure (some true)) (λr s'=>∃h' b,r=some b/\s'={ s with heap:=h' }/\Heap.SameBut a s.heap h'/\cw prog w h' a (λk'=>S k' || decide (k'=k)) (n+1)) E s1:=λt2 s1 g hg e f2 d2=>by
  subst e;refine Qa (wpAny_storeSet_of ho hd ?_ (fits_of_scanBound hb1));obtain⟨ho1,q1⟩:=cw.put ho hex hd hel1 hm1 hb1 f2 hz d2;have k1:=Q8 s1.heap a (Obj.putSet es1 t2)
  split
  ·have hp:=relayAll_perm t2 es1 (SetTable.grown es1.size);have hfr:=relayAll_fits t2 es1 (SetTable.grown es1.size);obtain⟨r1,r2⟩:=oO t2 es1 (SetTable.grown es1.size);generalize hRl:relayAll t2 es1 (SetTable.grown es1.size)=Rl at hp hfr r1 r2 ⊢;obtain⟨es2,t3,gave2⟩:=Rl;dsimp only at hp hfr r1 r2 ⊢;have hz2:es2.size=es1.size:=by rw[<-Qe,hp.length_eq,Qe]
   refine Qa (hg _ _ _ (Qa (wpAny_storeSet_of ho1 rfl ?_ (fits_of_scanBound (by rw[hz2];exact hb1)))))
   obtain⟨_,q2⟩:=cw.put (S:=λk'=>S k' || decide (k'=k)) (n:=n+1) ho1 hex rfl (hel1.perm hp) (λk'=>(hm1 k').trans ⟨λ⟨e,he,q⟩=>⟨e,hp.mem_iff.mpr he,q⟩,λ⟨e,he,q⟩=>⟨e,hp.mem_iff.mp he,q⟩⟩) (by rw[hz2];exact hb1) hfr (hz2.trans hz)
    (d2.imp id λz=>⟨r1.trans z.1,λy=>r2 (z.2 (by rw[<-hz2];exact y))⟩)
   exact Qf ⟨_,true,rfl,rfl,k1.trans (Q8 _ a _),q2⟩
  exact Qf ⟨_,true,rfl,rfl,k1,q1⟩
 have fin:∀(r:Option Bool) (s':Shared),(∃h' b,r=some b/\s'={ s with heap:=h' }/\Heap.SameBut a s.heap h'/\cw prog w h' a (λk'=>S k' || decide (k'=k)) (n+1))->∃h' b,r=some b/\s'={ s with heap:=h' }/\Q b s':=λr s' ⟨h',b,e1,e2,e3,e4⟩=>⟨h',b,e1,e2,by rw[e2];exact h h' b e3 (by simpa using e4)⟩
 have gw:∀(b:Bool) {s₁:Shared} {Q':Unit->Shared->Prop},Q' () s₁->wpAny (model prog w) A (match b with|true=>rule "set.scan.the-table-gave-way" | false=>pure ()) Q' E s₁ :=
  λb s₁ Q' hq=>by cases b <;> first|exact Qf hq|exact wpAny_rule hq
 refine Qa (gw _ ?_)
 split
 ·refine Qa ?_;rw[hashByValue_scannable 8 hsc];refine Qf ?_;refine XQ (tail _ s _ ?_ rfl ?_ ?_) (λr s' z=>?_) λ_ _ z=>z
  ·intro b s₁ Q' hq;cases b <;> first|exact Qf hq|exact wpAny_rule hq
  ·exact SetTable.fits_plain_off hfits
  ·exact hl.imp id λz=>⟨l1.trans z.1,λ_=>rfl⟩
  obtain⟨h',b,rfl,rfl,q⟩:=fin r s' z;exact Qf q
 rename_i hp
 refine Qa (Qf ?_);simp only[↓reduceIte];refine XQ (tail _ s _ ?_ rfl hfits ?_) (λr s' z=>?_) λ_ _ z=>z
 ·intro b s₁ Q' hq;cases b <;> first|exact Qf hq|exact wpAny_rule hq
 ·exact hl.imp id λz=>⟨l1.trans z.1,λ_=>by simpa using hp⟩
 obtain⟨h',b,rfl,rfl,q⟩:=fin r s' z;exact Qf q
theorem cw.congr {h:Heap} {S':Str->Bool} {m:Nat} (q:cw prog w h a S n) (e:∀k,S k=S' k) (f:n=m):cw prog w h a S' m:=by
 obtain⟨o,es,ep,t,h1,h2,h3,h4,h5,h6,h7,h8,h9⟩:=q;exact⟨o,es,ep,t,h1,h2,h3,h4,λk=>by rw[<-e k];exact h5 k,h6,h7,h8.trans f,h9⟩
abbrev bare (led:Bool):Obj:={ cls:=.type "set", dict:=none,data:=.set #[] 0 (.fresh 0 0 led) }
theorem cw.bare {h:Heap} (g:h.get? a=some (bare !(w.params.followText "set-order"))):cw prog w h a (λ_=>false) 0 :=
 ⟨_,#[],0,_,g,⟨rfl,rfl,rfl⟩,rfl,fun e he=>by simp at he,fun k=>by simp,by decide,rfl,rfl,by
  unfold Led
  cases e:w.params.followText "set-order" with
  | true=>exact .inl rfl
  | false=>exact .inr ⟨rfl,λz=>absurd rfl z⟩⟩
theorem kY (x:Value) {Q₁:B0} (h:Q₁ (.ref s.heap.objs.size) { s with heap:=s.heap.push (LS.bare !(w.params.followText "set-order")) }) :
  codeAny (model prog w) A (.call (.builtin "set.__new__") ⟨[.type "set", x],[]⟩) (wants Q₁ E) s:=by
 refine codeAny_of_tree ?_;show wpAny _ A.in1 (do checkBuiltinCall "set.__new__" ⟨[.type "set", x],[]⟩;again (.builtin "set.__new__" ⟨[.type "set", x],[]⟩)) _ _ s;refine Qa (wpAny_of_eq (F.newCall_set_1 x) (Qf ⟨plainId_quiet F.plain_set_new _,XH F.entry_set_new ?_⟩));rw[Xp F.plain_set_new _];unfold Builtin.«set.__new__» Builtin.Frozenset.newClass;have hsub:=sub_set_self;obtain⟨hp,g,d,tk,os⟩:=s;dsimp only
 wp_walk
 refine wpAny_askSetting (Qf ?_);dsimp only;simp only[newObj];exact Qa (wpAny_alloc (Qf (Qf h)))
end
theorem bV:Slot "set_iterator" "__next__" "set_iterator.__next__" :=
 .of (owner := "set_iterator") (n := "__next__") (by rw[typeLookup_type,builtinLookup_eq_fast];kernel_rfl) (by decide +kernel) (by decide +kernel) (by decide +kernel)
  (by first|exact .inl (by decide +kernel)|exact .inr (by decide +kernel)) (by rw[isSubtype_type];kernel_rfl)
theorem eu:Slot "set_iterator" "__iter__" "set_iterator.__iter__" :=
 .of (owner := "set_iterator") (n := "__iter__") (by rw[typeLookup_type,builtinLookup_eq_fast];kernel_rfl) (by decide +kernel) (by decide +kernel) (by decide +kernel)
  (by first|exact .inl (by decide +kernel)|exact .inr (by decide +kernel)) (by rw[isSubtype_type];kernel_rfl)
theorem gO:entryFor table "set_iterator.__next__" = some Builtin.«set_iterator.__next__»:=entryFor_of_tree (by kernel_rfl)
theorem gP:entryFor table "set_iterator.__iter__" = some Builtin.«dict_keyiterator.__iter__»:=entryFor_alias (id' := "dict_keyiterator.__iter__") (by kernel_rfl) rfl (by decide +kernel) (by kernel_rfl)
theorem gC:entryFor table "set.__iter__" = some Builtin.«frozenset.__iter__»:=entryFor_alias (id' := "frozenset.__iter__") (by kernel_rfl) rfl (by decide +kernel) (by kernel_rfl)
theorem kg:Manifest.owners.lookup (String.ofList ['r','o','t','a','r','e','t','i','_','t','e','s'].reverse)=some Manifest.sig_set_iterator:=by kernel_rfl
theorem jf (a:Value):argsOk "set_iterator.__next__" ⟨[a],[]⟩:=by
 unfold argsOk;rw[signature?_of (id := "set_iterator.__next__") (n:=['_','_','t','x','e','n','_','_']) (o:=['r','o','t','a','r','e','t','i','_','t','e','s']) (by kernel_rfl) kg];kernel_rfl
theorem jg (a:Value):argsOk "set_iterator.__iter__" ⟨[a],[]⟩:=by
 unfold argsOk;rw[signature?_of (id := "set_iterator.__iter__") (n:=['_','_','r','e','t','i','_','_']) (o:=['r','o','t','a','r','e','t','i','_','t','e','s']) (by kernel_rfl) kg];kernel_rfl
def dA (h:Heap) (it a:Addr) (first:Value) (i n ep:Nat):Prop:=∃o,h.get? it=some o/\o.cls=.type "set_iterator" /\ o.data=.fields #[first,.int i 0,.ref a,.int n 0,.int ep 0]
def cQ (h:Heap) (a:Addr) (es:Array (Int × Value)) (ep:Nat) (t:SetTable):Prop:=∃o,h.get? a=some o/\o.data=.set es ep t/\o.cls=.type "set" /\ t.fits es.size=true
section
variable {prog:Program} {w:World} {A:Around} {E:B0} {s:Shared} {a it:Addr} {es:Array (Int × Value)} {ep:Nat} {t:SetTable} {i:Nat} {first:Value}
variable {n:Nat}
theorem dA.typeIs (h:dA s.heap it a first i n ep):s.TypeIs (.ref it) "set_iterator" := let ⟨o,ho,hc,_⟩:=h;⟨o,ho,hc⟩
theorem dA.at {h h':Heap} (x:dA h it a first i n ep) (e:∀o,h.get? it=some o->h'.get? it=some o):dA h' it a first i n ep:=let ⟨o,ho,r⟩:=x;⟨o,e _ ho,r⟩
theorem cQ.at {h h':Heap} (x:cQ h a es ep t) (e:∀o,h.get? a=some o->h'.get? a=some o):cQ h' a es ep t:=let ⟨o,ho,r⟩:=x;⟨o,e _ ho,r⟩
theorem iZ {Q:B0} (hit:dA s.heap it a first i n ep) (h:Q (.ref it) s):wpAny (model prog w) A (pyIter (.ref it)) Q E s:=by
 refine wpAny_pyIter_slot hit.typeIs eu (Xu eu hit.typeIs gP ?_ (jg _));show wpAny _ _ (ret (.ref it)) _ _ s;exact Qf ⟨_,rfl, "set_iterator", _,hit.typeIs,bV.lookup,h⟩
variable {Q:Option Value->Shared->Prop}
theorem fR (hit:dA s.heap it a first i n ep) (h:wpAny (model prog w) A.in1 (Builtin.«set_iterator.__next__» ⟨[.ref it],[]⟩) (λfin s'=>∃v,fin=Fin.done (Flow.ret v)/\wpAny (model prog w) A (pure (some v)) Q E s')
   (λe s'=>wpAny (model prog w) A (isInstance e (Value.type "StopIteration") >>= λb=>if b=true then pure none else throw e) Q E s') s):wpAny (model prog w) A (pyNext (.ref it)) Q E s :=
 Qa (wpAny_attempt (wpAny_callSpecial?_slot (name:=Str.ofString "__next__") hit.typeIs bV (Xu bV hit.typeIs gO h (jf _))))
theorem qj {h1:Heap} (hh:A.handled=none) (k:Heap.ExtBut it s.heap h1) (h:∀h',Heap.ExtBut it s.heap h'->Q none { s with heap:=h' }) :
  wpAny (model prog w) A.in1 (PySem.newExc (Value.type "StopIteration") [] >>= λe=>raiseNew (α:=Fin) e) (λfin s'=>∃v,fin=Fin.done (Flow.ret v)/\wpAny (model prog w) A (pure (some v)) Q E s')
   (λe s'=>wpAny (model prog w) A (isInstance e (Value.type "StopIteration") >>= λb=>if b=true then pure none else throw e) Q E s') { s with heap:=h1 }:=by
 refine Qa ?_;simp only[PySem.newExc,newTuple];refine Qa (wpAny_newObj_type ?_ (by size_fits));refine Qa (m:=firstArgMember _ _) (wpAny_of_eq (a:=Value.none) (by first|rfl|(simp only[firstArgMember];rfl)) ?_);refine wpAny_newObj_type ?_ (by size_fits);simp only[raiseNew];refine Qa (wpAny_handled ?_);rw[show A.in1.handled=none from hh];refine Qa (Qf (wpAny_throw ?_));refine Qa (wpAny_isInstance (T := "StopIteration") (b:=true) ⟨_,Qv _ rfl,rfl⟩ isSubtype_stop ?_);exact Qf (h _ ((k.push _).push _))
theorem hX {slot next:Nat} {x:Value} (hit:dA s.heap it a (.int slot 0) i es.size ep) (hs:cQ s.heap a es ep t)
  (hw:∀(Q:Option (Value × Nat)->Shared->Prop) (E:B0),Q (some (x,next)) s->wpAny (model prog w) A.in1 (setNext a slot i ep) Q E s)
  (h:∀h',dA h' it a (.int next 0) (i+1) es.size ep->Heap.SameBut it s.heap h'->Q (some x) { s with heap:=h' }):wpAny (model prog w) A (pyNext (.ref it)) Q E s:=by
 obtain⟨o,ho,hc,hd⟩:=id hit;obtain⟨os,hos,hds,_,hf⟩:=id hs;refine fR hit ?_;unfold Builtin.«set_iterator.__next__»;refine Qa (Qf (Qa (wpAny_fieldsOf ho hd ?_)));dsimp only;refine Qa (wpAny_setEntries_of hos hds hf ?_);rw[Qt (by simp)];refine Qa (hw _ _ ?_);dsimp only;refine Qa (wpAny_setField ho hd (by simp) ?_);have h1:=Xe (Obj.mapFields (·.setIfInBounds 0 (rawInt (next:Int)))) ho (Obj.isFreed_of_fields (XY hd _));have d1:=XY hd (·.setIfInBounds 0 (rawInt (next:Int)));refine Qa (wpAny_setField h1 d1 (by simp) ?_);refine Qf ⟨_,rfl,Qf (h _ ⟨_,Xe _ h1 (Obj.isFreed_of_fields (XY d1 _)),(Obj.cls_mapFields ..).trans ((Obj.cls_mapFields ..).trans hc),by rw[XY d1];simp[rawInt]⟩ ((Q8 ..).trans (Q8 ..)))⟩
theorem hZ {slot:Nat} (hh:A.handled=none) (hit:dA s.heap it a (.int slot 0) i es.size ep) (hs:cQ s.heap a es ep t)
  (hw:∀(Q:Option (Value × Nat)->Shared->Prop) (E:B0),Q none s->wpAny (model prog w) A.in1 (setNext a slot i ep) Q E s)
  (h:∀h',Heap.ExtBut it s.heap h'->Q none { s with heap:=h' }):wpAny (model prog w) A (pyNext (.ref it)) Q E s:=by
 obtain⟨o,ho,hc,hd⟩:=id hit;obtain⟨os,hos,hds,_,hf⟩:=id hs;refine fR hit ?_;unfold Builtin.«set_iterator.__next__»;refine Qa (Qf (Qa (wpAny_fieldsOf ho hd ?_)));dsimp only;refine Qa (wpAny_setEntries_of hos hds hf ?_);rw[Qt (by simp)];refine Qa (hw _ _ ?_);dsimp only;refine Qa (wpAny_setField ho hd (by simp) ?_);exact qj hh (Q8 ..).extBut h
theorem mJ {tp:Addr} {pl:List Nat} {p:Nat} {e:Int × Value} (hit:dA s.heap it a (.ref tp) i es.size ep) (hs:cQ s.heap a es ep t) (ht:s.heap.get? tp=some { cls:=.type "tuple", data:=.seq (pl.map λ(i:Nat)=>rawInt i).toArray })
  (hp:pl[i]?=some p) (he:es[p]?=some e) (h:∀h',dA h' it a (.ref tp) (i+1) es.size ep->Heap.SameBut it s.heap h'->Q (some e.2) { s with heap:=h' }):wpAny (model prog w) A (pyNext (.ref it)) Q E s:=by
 obtain⟨o,ho,hc,hd⟩:=id hit;obtain⟨os,hos,hds,_,hf⟩:=id hs;refine fR hit ?_;unfold Builtin.«set_iterator.__next__»;refine Qa (Qf (Qa (wpAny_fieldsOf ho hd ?_)));dsimp only;refine Qa (wpAny_setEntries_of hos hds hf ?_);rw[Qt (by simp)];refine Qa (wpAny_seqItems ht rfl ?_);dsimp only;rw[show (List.map (λ(i:Nat)=>rawInt (i:Int)) pl).toArray[(i:Int).toNat]?=some (rawInt (p:Int)) by rw[Q6,List.getElem?_toArray,QB,hp];rfl];dsimp only[rawInt];unfold setNextDrawn;refine Qa (Qa (Xc hos hds hf ?_));dsimp only;rw[Qt (by simp),Q6,he];refine Qa (Qf (Qf ?_));refine Qa (wpAny_setField ho hd (by simp) ?_);exact Qf ⟨_,rfl,Qf (h _ ⟨_,Xe _ ho (Obj.isFreed_of_fields (XY hd _)),(Obj.cls_mapFields ..).trans hc,by rw[XY hd];simp⟩ (Q8 ..))⟩
theorem mK {tp:Addr} {pl:List Nat} (hh:A.handled=none) (hit:dA s.heap it a (.ref tp) i es.size ep) (hs:cQ s.heap a es ep t) (ht:s.heap.get? tp=some { cls:=.type "tuple", data:=.seq (pl.map λ(i:Nat)=>rawInt i).toArray })
  (hp:pl[i]?=none) (h:∀h',Heap.ExtBut it s.heap h'->Q none { s with heap:=h' }):wpAny (model prog w) A (pyNext (.ref it)) Q E s:=by
 obtain⟨o,ho,hc,hd⟩:=id hit;obtain⟨os,hos,hds,_,hf⟩:=id hs;refine fR hit ?_;unfold Builtin.«set_iterator.__next__»;refine Qa (Qf (Qa (wpAny_fieldsOf ho hd ?_)));dsimp only;refine Qa (wpAny_setEntries_of hos hds hf ?_);rw[Qt (by simp)];refine Qa (wpAny_seqItems ht rfl ?_);dsimp only;have en:(List.map (λ(i:Nat)=>rawInt (i:Int)) pl).toArray[(i:Int).toNat]?=none:=by rw[Q6,List.getElem?_toArray,QB,hp,Option.map_none]
 rw[en];dsimp only;refine Qa (wpAny_setField ho hd (by simp) ?_);have h1:=Xe (Obj.mapFields (·.setIfInBounds 0 (rawInt 0))) ho (Obj.isFreed_of_fields (XY hd _));have d1:=XY hd (·.setIfInBounds 0 (rawInt 0));refine Qa (wpAny_setField h1 d1 (by simp) ?_);have k2:Heap.ExtBut it s.heap ((s.heap.update it (Obj.mapFields (·.setIfInBounds 0 (rawInt 0)))).update it (Obj.mapFields (·.setIfInBounds 2 .none))):=((Q8 s.heap it _).trans (Q8 _ it _)).extBut;exact qj (s:=s) (it:=it) (h1:=(s.heap.update it (Obj.mapFields (·.setIfInBounds 0 (rawInt 0)))).update it (Obj.mapFields (·.setIfInBounds 2 .none))) hh k2 h
end
end LS
set_option maxHeartbeats 1000000
namespace DR
open PySem PySem.Spec PyProof.Rows
abbrev At (h:Heap) (d:Addr) (es:Array DictEntry) (ep:Nat):Prop:=h.get? d=some { cls:=.type "dict", data:=.dict es ep }
abbrev IAt (h:Heap) (it d:Addr) (i n ep:Nat):Prop:=h.get? it=some { cls:=.type "dict_keyiterator", data:=.fields #[.ref d,.int i 0,.int n 0,.int ep 0] }
theorem xa:(if Builtin.Dict_items.ownsTuple ((Manifest.find? "dict_keyiterator").elim "dict_keyiterator" λx=>x.tpName)=true then 2 else 0)=0:=by rw[find?_eq_fast];kernel_rfl
section
variable {prog:Program} {w:World} {A:Around} {E:B0} {s:Shared} {d it:Addr} {es:Array DictEntry} {ep i:Nat}
theorem iter {Q:B0} (hd:(d==sysModules)=false) (hm:At s.heap d es ep)
  (hQ:Q (.ref s.heap.objs.size) { s with heap:=s.heap.push { cls:=.type "dict_keyiterator", data:=.fields #[.ref d,.int 0 0,.int es.size 0,.int ep 0] } }):wpAny (model prog w) A (pyIter (.ref d)) Q E s:=by
 have hT:s.TypeIs (.ref d) "dict" := ⟨_,hm,rfl⟩;refine wpAny_pyIter_slot hT F.slot_dict_iter (Xu F.slot_dict_iter hT F.entry_dict_iter ?_ (F.args_dict_iter_1 _));unfold Builtin.«dict.__iter__» Builtin.Dict.dictSlotNone Builtin.Dict.showsAll
 wp_walk
 exact⟨_,rfl, "dict_keyiterator", _,⟨_,Qv _ rfl,rfl⟩,XW.lookup,hQ⟩
variable {Q:Option Value->Shared->Prop}
theorem nxt (hit:IAt s.heap it d i es.size ep) (hm:At s.heap d es ep) (hi:i<es.size)
  (hQ:∀h',IAt h' it d (i+1) es.size ep->Heap.SameBut it s.heap h'->Q (some es[i].key) { s with heap:=h' }):wpAny (model prog w) A (pyNext (.ref it)) Q E s:=by
 have hT:s.TypeIs (.ref it) "dict_keyiterator" := ⟨_,hit,rfl⟩;refine Qa (wpAny_attempt (wpAny_callSpecial?_slot (name:=Str.ofString "__next__") hT XW (Xu XW hT F.entry_dict_keyiterator_next ?_ (F.args_dict_keyiterator_next_1 _))));unfold Builtin.«dict_keyiterator.__next__»
 wp_walk
 have e:(if (i:Int)<0 then none else es[(i:Int).toNat]?)=some es[i]:=by rw[Qt (by omega),Q6];simp[hi]
 rw[e];dsimp only;have m1:=mroOf_keyiter
 wp_walk
 rw[xa,Qt (by decide +kernel)];exact⟨_,rfl,Qf (hQ _ ((Xe _ hit rfl).trans (by simp[Obj.mapFields,rawInt])) (Q8 ..))⟩
theorem stp (hh:A.handled=none) (hit:IAt s.heap it d i es.size ep) (hm:At s.heap d es ep) (hi:es.size<=i)
  (hQ:∀h',Heap.ExtBut it s.heap h'->Q none { s with heap:=h' }):wpAny (model prog w) A (pyNext (.ref it)) Q E s:=by
 have hT:s.TypeIs (.ref it) "dict_keyiterator" := ⟨_,hit,rfl⟩;refine Qa (wpAny_attempt (wpAny_callSpecial?_slot (name:=Str.ofString "__next__") hT XW (Xu XW hT F.entry_dict_keyiterator_next ?_ (F.args_dict_keyiterator_next_1 _))));unfold Builtin.«dict_keyiterator.__next__»
 wp_walk
 have e:(if (i:Int)<0 then none else es[(i:Int).toNat]?)=none:=by rw[Qt (by omega),Q6];simp[hi]
 rw[e];dsimp only;have m1:=mroOf_keyiter;generalize hN:setField=SF
 wp_walk
 subst hN;refine wpAny_setField hit rfl (by rw[xa];simp) ?_;exact LS.qj hh (Q8 ..).extBut hQ
theorem self {Q:B0} {n:Nat} (hit:IAt s.heap it d i n ep) (h:Q (.ref it) s):wpAny (model prog w) A (pyIter (.ref it)) Q E s:=wpAny_pyIter_keyiter ⟨_,hit,rfl,rfl⟩ h
theorem uw (hh:A.handled=none) (I d:Addr) (hne:d≠I) (es:Array DictEntry) (ep:Nat):Walks prog w A I [I,d] [I] es.size (λi v=>∃e,es[i]?=some e/\v=e.key) (λi h=>IAt h I d i es.size ep/\At h d es ep) where
 sub:=λb hb=>by simp at hb;simp[hb]
 frame:=λ_ _ _ st hk=>⟨hk I (by simp) _ st.1,hk d (by simp) _ st.2⟩
 item:=λi s Q E hi st hQ=>nxt st.1 st.2 hi λh' hit' hs'=>hQ _ h' s.toks ⟨es[i],by simp[hi],rfl⟩ ⟨hit',hs'.extBut d _ hne st.2⟩ λb o hb e=>hs'.extBut b o (λh=>hb (by simp[h])) e
 done:=λs Q E st hQ=>stp hh st.1 st.2 (Qi _) λh' he'=>hQ h' s.toks λb o hb e=>he' b o (λh=>hb (by simp[h])) e
 self:=λ_ _ _ _ st hQ=>self st.1 hQ
theorem src (lo:(d==sysModules)=false):PySem.W.KdlSrc prog w "dict" d d es.size (λi v=>∃e,es[i]?=some e/\v=e.key) (λh=>At h d es ep) where
 type:=λ_ hm=>⟨_,hm,rfl⟩
 there:=λ_ h=>⟨Qs h,Qs h⟩
 keep:=λ_ _ hm hk=>hk d (.inl rfl) _ hm
 notList:=by decide
 notTuple:=by decide
 hint:=λ_ _ _ _ hm hq=>PySem.W.kdl_hint_dict ⟨_,hm,rfl⟩ hq
 iter:=λ_ _ hh hm=>⟨_,_,(λ_ _ hq=>iter lo hm hq),uw hh _ d (QF (Qs hm)) es ep,⟨Qv _ rfl,Qd _ hm⟩⟩
end
end DR
namespace L2
open PySem PySem.Spec PyProof.Rows
variable {H H':Hp}
theorem KIt.inj {x y:Key ⊕ List Key} {v:V} (h1:KIt H x v) (h2:KIt H y v):x=y:=by
 cases x with
 | inl k =>
  cases h1
  cases y with
  | inl j=>rw[rT (show kV k=kV j from h2)]
  | inr js=>obtain⟨c,e,_⟩:=h2;cases k <;> cases e
 | inr ks =>
 obtain⟨c,rfl,h1⟩:=h1
 cases y with
 | inl j=>have e:V.ref c=kV j:=h2;cases j <;> cases e
 | inr js =>
 obtain⟨c2,e,h2⟩:=h2;cases e;rw[h1]at h2;cases iX (HO.tup.inj (QL h2));rfl
variable {b a:Addr} {x y:ak}
theorem bC.inj (h1:bC H x b) (h2:bC H y b):x=y:=by
 obtain⟨vs,e1,p1⟩:=h1;obtain⟨us,e2,p2⟩:=h2;rw[e1]at e2;cases HO.tup.inj (QL e2);clear e1 e2
 induction p1 generalizing y with
 | nil=>cases p2;rfl
 | cons q _ ih=>cases p2 with
  | cons q2 t2=>rw[q.inj q2,ih t2]
abbrev KsA (H:Hp) (bs:B3) (ks:List ak):Prop:=Paired (λb k=>bC H k b) bs ks
theorem KsA.keeps {bs:B3} {ks:List ak} (h:KsA H bs ks) (ht:∀b xs,H b=some (.tup xs)->H' b=some (.tup xs)):KsA H' bs ks:=Paired.mapT h λ_ _ z=>z.keeps ht
open Classical in
noncomputable def cE (H:Hp) (b:Addr):ak:=if h:∃k,bC H k b then h.choose else []
theorem mP {k:ak} (h:bC H k b):cE H b=k:=by
 unfold cE;rw[dif_pos ⟨k,h⟩];exact(Exists.choose_spec (p:=λk=>bC H k b) ⟨k,h⟩).inj h
theorem KsA.tk {bs:B3} {ks:List ak} (h:KsA H bs ks):ks=bs.map (cE H)/\∀b∈bs,bC H (cE H b) b:=by
 induction h with
 | nil=>exact⟨rfl,λb hb=>nomatch hb⟩
 | cons q _ ih =>
 rw[Qo,mP q];refine⟨by rw[<-ih.1],λb hb=>?_⟩;rcases Qw.mp hb with rfl|hb
 ·rw[mP q];exact q
 exact ih.2 b hb
theorem mB {H:Hp}:∀{bs:B3},(∀b∈bs,bC H (cE H b) b)->KsA H bs (bs.map (cE H))
 | [],_=>.nil
 | b::bs,h=>.cons (h b (by simp)) (mB λc hc=>h c (Qj _ hc))
theorem e7:∀(cs:B3),aI (cs.map V.ref) (cs.map Value.ref)
 | []=>.nil
 | _::cs=>.cons rfl (e7 cs)
theorem dS:∀{cs:B3} {us:List Value},aI (cs.map V.ref) us->us=cs.map Value.ref
 | [],_,r=>by
  rw[List.map_nil]at r;cases r;rfl
 | c::cs,_,r=>by
  rw[Qo]at r
  cases r with
  | cons r1 r2=>rw[dS r2,Qo];cases (show _=Value.ref c from r1);rfl
theorem gY {ys:List Value} {l:B3} (h:ys.Perm (l.map Value.ref)):∃l':B3,l'.Perm l/\ys=l'.map Value.ref:=by
 let f:Value->Addr:=λv=>match v with
  | .ref a=>a
  | _=>0
 have e:∀l:B3,(l.map Value.ref).map f=l:=λl=>by rw[Xy];exact List.map_id _
 refine⟨ys.map f,by have:=h.map f;rwa [e]at this,?_⟩;rw[Xy];refine(List.map_id _).symm.trans (List.map_congr_left λv hv=>?_);obtain⟨a,_,rfl⟩:=Qn.mp (h.mem_iff.mp hv);rfl
section
variable {P:Program} {w:World} {H:Hp} {h:Heap} {a:Addr}
theorem mH {kvs:List (ak × V)} (ok:HOk P w H h) (e:Rd H a (.dT kvs)):(a==sysModules)=false/\kvs.length<=sizeLine/\∃(es:Array DictEntry) (ep:Nat) (bs:B3),DR.At h a es ep/\es.toList.map (·.key)=bs.map Value.ref/\KsA H bs (kvs.map (·.1)):=by
 obtain⟨z,y,xs,r,o,es,ep,h1,h2,h3,h4,h5⟩:=(show bi P w H h a (.dT kvs) from qC ok e);refine⟨y,z,es,ep,xs.map (·.2.1),?_,by rw[h4,Xy,Xy];rfl,?_⟩
 ·obtain⟨c,d,dt,sl⟩:=o;obtain⟨e1,e2,e3⟩:=h2;dsimp only at e1 e2 e3 h3;subst e1 e2 e3 h3;exact h1
 clear h4 h5 z e
 induction r with
 | nil=>exact .nil
 | cons q _ ih=>exact .cons q.2.1 ih
end
def Bo (K:PySem.W.Frag) (H:Hp) (l:Addr) (ks:List ak):Prop:=(∃bs:B3,SqL K H l (bs.map V.ref)/\KsA H bs ks)\/∃kvs,Rd H l (.dT kvs)/\kvs.map (·.1)=ks
def pQ (b:Bool) (ks:List ak):Prop:=(∀x∈ks,∀y∈ks,x.map Tm.sh2=y.map Tm.sh2)/\∀x∈ks,if b=true then ∃k r,x=.inl (.inr k)::r else ∃k r,x=.inr k::r
abbrev leF (x y:ak):Prop:=Tm.leK (Tm.flat x) (Tm.flat y)
def lT (K:PySem.W.Frag):List V->Hp->VK->Prop:=λxs H Q=>∃(l:Addr) (ks:List ak) (b:Bool),xs=[.ref l]/\Bo K H l ks/\pQ b ks/\ks.length<=100000 /\
 ∀(p:Addr) (bs':B3) (ks':List ak),H p=none->KsA H bs' ks'->ks'.Perm ks->ks'.Pairwise leF->Q (.ref p) (upd H p (.lst (bs'.map V.ref)))
section
variable {X:Cx}
theorem gI (hc:X.calm=true) (hu:X.A.units+8<cLine):cW X (.builtin "sorted") (lT X.K):=by
 intro pins s U H xs us Q I r h;obtain⟨l,ks,b,rfl,src,sp,hz,q⟩:=h;obtain⟨u,rfl,ru⟩:=cI r;cases ru
 have main:∀bs:B3,KsA H bs ks->(∀(A:Around) (E:B0) (R:List Value->Shared->Prop),A.handled=none->(∀h' tk vs,(∀b o,s.heap.get? b=some o->h'.get? b=some o)->s.heap.objs.size<=h'.objs.size->vs=bs.map Value.ref->R vs { s with heap:=h',toks:=tk })->wpAny (model X.prog X.w) A (collect (.ref l)) R E s) ->
   wpAny (model X.prog X.w) X.A (call (.builtin "sorted") [.ref l]) (EP X pins U Q) X.xe s:=λbs ka col=>by
  obtain⟨ek,tk⟩:=ka.tk;have bl:bs.length=ks.length:=by rw[ek,Qb]
  have mem:∀{c},c∈bs->cE H c∈ks:=λhc=>by rw[ek];exact Qn.mpr ⟨_,hc,rfl⟩
  refine Tm.oH (s:=s) (up:=λA=>A.units<cLine) (κ:=λ_=>Tm.kN bs (cE H)) (kd:=tuples' b) (G:=λ_ vs=>vs=bs.map Value.ref) col (I.ok.hd hc) (show X.A.units+1+1<cLine by omega) (λh' vs D k g hD=>?_) (λD h' tk' vs h1 out m k1 g1 k2 hle hD at' p1 p2=>?_)
  ·subst g;refine⟨by rw[Qb,bl];exact hz,Tm.k5 (o:=seqObj "list" (bs.map Value.ref).toArray 0) (by rw[hD];exact Qv _ rfl) (λz=>absurd (Value.type.inj z) (by decide)) (λc hc=>?_) ⟨λa ha c hc=>sp.1 _ (mem ha) _ (mem hc),λa ha=>sp.2 _ (mem ha)⟩⟩;exact Tm.bQ (dw I.hok (tk c hc)) λb o e _=>Qd _ (k _ _ e)
  subst g1;obtain⟨bs',pm,eo⟩:=gY p1;rw[eo,Q1]at p2;have tk':∀b∈bs',bC H (cE H b) b:=λb hb=>tk b (pm.mem_iff.mp hb)
  have so:(bs'.map (cE H)).Pairwise leF:=by
   rw[Q1];refine p2.imp_of_mem λ{a c} ha hc hq=>?_;have hq:Tm.lb (((Tm.kN bs (cE H)).keyOf (.ref c)).getD []) (((Tm.kN bs (cE H)).keyOf (.ref a)).getD [])=false:=hq;rw[Tm.eM _ (pm.mem_iff.mp ha),Tm.eM _ (pm.mem_iff.mp hc)]at hq;exact hq
  refine⟨.ref D,_,I.laid (o:=.lst (bs'.map V.ref)) (t':=_) (λb o g=>k2 b o (k1 b o g)) hle ⟨by rw[Qb,pm.length_eq,bl,sizeLine_eq];omega,out.toList,m,by rw[eo];exact e7 _,by rw[Array.toArray_toList];exact at'⟩,rfl,q _ bs' _ (I.hok.fresh hle) (mB tk') (by rw[ek];exact pm.map _) so⟩
 rcases src with⟨bs,hl,ka⟩|⟨kvs,rd,ek⟩
 ·obtain⟨its,rv,pl,_⟩:=I.list hl;refine main bs ka λA E R _ hR=>collect_list pl.isList (hR _ _ its (λb o e=>?_) (by rw[Heap.size_update,size_push'];exact Nat.le_succ _) (dS rv)) (by rw[<-rv.length,Qb,Xf ka,sizeLine_eq];omega);exact(Q9 _ _ (Nat.ne_of_gt (Qs e))).trans (Qd _ e)
 obtain⟨y,z,es,ep,bs,da,ee,ka⟩:=mH I.hok rd;rw[ek]at ka
 have ez:es.size=ks.length:=by
  have:=congrArg List.length ee;rw[Qb,Qb,Qe]at this;rw[this,Xf ka]
 refine main bs ka λA E R hA hR=>Tm.sI (DR.src (es:=es) (ep:=ep) y) hA da (by rw[ez,sizeLine_eq];omega) λh' tk acc k z it=>hR h' tk acc.toList k z ?_;rw[<-ee];refine List.ext_getElem? λj=>?_;rw[QB];by_cases hj:j<es.size
 ·have ha:j<acc.size:=by rw[it.1];exact hj
  obtain⟨e,e1,e2⟩:=it.2 j acc[j] (Qy ha);rw[Qm,Qm,Qy ha,e1,e2];rfl
 rw[Q7 (by rw[Qe,it.1];omega),Q7 (by rw[Qe];omega)];rfl
end
section
variable {X:Cx}
end
theorem nZ (a b:Key) (h:Tm.sh1 a=Tm.sh1 b):eqV (kV a) (kV b)=decide (a=b):=by
 cases a with
 | inl i=>cases b with
  | inl j=>rw[rQ];rfl
  | inr y=>cases h
 | inr x=>cases b with
  | inl j=>cases h
  | inr y =>
   rw[rP];show (x==y)=_;by_cases e:x=y
   ·subst e;simp
   rw[QE e];exact beq_eq_false_iff_ne.mpr e
theorem fV (k:Key):cv (kV k)=true:=by cases k <;> rfl
variable {n ep:Nat}
theorem uc {K:PySem.W.Frag} {x y:List Key} (ha:H a=some (.tup (x.map kV))) (hb:H b=some (.tup (y.map kV))) (e:x.map Tm.sh1=y.map Tm.sh1):EqD K H (n+1) (.ref a) (.ref b) (decide (x=y)):=by
 have len:x.length=y.length:=by have:=congrArg List.length e;simpa using this
 by_cases c:a=b
 ·subst c;rw[ha]at hb;cases iX (HO.tup.inj (QL hb));rw[QA rfl];exact .same
 have q:=EqD.tups (K:=K) (n:=n) (e:=λj=>decide (x[j]?=y[j]?)) (SqT.of ha) (SqT.of hb) (λj u v e1 e2=>?_) c
 ·have:((List.range (min (x.map kV).length (y.map kV).length)).all (λj=>decide (x[j]?=y[j]?))&&(x.map kV).length==(y.map kV).length)=decide (x=y):=by
   rw[Qb,Qb,len,Nat.min_self,beq_self_eq_true,Bool.and_true,Bool.eq_iff_iff,Xg,decide_eq_true_iff]
   constructor
   ·intro h;refine List.ext_getElem? λj=>?_;by_cases hj:j<y.length
    ·exact XR (h j (Xz.mpr hj))
    rw[Q7 (by omega),Q7 (by omega)]
   rintro rfl j _;simp
  rw[this]at q;exact q
 rw[QB]at e1 e2;obtain⟨k1,h1,rfl⟩:=Option.map_eq_some_iff.mp e1;obtain⟨k2,h2,rfl⟩:=Option.map_eq_some_iff.mp e2;have s:=congrArg (·[j]?) e;simp only[QB,h1,h2]at s;have s:Tm.sh1 k1=Tm.sh1 k2:=QL s;rw[h1,h2,show decide (some k1=some k2)=decide (k1=k2) by simp,<-nZ _ _ s];exact .flat (fV _) (fV _)
theorem gx {H:Hp}:∀{k:ak} {vs:List V} {j:Nat} {v:V},Paired (KIt H) k vs->vs[j]?=some v->∃x,k[j]?=some x/\KIt H x v
 | _,_,_,_,.nil,e=>by simp at e
 | _,_,0,_,.cons r _,e=>by simp at e;subst e;exact⟨_,rfl,r⟩
 | _,_,j+1,_,.cons _ t,e=>by obtain⟨x,h1,h2⟩:=gx (j:=j) t (by simpa using e);exact⟨x,by simpa using h1,h2⟩
theorem wH {K:PySem.W.Frag} {k1 k2:Key ⊕ List Key} {u v:V} (r1:KIt H k1 u) (r2:KIt H k2 v) (s:Tm.sh2 k1=Tm.sh2 k2):EqD K H (n+1) u v (decide (k1=k2)):=by
 cases k1 with
 | inl k1=>cases k2 with
  | inr _=>cases s
  | inl k2 =>
   cases r1;cases r2;have s:Tm.sh1 k1=Tm.sh1 k2:=Sum.inl.inj s;rw[show decide ((Sum.inl k1:Key ⊕ List Key)=Sum.inl k2)=decide (k1=k2) by simp,<-nZ _ _ s];exact .flat (fV _) (fV _)
 | inr k1=>cases k2 with
  | inl _=>cases s
  | inr k2 =>
   obtain⟨c1,rfl,r1⟩:=r1;obtain⟨c2,rfl,r2⟩:=r2;have s:k1.map Tm.sh1=k2.map Tm.sh1:=Sum.inr.inj s;rw[show decide ((Sum.inr k1:Key ⊕ List Key)=Sum.inr k2)=decide (k1=k2) by simp];exact uc r1 r2 s
theorem sN (len:x.length=y.length):((List.range y.length).all λj=>decide (x[j]?=y[j]?))=decide (x=y):=by
 rw[Bool.eq_iff_iff,Xg,decide_eq_true_iff]
 constructor
 ·intro h;refine List.ext_getElem? λj=>?_;by_cases hj:j<y.length
  ·exact XR (h j (Xz.mpr hj))
  rw[Q7 (by omega),Q7 (by omega)]
 rintro rfl j _;simp
theorem rV {K:PySem.W.Frag} {vs us:List V} (p1:Paired (KIt H) x vs) (p2:Paired (KIt H) y us) (e:x.map Tm.sh2=y.map Tm.sh2) (j:Nat) (u v:V) (e1:vs[j]?=some u) (e2:us[j]?=some v):EqD K H (n+1) u v (decide (x[j]?=y[j]?)):=by
 obtain⟨k1,g1,r1⟩:=gx p1 e1;obtain⟨k2,g2,r2⟩:=gx p2 e2;have s:=congrArg (·[j]?) e;simp only[QB,g1,g2]at s;rw[g1,g2,show decide (some k1=some k2)=decide (k1=k2) by simp];exact wH r1 r2 (QL s)
theorem wG {K:PySem.W.Frag} {n:Nat} (ha:bC H x a) (hb:bC H y b) (e:x.map Tm.sh2=y.map Tm.sh2):EqD K H (n+2) (.ref a) (.ref b) (decide (x=y)):=by
 have len:x.length=y.length:=by have:=congrArg List.length e;simpa using this
 by_cases c:a=b
 ·subst c;rw[ha.inj hb,QA rfl];exact .same
 obtain⟨vs,h1,p1⟩:=ha;obtain⟨us,h2,p2⟩:=hb;have l1:=Xf p1;have l2:=Xf p2;have q:=EqD.tups (K:=K) (n:=n+1) (e:=λj=>decide (x[j]?=y[j]?)) (SqT.of h1) (SqT.of h2) (rV p1 p2 e) c;rwa [<-l1,<-l2,len,Nat.min_self,beq_self_eq_true,Bool.and_true,sN len]at q
theorem Ab {K:PySem.W.Frag} {neg:Bool} {Q:VK} (ha:bC H x a) (hb:bC H y b) (e:x.map Tm.sh2=y.map Tm.sh2) (q:Q (.bl (if neg=true then !decide (x=y) else decide (x=y))) H):tE K neg (.ref a) (.ref b) H Q:=by
 have len:x.length=y.length:=by have:=congrArg List.length e;simpa using this
 obtain⟨vs,h1,p1⟩:=ha;obtain⟨us,h2,p2⟩:=hb;have l1:=Xf p1;have l2:=Xf p2;refine⟨a,b,vs,us,λj=>decide (x[j]?=y[j]?),rfl,rfl,SqT.of h1,SqT.of h2,rV p1 p2 e,?_⟩;rw[<-l1,<-l2,len,Nat.min_self,beq_self_eq_true,Bool.and_true,sN len];exact q
def sP (a:Addr) (o:Obj) (kvs:List (ak × V)):It :=
 ⟨λi H=>H a=some (.frz o (.dT kvs))/\i<kvs.length,λi H x H'=>H'=H/\∃k v b,kvs[i]?=some (k,v)/\x=.ref b/\bC H k b,λi H=>H a=some (.frz o (.dT kvs))/\kvs.length<=i⟩
theorem i5 {X:Cx} {pins:B1} {U:St} {s:Shared} {o:Obj} {es:Array DictEntry} {kvs:List (ak × V)} (I:Inv X pins U H s) (h:H a=some (.frz o (.dT kvs))) (hd:o={ cls:=.type "dict", data:=.dict es ep }) :
  (a==sysModules)=false/\DR.At s.heap a es ep/\es.size=kvs.length/\∃bs:B3,es.toList.map (·.key)=bs.map Value.ref/\KsA H bs (kvs.map (·.1)):=by
 obtain⟨y,z,es',ep',bs,e1,e2,e3⟩:=mH I.hok (.inr ⟨o,h⟩);obtain⟨e4,_⟩:=I.hok a _ h;rw[e1,hd]at e4;cases e4;have:=congrArg List.length e2;rw[Qb,Qb,Qe,Xf e3,Qb]at this;exact⟨y,e1,this,bs,e2,e3⟩
theorem nQ {H:Hp}:∀{bs:B3} {ks:List ak} {i:Nat} {k:ak},KsA H bs ks->ks[i]?=some k->∃b,bs[i]?=some b/\bC H k b
 | _,_,_,_,.nil,e=>by simp at e
 | _,_,0,_,.cons r _,e=>by simp at e;subst e;exact⟨_,rfl,r⟩
 | _,_,i+1,_,.cons _ t,e=>by obtain⟨b,h1,h2⟩:=nQ (i:=i) t (by simpa using e);exact⟨b,by simpa using h1,h2⟩
theorem lG {P:Program} {w:World} {K:PySem.W.Frag} {tg:Expr} (a it:Addr) (o:Obj) (kvs:List (ak × V)) (es:Array DictEntry) (ep:Nat) (hd:o={ cls:=.type "dict", data:=.dict es ep }):Turn P w K tg (sP a o kvs) [it] it (λi h=>DR.IAt h it a i kvs.length ep) where
 mem:=by simp
 obj:=λi h st b hb=>by
  have e:b=it:=by simpa using hb
  subst e;exact⟨_,st,λv z=>nomatch z⟩
 keep:=λi h h' st k=>k it (by simp) _ st
 item:=by
  intro X hP hw hK hc i pins s U H E I hf st hg;subst hP hw hK;obtain⟨hz,hi⟩:=hg;obtain⟨_,da,ez,bs,e2,e3⟩:=i5 I hz hd;obtain⟨⟨k,v⟩,hx⟩:∃p,kvs[i]?=some p:=⟨kvs[i],by simp[hi]⟩;obtain⟨b,hb,tb⟩:=nQ (i:=i) (k:=k) e3 (by rw[QB,hx];rfl);have hi':i<es.size:=by omega
  have hk:es[i].key=.ref b:=by
   have e:=congrArg (·[i]?) e2;simp only[QB,hb,Qm,Qy hi']at e;exact QL e
  obtain⟨f0,f1,f2,f3,f4,f5⟩:=hf it (by simp);have st0:=st;rw[<-ez]at st0;refine DR.nxt st0 da hi' λh' st' sb=>?_;have I1:Inv X pins U H { s with heap:=h' }:=I.turned (t':=s.toks) (λb o hb e=>(sb.2 b hb).trans e) f0 f1 f3 f4 f5;rw[ez]at st';rw[hk];exact⟨.ref b,rfl,nV (s:={ s with heap:=h' }) st' rfl rfl (by decide) ⟨.ref b,H,I1,rfl,⟨rfl,k,v,b,hx,rfl,tb⟩,st',λb hb=>(hf b hb).1⟩⟩
 done:=by
  intro X hP hw hK hc i pins s U H E I hf st hg;subst hP hw hK;obtain⟨hz,hi⟩:=hg;obtain⟨_,da,ez,bs,e2,e3⟩:=i5 I hz hd;obtain⟨f0,f1,f2,f3,f4,f5⟩:=hf it (by simp);rw[<-ez]at st;exact DR.stp (I.ok.hd hc) st da (by omega) λh' eb=>⟨rfl,I.turned (t':=s.toks) (λb o hb e=>eb b o hb e) f0 f1 f3 f4 f5⟩
 self:=λ_ _ _ _ _ st h=>DR.self st h
def wE (tl:TE):TI:=λU H R=>tl U H λx H1=>∃a o kvs,x=.ref a/\H1 a=some (.frz o (.dT kvs))/\R (sP a o kvs) H1
theorem qL {X:Cx} {tg l:Expr} {tl:TE} (hl:PE X l tl):PI X tg l (wE tl):=by
 intro pins s U H R I h;refine thn (hl pins s U H _ I h) λv s1 ⟨x,H1,I1,r1,q1⟩=>?_;obtain⟨a,o,kvs,e,hz,q⟩:=q1;subst e;cases r1;obtain⟨y,z,es,ep,bs,e1,e2,e3⟩:=mH I1.hok (.inr ⟨o,hz⟩);obtain⟨e4,_⟩:=I1.hok a _ hz;have eo:o={ cls:=.type "dict", data:=.dict es ep }:=QL (e4.symm.trans e1);obtain⟨_,_,ez,_⟩:=i5 I1 hz eo;refine DR.iter y e1 ?_;refine⟨s1.heap.objs.size,[s1.heap.objs.size],_,_,H1,rfl,I1.kept (t':=s1.toks) λb o e=>Qd _ e,lG a _ o kvs es ep eo,by rw[ez];exact Qv _ rfl,λb hb=>?_,q⟩;have e:b=s1.heap.objs.size:=by simpa using hb
 subst e;exact I1.fpOk (Qi _) (I1.hok.fresh (Qi _))
section
variable {X:Cx}
end
end L2
namespace Ht
open PySem PySem.SetTable
def itn {α:Type} (f:α->α):Nat->α->α
 | 0,x=>x
 | n+1,x=>itn f n (f x)
theorem cO {α:Type} (f:α->α):∀(m n:Nat) (x:α),itn f (m+n) x=itn f n (itn f m x)
 | 0,n,x=>by rw[Nat.zero_add];rfl
 | m+1,n,x=>by rw[Nat.succ_add];exact cO f m n (f x)
def Msk (m:Nat):Prop:=m=7\/m=31\/m=127\/m=511
def lp (m i:Nat):Nat:=(i*5+1+0) % (m+1)
def orb (m:Nat):Nat->Nat->List Nat
 | 0,_=>[]
 | n+1,x=>x::orb m n (lp m x)
theorem nB {m:Nat}:∀(n x e:Nat),e∈orb m n x->∃d,d<n/\itn (lp m) d x=e
 | 0,_,_,h=>nomatch h
 | n+1,x,e,h=>by
  rcases Qw.mp h with h|h
  ·exact⟨0,Nat.succ_pos _,h.symm⟩
  obtain⟨d,hd,q⟩:=nB n (lp m x) e h;exact⟨d+1,Nat.succ_lt_succ hd,q⟩
variable {m s e j i:Nat}
theorem Bm (hm:Msk m):(∀e,e<m+1->∃d,d<m+1/\itn (lp m) d 0=e)/\itn (lp m) (m+1) 0=0:=by
 rcases hm with rfl|rfl|rfl|rfl
 ·exact⟨by decide +kernel,by decide +kernel⟩
 ·exact⟨by decide +kernel,by decide +kernel⟩
 ·exact⟨by decide +kernel,by decide +kernel⟩
 refine⟨λe he=>nB 512 0 e ?_,by decide +kernel⟩;have h:(List.range 512).all (λe=>(orb 511 512 0).elem e)=true:=by decide +kernel
 exact List.elem_iff.mp (Xg.mp h e (Xz.mpr he))
theorem cyc (hm:Msk m) (hs:s<m+1) (he:e<m+1):∃d,d<m+1/\itn (lp m) d s=e:=by
 obtain⟨all,z⟩:=Bm hm;obtain⟨a,ha,rfl⟩:=all s hs;obtain⟨b,hb,rfl⟩:=all e he;by_cases c:a<=b
 ·exact⟨b-a,by omega,by rw[<-cO];congr 1;omega⟩
 refine⟨b+(m+1)-a,by omega,?_⟩;rw[<-cO,show a+(b+(m+1)-a)=(m+1)+b by omega,cO,z]
def lps (m:Nat) (x:Nat × Nat):Nat × Nat:=leap m x.1 x.2
theorem nN (m:Nat):∀n x,(itn (lps m) n x).2=x.2 / 32 ^ n
 | 0,x=>by simp[itn]
 | n+1,x=>by
  show (itn (lps m) n (lps m x)).2=_;rw[nN m n];show x.2 / 32 / 32 ^ n=_;rw[Nat.div_div_eq_div_mul,Nat.pow_succ,Nat.mul_comm]
theorem kI (m:Nat):∀n i,itn (lps m) n (i,0)=(itn (lp m) n i,0)
 | 0,i=>rfl
 | n+1,i=>by
  show itn (lps m) n (lps m (i,0))=_;rw[show lps m (i,0)=(lp m i,0) by simp[lps,leap,lp]];exact kI m n (lp m i)
theorem rH {m:Nat}:∀n x,x.1<m+1->(itn (lps m) n x).1<m+1
 | 0,x,h=>h
 | n+1,x,h=>rH n (lps m x) (Nat.mod_lt _ (Nat.succ_pos _))
theorem u9 {x:Nat × Nat} (hm:Msk m) (h1:x.1<m+1) (h2:x.2<2 ^ 64) (he:e<m+1):∃n,n<m+14/\(itn (lps m) n x).1=e:=by
 have z:(itn (lps m) 13 x).2=0:=by rw[nN];exact Nat.div_eq_of_lt (Nat.lt_trans h2 (by decide))
 have l:=rH (m:=m) 13 x h1;obtain⟨d,hd,ed⟩:=cyc hm l he;refine⟨13+d,by omega,?_⟩;rw[cO,show itn (lps m) 13 x=((itn (lps m) 13 x).1,0) from by rw[<-z],kI];exact ed
def adv (m:Nat) (p:Probe):Probe:=if p.more>0 then { p with j:=p.j+1,more:=p.more-1 } else let (i,perturb):=leap m p.i p.perturb;{ p with j:=i,more:=runEnd m i-i,i,perturb }
def beg (m:Nat) (x:Nat × Nat):Probe:={ j:=x.1,more:=runEnd m x.1-x.1,i:=x.1,perturb:=x.2,dummy:=none }
theorem qk (t:SetTable) (h:Int):t.probeStart h=beg t.mask (bits h % (t.mask+1),bits h):=rfl
theorem vG (m i:Nat):runEnd m i-i<=9:=by unfold runEnd;split <;> omega
theorem ji (m:Nat):∀(k:Nat) (p:Probe),p.more=k->p.dummy=none->itn (adv m) (k+1) p=beg m (lps m (p.i,p.perturb))
 | 0,p,h,hd=>by
  show adv m p=_;unfold adv;rw[Qt (by omega)];obtain⟨j,more,i,pe,d⟩:=p;dsimp only at hd;subst hd;rfl
 | k+1,p,h,hd=>by
  have e:adv m p={ p with j:=p.j+1,more:=p.more-1 }:=Qu (by omega);show itn (adv m) (k+1) (adv m p)=_;rw[e];exact ji m k { p with j:=p.j+1,more:=p.more-1 } (by show p.more-1=k;omega) hd
theorem iu (m:Nat):∀(n:Nat) (x:Nat × Nat),∃c,c<=10*n/\itn (adv m) c (beg m x)=beg m (itn (lps m) n x)
 | 0,x=>⟨0,Qi _,rfl⟩
 | n+1,x=>by
  obtain⟨c,hc,e⟩:=iu m n (lps m x);have r:=vG m x.1;refine⟨(beg m x).more+1+c,by show runEnd m x.1-x.1+1+c<=_;omega,?_⟩;rw[cO,ji m _ (beg m x) rfl rfl];exact e
def Emp (m:Nat) (L:Nat->Prop):Nat->Probe->Prop
 | 0,p=>¬L p.j
 | n+1,p=>L p.j/\Emp m L n (adv m p)
theorem sw {m:Nat} {L:Nat->Prop}:∀(n:Nat) (p:Probe),¬L (itn (adv m) n p).j->∃k,k<=n/\Emp m L k p
 | 0,p,h=>⟨0,Qi _,h⟩
 | n+1,p,h=>by
  by_cases c:L p.j
  ·obtain⟨k,hk,e⟩:=sw n (adv m p) h;exact⟨k+1,by omega,c,e⟩
  exact⟨0,QR _,c⟩
theorem pI {L:Nat->Prop} (hm:Msk m) (h:Int) (he:e<m+1) (ne:¬L e):∃n,n<10*turns m/\Emp m L n (beg m (bits h % (m+1),bits h)):=by
 have hb:bits h<2 ^ 64:=by
  unfold bits;have h1:0<=h % (2 ^ 64:Int):=Int.emod_nonneg _ (by decide);have h2:h % (2 ^ 64:Int)<2 ^ 64:=Int.emod_lt_of_pos _ (by decide);omega
 obtain⟨n,hn,ee⟩:=u9 (x:=(bits h % (m+1),bits h)) hm (Nat.mod_lt _ (Nat.succ_pos _)) hb he;obtain⟨c,hc,ec⟩:=iu m n (bits h % (m+1),bits h);obtain⟨k,hk,em⟩:=sw (m:=m) (L:=L) c (beg m (bits h % (m+1),bits h)) (by rw[ec];show ¬L (itn (lps m) n _).1;rw[ee];exact ne);exact⟨k,by unfold turns;omega,em⟩
inductive Rch (m:Nat) (L:Nat->Prop):Probe->Nat->Prop
 | here (p:Probe):Rch m L p p.j
 | step {p:Probe} {j:Nat}:L p.j->Rch m L (adv m p) j->Rch m L p j
theorem Rch.mono {L L':Nat->Prop} (f:∀j,L j->L' j) {p:Probe} (h:Rch m L p j):Rch m L' p j:=by
 induction h with
 | here p=>exact .here p
 | step a _ ih=>exact .step (f _ a) ih
theorem Emp.rch {L:Nat->Prop}:∀{n:Nat} {p:Probe},Emp m L n p->Rch m L p (itn (adv m) n p).j/\¬L (itn (adv m) n p).j
 | 0,p,h=>⟨.here p,h⟩
 | n+1,p,h=>⟨.step h.1 (Emp.rch h.2).1,(Emp.rch h.2).2⟩
def jj (l:List Nat):Prop:=l.Pairwise (·<·)
variable {l js:List Nat}
theorem jj.lt (r:jj l) {k:Nat} (h:i<k) (hk:k<l.length):l[i]<l[k]:=List.pairwise_iff_getElem.mp r i k (by omega) hk h
theorem mL {xs:Array Nat} {j:Nat} (r:jj xs.toList):∀(f lo hi:Nat),lo<=hi->hi<=xs.size->hi-lo<=f->(∀i (h:i<xs.toList.length),i<lo->xs.toList[i]<j)->(∀i (h:i<xs.toList.length),hi<=i->j<=xs.toList[i]) ->
  below.go xs j f lo hi<=xs.size/\(∀i (h:i<xs.toList.length),i<below.go xs j f lo hi->xs.toList[i]<j)/\∀i (h:i<xs.toList.length),below.go xs j f lo hi<=i->j<=xs.toList[i]
 | 0,lo,hi,h1,h2,h3,a,b=>by
  obtain rfl:lo=hi:=by omega
  exact⟨h2,a,b⟩
 | f+1,lo,hi,h1,h2,h3,a,b=>by
  unfold below.go;by_cases c:lo<hi
  ·rw[Qu c];have hz:xs.toList.length=xs.size:=Qe;have hm:(lo+hi) / 2<xs.toList.length:=by omega
   have e:xs.getD ((lo+hi) / 2) j=xs.toList[(lo+hi) / 2]:=by
    have:(lo+hi) / 2<xs.size:=by omega
    simp[Array.getD,this]
   dsimp only;rw[e];by_cases d:xs.toList[(lo+hi) / 2]<j
   ·rw[Qu d];refine mL r f _ hi (by omega) h2 (by omega) (λi h hx=>?_) b;by_cases z:i=(lo+hi) / 2
    ·subst z;exact d
    exact Nat.lt_trans (r.lt (show i<(lo+hi) / 2 by omega) hm) d
   rw[Qt d];refine mL r f lo _ (by omega) (by omega) (by omega) a λi h hx=>?_;by_cases z:i=(lo+hi) / 2
   ·subst z;omega
   have:=r.lt (show (lo+hi) / 2<i by omega) h;omega
  rw[Qt c];obtain rfl:lo=hi:=by omega
  exact⟨h2,a,b⟩
theorem bel {xs:Array Nat} (j:Nat) (r:jj xs.toList):below xs j<=xs.size/\(∀i (h:i<xs.toList.length),i<below xs j->xs.toList[i]<j)/\∀i (h:i<xs.toList.length),below xs j<=i->j<=xs.toList[i] :=
 mL r _ 0 xs.size (QR _) (Qi _) (by omega) (λi _ h=>absurd h (Nat.not_lt_zero _)) (λi h1 h2=>absurd h1 (by rw[Qe];omega))
theorem eV {t:SetTable} (r:jj t.place.toList) (h:t.place.toList[i]?=some j):t.slot j=.live i:=by
 obtain⟨b1,b2,b3⟩:=bel j r;obtain⟨hi,e⟩:=Ql.mp h
 have eb:below t.place j=i:=by
  by_cases c:i<below t.place j
  ·have:=b2 i hi c;omega
  by_cases d:below t.place j<i
  ·have h1:=b3 (below t.place j) (by omega) (Qi _);have h2:=r.lt d hi;omega
  omega
 unfold slot;dsimp only;rw[eb,<-Qm,h];simp
theorem lK {t:SetTable} (hd:t.dummies=#[]) (h:j∉t.place.toList):t.slot j=.empty:=by
 unfold slot;dsimp only
 have n1:(t.place[below t.place j]?==some j)=false:=by
  cases c:t.place[below t.place j]? with
  | none=>rfl
  | some k =>
  have:k∈t.place.toList:=Qz (by rw[Qm];exact c);have:k≠j:=λz=>h (z▸this);simpa using this
 rw[n1,hd];simp[has]
theorem kQ {α:Type} (xs:Array α) (p:Nat) (x:α) (h:p<=xs.size):(insertAt xs p x).toList=xs.toList.take p++x::xs.toList.drop p:=by
 unfold insertAt;rw[QQ,Array.toList_push,Array.toList_extract,Array.toList_extract];simp only[List.extract_eq_take_drop,List.drop_zero,Nat.sub_zero,QY,List.singleton_append];congr 2;exact Q0 (by rw[QU,Qe];exact Qi _)
structure Tb (t:SetTable) (hs:List Int):Prop where
 msk:Msk t.mask
 dum:t.dummies=#[]
 len:t.place.toList.length=hs.length
 up:jj t.place.toList
 bd:∀j∈t.place.toList,j<t.mask+1
 rch:∀q∈t.place.toList.zip hs,Rch t.mask (·∈t.place.toList) (t.probeStart q.2) q.1
variable {hs:List Int}
theorem Tb.fits {t:SetTable} (b:Tb t hs) (h:hs.length<=t.mask):t.fits hs.length=true:=by
 have:=b.len;rw[Qe]at this;simp[SetTable.fits,fill,b.dum,this,h]
theorem nX {m:Nat} (nd:l.Nodup) (h:l.length<m+1):∃e,e<m+1/\e∉l:=by
 by_cases c:∃e,e<m+1/\e∉l
 ·exact c
 exfalso
 have all:∀e,e∈List.range (m+1)->e∈l:=λe he=>by
  by_cases d:e∈l
  ·exact d
  exact absurd ⟨e,Xz.mp he,d⟩ c
 have le:∀(as bs:List Nat),as.Nodup->(∀x∈as,x∈bs)->as.length<=bs.length:=by
  intro as
  induction as with
  | nil=>intro bs _ _;exact QR _
  | cons a as ih =>
  intro bs nd h;have ha:=h a (by simp);have:=ih (bs.erase a) (Xb.mp nd).2 λx hx=>(List.mem_erase_of_ne λe:x=a=>(Xb.mp nd).1 (e▸hx)).mpr (h x (Qj _ hx));rw[List.length_erase_of_mem ha]at this;have:=List.length_pos_of_mem ha;simp only[QC];omega
 have:=le _ l List.nodup_range all;rw[List.length_range]at this;omega
theorem jj.nodup (r:jj l):l.Nodup:=r.imp λh=>QF h
theorem Tb.put {t:SetTable} {h:Int} (b:Tb t hs) (hj:j<t.mask+1) (nj:j∉t.place.toList) (r:Rch t.mask (·∈t.place.toList) (t.probeStart h) j) :
  ∃p,p=(t.put j).2/\p<=hs.length/\(t.put j).1.mask=t.mask/\(t.put j).1.led=t.led/\(t.put j).1.plain=t.plain/\Tb (t.put j).1 (hs.take p++h::hs.drop p):=by
 obtain⟨b1,b2,b3⟩:=bel j b.up;have lz:t.place.size=hs.length:=by rw[<-Qe];exact b.len
 have nh:has t.dummies j=false:=by rw[b.dum];simp[has]
 refine⟨below t.place j,rfl,by omega,rfl,rfl,rfl,?_⟩;have pl:(t.put j).1.place.toList=t.place.toList.take (below t.place j)++j::t.place.toList.drop (below t.place j):=kQ _ _ _ b1
 have mem:∀x,x∈(t.put j).1.place.toList↔x=j\/x∈t.place.toList:=λx=>by
  rw[pl,Qp,Qw]
  conv=>rhs;rw[<-QV (below t.place j) t.place.toList,Qp]
  constructor
  ·rintro(h|h|h)
   ·exact .inr (.inl h)
   ·exact .inl h
   exact .inr (.inr h)
  rintro(h|h|h)
  ·exact .inr (.inl h)
  ·exact .inl h
  exact .inr (.inr h)
 have bl:=b.len;refine⟨b.msk,?_,?_,?_,λx hx=>?_,λq hq=>?_⟩
 ·show (if has t.dummies j=true then _ else t.dummies)=#[];rw[Qt (by rw[nh];simp)];exact b.dum
 ·rw[pl];simp only[Qg,QC,QJ,QU];omega
 ·rw[pl];refine Q3.mpr ⟨b.up.sublist (List.take_sublist _ _),List.pairwise_cons.mpr ⟨λx hx=>?_,b.up.sublist (List.drop_sublist _ _)⟩,λx hx y hy=>?_⟩
  ·obtain⟨i,hi,e⟩:=Xl hx;rw[List.getElem_drop]at e;rw[QU]at hi;have:=b3 (below t.place j+i) (by omega) (by omega);have ne:x≠j:=λz=>nj (z▸List.mem_of_mem_drop hx);omega
  obtain⟨i,hi,e⟩:=Xl hx;rw[List.getElem_take]at e;rw[QJ]at hi;have h1:=b2 i (by omega) (by omega);rcases Qw.mp hy with rfl|hy
  ·omega
  obtain⟨k,hk,e2⟩:=Xl hy;rw[List.getElem_drop]at e2;rw[QU]at hk;have:=b3 (below t.place j+k) (by omega) (by omega);omega
 ·rcases(mem x).mp hx with rfl|hx
  ·exact hj
  exact b.bd x hx
 have up:∀x,x∈t.place.toList->x∈(t.put j).1.place.toList:=λx hx=>(mem x).mpr (.inr hx);rw[pl,List.zip_append (by rw[QJ,QJ];omega),List.zip_cons_cons,Qp,Qw]at hq
 have old:∀q,q∈(t.place.toList.take (below t.place j)).zip (hs.take (below t.place j))\/q∈(t.place.toList.drop (below t.place j)).zip (hs.drop (below t.place j))->q∈t.place.toList.zip hs:=λq hq=>by
  rw[<-QV (below t.place j) t.place.toList,<-QV (below t.place j) hs,List.zip_append (by rw[QJ,QJ];omega),Qp];simpa using hq
 rcases hq with hq|rfl|hq
 ·exact(b.rch q (old q (.inl hq))).mono up
 ·exact r.mono up
 exact(b.rch q (old q (.inr hq))).mono up
theorem lQ (h:i<m+1):i<=runEnd m i/\runEnd m i<m+1:=by unfold runEnd;split <;> omega
theorem lh {p:Probe} (h:p.more>0):adv m p={ p with j:=p.j+1,more:=p.more-1 }:=Qu h
theorem qx {m:Nat} {L:Nat->Prop}:∀(k:Nat) (p:Probe),k<=p.more->(∀d,d<k->L (p.j+d))->Rch m L p (p.j+k)
 | 0,p,_,_=>.here p
 | k+1,p,h,a=>by
  refine .step (a 0 (by omega)) ?_;rw[lh (by omega),show p.j+(k+1)=p.j+1+k by omega];exact qx k { p with j:=p.j+1,more:=p.more-1 } (by show k<=p.more-1;omega) λd hd=>by have:=a (d+1) (by omega);rw[show p.j+(d+1)=p.j+1+d by omega]at this;exact this
theorem qy {m j:Nat} {L:Nat->Prop}:∀(k:Nat) (p:Probe),p.more=k->p.dummy=none->(∀d,d<=k->L (p.j+d))->Rch m L (beg m (lps m (p.i,p.perturb))) j->Rch m L p j
 | 0,p,h,hd,a,r=>by
  refine .step (a 0 (Qi _)) ?_;have:=ji m 0 p h hd;rw[show itn (adv m) (0+1) p=adv m p from rfl]at this;rw[this];exact r
 | k+1,p,h,hd,a,r=>by
  refine .step (a 0 (QR _)) ?_;rw[lh (by omega)];exact qy k { p with j:=p.j+1,more:=p.more-1 } (by show p.more-1=k;omega) hd (λd hd=>by have:=a (d+1) (by omega);rw[show p.j+(d+1)=p.j+1+d by omega]at this;exact this) r
def Ln (m:Nat) (owner:Array (Option Nat)) (j:Nat):Prop:=j<m+1/\owner.getD j none≠none
theorem u7 {m e:Nat} {owner:Array (Option Nat)} (ho:owner.size=m+1) (he:e<m+1) (ee:owner.getD e none=none):∀(f i per:Nat),i<m+1->(∃n,n<f/\(itn (lps m) n (i,per)).1=e) ->
  ∃j,layClean.free m owner f i per=some j/\j<m+1/\owner.getD j none=none/\Rch m (Ln m owner) (beg m (i,per)) j
 | 0,i,per,hi,⟨n,hn,_⟩=>absurd hn (Nat.not_lt_zero _)
 | f+1,i,per,hi,⟨n,hn,en⟩=>by
  obtain⟨r1,r2⟩:=lQ hi
  have gd:∀j,j<m+1->owner.getD j (some 0)=owner.getD j none:=λj hj=>by
   have:j<owner.size:=by omega
   simp[Array.getD,this]
  unfold layClean.free
  cases c:(List.range (runEnd m i+1-i)).find? λk=>(owner.getD (i+k) (some 0)).isNone with
  | some k =>
   obtain⟨h1,as,bs,h2,h3⟩:=List.find?_eq_some_iff_append.mp c;have hk:k∈List.range (runEnd m i+1-i):=List.mem_of_find?_eq_some c;rw[Xz]at hk;have kl:i+k<m+1:=by omega
   rw[gd _ kl]at h1;refine⟨i+k,rfl,kl,by simpa using h1,?_⟩;refine qx (m:=m) (L:=Ln m owner) k (beg m (i,per)) (by show k<=runEnd m i-i;omega) λd hd=>?_;have hd2:i+d<m+1:=by omega
   refine⟨hd2,λz=>?_⟩;have z:owner.getD (i+d) none=none:=z
   have mem:d∈as:=by
    have e1:d∈as++k::bs:=by rw[<-h2,Xz];omega
    rcases Qp.mp e1 with q|q
    ·exact q
    exfalso;have sr:(as++k::bs).Pairwise (·<·):=by rw[<-h2];exact List.pairwise_lt_range
    have:=(List.pairwise_cons.mp (Q3.mp sr).2.1).1;rcases Qw.mp q with rfl|q
    ·omega
    have:=this d q;omega
   have:=h3 d mem;rw[gd _ hd2,z]at this;simp at this
  | none =>
  have all:∀d,d<=runEnd m i-i->Ln m owner (i+d):=λd hd=>by
   have hd2:i+d<m+1:=by omega
   refine⟨hd2,λz=>?_⟩;have:=List.find?_eq_none.mp c d (Xz.mpr (by omega));rw[gd _ hd2,z]at this;simp at this
  cases n with
  | zero=>exact absurd ee (by have:=all 0 (QR _);rw[show e=i+0 from en.symm];exact this.2)
  | succ n =>
  obtain⟨j,q1,q2,q3,q4⟩:=u7 ho he ee f (lps m (i,per)).1 (lps m (i,per)).2 (Nat.mod_lt _ (Nat.succ_pos _)) ⟨n,by omega,en⟩;exact⟨j,q1,q2,q3,qy _ (beg m (i,per)) rfl rfl all q4⟩
structure Lay (m:Nat) (owner:Array (Option Nat)) (js:List Nat) (hs:List Int):Prop where
 sz:owner.size=m+1
 len:js.length=hs.length
 nd:js.Nodup
 bd:∀j∈js,j<m+1
 own:∀j i,j<m+1->(owner.getD j none=some i↔js[i]?=some j)
 rch:∀q∈js.zip hs,Rch m (·∈js) (beg m (bits q.2 % (m+1),bits q.2)) q.1
theorem ug (h:Int):bits h<2 ^ 64:=by
 unfold bits;have h1:0<=h % (2 ^ 64:Int):=Int.emod_nonneg _ (by decide);have h2:h % (2 ^ 64:Int)<2 ^ 64:=Int.emod_lt_of_pos _ (by decide);omega
theorem Lay.more {owner:Array (Option Nat)} (hm:Msk m) (l:Lay m owner js hs) (h:Int) (fw:hs.length<m+1) :
  ∃j,layClean.free m owner (turns m) (bits h % (m+1)) (bits h)=some j/\Lay m (owner.setIfInBounds j (some hs.length)) (js++[j]) (hs++[h]):=by
 obtain⟨e,he,ne⟩:=nX l.nd (by rw[l.len];exact fw)
 have none_of:∀j,j<m+1->j∉js->owner.getD j none=none:=λj hj nj=>by
  cases c:owner.getD j none with
  | none=>rfl
  | some i=>exact absurd (Qz ((l.own j i hj).mp c)) nj
 obtain⟨n,hn,en⟩:=u9 (x:=(bits h % (m+1),bits h)) hm (Nat.mod_lt _ (Nat.succ_pos _)) (ug h) he;obtain⟨j,f1,f2,f3,f4⟩:=u7 l.sz he (none_of e he ne) (turns m) (bits h % (m+1)) (bits h) (Nat.mod_lt _ (Nat.succ_pos _)) ⟨n,by unfold turns;omega,en⟩
 have mem_of:∀j,Ln m owner j->j∈js:=λj ⟨a,b⟩=>by
  cases c:owner.getD j none with
  | none=>exact absurd c b
  | some i=>exact Qz ((l.own j i a).mp c)
 have nj:j∉js:=λz=>by
  obtain⟨i,hi,e⟩:=Xl z;rw[(l.own j i f2).mpr (by rw[Qc hi,e])]at f3;cases f3
 have up:∀x,x∈js->x∈js++[j]:=λx hx=>QK _ hx;refine⟨j,f1,by simp[l.sz],by simp[l.len],?_,λx hx=>?_,λx i hx=>?_,λq hq=>?_⟩
 ·exact List.nodup_append.mpr ⟨l.nd,by simp,λa ha b hb e=>nj (by simp at hb;rw[<-hb,<-e];exact ha)⟩
 ·rcases Qp.mp hx with hx|hx
  ·exact l.bd x hx
  simp at hx;rw[hx];exact f2
 ·have hj:j<owner.size:=by rw[l.sz];exact f2
  have gd:(owner.setIfInBounds j (some hs.length)).getD x none=if j=x then some hs.length else owner.getD x none:=by
   rw[Array.getD_eq_getD_getElem?,Array.getElem?_setIfInBounds];by_cases c:j=x
   ·subst c;simp[hj]
   rw[Qt c,Qt c,Array.getD_eq_getD_getElem?]
  rw[gd];by_cases c:j=x
  ·subst c;rw[Qu rfl]
   constructor
   ·intro z;cases z;rw[<-l.len,QW (Qi _)];simp
   intro z;by_cases d:i<js.length
   ·rw[QZ d]at z;exact absurd (Qz z) nj
   have:=(Ql.mp z).1;rw[Qg,XT]at this;rw[show i=js.length by omega,l.len]
  rw[Qt c,l.own x i hx];by_cases d:i<js.length
  ·rw[QZ d]
  rw[Q7 (by omega),QW (by omega)]
  constructor
  ·intro z;cases z
  intro z;have:=Qz z;simp at this;exact absurd this.symm c
 rw[List.zip_append l.len,Qp]at hq;rcases hq with hq|hq
 ·exact(l.rch q hq).mono up
 simp at hq;subst hq;exact(f4.mono mem_of).mono up
theorem kL {m:Nat} (hm:Msk m):∀(more hs:List Int) (owner:Array (Option Nat)) (js:List Nat),Lay m owner js hs->hs.length+more.length<=m+1 ->
  ∃owner' js',more.foldl (λ(acc:Option (Array (Option Nat) × Nat)) h=>do
   let (owner,k) <-acc;let j <-layClean.free m owner (turns m) (bits h % (m+1)) (bits h)
   pure (owner.setIfInBounds j (some k),k+1)) (some (owner,hs.length))=some (owner',(hs++more).length)/\Lay m owner' js' (hs++more)
 | [],hs,owner,js,l,_=>⟨owner,js,by simp,by simpa using l⟩
 | h::more,hs,owner,js,l,z=>by
  rw[QC]at z;obtain⟨j,e,l'⟩:=l.more hm h (by omega);obtain⟨o',js',e2,l2⟩:=kL hm more (hs++[h]) _ _ l' (by simp;omega);refine⟨o',js',?_,by simpa using l2⟩;rw[List.foldl_cons]
  have st:(do
    let (owner,k) <-some (owner,hs.length);let j <-layClean.free m owner (turns m) (bits h % (m+1)) (bits h)
    pure (owner.setIfInBounds j (some k),k+1):Option (Array (Option Nat) × Nat))=some (owner.setIfInBounds j (some hs.length),(hs++[h]).length):=by
   show (layClean.free m owner (turns m) (bits h % (m+1)) (bits h)).bind _=_;rw[e];simp
  rw[st,e2];simp
theorem pq (hm:Msk m) (hs:Array Int) (fw:hs.size<=m+1):∃owner js,layClean m hs=some owner/\Lay m owner js hs.toList:=by
 have l0:Lay m (Array.replicate (m+1) none) [] []:=⟨by simp,rfl,List.nodup_nil,λj h=>(nomatch h),λj i hj=>by simp[Array.getD,hj],λq hq=>(nomatch hq)⟩;obtain⟨o,js,e,l⟩:=kL hm hs.toList [] _ _ l0 (by simpa using fw);refine⟨o,js,?_,by simpa using l⟩;unfold layClean;rw[<-Array.foldl_toList];have e':=congrArg (Option.map (·.1)) e;exact e'
theorem rF {α:Type} [DecidableEq α]:∀(as bs:List α),as.Nodup->(∀x∈as,x∈bs)->as.length<=bs.length
 | [],_,_,_=>QR _
 | a::as,bs,nd,h=>by
  have ha:=h a (by simp);have:=rF as (bs.erase a) (Xb.mp nd).2 λx hx=>(List.mem_erase_of_ne λe:x=a=>(Xb.mp nd).1 (e▸hx)).mpr (h x (Qj _ hx));rw[List.length_erase_of_mem ha]at this;have:=List.length_pos_of_mem ha;simp only[QC];omega
theorem nK {α:Type} [DecidableEq α]:∀(as bs:List α),as.Nodup->(∀x∈as,x∈bs)->bs.length<=as.length->as.Perm bs
 | [],bs,_,_,h=>by
  obtain rfl:bs=[]:=List.length_eq_zero_iff.mp (by simpa using h);exact .nil
 | a::as,bs,nd,h,z=>by
  obtain⟨n1,n2⟩:=Xb.mp nd;have ha:=h a (by simp);have q:=nK as (bs.erase a) n2 (λx hx=>(List.mem_erase_of_ne λ(e:x=a)=>n1 (e▸hx)).mpr (h x (Qj _ hx))) (by rw[List.length_erase_of_mem ha];simp at z;omega);exact(q.cons a).trans (List.perm_cons_erase ha).symm
theorem zS {α:Type} [DecidableEq α] {as bs:List α} (n1:as.Nodup) (n2:bs.Nodup) (h:∀x,x∈as↔x∈bs):as.Perm bs:=nK as bs n1 (λx=>(h x).mp) (rF bs as n2 λx=>(h x).mpr)
theorem zX {α:Type} (hm:Msk m) (es:Array (Int × α)) (fw:es.size<=m+1) (finger moves:Nat) (led plain:Bool):∃t order,laid m finger moves led plain (es.map (·.1))=some (t,order)/\t.mask=m/\t.led=led/\t.plain=plain /\
  (order.filterMap (es[·]?)).toList.Perm es.toList/\Tb t ((order.filterMap (es[·]?)).toList.map (·.1)):=by
 obtain⟨owner,js,e,l⟩:=pq hm (es.map (·.1)) (by simpa using fw);rw[Array.toList_map]at l;have ll:js.length=es.size:=by have:=l.len;rwa [Qb,Qe]at this
 let live:=(List.range (m+1)).filterMap λj=>(owner.getD j none).map (j,·)
 have mem:∀j i,(j,i)∈live↔j<m+1/\js[i]?=some j:=λj i=>by
  show (j,i)∈(List.range (m+1)).filterMap _↔_;rw[List.mem_filterMap]
  constructor
  ·rintro⟨x,hx,z⟩;obtain⟨y,hy,z⟩:=Option.map_eq_some_iff.mp z;cases z;have hx:=Xz.mp hx;exact⟨hx,(l.own j i hx).mp hy⟩
  rintro⟨h1,h2⟩;exact⟨j,Xz.mpr h1,by rw[(l.own j i h1).mpr h2];rfl⟩
 have f1:live.map (·.1)=(List.range (m+1)).filter λj=>(owner.getD j none).isSome:=by
  show ((List.range (m+1)).filterMap _).map _=_;generalize List.range (m+1)=r
  induction r with
  | nil=>rfl
  | cons x r ih =>
  cases c:owner.getD x none with
  | none=>rw[List.filterMap_cons_none (by rw[c];rfl),ih,List.filter_cons_of_neg (by rw[c];simp)]
  | some i=>rw[List.filterMap_cons_some (by rw[c];rfl),Qo,ih,List.filter_cons_of_pos (by rw[c];rfl)]
 have up:jj (live.map (·.1)):=by rw[f1];exact List.pairwise_lt_range.sublist List.filter_sublist
 have ms:∀j,j∈live.map (·.1)↔j∈js:=λj=>by
  rw[Qn]
  constructor
  ·rintro⟨⟨x,i⟩,h,rfl⟩;exact Qz ((mem x i).mp h).2
  intro h;obtain⟨i,hi,ei⟩:=Xl h;exact⟨(j,i),(mem j i).mpr ⟨l.bd j h,by rw[Qc hi,ei]⟩,rfl⟩
 have inj:∀q∈live,∀r∈live,q.2=r.2->q=r:=λ⟨j,i⟩ hq ⟨j',i'⟩ hr z=>by
  cases z;have h1:=((mem j i).mp hq).2;have h2:=((mem j' i).mp hr).2;rw[h1]at h2;cases h2;rfl
 have ndl:live.Nodup:=by
  have:(live.map (·.1)).Nodup:=up.nodup;rw[List.nodup_iff_pairwise_ne,Q1]at this;exact List.nodup_iff_pairwise_ne.mpr (this.imp λh z=>h (by rw[z]))
 have nd2:(live.map (·.2)).Nodup:=by
  rw[List.nodup_iff_pairwise_ne]at ndl ⊢;rw[Q1];exact ndl.imp_of_mem λha hb ne z=>ne (inj _ ha _ hb z)
 have pr:(live.map (·.2)).Perm (List.range es.size):=zS nd2 List.nodup_range λi=>by
  rw[Qn,Xz]
  constructor
  ·rintro⟨⟨j,k⟩,h,rfl⟩;have:=(Ql.mp ((mem j k).mp h).2).1;show k<_;omega
  intro h;have hi:i<js.length:=by omega
  exact⟨(js[i],i),(mem _ _).mpr ⟨l.bd _ (Xv hi),Qc hi⟩,rfl⟩
 refine⟨{ mask:=m,place:=(live.map (·.1)).toArray,dummies:=#[],finger,led,moves,plain },(live.map (·.2)).toArray,?_,rfl,rfl,rfl,?_,?_⟩
 ·unfold laid;rw[e];rfl
 ·rw[Array.toList_filterMap];refine(pr.filterMap _).trans (.of_eq ?_);refine List.ext_getElem? λi=>?_
  have:∀n k,n<=es.size->((List.range n).filterMap (es[·]?))[k]?=if k<n then es[k]? else none:=by
   intro n
   induction n with
   | zero=>intro k _;simp
   | succ n ih =>
   intro k hn
   have ln:((List.range n).filterMap (es[·]?)).length=n:=by
    have h1:=ih n (by omega);rw[Qt (Nat.lt_irrefl _)]at h1;have h1:=List.getElem?_eq_none_iff.mp h1;by_cases c:n=0
    ·subst c;rfl
    have h2:=ih (n-1) (by omega);rw[Qu (by omega),Qy (show n-1<es.size by omega)]at h2;have:=(Ql.mp h2).1;omega
   rw[List.range_succ,List.filterMap_append,List.filterMap_cons_some (Qy (show n<es.size by omega)),List.filterMap_nil];by_cases c:k<n
   ·rw[QZ (by omega),ih k (by omega),Qu c,Qu (by omega)]
   rw[QW (by omega),ln];by_cases d:k=n
   ·subst d;simp <;> omega
   rw[Qt (by omega),Q7 (by simp;omega)]
  rw[this _ _ (Qi _),Qm]
  split
  ·rfl
  rename_i h;rw[Array.getElem?_eq_none (by omega)]
 have fm:((live.map (·.2)).toArray.filterMap (es[·]?)).toList.map (·.1)=live.map λq=>(es.toList.map (·.1)).getD q.2 0:=by
  rw[Array.toList_filterMap];show ((live.map (·.2)).filterMap (es[·]?)).map (·.1)=_
  have all:∀q∈live,q.2<es.size:=λ⟨j,k⟩ h=>by
   have:=(Ql.mp ((mem j k).mp h).2).1;show k<_;omega
  generalize live=lv at all
  induction lv with
  | nil=>rfl
  | cons q lv ih =>
  have hq:=all q (by simp);rw[Qo,List.filterMap_cons_some (Qy hq),Qo,Qo,ih λr hr=>all r (Qj _ hr)];congr 1;rw[QH,QB,Qm,Qy hq];rfl
 rw[fm];refine⟨hm,rfl,by simp,by simpa using up,λj hj=>?_,λq hq=>?_⟩
 ·have hj:j∈live.map (·.1):=by simpa using hj
  exact l.bd j ((ms j).mp hj)
 have hq:q∈(live.map (·.1)).zip (live.map λq=>(es.toList.map (·.1)).getD q.2 0):=by simpa using hq
 rw[List.zip_map',Qn]at hq;obtain⟨⟨j,i⟩,h1,rfl⟩:=hq;obtain⟨h2,h3⟩:=(mem j i).mp h1;have hi:=(Ql.mp h3).1
 have z:(j,(es.toList.map (·.1)).getD i 0)∈js.zip (es.toList.map (·.1)):=by
  have hz:i<(es.toList.map (·.1)).length:=by rw[<-l.len];exact hi
  refine Qz (i:=i) ?_;rw[List.getElem?_zip_eq_some];exact⟨h3,by rw[QH,Qc hz];rfl⟩
 refine(l.rch _ z).mono λx hx=>?_;have:=(ms x).mpr hx;simpa using this
end Ht
namespace Ht
open PySem PySem.Spec PyProof.Rows L2 PySem.SetTable
section
variable {prog:Program} {w:World} {A:Around} {E:B0} {s:Shared}
theorem ig {α:Type} {P:α->Prop} {Q:Option Bool × PUnit->Shared->Prop} {f:α->Option Bool × PUnit->Sem (ForInStep (Option Bool × PUnit))} (l:List α) (hl:∀x∈l,P x)
  (hf:∀x,P x->∀(R:ForInStep (Option Bool × PUnit)->Shared->Prop),R (.yield (none,⟨⟩)) s->wpAny (model prog w) A (f x (none,⟨⟩)) R E s) (h:Q (none,⟨⟩) s):wpAny (model prog w) A (forIn l (none,⟨⟩) f) Q E s:=by
 refine wpAny_forIn_list _ (λrest r s'=>r=(none,⟨⟩)/\s'=s/\∀x∈rest,P x) _ ?_ ?_ _ _ ⟨rfl,rfl,hl⟩
 ·rintro x rest r s' ⟨rfl,rfl,a⟩;exact hf x (a x (by simp)) _ ⟨rfl,rfl,λy hy=>a y (Qj _ hy)⟩
 rintro r s' ⟨rfl,rfl,_⟩;exact h
variable {v:Value}
theorem t6 {k:Key} (h:(aq prog w).is k v=true):(∃i t,v=.int i t)\/∃x t,v=.str x t:=by
 rcases aJ (show cT k v=true from h) with⟨i,t,_,e⟩|⟨x,t,_,e⟩
 ·exact .inl ⟨i,t,e⟩
 exact .inr ⟨x,t,e⟩
variable {vs:List Value}
theorem t8 {ks:List Key} (h:ItemsAre (aq prog w) ks vs):∀v∈vs,∃k,(aq prog w).is k v=true:=by
 induction h with
 | nil=>intro v hv;cases hv
 | cons q _ ih =>
 intro v hv;rcases Qw.mp hv with rfl|hv
 ·exact⟨_,q⟩
 exact ih v hv
theorem rW {h:Heap} {ks:ak} (x:TK.Its (aq prog w) h ks vs):∀v∈vs,∃k,TK.It (aq prog w) h k v:=by
 induction x with
 | nil=>intro v hv;cases hv
 | cons q _ ih =>
 intro v hv;rcases Qw.mp hv with rfl|hv
 ·exact⟨_,q⟩
 exact ih v hv
variable {Q:Bool->Shared->Prop}
theorem hU {k:Key} {d:Nat} (hk:(aq prog w).is k v=true) (h:Q false s):wpAny (model prog w) A (ofAClassStatement d v) Q E s:=by
 rcases t6 hk with⟨i,t,rfl⟩|⟨x,t,rfl⟩ <;> (unfold ofAClassStatement;exact Qf h)
variable {b:Addr}
theorem hV {o:Obj} {its:Array Value} {n d:Nat} {P:Value->Prop} (ho:s.heap.get? b=some o) (hc:o.cls=.type "tuple") (hd:o.data=.seq its n) (hp:∀v∈its.toList,P v)
  (hf:∀v,P v->∀(R:Bool->Shared->Prop),R false s->wpAny (model prog w) A (ofAClassStatement d v) R E s) (h:Q false s):wpAny (model prog w) A (ofAClassStatement (d+1) (.ref b)) Q E s:=by
 unfold ofAClassStatement;refine Qa (wpAny_typeOf (T := "tuple") ⟨o,ho,hc⟩ ?_);dsimp only;rw[Qu (by decide)];refine Qa (Qf ?_);rw[Qt (by decide)];unfold seqItems?;refine Qa (Qa (wpAny_load ho ?_));rw[hd];refine Qf ?_;dsimp only;refine Qa ?_;rw[<-Array.forIn_toList];refine ig its.toList hp (λv hv R hR=>Qa (hf v hv _ ?_)) ?_
 ·rw[Qt Qh];exact Qf hR
 exact Qf h
theorem nH {k:ak} (hk:TK.IsT (aq prog w) s.heap k b) (h:Q false s):wpAny (model prog w) A (ofAClassStatement 8 (.ref b)) Q E s:=by
 obtain⟨o,its,n,h1,h2,h3,h4⟩:=hk;refine hV (d:=7) h1 h2 h3 (rW h4) (λv ⟨k,hv⟩ R hR=>?_) h
 cases k with
 | inl k=>exact hU hv hR
 | inr ks =>
 obtain⟨c,rfl,o,its,n,h1,h2,h3,h4⟩:=hv;exact hV (d:=6) h1 h2 h3 (t8 h4) (λv ⟨k,hv⟩ R hR=>hU hv hR) hR
def wL:Key->Bool
 | .inl _=>true
 | .inr _=>false
def byV2:Key ⊕ List Key->Bool
 | .inl k=>wL k
 | .inr ks=>ks.all wL
theorem u_ {k:Key} {d:Nat} (hk:(aq prog w).is k v=true) (h:Q (wL k) s):wpAny (model prog w) A (hashByValue d v) Q E s:=by
 rcases aJ (show cT k v=true from hk) with⟨i,t,rfl,rfl⟩|⟨x,t,rfl,rfl⟩ <;> (unfold hashByValue;exact Qf h)
theorem vb {α:Type} {o:Obj} {its:Array Value} {n d:Nat} {P:α->Value->Prop} {g:α->Bool} {xs:List α} (ho:s.heap.get? b=some o) (hc:o.cls=.type "tuple") (hd:o.data=.seq its n) (hp:Paired P xs its.toList)
  (hf:∀x v,P x v->∀(R:Bool->Shared->Prop),R (g x) s->wpAny (model prog w) A (hashByValue d v) R E s) (h:Q (xs.all g) s):wpAny (model prog w) A (hashByValue (d+1) (.ref b)) Q E s:=by
 unfold hashByValue;refine Qa (wpAny_specialOf (T := "tuple") ⟨o,ho,hc⟩ F.slot_tuple_hash.lookup ?_);dsimp only;unfold seqItems?;refine Qa (Qa (wpAny_load ho ?_));rw[hd];refine Qf ?_;refine Qa ?_;rw[Option.getD_some,<-Array.forIn_toList];refine wpAny_forIn_list _ (λrest r s'=>r.1=none/\s'=s/\∃ys,Paired P ys rest/\xs.all g=ys.all g) _ ?_ ?_ _ _ ⟨rfl,rfl,xs,hp,rfl⟩
 ·rintro x rest r s' ⟨_,rfl,ys,a,e⟩
  cases a with
  | @cons y _ ys _ q t =>
  refine Qa (hf y x q _ ?_);rw[List.all_cons]at e
  cases c:g y with
  | true=>rw[c,Bool.true_and]at e;exact Qf ⟨rfl,rfl,ys,t,e⟩
  | false=>rw[c,Bool.false_and]at e;rw[e]at h;exact Qf (Qf h)
 rintro⟨r1,r2⟩ s' ⟨hr,rfl,ys,a,e⟩;dsimp only at hr;subst hr;cases a;rw[e]at h;exact Qf h
theorem wB {ks:List Key} (h:ItemsAre (aq prog w) ks vs):Paired (λk v=>(aq prog w).is k v=true) ks vs:=by
 induction h with
 | nil=>exact .nil
 | cons q _ ih=>exact .cons q ih
theorem t7 {h:Heap} {ks:ak} (x:TK.Its (aq prog w) h ks vs):Paired (TK.It (aq prog w) h) ks vs:=by
 induction x with
 | nil=>exact .nil
 | cons q _ ih=>exact .cons q ih
theorem byv {k:ak} (hk:TK.IsT (aq prog w) s.heap k b) (h:Q (k.all byV2) s):wpAny (model prog w) A (hashByValue 8 (.ref b)) Q E s:=by
 obtain⟨o,its,n,h1,h2,h3,h4⟩:=hk;refine vb (d:=7) h1 h2 h3 (t7 h4) (λk v hv R hR=>?_) h
 cases k with
 | inl k=>exact u_ hv hR
 | inr ks =>
 obtain⟨c,rfl,o,its,n,h1,h2,h3,h4⟩:=hv;exact vb (d:=6) h1 h2 h3 (wB h4) (λk v hv R hR=>u_ hv hR) hR
end
theorem u6 {t:SetTable} {hs:List Int} {f:Nat->Int} {h:Int} (b:Tb t hs):∀(n:Nat) (p:Probe) (fu:Nat),Emp t.mask (·∈t.place.toList) n p->n<fu->p.dummy=none ->
  (probe.go t f h fu p=some (.empty (itn (adv t.mask) n p).j none)/\∀d,d<n->∀i,t.place.toList[i]?=some (itn (adv t.mask) d p).j->f i≠h) \/
  ∃d i,d<n/\t.place.toList[i]?=some (itn (adv t.mask) d p).j/\f i=h/\probe.go t f h fu p=some (.candidate (itn (adv t.mask) d p).j i (itn (adv t.mask) (d+1) p))/\Emp t.mask (·∈t.place.toList) (n-(d+1)) (itn (adv t.mask) (d+1) p) /\
   (itn (adv t.mask) (d+1) p).dummy=none/\∀d',d'<d->∀i',t.place.toList[i']?=some (itn (adv t.mask) d' p).j->f i'≠h
 | 0,p,fu+1,e,_,hd=>by
  refine .inl ⟨?_,λd hd=>absurd hd (Nat.not_lt_zero _)⟩;unfold probe.go;rw[lK b.dum e];show some (Met.empty p.j p.dummy)=_;rw[hd];rfl
 | n+1,p,fu+1,e,hn,hd=>by
  obtain⟨i,hi,ei⟩:=Xl e.1;have ei:t.place.toList[i]?=some p.j:=by rw[Qc hi,ei]
  have hd':(adv t.mask p).dummy=none:=by unfold adv;split <;> exact hd
  by_cases c:f i=h
  ·refine .inr ⟨0,i,by omega,ei,c,?_,e.2,hd',λd' hd=>absurd hd (Nat.not_lt_zero _)⟩;unfold probe.go;rw[eV b.up ei];dsimp only;rw[Qu (by simpa using c)];rfl
  have st:probe.go t f h (fu+1) p=probe.go t f h fu (adv t.mask p):=by
   conv=>lhs;unfold probe.go
   rw[eV b.up ei];dsimp only;rw[Qt (by simpa using c)];rfl
  have one:∀i',t.place.toList[i']?=some p.j->i'=i:=λi' z=>by
   have:=(List.getElem?_inj hi b.up.nodup).mp (ei.trans z.symm);exact this.symm
  rcases u6 b n (adv t.mask p) fu e.2 (by omega) hd' with⟨g1,g2⟩|⟨d,i2,g1,g2,g3,g4,g5,g6,g7⟩
  ·refine .inl ⟨by rw[st];exact g1,λd hd=>?_⟩
   cases d with
   | zero=>intro i' z;rw[one i' z];exact c
   | succ d=>exact g2 d (by omega)
  refine .inr ⟨d+1,i2,by omega,g2,g3,by rw[st];exact g4,by rw[show n+1-(d+1+1)=n-(d+1) by omega];exact g5,g6,λd' hd=>?_⟩
  cases d' with
  | zero=>intro i' z;rw[one i' z];exact c
  | succ d'=>exact g7 d' (by omega)
section
variable {prog:Program} {w:World}
def El (prog:Program) (w:World) (B:Addr->Prop) (h:Heap) (e:Int × Value) (k:ak):Prop:=∃b,e.2=.ref b/\TK.IsT (aq prog w) h k b/\e.1=(bq prog w).hash k/\B b
abbrev tu (es:Array (Int × Value)) (ep:Nat) (t:SetTable):Obj:={ cls:=.type "set", data:=.set es ep t }
theorem El.at {B:Addr->Prop} {h h':Heap} {a:Addr} {o:Obj} {e:Int × Value} {k:ak} (x:El prog w B h e k) (ho:h.get? a=some o) (hc:o.cls≠.type "tuple") (sb:∀b o,b≠a->h.get? b=some o->h'.get? b=some o):El prog w B h' e k:=by
 obtain⟨b,e1,e2,e3⟩:=x;exact⟨b,e1,Tm.bQ e2 λc oc hc' hcl=>sb c oc (λz=>by rw[z,ho]at hc';cases hc';exact hc hcl) hc',e3⟩
theorem eO {B:Addr->Prop} {h:Heap}:∀{es:List (Int × Value)} {ks:List ak} {i:Nat},Paired (El prog w B h) es ks->∀{e},es[i]?=some e->∃k,ks[i]?=some k/\El prog w B h e k
 | _,_,_,.nil,_,e=>by simp at e
 | _,_,0,.cons r _,_,e=>by simp at e;subst e;exact⟨_,rfl,r⟩
 | _,_,i+1,.cons _ t,_,e=>by obtain⟨k,h1,h2⟩:=eO (i:=i) t (by simpa using e);exact⟨k,by simpa using h1,h2⟩
variable {A:Around} {E:B0} {s:Shared} {a b:Addr} {es:Array (Int × Value)} {ep:Nat} {t:SetTable} {ks:List ak} {kx:ak}
theorem vg {l:List Value} {Q:Bool->Shared->Prop} (hx:TK.IsT (aq prog w) s.heap kx b) (hl:∀v∈l,∃c k,v=.ref c/\TK.IsT (aq prog w) s.heap k c) (h:Q false s):wpAny (model prog w) A (searchCouldBeSeen (.ref b) l) Q E s:=by
 unfold searchCouldBeSeen;refine Qa (ig l hl (λv ⟨c,k,e,hv⟩ R hR=>?_) (Qf h));subst e;dsimp only;refine wpAny_ite_split (λ_=>Qf hR) λ_=>?_;refine Qa (TK.t_quiet hx ?_);rw[Qt (by simp)];refine Qa (TK.t_quiet hv ?_);rw[Qt (by simp)];refine Qa (nH hx ?_);rw[Qt Qh];refine Qa (nH hv ?_);rw[Qt Qh];exact Qf hR
end
section
variable {prog:Program} {w:World} {A:Around} {E:B0} {s:Shared} {a b:Addr} {es:Array (Int × Value)} {ep:Nat} {t:SetTable} {ks:List ak} {kx:ak} {B:Addr->Prop}
theorem tX {m:Nat} (h:Msk m):m % 2=1:=by rcases h with rfl|rfl|rfl|rfl <;> rfl
theorem vD (hu:A.units+1<cLine) (ho:s.heap.get? a=some (tu es ep t)) (b0:Tb t (es.toList.map (·.1))) (fw:es.size<=t.mask) (el:Paired (El prog w B s.heap) es.toList ks) (hx:TK.IsT (aq prog w) s.heap kx b) {Q:SetFound->Shared->Prop} :
  ∀(n:Nat) (p:Probe) (fu:Nat) (st:Option Probe),st.getD (t.probeStart ((bq prog w).hash kx))=p->Emp t.mask (·∈t.place.toList) n p->n<fu->n<10*turns t.mask->p.dummy=none ->
   ((∃d i:Nat,d<n/\t.place.toList[i]?=some (itn (adv t.mask) d p).j/\ks[i]?=some kx)/\Q (.there none) s\/kx∉ks/\Q (.free (itn (adv t.mask) n p).j false) s) ->
   wpAny (model prog w) A (setSearchFrom a (.ref b) ((bq prog w).hash kx) true fu st) Q E s:=by
 have hf:t.fits es.size=true:=by have:=b0.fits (by rw[Qb,Qe];exact fw);rwa [Qb,Qe]at this
 have pz:t.place.toList.length=es.toList.length:=by rw[b0.len,Qb]
 have gw:t.gaveWay=false:=by have:=tX b0.msk;simp[gaveWay,this]
 intro n
 induction n using Nat.strongRecOn with
 | _ n ih =>
 intro p fu st est e hn hn2 hd q;obtain⟨fu,rfl⟩:∃f,fu=f+1:=⟨fu-1,by omega⟩;unfold setSearchFrom;refine Qa (Xc ho rfl hf ?_);dsimp only;rw[gw,est];rw[Qt Qh];have go:=u6 (f:=λi=>(es[i]?.map (·.1)).getD 0) (h:=(bq prog w).hash kx) b0 n p (10*turns t.mask) e hn2 hd
 have at_:∀(i:Nat) (k:ak),ks[i]?=some k->∃(e:Int × Value) (c:Addr),es[i]?=some e/\e.2=.ref c/\TK.IsT (aq prog w) s.heap k c/\(es[i]?.map (·.1)).getD 0=(bq prog w).hash k:=λi k hk=>by
  have hi:i<es.toList.length:=by rw[Xf el];exact(Ql.mp hk).1
  obtain⟨k',h1,c,h2,h3,h4⟩:=eO el (Qc hi);rw[hk]at h1;cases h1;rw[Qe]at hi;exact⟨es[i],c,Qy hi,h2,h3,by rw[Qy hi];exact h4.1⟩
 split
 ·rename_i met hmet
  have hmet:probe.go t (λi=>(es[i]?.map (·.1)).getD 0) ((bq prog w).hash kx) (10*turns t.mask) p=some met:=hmet;rcases go with⟨g1,g2⟩|⟨d,i,g1,g2,g3,g4,g5,g6,g7⟩
  ·rw[g1]at hmet;cases hmet;rcases q with⟨⟨d,i,h1,h2,h3⟩,_⟩|⟨_,q⟩
   ·obtain⟨_,_,_,_,_,z⟩:=at_ i kx h3;exact absurd z (g2 d h1 i h2)
   exact Qf q
  rw[g4]at hmet;cases hmet;have hi:i<es.size:=by have:=(Ql.mp g2).1;rw[<-Qe];omega
  obtain⟨k,hk,c,hc,hic,hh⟩:=eO el (i:=i) (e:=es[i]) (by rw[Qm];exact Qy hi)
  have all:∀v∈List.map (λx:Int × Value=>x.2) (Array.filter (λx=>x.1==(bq prog w).hash kx) es).toList,∃c k,v=.ref c/\TK.IsT (aq prog w) s.heap k c:=λv hv=>by
   obtain⟨e,he,rfl⟩:=Qn.mp hv;rw[Array.toList_filter]at he;obtain⟨j,hj⟩:=List.getElem?_of_mem (List.mem_filter.mp he).1;obtain⟨k,_,c,h1,h2,_⟩:=eO el hj;exact⟨c,k,h1,h2⟩
  have same:t.sameMemory t.moves t.mask=some true:=by simp[sameMemory]
  refine wpAny_ite_split (λ_=>Qa (vg hx all ?_)) (λ_=>?_)
  all_goals try rw[Qt Qh]
  all_goals
   rw[Qy hi];have ee:es[i]=(es[i].1,.ref c):=by rw[<-hc]
   rw[ee];dsimp only;refine Qa (Xm (TK.t_eq (iR prog w) hu hic hx ?_));refine Qa (Xc ho rfl hf ?_);dsimp only;by_cases ck:k=kx
   ·subst ck;rw[QA rfl,Qu (show (true&&true)=true from rfl)];rcases q with⟨_,q⟩|⟨q,_⟩
    ·exact Qf q
    exact absurd (Qz hk) q
   rw[QE ck,Qt (by simp),same];dsimp only;rw[Qu rfl,eV b0.up g2];dsimp only;rw[Qy hi,ee];dsimp only;refine Qa (wpAny_isSame_ref_self (Qa (Qf ?_)));rw[Qu rfl];dsimp only;rw[Qt Qh];refine ih (n-(d+1)) (by omega) (itn (adv t.mask) (d+1) p) fu (some (itn (adv t.mask) (d+1) p)) rfl g5 (by omega) (by omega) g6 ?_;rcases q with⟨⟨d2,i2,h1,h2,h3⟩,q⟩|⟨q1,q2⟩
   ·refine .inl ⟨⟨d2-(d+1),i2,?_,?_,h3⟩,q⟩
    all_goals
     have:d<d2:=by
      rcases Nat.lt_trichotomy d2 d with z|z|z
      ·obtain⟨_,_,_,_,_,y⟩:=at_ i2 kx h3;exact absurd y (g7 d2 z i2 h2)
      ·subst z;have hi2:i2<t.place.toList.length:=(Ql.mp h2).1;have:=(List.getElem?_inj hi2 b0.up.nodup).mp (h2.trans g2.symm);subst this;rw[hk]at h3;exact absurd (QL h3) ck
      exact z
    ·omega
    rw[<-cO,show d+1+(d2-(d+1))=d2 by omega];exact h2
   refine .inr ⟨q1,?_⟩;rw[<-cO,show d+1+(n-(d+1))=n by omega];exact q2
 rename_i hmet
 have hmet:probe.go t (λi=>(es[i]?.map (·.1)).getD 0) ((bq prog w).hash kx) (10*turns t.mask) p=none:=by
  cases c:probe.go t (λi=>(es[i]?.map (·.1)).getD 0) ((bq prog w).hash kx) (10*turns t.mask) p with
  | none=>rfl
  | some m=>exact absurd c (hmet m)
 rcases go with⟨g1,_⟩|⟨d,i,_,_,_,g4,_⟩
 ·rw[g1]at hmet;cases hmet
 rw[g4]at hmet;cases hmet
end
theorem wW {m n j:Nat} {L:Nat->Prop} {p:Probe} (r:Rch m L p j) (hj:L j) (e:Emp m L n p):∃d,d<n/\(itn (adv m) d p).j=j:=by
 induction r generalizing n with
 | here p =>
  cases n with
  | zero=>exact absurd hj e
  | succ n=>exact⟨0,by omega,rfl⟩
 | step a _ ih =>
 cases n with
 | zero=>exact absurd a e
 | succ n=>obtain⟨d,h1,h2⟩:=ih hj e.2;exact⟨d+1,by omega,h2⟩
theorem sO {m:Nat}:∀(n:Nat) (p:Probe),p.j+p.more<m+1->(itn (adv m) n p).j<m+1
 | 0,p,h=>by show p.j<_;omega
 | n+1,p,h=>by
  refine sO n (adv m p) ?_;unfold adv
  split
  ·show p.j+1+(p.more-1)<_;omega
  have l:(leap m p.i p.perturb).1<m+1:=Nat.mod_lt _ (Nat.succ_pos _);have:=lQ l;show (leap m p.i p.perturb).1+(runEnd m (leap m p.i p.perturb).1-(leap m p.i p.perturb).1)<_;omega
theorem paired_perm {α β:Type} {R:α->β->Prop} {as as':List α} (p:as'.Perm as):∀{bs:List β},Paired R as bs->∃bs',Paired R as' bs'/\bs'.Perm bs:=by
 induction p with
 | nil=>intro bs h;exact⟨bs,h,.refl _⟩
 | cons x _ ih=>intro bs h;cases h with
  | cons q t=>obtain⟨bs',h1,h2⟩:=ih t;exact⟨_::bs',.cons q h1,h2.cons _⟩
 | swap x y l=>intro bs h;cases h with
  | cons q t=>cases t with
   | cons q2 t2=>exact⟨_::_::_,.cons q2 (.cons q t2),.swap _ _ _⟩
 | trans _ _ ih1 ih2=>intro bs h;obtain⟨b2,h1,h2⟩:=ih2 h;obtain⟨b3,h3,h4⟩:=ih1 h1;exact⟨b3,h3,h4.trans h2⟩
theorem gn {α β:Type} {R:α->β->Prop} {x:α} {y:β} (q:R x y):∀(p:Nat) {as:List α} {bs:List β},Paired R as bs->Paired R (as.take p++x::as.drop p) (bs.take p++y::bs.drop p)
 | 0,_,_,h=>by simpa using Paired.cons q h
 | p+1,_,_,.nil=>.cons q .nil
 | p+1,_,_,.cons r t=>.cons r (gn q p t)
section
variable {prog:Program} {w:World}
def SetK (prog:Program) (w:World) (B:Addr->Prop) (h:Heap) (a:Addr) (ks:List ak):Prop:=∃(es:Array (Int × Value)) (ep:Nat) (t:SetTable) (ks':List ak),h.get? a=some (tu es ep t)/\Paired (El prog w B h) es.toList ks'/\ks'.Perm ks/\ks.Nodup/\Tb t (es.toList.map (·.1))/\es.size*5<t.mask*3/\LS.Led w t es.size
variable {A:Around} {E:B0} {s:Shared} {a b:Addr} {ks:List ak} {k:ak} {B:Addr->Prop}
theorem SetK.new {h:Heap} (g:h.get? a=some (LS.bare !(w.params.followText "set-order"))):SetK prog w B h a [] :=
 ⟨#[],0,_,[],g,.nil,.refl _,List.nodup_nil,⟨.inl rfl,rfl,rfl,List.Pairwise.nil,fun j h=>(nomatch h),fun q h=>(nomatch h)⟩,show 0*5<7*3 by decide,by
  unfold LS.Led
  cases e:w.params.followText "set-order" with
  | true=>exact .inl rfl
  | false=>exact .inr ⟨rfl,λz=>absurd rfl z⟩⟩
theorem Am {Q:Bool->Shared->Prop} (hu:A.units+1<cLine) (S:SetK prog w B s.heap a ks) (hk:TK.IsT (aq prog w) s.heap k b) (tx:k.all byV2=false) (hB:B b) (fw:ks.length<300)
  (h:∀h' c ks2,Heap.SameBut a s.heap h'->SetK prog w B h' a ks2->ks2.length<=ks.length+1->(∀x,x∈ks2↔x∈ks\/x=k)->Q c { s with heap:=h' }):wpAny (model prog w) A (setAddHashed a (.ref b) ((bq prog w).hash k)) Q E s:=by
 obtain⟨es,ep,t,ks',ho,el,pk,nd,b0,fe,ld⟩:=S;have lk:es.size=ks.length:=by rw[<-Qe,Xf el,pk.length_eq]
 have m7:7<=t.mask:=by rcases b0.msk with e|e|e|e <;> omega
 have fl:es.size<=t.mask:=by omega
 have hf:t.fits es.size=true:=by have:=b0.fits (by rw[Qb,Qe];exact fl);rwa [Qb,Qe]at this
 have pz:t.place.toList.length=es.toList.length:=by rw[b0.len,Qb]
 obtain⟨e0,he0,ne0⟩:=nX (m:=t.mask) b0.up.nodup (by rw[pz,Qe];omega);obtain⟨n,hn,em⟩:=pI (L:=(·∈t.place.toList)) b0.msk ((bq prog w).hash k) he0 ne0;have t127:t.mask<=511:=by rcases b0.msk with e|e|e|e <;> omega
 unfold setAddHashed setAddHashedIn;refine Xm (Qa (Xc ho rfl hf ?_));dsimp only;rw[Qt (show ¬(byScan (.ref b) es=true) by simp[byScan,Value.scannable])];unfold setSearch;refine Qa (vD hu ho b0 fl el hk n (beg t.mask (bits ((bq prog w).hash k) % (t.mask+1),bits ((bq prog w).hash k))) 100000 none rfl em (by unfold turns at hn;omega) hn rfl ?_);by_cases c:k∈ks
 ·refine .inl ⟨?_,Qf (h s.heap false ks (Heap.SameBut.refl a s.heap) ⟨es,ep,t,ks',ho,el,pk,nd,b0,fe,ld⟩ (Nat.le_succ _) λx=>⟨.inl,λz=>z.elim id λe=>e▸c⟩)⟩;obtain⟨i,hi,ei⟩:=Xl (pk.mem_iff.mpr c);have ei:ks'[i]?=some k:=by rw[Qc hi,ei]
  have hi2:i<es.toList.length:=by rw[Xf el];exact hi
  have hi3:i<t.place.toList.length:=by omega
  obtain⟨k2,h1,_,_,_,h4,_⟩:=eO el (Qc hi2);rw[ei]at h1;cases h1
  have r:=b0.rch (t.place.toList[i],es.toList[i].1) (Qz (i:=i) (by
   rw[List.getElem?_zip_eq_some]
   exact⟨Qc hi3,by rw[QB,Qc hi2];rfl⟩))
  dsimp only at r;rw[h4]at r;obtain⟨d,d1,d2⟩:=wW r (Xv hi3) em;exact⟨d,i,d1,by rw[qk]at d2;rw[Qc hi3];exact congrArg some d2.symm,ei⟩
 refine .inr ⟨λz=>c (pk.mem_iff.mp z),?_⟩;obtain⟨r,nl⟩:=em.rch
 have jb:(itn (adv t.mask) n (beg t.mask (bits ((bq prog w).hash k) % (t.mask+1),bits ((bq prog w).hash k)))).j<t.mask+1:=sO n _ (by
  have l:bits ((bq prog w).hash k) % (t.mask+1)<t.mask+1:=Nat.mod_lt _ (Nat.succ_pos _);have:=lQ l;show bits ((bq prog w).hash k) % (t.mask+1)+(runEnd t.mask (bits ((bq prog w).hash k) % (t.mask+1))-bits ((bq prog w).hash k) % (t.mask+1))<_
  omega)
 generalize (itn (adv t.mask) n (beg t.mask (bits ((bq prog w).hash k) % (t.mask+1),bits ((bq prog w).hash k)))).j=j at *;dsimp only;refine Qa (Xc ho rfl hf ?_);dsimp only;obtain⟨p,ep',p1,p2,p3,p4,b1⟩:=b0.put jb nl r;rw[<-ep'];generalize (t.put j).1=t1 at *;have lp:es.size=(es.toList.map (·.1)).length:=by simp
 rw[<-lp]at p1;have il:=kQ es p ((bq prog w).hash k,Value.ref b) p1;generalize insertAt es p ((bq prog w).hash k,Value.ref b)=es1 at *;have ih1:es1.toList.map (·.1)=(es.toList.map (·.1)).take p++(bq prog w).hash k::(es.toList.map (·.1)).drop p:=by rw[il,QP,Qo,List.map_take,List.map_drop]
 rw[<-ih1]at b1;have z1:es1.size=es.size+1:=by rw[<-Qe,il];simp only[Qg,QC,QJ,QU,Qe];omega
 have el1:Paired (El prog w B s.heap) es1.toList (ks'.take p++k::ks'.drop p):=by rw[il];exact gn ⟨b,rfl,hk,rfl,hB⟩ p el
 have pk1:(ks'.take p++k::ks'.drop p).Perm (ks++[k]):=by
  refine List.perm_middle.trans ?_;rw[QV];exact(pk.cons k).trans (List.perm_append_singleton k ks).symm
 have nd1:(ks++[k]).Nodup:=List.nodup_append.mpr ⟨nd,by simp,λx hx y hy e=>c (by simp at hy;rw[<-hy,<-e];exact hx)⟩;have mm:∀x,x∈ks++[k]↔x∈ks\/x=k:=λx=>by simp
 have fin:∀t2:SetTable,t2.mask=t.mask->Tb t2 (es1.toList.map (·.1))->LS.Led w t2 es1.size ->
   wpAny (model prog w) A (storeSet a es1 t2 >>= λ_=>if (!false&&t2.tooFull)=true then setRelay a (grown (es.size+1)) >>= λ_=>pure true else pure true) Q E s:=λt2 em b2 ld2=>by
  have fill2:t2.fill=es1.size:=by unfold SetTable.fill;have:=b2.len;rw[Qe,Qb,Qe]at this;rw[this,b2.dum];rfl
  refine Qa (wpAny_storeSet_of ho rfl ?_ (by rw[sizeLine_eq];omega));have g1:(s.heap.update a (Obj.putSet es1 t2)).get? a=some (tu es1 (ep+1) t2):=Xe (Obj.putSet es1 t2) ho rfl;have sb1:=Q8 s.heap a (Obj.putSet es1 t2);have elA:∀{h':Heap} {l:List (Int × Value)} {ks3:List ak},Heap.SameBut a s.heap h'->Paired (El prog w B s.heap) l ks3->Paired (El prog w B h') l ks3:=λsb x=>Paired.mapT x λe k q=>q.at ho (λz=>absurd (Value.type.inj z) (by decide)) λb o hb e=>(sb.2 b hb).trans e;by_cases tf:t2.tooFull=true
  ·rw[tf,Qu (show (!false&&true)=true from rfl)];unfold tooFull at tf;rw[fill2,em]at tf;have tf:t.mask*3<=es1.size*5:=XR tf
   obtain⟨m',hm',es',fw'⟩:∃m',Msk m'/\sizeAbove (grown (es.size+1))=m'+1/\es1.size*5<m'*3:=by
    rcases b0.msk with e|e|e|e
    ·have:es.size=4:=by omega
     rw[this];exact⟨31,.inr (.inl rfl),by decide +kernel,by omega⟩
    ·have:es.size=18:=by omega
     rw[this];exact⟨127,.inr (.inr (.inl rfl)),by decide +kernel,by omega⟩
    ·have:es.size=76:=by omega
     rw[this];exact⟨511,.inr (.inr (.inr rfl)),by decide +kernel,by omega⟩
    omega
   have hf2:t2.fits es1.size=true:=by have:=b2.fits (by rw[Qb,Qe];omega);rwa [Qb,Qe]at this
   obtain⟨t3,order,l1,l2,l3,l4,l5,l6⟩:=zX hm' es1 (by omega) t2.finger (t2.movedTo m') t2.led t2.plain
   have rl:t2.relaid (es1.map (·.1)) (grown (es.size+1))=some (t3,order):=by
    unfold relaid;rw[es',Xq];exact l1
   have z3:(order.filterMap (es1[·]?)).size=es1.size:=by rw[<-Qe,l5.length_eq,Qe]
   unfold setRelay;refine Qa (Qa (Xc (s:={ s with heap:=s.heap.update a (Obj.putSet es1 t2) }) g1 rfl hf2 ?_));dsimp only;have m127:m'<=511:=by rcases hm' with e|e|e|e <;> omega
   rw[Qt (show ¬sizeAbove (grown (es.size+1))>sizeLine by rw[es',sizeLine_eq];omega),rl];have nz:((order.filterMap (es1[·]?)).size != es1.size)=false:=by rw[z3];simp
   generalize hS:storeSet=ST
   wp_walk
   subst hS;dsimp only;refine wpAny_storeSet_of (s:={ s with heap:=s.heap.update a (Obj.putSet es1 t2) }) g1 rfl ?_ (by rw[z3,sizeLine_eq];omega);obtain⟨ks4,e4,p4'⟩:=paired_perm l5 el1;have sb2:=sb1.trans (Q8 (s.heap.update a (Obj.putSet es1 t2)) a (Obj.putSet (order.filterMap (es1[·]?)) t3));refine Qf (h _ true (ks++[k]) sb2 ⟨_,ep+1+1,t3,ks4,Xe (Obj.putSet (order.filterMap (es1[·]?)) t3) g1 rfl,elA sb2 e4,p4'.trans pk1,nd1,l6,by rw[z3,l2];exact fw',?_⟩ (by simp) mm);rw[z3];exact ld2.imp id λz=>⟨l3.trans z.1,λy=>l4.trans (z.2 y)⟩
  rw[Bool.eq_false_iff.mpr tf,Qt (by simp)];refine Qf (h _ true (ks++[k]) sb1 ⟨es1,ep+1,t2,_,g1,elA sb1 el1,pk1,nd1,b2,?_,ld2⟩ (by simp) mm);unfold tooFull at tf;rw[fill2]at tf;have:=of_decide_eq_false (Bool.eq_false_iff.mpr tf);omega
 have tb_off:Tb { t1 with plain:=false } (es1.toList.map (·.1)):=⟨b1.msk,b1.dum,b1.len,b1.up,b1.bd,b1.rch⟩;have led2:∀t2:SetTable,t2.led=t.led->t2.plain=false->LS.Led w t2 es1.size:=λt2 e1 e2=>ld.imp id λz=>⟨e1.trans z.1,λ_=>e2⟩;by_cases pl:t1.plain=true
 ·rw[Qu pl];refine Qa (byv hk ?_);rw[tx];exact fin { t1 with plain:=false } p2 tb_off (led2 _ p3 rfl)
 rw[Qt pl];refine Qa (Qf ?_);exact fin t1 p2 b1 (led2 _ p3 (Bool.eq_false_iff.mpr pl))
end
end Ht
set_option maxHeartbeats 4000000
namespace LG
open PySem PySem.Spec PyProof.Rows LS
section
variable {prog:Program} {w:World} {A:Around} {E:B0} {s:Shared}
theorem call_set_gen {l:Addr} {its:Array Value} {G:Heap->Addr->Prop} {Q:B0} (hh:A.handled=none) (hl:s.heap.IsList l its)
  (loop:∀(I S:Addr) (s0:Shared) (R:Result->Shared->Prop),(∀b o,s.heap.get? b=some o->s0.heap.get? b=some o)->s.heap.objs.size<=S->s.heap.objs.size<=I->l≠I->S∉[I,l]->(s0.heap.IsListIter I l 0/\s0.heap.IsList l its)->s0.heap.get? S=some (bare !(w.params.followText "set-order")) ->
   (∀s',Moved [S,I] (λa b=>b=a) s0 s'->G s'.heap S->R (.ok (.ret .none)) s')->codeAny (model prog w) A.in1.in1 (.builtin "set.update.loop" ⟨[.ref S,.ref I],[]⟩) R s0)
  (h:∀(h1:Heap) (tk:Nat),G h1 s.heap.objs.size->(∀b o,s.heap.get? b=some o->h1.get? b=some o)->Q (.ref s.heap.objs.size) { s with heap:=h1,toks:=tk }) :
  wpAny (model prog w) A (call (.type "set") [.ref l]) Q E s:=by
 obtain⟨cl,tl,mro⟩:=Xs.mro;have y1:=Xs.made;have y2:=Xs.sub;refine wpAny_call (codeAny_of_tree ?_);show wpAny _ _ (callAny (.type "set") ⟨[.ref l],[]⟩) _ _ _;refine Qf ⟨Code.quiet_builtin _ (by decide +kernel),XH F.entry_type_call ?_⟩;rw[Around.under_plain (weight_type_call_type "set" [.ref l] []) rfl];have y3:=Xs.notType;have y4:=Xs.canCreate;have y5:=F.typeCall_set_1 (.ref l)
 repeat (any_goals (first|assumption|wp_step))
 refine codeAny_mono (kY (.ref l) (E:=E) (Q₁:=λv s1=>∃led:Bool,led=!(w.params.followText "set-order")/\v=.ref s.heap.objs.size/\s1={ s with heap:=s.heap.push (bare led) }) ⟨_,rfl,rfl,rfl⟩) λr s1 hr=>?_
 cases r with
 | error e=>exact hr
 | ok fl =>
 cases fl with
 | ret obj =>
  obtain⟨led,hled,rfl,rfl⟩:=hr;have hS:(s.heap.push (bare led)).get? s.heap.objs.size=some (bare led):=Qv _ rfl;have hT:Shared.TypeIs { s with heap:=s.heap.push (bare led) } (.ref s.heap.objs.size) "set" := ⟨_,hS,rfl⟩;have y6:=Xs.init.lookup;have y7:=Xs.init.bind (.ref s.heap.objs.size)
  repeat (any_goals (first|assumption|wp_step))
  refine codeAny_mono (codeAny_call_builtin (R:=wants (λv s2=>v=.none/\∃h1 tk,s2={ s with heap:=h1,toks:=tk }/\G h1 s.heap.objs.size/\∀b o,s.heap.get? b=some o->h1.get? b=some o) E) Xs.init.plain F.entry_set_init (check_set_init_1 hT ?_)) λr2 s2 hr2=>?_
  ·obtain⟨ol,hol,hcl,nl,hdl⟩:=hl;obtain⟨ocls,odict,odata,oslots⟩:=ol;simp only at hcl hdl;subst hcl;subst hdl;have hol1:(s.heap.push (bare led)).get? l=some { cls:=.type "list", dict:=odict,data:=.seq its nl,slots:=oslots }:=Qd _ hol;have y8:=F.sub_list_set;have y9:=F.sub_list_frozenset;have y0:(Value.type "list" == Value.type "dict")=false:=by decide
   have hl1:(s.heap.push (bare led)).IsList l its:=⟨_,hol1,rfl,nl,rfl⟩;unfold Builtin.«set.__init__» noKeywords Builtin.Frozenset.updateFrom;generalize hPI:pyIter=PI
   wp_walk
   subst hPI;refine wpAny_pyIter_list hl1 ?_;refine Qa (wpAny_runValue ?_);have lS:l<s.heap.objs.size:=Qs hol
   have nI:l≠(s.heap.push (bare led)).objs.size:=by
    rw[XB];exact QF (Nat.lt_succ_of_lt lS)
   have nF:s.heap.objs.size∉[(s.heap.push (bare led)).objs.size,l]:=by
    rw[XB];simp only[Qw,QG,XJ,or_false,not_or];exact⟨QF (Nat.lt_succ_self _),Nat.ne_of_gt lS⟩
   refine loop _ _ _ _ (λb o e=>Qd _ (Qd _ e)) (Qi _) (by rw[XB];exact Nat.le_succ _) nI nF ⟨⟨_,Qv _ rfl,rfl,rfl⟩,(hl1.push _)⟩ ?_ λs3 mv q=>?_
   ·have e:((s.heap.push (bare led)).push { cls:=.type "list_iterator", data:=.fields #[.ref l,.int 0 0] }).get? s.heap.objs.size=some (bare led):=Qd _ hS;rw[e,hled]
   obtain⟨h3,g3,d3,tk3,os3⟩:=s3;obtain rfl:g3=s.gens:=mv.gens;obtain rfl:d3=s.drawn:=mv.drawn;obtain rfl:os3=s.os:=mv.os;show wpAny _ _ _ _ _ _;refine Qf ?_;show wpAny _ _ (ret Value.none) _ _ _;refine Qf ⟨rfl,h3,tk3,rfl,q,λb o e=>?_⟩;have lb:=Qs e;have z1:b≠s.heap.objs.size:=QF lb
   have z2:b≠(s.heap.push (bare led)).objs.size:=by
    rw[XB];exact QF (Nat.lt_succ_of_lt lb)
   exact mv.heap b o (by simp only[Qw,QG,XJ,or_false,not_or];exact⟨z1,z2⟩) (Qd _ (Qd _ e))
  cases r2 with
  | error e=>exact hr2
  | ok fl2 =>
  cases fl2 with
  | ret r =>
   obtain⟨rfl,h1,tk,rfl,q,k⟩:=hr2
   repeat (any_goals (first|assumption|wp_step))
   exact h _ _ q k
  | _=>exact hr2.elim
 | _=>exact hr.elim
end
end LG
set_option maxHeartbeats 400000
namespace LS
open PySem PySem.Spec PyProof.Rows
theorem d_ {α:Type}:∀{l:List α} {i:Nat} (h:i<l.length),(l[i]::l.eraseIdx i).Perm l
 | a::l,0,_=>.refl _
 | a::l,i+1,h=>by
  have hi:i<l.length:=by simpa using h
  have q:=d_ (l:=l) (i:=i) hi;show (l[i]::a::l.eraseIdx i).Perm (a::l);exact(List.Perm.swap _ _ _).trans (q.cons a)
theorem nA {α:Type} (next:Nat->Nat):∀(fuel k:Nat) (left:List α) (out:Array α),left.length=fuel->(pickOrder.go next fuel k left out).toList.Perm (out.toList++left)
 | 0,k,left,out,h=>by
  obtain rfl:left=[]:=List.length_eq_zero_iff.mp h;simp[pickOrder.go]
 | fuel+1,k,left,out,h=>by
  have lt:next k % left.length<left.length:=Nat.mod_lt _ (by omega);have e:left[next k % left.length]?=some left[next k % left.length]:=Qc lt;unfold pickOrder.go;rw[e];refine(nA next fuel (k+1) _ _ (by rw[List.length_eraseIdx_of_lt lt];omega)).trans ?_;rw[Array.toList_push,QY];exact List.Perm.append_left _ (d_ lt)
theorem fc {α:Type} (next:Nat->Nat) (xs:Array α):(pickOrder next xs).toList.Perm xs.toList:=by
 have:=nA next xs.size 0 xs.toList #[] (by simp);unfold pickOrder;simpa using this
section
variable {prog:Program} {w:World} {A:Around} {E:B0} {s:Shared} {a it:Addr} {es:Array (Int × Value)} {ep:Nat} {t:SetTable} {i:Nat}
theorem iw {src:Source} {n:Nat} {Q:Nat->Shared->Prop} (hn:n≠0) (h:∀i d,i<n->Q i { s with drawn:=d }):wpAny (model prog w) A (choose src n) Q E s:=λΓ p hΓ=>by
 show Sem.wp (model prog w) Γ (.choose src n .pure) _ _ p s;rw[Sem.wp_choose];refine⟨hn,?_⟩;rw[Sem.wp_pure];exact h _ _ (Nat.mod_lt _ (Nat.pos_of_ne_zero hn))
theorem db {α:Type}:∀(n:Nat) (xs:List α) (s:Shared) (Q:List α->Shared->Prop),xs.length=n->(∀ys d,ys.Perm xs->Q ys { s with drawn:=d })->wpAny (model prog w) A (drawOrder n xs) Q E s
 | 0,xs,s,Q,h,q=>by
  obtain rfl:xs=[]:=List.length_eq_zero_iff.mp h;exact Qf (q [] s.drawn .nil)
 | n+1,[],s,Q,h,q=>by cases h
 | n+1,x::xs,s,Q,h,q=>by
  unfold drawOrder;refine Qa (iw (by simp) λi d hi=>?_);rw[Qc hi];dsimp only;refine Qa (db n _ _ _ (by rw[List.length_eraseIdx_of_lt hi];simp at h ⊢;omega) λys d2 pm=>Qf (q _ d2 ?_));exact(List.Perm.cons _ pm).trans (d_ hi)
variable {Q:Option (Value × Nat)->Shared->Prop}
theorem hW {slot:Nat} (ht:w.params.followText "set-order" = true) (hs:cQ s.heap a es ep t) (h:Q (((pickOrder (w.params.setOrder a ep) es)[i]?).map λe=>(e.2,slot)) s):wpAny (model prog w) A (setNext a slot i ep) Q E s:=by
 obtain⟨os,hos,hds,_,hf⟩:=id hs;unfold setNext setsByText;refine Qa (Xc hos hds hf ?_);dsimp only;refine Qa (Qa (wpAny_askSetting (Qf ?_)));rw[Qu (show (Setting.params ⟨(model prog w).prog,(model prog w).w.params⟩).followText "set-order" = true from ht),Qt (by simp)];unfold setWalk setsByText;refine Qa (Qa (Xc hos hds hf ?_));dsimp only;refine Qa (Qa (wpAny_askSetting (Qf ?_)));rw[Qu (show (Setting.params ⟨(model prog w).prog,(model prog w).w.params⟩).followText "set-order" = true from ht)];refine Qa (wpAny_askSetting (Qf ?_));exact Qf h
theorem ko {slot:Nat} (ht:w.params.followText "set-order" = false) (hs:cQ s.heap a es ep t) (h1:es.size<=1) (hl:t.led=true)
  (h:Q (match es[SetTable.below t.place slot]?,t.place[SetTable.below t.place slot]? with|some (_,x),some j=>some (x,j+1)|_,_=>none) s):wpAny (model prog w) A (setNext a slot i ep) Q E s:=by
 obtain⟨os,hos,hds,_,hf⟩:=id hs;unfold setNext setsByText;refine Qa (Xc hos hds hf ?_);dsimp only;refine Qa (Qa (wpAny_askSetting (Qf ?_)));rw[Qt (show ¬(Setting.params ⟨(model prog w).prog,(model prog w).w.params⟩).followText "set-order" = true by rw[show (Setting.params ⟨(model prog w).prog,(model prog w).w.params⟩).followText "set-order" = false from ht];exact Qh)];refine wpAny_ite_split (λhab=>?_) λ_=>?_
 ·have hab:(!t.plain&&decide (es.size>1))=true:=hab;simp at hab;omega
 refine Qa ?_;show wpAny _ _ (if (!t.led&&!es.isEmpty)=true then unsupported "set:maker-not-led" else pure ()) _ _ _;rw[Qt (by rw[hl];simp)];exact Qf (Qf h)
theorem lC (hh:A.handled=none) (ht:w.params.followText "set-order" = true) (I:Addr) (ne:a≠I):Walks prog w A I [I,a] [I] es.size (λi v=>∃e,(pickOrder (w.params.setOrder a ep) es).toList[i]?=some e/\v=e.2) (λi h=>dA h I a (.int 0 0) i es.size ep/\cQ h a es ep t) where
 sub:=λb hb=>by simp at hb;simp[hb]
 frame:=λ_ _ _ st hk=>⟨st.1.at λo e=>hk I (by simp) o e,st.2.at λo e=>hk a (by simp) o e⟩
 item:=λi s Q E hi st hQ=>by
  have z:(pickOrder (w.params.setOrder a ep) es).size=es.size:=by simpa using(fc (w.params.setOrder a ep) es).length_eq
  obtain⟨e,he⟩:∃e,(pickOrder (w.params.setOrder a ep) es)[i]?=some e:=⟨_,Qy (by rw[z];exact hi)⟩;refine hX (slot:=0) (next:=0) (x:=e.2) st.1 st.2 (λQ E q=>hW ht st.2 (by rw[he];exact q)) λh' hit' hs'=>?_;exact hQ _ h' s.toks ⟨e,by rw[Qm];exact he,rfl⟩ ⟨hit',st.2.at λo e=>hs'.extBut a o ne e⟩ λb o hb e=>hs'.extBut b o (λh=>hb (by simp[h])) e
 done:=λs Q E st hQ=>by
  have z:(pickOrder (w.params.setOrder a ep) es).size=es.size:=by simpa using(fc (w.params.setOrder a ep) es).length_eq
  exact hZ (slot:=0) hh st.1 st.2 (λQ E q=>hW ht st.2 (by rw[Array.getElem?_eq_none (by rw[z];exact Qi _)];exact q)) λh' he'=>hQ h' s.toks λb o hb e=>he' b o (λh=>hb (by simp[h])) e
 self:=λ_ _ _ _ st hQ=>iZ st.1 hQ
theorem jx (hh:A.handled=none) (I tp:Addr) (pl:List Nat) (hp:pl.Perm (List.range es.size)) (ne:a≠I) (nt:tp≠I):Walks prog w A I [I,a,tp] [I] es.size (λi v=>∃e,(pl.filterMap λj=>es[j]?)[i]?=some e/\v=e.2)
  (λi h=>dA h I a (.ref tp) i es.size ep/\cQ h a es ep t/\h.get? tp=some { cls:=.type "tuple", data:=.seq (pl.map λ(i:Nat)=>rawInt i).toArray }) where
 sub:=λb hb=>by simp at hb;simp[hb]
 frame:=λ_ _ _ st hk=>⟨st.1.at λo e=>hk I (by simp) o e,st.2.1.at λo e=>hk a (by simp) o e,hk tp (by simp) _ st.2.2⟩
 item:=λi s Q E hi st hQ=>by
  have pz:pl.length=es.size:=by simpa using hp.length_eq
  have lt:i<pl.length:=by omega
  have all:∀j∈pl,∃e,es[j]?=some e:=λj hj=>⟨_,Qy (by simpa using hp.mem_iff.mp hj)⟩;obtain⟨e,he⟩:=all pl[i] (Xv lt)
  have fm:∀(l:List Nat) (i:Nat) (h:i<l.length),(∀j∈l,∃e,es[j]?=some e)->(l.filterMap λj=>es[j]?)[i]?=es[l[i]]?:=by
   intro l
   induction l with
   | nil=>intro i h;simp at h
   | cons x l ih =>
   intro i h al;obtain⟨e,he⟩:=al x Xd;rw[List.filterMap_cons_some he]
   cases i with
   | zero=>rw[List.getElem?_cons_zero];exact he.symm
   | succ i=>rw[List.getElem?_cons_succ];exact ih i (by simpa using h) λj hj=>al j (Qj _ hj)
  refine mJ (p:=pl[i]) st.1 st.2.1 st.2.2 (Qc lt) he λh' hit' hs'=>?_;exact hQ _ h' s.toks ⟨e,by rw[fm pl i lt all];exact he,rfl⟩ ⟨hit',st.2.1.at λo e=>hs'.extBut a o ne e,hs'.extBut tp _ nt st.2.2⟩ λb o hb e=>hs'.extBut b o (λh=>hb (by simp[h])) e
 done:=λs Q E st hQ=>by
  have pz:pl.length=es.size:=by simpa using hp.length_eq
  exact mK hh st.1 st.2.1 st.2.2 (Q7 (by omega)) λh' he'=>hQ h' s.toks λb o hb e=>he' b o (λh=>hb (by simp[h])) e
 self:=λ_ _ _ _ st hQ=>iZ st.1 hQ
theorem iq (j k:Nat):SetTable.below #[j] k=if j<k then 1 else 0:=by
 unfold SetTable.below;simp[SetTable.below.go]
theorem oB (hh:A.handled=none) (ht:w.params.followText "set-order" = false) (h1:es.size<=1) (hl:t.led=true) (I:Addr) (ne:a≠I):Walks prog w A I [I,a] [I] es.size (λi v=>∃e,es.toList[i]?=some e/\v=e.2)
  (λi h=>(∃slot:Nat,dA h I a (.int slot 0) i es.size ep/\(i=0->slot=0)/\(i=1->∃j,t.place=#[j]/\slot=j+1))/\cQ h a es ep t) where
 sub:=λb hb=>by simp at hb;simp[hb]
 frame:=λ_ _ _ st hk=>let ⟨⟨sl,x,y⟩,z⟩:=st;⟨⟨sl,x.at λo e=>hk I (by simp) o e,y⟩,z.at λo e=>hk a (by simp) o e⟩
 item:=λi s Q E hi st hQ=>by
  obtain⟨⟨sl,x,y,_⟩,z⟩:=st;obtain rfl:i=0:=by omega
  obtain rfl:=y rfl;have e1:es.size=1:=by omega
  obtain⟨os,hos,hds,_,hf⟩:=id z;have pz:t.place.size=1:=by simp[SetTable.fits]at hf;omega
  obtain⟨j,hj⟩:=Array.size_eq_one_iff.mp pz;obtain⟨e,he⟩:=Array.size_eq_one_iff.mp e1;refine hX (slot:=0) (next:=j+1) (x:=e.2) x z (λQ E q=>ko ht z h1 hl (by rw[hj,iq];simp[he];exact q)) λh' hit' hs'=>?_;exact hQ _ h' s.toks ⟨e,by rw[he];rfl,rfl⟩ ⟨⟨j+1,hit',λq=>by omega,λ_=>⟨j,hj,rfl⟩⟩,z.at λo e=>hs'.extBut a o ne e⟩ λb o hb e=>hs'.extBut b o (λh=>hb (by simp[h])) e
 done:=λs Q E st hQ=>by
  obtain⟨⟨sl,x,y1,y2⟩,z⟩:=st;refine hZ hh x z (λQ E q=>ko ht z h1 hl ?_) λh' he'=>hQ h' s.toks λb o hb e=>he' b o (λh=>hb (by simp[h])) e;by_cases e1:es.size=1
  ·obtain⟨j,hj,rfl⟩:=y2 e1;rw[hj,iq];simpa[e1] using q
  have e0:es=#[]:=by simpa using(show es.size=0 by omega)
  subst e0;simpa using q
 self:=λ_ _ _ _ st hQ=>iZ st.1.choose_spec.1 hQ
end
end LS
namespace LG
open PySem PySem.Spec PyProof.Rows PySem.Calls LS
section
variable {prog:Program} {w:World} {A:Around} {E:B0} {s:Shared} {a:Addr}
variable {es:Array (Int × Value)}
theorem qv {o:Obj} {ep:Nat} {t:SetTable} {Q:B0} (hh:A.handled=none) (ho:s.heap.get? a=some o) (hc:o.cls=.type "set") (hd:o.data=.set es ep t) (hb:es.size<scanBound) (hf:t.fits es.size=true) (hl:Led w t es.size)
  (h:∀h' d I (od:List (Int × Value)) fp St,od.Perm es.toList->(∀b o,s.heap.get? b=some o->h'.get? b=some o)->s.heap.objs.size<=I->(∀b∈fp,b=a\/s.heap.objs.size<=b)->Walks prog w A I fp [I] es.size (λi v=>∃e,od[i]?=some e/\v=e.2) St->St 0 h'->Q (.ref I) { s with heap:=h',drawn:=d }) :
  wpAny (model prog w) A (pyIter (.ref a)) Q E s:=by
 have hT:s.TypeIs (.ref a) "set" := ⟨o,ho,hc⟩;have hlt:=Qs ho;refine wpAny_pyIter_slot hT F.slot_set_iter (Xu F.slot_set_iter hT gC ?_ (F.args_set_iter_1 _));unfold Builtin.«frozenset.__iter__» Builtin.Frozenset.slot0 slotArgs;simp only[List.isEmpty_nil,Bool.not_true,QX,↓reduceIte,bind_assoc,XG,bne_self_eq_false];unfold Builtin.Frozenset.addrOf Builtin.Frozenset.sizeOf;refine Qa (Qf ?_)
 try dsimp only
 refine Qa (Qf ?_);refine Qa (Qa (wpAny_setEntries_of ho hd hf (Qf ?_)));unfold setDrawn setsByText;refine Qa (Qa (Xc ho hd hf ?_));dsimp only;refine Qa (Qa (wpAny_askSetting (Qf ?_)));show wpAny _ _ (pure (!(w.params.followText "set-order")&&(!t.plain&&decide (es.size>1)))) _ _ _;refine Qf ?_;have hs0:cQ s.heap a es ep t:=⟨o,ho,hd,hc,hf⟩
 have plainway:∀(oI:Obj),oI={ cls:=.type "set_iterator", data:=.fields #[.int 0 0,.int 0 0,.ref a,.int es.size 0,.int ep 0] }->dA (s.heap.push oI) s.heap.objs.size a (.int ((0:Nat):Int) 0) 0 es.size ep/\cQ (s.heap.push oI) a es ep t:=λoI e=>by
  subst e;exact⟨⟨_,Qv _ rfl,rfl,rfl⟩,hs0.at λo e=>Qd _ e⟩
 refine wpAny_ite_split (λhab=>?_) λhab=>?_
 ·simp only[XI,Bool.not_eq_true',decide_eq_true_eq]at hab;refine Qa (db es.size (List.range es.size) s _ (by simp) λpl d pm=>?_);refine Qa (wpAny_newTuple ?_ (by rw[Qb,pm.length_eq,List.length_range];exact fits_of_scanBound hb));unfold setEpoch;have ho1:(s.heap.push { cls:=.type "tuple", data:=.seq (pl.map λ(i:Nat)=>rawInt i).toArray }).get? a=some o:=Qd _ ho;refine Qa (Qa (Xc (s:={ s with heap:=s.heap.push { cls:=.type "tuple", data:=.seq (pl.map λ(i:Nat)=>rawInt i).toArray },drawn:=d }) ho1 hd hf (Qf ?_)));unfold newFields;refine Qa (wpAny_newObj_type ?_ (by size_fits));refine Qf ⟨_,rfl, "set_iterator", _,⟨_,Qv _ rfl,rfl⟩,bV.lookup,?_⟩;have ne:a≠(s.heap.push { cls:=.type "tuple", data:=.seq (pl.map λ(i:Nat)=>rawInt i).toArray }).objs.size:=by rw[XB];exact QF (Nat.lt_succ_of_lt hlt)
  have nt:s.heap.objs.size≠(s.heap.push { cls:=.type "tuple", data:=.seq (pl.map λ(i:Nat)=>rawInt i).toArray }).objs.size:=by rw[XB];exact QF (Nat.lt_succ_self _)
  refine h _ _ _ (pl.filterMap λj=>es[j]?) _ _ ((pm.filterMap _).trans (by rw[filterMap_getElem?_range])) (λb o e=>Qd _ (Qd _ e)) (by rw[XB];exact Nat.le_succ _) (λb hb=>?_) (jx (ep:=ep) (t:=t) hh _ _ pl pm ne nt) ?_
  ·simp only[Qw,XJ,or_false]at hb;rcases hb with rfl|rfl|rfl
   ·exact .inr (by rw[XB];exact Nat.le_succ _)
   ·exact .inl rfl
   exact .inr (Qi _)
  exact⟨⟨_,Qv _ rfl,rfl,rfl⟩,hs0.at λo e=>Qd _ (Qd _ e),Qd _ (Qv _ rfl)⟩
 refine Qa (Qf ?_);unfold setEpoch;refine Qa (Qa (Xc ho hd hf (Qf ?_)));unfold newFields;refine Qa (wpAny_newObj_type ?_ (by size_fits));refine Qf ⟨_,rfl, "set_iterator", _,⟨_,Qv _ rfl,rfl⟩,bV.lookup,?_⟩;obtain⟨i0,s0⟩:=plainway _ rfl;have ne:a≠s.heap.objs.size:=QF hlt
 have fpok:∀b∈[s.heap.objs.size,a],b=a\/s.heap.objs.size<=b:=λb hb=>by
  simp only[Qw,XJ,or_false]at hb;rcases hb with rfl|rfl
  ·exact .inr (Qi _)
  exact .inl rfl
 cases ht:w.params.followText "set-order" with
 | true=>exact h _ s.drawn _ _ _ _ (fc (w.params.setOrder a ep) es) (λb o e=>Qd _ e) (Qi _) fpok (lC (ep:=ep) (t:=t) hh ht _ ne) ⟨i0,s0⟩
 | false =>
 rcases hl with z|⟨z1,z2⟩
 ·rw[ht]at z;cases z
 have h1:es.size<=1:=by
  rw[ht]at hab;by_cases e0:es.size=0
  ·omega
  rw[z2 e0]at hab;simp at hab;omega
 exact h _ s.drawn _ _ _ _ (.refl _) (λb o e=>Qd _ e) (Qi _) fpok (oB (ep:=ep) hh ht h1 z1 _ ne) ⟨⟨0,i0,λ_=>rfl,λz=>by cases z⟩,s0⟩
theorem sf {r:Addr} {Q:Bool->Shared->Prop} (hT:s.TypeIs (.ref r) "set") (h:Q false s):wpAny (model prog w) A (Builtin.List.listLengthHint (.ref r)) Q E s:=by
 unfold Builtin.List.listLengthHint;refine Qa (wpAny_specialOf hT PySem.F.slot_set_len.lookup ?_);generalize hid:("set.__len__" : String)=id0
 wp_delta
 rw[show splitId id0=some ("set", "__len__") from by subst hid;decide +kernel];subst hid;refine Qa (wpAny_isInstance (T := "set") (b:=true) hT (by rw[isSubtype_type];kernel_rfl) ?_);refine wpAny_ite_split (λhab=>absurd hab (by decide)) (λ_=>?_);refine wpAny_ite_split (λ_=>?_) (λhab=>absurd (by decide +kernel) hab);refine Qa (wpAny_typeOf hT ?_);exact Qf h
theorem collect_set {o:Obj} {ep:Nat} {t:SetTable} {R:List Value->Shared->Prop} (hh:A.handled=none) (ho:s.heap.get? a=some o) (hc:o.cls=.type "set") (hd:o.data=.set es ep t) (hb:es.size<scanBound) (hf:t.fits es.size=true) (hl:Led w t es.size)
  (h:∀g tk d (od:List (Int × Value)),od.Perm es.toList->(∀b o,s.heap.get? b=some o->g.get? b=some o)->s.heap.objs.size<=g.objs.size->R (od.map (·.2)) { s with heap:=g,toks:=tk,drawn:=d }):wpAny (model prog w) A (collect (.ref a)) R E s:=by
 have hlt:=Qs ho;have nz:es.size<=sizeLine:=fits_of_scanBound hb;unfold collect;refine Qa (wpAny_runValue (XH entry_proto_collect' ?_));rw[Xp PySem.F.plain_proto_collect _];refine Qa (wpAny_newObj_type (Qf ⟨plainId_quiet PySem.F.plain_list_iadd _,XH entry_list_iadd' ?_⟩));rw[Xp PySem.F.plain_list_iadd _];show wpAny _ _ (Builtin.List.listExtendWith (.ref s.heap.objs.size) (.ref a) (.ref s.heap.objs.size)) _ _ { s with heap:=s.heap.push { cls:=.type "list", data:=.seq ([]:List Value).toArray } };generalize hL:({ cls:=.type "list", data:=.seq ([]:List Value).toArray }:Obj)=L;have ho1:(s.heap.push L).get? a=some o:=Qd _ ho;have hS:(s.heap.push L).get? s.heap.objs.size=some L:=Qv _ (by rw[<-hL];rfl);have nS:s.heap.objs.size≠a:=Nat.ne_of_gt hlt;unfold Builtin.List.listExtendWith;refine Qa (wpAny_typeOf (T := "set") (s:={ s with heap:=s.heap.push L }) ⟨o,ho1,hc⟩ ?_);have h1:Builtin.List.listSameRef (.ref s.heap.objs.size) (.ref a)=false:=by simp[Builtin.List.listSameRef,nS]
 have h2:(Value.type "set" == Value.type "list")=false:=by decide
 have h3:(Value.type "set" == Value.type "tuple")=false:=by decide
 simp only[h1,h2,h3,Bool.or_false,QX,if_false];refine Qa (qv (A:=A.in1) (s:={ s with heap:=s.heap.push L }) hh ho1 hc hd hb hf hl λh' d I od fp St om k hI hfp W st=>?_);have k':∀b o,s.heap.get? b=some o->h'.get? b=some o:=λb o e=>k b o (Qd _ e);have szL:(s.heap.push L).objs.size=s.heap.objs.size+1:=XB ..;have nI:s.heap.objs.size≠I:=by have:=hI;simp only[szL]at this;omega
 have hI':s.heap.objs.size<=I:=by simp only[szL]at hI;omega
 have nF:s.heap.objs.size∉fp:=λz=>by
  rcases hfp _ z with y|y
  ·exact nS y
  simp only[szL]at y;omega
 have hS1:h'.get? s.heap.objs.size=some L:=k _ _ hS;refine Qa (Xm (sf (s:={ s with heap:=h',drawn:=d }) ⟨o,k' a o ho,hc⟩ ?_))
 have key:∀(g:Heap) (c₁ tk:Nat),St 0 g->(∀b o,b≠s.heap.objs.size->h'.get? b=some o->g.get? b=some o)->g.get? s.heap.objs.size=some { cls:=.type "list", data:=.seq #[] c₁ } ->
   codeAny (model prog w) A (.builtin "list.extend.loop" ⟨[.ref s.heap.objs.size,.ref I,.ref s.heap.objs.size],[]⟩) (λr s'=>∃(g:Heap) (tk:Nat) (acc:Array Value) (c:Nat),r=.ok (.ret (.ref s.heap.objs.size))/\s'={ s with heap:=g,toks:=tk,drawn:=d } /\
   (∀b o,s.heap.get? b=some o->g.get? b=some o)/\g.get? s.heap.objs.size=some { cls:=.type "list", dict:=none,data:=.seq acc c,slots:=#[] }/\PySem.ItemsOf (λi v=>∃e,od[i]?=some e/\v=e.2) acc es.size) { s with heap:=g,toks:=tk,drawn:=d }:=by
  intro g c₁ tk hst hk hS₁;refine codeAny_extend_loopS W.toS nz _ nF _ es.size 0 _ #[] c₁ rfl (QR _) hst hS₁ (ItemsOf.nil _) λs' acc' c' hm hS' hacc=>?_;rw[Moved.eq_with hm];refine⟨s'.heap,s'.toks,acc',c',rfl,rfl,λb o e=>hm.heap b o (λhmem=>?_) (hk b o (QF (Qs e)) (k' b o e)),hS',hacc⟩;rcases Qw.mp hmem with e'|hmem
  ·exact absurd (Qs e) (by rw[e'];exact Nat.lt_irrefl _)
  exact absurd (Qs e) (by rw[QG.mp hmem];exact Nat.not_lt.mpr hI')
 have all:∀(acc:Array Value),PySem.ItemsOf (λi v=>∃e,od[i]?=some e/\v=e.2) acc es.size->acc.toList=od.map (·.2):=λacc ⟨z1,z2⟩=>by
  refine List.ext_getElem? λi=>?_;rw[Qm,QB];by_cases hi:i<es.size
  ·obtain⟨e,e1,e2⟩:=z2 i acc[i] (Qy (by omega));rw[Qy (by omega),e1,e2];rfl
  rw[Array.getElem?_eq_none (by omega),Q7 (by rw[om.length_eq,Qe];omega)];rfl
 subst hL;refine wpAny_ite_split (λ_=>?_) (λ_=>Qf ⟨plainId_quiet PySem.F.plain_extend_loop _,codeAny_mono (key h' 0 s.toks st (λb o _ e=>e) hS1) λr s' y=>?_⟩)
 ·refine Qa (wpAny_rule ?_);refine Qa ?_;show wpAny _ _ (updateSeq s.heap.objs.size (·.push .none) >>= λ_=>updateSeq s.heap.objs.size (·.pop)) _ _ _;refine Qa (wpAny_updateSeq hS1 rfl ?_);have hS2:=Xe (Obj.mapSeq (·.push Value.none)) hS1 rfl;refine wpAny_updateSeq (hz:=by seq_fits) hS2 rfl ?_;have hS3:=Xe (Obj.mapSeq (·.pop)) hS2 rfl;refine Qf ⟨plainId_quiet PySem.F.plain_extend_loop _,codeAny_mono (key _ _ s.toks ?_ (λb o hb e=>?_) hS3) λr s' y=>?_⟩
  ·refine W.frame 0 _ _ st λb hb o e=>?_;have hbS:b≠s.heap.objs.size:=λh=>nF (h▸hb);exact(Q9 _ _ (Ne.symm hbS)).trans ((Q9 _ _ (Ne.symm hbS)).trans e)
  ·exact(Q9 _ _ (Ne.symm hb)).trans ((Q9 _ _ (Ne.symm hb)).trans e)
  obtain⟨g,tk,acc,c,rfl,rfl,kk,at',it⟩:=y;exact Qa (wpAny_load at' (Qf (by rw[all acc it];exact h g tk d od om kk (Nat.le_of_lt (Qs at')))))
 obtain⟨g,tk,acc,c,rfl,rfl,kk,at',it⟩:=y;exact Qa (wpAny_load at' (Qf (by rw[all acc it];exact h g tk d od om kk (Nat.le_of_lt (Qs at')))))
end
end LG
set_option maxHeartbeats 1000000
namespace Ht
open PySem PySem.Spec PyProof.Rows L2 LS
section
variable {B:Addr->Prop} {prog:Program} {w:World} {A:Around} {E:B0} {s:Shared}
def Tps (h0 h:Heap):Prop:=∀b o,h0.get? b=some o->o.cls=.type "tuple" -> h.get? b=some o
theorem set_loop {R:Result->Shared->Prop} {I S l:Addr} {its:Array Value} {h0:Heap} {kf:Nat->ak} (hh:A.handled=none) (hu:A.units+3<cLine) (nI:l≠I) (nS:S∉[I,l]) (new:∀b∈[S,I],h0.get? b=none)
  (hg:∀i v,its[i]?=some v->∃b,v=.ref b/\TK.IsT (aq prog w) h0 (kf i) b/\(kf i).all byV2=false/\B b) (few:∀us:List ak,us.Nodup->(∀x∈us,∃j,j<its.size/\kf j=x)->us.length<300) :
  ∀(m i:Nat) (s:Shared) (ks:List ak),its.size-i=m->i<=its.size->(s.heap.IsListIter I l i/\s.heap.IsList l its)->Tps h0 s.heap->SetK prog w B s.heap S ks->(∀x,x∈ks↔∃j,j<i/\kf j=x) ->
   (∀s' ks',Moved [S,I] (λa b=>b=a) s s'->SetK prog w B s'.heap S ks'->(∀x,x∈ks'↔∃j,j<its.size/\kf j=x)->R (.ok (.ret .none)) s') ->
   codeAny (model prog w) A (.builtin "set.update.loop" ⟨[.ref S,.ref I],[]⟩) R s:=by
 have W:=(Walks.list (prog:=prog) (w:=w) (show A.in1.handled=none by simp[hh]) I l nI its).toS;have nSI:S≠I:=λz=>nS (by simp[z]);have more:∀b∈[I],b∈[S,I]:=λb z=>Qj _ z
 have setk:∀{s s':Shared} {ks:List ak},Tps h0 s.heap->Moved [I] (λa b=>b=a) s s'->s.heap.IsListIter I l 0\/True->SetK prog w B s.heap S ks->(∀o,s.heap.get? I=some o->o.cls≠.type "tuple")->SetK prog w B s'.heap S ks:=λ{s s' ks} tp mv _ q ni=>by
  obtain⟨es,ep,t,ks',h1,h2,h3⟩:=q;exact⟨es,ep,t,ks',mv.heap S _ (by simpa using nSI) h1,Paired.mapT h2 λe k ⟨b,e1,e2,e3⟩=>⟨b,e1,Tm.bQ e2 λc o hc ht=>mv.heap c o (λz=>by simp at z;subst z;exact ni o hc ht) hc,e3⟩,h3⟩
 have notI:∀{s:Shared} {i:Nat},s.heap.IsListIter I l i->∀o,s.heap.get? I=some o->o.cls≠.type "tuple" := λ⟨o',h1,h2,_⟩ o e z=>by
  rw[h1]at e;cases e;rw[h2]at z;exact absurd (Value.type.inj z) (by decide)
 have tps:∀{s s':Shared},Tps h0 s.heap->Moved [S,I] (λa b=>b=a) s s'->Tps h0 s'.heap:=λtp mv b o e ht=>mv.heap b o (λz=>by rw[new b z]at e;cases e) (tp b o e ht);intro m
 induction m with
 | zero =>
  intro i s ks em hi st tp q mm fin;obtain rfl:i=its.size:=by omega
  refine XH F.entry_set_update_loop ?_;rw[Xp X0 _];show wpAny _ A.in1 (pyNext (.ref I) >>= _) _ _ s;exact Qa (W.done s _ _ st λs1 mv=>Qf (fin s1 ks (mv.mono more) (setk tp mv (.inr trivial) q (notI st.1)) mm))
 | succ m ih =>
 intro i s ks em hi st tp q mm fin;have lt:i<its.size:=by omega
 refine XH F.entry_set_update_loop ?_;rw[Xp X0 _];show wpAny _ A.in1 (pyNext (.ref I) >>= _) _ _ s;refine Qa (W.item i s _ _ lt st λv s1 hP st1 mv=>?_);obtain⟨b,rfl,hb,tx,hB⟩:=hg i v hP;have q1:=setk tp mv (.inr trivial) q (notI st.1);have tp1:=tps tp (mv.mono more);have hb1:TK.IsT (aq prog w) s1.heap (kf i) b:=Tm.bQ hb tp1;show wpAny _ A.in1 (holding [Value.ref b] (setAdd S (.ref b)) >>= _) _ _ s1;refine Qa (Xm ?_);unfold setAdd;refine Xm (Qa ((bq prog w).pyHash (k:=kf i) (show A.units+1+1<cLine by omega) hb1 ?_));have kn:ks.Nodup:=let ⟨_,_,_,_,_,_,_,n,_⟩:=q;n;refine Am (s:={ s1 with toks:=s1.toks+(bq prog w).draws (kf i) }) (show A.units+1+1<cLine by omega) q1 hb1 tx hB (few ks kn λx hx=>by obtain⟨j,hj,e⟩:=(mm x).mp hx;exact⟨j,by omega,e⟩) λh2 _ ks2 sb q2 _ m2=>?_
 have mv2:Moved [S,I] (λa b=>b=a) s { s1 with heap:=h2,toks:=s1.toks+(bq prog w).draws (kf i) }:=(mv.mono more).then_heap (Nat.le_add_right _ _) λb o z e=>by
  rw[sb.2 b (λy:b=S=>z (by rw[y];exact Xd))];exact e
 refine Qf ⟨plainId_quiet X0 _,ih (i+1) _ ks2 (by omega) lt (W.frame _ s1 _ _ st1 (Nat.le_add_right _ _) λb z o e=>?_) (tps tp mv2) q2 (λx=>?_) λs3 ks3 mv3 q3 m3=>fin s3 ks3 (Moved.trans W.gtrans mv2 mv3) q3 m3⟩
 ·rw[sb.2 b (λy:b=S=>nS (by rw[<-y];exact z))];exact e
 rw[m2,mm]
 constructor
 ·rintro(⟨j,hj,e⟩|e)
  ·exact⟨j,by omega,e⟩
  exact⟨i,by omega,e.symm⟩
 rintro⟨j,hj,e⟩;rcases Nat.lt_succ_iff_lt_or_eq.mp hj with z|z
 ·exact .inl ⟨j,z,e⟩
 subst z;exact .inr e.symm
theorem call_set {l:Addr} {its:Array Value} {kf:Nat->ak} {Q:B0} (hh:A.handled=none) (hu:A.units+8<cLine) (hl:s.heap.IsList l its)
  (hg:∀i v,its[i]?=some v->∃b,v=.ref b/\TK.IsT (aq prog w) s.heap (kf i) b/\(kf i).all byV2=false/\B b) (few:∀us:List ak,us.Nodup->(∀x∈us,∃j,j<its.size/\kf j=x)->us.length<300)
  (h:∀(h1:Heap) (tk:Nat) (ks:List ak),SetK prog w B h1 s.heap.objs.size ks->(∀x,x∈ks↔∃j,j<its.size/\kf j=x)->(∀b o,s.heap.get? b=some o->h1.get? b=some o)->Q (.ref s.heap.objs.size) { s with heap:=h1,toks:=tk }) :
  wpAny (model prog w) A (call (.type "set") [.ref l]) Q E s:=by
 refine LG.call_set_gen (G:=λh S=>∃ks,SetK prog w B h S ks/\∀x,x∈ks↔∃j,j<its.size/\kf j=x) hh hl (λI S s0 R kp hS hI nI nS st g fin=>?_) λh1 tk ⟨ks,q,m⟩ kp=>h h1 tk ks q m kp
 have nw:∀b∈[S,I],s.heap.get? b=none:=λb hb=>by
  simp only[Qw,XJ,or_false]at hb;rcases hb with rfl|rfl
  ·exact Heap.get?_none_of_le hS
  exact Heap.get?_none_of_le hI
 exact set_loop (A:=A.in1.in1) (h0:=s.heap) (kf:=kf) (by simp[hh]) (show A.units+1+1+3<cLine by omega) nI nS nw hg few (its.size-0) 0 s0 [] rfl (QR _) st (λb o e _=>kp b o e) (SetK.new g) (λx=>by simp) λs' ks' mv q m=>fin s' mv ⟨ks',q,m⟩
theorem SetK.raw {h:Heap} {a:Addr} {ks:List ak} (x:SetK prog w B h a ks):∃es ep t ks',h.get? a=some (tu es ep t)/\Paired (El prog w B h) es.toList ks'/\ks'.Perm ks/\ks.Nodup/\es.size=ks.length/\es.size<scanBound/\t.fits es.size=true/\Led w t es.size:=by
 obtain⟨es,ep,t,ks',h1,h2,h3,h4,h5,h6,h7⟩:=x;have t127:t.mask<=511:=by rcases h5.msk with e|e|e|e <;> omega
 refine⟨es,ep,t,ks',h1,h2,h3,h4,by rw[<-Qe,Xf h2,h3.length_eq],by unfold scanBound;omega,?_,h7⟩;have:=h5.fits (by rw[Qb,Qe];omega);rwa [Qb,Qe]at this
theorem els_refs {h:Heap}:∀{od:List (Int × Value)} {ks:List ak},Paired (El prog w B h) od ks->∃bs:B3,od.map (·.2)=bs.map Value.ref/\Paired (λb k=>TK.IsT (aq prog w) h k b/\B b) bs ks
 | _,_,.nil=>⟨[],rfl,.nil⟩
 | _,_,.cons ⟨b,e1,e2,e3⟩ t=>by
  obtain⟨bs,h1,h2⟩:=els_refs t;exact⟨b::bs,by rw[Qo,Qo,e1,h1],.cons ⟨e2,e3.2⟩ h2⟩
end
end Ht
namespace L2
open PySem PySem.Spec PyProof.Rows PySem.Calls
theorem Inv.drawn {X:Cx} {pins:B1} {U:List (Option V)} {H:Hp} {s:Shared} (I:Inv X pins U H s) (d:Drawn):Inv X pins U H { s with drawn:=d }:=⟨I.ok,I.os,I.bare,I.base,I.loc,I.cell,I.free,I.freeC,I.pin,I.hok,I.len⟩
section
variable {X:Cx} {a:Expr} {ta:TA} {p p1 pos pos1:Pos}
def gK (K:PySem.W.Frag) (H:Hp) (vs:List V) (ks:List ak):Prop:=∃(l:Addr) (bs:B3),vs=[.ref l]/\SqL K H l (bs.map V.ref)/\KsA H bs ks/\(∀k∈ks,k.all Ht.byV2=false)/\∀us:List ak,us.Nodup->(∀x∈us,x∈ks)->us.length<200
def jG (K:PySem.W.Frag) (ta:TA):TE:=λU H Q=>ta U H λvs H1=>∃ks:List ak,gK K H1 vs ks/\∀us:List ak,us.Nodup->(∀x,x∈us↔x∈ks)->Q (.int us.length) H1
def gU (K:PySem.W.Frag) (ta:TA):TE:=λU H Q=>ta U H λvs H1=>∃(ks:List ak) (b:Bool),gK K H1 vs ks/\pQ b ks/\∀(p:Addr) (bs':B3) (us:List ak),H1 p=none->KsA H1 bs' us->us.Nodup->(∀x,x∈us↔x∈ks)->us.Pairwise leF->Q (.ref p) (upd H1 p (.lst (bs'.map V.ref)))
theorem jQ {pins:B1} {U:St} {H:Hp} {s:Shared} {us:List Value} {vs:List V} {ks:List ak} {Q:B0} (hc:X.calm=true) (hu:X.A.units+8<cLine) (I:Inv X pins U H s) (r:aI vs us) (h:gK X.K H vs ks)
  (q:∀(h1:Heap) (tk:Nat) (ks':List ak),Ht.SetK X.prog X.w (λb=>bC H (cE H b) b) h1 s.heap.objs.size ks'->(∀x,x∈ks'↔x∈ks)->(∀b o,s.heap.get? b=some o->h1.get? b=some o)->Q (.ref s.heap.objs.size) { s with heap:=h1,toks:=tk }) :
  wpAny (model X.prog X.w) X.A (call (.type "set") us) Q X.xe s:=by
 obtain⟨l,bs,rfl,hl,ka,tx,few⟩:=h;obtain⟨u1,rfl,ru1⟩:=cI r;cases ru1;obtain⟨its,rv,pl,_⟩:=I.list hl;have ei:=dS rv;have bl:=Xf ka;have zz:its.toArray.size=ks.length:=by rw[Qk,ei,Qb,bl]
 obtain⟨ek,tk⟩:=ka.tk
 have kfm:∀x,(∃j,j<its.toArray.size/\ks.getD j []=x)↔x∈ks:=λx=>by
  rw[zz]
  constructor
  ·rintro⟨j,hj,rfl⟩;rw[QH,Qc hj];exact Xv hj
  intro hx;obtain⟨j,hj,e⟩:=Xl hx;exact⟨j,hj,by rw[QH,Qc hj];exact e⟩
 refine Ht.call_set (B:=λb=>bC H (cE H b) b) (its:=its.toArray) (kf:=λi=>ks.getD i []) (I.ok.hd hc) hu pl.isList (λi v hv=>?_) (λus nd h=>Nat.lt_trans (few us nd λx hx=>(kfm x).mp (h x hx)) (by decide)) λh1 tk ks' q1 m kp=>q h1 tk ks' q1 (λx=>(m x).trans (kfm x)) kp;have hv:its[i]?=some v:=by simpa using hv
 rw[ei,QB]at hv;obtain⟨b,hb,rfl⟩:=Option.map_eq_some_iff.mp hv;have hi:=(Ql.mp hb).1;have ej:ks[i]?=some (cE H b):=by rw[ek,QB,hb];rfl
 have eg:ks.getD i []=cE H b:=by rw[QH,ej];rfl
 have tb:=tk b (Qz hb);rw[eg];exact⟨b,rfl,dw I.hok tb,tx _ (Qz ej),tb⟩
theorem lX (hc:X.calm=true) (hu:X.A.units+8<cLine) (hg:Gl X "len") (hm:X.mg "len" = none) (hg1:Gl X "set") (hm1:X.mg "set" = none) (ha:PA X [a] ta) (hs:starEach [a] X.env=[(false,eval a X.env)]:=by rfl)
  (he:starEach [.Call (.Name "set" p1) [a] [] pos1] X.env=[(false,eval (.Call (.Name "set" p1) [a] [] pos1) X.env)]:=by rfl):PE X (.Call (.Name "len" p) [.Call (.Name "set" p1) [a] [] pos1] [] pos) (jG X.K ta):=by
 intro pins s U H Q I h;refine wpAny_Call_Name_kw (cH I hg hm QM ?_);refine PyProof.Rows.callWith_builtin1 ?_ he rfl;rw[he];show wpAny _ _ (spliced ((false,eval (.Call (.Name "set" p1) [a] [] pos1) X.env)::backTo pos [])) _ _ s;refine Calls.spliced_cons ?_;refine Call_ (cH I hg1 hm1 PyProof.Rows.boot_set (Xx (thn (ha pos1 pins s U H _ I h) λus s1 z=>?_) hs rfl));obtain⟨vs,H1,I1,r1,ks,so,q⟩:=z;refine jQ hc hu I1 r1 so λh1 tk ks' sk mm kp=>Calls.spliced_nil ?_;obtain⟨es,ep,t,ks2,g1,g2,g3,g4,g5,g6,g7,g8⟩:=sk.raw;refine PySem.call_len_set g1 ⟨rfl,rfl,rfl⟩ rfl g7 (by unfold scanBound at g6;omega) ?_;exact⟨.int ks'.length,H1,I1.kept (t':=tk+1+1) kp,⟨tk+1,by rw[g5]⟩,q ks' g4 mm⟩
theorem ke (hc:X.calm=true) (hu:X.A.units+8<cLine) (hg:Gl X "sorted") (hm:X.mg "sorted" = none) (hg1:Gl X "set") (hm1:X.mg "set" = none) (ha:PA X [a] ta) (hs:starEach [a] X.env=[(false,eval a X.env)]:=by rfl)
  (he:starEach [.Call (.Name "set" p1) [a] [] pos1] X.env=[(false,eval (.Call (.Name "set" p1) [a] [] pos1) X.env)]:=by rfl):PE X (.Call (.Name "sorted" p) [.Call (.Name "set" p1) [a] [] pos1] [] pos) (gU X.K ta):=by
 intro pins s U H Q I h;refine wpAny_Call_Name_kw (cH I hg hm PyProof.Rows.boot_sorted ?_);refine PyProof.Rows.callWith_builtin1 ?_ he rfl;rw[he];show wpAny _ _ (spliced ((false,eval (.Call (.Name "set" p1) [a] [] pos1) X.env)::backTo pos [])) _ _ s;refine Calls.spliced_cons ?_;refine Call_ (cH I hg1 hm1 PyProof.Rows.boot_set (Xx (thn (ha pos1 pins s U H _ I h) λus s1 z=>?_) hs rfl));obtain⟨vs,H1,I1,r1,ks,b,so,sp,q⟩:=z;have fw:∀us:List ak,us.Nodup->(∀x∈us,x∈ks)->us.length<200:=let ⟨_,_,_,_,_,_,few⟩:=so;few;refine jQ hc hu I1 r1 so λh1 tk ks' sk mm kp=>Calls.spliced_nil ?_;obtain⟨es,ep,t,ks2,g1,g2,g3,g4,g5,g6,g7,g8⟩:=sk.raw;refine Calls.call_function_entry kind_sorted plain_sorted entry_sorted (args_sorted1 _) ?_;unfold Builtin.«sorted»;refine Qa (m:=checkCount "sorted" 1 1 _) (Qf ?_);refine Qa (LG.collect_set (A:=X.A.in1) (s:={ s1 with heap:=h1,toks:=tk }) (show X.A.in1.handled=none by simp[I1.ok.hd hc]) g1 rfl rfl g6 g7 g8 λh2 tk2 d od po kp2 z2=>?_);obtain⟨ks3,e3,p3⟩:=Ht.paired_perm po g2;obtain⟨bs,ev,pb⟩:=Ht.els_refs e3;have lb:bs.length=ks'.length:=by rw[Xf pb,p3.length_eq,g3.length_eq]
 have l64:ks'.length<200:=fw ks' g4 λx hx=>(mm x).mp hx;rw[ev];refine Qa (wpAny_newList ?_ (by rw[Qb,sizeLine_eq];omega))
 have kb:KsA H1 bs (bs.map (cE H1))/\ks3=bs.map (cE H1):=by
  have I3:=I1.kept (t':=tk) kp;clear ev lb e3 p3
  induction pb with
  | nil=>exact⟨.nil,rfl⟩
  | @cons b k bs ks r _ ih =>
  obtain⟨i1,i2⟩:=ih;refine⟨.cons r.2 i1,?_⟩;have:=(dw I3.hok r.2).inj r.1;rw[Qo,this,<-i2]
 obtain⟨kb,ek3⟩:=kb;have mem:∀c∈bs,cE H1 c∈ks:=λc hc=>(mm _).mp (g3.mem_iff.mp (p3.mem_iff.mp (by rw[ek3];exact Qn.mpr ⟨c,hc,rfl⟩)));have tkb:=kb.tk.2;have I3:=I1.kept (t':=tk) kp;have hoL:(h2.push (seqObj "list" (bs.map Value.ref).toArray 0)).get? h2.objs.size=some (seqObj "list" (bs.map Value.ref).toArray 0):=Qv _ rfl
 refine Qa (Xm (Xu (s:={ s1 with heap:=h2.push (seqObj "list" (bs.map Value.ref).toArray 0),toks:=tk2,drawn:=d }) slot_list_sort ⟨_,hoL,rfl⟩ entry_list_sort
  (Tm.gu (up:=λA=>A.units<cLine) hoL (Tm.k5 (b:=b) hoL (λz=>absurd (Value.type.inj z) (by decide)) (λc hc=>Tm.bQ (dw I3.hok (tkb c hc)) λb o e _=>Qd _ (kp2 _ _ e)) ⟨λx hx y hy=>sp.1 _ (mem x hx) _ (mem y hy),λx hx=>sp.2 _ (mem x hx)⟩) (show X.A.units+1+1<cLine by omega) (by rw[Qb,lb];exact QO (Nat.le_of_lt l64) (by decide)) λout p1 p2=>⟨_,rfl,?_⟩) (args_list_sort _)))
 obtain⟨m,at'⟩:=Tm.dN (vs:=bs.map Value.ref) (out:=out) hoL;obtain⟨bs',pm,eo⟩:=gY p1;rw[eo,Q1]at p2
 have so':(bs'.map (cE H1)).Pairwise leF:=by
  rw[Q1];refine p2.imp_of_mem λ{x y} hx hy hq=>?_;have hq:Tm.lb (((Tm.kN bs (cE H1)).keyOf (.ref y)).getD []) (((Tm.kN bs (cE H1)).keyOf (.ref x)).getD [])=false:=hq;rw[Tm.eM _ (pm.mem_iff.mp hx),Tm.eM _ (pm.mem_iff.mp hy)]at hq;exact hq
 have pmk:(bs'.map (cE H1)).Perm ks':=((pm.map _).trans (by rw[<-ek3];exact p3)).trans g3;have I4:=(I3.kept (t':=tk2) kp2).drawn d
 exact Qf ⟨_,rfl,.ref h2.objs.size,_,I4.laid (o:=.lst (bs'.map V.ref)) (t':=tk2) (λb o e=>Tm.dg (QF (Qs e)) (Qd _ e)) (Qi _) ⟨by rw[Qb,pm.length_eq,lb,sizeLine_eq];omega,out.toList,m,by rw[eo];exact e7 _,by rw[Array.toArray_toList];exact at'⟩,rfl,
  q _ bs' _ (I4.hok.fresh (Qi _)) (mB λb hb=>tkb b (pm.mem_iff.mp hb)) (pmk.nodup_iff.mpr g4) (λx=>pmk.mem_iff.trans (mm x)) so'⟩
end
end L2
set_option maxHeartbeats 4000000
namespace L2
open PySem PySem.Spec PyProof.Rows
section
variable {X:Cx} {elts:List Expr} {k:Nat} {tpos:Pos}
end
section
variable {X:Cx}
end
end L2
namespace LZg
open PySem LZ
section
variable {prog:Program} {w:World} {A:Around} {E:B0} {s:Shared}
def lm:Bool->Heap->Addr->Array Value->Prop
 | true,h,l,xs=>h.IsTuple l xs
 | false,h,l,xs=>h.IsList l xs
def lq:Bool->Heap->Addr->Addr->Nat->Prop
 | true,h,c,l,i=>h.IsTupleIter c l i
 | false,h,c,l,i=>h.IsListIter c l i
variable {c l b:Addr} {h h':Heap}
theorem lq.raw {t:Bool} {i:Nat} (x:lq t h c l i):∃o,h.get? c=some o/\o.data=.fields #[.ref l,.int i 0]:=by
 cases t <;> (obtain⟨o,h1,_,h3⟩:=x;exact⟨o,h1,h3⟩)
theorem lq.at {t:Bool} {i:Nat} (x:lq t h c l i) (k:∀o,h.get? c=some o->h'.get? c=some o):lq t h' c l i:=by
 cases t <;> (obtain⟨o,h1,r⟩:=x;exact⟨o,k _ h1,r⟩)
theorem lq.extBut {t:Bool} {i:Nat} (x:lq t h c l i) (hs:Heap.ExtBut b h h') (n:c≠b):lq t h' c l i:=x.at λo e=>hs c o n e
variable {xs:Array Value}
theorem lm.extBut {t:Bool} (x:lm t h l xs) (hs:Heap.ExtBut b h h') (n:l≠b):lm t h' l xs:=by
 cases t <;> (obtain⟨o,h1,r⟩:=x;exact⟨o,hs l o n h1,r⟩)
theorem lm.push {t:Bool} (x:lm t h l xs) (o:Obj):lm t (h.push o) l xs:=by
 cases t <;> (obtain⟨o,h1,r⟩:=x;exact⟨o,Qd _ h1,r⟩)
theorem lm.lt {t:Bool} (x:lm t h l xs):l<h.objs.size:=by
 cases t <;> (obtain⟨o,h1,r⟩:=x;exact Qs h1)
end
end LZg
namespace L2
open PySem PySem.Spec PyProof.Rows
section
variable {X:Cx} {elts:List Expr} {k:Nat} {tpos:Pos}
end
theorem sF {xs:List V} {a:Nat} (h:a<=xs.length):i7 xs (some (a:Int)) none=xs.drop a:=by
 unfold i7;rw[HT.nu,HT.jZ,Nat.min_eq_left h,Q0 (by rw[QU];exact om1)]
theorem wK {xs:List V} {a:Nat} (h:a<=xs.length):i7 xs none (some (a:Int))=xs.take a:=by
 unfold i7;rw[HT.nu,HT.jZ,Nat.min_eq_left h];simp
theorem ss {x:V} (h:cv x=true):eqV x x=true:=by
 cases x <;> first|(simp[eqV];done)|(simp[cv]at h;done)|simp_all [eqV,cv]
theorem mM (n:Nat):((List.range n).all λ_=>true)=true:=Xg.mpr λ_ _=>rfl
section
variable {K:PySem.W.Frag} {H:Hp} {Q:VK}
theorem gB {n:Nat} {x:V} (h:cv x=true):EqD K H n x x true:=by
 have q:=EqD.flat (K:=K) (H:=H) (n:=n) h h;rwa [ss h]at q
variable {xs ys:List V} {a b:Addr}
theorem cV {n:Nat} (h1:SqL K H a xs) (h2:SqL K H b ys) (hl:xs.length=ys.length) (hi:∀(j:Nat) x y,xs[j]?=some x->ys[j]?=some y->EqD K H n x y true):EqD K H (n+1) (.ref a) (.ref b) true:=by
 by_cases e:a=b
 ·subst e;exact .same
 have q:=EqD.lists (e:=λ_=>true) h1 h2 hl hi e;rwa [mM]at q
theorem dI {n:Nat} (f:xs.all cv=true):∀(j:Nat) x y,xs[j]?=some x->xs[j]?=some y->EqD K H n x y true:=λj x y e1 e2=>by
 rw[e1]at e2;cases e2;exact gB (Xg.mp f x (Qz e1))
theorem Aa (h1:SqL K H a xs) (h2:SqL K H b ys) (hl:xs.length=ys.length) (hi:∀(j:Nat) x y,xs[j]?=some x->ys[j]?=some y->EqD K H 8 x y true) (q:Q (.bl false) H):tG K true (.ref a) (.ref b) H Q:=by
 refine⟨a,b,xs,ys,λ_=>true,rfl,rfl,h1,h2,hi,?_⟩;rw[mM,hl,beq_self_eq_true];exact q
theorem z_ (h1:SqT K H a xs) (h2:SqT K H b ys) (hl:xs.length=ys.length) (hi:∀(j:Nat) x y,xs[j]?=some x->ys[j]?=some y->EqD K H 8 x y true) (q:Q (.bl false) H):tE K true (.ref a) (.ref b) H Q:=by
 refine⟨a,b,xs,ys,λ_=>true,rfl,rfl,h1,h2,hi,?_⟩;rw[mM,hl,beq_self_eq_true];exact q
end
section
variable {X:Cx}
end
section
variable {X:Cx} {scope:Scope} {tgs:List Str} {cap:List (Str × Nat)}
theorem qI {j:Nat} {x:Str} {pos' spos:Pos} {elt tg iter:Expr} {ifs:List Expr} {pos:Pos} {wi:TI} {g:TG} {tt:TT} {te:TE} (hN:X.N.Nodup) (hj:X.N[j]?=some x) (hx:Loc X.env.scope x) (hc:X.calm=true) (B:BlockOk X scope tgs cap) (hi:PI X tg iter wi)
  (hg:∀C s H fp,PG (X.block (tgs++cap.map (·.1)) scope C s H fp) tg g) (ht:∀C s H fp,uv (X.block (tgs++cap.map (·.1)) scope C s H fp) ifs tt) (he:∀C s H fp,PE (X.block (tgs++cap.map (·.1)) scope C s H fp) elt te)
  (hs:∀x,foldedSetIterable iter X.env x=pure x:=by intro _;rfl) (hsw:swapsWith (.ListComp elt [⟨tg,iter,ifs,0⟩] scope pos) (some (.Name x pos')) spos.line X.env=pure true:=by rfl)
  (hf:X.fn x=true\/X.env.scope.names.lookup x=some .local:=by z_go):PS X (.Assign [.Name x pos'] (.ListComp elt [⟨tg,iter,ifs,0⟩] scope pos) spos) (lI (jH wi g tt te (bu tgs cap)) (df j)):=by
 intro pins s U H D I h;rw[exec_Assign_Name_used _ _ _ _ hsw];refine Qa (wpAny_standAt (Qa ?_));show wpAny _ _ (comprehension _ _ _ _ _ _ _ _ >>= _) _ _ _;refine Qa (thn (Q:=λ_ s'=>SP X pins D .next s') ?_ λ_ s' q=>Qf (Qf q));refine wpAny_comprehension_free (use:=some (assign (.Name x pos') X.env)) rfl hs (gH (B.cellAt I.ok)) B.kind B.locs (thn (hi pins s U H _ I h) λv s1 h1=>thn h1 λitv s2 h2=>?_);obtain⟨it,fp,tn,J,H2,e,I2,T,st2,f2,q⟩:=h2;subst e;have lt2:∀b∈fp,b<s2.heap.objs.size:=λb hb=>let ⟨o,e,_⟩:=T.obj _ _ st2 b hb;Qs e;have hD:H2 s2.heap.objs.size=none:=I2.hok.fresh (Qi _);obtain⟨W,⟨m0,w0⟩,turn⟩:=q s2.heap.objs.size hD;refine wpAny_newObj_type ?_;have I3:Inv X pins U (upd H2 s2.heap.objs.size (.lst [])) { s2 with heap:=s2.heap.push { cls:=.type "list", dict:=none,data:=.seq ([]:List Value).toArray } }:=I2.lnew (t':=s2.toks) (ys:=[]) (its:=[]) .nil (QR _);have st3:tn 0 (s2.heap.push { cls:=.type "list", dict:=none,data:=.seq ([]:List Value).toArray }):=T.keep _ _ _ st2 λb _ o e=>Qd _ e;have nD:∀b∈fp,b≠s2.heap.objs.size:=λb hb=>QF (lt2 b hb);have f3:∀b∈fp,fv X pins (upd H2 s2.heap.objs.size (.lst [])) b:=λb hb=>⟨by rw[ao (nD b hb)];exact(f2 b hb).1,(f2 b hb).2⟩;generalize hs3:({ s2 with heap:=s2.heap.push { cls:=.type "list", dict:=none,data:=.seq ([]:List Value).toArray } }:Shared)=s3 at I3 st3 ⊢;have st3':tn 0 s3.heap:=by rw[<-hs3];exact st3
 have lt3:∀b∈fp,b<s3.heap.objs.size:=λb hb=>let ⟨o,e,_⟩:=T.obj _ _ st3' b hb;Qs e;generalize hH3:upd H2 s2.heap.objs.size (.lst [])=H3 at I3 f3 w0;generalize s2.heap.objs.size=DD at *;refine wpAny_newFunctionEnv B.noc (by intro y hy;simp at hy) (λh1 hns hsb=>?_) B.kind;have old:∀b o,s3.heap.get? b=some o->h1.get? b=some o:=λb o e=>hsb.extBut b o (QF (Qs e)) (Qd _ e);have I4:=Inv.enter (tk:=s3.toks+([]:List (Str × Value)).length) (h1:=h1) B I3 f3 lt3 hns old;have st4:tn 0 h1:=T.keep _ _ _ st3' λb _ o e=>old b o e
 have fpB:∀{H':Hp},(∀b∈fp,H' b=none)->∀b∈fp,fv (X.block (tgs++cap.map (·.1)) scope s3.heap.objs.size s3 H3 fp) [] H' b:=λ{H'} hn b hb =>
  ⟨hn b hb,QF (lt3 b hb),I4.ok.exfs b hb,.inl hb,λx c e=>(I4.ok.exf b hb).2 x c e,λp hp=>absurd (show p∈([]:B1) from hp) (by simp)⟩
 have loop:codeAny (model X.prog X.w) X.A (.compLoop (.ListComp elt [⟨tg,iter,ifs,0⟩] scope pos) 0 (.ref it) (.ref DD) (compEnvC scope (bY X.env scope.names []) s3.heap.objs.size X.env))
   (compPost (model X.prog X.w) X.A X.xe (some (assign (.Name x pos') X.env)) (λ_ s'=>SP X pins D .next s') (.ref DD) s3.heap.objs.size) { s3 with heap:=h1,toks:=s3.toks+([]:List (Str × Value)).length }:=by
  refine eP (λn s'=>∃i H' ys,Inv (X.block (tgs++cap.map (·.1)) scope s3.heap.objs.size s3 H3 fp) [] (bu tgs cap U) H' s'/\tn i s'.heap/\(∀b∈fp,H' b=none)/\W i n H' ys) ?_ m0 ⟨0,H3,[],I4,st4,λb hb=>(f3 b hb).1,w0⟩;rintro n s5 ⟨i,H5,ys,I5,st5,fr5,w5⟩;obtain⟨hl,ht5⟩:=turn i n H5 ys w5;rcases ht5 with⟨stop,qd⟩|⟨go,step⟩
  ·refine thn (T.done (X.block (tgs++cap.map (·.1)) scope s3.heap.objs.size s3 H3 fp) rfl rfl rfl hc i [] s5 _ H5 _ I5 (fpB fr5) st5 stop) λr s6 ⟨hr,I6⟩=>?_;subst hr;obtain⟨m6,n6,_⟩:=I6.loc;have IO:Inv X pins U H5 s6:=Inv.leave (h2:=s6.heap) I3 f3 I6 ⟨rfl,λ_ _=>rfl⟩;have fC:fv X pins H5 s3.heap.objs.size:=⟨I6.free,(I3.fpOk (Qi _) (I3.hok.fresh (Qi _))).2⟩;obtain⟨f0,f1,f2',f3',f4,f5⟩:=fC;refine wpAny_assign_Name (gX IO hN hj hx (show aX (.ref DD) (.ref DD) from rfl) (λs7 I7 ⟨a,sb,ha⟩=>?_) hf)
   have na:s3.heap.objs.size≠a:=by
    rcases ha with z|z
    ·rw[z];exact f1
    exact λy=>f4 x a z y.symm
   obtain⟨o6,es6,ep6,ho6,r6⟩:=n6;refine⟨m6,⟨o6,es6,ep6,(sb.2 _ na).trans ho6,r6⟩,λh' hs'=>⟨_,H5,I7.turned (t':=s7.toks) (λb o hb q=>(hs'.2 b hb).trans q) f0 f1 f3' f4 f5,qd⟩⟩
  refine thn (T.item (X.block (tgs++cap.map (·.1)) scope s3.heap.objs.size s3 H3 fp) rfl rfl rfl hc i [] s5 _ H5 _ I5 (fpB fr5) st5 go) λr s6 ⟨u,hr,h6⟩=>?_;subst hr;refine thn h6 λ_ s7 ⟨x,H7,I7,r7,y7,st7,fr7⟩=>?_;have I7':=I7.pinned (fpB fr7) (T.obj _ _ st7)
  have again:∀{σ8:St} {H8:Hp} {s8:Shared} {ys8:List V},Inv (X.block (tgs++cap.map (·.1)) scope s3.heap.objs.size s3 H3 fp) ([]++e_ fp s7.heap) σ8 H8 s8->wk (bu tgs cap U) σ8->(∃m',m'<n/\W (i+1) m' H8 ys8) ->
    ∃m,m<n/\∃i H' ys,Inv (X.block (tgs++cap.map (·.1)) scope s3.heap.objs.size s3 H3 fp) [] (bu tgs cap U) H' s8/\tn i s8.heap/\(∀b∈fp,H' b=none)/\W i m H' ys:=λ{σ8 H8 s8 ys8} I8 k8 ⟨m',hm,w8⟩=>by
   refine⟨m',hm,i+1,H8,ys8,I8.unpinned.weak (iy k8) (iz k8),T.keep _ _ _ st7 λb hb o e=>(I8.pin (b,o) (QI _ (QI _ (b_ hb e)))).1,λb hb=>?_,w8⟩;obtain⟨o,e,d⟩:=T.obj _ _ st7 b hb;exact(I8.pin (b,o) (QI _ (QI _ (b_ hb e)))).2.1
  refine thn (hg _ _ _ _ _ s7 _ H7 x u _ I7' r7 (step x H7 y7)) λ_ s8 ⟨σ8,H8,I8,k8,q8⟩=>?_;refine thn (ht _ _ _ _ _ s8 σ8 H8 _ I8 q8) λok s9 ⟨H9,I9,q9⟩=>?_
  cases ok with
  | false =>
   rw[Qt Qh]at q9 ⊢;exact again I9 k8 q9
  | true =>
  rw[Qu rfl]at q9 ⊢;refine thn (he _ _ _ _ _ s9 σ8 H9 _ I9 q9) λy sA ⟨yv,HA,IA,rA,hA,zA,qA⟩=>?_;exact thn (bx _ sA σ8 HA (.ref DD) [yv] (.ref DD) [y] (λv H'=>v=.non/\∃m',m'<n/\W (i+1) m' H' (ys++[yv])) IA rfl (.cons rA .nil) ⟨DD,ys,yv,rfl,rfl,hA,zA,rfl,qA⟩) λ_ sB ⟨_,HB,IB,_,_,qB⟩=>again IB k8 qB
 exact codeAny_compStart_list loop (T.self _ 0 _ _ _ st4 loop)
end
end L2
namespace LS
open PySem PySem.Spec PyProof.Rows
def met (g:Nat->Str):Nat->List Str
 | 0=>[]
 | i+1=>if g i∈met g i then met g i else met g i++[g i]
theorem iU (g:Nat->Str):∀i,(met g i).length<=i
 | 0=>Qi _
 | i+1=>by
  have q:=iU g i;show (if g i∈met g i then met g i else met g i++[g i]).length<=i+1
  split
  ·omega
  simp;omega
theorem iS (g:Nat->Str) (x:Str):∀i,x∈met g i↔∃j,j<i/\g j=x
 | 0=>by simp[met]
 | i+1=>by
  have q:=iS g x i
  have e:x∈met g (i+1)↔x∈met g i\/x=g i:=by
   show x∈(if g i∈met g i then met g i else met g i++[g i])↔_;by_cases h:g i∈met g i
   ·rw[Qu h];exact⟨.inl,λz=>z.elim id λz=>z▸h⟩
   rw[Qt h];simp
  rw[e,q]
  constructor
  ·rintro(⟨j,a,b⟩|a)
   ·exact⟨j,by omega,b⟩
   exact⟨i,by omega,a.symm⟩
  rintro⟨j,a,b⟩;rcases Nat.lt_succ_iff_lt_or_eq.mp a with c|c
  ·exact .inl ⟨j,c,b⟩
  subst c;exact .inr b.symm
theorem ub {g:Nat->Str} {n:Nat} (h:n+1<scanBound):∀i,i<n->(met g i).length+1<scanBound:=λi hi=>by have:=iU g i;omega
section
variable {prog:Program} {w:World} {A:Around} {R:Result->Shared->Prop} {I S:Addr} {fp wr:B3} {G:Array GenState->Array GenState->Prop} {n:Nat} {P:Nat->Value->Prop} {St:Nat->Shared->Prop}
abbrev fF (prog:Program) (w:World) (h:Heap) (S:Addr) (g:Nat->Str) (i:Nat):Prop:=cw prog w h S (λx=>decide (x∈met g i)) (met g i).length
theorem fF.at {h h':Heap} {g:Nat->Str} {i:Nat} (q:fF prog w h S g i) (k:∀o,h.get? S=some o->h'.get? S=some o):fF prog w h' S g i:=by
 obtain⟨o,es,ep,t,e,r⟩:=q;exact⟨o,es,ep,t,k _ e,r⟩
theorem set_loop (W:WalksS prog w A.in1 I fp wr G n P St) (nS:S∉fp) (g:Nat->Str) (hg:∀i v,P i v->∃t,v=.str (g i) t) (hb:∀i,i<n->(met g i).length+1<scanBound) :
  ∀(m i:Nat) (s:Shared),n-i=m->i<=n->St i s->fF prog w s.heap S g i->(∀s',Moved (S::wr) G s s'->fF prog w s'.heap S g n->R (.ok (.ret .none)) s') ->
   codeAny (model prog w) A (.builtin "set.update.loop" ⟨[.ref S,.ref I],[]⟩) R s:=by
 have nW:S∉wr:=λz=>nS (W.sub _ z);have more:∀b∈wr,b∈S::wr:=λb z=>Qj _ z;intro m
 induction m with
 | zero =>
  intro i s em hi st q fin;obtain rfl:i=n:=by omega
  refine XH F.entry_set_update_loop ?_;rw[Xp X0 _];show wpAny _ A.in1 (pyNext (.ref I) >>= _) _ _ s;exact Qa (W.done s _ _ st λs1 mv=>Qf (fin s1 (mv.mono more) (q.at λo e=>mv.heap S _ nW e)))
 | succ m ih =>
 intro i s em hi st q fin;have lt:i<n:=by omega
 refine XH F.entry_set_update_loop ?_;rw[Xp X0 _];show wpAny _ A.in1 (pyNext (.ref I) >>= _) _ _ s;refine Qa (W.item i s _ _ lt st λv s1 hP st1 mv=>?_);obtain⟨t,rfl⟩:=hg i v hP;have q1:=q.at λo e=>mv.heap S _ nW e;show wpAny _ A.in1 (holding [Value.str (g i) t] (setAdd S (.str (g i) t)) >>= _) _ _ s1;refine Qa (Xm ?_);unfold setAdd;refine Xm (Qa ((strKind prog w).pyHash (k:=g i) (strKind_is _ _ _ _) ?_));have room:=hb i lt;refine ur (s:={ s1 with toks:=s1.toks+1 }) q1 room λh2 _ sb q2=>?_
 have q3:fF prog w h2 S g (i+1):=by
  refine cw.congr q2 (λx=>?_) ?_
  ·show (decide (x∈met g i) || decide (x=g i))=decide (x∈(if g i∈met g i then met g i else met g i++[g i]));by_cases z:g i∈met g i
   ·rw[Qu z];by_cases y:x=g i
    ·subst y;simp[z]
    simp[y]
   rw[Qt z];simp
  show (if decide (g i∈met g i)=true then _ else _)=(if g i∈met g i then met g i else met g i++[g i]).length;by_cases z:g i∈met g i
  ·simp[z]
  simp[z]
 refine Qf ⟨plainId_quiet X0 _,ih (i+1) _ (by omega) lt (W.frame _ s1 _ _ st1 (Nat.le_succ _) λb z o e=>?_) q3 λs3 mv3 q4=>?_⟩
 ·rw[sb.2 b (λy:b=S=>nS (by rw[<-y];exact z))];exact e
 refine fin s3 (Moved.trans W.gtrans ((mv.mono more).then_heap (Nat.le_succ _) λb o z e=>?_) mv3) q4;rw[sb.2 b (λy:b=S=>z (by rw[y];exact Xd))];exact e
end
section
variable {prog:Program} {w:World} {A:Around} {E:B0} {s:Shared}
theorem i8 {l:Addr} {its:Array Value} {g:Nat->Str} {Q:B0} (hh:A.handled=none) (hl:s.heap.IsList l its) (hi:∀(i:Nat) (v:Value),its[i]?=some v->∃t,v=.str (g i) t) (hb:∀i,i<its.size->(met g i).length+1<scanBound)
  (h:∀(h1:Heap) (tk:Nat),fF prog w h1 s.heap.objs.size g its.size->(∀b o,s.heap.get? b=some o->h1.get? b=some o)->Q (.ref s.heap.objs.size) { s with heap:=h1,toks:=tk }) :
  wpAny (model prog w) A (call (.type "set") [.ref l]) Q E s:=by
 obtain⟨cl,tl,mro⟩:=Xs.mro;have y1:=Xs.made;have y2:=Xs.sub;refine wpAny_call (codeAny_of_tree ?_);show wpAny _ _ (callAny (.type "set") ⟨[.ref l],[]⟩) _ _ _;refine Qf ⟨Code.quiet_builtin _ (by decide +kernel),XH F.entry_type_call ?_⟩;rw[Around.under_plain (weight_type_call_type "set" [.ref l] []) rfl];have y3:=Xs.notType;have y4:=Xs.canCreate;have y5:=F.typeCall_set_1 (.ref l)
 repeat (any_goals (first|assumption|wp_step))
 refine codeAny_mono (kY (.ref l) (E:=E) (Q₁:=λv s1=>∃led:Bool,led=!(w.params.followText "set-order")/\v=.ref s.heap.objs.size/\s1={ s with heap:=s.heap.push (bare led) }) ⟨_,rfl,rfl,rfl⟩) λr s1 hr=>?_
 cases r with
 | error e=>exact hr
 | ok fl =>
 cases fl with
 | ret obj =>
  obtain⟨led,hled,rfl,rfl⟩:=hr;have hS:(s.heap.push (bare led)).get? s.heap.objs.size=some (bare led):=Qv _ rfl;have hT:Shared.TypeIs { s with heap:=s.heap.push (bare led) } (.ref s.heap.objs.size) "set" := ⟨_,hS,rfl⟩;have y6:=Xs.init.lookup;have y7:=Xs.init.bind (.ref s.heap.objs.size)
  repeat (any_goals (first|assumption|wp_step))
  refine codeAny_mono (codeAny_call_builtin (R:=wants (λv s2=>v=.none/\∃h1 tk,s2={ s with heap:=h1,toks:=tk }/\fF prog w h1 s.heap.objs.size g its.size/\∀b o,s.heap.get? b=some o->h1.get? b=some o) E) Xs.init.plain F.entry_set_init (check_set_init_1 hT ?_)) λr2 s2 hr2=>?_
  ·obtain⟨ol,hol,hcl,nl,hdl⟩:=hl;obtain⟨ocls,odict,odata,oslots⟩:=ol;simp only at hcl hdl;subst hcl;subst hdl;have hol1:(s.heap.push (bare led)).get? l=some { cls:=.type "list", dict:=odict,data:=.seq its nl,slots:=oslots }:=Qd _ hol;have y8:=F.sub_list_set;have y9:=F.sub_list_frozenset;have y0:(Value.type "list" == Value.type "dict")=false:=by decide
   have hl1:(s.heap.push (bare led)).IsList l its:=⟨_,hol1,rfl,nl,rfl⟩;unfold Builtin.«set.__init__» noKeywords Builtin.Frozenset.updateFrom;generalize hPI:pyIter=PI
   wp_walk
   subst hPI;refine wpAny_pyIter_list hl1 ?_;refine Qa (wpAny_runValue ?_);have lS:l<s.heap.objs.size:=Qs hol
   have nI:l≠(s.heap.push (bare led)).objs.size:=by
    rw[XB];exact QF (Nat.lt_succ_of_lt lS)
   have nF:s.heap.objs.size∉[(s.heap.push (bare led)).objs.size,l]:=by
    rw[XB];simp only[Qw,QG,XJ,or_false,not_or];exact⟨QF (Nat.lt_succ_self _),Nat.ne_of_gt lS⟩
   refine set_loop ((Walks.list (show A.in1.in1.in1.handled=none by simp[hh]) _ l nI its).toS) nF g hi hb (its.size-0) 0 _ (by omega) (QR _) ⟨⟨_,Qv _ rfl,rfl,rfl⟩,(hl1.push _)⟩ ?_ λs3 mv q=>?_
   ·have e:((s.heap.push (bare led)).push { cls:=.type "list_iterator", data:=.fields #[.ref l,.int 0 0] }).get? s.heap.objs.size=some (bare led):=Qd _ hS;exact cw.congr (cw.bare (by rw[e,hled])) (λ_=>by simp[met]) rfl
   obtain⟨h3,g3,d3,tk3,os3⟩:=s3;obtain rfl:g3=s.gens:=mv.gens;obtain rfl:d3=s.drawn:=mv.drawn;obtain rfl:os3=s.os:=mv.os;show wpAny _ _ _ _ _ _;refine Qf ?_;show wpAny _ _ (ret Value.none) _ _ _;refine Qf ⟨rfl,h3,tk3,rfl,q,λb o e=>?_⟩;have lb:=Qs e;have z1:b≠s.heap.objs.size:=QF lb
   have z2:b≠(s.heap.push (bare led)).objs.size:=by
    rw[XB];exact QF (Nat.lt_succ_of_lt lb)
   exact mv.heap b o (by simp only[Qw,QG,XJ,or_false,not_or];exact⟨z1,z2⟩) (Qd _ (Qd _ e))
  cases r2 with
  | error e=>exact hr2
  | ok fl2 =>
  cases fl2 with
  | ret r =>
   obtain⟨rfl,h1,tk,rfl,q,k⟩:=hr2
   repeat (any_goals (first|assumption|wp_step))
   exact h _ _ q k
  | _=>exact hr2.elim
 | _=>exact hr.elim
end
end LS
namespace L2
open PySem PySem.Spec PyProof.Rows
def oC (ts:List Str):Nat:=(LS.met (λi=>ts.getD i Str.empty) ts.length).length
section
variable {X:Cx} {a:Expr} {ta:TA} {p p1 pos pos1:Pos}
def mR (K:PySem.W.Frag) (ta:TA):TE:=λU H Q=>ta U H λvs H1=>∃l ts,vs=[.ref l]/\SqL K H1 l (ts.map V.str)/\ts.length<1000/\Q (.int (oC ts)) H1
theorem oS (hc:X.calm=true) (hg:Gl X "len") (hm:X.mg "len" = none) (hg1:Gl X "set") (hm1:X.mg "set" = none) (ha:PA X [a] ta) (hs:starEach [a] X.env=[(false,eval a X.env)]:=by rfl)
  (he:starEach [.Call (.Name "set" p1) [a] [] pos1] X.env=[(false,eval (.Call (.Name "set" p1) [a] [] pos1) X.env)]:=by rfl) :
  PE X (.Call (.Name "len" p) [.Call (.Name "set" p1) [a] [] pos1] [] pos) (mR X.K ta):=by
 intro pins s U H Q I h;refine wpAny_Call_Name_kw (cH I hg hm QM ?_);refine PyProof.Rows.callWith_builtin1 ?_ he rfl;rw[he];show wpAny _ _ (spliced ((false,eval (.Call (.Name "set" p1) [a] [] pos1) X.env)::backTo pos [])) _ _ s;refine Calls.spliced_cons ?_;refine Call_ (cH I hg1 hm1 PyProof.Rows.boot_set (Xx (thn (ha pos1 pins s U H _ I h) λus s1 z=>?_) hs rfl));obtain⟨vs,H1,I1,r1,l,ts,e,hl,hsm,q⟩:=z;subst e;obtain⟨u1,e,ru1⟩:=cI r1;subst e;cases ru1;obtain⟨its,rv,pl,_⟩:=I1.list hl;have hlen:its.length=ts.length:=by rw[<-rv.length,Qb]
 refine LS.i8 (its:=its.toArray) (g:=λi=>ts.getD i Str.empty) (I1.ok.hd hc) pl.isList (λi v hv=>?_) (LS.ub (by rw[Qk,hlen];unfold scanBound;omega)) λh3 tk q3 kept=>?_
 ·have hv':its[i]?=some v:=by simpa using hv
  have hi:i<ts.length:=by
   have:=(Ql.mp hv').1;omega
  have e1:(ts.map V.str)[i]?=some (.str (ts.getD i Str.empty)):=by
   rw[QB,Qc hi,QH,Qc hi];rfl
  obtain⟨u,hu,ru⟩:=rv.get e1;rw[hv']at hu;cases hu;obtain⟨t,e2⟩:=ru;exact⟨t,e2⟩
 refine Calls.spliced_nil ?_;have hz:its.toArray.size=ts.length:=by rw[Qk];exact hlen
 rw[hz]at q3;obtain⟨o,es,ep,t,ho,hex,hd,_,_,_,hf,hn,_⟩:=q3;have hle:=LS.iU (λi=>ts.getD i Str.empty) ts.length;refine PySem.call_len_set ho hex hd hf (by rw[hn];omega) ?_;exact⟨.int (oC ts),H1,I1.kept (t':=tk+1+1) kept,⟨tk+1,by rw[hn];rfl⟩,q⟩
end
end L2
namespace LS
open PySem
theorem kD (g:Nat->Str):∀n,(met g n).length=n↔∀i j,i<n->j<n->g i=g j->i=j
 | 0=>⟨λ_ i j h=>absurd h (Nat.not_lt_zero _),λ_=>rfl⟩
 | n+1=>by
  have ih:=kD g n;have le:=iU g n
  have e:(met g (n+1)).length=if g n∈met g n then (met g n).length else (met g n).length+1:=by
   show (if g n∈met g n then met g n else met g n++[g n]).length=_
   split <;> simp
  constructor
  ·intro h;rw[e]at h;have ni:g n∉met g n:=λz=>by rw[Qu z]at h;omega
   rw[Qt ni]at h;have old:=ih.mp (by omega);have no:∀j,j<n->g j≠g n:=λj hj z=>ni ((iS g _ n).mpr ⟨j,hj,z⟩);intro i j hi hj hg;rcases Nat.lt_succ_iff_lt_or_eq.mp hi with a|a <;> rcases Nat.lt_succ_iff_lt_or_eq.mp hj with b|b
   ·exact old i j a b hg
   ·subst b;exact absurd hg (no i a)
   ·subst a;exact absurd hg.symm (no j b)
   omega
  intro h;have old:=ih.mpr λi j a b=>h i j (by omega) (by omega)
  have ni:g n∉met g n:=λz=>by
   obtain⟨j,hj,q⟩:=(iS g _ n).mp z;have:=h j n (by omega) (by omega) q;omega
  rw[e,Qt ni];omega
end LS
namespace L2
open PySem
theorem pW {ts:List Str}:oC ts=ts.length↔ts.Nodup:=by
 unfold oC List.Nodup;rw[LS.kD,List.pairwise_iff_getElem];have at_:∀(i:Nat) (hi:i<ts.length),ts.getD i Str.empty=ts[i]:=λi hi=>by rw[QH,Qc hi];rfl
 constructor
 ·intro h i j hi hj hij hq;have:=h i j hi hj (by rw[at_ i hi,at_ j hj,hq]);omega
 intro h i j hi hj hg;rw[at_ i hi,at_ j hj]at hg;by_cases a:i<j
 ·exact absurd hg (h i j hi hj a)
 by_cases b:j<i
 ·exact absurd hg.symm (h j i hj hi b)
 omega
end L2
namespace L2
open PySem PySem.Spec PyProof.Rows
section
variable {X:Cx} {o e:Expr} {apos cpos:Pos} {ty:TE} {T:Addr}
end
section
variable {K:PySem.W.Frag} {g:TG} {te:TE} {σ0:St} {QD:Hp->Prop} {H1:Hp} {D:Addr}
theorem sH {a:Addr} {xs:List V} (Pv:Nat->Hp->List V->Prop) (h0:Pv 0 (upd H1 D (.lst [])) []) (hD:∀i H ys,Pv i H ys->H D=some (.lst ys)/\SqT K H a xs)
  (hs:∀i x H ys,xs[i]?=some x->Pv i H ys->g x σ0 H λσ2 H2=>wk σ0 σ2/\iC σ2 H2 λb H3=>if b=true then te σ2 H3 (dR Pv xs.length D i ys) else ∃m',m'<xs.length-i/\(m'=xs.length-(i+1)/\i+1<=xs.length/\Pv (i+1) H3 ys)) (hd:∀H ys,Pv xs.length H ys->QD H) :
  ∃W:Nat->Nat->Hp->List V->Prop,(∃m,W 0 m (upd H1 D (.lst [])) [])/\∀i m H ys,W i m H ys->H D=some (.lst ys)/\(((Itt K a).stop i H/\QD H)\/((Itt K a).go i H/\∀x H',(Itt K a).yld i H x H'->g x σ0 H' λσ2 H2=>wk σ0 σ2/\iC σ2 H2 λb H3 =>
   if b=true then te σ2 H3 λv H4=>H4 D=some (.lst ys)/\ys.length<sizeLine/\∃m',m'<m/\W (i+1) m' (upd H4 D (.lst (ys++[v]))) (ys++[v]) else ∃m',m'<m/\W (i+1) m' H3 ys)):=by
 refine⟨λi m H ys=>m=xs.length-i/\i<=xs.length/\Pv i H ys,⟨xs.length,by simp,QR _,h0⟩,?_⟩;rintro i m H ys ⟨rfl,hi,p⟩;obtain⟨d1,d2⟩:=hD i H ys p;refine⟨d1,?_⟩;by_cases hlt:i<xs.length
 ·refine .inr ⟨⟨xs,xs[i],d2,by simp[hlt]⟩,λx H' y=>?_⟩;obtain⟨e,y⟩:=y;subst e;exact hs i x _ ys (y xs d2) p
 have e:i=xs.length:=by exact om0 hi hlt
 subst e;exact .inl ⟨⟨xs,d2,Qi _⟩,hd H ys p⟩
end
section
variable {X:Cx}
def Au (K:PySem.W.Frag) (te:TE):TE:=λU H Q=>te U H λx H1=>∃a xs,x=.ref a/\SqL K H1 a xs/\∀p,H1 p=none->Q (.ref p) (upd H1 p (.lst xs.reverse))
theorem vR {e st:Expr} {te ts:TE} {p2 pos:Pos} (he:PE X e te) (hst:PE X st ts) (h1:∀U H (Q:VK),Q (.int (-1)) H->ts U H Q):PE X (.Subscript e (.Slice none none (some st) p2) pos) (Au X.K te):=by
 intro pins s U H Q I h;refine Subscript_ (thn (he pins s U H _ I h) λv s1 ⟨x,H1,I1,r1,q1⟩=>?_);refine wpAny_Slice ?_;rw[evalPart_none];refine Qf ?_;refine Qf ?_;rw[evalPart_some];refine thn (hst pins s1 U H1 (λy H2=>y=.int (-1)/\H2=H1) I1 (h1 _ _ _ ⟨rfl,rfl⟩)) λvk s3 ⟨y,H3,I3,r3,e1,e2⟩=>?_;subst e1 e2;obtain⟨t,rfl⟩:=r3;obtain⟨a,xs,rfl,hx,q⟩:=q1;cases r1;have I4:Inv X pins U H3 { s3 with heap:=s3.heap.push { cls:=.type "slice", data:=.fields #[.none,.none,.int (-1) t] } }:=I3.kept (t':=s3.toks) λb ob q=>Qd _ q;obtain⟨its,r,ht,hz⟩:=I4.list hx;have hlen:=r.length;refine tail_any (ops:=[.ref a,.ref s3.heap.objs.size]) ht.isList.typeIs slot_list_getitem.lookup ?_ (by with_unfolding_all rfl);refine wpAny_getItem_list_slice ht.isList (Heap.IsSliceOf.new ..) .none .none (.int _ _) (by decide) ?_ (by rw[Qk] <;> exact om4 hz hlen);rw[PySem.W.krv_pick];refine⟨.ref (s3.heap.push { cls:=.type "slice", data:=.fields #[.none,.none,.int (-1) t] }).objs.size,_,I4.laid (t':=s3.toks) (o:=.lst xs.reverse) (λb ob q=>Qd _ q) (Qi _) ?_,rfl,q _ (I4.hok.fresh (Qi _))⟩;exact⟨by rw[List.length_reverse];exact hz,_,0,r.reverse,Qv _ rfl⟩
theorem gR:∀(l:List (Str × Tok)),aI ((l.map (·.1)).map V.str) (strValues l)
 | []=>.nil
 | p::r=>.cons ⟨p.2,rfl⟩ (gR r)
def vI:V->List V->Hp->VK->Prop:=λx vs H Q=>∃(z y:Str),x=.str z/\vs=[.str y]/\(y.length==0)=false/\z.length+2<=sizeLine/\∀p,H p=none->Q (.ref p) (upd H p (.lst ((Txt.split z y).map V.str)))
theorem eJ:MtR X "str.split" vI:=by
 intro pins s U H x vs v us Q I rx rv h;obtain⟨z,y,rfl,rfl,hy,hsz,q⟩:=h;obtain⟨t,rfl⟩:=rx;obtain⟨u1,rfl,u,rfl⟩:=cI rv
 have hn:(Builtin.Str.partsBetween z (Builtin.Str.occurrences z y 0 z.length (z.length+1)) y.length).length<=sizeLine:=by
  have e1:=StrLaws.occ_length_le z y 0 z.length (z.length+1);rw[length_partsBetween];exact xN hsz e1
 have fin:∀(l:List (Str × Tok)) (k:Nat),l.map (·.1)=Txt.split z y->l.length<=sizeLine->EP X pins U Q (.ref s.heap.objs.size) { s with toks:=k,heap:=s.heap.push { cls:=.type "list", data:=.seq (strValues l).toArray } }:=λl k e hl=>by
  refine⟨.ref s.heap.objs.size,_,I.laid (t':=k) (o:=.lst ((Txt.split z y).map V.str)) (λb ob q=>Qd _ q) (Qi _) ?_,rfl,q _ (I.hok.fresh (Qi _))⟩;rw[<-e];exact⟨by rw[Qb,Qb];exact hl,_,0,gR l,Qv _ rfl⟩
 have one:1<=sizeLine:=by decide
 cases h1:(decide (z.length<y.length) || decide (Builtin.Str.strKind z<Builtin.Str.strKind y))
 ·cases hf:(Builtin.Str.occurrences z y 0 z.length (z.length+1)).isEmpty
  ·refine call_meets F.slot_str_split (typeIs_str _ _ _) F.entry_str_split (F.args_str_split_2 _ _) (meets_str_split_sep z y t u h1 hy hf (by exact xM hsz) hn) ?_;show wants _ _ _ { s with toks:=_,heap:=s.heap.push { cls:=.type "list", data:=.seq (strsFrom s.toks (Builtin.Str.partsBetween z (Builtin.Str.occurrences z y 0 z.length (z.length+1)) y.length)).toArray } };rw[strsFrom_eq];have e:=(numbered_texts s.toks (Builtin.Str.partsBetween z (Builtin.Str.occurrences z y 0 z.length (z.length+1)) y.length));refine fin (numbered s.toks _) _ (e.trans ((Qt (ne_true_of_eq_false h1)).trans (Qt (ne_true_of_eq_false hf))).symm) ?_;have e2:=congrArg List.length e;rw[Qb]at e2;exact xL hn e2
  exact call_meets F.slot_str_split (typeIs_str _ _ _) F.entry_str_split (F.args_str_split_2 _ _) (meets_str_split_not_found z y t u h1 hy hf)
   (fin [(z,t)] s.toks ((Qt (ne_true_of_eq_false h1)).trans (Qu hf)).symm one)
 exact call_meets F.slot_str_split (typeIs_str _ _ _) F.entry_str_split (F.args_str_split_2 _ _) (meets_str_split_cannot_occur z y t u h1)
  (fin [(z,t)] s.toks (Qu h1).symm one)
def lU:V->List V->Hp->VK->Prop:=λx vs H Q=>∃(z y:Str) (i:Nat) (r:List Nat),x=.str z/\vs=[.str y]/\(y.length==0)=false/\z.length<=sizeLine/\Builtin.Str.occurrences z y 0 z.length 1=i::r /\
 ∀p,H p=none->Q (.ref p) (upd H p (.tup [.str (Builtin.Str.strSub z 0 i),.str y,.str (Builtin.Str.strSub z (i+y.length) z.length)]))
theorem iQ:MtR X "str.partition" lU:=by
 intro pins s U H x vs v us Q I rx rv h;obtain⟨z,y,i,r,rfl,rfl,hy,hsz,ho,q⟩:=h;obtain⟨t,rfl⟩:=rx;obtain⟨u1,rfl,u,rfl⟩:=cI rv;refine call_meets F.slot_str_partition (typeIs_str _ _ _) F.entry_str_partition (F.args_str_partition_2 _ _) (meets_str_partition z y t u hy hsz) ?_;rw[ho];refine⟨.ref s.heap.objs.size,_,I.laid (t':=s.toks+1+1) (o:=.tup [.str (Builtin.Str.strSub z 0 i),.str y,.str (Builtin.Str.strSub z (i+y.length) z.length)]) (λb ob q=>Qd _ q) (Qi _) ?_,rfl,q _ (I.hok.fresh (Qi _))⟩;exact⟨by show 3<=sizeLine;decide,_,.cons ⟨_,rfl⟩ (.cons ⟨_,rfl⟩ (.cons ⟨_,rfl⟩ .nil)),IsTup.new _ _⟩
def vK (K:PySem.W.Frag):R2:=λx y H Q=>∃a b xs ys e,x=.ref a/\y=.ref b/\SqT K H a xs/\SqT K H b ys/\(∀(j:Nat) x y,xs[j]?=some x->ys[j]?=some y->EqD K H 30 x y (e j)) /\
 Q (.bl (!((List.range (min xs.length ys.length)).all e&&xs.length==ys.length))) H
theorem qT (hu:X.A.units+64<cLine):OpR X (compareOp .NotEq) (vK X.K):=by
 intro pins s U H x y v u Q I rx ry h;obtain⟨a,b,xs,ys,e,e1,e2,ha,hb,hi,q⟩:=h;subst e1 e2;cases rx;cases ry;obtain⟨its,r1,p1,_⟩:=I.tuple ha;obtain⟨its2,r2,p2,_⟩:=I.tuple hb;have l1:=r1.length;have l2:=r2.length;refine SeqAt.RcNeAt.tuples (e:=e) (show s.heap.IsTuple a its.toArray from p1) (show s.heap.IsTuple b its2.toArray from p2) (by exact oX hu) (EqD.items I (by exact xK hu) r1 r2 hi) _ _ _ _ ⟨.bl _,H,I,rfl,?_⟩;rw[Qk,Qk,<-l1,<-l2];exact q
theorem nT {K:PySem.W.Frag} (h:X.K=K):IxR X (λx y H Q=>lV K x y H Q\/gM K x y H Q):=by subst h;exact IxR.or aB bn
end
section
variable {K:PySem.W.Frag} {g:TG} {te:TE} {tt:TT} {σ0:St} {QD:Hp->Prop} {H1:Hp} {D:Addr}
theorem kW {lo:Int} {n:Nat} (Pv:Nat->Hp->List V->Prop) (h0:Pv 0 (upd H1 D (.lst [])) []) (hD:∀i H ys,Pv i H ys->H D=some (.lst ys))
  (hs:∀i H ys,i<n->Pv i H ys->g (.int (lo+i)) σ0 H λσ2 H2=>wk σ0 σ2/\tt σ2 H2 λb H3=>if b=true then te σ2 H3 (dR Pv n D i ys) else ∃m',m'<n-i/\(m'=n-(i+1)/\i+1<=n/\Pv (i+1) H3 ys)) (hd:∀H ys,Pv n H ys->QD H) :
  ∃W:Nat->Nat->Hp->List V->Prop,(∃m,W 0 m (upd H1 D (.lst [])) [])/\∀i m H ys,W i m H ys->H D=some (.lst ys)/\(((Itr lo n).stop i H/\QD H)\/((Itr lo n).go i H/\∀x H',(Itr lo n).yld i H x H'->g x σ0 H' λσ2 H2=>wk σ0 σ2/\tt σ2 H2 λb H3 =>
   if b=true then te σ2 H3 λv H4=>H4 D=some (.lst ys)/\ys.length<sizeLine/\∃m',m'<m/\W (i+1) m' (upd H4 D (.lst (ys++[v]))) (ys++[v]) else ∃m',m'<m/\W (i+1) m' H3 ys)):=by
 refine⟨λi m H ys=>m=n-i/\i<=n/\Pv i H ys,⟨n,by simp,QR _,h0⟩,?_⟩;rintro i m H ys ⟨rfl,hi,p⟩;refine⟨hD i H ys p,?_⟩;by_cases hlt:i<n
 ·refine .inr ⟨hlt,λx H' y=>?_⟩;obtain⟨e,y⟩:=y;subst e y;exact hs i _ ys hlt p
 have e:i=n:=by exact om0 hi hlt
 subst e;exact .inl ⟨Qi _,hd H ys p⟩
theorem mC {K:PySem.W.Frag}:PySem.W.kitOne K (.type "list") (.type "tuple")=some false:=by with_unfolding_all rfl
theorem rN {K:PySem.W.Frag}:PySem.W.kitOne K (.type "tuple") (.type "list")=some false:=by with_unfolding_all rfl
theorem wo {K:PySem.W.Frag}:PySem.W.kitOne K (.type "str") (.type "tuple")=some false:=by with_unfolding_all rfl
theorem wq {K:PySem.W.Frag}:PySem.W.kitOne K (.type "str") (.type "list")=some false:=by with_unfolding_all rfl
end
end L2
namespace L2
open PySem PySem.Spec PyProof.Rows
open AutoSeq1 (wpAny_loadPart')
section
variable {A:Around} {s:Shared} {l:Addr}
end
section
variable {X:Cx}
end
end L2
namespace L2
open PySem PySem.Spec PyProof.Rows
section
variable {X:Cx}
def cY (y z:Str):Str:=if stripSame y.cps.contains false true z then z else stripped y.cps.contains false true z
def tD:V->List V->Hp->VK->Prop:=λx vs H Q=>∃(z y:Str),x=.str z/\vs=[.str y]/\z.length<=sizeLine/\Q (.str (cY y z)) H
theorem pi:MtR X "str.rstrip" tD:=by
 intro pins s U H x vs v us Q I rx rv h;obtain⟨z,y,rfl,rfl,hz,q⟩:=h;obtain⟨t,rfl⟩:=rx;obtain⟨u1,rfl,u,rfl⟩:=cI rv;refine call_gives F.slot_str_rstrip (typeIs_str _ _ _) F.entry_str_rstrip (F.args_str_rstrip_2 _ _) (gives_str_rstrip_chars z y t u) ?_;unfold cY at q;cases c:stripSame y.cps.contains false true z
 ·rw[c,Qt (by decide)]at q;rw[Qt (by decide)];exact⟨fits_stripped _ _ _ hz,⟨.str _,H,I.tok _,⟨_,rfl⟩,q⟩⟩
 rw[c,Qu rfl]at q;rw[Qu rfl];exact⟨.str _,H,I,⟨_,rfl⟩,q⟩
def n8 (y z:Str):Bool:=decide (0+y.length<=z.length)&&Builtin.Str.subAt z y (z.length-y.length)
def wZ:V->List V->Hp->VK->Prop:=λx vs H Q=>∃(z y:Str),x=.str z/\vs=[.str y]/\Q (.bl (n8 y z)) H
theorem kw:MtR X "str.endswith" wZ:=by
 intro pins s U H x vs v us Q I rx rv h;obtain⟨z,y,rfl,rfl,q⟩:=h;obtain⟨t,rfl⟩:=rx;obtain⟨u1,rfl,u,rfl⟩:=cI rv;refine call_gives F.slot_str_endswith (typeIs_str _ _ _) F.entry_str_endswith (F.args_str_endswith_2 _ _) (gives_str_endswith z y t u) ?_;exact⟨.bl _,H,I,rfl,q⟩
def vL (K:PySem.W.Frag):V->List V->Hp->VK->Prop:=λx vs H Q=>∃(z:Str) (l:Addr) (ys:List Str),x=.str z/\vs=[.ref l]/\SqT K H l (ys.map V.str)/\(ys.map (·.length)).sum+ys.length*z.length<=16777216/\Q (.str (Txt.join z ys)) H
theorem kr:MtR X "str.join" (vL X.K):=by
 intro pins s U H x vs v us Q I rx rv h;obtain⟨z,l,ys,rfl,rfl,hl,hz,q⟩:=h;obtain⟨t,rfl⟩:=rx;obtain⟨u,rfl,ru⟩:=rv.one;cases ru;obtain⟨its,r,pl,_⟩:=I.tuple hl;exact join_tuple pl (by simpa using dW r) hz λt' k=>⟨.str _,H,I.tok k,⟨t',rfl⟩,q⟩
end
end L2
namespace L2
open PySem PySem.StrLaws PySem.Builtin.Str
def JJ (Y:List Nat):List Nat->List (List Nat)->List Nat
 | p,[]=>p
 | p,q::r=>p++(Y++JJ Y q r)
theorem sL (x y:Str) (k:Nat):At x y x.length k↔k+y.length<=x.length/\(x.cps.toList.drop k).take y.length=y.cps.toList:=by
 unfold At;rw[subAt_eq,beq_iff_eq]
theorem me {x y:Str} {c:Nat} {Y' p R:List Nat} {a k:Nat} (hy:y.cps.toList=c::Y') (e:x.cps.toList.drop a=p++R) (hc:c∉p) (h1:a<=k) (h2:k<a+p.length):¬At x y x.length k:=λh=>by
 rw[sL,hy]at h
 have l:y.length=Y'.length+1:=by
  show y.cps.size=_;rw[<-Qe,hy,QC]
 have h3:((x.cps.toList.drop k).take y.length)[0]?=some c:=by rw[h.2];rfl
 rw[List.getElem?_take_of_lt (by omega),XA]at h3;have h4:(x.cps.toList.drop a)[k-a]?=some c:=by rw[XA,<-h3];congr 1;omega
 rw[e,QZ (by omega)]at h4;exact hc (Qz h4)
theorem lY {x y:Str} {c:Nat} {Y':List Nat} (hy:y.cps.toList=c::Y'):∀(ps:List (List Nat)) (p:List Nat) (a:Nat) (cuts:List Nat) (f:Nat),(∀q∈p::ps,c∉q)->x.cps.toList.drop a=JJ y.cps.toList p ps->a<=x.length->ChainG x y x.length a cuts f->(∀k,f<=k->¬At x y x.length k)->(partsFrom x y.length a cuts).map (·.cps.toList)=p::ps:=by
 have l:y.length=Y'.length+1:=by
  show y.cps.size=_;rw[<-Qe,hy,QC]
 have lx:x.cps.toList.length=x.length:=Qe ..;intro ps
 induction ps with
 | nil =>
  intro p a cuts f hf e ha ch hn;have e':x.cps.toList.drop a=p++[]:=by rw[XD];exact e
  have le:=congrArg List.length e;rw[QU,lx]at le;have le':x.length-a=p.length:=le
  cases cuts with
  | nil =>
   show [(strSub x a x.length).cps.toList]=[p];rw[strSub_toList,e];congr 1;exact Q0 (by show p.length<=_;omega)
  | cons d r =>
  obtain⟨h1,h2,_⟩:=ch;exact absurd h2 (me hy e' (hf p (by simp)) h1 (by have:=h2.1;omega))
 | cons q r ih =>
 intro p a cuts f hf e ha ch hn;have e':x.cps.toList.drop a=p++(y.cps.toList++JJ y.cps.toList q r):=e;have le:=congrArg List.length e';rw[QU,lx,Qg,Qg]at le;have ly:y.cps.toList.length=y.length:=Qe ..;rw[ly]at le;have e2:x.cps.toList.drop (a+p.length)=y.cps.toList++JJ y.cps.toList q r:=by rw[<-List.drop_drop,e',List.drop_left]
 have at1:At x y x.length (a+p.length):=by
  rw[sL];refine⟨by omega,?_⟩;rw[e2];exact List.take_left' ly
 have no:∀k,a<=k->k<a+p.length->¬At x y x.length k:=λk h1 h2=>me hy e' (hf p (by simp)) h1 h2
 cases cuts with
 | nil =>
  have ef:f=a:=ch;subst ef;exact absurd at1 (hn _ (by omega))
 | cons d s =>
 obtain⟨h1,h2,h3,h4⟩:=ch
 have ed:d=a+p.length:=by
  by_cases c1:d<a+p.length
  ·exact absurd h2 (no d h1 c1)
  by_cases c2:a+p.length<d
  ·exact absurd at1 (h3 _ (by omega) c2)
  omega
 subst ed;show (strSub x a (a+p.length)).cps.toList::(partsFrom x y.length (a+p.length+y.length) s).map (·.cps.toList)=p::q::r;rw[ih q (a+p.length+y.length) s f (λz hz=>hf z (Qj _ hz)) (by rw[<-List.drop_drop,e2];exact List.drop_left' ly) (by omega) h4 hn,strSub_toList,e'];congr 1;rw[show a+p.length-a=p.length by omega];exact List.take_left' rfl
theorem t5 (x:Str):1<=Builtin.Str.strKind x:=by
 unfold Builtin.Str.strKind
 split
 ·omega
 split <;> omega
theorem f_ {x y:Str} {c:Nat} {Y' p:List Nat} {ps:List (List Nat)} (hy:y.cps.toList=c::Y') (hk:Builtin.Str.strKind y=1) (e:x.cps.toList=JJ y.cps.toList p ps) (hf:∀q∈p::ps,c∉q):Txt.split x y=(p::ps).map λq=>⟨q.toArray⟩:=by
 have l:y.length=Y'.length+1:=by
  show y.cps.size=_;rw[<-Qe,hy,QC]
 obtain⟨f,hG,hn⟩:=occ_tight x y (by omega);have key:=lY hy ps p 0 _ f hf (by rw[List.drop_zero];exact e) (QR _) hG hn
 have fin:partsFrom x y.length 0 (occurrences x y 0 x.length (x.length+1))=(p::ps).map λq=>⟨q.toArray⟩:=by
  rw[<-key,Xy];have:((λq:List Nat=>(⟨q.toArray⟩:Str))∘λz:Str=>z.cps.toList)=id:=by funext z;simp
  rw[this,List.map_id]
 have none_:occurrences x y 0 x.length (x.length+1)=[]->[x]=(p::ps).map λq=>(⟨q.toArray⟩:Str):=λh=>by
  rw[<-fin,h];show [x]=[strSub x 0 x.length];rw[sub_whole]
 unfold Txt.split
 split
 ·rename_i hc
  rw[Bool.or_eq_true,decide_eq_true_eq,decide_eq_true_eq]at hc;rcases hc with h|h
  ·refine none_ ?_
   cases ho:occurrences x y 0 x.length (x.length+1) with
   | nil=>rfl
   | cons d r =>
   rw[ho]at hG;have:=hG.2.1.1;omega
  have:=t5 x;omega
 split
 ·rename_i he
  exact none_ (List.isEmpty_iff.mp he)
 rw[partsBetween_eq];exact fin
theorem iP {x:Str} {c:Nat} {p R:List Nat} (e:x.cps.toList=p++c::R) (hc:c∉p):∃r,occurrences x ⟨#[c]⟩ 0 x.length 1=p.length::r:=by
 have lx:x.cps.toList.length=x.length:=Qe ..;have le:=congrArg List.length e;rw[lx,Qg,QC]at le;have at1:At x ⟨#[c]⟩ x.length p.length:=(subAt_one x c p.length).mpr (by rw[e];simp);rw[occ_eq];rcases occ_first x ⟨#[c]⟩ x.length 1 (Qi 1) (List.range' 0 (x.length+1-0)) 0 (λ_ _=>QR _) with⟨_,hn⟩|⟨pre,a,post,hl,h0,ha,hn⟩
 ·exact absurd at1 (hn _ (by simp[List.mem_range'];omega))
 have hp:=range'_split hl
 have ea:a=p.length:=by
  by_cases c1:a<p.length
  ·exact absurd ha (me (c:=c) (Y':=[]) (p:=p) (R:=c::R) (a:=0) rfl (by rw[List.drop_zero];exact e) hc (QR _) (by omega))
  by_cases c2:p.length<a
  ·exact absurd at1 (hn _ (hp _ c2))
  omega
 subst ea
 cases h:(forIn (List.range' 0 (x.length+1-0)) ((#[]:Array Nat),0) (occBody x ⟨#[c]⟩ x.length 1)).run.fst.toList with
 | nil=>rw[<-Qm,h]at h0;cases h0
 | cons d r =>
 rw[<-Qm,h]at h0;cases h0;exact⟨r,rfl⟩
theorem c7 (y:Str):∀(ps:List Str) (p:Str),(Txt.join y (p::ps)).cps.toList=JJ y.cps.toList p.cps.toList (ps.map (·.cps.toList)):=by
 intro ps
 induction ps with
 | nil=>intro p;rfl
 | cons q r ih =>
 intro p;have h:=ih q;unfold Txt.join at h ⊢;rw[PySem.StrLaws.glued_eq_join]at h ⊢;show (p++y++Str.join y (q::r)).cps.toList=_;show (p.cps++y.cps++(Str.join y (q::r)).cps).toList=p.cps.toList++(y.cps.toList++JJ y.cps.toList q.cps.toList (r.map (·.cps.toList)));rw[<-h];simp
end L2
namespace XE
open PySem
open Sem (wp)
structure XN (fs:B3) (e T:Addr) (oe:Obj) (h h':Heap):Prop where
 keep:∀b o,b≠e->b∉fs->h.get? b=some o->h'.get? b=some o
 slot:∀b o,b≠e->h.get? b=some o->∃sl,h'.get? b=some { o with slots:=sl }
 at_:h'.get? e=some (oe.mapFields (·.setIfInBounds 1 (.ref T)))
 new:h.get? T=none
section
variable {M:Model} {A:Around} {E:B0} {s:Shared}
structure Tr (e T:Addr) (h:Heap):Prop where
 ex:∃oe vs oT ts,h.get? e=some oe/\oe.data=.fields vs/\vs[1]?=some (.ref T)/\h.get? T=some oT/\oT.data=.fields ts/\ts[3]?=some .none
 ne:T≠e
structure XL (fs:B3) (e:Addr) (Ts:B3) (h h':Heap):Prop where
 keep:∀b o,b≠e->b∉Ts->b∉fs->h.get? b=some o->h'.get? b=some o
 slot:∀b o,b≠e->b∉Ts->h.get? b=some o->∃sl,h'.get? b=some { o with slots:=sl }
 at_:∀oe,h.get? e=some oe->∃oe',h'.get? e=some oe'/\oe'.cls=oe.cls/\oe'.dict=oe.dict
end
end XE
namespace XE
open PySem
abbrev newExc (C p:Addr):Obj:={ cls:=.ref C,data:=.fields #[.ref p,.none,.none,.none,.bool false,.none] }
structure XC (g:Heap) (C:Addr) (B new:String) (up top:List Value):Prop where
 obj:∃nm q N bs hd sn sub ab col dd a0 a1 a2 a3 a5,g.get? C=some (excClassObj nm q C N bs up hd sn sub ab col dd a0 a1 a2 a3 a5 new)
 tail:OwnTail g top up
theorem XC.keeps {g g':Heap} {C:Addr} {B new:String} {up top:List Value} (x:XC g C B new up top) (k:∀b o,g.get? b=some o->g'.get? b=some o):XC g' C B new up top:=by
 obtain⟨a1,a2,a3,a4,a5,a6,a7,a8,a9,a10,a11,a12,a13,a14,a15,e⟩:=x.obj;exact⟨⟨a1,a2,a3,a4,a5,a6,a7,a8,a9,a10,a11,a12,a13,a14,a15,k _ _ e⟩,x.tail.keeps k⟩
section
variable {P:Program} {w:World} {A:Around} {E:B0} {g:Heap} {gs:Array GenState} {dr:Drawn} {tk:Nat} {os:OsState} {C:Addr} {B new init:String} {up top:List Value}
end
end XE
set_option maxHeartbeats 1000000
namespace XE
open PySem PySem.W PySem.Calls PyProof.Rows Builtin Builtin.ObjectAttr
abbrev vf:List Value:=[.type "ValueError", .type "Exception", .type "BaseException", .type "object"]
structure XKl (K:Frag) (C NE:Addr):Prop where
 mr:((clsIn K C).any λcd=>cd.mro==.ref C::.ref NE::vf)=true
 ga:findIn K (.ref C) "__getattribute__" = some (some (.builtin "BaseException.__getattribute__"))
 gh:findIn K (.ref C) "__getattr__" = some none
 sb:subIn K (.ref C) (.type "BaseException")=some true
 hd:hasDictIn K C=true
 cl:findIn K (.ref C) "__class__" = some (some (.builtin "object.__class__"))
 cg:specialIn K (.builtin "object.__class__") "__get__" = some (some (.builtin "getset_descriptor.__get__"))
 ct:takesIn K (.builtin "object.__class__")=some true
 ob:mroIn K C (.type "object")=some true
 sa:findIn K (.ref C) "__setattr__" = some (some (.builtin "object.__setattr__"))
section
variable {P:Program} {w:World} {A:Around} {E:B0} {R:Result->Shared->Prop} {s:Shared} {K:Frag} {x C NE:Addr} {ox:Obj} {od:Option Obj} {name:Str}
end
end XE
namespace L2
open PySem PySem.Spec PyProof.Rows PySem.Calls
def XOk (e C:Addr) (d:Option Addr) (fresh:Bool) (h:Heap):Prop:=∃o vs,h.get? e=some o/\o.cls=.ref C/\o.dict=d/\o.data=.fields vs/\(fresh=true->∃t,vs=#[.ref t,.none,.none,.none,.bool false,.none])
abbrev XO (e C:Addr) (d:Option Addr) (fresh:Bool):HO:=.ext (XOk e C d fresh)
section
variable {P:Program} {w:World} {H H1 H2:Hp} {h h1 h2:Heap} {a e C L:Addr} {d:Option Addr} {b:Bool} {o u:HO} {fs Ts:B3}
theorem bi.there (x:bi P w H h a o):∃u,h.get? a=some u:=by
 induction o with
 | lst xs=>obtain⟨_,_,_,_,e⟩:=x;exact⟨_,e⟩
 | tup xs=>obtain⟨_,_,_,_,e,_⟩:=x;exact⟨_,e⟩
 | dK kvs=>obtain⟨_,_,_,_,o,_,_,e,_⟩:=x;exact⟨_,e⟩
 | dT kvs=>obtain⟨_,_,_,_,o,_,_,e,_⟩:=x;exact⟨_,e⟩
 | set S n=>obtain⟨o,_,_,_,e,_⟩:=x;exact⟨_,e⟩
 | ins C dx fs=>obtain⟨_,_,_,e,_⟩:=x;exact⟨_,e⟩
 | own y=>obtain⟨_,e⟩:=x;exact⟨_,e⟩
 | xd fs=>obtain⟨_,⟨_,_,_,e,_⟩,_⟩:=x;exact⟨_,e⟩
 | rng lo hi=>obtain⟨_,_,_,e⟩:=x;exact⟨_,e⟩
 | frz ob u ih=>obtain⟨e,_⟩:=x;exact⟨_,e⟩
 | tbl ps=>exact⟨_,(show h.get? a=some _ from x)⟩
 | met f y=>exact⟨_,(show h.get? a=some _ from x)⟩
 | ext φ=>obtain⟨_,e,_⟩:=x;exact e
end
noncomputable def CX1 (P:Program) (w:World):CXT:=λouter H s E ev s'=>∃(e C T:Addr) (d:Option Addr) (H':Hp),ev=.ref e/\s'.os=s.os/\AllBare s'.gens/\Un (frs outer) [] H H' s.heap s'.heap/\HOk P w H' s'.heap /\
 H' e=some (XO e C d false)/\s.heap.get? T=none/\H' T=none/\XE.Tr e T s'.heap/\E (.ref C) (some e) H'
section
variable {P:Program} {w:World} {K:PySem.W.Frag} {mg:B2} {base:Heap} {N:List Str} {qual:Str} {scope:Scope} {f:Addr} {cd:Value} {A:Around} {outer:List Env} {s s1:Shared} {H H1:Hp} {E:XK} {pins:B1} {U:St} {e C:Addr} {d:Option Addr}
end
section
variable {X:Cx} {pins:B1} {U:St} {H:Hp} {s:Shared}
abbrev Cx.marked (X:Cx) (e:Addr):Cx:={ X with A:=X.A.mark (some (.ref e)),calm:=false,xe:=λ_ _=>False }
theorem Inv.mark (I:Inv X pins U H s) (e:Addr):Inv (X.marked e) pins U H s :=
 ⟨⟨I.ok.mod,I.ok.kind,I.ok.glob,I.ok.blt,I.ok.above,I.ok.inj,I.ok.has,I.ok.cab,(λz=>by cases z),I.ok.frames,I.ok.stk,I.ok.exf,I.ok.bs,I.ok.bsz,I.ok.noex,I.ok.exfs,I.ok.funs,I.ok.frf⟩,I.os,I.bare,I.base,I.loc,I.cell,I.free,I.freeC,I.pin,I.hok,I.len⟩
end
section
variable {X:Cx}
structure XMk (K:PySem.W.Frag) (C NE:Addr):Prop where
 xc:∀h:Heap,K.In h->XE.XC h C "ValueError" "ValueError.__new__" (.ref NE::XE.vf) XE.vf
 kp:PySem.W.keepIn K (.ref C)=true
 kl:XE.XKl K C NE
end
section
variable {X:Cx}
end
end L2
namespace XE
open PySem PySem.W PySem.Calls PyProof.Rows
section
variable {P:Program} {w:World} {A:Around} {E:B0} {g:Heap} {gs:Array GenState} {dr:Drawn} {tk:Nat} {os:OsState} {C:Addr} {B new init:String} {up top:List Value}
end
section
variable {P:Program} {w:World} {A:Around} {E:B0} {s:Shared} {K:Frag} {x C NE:Addr} {ox:Obj} {od:Option Obj}
end
end XE
namespace L2
open PySem PySem.Spec PyProof.Rows PySem.Calls
section
variable {X:Cx}
end
section
variable {P:Program} {w:World} {K:PySem.W.Frag} {mg:B2} {base:Heap} {N:List Str} {qual:Str} {scope:Scope} {f:Addr} {cd:Value} {A:Around} {outer:List Env} {s:Shared} {H:Hp} {E:XK}
end
section
variable {X:Cx}
def XP (X:Cx) (pins:B1) (U:St) (E:XK) (ev:Value) (s':Shared):Prop:=∃H1 s1,Inv X pins U H1 s1/\CX1 X.prog X.w X.stack H1 s1 E ev s'
end
end L2
set_option maxHeartbeats 4000000
namespace L2
open PySem PySem.Spec PyProof.Rows
section
variable {X:Cx}
end
end L2
namespace K2
open PySem L2
abbrev IvF:=Nat->St->Hp->Prop
abbrev IvC:=Nat->Hp->List V->Prop
abbrev IvJ:=St->Hp->Prop
variable {X:Cx}
theorem eN {K:PySem.W.Frag} (h:X.K=K):IxR X (lV K):=by subst h;exact aB
variable {H H' H1 H2:Hp}
theorem eZ {td ty tv:TE} {D:Ends} {U:St} (q:tv U H λv H1=>td U H1 λx H2=>ty U H2 λy H3=>∃a H4,x=.ref a/\gQ H3 a y v H4/\D.nx U H4):nv td ty tv D U H:=q
theorem r8 {td ty:TE} {U:St} {Q:VK} (q:ty U H λy H1=>td U H1 λx H2=>∃a o,x=.ref a/\fz H2 a y o/\Q (.bl (!o.isSome)) H2):mS ty td U H Q:=q
theorem i9 {K:PySem.W.Frag} (h:X.K=K):cW X (.builtin "isinstance") (λxs H Q=>∃x T ty b,xs=[x,.ty T]/\TyOf K H x ty/\PySem.W.kitOne K ty (.type T)=some b/\Q (.bl b) H):=by subst h;exact aC
structure Txt (K:PySem.W.Frag) (mg:B2) (TT:Addr):Prop where
 n_len:mg "len" = none
 n_range:mg "range" = none
 n_max:mg "max" = none
 n_min:mg "min" = none
 n_int:mg "int" = none
 n_list:mg "list" = none
 n_str:mg "str" = none
 n_isinstance:mg "isinstance" = none
 n_all:mg "all" = none
 n_set:mg "set" = none
 n_dict:mg "dict" = none
 n_enumerate:mg "enumerate" = none
 n_sorted:mg "sorted" = none
 n_tuple:mg "tuple" = none
 n_bool:mg "bool" = none
 n_zip:mg "zip" = none
 n_reversed:mg "reversed" = none
 lETTERS:∃t,mg "LETTERS" = some (.str "abcdefghijklmnopqrstuvwxyz" t)
 mLETTERS:∃t,mg "MOST_LETTERS" = some (.int 8 t)
 mWIRES:∃t,mg "MOST_WIRES" = some (.int 5 t)
 sA:∃a,mg "SIGNS_AHEAD" = some (.ref a)/\jD K a [("+", .flat (.str "0")),("-", .flat (.str "1"))]
 tURNED:mg "TURNED" = some (.ref TT)
 tab:jD K TT [("0", .flat (.str "1")),("1", .flat (.str "0"))]
structure Dk where
 d:Addr
def Dk.own (D:Dk) (b:Addr):Prop:=b=D.d
def Dk.At (D:Dk) (H:Hp):Prop:=∃xs:List Int,H D.d=some (.lst (xs.map V.int))
structure Kp (D:Dk) (H H':Hp):Prop where
 old:∀b o,H b=some o->¬D.own b->H' b=some o
 dk:D.At H'
def eU:Sp:=λvs H Q _=>∃(D:Dk) (m:Int),vs=[.ref D.d,.int m]/\D.At H/\1<=m/\m<=100000/\∀(r:Int) H',0<=r->r<m->Kp D H H'->Q (.int r) H'
def bS (H H':Hp):Prop:=∀b xs,H b=some (.tup xs)->H' b=some (.tup xs)
theorem aw.tups (S:aw H H'):bS H H':=λb xs e=>S b _ e
variable {D:Dk}
theorem Dk.At.same (S:aw H H') (h:D.At H):D.At H':=let ⟨xs,e⟩:=h;⟨xs,S _ _ e⟩
theorem Kp.of (h:D.At H) (S:aw H H'):Kp D H H':=⟨λb o e _=>S b o e,h.same S⟩
theorem Kp.trans (a:Kp D H H1) (b:Kp D H1 H2):Kp D H H2:=⟨λc o e n=>b.old c o (a.old c o e n) n,b.dk⟩
theorem Kp.tups (DA:D.At H) (k:Kp D H H'):bS H H':=λb xs e=>k.old b _ e λz=>by
 obtain⟨ys,q⟩:=DA;cases z;rw[q]at e;cases e
variable {o:HO}
theorem Kp.fresh {L:Addr} (DA:D.At H) (hL:H L=none) (k:Kp D H H'):Kp D H (upd H' L o):=by
 obtain⟨a0,e0⟩:=DA;obtain⟨a,e⟩:=k.dk;exact⟨λb u e nb=>by rw[ao (aV e hL)];exact k.old b u e nb,⟨a,by rw[ao (aV e0 hL)];exact e⟩⟩
theorem Kp.new {p:Addr} {o:HO} (k:Kp D H H') (hp:H' p=none):Kp D H (upd H' p o):=k.trans (Kp.of k.dk (aE hp))
theorem Kp.free {l:Addr} (k:Kp D H H') (h:H' l=none):H l=none:=by
 cases e:H l with
 | none=>rfl
 | some o =>
 exfalso;by_cases c:D.own l
 ·obtain⟨a,q⟩:=k.dk;cases c;rw[q]at h;cases h
 rw[k.old l o e c]at h;cases h
theorem ba {p:Addr} (DA:D.At H) (hp:H p=none):¬D.own p:=λz=>by
 obtain⟨a,e⟩:=DA;cases z;rw[e]at hp;cases hp
structure StOk (n:Nat) (z:Str):Prop where
 len:z.cps.size=n
 signs:∀c∈z.cps.toList,c=48\/c=49
theorem l_ {K:PySem.W.Frag} (h:X.K=K):OpR X (compareOp .In) (rIn K false):=by subst h;exact hC
variable {pos p:Pos} {es a:List Expr}
theorem tH {K:PySem.W.Frag} {k:Nat} {t:TGs} {n:Nat} (hK:X.K=K) (hc:X.calm=true) (h:PGs X es t)
  (hn:(assignEach es X.env).length=n:=by rfl) (hst:(assignEach es X.env).findIdx? (·.1)=none:=by rfl):PG X (.Tuple es k pos) (Af K n t):=by subst hK;exact lW hc h hn hst
theorem gg {A B:TS} {D:Ends} {U:St} (J:St->Hp->Prop) (h:∀(R:St->Hp->Prop),(∀U H,J U H->R U H)->A { D with nx:=R } U H) (hJ:∀U H,J U H->B D U H):jF A B D U H:=h (B D) hJ
theorem fh {α β:Type} (f:α->β):∀(xs:List α) (k:Nat),(xs.map f).eraseIdx k=(xs.eraseIdx k).map f
 | [],_=>rfl
 | _::_,0=>rfl
 | x::xs,k+1=>by
  rw[Qo,List.eraseIdx_cons_succ,List.eraseIdx_cons_succ,Qo,fh f xs k]
variable {env:Env}
theorem se_tup {n:Nat}:starEach (.Tuple a n p::es) env=(false,eval (.Tuple a n p) env)::starEach es env:=by rfl
theorem se_lst:starEach (.List a p::es) env=(false,eval (.List a p) env)::starEach es env:=by rfl
theorem aW {f:Expr} {k:List Keyword}:starEach (.Call f a k p::es) env=(false,eval (.Call f a k p) env)::starEach es env:=by rfl
theorem aD {c:Const} {n:Nat}:starEach (.Constant c n p::es) env=(false,eval (.Constant c n p) env)::starEach es env:=by rfl
theorem ae {x:Str}:starEach (.Name x p::es) env=(false,eval (.Name x p) env)::starEach es env:=by rfl
theorem se_sub {a b:Expr}:starEach (.Subscript a b p::es) env=(false,eval (.Subscript a b p) env)::starEach es env:=by rfl
theorem bO {a b:Addr} (h1:H a=some o) (h2:H b=none):b≠a:=λz=>by rw[z,h1]at h2;cases h2
theorem cL {α β:Type} {F:α->β->Prop}:∀{xs:List α} {ys:List β} {x:α} {y:β},Paired F xs ys->F x y->Paired F (xs++[x]) (ys++[y])
 | _,_,_,_,.nil,h=>.cons h .nil
 | _,_,_,_,.cons h t,g=>.cons h (cL t g)
theorem ay {α β:Type} {F G:α->β->Prop} (h:∀a b,F a b->G a b):∀{xs:List α} {ys:List β},Paired F xs ys->Paired G xs ys
 | _,_,.nil=>.nil
 | _,_,.cons a t=>.cons (h _ _ a) (ay h t)
theorem paired_get {α β:Type} {F:α->β->Prop}:∀{xs:List α} {ys:List β} {i:Nat} {x:α},Paired F xs ys->xs[i]?=some x->∃y,ys[i]?=some y/\F x y
 | _,_,_,_,.nil,e=>by simp at e
 | _,_,0,_,.cons r _,e=>by simp at e;subst e;exact⟨_,rfl,r⟩
 | _,_,i+1,x,.cons _ t,e=>by
  obtain⟨u,h1,h2⟩:=paired_get (i:=i) (x:=x) t (by simpa using e);exact⟨u,by simpa using h1,h2⟩
theorem dq {α β:Type} {F:α->β->Prop}:∀{xs:List α} {ys:List β} {i:Nat} {y:β},Paired F xs ys->ys[i]?=some y->∃x,xs[i]?=some x/\F x y
 | _,_,_,_,.nil,e=>by simp at e
 | _,_,0,_,.cons r _,e=>by simp at e;subst e;exact⟨_,rfl,r⟩
 | _,_,i+1,y,.cons _ t,e=>by
  obtain⟨u,h1,h2⟩:=dq (i:=i) (y:=y) t (by simpa using e);exact⟨u,by simpa using h1,h2⟩
theorem ifT {c:Bool} {A B:Prop} (hc:c=true) (h:A):if c=true then A else B:=by rw[Qu hc];exact h
theorem ifF {c:Bool} {A B:Prop} (hc:c=false) (h:B):if c=true then A else B:=by subst hc;exact cu h
theorem bK {D:Addr} (S:aw H H') (hD:H D=none):aw H (upd H' D o):=λb u e=>by rw[ao (aV e hD)];exact S b u e
theorem az {p:Addr} (h:H p=none) (e:upd H p o=H'):aw H H'/\H' p=some o:=by
 subst e;exact⟨aE h,ag⟩
theorem aO {α β:Type} {F:α->β->Prop}:∀{xs:List α} {ys:List β},Paired F xs ys->xs.length=ys.length
 | _,_,.nil=>rfl
 | _,_,.cons h t=>by simp[aO t]
end K2
namespace K2
open PySem L2
abbrev SqLofQ:=@SqL.of
abbrev i_varQ:=@bw
abbrev iteFQ:=@cu
abbrev pa_consQ:=@aa
abbrev pa_nilQ:=@ad
abbrev pe_intQ:=@af
abbrev pe_strQ:=@ax
abbrev pss_oneQ:=@aK
abbrev s_nameQ:=@aZ
abbrev se_callQ:=@aW
abbrev se_conQ:=@aD
abbrev se_nameQ:=@ae
local macro_rules | `(tactic| walk_at "vc") => `(tactic| first
 | ((refine' (?zz : (?zA → ?zG) → ?zA → ?zG) ?zr ?_); (case zr => with_reducible exact s_seqT); (case zz => exact fun _ q => q); intro D') | ((refine' (?zz : (?zA → ?zG) → ?zA → ?zG) ?zr ?_); (case zr => with_reducible first | exact s_asg | exact s_drop | exact s_ret | exact s_if | exact s_sub | exact s_next | exact i_c | exact i_op | exact i_test | exact i_tB | exact i_and | exact i_or | exact i_not | exact i_andV | exact i_orV | exact i_notV | exact i_ifE | exact i_nil | exact i_cons | exact i_cb | exact i_tup | exact i_lst | exact i_bm | exact i_sl | exact i_nopart | exact i_part | exact s_for | exact s_rng1 | exact s_list | exact s_str | exact i_dget | exact i_yes | exact i_un); (case zz => exact fun _ q => q))   | (with_reducible refine s_nameQ ?_)
 | ((with_reducible refine' i_varQ ?hv ?_); (case hv => exact rfl))   | (with_reducible first | refine i_rI0 ?_ | refine i_call ?_ | refine s_strI ?_ | refine iteFQ ?_ | refine iteT ?_ | refine i_rU ?_)
 | ((with_reducible show ∃ i, V.int _ = V.int i ∧ _); (refine ⟨_, rfl, ?_⟩)) | ((with_reducible show ∃ k, V.bl _ = V.bl k ∧ _); (refine ⟨_, rfl, ?_⟩)) | ((with_reducible show (∃ i, [V.bl _] = [V.int i] ∧ _) ∨ _); (refine Or.inr ⟨_, rfl, ?_⟩))
 | ((with_reducible refine' i_ixL ?ha ?hb ?_); (case ha => exact SqLofQ (by assumption)); (case hb => exact rfl)) | ((with_reducible refine' i_ixT ?ha ?hb ?_); (case ha => assumption); (case hb => exact rfl))
 | ((with_reducible show ∃ p _, [V.ref _] = [V.ref p] ∧ (SqL _ _ _ _ ∨ SqT _ _ _ _) ∧ _); (refine' ⟨_, _, rfl, Or.inl (SqLofQ ?ha), ?_⟩); (case ha => assumption)) | ((with_reducible refine' s_setL ?ha ?hb ?_); (case ha => assumption); (case hb => exact rfl))
 | ((with_reducible refine' i_eq ?ha ?_); (case ha => exact rfl)) | ((with_reducible refine' i_ne ?ha ?_); (case ha => exact rfl))
 | ((with_reducible show ∃ z, V.str _ = V.str z ∧ _); (refine ⟨_, rfl, ?_⟩))
 | ((with_reducible refine' i_rI ?hv ?_); (case hv => first | decide | (dsimp only; omega) | exact .inl ⟨by omega, by omega⟩ | exact .inr ⟨by omega, by omega⟩ | exact ⟨by decide, by decide⟩ | exact ⟨by decide, by decide, by decide⟩ | exact ⟨by omega, by omega⟩))
 | ((with_reducible show ∃ i, [V.int _] = [V.int i] ∧ _); (refine ⟨_, rfl, ?_⟩))
 | ((with_reducible show tyV _ "list" _ _ ∧ _); (refine' ⟨i_tyL ?ha, ?_⟩); (case ha => assumption)))
local macro_rules | `(tactic| walk_at "p") => `(tactic| repeat' (with_reducible first | (refine' pss_oneQ ?_; rotate_left 1) | (refine' pss_cons ?_ ?_; rotate_left 2) | exact pss_nil | (refine' ps_if ?_ ?_ ?_; rotate_left 3)))
local macro_rules | `(tactic| walk_at "b") => `(tactic| (refine' pss_cons ?_ ?_; rotate_left 2; walk_at "p"))
local macro_rules | `(tactic| walk_at "f") => `(tactic| (refine' ps_for PassesOwn.never rfl ?_ ?_ ?_ (fun _ => rfl); rotate_left 3))
local macro_rules | `(tactic| walk_at "q") => `(tactic| repeat' (with_reducible first | exact pe_strQ | exact pe_intQ | exact pa_nilQ | (refine' pe_tup ?_; rotate_left 1) | (refine' pe_lst ?_; rotate_left 1) | (refine' pa_consQ ?_ ?_ se_conQ; rotate_left 2) | (refine' pa_consQ ?_ ?_ se_tup; rotate_left 2) | (refine' pa_consQ ?_ ?_ se_nameQ; rotate_left 2) | (refine' pa_consQ ?_ ?_ se_sub; rotate_left 2) | (refine' pa_consQ ?_ ?_ se_bin; rotate_left 2) | (refine' pa_consQ ?_ ?_ se_lst; rotate_left 2) | (refine' pa_consQ ?_ ?_ se_callQ; rotate_left 2) | (refine' pa_consQ ?_ ?_ se_lc; rotate_left 2)))
local macro_rules | `(tactic|room) => `(tactic| (intro vs H Q E h; repeat (first | (obtain ⟨e, _⟩ := h; subst e; rfl) | (obtain ⟨_, h⟩ := h))))
local macro_rules | `(tactic|x_go) => `(tactic| ((try dsimp only [cxOf, Cx.nox, Cx.wish]); (conv in (L2.start _ _) => simp only [L2.start, Qo, List.map_nil, QC, XG, List.replicate_succ, List.replicate_zero, List.cons_append, List.nil_append, Nat.reduceAdd, Nat.reduceSub]); have big : 100000 < sizeLine := by decide))
local macro_rules | `(tactic|kt_k) => `(tactic| (with_reducible first | refine s_seq ?_ | refine s_if ?_ | refine s_next ?_ | refine i_or ?_ | refine s_nameQ ?_ | refine s_ret ?_))
local macro_rules|`(tactic|lk)=>`(tactic|repeat walk_at "vc")
local macro_rules|`(tactic|fin2)=>`(tactic|exact⟨rfl,rfl,rfl,by decide +kernel,rfl,by decide +kernel,by decide +kernel⟩)
def sg (b:Bool):V:=if b then .str "1" else .str "0"
variable {P:Program} {w:World} {K:PySem.W.Frag} {mg:B2} {base:Heap} {TT:Addr}
section
end
theorem gA {xs:Array Nat}:∀(j a:Nat),a+j<=xs.size->((List.range j).map λk=>a+k).filterMap (xs[·]?)=(xs.toList.drop a).take j
 | 0,a,_=>by simp
 | j+1,a,h=>by
  rw[List.range_succ,QP,List.filterMap_append,gA j a (by omega),List.take_succ];have e:(xs.toList.drop a)[j]?=xs[a+j]?:=by rw[XA];simp
  rw[e];have q:xs[a+j]?=some (xs[a+j]'(by omega)):=by rw[Qy]
  simp[q]
variable {z:Str}
theorem ge {a b:Nat} {lo hi:Option Int} (hl:PySem.Builtin.Str.strSliceIndices lo hi 1 z.length=(List.range (b-a)).map λk=>a+k) (hb:b<=z.cps.size) (hab:a<=b):(Txt.slice z lo hi).cps.toList=(z.cps.toList.drop a).take (b-a):=by
 unfold Txt.slice;rw[hl]
 split
 ·rename_i h
  have h:b-a=z.length:=by simpa using h
  have h':z.length=z.cps.size:=rfl;have a0:a=0:=by omega
  subst a0;rw[List.drop_zero,Q0 (by rw[Qe];omega)]
 exact gA (b-a) a (by omega)
variable {j n c cx cy:Nat}
theorem qt (h:j<=z.cps.size):(Txt.slice z none (some (j:Int))).cps.toList=z.cps.toList.take j:=by
 have h':z.length=z.cps.size:=rfl;refine(ge (a:=0) (b:=j) ?_ h (QR _)).trans (by simp);unfold PySem.Builtin.Str.strSliceIndices sliceRange
 have e:max 0 (min (if (j:Int)<0 then (j:Int)+z.length else (j:Int)) (z.length:Int))=(j:Int):=by
  rw[Qt (Int.not_lt.mpr (Int.natCast_nonneg _)),Int.min_eq_left (show _<=(z.length:Int) from Int.ofNat_le.mpr h),Int.max_eq_right (Int.natCast_nonneg _)]
 simp only[show (1:Int)>0 from by decide,if_true,e]
 have c:(if (0:Int)<(j:Int) then ((j:Int)-0+1-1) / 1 else 0).toNat=j-0:=by
  rw[Int.ediv_one,Int.add_sub_cancel,Int.sub_zero,Nat.sub_zero]
  split
  ·rfl
  omega
 rw[c];refine List.map_congr_left λk _=>?_;omega
theorem lM {a:Nat} (h:a<=z.cps.size):(Txt.slice z (some (a:Int)) none).cps.toList=z.cps.toList.drop a:=by
 have h':z.length=z.cps.size:=rfl;refine(ge (a:=a) (b:=z.cps.size) ?_ (Qi _) h).trans (by rw[Q0 (by rw[QU,Qe];omega)]);unfold PySem.Builtin.Str.strSliceIndices sliceRange
 have e:max 0 (min (if (a:Int)<0 then (a:Int)+z.length else (a:Int)) (z.length:Int))=(a:Int):=by
  rw[Qt (Int.not_lt.mpr (Int.natCast_nonneg _)),Int.min_eq_left (show _<=(z.length:Int) from Int.ofNat_le.mpr h),Int.max_eq_right (Int.natCast_nonneg _)]
 simp only[show (1:Int)>0 from by decide,if_true,e]
 have c:(if (a:Int)<(z.length:Int) then ((z.length:Int)-(a:Int)+1-1) / 1 else 0).toNat=z.cps.size-a:=by
  rw[Int.ediv_one,Int.add_sub_cancel,h']
  split
  ·rw[<-Int.ofNat_sub h];rfl
  omega
 rw[c];refine List.map_congr_left λk _=>?_;omega
variable {b l a li lf nm M mi f:Addr} {H H' H2 H0 H1:Hp}
theorem c0 (S:aw H H') (h:H' b=none):H b=none:=by
 cases e:H b with
 | none=>rfl
 | some o=>rw[S b o e]at h;cases h
variable {xs vs vm ys:List V}
theorem ca {D:Addr} {o:HO} (h:H D=some (.lst xs)):bS H (upd H D o):=λb ys e=>by
 rw[ao (λz=>by rw[z,h]at e;cases e)];exact e
section
variable {α β:Type} {K:PySem.W.Frag} {J:It} {H1:Hp} {D:Addr} {σ0:St} {g:TG} {te:TE} {tt:L2.TT} {QD:Hp->Prop}
theorem cm (xs:List α) (c:α->Bool) (R:Hp->V->α->Prop) (hD:H1 D=none) (few:xs.length<=100000) (mono:∀H H' v x,bS H H'->R H v x->R H' v x)
  (go:∀i H,aw H1 H->i<xs.length->J.go i H) (stop:∀H,aw H1 H->J.stop xs.length H)
  (hs:∀i x H v H',xs[i]?=some x->aw H1 H->J.yld i H v H'->∀(G:V->Hp->Prop) (N:Hp->Prop),(c x=true->∀u H2,aw H H2->R H2 u x->G u H2)->(c x=false->∀H2,aw H H2->N H2)->g v σ0 H' λσ2 H2=>wk σ0 σ2/\tt σ2 H2 λb H3=>if b=true then te σ2 H3 G else N H3)
  (hd:∀H ys,aw H1 H->H D=some (.lst ys)->Paired (R H) ys (xs.filter c)->QD H) :
  ∃W:Nat->Nat->Hp->List V->Prop,(∃m,W 0 m (upd H1 D (.lst [])) [])/\∀i m H ys,W i m H ys->H D=some (.lst ys)/\((J.stop i H/\QD H)\/(J.go i H/\∀x H',J.yld i H x H'->g x σ0 H' λσ2 H2=>wk σ0 σ2/\tt σ2 H2 λb H3 =>
   if b=true then te σ2 H3 λv H4=>H4 D=some (.lst ys)/\ys.length<sizeLine/\∃m',m'<m/\W (i+1) m' (upd H4 D (.lst (ys++[v]))) (ys++[v]) else ∃m',m'<m/\W (i+1) m' H3 ys)):=by
 refine⟨λi m H ys=>m=xs.length-i/\i<=xs.length/\aw H1 H/\H D=some (.lst ys)/\Paired (R H) ys ((xs.take i).filter c),⟨_,rfl,QR _,aE hD,ag,by rw[List.take_zero];exact .nil⟩,?_⟩;rintro i m H ys ⟨rfl,hi,S,hy,p⟩;refine⟨hy,?_⟩;by_cases hl:i<xs.length
 ·refine .inr ⟨go i H S hl,λv H' y=>?_⟩;have ex:xs[i]?=some xs[i]:=Qc hl;have hm:xs.length-(i+1)<xs.length-i:=by omega
  refine hs i xs[i] H v H' ex S y _ _ (λct u H2 S2 r=>?_) (λcf H2 S2=>?_)
  ·have yl:ys.length<=xs.length:=by
    rw[aO p];refine QO (List.length_filter_le _ _) ?_;rw[QJ];omega
   have hy2:=S2 _ _ hy;have kt:=ca (o:=.lst (ys++[u])) hy2;refine⟨hy2,XX yl (XX few (by decide)),_,hm,rfl,hl,bK (S.trans S2) hD,ag,?_⟩;rw[List.take_succ,ex,List.filter_append];have e:(some xs[i]).toList.filter c=[xs[i]]:=by simp[ct]
   rw[e];exact cL (ay (λv x r=>mono _ _ v x kt (mono _ _ v x (aw.tups S2) r)) p) (mono _ _ u _ kt r)
  refine⟨_,hm,rfl,hl,S.trans S2,S2 _ _ hy,?_⟩;rw[List.take_succ,ex,List.filter_append];have e:(some xs[i]).toList.filter c=[]:=by simp[cf]
  rw[e,XD];exact ay (λv x r=>mono _ _ v x (aw.tups S2) r) p
 obtain rfl:i=xs.length:=by omega
 rw[Q0 (Qi _)]at p;exact .inl ⟨stop H S,hd H ys S hy p⟩
theorem c9 {a:Addr} {vs:List V} {xs:List α} {I:V->α->Prop} (c:α->Bool) (R:Hp->V->α->Prop) (hD:H1 D=none) (e:H1 a=some (.lst vs)) (pa:Paired I vs xs) (few:xs.length<=100000) (mono:∀H H' v x,bS H H'->R H v x->R H' v x)
  (hs:∀v x H,I v x->x∈xs->aw H1 H->∀(G:V->Hp->Prop) (N:Hp->Prop),(c x=true->∀u H2,aw H H2->R H2 u x->G u H2)->(c x=false->∀H2,aw H H2->N H2)->g v σ0 H λσ2 H2=>wk σ0 σ2/\tt σ2 H2 λb H3=>if b=true then te σ2 H3 G else N H3)
  (hd:∀H ys,aw H1 H->H D=some (.lst ys)->Paired (R H) ys (xs.filter c)->QD H) :
  ∃W:Nat->Nat->Hp->List V->Prop,(∃m,W 0 m (upd H1 D (.lst [])) [])/\∀i m H ys,W i m H ys->H D=some (.lst ys)/\(((Itl K a).stop i H/\QD H)\/((Itl K a).go i H/\∀x H',(Itl K a).yld i H x H'->g x σ0 H' λσ2 H2=>wk σ0 σ2/\tt σ2 H2 λb H3 =>
   if b=true then te σ2 H3 λv H4=>H4 D=some (.lst ys)/\ys.length<sizeLine/\∃m',m'<m/\W (i+1) m' (upd H4 D (.lst (ys++[v]))) (ys++[v]) else ∃m',m'<m/\W (i+1) m' H3 ys)):=by
 have l:=aO pa;refine cm xs c R hD few mono (λi H S hi=>⟨vs,vs[i],SqL.of (S _ _ e),Qc _⟩) (λH S=>⟨vs,SqL.of (S _ _ e),by omega⟩) (λi x H v H' ex S y=>?_) hd;obtain⟨e',y⟩:=y;subst e';obtain⟨v',ev,r⟩:=dq pa ex;cases ev.symm.trans (y vs (SqL.of (S _ _ e)));exact hs v x _ r (Qz ex) S
end
abbrev Tu:=Str × Str
structure Arc where
 one:Tu
 two:Tu
 mark:Int
structure Rg where
 ins:List Str
 outs:List Str
 z:Str
 arcs:List Arc
def Rg.ws (r:Rg):List Str:=r.ins++r.outs
def fq (ws:List Str) (t:Tu):Prop:=t.1∈ws/\(t.2 = "+" \/ t.2 = "-")
structure ArOk (ws:List Str) (a:Arc):Prop where
 o:fq ws a.one
 t:fq ws a.two
 ne:a.one≠a.two
 m:a.mark=0\/a.mark=1
structure RgOk (r:Rg):Prop where
 nd:r.ws.Nodup
 w1:1<=r.ws.length
 w5:r.ws.length<=5
 st:StOk r.ws.length r.z
 few:r.arcs.length<=1000
 arcs:∀a∈r.arcs,ArOk r.ws a
def TuA (H:Hp) (v:V) (t:Tu):Prop:=∃b,v=.ref b/\H b=some (.tup [.str t.1,.str t.2])
def ArA (H:Hp) (v:V) (a:Arc):Prop:=∃b v1 v2,v=.ref b/\H b=some (.tup [v1,v2,.int a.mark])/\TuA H v1 a.one/\TuA H v2 a.two
variable {v u v1 v2:V}
theorem TuA.kt {t:Tu} (k:bS H H') (h:TuA H v t):TuA H' v t:=let ⟨b,e,q⟩:=h;⟨b,e,k _ _ q⟩
theorem ArA.kt {a:Arc} (k:bS H H') (h:ArA H v a):ArA H' v a:=let ⟨b,v1,v2,e,q,h1,h2⟩:=h;⟨b,v1,v2,e,k _ _ q,h1.kt k,h2.kt k⟩
structure ArsA (H:Hp) (l:Addr) (vs:List V) (as:List Arc):Prop where
 h:H l=some (.lst vs)
 p:Paired (ArA H) vs as
variable {as as':List Arc}
theorem ArsA.same (S:aw H H') (h:ArsA H l vs as):ArsA H' l vs as:=⟨S _ _ h.h,ay (λ_ _ q=>q.kt (aw.tups S)) h.p⟩
structure RgA (H:Hp) (a li lo l:Addr) (vs:List V) (r:Rg):Prop where
 ha:H a=some (.tup [.ref li,.ref lo,.str r.z,.ref l])
 hi:H li=some (.lst (r.ins.map V.str))
 ho:H lo=some (.lst (r.outs.map V.str))
 arcs:ArsA H l vs r.arcs
variable {r:Rg}
theorem RgA.same {lo:Addr} (S:aw H H') (h:RgA H a li lo l vs r):RgA H' a li lo l vs r:=⟨S _ _ h.ha,S _ _ h.hi,S _ _ h.ho,h.arcs.same S⟩
def tk2 (t:Tu):ak:=[.inl (.inr t.1),.inl (.inr t.2)]
variable {x y t1 t2:Tu}
theorem iB (h:tk2 x=tk2 y):x=y:=by
 unfold tk2 at h;simp only[List.cons.injEq,Sum.inl.injEq,Sum.inr.injEq]at h;exact Prod.ext h.1 h.2.1
theorem TuA.tk {t:Tu} (h:TuA H (.ref b) t):bC H (tk2 t) b:=by
 obtain⟨_,e,q⟩:=h;cases e;exact⟨_,q,.cons rfl (.cons rfl .nil)⟩
theorem TuA.of {t:Tu} (h:bC H (tk2 t) b):TuA H (.ref b) t:=by
 obtain⟨vs,q,p⟩:=h
 cases p with
 | cons r1 p=>cases p with
  | cons r2 p =>
   cases p;cases r1;cases r2;exact⟨b,rfl,q⟩
variable {Q:VK}
theorem wD {K:PySem.W.Frag} {neg:Bool} (h1:TuA H u x) (h2:TuA H v y) (q:Q (.bl (if neg=true then !decide (x=y) else decide (x=y))) H):tE K neg u v H Q:=by
 obtain⟨a,e,_⟩:=id h1;subst e;obtain⟨b,e,_⟩:=id h2;subst e;refine Ab h1.tk h2.tk rfl ?_;have e:decide (tk2 x=tk2 y)=decide (x=y):=decide_eq_decide.mpr ⟨iB,λh=>by rw[h]⟩;rw[e];exact q
variable {ts:List Tu}
theorem vh (h:Paired (TuA H) vs ts):∃bs:B3,vs=bs.map V.ref/\KsA H bs (ts.map tk2):=by
 induction h with
 | nil=>exact⟨[],rfl,.nil⟩
 | @cons v t _ _ r _ ih =>
 obtain⟨bs,e,p⟩:=ih;obtain⟨b,e1,q⟩:=id r;subst e1;exact⟨b::bs,by rw[e];rfl,.cons r.tk p⟩
variable {ks us:List ak}
theorem wj {bs:B3} (h:KsA H bs ks) (hk:∀k∈ks,∃t,k=tk2 t):∃ts:List Tu,ks=ts.map tk2/\Paired (TuA H) (bs.map V.ref) ts:=by
 induction h with
 | nil=>exact⟨[],rfl,.nil⟩
 | @cons b k _ _ r _ ih =>
 obtain⟨ts,e,p⟩:=ih λk hk'=>hk k (Qj _ hk');obtain⟨t,rfl⟩:=hk k (by simp);exact⟨t::ts,by rw[e];rfl,.cons (TuA.of r) p⟩
theorem tj (ts:List Tu):pQ true (ts.map tk2):=by
 refine⟨λx hx y hy=>?_,λx hx=>?_⟩
 ·obtain⟨t,_,rfl⟩:=Qn.mp hx;obtain⟨u,_,rfl⟩:=Qn.mp hy;rfl
 obtain⟨t,_,rfl⟩:=Qn.mp hx;exact⟨_,_,rfl⟩
def leT (x y:Tu):Prop:=leF (tk2 x) (tk2 y)
structure WtOk (P:Tu->Prop) (ts:List Tu):Prop where
 nd:ts.Nodup
 mem:∀x,x∈ts↔P x
 so:ts.Pairwise leT
def qm:Sp:=λvs H Q _=>∃(l:Addr) (as:List V) (r:Rg),vs=[.ref l]/\ArsA H l as r.arcs/\RgOk r/\∀p vs ts H',aw H H'->H p=none->H' p=some (.lst vs)->Paired (TuA H') vs ts->WtOk (λt=>∃a∈r.arcs,a.two=t) ts->Q (.ref p) H'
variable {α β:Type}
theorem bR (xs:List α):xs.filter (λ_=>true)=xs:=List.filter_eq_self.mpr (by simp)
theorem d5 {α β γ:Type} {F:α->γ->Prop} {f:β->γ}:∀{xs:List α} {ys:List β},Paired (λx y=>F x (f y)) xs ys->Paired F xs (ys.map f)
 | _,_,.nil=>.nil
 | _,_,.cons h t=>.cons h (d5 t)
theorem dE {α β:Type} {f:β->α}:∀{xs:List α} {ys:List β},Paired (λx y=>x=f y) xs ys->xs=ys.map f
 | _,_,.nil=>rfl
 | _,_,.cons h t=>by rw[h,dE t];rfl
theorem ua (ok:RgOk r) (nd:us.Nodup) (h:∀x∈us,x∈(r.arcs.map (·.two)).map tk2):us.length<64:=by
 have:=Bf.di us ((r.ws.map λn=>tk2 (n, "+"))++(r.ws.map λn=>tk2 (n, "-"))) nd λx hx=>by
  have hx:=h x hx;rw[Xy]at hx;obtain⟨a,ha,rfl⟩:=Qn.mp hx;obtain⟨h1,h2⟩:=(ok.arcs a ha).t;refine Qp.mpr ?_;rcases h2 with e|e
  ·exact .inl (Qn.mpr ⟨_,h1,by show tk2 _=tk2 _;rw[<-e]⟩)
  exact .inr (Qn.mpr ⟨_,h1,by show tk2 _=tk2 _;rw[<-e]⟩)
 rw[Qg,Qb,Qb]at this;have:=ok.w5;omega
variable {U:St} {ta:TA}
theorem mD {K:PySem.W.Frag} (q:ta U H λvs H1=>∃(ks:List ak) (b:Bool),gK K H1 vs ks/\pQ b ks/\∀(p:Addr) (bs':B3) (us:List ak),H1 p=none->KsA H1 bs' us->us.Nodup->(∀x,x∈us↔x∈ks)->us.Pairwise leF->Q (.ref p) (upd H1 p (.lst (bs'.map V.ref)))):gU K ta U H Q:=q
section
theorem eX:FnScope ["arcs"] ["arcs"] (am (top 20)):=by fin2
theorem tP {f:Addr} {fd:FuncData} (Fu:Fun K "waiting_turns" "waiting_turns" (top 20) f fd) (T:Txt K mg TT):FnOk P w K mg base CX0 2 f fd ["arcs"] qm:=by
 have S:=eX;refine Fu.ok S (by room) (λcdv A outer s H vs Q E hr h=>?_);obtain⟨l,as,r,rfl,at_,ok,k⟩:=h;have hu:=gz hr;refine⟨_,(aK (aA (ke rfl hu (by rfl) T.n_sorted (by rfl) T.n_set (aa (fB "arc" [] (cC (pv 0)) (λ_ _ _ _=>(au (eN (K:=K) rfl) (pv 0) af))) ad)))),?_⟩;x_go;lk;refine mD (i_cons (cb (s_list (bw rfl ⟨l,rfl,⟨_,SqL.of at_.h⟩,λD hD=>?_⟩))));refine c9 (λ_=>true) (λH v (a:Arc)=>TuA H v a.two) hD at_.h at_.p (QO ok.few (by decide)) (λH H' v x k h=>h.kt k) (λv x H' ia mx S' G N hG _=>?_) (λH' ys S' hy p=>?_)
 ·obtain⟨b,v1,v2,rfl,hb,t1,t2⟩:=ia.kt (aw.tups S');refine aZ ⟨trivial,i_yes (iteT ?_)⟩;lk;exact hG rfl _ H' (aw.refl _) t2
 rw[bR]at p;have p:=d5 (f:=λa:Arc=>a.two) p;obtain⟨bs,e,ka⟩:=vh p;subst e;refine i_nil ⟨_,true,⟨D,bs,rfl,SqL.of hy,ka,λk hk=>?_,λus nd h=>Nat.lt_trans (ua ok nd h) (by decide)⟩,tj _,λq bs' us hq ka' nd mm so=>?_⟩
 ·obtain⟨t,_,rfl⟩:=Qn.mp hk;rfl
 obtain⟨ts,e,pt⟩:=wj ka' λk hk=>by obtain⟨t,_,e⟩:=Qn.mp ((mm k).mp hk);exact⟨t,e.symm⟩
 subst e;have S4:=aE (o:=.lst (bs'.map V.ref)) hq;refine k q _ ts _ (S'.trans S4) (c0 S' hq) ag (ay (λ_ _ h=>h.kt (aw.tups S4)) pt) ⟨(Q1.mp nd).imp λh e=>h (by rw[e]),λx=>?_,(Q1.mp so).imp λh=>h⟩
 constructor
 ·intro hx;obtain⟨t,ht,e⟩:=Qn.mp ((mm _).mp (Qn.mpr ⟨x,hx,rfl⟩));obtain⟨a,ha,e2⟩:=Qn.mp ht;exact⟨a,ha,by rw[e2];exact iB e⟩
 rintro⟨a,ha,rfl⟩;obtain⟨t,ht,e⟩:=Qn.mp ((mm (tk2 a.two)).mpr (Qn.mpr ⟨_,Qn.mpr ⟨a,ha,rfl⟩,rfl⟩));rw[<-iB e];exact ht
end
structure Low (z:Str):Prop where
 l1:1<=z.length
 l8:z.length<=8
 low:∀c∈z.cps.toList,97<=c/\c<=122
def qp:Sp:=λvs H Q _=>∃a xs,vs=[.ref a]/\H a=some (.tup xs)/\xs.length<=1000/\Q (.bl (decide (xs.length=2))) H
def qr:Sp:=λvs H Q _=>∃z,vs=[.str z]/\Low z/\∀H',aw H H'->Q (.bl true) H'
theorem nU {r r':R2} {ta tb tc:TE} (q:ta U H λx H1=>tb U H1 λy H2=>r x y H2 λz H3=>∃k,z=.bl k/\(if k=true then tc U H3 λw' H4=>r' y w' H4 Q else Q (.bl false) H3)):lH r r' ta tb tc U H Q:=q
theorem wg {c:Nat} (h:97<=c/\c<=122):(!(Builtin.Str.occurrences (Str.ofString "abcdefghijklmnopqrstuvwxyz") (⟨#[c]⟩:Str) 0 (Str.ofString "abcdefghijklmnopqrstuvwxyz").length 1).isEmpty)=true:=by
 have all:∀k:Fin 26,(!(Builtin.Str.occurrences (Str.ofString "abcdefghijklmnopqrstuvwxyz") (⟨#[97+k.val]⟩:Str) 0 (Str.ofString "abcdefghijklmnopqrstuvwxyz").length 1).isEmpty)=true:=by decide +kernel
 have q:=all ⟨c-97,by omega⟩;have e:97+(c-97)=c:=by omega
 simpa only[e] using q
def jJ:Sp:=λvs H Q _=>∃(l:Addr) (ts:List Str),vs=[.ref l]/\H l=some (.lst (ts.map V.str))/\ts.length<=100/\(∀z∈ts,Low z)/\∀H',aw H H'->Q (.bl (decide ts.Nodup)) H'
theorem wC {K:PySem.W.Frag} (q:ta U H λvs H1=>∃(l:Addr) (ts:List Str),vs=[.ref l]/\SqL K H1 l (ts.map V.str)/\ts.length<1000/\Q (.int (oC ts)) H1):mR K ta U H Q:=q
def uC:Sp:=λvs H Q _=>∃(z:Str) (m:Nat),vs=[.str z,.int (m:Int)]/\m<=11/\StOk m z/\∀H',aw H H'->Q (.bl true) H'
def mU:Sp:=λvs H Q _=>∃(i:Int),vs=[.int i]/\Q (.bl true) H
def ng:Sp:=λvs H Q _=>∃(i n:Int),vs=[.int i,.int n]/\Q (.bl (decide (0<=i/\i<n))) H
theorem rO {K:PySem.W.Frag}:PySem.W.kitOne K (.type "int") (.type "bool")=some false:=by with_unfolding_all rfl
section
theorem lO:FnScope ["thing"] ["thing"] (am (top 8)):=by fin2
variable {fd:FuncData} {f:Addr}
theorem tR (Fu:Fun K "is_pair" "is_pair" (top 8) f fd) (T:Txt K mg TT):FnOk P w K mg base CX0 1 f fd ["thing"] qp:=by
 have S:=lO;refine Fu.ok S (by room) (λcdv A outer s H vs Q E hr h=>?_);obtain⟨a,xs,rfl,ha,hx,q⟩:=h;refine⟨_,(aK (aA (bW (ah aC (by rfl) T.n_isinstance Qr (aa (pv 0) (aa (bg (v:=.ty "tuple") (by rfl) T.n_tuple X1 rfl) ad ae) ae)) (b9 (bj cA (ah av (by rfl) T.n_len QM (aa (pv 0) ad ae)) af (aH _)))))),?_⟩;x_go;lk;refine⟨_,_,_,true,rfl,.tup ha,be _,?_⟩;refine⟨_,rfl,iteT ?_⟩;lk;refine⟨a,xs,rfl,.inr (SqT.of ha),?_⟩;lk
 have e:decide (V.int ↑xs.length=V.int 2)=decide (xs.length=2):=by
  rw[Bool.eq_iff_iff,decide_eq_true_iff,decide_eq_true_iff]
  constructor
  ·intro h;injection h with h;omega
  intro h;rw[h];rfl
 rw[e];exact q
theorem lP:FnScope ["thing"] ["thing"] (am (top 7)):=by fin2
theorem tU (Fu:Fun K "is_name" "is_name" (top 7) f fd) (T:Txt K mg TT):FnOk P w K mg base CX0 1 f fd ["thing"] qr:=by
 have S:=lP;refine Fu.ok S (by room) (λcdv A outer s H vs Q E hr h=>?_);obtain⟨z,rfl,lz,q⟩:=h;obtain⟨_,gLT⟩:=T.lETTERS;obtain⟨_,gML⟩:=T.mLETTERS
 refine⟨_,(pss_cons (ps_if (PW.pt (cF (br (bp (ah aC (by rfl) T.n_isinstance Qr (aa (pv 0) (aa (bg (v:=.ty "str") (by rfl) T.n_str Xw rfl) ad ae) ae)))) (bZ (br (qF nC nC af (ah eQ (by rfl) T.n_len QM (aa (pv 0) ad ae)) (eG (v:=.int 8) (by rfl) gML ⟨_,rfl⟩)))))) (aK (aA cz)) pss_nil)
  (aK (aA (ah (dy rfl) (by rfl) T.n_all PyProof.Rows.boot_all (aa (fB "sign" [] (qK (pv 0)) (λ_ _ _ _=>(bj oV (pv 0) (eG (v:=.str "abcdefghijklmnopqrstuvwxyz") (by rfl) gLT ⟨_,rfl⟩) rfl))) ad))))),?_⟩
 x_go;lk;refine⟨_,_,_,_,rfl,TyOf.str z,be "str", ?_⟩;refine⟨_,rfl,cu ?_⟩;have big:1000<sizeLine:=by decide
 have l1:=lz.l1;have l8:=lz.l8;lk;refine nU ?_;lk;refine⟨_,rfl,by omega,?_⟩;lk;refine ifT (QA (by omega)) ?_;lk;refine ifF (by rw[QA (by omega)];rfl) ?_;lk;refine cb ?_;lk;intro D hD;refine kX (λn H' ys=>aw H H'/\H' D=some (.lst ys)/\ys=(List.replicate n true).map V.bl) ⟨aE hD,ag,rfl⟩ (λn H' ys p=>p.2.1) (λn H' ys hn p=>?_) (λH' ys p=>?_)
 ·obtain⟨Sm,hd,rfl⟩:=p;refine aZ ⟨trivial,i_yes (iteT ?_)⟩;refine i_op (bw rfl (i_c ⟨_,_,rfl,rfl,?_⟩));refine dR.mk hd hn (by rw[Qb,List.length_replicate];have:z.cps.size=z.length:=rfl;omega) ⟨bK Sm hD,ag,?_⟩
  have hc:=wg (c:=z.cps.getD n 0) (by
   have e:z.cps.getD n 0=z.cps[n]:=by simp[Array.getD,hn]
   rw[e]
   exact lz.low _ (by simp))
  rw[List.replicate_succ',QP];exact congrArg (λb=>List.map V.bl (List.replicate n true)++[V.bl b]) hc
 obtain⟨Sm,hd,rfl⟩:=p;refine i_nil ⟨_,_,rfl,SqL.of hd,?_⟩;have e:(List.replicate z.cps.size true).all id=true:=by simp
 rw[e];exact q H' Sm
theorem dM:FnScope ["things"] ["things"] (am (top 12)):=by fin2
theorem oZ (Fu:Fun K "are_unlike_names" "are_unlike_names" (top 12) f fd) (T:Txt K mg TT) (f_is_name:Fn P w K mg base "is_name" ["thing"] 1 qr):FnOk P w K mg base CX0 2 f fd ["things"] jJ:=by
 have S:=dM;refine Fu.ok S (by room) (λcdv A outer s H vs Q E hr h=>?_);obtain⟨l,ts,rfl,hl,sz,low,q⟩:=h;refine⟨_,(aK (aA (bW (ah (dy rfl) (by rfl) T.n_all PyProof.Rows.boot_all (aa (fB "thing" [] (cC (pv 0)) (λ_ _ _ _=>(aR f_is_name hr (aa (pv 0) ad ae)))) ad)) (b9 (bj cA (oS rfl (by rfl) T.n_len (by rfl) T.n_set (aa (pv 0) ad ae)) (ah av (by rfl) T.n_len QM (aa (pv 0) ad ae)) (aH _)))))),?_⟩;x_go;lk;refine cb ?_;lk;refine⟨l,rfl,⟨_,SqL.of hl⟩,λD hD=>?_⟩;refine pM (xs:=ts.map V.str) (λn H' ys=>aw H H'/\H' D=some (.lst ys)/\ys=(List.replicate n true).map V.bl) ⟨aE hD,ag,rfl⟩ (λn H' ys p=>⟨p.2.1,SqL.of (p.1 _ _ hl)⟩) (λn x H' ys e p=>?_) (λH' ys p=>?_)
 ·obtain⟨Sm,hd,rfl⟩:=p;have hn:n<(ts.map V.str).length:=(Ql.mp e).1;rw[QB]at e
  obtain⟨z,hz,rfl⟩:∃z,ts[n]?=some z/\V.str z=x:=by
   cases h:ts[n]? with
   | none=>rw[h]at e;cases e
   | some z=>rw[h]at e;exact⟨z,rfl,QL e⟩
  refine aZ ⟨trivial,i_yes (iteT ?_)⟩;refine i_call (i_cons (bw rfl (i_nil ⟨z,rfl,low z (Qz hz),λH2 S2=>?_⟩)));refine dR.mk (S2 _ _ hd) hn (by rw[Qb,List.length_replicate];rw[Qb]at hn;omega) ⟨bK (Sm.trans S2) hD,ag,?_⟩;rw[List.replicate_succ',QP];rfl
 obtain⟨Sm,hd,rfl⟩:=p;refine i_nil ⟨_,_,rfl,SqL.of hd,?_⟩;have e:(List.replicate (ts.map V.str).length true).all id=true:=by simp
 rw[e];have hl':=Sm _ _ hl;refine⟨_,rfl,iteT ?_⟩;lk;refine wC ?_;lk;refine⟨l,ts,rfl,SqL.of hl',by omega,?_⟩;lk
 have e2:decide (V.int (oC ts)=V.int ((ts.map V.str).length:Nat))=decide ts.Nodup:=by
  rw[Bool.eq_iff_iff,decide_eq_true_iff,decide_eq_true_iff,<-pW,Qb]
  constructor
  ·intro h;injection h with h;omega
  intro h;rw[h]
 rw[e2];exact q H' Sm
theorem oK:FnScope ["thing", "many"] ["thing", "many"] (am (top 11)):=by fin2
theorem wb (Fu:Fun K "is_row" "is_row" (top 11) f fd) (T:Txt K mg TT):FnOk P w K mg base CX0 1 f fd ["thing", "many"] uC:=by
 have S:=oK;refine Fu.ok S (by room) (λcdv A outer s H vs Q E hr h=>?_);obtain⟨z,m,rfl,hm,st,k⟩:=h
 refine⟨_,(pss_cons (ps_if (PW.pt (cF (br (bp (ah aC (by rfl) T.n_isinstance Qr (aa (pv 0) (aa (bg (v:=.ty "str") (by rfl) T.n_str Xw rfl) ad ae) ae)))) (bZ (aP du (ah eQ (by rfl) T.n_len QM (aa (pv 0) ad ae)) (pv 1) (aH _))))) (aK (aA cz)) pss_nil)
  (aK (aA (ah (dy rfl) (by rfl) T.n_all PyProof.Rows.boot_all (aa (fB "sign" [] (qK (pv 0)) (λ_ _ _ _=>(bj (g_ T.tab) (pv 0) (eG (v:=.ref TT) (by rfl) T.tURNED rfl) rfl))) ad))))),?_⟩
 x_go;lk;refine⟨_,_,_,_,rfl,TyOf.str z,be "str", ?_⟩;refine⟨_,rfl,cu ?_⟩;have hz:z.length=m:=st.len;have big:1000<sizeLine:=by decide
 lk;refine⟨_,rfl,(by omega),?_⟩;lk;refine kP (λh=>?_) (λ_=>?_)
 ·exfalso;have e:(V.int ↑z.length)=V.int (m:Int):=congrArg (λ(n:Nat)=>V.int (n:Int)) hz;simp[e]at h
 lk;refine cb ?_;lk;intro D hD;refine kX (λn H' ys=>aw H H'/\H' D=some (.lst ys)/\ys=(List.replicate n true).map V.bl) ⟨aE hD,ag,rfl⟩ (λn H' ys p=>p.2.1) (λn H' ys hn p=>?_) (λH' ys p=>?_)
 ·obtain⟨Sm,hd,rfl⟩:=p;refine aZ ⟨trivial,i_yes (iteT ?_)⟩;refine i_op (bw rfl (i_c ⟨_,rfl,rfl,?_⟩));refine dR.mk hd hn (by rw[Qb,List.length_replicate];have:z.cps.size=z.length:=rfl;omega) ⟨bK Sm hD,ag,?_⟩
  have hc:PyProof.Rows.KTD.inKeys (⟨#[z.cps.getD n 0]⟩:Str) [(("0" : Str),PyProof.Rows.KTD.Dat.flat (PyData.str "1")),("1", .flat (.str "0"))]=true:=by
   have:z.cps.getD n 0=48\/z.cps.getD n 0=49:=by
    have e:z.cps.getD n 0=z.cps[n]:=by simp[Array.getD,hn]
    rw[e];exact st.signs _ (by simp)
   rcases this with e|e
   ·rw[e];decide +kernel
   rw[e];decide +kernel
  rw[List.replicate_succ',QP];exact congrArg (λb=>List.map V.bl (List.replicate n true)++[V.bl b]) hc
 obtain⟨Sm,hd,rfl⟩:=p;refine i_nil ⟨_,_,rfl,SqL.of hd,?_⟩;have e:(List.replicate z.cps.size true).all id=true:=by simp
 rw[e];exact k H' Sm
theorem jX:FnScope ["thing"] ["thing"] (am (top 9)):=by fin2
theorem rf (Fu:Fun K "is_whole" "is_whole" (top 9) f fd) (T:Txt K mg TT):FnOk P w K mg base CX0 1 f fd ["thing"] mU:=by
 have S:=jX;refine Fu.ok S (by room) (λcdv A outer s H vs Q E hr h=>?_);obtain⟨i,rfl,q⟩:=h;refine⟨_,(aK (aA (bW (ah aC (by rfl) T.n_isinstance Qr (aa (pv 0) (aa (bg (v:=.ty "int") (by rfl) T.n_int XU rfl) ad ae) ae)) (b9 (qM (ah aC (by rfl) T.n_isinstance Qr (aa (pv 0) (aa (bg (v:=.ty "bool") (by rfl) T.n_bool PyProof.Rows.boot_bool rfl) ad ae) ae))))))),?_⟩;x_go;lk;refine⟨_,_,_,_,rfl,TyOf.int i,be "int", _,rfl,iteT ?_⟩;lk;exact⟨_,_,_,_,rfl,TyOf.int i,rO,_,rfl,q⟩
theorem dZ:FnScope ["thing", "bound"] ["thing", "bound"] (am (top 10)):=by fin2
theorem rC (Fu:Fun K "is_number_below" "is_number_below" (top 10) f fd) (T:Txt K mg TT) (f_is_whole:Fn P w K mg base "is_whole" ["thing"] 1 mU):FnOk P w K mg base CX0 2 f fd ["thing", "bound"] ng:=by
 have S:=dZ;refine Fu.ok S (by room) (λcdv A outer s H vs Q E hr h=>?_);obtain⟨i,n,rfl,q⟩:=h;refine⟨_,(aK (aA (bW (aR f_is_whole hr (aa (pv 0) ad ae)) (b9 (qR nC qW af (pv 0) (pv 1)))))),?_⟩;x_go;lk;refine⟨i,rfl,_,rfl,iteT ?_⟩;refine nU ?_;lk;by_cases c:0<=i
 ·refine ifT (QA c) ?_;lk;have e:decide (0<=i/\i<n)=decide (i<n):=by simp[c]
  rw[e]at q;exact q
 refine ifF (QE c) ?_;have e:decide (0<=i/\i<n)=false:=QE λh=>c h.1;rw[e]at q;exact q
end
open Classical in
abbrev Pr:=Tu × Tu
def PrA (H:Hp) (v:V) (p:Pr):Prop:=∃b v1 v2,v=.ref b/\H b=some (.tup [v1,v2])/\TuA H v1 p.1/\TuA H v2 p.2
variable {p:Pr}
theorem PrA.kt (k:bS H H') (h:PrA H v p):PrA H' v p:=let ⟨b,v1,v2,e,q,h1,h2⟩:=h;⟨b,v1,v2,e,k _ _ q,h1.kt k,h2.kt k⟩
def ku (t:Tu):List Key:=[.inr t.1,.inr t.2]
def tkR (p:Pr):ak:=[.inr (ku p.1),.inr (ku p.2)]
theorem rL (h:ku x=ku y):x=y:=by
 unfold ku at h;simp only[List.cons.injEq,Sum.inr.injEq]at h;exact Prod.ext h.1 h.2.1
theorem fN {x y:Pr} (h:tkR x=tkR y):x=y:=by
 unfold tkR at h;simp only[List.cons.injEq,Sum.inr.injEq]at h;exact Prod.ext (rL h.1) (rL h.2.1)
theorem PrA.tk (h:PrA H (.ref b) p):bC H (tkR p) b:=by
 obtain⟨_,v1,v2,e,q,⟨c,e1,h1⟩,d,e2,h2⟩:=h;cases e;subst e1 e2;exact⟨_,q,.cons ⟨c,rfl,h1⟩ (.cons ⟨d,rfl,h2⟩ .nil)⟩
theorem PrA.of (h:bC H (tkR p) b):PrA H (.ref b) p:=by
 obtain⟨vs,q,pr⟩:=h
 cases pr with
 | cons r1 pr=>cases pr with
  | cons r2 pr =>
   cases pr;obtain⟨c,e1,h1⟩:=r1;obtain⟨d,e2,h2⟩:=r2;subst e1 e2;exact⟨b,_,_,rfl,q,⟨c,rfl,h1⟩,d,rfl,h2⟩
structure PrOk (ws:List Str) (p:Pr):Prop where
 o:fq ws p.1
 t:fq ws p.2
 ne:p.1≠p.2
structure MkD (H:Hp) (a:Addr) (ws:List Str) (kvs:List (ak × V)) (n:Nat):Prop where
 h:H a=some (.dT kvs)
 l:kvs.length<=n
 ok:∀kv∈kvs,∃p:Pr,kv.1=tkR p/\PrOk ws p/\∃m:Int,kv.2=.int m/\(m=0\/m=1)
 nd:(kvs.map (·.1)).Nodup
variable {kvs:List (ak × V)}
theorem rG {k:ak} {kv:ak × V} (h:kv∈bD kvs k v):kv∈kvs\/kv=(k,v):=by
 unfold bD at h
 split at h
 ·obtain⟨x,hx,e⟩:=Qn.mp h;by_cases c:x.1=k
  ·rw[Qu c]at e;exact .inr (by rw[<-e,c])
  rw[Qt c]at e;exact .inl (e▸hx)
 rcases Qp.mp h with h|h
 ·exact .inl h
 exact .inr (QG.mp h)
theorem dH (kvs:List (ak × V)) (k:ak) (v:V):(k∈kvs.map (·.1)/\(bD kvs k v).map (·.1)=kvs.map (·.1))\/(k∉kvs.map (·.1)/\(bD kvs k v).map (·.1)=kvs.map (·.1)++[k]):=by
 cases e:bJ kvs k with
 | none=>exact .inr ⟨jy e,by rw[qE v e,QP];rfl⟩
 | some u =>
 refine .inl ⟨sS e,?_⟩;unfold bD;rw[cr,e];rw[Qu (show (some u).isSome=true from rfl),Xy];refine List.map_congr_left λx _=>?_;show (if x.1=k then (x.1,v) else x).1=x.1
 split <;> rfl
variable {m:Int}
theorem MkD.put {ws:List Str} {n:Nat} (d:MkD H a ws kvs n) (ok:PrOk ws p) (hm:m=0\/m=1) (e:H' a=some (.dT (bD kvs (tkR p) (.int m)))):MkD H' a ws (bD kvs (tkR p) (.int m)) (n+1):=by
 refine⟨e,QO (cN _ _ _) (Nat.succ_le_succ d.l),λkv h=>?_,?_⟩
 ·rcases rG h with h|rfl
  ·exact d.ok kv h
  exact⟨p,rfl,ok,m,rfl,hm⟩
 rcases dH kvs (tkR p) (.int m) with⟨_,e⟩|⟨c,e⟩
 ·rw[e];exact d.nd
 rw[e];exact nJ d.nd c
theorem MkD.set {ws:List Str} (d:MkD H a ws kvs n) (hp:tkR p∈kvs.map (·.1)) (ok:PrOk ws p) (hm:m=0\/m=1) (e:H' a=some (.dT (bD kvs (tkR p) (.int m)))):MkD H' a ws (bD kvs (tkR p) (.int m)) n:=by
 have q:=d.put ok hm e;refine⟨q.h,?_,q.ok,q.nd⟩;rcases dH kvs (tkR p) (.int m) with⟨_,e⟩|⟨c,_⟩
 ·have:=congrArg List.length e;rw[Qb,Qb]at this;rw[this];exact d.l
 exact absurd hp c
theorem MkD.same {ws:List Str} (d:MkD H a ws kvs n) (e:∀o,H a=some o->H' a=some o):MkD H' a ws kvs n:=⟨e _ d.h,d.l,d.ok,d.nd⟩
theorem MkD.val {ws:List Str} (d:MkD H a ws kvs n) (h:tkR p∈kvs.map (·.1)):PrOk ws p/\∃m:Int,bJ kvs (tkR p)=some (.int m)/\(m=0\/m=1):=by
 cases e:bJ kvs (tkR p) with
 | none=>exact absurd h (jy e)
 | some v =>
 unfold bJ at e;obtain⟨kv,hf,rfl⟩:=Option.map_eq_some_iff.mp e;have h1:=List.find?_some hf;obtain⟨p',e1,ok,m,e2,hm⟩:=d.ok kv (List.mem_of_find?_eq_some hf);have h1:kv.1=tkR p:=XR h1;cases fN (e1.symm.trans h1);exact⟨ok,m,by rw[e2],hm⟩
theorem fD:∀(ns:List Str),Paired (λv n=>v=V.str n) (ns.map V.str) ns
 | []=>.nil
 | _::ns=>.cons rfl (fD ns)
theorem gy {D:Addr} {o:HO} (h:H D=some (.dT kvs)):bS H (upd H D o):=λb ys e=>by
 rw[ao (λz=>by rw[z,h]at e;cases e)];exact e
theorem bit (b:Bool):(if b=true then (1:Int) else 0)=0\/(if b=true then (1:Int) else 0)=1:=by cases b <;> simp
def lr (r:Rg):Prop:=∀t,fq r.ws t->∃a∈r.arcs,a.two=t
theorem wm {bs:B3} (h:KsA H bs ks) (hk:∀k∈ks,∃p,k=tkR p):∃ps:List Pr,ks=ps.map tkR/\Paired (PrA H) (bs.map V.ref) ps:=by
 induction h with
 | nil=>exact⟨[],rfl,.nil⟩
 | @cons b k _ _ r _ ih =>
 obtain⟨ts,e,p⟩:=ih λk hk'=>hk k (Qj _ hk');obtain⟨t,rfl⟩:=hk k (by simp);exact⟨t::ts,by rw[e];rfl,.cons (PrA.of r) p⟩
theorem MkD.keys {ws:List Str} (d:MkD H a ws kvs n):∀k∈kvs.map (·.1),∃p,k=tkR p:=λk hk=>by
 obtain⟨kv,h,rfl⟩:=Qn.mp hk;obtain⟨p,e,_⟩:=d.ok kv h;exact⟨p,e⟩
theorem MkD.shp {ws:List Str} (d:MkD H a ws kvs n):pQ false (kvs.map (·.1)):=by
 refine⟨λx hx y hy=>?_,λx hx=>?_⟩
 ·obtain⟨p,rfl⟩:=d.keys x hx;obtain⟨q,rfl⟩:=d.keys y hy;rfl
 obtain⟨p,rfl⟩:=d.keys x hx;exact⟨_,_,rfl⟩
theorem MkD.sort {K:PySem.W.Frag} {ws:List Str} (d:MkD H a ws kvs n) (hn:n<=190) (q:∀p vs (ps:List Pr),H p=none->Paired (PrA H) vs ps->(ps.map tkR).Perm (kvs.map (·.1))->(ps.map tkR).Pairwise leF->Q (.ref p) (upd H p (.lst vs))):lT K [.ref a] H Q:=by
 refine⟨a,_,false,rfl,.inr ⟨kvs,.inl d.h,rfl⟩,d.shp,by rw[Qb];have:=d.l;omega,λp bs ks hp ka pm so=>?_⟩;obtain⟨ps,rfl,pp⟩:=wm ka λk hk=>d.keys k (pm.mem_iff.mp hk);exact q p _ ps hp pp pm so
def kz (kvs:List (ak × V)) (p:Pr):Int:=match bJ kvs (tkR p) with
 | some (.int m)=>m
 | _=>0
def vX (z:Str):Str:=if z = "+" then "-" else "+"
theorem vW {ws:List Str} {t:Tu} (h:fq ws t):fq ws (t.1,vX t.2)/\((t.1,vX t.2):Tu)≠t:=by
 unfold vX;rcases h.2 with e|e
 ·rw[Qu e];exact⟨⟨h.1,.inr rfl⟩,λz=>by have z:("-" : Str)=t.2:=congrArg Prod.snd z;rw[e]at z;exact absurd z (by decide +kernel)⟩
 rw[Qt (by rw[e];decide +kernel)];exact⟨⟨h.1,.inl rfl⟩,λz=>by have z:("+" : Str)=t.2:=congrArg Prod.snd z;rw[e]at z;exact absurd z (by decide +kernel)⟩
theorem ky {ws:List Str} (d:MkD H a ws kvs n) (h:tkR p∈kvs.map (·.1)):PrOk ws p/\bJ kvs (tkR p)=some (.int (kz kvs p))/\(kz kvs p=0\/kz kvs p=1):=by
 obtain⟨ok,m,e,hm⟩:=d.val h;have:kz kvs p=m:=by unfold kz;rw[e]
 rw[this];exact⟨ok,e,hm⟩
def ir (kvs:List (ak × V)) (p:Pr):Arc:=⟨p.1,p.2,kz kvs p⟩
def bI (ws:List Str):List Tu:=(ws.map λn=>((n, "+"):Tu))++(ws.map λn=>((n, "-"):Tu))
theorem bP {ws:List Str} {t:Tu}:t∈bI ws↔fq ws t:=by
 unfold bI fq;rw[Qp,Qn,Qn]
 constructor
 ·rintro(⟨n,h,rfl⟩|⟨n,h,rfl⟩)
  ·exact⟨h,.inl rfl⟩
  exact⟨h,.inr rfl⟩
 rintro⟨h,e|e⟩
 ·exact .inl ⟨t.1,h,Prod.ext rfl e.symm⟩
 exact .inr ⟨t.1,h,Prod.ext rfl e.symm⟩
theorem ce (ns:List Str):(ns.map V.str).all cv=true:=by
 rw[Xg];intro x hx;obtain⟨n,_,rfl⟩:=Qn.mp hx;rfl
theorem fU {nm:Str}:∀{ns:List Str},inV (.str nm) (ns.map V.str)=true↔nm∈ns
 | []=>by simp[inV]
 | n::ns=>by
  have ih:=fU (nm:=nm) (ns:=ns);unfold inV at ih ⊢;rw[Qo,List.any_cons,Bool.or_eq_true,ih,Qw];have:eqV (.str n) (.str nm)=(n==nm):=rfl;rw[this,beq_iff_eq];exact⟨λh=>h.imp Eq.symm id,λh=>h.imp Eq.symm id⟩
structure RgX (r:Rg):Prop where
 low:∀n∈r.ws,Low n
 o1:1<=r.outs.length
 few:r.arcs.length<=190
 nd:(r.arcs.map λa=>((a.one,a.two):Tu × Tu)).Nodup
def prA (a:Arc):Tu × Tu:=(a.one,a.two)
theorem ve (ok:RgOk r) (w:WtOk (λt=>∃a∈r.arcs,a.two=t) ts) {t:Tu} (h:t∈ts):fq r.ws t:=by
 obtain⟨a,ha,rfl⟩:=(w.mem t).mp h;exact(ok.arcs a ha).t
theorem j_ {f:α->β} (inj:∀{x y},f x=f y->x=y) {xs ys:List α} (h:(xs.map f).Perm (ys.map f)):xs.Perm ys:=by
 obtain⟨zs,pz,ez⟩:∃zs:List α,zs.Perm ys/\zs.map f=xs.map f:=perm_lift h
 have:zs=xs:=by
  have go:∀(as bs:List α),as.map f=bs.map f->as=bs:=λas=>by
   induction as with
   | nil=>intro bs e;cases bs with
    | nil=>rfl
    | cons b bs=>cases e
   | cons a as ih=>intro bs e;cases bs with
    | nil=>cases e
    | cons b bs =>
     rw[Qo,Qo]at e;injection e with e1 e2;rw[inj e1,ih bs e2]
  exact go _ _ ez
 rw[<-this];exact pz
where
 perm_lift {α β:Type} {f:α->β} {us:List β} {ys:List α} (h:us.Perm (ys.map f)):∃zs:List α,zs.Perm ys/\zs.map f=us:=by
  generalize e:ys.map f=vs at h
  induction h generalizing ys with
  | nil=>cases ys with
   | nil=>exact⟨[],.refl _,rfl⟩
   | cons y ys=>cases e
  | cons x _ ih=>cases ys with
   | nil=>cases e
   | cons y ys =>
    rw[Qo]at e;injection e with e1 e2;obtain⟨zs,p,q⟩:=ih e2;exact⟨y::zs,p.cons y,by rw[Qo,q,e1]⟩
  | swap x y l=>cases ys with
   | nil=>cases e
   | cons a ys=>cases ys with
    | nil=>cases e
    | cons b ys =>
     rw[Qo,Qo]at e;injection e with e1 e2;injection e2 with e2 e3;exact⟨b::a::ys,List.Perm.swap ..,by rw[Qo,Qo,e1,e2,e3]⟩
  | trans _ _ ih1 ih2 =>
  obtain⟨zs,p,q⟩:=ih2 e;obtain⟨ws,p',q'⟩:=ih1 q;exact⟨ws,p'.trans p,q'⟩
def tkA (a:Arc):ak:=[.inr (ku a.one),.inr (ku a.two),.inl (.inl a.mark)]
theorem jB {x y:Arc} (h:Tm.flat (tkA x)=Tm.flat (tkA y)):x=y:=by
 have h:([Sum.inr x.one.1,Sum.inr x.one.2,Sum.inr x.two.1,Sum.inr x.two.2,Sum.inl x.mark]:List Key)=[Sum.inr y.one.1,Sum.inr y.one.2,Sum.inr y.two.1,Sum.inr y.two.2,Sum.inl y.mark]:=h;simp only[List.cons.injEq,Sum.inr.injEq,Sum.inl.injEq,and_true]at h;obtain⟨h1,h2,h3,h4,h5⟩:=h;cases x;cases y;simp only[Arc.mk.injEq];exact⟨Prod.ext h1 h2,Prod.ext h3 h4,h5⟩
theorem ArA.tk {a:Arc} (h:ArA H (.ref b) a):bC H (tkA a) b:=by
 obtain⟨_,v1,v2,e,q,⟨c,e1,h1⟩,d,e2,h2⟩:=h;cases e;subst e1 e2;exact⟨_,q,.cons ⟨c,rfl,h1⟩ (.cons ⟨d,rfl,h2⟩ (.cons rfl .nil))⟩
theorem ArA.of {a:Arc} (h:bC H (tkA a) b):ArA H (.ref b) a:=by
 obtain⟨vs,q,pr⟩:=h
 cases pr with
 | cons r1 pr=>cases pr with
  | cons r2 pr=>cases pr with
   | cons r3 pr =>
    cases pr;obtain⟨c,e1,h1⟩:=r1;obtain⟨d,e2,h2⟩:=r2;cases r3;subst e1 e2;exact⟨b,_,_,rfl,q,⟨c,rfl,h1⟩,d,rfl,h2⟩
theorem wN (h:Paired (ArA H) vs as):∃bs:B3,vs=bs.map V.ref/\KsA H bs (as.map tkA):=by
 induction h with
 | nil=>exact⟨[],rfl,.nil⟩
 | @cons v t _ _ r _ ih =>
 obtain⟨bs,e,p⟩:=ih;obtain⟨b,_,_,e1,_⟩:=id r;subst e1;exact⟨b::bs,by rw[e];rfl,.cons r.tk p⟩
theorem wn {bs:B3} (h:KsA H bs ks) (hk:∀k∈ks,∃t,k=tkA t):∃as:List Arc,ks=as.map tkA/\Paired (ArA H) (bs.map V.ref) as:=by
 induction h with
 | nil=>exact⟨[],rfl,.nil⟩
 | @cons b k _ _ r _ ih =>
 obtain⟨ts,e,p⟩:=ih λk hk'=>hk k (Qj _ hk');obtain⟨t,rfl⟩:=hk k (by simp);exact⟨t::ts,by rw[e];rfl,.cons (ArA.of r) p⟩
theorem tm (as:List Arc):pQ false (as.map tkA):=by
 refine⟨λx hx y hy=>?_,λx hx=>?_⟩
 ·obtain⟨t,_,rfl⟩:=Qn.mp hx;obtain⟨u,_,rfl⟩:=Qn.mp hy;rfl
 obtain⟨t,_,rfl⟩:=Qn.mp hx;exact⟨_,_,rfl⟩
theorem vN {ps:List Pr} (h:Paired (PrA H) vs ps):∃bs:B3,vs=bs.map V.ref/\KsA H bs (ps.map tkR):=by
 induction h with
 | nil=>exact⟨[],rfl,.nil⟩
 | @cons v t _ _ r _ ih =>
 obtain⟨bs,e,p⟩:=ih;obtain⟨b,_,_,e1,_⟩:=id r;subst e1;exact⟨b::bs,by rw[e];rfl,.cons r.tk p⟩
theorem jP {K:PySem.W.Frag} (hl:H l=some (.lst vs)) (pa:Paired (ArA H) vs as) (few:as.length<=190) (q:∀p vs' (as':List Arc),H p=none->Paired (ArA H) vs' as'->as'.Perm as->(as'.map tkA).Pairwise leF->Q (.ref p) (upd H p (.lst vs'))):lT K [.ref l] H Q:=by
 obtain⟨bs,rfl,ka⟩:=wN pa;refine⟨l,_,false,rfl,.inl ⟨bs,SqL.of hl,ka⟩,tm as,by rw[Qb];omega,λp bs' ks' hp ka' pm so=>?_⟩;obtain⟨as',rfl,pa'⟩:=wn ka' λk hk=>by obtain⟨t,_,e⟩:=Qn.mp (pm.mem_iff.mp hk);exact⟨t,e.symm⟩
 exact q p _ as' hp pa' (j_ (λ{x y} e=>jB (by rw[e])) pm) so
theorem lJ (h:(as.map tkA).Pairwise leF) (h':(as'.map tkA).Pairwise leF) (pm:as'.Perm as):as'=as :=
 List.Perm.eq_of_pairwise (le:=λx y=>leF (tkA x) (tkA y)) (λ_ _ _ _ h g=>jB (Tm.kK h g)) (Q1.mp h') (Q1.mp h) pm
theorem wV {K:PySem.W.Frag} {tl:TE} {R:It->Hp->Prop} (q:tl U H λx H1=>∃a,x=.ref a/\(∃xs,SqT K H1 a xs)/\R (Itt K a) H1):Ad K tl U H R:=q
theorem lg (n:Nat):(List.replicate n true).all id=true:=by simp
def m5:Sp:=λvs H Q _=>∃(v:V) (l:Addr) (ws:List Str) (t:Tu),vs=[v,.ref l]/\TuA H v t/\H l=some (.lst (ws.map V.str))/\fq ws t/\Q (.bl true) H
def uD:Sp:=λvs H Q _=>∃(v:V) (l:Addr) (ws:List Str) (a:Arc),vs=[v,.ref l]/\ArA H v a/\H l=some (.lst (ws.map V.str))/\ArOk ws a/\Q (.bl true) H
def nk:Sp:=λvs H Q _=>∃(l lw:Addr) (as:List V) (r:Rg),vs=[.ref l,.ref lw]/\ArsA H l as r.arcs/\H lw=some (.lst (r.ws.map V.str))/\RgOk r/\lr r/\RgX r/\(r.arcs.map tkA).Pairwise leF/\∀H',aw H H'->Q (.bl true) H'
def m8:Sp:=λvs H Q _=>∃(a li lo l:Addr) (as:List V) (r:Rg),vs=[.ref a]/\RgA H a li lo l as r/\RgOk r/\RgX r/\∀H',aw H H'->Q (.bl true) H'
def jN:Sp:=λvs H Q _=>∃(a li lo l:Addr) (as:List V) (r:Rg),vs=[.ref a]/\RgA H a li lo l as r/\RgOk r/\lr r/\RgX r/\(r.arcs.map tkA).Pairwise leF/\∀H',aw H H'->Q (.bl true) H'
theorem pF {K:PySem.W.Frag} (q:ta U H λvs H1=>∃ks:List ak,gK K H1 vs ks/\∀us:List ak,us.Nodup->(∀x,x∈us↔x∈ks)->Q (.int us.length) H1):jG K ta U H Q:=q
theorem gJ {ws:List Str} (h:ws.Nodup):(bI ws).Nodup:=by
 unfold bI;rw[List.nodup_append];refine⟨Q1.mpr (h.imp λn e=>n (Prod.mk.inj e).1),Q1.mpr (h.imp λn e=>n (Prod.mk.inj e).1),λa ha b hb e=>?_⟩;obtain⟨x,_,rfl⟩:=Qn.mp ha;obtain⟨y,_,rfl⟩:=Qn.mp hb;exact absurd (Prod.mk.inj e).2 (by decide +kernel)
local macro_rules|`(tactic|ctx_has $a $b $c $d $e $f $g)=>`(tactic|(generalize hE:upd $a $b _=$c;obtain⟨$d,$e⟩:=$f $g hE;clear hE))
section
theorem fJ:FnScope ["thing", "wires"] ["thing", "wires"] (am (top 18)):=by fin2
variable {fd:FuncData} {f:Addr}
theorem rk (Fu:Fun K "is_ring_turn" "is_ring_turn" (top 18) f fd) (T:Txt K mg TT) (f_is_pair:Fn P w K mg base "is_pair" ["thing"] 1 qp):FnOk P w K mg base CX0 2 f fd ["thing", "wires"] m5:=by
 have S:=fJ;refine Fu.ok S (by room) (λcdv A outer s H vs Q E hr h=>?_);obtain⟨v,l,ws,t,rfl,⟨b,rfl,hb⟩,hl,ok,q⟩:=h;obtain⟨SA,tS1,tS2⟩:=T.sA
 refine⟨_,(pss_cons (ps_if (PW.pt (cF (br (bp (aR f_is_pair hr (aa (pv 0) ad ae)))) (cF (br (bp (ah aC (by rfl) T.n_isinstance Qr (aa (au aB (pv 0) af) (aa (bg (v:=.ty "str") (by rfl) T.n_str Xw rfl) ad ae))))) (bZ (br (bp (ah aC (by rfl) T.n_isinstance Qr (aa (au aB (pv 0) af) (aa (bg (v:=.ty "str") (by rfl) T.n_str Xw rfl) ad ae))))))))) (aK (aA cz)) pss_nil)
  (aK (aA (bW (bj hC (au aB (pv 0) af) (pv 1) rfl) (b9 (bj (g_ tS2) (au aB (pv 0) af) (eG (v:=.ref SA) (by rfl) tS1 rfl) rfl)))))),?_⟩
 x_go;lk;refine⟨b,_,rfl,hb,by simp,_,rfl,cu ?_⟩;lk;refine⟨_,_,_,_,rfl,TyOf.str t.1,be "str", _,rfl,cu ?_⟩;lk;refine⟨_,_,_,_,rfl,TyOf.str t.2,be "str", _,rfl,cu ?_⟩;lk;refine⟨l,_,rfl,.inl (SqL.of hl),rfl,ce ws,_,rfl,?_⟩;refine ifT (fU.mpr ok.1) ?_;lk;refine⟨rfl,Eq.mp (congrArg (λb=>Q (.bl b) H) (?_:true=_)) q⟩;rcases ok.2 with e|e <;> rw[e] <;> decide +kernel
theorem oM:FnScope ["thing", "wires"] ["thing", "wires"] (am (top 19)):=by fin2
theorem wc (Fu:Fun K "is_arc" "is_arc" (top 19) f fd) (T:Txt K mg TT) (f_is_ring_turn:Fn P w K mg base "is_ring_turn" ["thing", "wires"] 2 m5) (f_is_number_below:Fn P w K mg base "is_number_below" ["thing", "bound"] 2 ng):FnOk P w K mg base CX0 3 f fd ["thing", "wires"] uD:=by
 have S:=oM;refine Fu.ok S (by room) (λcdv A outer s H vs Q E hr h=>?_);obtain⟨v,l,ws,a,rfl,⟨b,v1,v2,rfl,hb,t1,t2⟩,hl,ok,q⟩:=h
 refine⟨_,(pss_cons (ps_if (PW.pt (cF (br (bp (ah aC (by rfl) T.n_isinstance Qr (aa (pv 0) (aa (bg (v:=.ty "tuple") (by rfl) T.n_tuple X1 rfl) ad ae) ae)))) (bZ (aP du (ah av (by rfl) T.n_len QM (aa (pv 0) ad ae)) af (aH _))))) (aK (aA cz)) pss_nil)
  (pss_cons (ps_if (PW.pt (cF (br (bp (aR f_is_ring_turn hr (aa (au aB (pv 0) af) (aa (pv 1) ad ae))))) (bZ (br (bp (aR f_is_ring_turn hr (aa (au aB (pv 0) af) (aa (pv 1) ad ae)))))))) (aK (aA cz)) pss_nil)
  (aK (aA (bW (bj (qU hr.units) (au aB (pv 0) af) (au aB (pv 0) af) (aH _)) (b9 (aR f_is_number_below hr (aa (au aB (pv 0) af) (aa af ad aD))))))))),?_⟩
 x_go;lk;refine⟨_,_,_,_,rfl,TyOf.tup hb,be "tuple", _,rfl,cu ?_⟩;lk;refine⟨b,_,rfl,.inr (SqT.of hb),?_⟩;lk;refine ifF rfl ?_;lk;refine⟨_,l,ws,_,rfl,t1,hl,ok.o,_,rfl,cu ?_⟩;lk;refine⟨_,l,ws,_,rfl,t2,hl,ok.t,_,rfl,?_⟩;refine ifF rfl ?_;lk;refine wD (neg:=true) t1 t2 ?_;refine⟨_,rfl,ifT (by rw[Qu rfl,QE ok.ne];rfl) ?_⟩;lk;refine⟨_,_,rfl,?_⟩;rw[QA (show 0<=a.mark/\a.mark<2 by have:=ok.m;omega)];exact q
theorem jY:FnScope ["things", "wires", "pairs"] ["things", "wires"] (am (top 21)):=by fin2
theorem rD (Fu:Fun K "are_arcs" "are_arcs" (top 21) f fd) (T:Txt K mg TT) (f_is_arc:Fn P w K mg base "is_arc" ["thing", "wires"] 3 uD) (f_waiting_turns:Fn P w K mg base "waiting_turns" ["arcs"] 2 qm):FnOk P w K mg base CX0 4 f fd ["things", "wires"] nk:=by
 have S:=jY;refine Fu.ok S (by room) (λcdv A outer s H vs Q E hr h=>?_);obtain⟨l,lw,as,r,rfl,at_,hl,ok,full,rx,so,q⟩:=h;have hu:=gz hr;refine'⟨?_,?bb,?_⟩
 case bb =>
  walk_at "b";exact(PW.pt (cF (br (bp (ah (dy rfl) (by rfl) T.n_all PyProof.Rows.boot_all (aa (fB "thing" [("wires", 1)] (cC (pv 0)) (λ_ _ _ _=>(aR f_is_arc hr (aa (pv 0) (aa (pv 1) ad ae) ae)))) ad)))) (bZ (aP (qV hr.units) (pv 0) (ah (gI rfl hu) (by rfl) T.n_sorted PyProof.Rows.boot_sorted (aa (pv 0) ad ae)) (aH _)))));exact(aA cz);exact(qI (j:=2) S.nd rfl (by z_go) (tgs:=["arc"]) (cap:=[]) rfl ⟨rfl,rfl,rfl,rfl,rfl,rfl⟩ (cC (pv 0)) (λ_ _ _ _=>(cK (i:=0) (show List.Nodup [("arc" : Str)] by decide +kernel) rfl (by z_go))) (λ_ _ _ _=>eD) (λ_ _ _ _=>(pe_tup (aa (au (eN (K:=K) rfl) (pv 0) af) (aa (au (eN (K:=K) rfl) (pv 0) af) ad)))));exact(aA (bW (bj cA (lX rfl hu (by rfl) T.n_len (by rfl) T.n_set (aa (pv 2) ad ae)) (ah av (by rfl) T.n_len QM (aa (pv 2) ad ae)) (aH _)) (b9 (bj cA (ah av (by rfl) T.n_len QM (aa (aR f_waiting_turns hr (aa (pv 0) ad ae)) ad aW)) (aQ d6 af (ah av (by rfl) T.n_len QM (aa (pv 1) ad ae))) (aH _)))))
 x_go;lk;refine cb (s_list (bw rfl ⟨l,rfl,⟨_,SqL.of at_.h⟩,λD hD=>?_⟩));refine c9 (λ_=>true) (λH v (a:Arc)=>v=.bl true) hD at_.h at_.p (QO ok.few (by decide)) (λH H' v x k h=>h) (λv x H' ia mx S' G N hG _=>?_) (λH1 ys S1 hy p=>?_)
 ·refine aZ ⟨⟨rfl,trivial⟩,i_yes (iteT ?_)⟩;lk;refine⟨_,lw,r.ws,x,rfl,ia.kt (aw.tups S'),S' _ _ hl,ok.arcs x mx,?_⟩;exact hG rfl _ H' (aw.refl _) rfl
 rw[bR]at p
 have ey:ys=(List.replicate r.arcs.length true).map V.bl:=by
  rw[dE p,List.map_replicate,List.map_const']
 refine i_nil ⟨D,_,rfl,SqL.of (by rw[<-ey];exact hy),_,rfl,?_⟩;have eb:(!(List.replicate r.arcs.length true).all id)=false:=by rw[lg];rfl
 rw[eb];have l1:=S1 _ _ at_.h;have at1:=at_.same S1;lk;refine jP l1 at1.p rx.few λp2 vs2 as2 hp2 pa2 pm2 so2=>?_;have e2:=lJ so so2 pm2;subst e2;ctx_has H1 p2 H2 S2 q2 az hp2;have at2:=at1.same S2;have pa2:=ay (λ_ _ h=>ArA.kt (aw.tups S2) h) pa2;refine Aa (SqL.of at2.h) (SqL.of q2) (by rw[aO at2.p,aO pa2]) (λj x y ex ey=>?_) ?_
 ·obtain⟨a1,g1,t1⟩:=paired_get at2.p ex;obtain⟨a2,g2,t2⟩:=paired_get pa2 ey;rw[g1]at g2;cases g2;obtain⟨b1,_,_,rfl,_⟩:=id t1;obtain⟨b2,_,_,rfl,_⟩:=id t2;have:=wG (K:=K) (n:=6) t1.tk t2.tk rfl;rwa [QA rfl]at this
 refine⟨_,rfl,ifF rfl ?_⟩;have l2:=at2.h;lk;refine cb (s_list (bw rfl ⟨l,rfl,⟨_,SqL.of l2⟩,λD2 hD2=>?_⟩));refine c9 (λ_=>true) (λH v (a:Arc)=>PrA H v (prA a)) hD2 l2 at2.p (QO ok.few (by decide)) (λH H' v x k h=>h.kt k) (λv x H' ia mx S' G N hG _=>?_) (λH3 ys S3 hy p=>?_)
 ·obtain⟨b,v1,v2,rfl,hb,t1,t2⟩:=ia.kt (aw.tups S');refine aZ ⟨trivial,i_yes (iteT ?_)⟩;lk;refine⟨by simp[sizeLine],λp1 h1=>?_⟩;have S4:=aE (o:=.tup [v1,v2]) h1;exact hG rfl _ _ S4 ⟨p1,_,_,rfl,ag,t1.kt (aw.tups S4),t2.kt (aw.tups S4)⟩
 rw[bR]at p;have p:=d5 (f:=prA) p;have lp:=aO p;obtain⟨bs,eb,ka⟩:=vN p;subst eb;rw[Qb,Qb]at lp;have at3:=at2.same S3;have hl3:=S3 _ _ (S2 _ _ (S1 _ _ hl));have l3:=at3.h;refine aZ ?_;lk;have ndk:((r.arcs.map prA).map tkR).Nodup:=Q1.mpr (List.Pairwise.imp (λh e=>h (fN e)) (show (r.arcs.map prA).Nodup from rx.nd));refine pF (i_cons (bw rfl (i_nil ⟨_,⟨D2,bs,rfl,SqL.of hy,ka,λk hk=>?_,λus nd h=>?_⟩,λus nd mm=>?_⟩)))
 ·obtain⟨t,_,rfl⟩:=Qn.mp hk;rfl
 ·have:=Bf.di us _ nd h;rw[Qb,Qb]at this;have:=rx.few;omega
 have lus:us.length=r.arcs.length:=by
  have a1:=Bf.di us _ nd λx hx=>(mm x).mp hx;have a2:=Bf.di _ us ndk λx hx=>(mm x).mpr hx;rw[Qb,Qb]at a1 a2;omega
 lk;rw[Qb];refine ifT (QA (by rw[lus,lp])) ?_;lk;refine⟨l,as,r,rfl,at3,ok,λp5 vs5 ts H5 S5 hp5 hq5 pt5 wt=>?_⟩
 have lts:vs5.length=2*r.ws.length:=by
  rw[aO pt5];have a1:=Bf.di ts (bI r.ws) wt.nd λx hx=>bP.mpr (ve ok wt hx);have a2:=Bf.di (bI r.ws) ts (gJ ok.nd) λx hx=>(wt.mem x).mpr (full x (bP.mp hx));have e:(bI r.ws).length=2*r.ws.length:=by unfold bI;rw[Qg,Qb,Qb];omega
  omega
 have hl5:=S5 _ _ hl3;have w5:=ok.w5;lk;rw[Qb,lts,QA (show V.int ((2*r.ws.length:Nat):Int)=V.int (2*(r.ws.length:Int)) by rw[Int.natCast_mul];rfl)];exact q H5 (((S1.trans S2).trans S3).trans S5)
theorem iI:FnScope ["thing", "wires"] ["thing"] (am (top 14)):=by fin2
theorem oY (Fu:Fun K "has_wires" "has_wires" (top 14) f fd) (T:Txt K mg TT) (f_are_unlike_names:Fn P w K mg base "are_unlike_names" ["things"] 2 jJ) (f_is_row:Fn P w K mg base "is_row" ["thing", "many"] 1 uC):FnOk P w K mg base CX0 3 f fd ["thing"] m8:=by
 have S:=iI;refine Fu.ok S (by room) (λcdv A outer s H vs Q E hr h=>?_);obtain⟨a,li,lo,ln,as,sh,rfl,at_,ok,fr,q⟩:=h
 refine⟨_,(pss_cons (ps_if (PW.pt (cF (br (bp (ah aC (by rfl) T.n_isinstance Qr (aa (pv 0) (aa (bg (v:=.ty "tuple") (by rfl) T.n_tuple X1 rfl) ad ae) ae)))) (bZ (aP du (ah av (by rfl) T.n_len QM (aa (pv 0) ad ae)) af (aH _))))) (aK (aA cz)) pss_nil)
  (pss_cons (ps_if (br (bp (ah (dy rfl) (by rfl) T.n_all PyProof.Rows.boot_all (aa (fB "place" [("thing", 0)] (vO (pe_tup (aa af (aa af (aa af ad aD) aD) aD))) (λ_ _ _ _=>(ah (i9 (K:=K) rfl) (by rfl) T.n_isinstance Qr (aa (au (eN (K:=K) rfl) (pv 1) (pv 0)) (aa (bg (v:=.ty "list") (by rfl) T.n_list XM rfl) ad ae))))) ad)))) (aK (aA cz)) pss_nil)
  (pss_cons (bo 1 S.nd (aQ cR (au aB (pv 0) af) (au aB (pv 0) af)))
  (aK (aA (bW (bj uJ (ah av (by rfl) T.n_len QM (aa (au aB (pv 0) af) ad)) af (aH _)) (bW (aR f_are_unlike_names hr (aa (pv 1) ad ae)) (b9 (aR f_is_row hr (aa (au aB (pv 0) af) (aa (ah av (by rfl) T.n_len QM (aa (pv 1) ad ae)) ad aW))))))))))),?_⟩
 x_go;have ha:=at_.ha;have w11:sh.ws.length<=11:=QO ok.w5 (by decide);have o7:sh.outs.length<=7:=by have:=ok.w5;unfold Rg.ws at this;rw[Qg]at this;omega
 have o1:=fr.o1;have lw:(sh.ins.map V.str).length+(sh.outs.map V.str).length=sh.ws.length:=by rw[Qb,Qb];unfold Rg.ws;rw[Qg]
 lk;refine⟨_,_,_,_,rfl,TyOf.tup ha,be "tuple", _,rfl,cu ?_⟩;lk;refine⟨a,_,rfl,.inr (SqT.of ha),?_⟩;lk;refine ifF rfl ?_;lk;refine cb (wV ?_);lk;refine⟨by simp[sizeLine],λp hp=>?_⟩;ctx_has H p H1 S1 q1 az hp;have at1:=at_.same S1;refine⟨p,rfl,⟨_,SqT.of q1⟩,λL hL=>?_⟩;refine sH (xs:=[.int 0,.int 1,.int 3]) (λn H' ys=>aw H1 H'/\H' L=some (.lst ys)/\ys=(List.replicate n true).map V.bl) ⟨aE hL,ag,rfl⟩ (λn H' ys p=>⟨p.2.1,SqT.of (p.1 _ _ q1)⟩) (λn x H' ys e p=>?_) (λH2 ys p=>?_)
 ·obtain⟨Sm,hd,rfl⟩:=p;have hn:n<3:=by simpa using(Ql.mp e).1
  obtain⟨b,xs,eb,hb⟩:∃(b:Addr) (xs:List V),(∃j:Int,x=.int j/\atI [V.ref li,V.ref lo,V.str sh.z,V.ref ln] j=some (.ref b))/\H1 b=some (.lst xs):=by
   match n,e with
   | 0,e=>cases e;exact⟨li,_,⟨0,rfl,rfl⟩,at1.hi⟩
   | 1,e=>cases e;exact⟨lo,_,⟨1,rfl,rfl⟩,at1.ho⟩
   | 2,e=>cases e;exact⟨ln,_,⟨3,rfl,rfl⟩,at1.arcs.h⟩
  obtain⟨j,rfl,ej⟩:=eb;refine aZ ⟨by repeat' (first|exact trivial|refine⟨rfl,?_⟩),i_yes (iteT ?_)⟩;refine i_cb (i_cons (i_op (bw rfl (bw rfl (i_ixT (Sm _ _ at1.ha) ej (i_cons (i_c (i_nil ?_))))))));refine⟨_,_,_,_,rfl,TyOf.lst (Sm _ _ hb),be "list", ?_⟩;refine dR.mk hd (by simpa using hn) (by rw[Qb,List.length_replicate];omega) ⟨bK Sm hL,ag,?_⟩;rw[List.replicate_succ',QP];rfl
 obtain⟨Sm,hd,rfl⟩:=p;refine i_nil ⟨_,_,rfl,SqL.of hd,_,rfl,?_⟩;refine ifF (by rw[lg];rfl) ?_;have at2:=at1.same Sm;have ha2:=at2.ha;lk;refine dP at2.hi at2.ho (by omega) λLw hLw=>?_;rw[<-QP];ctx_has H2 Lw H3 S3 q3 az hLw;have q3:H3 Lw=some (.lst (sh.ws.map V.str)):=q3;have at3:=at2.same S3;have ha3:=at3.ha;have ho3:=at3.ho;lk;rw[Qb];refine ifT (QA (by omega)) ?_;lk;refine⟨Lw,_,rfl,q3,by omega,fr.low,λH4 S4=>?_⟩;have ha4:=S4 _ _ ha3;have q4:=S4 _ _ q3;refine⟨_,rfl,ifT (QA ok.nd) ?_⟩;lk;refine⟨_,sh.ws.length,by rw[Qb],w11,ok.st,λH5 S5=>?_⟩;exact q H5 (S1.trans (Sm.trans (S3.trans (S4.trans S5))))
theorem eY:FnScope ["thing", "wires"] ["thing"] (am (top 22)):=by fin2
theorem pd (Fu:Fun K "is_ring_sheet" "is_ring_sheet" (top 22) f fd) (T:Txt K mg TT) (f_has_wires:Fn P w K mg base "has_wires" ["thing"] 3 m8) (f_are_arcs:Fn P w K mg base "are_arcs" ["things", "wires"] 4 nk):FnOk P w K mg base CX0 5 f fd ["thing"] jN:=by
 have S:=eY;refine Fu.ok S (by room) (λcdv A outer s H vs Q E hr h=>?_);obtain⟨a,li,lo,l,as,r,rfl,at_,ok,full,rx,so,q⟩:=h;obtain⟨_,gMW⟩:=T.mWIRES
 refine⟨_,(pss_cons (ps_if (br (bp (aR f_has_wires hr (aa (pv 0) ad ae)))) (aK (aA cz)) pss_nil)
  (pss_cons (bo 1 S.nd (aQ cR (au aB (pv 0) af) (au aB (pv 0) af)))
  (aK (aA (bW (bj nC (ah av (by rfl) T.n_len QM (aa (pv 1) ad ae)) (eG (v:=.int 5) (by rfl) gMW ⟨_,rfl⟩) (aH _)) (b9 (aR f_are_arcs hr (aa (au aB (pv 0) af) (aa (pv 1) ad ae))))))))),?_⟩
 x_go;have w5:=ok.w5;have lw:(r.ins.map V.str).length+(r.outs.map V.str).length=r.ws.length:=by rw[Qb,Qb];unfold Rg.ws;rw[Qg]
 have big:1000<sizeLine:=by decide
 lk;refine⟨a,li,lo,l,as,r,rfl,at_,ok,rx,λH1 S1=>⟨_,rfl,cu ?_⟩⟩;have at1:=at_.same S1;have ha1:=at1.ha;lk;refine dP at1.hi at1.ho (by omega) λLw hLw=>?_;rw[<-QP];ctx_has H1 Lw H2 S2 q2 az hLw;have q2:H2 Lw=some (.lst (r.ws.map V.str)):=q2;have at2:=at1.same S2;have ha2:=at2.ha;lk;rw[Qb];refine ifT (QA (by omega)) ?_;lk;refine⟨l,Lw,as,r,rfl,at2.arcs,q2,ok,full,rx,so,λH3 S3=>?_⟩;exact q H3 (S1.trans (S2.trans S3))
end
def jO (K:PySem.W.Frag):Sp:=λvs H Q _=>∃(s:Addr) (ns:List Int) (k:Nat),vs=[.ref s,.int (k:Int)]/\SqL K H s (ns.map V.int)/\k<=100/\∀(c:Int),Q (.int c) H
def gc:Sp:=λvs H Q _=>∃(c:Int) (m:Nat),vs=[.int c,.int (m:Nat)]/\m<=1000/\∀l (xs:List Int) H',aw H H'->H l=none->H' l=some (.lst (xs.map V.int))->Q (.ref l) H'
theorem Ac {K:PySem.W.Frag} {T:String} {r:V->List V->Hp->VK->Prop} {to:TE} (q:to U H λx H1=>tyV K T x H1/\r x [] H1 Q):wT K T r to U H Q:=q
section
theorem gl:FnScope ["script", "k"] ["script", "k"] (am (top 32)):=by fin2
variable {fd:FuncData} {f:Addr}
theorem pf (Fu:Fun K "_law_cell_at" "_law_cell_at" (top 32) f fd) (T:Txt K mg TT):FnOk P w K mg base CX0 1 f fd ["script", "k"] (jO K):=by
 have S:=gl;refine Fu.ok S (by room) (λcdv A outer s H vs Q E hr h=>?_);obtain⟨s,ns,k,rfl,hS,k100,q⟩:=h
 refine⟨_,(pss_cons (ps_if (aP qW (pv 1) (ah av (by rfl) T.n_len QM (aa (pv 0) ad)) (aH _)) (aK (aA (au bn (pv 0) (pv 1)))) pss_nil)
  (aK (aA af))),?_⟩
 x_go;lk;refine⟨_,_,rfl,Or.inl hS,?_⟩;lk;rw[Qb];by_cases c:k<ns.length
 ·refine ifT (QA (by omega)) ?_;lk;refine i_ixL (v:=.int ns[k]) hS (bv (by rw[QB,Qc c];rfl)) ?_;exact q _
 refine ifF (QE (by omega)) ?_;lk;exact q _
theorem gk:FnScope ["cell", "many", "found", "rest", "stir", "k", "again"] ["cell", "many"] (am (top 33)):=by fin2
theorem tT (Fu:Fun K "_law_numbers" "_law_numbers" (top 33) f fd) (T:Txt K mg TT):FnOk P w K mg base CX0 1 f fd ["cell", "many"] gc:=by
 have S:=gk;refine Fu.ok S (by room) (λcdv A outer s H vs Q E hr h=>?_);obtain⟨c,m,rfl,m1,q⟩:=h;have big:1000000<sizeLine:=by decide
 refine'⟨?_,?bb,?_⟩
 case bb =>
  walk_at "b";exact bo 2 S.nd (pe_lst ad);exact bo 3 S.nd (pv 0);exact bo 4 S.nd (aQ d7 (pv 0) af);walk_at "f";exact(b8 (by rfl) T.n_range (aa (pv 1) ad));exact(de 5 S.nd);walk_at "p";exact(PW.pt (iM (aP uJ (pv 0) (aQ vZ af af) (aH _)) (fP (aP uI (pv 3) af (aH _)))));exact(cJ (bt Q4 Xh Xi bx (pv 2) (aa (aQ d7 (pv 3) af) ad)));exact bo 3 S.nd (aQ nE (pv 3) af);exact bo 4 S.nd (aQ d7 (aQ d6 (aQ gq (aQ gq (pv 4) (aQ d6 af (pv 5))) af) af) af);exact bo 6 S.nd (aQ d7 (aQ d6 (aQ d7 (aQ d6 (pv 4) (pv 4)) af) af) af);exact(cJ (bt Q4 Xh Xi bx (pv 2) (aa (aQ d7 (aQ nE (pv 6) af) af) ad)));exact(aA (pv 2))
 x_go;lk;refine⟨by show 0<=_;omega,λp hp=>?_⟩;ctx_has H p H1 S1 q1 az hp;lk;refine⟨by omega,by omega,?_⟩;rw[Q6];have s0:0<=c % 2147483647:=Int.emod_nonneg _ (by decide);have s1:c % 2147483647<2147483647:=Int.emod_lt_of_pos _ (by decide);generalize c % 2147483647=st at s0 s1;let I1:IvF:=λi U H'=>∃(rs st:Int) (xs:List Int),∃x5 x6,U=[some (.int c),some (.int (m:Nat)),some (.ref p),some (.int rs),some (.int st),x5,x6]/\0<=st/\st<2147483647/\aw H H'/\H' p=some (.lst (xs.map V.int))/\xs.length=i;refine cc (n:=m) I1 ⟨c,st,[],_,_,rfl,s0,s1,S1,q1,rfl⟩ (λi U H' hi pv=>?_) (λU H' pv=>?_)
 ·obtain⟨rs,st,xs,x5,x6,rfl,s0,s1,S2,q2,hl⟩:=pv;refine aZ ?_
  have els:jF (lI (tOp (rI (λx j=>0<j) λi j=>V.int (i % j)) (tOp (rI mN λi j=>V.int (i*j)) (tOp (rI0 λi j=>V.int (i+j)) (tOp (rI0 λi j=>V.int (i+j)) (bX 4) (tOp (rI mN λi j=>V.int (i*j)) (tC (V.int 7)) (bX 5))) (tC (V.int 3))) (tC (V.int 48271))) (tC (V.int 2147483647))) (df 4))
   (jF (lI (tOp (rI (fun x j=>0<j) fun i j=>V.int (i % j)) (tOp (rI mN fun i j=>V.int (i*j)) (tOp (rI (fun x j=>0<j) fun i j=>V.int (i % j)) (tOp (rI mN fun i j=>V.int (i*j)) (bX 4) (bX 4)) (tC (V.int 2147483629))) (tC (V.int 69621))) (tC (V.int 2147483587))) (df 6))
    (qi (tBM K "list" iL (bX 2) (cS (tOp (rI (λx j=>0<j) λi j=>V.int (i % j)) (tOp (rI Ar λi j=>V.int (i / j)) (bX 6) (tC (V.int 8))) (tC (V.int 720720))) f8))))
   { nx:=λU H'=>∃(rs st:Int) (xs:List Int),∃x5 x6,U=[some (.int c),some (.int (m:Nat)),some (.ref p),some (.int rs),some (.int st),x5,x6]/\0<=st/\st<2147483647/\aw H H'/\H' p=some (.lst (xs.map V.int))/\xs.length=i+1,rt:=Q,ct:=λU H'=>∃(rs st:Int) (xs:List Int),∃x5 x6,U=[some (.int c),some (.int (m:Nat)),some (.ref p),some (.int rs),some (.int st),x5,x6]/\0<=st/\st<2147483647/\aw H H'/\H' p=some (.lst (xs.map V.int))/\xs.length=i+1,bk:=p8 (bX 2) { nx:=λ_ H'=>Q .non H',rt:=Q } }
   [some (.int c),some (.int (m:Nat)),some (.ref p),some (.int rs),some (.int st),some (.int (0+(i:Nat))),x6] H':=by
   lk;generalize he:(st+7*(0+(i:Int))+3)*48271 % 2147483647=s2;have t0:0<=s2:=by rw[<-he];exact Int.emod_nonneg _ (by decide)
   have t1:s2<2147483647:=by rw[<-he];exact Int.emod_lt_of_pos _ (by decide)
   try (refine i_rI (Or.inl ⟨by omega,by omega⟩) ?_)
   lk;refine fE q2 (by rw[Qb];omega) ?_;refine⟨_,_,xs++[_],_,_,rfl,t0,t1,bK S2 hp,by rw[ag,QP];rfl,by simp[hl]⟩
  lk;refine kP (λ_=>?_) (λ_=>?_)
  ·lk;refine kP (λ_=>?_) (λ_=>?_)
   ·lk;refine fE q2 (by rw[Qb];omega) ?_;lk;refine⟨_,_,xs++[_],_,_,rfl,s0,s1,bK S2 hp,by rw[ag,QP];rfl,by simp[hl]⟩
   first|exact els|exact cu els
  first|exact els|exact cu els
 obtain⟨rs,st,xs,x5,x6,rfl,s0,s1,S2,q2,hl⟩:=pv;lk;exact q p xs H' S2 hp q2
theorem jV:FnScope ["cell", "many"] ["cell", "many"] (am (top 34)):=by fin2
theorem tV (Fu:Fun K "_law_deck" "_law_deck" (top 34) f fd) (T:Txt K mg TT) (f_law_numbers:Fn P w K mg base "_law_numbers" ["cell", "many"] 1 gc):FnOk P w K mg base CX0 2 f fd ["cell", "many"] gc:=by
 have S:=jV;refine Fu.ok S (by room) (λcdv A outer s H vs Q E hr h=>?_);obtain⟨c,m,rfl,m1,q⟩:=h;refine⟨_,(aK (aA (vR (aR f_law_numbers hr (aa (pv 0) (aa (pv 1) ad))) (gm dU af) (λ_ _ _ q=>⟨1,rfl,q⟩)))),?_⟩;x_go;refine s_ret ?_;show gW gc [] E0 _ _ _ _;lk;refine⟨c,m,rfl,m1,λl xs H1 S1 hl h1=>⟨l,_,rfl,SqL.of h1,λp hp=>?_⟩⟩;refine q p xs.reverse _ (S1.trans (aE hp)) (aw.free S1 hp) ?_;rw[ag,List.map_reverse]
theorem jT:FnScope ["deck", "many"] ["deck", "many"] (am (top 35)):=by fin2
theorem tQ (Fu:Fun K "_law_take" "_law_take" (top 35) f fd) (T:Txt K mg TT):FnOk P w K mg base CX0 1 f fd ["deck", "many"] eU:=by
 have S:=jT;refine Fu.ok S (by room) (λcdv A outer s H vs Q E hr h=>?_);obtain⟨D,m,rfl,DA,h1,h2,k⟩:=h;obtain⟨xs,hd⟩:=id DA
 refine⟨_,(pss_cons (ps_if (aP (ma hr.units) (pv 0) (pe_lst ad) (aH _)) (aK (aA af)) pss_nil)
  (aK (aA (aQ d7 (vT Q4 PySem.F.slot_list_pop PySem.F.type_list_pop wf (pv 0)) (pv 1))))),?_⟩
 x_go;lk;refine⟨by decide,λp hp=>?_⟩;ctx_has H p H1 S1 q1 az hp;have hd1:=S1 _ _ hd;have k1:Kp D H H1:=Kp.of DA S1;refine⟨D.d,p,_,_,λ_=>true,rfl,rfl,SqL.of hd1,SqL.of q1,λj x y e1 e2=>by simp at e2,?_⟩;refine⟨_,rfl,?_⟩
 cases xs with
 | nil =>
  refine ifT rfl ?_;lk;exact k 0 H1 (by omega) (by omega) k1
 | cons x r =>
 refine ifF (by simp) ?_;lk;refine Ac (bw rfl ⟨i_tyL hd1,?_⟩)
 obtain⟨y,hy⟩:∃y,((x::r).map V.int)[((x::r).map V.int).length-1]?=some (V.int y):=by
  have hl:(x::r).length-1<(x::r).length:=by simp
  exact⟨(x::r)[(x::r).length-1],by rw[Qb,QB,Qc hl];rfl⟩
 refine⟨D.d,_,_,rfl,rfl,hd1,hy,?_⟩;lk;refine i_rI (show (0:Int)<m by omega) ?_;refine k _ _ (Int.emod_nonneg _ (by omega)) (Int.emod_lt_of_pos _ (by omega)) ⟨λb o e nb=>by rw[ao nb];exact k1.old b o e nb,⟨(x::r).dropLast,by rw[ag,List.map_dropLast]⟩⟩
end
def mk (l:List Nat):Str:=⟨l.toArray⟩
theorem bz {z:Str} {l:List Nat} (h:z.cps.toList=l):z=mk l:=by subst h;show z=⟨z.cps.toList.toArray⟩;simp
theorem cM (l:List Nat):(mk l).cps.toList=l:=rfl
theorem aM (l:List Nat):(mk l).length=l.length:=by show l.toArray.size=_;simp
theorem bL (a b:Str):(a++b).cps.toList=a.cps.toList++b.cps.toList:=by
 show (a.cps++b.cps).toList=_;simp
theorem iV (h:Low z):z.cps.toList.length<=8/\1<=z.cps.toList.length:=by
 have e:z.cps.toList.length=z.length:=Qe ..;rw[e];exact⟨h.l8,h.l1⟩
theorem c5 (h:Low z) (hc:c<97\/122<c):c∉z.cps.toList:=λq=>by
 have:=h.low c q;omega
def iT:List Str->List Nat
 | []=>[45]
 | n::r=>JJ [32] n.cps.toList (r.map (·.cps.toList))
theorem jo {Y:List Nat} {c:Nat}:∀(ps:List (List Nat)) (p:List Nat),c∈JJ Y p ps->c∈Y\/∃q∈p::ps,c∈q
 | [],p,h=>.inr ⟨p,by simp,h⟩
 | q::r,p,h=>by
  have h:c∈p++(Y++JJ Y q r):=h;rcases Qp.mp h with h|h
  ·exact .inr ⟨p,by simp,h⟩
  rcases Qp.mp h with h|h
  ·exact .inl h
  rcases jo r q h with z|⟨s,hs,z⟩
  ·exact .inl z
  exact .inr ⟨s,Qj _ hs,z⟩
theorem jr {Y:List Nat} {m:Nat}:∀(ps:List (List Nat)) (p:List Nat),(∀q∈p::ps,q.length<=m)->(JJ Y p ps).length<=m+ps.length*(Y.length+m)
 | [],p,h=>by
  have:=h p (by simp);show p.length<=m+0*_;omega
 | q::r,p,h=>by
  have h1:=h p (by simp);have h2:=jr (Y:=Y) (m:=m) r q λz hz=>h z (Qj _ hz);show (p++(Y++JJ Y q r)).length<=m+(r.length+1)*(Y.length+m);rw[Qg,Qg,Nat.add_mul];omega
variable {ins ns ls ls':List Str}
theorem r_ (h:∀n∈ins,Low n) (hc:c<97\/122<c) (h1:c≠45) (h2:c≠32):c∉iT ins:=by
 cases ins with
 | nil=>intro z;exact h1 (QG.mp z)
 | cons n r =>
 intro z;rcases jo _ _ z with z|⟨q,hq,z⟩
 ·exact h2 (QG.mp z)
 rcases Qw.mp hq with e|hq
 ·subst e;exact c5 (h n (by simp)) hc z
 obtain⟨s,hs,rfl⟩:=Qn.mp hq;exact c5 (h s (Qj _ hs)) hc z
theorem d9 (h:∀n∈ins,Low n) (l:ins.length<=20):(iT ins).length<=200:=by
 cases ins with
 | nil=>show 1<=200;omega
 | cons n r =>
 have z:=jr (Y:=[32]) (m:=8) (r.map (·.cps.toList)) n.cps.toList λq hq=>by
  rcases Qw.mp hq with e|hq
  ·subst e;exact(iV (h n (by simp))).1
  obtain⟨s,hs,rfl⟩:=Qn.mp hq;exact(iV (h s (Qj _ hs))).1
 rw[Qb]at z;rw[QC]at l;show (JJ [32] n.cps.toList (r.map (·.cps.toList))).length<=200;have e:([32]:List Nat).length=1:=rfl;rw[e]at z;omega
theorem kS {n:Str} {r:List Str} (h:∀z∈n::r,Low z):PySem.Txt.split (mk (iT (n::r))) " " = n::r:=by
 have q:=f_ (x:=mk (iT (n::r))) (y := " ") (c:=32) (Y':=[]) (p:=n.cps.toList) (ps:=r.map (·.cps.toList)) (by decide +kernel) (by decide +kernel) rfl λq hq=>by
  rcases Qw.mp hq with e|hq
  ·subst e;exact c5 (h n (by simp)) (.inl (by decide))
  obtain⟨s,hs,rfl⟩:=Qn.mp hq;exact c5 (h s (Qj _ hs)) (.inl (by decide))
 rw[q,Qo,Xy];have:((λq:List Nat=>(⟨q.toArray⟩:Str))∘λz:Str=>z.cps.toList)=id:=by funext z;simp
 rw[this,List.map_id]
def mV:Sp:=λvs H Q _=>∃(l:Addr) (ns:List Str),vs=[.ref l]/\H l=some (.lst (ns.map V.str))/\ns.length<=20/\(∀n∈ns,Low n)/\Q (.str (mk (iT ns))) H
theorem bh (a b:Str):(a++b).length=a.length+b.length:=by
 show (a.cps++b.cps).size=_;rw[XS];rfl
def mZ:Sp:=λvs H Q _=>∃(ns:List Str),vs=[.str (mk (iT ns))]/\ns.length<=20/\(∀n∈ns,Low n)/\∀l H',aw H H'->H l=none->H' l=some (.lst (ns.map V.str))->Q (.ref l) H'
theorem sX (p R:List Nat) (c:Nat):Builtin.Str.strSub (mk (p++c::R)) 0 p.length=mk p:=bz (by
 rw[PySem.StrLaws.strSub_toList,cM,List.drop_zero,Nat.sub_zero,List.take_left])
theorem sW (p R:List Nat) (c:Nat):Builtin.Str.strSub (mk (p++c::R)) (p.length+1) (mk (p++c::R)).length=mk R:=bz (by
 rw[PySem.StrLaws.strSub_toList,cM,aM];have e:(p++c::R).drop (p.length+1)=R:=by rw[<-List.drop_drop,List.drop_left];rfl
 rw[e]
 exact Q0 (by rw[Qg,QC];omega))
def tuT (t:Tu):List Nat:=t.1.cps.toList++t.2.cps.toList
def arB (a:Arc):List Nat:=tuT a.one++(62::tuT a.two)
def arT (a:Arc):List Nat:=arB a++(if a.mark=1 then [42] else [])
structure TuL (t:Tu):Prop where
 n:Low t.1
 w:t.2 = "+" \/ t.2 = "-"
structure ArL (a:Arc):Prop where
 o:TuL a.one
 t:TuL a.two
 m:a.mark=0\/a.mark=1
theorem TuL.len {t:Tu} (h:TuL t):(tuT t).length<=9/\1<=(tuT t).length:=by
 have l:=iV h.n;unfold tuT;rw[Qg];have e1:("+" : Str).cps.toList.length=1:=by decide +kernel
 have e2:("-" : Str).cps.toList.length=1:=by decide +kernel
 rcases h.w with e|e
 ·rw[e,e1];omega
 rw[e,e2];omega
theorem TuL.sg {t:Tu} (h:TuL t):∃c,(c=43\/c=45)/\t.2=K2.mk [c]/\t.2.cps.toList=[c]:=by
 rcases h.w with e|e
 ·exact⟨43,.inl rfl,by rw[e];decide +kernel,by rw[e];decide +kernel⟩
 exact⟨45,.inr rfl,by rw[e];decide +kernel,by rw[e];decide +kernel⟩
theorem TuL.out {t:Tu} (h:TuL t) (hc:c<97\/122<c) (h1:c≠43) (h2:c≠45):c∉tuT t:=λz=>by
 obtain⟨d,hd,_,e⟩:=h.sg;unfold tuT at z;rcases Qp.mp z with z|z
 ·exact c5 h.n hc z
 rw[e]at z;have:=QG.mp z;rcases hd with hd|hd <;> omega
theorem eR {a:Arc} (h:ArL a):(arT a).length<=20:=by
 have h1:=h.o.len;have h2:=h.t.len;unfold arT arB;rw[Qg,Qg,QC]
 split
 ·rw[XT];omega
 rw[XG];omega
theorem fX {a:Arc} (h:ArL a) (hc:c<42\/c=44\/c=59):c∉arT a:=λz=>by
 unfold arT arB at z;rcases Qp.mp z with z|z
 ·rcases Qp.mp z with z|z
  ·exact h.o.out (by omega) (by omega) (by omega) z
  rcases Qw.mp z with z|z
  ·omega
  exact h.t.out (by omega) (by omega) (by omega) z
 split at z
 ·have:=QG.mp z;omega
 cases z
def asT:List Arc->List Nat
 | []=>[]
 | a::r=>JJ [44,32] (arT a) (r.map arT)
section
theorem gi:FnScope ["inputs"] ["inputs"] (am (top 24)):=by fin2
theorem rh {f:Addr} {fd:FuncData} (Fu:Fun K "show_inputs" "show_inputs" (top 24) f fd) (T:Txt K mg TT):FnOk P w K mg base CX0 1 f fd ["inputs"] mV:=by
 have S:=gi;refine Fu.ok S (by room) (λcdv A outer s H vs Q E hr h=>?_);obtain⟨l,ns,rfl,hl,n20,lw,q⟩:=h;refine⟨_,(aK (aA (eE (aP uI (ah av (by rfl) T.n_len QM (aa (pv 0) ad ae)) af (aH _)) (bt QN Xj Xk c4 ax (aa (pv 0) ad ae)) ax))),?_⟩;x_go;lk;rw[Qb]
 cases ns with
 | nil =>
  refine ifF (by decide) ?_;lk;exact q
 | cons n r =>
 refine ifT (QA (by rw[QC];omega)) ?_;lk;refine⟨cB,?_⟩;lk;refine d8 hl ?_ ?_
 ·have z:∀(ms:List Str),(∀n∈ms,Low n)->(ms.map (·.length)).sum<=8*ms.length:=λms=>by
   induction ms with
   | nil=>intro _;simp
   | cons m s ih =>
   intro h;have h1:=(h m (by simp)).l8;have h2:=ih λn hn=>h n (Qj _ hn);rw[Qo,List.sum_cons,QC];omega
  have z1:=z (n::r) lw;have e:(" " : Str).length=1:=by decide +kernel
  rw[e];omega
 have e:PySem.Txt.join " " (n::r)=mk (iT (n::r)):=bz (c7 " " r n);rw[e];exact q
theorem gj:FnScope ["text"] ["text"] (am (top 27)):=by fin2
theorem rn {f:Addr} {fd:FuncData} (Fu:Fun K "read_inputs" "read_inputs" (top 27) f fd) (T:Txt K mg TT):FnOk P w K mg base CX0 1 f fd ["text"] mZ:=by
 have S:=gj;refine Fu.ok S (by room) (λcdv A outer s H vs Q E hr h=>?_);obtain⟨ns,rfl,n20,lw,q⟩:=h;refine⟨_,(aK (aA (eE (aP cA (pv 0) ax (aH _)) (pe_lst ad) (bt QN PySem.F.slot_str_split PySem.F.type_str_split eJ (pv 0) (aa ax ad aD))))),?_⟩;x_go;lk
 cases ns with
 | nil =>
  refine ifT (by decide +kernel) ?_;lk;refine⟨by show 0<=_;omega,λp hp=>?_⟩;exact q p _ (aE hp) hp ag
 | cons n r =>
 refine ifF (QE λh=>?_) ?_
 ·injection h with h;have e:iT (n::r)=[45]:=congrArg (λz:Str=>z.cps.toList) h;have m:45∈iT (n::r):=by rw[e];simp
  rcases jo _ _ m with z|⟨s,hs,z⟩
  ·simp at z
  rcases Qw.mp hs with e|hs
  ·subst e;exact c5 (lw n (by simp)) (.inl (by decide)) z
  obtain⟨s,hs',rfl⟩:=Qn.mp hs;exact c5 (lw s (Qj _ hs')) (.inl (by decide)) z
 lk;refine⟨cB,?_⟩;lk;have il:=d9 lw n20;refine⟨_,_,rfl,rfl,by decide +kernel,by rw[aM];omega,λp hp=>?_⟩;have e:=kS lw;refine q p _ (aE hp) hp ?_;rw[ag];exact congrArg (λl:List Str=>some (HO.lst (l.map V.str))) e
end
def jM:Sp:=λvs H Q _=>∃(D:Dk) (m:Nat),vs=[.ref D.d,.int (m:Nat)]/\D.At H/\m<=11/\∀l (ns:List Str) H',ns.length=m->H l=none->H' l=some (.lst (ns.map V.str))->ns.Nodup->(∀n∈ns,Low n)->Kp D H H'->Q (.ref l) H'
theorem d0 {α:Type}:∀(xs:List α) (k:Nat) (h:k<xs.length),(xs[k]::xs.eraseIdx k).Perm xs
 | x::xs,0,_=>List.Perm.refl _
 | x::xs,k+1,h=>by
  have ih:=d0 xs k (by simpa using h);rw[List.eraseIdx_cons_succ];exact(List.Perm.swap x _ _).trans (ih.cons x)
theorem rY {nm:Str} (h:inV (.str nm) (ns.map V.str)=false):nm∉ns:=λm=>by
 rw[fU.mpr m]at h;cases h
theorem tY {K:PySem.W.Frag} {p:Addr} (h:H p=some (.lst (ns.map V.str))) (q:∀b:Bool,(b=true->z∉ns)->Q (.bl b) H):rIn K true (.str z) (.ref p) H Q:=by
 refine⟨p,_,rfl,.inl (SqL.of h),rfl,ce ns,q _ λe=>?_⟩;exact rY (by simpa using e)
structure NmS (D:Dk) (H H':Hp) (lf nm:Addr) (ns ls:List Str):Prop where
 kp:Kp D H H'
 l:H' lf=some (.lst (ls.map V.str))
 n:H' nm=some (.lst (ns.map V.str))
 nd:(ns++ls).Nodup
 low:∀z∈ns++ls,Low z
variable {D:Dk}
theorem NmS.draw (h:NmS D H H' lf nm ns ls) (k:Kp D H' H2) (n1:¬D.own lf) (n2:¬D.own nm):NmS D H H2 lf nm ns ls:=⟨h.kp.trans k,k.old _ _ h.l n1,k.old _ _ h.n n2,h.nd,h.low⟩
theorem NmS.new {p:Addr} {o:HO} (h:NmS D H H' lf nm ns ls) (hp:H' p=none):NmS D H (upd H' p o) lf nm ns ls :=
 ⟨h.kp.new hp,by rw[ao (aV h.l hp)];exact h.l,by rw[ao (aV h.n hp)];exact h.n,h.nd,h.low⟩
structure WdOk (z:Str) (j:Nat):Prop where
 len:z.length=j
 low:∀c∈z.cps.toList,97<=c/\c<=122
theorem rJ:∀z∈(["req", "reqa", "reqb", "a", "ab", "b", "zzzzzzzz", "not", "and", "or", "wire", "out"]:List Str),Low z:=by
 have h:∀z∈(["req", "reqa", "reqb", "a", "ab", "b", "zzzzzzzz", "not", "and", "or", "wire", "out"]:List Str),1<=z.length/\z.length<=8/\∀c∈z.cps.toList,97<=c/\c<=122:=by decide +kernel
 exact λz hz=>⟨(h z hz).1,(h z hz).2.1,(h z hz).2.2⟩
section
theorem eA:FnScope ["deck", "many", "left", "names", "k", "word", "turn"] ["deck", "many"] (am (top 36)):=by fin2
theorem pc {f:Addr} {fd:FuncData} (Fu:Fun K "_law_wire_names" "_law_wire_names" (top 36) f fd) (T:Txt K mg TT) (f_law_take:Fn P w K mg base "_law_take" ["deck", "many"] 1 eU):FnOk P w K mg base CX0 2 f fd ["deck", "many"] jM:=by
 have S:=eA;refine Fu.ok S (by room) (λcdv A outer s H vs Q E hr h=>?_);obtain⟨D,m,rfl,DA,m11,k⟩:=h;have big:1000000<sizeLine:=by decide
 refine'⟨?_,?bb,?_⟩
 case bb =>
  walk_at "b";refine' qH (i:=2) ?n ?r ?l ?e ?s ?f
  case n=>exact S.nd
  case r=>rfl
  case l=>z_go
  case s=>rfl
  case f=>z_go
  case e =>
   with_reducible refine' pe_lst ?a3
   case a3 =>
    with_reducible refine' aa ?e4 ?s4 aD
    case e4 =>
     exact ax
    case s4 =>
     with_reducible refine' aa ?e6 ?s6 aD
     case e6 =>
      exact ax
     case s6 =>
      with_reducible refine' aa ?e8 ?s8 aD
      case e8 =>
       exact ax
      case s8 =>
       with_reducible refine' aa ?e10 ?s10 aD
       case e10 =>
        exact ax
       case s10 =>
        with_reducible refine' aa ?e12 ?s12 aD
        case e12 =>
         exact ax
        case s12 =>
         with_reducible refine' aa ?e14 ?s14 aD
         case e14 =>
          exact ax
         case s14 =>
          with_reducible refine' aa ?e16 ?s16 aD
          case e16 =>
           exact ax
          case s16 =>
           with_reducible refine' aa ?e18 ?s18 aD
           case e18 =>
            exact ax
           case s18 =>
            with_reducible refine' aa ?e20 ?s20 aD
            case e20 =>
             exact ax
            case s20 =>
             with_reducible refine' aa ?e22 ?s22 aD
             case e22 =>
              exact ax
             case s22 =>
              with_reducible refine' aa ?e24 ?s24 aD
              case e24 =>
               exact ax
              case s24 =>
               with_reducible refine' aa ?e26 ?s26 aD
               case e26 =>
                exact ax
               case s26 =>
                exact ad
  exact bo 3 S.nd (pe_lst ad);walk_at "f";exact(b8 (by rfl) T.n_range (aa (pv 1) ad ae));exact(de 4 S.nd);walk_at "p";exact(cJ (bt Q4 Xh Xi bx (pv 3) (aa (bt Q4 PySem.F.slot_list_pop PySem.F.type_list_pop kq (pv 2) (aa (aR f_law_take hr (aa (pv 0) (aa (ah av (by rfl) T.n_len QM (aa (pv 2) ad ae)) ad aW) ae)) ad aW)) ad aW)));exact bo 5 S.nd ax;walk_at "f";exact(b8 (by rfl) T.n_range (aa (aQ d6 (aR f_law_take hr (aa (pv 0) (aa af ad aD) ae)) (bN fj (by rfl) T.n_int XU (aa (bj cA (aR f_law_take hr (aa (pv 0) (aa af ad aD) ae)) af (aH _)) ad))) ad));exact(de 6 S.nd);walk_at "p";exact bo 5 S.nd (aQ aY (pv 5) (au iY ax (aR f_law_take hr (aa (pv 0) (aa af ad aD) ae))));exact(aP iO (pv 5) (aQ cR (aQ cR (pv 3) (pv 2)) (pe_lst (aa ax (aa ax (aa ax (aa ax (aa ax ad aD) aD) aD) aD) aD))) rfl);exact(qJ (pv 5) (vP (pv 3) (gm dU af) qu));exact(aA (pv 3))
 x_go;lk;refine⟨by show 12<=_;omega,λlf hlf=>?_⟩;ctx_has H lf H1 S1 q1 az hlf;have q1':H1 lf=some (.lst ((["req", "reqa", "reqb", "a", "ab", "b", "zzzzzzzz", "not", "and", "or", "wire", "out"]:List Str).map V.str)):=q1;clear q1;lk;refine⟨by show 0<=_;omega,λnm hnm=>?_⟩;ctx_has H1 nm H2 S2 q2 az hnm;have n1:¬D.own lf:=ba DA hlf;have Hnm:H nm=none:=aw.free S1 hnm;have n2:¬D.own nm:=ba DA Hnm;have nln:lf≠nm:=aV q1' hnm;have N0:NmS D H H2 lf nm [] ["req", "reqa", "reqb", "a", "ab", "b", "zzzzzzzz", "not", "and", "or", "wire", "out"]:=⟨Kp.of DA (S1.trans S2),S2 _ _ q1',q2,by decide +kernel,rJ⟩;clear q1' q2;lk;refine⟨by omega,by omega,?_⟩;rw[Q6];let I2:IvF:=λi U H'=>∃(ns ls:List Str),∃x4 x5 x6,U=[some (.ref D.d),some (.int (m:Nat)),some (.ref lf),some (.ref nm),x4,x5,x6]/\NmS D H H' lf nm ns ls/\ns.length=i/\ls.length+i=12;refine cc (n:=m) I2 ⟨[],_,_,_,_,rfl,N0,rfl,rfl⟩ (λi U H' hi pv=>?_) (λU H' pv=>?_)
 ·obtain⟨ns,ls,x4,x5,x6,rfl,N,hn,hl⟩:=pv;have hN:=N.n;have hL:=N.l;refine aZ ?_;lk;refine⟨D,_,rfl,N.kp.dk,by rw[Qb];omega,by rw[Qb];omega,λr H3 r0 r1 k3=>?_⟩;rw[Qb]at r1;have N3:=N.draw k3 n1 n2;have hjl:r.toNat<ls.length:=by omega
  have ez:ls[r.toNat]?=some ls[r.toNat]:=Qc hjl;refine i_nil ?_;refine⟨lf,ls.map V.str,r,r.toNat,.str ls[r.toNat],rfl,rfl,N3.l,by omega,by omega,?_,by rw[QB,ez];rfl,?_⟩
  ·have:ixN (ls.map V.str).length r=some r.toNat:=by unfold ixN;rw[Qu r0,Qb,Qu r1]
   exact(fT this).1
  rw[fh];generalize hE:upd H3 lf _=H4;have l4:H4 lf=some (.lst ((ls.eraseIdx r.toNat).map V.str)):=by rw[<-hE,ag]
  have n4:H4 nm=some (.lst (ns.map V.str)):=by rw[<-hE,ao nln.symm];exact N3.n
  have k4:Kp D H H4:=by rw[<-hE];exact Kp.fresh DA hlf N3.kp
  clear hE;refine i_nil ?_;refine fE n4 (by rw[Qb];omega) ?_;generalize hE:upd H4 nm _=H5
  have pm:(ns++[ls[r.toNat]]++ls.eraseIdx r.toNat).Perm (ns++ls):=by
   rw[QY];exact List.Perm.append_left ns (d0 ls r.toNat hjl)
  have N5:NmS D H H5 lf nm (ns++[ls[r.toNat]]) (ls.eraseIdx r.toNat):=⟨by rw[<-hE];exact Kp.fresh DA Hnm k4,by rw[<-hE,ao nln];exact l4,by rw[<-hE,ag,QP];rfl,pm.nodup_iff.mpr N.nd,λz hz=>N.low z (pm.mem_iff.mp hz)⟩;clear hE;have le:(ls.eraseIdx r.toNat).length+(i+1)=12:=by rw[List.length_eraseIdx,Qu hjl];omega
  generalize ls.eraseIdx r.toNat=ls5 at N5 le;generalize ls[r.toNat]=y at N5;lk;refine⟨D,9,rfl,N5.kp.dk,by omega,by omega,λr9 H6 a0 a1 k6=>?_⟩;have N6:=N5.draw k6 n1 n2;lk;refine⟨D,3,rfl,N6.kp.dk,by omega,by omega,λr3 H7 b0 b1 k7=>?_⟩;have N7:=N6.draw k7 n1 n2;lk
  obtain⟨cnt,hc,c8⟩:∃cnt:Nat,r9*(if decide (V.int r3=V.int 1) then 1 else 0)=(cnt:Int)/\cnt<=8:=by
   cases decide (V.int r3=V.int 1) with
   | true=>exact⟨r9.toNat,by rw[Qu rfl];omega,by omega⟩
   | false=>exact⟨0,by simp,by omega⟩
  refine⟨by rw[hc];omega,by rw[hc];omega,?_⟩;rw[hc,Q6];let I3:IvF:=λj U H'=>∃(z:Str),∃x6,U=[some (.ref D.d),some (.int (m:Nat)),some (.ref lf),some (.ref nm),some (.int (0+(i:Nat))),some (.str z),x6]/\NmS D H H' lf nm (ns++[y]) ls5/\WdOk z j;refine cc (n:=cnt) I3 ⟨_,_,rfl,N7,⟨rfl,λc hc=>by cases hc⟩⟩ (λj U H8 hj pv=>?_) (λU H8 pv=>?_)
  ·obtain⟨z,x6,rfl,N8,wd⟩:=pv;refine aZ ?_;lk;refine⟨D,26,rfl,N8.kp.dk,by omega,by omega,λr26 H9 e0 e1 k9=>?_⟩;have N9:=N8.draw k9 n1 n2
   obtain⟨c,hc,hc2⟩:∃c:Nat,atI (Str.ofString "abcdefghijklmnopqrstuvwxyz").cps.toList r26=some c/\97<=c/\c<=122:=by
    have hl:(Str.ofString "abcdefghijklmnopqrstuvwxyz").cps.toList.length=26:=by decide +kernel
    have hr:r26.toNat<(Str.ofString "abcdefghijklmnopqrstuvwxyz").cps.toList.length:=by omega
    have all:∀c∈(Str.ofString "abcdefghijklmnopqrstuvwxyz").cps.toList,97<=c/\c<=122:=by decide +kernel
    refine⟨(Str.ofString "abcdefghijklmnopqrstuvwxyz").cps.toList[r26.toNat],?_,all _ (Xv hr)⟩;have e:r26=((r26.toNat:Nat):Int):=by omega
    have q:=bv (Qc hr);rw[<-e]at q;exact q
   refine kR (by decide +kernel) hc ?_;refine⟨_,_,rfl,rfl,by have:=wd.len;show z.length+1<=_;omega,?_⟩;lk;refine⟨_,_,rfl,N9,⟨by rw[bh,wd.len];rfl,λu hu=>?_⟩⟩;rw[bL]at hu;rcases Qp.mp hu with hu|hu
   ·exact wd.low u hu
   have:u=c:=QG.mp hu;rw[this];exact hc2
  obtain⟨z,x6,rfl,N8,wd⟩:=pv;have h8n:=N8.n;have h8l:=N8.l;have nsl:(ns++[y]).length=i+1:=by simp[hn]
  lk;refine dP h8n h8l (by rw[Qb,Qb];omega) λp1 hp1=>?_;rw[<-QP];have N9:=N8.new (o:=.lst ((ns++[y]++ls5).map V.str)) hp1;have h9:upd H8 p1 (.lst ((ns++[y]++ls5).map V.str)) p1=some (.lst ((ns++[y]++ls5).map V.str)):=ag;generalize upd H8 p1 (.lst ((ns++[y]++ls5).map V.str))=H9 at N9 h9 ⊢;lk;refine⟨by show 5<=_;omega,λp2 hp2=>?_⟩;generalize hE:upd H9 p2 _=H10;have N10:NmS D H H10 lf nm (ns++[y]) ls5:=by rw[<-hE];exact N9.new hp2
  obtain⟨S10,q10⟩:=az hp2 hE;clear hE;have q10':H10 p2=some (.lst ((["", "new", "w", "yy", "q"]:List Str).map V.str)):=q10;refine dP (S10 _ _ h9) q10' (by rw[Qb,Qb,Qg];show _+5<=_;omega) λp3 hp3=>?_;rw[<-QP];generalize hE:upd H10 p3 _=H11;have N11:NmS D H H11 lf nm (ns++[y]) ls5:=by rw[<-hE];exact N10.new hp3
  obtain⟨S11,q11⟩:=az hp3 hE;clear hE;refine tY q11 λb hb=>?_;refine⟨b,rfl,?_⟩
  cases b with
  | false =>
   refine cu ?_;refine s_next ?_;exact⟨ns++[y],ls5,_,_,_,rfl,N11,nsl,le⟩
  | true =>
  refine iteT ?_;have nz:=hb rfl;lk
  have ei:ixN ((ns++[y]).map V.str).length (-1)=some ns.length:=by
   unfold ixN;rw[Qb,nsl,Qt (by decide),Qu (by omega)];congr 1;omega
  refine s_setL N11.n ei ?_;have es:((ns++[y]).map V.str).set ns.length (V.str z)=(ns++[z]).map V.str:=by simp
  rw[es];have z0:z ≠ "" := λh=>nz (by rw[h];simp);have z1:z∉ns++[y]++ls5:=λh=>nz (QK _ h)
  have zl:Low z:=⟨by
   have l:=wd.len;by_cases c:cnt=0
   ·exfalso
    apply z0
    have e0:z.cps.toList=[]:=List.length_eq_zero_iff.mp (by have:z.cps.toList.length=z.length:=Qe ..;omega);exact(bz e0).trans (by decide +kernel)
   omega,by have:=wd.len;omega,wd.low⟩
  refine⟨ns++[z],ls5,_,_,_,rfl,⟨Kp.fresh DA Hnm N11.kp,by rw[ao nln];exact N11.l,ag,?_,λu hu=>?_⟩,by simp[hn],le⟩
  ·have nd:=N8.nd;rw[QY]at nd z1 ⊢;rw[List.nodup_append]at nd ⊢;obtain⟨d1,d2,d3⟩:=nd;have d2':(y::ls5).Nodup:=d2;refine⟨d1,(Xb.mpr ⟨λh=>z1 (QI _ (Qj _ h)),(Xb.mp d2').2⟩:(z::ls5).Nodup),λa ha b hb=>?_⟩;have hb':b∈z::ls5:=hb;rcases Qw.mp hb' with e|h
   ·subst e;exact λe=>z1 (QK _ (e▸ha))
   exact d3 a ha b (Qj _ h)
  rcases Qp.mp hu with h|h
  ·rcases Qp.mp h with h|h
   ·exact N8.low u (QK _ (QK _ h))
   rw[QG.mp h];exact zl
  exact N8.low u (QI _ h)
 obtain⟨ns,ls,x4,x5,x6,rfl,N,hn,hl⟩:=pv;lk;exact k nm ns H' hn Hnm N.n (List.nodup_append.mp N.nd).1 (λn h=>N.low n (QK _ h)) N.kp
end
section
open PySem.Spec PyProof.Rows
theorem uo {r:Rg} (ok:RgOk r) (low:∀n∈r.ws,Low n) {a:Arc} (h:a∈r.arcs):ArL a:=by
 have o:=ok.arcs a h;exact⟨⟨low _ o.o.1,o.o.2⟩,⟨low _ o.t.1,o.t.2⟩,o.m⟩
theorem nR (t:Tu):PySem.Txt.join "" [t.1,t.2]=mk (tuT t):=bz (by rw[c7];rfl)
theorem sU (a:Arc):mk (tuT a.one)++(">" : Str)++mk (tuT a.two)++(if a.mark=1 then ("*" : Str) else "")=mk (arT a):=bz (by
 rw[bL,bL,bL];show tuT a.one++[62]++tuT a.two++_=_;unfold arT arB
 split <;> simp <;> rfl)
variable {i:Int}
theorem we {z:Str} {k:Nat} (e:i=-(k:Int)) (h1:1<=k) (h:k<=z.length):PySem.Txt.slice z none (some i)=PySem.Txt.slice z none (some ((z.length-k:Nat):Int)):=by
 subst e
 have a:(if -(k:Int)<0 then -(k:Int)+(z.length:Int) else -(k:Int))=((z.length-k:Nat):Int):=by
  rw[Qu (by omega),Int.ofNat_sub h];omega
 have b:(if ((z.length-k:Nat):Int)<0 then ((z.length-k:Nat):Int)+(z.length:Int) else ((z.length-k:Nat):Int))=((z.length-k:Nat):Int):=Qt (by omega)
 have q:Builtin.Str.strSliceIndices none (some (-(k:Int))) 1 z.length=Builtin.Str.strSliceIndices none (some ((z.length-k:Nat):Int)) 1 z.length:=by
  unfold Builtin.Str.strSliceIndices;dsimp only;rw[a,b]
 unfold PySem.Txt.slice;rw[q]
theorem rE {z:Str} {k:Nat} (e:i=-(k:Int)) (h1:1<=k) (h:k<=z.length):PySem.Txt.slice z (some i) none=PySem.Txt.slice z (some ((z.length-k:Nat):Int)) none:=by
 subst e
 have a:(if -(k:Int)<0 then -(k:Int)+(z.length:Int) else -(k:Int))=((z.length-k:Nat):Int):=by
  rw[Qu (by omega),Int.ofNat_sub h];omega
 have b:(if ((z.length-k:Nat):Int)<0 then ((z.length-k:Nat):Int)+(z.length:Int) else ((z.length-k:Nat):Int))=((z.length-k:Nat):Int):=Qt (by omega)
 have q:Builtin.Str.strSliceIndices (some (-(k:Int))) none 1 z.length=Builtin.Str.strSliceIndices (some ((z.length-k:Nat):Int)) none 1 z.length:=by
  unfold Builtin.Str.strSliceIndices;dsimp only;rw[a,b]
 unfold PySem.Txt.slice;rw[q]
theorem gE (w v:List Nat) (e:i=-(v.length:Int)) (h1:1<=v.length):PySem.Txt.slice (mk (w++v)) none (some i)=mk w:=by
 have l:(mk (w++v)).length=w.length+v.length:=by rw[aM,Qg]
 refine bz ?_;rw[we e h1 (by omega),qt (by show _<=(mk (w++v)).length;omega),cM,l,Xq,List.take_left]
theorem i6 (w v:List Nat) (e:i=-(v.length:Int)) (h1:1<=v.length):PySem.Txt.slice (mk (w++v)) (some i) none=mk v:=by
 have l:(mk (w++v)).length=w.length+v.length:=by rw[aM,Qg]
 refine bz ?_;rw[rE e h1 (by omega),lM (by show _<=(mk (w++v)).length;omega),cM,l,Xq,List.drop_left]
theorem f9 (d:Nat):("*" : Str).cps.contains d=decide (d=42):=by
 have e:("*" : Str).cps=#[42]:=by decide +kernel
 rw[e];simp
theorem hi0 (l:List Nat) {c:Nat} (hc:c≠42):stripHi ("*" : Str).cps.contains true (mk (l++[c])) 0=(mk (l++[c])).length:=by
 unfold stripHi;rw[Qu rfl,cM,List.drop_zero,List.reverse_append,List.reverse_singleton,List.singleton_append,List.takeWhile_cons,f9,QE hc];rfl
theorem tz (l:List Nat) {c:Nat} (hc:c≠42):cY "*" (mk (l++[c]))=mk (l++[c]):=by
 have lo:stripLo ("*" : Str).cps.contains false (mk (l++[c]))=0:=Qt (by decide);unfold cY stripSame;rw[lo,hi0 l hc,Qu (by simp)]
theorem tw (l:List Nat) {c:Nat} (hc:c≠42):cY "*" (mk (l++[c]++[42]))=mk (l++[c]):=by
 have lo:stripLo ("*" : Str).cps.contains false (mk (l++[c]++[42]))=0:=Qt (by decide);have ln:(mk (l++[c]++[42])).length=(l++[c]).length+1:=by rw[aM,Qg];rfl
 have hi:stripHi ("*" : Str).cps.contains true (mk (l++[c]++[42])) 0=(l++[c]).length:=by
  unfold stripHi;rw[Qu rfl,cM,List.drop_zero,List.reverse_append,List.reverse_singleton,List.singleton_append,List.takeWhile_cons,f9,QA rfl,Qu rfl,List.reverse_append,List.reverse_singleton,List.singleton_append,List.takeWhile_cons,f9,QE hc,ln];rfl
 unfold cY stripSame stripped;rw[lo,hi,Qt (by rw[ln];simp)];refine bz ?_;rw[PySem.StrLaws.strSub_toList,cM,List.drop_zero,Nat.sub_zero,List.take_left]
theorem n5 (l:List Nat) (c:Nat):n8 "*" (mk (l++[c]))=decide (c=42):=by
 have e:("*" : Str)=mk [42]:=by decide +kernel
 have ln:(mk (l++[c])).length=l.length+1:=by rw[aM,Qg];rfl
 have l1:(mk [42]).length=1:=rfl;unfold n8 Builtin.Str.subAt;rw[e,l1,ln,QA (by omega),Bool.true_and,Xq]
 have x:(mk (l++[c])).cps.extract l.length (l.length+1)=#[c]:=by
  apply Array.ext'
  rw[Array.toList_extract];show ((l++[c]).toArray.toList.extract _ _)=_;simp
 rw[x];show (#[c]==#[42])=_;by_cases h:c=42
 ·subst h;decide +kernel
 rw[QE h];simp[h]
end
def mW:Sp:=λvs H Q _=>∃(v:V) (a:Arc),vs=[v]/\ArA H v a/\ArL a/\Q (.str (mk (arT a))) H
section
theorem jR:FnScope ["arc"] ["arc"] (am (top 25)):=by fin2
theorem rj {f:Addr} {fd:FuncData} (Fu:Fun K "show_arc" "show_arc" (top 25) f fd) (T:Txt K mg TT):FnOk P w K mg base CX0 1 f fd ["arc"] mW:=by
 have S:=jR;refine Fu.ok S (by room) (λcdv A outer s H vs Q E hr h=>?_);obtain⟨v,a,rfl,⟨b,v1,v2,rfl,hb,⟨b1,rfl,h1⟩,b2,rfl,h2⟩,al,q⟩:=h;refine⟨_,(aK (aA (aQ aY (aQ aY (aQ aY (bt QN Xj Xk kr ax (aa (au aB (pv 0) af) ad)) ax) (bt QN Xj Xk kr ax (aa (au aB (pv 0) af) ad))) (eE (aP cA (au aB (pv 0) af) af (aH _)) ax ax)))),?_⟩;x_go;lk;have e0:("" : Str).length=0:=by decide +kernel
 have e1:(">" : Str).length=1:=by decide +kernel
 have e2:("*" : Str).length=1:=by decide +kernel
 have l1:a.one.1.length<=8:=al.o.n.l8;have l2:a.two.1.length<=8:=al.t.n.l8
 have sg:∀{t:Tu},TuL t->t.2.length=1:=λ{t} h=>by
  rcases h.w with e|e <;> rw[e] <;> decide +kernel
 have s1:=sg al.o;have s2:=sg al.t;have t1:=al.o.len;have t2:=al.t.len;refine⟨cB,?_⟩;lk;refine⟨_,b1,[a.one.1,a.one.2],rfl,rfl,SqT.of h1,by rw[e0];simp only[Qo,List.map_nil,List.sum_cons,List.sum_nil,QC,XG];omega,?_⟩;rw[nR];lk;refine⟨_,_,rfl,rfl,by rw[aM,e1];omega,?_⟩;lk;refine⟨cB,?_⟩;lk;refine⟨_,b2,[a.two.1,a.two.2],rfl,rfl,SqT.of h2,by rw[e0];simp only[Qo,List.map_nil,List.sum_cons,List.sum_nil,QC,XG];omega,?_⟩;rw[nR];refine⟨_,_,rfl,rfl,by rw[bh,aM,aM,e1];omega,?_⟩;lk
 have fin:∀s:Str,s=(if a.mark=1 then ("*" : Str) else "")->Q (.str (mk (tuT a.one)++(">" : Str)++mk (tuT a.two)++s)) H:=λs e=>by
  rw[e,sU];exact q
 by_cases c:a.mark=1
 ·refine ifT (QA (by rw[c])) ?_;refine⟨_,_,rfl,rfl,by rw[bh,bh,aM,aM,e1,e2];omega,?_⟩;exact fin _ (Qu c).symm
 refine ifF (QE λz=>c (V.int.inj z)) ?_;refine⟨_,_,rfl,rfl,by rw[bh,bh,aM,aM,e1,e0];omega,?_⟩;exact fin _ (Qt c).symm
end
def oT:List Str->List Nat
 | []=>[]
 | n::r=>JJ [32] n.cps.toList (r.map (·.cps.toList))
def rgW (r:Rg):List Nat:=JJ [59,32] (iT r.ins) [oT r.outs,r.z.cps.toList,asT r.arcs]
theorem kj (h:1<=ns.length):oT ns=iT ns:=by
 cases ns with
 | nil=>simp at h
 | cons n r=>rfl
theorem ot (h:∀a∈as,ArL a) (l:as.length<=190):(asT as).length<=5000:=by
 cases as with
 | nil=>show 0<=_;omega
 | cons a r =>
 have z:=jr (Y:=[44,32]) (m:=20) (r.map arT) (arT a) λq hq=>by
  rcases Qw.mp hq with e|hq
  ·subst e;exact eR (h a (by simp))
  obtain⟨s,hs,rfl⟩:=Qn.mp hq;exact eR (h s (Qj _ hs))
 rw[Qb]at z;rw[QC]at l;have e:([44,32]:List Nat).length=2:=rfl;rw[e]at z;show (JJ [44,32] (arT a) (r.map arT)).length<=5000;omega
theorem um (h:∀a∈as,ArL a):59∉asT as:=by
 cases as with
 | nil=>intro z;cases z
 | cons a r =>
 intro z;rcases jo _ _ z with z|⟨q,hq,z⟩
 ·simp at z
 rcases Qw.mp hq with e|hq
 ·subst e;exact fX (h a (by simp)) (by omega) z
 obtain⟨s,hs,rfl⟩:=Qn.mp hq;exact fX (h s (Qj _ hs)) (by omega) z
theorem vB (st:StOk n z) (h:c≠48/\c≠49):c∉z.cps.toList:=λm=>by
 have:=st.signs c m;omega
theorem sM {a:Arc} {r:List Arc} (h:∀x∈a::r,ArL x):PySem.Txt.split (mk (asT (a::r))) ", " = (a::r).map λx=>mk (arT x):=by
 have q:=f_ (x:=mk (asT (a::r))) (y := ", ") (c:=44) (Y':=[32]) (p:=arT a) (ps:=r.map arT) (by decide +kernel) (by decide +kernel) rfl λq hq=>by
  rcases Qw.mp hq with e|hq
  ·subst e;exact fX (h a (by simp)) (by omega)
  obtain⟨s,hs,rfl⟩:=Qn.mp hq;exact fX (h s (Qj _ hs)) (by omega)
 rw[q,Qo,Xy,Qo];rfl
theorem qz (ok:RgOk r) (rx:RgX r):PySem.Txt.split (mk (rgW r)) "; " = [mk (iT r.ins),mk (oT r.outs),r.z,mk (asT r.arcs)]:=by
 have al:∀a∈r.arcs,ArL a:=λa h=>uo ok rx.low h;have lo:∀n∈r.outs,Low n:=λn h=>rx.low n (QI _ h);have li:∀n∈r.ins,Low n:=λn h=>rx.low n (QK _ h)
 have h:=f_ (x:=mk (rgW r)) (y := "; ") (c:=59) (Y':=[32]) (p:=iT r.ins) (ps:=[oT r.outs,r.z.cps.toList,asT r.arcs]) (by decide +kernel) (by decide +kernel) rfl λq hq=>by
  simp only[Qw,XJ,or_false]at hq;rcases hq with rfl|rfl|rfl|rfl
  ·exact r_ li (.inl (by decide)) (by decide) (by decide)
  ·rw[kj rx.o1];exact r_ lo (.inl (by decide)) (by decide) (by decide)
  ·exact vB ok.st (by decide)
  exact um al
 rw[h];show [mk (iT r.ins),mk (oT r.outs),mk r.z.cps.toList,mk (asT r.arcs)]=_;rw[<-bz (z:=r.z) rfl]
theorem i4 (ok:RgOk r) (full:lr r):∃a s,r.arcs=a::s:=by
 have w1:=ok.w1;obtain⟨a,ha,_⟩:=full (r.ws[0], "+") ⟨Xv w1,.inl rfl⟩
 cases e:r.arcs with
 | nil=>rw[e]at ha;cases ha
 | cons a s=>exact⟨a,s,rfl⟩
theorem dF {m:Nat}:∀(ms:List Str),(∀n∈ms,n.length<=m)->(ms.map (·.length)).sum<=m*ms.length
 | [],_=>by simp
 | z::s,h=>by
  have h1:=h z (by simp);have h2:=dF s λn hn=>h n (Qj _ hn);rw[Qo,List.sum_cons,QC,Nat.mul_add];omega
theorem gp {α:Type} {f:α->V}:∀(xs:List α),Paired (λv x=>v=f x) (xs.map f) xs
 | []=>.nil
 | _::xs=>.cons rfl (gp xs)
def gb:Sp:=λvs H Q _=>∃(a li lo l:Addr) (as:List V) (r:Rg),vs=[.ref a]/\RgA H a li lo l as r/\RgOk r/\RgX r/\lr r/\∀H',aw H H'->Q (.str (mk (rgW r))) H'
def mY:Sp:=λvs H Q _=>∃(t:Tu),vs=[.str (mk (tuT t))]/\TuL t/\∀v H',aw H H'->TuA H' v t->Q v H'
def m4:Sp:=λvs H Q _=>∃(a:Arc),vs=[.str (mk (arT a))]/\ArL a/\∀v H',aw H H'->ArA H' v a->Q v H'
def jL:Sp:=λvs H Q _=>∃(r:Rg),vs=[.str (mk (rgW r))]/\RgOk r/\RgX r/\lr r/\(r.arcs.map tkA).Pairwise leF /\
 ∀a li lo l as H',aw H H'->H li=none->H lo=none->H l=none->li≠lo->li≠l->lo≠l->RgA H' a li lo l as r->Q (.ref a) H'
section
theorem dX:FnScope ["ring_sheet", "arcs"] ["ring_sheet"] (am (top 26)):=by fin2
variable {fd:FuncData} {f:Addr}
theorem o0 (Fu:Fun K "show_ring_sheet" "show_ring_sheet" (top 26) f fd) (T:Txt K mg TT) (f_show_arc:Fn P w K mg base "show_arc" ["arc"] 1 mW) (f_show_inputs:Fn P w K mg base "show_inputs" ["inputs"] 1 mV):FnOk P w K mg base CX0 2 f fd ["ring_sheet"] gb:=by
 have S:=dX;refine Fu.ok S (by room) (λcdv A outer s H vs Q E hr h=>?_);obtain⟨a,li,lo,l,as,r,rfl,at_,ok,rx,full,q⟩:=h;have big:1000000<sizeLine:=by decide
 have al:∀a∈r.arcs,ArL a:=λa h=>uo ok rx.low h;have lon:∀n∈r.outs,Low n:=λn h=>rx.low n (QI _ h);have lin:∀n∈r.ins,Low n:=λn h=>rx.low n (QK _ h);have w5:r.ins.length+r.outs.length<=5:=by have:=ok.w5;unfold Rg.ws at this;rw[Qg]at this;exact this
 have few:=rx.few;obtain⟨x0,xs0,ex⟩:=i4 ok full;refine'⟨?_,?bb,?_⟩
 case bb =>
  walk_at "b";exact bo 1 S.nd (bt QN Xj Xk c4 ax (aa (fB "arc" [] (cC (au aB (pv 0) af)) (λ_ _ _ _=>(aR f_show_arc hr (aa (pv 0) ad ae)))) ad))
  with_reducible refine' aA ?e
  case e =>
   exact(bt QN Xj Xk c4 ax (aa (pe_lst (aa (aR f_show_inputs hr (aa (au aB (pv 0) af) ad)) (aa (bt QN Xj Xk c4 ax (aa (au aB (pv 0) af) ad)) (aa (au aB (pv 0) af) (aa (pv 1) ad ae)) aW) aW)) ad se_lst))
 x_go;have ha:=at_.ha;lk;refine⟨cB,?_⟩;lk;refine cb (s_list (i_op (bw rfl (i_c (i_ixT ha rfl ⟨l,rfl,⟨_,SqL.of at_.arcs.h⟩,λD hD=>?_⟩)))));refine c9 (λ_=>true) (λH v (x:Arc)=>v=.str (mk (arT x))) hD at_.arcs.h at_.arcs.p (by omega) (λH H' v x k h=>h) (λv x H' ia mx S' G N hG _=>?_) (λH1 ys S1 hy p=>?_)
 ·refine aZ ⟨trivial,i_yes (iteT ?_)⟩;refine i_call (i_cons (bw rfl (i_nil ⟨v,x,rfl,ia.kt (aw.tups S'),al x mx,?_⟩)));exact hG rfl _ H' (aw.refl _) rfl
 rw[bR]at p;have hy:H1 D=some (.lst ((r.arcs.map λx=>mk (arT x)).map V.str)):=by rw[hy,dE (f:=λx=>V.str (mk (arT x))) p,Xy];rfl
 have at1:=at_.same S1;have e2:(", " : Str).length=2:=by decide +kernel
 refine i_nil (d8 hy ?_ ?_)
 ·have z:=dF (m:=20) (r.arcs.map λx=>mk (arT x)) λn hn=>by
   obtain⟨x,hx,rfl⟩:=Qn.mp hn;rw[aM];exact eR (al x hx)
  rw[e2];rw[Qb]at z ⊢;omega
 have ej:PySem.Txt.join ", " (r.arcs.map λx=>mk (arT x))=mk (asT r.arcs):=by
  rw[ex];exact bz (by rw[Qo,c7,Xy];rfl)
 rw[ej];have ha1:=at1.ha;have asl:=ot al few;lk;refine⟨cB,?_⟩;lk;refine⟨li,r.ins,rfl,at1.hi,by omega,lin,?_⟩;lk;refine⟨cB,?_⟩;lk;have il:=d9 lin (by omega);have ol:=d9 lon (by omega);have e1:(" " : Str).length=1:=by decide +kernel
 refine d8 at1.ho ?_ ?_
 ·have z:=dF (m:=8) r.outs λn hn=>(lon n hn).l8;rw[e1];omega
 have eo:PySem.Txt.join " " r.outs=mk (oT r.outs):=by
  cases eo:r.outs with
  | nil=>have:=rx.o1;rw[eo]at this;simp at this
  | cons n s=>exact bz (c7 " " s n)
 rw[eo];lk;refine⟨by simp[sizeLine],λp2 hp2=>?_⟩;ctx_has H1 p2 H2 S2 q2 az hp2;have q2:H2 p2=some (.lst ([mk (iT r.ins),mk (oT r.outs),r.z,mk (asT r.arcs)].map V.str)):=q2;have zl:r.z.length=r.ws.length:=ok.st.len;have e3:("; " : Str).length=2:=by decide +kernel
 refine i_nil (d8 q2 ?_ ?_)
 ·rw[e3,kj rx.o1];simp only[Qo,List.map_nil,List.sum_cons,List.sum_nil,QC,XG,aM];have:=ok.w5;omega
 have ej:PySem.Txt.join "; " [mk (iT r.ins),mk (oT r.outs),r.z,mk (asT r.arcs)]=mk (rgW r):=bz (by rw[c7];rfl);rw[ej];exact q H2 (S1.trans S2)
theorem iF:FnScope ["text"] ["text"] (am (top 28)):=by fin2
theorem rm (Fu:Fun K "read_turn" "read_turn" (top 28) f fd) (T:Txt K mg TT):FnOk P w K mg base CX0 1 f fd ["text"] mY:=by
 have S:=iF;refine Fu.ok S (by room) (λcdv A outer s H vs Q E hr h=>?_);obtain⟨t,rfl,tl,q⟩:=h;refine⟨_,(aK (aA (pe_tup (aa (dj lN (pv 0) eC (eB (gm dU af))) (aa (dj lN (pv 0) (eB (gm dU af)) eC) ad))))),?_⟩;x_go;have ln:=tl.len;obtain⟨c,_,e1,e2⟩:=tl.sg;have et:tuT t=t.1.cps.toList++[c]:=by unfold tuT;rw[e2]
 lk;refine rZ (by rw[aM];omega) ?_;have c1:PySem.Txt.slice (mk (t.1.cps.toList++[c])) none (some (-1))=mk t.1.cps.toList:=gE _ [c] rfl (Qi 1);have c2:PySem.Txt.slice (mk (t.1.cps.toList++[c])) (some (-1)) none=mk [c]:=i6 _ [c] rfl (Qi 1);rw[et,c1,<-bz (z:=t.1) rfl];lk;refine rZ (by rw[aM,<-et];omega) ?_;rw[c2,<-e1];lk;refine⟨by simp[sizeLine],λp hp=>?_⟩;exact q _ _ (aE hp) ⟨p,rfl,ag⟩
theorem jS:FnScope ["text", "turns"] ["text"] (am (top 29)):=by fin2
theorem rp (Fu:Fun K "read_arc" "read_arc" (top 29) f fd) (T:Txt K mg TT) (f_read_turn:Fn P w K mg base "read_turn" ["text"] 1 mY):FnOk P w K mg base CX0 2 f fd ["text"] m4:=by
 have S:=jS;refine Fu.ok S (by room) (λcdv A outer s H vs Q E hr h=>?_);obtain⟨a,rfl,al,q⟩:=h
 refine⟨_,(pss_cons (bo 1 S.nd (bt QN PySem.F.slot_str_partition PySem.F.type_str_partition iQ (bt QN PySem.F.slot_str_rstrip PySem.F.type_str_rstrip pi (pv 0) (aa ax ad aD)) (aa ax ad aD)))
  (aK (aA (pe_tup (aa (aR f_read_turn hr (aa (au aB (pv 1) af) ad)) (aa (aR f_read_turn hr (aa (au aB (pv 1) af) ad)) (aa (eE (bp (bt QN PySem.F.slot_str_endswith PySem.F.type_str_endswith kw (pv 0) (aa ax ad aD))) af af) ad) aW) aW))))),?_⟩
 x_go;have ln:=eR al;obtain⟨c,hc,e1,e2⟩:=al.t.sg;have eb:arB a=(tuT a.one++62::a.two.1.cps.toList)++[c]:=by unfold arB;rw[show tuT a.two=a.two.1.cps.toList++[c] by unfold tuT;rw[e2]];simp
 have c42:c≠42:=by omega
 have rs:L2.cY "*" (mk (arT a))=mk (arB a):=by
  unfold arT
  split
  ·rw[eb];exact tw _ c42
  rw[XD,eb];exact tz _ c42
 have en:L2.n8 "*" (mk (arT a))=decide (a.mark=1):=by
  unfold arT;by_cases m:a.mark=1
  ·rw[Qu m,n5,QA rfl,QA m]
  rw[Qt m,XD,eb,n5,QE c42,QE m]
 have lb:(arB a).length<=20:=by
  have:(arB a).length<=(arT a).length:=by unfold arT;rw[Qg];omega
  omega
 lk;refine⟨cB,?_⟩;lk;refine⟨_,_,rfl,rfl,by rw[aM];omega,?_⟩;rw[rs];lk;refine⟨cB,?_⟩;lk;obtain⟨t,ho⟩:=iP (x:=mk (arB a)) (c:=62) (p:=tuT a.one) (R:=tuT a.two) rfl (al.o.out (by omega) (by omega) (by omega));have e0:(">" : Str)=⟨#[62]⟩:=by decide +kernel
 refine⟨mk (arB a), ">", (tuT a.one).length,t,rfl,rfl,by decide +kernel,by rw[aM];omega,by rw[e0];exact ho,λp hp=>?_⟩;have e3:Builtin.Str.strSub (mk (arB a)) 0 (tuT a.one).length=mk (tuT a.one):=sX (tuT a.one) (tuT a.two) 62;have e4:Builtin.Str.strSub (mk (arB a)) ((tuT a.one).length+(">" : Str).length) (mk (arB a)).length=mk (tuT a.two):=sW (tuT a.one) (tuT a.two) 62;rw[e3,e4];ctx_has H p H1 S1 q1 az hp;lk;refine⟨a.one,rfl,al.o,λv1 H2 S2 t1=>?_⟩;have q2:=S2 _ _ q1;lk;refine⟨a.two,rfl,al.t,λv2 H3 S3 t2=>?_⟩;have t1:=t1.kt (aw.tups S3);lk;refine⟨cB,?_⟩;lk;refine⟨_,_,rfl,rfl,?_⟩;rw[en];refine⟨_,rfl,?_⟩
 have fin:∀x:V,x=.int a.mark->∀p:Addr,H3 p=none->Q (.ref p) (upd H3 p (.tup [v1,v2,x])):=λx ex p hp=>by
  subst ex;have S4:=aE (o:=.tup [v1,v2,.int a.mark]) hp;exact q _ _ ((S1.trans S2).trans (S3.trans S4)) ⟨p,v1,v2,rfl,ag,t1.kt (aw.tups S4),t2.kt (aw.tups S4)⟩
 by_cases m:a.mark=1
 ·refine ifT (QA m) ?_;lk;exact⟨by simp[sizeLine],fin _ (by rw[m])⟩
 refine ifF (QE m) ?_;lk;exact⟨by simp[sizeLine],fin _ (by rcases al.m with e|e <;> first|rw[e];done|exact absurd e m)⟩
theorem dY:FnScope ["text", "parts", "arcs", "ring_sheet"] ["text"] (am (top 30)):=by fin2
theorem o_ (Fu:Fun K "read_ring_sheet" "read_ring_sheet" (top 30) f fd) (T:Txt K mg TT) (f_read_arc:Fn P w K mg base "read_arc" ["text"] 2 m4) (f_read_inputs:Fn P w K mg base "read_inputs" ["text"] 1 mZ) (f_is_ring_sheet:Fn P w K mg base "is_ring_sheet" ["thing"] 5 jN) (f_show_ring_sheet:Fn P w K mg base "show_ring_sheet" ["ring_sheet"] 2 gb):FnOk P w K mg base CX0 6 f fd ["text"] jL:=by
 have S:=dY;refine Fu.ok S (by room) (λcdv A outer s H vs Q E hr h=>?_);obtain⟨r,rfl,ok,rx,full,so,q⟩:=h;have big:1000000<sizeLine:=by decide
 have al:∀a∈r.arcs,ArL a:=λa h=>uo ok rx.low h;have lon:∀n∈r.outs,Low n:=λn h=>rx.low n (QI _ h);have lin:∀n∈r.ins,Low n:=λn h=>rx.low n (QK _ h);have w5:r.ins.length+r.outs.length<=5:=by have:=ok.w5;unfold Rg.ws at this;rw[Qg]at this;exact this
 have few:=rx.few;obtain⟨x0,xs0,ex⟩:=i4 ok full;have il:=d9 lin (by omega);have ol:=d9 lon (by omega);have asl:=ot al few
 have wl:(rgW r).length<=30000:=by
  have zl:r.z.cps.toList.length=r.ws.length:=by rw[Qe];exact ok.st.len
  have z:=jr (Y:=[59,32]) (m:=5000) [oT r.outs,r.z.cps.toList,asT r.arcs] (iT r.ins) λq hq=>by
   simp only[Qw,XJ,or_false]at hq;have:=ok.w5;rcases hq with rfl|rfl|rfl|rfl
   ·omega
   ·rw[kj rx.o1];omega
   ·omega
   exact asl
  exact QO z (by show 5000+3*(2+5000)<=30000;decide)
 refine'⟨?_,(pss_cons (ps_if ?h0 e9 pss_nil) (pss_cons ?h1 (pss_cons (ps_if ?h2 e9 pss_nil) (pss_cons ?h3 (pss_cons ?h4 (pss_cons (ps_if ?h5 e9 pss_nil) (aK ?h6))))))),?_⟩
 case h0=>exact(br (bp (ah aC (by rfl) T.n_isinstance Qr (aa (pv 0) (aa (bg (v:=.ty "str") (by rfl) T.n_str Xw rfl) ad ae) ae))))
 case h1 =>
  refine' bo 1 S.nd ?e
  case e=>exact(bt QN PySem.F.slot_str_split PySem.F.type_str_split eJ (pv 0) (aa ax ad aD))
 case h2=>exact(aP du (ah av (by rfl) T.n_len QM (aa (pv 1) ad ae)) af (aH _))
 case h3=>exact(qI (j:=2) S.nd rfl (by z_go) (tgs:=["part"]) (cap:=[]) rfl ⟨rfl,rfl,rfl,rfl,rfl,rfl⟩ (cC (bt QN PySem.F.slot_str_split PySem.F.type_str_split eJ (au bn (pv 1) af) (aa ax ad aD))) (λ_ _ _ _=>(cK (i:=0) (show List.Nodup [("part" : Str)] by decide +kernel) rfl (by z_go))) (λ_ _ _ _=>eD) (λ_ _ _ _=>(aR f_read_arc hr (aa (pv 0) ad ae))))
 case h4 =>
  refine' bo 3 S.nd ?e
  case e =>
   with_reducible refine' pe_tup ?a1
   case a1 =>
    with_reducible refine' aa ?e2 ?s2 aW
    case e2 =>
     refine' aR f_read_inputs hr ?a3
     case a3 =>
      with_reducible refine' aa ?e4 ?s4 se_sub
      case e4 =>
       with_reducible refine' au ?r5 ?v5 ?b5 ?p5
       case r5=>exact bn
       case p5=>exact(λ_ _=>rfl)
       case v5 =>
        exact(pv 1)
       case b5 =>
        exact af
      case s4 =>
       exact ad
    case s2 =>
     with_reducible refine' aa ?e8 ?s8 aW
     case e8 =>
      exact(bt QN PySem.F.slot_str_split PySem.F.type_str_split eJ (au bn (pv 1) af) (aa ax ad aD))
     case s8 =>
      with_reducible refine' aa ?e10 ?s10 se_sub
      case e10 =>
       with_reducible refine' au ?r11 ?v11 ?b11 ?p11
       case r11=>exact bn
       case p11=>exact(λ_ _=>rfl)
       case v11 =>
        exact(pv 1)
       case b11 =>
        exact af
      case s10 =>
       with_reducible refine' aa ?e14 ?s14 ae
       case e14 =>
        exact(pv 2)
       case s14 =>
        exact ad
 case h5=>exact(PW.pt (cF (br (bp (aR f_is_ring_sheet hr (aa (pv 3) ad ae)))) (bZ (aP du (aR f_show_ring_sheet hr (aa (pv 3) ad ae)) (pv 0) (aH _)))))
 case h6=>exact(aA (pv 3))
 x_go;lk;refine⟨_,_,_,_,rfl,TyOf.str _,be "str", ?_⟩;refine⟨_,rfl,cu ?_⟩;lk;refine⟨cB,?_⟩;lk;refine⟨_,_,rfl,rfl,by decide +kernel,by rw[aM];omega,λp hp=>?_⟩;ctx_has H p H1 S1 q1 az hp;rw[qz ok rx]at q1;have q1:H1 p=some (.lst [.str (mk (iT r.ins)),.str (mk (oT r.outs)),.str r.z,.str (mk (asT r.arcs))]):=q1;lk;refine ifF (by first|rfl|simp) ?_;lk;refine cb (s_list ?_);lk
 try refine i_ixL (SqL.of q1) (bv (j:=3) rfl) ?_
 refine⟨cB,?_⟩;lk;refine⟨_,_,rfl,rfl,by decide +kernel,by rw[aM];omega,λp2 hp2=>?_⟩;ctx_has H1 p2 H2 S2 q2 az hp2;have esp:PySem.Txt.split (mk (asT r.arcs)) ", " = r.arcs.map λx=>mk (arT x):=by rw[ex];rw[ex]at al;exact sM al
 rw[esp,Xy]at q2;have q12:=S2 _ _ q1;refine⟨p2,rfl,⟨_,SqL.of q2⟩,λD hD=>?_⟩;refine c9 (I:=λv x=>v=(V.str∘λx:Arc=>mk (arT x)) x) (λ_=>true) (λH v (x:Arc)=>ArA H v x) hD q2 (gp _) (by omega) (λH H' v x k h=>h.kt k) (λv x H' ev mx S' G N hG _=>?_) (λH3 ys S3 hy pr=>?_)
 ·subst ev;refine aZ ⟨trivial,i_yes (iteT ?_)⟩;refine i_call (i_cons (bw rfl (i_nil ⟨x,rfl,al x mx,λv H4 S4 ha=>?_⟩)));exact hG rfl _ _ S4 ha
 rw[bR]at pr;have q13:=S3 _ _ q12;have S03:aw H H3:=S1.trans (S2.trans S3);have HD:H D=none:=c0 (S1.trans S2) hD;lk
 try refine i_ixL (SqL.of q13) (bv (j:=0) rfl) ?_
 lk;refine⟨r.ins,rfl,by omega,lin,λli H4 S4 nli hli=>?_⟩;have q14:=S4 _ _ q13;lk
 try refine i_ixL (SqL.of q14) (bv (j:=1) rfl) ?_
 refine⟨cB,?_⟩;lk;refine⟨_,_,rfl,rfl,by decide +kernel,by rw[aM,kj rx.o1];omega,λlo hlo=>?_⟩;ctx_has H4 lo H5 S5 q5 az hlo
 have eso:PySem.Txt.split (mk (oT r.outs)) " " = r.outs:=by
  cases eo:r.outs with
  | nil=>have:=rx.o1;rw[eo]at this;simp at this
  | cons n s=>rw[eo]at lon;exact kS lon
 rw[eso]at q5;have q15:=S5 _ _ q14;lk
 try refine i_ixL (SqL.of q15) (bv (j:=2) rfl) ?_
 lk;refine⟨by simp[sizeLine],λa ha=>?_⟩;ctx_has H5 a H6 S6 q6 az ha;have S36:=(S4.trans S5).trans S6;have at6:RgA H6 a li lo D ys r:=⟨q6,S6 _ _ (S5 _ _ hli),S6 _ _ q5,S36 _ _ hy,ay (λ_ _ h=>ArA.kt (aw.tups S36) h) pr⟩;have HL:H li=none:=c0 S03 nli;have HO:H lo=none:=c0 (S03.trans S4) hlo;have n1:li≠lo:=(bO hli hlo).symm;have n2:li≠D:=bO hy nli;have n3:lo≠D:=bO (S4 _ _ hy) hlo;lk;refine⟨a,li,lo,D,ys,r,rfl,at6,ok,full,rx,so,λH7 S7=>?_⟩;refine⟨_,rfl,cu ?_⟩;lk;refine⟨a,li,lo,D,ys,r,rfl,at6.same S7,ok,rx,full,λH8 S8=>?_⟩;lk;refine ifF (by simp) ?_;lk;exact q a li lo D ys H8 ((S03.trans S36).trans (S7.trans S8)) HL HO HD n1 n2 n3 ((at6.same S7).same S8)
end
def Ap (H:Hp) (f:Addr) (ns:List Str) (s:Str->Bool):Prop:=∃kvs:List (Key × V),H f=some (.dK kvs)/\kvs.length<=20/\∀n:Str,bJ kvs (Sum.inr n:Key)=if n∈ns then some (sg (s n)) else none
def w1 (b:Bool):Str:=if b=true then "-" else "+"
def w2 (b:Bool):Str:=if b=true then "+" else "-"
theorem w12 (b:Bool):w1 b≠w2 b:=by cases b <;> decide +kernel
structure OI (ws ls ns:List Str) (s:Str->Bool) (ts:List Tu):Prop where
 sub:∀n∈ls,n∈ws
 nsub:∀n∈ns,n∈ws
 two:∀n∈ws,n∉ns->ls.count n=2
 one:∀n∈ns,(n,w1 (s n))∈ts/\((ls.count n=1/\(n,w2 (s n))∉ts)\/(ls.count n=0/\(n,w2 (s n))∈ts))
 nd:ts.Nodup
 tin:∀t∈ts,t.1∈ns/\(t.2=w1 (s t.1)\/t.2=w2 (s t.1))
def jA (s:Str->Bool) (n:Str) (b:Bool) (x:Str):Bool:=if x=n then b else s x
theorem gr {xs:List α} {x:α} (h:xs.Nodup) (n:x∉xs):(xs++[x]).Nodup:=List.nodup_append.mpr ⟨h,by simp,λa ha b hb e=>n (by rw[<-QG.mp hb,<-e];exact ha)⟩
theorem sG {n:Str}:∀{ws:List Str},ws.Nodup->n∈ws->ws.count n=1
 | x::ws,nd,h=>by
  rw[Xb]at nd;by_cases c:x=n
  ·subst c;rw[List.count_cons_self,List.count_eq_zero.mpr nd.1]
  rw[List.count_cons_of_ne c];exact sG nd.2 ((Qw.mp h).resolve_left λz=>c z.symm)
theorem OI.start {ws:List Str} (nd:ws.Nodup):OI ws (ws++ws) [] (λ_=>false) []:=by
 refine⟨λn h=>(Qp.mp h).elim id id,(λn h=>nomatch h),λn h _=>?_,λn h=>(nomatch h),List.nodup_nil,λt h=>(nomatch h)⟩;rw[List.count_append,sG nd h]
variable {s:Str->Bool}
theorem OI.first {ws:List Str} {n:Str} {b:Bool} (o:OI ws ls ns s ts) (pm:(n::ls').Perm ls) (hn:n∉ns):OI ws ls' (ns++[n]) (jA s n b) (ts++[(n,w1 b)]):=by
 have cnt:∀x,ls.count x=ls'.count x+if n=x then 1 else 0:=λx=>by
  rw[<-pm.count_eq,List.count_cons];simp
 have nw:n∈ws:=o.sub n (pm.mem_iff.mp (by simp));have ex:∀x,x∈ns->jA s n b x=s x:=λx hx=>Qt λz=>hn (by rw[<-z];exact hx);have en:jA s n b n=b:=Qu rfl;have nt:∀y,(n,y)∉ts:=λy h=>hn (o.tin _ h).1;refine⟨λx h=>o.sub x (pm.mem_iff.mp (Qj _ h)),λx h=>?_,λx h hx=>?_,λx h=>?_,gr o.nd (nt _),λt h=>?_⟩
 ·rcases Qp.mp h with h|h
  ·exact o.nsub x h
  rw[QG.mp h];exact nw
 ·rw[Qp,QG,not_or]at hx;have:=cnt x;rw[Qt λz=>hx.2 z.symm,o.two x h hx.1]at this;omega
 ·rcases Qp.mp h with h|h
  ·have ne:n≠x:=λz=>hn (by rw[z];exact h);obtain⟨h1,h2⟩:=o.one x h;rw[ex x h];have c:=cnt x;rw[Qt ne]at c;refine⟨QK _ h1,?_⟩;rcases h2 with⟨a,q⟩|⟨a,q⟩
   ·exact .inl ⟨by omega,λz=>by
     rcases Qp.mp z with z|z
     ·exact q z
     exact ne (congrArg Prod.fst (QG.mp z)).symm⟩
   exact .inr ⟨by omega,QK _ q⟩
  have e:=QG.mp h;subst e;rw[en];have c:=cnt x;rw[Qu rfl,o.two x nw hn]at c;refine⟨by simp,.inl ⟨by omega,λz=>?_⟩⟩;rcases Qp.mp z with z|z
  ·exact nt _ z
  exact w12 b (congrArg Prod.snd (QG.mp z)).symm
 rcases Qp.mp h with h|h
 ·have:=o.tin t h;rw[ex _ this.1];exact⟨QK _ this.1,this.2⟩
 rw[QG.mp h];exact⟨by simp,.inl (by rw[en])⟩
theorem OI.second {ws:List Str} {n:Str} (o:OI ws ls ns s ts) (pm:(n::ls').Perm ls) (hn:n∈ns):OI ws ls' ns s (ts++[(n,w2 (s n))]):=by
 have cnt:∀x,ls.count x=ls'.count x+if n=x then 1 else 0:=λx=>by
  rw[<-pm.count_eq,List.count_cons];simp
 obtain⟨h1,h2⟩:=o.one n hn;have cn:=cnt n;rw[Qu rfl]at cn
 have nt:(n,w2 (s n))∉ts:=by
  rcases h2 with⟨a,q⟩|⟨a,q⟩
  ·exact q
  omega
 refine⟨λx h=>o.sub x (pm.mem_iff.mp (Qj _ h)),o.nsub,λx h hx=>?_,λx h=>?_,gr o.nd nt,λt h=>?_⟩
 ·have:=cnt x;rw[Qt λz=>hx (by rw[<-z];exact hn),o.two x h hx]at this;omega
 ·by_cases e:n=x
  ·subst e;exact⟨QK _ h1,.inr ⟨by rcases h2 with⟨a,_⟩|⟨a,_⟩ <;> omega,by simp⟩⟩
  have c:=cnt x;rw[Qt e]at c;obtain⟨h1,h2⟩:=o.one x h;refine⟨QK _ h1,?_⟩;rcases h2 with⟨a,q⟩|⟨a,q⟩
  ·exact .inl ⟨by omega,λz=>by
    rcases Qp.mp z with z|z
    ·exact q z
    exact e (congrArg Prod.fst (QG.mp z)).symm⟩
  exact .inr ⟨by omega,QK _ q⟩
 rcases Qp.mp h with h|h
 ·exact o.tin t h
 rw[QG.mp h];exact⟨hn,.inr rfl⟩
theorem OI.met {ws:List Str} (o:OI ws [] ns s ts) (n:Str):n∈ns↔n∈ws:=⟨o.nsub n,λh=>by
 by_cases c:n∈ns
 ·exact c
 have:=o.two n h c
 simp at this⟩
theorem OI.done {ws:List Str} (o:OI ws [] ns s ts) (nd:ws.Nodup):ts.Perm (bI ws):=by
 have both:∀b:Bool,(w1 b = "+" /\ w2 b = "-")\/(w1 b = "-" /\ w2 b = "+"):=λb=>by cases b <;> simp[w1,w2]
 refine(List.perm_ext_iff_of_nodup o.nd (gJ nd)).mpr λt=>?_;rw[bP]
 constructor
 ·intro h;obtain⟨h1,h2⟩:=o.tin t h;refine⟨(o.met _).mp h1,?_⟩;rcases both (s t.1) with⟨a,b⟩|⟨a,b⟩ <;> rw[a,b]at h2
  ·exact h2
  exact h2.symm
 rintro⟨h1,h2⟩;obtain⟨a,q⟩:=o.one t.1 ((o.met _).mpr h1)
 have b:(t.1,w2 (s t.1))∈ts:=by
  rcases q with⟨z,_⟩|⟨_,q⟩
  ·simp at z
  exact q
 have e:t=(t.1,w1 (s t.1))\/t=(t.1,w2 (s t.1)):=by
  rcases both (s t.1) with⟨x,y⟩|⟨x,y⟩ <;> rcases h2 with z|z
  ·exact .inl (Prod.ext rfl (by rw[x,z]))
  ·exact .inr (Prod.ext rfl (by rw[y,z]))
  ·exact .inr (Prod.ext rfl (by rw[y,z]))
  exact .inl (Prod.ext rfl (by rw[x,z]))
 rcases e with e|e
 ·rw[e];exact a
 rw[e];exact b
theorem cP {E:XK} (kp:Kp D H0 H) (h1:1<=m) (h2:m<=100000)
  (q:∀(r:Int) H',0<=r->r<m->(∀b o,H b=some o->¬D.own b->H' b=some o)->bS H H'->Kp D H0 H'->Q (.int r) H'):eU [.ref D.d,.int m] H Q E :=
 ⟨D,m,rfl,kp.dk,h1,h2,λr H' r0 r1 k=>q r H' r0 r1 k.old (Kp.tups kp.dk k) (kp.trans k)⟩
theorem u3 {x y:Str} (b:Bool) (ex:atI z.cps.toList 0=some cx) (ey:atI z.cps.toList 1=some cy) (hz:z.length<=sizeLine) (e1:(⟨#[cx]⟩:Str)=x) (e2:(⟨#[cy]⟩:Str)=y) (q:Q (.str (if b=true then y else x)) H):∃(t:Str) (n:Int),[sg b]=[V.str t]/\PySem.intText? t=some n/\t.length<=640/\oP (.str z) (.int n) H Q:=by
 cases b
 ·refine⟨_,0,rfl,by decide +kernel,by decide,kR hz ex ?_⟩;rw[e1];exact q
 refine⟨_,1,rfl,by decide +kernel,by decide,kR hz ey ?_⟩;rw[e2];exact q
theorem Bk (b:Bool) (q:Q (.str (w1 b)) H):∃(t:Str) (n:Int),[sg b]=[V.str t]/\PySem.intText? t=some n/\t.length<=640/\oP (.str "+-") (.int n) H Q :=
 u3 (x := "+") (y := "-") (cx:=43) (cy:=45) b (by decide +kernel) (by decide +kernel) (by decide) (by decide +kernel) (by decide +kernel) q
theorem Bj (b:Bool) (q:Q (.str (w2 b)) H):∃(t:Str) (n:Int),[sg b]=[V.str t]/\PySem.intText? t=some n/\t.length<=640/\oP (.str "-+") (.int n) H Q :=
 u3 (x := "-") (y := "+") (cx:=45) (cy:=43) b (by decide +kernel) (by decide +kernel) (by decide) (by decide +kernel) (by decide +kernel) q
def qq:Sp:=λvs H Q _=>∃(D:Dk) (wl:Addr) (ws:List Str),vs=[.ref D.d,.ref wl]/\D.At H/\H wl=some (.lst (ws.map V.str))/\¬D.own wl/\ws.Nodup/\ws.length<=5 /\
 ∀a o f vo ts s H',Kp D H H'->H' a=some (.tup [.ref o,.ref f])->H o=none->H f=none->o≠f->H' o=some (.lst vo)->Paired (TuA H') vo ts->ts.Perm (bI ws)->Ap H' f ws s->Q (.ref a) H'
section
theorem iG:FnScope ["deck", "wires", "firsts", "left", "order", "name"] ["deck", "wires"] (am (top 37)):=by fin2
theorem tS {f:Addr} {fd:FuncData} (Fu:Fun K "_law_order" "_law_order" (top 37) f fd) (T:Txt K mg TT) (f_law_take:Fn P w K mg base "_law_take" ["deck", "many"] 1 eU):FnOk P w K mg base CX0 2 f fd ["deck", "wires"] qq:=by
 have S:=iG;refine Fu.ok S (by room) (λcdv A outer s H vs Q E hr h=>?_);obtain⟨D,wl,ws,rfl,DA,hw,nw,nd,w5,k⟩:=h;have hu:=gz hr;refine'⟨?_,?bb,?_⟩
 case bb =>
  walk_at "b";exact bo 2 S.nd qQ;exact bo 3 S.nd (aQ cR (pv 1) (pv 1));exact bo 4 S.nd (pe_lst ad);refine' qG PassesOwn.never ?_ ?_;rotate_left 2;exact(aP (qV hr.units) (pv 3) (pe_lst ad) (aH _));walk_at "p";exact bo 5 S.nd (bt Q4 PySem.F.slot_list_pop PySem.F.type_list_pop kq (pv 3) (aa (aR f_law_take hr (aa (pv 0) (aa (ah av (by rfl) T.n_len QM (aa (pv 3) ad ae)) ad aW) ae)) ad aW));exact(vM (oU hu (pv 5) (pv 2)));exact(dD hu (pv 2) (pv 5) (au iY ax (aR f_law_take hr (aa (pv 0) (aa af ad aD) ae))) rfl);refine' cJ (bt Q4 Xh Xi bx (pv 4) ?a)
  case a =>
   walk_at "q";exact(pv 5);exact(au iY ax (bN dQ (by rfl) T.n_int XU (aa (fQ hu (pv 2) (pv 5)) ad)))
  refine' cJ (bt Q4 Xh Xi bx (pv 4) ?a)
  case a =>
   walk_at "q";exact(pv 5);exact(au iY ax (bN dQ (by rfl) T.n_int XU (aa (fQ hu (pv 2) (pv 5)) ad)))
  exact(aA (pe_tup (aa (pv 4) (aa (pv 2) ad ae) ae)))
 x_go;lk;refine λf hf=>?_;have nf:¬D.own f:=ba DA hf;ctx_has H f H1 S1 q1 az hf;have hw1:=S1 _ _ hw;lk;refine dP hw1 hw1 (by rw[Qb];omega) λlf hlf=>?_;rw[<-QP];have nl:¬D.own lf:=ba (DA.same S1) hlf;ctx_has H1 lf H2 S2 q2 az hlf;have q12:=S2 _ _ q1;lk;refine⟨by simp[sizeLine],λo ho=>?_⟩;have S12:=S1.trans S2;have no:¬D.own o:=ba (DA.same S12) ho;ctx_has H2 o H3 S3 q3 az ho;have lfo:o≠lf:=bO q2 ho;have lff:lf≠f:=bO q1 hlf;have fo:o≠f:=bO q12 ho;have Hlf:H lf=none:=c0 S1 hlf;have Ho:H o=none:=c0 S12 ho;have kp3:Kp D H H3:=Kp.of DA (S12.trans S3);have q13:=S3 _ _ q12;have q23:=S3 _ _ q2;clear S1 S2 S12 S3 q1 q2 q12 hw1;lk;let I4:IvF:=λm U H'=>∃(ls ns:List Str) (s:Str->Bool) (kvs:List (Key × V)) (vo:List V) (ts:List Tu) (y5:Option V),m=ls.length/\U=[some (.ref D.d),some (.ref wl),some (.ref f),some (.ref lf),some (.ref o),y5]/\OI ws ls ns s ts/\ns.length+ls.length<=10/\ts.length+ls.length=2*ws.length/\H' lf=some (.lst (ls.map V.str))/\H' f=some (.dK kvs)/\kvs.length<=ns.length/\(∀n:Str,bJ kvs (Sum.inr n:Key)=if n∈ns then some (sg (s n)) else none)/\H' o=some (.lst vo)/\Paired (TuA H') vo ts/\Kp D H H';refine⟨I4,⟨_,ws++ws,[],λ_=>false,[],[],[],_,rfl,rfl,OI.start nd,by rw[Qg];show 0+_<=10;omega,by rw[Qg];show 0+_=_;omega,q23,q13,Qi _,λn=>rfl,q3,.nil,kp3⟩,?_⟩;rintro m U H' ⟨ls,ns,s,kvs,vo,ts,y5,rfl,rfl,oi,n10,tl,hl',hf',kl,kv,ho',pt,kp⟩;lk;refine⟨by simp[sizeLine],λe he=>?_⟩;have Se:=aE (o:=.lst []) he;have hle:=Se _ _ hl';have hfe:=Se _ _ hf';have hoe:=Se _ _ ho';have pte:=ay (λ_ _ h=>TuA.kt (aw.tups Se) h) pt;have kpe:Kp D H (upd H' e (.lst [])):=kp.trans (Kp.of kp.dk Se);refine⟨lf,e,_,[],λ_=>true,rfl,rfl,SqL.of hle,SqL.of ag,(λj x y _ h=>by simp at h),⟨_,rfl,?_⟩⟩;generalize upd H' e (.lst [])=H3 at *;refine kP (λhne=>?_) (λhno=>?_)
 ·have nne:ls≠[]:=λz=>by subst z;simp at hne
  have lpos:0<ls.length:=List.length_pos_iff.mpr nne;refine⟨_,λσ' H' w=>⟨ls.length-1,by omega,w⟩,?_⟩;lk;rw[Qb];refine cP kpe (by omega) (by omega) λr H4 r0 r1 o4 kt4 kp4=>?_;have hl4:=o4 _ _ hle nl;have hf4:=o4 _ _ hfe nf;have ho4:=o4 _ _ hoe no;have pt4:=ay (λ_ _ h=>TuA.kt kt4 h) pte;have hj:r.toNat<ls.length:=by omega
  have ez:(ls.map V.str)[r.toNat]?=some (V.str ls[r.toNat]):=by rw[QB,Qc hj];rfl
  refine i_nil ?_;refine⟨lf,ls.map V.str,r,r.toNat,_,rfl,rfl,hl4,by omega,by omega,?_,ez,?_⟩
  ·have:ixN (ls.map V.str).length r=some r.toNat:=by unfold ixN;rw[Qu r0,Qu (by rw[Qb];exact r1)]
   exact(fT this).1
  have pz:(ls[r.toNat]::ls.eraseIdx r.toNat).Perm ls:=d0 ls r.toNat hj;have lz:(ls.eraseIdx r.toNat).length+1=ls.length:=by rw[List.length_eraseIdx];rw[Qu hj];omega
  have nw:ls[r.toNat]∈ws:=oi.sub _ (Xv hj);rw[fh];generalize ls[r.toNat]=n at *;generalize ls.eraseIdx r.toNat=ls' at *;generalize hE:upd H4 lf (.lst (ls'.map V.str))=H5;have old5:∀b u,H4 b=some u->b≠lf->H5 b=some u:=λb u e z=>by rw[<-hE,ao z];exact e
  have l5:H5 lf=some (.lst (ls'.map V.str)):=by rw[<-hE];exact ag
  have f5:=old5 _ _ hf4 (Ne.symm lff);have o5:=old5 _ _ ho4 lfo;have kt5:bS H4 H5:=by rw[<-hE];exact ca hl4
  have kp5:Kp D H H5:=by rw[<-hE];exact Kp.fresh DA Hlf kp4
  have pt5:=ay (λ_ _ h=>TuA.kt kt5 h) pt4;clear hE hl4 hf4 ho4 pt4 kt5 old5 hle hfe hoe pte;lk;refine r8 ?_;lk;refine⟨f,_,rfl,fz.k (k:=Sum.inr n) f5,_,rfl,?_⟩;rw[kv];by_cases hn:n∈ns
  ·rw[Qu hn];refine ifF rfl ?_;lk;refine⟨f,sg (s n),rfl,by have z:=fz.k (k:=Sum.inr n) f5;rw[kv,Qu hn]at z;exact z,?_⟩;refine i_nil (Bj (s n) ?_);lk;refine⟨by simp[sizeLine],λp hp=>?_⟩;ctx_has H5 p H6 S6 q6 az hp;have o6:=S6 _ _ o5;have vl:=aO pt5;refine i_nil (fE o6 (by omega) ?_);have ku:=ca (o:=.lst (vo++[V.ref p])) o6;refine⟨ls',ns,s,kvs,vo++[V.ref p],ts++[(n,w2 (s n))],_,by omega,rfl,oi.second pz hn,by omega,by rw[Qg,XT];omega,by rw[ao lfo.symm];exact S6 _ _ l5,by rw[ao fo.symm];exact S6 _ _ f5,kl,kv,ag,cL (ay (λ_ _ h=>TuA.kt ku (TuA.kt (aw.tups S6) h)) pt5) (TuA.kt ku ⟨p,rfl,q6⟩),Kp.fresh DA Ho (kp5.trans (Kp.of kp5.dk S6))⟩
  rw[Qt hn];refine ifT rfl ?_;lk;refine eZ ?_;lk;refine cP kp5 (by omega) (by omega) λr2 H6 r20 r21 o6 kt6 kp6=>?_
  obtain⟨b,eb⟩:∃b:Bool,r2=if b=true then 1 else 0:=by
   by_cases z:r2=0
   ·exact⟨false,z⟩
   exact⟨true,by show r2=1;omega⟩
  have l6:=o6 _ _ l5 nl;have f6:=o6 _ _ f5 nf;have o6':=o6 _ _ o5 no;have pt6:=ay (λ_ _ h=>TuA.kt kt6 h) pt5
  have fin:∀{Q:VK},Q (sg b) H6->oP (.str "01") (.int r2) H6 Q:=λ{Q} q=>by
   subst eb;cases b
   ·exact kR (c:=48) (by decide) (by decide +kernel) (by rw[show V.str ⟨#[48]⟩=sg false by decide +kernel];exact q)
   exact kR (c:=49) (by decide) (by decide +kernel) (by rw[show V.str ⟨#[49]⟩=sg true by decide +kernel];exact q)
  refine fin ?_;lk;refine⟨f,_,rfl,gQ.k (k:=Sum.inr n) f6 (by omega),?_⟩
  have kv2:∀m:Str,bJ (bD kvs (Sum.inr n:Key) (sg b)) (Sum.inr m:Key)=if m∈ns++[n] then some (sg (jA s n b m)) else none:=λm=>by
   rw[pV];by_cases e:m=n
   ·subst e;rw[Qu rfl,Qu (by simp)];unfold jA;rw[Qu rfl]
   rw[Qt λz=>e (Sum.inr.inj z),kv];unfold jA;rw[Qt e];by_cases h:m∈ns
   ·rw[Qu h,Qu (by simp[h])]
   rw[Qt h,Qt (by simp[h,e])]
  have kl2:(bD kvs (Sum.inr n:Key) (sg b)).length<=kvs.length+1:=cN _ _ _;generalize bD kvs (Sum.inr n:Key) (sg b)=kvs2 at kv2 kl2;generalize hE:upd H6 f (.dK kvs2)=H7;have old7:∀c u,H6 c=some u->c≠f->H7 c=some u:=λc u e z=>by rw[<-hE,ao z];exact e
  have f7:H7 f=some (.dK kvs2):=by rw[<-hE];exact ag
  have kt7:bS H6 H7:=by rw[<-hE];exact λc xs e=>by rw[ao λz=>by rw[z,f6]at e;cases e];exact e
  have kp7:Kp D H H7:=by rw[<-hE];exact Kp.fresh DA hf kp6
  have l7:=old7 _ _ l6 lff;have o7:=old7 _ _ o6' fo;have pt7:=ay (λ_ _ h=>TuA.kt kt7 h) pt6;clear hE old7 l6 f6 o6' pt6 l5 f5 o5 pt5;lk;refine⟨f,sg b,rfl,by have z:=fz.k (k:=Sum.inr n) f7;rw[kv2,Qu (by simp),show jA s n b n=b from Qu rfl]at z;exact z,?_⟩;refine i_nil (Bk b ?_);lk;refine⟨by simp[sizeLine],λp hp=>?_⟩;ctx_has H7 p H8 S8 q8 az hp;have o8:=S8 _ _ o7;have vl:=aO pt7;refine i_nil (fE o8 (by omega) ?_);have ku:=ca (o:=.lst (vo++[V.ref p])) o8;refine⟨ls',ns++[n],jA s n b,kvs2,vo++[V.ref p],ts++[(n,w1 b)],_,by omega,rfl,oi.first pz hn,by rw[Qg,XT];omega,by rw[Qg,XT];omega,by rw[ao lfo.symm];exact S8 _ _ l7,by rw[ao fo.symm];exact S8 _ _ f7,by rw[Qg,XT];omega,kv2,ag,cL (ay (λ_ _ h=>TuA.kt ku (TuA.kt (aw.tups S8) h)) pt7) (TuA.kt ku ⟨p,rfl,q8⟩),Kp.fresh DA Ho (kp7.trans (Kp.of kp7.dk S8))⟩
 have e0:ls=[]:=by
  cases ls with
  | nil=>rfl
  | cons x r=>exact absurd (by simp) hno
 subst e0;lk;refine⟨by simp[sizeLine],λa ha=>?_⟩;have Sa:=aE (o:=.tup [V.ref o,V.ref f]) ha;refine k a o f vo ts s _ (kpe.trans (Kp.of kpe.dk Sa)) ag Ho hf fo (Sa _ _ hoe) (ay (λ_ _ h=>TuA.kt (aw.tups Sa) h) pte) (oi.done nd) ⟨kvs,Sa _ _ hfe,by omega,λn=>?_⟩;rw[kv];exact ite_congr (propext (oi.met n)) (λ_=>rfl) λ_=>rfl
end
section
variable {α:Type} {K:PySem.W.Frag} {H1:Hp} {D:Addr} {σ0:St} {g:TG} {te:TE} {tt:L2.TT} {QD:Hp->Prop}
theorem uf {a:Addr} {o:Obj} {kvs:List (ak × V)} (c:ak × V->Bool) (R:Hp->V->ak × V->Prop) (hD:H1 D=none) (e:H1 a=some (.frz o (.dT kvs))) (few:kvs.length<=100000) (mono:∀H H' v x,bS H H'->R H v x->R H' v x)
  (hs:∀kv b H,kv∈kvs->bC H kv.1 b->aw H1 H->∀(G:V->Hp->Prop) (N:Hp->Prop),(c kv=true->∀u H2,aw H H2->R H2 u kv->G u H2)->(c kv=false->∀H2,aw H H2->N H2)->g (.ref b) σ0 H λσ2 H2=>wk σ0 σ2/\tt σ2 H2 λb H3=>if b=true then te σ2 H3 G else N H3)
  (hd:∀H ys,aw H1 H->H D=some (.lst ys)->Paired (R H) ys (kvs.filter c)->QD H) :
  ∃W:Nat->Nat->Hp->List V->Prop,(∃m,W 0 m (upd H1 D (.lst [])) [])/\∀i m H ys,W i m H ys->H D=some (.lst ys)/\(((sP a o kvs).stop i H/\QD H)\/((sP a o kvs).go i H/\∀x H',(sP a o kvs).yld i H x H'->g x σ0 H' λσ2 H2=>wk σ0 σ2/\tt σ2 H2 λb H3 =>
   if b=true then te σ2 H3 λv H4=>H4 D=some (.lst ys)/\ys.length<sizeLine/\∃m',m'<m/\W (i+1) m' (upd H4 D (.lst (ys++[v]))) (ys++[v]) else ∃m',m'<m/\W (i+1) m' H3 ys)):=by
 refine cm kvs c R hD few mono (λi H S hi=>⟨S _ _ e,hi⟩) (λH S=>⟨S _ _ e,Qi _⟩) (λi x H v H' ex S y=>?_) hd;obtain⟨e',k,u,b,hk,ev,tb⟩:=y;subst e' ev;rw[ex]at hk;cases hk;exact hs _ b _ (Qz ex) tb S
end
def Has (kvs:List (ak × V)) (p:Pr):Prop:=tkR p∈kvs.map (·.1)
theorem Has.put (h:Has kvs p) (q:Pr) (v:V):Has (bD kvs (tkR q) v) p:=by
 unfold Has at *;rcases dH kvs (tkR q) v with⟨_,e⟩|⟨_,e⟩
 ·rw[e];exact h
 rw[e];exact QK _ h
theorem Has.new (p:Pr) (v:V):Has (bD kvs (tkR p) v) p:=by
 unfold Has;rcases dH kvs (tkR p) v with⟨h,e⟩|⟨_,e⟩
 ·rw[e];exact h
 rw[e];simp
structure RS (D:Dk) (H H':Hp) (mi M:Addr) (vm:List V) (ts:List Tu) (ws:List Str) (kvs:List (ak × V)) (n:Nat):Prop where
 kp:Kp D H H'
 md:MkD H' M ws kvs n
 hm:H' mi=some (.lst vm)
 pm:Paired (TuA H') vm ts
section
variable {D:Dk} {H H' H2:Hp} {mi M:Addr} {vm:List V} {ts:List Tu} {ws:List Str} {kvs:List (ak × V)} {n:Nat}
theorem RS.same (s:RS D H H' mi M vm ts ws kvs n) (S:aw H' H2):RS D H H2 mi M vm ts ws kvs n :=
 ⟨s.kp.trans (Kp.of s.kp.dk S),s.md.same λo e=>S _ _ e,S _ _ s.hm,ay (λ_ _ h=>h.kt (aw.tups S)) s.pm⟩
theorem RS.put (s:RS D H H' mi M vm ts ws kvs n) (DA:D.At H) (hM:H M=none) {p:Pr} {m:Int} (ok:PrOk ws p) (hm:m=0\/m=1):RS D H (upd H' M (.dT (bD kvs (tkR p) (.int m)))) mi M vm ts ws (bD kvs (tkR p) (.int m)) (n+1):=by
 have ne:mi≠M:=λz=>by have h:=s.hm;have q:=s.md.h;rw[z,q]at h;cases h
 have kt:bS H' (upd H' M (.dT (bD kvs (tkR p) (.int m)))):=gy s.md.h;exact⟨Kp.fresh DA hM s.kp,s.md.put ok hm ag,by rw[ao ne];exact s.hm,ay (λ_ _ h=>h.kt kt) s.pm⟩
theorem RS.draw (s:RS D H H' mi M vm ts ws kvs n) (n1:¬D.own mi) (n2:¬D.own M) (o:∀b x,H' b=some x->¬D.own b->H2 b=some x) (kt:bS H' H2) (kp:Kp D H H2):RS D H H2 mi M vm ts ws kvs n :=
 ⟨kp,s.md.same λx e=>o _ _ e n2,o _ _ s.hm n1,ay (λ_ _ h=>h.kt kt) s.pm⟩
theorem RS.up {k:Nat} (s:RS D H H' mi M vm ts ws kvs n) (h:n<=k):RS D H H' mi M vm ts ws kvs k:=⟨s.kp,⟨s.md.h,QO s.md.l h,s.md.ok,s.md.nd⟩,s.hm,s.pm⟩
end
theorem kJ {α β:Type} {f:α->β}:∀(l:List β),(∀x∈l,∃p,x=f p)->∃ps:List α,l=ps.map f
 | [],_=>⟨[],rfl⟩
 | x::l,h=>by
  obtain⟨p,rfl⟩:=h x (by simp);obtain⟨ps,e⟩:=kJ l λy hy=>h y (Qj _ hy);exact⟨p::ps,by rw[e];rfl⟩
theorem sq {ws:List Str} (d:MkD H M ws kvs n) (w5:ws.length<=5):kvs.length<=100:=by
 have hl:(bI ws).length<=10:=by unfold bI;rw[Qg,Qb,Qb];omega
 have:=Bf.di (kvs.map (·.1)) ((bI ws).flatMap λt=>(bI ws).map λu=>tkR (t,u)) d.nd λk hk=>by
  obtain⟨kv,h,rfl⟩:=Qn.mp hk;obtain⟨p,e,ok,_⟩:=d.ok kv h;exact List.mem_flatMap.mpr ⟨p.1,bP.mpr ok.o,Qn.mpr ⟨p.2,bP.mpr ok.t,e.symm⟩⟩
 rw[Qb,List.length_flatMap]at this;have e:((bI ws).map λt=>((bI ws).map λu=>tkR (t,u)).length)=(bI ws).map λ_=>(bI ws).length:=List.map_congr_left λ_ _=>Qb _
 have z:∀(k c:Nat),(List.replicate k c).sum=k*c:=λk c=>by
  induction k with
  | zero=>simp
  | succ k ih=>rw[List.replicate_succ,List.sum_cons,ih,Nat.succ_mul];omega
 rw[e,List.map_const',z]at this;have q:(bI ws).length*(bI ws).length<=10*10:=Nat.mul_le_mul hl hl;omega
theorem gZ {H:Hp} {kvs0:List (ak × V)}:∀{ys:List V} {kvs:List (ak × V)} {ps:List Pr},Paired (λv (kv:ak × V)=>∀p,kv.1=tkR p->ArA H v (ir kvs0 p)) ys kvs->kvs.map (·.1)=ps.map tkR->Paired (ArA H) ys (ps.map (ir kvs0))
 | _,_,[],.nil,_=>.nil
 | _,_,p::ps,.nil,e=>by cases e
 | _,_,[],.cons _ _,e=>by cases e
 | _,_,p::ps,.cons h t,e=>by
  rw[Qo,Qo]at e;injection e with e1 e2;exact .cons (h p e1) (gZ t e2)
def sgS (b:Bool):Str:=if b=true then "1" else "0"
theorem vC (b:Bool):sg b=V.str (sgS b):=by cases b <;> rfl
theorem sZ (s:Str->Bool):∀ws:List Str,StOk ws.length (PySem.Txt.join Str.empty (ws.map λn=>sgS (s n))):=λws=>by
 have c1:∀b,∃c,(sgS b).cps.toList=[c]/\(c=48\/c=49):=λb=>by
  cases b
  ·exact⟨48,by decide +kernel,.inl rfl⟩
  exact⟨49,by decide +kernel,.inr rfl⟩
 have e:=pH (ws.map λn=>sgS (s n));rw[Xy]at e
 have all:∀us:List Str,((us.map ((λx:Str=>x.cps.toList)∘λn=>sgS (s n))).flatten.length=us.length)/\∀c∈(us.map ((λx:Str=>x.cps.toList)∘λn=>sgS (s n))).flatten,c=48\/c=49:=λus=>by
  induction us with
  | nil=>exact⟨rfl,λc h=>nomatch h⟩
  | cons u us ih =>
  obtain⟨c,e,hc⟩:=c1 (s u);rw[Qo,List.flatten_cons];have e2:((λx:Str=>x.cps.toList)∘λn=>sgS (s n)) u=[c]:=e;rw[e2];refine⟨by rw[Qg,ih.1,QC];simp;omega,λd hd=>?_⟩;rcases Qp.mp hd with h|h
  ·rw[QG.mp h];exact hc
  exact ih.2 d h
 obtain⟨a1,a2⟩:=all ws;refine⟨?_,λc hc=>?_⟩
 ·rw[<-Qe,e];exact a1
 rw[e]at hc;exact a2 c hc
theorem lc {xs:List α} (h:1<=xs.length):atI xs (-1)=xs[xs.length-1]?:=by
 unfold atI ixN;rw[Qt (by decide),Qu (by omega)];show xs[_]?=_;congr 1;omega
def prv (L k:Nat):Nat:=if k=0 then L-1 else k-1
theorem uh {xs:List α} {k:Nat} (h:k<xs.length):atI xs ((k:Int)-1)=xs[prv xs.length k]?:=by
 unfold prv;by_cases c:k=0
 ·subst c;exact lc (by omega)
 rw[Qt c,show ((k:Int)-1)=((k-1:Nat):Int) by omega];exact bv (Qc (by omega)) |>.trans (Qc (by omega)).symm
theorem lR {ws:List Str} (d:MkD H' M ws kvs n) {ps:List Pr} (e:kvs.map (·.1)=ps.map tkR):(∀a∈ps.map (ir kvs),ArOk ws a)/\((ps.map (ir kvs)).map prA).Nodup:=by
 refine⟨λa ha=>?_,?_⟩
 ·obtain⟨p,hp,rfl⟩:=Qn.mp ha;obtain⟨ok,_,hm⟩:=ky d (p:=p) (by rw[e];exact Qn.mpr ⟨p,hp,rfl⟩);exact⟨ok.o,ok.t,ok.ne,hm⟩
 rw[Xy];have nd:=d.nd;rw[e]at nd;exact Q1.mpr ((Q1.mp nd).imp λ{a b} h q=>h (congrArg tkR (show a=b from Prod.ext (congrArg Prod.fst q) (congrArg Prod.snd q))))
theorem oN {o:HO} (S:aw (upd H a o) H'):aw H (back H a H'):=λb u e=>by
 by_cases c:b=a
 ·rw[c,fk,<-c];exact e
 rw[bH c];exact S b u (by rw[ao c];exact e)
theorem dh {ws:List Str} {G:Hp->Prop} (s:RS D H H' mi M vm ts ws kvs n) (DA:D.At H) (hM:H M=none) (h1:TuA H' v1 t1) (h2:TuA H' v2 t2) (ok:PrOk ws (t1,t2)) (hm:m=0\/m=1) (few:n<=1000)
  (q:∀H3,RS D H H3 mi M vm ts ws (bD kvs (tkR (t1,t2)) (.int m)) (n+1)->G H3):[v1,v2].length<=sizeLine/\∀p,H' p=none->∃a H4,V.ref M=V.ref a/\gQ (upd H' p (.tup [v1,v2])) a (.ref p) (.int m) H4/\G H4:=by
 refine⟨by simp[sizeLine],λp hp=>?_⟩;have S:=aE (o:=.tup [v1,v2]) hp;have s2:=s.same S;have big:1000<sizeLine:=by decide
 have l:=s.md.l;exact⟨M,_,rfl,gQ.t s2.md.h (PrA.tk ⟨p,v1,v2,rfl,ag,h1.kt (aw.tups S),h2.kt (aw.tups S)⟩) (by omega),q _ (s2.put DA hM ok hm)⟩
theorem vF {R:It->Hp->Prop} (q:ta U H λvs H1=>∃i j:Int,vs=[.int i,.int j]/\(-(2 ^ 62)<=i/\i<2 ^ 62/\-(2 ^ 62)<=j/\j<2 ^ 62)/\R (Itr i (j-i).toNat) H1):u4 ta U H R:=q
def jK:Sp:=λvs H Q _=>∃(D:Dk) (o f li lo:Addr) (vo:List V) (ts:List Tu) (s:Str->Bool) (ins outs:List Str),vs=[.ref D.d,.ref o,.ref f,.ref li,.ref lo]/\D.At H/\H o=some (.lst vo)/\Paired (TuA H) vo ts/\ts.Perm (bI (ins++outs))/\Ap H f (ins++outs) s/\H li=some (.lst (ins.map V.str))/\H lo=some (.lst (outs.map V.str))/\¬D.own o/\¬D.own f/\¬D.own li/\¬D.own lo/\(ins++outs).Nodup/\1<=outs.length/\(ins++outs).length<=5/\(∀n∈ins++outs,Low n) /\
 ∀a l as (r:Rg) H',Kp D H H'->RgA H' a li lo l as r->r.ins=ins->r.outs=outs->H a=none->H l=none->RgOk r->lr r->RgX r->(r.arcs.map tkA).Pairwise leF->Q (.ref a) H'
section
theorem jU:FnScope ["deck", "order", "firsts", "inputs", "outputs", "mine", "marks", "chain", "k", "i", "j", "way", "near", "arcs"] ["deck", "order", "firsts", "inputs", "outputs"] (am (top 38)):=by fin2
theorem o9 {f:Addr} {fd:FuncData} (Fu:Fun K "_law_ring" "_law_ring" (top 38) f fd) (T:Txt K mg TT) (f_law_take:Fn P w K mg base "_law_take" ["deck", "many"] 1 eU):FnOk P w K mg base CX0 2 f fd ["deck", "order", "firsts", "inputs", "outputs"] jK:=by
 have S:=jU;refine Fu.ok S (by room) (λcdv A outer s H vs Q E hr h=>?_);obtain⟨D,o,fs,li,lo,vo,ts,s,ins,outs,rfl,DA,ho,pt,pm,hf,hi,hlo,no,nf,ni,nlo,nd,o1,w5,low,k⟩:=h;have hu:=gz hr;refine'⟨?_,?bb,?_⟩
 case bb =>
  walk_at "b";exact(qI (j:=5) S.nd rfl (by z_go) (tgs:=["turn"]) (cap:=[("inputs", 3),("outputs", 4)]) rfl ⟨rfl,rfl,rfl,rfl,rfl,rfl⟩ (cC (pv 1)) (λ_ _ _ _=>(cK (i:=0) (show List.Nodup [("turn" : Str),("inputs" : Str),("outputs" : Str)] by decide +kernel) rfl (by z_go))) (λ_ _ _ _=>(j9 (aP (l_ (K:=K) rfl) (au (eN (K:=K) rfl) (pv 0) af) (aQ cR (pv 1) (pv 2)) rfl))) (λ_ _ _ _=>(pv 0)));exact bo 6 S.nd qP;exact bo 7 S.nd (bj cA (aR f_law_take hr (aa (pv 0) (aa af ad aD) ae)) af (aH _));walk_at "f";exact(b8 (by rfl) T.n_range (aa (aQ d6 (ah av (by rfl) T.n_len QM (aa (pv 5) ad ae)) (bN fj (by rfl) T.n_int XU (aa (pv 7) ad ae))) ad));exact(de 8 S.nd);walk_at "p";exact(dD hu (pv 6) (pe_tup (aa (au bn (pv 5) (aQ vY (pv 8) af)) (aa (au bn (pv 5) (pv 8)) ad))) (bN fj (by rfl) T.n_int XU (aa (bj cA (pv 8) af (aH _)) ad)) rfl);walk_at "f";exact(b8 (by rfl) T.n_range (aa (ah av (by rfl) T.n_len QM (aa (pv 5) ad ae)) ad aW));exact(de 9 S.nd);walk_at "p";walk_at "f";exact(oR (by rfl) T.n_range (aa (aQ gq (pv 9) af) (aa (ah av (by rfl) T.n_len QM (aa (pv 5) ad ae)) ad aW)));exact(de 10 S.nd);walk_at "p";exact bo 11 S.nd (aR f_law_take hr (aa (pv 0) (aa af ad aD) ae));exact bo 12 S.nd (w6 (bj cA (au aB (au bn (pv 5) (pv 9)) af) (au aB (au bn (pv 5) (pv 10)) af) (aH _)) (b9 (bW (bj cA (pv 10) (aQ gq (pv 9) af) (aH _)) (b9 (bj qW (pv 11) af (aH _))))));exact(PW.pt (iM (br (bp (pv 7))) (fP (PW.pt (cF (bp (pv 12)) (bZ (aP cA (pv 11) af (aH _))))))));exact(dD hu (pv 6) (pe_tup (aa (au bn (pv 5) (pv 9)) (aa (au bn (pv 5) (pv 10)) ad))) af rfl);exact(dD hu (pv 6) (pe_tup (aa (au bn (pv 5) (pv 10)) (aa (au bn (pv 5) (pv 9)) ad))) af rfl);exact(PW.pt (iM (bp (pv 7)) (fP (aP cA (pv 11) af (aH _)))));exact(dD hu (pv 6) (pe_tup (aa (au bn (pv 5) (pv 10)) (aa (au bn (pv 5) (pv 9)) ad))) af rfl);exact(PW.pt (iM (aP du (au aB (au bn (pv 5) af) af) (au aB (au bn (pv 5) (gm dU af)) af) (aH _)) (fP (aP cA (aR f_law_take hr (aa (pv 0) (aa af ad aD) ae)) af (aH _)))));exact(dD hu (pv 6) (pe_tup (aa (au bn (pv 5) af) (aa (au bn (pv 5) (gm dU af)) ad))) (aR f_law_take hr (aa (pv 0) (aa af ad aD) ae)) rfl);exact bo 13 S.nd (ah (gI rfl hu) (by rfl) T.n_sorted PyProof.Rows.boot_sorted (aa (vS (qO (tgs:=["begin", "end"]) (cap:=[("marks", 6)]) rfl ⟨rfl,rfl,rfl,rfl,rfl,rfl⟩ (qL (pv 6)) (λ_ _ _ _=>(tH (K:=K) (n:=2) rfl rfl (cG (cK (i:=0) (show List.Nodup [("begin" : Str),("end" : Str),("marks" : Str)] by decide +kernel) rfl (by z_go)) (cG (cK (i:=1) (show List.Nodup [("begin" : Str),("end" : Str),("marks" : Str)] by decide +kernel) rfl (by z_go)) iN)))) (λ_ _ _ _=>eD) (λ_ _ _ _=>(pe_tup (aa (pv 0) (aa (pv 1) (aa (fQ hu (pv 2) (pe_tup (aa (pv 0) (aa (pv 1) ad ae) ae))) ad) ae) ae))))) ad));refine' aA ?e
  case e =>
   walk_at "q";exact(pv 3);exact(pv 4);exact(bt QN Xj Xk c4 ax (aa (fB "name" [("firsts", 2)] (cC (aQ cR (pv 3) (pv 4))) (λ_ _ _ _=>(fQ hu (pv 1) (pv 0)))) ad));exact(pv 13)
 x_go;have tok:∀t∈ts,fq (ins++outs) t:=λt h=>bP.mp (pm.mem_iff.mp h);have tnd:ts.Nodup:=pm.nodup_iff.mpr (gJ nd);have tl:ts.length=2*(ins++outs).length:=by rw[pm.length_eq];unfold bI;rw[Qg,Qb,Qb];omega
 have w1:1<=(ins++outs).length:=by rw[Qg];omega
 have lap:(ins++outs).length=ins.length+outs.length:=Qg ..;lk;refine cb (s_list (bw rfl ⟨o,rfl,⟨_,SqL.of ho⟩,λmi hmi=>?_⟩));refine c9 (λ_=>true) (λH v (t:Tu)=>TuA H v t) hmi ho pt (by omega) (λH H' v x k h=>h.kt k) (λv x H' ia mx S' G N hG _=>?_) (λH1 vm S1 hy pv=>?_)
 ·obtain⟨b,rfl,hb⟩:=ia.kt (aw.tups S');have hi':=S' _ _ hi;have hlo':=S' _ _ hlo;refine aZ ⟨⟨rfl,rfl,trivial⟩,?_⟩;lk;refine dP hi' hlo' (by rw[Qb,Qb];omega) λLc hLc=>?_;rw[<-QP];have Sc:=aE (o:=.lst ((ins++outs).map V.str)) hLc;refine⟨Lc,_,rfl,.inl (SqL.of ag),rfl,ce _,_,rfl,?_⟩;refine ifT (fU.mpr (tok x mx).1) ?_;lk;exact hG rfl _ _ Sc ⟨b,rfl,Sc _ _ hb⟩
 rw[bR]at pv;have vl:=aO pv;have nmi:¬D.own mi:=ba DA hmi;lk;refine λM hM=>?_;have HM:H M=none:=c0 S1 hM;have nM:¬D.own M:=ba DA HM;ctx_has H1 M H2 S2 q2 az hM;have rs0:RS D H H2 mi M vm ts (ins++outs) [] 0:=⟨Kp.of DA (S1.trans S2),⟨q2,Qi _,(λkv h=>nomatch h),List.nodup_nil⟩,S2 _ _ hy,ay (λ_ _ h=>h.kt (aw.tups S2)) pv⟩;clear S1 S2 hM q2 hy pv;lk;refine cP rs0.kp (by omega) (by omega) λr1 H3 r10 r11 o3 kt3 kp3=>?_;have rs3:=rs0.draw nmi nM o3 kt3 kp3;have hm3:=rs3.hm;lk;generalize decide (V.int r1=V.int 1)=b
 obtain⟨N,hN,hNt,hNf,hN10⟩:∃N:Nat,((vm.length:Nat):Int)*(if b=true then 1 else 0)=(N:Int)/\(b=true->N=vm.length)/\(b=false->N=0)/\N<=10:=by
  cases b
  ·exact⟨0,by simp,(λh=>nomatch h),λ_=>rfl,by omega⟩
  exact⟨vm.length,by simp,λ_=>rfl,(λh=>nomatch h),by omega⟩
 rw[hN];refine⟨by omega,by omega,?_⟩;rw[Q6]
 have vat:∀{H':Hp} {j:Nat},Paired (TuA H') vm ts->j<ts.length->∃v,vm[j]?=some v/\TuA H' v (ts.getD j ("", "")):=λ{H' j} p hj=>by
  obtain⟨v,e,q⟩:=dq p (Qc hj);exact⟨v,e,by rw[QH,Qc hj];exact q⟩
 have tat:∀{j:Nat},j<ts.length->fq (ins++outs) (ts.getD j ("", "")):=λ{j} hj=>by
  rw[QH,Qc hj];exact tok _ (Xv hj)
 have tne:∀{i j:Nat},i<ts.length->j<ts.length->i≠j->ts.getD i ("", "")≠ts.getD j ("", ""):=λ{i j} hi hj ne z=>by
  rw[QH,Qc hi,QH,Qc hj]at z;exact ne ((List.getElem_inj tnd).mp z)
 have L2:2<=ts.length:=by omega
 have prl:∀{j:Nat},j<ts.length->prv ts.length j<ts.length/\prv ts.length j≠j:=λ{j} hj=>by
  unfold prv;split <;> constructor <;> omega
 let I5:IvF:=λi U H'=>∃(kvs:List (ak × V)) (y8 y9 y10 y11 y12 y13:Option V),U=[some (.ref D.d),some (.ref o),some (.ref fs),some (.ref li),some (.ref lo),some (.ref mi),some (.ref M),some (.bl b),y8,y9,y10,y11,y12,y13]/\RS D H H' mi M vm ts (ins++outs) kvs i/\∀j,j<i->Has kvs (ts.getD (prv ts.length j) ("", ""),ts.getD j ("", ""));refine cc (n:=N) I5 ⟨[],_,_,_,_,_,_,rfl,rs3,λj h=>absurd h (Nat.not_lt_zero _)⟩ (λi U H' hi pv=>?_) (λU H' pv=>?_)
 ·obtain⟨kvs,y8,y9,y10,y11,y12,y13,rfl,rs,cov⟩:=pv
  have hl:i<ts.length:=by
   cases b
   ·have:=hNf rfl;omega
   have:=hNt rfl;omega
  obtain⟨p1,p2⟩:=prl hl;obtain⟨v1,e1,t1⟩:=vat rs.pm p1;obtain⟨v2,e2,t2⟩:=vat rs.pm hl;have hm':=rs.hm;refine aZ ?_;refine eZ ?_;lk;refine i_ixL (SqL.of hm') (v:=v1) (by rw[Int.zero_add,uh (by omega),vl];exact e1) ?_;lk;refine i_ixL (SqL.of hm') (v:=v2) (by rw[Int.zero_add];exact bv e2) ?_;lk;refine dh rs DA HM t1 t2 ⟨tat p1,tat hl,tne p1 hl p2⟩ (bit _) (by omega) λH5 rs5=>?_;refine⟨_,_,_,_,_,_,_,rfl,rs5,λj hj=>?_⟩;by_cases e:j=i
  ·subst e;exact Has.new _ _
  exact(cov j (by omega)).put _ _
 obtain⟨kvs,y8,y9,y10,y11,y12,y13,rfl,rs,cov⟩:=pv;have hm':=rs.hm;lk;refine⟨by omega,by omega,?_⟩;rw[Q6];have cov1:b=true->∀j,j<ts.length->Has kvs (ts.getD (prv ts.length j) ("", ""),ts.getD j ("", "")):=λhb j hj=>cov j (by have:=hNt hb;omega);clear cov hN hNt hNf;let I6:IvF:=λi U H'=>∃(kvs:List (ak × V)) (y8 y9 y10 y11 y12 y13:Option V),U=[some (.ref D.d),some (.ref o),some (.ref fs),some (.ref li),some (.ref lo),some (.ref mi),some (.ref M),some (.bl b),y8,y9,y10,y11,y12,y13]/\RS D H H' mi M vm ts (ins++outs) kvs (10+20*i)/\(b=true->∀j,j<ts.length->Has kvs (ts.getD (prv ts.length j) ("", ""),ts.getD j ("", "")))/\(b=false->∀i' j,i'<i->i'<j->j<ts.length->(ts.getD i' ("", "")).1=(ts.getD j ("", "")).1->Has kvs (ts.getD i' ("", ""),ts.getD j ("", ""))/\Has kvs (ts.getD j ("", ""),ts.getD i' ("", "")));refine cc (n:=vm.length) I6 ⟨kvs,_,_,_,_,_,_,rfl,rs.up (by omega),cov1,λ_ i' j h=>absurd h (Nat.not_lt_zero _)⟩ (λi U H' hi pv=>?_) (λU H' pv=>?_)
 ·clear rs hm' cov1;obtain⟨kvs,y8,y9,y10,y11,y12,y13,rfl,rs,cov1,cov2⟩:=pv;have hm':=rs.hm;refine aZ ?_;refine s_for (vF ?_);lk;refine⟨_,_,rfl,⟨by omega,by omega,by omega,by omega⟩,?_⟩;rw[show (((vm.length:Nat):Int)-((0+(i:Int))+1)).toNat=vm.length-(i+1) by omega];let I7:IvF:=λm U H'=>∃(kvs:List (ak × V)) (y8 y10 y11 y12 y13:Option V),U=[some (.ref D.d),some (.ref o),some (.ref fs),some (.ref li),some (.ref lo),some (.ref mi),some (.ref M),some (.bl b),y8,some (.int (0+(i:Int))),y10,y11,y12,y13]/\RS D H H' mi M vm ts (ins++outs) kvs (10+20*i+2*m)/\(b=true->∀j,j<ts.length->Has kvs (ts.getD (prv ts.length j) ("", ""),ts.getD j ("", "")))/\(b=false->∀i' j,(i'<i\/(i'=i/\j<i+1+m))->i'<j->j<ts.length->(ts.getD i' ("", "")).1=(ts.getD j ("", "")).1->Has kvs (ts.getD i' ("", ""),ts.getD j ("", ""))/\Has kvs (ts.getD j ("", ""),ts.getD i' ("", "")));refine cc (n:=vm.length-(i+1)) I7 ⟨kvs,_,_,_,_,_,rfl,rs,cov1,λhb i' j h h2=>cov2 hb i' j (by omega) h2⟩ (λm U H' hm pv=>?_) (λU H' pv=>?_)
  ·clear rs hm' cov1 cov2;obtain⟨kvs,y8,y10,y11,y12,y13,rfl,rs,cov1,cov2⟩:=pv;refine aZ ?_;lk;refine cP rs.kp (by omega) (by omega) λr H4 r0 r1 o4 kt4 kp4=>?_;have rs4:=rs.draw nmi nM o4 kt4 kp4;have hm4:=rs4.hm;have hil:i<ts.length:=by omega
   have hjl:i+1+m<ts.length:=by omega
   obtain⟨v1,e1,t1⟩:=vat rs4.pm hil;obtain⟨v2,e2,t2⟩:=vat rs4.pm hjl;obtain⟨b1,rfl,hb1⟩:=id t1;obtain⟨b2,rfl,hb2⟩:=id t2;have ok12:PrOk (ins++outs) (ts.getD i ("", ""),ts.getD (i+1+m) ("", "")):=⟨tat hil,tat hjl,tne hil hjl (by omega)⟩;have ok21:PrOk (ins++outs) (ts.getD (i+1+m) ("", ""),ts.getD i ("", "")):=⟨tat hjl,tat hil,tne hjl hil (by omega)⟩;have ai:atI vm (0+(i:Int))=some (.ref b1):=by rw[Int.zero_add];exact bv e1
   have aj:atI vm ((0+(i:Int))+1+(m:Int))=some (.ref b2):=by rw[show (0+(i:Int))+1+(m:Int)=((i+1+m:Nat):Int) by omega];exact bv e2
   refine aZ ?_;let I8:IvJ:=λU G=>∃nb:Bool,U=[some (.ref D.d),some (.ref o),some (.ref fs),some (.ref li),some (.ref lo),some (.ref mi),some (.ref M),some (.bl b),y8,some (.int (0+(i:Int))),some (.int ((0+(i:Int))+1+(m:Int))),some (.int r),some (.bl nb),y13]/\G=H4/\((ts.getD i ("", "")).1=(ts.getD (i+1+m) ("", "")).1->nb=true);with_reducible refine gg I8 (λRR hJ=>?_) (λU G h=>?_)
   ·lk;refine i_ixL (SqL.of hm4) ai ?_;lk;refine i_ixL (SqL.of hm4) aj ?_;lk;by_cases c1:(ts.getD i ("", "")).1=(ts.getD (i+1+m) ("", "")).1
    ·refine ifT (QA (by rw[c1])) ?_;exact aZ (hJ _ _ ⟨true,rfl,rfl,λ_=>rfl⟩)
    refine ifF (QE (λz=>c1 (V.str.inj z))) ?_;lk;refine kP (λ_=>?_) (λ_=>?_)
    ·lk;exact hJ _ _ ⟨_,rfl,rfl,λh=>absurd h c1⟩
    lk;exact hJ _ _ ⟨_,rfl,rfl,λh=>absurd h c1⟩
   obtain⟨nb,rfl,rfl,hnb⟩:=h;lk
   have hB:∀DD:Ends,(∀(kvs':List (ak × V)) (H5:Hp),RS D H H5 mi M vm ts (ins++outs) kvs' (10+20*i+2*(m+1))->(∀p,Has kvs p->Has kvs' p)->Has kvs' (ts.getD i ("", ""),ts.getD (i+1+m) ("", ""))->Has kvs' (ts.getD (i+1+m) ("", ""),ts.getD i ("", ""))->DD.nx [some (.ref D.d),some (.ref o),some (.ref fs),some (.ref li),some (.ref lo),some (.ref mi),some (.ref M),some (.bl b),y8,some (.int (0+(i:Int))),some (.int ((0+(i:Int))+1+(m:Int))),some (.int r),some (.bl nb),y13] H5) ->
     jF (nv (bX 6) (sV (cS (tOp (gM K) (bX 5) (bX 9)) (cS (tOp (gM K) (bX 5) (bX 10)) f8))) (tC (V.int 0))) (nv (bX 6) (sV (cS (tOp (gM K) (bX 5) (bX 10)) (cS (tOp (gM K) (bX 5) (bX 9)) f8))) (tC (V.int 1))) DD [some (.ref D.d),some (.ref o),some (.ref fs),some (.ref li),some (.ref lo),some (.ref mi),some (.ref M),some (.bl b),y8,some (.int (0+(i:Int))),some (.int ((0+(i:Int))+1+(m:Int))),some (.int r),some (.bl nb),y13] G:=λDD q=>by
    refine s_seq (eZ ?_);lk;refine i_ixL (SqL.of hm4) ai ?_;lk;refine i_ixL (SqL.of hm4) aj ?_;lk;refine dh rs4 DA HM t1 t2 ok12 (.inl rfl) (by omega) λH5 rs5=>?_;have hm5:=rs5.hm;obtain⟨u1,f1,t1⟩:=vat rs5.pm hil;obtain⟨u2,f2,t2⟩:=vat rs5.pm hjl;dsimp only;refine eZ ?_;lk;refine i_ixL (SqL.of hm5) (v:=u2) (by rw[show (0+(i:Int))+1+(m:Int)=((i+1+m:Nat):Int) by omega];exact bv f2) ?_;lk;refine i_ixL (SqL.of hm5) (v:=u1) (by rw[Int.zero_add];exact bv f1) ?_;lk;refine dh rs5 DA HM t2 t1 ok21 (.inr rfl) (by omega) λH6 rs6=>?_;exact q _ H6 (rs6.up (by omega)) (λp h=>(h.put _ _).put _ _) ((Has.new _ _).put _ _) (Has.new _ _)
   have nope:∀(kvs':List (ak × V)) (H5:Hp),RS D H H5 mi M vm ts (ins++outs) kvs' (10+20*i+2*(m+1))->(∀p,Has kvs p->Has kvs' p)->(b=false->(ts.getD i ("", "")).1=(ts.getD (i+1+m) ("", "")).1->Has kvs' (ts.getD i ("", ""),ts.getD (i+1+m) ("", ""))/\Has kvs' (ts.getD (i+1+m) ("", ""),ts.getD i ("", ""))) ->
     ∃(kvs:List (ak × V)) (x8 x10 x11 x12 x13:Option V),[some (V.ref D.d),some (.ref o),some (.ref fs),some (.ref li),some (.ref lo),some (.ref mi),some (.ref M),some (.bl b),y8,some (.int (0+(i:Int))),some (.int ((0+(i:Int))+1+(m:Int))),some (.int r),some (.bl nb),y13]=[some (.ref D.d),some (.ref o),some (.ref fs),some (.ref li),some (.ref lo),some (.ref mi),some (.ref M),some (.bl b),x8,some (.int (0+(i:Int))),x10,x11,x12,x13]/\RS D H H5 mi M vm ts (ins++outs) kvs (10+20*i+2*(m+1))/\(b=true->∀j,j<ts.length->Has kvs (ts.getD (prv ts.length j) ("", ""),ts.getD j ("", "")))/\(b=false->∀i' j,(i'<i\/(i'=i/\j<i+1+(m+1)))->i'<j->j<ts.length->(ts.getD i' ("", "")).1=(ts.getD j ("", "")).1->Has kvs (ts.getD i' ("", ""),ts.getD j ("", ""))/\Has kvs (ts.getD j ("", ""),ts.getD i' ("", ""))):=λkvs' H5 rs5 keep new =>
    ⟨kvs',_,_,_,_,_,rfl,rs5,fun hb j hj=>keep _ (cov1 hb j hj),fun hb i' j h h2 h3 h4=>by
     by_cases e:i'=i/\j=i+1+m
     ·obtain⟨rfl,rfl⟩:=e;exact new hb h4
     have:=cov2 hb i' j (by omega) h2 h3 h4
     exact⟨keep _ this.1,keep _ this.2⟩⟩
   cases b with
   | false =>
    refine ifT rfl ?_
    cases nb with
    | true =>
     unfold tOr tB;exact bw rfl ⟨true,rfl,ifT rfl (ifT rfl (hB _ λkvs' H5 rs5 keep h1 h2=>nope kvs' H5 rs5 keep λ_ _=>⟨h1,h2⟩))⟩
    | false =>
    lk;have up0:=rs4.up (show 10+20*i+2*m<=10+20*i+2*(m+1) by omega);by_cases c3:r=0
    ·refine ifT (QA (by rw[c3])) ?_;exact hB _ λkvs' H5 rs5 keep h1 h2=>nope kvs' H5 rs5 keep λ_ _=>⟨h1,h2⟩
    refine ifF (QE λz=>c3 (V.int.inj z)) ?_;lk;exact nope kvs G up0 (λ_ h=>h) λ_ h=>absurd (hnb h) (by simp)
   | true =>
   refine ifF rfl ?_;lk;have up0:=rs4.up (show 10+20*i+2*m<=10+20*i+2*(m+1) by omega);by_cases c3:r=0
   ·refine ifT (QA (by rw[c3])) ?_;refine eZ ?_;lk;refine i_ixL (SqL.of hm4) aj ?_;lk;refine i_ixL (SqL.of hm4) ai ?_;lk;refine dh rs4 DA HM t2 t1 ok21 (.inr rfl) (by omega) λH5 rs5=>?_;exact nope _ H5 (rs5.up (by omega)) (λp h=>h.put _ _) λh=>nomatch h
   refine ifF (QE λz=>c3 (V.int.inj z)) ?_;exact s_next (nope kvs G up0 (λ_ h=>h) λh=>nomatch h)
  obtain⟨kvs,y8,y10,y11,y12,y13,rfl,rs,cov1,cov2⟩:=pv;exact⟨kvs,_,_,_,_,_,_,rfl,rs.up (by omega),cov1,λhb i' j h1 h2 h3=>cov2 hb i' j (by omega) h2 h3⟩
 clear rs hm' cov1;obtain⟨kvs,y8,y9,y10,y11,y12,y13,rfl,rs,cov1,cov2⟩:=pv;have hm':=rs.hm
 have fullK:∀t∈ts,∃u,Has kvs (u,t):=λt ht=>by
  obtain⟨j,hj,rfl⟩:=Xl ht;have ej:ts.getD j ("", "")=ts[j]:=by rw[QH,Qc hj];rfl
  cases b with
  | true =>
   have:=cov1 rfl j hj;rw[ej]at this;exact⟨_,this⟩
  | false =>
  have tk:=tok _ ht;have oo:=vW tk;obtain⟨i',hi',e⟩:=Xl (pm.mem_iff.mpr (bP.mpr oo.1));have ei:ts.getD i' ("", "")=ts[i']:=by rw[QH,Qc hi'];rfl
  have ne:i'≠j:=λz=>by subst z;exact oo.2 e.symm
  have nm:ts[i'].1=ts[j].1:=by rw[e]
  rcases Nat.lt_or_ge i' j with h|h
  ·have:=cov2 rfl i' j (by omega) h hj (by rw[ei,ej];exact nm);rw[ei,ej]at this;exact⟨_,this.1⟩
  have:=cov2 rfl j i' (by omega) (by omega) hi' (by rw[ei,ej];exact nm.symm);rw[ei,ej]at this;exact⟨_,this.2⟩
 have n210:10+20*vm.length<=500:=by omega
 let I9:IvJ:=λU G=>∃(kvs:List (ak × V)),U=[some (.ref D.d),some (.ref o),some (.ref fs),some (.ref li),some (.ref lo),some (.ref mi),some (.ref M),some (.bl b),y8,y9,y10,y11,y12,y13]/\RS D H G mi M vm ts (ins++outs) kvs 600/\∀t∈ts,∃u,Has kvs (u,t);with_reducible refine gg I9 (λRR hJ=>?_) (λU G h=>?_)
 ·have L0:0<ts.length:=by omega
  have LL:ts.length-1<ts.length:=by omega
  obtain⟨v1,e1,t1⟩:=vat rs.pm L0;obtain⟨v2,e2,t2⟩:=vat rs.pm LL;obtain⟨b1,rfl,hb1⟩:=id t1;obtain⟨b2,rfl,hb2⟩:=id t2;have a0:atI vm 0=some (.ref b1):=bv e1;have aL:atI vm (-1)=some (.ref b2):=by rw[lc (by omega),vl];exact e2
  lk;refine i_ixL (SqL.of hm') a0 ?_;lk;refine i_ixL (SqL.of hm') aL ?_;lk;refine kP (λ_=>?_) (λ_=>?_)
  ·lk;refine cP rs.kp (by omega) (by omega) λr2 H4 r20 r21 o4 kt4 kp4=>?_;have rs4:=rs.draw nmi nM o4 kt4 kp4;have t1:=t1.kt kt4;have t2:=t2.kt kt4;lk;refine kP (λ_=>?_) (λ_=>?_)
   ·refine eZ ?_;lk;refine cP rs4.kp (by omega) (by omega) λr3 H5 r30 r31 o5 kt5 kp5=>?_;have rs5:=rs4.draw nmi nM o5 kt5 kp5;have t1:=t1.kt kt5;have t2:=t2.kt kt5;have hm5:=rs5.hm;lk;refine i_ixL (SqL.of hm5) a0 ?_;lk;refine i_ixL (SqL.of hm5) aL ?_;lk;refine dh rs5 DA HM t1 t2 ⟨tat L0,tat LL,tne L0 LL (by omega)⟩ (by omega) (by omega) λH6 rs6=>?_;exact hJ _ _ ⟨_,rfl,rs6.up (by omega),λt ht=>by obtain⟨u,h⟩:=fullK t ht;exact⟨u,h.put _ _⟩⟩
   exact s_next (hJ _ _ ⟨kvs,rfl,rs4.up (by omega),fullK⟩)
  exact s_next (hJ _ _ ⟨kvs,rfl,rs.up (by omega),fullK⟩)
 clear rs hm' cov1 cov2 fullK;obtain⟨kvs,rfl,rs,fullK⟩:=h;have f100:=sq rs.md w5;obtain⟨ps,eps⟩:=kJ (f:=tkR) (kvs.map (·.1)) rs.md.keys;have lps:ps.length=kvs.length:=by have:=congrArg List.length eps;rw[Qb,Qb]at this;exact this.symm
 lk;refine⟨M,_,.inl rs.md.h,trivial,λob=>?_⟩;refine cb (bw rfl ⟨M,ob,kvs,rfl,ag,λLc hLc=>?_⟩);have ktz:bS G (upd G M (.frz ob (.dT kvs))):=gy rs.md.h;refine uf (λ_=>true) (λH v kv=>∀p,kv.1=tkR p->ArA H v (ir kvs p)) hLc ag (by omega) (λ_ _ _ _ kt h p e=>(h p e).kt kt) (λkv bb H2 mkv tb S2 GG N hG _=>?_) (λH2 ys S2 hy pz=>?_)
 ·obtain⟨p,ek,pok,_⟩:=rs.md.ok kv mkv;have hp:Has kvs p:=Qn.mpr ⟨kv,mkv,ek⟩;obtain⟨_,ev,_⟩:=ky rs.md hp;rw[ek]at tb;obtain⟨_,v1,v2,e,hb,h1,h2⟩:=PrA.of tb;cases e;refine⟨bb,_,rfl,SqT.of hb,rfl,_,_,rfl,aZ ⟨_,_,rfl,aZ ⟨rfl,⟨rfl,trivial⟩,i_yes (iteT ?_)⟩⟩⟩;lk;refine⟨by simp[sizeLine],λq hq=>?_⟩;ctx_has H2 q H3 S3 q3 az hq;have h1:=h1.kt (aw.tups S3);have h2:=h2.kt (aw.tups S3);refine⟨M,.int (kz kvs p),rfl,.inr ⟨kvs,tkR p,q,.inr ⟨ob,S3 _ _ (S2 _ _ ag)⟩,rfl,PrA.tk ⟨q,v1,v2,rfl,q3,h1,h2⟩,ev.symm⟩,?_⟩;lk;refine⟨by simp[sizeLine],λc hc=>?_⟩;have Sc:=aE (o:=.tup [v1,v2,.int (kz kvs p)]) hc;refine hG rfl _ _ (S3.trans Sc) λp' e'=>?_;rw[<-fN (ek.symm.trans e')];exact⟨c,v1,v2,rfl,ag,h1.kt (aw.tups Sc),h2.kt (aw.tups Sc)⟩
 rw[bR]at pz;have ncm:Lc≠M:=λz=>by rw[z,ag]at hLc;cases hLc
 have hHL:H Lc=none:=by
  have e:G Lc=none:=by rw[ao ncm]at hLc;exact hLc
  exact rs.kp.free e
 have S0:aw G (back G M H2):=oN S2
 have ktb:bS H2 (back G M H2):=λb xs e=>by
  by_cases c:b=M
  ·rw[c,S2 _ _ ag]at e;cases e
  rw[bH c];exact e
 refine⟨S2 _ _ ag,?_⟩;have hyb:back G M H2 Lc=some (.lst ys):=by rw[bH ncm];exact hy
 have pab:=ay (λ_ _ h=>ArA.kt ktb h) (gZ pz eps);have rsb:=rs.same S0;generalize back G M H2=Hb at *;clear pz S2 hy ktz hLc S0 ktb;refine i_nil (jP hyb pab (by rw[Qb];omega) λp9 vs9 ars hp9 pars pmA so=>?_);ctx_has Hb p9 Hc Sc qc az hp9;have H9:H p9=none:=rsb.kp.free hp9;have rsc:=rsb.same Sc;have hic:=rsc.kp.old _ _ hi ni;have hloc:=rsc.kp.old _ _ hlo nlo;obtain⟨fkv,hf1,hf2,hf3⟩:=id hf;have hfc:=rsc.kp.old _ _ hf1 nf;refine aZ ?_;lk;refine⟨cB,?_⟩;lk;refine cb (s_list (i_op (bw rfl (bw rfl (dP hic hloc (by rw[Qb,Qb];omega) λLw hLw=>?_)))));rw[<-QP];ctx_has Hc Lw Hd Sd qd az hLw;have qd:Hd Lw=some (.lst ((ins++outs).map V.str)):=qd;have hfd:=Sd _ _ hfc;have eb:bu ["name"] [("firsts", 2)] ([some (V.ref D.d),some (V.ref o),some (V.ref fs),some (V.ref li),some (V.ref lo),some (V.ref mi),some (V.ref M),some (V.bl b),y8,y9,y10,y11,y12,y13].set 13 (some (V.ref p9)))=[none,some (.ref fs)]:=rfl;refine⟨Lw,rfl,⟨_,SqL.of qd⟩,λDz hDz=>?_⟩;rw[eb];refine c9 (I:=λv n=>v=V.str n) (λ_=>true) (λH v (n:Str)=>v=V.str (sgS (s n))) hDz qd (fD _) (by omega) (λH H' v x k h=>h) (λv x H2 ev mx S2 GG N hG _=>?_) (λHe y1 Se hy1 py1=>?_)
 ·subst ev;refine aZ ⟨⟨rfl,trivial⟩,i_yes (iteT ?_)⟩;refine bw rfl (bw rfl ⟨fs,sg (s x),rfl,?_,hG rfl _ H2 (aw.refl _) (vC _)⟩);have z:=fz.k (k:=Sum.inr x) (S2 _ _ hfd);rw[hf3,Qu mx]at z;exact z
 rw[bR]at py1
 have hy1:He Dz=some (.lst (((ins++outs).map λn=>sgS (s n)).map V.str)):=by
  rw[hy1,dE (f:=λn=>V.str (sgS (s n))) py1,Xy];rfl
 have e0:("" : Str).length=0:=by decide +kernel
 have stz:=sZ s (ins++outs);have ee:("" : Str)=Str.empty:=by decide +kernel
 refine i_nil (d8 hy1 ?_ ?_)
 ·have z:=dF (m:=1) ((ins++outs).map λn=>sgS (s n)) λn hn=>by
   obtain⟨x,_,rfl⟩:=Qn.mp hn;cases s x <;> decide +kernel
  rw[e0];rw[Qb]at z ⊢;omega
 rw[ee];generalize PySem.Txt.join Str.empty ((ins++outs).map λn=>sgS (s n))=zz at stz;have Sce:=Sd.trans Se;lk;refine⟨by simp[sizeLine],λa ha=>?_⟩;ctx_has He a Hf Sf qa az ha;have Scf:=Sce.trans Sf;have kpf:Kp D H Hf:=rsc.kp.trans (Kp.of rsc.kp.dk Scf);have Ha:H a=none:=(rsc.kp.trans (Kp.of rsc.kp.dk Sce)).free ha;have atF:RgA Hf a li lo p9 vs9 ⟨ins,outs,zz,ars⟩:=⟨qa,Scf _ _ hic,Scf _ _ hloc,Scf _ _ qc,ay (λ_ _ h=>ArA.kt (aw.tups (Sc.trans Scf)) h) pars⟩;obtain⟨mk1,mk2⟩:=lR rs.md eps;refine k a p9 vs9 ⟨ins,outs,zz,ars⟩ Hf kpf atF rfl rfl Ha H9 ⟨nd,w1,w5,stz,?_,λx hx=>mk1 x (pmA.mem_iff.mp hx)⟩ (λt ht=>?_) ⟨low,o1,?_,?_⟩ so
 ·show ars.length<=_;rw[pmA.length_eq,Qb];omega
 ·obtain⟨u,hu⟩:=fullK t (pm.mem_iff.mpr (bP.mpr ht));unfold Has at hu;rw[eps]at hu;obtain⟨q,hq,e⟩:=Qn.mp hu;refine⟨ir kvs q,pmA.mem_iff.mpr (Qn.mpr ⟨q,hq,rfl⟩),?_⟩;rw[fN e];rfl
 ·show ars.length<=190;rw[pmA.length_eq,Qb];omega
 exact(pmA.map prA).nodup_iff.mpr mk2
end
def m9:Sp:=λvs H Q _=>∃(D:Dk),vs=[.ref D.d,.int 5]/\D.At H /\
 ∀a li lo l as (r:Rg) H',Kp D H H'->RgA H' a li lo l as r->(∀b∈[a,li,lo,l],H b=none)->RgOk r->lr r->RgX r->(r.arcs.map tkA).Pairwise leF->Q (.ref a) H'
def mT:Sp:=λvs H Q _=>∃(a li lo l:Addr) (as:List V) (r:Rg),vs=[.ref a]/\RgA H a li lo l as r/\RgOk r/\RgX r/\lr r/\∀H',aw H H'->Q (.str (mk (rgW r))) H'
def nc:Sp:=λvs H Q _=>∃(a li lo l:Addr) (as:List V) (r:Rg),vs=[.ref a]/\RgA H a li lo l as r/\RgOk r/\∀a' li' lo' l' H',aw H H'->RgA H' a' li' lo' l' as r->Q (.ref a') H'
section
theorem fI:FnScope ["deck", "most", "wires", "order", "firsts", "many"] ["deck", "most"] (am (top 39)):=by fin2
variable {fd:FuncData}
theorem rq {f:Addr} (Fu:Fun K "_law_one_ring" "_law_one_ring" (top 39) f fd) (T:Txt K mg TT) (f_law_take:Fn P w K mg base "_law_take" ["deck", "many"] 1 eU) (f_law_wire_names:Fn P w K mg base "_law_wire_names" ["deck", "many"] 2 jM) (f_law_order:Fn P w K mg base "_law_order" ["deck", "wires"] 2 qq) (f_law_ring:Fn P w K mg base "_law_ring" ["deck", "order", "firsts", "inputs", "outputs"] 2 jK):FnOk P w K mg base CX0 3 f fd ["deck", "most"] m9:=by
 have S:=fI;refine Fu.ok S (by room) (λcdv A outer s H vs Q E hr h=>?_);obtain⟨D,rfl,DA,k⟩:=h;have hu:=gz hr;refine'⟨?_,?bb,?_⟩
 case bb =>
  walk_at "b";exact bo 2 S.nd (aR f_law_wire_names hr (aa (pv 0) (aa (aQ gq af (aR f_law_take hr (aa (pv 0) (aa (pv 1) ad ae) ae))) ad) ae));exact(qJ (aR f_law_order hr (aa (pv 0) (aa (pv 2) ad ae) ae)) (lW rfl (cG (de 3 S.nd) (cG (de 4 S.nd) iN))));exact bo 5 S.nd (aR f_law_take hr (aa (pv 0) (aa (ah av (by rfl) T.n_len QM (aa (pv 2) ad ae)) ad aW) ae));exact(aA (aR f_law_ring hr (aa (pv 0) (aa (pv 3) (aa (pv 4) (aa (dj np (pv 2) eC (eB (pv 5))) (aa (dj np (pv 2) (eB (pv 5)) eC) ad)) ae) ae) ae)))
 x_go;have kp0:Kp D H H:=Kp.of DA (aw.refl _);lk;refine cP kp0 (by omega) (by omega) λr H1 r0 r1 _ _ kp1=>?_;lk;refine⟨D,(1+r).toNat,by rw[show (((1+r).toNat:Nat):Int)=1+r by omega],kp1.dk,by omega,λwl ws H2 wsl hwl qw wnd wlow kp2=>?_⟩;have HW:H wl=none:=kp1.free hwl;have nwl:¬D.own wl:=ba DA HW;have kp2:=kp1.trans kp2;lk;refine⟨D,wl,ws,rfl,kp2.dk,qw,nwl,wnd,by omega,λa o fs vo ts s H3 kp3 qa ho hfs nof qo pt pm fsa=>?_⟩;have HO:H o=none:=kp2.free ho;have HF:H fs=none:=kp2.free hfs;have no:¬D.own o:=ba DA HO;have nf:¬D.own fs:=ba DA HF;have qw3:=kp3.old _ _ qw nwl;have kp3:=kp2.trans kp3;refine⟨a,_,rfl,SqT.of qa,rfl,_,_,rfl,aZ ⟨_,_,rfl,aZ ⟨rfl,?_⟩⟩⟩;lk;rw[Qb];refine cP kp3 (by omega) (by omega) λr2 H4 r20 r21 o4 kt4 kp4=>?_;obtain⟨j,rfl⟩:∃j:Nat,r2=(j:Int):=⟨r2.toNat,by omega⟩;have jl:j<ws.length:=by omega
 have qw4:=o4 _ _ qw3 nwl;have qo4:=o4 _ _ qo no;have pt4:=ay (λ_ _ h=>TuA.kt kt4 h) pt;obtain⟨kvs,f1,f2,f3⟩:=fsa;have f4:=o4 _ _ f1 nf;lk;refine u0 (SqL.of qw4) λli hli=>?_;rw[wK (by rw[Qb];omega),<-List.map_take];ctx_has H4 li H5 S5 q5 az hli;have qw5:=S5 _ _ qw4;lk;refine u0 (SqL.of qw5) λlo hlo=>?_;rw[sF (by rw[Qb];omega),<-List.map_drop];ctx_has H5 lo H6 S6 q6 az hlo;have S46:=S5.trans S6;have kp6:=kp4.trans (Kp.of kp4.dk S46);have HLI:H li=none:=kp4.free hli;have HLO:H lo=none:=(kp4.trans (Kp.of kp4.dk S5)).free hlo;have ews:ws.take j++ws.drop j=ws:=QV _ _;lk;refine⟨D,o,fs,li,lo,vo,ts,s,ws.take j,ws.drop j,rfl,kp6.dk,S46 _ _ qo4,ay (λ_ _ h=>TuA.kt (aw.tups S46) h) pt4,by rw[ews];exact pm,⟨kvs,S46 _ _ f4,f2,by rw[ews];exact f3⟩,S6 _ _ q5,q6,no,nf,ba DA HLI,ba DA HLO,by rw[ews];exact wnd,by rw[QU];omega,by rw[ews];omega,by rw[ews];exact wlow,λa9 l9 as9 rg H9 kp9 at9 _ _ h91 h92 ok full rx so=>?_⟩;refine k a9 li lo l9 as9 rg H9 (kp6.trans kp9) at9 (λb hb=>?_) ok full rx so;simp only[Qw,XJ,or_false]at hb;rcases hb with rfl|rfl|rfl|rfl
 ·exact kp6.free h91
 ·exact HLI
 ·exact HLO
 exact kp6.free h92
theorem jW:FnScope ["ring"] ["ring"] (am (top 42)):=by fin2
theorem rB {f:Addr} (Fu:Fun K "_law_copy" "_law_copy" (top 42) f fd) (T:Txt K mg TT):FnOk P w K mg base CX0 1 f fd ["ring"] nc:=by
 have S:=jW;refine Fu.ok S (by room) (λcdv A outer s H vs Q E hr h=>?_);obtain⟨a,li,lo,l,as,r,rfl,at_,ok,k⟩:=h;refine⟨_,(aK (aA (pe_tup (aa (bN c_ (by rfl) T.n_list XM (aa (au aB (pv 0) af) ad)) (aa (bN c_ (by rfl) T.n_list XM (aa (au aB (pv 0) af) ad)) (aa (au aB (pv 0) af) (aa (bN c_ (by rfl) T.n_list XM (aa (au aB (pv 0) af) ad)) ad aW)) aW) aW)))),?_⟩;x_go;have ha:=at_.ha;have hi:=at_.hi;lk;have step:∀{H':Hp} {p:Addr},H' p=none->∀(o:HO),RgA H' a li lo l as r->RgA (upd H' p o) a li lo l as r/\aw H' (upd H' p o):=λ{H' p} hp o h=>⟨h.same (aE hp),aE hp⟩;refine λl1 h1=>?_;obtain⟨at1,S1⟩:=step h1 (.lst (r.ins.map V.str)) at_;have q1:upd H l1 (.lst (r.ins.map V.str)) l1=some (.lst (r.ins.map V.str)):=ag;generalize upd H l1 (.lst (r.ins.map V.str))=H1 at *;have ha1:=at1.ha;have ho1:=at1.ho;lk;refine λl2 h2=>?_;obtain⟨at2,S2⟩:=step h2 (.lst (r.outs.map V.str)) at1;have q2:upd H1 l2 (.lst (r.outs.map V.str)) l2=some (.lst (r.outs.map V.str)):=ag;generalize upd H1 l2 (.lst (r.outs.map V.str))=H2 at *;have ha2:=at2.ha;have hl2:=at2.arcs.h;lk;refine λl3 h3=>?_;obtain⟨at3,S3⟩:=step h3 (.lst as) at2;have q3:upd H2 l3 (.lst as) l3=some (.lst as):=ag;generalize upd H2 l3 (.lst as)=H3 at *;lk;refine⟨by simp[sizeLine],λa4 h4=>?_⟩;ctx_has H3 a4 H4 S4 q4 az h4;exact k a4 l1 l2 l3 H4 ((S1.trans S2).trans (S3.trans S4)) ⟨q4,S4 _ _ (S3 _ _ (S2 _ _ q1)),S4 _ _ (S3 _ _ q2),S4 _ _ q3,(at3.same S4).arcs.p⟩
theorem dL:FnScope ["ring", "found", "begin", "end", "mark"] ["ring"] (am (top 40)):=by fin2
theorem re {f:Addr} (Fu:Fun K "_law_ring_written" "_law_ring_written" (top 40) f fd) (T:Txt K mg TT):FnOk P w K mg base CX0 1 f fd ["ring"] mT:=by
 have S:=dL;refine Fu.ok S (by room) (λcdv A outer s H vs Q E hr h=>?_);obtain⟨a,li,lo,l,as,r,rfl,at_,ok,rx,full,q⟩:=h;have hu:=gz hr;refine'⟨?_,?bb,?_⟩
 case bb =>
  walk_at "b";exact bo 1 S.nd (bt QN Xj Xk c4 ax (aa (au aB (pv 0) af) ad));exact(aP (ma hr.units) (au aB (pv 0) af) (pe_lst ad) (aH _));exact bo 1 S.nd ax;exact bo 1 S.nd (aQ aY (aQ aY (aQ aY (aQ aY (aQ aY (pv 1) ax) (bt QN Xj Xk c4 ax (aa (au aB (pv 0) af) ad))) ax) (au aB (pv 0) af)) ax);walk_at "f";exact(cC (au aB (pv 0) af));exact(lW rfl (cG (de 2 S.nd) (cG (de 3 S.nd) (cG (de 4 S.nd) iN))));walk_at "p";exact bo 1 S.nd (aQ aY (aQ aY (aQ aY (aQ aY (aQ aY (aQ aY (aQ aY (pv 1) (au aB (pv 2) af)) (au aB (pv 2) af)) ax) (au aB (pv 3) af)) (au aB (pv 3) af)) (au bn (pe_lst (aa ax (aa ax ad aD) aD)) (pv 4))) ax);exact(aA (dj lN (pv 1) eC (eB (gm dU af))))
 x_go;have ha:=at_.ha;have lon:∀n∈r.outs,Low n:=λn h=>rx.low n (QI _ h);have lin:∀n∈r.ins,Low n:=λn h=>rx.low n (QK _ h);have al:∀a∈r.arcs,ArL a:=λa h=>uo ok rx.low h;have w5:r.ins.length+r.outs.length<=5:=by have:=ok.w5;unfold Rg.ws at this;rw[Qg]at this;exact this
 have il:=d9 lin (by omega);have ol:=d9 lon (by omega);have few:=rx.few;lk;refine⟨cB,?_⟩;lk;have hi:=at_.hi;have e1:(" " : Str).length=1:=by decide +kernel
 have e2:("; " : Str).length=2:=by decide +kernel
 have e3:(", " : Str).length=2:=by decide +kernel
 have e4:(">" : Str).length=1:=by decide +kernel
 refine d8 hi ?_ ?_
 ·have z:=dF (m:=8) r.ins λn hn=>(lin n hn).l8;rw[e1];omega
 refine aZ ?_;with_reducible refine gg (λU G=>U=[some (.ref a),some (.str (mk (iT r.ins))),none,none,none]/\aw H G) (λRR hJ=>?_) (λU G h=>?_)
 ·lk;refine⟨by simp[sizeLine],λp hp=>?_⟩;have Sp:=aE (o:=.lst []) hp;refine⟨li,p,_,[],λ_=>true,rfl,rfl,SqL.of (Sp _ _ hi),SqL.of ag,(λj x y _ h=>by simp at h),⟨_,rfl,?_⟩⟩;refine kP (λhe=>?_) (λhne=>?_)
  ·have e:r.ins=[]:=by
    cases e:r.ins with
    | nil=>rfl
    | cons n s=>rw[e]at he;simp at he
   lk;refine hJ _ _ ⟨?_,Sp⟩;rw[e,show mk (iT [])=("-" : Str) by decide +kernel];rfl
  refine s_next (hJ _ _ ⟨?_,Sp⟩)
  have e:PySem.Txt.join " " r.ins=mk (iT r.ins):=by
   cases e:r.ins with
   | nil=>rw[e]at hne;simp at hne
   | cons n s=>exact bz (c7 " " s n)
  rw[e];rfl
 obtain⟨rfl,SG⟩:=h;have atG:=at_.same SG;have haG:=atG.ha;have hoG:=atG.ho;lk;refine⟨_,_,rfl,rfl,by rw[aM,e2];omega,?_⟩;lk;refine⟨cB,?_⟩;lk;refine d8 hoG ?_ ?_
 ·have z:=dF (m:=8) r.outs λn hn=>(lon n hn).l8;rw[e1];omega
 have eo:PySem.Txt.join " " r.outs=mk (oT r.outs):=by
  cases eo:r.outs with
  | nil=>have:=rx.o1;rw[eo]at this;simp at this
  | cons n s=>exact bz (c7 " " s n)
 rw[eo];have ol2:(oT r.outs).length<=200:=by rw[kj rx.o1];exact ol
 have zl:r.z.length=r.ws.length:=ok.st.len;have w5':=ok.w5;refine⟨_,_,rfl,rfl,by rw[bh,aM,aM,e2];omega,?_⟩;lk;refine⟨_,_,rfl,rfl,by rw[bh,bh,aM,aM,e2];omega,?_⟩;lk;refine⟨_,_,rfl,rfl,by rw[bh,bh,bh,aM,aM,e2];omega,?_⟩;lk;refine⟨_,_,rfl,rfl,by rw[bh,bh,bh,bh,aM,aM,e2];omega,?_⟩;obtain⟨F,eF⟩:∃F:List Nat,F=iT r.ins++([59,32]++(oT r.outs++([59,32]++(r.z.cps.toList++[59,32])))):=⟨_,rfl⟩
 have tF:mk (iT r.ins)++("; " : Str)++mk (oT r.outs)++("; " : Str)++r.z++("; " : Str)=mk F:=bz (by
  rw[bL,bL,bL,bL,bL,eF];show iT r.ins++[59,32]++oT r.outs++[59,32]++r.z.cps.toList++[59,32]=_
  simp)
 rw[tF]
 have lF:F.length<=500:=by
  rw[eF];have zz:r.z.cps.toList.length=r.ws.length:=by rw[Qe];exact zl
  simp only[Qg,QC,XG];omega
 lk;refine⟨l,rfl,⟨_,SqL.of atG.arcs.h⟩,?_⟩
 have fl:∀(xs:List Arc),(∀x∈xs,ArL x)->((xs.map λx=>arT x++[44,32]).flatten).length<=22*xs.length:=λxs=>by
  induction xs with
  | nil=>intro _;simp
  | cons x xs ih =>
  intro h;have h1:=eR (h x (by simp));have h2:=ih λy hy=>h y (Qj _ hy);rw[Qo,List.flatten_cons,Qg,Qg,QC];simp only[QC,XG];omega
 let I10:IvF:=λi U H'=>∃(y2 y3 y4:Option V),U=[some (.ref a),some (.str (mk (F++((r.arcs.take i).map λx=>arT x++[44,32]).flatten))),y2,y3,y4]/\aw G H';refine sm (xs:=as) I10 ⟨_,_,_,by rw[List.take_zero,List.map_nil,List.flatten_nil,XD];rfl,aw.refl _⟩ (λi U H' _ ⟨_,_,_,_,S'⟩=>SqL.of (S' _ _ atG.arcs.h)) (λi v U H' ev pv=>?_) (λU H' pv=>?_)
 ·obtain⟨y2,y3,y4,rfl,S'⟩:=pv;have at':=atG.same S';obtain⟨x,ex,b,v1,v2,rfl,hb,⟨b1,rfl,hb1⟩,b2,rfl,hb2⟩:=paired_get at'.arcs.p ev;have il:=(Ql.mp ex).1;have xl:=al x (Qz ex);have l1:=fl (r.arcs.take i) λy hy=>al y (List.mem_of_mem_take hy);rw[QJ]at l1;have t1:x.one.1.length<=8:=xl.o.n.l8;have t2:x.two.1.length<=8:=xl.t.n.l8
  have sg:∀{t:Tu},TuL t->t.2.length=1:=λ{t} h=>by
   rcases h.w with e|e <;> rw[e] <;> decide +kernel
  have s1:=sg xl.o;have s2:=sg xl.t;generalize eL:F++((r.arcs.take i).map λx=>arT x++[44,32]).flatten=L at *;have lL:L.length<=5000:=by rw[<-eL,Qg];omega
  have e0:("" : Str).length=0:=by decide +kernel
  have e5:("*" : Str).length=1:=by decide +kernel
  refine⟨b,_,rfl,SqT.of hb,rfl,_,_,rfl,aZ ⟨_,_,rfl,aZ ⟨_,_,rfl,aZ ⟨rfl,?_⟩⟩⟩⟩;lk;refine⟨_,_,rfl,rfl,by rw[aM];omega,?_⟩;lk;refine⟨_,_,rfl,rfl,by simp only[bh,aM];omega,?_⟩;lk;refine⟨_,_,rfl,rfl,by simp only[bh,aM];rw[e4];omega,?_⟩;lk;refine⟨_,_,rfl,rfl,by simp only[bh,aM];rw[e4];omega,?_⟩;lk;refine⟨_,_,rfl,rfl,by simp only[bh,aM];rw[e4];omega,?_⟩;lk;refine⟨by simp[sizeLine],λp hp=>?_⟩;have Sp:=aE (o:=.lst [V.str "", V.str "*"]) hp
  obtain⟨st,est,ist,lst⟩:∃st:Str,atI [V.str "", V.str "*"] x.mark=some (.str st)/\st.cps.toList=(if x.mark=1 then [42] else [])/\st.length<=1:=by
   rcases xl.m with e|e
   ·exact⟨"", by rw[e];rfl,by rw[e];decide +kernel,by omega⟩
   exact⟨"*", by rw[e];rfl,by rw[e];decide +kernel,by omega⟩
  lk;refine i_ixL (SqL.of ag) est ?_;lk;refine⟨_,_,rfl,rfl,by simp only[bh,aM];rw[e4];omega,?_⟩;lk;refine⟨_,_,rfl,rfl,by simp only[bh,aM];rw[e4,e3];omega,?_⟩;lk;refine⟨some (.ref b1),some (.ref b2),some (.int x.mark),?_,S'.trans Sp⟩
  have et:mk L++x.one.1++x.one.2++(">" : Str)++x.two.1++x.two.2++st++(", " : Str)=mk (F++((r.arcs.take (i+1)).map λx=>arT x++[44,32]).flatten):=bz (by
   simp only[bL,cM];rw[ist,List.take_succ,ex,QP,List.flatten_append,<-QY,eL];show L++x.one.1.cps.toList++x.one.2.cps.toList++[62]++x.two.1.cps.toList++x.two.2.cps.toList++_++[44,32]=L++[arT x++[44,32]].flatten;unfold arT arB tuT
   simp)
  rw[et];rfl
 obtain⟨y2,y3,y4,rfl,S'⟩:=pv;rw[Q0 (by rw[aO at_.arcs.p];exact Qi _)];have l1:=fl r.arcs al;lk;refine rZ (by rw[aM,Qg];omega) ?_
 have tail:∀(x:Arc) (xs:List Arc),(((x::xs).map λx=>arT x++[44,32]).flatten)=asT (x::xs)++[44,32]:=λx xs=>by
  show _=JJ [44,32] (arT x) (xs.map arT)++[44,32]
  induction xs generalizing x with
  | nil=>simp[JJ]
  | cons y ys ih =>
  rw[Qo,List.flatten_cons,ih y];show arT x++[44,32]++(JJ [44,32] (arT y) (ys.map arT)++[44,32])=arT x++([44,32]++JJ [44,32] (arT y) (ys.map arT))++[44,32];simp
 obtain⟨x0,xs0,ex⟩:=i4 ok full
 have eW:PySem.Txt.slice (mk (F++((r.arcs.map λx=>arT x++[44,32]).flatten))) none (some (-2))=mk (rgW r):=by
  have c1:PySem.Txt.slice (mk ((F++asT (x0::xs0))++[44,32])) none (some (-2))=mk (F++asT (x0::xs0)):=gE _ [44,32] rfl (by decide);rw[ex,tail x0 xs0,<-QY,c1,eF,<-ex];show _=mk (iT r.ins++([59,32]++(oT r.outs++([59,32]++(r.z.cps.toList++([59,32]++asT r.arcs))))));congr 1;simp
 rw[eW];lk;exact q H' (SG.trans S')
end
theorem wu {K:PySem.W.Frag}:PySem.W.kitOne K (.type "int") (.type "tuple")=some false:=by with_unfolding_all rfl
theorem ww {K:PySem.W.Frag}:PySem.W.kitOne K (.type "int") (.type "list")=some false:=by with_unfolding_all rfl
theorem wv {K:PySem.W.Frag}:PySem.W.kitOne K (.type "int") (.type "str")=some false:=by with_unfolding_all rfl
theorem mE {k:Nat} {fd:FuncData} {ps:List Str} {sp:Sp} (h:∀vs H Q E,sp vs H Q E->False):FnOk P w K mg base CX0 k f fd ps sp :=
 ⟨λvs H Q E q=>(h vs H Q E q).elim,λ_ _ _ _ _ _ vs Q E _ _ _ _ q=>(h _ _ _ _ q).elim⟩
inductive Al (H:Hp):Nat->V->V->Prop where
 | str {n:Nat} {z:Str}:Al H (n+1) (.str z) (.str z)
 | int {n:Nat} {i:Int}:Al H (n+1) (.int i) (.int i)
 | tup {n:Nat} {a b:Addr} {xs ys:List V}:H a=some (.tup xs)->H b=some (.tup ys)->xs.length=ys.length->ys.length<=1000->(∀(j:Nat) x y,xs[j]?=some x->ys[j]?=some y->Al H n x y)->Al H (n+1) (.ref a) (.ref b)
 | lst {n:Nat} {a b:Addr} {xs ys:List V}:H a=some (.lst xs)->H b=some (.lst ys)->xs.length=ys.length->ys.length<=1000->(∀(j:Nat) x y,xs[j]?=some x->ys[j]?=some y->Al H n x y)->Al H (n+1) (.ref a) (.ref b)
theorem Al.same (S:aw H H') (h:Al H n v u):Al H' n v u:=by
 induction h with
 | str=>exact .str
 | int=>exact .int
 | tup h1 h2 h3 h4 _ ih=>exact .tup (S _ _ h1) (S _ _ h2) h3 h4 ih
 | lst h1 h2 h3 h4 _ ih=>exact .lst (S _ _ h1) (S _ _ h2) h3 h4 ih
theorem Al.eqd {K:PySem.W.Frag} (h:Al H n v u):EqD K H n v u true:=by
 induction h with
 | @str n z =>
  have h:=EqD.flat (K:=K) (H:=H) (n:=n+1) (x:=.str z) (y:=.str z) rfl rfl;have e:eqV (.str z) (.str z)=true:=by simp[eqV]
  rw[e]at h;exact h
 | @int n i =>
  have h:=EqD.flat (K:=K) (H:=H) (n:=n+1) (x:=.int i) (y:=.int i) rfl rfl;have e:eqV (.int i) (.int i)=true:=by simp[eqV]
  rw[e]at h;exact h
 | @tup n a b xs ys h1 h2 h3 h4 _ ih =>
  by_cases c:a=b
  ·subst c;exact .same
  have h:=EqD.tups (e:=λ_=>true) (SqT.of h1) (SqT.of h2) (λj x y e1 e2=>ih j x y e1 e2) c;have e:((List.range (min xs.length ys.length)).all (λ_=>true)&&xs.length==ys.length)=true:=by simp[h3]
  rw[e]at h;exact h
 | @lst n a b xs ys h1 h2 h3 h4 _ ih =>
 by_cases c:a=b
 ·subst c;exact .same
 have h:=EqD.lists (e:=λ_=>true) (SqL.of h1) (SqL.of h2) h3 (λj x y e1 e2=>ih j x y e1 e2) c;have e:(List.range xs.length).all (λ_=>true)=true:=by simp
 rw[e]at h;exact h
theorem vV {A:V->V->Prop} {x y:V} (h1:A x u) (h2:A y v):∀(j:Nat) a b,[x,y][j]?=some a->[u,v][j]?=some b->A a b:=λj a b e1 e2=>by
 match j with
 | 0=>cases e1;cases e2;exact h1
 | 1=>cases e1;cases e2;exact h2
 | j+2=>simp at e1
theorem vU {A:V->V->Prop} {x y z t:V} (h1:A x u) (h2:A y v) (h3:A z t):∀(j:Nat) a b,[x,y,z][j]?=some a->[u,v,t][j]?=some b->A a b:=λj a b e1 e2=>by
 match j with
 | 0=>cases e1;cases e2;exact h1
 | 1=>cases e1;cases e2;exact h2
 | 2=>cases e1;cases e2;exact h3
 | j+3=>simp at e1
theorem ou (ns:List Str):∀(j:Nat) x y,(ns.map V.str)[j]?=some x->(ns.map V.str)[j]?=some y->Al H (n+1) x y:=λj x y e1 e2=>by
 rw[e1]at e2;cases e2;rw[QB]at e1
 cases h:ns[j]? with
 | none=>rw[h]at e1;cases e1
 | some z=>rw[h]at e1;cases e1;exact .str
theorem uq {A:V->V->Prop} {x y:V} (hl:xs.length=ys.length) (h:∀(j:Nat) a b,xs[j]?=some a->ys[j]?=some b->A a b) (h1:A x y):∀(j:Nat) a b,(xs++[x])[j]?=some a->(ys++[y])[j]?=some b->A a b:=λj a b e1 e2=>by
 by_cases c:j<xs.length
 ·rw[QZ c]at e1;rw[QZ (by omega)]at e2;exact h j a b e1 e2
 rw[QW (by omega)]at e1 e2;rw[<-hl]at e2
 cases hj:j-xs.length with
 | zero=>rw[hj]at e1 e2;cases e1;cases e2;exact h1
 | succ k=>rw[hj]at e1;simp at e1
theorem Al.le (h:Al H n v u):∀{m:Nat},n<=m->Al H m v u:=by
 induction h with
 | str =>
  intro m hm;obtain⟨k,rfl⟩:∃k,m=k+1:=⟨m-1,by omega⟩;exact .str
 | int =>
  intro m hm;obtain⟨k,rfl⟩:∃k,m=k+1:=⟨m-1,by omega⟩;exact .int
 | tup h1 h2 h3 h4 _ ih =>
  intro m hm;obtain⟨k,rfl⟩:∃k,m=k+1:=⟨m-1,by omega⟩;exact .tup h1 h2 h3 h4 λj x y e1 e2=>ih j x y e1 e2 (by omega)
 | lst h1 h2 h3 h4 _ ih =>
 intro m hm;obtain⟨k,rfl⟩:∃k,m=k+1:=⟨m-1,by omega⟩;exact .lst h1 h2 h3 h4 λj x y e1 e2=>ih j x y e1 e2 (by omega)
theorem t4 (S:aw H H1) (hD:H D.d=none) (k:Kp D H1 H2):aw H H2:=λb o e=>k.old b o (S _ _ e) λz=>by
 have z:b=D.d:=z;rw[z,hD]at e;cases e
theorem lZ {A:V->V->Prop} {x y z w t s:V} (h1:A x u) (h2:A y v) (h3:A z t) (h4:A w s):∀(j:Nat) a b,[x,y,z,w][j]?=some a->[u,v,t,s][j]?=some b->A a b:=λj a b e1 e2=>by
 match j with
 | 0=>cases e1;cases e2;exact h1
 | 1=>cases e1;cases e2;exact h2
 | 2=>cases e1;cases e2;exact h3
 | 3=>cases e1;cases e2;exact h4
 | j+4=>simp at e1
theorem vd {t:Tu} (h1:TuA H u t) (h2:TuA H v t):Al H (n+2) u v:=by
 obtain⟨a,rfl,h1⟩:=h1;obtain⟨b,rfl,h2⟩:=h2;exact .tup h1 h2 rfl (by simp) (vV .str .str)
theorem wP {x:Arc} (h1:ArA H u x) (h2:ArA H v x):Al H (n+3) u v:=by
 obtain⟨a,u1,u2,rfl,h1,s1,s2⟩:=h1;obtain⟨b,v1,v2,rfl,h2,t1,t2⟩:=h2;exact .tup h1 h2 rfl (by simp) (vU (vd s1 t1) (vd s2 t2) .int)
theorem jh {n:Nat} (p1:Paired (ArA H) xs as) (p2:Paired (ArA H) ys as):∀(j:Nat) a b,xs[j]?=some a->ys[j]?=some b->Al H (n+3) a b:=λj a b e1 e2=>by
 obtain⟨x,ex,h1⟩:=paired_get p1 e1;obtain⟨y,ey,h2⟩:=paired_get p2 e2;rw[ex]at ey;cases ey;exact wP h1 h2
theorem oz {lo a' li' lo' l':Addr} {as as':List V} (h1:RgA H a li lo l as r) (h2:RgA H a' li' lo' l' as' r) (ok:RgOk r):Al H 6 (.ref a) (.ref a'):=by
 have w5:r.ins.length+r.outs.length<=5:=by have:=ok.w5;unfold Rg.ws at this;rw[Qg]at this;exact this
 have l1:=aO h1.arcs.p;have l2:=aO h2.arcs.p;have few:=ok.few;exact .tup h1.ha h2.ha rfl (by simp) (lZ (.lst h1.hi h2.hi rfl (by rw[Qb];omega) (ou _)) (.lst h1.ho h2.ho rfl (by rw[Qb];omega) (ou _)) .str (.lst h1.arcs.h h2.arcs.h (by omega) (by omega) (jh h1.arcs.p h2.arcs.p)))
def fO (d:Nat):Sp:=λvs H Q _=>∃(v u:V),vs=[v,u]/\Al H d v u/\∀H',aw H H'->Q (.bl true) H'
section
def Sq (H:Hp) (a:Addr) (xs:List V):Prop:=H a=some (.tup xs)\/H a=some (.lst xs)
variable {xs:List V}
theorem Sq.same {H H':Hp} {a:Addr} (h:Sq H a xs) (S:aw H H'):Sq H' a xs:=h.imp (S _ _) (S _ _)
theorem Sq.len {H:Hp} {a:Addr} (h:Sq H a xs):SqL K H a xs\/SqT K H a xs:=h.symm.imp SqL.of SqT.of
theorem zZ {H:Hp} {a:Addr} {i:Int} {v:V} {Q:VK} (h:Sq H a xs) (e:atI xs i=some v) (q:Q v H):lV K (.ref a) (.int i) H Q\/gM K (.ref a) (.int i) H Q:=by
 rcases h with h|h
 ·exact .inl ⟨a,xs,i,v,rfl,rfl,SqT.of h,e,q⟩
 exact .inr ⟨a,xs,i,v,rfl,rfl,SqL.of h,e,q⟩
theorem iH:FnScope ["found", "due"] ["found", "due"] (am (top 41)):=by fin2
theorem kh {f:Addr} {fd:FuncData} (Fu:Fun K "_law_alike" "_law_alike" (top 41) f fd) (T:Txt K mg TT) (hm:mg "_law_alike" = some (.ref f)) (hk:PySem.W.keepIn K (.ref f)=true) (hb:fG K fd ["found", "due"] []):∀d,FnOk P w K mg base CX0 d f fd ["found", "due"] (fO d)
 | 0=>mE λvs H Q E ⟨v,u,_,h,_⟩=>nomatch h
 | d+1=>by
  have S:=iH;have f_law_alike:Fn P w K mg base "_law_alike" ["found", "due"] d (fO d):=⟨f,fd,kh Fu T hm hk hb d,hm,hk,hb⟩;refine Fu.ok S (λvs H Q E h=>?_) (λcdv A outer s H vs Q E hr h=>?_)
  ·obtain⟨v,u,rfl,_⟩:=h;rfl
  obtain⟨v,u,rfl,al,q⟩:=h;have big:1000000<sizeLine:=by decide
  refine'⟨?_,?bb,?_⟩
  case bb =>
   walk_at "b";exact(aP qX (pv 1) qN rfl);exact(aA (bj qX (pv 0) qN rfl));exact(PW.pt (cF (bp (ah aC (by rfl) T.n_isinstance Qr (aa (pv 1) (aa (bg (v:=.ty "tuple") (by rfl) T.n_tuple X1 rfl) ad ae) ae))) (bZ (bp (ah aC (by rfl) T.n_isinstance Qr (aa (pv 1) (aa (bg (v:=.ty "list") (by rfl) T.n_list XM rfl) ad ae) ae))))));exact(PW.pt (cF (aP du (ah aC (by rfl) T.n_isinstance Qr (aa (pv 0) (aa (bg (v:=.ty "tuple") (by rfl) T.n_tuple X1 rfl) ad ae) ae)) (ah aC (by rfl) T.n_isinstance Qr (aa (pv 1) (aa (bg (v:=.ty "tuple") (by rfl) T.n_tuple X1 rfl) ad ae) ae)) (aH _)) (bZ (aP du (ah aC (by rfl) T.n_isinstance Qr (aa (pv 0) (aa (bg (v:=.ty "list") (by rfl) T.n_list XM rfl) ad ae) ae)) (ah aC (by rfl) T.n_isinstance Qr (aa (pv 1) (aa (bg (v:=.ty "list") (by rfl) T.n_list XM rfl) ad ae) ae)) (aH _)))));exact(aA cz);exact(aP du (ah av (by rfl) T.n_len QM (aa (pv 0) ad ae)) (ah av (by rfl) T.n_len QM (aa (pv 1) ad ae)) (aH _));exact(aA cz)
   with_reducible refine' aA ?e
   case e =>
    exact(bj (ma hr.units) (qO (tgs:=["k"]) (cap:=[("found", 0),("due", 1)]) rfl ⟨rfl,rfl,rfl,rfl,rfl,rfl⟩ (b8 (by rfl) T.n_range (aa (ah av (by rfl) T.n_len QM (aa (pv 1) ad ae)) ad aW)) (λ_ _ _ _=>(cK (i:=0) (show List.Nodup [("k" : Str),("found" : Str),("due" : Str)] by decide +kernel) rfl (by z_go))) (λ_ _ _ _=>(j9 (br (bp (aR f_law_alike hr (aa (au (nT (K:=K) rfl) (pv 1) (pv 0)) (aa (au (nT (K:=K) rfl) (pv 2) (pv 0)) ad))))))) (λ_ _ _ _=>(pv 0))) (pe_lst ad) (aH _))
   exact(bp (ah aC (by rfl) T.n_isinstance Qr (aa (pv 1) (aa (bg (v:=.ty "str") (by rfl) T.n_str Xw rfl) ad ae) ae)));exact(aA (bW (ah aC (by rfl) T.n_isinstance Qr (aa (pv 0) (aa (bg (v:=.ty "str") (by rfl) T.n_str Xw rfl) ad ae) ae)) (b9 (bj cA (pv 0) (pv 1) (aH _)))));exact(aA (bW (ah aC (by rfl) T.n_isinstance Qr (aa (pv 0) (aa (bg (v:=.ty "int") (by rfl) T.n_int XU rfl) ad ae) ae)) (bW (qM (ah aC (by rfl) T.n_isinstance Qr (aa (pv 0) (aa (bg (v:=.ty "bool") (by rfl) T.n_bool PyProof.Rows.boot_bool rfl) ad ae) ae))) (b9 (bj cA (pv 0) (pv 1) (aH _))))))
  x_go
  have last:∀{a b:Addr} {xs ys:List V},v=.ref a->u=.ref b->Sq H a xs->Sq H b ys->xs.length=ys.length->ys.length<=1000->(∀(j:Nat) x y,xs[j]?=some x->ys[j]?=some y->Al H d x y)->∀{D':Ends},D'.rt=Q ->
    jF (vv (jE (tOp rNe (tCB (λxs H Q=>∃p ys,xs=[V.ref p]/\(SqL K H p ys\/SqT K H p ys)/\Q (V.int ↑ys.length) H) (cS (bX 0) f8)) (tCB (λxs H Q=>∃p ys,xs=[V.ref p]/\(SqL K H p ys\/SqT K H p ys)/\Q (V.int ↑ys.length) H) (cS (bX 1) f8)))) (p8 (tC (V.bl false))) p_)
     (p8 (tOp (tG K false) (jH (se (cS (tCB (λxs H Q=>∃p ys,xs=[V.ref p]/\(SqL K H p ys\/SqT K H p ys)/\Q (V.int ↑ys.length) H) (cS (bX 1) f8)) f8)) (df 0) (vp (jE (gW (fO d) [] E0 (cS (tOp (λx y H Q=>lV K x y H Q\/gM K x y H Q) (bX 1) (bX 0)) (cS (tOp (λx y H Q=>lV K x y H Q\/gM K x y H Q) (bX 2) (bX 0)) f8))))) (bX 0) (bu ["k"] [("found", 0),("due", 1)])) (vt f8))) D' [some v,some u] H:=by
   intro a b xs ys e1 e2 h1 h2 hl h1000 it D' hD;subst e1 e2;lk;refine⟨a,xs,rfl,h1.len,?_⟩;lk;refine⟨b,ys,rfl,h2.len,?_⟩;lk;refine ifF (by rw[hl];simp) ?_;refine s_next ?_;dsimp +zetaDelta only;refine s_ret ?_;rw[hD];refine i_op ?_;refine cb ?_;lk;refine⟨b,ys,rfl,h2.len,?_⟩;lk;refine⟨by omega,by omega,λL hL=>?_⟩;rw[Q6];refine kW (n:=ys.length) (λm H' zs=>aw H H'/\H' L=some (.lst [])/\zs=[]) ⟨aE hL,ag,rfl⟩ (λi H' zs p=>by rw[p.2.2];exact p.2.1) (λi H' zs hi p=>?_) (λH' zs p=>?_)
   ·obtain⟨Sm,hd,rfl⟩:=p;refine aZ ⟨by repeat' (first|exact trivial|refine⟨rfl,?_⟩),?_⟩
    have e1:atI xs (0+(i:Int))=some (xs[i]'(by omega)):=by
     have:=bv (Qc (l:=xs) (i:=i) (by omega));rw[Int.zero_add];exact this
    have e2:atI ys (0+(i:Int))=some ys[i]:=by
     have:=bv (Qc hi);rw[Int.zero_add];exact this
    refine i_not (i_test (i_call ?_));refine i_cons (i_op (bw rfl (bw rfl (zZ (h1.same Sm) e1 ?_))));refine i_cons (i_op (bw rfl (bw rfl (zZ (h2.same Sm) e2 ?_))));refine i_nil ⟨_,_,rfl,(it i _ _ (Qc (by omega)) (Qc hi)).same Sm,λH2 S2=>?_⟩;refine⟨true,rfl,cu ?_⟩;exact⟨ys.length-(i+1),by omega,rfl,by omega,Sm.trans S2,S2 _ _ hd,rfl⟩
   obtain⟨Sm,hd,rfl⟩:=p;lk;refine⟨by show 0<=_;omega,λp2 hp2=>?_⟩;ctx_has H' p2 H2 S2 q2 az hp2;refine⟨L,p2,_,_,λ_=>true,rfl,rfl,SqL.of (S2 _ _ hd),SqL.of q2,λj x y e1 e2=>by simp at e2,?_⟩;exact q H2 (Sm.trans S2)
  cases al with
  | @str _ z =>
   lk;refine⟨rfl,?_⟩;lk;refine ifF (by simp) ?_;lk;refine⟨_,_,_,_,rfl,TyOf.str z,wo,?_⟩;refine⟨_,rfl,cu ?_⟩;lk;refine⟨_,_,_,_,rfl,TyOf.str z,wq,?_⟩;refine⟨_,rfl,cu ?_⟩;lk;refine⟨_,_,_,_,rfl,TyOf.str z,be "str", ?_⟩;refine⟨_,rfl,iteT ?_⟩;lk;refine⟨_,_,_,_,rfl,TyOf.str z,be "str", ?_⟩;refine⟨_,rfl,iteT ?_⟩;lk;have e:decide (V.str z=V.str z)=true:=by simp
   rw[e];exact q H (aw.refl H)
  | @int _ z =>
   lk;refine⟨rfl,?_⟩;lk;refine ifF (by simp) ?_;lk;refine⟨_,_,_,_,rfl,TyOf.int z,wu,?_⟩;refine⟨_,rfl,cu ?_⟩;lk;refine⟨_,_,_,_,rfl,TyOf.int z,ww,?_⟩;refine⟨_,rfl,cu ?_⟩;lk;refine⟨_,_,_,_,rfl,TyOf.int z,wv,?_⟩;refine⟨_,rfl,cu ?_⟩;lk;refine⟨_,_,_,_,rfl,TyOf.int z,be "int", ?_⟩;refine⟨_,rfl,iteT ?_⟩;lk;refine⟨_,_,_,_,rfl,TyOf.int z,rO,?_⟩;lk;refine ifT rfl ?_;lk;have e:decide (V.int z=V.int z)=true:=by simp
   rw[e];exact q H (aw.refl H)
  | @tup _ a b xs ys h1 h2 hl h1000 it =>
   lk;refine⟨rfl,?_⟩;lk;refine ifF (by simp) ?_;lk;refine⟨_,_,_,_,rfl,.tup h2,be "tuple", ?_⟩;refine⟨_,rfl,iteT ?_⟩;lk;refine⟨_,_,_,_,rfl,.tup h1,be "tuple", ?_⟩;lk;refine⟨_,_,_,_,rfl,.tup h2,be "tuple", ?_⟩;lk;refine ifF (by decide) ?_;lk;refine⟨_,_,_,_,rfl,.tup h1,rN,?_⟩;lk;refine⟨_,_,_,_,rfl,.tup h2,rN,?_⟩;lk;refine ifF (by decide) ?_;refine s_next ?_;exact last rfl rfl (.inl h1) (.inl h2) hl h1000 it rfl
  | @lst _ a b xs ys h1 h2 hl h1000 it =>
  lk;refine⟨rfl,?_⟩;lk;refine ifF (by simp) ?_;lk;refine⟨_,_,_,_,rfl,.lst h2,mC,?_⟩;refine⟨_,rfl,cu ?_⟩;lk;refine⟨_,_,_,_,rfl,.lst h2,be "list", ?_⟩;refine⟨_,rfl,iteT ?_⟩;lk;refine⟨_,_,_,_,rfl,.lst h1,mC,?_⟩;lk;refine⟨_,_,_,_,rfl,.lst h2,mC,?_⟩;lk;refine ifF (by decide) ?_;lk;refine⟨_,_,_,_,rfl,.lst h1,be "list", ?_⟩;lk;refine⟨_,_,_,_,rfl,.lst h2,be "list", ?_⟩;lk;refine ifF (by decide) ?_;refine s_next ?_;exact last rfl rfl (.inr h1) (.inr h2) hl h1000 it rfl
end
def m_ (K:PySem.W.Frag):Sp:=λvs H Q _=>∃(a:Addr) (ns:List Int),vs=[.ref a]/\SqL K H a (ns.map V.int)/\ns.length<=63/\∀H',Q (.bl true) H'
theorem s_ {K:PySem.W.Frag} (h:SqL K H a xs) (k:∀o,H a=some o->H' a=some o):SqL K H' a xs:=by
 rcases h with h|h
 ·left
  rcases h with e|⟨o,e⟩
  ·exact .inl (k _ e)
  exact .inr ⟨o,k _ e⟩
 exact .inr h
theorem mG {K:PySem.W.Frag} (h1:H a=some (.lst xs)) (h2:H b=some (.lst ys)) (p1:Paired (ArA H) xs as) (p2:Paired (ArA H) ys as):EqD K H (n+4) (.ref a) (.ref b) true:=by
 have l1:=aO p1;have l2:=aO p2;exact cV (SqL.of h1) (SqL.of h2) (by omega) λj x y e1 e2=>(jh (n:=n) p1 p2 j x y e1 e2).eqd
section
theorem vE:FnScope ["script", "k", "ring", "due", "handed", "found", "told"] ["script"] (am (top 43)):=by fin2
theorem rz {f:Addr} {fd:FuncData} (Fu:Fun K "law" "law" (top 43) f fd) (T:Txt K mg TT) (f_law_cell_at:Fn P w K mg base "_law_cell_at" ["script", "k"] 1 (jO K)) (f_law_deck:Fn P w K mg base "_law_deck" ["cell", "many"] 2 gc) (f_law_one_ring:Fn P w K mg base "_law_one_ring" ["deck", "most"] 3 m9) (f_law_ring_written:Fn P w K mg base "_law_ring_written" ["ring"] 1 mT) (f_law_copy:Fn P w K mg base "_law_copy" ["ring"] 1 nc) (f_show_ring_sheet:Fn P w K mg base "show_ring_sheet" ["ring_sheet"] 2 gb) (f_read_ring_sheet:Fn P w K mg base "read_ring_sheet" ["text"] 6 jL) (f_law_alike:Fn P w K mg base "_law_alike" ["found", "due"] 6 (fO 6)):FnOk P w K mg base CX0 7 f fd ["script"] (m_ K):=by
 have S:=vE;refine Fu.ok S (by room) (λcdv A outer s H vs Q E hr h=>?_);obtain⟨sc,ns,rfl,hS,n63,q⟩:=h;have hu:=gz hr;have big:1000000<sizeLine:=by decide
 refine'⟨?_,?bb,?_⟩
 case bb =>
  walk_at "b";walk_at "f";exact(b8 (by rfl) T.n_range (aa (ah (pO rfl) (by rfl) T.n_max PyProof.Rows.boot_max (aa af (aa (ah (pN rfl) (by rfl) T.n_min PyProof.Rows.boot_min (aa (ah av (by rfl) T.n_len QM (aa (pv 0) ad ae)) (aa af ad aD) aW)) ad aW) aD)) ad aW));exact(de 1 S.nd);walk_at "p";exact bo 2 S.nd (aR f_law_one_ring hr (aa (aR f_law_deck hr (aa (aR f_law_cell_at hr (aa (pv 0) (aa (pv 1) ad ae) ae)) (aa af ad aD) aW)) (aa af ad aD) aW));exact bo 3 S.nd (aR f_law_ring_written hr (aa (pv 2) ad ae));exact bo 4 S.nd (aR f_law_copy hr (aa (pv 2) ad ae));exact bo 5 S.nd (aR f_show_ring_sheet hr (aa (pv 4) ad ae));exact(PW.pt (cF (br (bp (ah aC (by rfl) T.n_isinstance Qr (aa (pv 5) (aa (bg (v:=.ty "str") (by rfl) T.n_str Xw rfl) ad ae) ae)))) (cF (aP du (pv 5) (pv 3) (aH _)) (bZ (aP (qU hr.units) (pv 4) (pv 2) (aH _))))));exact(aA cz);exact bo 6 S.nd (aR f_read_ring_sheet hr (aa (pv 3) ad ae));exact(br (bp (aR f_law_alike hr (aa (pv 6) (aa (pv 2) ad ae) ae))));exact(aA cz);exact(cJ (bt Q4 Xh Xi bx (au aB (pv 6) af) (aa ax ad aD)));exact(cJ (bt Q4 Xh Xi bx (au aB (pv 6) af) (aa ax ad aD)));exact(cJ (bt Q4 Xh Xi bx (au aB (pv 6) af) (aa ax ad aD)));exact(aP (qT hr.units) (pv 6) (pe_tup (aa (aQ cR (au aB (pv 2) af) (pe_lst (aa ax ad aD))) (aa (aQ cR (au aB (pv 2) af) (pe_lst (aa ax ad aD))) (aa (au aB (pv 2) af) (aa (aQ cR (au aB (pv 2) af) (pe_lst (aa ax ad aD))) ad))))) (aH _));exact(aA cz);exact(PW.pt (cF (br (bp (aR f_law_alike hr (aa (aR f_read_ring_sheet hr (aa (pv 3) ad ae)) (aa (pv 2) ad ae) aW)))) (bZ (aP du (aR f_show_ring_sheet hr (aa (pv 4) ad ae)) (pv 3) (aH _)))));exact(aA cz);exact(aA cz)
 x_go;lk;refine⟨sc,_,rfl,.inl hS,?_⟩;lk;refine⟨_,_,rfl,?_⟩;lk;refine⟨_,_,rfl,?_⟩;rw[Qb]
 obtain⟨N,hN,N10⟩:∃N:Nat,(if (if (10:Int)<(ns.length:Int) then 10 else (ns.length:Int))>1 then (if (10:Int)<(ns.length:Int) then 10 else (ns.length:Int)) else 1)=(N:Int)/\N<=10:=by
  by_cases c:(10:Int)<(ns.length:Int)
  ·rw[Qu c];exact⟨10,by decide,by omega⟩
  rw[Qt c];by_cases c2:(ns.length:Int)>1
  ·rw[Qu c2];exact⟨ns.length,rfl,by omega⟩
  rw[Qt c2];exact⟨1,rfl,by omega⟩
 rw[hN];lk;refine⟨by omega,by omega,?_⟩;rw[Q6];refine cc (n:=N) (λi U H'=>(∃x1 x2 x3 x4 x5 x6,U=[some (.ref sc),x1,x2,x3,x4,x5,x6])/\aw H H') ⟨⟨_,_,_,_,_,_,rfl⟩,aw.refl H⟩ (λi U H0 hi pv=>?_) (λU H' pv=>?_)
 ·obtain⟨⟨x1,x2,x3,x4,x5,x6,rfl⟩,S0⟩:=pv;refine aZ ?_;lk;refine⟨sc,ns,i,by rw[Int.zero_add],s_ hS λo e=>S0 _ _ e,by omega,λc=>?_⟩;lk;refine⟨c,100,rfl,by omega,λd xs H1 S1 hd h1=>?_⟩;lk;refine⟨⟨d⟩,rfl,⟨xs,h1⟩,λa li lo l as r H2 k2 at2 fresh ok full rx so=>?_⟩;have S02:aw H0 H2:=t4 S1 hd k2;have w5:r.ins.length+r.outs.length<=5:=by have:=ok.w5;unfold Rg.ws at this;rw[Qg]at this;exact this
  have few:=rx.few;lk;refine⟨a,li,lo,l,as,r,rfl,at2,ok,rx,full,λH3 S3=>?_⟩;have at3:=at2.same S3;lk;refine⟨a,li,lo,l,as,r,rfl,at3,ok,λa' li' lo' l' H4 S4 at4'=>?_⟩;have at4:=at3.same S4;lk;refine⟨a',li',lo',l',as,r,rfl,at4',ok,rx,full,λH5 S5=>?_⟩;have at5:=at4.same S5;have at5':=at4'.same S5;lk;refine⟨_,_,_,_,rfl,TyOf.str _,be "str", ?_⟩;refine⟨_,rfl,cu ?_⟩;lk;refine ifF (by simp) ?_;lk;refine z_ (SqT.of at5'.ha) (SqT.of at5.ha) rfl (lZ (cV (SqL.of at5'.hi) (SqL.of at5.hi) rfl (dI (ce _))) (cV (SqL.of at5'.ho) (SqL.of at5.ho) rfl (dI (ce _))) (gB rfl) (mG at5'.arcs.h at5.arcs.h at5'.arcs.p at5.arcs.p)) ?_;refine⟨_,rfl,ifF rfl ?_⟩;lk;refine⟨r,rfl,ok,rx,full,so,λt ti tn tl ts H6 S6 ni nn nl d1 d2 d3 at6t=>?_⟩;have at6:=at5.same S6;have at6':=at5'.same S6;lk;refine⟨_,_,rfl,oz at6t at6 ok,λH7 S7=>?_⟩;refine⟨_,rfl,cu ?_⟩;have S57:=S6.trans S7;have at7t:=at6t.same S7;have ht:=at7t.ha;have hti:=at7t.hi;have htn:=at7t.ho;have htl:=at7t.arcs.h;have e1:ti≠t:=λz=>by rw[z,ht]at hti;cases hti
  have e2:tn≠t:=λz=>by rw[z,ht]at htn;cases htn
  have e3:tl≠t:=λz=>by rw[z,ht]at htl;cases htl
  have pl:=aO at7t.arcs.p;lk;refine fE hti (by rw[Qb];omega) ?_;generalize hE:upd H7 ti _=H8;have q8:H8 ti=some (.lst ((r.ins++[("x" : Str)]).map V.str)):=by rw[<-hE,ag,QP];rfl
  have k8:∀b o,H7 b=some o->b≠ti->H8 b=some o:=λb o e z=>by rw[<-hE,ao z];exact e
  have S8:aw H5 H8:=by rw[<-hE];exact bK S57 ni
  have kt8:bS H7 H8:=by rw[<-hE];exact ca hti
  clear hE;have ht8:=k8 _ _ ht e1.symm;have htn8:=k8 _ _ htn d1.symm;have htl8:=k8 _ _ htl d2.symm;lk;refine fE htn8 (by rw[Qb];omega) ?_;generalize hE:upd H8 tn _=H9;have q9:H9 tn=some (.lst ((r.outs++[("y" : Str)]).map V.str)):=by rw[<-hE,ag,QP];rfl
  have k9:∀b o,H8 b=some o->b≠tn->H9 b=some o:=λb o e z=>by rw[<-hE,ao z];exact e
  have S9:aw H5 H9:=by rw[<-hE];exact bK S8 nn
  have kt9:bS H8 H9:=by rw[<-hE];exact ca htn8
  clear hE;have ht9:=k9 _ _ ht8 e2.symm;have q89:=k9 _ _ q8 d1;have htl9:=k9 _ _ htl8 d3.symm;lk;refine fE htl9 (by omega) ?_;generalize hE:upd H9 tl _=Ha;have qa:Ha tl=some (.lst (ts++[.str "z"])):=by rw[<-hE,ag]
  have ka:∀b o,H9 b=some o->b≠tl->Ha b=some o:=λb o e z=>by rw[<-hE,ao z];exact e
  have Sa:aw H5 Ha:=by rw[<-hE];exact bK S9 nl
  have kta:bS H9 Ha:=by rw[<-hE];exact ca htl9
  clear hE;have hta:=ka _ _ ht9 e3.symm;have q8a:=ka _ _ q89 d2;have q9a:=ka _ _ q9 d3;have pta:=ay (λ_ _ h=>ArA.kt kta (ArA.kt kt9 (ArA.kt kt8 h))) at7t.arcs.p;have ata:=at5.same Sa;have haa:=ata.ha;have hia:=ata.hi;lk;refine⟨by simp[sizeLine],λp1 hp1=>?_⟩;ctx_has Ha p1 Hb Sb qb az hp1;refine dP (Sb _ _ hia) qb (by rw[Qb];show _+1<=_;omega) λp2 hp2=>?_;ctx_has Hb p2 Hc Sc qc az hp2;have atc:=ata.same (Sb.trans Sc);have hac:=atc.ha;have hoc:=atc.ho;lk;refine⟨by simp[sizeLine],λp3 hp3=>?_⟩;ctx_has Hc p3 Hd Sd qd az hp3;refine dP (Sd _ _ hoc) qd (by rw[Qb];show _+1<=_;omega) λp4 hp4=>?_;ctx_has Hd p4 He Se qe az hp4;have ate:=atc.same (Sd.trans Se);have hae:=ate.ha;have hle:=ate.arcs.h;lk;refine⟨by simp[sizeLine],λp5 hp5=>?_⟩;ctx_has He p5 Hf Sf qf az hp5;have pla:=aO ate.arcs.p;refine dP (Sf _ _ hle) qf (by show _+1<=_;omega) λp6 hp6=>?_;ctx_has Hf p6 Hg Sg qg az hp6;lk;refine⟨by simp[sizeLine],λp7 hp7=>?_⟩;ctx_has Hg p7 Hh Sh qh az hp7;have Sfh:=Sf.trans (Sg.trans Sh);have Seh:=Se.trans Sfh;have Sdh:=Sd.trans Seh;have Sah:=(Sb.trans Sc).trans Sdh;have qc':Hh p2=some (.lst ((r.ins++[("x" : Str)]).map V.str)):=by rw[Sdh _ _ qc,QP];rfl
  have qe':Hh p4=some (.lst ((r.outs++[("y" : Str)]).map V.str)):=by rw[Sfh _ _ qe,QP];rfl
  have qg':Hh p6=some (.lst (as++[.str "z"])):=Sh _ _ qg;have pa1:=ay (λ_ _ h=>ArA.kt (aw.tups Sah) h) pta;have pa2:=(ata.same Sah).arcs.p;have lll:ts.length=as.length:=by rw[pl,<-aO pa2]
  refine⟨t,p7,_,_,λ_=>true,rfl,rfl,SqT.of (Sah _ _ hta),SqT.of qh,λj x y e1 e2=>?_,?_⟩
  ·refine lZ (A:=λx y=>EqD K Hh 30 x y true) (cV (SqL.of (Sah _ _ q8a)) (SqL.of qc') rfl (dI (ce _))) (cV (SqL.of (Sah _ _ q9a)) (SqL.of qe') rfl (dI (ce _))) (gB rfl) ?_ j x y e1 e2;exact cV (SqL.of (Sah _ _ qa)) (SqL.of qg') (by rw[Qg,Qg,lll]) λj x y e1 e2=>(uq (A:=Al Hh 29) lll (jh (n:=26) pa1 pa2) .str j x y e1 e2).eqd
  refine⟨_,rfl,ifF (by simp) ?_⟩;have S5h:=Sa.trans Sah;have ath:=at5.same S5h;have ath':=at5'.same S5h;lk;refine⟨r,rfl,ok,rx,full,so,λt2 ti2 tn2 tl2 ts2 Hi Si _ _ _ _ _ _ ati=>?_⟩;lk;refine⟨_,_,rfl,oz ati (ath.same Si) ok,λHj Sj=>?_⟩;refine⟨_,rfl,cu ?_⟩;lk;refine⟨a',li',lo',l',as,r,rfl,(ath'.same Si).same Sj,ok,rx,full,λHk Sk=>?_⟩;lk;refine ifF (by simp) ?_;refine s_next ?_;exact⟨⟨_,_,_,_,_,_,rfl⟩,S0.trans (S02.trans (S3.trans (S4.trans (S5.trans (S5h.trans (Si.trans (Sj.trans Sk)))))))⟩
 obtain⟨⟨x1,x2,x3,x4,x5,x6,rfl⟩,S0⟩:=pv;lk;exact q H'
end
end K2
namespace K2
open PySem L2 PySem.Spec PyProof.Rows
theorem uZ {A:Type} {us:List A} (h:us.length=1):∃a0,us=[a0]:=by
 match us,h with
 | [a0],_=>exact⟨_,rfl⟩
theorem zU {A:Type} {us:List A} (h:us.length=2):∃a0 a1,us=[a0,a1]:=by
 match us,h with
 | [a0,a1],_=>exact⟨_,_,rfl⟩
theorem zT {A:Type} {us:List A} (h:us.length=5):∃a0 a1 a2 a3 a4,us=[a0,a1,a2,a3,a4]:=by
 match us,h with
 | [a0,a1,a2,a3,a4],_=>exact⟨_,_,_,_,_,rfl⟩
structure FX (K:PySem.W.Frag) (n:Str) (i:Nat) (f:Addr) (cd:Value):Prop where
 a:PySem.W.nsIn K mainGlobals n=some (some (.ref f))
 l:∃oc od kV dc pm an ct sl,K.lookup f=some ⟨oc,od,.func (PySem.W.fnOf n n (cq (top i)) (bM (top i)) (am (top i)) .none kV dc pm an cd ct),sl⟩
 c:PySem.W.codeIn K cd n=true
 k:PySem.W.keepIn K (.ref f)=true
theorem FX.fn {K:PySem.W.Frag} {n:Str} {i:Nat} {f:Addr} {cd:Value} {h:Heap} {mg:B2} (X:K.In h) (G:h.Ns mainGlobals mg) (x:FX K n i f cd):∃fd,Fun K n n (top i) f fd/\mg n=some (.ref f):=by
 obtain⟨a,⟨_,_,_,_,_,_,_,_,l⟩,c,k⟩:=x;exact⟨_,sj (st:=top i) l c k,PySem.W.mg_of X G a⟩
abbrev ZN (K:PySem.W.Frag) (n:Str):Prop:=PySem.W.nsIn K mainGlobals n=some none
variable {p:List Value->Prop}
theorem bn1 (h:∀a0,p [a0]) (us:List Value) (hl:us.length=1):p us:=by
 obtain⟨a0,e⟩:=uZ hl;subst e;exact h a0
theorem bn2 (h:∀a0 a1,p [a0,a1]) (us:List Value) (hl:us.length=2):p us:=by
 obtain⟨a0,a1,e⟩:=zU hl;subst e;exact h a0 a1
theorem bn5 (h:∀a0 a1 a2 a3 a4,p [a0,a1,a2,a3,a4]) (us:List Value) (hl:us.length=5):p us:=by
 obtain⟨a0,a1,a2,a3,a4,e⟩:=zT hl;subst e;exact h a0 a1 a2 a3 a4
theorem FX.go (P:Program) (w:World) (base:Heap) {K:PySem.W.Frag} {n:Str} {i k:Nat} {f:Addr} {cd:Value} {h:Heap} {mg:B2} {ps:List Str} {sp:Sp} (X:K.In h) (G:h.Ns mainGlobals mg) (x:FX K n i f cd) (o:∀fd,Fun K n n (top i) f fd->mg n=some (.ref f)->fG K fd ps []->FnOk P w K mg base CX0 k f fd ps sp)
  (hb:∀(kV doc pm:Value) (an:Option Addr) (cdv ct:Value) (us:List Value),us.length=ps.length->bindArgs (PySem.W.fnOf n n (cq (top i)) (bM (top i)) (am (top i)) .none kV doc pm an cdv ct) ⟨us,[]⟩=pure (ps.zip us):=by intro _ _ _ _ _ _;first|exact bn1 λ_=>rfl|exact bn2 λ_ _=>rfl|exact bn5 λ_ _ _ _ _=>rfl):Fn P w K mg base n ps k sp:=by
 obtain⟨fd,F,m⟩:=x.fn X G;have b:=F.binds hb;exact⟨f,fd,o fd F m b,m,x.k,b⟩
theorem wO {l:PySem.W.OpenLaw} {w:World} {K:PySem.W.Frag} {h:Heap} {mg:B2} {fa:Addr} (X:K.In h) (G:h.Ns mainGlobals mg) (hfa:mg "law" = some (.ref fa))
  (aT:PySem.W.nsIn K mainGlobals "TURNED" = some (some (.ref 40))) (tab:jD K 40 [("0", .flat (.str "1")),("1", .flat (.str "0"))])
  (aS:PySem.W.nsIn K mainGlobals "SIGNS_AHEAD" = some (some (.ref 82))) (tabS:jD K 82 [("+", .flat (.str "0")),("-", .flat (.str "1"))])
  (cn0:PySem.W.nsIn K mainGlobals "LETTERS" = some (some (.str "abcdefghijklmnopqrstuvwxyz" 225)))
  (cn1:PySem.W.nsIn K mainGlobals "MOST_LETTERS" = some (some (.int 8 227)))
  (cn2:PySem.W.nsIn K mainGlobals "MOST_WIRES" = some (some (.int 5 286)))
  (x0:FX K "is_name" 7 45 (.ref 44)) (x1:FX K "is_pair" 8 52 (.ref 51)) (x2:FX K "is_whole" 9 59 (.ref 58)) (x3:FX K "is_number_below" 10 66 (.ref 65)) (x4:FX K "is_row" 11 71 (.ref 70)) (x5:FX K "are_unlike_names" 12 76 (.ref 75)) (x6:FX K "has_wires" 14 81 (.ref 80)) (x7:FX K "is_ring_turn" 18 89 (.ref 88)) (x8:FX K "is_arc" 19 96 (.ref 95)) (x9:FX K "waiting_turns" 20 101 (.ref 100)) (x10:FX K "are_arcs" 21 106 (.ref 105)) (x11:FX K "is_ring_sheet" 22 113 (.ref 112)) (x12:FX K "show_inputs" 24 120 (.ref 119)) (x13:FX K "show_arc" 25 127 (.ref 126)) (x14:FX K "show_ring_sheet" 26 132 (.ref 131)) (x15:FX K "read_inputs" 27 139 (.ref 138)) (x16:FX K "read_turn" 28 146 (.ref 145)) (x17:FX K "read_arc" 29 153 (.ref 152)) (x18:FX K "read_ring_sheet" 30 158 (.ref 157)) (x19:FX K "_law_cell_at" 32 165 (.ref 164)) (x20:FX K "_law_numbers" 33 172 (.ref 171)) (x21:FX K "_law_deck" 34 179 (.ref 178)) (x22:FX K "_law_take" 35 186 (.ref 185)) (x23:FX K "_law_wire_names" 36 193 (.ref 192)) (x24:FX K "_law_order" 37 200 (.ref 199)) (x25:FX K "_law_ring" 38 205 (.ref 204)) (x26:FX K "_law_one_ring" 39 212 (.ref 211)) (x27:FX K "_law_ring_written" 40 219 (.ref 218)) (x28:FX K "_law_alike" 41 224 (.ref 223)) (x29:FX K "_law_copy" 42 231 (.ref 230)) (x30:FX K "law" 43 238 (.ref 237))
  (z0:ZN K "len") (z1:ZN K "range") (z2:ZN K "max") (z3:ZN K "min") (z4:ZN K "int") (z5:ZN K "list") (z6:ZN K "str") (z7:ZN K "isinstance") (z8:ZN K "all") (z9:ZN K "set") (z10:ZN K "dict") (z11:ZN K "enumerate") (z12:ZN K "sorted") (z13:ZN K "tuple") (z14:ZN K "bool") (z15:ZN K "zip") (z16:ZN K "reversed")
  : ∃fd:FuncData,(∀(s:Shared) (v:Value),BindsTo s fd ⟨[v],[]⟩ [("script", v)])/\∀base:Heap,K.In base->base.Ns mainGlobals mg->L2.fH base mg->FnOk l.prog w K mg base CX0 7 fa fd ["script"] (m_ K ):=by
 have e:=hfa.symm.trans (PySem.W.mg_of X G x30.a);cases e;have T:Txt K mg 40:=⟨QT X G z0,QT X G z1,QT X G z2,QT X G z3,QT X G z4,QT X G z5,QT X G z6,QT X G z7,QT X G z8,QT X G z9,QT X G z10,QT X G z11,QT X G z12,QT X G z13,QT X G z14,QT X G z15,QT X G z16,⟨_,PySem.W.mg_of X G cn0⟩,⟨_,PySem.W.mg_of X G cn1⟩,⟨_,PySem.W.mg_of X G cn2⟩,⟨_,PySem.W.mg_of X G aS,tabS⟩,PySem.W.mg_of X G aT,tab⟩;obtain⟨a30,⟨_,_,kV,dc,pm,an,ct,_,l30⟩,c30,k30⟩:=x30;have m30:=PySem.W.mg_of X G a30;have F30:=sj (st:=top 43) l30 c30 k30;have b30:=F30.binds (ps:=["script"]) λ_ _ _ _ _ _ us hl=>by obtain⟨_,rfl⟩:=uZ hl;rfl
 refine⟨PySem.W.fnOf "law" "law" (cq (top 43)) (bM (top 43)) (am (top 43)) .none kV dc pm an (.ref 237) ct,λs v=>.of_eq rfl,λbase KB _ BM=>?_⟩;have g19:=x19.go l.prog w base X G λ_ F _ _=>pf F T;have g20:=x20.go l.prog w base X G λ_ F _ _=>tT F T;have g21:=x21.go l.prog w base X G λ_ F _ _=>tV F T g20;have g22:=x22.go l.prog w base X G λ_ F _ _=>tQ F T;have g23:=x23.go l.prog w base X G λ_ F _ _=>pc F T g22;have g24:=x24.go l.prog w base X G λ_ F _ _=>tS F T g22;have g25:=x25.go l.prog w base X G λ_ F _ _=>o9 F T g22;have g26:=x26.go l.prog w base X G λ_ F _ _=>rq F T g22 g23 g24 g25;have g27:=x27.go l.prog w base X G λ_ F _ _=>re F T;have g29:=x29.go l.prog w base X G λ_ F _ _=>rB F T;have g13:=x13.go l.prog w base X G λ_ F _ _=>rj F T;have g12:=x12.go l.prog w base X G λ_ F _ _=>rh F T;have g14:=x14.go l.prog w base X G λ_ F _ _=>o0 F T g13 g12;have g16:=x16.go l.prog w base X G λ_ F _ _=>rm F T;have g17:=x17.go l.prog w base X G λ_ F _ _=>rp F T g16;have g15:=x15.go l.prog w base X G λ_ F _ _=>rn F T;have g0:=x0.go l.prog w base X G λ_ F _ _=>tU F T;have g5:=x5.go l.prog w base X G λ_ F _ _=>oZ F T g0;have g4:=x4.go l.prog w base X G λ_ F _ _=>wb F T;have g6:=x6.go l.prog w base X G λ_ F _ _=>oY F T g5 g4;have g1:=x1.go l.prog w base X G λ_ F _ _=>tR F T;have g7:=x7.go l.prog w base X G λ_ F _ _=>rk F T g1;have g2:=x2.go l.prog w base X G λ_ F _ _=>rf F T;have g3:=x3.go l.prog w base X G λ_ F _ _=>rC F T g2;have g8:=x8.go l.prog w base X G λ_ F _ _=>wc F T g7 g3;have g9:=x9.go l.prog w base X G λ_ F _ _=>tP F T;have g10:=x10.go l.prog w base X G λ_ F _ _=>rD F T g8 g9;have g11:=x11.go l.prog w base X G λ_ F _ _=>pd F T g6 g10;have g18:=x18.go l.prog w base X G λ_ F _ _=>o_ F T g17 g15 g11 g14;have g28:=x28.go l.prog w base X G λ_ F m b=>kh F T m x28.k b 6;exact rz F30 T g19 g21 g26 g27 g29 g14 g18 g28
theorem As {l:PySem.W.OpenLaw} {q:Program} {loose:List Str} {XP:B2->Heap->Prop} {d:DefRec} {K:Params->PySem.W.Frag} {as:B3} {e:∀P,as=(K P).map (·.1)} (hn:l.most=some 63) (hdf:d.params.defaults=[]) (ok:∀w:World,eK (K w.params) []=true)
  (F:∀(w:World) (mg:B2) (fa:Addr) (h:Heap),(K w.params).In h->h.Ns mainGlobals mg->mg d.name=some (.ref fa) ->
   ∃fd:FuncData,(∀(s:Shared) (u:Value),BindsTo s fd ⟨[u],[]⟩ [("script", u)])/\∀base:Heap,(K w.params).In base->base.Ns mainGlobals mg->L2.fH base mg->FnOk l.prog w (K w.params) mg base CX0 7 fa fd ["script"] (m_ (K w.params) )) :
  PySem.W.WalkO q loose XP (PySem.W.kmHook K as e []).says l.row.toRowW d [] (λf vs=>PySem.call f vs) :=
 L2.pT (n:=63) (k:=7) (x := "script") (CX:=λ_=>CX0) (sp:=λw=>m_ (K w.params) ) hn (by decide) hdf ⟨rfl,by decide,by decide⟩ ok F (λ_ _ a ns hl hT hS=>⟨a,ns,rfl,hS,hl,λ_=>rfl⟩) λ_ _ _ _ _ z=>z
end K2
open PySem PySem.W PyProof.Rows
set_option maxRecDepth 100000 in
set_option maxHeartbeats 0 in
theorem PySem.Challenge.cw_anydelay_k82_ring_sheets_written_and_rea_holds : PySem.Challenge.rw_anydelay_k82_ring_sheets_written_and_rea.Holds := by
 w_on;refine holds_law K2.sd λsaid=>?_
 refine holds_open (q:=K2.vw) (loose:=[("TURNED" : Str),("SIGNS_AHEAD" : Str)]) (Xt:=λs=>xlAt K2.vw [] s&&recOk (RowW.records PySem.Challenge.rw_anydelay_k82_ring_sheets_written_and_rea.row.toRowW) s) (XP:=XL K2.vw []) (Yf:=Hook.obs K2.hk) (Ya:=Hook.val K2.hk) (YP:=Hook.says K2.hk) (N:=3064) K2.left (Hook.of K2.hk) (Hook.keeps K2.hk) (λs e=>xl_of s (Bool.and_eq_true_iff.mp e).1) XL.keeps (by rfl) (by rfl) (by rfl) (λs e=>recFacts_of (Bool.and_eq_true_iff.mp e).2) (by rfl) (by first|assumption|decide +kernel) (by decide +kernel) ⟨rfl,rfl,rfl,rfl,rfl,by decide +kernel⟩ ?hw ?hc
 (case hw=>w_witness2)
 refine K2.As (l:=PySem.Challenge.rw_anydelay_k82_ring_sheets_written_and_rea) (K:=K2.KF) (as:=[3,40,44,45,51,52,58,59,65,66,70,71,75,76,80,81,82,88,89,95,96,100,101,105,106,112,113,119,120,126,127,131,132,138,139,145,146,152,153,157,158,164,165,171,172,178,179,185,186,192,193,199,200,204,205,211,212,218,219,223,224,230,231,237,238]) (e:=λ_=>rfl) rfl rfl (λw=>by kernel_rfl) ?F
 case F =>
  intro w mg fa h KX G hmg;refine' K2.wO KX G hmg ?_ ?_ ?_ ?_ ?_ ?_ ?_ ?_ ?_ ?_ ?_ ?_ ?_ ?_ ?_ ?_ ?_ ?_ ?_ ?_ ?_ ?_ ?_ ?_ ?_ ?_ ?_ ?_ ?_ ?_ ?_ ?_ ?_ ?_ ?_ ?_ ?_ ?_ ?_ ?_ ?_ ?_ ?_ ?_ ?_ ?_ ?_ ?_ ?_ ?_ ?_ ?_ ?_ ?_ ?_
  all_goals first|exact⟨by kernel_rfl,⟨_,_,_,_,_,_,_,_,rfl⟩,by kernel_rfl,by kernel_rfl⟩|kernel_rfl|rfl|decide|decide +kernel
