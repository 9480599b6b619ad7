import PyProof.Rows.All
import Wide.All
import OpenK.AllK
import Wide.FinOn
import Lean
import PyProof.EqAt
import PyProof.EqKinds
import PyProof.TupleCall
import PyProof.NeKinds
import KE.KTabLook
import KE.KIntText
import KE.KUnpack
import PyProof.StrBlock2
import KE.KLam
import KE.KDictLaws
import PyProof.DictWalks
import PyProof.Rows.StrInSeq3
import PyProof.FactsAll.list_1
import PyProof.Rows.SortShellK
import PyProof.Rows.SortKeyStr
import KE.KSortTup
import KE.KDictSum
import KE.KItemsList
import PyProof.Rows.SortStr
import PyProof.ZipIter
import PyProof.Draws
import PyProof.AttrMissHeap
import PyProof.DictUpdate
import PyProof.ListNew
import PyProof.FactsAll.dict_1
import PyProof.Rows.DictSet
import PyProof.ForAppend
import KE.KDictList
import PyProof.TupleIter
import PyProof.CompUse
import PyProof.EnumMake
import PyProof.Rows.CallKwBuiltin
import OpenK.KMore
import PyProof.Rows.SeqIn
import PyProof.ListRange
import KE.KRevSl
import PyProof.Rows.StrNews
import PyProof.StrLawsTight
import PyProof.PureStr
import PyProof.FitsStr
import KE.KEqDict
import PySem.Challenge.RW_anydelay_k51_unfolded
namespace PySem
abbrev A0:=Value->Shared->Prop
abbrev A1:=List (Addr × Obj)
abbrev A2:=Str->Option Value
abbrev A3:=List Addr
end PySem
set_option linter.all false
set_option maxRecDepth 100000
set_option Elab.async false
abbrev Qa:=@PySem.wpAny_bind
abbrev Qb:=@List.getElem?_eq_getElem
abbrev Qc:=@List.length_map
abbrev Qd:=@PySem.Heap.get?_push_of_some
abbrev Qe:=@List.getElem?_eq_some_iff
abbrev Qf:=@PySem.wpAny_pure
abbrev Qg:=@List.mem_cons
abbrev Qh:=@List.length_append
abbrev Qi:=@Nat.le_refl
abbrev Qj:=@Array.length_toList
abbrev Qk:=@List.size_toArray
abbrev Ql:=@List.mem_of_getElem?
abbrev Qm:=@List.not_mem_nil
abbrev Qn:=@Bool.false_ne_true
abbrev Qo:=@List.mem_map
abbrev Qp:=@List.mem_cons_of_mem
abbrev Qq:=@if_neg
abbrev Qr:=@PySem.Heap.lt_size
abbrev Qs:=@List.length_singleton
abbrev Qt:=@PySem.Heap.get?_push_size
abbrev Qu:=@List.map_cons
abbrev Qv:=@PySem.F.plainAttrs_list
abbrev Qw:=@if_pos
abbrev Qx:=@List.mem_append
abbrev Qy:=@decide_eq_false
abbrev Qz:=@Bool.false_eq_true
abbrev QA:=@decide_eq_true
abbrev QB:=@List.mem_singleton
abbrev QC:=@List.mem_append_right
abbrev QE:=@List.getElem?_map
abbrev QF:=@Array.getElem?_eq_getElem
abbrev QG:=@Nat.ne_of_lt
abbrev QH:=@Option.some.inj
abbrev QI:=@List.getElem?_append_left
abbrev QJ:=@List.getElem?_append_right
abbrev QK:=@Nat.le_trans
abbrev QL:=@PySem.F.slot_list_append
abbrev QM:=@PySem.F.type_list_append
abbrev QN:=@List.nodup_cons
abbrev QO:=@Nat.le_add_right
abbrev QP:=@PyProof.Rows.boot_isinstance
abbrev QQ:=@or_false
abbrev QR:=@Nat.lt_of_lt_of_le
abbrev QS:=@List.getElem_of_mem
abbrev QT:=@Nat.zero_le
abbrev QU:=@List.getD_eq_getElem?_getD
abbrev QV:=@PySem.wpAny_call_entry
abbrev QW:=@PySem.W.mg_none_of
abbrev QX:=@Int.toNat_natCast
abbrev QY:=@PySem.wpAny_callSpecial?_slot
abbrev QZ:=@PySem.boot_len
abbrev Q0:=@Array.getElem?_toList
abbrev Q1:=@PySem.wpAny_field
abbrev Q2:=@List.mem_cons_self
abbrev Q3:=@List.length_take
abbrev Q4:=@PySem.Heap.SameBut.update
abbrev Q5:=@PySem.Heap.get?_update_self
abbrev Q6:=@List.getElem?_eq_none
abbrev Q7:=@PySem.wpAny_holding
abbrev Q8:=@List.take_of_length_le
abbrev Q9:=@PyProof.Rows.boot_list
abbrev xa:=@List.all_eq_true
abbrev xb:=@List.pairwise_map
abbrev xc:=@PySem.F.slot_list_index
abbrev xf:=@PySem.F.type_list_index
abbrev xg:=@PySem.Heap.get?_update_other
abbrev xh:=@Option.map_eq_some_iff
abbrev xi:=@PySem.Paired.length
abbrev xj:=@List.lookup_cons
abbrev xk:=@PySem.wpAny_setField_rec
abbrev xm:=@PySem.Obj.data_mapFields
abbrev xn:=@PySem.F.slot_tuple_iterator_next
abbrev xp:=@PyProof.Rows.boot_tuple
abbrev xq:=@if_false
abbrev xr:=@List.length_cons
abbrev xt:=@PySem.wpAny_seqItems
abbrev xu:=@List.mem_append_left
abbrev xv:=@of_decide_eq_true
abbrev xw:=@PySem.wpAny_newObj_type
abbrev xx:=@PySem.wpAny_setState_of
abbrev xy:=@PySem.Heap.size_push
abbrev xz:=@Array.getD_eq_getD_getElem?
abbrev xA:=@List.idxOf_lt_length_of_mem
abbrev xB:=@PyProof.Rows.boot_int
abbrev xC:=@List.map_append
abbrev xD:=@List.mem_range
abbrev xE:=@List.forIn_cons
abbrev xF:=@Bool.and_eq_true
abbrev xG:=@List.getElem_mem
abbrev xH:=@decide_eq_true_iff
abbrev xI:=@PySem.W.kia_one
abbrev xJ:=@PySem.W.kia_tup
abbrev xK:=@PySem.sizeLine_eq
abbrev xL:=@List.forIn_nil
abbrev xM:=@PySem.wpAny_setField
abbrev xN:=@Bool.eq_iff_iff
abbrev xO:=@PySem.F.slot_dict_keyiterator_next
abbrev xP:=@Nat.lt_of_le_of_lt
abbrev xQ:=@PySem.wpAny_isInstance
abbrev xR:=@List.length_drop
abbrev xS:=@PySem.Around.under_plainId
abbrev xT:=@PyProof.Rows.callWith_type1
abbrev xU:=@Bool.not_true
abbrev xV:=@Nat.lt_irrefl
local macro_rules|`(tactic|z_go)=>`(tactic|first|exact .inl rfl|exact .inr rfl|assumption)
noncomputable section
namespace L2
open PySem
def b9 (s:Stmt):Arguments:=match s with
 | .FunctionDef _ a _ _ _ _ _ _ _ _=>a
 | _=>{ posonlyargs:=[],args:=[],vararg:=none,kwonlyargs:=[],kw_defaults:=[],kwarg:=none,defaults:=[] }
def bJ (s:Stmt):List Stmt:=match s with
 | .FunctionDef _ _ b _ _ _ _ _ _ _=>b
 | _=>[]
def az (s:Stmt):Scope:=match s with
 | .FunctionDef _ _ _ _ _ _ sc _ _ _=>sc
 | _=>{ kind:=.function,names:=[],isGenerator:=false,isCoroutine:=false }
end L2
namespace K2
open PySem L2 PySem.W
def top (i:Nat):Stmt:=PySem.Challenge.pw_anydelay_k51_unfolded.main.body.getD i (.Pass ⟨0,0,0,0⟩)
noncomputable def kC (n:Str) (t:Nat) (l a fl:Int) (r:Addr) (x y:Value) (z:Addr) (u:Nat):Obj:={ cls:=.type "code", data:=.fields #[.str n t,.str n (t+1),.str "/claim/cut.py" (t+2),.int l 0,.int a 0,.int 0 0,.int 0 0,.int 3 0,.ref r,.bool true,.int fl 0,.ref (r+1),.none,x,y,.ref z,.int u 0,.int l 0,.str "/claim/cut.py" (u+1)] }
noncomputable def kF (n:Str) (i:Nat) (m:Str) (t:Nat) (c:Addr):Obj:={ cls:=.type "function", data:=.func { name:=n,qualname:=n,params:=b9 (top i),body:=.stmts (bJ (top i)),scope:=az (top i),globals:=3,closure:=[],defaults:=.none,kwdefaults:=.none,pyModule:=.str m t,code:=.ref c } }
def kE (P:Params) (x:Str) (t:Nat) (v:Value):DictEntry:={ hash:=PyData.keyHash P x,key:=.str x t,val:=v }
noncomputable def KF (P:Params):Frag:=[(3,{ cls:=.type "dict", data:=.dict #[kE P "__name__" 165 (.str "law_anydelay_k51_unfolded" 296),kE P "__doc__" 166 .none,kE P "__package__" 167 .none,kE P "__loader__" 168 (.builtin "__main__.__loader__#opaque"),kE P "__spec__" 169 .none,kE P "__annotations__" 170 (.ref 6),kE P "__builtins__" 171 (.ref 4),kE P "__file__" 173 (.str "/claim/cut.py" 172),kE P "__cached__" 174 .none,kE P "TURNED" 195 (.ref 15),kE P "turned_at" 203 (.ref 22),kE P "MOST_NODES" 207 (.int 40 206),kE P "row_behind" 216 (.ref 29),kE P "SIGNS_AHEAD" 225 (.ref 30),kE P "waiting_turns" 231 (.ref 35),kE P "first_marks" 237 (.ref 40),kE P "may_come" 243 (.ref 45),kE P "mark_behind" 252 (.ref 52),kE P "marks_behind" 258 (.ref 57),kE P "steps_at" 269 (.ref 64),kE P "odd_word" 280 (.ref 71),kE P "unfolded" 295 (.ref 78),kE P "_law_pool" 306 (.ref 85),kE P "_law_take" 317 (.ref 92),kE P "_law_names" 323 (.ref 97),kE P "_law_order" 333 (.ref 104),kE P "_law_arcs" 339 (.ref 109),kE P "_law_ring" 345 (.ref 114),kE P "_law_unfolded" 351 (.ref 119),kE P "_law_copy" 357 (.ref 124),kE P "_law_same" 363 (.ref 129),kE P "_law_marked" 372 (.ref 136),kE P "law" 387 (.ref 143)] 33 }),
 (15,{ cls:=.type "dict", data:=.dict #[kE P "0" 189 (.str "1" 190),kE P "1" 191 (.str "0" 192)] 2 }),
 (21,kC "turned_at" 196 3 2 181 16 (.ref 18) (.ref 19) 20 201),
 (22,kF "turned_at" 2 "anydelay.nets" 187 21),
 (28,kC "row_behind" 208 7 3 181 23 (.ref 25) (.ref 26) 27 214),
 (29,kF "row_behind" 5 "anydelay.sheets" 204 28),
 (30,{ cls:=.type "dict", data:=.dict #[kE P "+" 219 (.str "0" 220),kE P "-" 221 (.str "1" 222)] 2 }),
 (34,kC "waiting_turns" 226 11 1 181 31 .none .none 33 229),
 (35,kF "waiting_turns" 8 "anydelay.turnsheets" 217 34),
 (39,kC "first_marks" 232 13 1 181 36 .none .none 38 235),
 (40,kF "first_marks" 9 "anydelay.turnsheets" 217 39),
 (44,kC "may_come" 238 15 3 181 41 .none .none 43 241),
 (45,kF "may_come" 10 "anydelay.turnsheets" 217 44),
 (51,kC "mark_behind" 244 17 3 181 46 (.ref 48) (.ref 49) 50 250),
 (52,kF "mark_behind" 11 "anydelay.turnsheets" 217 51),
 (56,kC "marks_behind" 253 21 3 181 53 .none .none 55 256),
 (57,kF "marks_behind" 12 "anydelay.turnsheets" 217 56),
 (63,kC "steps_at" 259 23 2 181 58 (.ref 60) (.ref 61) 62 267),
 (64,kF "steps_at" 13 "anydelay.turnsheets" 217 63),
 (70,kC "odd_word" 270 30 3 181 65 (.ref 67) (.ref 68) 69 278),
 (71,kF "odd_word" 14 "anydelay.turnsheets" 217 70),
 (77,kC "unfolded" 281 36 1 181 72 (.ref 74) (.ref 75) 76 293),
 (78,kF "unfolded" 15 "anydelay.turnsheets" 217 77),
 (84,kC "_law_pool" 298 58 2 181 79 (.ref 81) (.ref 82) 83 304),
 (85,kF "_law_pool" 17 "law_anydelay_k51_unfolded" 296 84),
 (91,kC "_law_take" 307 65 2 181 86 (.ref 88) (.ref 89) 90 315),
 (92,kF "_law_take" 18 "law_anydelay_k51_unfolded" 296 91),
 (96,kC "_law_names" 318 76 2 181 93 .none .none 95 321),
 (97,kF "_law_names" 19 "law_anydelay_k51_unfolded" 296 96),
 (103,kC "_law_order" 324 94 2 181 98 (.ref 100) (.ref 101) 102 331),
 (104,kF "_law_order" 20 "law_anydelay_k51_unfolded" 296 103),
 (108,kC "_law_arcs" 334 100 3 181 105 .none .none 107 337),
 (109,kF "_law_arcs" 21 "law_anydelay_k51_unfolded" 296 108),
 (113,kC "_law_ring" 340 114 1 181 110 .none .none 112 343),
 (114,kF "_law_ring" 22 "law_anydelay_k51_unfolded" 296 113),
 (118,kC "_law_unfolded" 346 136 1 181 115 .none .none 117 349),
 (119,kF "_law_unfolded" 23 "law_anydelay_k51_unfolded" 296 118),
 (123,kC "_law_copy" 352 165 1 181 120 .none .none 122 355),
 (124,kF "_law_copy" 24 "law_anydelay_k51_unfolded" 296 123),
 (128,kC "_law_same" 358 171 2 181 125 .none .none 127 361),
 (129,kF "_law_same" 25 "law_anydelay_k51_unfolded" 296 128),
 (135,kC "_law_marked" 364 177 2 181 130 (.ref 132) (.ref 133) 134 370),
 (136,kF "_law_marked" 26 "law_anydelay_k51_unfolded" 296 135),
 (142,kC "law" 373 184 1 181 137 (.ref 139) (.ref 140) 141 385),
 (143,kF "law" 27 "law_anydelay_k51_unfolded" 296 142)]
def hk:Hook:=kmHook KF [3,15,21,22,28,29,30,34,35,39,40,44,45,51,52,56,57,63,64,70,71,77,78,84,85,91,92,96,97,103,104,108,109,113,114,118,119,123,124,128,129,135,136,142,143] (λ_=>rfl) []
def vw:Program:={ PySem.Challenge.pw_anydelay_k51_unfolded with main:={ PySem.Challenge.pw_anydelay_k51_unfolded.main with body:=[1,2,4,5,7,8,9,10,11,12,13,14,15,17,18,19,20,21,22,23,24,25,26,27].map top } }
def LW (w:World):Prop:=(openEnds treeTable PySem.Challenge.rw_anydelay_k51_unfolded.prog w 1614).map (λs=>(openSeen vw [("TURNED" : Str),("SIGNS_AHEAD" : Str)] (importedModules PySem.Challenge.rw_anydelay_k51_unfolded.prog.main.body) (λs=>xlAt vw [] s&&recOk (RowW.records PySem.Challenge.rw_anydelay_k51_unfolded.row.toRowW) s) true s,Hook.obs hk s))=some (openGood vw [("TURNED" : Str),("SIGNS_AHEAD" : Str)],Hook.val hk w)
set_option maxHeartbeats 0 in
theorem sd:PySem.Challenge.rw_anydelay_k51_unfolded.wellSaid=true:=by kernel_rfl
set_option maxHeartbeats 0 in
theorem vi:∀w:World,LW (w.withFollow "special-get-raises" false):=λw=>by unfold LW;kernel_rfl
set_option maxHeartbeats 0 in
theorem vh:∀w:World,LW (w.withFollow "special-get-raises" true):=λw=>by unfold LW;kernel_rfl
theorem left:LeftO PySem.Challenge.rw_anydelay_k51_unfolded.prog vw [("TURNED" : Str),("SIGNS_AHEAD" : Str)] (λs=>xlAt vw [] s&&recOk (RowW.records PySem.Challenge.rw_anydelay_k51_unfolded.row.toRowW) s) (Hook.obs hk) (Hook.val hk) 1614:=λw=>byRow2 (P:=LW) "special-get-raises" vi vh w
end K2
section
variable {a b c d e f g h i j k l m n x r lo:Nat}
local macro_rules | `(tactic|kd_p) => `(tactic| (intros; first | solve_by_elim (maxDepth := 3) [Nat.le_of_lt, QR, xP, QK, Nat.lt_of_not_ge, Nat.lt_of_not_le, Nat.le_of_not_lt, Nat.ge_of_not_lt, QO, Nat.le_add_left, Nat.sub_le, Nat.lt_succ_self, Nat.le_succ, Nat.add_le_add_left, Nat.add_le_add_right, Nat.add_lt_add_left, Nat.add_lt_add_right, Nat.succ_le_of_lt, Nat.lt_of_succ_le, Nat.le_of_eq, Nat.le_antisymm, Nat.lt_of_le_of_ne, Qi, QT, Nat.sub_lt, Nat.succ_le_succ, Nat.lt_succ_of_le, Nat.le_of_lt_succ, Eq.symm, Eq.trans] | (subst_vars; solve_by_elim (maxDepth := 3) [Nat.le_of_lt, QR, xP, QK, Nat.lt_of_not_ge, Nat.lt_of_not_le, Nat.le_of_not_lt, Nat.ge_of_not_lt, QO, Nat.le_add_left, Nat.sub_le, Nat.lt_succ_self, Nat.le_succ, Nat.add_le_add_left, Nat.add_le_add_right, Nat.add_lt_add_left, Nat.add_lt_add_right, Nat.succ_le_of_lt, Nat.lt_of_succ_le, Nat.le_of_eq, Nat.le_antisymm, Nat.lt_of_le_of_ne, Qi, QT, Nat.sub_lt, Nat.succ_le_succ, Nat.lt_succ_of_le, Nat.le_of_lt_succ, Eq.symm, Eq.trans])))
theorem om0:a<=b->¬a<b->a=b:=by grind
theorem om1:a-b<=a-b:=by simp_all
theorem om2:¬b<a->a<=b:=by kd_p
theorem om4:c<=b->c=a->a<=b:=by kd_p
theorem om5:a+1≠a:=by simp_all
theorem om6:b<a->a-(b+1)<a-b:=by omega
theorem om7:c=d->c=a->d=b->a=b:=by kd_p
theorem om8:a+(c+1)<b->a<b:=by grind
theorem om9:b=c->b=d->c=e->a<d->a<b:=by intros;simp_all
theorem vS:c=b->c=d->b=e->a<d->a<b:=by intros;simp_all
theorem u9:a+(b+1)<c->a+1+b<c:=by omega
theorem pC:b=c->a<c->a<b:=by kd_p
theorem u7:a<c->b=c->a<b:=by kd_p
theorem u6:c=a->d=b->c=d->a=b:=by kd_p
theorem mX:a+64<b->a<b:=by grind
theorem q_:a+64<b->a+1+8<b:=by grind
theorem pB:c=b->a<c->a<b:=by kd_p
end
set_option maxHeartbeats 4000000
namespace TK
open PySem
section
variable {prog:Program} {w:World} {K:Type} [DecidableEq K] (knd:KeyKind prog w K)
def It (h:Heap):K ⊕ List K->Value->Prop
 | .inl k,v=>knd.is k v=true
 | .inr ks,v=>∃a,v=.ref a/\IsTupleKey knd h ks a
inductive Its (h:Heap):List (K ⊕ List K)->List Value->Prop
 | nil:Its h [] []
 | cons {k:K ⊕ List K} {v:Value} {ks:List (K ⊕ List K)} {vs:List Value}:It knd h k v->Its h ks vs->Its h (k::ks) (v::vs)
def IsT (h:Heap) (ks:List (K ⊕ List K)) (a:Addr):Prop:=∃o items n,h.get? a=some o/\o.cls=.type "tuple" /\ o.data=.seq items n/\Its knd h ks items.toList
def hsh:K ⊕ List K->Int
 | .inl k=>knd.hash k
 | .inr ks=>tupleKeyHash knd ks
def drw:K ⊕ List K->Nat
 | .inl _=>1
 | .inr ks=>ks.length+1
def kU (ks:List (K ⊕ List K)):Nat:=(ks.map drw).sum
def ul (ks:List (K ⊕ List K)):Int:=reduceHash (Builtin.Tuple.tupleHashOf (ks.map (hsh knd)))
variable {knd}
variable {v u:Value} {h h':Heap}
theorem It.inj {x y:K ⊕ List K} (hx:It knd h x v) (hy:It knd h y v):x=y:=by
 cases x with
 | inl k =>
  cases y with
  | inl j=>rw[knd.inj _ _ _ hx hy]
  | inr js =>
  obtain⟨a,rfl,_⟩:=hy;exact absurd (knd.byValue _ _ hx) (by simp[carriedByValue])
 | inr ks =>
 obtain⟨a,rfl,hx⟩:=hx
 cases y with
 | inl j=>exact absurd (knd.byValue _ _ hy) (by simp[carriedByValue])
 | inr js =>
 obtain⟨b,e,hy⟩:=hy;cases e;rw[hx.inj hy]
variable {x y ks:List (K ⊕ List K)}
theorem Its.inj {vs:List Value} (hx:Its knd h x vs) (hy:Its knd h y vs):x=y:=by
 induction hx generalizing y with
 | nil=>cases hy;rfl
 | cons h1 _ ih =>
 cases hy with
 | cons h2 t2=>rw[h1.inj h2,ih t2]
variable {d a b:Addr} {k:K ⊕ List K}
theorem It.keeps {o:Obj} {es ep} (x:It knd h k v) (ho:h.get? d=some o) (hd:o.data=.dict es ep) (hs:Heap.SameBut d h h'):It knd h' k v:=by
 cases k with
 | inl k=>exact x
 | inr ks=>obtain⟨a,e,x⟩:=x;exact⟨a,e,x.keeps ho hd hs⟩
theorem Its.imp {vs:List Value} (f:∀k v,It knd h k v->It knd h' k v) (x:Its knd h ks vs):Its knd h' ks vs:=by
 induction x with
 | nil=>exact .nil
 | cons h1 _ ih=>exact .cons (f _ _ h1) ih
theorem IsT.typeIs {s:Shared} (x:IsT knd s.heap ks a):s.TypeIs (.ref a) "tuple" := let ⟨o,_,_,ho,hc,_⟩:=x;⟨o,ho,hc⟩
theorem IsT.inj (hx:IsT knd h x a) (hy:IsT knd h y a):x=y:=by
 obtain⟨o,items,n,ho,_,hd,hi⟩:=hx;obtain⟨o',items',n',ho',_,hd',hi'⟩:=hy;obtain rfl:o=o':=QH (ho.symm.trans ho');rw[hd]at hd';injection hd' with h1 _;subst h1;exact hi.inj hi'
theorem IsT.keeps {o:Obj} {es ep} (x:IsT knd h ks a) (ho:h.get? d=some o) (hd:o.data=.dict es ep) (hs:Heap.SameBut d h h'):IsT knd h' ks a:=by
 obtain⟨o',items,n,ho',hc,hd',hi⟩:=x
 have hne:a≠d:=by
  rintro rfl;obtain rfl:o'=o:=QH (ho'.symm.trans ho);rw[hd]at hd';exact nomatch hd'
 exact⟨o',items,n,(hs.2 a hne).trans ho',hc,hd',hi.imp λk v x=>x.keeps ho hd hs⟩
variable {A:Around} {E:A0} {s:Shared}
theorem It.toks {k:K ⊕ List K} {v:Value} {t:Nat} (x:It knd s.heap k v):It knd { s with toks:=t }.heap k v:=x
theorem rJ {Q:Int->Shared->Prop} (hu:A.units<cLine) (hk:It knd s.heap k v) (h:Q (hsh knd k) { s with toks:=s.toks+drw k }):wpAny (model prog w) A (pyHash v) Q E s:=by
 cases k with
 | inl k=>exact knd.pyHash hk h
 | inr ks=>obtain⟨a,rfl,hk⟩:=hk;exact wpAny_pyHash_tuple hu hk h
theorem tw {Q:Int->Shared->Prop} (hu:A.units+1<cLine) (hk:IsT knd s.heap ks a) (h:Q (ul knd ks) { s with toks:=s.toks+(kU ks+1) }) :
  wpAny (model prog w) A (pyHash (.ref a)) Q E s:=by
 have hT:=hk.typeIs;obtain⟨o,items,n,ho,_,hd,hi⟩:=hk;unfold pyHash
 first|unfold pyHashByItsType|skip
 first|refine Qa (wpAny_cRoomFor_or (.inr (Nat.lt_of_succ_lt hu)) ?_)|skip
 refine Qa (wpAny_specialOf hT F.slot_tuple_hash.lookup ?_);show wpAny _ _ (if (some (Value.builtin "tuple.__hash__")==some Value.none)=true then _ else _) Q E s;rw[Qq (by rw[beq_builtin_none];exact Qn)];refine Qa (wpAny_specialOf hT F.slot_tuple_hash.lookup ?_);show wpAny _ _ (callSpecialIfBoundUnlessNone? (.ref a) "__hash__" _ >>= _) Q E s;refine Qa (wpAny_callSpecialIfBoundUnlessNone?_slot hT F.slot_tuple_hash (QV F.slot_tuple_hash hT F.entry_tuple_hash ?_ (F.args_tuple_hash_1 _)));show wpAny _ _ (Builtin.Tuple.tupleItemsOf (.ref a) >>= _) _ _ s;refine Qa (wpAny_tupleItemsOf ho hd ?_);refine Qa ?_;rw[<-Array.forIn_toList]
 refine wpAny_forIn_list _
  (λrest (b:Array Int) s'=>∃done left,ks=done++left/\Its knd s.heap left rest/\b.toList=done.map (hsh knd)/\s'={ s with toks:=s.toks+kU done })
  _ ?_ ?_ _ _ ⟨[],ks,rfl,hi,rfl,rfl⟩
 ·rintro x rest b s' ⟨done,left,rfl,hl,hb,rfl⟩
  cases hl with
  | @cons k _ ks' _ h1 hl' =>
  have e:kU (done++[k])=kU done+drw k:=by simp[kU]
  refine Qa (rJ (s:={ s with toks:=s.toks+kU done }) hu h1 ?_)
  first
   | exact Qf ⟨done++[k],ks',by simp,hl',by simp[hb],by simp[e,Nat.add_assoc]⟩
   | exact Qa (Qf (Qf ⟨done++[k],ks',by simp,hl',by simp[hb],by simp[e,Nat.add_assoc]⟩))
 rintro b s' ⟨done,left,rfl,hl,hb,rfl⟩;cases hl;rw[List.append_nil]at h;show wpAny _ _ (retInt (Builtin.Tuple.tupleHashOf b.toList)) _ _ _;rw[hb];refine wpAny_ret_mkInt ?_;show wpAny _ _ (if (decide (-(2:Int) ^ 63<=Builtin.Tuple.tupleHashOf (done.map (hsh knd)))&&decide (Builtin.Tuple.tupleHashOf (done.map (hsh knd))<2 ^ 63))=true then _ else _) Q E _;unfold ul reduceHash at h;by_cases hr:(decide (-(2:Int) ^ 63<=Builtin.Tuple.tupleHashOf (done.map (hsh knd)))&&decide (Builtin.Tuple.tupleHashOf (done.map (hsh knd))<2 ^ 63))=true
 ·rw[Qw hr];rw[Qw hr]at h;exact Qf (by simpa[Nat.add_assoc] using h)
 rw[Qq hr];rw[Qq hr]at h;exact Qa (wpAny_rule (Qf (by simpa[Nat.add_assoc] using h)))
def Apt (knd:KeyKind prog w K):Prop:=∀{A:Around} {E:A0} {s:Shared} {k:K} {u:Value} {a:Addr} {items:Array Value} {Q:Bool->Shared->Prop},A.units<cLine->knd.is k u=true->s.heap.IsTuple a items->Q false s ->
 wpAny (model prog w) A (eqBool u (.ref a)) Q E s/\wpAny (model prog w) A (eqBool (.ref a) u) Q E s
theorem oi {ks:List K} (x:IsTupleKey knd h ks a):∃items,h.IsTuple a items:=let ⟨o,items,n,h1,h2,h3,_⟩:=x;⟨items,o,h1,h2,n,h3⟩
variable {Q:Bool->Shared->Prop}
theorem it_eq {x y:K ⊕ List K} (ap:Apt knd) (hu:A.units<cLine) (hx:It knd s.heap x u) (hy:It knd s.heap y v) (h:Q (decide (x=y)) s):wpAny (model prog w) A (eqBool u v) Q E s:=by
 cases x with
 | inl k =>
  cases y with
  | inl j=>exact knd.eqBool hx hy (by simpa using h)
  | inr js=>obtain⟨b,rfl,hy⟩:=hy;obtain⟨_,t⟩:=oi hy;exact(ap hu hx t (by simpa using h)).1
 | inr ks =>
 obtain⟨a,rfl,hx⟩:=hx
 cases y with
 | inl j=>obtain⟨_,t⟩:=oi hx;exact(ap hu hy t (by simpa using h)).2
 | inr js=>obtain⟨b,rfl,hy⟩:=hy;exact wpAny_eqBool_tuple hu hx hy (by simpa using h)
theorem mO {P:Fin->Shared->Prop} (ap:Apt knd) (hu:A.units<cLine) (hx:IsT knd s.heap x a) (hy:IsT knd s.heap y b) (h:P (.done (.ret (.bool (decide (x=y))))) s) :
  wpAny (model prog w) A (Builtin.«tuple.__eq__» ⟨[.ref a,.ref b],[]⟩) P E s:=by
 have hTb:=hy.typeIs;obtain⟨oa,xs,na,hoa,_,hda,hia⟩:=hx;obtain⟨ob,ys,nb,hob,_,hdb,hib⟩:=hy;show wpAny _ _ (isInstance (.ref b) (.type "tuple") >>= _) _ _ s;refine Qa (xQ hTb isSubtype_tuple_tuple ?_);simp only[xU,Qz,xq];refine Qa (wpAny_tupleItemsOf hoa hda ?_);refine Qa (wpAny_tupleItemsOf hob hdb ?_);refine Qa ?_
 refine wpAny_forIn_list _
  (λrest r s'=>r.1=none/\s'=s/\∃x' y' xs' ys',rest=List.zip xs' ys'/\Its knd s.heap x' xs'/\Its knd s.heap y' ys'/\decide (x'=y')=decide (x=y)/\(xs'.length==ys'.length)=(xs.size==ys.size))
  _ ?_ ?_ _ _ ⟨rfl,rfl,x,y,xs.toList,ys.toList,rfl,hia,hib,rfl,by simp⟩
 ·rintro⟨u,v⟩ rest r s' ⟨hr,rfl,x',y',xs',ys',hz,hx',hy',hdec,hlen⟩
  cases hx' with
  | nil=>simp at hz
  | @cons k1 u' x'' xs'' h1 hx'' =>
  cases hy' with
  | nil=>simp at hz
  | @cons k2 v' y'' ys'' h2 hy'' =>
  simp only[List.zip_cons_cons,List.cons.injEq,Prod.mk.injEq]at hz;obtain⟨⟨rfl,rfl⟩,rfl⟩:=hz;refine Qa (it_eq ap hu h1 h2 ?_);by_cases hk:k1=k2
  ·subst hk;rw[QA rfl];simp only[xU,Qz,xq];refine Qf ⟨rfl,rfl,x'',y'',xs'',ys'',rfl,hx'',hy'',?_,by simpa using hlen⟩;rw[<-hdec];by_cases hxy:x''=y''
   ·simp[hxy]
   simp[hxy]
  rw[Qy hk];simp only[Bool.not_false,if_true];have hf:decide (x=y)=false:=by rw[<-hdec];simp[hk]
  rw[hf]at h;exact Qa (Qf (Qf (Qf h)))
 rintro⟨r1,r2⟩ s' ⟨hr,rfl,x',y',xs',ys',hz,hx',hy',hdec,hlen⟩;simp only at hr;subst hr;refine Qf ?_
 have hfin:(xs.size==ys.size)=decide (x=y):=by
  rw[<-hdec,<-hlen]
  cases hx' with
  | nil =>
   cases hy' with
   | nil=>simp
   | cons _ _=>simp
  | cons _ _ =>
  cases hy' with
  | nil=>simp
  | cons _ _=>simp at hz
 show P (.done (.ret (.bool (xs.size==ys.size)))) s';rw[hfin];exact h
theorem t_eq (ap:Apt knd) (hu:A.units+1<cLine) (hx:IsT knd s.heap x a) (hy:IsT knd s.heap y b) (h:Q (decide (x=y)) s) :
  wpAny (model prog w) A (eqBool (.ref a) (.ref b)) Q E s:=by
 unfold eqBool
 try with_reducible refine Q7 ?_
 show wpAny _ _ (if (Value.ref a==Value.ref b)=true then _ else _) Q E s;by_cases hab:(Value.ref a==Value.ref b)=true
 ·rw[Qw hab];have e:a=b:=by have:=eq_of_beq hab;injection this
  subst e;obtain rfl:=hx.inj hy;exact Qa (wpAny_rule (Qf (by simpa using h)))
 rw[Qq hab]
 exact Qa (wpAny_richCompare_same_room (op:=.Eq) hx.typeIs hy.typeIs F.slot_tuple_eq
  (QV F.slot_tuple_eq hx.typeIs F.entry_tuple_eq (mO ap hu hx hy ⟨_,rfl,(λe=>nomatch e),wpAny_truthy_bool h⟩) (F.args_tuple_eq_2 _ _)) (Nat.lt_of_succ_lt hu))
theorem mN {ks:List K} {m:Nat} (hk:IsTupleKey knd s.heap ks a) (h:Q true s):wpAny (model prog w) A (eqIsQuiet (m+1) (.ref a)) Q E s:=by
 have hT:=hk.typeIs;obtain⟨o,items,n,ho,_,hd,hi⟩:=hk;unfold eqIsQuiet;refine Qa (wpAny_specialOf hT F.slot_tuple_eq.lookup ?_);show wpAny _ _ (isInstance (.ref a) (.type "tuple") >>= _) _ _ s;refine Qa (xQ hT isSubtype_tuple_tuple ?_);simp only[xU,Qz,xq];refine Qa (xt ho hd ?_);refine Qa ?_;show wpAny _ _ (forIn items _ _) _ _ s;rw[<-Array.forIn_toList];refine wpAny_forIn_list _ (λrest r s'=>r.1=none/\s'=s/\∀v∈rest,carriedByValue v=true) _ ?_ ?_ _ _ ⟨rfl,rfl,hi.byValue⟩
 ·rintro v rest r s' ⟨hr,rfl,hall⟩;rw[eqIsQuiet_byValue _ (hall v Q2)];refine Qa (Qf ?_);simp only[xU,Qz,xq];exact Qf ⟨rfl,rfl,λu hu'=>hall u (Qp _ hu')⟩
 rintro⟨r1,r2⟩ s' ⟨hr,rfl,_⟩;simp only at hr;subst hr;exact Qf h
theorem pZ {m:Nat} (hk:It knd s.heap k v) (h:Q true s):wpAny (model prog w) A (eqIsQuiet (m+1) v) Q E s:=by
 cases k with
 | inl k=>rw[eqIsQuiet_byValue _ (knd.byValue _ _ hk)];exact Qf h
 | inr ks=>obtain⟨a,rfl,hk⟩:=hk;exact mN hk h
theorem t_quiet (hk:IsT knd s.heap ks a) (h:Q true s):wpAny (model prog w) A (eqIsQuiet 8 (.ref a)) Q E s:=by
 have hT:=hk.typeIs;obtain⟨o,items,n,ho,_,hd,hi⟩:=hk;unfold eqIsQuiet;refine Qa (wpAny_specialOf hT F.slot_tuple_eq.lookup ?_);show wpAny _ _ (isInstance (.ref a) (.type "tuple") >>= _) _ _ s;refine Qa (xQ hT isSubtype_tuple_tuple ?_);simp only[xU,Qz,xq];refine Qa (xt ho hd ?_);refine Qa ?_;show wpAny _ _ (forIn items _ _) _ _ s;rw[<-Array.forIn_toList];refine wpAny_forIn_list _ (λrest r s'=>r.1=none/\s'=s/\∃ks,Its knd s.heap ks rest) _ ?_ ?_ _ _ ⟨rfl,rfl,_,hi⟩
 ·rintro v rest r s' ⟨hr,rfl,ks',hall⟩
  cases hall with
  | cons h1 h2 =>
  refine Qa (pZ h1 ?_);simp only[xU,Qz,xq];exact Qf ⟨rfl,rfl,_,h2⟩
 rintro⟨r1,r2⟩ s' ⟨hr,rfl,_⟩;simp only at hr;subst hr;exact Qf h
noncomputable def kind (knd:KeyKind prog w K) (ap:Apt knd):HeapKind prog w (List (K ⊕ List K)) where
 is:=IsT knd
 hash:=ul knd
 draws:=λks=>kU ks+1
 room:=λA=>A.units+1<cLine
 inj:=λhx hy=>hx.inj hy
 keeps:=λx ho hd hs=>x.keeps ho hd hs
 pyHash:=λhu hk h=>tw hu hk h
 eqBool:=λhu hx hy h=>t_eq ap hu hx hy h
 quiet:=λhk h=>t_quiet hk h
end
end TK
-- CHANGE: your row's module here,as the last of these rows
namespace L2
open PySem PySem.Spec PyProof.Rows
abbrev Key:=Sum Int Str
def cV:Key->Value->Bool
 | .inl k,v=>Value.isInt k v
 | .inr x,v=>Value.isStrOf x v
def vT (w:World):Key->Int
 | .inl k=>hashInt k
 | .inr x=>hashStr w x
theorem aJ:∀{k:Key} {v:Value},cV k v=true->(∃i t,k=Sum.inl i/\v=Value.int i t)\/(∃x t,k=Sum.inr x/\v=Value.str x t)
 | .inl i,v,h=>by
  obtain⟨t,e⟩:=Value.isInt_shape (k:=i) (v:=v) h;exact .inl ⟨i,t,rfl,e⟩
 | .inr x,v,h=>by
  obtain⟨t,e⟩:=Value.isStrOf_shape (x:=x) (v:=v) h;exact .inr ⟨x,t,rfl,e⟩
theorem nA (i:Int) (t:Tok):cV (.inl i) (.int i t)=true:=by simp[cV,Value.isInt]
theorem ny (x:Str) (t:Tok):cV (.inr x) (.str x t)=true:=by simp[cV,Value.isStrOf]
theorem pS (a b:Int):decide ((Sum.inl a:Key)=Sum.inl b)=(a==b):=by
 by_cases e:a=b
 ·subst e;simp
 have h:¬(Sum.inl a:Key)=Sum.inl b:=λq=>e (Sum.inl.inj q);rw[Qy h];exact(beq_eq_false_iff_ne.mpr e).symm
theorem pR (a b:Str):decide ((Sum.inr a:Key)=Sum.inr b)=decide (a=b):=by
 by_cases e:a=b
 ·subst e;simp
 have h:¬(Sum.inr a:Key)=Sum.inr b:=λq=>e (Sum.inr.inj q);rw[Qy h,Qy e]
theorem t_ (a:Int) (b:Str):decide ((Sum.inl a:Key)=Sum.inr b)=false:=Qy (λq=>nomatch q)
theorem t9 (a:Str) (b:Int):decide ((Sum.inr a:Key)=Sum.inl b)=false:=Qy (λq=>nomatch q)
noncomputable def ax (prog:Program) (w:World):PySem.KeyKind prog w Key where
 is:=cV
 hash:=vT w
 inj:=λv a b ha hb=>by
  rcases aJ ha with⟨i,t,rfl,rfl⟩|⟨x,t,rfl,rfl⟩
  ·rcases aJ hb with⟨j,u,rfl,e⟩|⟨y,u,rfl,e⟩
   ·injection e with e1 _;rw[e1]
   exact nomatch e
  rcases aJ hb with⟨j,u,rfl,e⟩|⟨y,u,rfl,e⟩
  ·exact nomatch e
  injection e with e1 _;rw[e1]
 byValue:=λk v h=>by
  rcases aJ h with⟨i,t,rfl,rfl⟩|⟨x,t,rfl,rfl⟩ <;> rfl
 pyHash:=λhv h=>by
  rcases aJ hv with⟨i,t,rfl,rfl⟩|⟨x,t,rfl,rfl⟩
  ·exact wpAny_pyHash_int h
  exact wpAny_pyHash_str h
 eqBool:=λhu hv h=>by
  rcases aJ hu with⟨i,t,rfl,rfl⟩|⟨x,t,rfl,rfl⟩
  ·rcases aJ hv with⟨j,u,rfl,rfl⟩|⟨y,u,rfl,rfl⟩
   ·rw[pS]at h;exact wpAny_eqBool_int h
   rw[t_]at h;exact SeqAt.EqAt.int_str i t y u _ _ _ _ h
  rcases aJ hv with⟨j,u,rfl,rfl⟩|⟨y,u,rfl,rfl⟩
  ·rw[t9]at h;exact SeqAt.EqAt.str_int x t j u _ _ _ _ h
  rw[pR]at h;exact wpAny_eqBool_str h
 «strs»:=λk x t v h=>by
  rcases aJ h with⟨i,u,rfl,e⟩|⟨y,u,rfl,e⟩
  ·exact nomatch e
  injection e with e1 _;subst e1;cases v <;> rfl
theorem jH (prog:Program) (w:World) (i:Int) (t:Tok):(ax prog w).is (.inl i) (.int i t)=true:=nA i t
theorem jG (prog:Program) (w:World) (x:Str) (t:Tok):(ax prog w).is (.inr x) (.str x t)=true:=ny x t
theorem iz (prog:Program) (w:World):TK.Apt (ax prog w):=λhu hk t h=>by
 rcases aJ hk with⟨i,u,rfl,rfl⟩|⟨x,u,rfl,rfl⟩
 ·exact⟨SeqAt.EqAt.int_tuple _ _ t hu _ _ _ _ h,SeqAt.EqAt.tuple_int _ _ t hu _ _ _ _ h⟩
 exact⟨SeqAt.EqAt.str_tuple _ _ t hu _ _ _ _ h,SeqAt.EqAt.tuple_str _ _ t hu _ _ _ _ h⟩
abbrev av:=List (Key ⊕ List Key)
abbrev be (P:Program) (w:World):HeapKind P w av:=TK.kind (ax P w) (iz P w)
variable {A:Around} {P:Program}
theorem gW {w:World} (hu:A.units+8<cLine):(be P w).room A.in1:=show A.units+1+1<cLine by omega
inductive V where
 | non|bl (b:Bool)|int (i:Int)|str (x:Str)|byt (b:Array UInt8)|flt (b:UInt64)|ref (a:Addr)|ty (n:String)
 deriving DecidableEq
noncomputable def aU:V->Value->Prop
 | .non,u=>u=Value.none
 | .bl b,u=>u=Value.bool b
 | .int i,u=>∃t,u=Value.int i t
 | .str x,u=>∃t,u=Value.str x t
 | .byt b,u=>∃t,u=Value.bytes b t
 | .flt b,u=>∃t,u=Value.float b t
 | .ref a,u=>u=Value.ref a
 | .ty n,u=>u=Value.type n
abbrev aL:List V->List Value->Prop:=Paired aU
theorem aL.length {xs:List V} {us:List Value} (r:aL xs us):xs.length=us.length:=xi r
theorem aL.get:∀{xs:List V} {us:List Value} {i:Nat} {x:V},aL xs us->xs[i]?=some x->∃u,us[i]?=some u/\aU x u
 | _,_,_,_,.nil,e=>by simp at e
 | _,_,0,_,.cons r _,e=>by simp at e;subst e;exact⟨_,rfl,r⟩
 | _,_,i+1,x,.cons _ t,e=>by
  obtain⟨u,h1,h2⟩:=aL.get (i:=i) (x:=x) t (by simpa using e);exact⟨u,by simpa using h1,h2⟩
variable {u cd dV doc pm cdv ct oc:Value}
theorem aL.set {x:V} (r:aU x u):∀{xs:List V} {us:List Value} (i:Nat),aL xs us->aL (xs.set i x) (us.set i u)
 | _,_,_,.nil=>.nil
 | _,_,0,.cons _ t=>.cons r t
 | _,_,i+1,.cons q t=>.cons q (aL.set r i t)
theorem aL.append:∀{xs ys:List V} {us ws:List Value},aL xs us->aL ys ws->aL (xs++ys) (us++ws)
 | _,_,_,_,.nil,s=>s
 | _,_,_,_,.cons r t,s=>.cons r (aL.append t s)
theorem aL.take:∀{xs:List V} {us:List Value} (n:Nat),aL xs us->aL (xs.take n) (us.take n)
 | _,_,0,_=>.nil
 | _,_,_+1,.nil=>.nil
 | _,_,n+1,.cons r t=>.cons r (aL.take n t)
theorem aL.drop:∀{xs:List V} {us:List Value} (n:Nat),aL xs us->aL (xs.drop n) (us.drop n)
 | _,_,0,r=>r
 | _,_,_+1,.nil=>.nil
 | _,_,n+1,.cons _ t=>aL.drop n t
theorem aL.none_of:∀{xs:List V} {us:List Value} {i:Nat},aL xs us->xs[i]?=none->us[i]?=none:=λ{xs us i} r e=>by
 have h1:=r.length;have h2:xs.length<=i:=List.getElem?_eq_none_iff.mp e;exact List.getElem?_eq_none_iff.mpr (by omega)
def eS:Option V->Option Value->Prop
 | some v,some u=>aU v u
 | none,none=>True
 | _,_=>False
def KV {κ:Type}:List (κ × V)->List (κ × Value)->Prop:=Paired λ(p:κ × V) (q:κ × Value)=>p.1=q.1/\aU p.2 q.2
def kV:Key->V
 | .inl i=>.int i
 | .inr x=>.str x
inductive HO where
 /-- a list -/
 | lst (xs:List V)
 /-- a tuple (never changes) -/
 | tup (xs:List V)
 /-- a dict whose keys are ints and texts;one whose keys are tuples of ints and texts (the empty one is both) -/
 | dK (kvs:List (Key × V))|dT (kvs:List (av × V))
 /-- a set of ints: its members,its size -/
 | set (S:Int->Bool) (n:Nat)
 /-- an instance of the class at C,its dict at dx,its attributes -/
 | ins (C dx:Addr) (fs:List (Str × V))
 /-- the dict of the instance at x -/
 | own (x:Addr)
 /-- the dict of an exception -/
 | xd (fs:List (Str × V))
 /-- a bound method,f of x -/
 | met (f x:Addr)
 /-- a range object lo,lo+1,.. below hi -/
 | rng (lo hi:Int)
 /-- a thing that is known to the object (the script;a dict while a loop r_ it): read,never written while it is so -/
 | frz (o:Obj) (u:HO)
 /-- a code object's table -/
 | tbl (ps:Array Value)
 /-- any other thing,by what is true of its one object (a def of one's own: SetO a S n:=HO.ext λh=>..) -/
 | ext (φ:Heap->Prop)
abbrev Hp:=Addr->Option HO
def upd (H:Hp) (a:Addr) (o:HO):Hp:=λb=>if b=a then some o else H b
variable {a b it dx C f:Addr} {H H':Hp}
theorem af {o:HO}:upd H a o a=some o:=by unfold upd;rw[Qw rfl]
theorem ag {o:HO} (h:b≠a):upd H a o b=H b:=by unfold upd;rw[Qq h]
theorem sL {o u:HO} (h:H a=some o) (h':H b=some u) (d:o≠u):a≠b:=by
 intro e;subst e;rw[h]at h';exact d (QH h')
theorem aA {o:HO} (h:H a=some o) (h':H b=none):a≠b:=by
 intro e;subst e;rw[h]at h';cases h'
def KIt (H:Hp):Key ⊕ List Key->V->Prop
 | .inl k,v=>v=kV k
 | .inr ks,v=>∃c,v=.ref c/\H c=some (.tup (ks.map kV))
def bA (H:Hp) (k:av) (b:Addr):Prop:=∃vs,H b=some (.tup vs)/\Paired (KIt H) k vs
theorem KIt.keeps {k:Key ⊕ List Key} {v:V} (ht:∀b xs,H b=some (.tup xs)->H' b=some (.tup xs)) (h:KIt H k v):KIt H' k v:=by
 cases k with
 | inl k=>exact h
 | inr ks=>obtain⟨c,e,h⟩:=h;exact⟨c,e,ht _ _ h⟩
theorem Paired.mapT {α β:Type} {F G:α->β->Prop}:∀{l₁:List α} {l₂:List β},Paired F l₁ l₂->(∀a b,F a b->G a b)->Paired G l₁ l₂
 | _,_,.nil,_=>.nil
 | _,_,.cons r t,f=>.cons (f _ _ r) (Paired.mapT t f)
theorem bA.keeps {k:av} (h:bA H k b) (ht:∀b xs,H b=some (.tup xs)->H' b=some (.tup xs)):bA H' k b:=by
 obtain⟨vs,h1,h2⟩:=h;exact⟨vs,ht _ _ h1,Paired.mapT h2 λ_ _ z=>z.keeps ht⟩
section
variable (P:Program) (w:World)
noncomputable def a7 (H:Hp) (h:Heap) (a:Addr):HO->Prop
 | .lst xs=>xs.length<=sizeLine/\∃(its:List Value) (n:Nat),aL xs its/\h.get? a=some { cls:=.type "list", data:=.seq its.toArray n }
 | .tup xs=>xs.length<=sizeLine/\∃its:List Value,aL xs its/\IsTup h a its.toArray
 | .dK kvs=>kvs.length<=sizeLine/\(a==sysModules)=false/\∃vs,KV kvs vs/\h.DictOf (ax P w) a vs
 | .dT kvs=>kvs.length<=sizeLine/\(a==sysModules)=false/\∃xs:List (av × Addr × Value),
   Paired (λ(p:av × V) (q:av × Addr × Value)=>p.1=q.1/\bA H p.1 q.2.1/\aU p.2 q.2.2) kvs xs /\
   ∃o es ep,h.get? a=some o/\o.ExactDict/\o.data=.dict es ep/\es.toList=xs.map (entryOfKey (be P w))/\(xs.map (·.1)).Nodup
 | .set S n=>h.SetOf (intKind P w) a S n
 | .ins C dx fs=>H dx=some (.own a)/\fs.length<=1000/\dx≠a/\h.get? a=some (PySem.W.instObj C dx) /\
   ∃mA,h.Ns1 dx mA/\(∀f,eS (fs.lookup f) (mA f))/\PySem.Within mA (fs.map (·.1))
 | .own _=>∃o,h.get? a=some o
 | .xd fs=>∃mA,h.Ns1 a mA/\∀f,eS (fs.lookup f) (mA f)
 | .rng lo hi=>∃t u v,h.get? a=some { cls:=.type "range", data:=.fields #[.int lo t,.int hi u,.int 1 v] }
 | .frz o u=>h.get? a=some o/\a7 H h a u
 | .tbl ps=>h.get? a=some { cls:=.none,data:=.fields ps }
 | .met f x=>h.get? a=some (PySem.W.methodObj (.ref f) (.ref x))
 | .ext φ=>φ h/\(∃o,h.get? a=some o)/\∀h1 h2:Heap,φ h1->(∀o,h1.get? a=some o->h2.get? a=some o)->φ h2
def HOk (H:Hp) (h:Heap):Prop:=∀a o,H a=some o->a7 P w H h a o
end
section
variable {P:Program} {w:World} {H H':Hp} {h h':Heap} {a:Addr} {o:HO}
theorem a7.lt (x:a7 P w H h a o):a<h.objs.size:=by
 cases o with
 | lst xs=>obtain⟨_,_,_,_,e⟩:=x;exact Qr e
 | tup xs=>obtain⟨_,_,_,p⟩:=x;exact p.lt
 | dK kvs=>obtain⟨_,_,_,_,o,_,_,e,_⟩:=x;exact Qr e
 | dT kvs=>obtain⟨_,_,_,_,o,_,_,e,_⟩:=x;exact Qr e
 | set S n=>obtain⟨o,_,_,_,e,_⟩:=x;exact Qr e
 | ins C dx fs=>obtain⟨_,_,_,e,_⟩:=x;exact Qr e
 | own y=>obtain⟨_,e⟩:=x;exact Qr e
 | xd fs=>obtain⟨_,⟨_,_,_,e,_⟩,_⟩:=x;exact Qr e
 | rng lo hi=>obtain⟨_,_,_,e⟩:=x;exact Qr e
 | frz ob u=>obtain⟨e,_⟩:=x;exact Qr e
 | tbl ps=>exact Qr (show h.get? a=some _ from x)
 | met f y=>exact Qr (show h.get? a=some _ from x)
 | ext φ=>obtain⟨_,⟨_,e⟩,_⟩:=x;exact Qr e
theorem Paired.mapP {α β:Type} {F G:α->β->Prop}:∀{l₁:List α} {l₂:List β},Paired F l₁ l₂->(∀a b,F a b->G a b)->Paired G l₁ l₂
 | _,_,.nil,_=>.nil
 | _,_,.cons r t,f=>.cons (f _ _ r) (Paired.mapP t f)
theorem a7.stay (x:a7 P w H h a o) (k:∀b u,(b=a\/H b=some (.own a))->h.get? b=some u->h'.get? b=some u)
  (ho:∀b,H b=some (.own a)->H' b=some (.own a)) (ht:∀b xs,H b=some (.tup xs)->H' b=some (.tup xs)):a7 P w H' h' a o:=by
 induction o with
 | lst xs=>obtain⟨z,its,n,r,e⟩:=x;exact⟨z,its,n,r,k _ _ (.inl rfl) e⟩
 | tup xs=>obtain⟨z,its,r,ob,e,c⟩:=x;exact⟨z,its,r,ob,k _ _ (.inl rfl) e,c⟩
 | dK kvs=>obtain⟨z,y,vs,r,ob,es,ep,e,c⟩:=x;exact⟨z,y,vs,r,ob,es,ep,k _ _ (.inl rfl) e,c⟩
 | dT kvs =>
  obtain⟨z,y,xs,r,ob,es,ep,e,c⟩:=x;exact⟨z,y,xs,Paired.mapP r λp q z=>⟨z.1,z.2.1.keeps ht,z.2.2⟩,ob,es,ep,k _ _ (.inl rfl) e,c⟩
 | set S n=>obtain⟨ob,es,ep,t,e,c⟩:=x;exact⟨ob,es,ep,t,k _ _ (.inl rfl) e,c⟩
 | ins C dx fs =>
  obtain⟨d,z,ne,e,mA,⟨od,es,ep,e2,c⟩,r⟩:=x;exact⟨ho _ d,z,ne,k _ _ (.inl rfl) e,mA,⟨od,es,ep,k _ _ (.inr d) e2,c⟩,r⟩
 | own y=>obtain⟨ob,e⟩:=x;exact⟨ob,k _ _ (.inl rfl) e⟩
 | xd fs=>obtain⟨mA,⟨od,es,ep,e,c⟩,r⟩:=x;exact⟨mA,⟨od,es,ep,k _ _ (.inl rfl) e,c⟩,r⟩
 | rng lo hi=>obtain⟨t,u,v,e⟩:=x;exact⟨t,u,v,k _ _ (.inl rfl) e⟩
 | frz ob u ih=>obtain⟨e,q⟩:=x;exact⟨k _ _ (.inl rfl) e,ih q⟩
 | tbl ps =>
  have e:h.get? a=some { cls:=.none,data:=.fields ps }:=x;show h'.get? a=some { cls:=.none,data:=.fields ps };exact k a _ (.inl rfl) e
 | met f y =>
  have e:h.get? a=some (PySem.W.methodObj (.ref f) (.ref y)):=x;show h'.get? a=some (PySem.W.methodObj (.ref f) (.ref y));exact k a _ (.inl rfl) e
 | ext φ=>obtain⟨p,⟨o,e⟩,st⟩:=x;exact⟨st _ _ p λo q=>k _ _ (.inl rfl) q,⟨o,k _ _ (.inl rfl) e⟩,st⟩
theorem HOk.lt (x:HOk P w H h) (e:H a=some o):a<h.objs.size:=(x a o e).lt
theorem HOk.fresh (x:HOk P w H h) (e:h.objs.size<=a):H a=none:=by
 cases q:H a with
 | none=>rfl
 | some u=>exact absurd (QR (x.lt q) e) (xV _)
theorem HOk.kept (x:HOk P w H h) (k:∀b u,h.get? b=some u->h'.get? b=some u):HOk P w H h':=λa o e =>
 (x a o e).stay (λb u _ q=>k b u q) (λ_ q=>q) λ_ _ q=>q
theorem HOk.laid (x:HOk P w H h) (k:∀b u,h.get? b=some u->h'.get? b=some u) (hp:h.objs.size<=a) (new:a7 P w (upd H a o) h' a o):HOk P w (upd H a o) h':=λb u e=>by
 have hn:=x.fresh hp;by_cases hb:b=a
 ·subst hb;rw[af]at e;cases e;exact new
 rw[ag hb]at e;exact(x b u e).stay (λc v _ q=>k c v q) (λc q=>by rw[ag (aA q hn)];exact q) λc xs q=>by rw[ag (aA q hn)];exact q
end
def Rd (H:Hp) (a:Addr) (u:HO):Prop:=H a=some u\/∃o,H a=some (.frz o u)
variable {h base:Heap}
theorem Rd.ok {w:World} {u:HO} (r:Rd H a u) (x:HOk P w H h):a7 P w H h a u:=by
 rcases r with r|⟨o,r⟩
 ·exact x a u r
 obtain⟨_,q⟩:=x a _ r;exact q
def Mut:Option HO->Prop
 | some (.lst _)=>True
 | some (.dK _)=>True
 | some (.dT _)=>True
 | some (.set _ _)=>True
 | some (.ins _ _ _)=>True
 | some (.ext _)=>True
 | _=>False
section
variable {P:Program} {w:World} {H:Hp} {h h':Heap} {x e:Addr} {o':HO}
theorem HOk.write (ok:HOk P w H h) (mu:Mut (H x)) (he:e=x\/H e=some (.own x)) (k:∀b u,b≠e->h.get? b=some u->h'.get? b=some u) (heo:∃u,h'.get? e=some u)
  (new:a7 P w (upd H x o') h' x o'):HOk P w (upd H x o') h':=λb u q=>by
 have nown:∀c y,H c=some (.own y)->c≠x:=λc y r z=>by subst z;rw[r]at mu;exact mu
 have ntup:∀c xs,H c=some (.tup xs)->c≠x:=λc xs r z=>by subst z;rw[r]at mu;exact mu
 by_cases hb:b=x
 ·subst hb;rw[af]at q;cases q;exact new
 rw[ag hb]at q;by_cases hbe:b=e
 ·have q':H b=some (.own x):=by
   rcases he with z|z
   ·exact absurd (hbe.trans z) hb
   rw[hbe];exact z
  rw[q]at q';cases q';obtain⟨v,hv⟩:=heo;exact⟨v,by rw[hbe];exact hv⟩
 refine(ok b u q).stay (λc v hc r=>k c v ?_ r) (λc r=>by rw[ag (nown c b r)];exact r) λc xs r=>by rw[ag (ntup c xs r)];exact r
 rcases hc with rfl|hc
 ·exact hbe
 rintro rfl;rcases he with z|z
 ·exact nown c b hc z
 rw[hc]at z;cases z;exact hb rfl
end
structure Un (fs ex:A3) (H H':Hp) (h h':Heap):Prop where
 keep:∀b o,h.get? b=some o->H b=none->b∉fs->b∉ex->h'.get? b=some o
 slot:∀b o,h.get? b=some o->H b=none->b∈fs->b∉ex->∃sl,h'.get? b=some { o with slots:=sl }
 free:∀b o,h.get? b=some o->H b=none->b∉ex->H' b=none
 there:∀b o,h.get? b=some o->b∉ex->∃o',h'.get? b=some o'
 tups:∀b xs,H b=some (.tup xs)->H' b=some (.tup xs)
 frzs:∀b o u,H b=some (.frz o u)->H' b=some (.frz o u)
 tbls:∀b ps,H b=some (.tbl ps)->∃more,H' b=some (.tbl (ps++more))
section
variable {fs fs' ex ex':A3} {H H1 H2:Hp} {h h1 h2 h':Heap} {a x e:Addr} {o:HO}
theorem Un.any (u:Un fs ex H H1 h h1) {b:Addr} {ob:Obj} (q:h.get? b=some ob) (n:H b=none) (hx:b∉ex):∃sl,h1.get? b=some { ob with slots:=sl }:=by
 by_cases hb:b∈fs
 ·exact u.slot b ob q n hb hx
 exact⟨ob.slots,u.keep b ob q n hb hx⟩
theorem Un.kept (k:∀b u,h.get? b=some u->h'.get? b=some u):Un fs ex H H h h' :=
 ⟨λb ob q _ _ _=>k b ob q,λb ob q _ _ _=>⟨ob.slots,k b ob q⟩,λ_ _ _ n _=>n,λb ob q _=>⟨ob,k b ob q⟩,λ_ _ q=>q,λ_ _ _ q=>q,λ_ ps q=>⟨#[],by rw[q];simp⟩⟩
theorem Un.refl:Un fs ex H H h h:=Un.kept λ_ _ q=>q
theorem Un.laid (k:∀b u,h.get? b=some u->h'.get? b=some u) (hp:h.objs.size<=a) (hn:H a=none):Un fs ex H (upd H a o) h h' where
 keep:=λb u q _ _ _=>k b u q
 slot:=λb u q _ _ _=>⟨u.slots,k b u q⟩
 free:=λb u q n _=>by rw[ag (QG (QR (Qr q) hp))];exact n
 there:=λb u q _=>⟨u,k b u q⟩
 tups:=λb xs q=>by rw[ag (aA q hn)];exact q
 frzs:=λb u xs q=>by rw[ag (aA q hn)];exact q
 tbls:=λb ps q=>⟨#[],by rw[ag (aA q hn),q];simp⟩
theorem Un.write (mu:Mut (H x)) (he:e=x\/H e=some (.own x)) (k:∀b u,b≠e->h.get? b=some u->h'.get? b=some u) (heo:∃u,h'.get? e=some u):Un fs ex H (upd H x o) h h':=by
 have hx:∀b,H b=none->b≠x:=λb n z=>by subst z;rw[n]at mu;exact mu
 have hb:∀b,H b=none->b≠e:=λb n z=>by
  subst z;rcases he with r|r
  ·exact hx b n r
  rw[n]at r;cases r
 have hm:∀b u,H b=some u->¬Mut (some u)->b≠x:=λb u q nm z=>by subst z;rw[q]at mu;exact nm mu
 refine⟨λb u q n _ _=>k b u (hb b n) q,λb u q n _ _=>⟨u.slots,k b u (hb b n) q⟩,λb u q n _=>by rw[ag (hx b n)];exact n,λb u q _=>?_,
  λb xs q=>by rw[ag (hm b _ q λz=>z)];exact q,λb u xs q=>by rw[ag (hm b _ q λz=>z)];exact q,λb ps q=>⟨#[],by rw[ag (hm b _ q λz=>z),q];simp⟩⟩
 by_cases hbe:b=e
 ·subst hbe;exact heo
 exact⟨u,k b u hbe q⟩
end
def trk (h:Heap) (H:Hp):A3:=(List.range h.objs.size).filter λa=>(H a).isSome
def ge (h:Heap) (H:Hp):Heap:=PySem.W.hideAll h (trk h H)
theorem nH (h:Heap) (H:Hp):(ge h H).objs.size=h.objs.size:=PySem.W.hideAll_size _ _
theorem p_ {o:Obj} (e:h.get? b=some o) (n:H b=none):(ge h H).get? b=some o :=
 PySem.W.hideAll_get _ e λhm=>by
  have q:(H b).isSome=true:=(List.mem_filter.mp hm).2;rw[n]at q;simp at q
theorem rk {o:Obj} (e:(ge h H).get? b=some o):h.get? b=some o/\H b=none:=by
 have e':h.get? b=some o:=PySem.W.of_hideAll (trk h H) e;refine⟨e',?_⟩
 cases q:H b with
 | none=>rfl
 | some x =>
 have hm:b∈trk h H:=List.mem_filter.mpr ⟨xD.mpr (Qr e'),by simp[q]⟩;have z:(ge h H).get? b=none:=PySem.W.hideAll_none (trk h H) hm;rw[z]at e;cases e
structure Mod (K:PySem.W.Frag) (mg:A2) (base:Heap):Prop where
 kin:K.In base
 glob:base.Ns mainGlobals mg
 blt:∃mb,base.Ns builtinsNs mb/\∀x:Str,x ≠ "__name__" -> mb x=bootBuiltins x
 nolimit:base.NoLimit
/-- the context: a def's body (or a comprehension's block) running. base: fixed through the whole law;s₀,H₀: the mr;outer: the frames whose slots others may change (a def's callers);stack: all frames that run;
  ex: iterators that were made ahead of the mr and are walked here (a comprehension's);fn: the names whose cells were made at the mr (a def: all;a comprehension's block: its own);calm: not within an except suite;pn: pins that every state bears;xe: what is wanted of an exception that leaves the code -/
structure Cx where
 prog:Program
 w:World
 K:PySem.W.Frag
 mg:A2
 base:Heap
 A:Around
 N:List Str
 s₀:Shared
 H₀:Hp
 env:Env
 outer:List Env
 stack:List Env
 ex:A3
 fn:Str->Bool
 calm:Bool
 pn:A1
 xe:A0
def frs (l:List Env):A3:=l.filterMap (·.frame)
abbrev Cx.fs (X:Cx):A3:=frs X.outer
def Vis (sc:Scope) (x:Str):Prop:=sc.names.lookup x=some .local\/sc.names.lookup x=some .cell\/sc.names.lookup x=some .free
def Loc (sc:Scope) (x:Str):Prop:=sc.names.lookup x=some .local\/sc.names.lookup x=some .cell
def v3 (env:Env) (h:Heap) (m:A2) (x:Str) (u:Value):Prop :=
 (env.kindOf x=some .local/\m x=some u)\/((env.kindOf x=some .cell\/env.kindOf x=some .free)/\∃c,env.cells.lookup x=some c/\h.IsCell c (some u))
structure Cx.Ok (X:Cx):Prop where
 mod:Mod X.K X.mg X.base
 kind:X.env.scope.kind=.function
 glob:X.env.globals=mainGlobals
 blt:X.env.builtins=builtinsNs
 above:X.s₀.heap.objs.size<=X.env.locals
 inj:∀x y c,X.env.cells.lookup x=some c->X.env.cells.lookup y=some c->x=y
 has:∀x,(X.env.kindOf x=some .cell\/X.env.kindOf x=some .free)->∃c,X.env.cells.lookup x=some c
 cab:∀x c,X.fn x=true->X.env.cells.lookup x=some c->X.s₀.heap.objs.size<=c
 hd:X.calm=true->X.A.handled=none
 frames:X.A.frames=some X.stack
 stk:X.stack=X.outer\/(X.stack=X.env::X.outer/\X.env.frame=some X.env.locals)
 exf:∀b∈X.ex,b≠X.env.locals/\∀x c,X.env.cells.lookup x=some c->c≠b
 bs:∀b o,X.base.get? b=some o->X.s₀.heap.get? b=some o/\X.H₀ b=none
 bsz:X.base.objs.size<=X.s₀.heap.objs.size
 noex:∀b o,X.base.get? b=some o->b∉X.ex
 exfs:∀b∈X.ex,b∉X.fs
 funs:X.s₀.heap.FunFrames X.base X.outer
 frf:∀b∈X.fs,X.H₀ b=none
structure Inv (X:Cx) (pins:A1) (U:List (Option V)) (H:Hp) (s:Shared):Prop where
 ok:X.Ok
 os:s.os=X.s₀.os
 bare:AllBare s.gens
 base:Un X.fs X.ex X.H₀ H X.s₀.heap s.heap
 loc:∃m,s.heap.Ns X.env.locals m/\∀(i:Nat) (x:Str) (v:V),X.N[i]?=some x->U[i]?=some (some v)->Vis X.env.scope x->∃u,aU v u/\v3 X.env s.heap m x u
 cell:∀x c,X.env.cells.lookup x=some c->∃v,s.heap.IsCell c v
 free:H X.env.locals=none
 freeC:∀x c,X.env.cells.lookup x=some c->H c=none
 pin:∀p∈X.pn++pins,s.heap.get? p.1=some p.2/\H p.1=none/\p.1≠X.env.locals/\p.1∉X.fs/\∀v,p.2.data≠.cell v
 hok:HOk X.prog X.w H s.heap
 len:U.length=X.N.length
section
variable {X:Cx} {pins:A1} {U:List (Option V)} {H H':Hp} {s:Shared} {h':Heap}
theorem Cx.Ok.nofr (ok:X.Ok) {b:Addr} {o:Obj} (e:X.base.get? b=some o):b∉X.fs:=λhb=>by
 have:=(ok.funs.mem hb).1;rw[e]at this;cases this
theorem Inv.bs (I:Inv X pins U H s):∀b o,X.base.get? b=some o->s.heap.get? b=some o/\H b=none:=λb o e =>
 ⟨I.base.keep b o (I.ok.bs b o e).1 (I.ok.bs b o e).2 (I.ok.nofr e) (I.ok.noex b o e),I.base.free b o (I.ok.bs b o e).1 (I.ok.bs b o e).2 (I.ok.noex b o e)⟩
theorem Inv.bk (I:Inv X pins U H s):∀b o,X.base.get? b=some o->s.heap.get? b=some o:=λb o e=>(I.bs b o e).1
theorem Inv.mod (I:Inv X pins U H s):Mod X.K X.mg X.base:=I.ok.mod
theorem Inv.kIn (I:Inv X pins U H s):X.K.In s.heap:=I.ok.mod.kin.keeps I.bk
theorem Inv.lt (I:Inv X pins U H s):X.env.locals<s.heap.objs.size:=let ⟨_,hn,_⟩:=I.loc;hn.lt
theorem Inv.sz (I:Inv X pins U H s):X.s₀.heap.objs.size<=s.heap.objs.size:=QK I.ok.above (Nat.le_of_lt I.lt)
theorem Inv.nofs (I:Inv X pins U H s) {a:Addr} (h:s.heap.objs.size<=a):a∉X.fs:=λhb=>by
 obtain⟨_,o,ho,_⟩:=I.ok.funs.mem hb;exact absurd (QR (Qr ho) (QK I.sz h)) (xV _)
theorem Inv.cne (I:Inv X pins U H s):∀x c,X.env.cells.lookup x=some c->c≠X.env.locals:=λx c e z=>by
 obtain⟨v,o,ho,hd⟩:=I.cell x c e;obtain⟨m,⟨o',es,ep,ho',hd',_⟩,_⟩:=I.loc;rw[z,ho']at ho;cases ho;rw[hd']at hd;cases hd
theorem Inv.funs (I:Inv X pins U H s):s.heap.FunFrames X.base X.outer:=by
 have all:∀(l:List Env),(∀b∈frs l,b∈X.fs)->X.s₀.heap.FunFrames X.base l->s.heap.FunFrames X.base l:=by
  intro l
  induction l with
  | nil=>intro _ _;trivial
  | cons env r ih =>
  intro hs hl;obtain⟨hk,⟨L,o,hf,hn,ho,hd⟩,hr⟩:=hl;have hL:L∈X.fs:=hs L (by unfold frs;rw[List.filterMap_cons,hf];exact Q2);obtain⟨sl,e⟩:=I.base.slot L o ho (I.ok.frf L hL) hL λz=>I.ok.exfs L z hL;exact⟨hk,⟨L,_,hf,hn,e,hd⟩,ih (λb hb=>hs b (by unfold frs;rw[List.filterMap_cons,hf];exact Qp _ hb)) hr⟩
 exact all X.outer (λ_ hb=>hb) I.ok.funs
theorem Inv.stack (I:Inv X pins U H s):s.heap.FunFrames X.base X.stack:=by
 rcases I.ok.stk with e|⟨e,hf⟩
 ·rw[e];exact I.funs
 rw[e];obtain⟨m,hn,_⟩:=I.loc;refine .cons (by rw[I.ok.kind];decide) hf hn ?_ I.funs;exact Heap.get?_none_of_le (QK I.ok.bsz I.ok.above)
theorem Inv.stkSub (I:Inv X pins U H s):∀b∈frs X.stack,b∈X.env.locals::X.fs:=λb hb=>by
 rcases I.ok.stk with e|⟨e,hf⟩
 ·rw[e]at hb;exact Qp _ hb
 rw[e]at hb;unfold frs at hb;rw[List.filterMap_cons,hf]at hb;exact hb
theorem Inv.stkFree (I:Inv X pins U H s):∀b∈frs X.stack,H b=none:=λb hb=>by
 rcases Qg.mp (I.stkSub b hb) with e|hb
 ·rw[e];exact I.free
 obtain⟨_,o,ho,_⟩:=I.ok.funs.mem hb;exact I.base.free b o ho (I.ok.frf b hb) λz=>I.ok.exfs b z hb
theorem Inv.step {g':Array GenState} {t':Nat} {d':Drawn} {ch:A3} (I:Inv X pins U H s)
  (hch:∀b∈ch,(b∈X.ex\/X.s₀.heap.objs.size<=b)/\b≠X.env.locals/\(∀x c,X.env.cells.lookup x=some c->c≠b)/\∀p∈X.pn++pins,p.1≠b)
  (keep:∀b o,b≠X.env.locals->b∉X.fs->b∉ch->s.heap.get? b=some o->H b=none->h'.get? b=some o)
  (slot:∀b o,b≠X.env.locals->b∈X.fs->b∉ch->s.heap.get? b=some o->H b=none->∃sl,h'.get? b=some { o with slots:=sl }) (free:∀b o,b∉ch->s.heap.get? b=some o->H b=none->H' b=none)
  (there:∀b o,b∉ch->s.heap.get? b=some o->∃o',h'.get? b=some o')
  (tups:∀b xs,H b=some (.tup xs)->H' b=some (.tup xs)) (frzs:∀b o u,H b=some (.frz o u)->H' b=some (.frz o u)) (tbls:∀b ps,H b=some (.tbl ps)->∃more,H' b=some (.tbl (ps++more)))
  (ns:∀m,s.heap.Ns X.env.locals m->h'.Ns X.env.locals m) (hok:HOk X.prog X.w H' h') (hg:AllBare g') :
  Inv X pins U H' { s with heap:=h',gens:=g',drawn:=d',toks:=t' }:=by
 have neL:∀b o,X.s₀.heap.get? b=some o->b≠X.env.locals:=λb o e=>QG (QR (Qr e) I.ok.above)
 have neC:∀b o,X.s₀.heap.get? b=some o->b∉X.ex->b∉ch:=λb o e hx hb=>by
  rcases(hch b hb).1 with z|z
  ·exact hx z
  exact absurd (QR (Qr e) z) (xV _)
 have cellK:∀x c,X.env.cells.lookup x=some c->∀v,s.heap.IsCell c v->h'.IsCell c v:=λx c e v ⟨o,ho,hd⟩=>by
  have nch:c∉ch:=λz=>(hch c z).2.2.1 x c e rfl;by_cases hc:c∈X.fs
  ·obtain⟨sl,q⟩:=slot c o (I.cne x c e) hc nch ho (I.freeC x c e);exact⟨_,q,hd⟩
  exact⟨o,keep c o (I.cne x c e) hc nch ho (I.freeC x c e),hd⟩
 refine⟨I.ok,I.os,hg,⟨λb o e n hb hx=>?_,λb o e n hb hx=>?_,λb o e n hx=>?_,λb o e hx=>?_,λb xs e=>tups b xs (I.base.tups b xs e),λb o xs e=>frzs b o xs (I.base.frzs b o xs e),λb ps e=>?_⟩,?_,λx c e=>?_,?_,λx c e=>?_,λp hp=>?_,hok,I.len⟩
 ·exact keep b o (neL b o e) hb (neC b o e hx) (I.base.keep b o e n hb hx) (I.base.free b o e n hx)
 ·obtain⟨sl,e1⟩:=I.base.slot b o e n hb hx;obtain⟨sl',e2⟩:=slot b _ (neL b o e) hb (neC b o e hx) e1 (I.base.free b o e n hx);exact⟨sl',e2⟩
 ·obtain⟨o',e1⟩:=I.base.there b o e hx;exact free b o' (neC b o e hx) e1 (I.base.free b o e n hx)
 ·obtain⟨o',e1⟩:=I.base.there b o e hx;exact there b o' (neC b o e hx) e1
 ·obtain⟨m1,e1⟩:=I.base.tbls b ps e;obtain⟨m2,e2⟩:=tbls b _ e1;exact⟨m1++m2,by rw[e2,Array.append_assoc]⟩
 ·obtain⟨m,hn,hl⟩:=I.loc;refine⟨m,ns m hn,λi x v e1 e2 e3=>?_⟩;obtain⟨u,r,l⟩:=hl i x v e1 e2 e3;refine⟨u,r,?_⟩;rcases l with l|⟨k,c,e,z⟩
  ·exact .inl l
  exact .inr ⟨k,c,e,cellK x c e _ z⟩
 ·obtain⟨v,z⟩:=I.cell x c e;exact⟨v,cellK x c e v z⟩
 ·obtain⟨m,⟨o,_,_,ho,_⟩,_⟩:=I.loc;exact free _ o (λz=>(hch _ z).2.1 rfl) ho I.free
 ·obtain⟨v,o,ho,hd⟩:=I.cell x c e;exact free c o (λz=>(hch c z).2.2.1 x c e rfl) ho (I.freeC x c e)
 obtain⟨e,n,ne,nf,d⟩:=I.pin p hp;have nch:p.1∉ch:=λz=>(hch p.1 z).2.2.2 p hp rfl;exact⟨keep p.1 p.2 ne nf nch e n,free p.1 p.2 nch e n,ne,nf,d⟩
theorem Inv.un {t':Nat} (I:Inv X pins U H s) (u:Un X.fs [] H H' s.heap h') (hok:HOk X.prog X.w H' h'):Inv X pins U H' { s with heap:=h',toks:=t' }:=by
 obtain⟨m,⟨o,es,ep,ho,r⟩,_⟩:=id I.loc;obtain⟨sl,hL⟩:=u.any ho I.free (by simp)
 exact I.step (g':=s.gens) (d':=s.drawn) (ch:=[]) (λ_ z=>nomatch z) (λb o _ hb _ e n=>u.keep b o e n hb (by simp)) (λb o _ hb _ e n=>u.slot b o e n hb (by simp)) (λb o _ e n=>u.free b o e n (by simp)) (λb o _ e=>u.there b o e (by simp)) u.tups u.frzs u.tbls (λm' hm=>by
  obtain⟨o',es',ep',ho',r'⟩:=hm;rw[ho]at ho';cases ho'
  exact⟨_,es',ep',hL,r'⟩) hok I.bare
theorem Inv.call {g':Array GenState} {t':Nat} {d':Drawn} {ch:A3} (I:Inv X pins U H s) (u:Un (frs X.stack) ch H H' s.heap h') (hok:HOk X.prog X.w H' h') (hg:AllBare g')
  (hch:∀b∈ch,(b∈X.ex\/X.s₀.heap.objs.size<=b)/\b≠X.env.locals/\(∀x c,X.env.cells.lookup x=some c->c≠b)/\∀p∈X.pn++pins,p.1≠b) :
  Inv X pins U H' { s with heap:=h',gens:=g',drawn:=d',toks:=t' }:=by
 obtain⟨m,⟨o,es,ep,ho,r⟩,_⟩:=id I.loc;obtain⟨sl,hL⟩:=u.any ho I.free λz=>(hch _ z).2.1 rfl
 exact I.step (ch:=ch) hch (λb o hL hb hc e n=>u.keep b o e n (λz=>(Qg.mp (I.stkSub b z)).elim hL hb) hc) (λb o _ _ hc e n=>u.any e n hc) (λb o hc e n=>u.free b o e n hc) (λb o hc e=>u.there b o e hc) u.tups u.frzs u.tbls (λm' hm=>by
  obtain⟨o',es',ep',ho',r'⟩:=hm;rw[ho]at ho';cases ho'
  exact⟨_,es',ep',hL,r'⟩) hok hg
theorem Inv.turned {t':Nat} {it:Addr} (I:Inv X pins U H s) (k:∀b o,b≠it->s.heap.get? b=some o->h'.get? b=some o) (hn:H it=none) (hL:it≠X.env.locals)
  (h1:it∈X.ex\/X.s₀.heap.objs.size<=it) (h2:∀x c,X.env.cells.lookup x=some c->c≠it) (h3:∀p∈X.pn++pins,p.1≠it):Inv X pins U H { s with heap:=h',toks:=t' }:=by
 have nit:∀b u,H b=some u->b≠it:=λb u e z=>by rw[z,hn]at e;cases e
 refine I.step (g':=s.gens) (d':=s.drawn) (ch:=[it]) (λb hb=>?_) (λb o _ _ hc e _=>k b o (λz=>hc (by simp[z])) e) (λb o _ _ hc e _=>⟨o.slots,k b o (λz=>hc (by simp[z])) e⟩) (λ_ _ _ _ n=>n)
  (λb o hc e=>⟨o,k b o (λz=>hc (by simp[z])) e⟩) (λ_ _ e=>e) (λ_ _ _ e=>e) (λb ps e=>⟨#[],by rw[e];simp⟩) (λm hm=>?_) (λb u e=>?_) I.bare
 ·have e:b=it:=by simpa using hb
  subst e;exact⟨h1,hL,h2,h3⟩
 ·obtain⟨o,es,ep,ho,r⟩:=hm;exact⟨o,es,ep,k _ o (Ne.symm hL) ho,r⟩
 refine(I.hok b u e).stay (λc v hc q=>k c v ?_ q) (λ_ q=>q) λ_ _ q=>q;rcases hc with z|z
 ·rw[z];exact nit b u e
 exact nit c _ z
theorem Inv.tok (I:Inv X pins U H s) (t:Nat):Inv X pins U H { s with toks:=t }:=I.un (h':=s.heap) (t':=t) Un.refl I.hok
theorem Inv.kept {t':Nat} (I:Inv X pins U H s) (k:∀b u,s.heap.get? b=some u->h'.get? b=some u):Inv X pins U H { s with heap:=h',toks:=t' }:=I.un (Un.kept k) (I.hok.kept k)
theorem Inv.laid {a:Addr} {o:HO} {t':Nat} (I:Inv X pins U H s) (k:∀b u,s.heap.get? b=some u->h'.get? b=some u) (hp:s.heap.objs.size<=a) (new:a7 X.prog X.w (upd H a o) h' a o) :
  Inv X pins U (upd H a o) { s with heap:=h',toks:=t' }:=I.un (Un.laid k hp (I.hok.fresh hp)) (I.hok.laid k hp new)
theorem Inv.write {x e:Addr} {o:HO} {t':Nat} (I:Inv X pins U H s) (mu:Mut (H x)) (he:e=x\/H e=some (.own x)) (k:∀b u,b≠e->s.heap.get? b=some u->h'.get? b=some u) (heo:∃u,h'.get? e=some u)
  (new:a7 X.prog X.w (upd H x o) h' x o):Inv X pins U (upd H x o) { s with heap:=h',toks:=t' }:=I.un (Un.write mu he k heo) (I.hok.write mu he k heo new)
theorem Inv.weak {σ':List (Option V)} (I:Inv X pins U H s) (hl:σ'.length=U.length) (w:∀(i:Nat) v,σ'[i]?=some (some v)->U[i]?=some (some v)):Inv X pins σ' H s :=
 ⟨I.ok,I.os,I.bare,I.base,let ⟨m,hn,hl'⟩:=I.loc;⟨m,hn,λi x v e1 e2 e3=>hl' i x v e1 (w i v e2) e3⟩,I.cell,I.free,I.freeC,I.pin,I.hok,hl.trans I.len⟩
theorem Inv.pins_of {pins':A1} (I:Inv X pins U H s) (h:∀p∈pins',s.heap.get? p.1=some p.2/\H p.1=none/\p.1≠X.env.locals/\p.1∉X.fs/\∀v,p.2.data≠.cell v):Inv X pins' U H s :=
 ⟨I.ok,I.os,I.bare,I.base,I.loc,I.cell,I.free,I.freeC,λp hp=>(Qx.mp hp).elim (λz=>I.pin p (xu _ z)) (h p),I.hok,I.len⟩
theorem jB {N:List Str} (hN:N.Nodup) {i j:Nat} {x:Str} (a:N[i]?=some x) (b:N[j]?=some x):i=j:=by
 obtain⟨h1,e1⟩:=Qe.mp a;obtain⟨h2,e2⟩:=Qe.mp b;exact(List.getElem_inj hN).mp (e1.trans e2.symm)
variable {Q:Unit->Shared->Prop} {E:A0}
theorem gs {M:Model} {A:Around} {i:Nat} {x:Str} {v:V} {u:Value} (I:Inv X pins U H s) (hN:X.N.Nodup) (hi:X.N[i]?=some x) (hx:Loc X.env.scope x) (r:aU v u)
  (h:∀s',Inv X pins (U.set i (some v)) H s'->(∃a,Heap.SameBut a s.heap s'.heap/\(a=X.env.locals\/X.env.cells.lookup x=some a))->Q () s') (hf:X.fn x=true\/X.env.scope.names.lookup x=some .local:=by z_go):wpAny M A (storeName X.env x u) Q E s:=by
 obtain⟨m,hn,hl⟩:=id I.loc;have hcls:(X.env.scope.kind==.class || (X.env.scope.kind==.module&&X.env.locals != X.env.globals))=false:=by rw[I.ok.kind];rfl
 have hiσ:i<U.length:=by rw[I.len];exact(Qe.mp hi).1
 have cne:=I.cne
 have tracked:∀{a:Addr} {h':Heap},(∃o,s.heap.get? a=some o/\H a=none)->Heap.SameBut a s.heap h'->HOk X.prog X.w H h':=λ{a h'} ha hs b ob e=>by
  obtain⟨_,_,hfree⟩:=ha;refine(I.hok b ob e).stay (λc w' hc q=>(hs.2 c ?_).trans q) (λ_ q=>q) λ_ _ q=>q;rintro rfl;rcases hc with rfl|hc
  ·rw[hfree]at e;cases e
  rw[hfree]at hc;cases hc
 rcases hx with hk|hk
 ·refine wpAny_storeName_local hk hn (λh' hn' hs=>?_) hcls;obtain⟨oL,_,_,hoL,_⟩:=id hn;refine h _ ⟨I.ok,I.os,I.bare,⟨λb o e n hb hx=>?_,λb o e n hb hx=>?_,I.base.free,λb o e hx=>?_,I.base.tups,I.base.frzs,I.base.tbls⟩,⟨_,hn',λj y v' e1 e2 e3=>?_⟩,λy c e=>?_,I.free,I.freeC,λp hp=>?_,tracked ⟨oL,hoL,I.free⟩ hs,by simpa using I.len⟩ ⟨_,hs,.inl rfl⟩
  ·exact(hs.2 b (QG (QR (Qr e) I.ok.above))).trans (I.base.keep b o e n hb hx)
  ·obtain⟨sl,e1⟩:=I.base.slot b o e n hb hx;exact⟨sl,(hs.2 b (QG (QR (Qr e) I.ok.above))).trans e1⟩
  ·obtain⟨o',e1⟩:=I.base.there b o e hx;exact⟨o',(hs.2 b (QG (QR (Qr e) I.ok.above))).trans e1⟩
  ·by_cases hj:j=i
   ·subst hj;rw[hi]at e1;cases e1;rw[List.getElem?_set_self hiσ]at e2;cases e2;exact⟨u,r,.inl ⟨hk,by simp⟩⟩
   rw[List.getElem?_set_ne (Ne.symm hj)]at e2;obtain⟨u',r',q⟩:=hl j y v' e1 e2 e3;refine⟨u',r',?_⟩;rcases q with⟨k,e⟩|⟨k,c,e,z⟩
   ·refine .inl ⟨k,?_⟩;have:y≠x:=λe=>hj (jB hN e1 (e▸hi));simp[this,e]
   exact .inr ⟨k,c,e,z.sameBut hs (cne y c e)⟩
  ·obtain⟨w',z⟩:=I.cell y c e;exact⟨w',z.sameBut hs (cne y c e)⟩
  obtain⟨e,n,ne,nf,d⟩:=I.pin p hp;exact⟨(hs.2 p.1 ne).trans e,n,ne,nf,d⟩
 have hfn:X.fn x=true:=by
  rcases hf with z|z
  ·exact z
  rw[z]at hk;cases hk
 obtain⟨c,hc⟩:=I.ok.has x (.inl hk);obtain⟨w',z⟩:=I.cell x c hc;refine wpAny_storeName_cell I.ok.kind hk hc z (λh' hc' hs=>?_);obtain⟨oc,hoc,hocd⟩:=id z;refine h { s with heap:=h' } ⟨I.ok,I.os,I.bare,⟨λb o e n hb hx=>?_,λb o e n hb hx=>?_,I.base.free,λb o e hx=>?_,I.base.tups,I.base.frzs,I.base.tbls⟩,⟨m,hn.sameBut hs (Ne.symm (cne x c hc)),λj y v' e1 e2 e3=>?_⟩,λy c' e=>?_,I.free,I.freeC,λp hp=>?_,tracked ⟨oc,hoc,I.freeC x c hc⟩ hs,by simpa using I.len⟩ ⟨c,hs,.inr hc⟩
 ·exact(hs.2 b (QG (QR (Qr e) (I.ok.cab x c hfn hc)))).trans (I.base.keep b o e n hb hx)
 ·obtain⟨sl,e1⟩:=I.base.slot b o e n hb hx;exact⟨sl,(hs.2 b (QG (QR (Qr e) (I.ok.cab x c hfn hc)))).trans e1⟩
 ·obtain⟨o',e1⟩:=I.base.there b o e hx;exact⟨o',(hs.2 b (QG (QR (Qr e) (I.ok.cab x c hfn hc)))).trans e1⟩
 ·by_cases hj:j=i
  ·subst hj;rw[hi]at e1;cases e1;rw[List.getElem?_set_self hiσ]at e2;cases e2;exact⟨u,r,.inr ⟨.inl hk,c,hc,hc'⟩⟩
  rw[List.getElem?_set_ne (Ne.symm hj)]at e2;obtain⟨u',r',q⟩:=hl j y v' e1 e2 e3;refine⟨u',r',?_⟩;rcases q with q|⟨k,c',e,z'⟩
  ·exact .inl q
  refine .inr ⟨k,c',e,z'.sameBut hs ?_⟩;rintro rfl;exact hj (jB hN e1 (I.ok.inj _ _ _ e hc▸hi))
 ·by_cases hcc:c'=c
  ·subst hcc;exact⟨_,hc'⟩
  obtain⟨w2,z2⟩:=I.cell y c' e;exact⟨w2,z2.sameBut hs hcc⟩
 obtain⟨e,n,ne,nf,d⟩:=I.pin p hp;refine⟨(hs.2 p.1 ?_).trans e,n,ne,nf,d⟩;intro q;rw[q,hoc]at e;have q':oc=p.2:=QH e;exact d w' (by rw[<-q'];exact hocd)
theorem jc {M:Model} {A:Around} {i:Nat} {x:Str} {v:V} {u:Value} (I:Inv X pins U H s) (hN:X.N.Nodup) (hi:X.N[i]?=some x) (hx:Loc X.env.scope x) (r:aU v u)
  (h:∀s',Inv X pins (U.set i (some v)) H s'->Q () s') (hf:X.fn x=true\/X.env.scope.names.lookup x=some .local:=by z_go):wpAny M A (storeName X.env x u) Q E s :=
 gs I hN hi hx r (λs' I' _=>h s' I') hf
theorem Inv.call' {s':Shared} {ch:A3} (I:Inv X pins U H s) (ho:s'.os=s.os) (u:Un (frs X.stack) ch H H' s.heap s'.heap) (hok:HOk X.prog X.w H' s'.heap) (hg:AllBare s'.gens)
  (hch:∀b∈ch,(b∈X.ex\/X.s₀.heap.objs.size<=b)/\b≠X.env.locals/\(∀x c,X.env.cells.lookup x=some c->c≠b)/\∀p∈X.pn++pins,p.1≠b):Inv X pins U H' s':=by
 obtain⟨h',g',d',t',o'⟩:=s';have e:o'=s.os:=ho;subst e;exact I.call (g':=g') (t':=t') (d':=d') u hok hg hch
end
abbrev XK:=Value->Option Addr->Hp->Prop
abbrev St:=List (Option V)
abbrev VK:=V->Hp->Prop
abbrev TE:=St->Hp->VK->Prop
abbrev TT:=St->Hp->(Bool->Hp->Prop)->Prop
abbrev TA:=St->Hp->(List V->Hp->Prop)->Prop
structure Ends where
 nx:St->Hp->Prop
 rt:VK
 bk:St->Hp->Prop:=λ_ _=>False
 ct:St->Hp->Prop:=λ_ _=>False
abbrev TS:=Ends->St->Hp->Prop
def EP (X:Cx) (pins:A1) (U:St) (Q:VK) (u:Value) (s':Shared):Prop:=∃v H',Inv X pins U H' s'/\aU v u/\Q v H'
def TP (X:Cx) (pins:A1) (U:St) (Q:Bool->Hp->Prop) (b:Bool) (s':Shared):Prop:=∃H',Inv X pins U H' s'/\Q b H'
def AP (X:Cx) (pins:A1) (U:St) (Q:List V->Hp->Prop) (us:List Value) (s':Shared):Prop:=∃vs H',Inv X pins U H' s'/\aL vs us/\Q vs H'
def SP (X:Cx) (pins:A1) (D:Ends) (f:Flow) (s':Shared):Prop :=
 match f with
 | .next=>∃σ' H',Inv X pins σ' H' s'/\D.nx σ' H'
 | .brk=>∃σ' H',Inv X pins σ' H' s'/\D.bk σ' H'
 | .cont=>∃σ' H',Inv X pins σ' H' s'/\D.ct σ' H'
 | .ret u=>∃v σ' H',Inv X pins σ' H' s'/\aU v u/\D.rt v H'
def PE (X:Cx) (e:Expr) (t:TE):Prop :=
 ∀(pins:A1) (s:Shared) (U:St) (H:Hp) (Q:VK),Inv X pins U H s->t U H Q->wpAny (model X.prog X.w) X.A (eval e X.env) (EP X pins U Q) X.xe s
def PT (X:Cx) (e:Expr) (t:TT):Prop :=
 ∀(pins:A1) (s:Shared) (U:St) (H:Hp) (Q:Bool->Hp->Prop),Inv X pins U H s->t U H Q->wpAny (model X.prog X.w) X.A (isTrue e X.env (eval e X.env)) (TP X pins U Q) X.xe s
def PW (X:Cx) (e:Expr) (t:TT):Prop :=
 ∀(whole:Sem Value) (pins:A1) (s:Shared) (U:St) (H:Hp) (Q:Bool->Hp->Prop),Inv X pins U H s->t U H Q->wpAny (model X.prog X.w) X.A (isTrue e X.env whole) (TP X pins U Q) X.xe s
variable {e tg:Expr} {X:Cx}
theorem PW.pt {t:TT} (h:PW X e t):PT X e t:=h _
def PA (X:Cx) (es:List Expr) (t:TA):Prop :=
 ∀(pos:Pos) (pins:A1) (s:Shared) (U:St) (H:Hp) (Q:List V->Hp->Prop),Inv X pins U H s->t U H Q->wpAny (model X.prog X.w) X.A (spliced (backTo pos (starEach es X.env))) (AP X pins U Q) X.xe s
def PS (X:Cx) (st:Stmt) (t:TS):Prop :=
 ∀(pins:A1) (s:Shared) (U:St) (H:Hp) (D:Ends),Inv X pins U H s->t D U H->wpAny (model X.prog X.w) X.A (exec st X.env) (SP X pins D) X.xe s
def PSs (X:Cx) (st:List Stmt) (t:TS):Prop :=
 ∀(pins:A1) (s:Shared) (U:St) (H:Hp) (D:Ends),Inv X pins U H s->t D U H->wpAny (model X.prog X.w) X.A (execs st X.env) (SP X pins D) X.xe s
variable {s s1:Shared} {E:A0}
theorem thn {α:Type} {t:Sem α} {Q Q':α->Shared->Prop} {M:Model} (h:wpAny M A t Q E s) (hQ:∀a s,Q a s->Q' a s):wpAny M A t Q' E s:=wpAny_mono h hQ λ_ _ x=>x
section
variable {X:Cx}
def dS (i:Nat):TE:=λU H Q=>∃v,U[i]?=some (some v)/\Q v H
def tC (v:V):TE:=λ_ H Q=>Q v H
variable {x:Str}
theorem tQ {i:Nat} {pos:Pos} (hN:X.N[i]?=some x) (hv:Vis X.env.scope x) (hd:(x==("__debug__" : Str))=false:=by decide) (hcd:(x==("__classdict__" : Str))=false:=by decide):PE X (.Name x pos) (dS i):=by
 intro pins s U H Q I h;obtain⟨v,e,h⟩:=h;obtain⟨m,hn,hl⟩:=I.loc;obtain⟨u,r,l⟩:=hl i x v hN e hv;have fin:EP X pins U Q u s:=⟨v,H,I,r,h⟩;rcases l with⟨hk,hm⟩|⟨hk,c,hc,hcell⟩
 ·exact wpAny_Name (wpAny_loadName_local I.ok.kind hk hn hm fin) hd
 rcases hk with hk|hk
 ·exact wpAny_Name (wpAny_loadName_cell I.ok.kind hk hc hcell fin) hd
 exact wpAny_Name (wpAny_loadName_free I.ok.kind hk hc hcell fin hcd) hd
theorem ad {i j pos}:PE X (.Constant (.int i) j pos) (tC (.int i)):=λ_ _ _ H _ I h=>wpAny_Constant_int ⟨.int i,H,I.tok _,⟨_,rfl⟩,h⟩
theorem lM {b j pos}:PE X (.Constant (.bool b) j pos) (tC (.bl b)):=λ_ _ _ H _ I h=>Constant_bool ⟨.bl b,H,I,rfl,h⟩
theorem o5 {j pos}:PE X (.Constant .none j pos) (tC .non):=λ_ _ _ H _ I h=>Constant_none ⟨.non,H,I,rfl,h⟩
theorem bc {x j pos}:PE X (.Constant (.str x) j pos) (tC (.str x)):=λ_ _ _ H _ I h=>Calls.Constant_str ⟨.str x,H,I.tok _,⟨_,rfl⟩,h⟩
def Gl (X:Cx) (x:Str):Prop:=X.env.kindOf x=some .globalImplicit
variable {Q E:A0} {u:Value} {pins:A1}
theorem lW {s:Shared} {U:St} {H:Hp} {pos:Pos} (I:Inv X pins U H s) (hg:Gl X x) (hm:X.mg x=some u) (h:Q u s)
  (hd:(x==("__debug__" : Str))=false:=by decide):wpAny (model X.prog X.w) X.A (eval (.Name x pos) X.env) Q E s :=
 Calls.Name_function_global I.ok.kind hg (Calls.loadGlobal_global (by rw[I.ok.glob];exact I.mod.glob.keeps I.bk) hm h) hd
theorem dv {s:Shared} {U:St} {H:Hp} {pos:Pos} (I:Inv X pins U H s) (hg:Gl X x) (hm:X.mg x=none) (hv:bootBuiltins x=some u) (h:Q u s)
  (hn:x ≠ "__name__" := by decide) (hd:(x==("__debug__" : Str))=false:=by decide):wpAny (model X.prog X.w) X.A (eval (.Name x pos) X.env) Q E s:=by
 obtain⟨mb,h1,h2⟩:=I.mod.blt;exact Calls.Name_function_global I.ok.kind hg (Calls.loadGlobal_builtin (by rw[I.ok.glob];exact I.mod.glob.keeps I.bk) hm (by rw[I.ok.blt];exact h1.keeps I.bk) ((h2 x hn).trans hv) h) hd
theorem iq {v:V} {pos:Pos} (hg:Gl X x) (hm:X.mg x=some u) (r:aU v u) (hd:(x==("__debug__" : Str))=false:=by decide):PE X (.Name x pos) (tC v) :=
 λ_ _ _ H _ I h=>lW I hg hm ⟨v,H,I,r,h⟩ hd
theorem bu {v:V} {pos:Pos} (hg:Gl X x) (hm:X.mg x=none) (hv:bootBuiltins x=some u) (r:aU v u) (hn:x ≠ "__name__" := by decide) (hd:(x==("__debug__" : Str))=false:=by decide):PE X (.Name x pos) (tC v) :=
 λ_ _ _ H _ I h=>dv I hg hm hv ⟨v,H,I,r,h⟩ hn hd
variable {a b:Expr} {ta tb:TE} {pos:Pos}
def PC (X:Cx) (op:CmpOp) (a b:Expr) (t:TE):Prop :=
 ∀(pins:A1) (s:Shared) (U:St) (H:Hp) (Q:VK),Inv X pins U H s->t U H Q ->
  wpAny (model X.prog X.w) X.A (eval a X.env) (λv s₁=>wpAny (model X.prog X.w) X.A (eval b X.env) (λu s₂=>wpAny (model X.prog X.w) X.A (compareOp op v u) (EP X pins U Q) X.xe s₂) X.xe s₁) X.xe s
def tB (t:TE):TT:=λU H Q=>t U H λx H1=>∃c,x=.bl c/\Q c H1
theorem tO {op:CmpOp} {t:TE} (h:PC X op a b t) (h1:behindInMarks op b=false:=by first|exact nobehind _ (by decide) (by decide)|rfl):PT X (.Compare a [op] [b] pos) (tB t):=by
 intro pins s U H Q I hw;refine wpAny_isTrue_Compare1 (thn (h pins s U H _ I hw) λv s1 h1=>thn h1 λu s2 h2=>thn h2 λc s3 ⟨x,H1,I1,r1,q1⟩=>?_) h1;obtain⟨d,rfl,q⟩:=q1;cases r1;exact wpAny_truthy_bool ⟨H1,I1,q⟩
theorem cr {e:Expr} {t:TE} (h:PE X e t) (he:∀whole,isTrue e X.env whole=(do let v <-whole;standAt e.pos;holding [v] (truthy v)):=by intro _;rfl):PT X e (tB t):=by
 intro pins s U H Q I hw;refine isTrue_plain (thn (h pins s U H _ I hw) λv s1 ⟨x,H1,I1,r1,q1⟩=>?_) (he _);obtain⟨d,rfl,q⟩:=q1;cases r1;exact wpAny_truthy_bool ⟨H1,I1,q⟩
variable {tA tB':TT} {rest:List Expr}
def uL (t u:TT):TT:=λU H Q=>t U H λc H1=>if c=true then u U H1 Q else Q false H1
def tOr (t u:TT):TT:=λU H Q=>t U H λc H1=>if c=true then Q true H1 else u U H1 Q
def uH (t:TT):TT:=λU H Q=>t U H λc H1=>Q (!c) H1
theorem ip (ha:PT X a tA):PW X (.BoolOp .And [a] pos) tA:=by
 intro wh pins s U H Q I h;refine isTrue_and (thn (ha pins s U H Q I h) λc s1 e=>?_)
 cases c with
 | true=>exact isTrue_and_nil e
 | false=>exact e
theorem ik (ha:PT X a tA):PW X (.BoolOp .Or [a] pos) tA:=by
 intro wh pins s U H Q I h;refine isTrue_or (thn (ha pins s U H Q I h) λc s1 e=>?_)
 cases c with
 | false=>exact isTrue_or_nil e
 | true=>exact e
theorem ky (ha:PT X a tA) (hb:PW X (.BoolOp .And (b::rest) pos) tB'):PW X (.BoolOp .And (a::b::rest) pos) (uL tA tB'):=by
 intro wh pins s U H Q I h;refine isTrue_and (thn (ha pins s U H _ I h) λc s1 ⟨H1,I1,q1⟩=>?_)
 cases c with
 | true=>exact hb wh pins s1 U H1 Q I1 q1
 | false=>exact⟨H1,I1,q1⟩
theorem lJ (ha:PT X a tA) (hb:PW X (.BoolOp .Or (b::rest) pos) tB'):PW X (.BoolOp .Or (a::b::rest) pos) (tOr tA tB'):=by
 intro wh pins s U H Q I h;refine isTrue_or (thn (ha pins s U H _ I h) λc s1 ⟨H1,I1,q1⟩=>?_)
 cases c with
 | true=>exact⟨H1,I1,q1⟩
 | false=>exact hb wh pins s1 U H1 Q I1 q1
theorem fJ (ha:PT X a tA):PT X (.UnaryOp .Not a pos) (uH tA):=by
 intro pins s U H Q I h;exact isTrue_not (ha pins s U H (λc H1=>Q (!c) H1) I h)
def sw (ta tb:TE):TE:=λU H Q=>ta U H λx H1=>∃c,x=.bl c/\if c=true then tb U H1 Q else Q (.bl false) H1
def vQ (ta tb:TE):TE:=λU H Q=>ta U H λx H1=>∃c,x=.bl c/\if c=true then Q (.bl true) H1 else tb U H1 Q
def uG (ta:TE):TE:=λU H Q=>ta U H λx H1=>∃c,x=.bl c/\Q (.bl (!c)) H1
theorem o0 {op} {t:TE} (h:PE X a t):PE X (.BoolOp op [a] pos) t:=λpins s U H Q I hw=>BoolOp_one (h pins s U H Q I hw)
theorem o_ (ha:PE X a ta) (hb:PE X (.BoolOp .And (b::rest) pos) tb):PE X (.BoolOp .And (a::b::rest) pos) (sw ta tb):=by
 intro pins s U H Q I h;refine BoolOp_and (thn (ha pins s U H _ I h) λv s1 ⟨x,H1,I1,r1,q1⟩=>?_);obtain⟨c,rfl,q1⟩:=q1;cases r1;refine wpAny_truthy_bool ?_
 cases c with
 | true=>exact hb pins s1 U H1 Q I1 q1
 | false=>exact⟨.bl false,H1,I1,rfl,q1⟩
def tIf (t:TT) (ta tb:TE):TE:=λU H Q=>t U H λc H1=>if c=true then ta U H1 Q else tb U H1 Q
theorem jw {c:Expr} (hc:PT X c tA) (ha:PE X a ta) (hb:PE X b tb):PE X (.IfExp c a b pos) (tIf tA ta tb):=by
 intro pins s U H Q I h;refine wpAny_IfExp (thn (hc pins s U H _ I h) λd s1 ⟨H1,I1,q1⟩=>?_)
 cases d with
 | true=>exact ha pins s1 U H1 Q I1 q1
 | false=>exact hb pins s1 U H1 Q I1 q1
end
def SqL (K:PySem.W.Frag) (H:Hp) (a:Addr) (xs:List V):Prop :=
 Rd H a (.lst xs) \/
  ∃(o:Obj) (its:Array Value) (n:Nat),K.lookup a=some o/\o.cls=.type "list" /\ o.dict=none/\o.data=.seq its n/\its.size<=sizeLine/\aL xs its.toList
def SqT (K:PySem.W.Frag) (H:Hp) (a:Addr) (xs:List V):Prop :=
 Rd H a (.tup xs) \/
  ∃(o:Obj) (its:Array Value) (n:Nat),K.lookup a=some o/\o.cls=.type "tuple" /\ o.data=.seq its n/\its.size<=sizeLine/\aL xs its.toList
noncomputable def vZ:Value->Option V
 | .none=>some .non
 | .bool b=>some (.bl b)
 | .int i _=>some (.int i)
 | .str x _=>some (.str x)
 | .bytes b _=>some (.byt b)
 | .float b _=>some (.flt b)
 | .ref a=>some (.ref a)
 | .type n=>some (.ty n)
 | _=>none
theorem aU.abs {x:V} (r:aU x u):vZ u=some x:=by
 cases x with
 | non=>cases r;rfl
 | bl _=>cases r;rfl
 | int _=>obtain⟨t,rfl⟩:=r;rfl
 | str _=>obtain⟨t,rfl⟩:=r;rfl
 | byt _=>obtain⟨t,rfl⟩:=r;rfl
 | flt _=>obtain⟨t,rfl⟩:=r;rfl
 | ref _=>cases r;rfl
 | ty _=>cases r;rfl
theorem aU.inj {x y:V} (r:aU x u) (q:aU y u):x=y:=QH (r.abs.symm.trans q.abs)
theorem aL.inj:∀{xs ys:List V} {us:List Value},aL xs us->aL ys us->xs=ys
 | _,_,_,.nil,.nil=>rfl
 | _,_,_,.cons r t,.cons r' t'=>by rw[r.inj r',aL.inj t t']
section
variable {X:Cx} {pins:A1} {U:St} {H:Hp} {s:Shared} {a:Addr} {xs ys:List V}
theorem SqL.of {K:PySem.W.Frag} (h:H a=some (.lst xs)):SqL K H a xs:=.inl (.inl h)
theorem SqT.of {K:PySem.W.Frag} (h:H a=some (.tup xs)):SqT K H a xs:=.inl (.inl h)
theorem Inv.list (I:Inv X pins U H s) (h:SqL X.K H a xs):∃its:List Value,aL xs its/\PlainL s.heap a its.toArray/\xs.length<=sizeLine:=by
 rcases h with h|⟨o,its,n,hk,hc,hd,hs,hz,r⟩
 ·obtain⟨z,its,n,r,e⟩:=h.ok I.hok;exact⟨its,r,⟨_,n,e,rfl,rfl,rfl⟩,z⟩
 refine⟨its.toList,r,⟨o,n,I.kIn a o hk,hc,hd,by simpa using hs⟩,?_⟩;have e:=r.length;simp only[Qj]at e;omega
theorem Inv.tuple (I:Inv X pins U H s) (h:SqT X.K H a xs):∃its:List Value,aL xs its/\IsTup s.heap a its.toArray/\xs.length<=sizeLine:=by
 rcases h with h|⟨o,its,n,hk,hc,hs,hz,r⟩
 ·obtain⟨z,its,r,p⟩:=h.ok I.hok;exact⟨its,r,p,z⟩
 refine⟨its.toList,r,⟨o,I.kIn a o hk,hc,n,by simpa using hs⟩,?_⟩;have e:=r.length;simp only[Qj]at e;omega
theorem Inv.list_inj (I:Inv X pins U H s) (h:SqL X.K H a xs) (h':SqL X.K H a ys):xs=ys:=by
 obtain⟨its,r,⟨o,n,e,_,_,d⟩,_⟩:=I.list h;obtain⟨its',r',⟨o',n',e',_,_,d'⟩,_⟩:=I.list h';rw[e]at e';cases e';rw[d]at d';injection d' with d1 _;have:its=its':=by simpa using congrArg Array.toList d1
 subst this;exact r.inj r'
theorem Inv.tuple_inj (I:Inv X pins U H s) (h:SqT X.K H a xs) (h':SqT X.K H a ys):xs=ys:=by
 obtain⟨its,r,⟨o,e,_,n,d⟩,_⟩:=I.tuple h;obtain⟨its',r',⟨o',e',_,n',d'⟩,_⟩:=I.tuple h';rw[e]at e';cases e';rw[d]at d';injection d' with d1 _;have:its=its':=by simpa using congrArg Array.toList d1
 subst this;exact r.inj r'
end
abbrev Cx.wish (X:Cx) (E:A0):Cx:={ X with xe:=E }
abbrev Cx.nox (X:Cx):Cx:=X.wish λ_ _=>False
theorem Cx.Ok.wish (ok:X.Ok) (E:A0):(X.wish E).Ok :=
 ⟨ok.mod,ok.kind,ok.glob,ok.blt,ok.above,ok.inj,ok.has,ok.cab,ok.hd,ok.frames,ok.stk,ok.exf,ok.bs,ok.bsz,ok.noex,ok.exfs,ok.funs,ok.frf⟩
theorem Cx.Ok.unwish (ok:(X.wish E).Ok):X.Ok :=
 ⟨ok.mod,ok.kind,ok.glob,ok.blt,ok.above,ok.inj,ok.has,ok.cab,ok.hd,ok.frames,ok.stk,ok.exf,ok.bs,ok.bsz,ok.noex,ok.exfs,ok.funs,ok.frf⟩
section
variable {X:Cx} {pins:A1} {U:St} {H:Hp} {s:Shared} {E:A0}
theorem Inv.wish (I:Inv X pins U H s) (E:A0):Inv (X.wish E) pins U H s:=⟨I.ok.wish E,I.os,I.bare,I.base,I.loc,I.cell,I.free,I.freeC,I.pin,I.hok,I.len⟩
theorem Inv.unwish (I:Inv (X.wish E) pins U H s):Inv X pins U H s:=⟨I.ok.unwish,I.os,I.bare,I.base,I.loc,I.cell,I.free,I.freeC,I.pin,I.hok,I.len⟩
theorem SP.unwish {D:Ends} {f:Flow} {s':Shared} (h:SP (X.wish E) pins D f s'):SP X pins D f s':=by
 cases f with
 | next=>obtain⟨σ',H',I,q⟩:=h;exact⟨σ',H',I.unwish,q⟩
 | brk=>obtain⟨σ',H',I,q⟩:=h;exact⟨σ',H',I.unwish,q⟩
 | cont=>obtain⟨σ',H',I,q⟩:=h;exact⟨σ',H',I.unwish,q⟩
 | ret u=>obtain⟨v,σ',H',I,r,q⟩:=h;exact⟨v,σ',H',I.unwish,r,q⟩
theorem PSs.nox {st:List Stmt} {t:TS} (h:PSs X.nox st t):PSs X st t:=λpins s U H D I hw =>
 wpAny_mono (h pins s U H D (I.wish _) hw) (λ_ _ q=>q.unwish) λ_ _ z=>False.elim z
end
section
variable {X:Cx} {st:Stmt} {rest:List Stmt} {t u:TS} {e:Expr} {te:TE} {pos:Pos}
def sm:TS:=λD U H=>D.nx U H
def qL (t u:TS):TS:=λD U H=>t { D with nx:=u D } U H
theorem pss_nil:PSs X [] sm:=λ_ _ U H _ I h=>wpAny_execs_nil ⟨U,H,I,h⟩
theorem pss_cons (h1:PS X st t) (h2:PSs X rest u):PSs X (st::rest) (qL t u):=by
 intro pins s U H D I h;refine wpAny_execs_cons (thn (h1 pins s U H { D with nx:=u D } I h) λf s1 q=>?_)
 cases f with
 | next =>
  obtain⟨σ',H',I',q⟩:=q;exact h2 pins s1 σ' H' D I' q
 | ret v=>exact q
 | brk=>exact q
 | cont=>exact q
theorem pss_one (h1:PS X st t):PSs X [st] t:=by
 intro pins s U H D I h;refine wpAny_execs_cons (thn (h1 pins s U H D I h) λf s1 q=>?_)
 cases f with
 | next=>exact wpAny_execs_nil q
 | ret v=>exact q
 | brk=>exact q
 | cont=>exact q
theorem Inv.quiet {pins:A1} {U:St} {H:Hp} {s:Shared} (I:Inv X pins U H s):interactive X.env=false:=by simp[interactive,I.ok.kind]
def sn (te:TE):TS:=λD U H=>te U H λ_ H1=>D.nx U H1
theorem bj (he:PE X e te) (hs:swapsWith e none pos.line X.env=pure false:=by rfl):PS X (.Expr e pos) (sn te):=by
 intro pins s U H D I h;exact wpAny_Expr_any (thn (he pins s U H _ I h) λv s1 ⟨x,H1,I1,r1,q1⟩=>⟨U,H1,I1,q1⟩) I.quiet hs
def uF (te:TE):TS:=λD U H=>te U H D.rt
theorem aR (he:PE X e te):PS X (.Return (some e) pos) (uF te):=by
 intro pins s U H D I h;exact wpAny_Return_some (thn (he pins s U H _ I h) λv s1 ⟨x,H1,I1,r1,q1⟩=>⟨x,U,H1,I1,r1,q1⟩)
def uI (c:TT) (t u:TS):TS:=λD U H=>c U H λb H1=>if b=true then t D U H1 else u D U H1
theorem ps_if {c:Expr} {a b:List Stmt} {tc:TT} (hc:PT X c tc) (ha:PSs X a t) (hb:PSs X b u):PS X (.If c a b pos) (uI tc t u):=by
 intro pins s U H D I h;refine wpAny_If (thn (hc pins s U H _ I h) λd s1 ⟨H1,I1,q1⟩=>?_)
 cases d with
 | true=>exact ha pins s1 U H1 D I1 q1
 | false=>exact hb pins s1 U H1 D I1 q1
end
abbrev TG:=V->St->Hp->(St->Hp->Prop)->Prop
abbrev TGs:=List V->St->Hp->(St->Hp->Prop)->Prop
def PG (X:Cx) (target:Expr) (t:TG):Prop :=
 ∀(pins:A1) (s:Shared) (U:St) (H:Hp) (v:V) (u:Value) (Q:St->Hp->Prop),Inv X pins U H s->aU v u->t v U H Q ->
  wpAny (model X.prog X.w) X.A (assign target X.env u) (λ_ s'=>∃σ' H',Inv X pins σ' H' s'/\Q σ' H') X.xe s
def PGs (X:Cx) (ts:List Expr) (t:TGs):Prop :=
 ∀(pins:A1) (s:Shared) (U:St) (H:Hp) (vs:List V) (us:List Value) (Q:St->Hp->Prop),Inv X pins U H s->aL vs us->t vs U H Q ->
  wpAny (model X.prog X.w) X.A (assignInOrder ((assignEach ts X.env).map (·.2)) us) (λ_ s'=>∃σ' H',Inv X pins σ' H' s'/\Q σ' H') X.xe s
abbrev rY:=V->V->V->Hp->(Hp->Prop)->Prop
def vJ (X:Cx) (t:rY):Prop :=
 ∀(pins:A1) (s:Shared) (U:St) (H:Hp) (o i v:V) (ov iv u:Value) (Q:Hp->Prop),Inv X pins U H s->aU o ov->aU i iv->aU v u->t o i v H Q ->
  wpAny (model X.prog X.w) X.A (setItem ov iv u) (λ_ s'=>∃H',Inv X pins U H' s'/\Q H') X.xe s
section
variable {X:Cx} {pos:Pos}
def dh (i:Nat):TG:=λv U H Q=>Q (U.set i (some v)) H
variable {x:Str}
theorem bf {i:Nat} (hN:X.N.Nodup) (hi:X.N[i]?=some x) (hx:Loc X.env.scope x) (hf:X.fn x=true\/X.env.scope.names.lookup x=some .local:=by z_go):PG X (.Name x pos) (dh i):=by
 intro pins s U H v u Q I r h;exact wpAny_assign_Name (jc I hN hi hx r (λs' I'=>⟨_,H,I',h⟩) hf)
theorem bz (i:Nat) (hN:X.N.Nodup) (hi:X.N[i]?=some x:=by rfl) (hx:Loc X.env.scope x:=by z_go) (hf:X.fn x=true\/X.env.scope.names.lookup x=some .local:=by z_go):PG X (.Name x pos) (dh i):=bf hN hi hx hf
def vW:TGs:=λvs U H Q=>vs=[]/\Q U H
def vC (t:TG) (u:TGs):TGs:=λvs U H Q=>∃v r,vs=v::r/\t v U H λσ' H'=>u r σ' H' Q
theorem bI:PGs X [] vW:=by
 intro pins s U H vs us Q I r h;obtain⟨e,h⟩:=h;subst e;cases r;exact assignInOrder_nil ⟨U,H,I,h⟩
variable {e o i tg:Expr}
theorem aE {es:List Expr} {t:TG} {u:TGs} (h1:PG X e t) (h2:PGs X es u)
  (hs:(assignEach (e::es) X.env).map (·.2)=assign e X.env::(assignEach es X.env).map (·.2):=by rfl):PGs X (e::es) (vC t u):=by
 intro pins s U H vs us Q I r h;obtain⟨v,vr,e1,h⟩:=h;subst e1
 cases r with
 | cons r rr =>
 rw[hs];refine assignInOrder_cons (thn (h1 pins s U H _ _ _ I r h) λ_ s1 ⟨σ1,H1,I1,q1⟩=>?_);exact h2 pins s1 σ1 H1 _ _ Q I1 rr q1
def vA (K:PySem.W.Frag) (n:Nat) (t:TGs):TG:=λv U H Q=>∃a xs,v=.ref a/\SqT K H a xs/\xs.length=n/\t xs U H Q
theorem dO {es:List Expr} {k:Nat} {t:TGs} {n:Nat} (hc:X.calm=true) (h:PGs X es t)
  (hn:(assignEach es X.env).length=n:=by rfl) (hst:(assignEach es X.env).findIdx? (·.1)=none:=by rfl):PG X (.Tuple es k pos) (vA X.K n t):=by
 intro pins s U H v u Q I r hw;obtain⟨a,xs,e1,hq,hl,hw⟩:=hw;subst e1;cases r;obtain⟨its,rv,ht,hz⟩:=I.tuple hq;refine assign_Tuple_tuple (I.ok.hd hc) ht (by simp[hn,<-hl,rv.length]) hst λh' hx=>?_;have I1:Inv X pins U H { s with heap:=h' }:=I.kept (t':=s.toks) λb o e=>hx b o (QG (Qr e)) e;exact h pins _ U H xs _ Q I1 (by simpa using rv) hw
def vB (to ti:TE) (t:rY):TG:=λv U H Q=>to U H λo H1=>ti U H1 λi H2=>t o i v H2 λH3=>Q U H3
variable {to ti te:TE}
theorem kA {t:rY} (ho:PE X o to) (hi:PE X i ti) (hs:vJ X t)
  (ha:∀v,assign (.Subscript o i pos) X.env v=(do
   let ov <-holding [v] (eval o X.env);let iv <-holding [v,ov] (eval i X.env)
   standAt pos
   holding [v,ov,iv] (setItem ov iv v)
   release [v,ov,iv] []):=by intro _;rfl):PG X (.Subscript o i pos) (vB to ti t):=by
 intro pins s U H v u Q I r h;rw[ha];refine Qa (Q7 (thn (ho pins s U H _ I h) λov s1 ⟨x,H1,I1,r1,q1⟩=>?_));refine Qa (Q7 (thn (hi pins s1 U H1 _ I1 q1) λiv s2 ⟨y,H2,I2,r2,q2⟩=>?_));refine Qa (wpAny_standAt (Qa (Q7 (thn (hs pins s2 U H2 x y v ov iv u _ I2 r1 r2 r q2) λ_ s3 ⟨H3,I3,q3⟩=>?_))));exact wpAny_release ⟨U,H3,I3,q3⟩
def on (te:TE) (g:TG):TS:=λD U H=>te U H λx H1=>g x U H1 D.nx
theorem fK {g:TG} (he:PE X e te) (hg:PG X tg g) (hs:swapsWithSole [tg] e pos.line X.env=pure false:=by rfl) (hw:swappedStores [tg] e X.env=pure none:=by rfl)
  (h1:(assignEach [tg] X.env).map (·.2)=[assign tg X.env]:=by rfl):PS X (.Assign [tg] e pos) (on te g):=by
 intro pins s U H D I h;refine wpAny_Assign_stores (thn (he pins s U H _ I h) λv s1 ⟨x,H1,I1,r1,q1⟩=>?_) hs hw;rw[h1];exact thn (hg pins s1 U H1 x v _ I1 r1 q1) λ_ s2 q=>q
theorem oV {i:Nat} {pos':Pos} (hN:X.N.Nodup) (hi:X.N[i]?=some x) (hx:Loc X.env.scope x) (he:PE X e te) (hs:swapsWith e (some (.Name x pos')) pos.line X.env=pure false:=by rfl) (hf:X.fn x=true\/X.env.scope.names.lookup x=some .local:=by z_go) :
  PS X (.Assign [.Name x pos'] e pos) (on te (dh i)):=by
 intro pins s U H D I h;refine wpAny_Assign_Name (thn (he pins s U H _ I h) λv s1 ⟨y,H1,I1,r1,q1⟩=>?_) hs;exact jc I1 hN hi hx r1 (λs2 I2=>⟨_,H1,I2,q1⟩) hf
theorem aH {pos':Pos} (i:Nat) (hN:X.N.Nodup) (he:PE X e te) (hi:X.N[i]?=some x:=by rfl) (hx:Loc X.env.scope x:=by z_go) (hs:swapsWith e (some (.Name x pos')) pos.line X.env=pure false:=by rfl) (hf:X.fn x=true\/X.env.scope.names.lookup x=some .local:=by z_go):PS X (.Assign [.Name x pos'] e pos) (on te (dh i)):=oV hN hi hx he hs hf
end
section
variable {X:Cx} {pos:Pos}
def tz (c:TT) (tb:TS):TS:=λD U H=>∃W:Nat->St->Hp->Prop,(∃m,W m U H)/\∀m U H,W m U H ->
 c U H λb H1=>if b=true then ∃N:St->Hp->Prop,(∀σ' H',N σ' H'->∃m',m'<m/\W m' σ' H')/\tb { D with nx:=N,ct:=N,bk:=D.nx } U H1 else D.nx U H1
theorem dW {c:Expr} {body:List Stmt} {tc:TT} {tb:TS} (hp:PassesOwn (model X.prog X.w) X.A X.env X.xe) (hc:PT X c tc) (hb:PSs X body tb):PS X (.While c body [] pos) (tz tc tb):=by
 intro pins s U H D I h;obtain⟨W,⟨m0,w0⟩,turn⟩:=h;refine wpAny_While (codeAny_whileLoop (λn s'=>∃σ' H',Inv X pins σ' H' s'/\W n σ' H') ?_ m0 ⟨U,H,I,w0⟩);rintro n s1 ⟨σ1,H1,I1,w1⟩;refine wpAny_passesOwn hp (thn (hc pins s1 σ1 H1 _ I1 (turn n σ1 H1 w1)) λb s2 ⟨H2,I2,q2⟩=>?_)
 cases b with
 | true =>
  obtain⟨N,hN,q2⟩:=q2;rw[Qw rfl];refine wpAny_passesOwn hp (thn (hb pins s2 σ1 H2 _ I2 q2) λf s3 q3=>?_)
  cases f with
  | next =>
   obtain⟨σ3,H3,I3,n3⟩:=q3;obtain⟨m',hm,w3⟩:=hN σ3 H3 n3;exact⟨m',hm,σ3,H3,I3,w3⟩
  | cont =>
   obtain⟨σ3,H3,I3,n3⟩:=q3;obtain⟨m',hm,w3⟩:=hN σ3 H3 n3;exact⟨m',hm,σ3,H3,I3,w3⟩
  | brk=>exact q3
  | ret v=>exact q3
 | false =>
 rw[Qq Qn];exact wpAny_execs_nil ⟨σ1,H2,I2,q2⟩
end
structure It where
 go:Nat->Hp->Prop
 yld:Nat->Hp->V->Hp->Prop
 stop:Nat->Hp->Prop
def dB (X:Cx) (pins:A1) (H:Hp) (b:Addr):Prop :=
 H b=none/\b≠X.env.locals/\b∉X.fs/\(b∈X.ex\/X.s₀.heap.objs.size<=b)/\(∀x c,X.env.cells.lookup x=some c->c≠b)/\∀p∈X.pn++pins,p.1≠b
theorem Inv.fpOk {pins:A1} {U:St} (I:Inv X pins U H s) (hb:s.heap.objs.size<=b) (hn:H' b=none):dB X pins H' b:=by
 refine⟨hn,Nat.ne_of_gt (QR I.lt hb),I.nofs hb,.inr (QK I.sz hb),λx c e z=>?_,λp hp z=>?_⟩
 ·obtain⟨v,q⟩:=I.cell x c e;exact absurd (QR q.lt (by rw[z];exact hb)) (xV _)
 exact absurd (QR (Qr (I.pin p hp).1) (by rw[z];exact hb)) (xV _)
structure Turn (P:Program) (w:World) (K:PySem.W.Frag) (tg:Expr) (J:It) (fp:A3) (it:Addr) (tn:Nat->Heap->Prop):Prop where
 mem:it∈fp
 obj:∀i h,tn i h->∀b∈fp,∃o,h.get? b=some o/\∀v,o.data≠.cell v
 keep:∀i h h',tn i h->(∀b∈fp,∀o,h.get? b=some o->h'.get? b=some o)->tn i h'
 item:∀(X:Cx),X.prog=P->X.w=w->X.K=K->X.calm=true->∀(i:Nat) (pins:A1) (s:Shared) (U:St) (H:Hp) (E:A0),Inv X pins U H s->(∀b∈fp,dB X pins H b)->tn i s.heap->J.go i H ->
  wpAny (model P w) X.A (pyNext (.ref it)) (λr s1=>∃u,r=some u /\
   wpAny (model P w) X.A (letOwnedTupleGo tg (.ref it) u) (λ_ s2=>∃x H',Inv X pins U H' s2/\aU x u/\J.yld i H x H'/\tn (i+1) s2.heap/\∀b∈fp,H' b=none) E s1) E s
 done:∀(X:Cx),X.prog=P->X.w=w->X.K=K->X.calm=true->∀(i:Nat) (pins:A1) (s:Shared) (U:St) (H:Hp) (E:A0),Inv X pins U H s->(∀b∈fp,dB X pins H b)->tn i s.heap->J.stop i H ->
  wpAny (model P w) X.A (pyNext (.ref it)) (λr s1=>r=none/\Inv X pins U H s1) E s
 self:∀(A:Around) (i:Nat) (s:Shared) (Q:A0) (E:A0),tn i s.heap->Q (.ref it) s->wpAny (model P w) A (pyIter (.ref it)) Q E s
abbrev TI:=St->Hp->(It->Hp->Prop)->Prop
def PIE (X:Cx) (pins:A1) (U:St) (tg:Expr) (R:It->Hp->Prop) (itv:Value) (s2:Shared):Prop :=
 ∃(it:Addr) (fp:A3) (tn:Nat->Heap->Prop) (J:It) (H':Hp),itv=.ref it/\Inv X pins U H' s2/\Turn X.prog X.w X.K tg J fp it tn/\tn 0 s2.heap/\(∀b∈fp,dB X pins H' b)/\R J H'
def PI (X:Cx) (tg iter:Expr) (wi:TI):Prop :=
 ∀(pins:A1) (s:Shared) (U:St) (H:Hp) (R:It->Hp->Prop),Inv X pins U H s->wi U H R ->
  wpAny (model X.prog X.w) X.A (eval iter X.env) (λv s1=>wpAny (model X.prog X.w) X.A (pyIter v) (PIE X pins U tg R) X.xe s1) X.xe s
theorem l_ {M:Model} {s:Shared} {o:Obj} {n:String} {vs:Array Value} {Q:Unit->Shared->Prop} (ho:s.heap.get? it=some o) (hc:o.cls=.type n) (hd:o.data=.fields vs)
  (hn:["enumerate", "zip", "dict_itemiterator", "dict_reverseitemiterator", "odict_iterator", "itertools.zip_longest", "itertools.pairwise"].contains n=false) (hQ:Q () s):wpAny M A (letOwnedTupleGo tg (.ref it) u) Q E s:=by
 unfold letOwnedTupleGo
 cases tg <;> first
  | exact Qf hQ
  | (cases u <;> first
    | exact Qf hQ
    |(refine Qa (wpAny_load ho ?_)
      rw[hc,hd];show wpAny M A (if (["enumerate", "zip", "dict_itemiterator", "dict_reverseitemiterator", "odict_iterator", "itertools.zip_longest", "itertools.pairwise"].contains n&&vs[0]?==some (rawInt _))=true then _ else _) Q E s;rw[Qq (by intro h;rw[hn,Bool.false_and]at h;cases h)]
      exact Qf hQ))
def Itl (K:PySem.W.Frag) (a:Addr):It :=
 ⟨λi H=>∃xs x,SqL K H a xs/\xs[i]?=some x,λi H x H'=>H'=H/\∀xs,SqL K H a xs->xs[i]?=some x,λi H=>∃xs,SqL K H a xs/\xs.length<=i⟩
def Itt (K:PySem.W.Frag) (a:Addr):It :=
 ⟨λi H=>∃xs x,SqT K H a xs/\xs[i]?=some x,λi H x H'=>H'=H/\∀xs,SqT K H a xs->xs[i]?=some x,λi H=>∃xs,SqT K H a xs/\xs.length<=i⟩
def Itr (lo:Int) (n:Nat):It:=⟨λi _=>i<n,λi H x H'=>H'=H/\x=.int (lo+i),λi _=>n<=i⟩
variable {K:PySem.W.Frag}
theorem mL {w:World} (a it:Addr):Turn P w K tg (Itl K a) [it] it (λi h=>h.IsListIter it a i) where
 mem:=by simp
 obj:=λi h st b hb=>by
  have e:b=it:=by simpa using hb
  subst e;obtain⟨o,e,c,d⟩:=st;exact⟨o,e,λv z=>by rw[d]at z;cases z⟩
 keep:=λi h h' st k=>st.at λo e=>k it (by simp) o e
 item:=by
  intro X hP hw hK hc i pins s U H E I hf st hg;subst hP hw hK;obtain⟨xs,x,hq,hx⟩:=hg;obtain⟨its,rv,p,hz⟩:=I.list hq;obtain⟨u,hu,ru⟩:=rv.get hx;obtain⟨f0,f1,f2,f3,f4,f5⟩:=hf it (by simp);refine wpAny_pyNext_list_item st p.isList (x:=u) (by simpa using hu) λh' st' sb=>?_;have I1:Inv X pins U H { s with heap:=h' }:=I.turned (t':=s.toks) (λb o hb e=>(sb.2 b hb).trans e) f0 f1 f3 f4 f5;obtain⟨o,e,c,d⟩:=id st';exact⟨u,rfl,l_ (s:={ s with heap:=h' }) e c d (by decide) ⟨x,H,I1,ru,⟨rfl,λys hy=>by rw[I.list_inj hy hq];exact hx⟩,st',λb hb=>(hf b hb).1⟩⟩
 done:=by
  intro X hP hw hK hc i pins s U H E I hf st hg;subst hP hw hK;obtain⟨xs,hq,hx⟩:=hg;obtain⟨its,rv,p,hz⟩:=I.list hq;obtain⟨f0,f1,f2,f3,f4,f5⟩:=hf it (by simp);have hl:=rv.length;exact wpAny_pyNext_list_end (I.ok.hd hc) st p.isList (by simp;omega) λh' eb=>⟨rfl,I.turned (t':=s.toks) (λb o hb e=>eb b o hb e) f0 f1 f3 f4 f5⟩
 self:=λ_ _ _ _ _ st h=>wpAny_pyIter_listiter st h
theorem ki {w:World} (a it:Addr):Turn P w K tg (Itt K a) [it] it (λi h=>h.IsTupleIter it a i) where
 mem:=by simp
 obj:=λi h st b hb=>by
  have e:b=it:=by simpa using hb
  subst e;obtain⟨o,e,c,d⟩:=st;exact⟨o,e,λv z=>by rw[d]at z;cases z⟩
 keep:=λi h h' st k=>st.at λo e=>k it (by simp) o e
 item:=by
  intro X hP hw hK hc i pins s U H E I hf st hg;subst hP hw hK;obtain⟨xs,x,hq,hx⟩:=hg;obtain⟨its,rv,p,hz⟩:=I.tuple hq;obtain⟨u,hu,ru⟩:=rv.get hx;obtain⟨f0,f1,f2,f3,f4,f5⟩:=hf it (by simp);refine wpAny_pyNext_tuple_item st (show s.heap.IsTuple a its.toArray from p) (x:=u) (by simpa using hu) λh' st' sb=>?_;have I1:Inv X pins U H { s with heap:=h' }:=I.turned (t':=s.toks) (λb o hb e=>(sb.2 b hb).trans e) f0 f1 f3 f4 f5;obtain⟨o,e,c,d⟩:=id st';exact⟨u,rfl,l_ (s:={ s with heap:=h' }) e c d (by decide) ⟨x,H,I1,ru,⟨rfl,λys hy=>by rw[I.tuple_inj hy hq];exact hx⟩,st',λb hb=>(hf b hb).1⟩⟩
 done:=by
  intro X hP hw hK hc i pins s U H E I hf st hg;subst hP hw hK;obtain⟨xs,hq,hx⟩:=hg;obtain⟨its,rv,p,hz⟩:=I.tuple hq;obtain⟨f0,f1,f2,f3,f4,f5⟩:=hf it (by simp);have hl:=rv.length;exact wpAny_pyNext_tuple_end (I.ok.hd hc) st (show s.heap.IsTuple a its.toArray from p) (by simp;omega) λh' eb=>⟨rfl,I.turned (t':=s.toks) (λb o hb e=>eb b o hb e) f0 f1 f3 f4 f5⟩
 self:=λ_ _ _ _ _ st h=>wpAny_pyIter_tupleiter st h
theorem kj {w:World} (it:Addr) (lo:Int) (n:Nat):Turn P w K tg (Itr lo n) [it] it (λi h=>IsRangeIter h it (lo+(i:Nat)*1) ((n:Int)-(i:Nat)) 1) where
 mem:=by simp
 obj:=λi h st b hb=>by
  have e:b=it:=by simpa using hb
  subst e
  exact⟨_,st,λv z=>by
   have z':Data.fields _=Data.cell v:=z
   cases z'⟩
 keep:=λi h h' st k=>k it (by simp) _ st
 item:=by
  intro X hP hw hK hc i pins s U H E I hf st hg;subst hP hw hK;obtain⟨f0,f1,f2,f3,f4,f5⟩:=hf it (by simp);have W:=Walks.range (prog:=X.prog) (w:=X.w) (I.ok.hd hc) it lo 1 n;refine W.item i s _ _ hg st λv h' tk hv st' kk=>?_;obtain⟨t,rfl⟩:=hv;have I1:Inv X pins U H { s with heap:=h',toks:=tk }:=I.turned (λb o hb e=>kk b o (by simpa using hb) e) f0 f1 f3 f4 f5;refine⟨_,rfl,l_ (s:={ s with heap:=h',toks:=tk }) (n := "range_iterator") st' rfl rfl (by decide) ⟨.int (lo+i),H,I1,⟨t,?_⟩,⟨rfl,rfl⟩,st',λb hb=>(hf b hb).1⟩⟩;rw[Int.mul_one]
 done:=by
  intro X hP hw hK hc i pins s U H E I hf st hg;subst hP hw hK;obtain⟨f0,f1,f2,f3,f4,f5⟩:=hf it (by simp);exact wpAny_pyNext_range_end (I.ok.hd hc) st (by have:n<=i:=hg;omega) λh' eb=>⟨rfl,I.turned (t':=s.toks) (λb o hb e=>eb b o hb e) f0 f1 f3 f4 f5⟩
 self:=λ_ _ _ _ _ st h=>wpAny_pyIter_rangeiter st h
section
variable {X:Cx} {tg:Expr}
def jR (K:PySem.W.Frag) (tl:TE):TI:=λU H R=>tl U H λx H1=>∃a,x=.ref a/\(∃xs,SqL K H1 a xs)/\R (Itl K a) H1
def vv (K:PySem.W.Frag) (tl:TE):TI:=λU H R=>tl U H λx H1=>∃a,x=.ref a/\(∃xs,SqT K H1 a xs)/\R (Itt K a) H1
theorem bn {l:Expr} {tl:TE} (hl:PE X l tl):PI X tg l (jR X.K tl):=by
 intro pins s U H R I h;refine thn (hl pins s U H _ I h) λv s1 ⟨x,H1,I1,r1,q1⟩=>?_;obtain⟨a,e,⟨xs,hq⟩,q⟩:=q1;subst e;cases r1;obtain⟨its,rv,p,hz⟩:=I1.list hq;refine wpAny_pyIter_list p.isList ?_;refine⟨s1.heap.objs.size,[s1.heap.objs.size],_,_,H1,rfl,I1.kept (t':=s1.toks) λb o e=>Qd _ e,mL a _,⟨_,Qt _ rfl,rfl,rfl⟩,λb hb=>?_,q⟩;have e:b=s1.heap.objs.size:=by simpa using hb
 subst e;exact I1.fpOk (Qi _) (I1.hok.fresh (Qi _))
theorem tP {l:Expr} {tl:TE} (hl:PE X l tl):PI X tg l (vv X.K tl):=by
 intro pins s U H R I h;refine thn (hl pins s U H _ I h) λv s1 ⟨x,H1,I1,r1,q1⟩=>?_;obtain⟨a,e,⟨xs,hq⟩,q⟩:=q1;subst e;cases r1;obtain⟨its,rv,p,hz⟩:=I1.tuple hq;refine wpAny_pyIter_tuple (show s1.heap.IsTuple a its.toArray from p) ?_;refine⟨s1.heap.objs.size,[s1.heap.objs.size],_,_,H1,rfl,I1.kept (t':=s1.toks) λb o e=>Qd _ e,ki a _,⟨_,Qt _ rfl,rfl,rfl⟩,λb hb=>?_,q⟩;have e:b=s1.heap.objs.size:=by simpa using hb
 subst e;exact I1.fpOk (Qi _) (I1.hok.fresh (Qi _))
variable {s:Shared} {pins pl:A1}
theorem oO {U:St} {H:Hp} {R:It->Hp->Prop} {E:A0} {lo hi:Int} {t u v:Tok} {tk:Nat} (I:Inv X pins U H s) (h1:-(2 ^ 62)<=lo) (h2:lo<2 ^ 62) (h3:-(2 ^ 62)<=hi) (h4:hi<2 ^ 62)
  (q:R (Itr lo (hi-lo).toNat) H):wpAny (model X.prog X.w) X.A (pyIter (.ref s.heap.objs.size)) (PIE X pins U tg R) E { s with heap:=s.heap.push { cls:=.type "range", data:=.fields #[.int lo t,.int hi u,.int 1 v] },toks:=tk }:=by
 refine wpAny_pyIter_range (IsRange.new ..) (small_one h1 h2 h3 h4) ?_;have I1:Inv X pins U H { s with heap:=s.heap.push { cls:=.type "range", data:=.fields #[.int lo t,.int hi u,.int 1 v] },toks:=tk }:=I.kept λb o e=>Qd _ e
 refine⟨(s.heap.push { cls:=.type "range", data:=.fields #[.int lo t,.int hi u,.int 1 v] }).objs.size,[(s.heap.push { cls:=.type "range", data:=.fields #[.int lo t,.int hi u,.int 1 v] }).objs.size],_,_,H,rfl,
  I1.kept (t':=tk) λb o e=>Qd _ e,kj _ lo (hi-lo).toNat,?_,λb hb=>?_,q⟩
 ·have e1:lo+((0:Nat):Int)*1=lo:=by simp
  have e2:(((hi-lo).toNat:Nat):Int)-((0:Nat):Int)=Builtin.Range.rangeSize lo hi 1:=by rw[rangeSize_one];split <;> omega
  show IsRangeIter _ _ (lo+((0:Nat):Int)*1) ((((hi-lo).toNat:Nat):Int)-((0:Nat):Int)) 1;rw[e1,e2];exact Qt _ rfl
 have e:b=(s.heap.push { cls:=.type "range", data:=.fields #[.int lo t,.int hi u,.int 1 v] }).objs.size:=by simpa using hb
 subst e;exact I1.fpOk (Qi _) (I1.hok.fresh (Qi _))
def sR (ta:TA):TI:=λU H R=>ta U H λvs H1=>∃j:Int,vs=[.int j]/\-(2 ^ 62)<=j/\j<2 ^ 62/\R (Itr 0 j.toNat) H1
theorem cT {a:Expr} {ta:TA} {p pos:Pos} (hg:Gl X "range") (hm:X.mg "range" = none) (ha:PA X [a] ta) (hs:starEach [a] X.env=[(false,eval a X.env)]:=by rfl):PI X tg (.Call (.Name "range" p) [a] [] pos) (sR ta):=by
 intro pins s U H R I h;refine Call_ (dv I hg hm boot_range (xT (thn (ha pos pins s U H _ I h) λus s1 ⟨vs,H1,I1,r1,q1⟩=>?_) hs rfl));obtain⟨j,e,q1,q2,q⟩:=q1;subst e
 cases r1 with
 | cons r rr =>
 cases rr;obtain⟨t,rfl⟩:=r;exact call_range_1 (oO I1 (by omega) (by omega) q1 q2 (by simpa using q))
def uK (wi:TI) (g:TG) (tb:TS):TS:=λD U H=>wi U H λJ H1=>∃W:Nat->Nat->St->Hp->Prop,(∃m,W 0 m U H1)/\∀i m U H,W i m U H ->
 (J.stop i H/\D.nx U H)\/(J.go i H/\∃N:St->Hp->Prop,(∀σ' H',N σ' H'->∃m',m'<m/\W (i+1) m' σ' H')/\∀x H',J.yld i H x H'->g x U H' λσ2 H2=>tb { D with nx:=N,ct:=N,bk:=D.nx } σ2 H2)
def eF (fp:A3) (h:Heap):A1:=fp.filterMap λb=>(h.get? b).map λo=>(b,o)
variable {fp:A3}
theorem bY {h:Heap} {b:Addr} {o:Obj} (hb:b∈fp) (e:h.get? b=some o):(b,o)∈eF fp h:=List.mem_filterMap.mpr ⟨b,hb,by rw[e];rfl⟩
theorem m8 {h:Heap} {p:Addr × Obj} (hp:p∈eF fp h):p.1∈fp/\h.get? p.1=some p.2:=by
 obtain⟨b,hb,e⟩:=List.mem_filterMap.mp hp
 cases q:h.get? b with
 | none=>rw[q]at e;cases e
 | some o =>
 rw[q]at e;have e':(b,o)=p:=QH e;subst e';exact⟨hb,q⟩
theorem Inv.pinned {U:St} {H:Hp} (I:Inv X pins U H s) (hf:∀b∈fp,dB X pins H b) (ho:∀b∈fp,∃o,s.heap.get? b=some o/\∀v,o.data≠.cell v):Inv X (pins++eF fp s.heap) U H s :=
 I.pins_of λp hp=>(Qx.mp hp).elim (λz=>I.pin p (QC _ z)) λz=>by
  obtain⟨hb,e⟩:=m8 z;obtain⟨f0,f1,f2,_⟩:=hf p.1 hb;obtain⟨o,e',d⟩:=ho p.1 hb;rw[e]at e';cases e';exact⟨e,f0,f1,f2,d⟩
theorem Inv.unpinned {U:St} {H:Hp} (I:Inv X (pins++pl) U H s):Inv X pins U H s:=I.pins_of λp hp=>I.pin p (QC _ (xu _ hp))
theorem ps_for {iter:Expr} {body:List Stmt} {wi:TI} {g:TG} {tb:TS} {pos:Pos} (hp:PassesOwn (model X.prog X.w) X.A X.env X.xe) (hc:X.calm=true) (hi:PI X tg iter wi) (hg:PG X tg g) (hb:PSs X body tb)
  (hs:∀x,foldedSetIterable iter X.env x=pure x:=by intro _;rfl):PS X (.For tg iter body [] pos) (uK wi g tb):=by
 intro pins s U H D I h;refine wpAny_For (thn (hi pins s U H _ I h) λv s1 h1=>thn h1 λitv s2 h2=>?_) hs;obtain⟨it,fp,tn,J,H2,e,I2,T,st2,f2,W,⟨m0,w0⟩,turn⟩:=h2;subst e
 -- what stays true of the iterator's objects through the loop
 have stat:∀{H':Hp},(∀b∈fp,H' b=none)->∀b∈fp,dB X pins H' b:=λhn b hb=>⟨hn b hb,(f2 b hb).2⟩;refine codeAny_forLoop_any (λn s'=>∃i σ' H',Inv X pins σ' H' s'/\tn i s'.heap/\(∀b∈fp,H' b=none)/\W i n σ' H') ?_ m0 ⟨0,U,H2,I2,st2,λb hb=>(f2 b hb).1,w0⟩;rintro n s3 ⟨i,σ3,H3,I3,st3,fr3,w3⟩;rcases turn i n σ3 H3 w3 with⟨stop,qn⟩|⟨go,N,hN,step⟩
 ·refine wpAny_passesOwn hp (thn (T.done X rfl rfl rfl hc i pins s3 σ3 H3 X.xe I3 (stat fr3) st3 stop) λr s4 ⟨hr,I4⟩=>?_);subst hr;exact wpAny_execs_nil ⟨σ3,H3,I4,qn⟩
 refine wpAny_passesOwn hp (thn (T.item X rfl rfl rfl hc i pins s3 σ3 H3 X.xe I3 (stat fr3) st3 go) λr s4 ⟨u,hr,h4⟩=>?_);subst hr;refine wpAny_passesOwn hp (thn h4 λ_ s5 ⟨x,H5,I5,r5,y5,st5,fr5⟩=>?_);have I5':=I5.pinned (stat fr5) (T.obj _ _ st5);refine wpAny_passesOwn hp (thn (hg _ s5 σ3 H5 x u _ I5' r5 (step x H5 y5)) λ_ s6 ⟨σ6,H6,I6,q6⟩=>?_);refine wpAny_passesOwn hp (thn (hb _ s6 σ6 H6 _ I6 q6) λf s7 q7=>?_)
 have again:∀{σ7:St} {H7:Hp},Inv X (pins++eF fp s5.heap) σ7 H7 s7->N σ7 H7->∃m,m<n/\∃i σ' H',Inv X pins σ' H' s7/\tn i s7.heap/\(∀b∈fp,H' b=none)/\W i m σ' H':=λ{σ7 H7} I7 n7=>by
  obtain⟨m',hm,w7⟩:=hN σ7 H7 n7;refine⟨m',hm,i+1,σ7,H7,I7.unpinned,T.keep _ _ _ st5 λb hb o e=>(I7.pin (b,o) (QC _ (QC _ (bY hb e)))).1,λb hb=>?_,w7⟩;obtain⟨o,e,d⟩:=T.obj _ _ st5 b hb;exact(I7.pin (b,o) (QC _ (QC _ (bY hb e)))).2.1
 cases f with
 | next=>obtain⟨σ7,H7,I7,n7⟩:=q7;exact again I7 n7
 | cont=>obtain⟨σ7,H7,I7,n7⟩:=q7;exact again I7 n7
 | brk=>obtain⟨σ7,H7,I7,q7⟩:=q7;exact⟨σ7,H7,I7.unpinned,q7⟩
 | ret v=>obtain⟨x7,σ7,H7,I7,r7,q7⟩:=q7;exact⟨x7,σ7,H7,I7.unpinned,r7,q7⟩
end
theorem cX {xs:List V} {g:TG} {tb:TS} {D:Ends} {U:St} (Pv:Nat->St->Hp->Prop) (h0:Pv 0 U H) (hl:∀i U H,i<=xs.length->Pv i U H->SqL K H a xs)
  (hs:∀i x U H,xs[i]?=some x->Pv i U H->g x U H λσ2 H2=>tb { D with nx:=Pv (i+1),ct:=Pv (i+1),bk:=D.nx } σ2 H2) (hd:∀U H,Pv xs.length U H->D.nx U H) :
  ∃W:Nat->Nat->St->Hp->Prop,(∃m,W 0 m U H)/\∀i m U H,W i m U H ->
   ((Itl K a).stop i H/\D.nx U H)\/((Itl K a).go i H/\∃N:St->Hp->Prop,(∀σ' H',N σ' H'->∃m',m'<m/\W (i+1) m' σ' H')/\∀x H',(Itl K a).yld i H x H'->g x U H' λσ2 H2=>tb { D with nx:=N,ct:=N,bk:=D.nx } σ2 H2):=by
 refine⟨λi m U H=>m=xs.length-i/\i<=xs.length/\Pv i U H,⟨xs.length,by simp,QT _,h0⟩,?_⟩;rintro i m U H ⟨rfl,hi,p⟩;have q:=hl i U H hi p;by_cases hlt:i<xs.length
 ·refine .inr ⟨⟨xs,xs[i],q,by simp[hlt]⟩,Pv (i+1),λσ' H' p'=>⟨xs.length-(i+1),by omega,rfl,hlt,p'⟩,λx H' y=>?_⟩;obtain⟨e,y⟩:=y;subst e;exact hs i x U _ (y xs q) p
 have e:i=xs.length:=by omega
 subst e;exact .inl ⟨⟨xs,q,Qi _⟩,hd U H p⟩
theorem dD {lo:Int} {n:Nat} {g:TG} {tb:TS} {D:Ends} {U:St} (Pv:Nat->St->Hp->Prop) (h0:Pv 0 U H)
  (hs:∀i U H,i<n->Pv i U H->g (.int (lo+i)) U H λσ2 H2=>tb { D with nx:=Pv (i+1),ct:=Pv (i+1),bk:=D.nx } σ2 H2) (hd:∀U H,Pv n U H->D.nx U H) :
  ∃W:Nat->Nat->St->Hp->Prop,(∃m,W 0 m U H)/\∀i m U H,W i m U H ->
   ((Itr lo n).stop i H/\D.nx U H)\/((Itr lo n).go i H/\∃N:St->Hp->Prop,(∀σ' H',N σ' H'->∃m',m'<m/\W (i+1) m' σ' H')/\∀x H',(Itr lo n).yld i H x H'->g x U H' λσ2 H2=>tb { D with nx:=N,ct:=N,bk:=D.nx } σ2 H2):=by
 refine⟨λi m U H=>m=n-i/\i<=n/\Pv i U H,⟨n,by simp,QT _,h0⟩,?_⟩;rintro i m U H ⟨rfl,hi,p⟩;by_cases hlt:i<n
 ·refine .inr ⟨hlt,Pv (i+1),λσ' H' p'=>⟨n-(i+1),by omega,rfl,hlt,p'⟩,λx H' y=>?_⟩;obtain⟨e,y⟩:=y;subst e y;exact hs i U _ hlt p
 have e:i=n:=by omega
 subst e;exact .inl ⟨Qi _,hd U H p⟩
abbrev R2:=V->V->Hp->VK->Prop
def OpR (X:Cx) (f:Value->Value->Sem Value) (r:R2):Prop :=
 ∀(pins:A1) (s:Shared) (U:St) (H:Hp) (x y:V) (v u:Value) (Q:VK),Inv X pins U H s->aU x v->aU y u->r x y H Q ->
  wpAny (model X.prog X.w) X.A (f v u) (EP X pins U Q) X.xe s
def UnR (X:Cx) (f:Value->Sem Value) (r:V->Hp->VK->Prop):Prop :=
 ∀(pins:A1) (s:Shared) (U:St) (H:Hp) (x:V) (v:Value) (Q:VK),Inv X pins U H s->aU x v->r x H Q ->
  wpAny (model X.prog X.w) X.A (f v) (EP X pins U Q) X.xe s
def cG (X:Cx) (f:Value) (r:List V->Hp->VK->Prop):Prop :=
 ∀(pins:A1) (s:Shared) (U:St) (H:Hp) (xs:List V) (us:List Value) (Q:VK),Inv X pins U H s->aL xs us->r xs H Q ->
  wpAny (model X.prog X.w) X.A (call f us) (EP X pins U Q) X.xe s
def tOp (r:R2) (ta tb:TE):TE:=λU H Q=>ta U H λx H1=>tb U H1 λy H2=>r x y H2 Q
def tUn (r:V->Hp->VK->Prop) (ta:TE):TE:=λU H Q=>ta U H λx H1=>r x H1 Q
def rI (C:Int->Int->Prop) (g:Int->Int->V):R2:=λx y H Q=>∃i j,x=.int i/\y=.int j/\C i j/\Q (g i j) H
def rI0 (g:Int->Int->V):R2:=λx y H Q=>∃i j,x=.int i/\y=.int j/\Q (g i j) H
def rU (g:Int->V):V->Hp->VK->Prop:=λx H Q=>∃i,x=.int i/\Q (g i) H
section
variable {X:Cx} {a b c:Expr} {ta tb tc:TE} {pos:Pos}
variable {f:Value->Value->Sem Value}
theorem ux (ha:PE X a ta) (hb:PE X b tb) {pins:A1} {s:Shared} {U:St} {H:Hp} {R:V->V->Hp->Prop} (I:Inv X pins U H s)
  (h:ta U H λx H1=>tb U H1 λy H2=>R x y H2) {Q:A0}
  (hf:∀v u s2 x y H2,Inv X pins U H2 s2->aU x v->aU y u->R x y H2->wpAny (model X.prog X.w) X.A (f v u) Q X.xe s2) :
  wpAny (model X.prog X.w) X.A (eval a X.env) (λv s₁=>wpAny (model X.prog X.w) X.A (eval b X.env) (λu s₂=>wpAny (model X.prog X.w) X.A (f v u) Q X.xe s₂) X.xe s₁) X.xe s:=by
 refine thn (ha pins s U H _ I h) λv s1 ⟨x,H1,I1,r1,q1⟩=>?_;refine thn (hb pins s1 U H1 _ I1 q1) λu s2 ⟨y,H2,I2,r2,q2⟩=>?_;exact hf v u s2 x y H2 I2 r1 r2 q2
theorem aF {op:Operator} {r:R2} (ho:OpR X (binaryOp op) r) (ha:PE X a ta) (hb:PE X b tb):PE X (.BinOp a op b pos) (tOp r ta tb):=by
 intro pins s U H Q I h;exact wpAny_BinOp (ux ha hb I h λv u s2 x y H2 I2 rx ry q=>ho pins s2 U H2 x y v u Q I2 rx ry q)
theorem oZ {op:UnaryOp} {r:V->Hp->VK->Prop} (ho:UnR X (unaryOp op) r) (ha:PE X a ta):PE X (.UnaryOp op a pos) (tUn r ta):=by
 intro pins s U H Q I h;exact UnaryOp_ (thn (ha pins s U H _ I h) λv s1 ⟨x,H1,I1,r1,q1⟩=>ho pins s1 U H1 x v Q I1 r1 q1)
theorem opI {C:Int->Int->Prop} {g:Int->Int->Int}
  (rule:∀(i j:Int) (t u:Tok) (s:Shared) (Q:A0) (E:A0),C i j->Q (.int (g i j) s.toks) { s with toks:=s.toks+1 }->wpAny (model X.prog X.w) X.A (f (.int i t) (.int j u)) Q E s) :
  OpR X f (rI C λi j=>.int (g i j)):=by
 intro pins s U H x y v u Q I rx ry h;obtain⟨i,j,rfl,rfl,hc,q⟩:=h;obtain⟨t,rfl⟩:=rx;obtain⟨t',rfl⟩:=ry;exact rule i j t t' s _ _ hc ⟨.int (g i j),H,I.tok _,⟨_,rfl⟩,q⟩
theorem u5 {g:Int->Int->Int}
  (rule:∀(i j:Int) (t u:Tok) (s:Shared) (Q:A0) (E:A0),Q (.int (g i j) s.toks) { s with toks:=s.toks+1 }->wpAny (model X.prog X.w) X.A (f (.int i t) (.int j u)) Q E s) :
  OpR X f (rI0 λi j=>.int (g i j)):=by
 intro pins s U H x y v u Q I rx ry h;obtain⟨i,j,rfl,rfl,q⟩:=h;obtain⟨t,rfl⟩:=rx;obtain⟨t',rfl⟩:=ry;exact rule i j t t' s _ _ ⟨.int (g i j),H,I.tok _,⟨_,rfl⟩,q⟩
theorem tW {g:Int->Int->Bool}
  (rule:∀(i j:Int) (t u:Tok) (s:Shared) (Q:A0) (E:A0),Q (.bool (g i j)) s->wpAny (model X.prog X.w) X.A (f (.int i t) (.int j u)) Q E s) :
  OpR X f (rI0 λi j=>.bl (g i j)):=by
 intro pins s U H x y v u Q I rx ry h;obtain⟨i,j,rfl,rfl,q⟩:=h;obtain⟨t,rfl⟩:=rx;obtain⟨t',rfl⟩:=ry;exact rule i j t t' s _ _ ⟨.bl (g i j),H,I,rfl,q⟩
def v8 (i j:Int):Prop:=0<j/\j<1073741824
def v5 (i j:Int):Prop:=0<=j/\j<=1000000/\i.natAbs<2 ^ 64
def uE (i j:Int):Prop:=(-(2 ^ 64)<i/\i<2 ^ 64)\/(-(2 ^ 64)<j/\j<2 ^ 64)
theorem uE.ok {i j:Int} (h:uE i j):IntMulOk i j:=by
 rcases h with⟨h1,h2⟩|⟨h1,h2⟩
 ·exact .of_left (intBits_le_64 h1 h2)
 exact .of_right (intBits_le_64 h1 h2)
theorem bN:OpR X (binaryOp .Add) (rI0 λi j=>.int (i+j)):=u5 λ_ _ _ _ _ _ _ q=>add_int q
theorem eG:OpR X (binaryOp .Sub) (rI0 λi j=>.int (i-j)):=u5 λ_ _ _ _ _ _ _ q=>sub_int q
theorem du:OpR X (binaryOp .Mult) (rI uE λi j=>.int (i*j)):=opI λ_ _ _ _ _ _ _ hc q=>mul_int q hc.ok
theorem lO:OpR X (binaryOp .FloorDiv) (rI v8 λi j=>.int (i / j)):=opI λi j _ _ _ _ _ hc q=>by
 have h1:(0:Int)<j:=hc.1;have h2:j<1073741824:=hc.2;exact floordiv_int (by omega) (by rw[Int.fdiv_eq_ediv_of_nonneg i (by omega)];exact q) (.inl (PyProof.noPylong_small (by omega)))
theorem eI:OpR X (binaryOp .Mod) (rI (λ_ j=>0<j) λi j=>.int (i % j)):=opI λi j _ _ _ _ _ hc q=>by
 have h1:(0:Int)<j:=hc;exact mod_int' (by omega) (by rw[Int.fmod_eq_emod_of_nonneg i (by omega)];exact q)
theorem pj:OpR X (binaryOp .Pow) (rI v5 λi j=>.int (i ^ j.toNat)):=opI λ_ _ _ _ _ _ _ hc q=>pow_int_small hc.1 hc.2.1 hc.2.2 q
theorem unI {f:Value->Sem Value} {g:Int->Int}
  (rule:∀(i:Int) (t:Tok) (s:Shared) (Q:A0) (E:A0),Q (.int (g i) s.toks) { s with toks:=s.toks+1 }->wpAny (model X.prog X.w) X.A (f (.int i t)) Q E s) :
  UnR X f (rU λi=>.int (g i)):=by
 intro pins s U H x v Q I rx h;obtain⟨i,rfl,q⟩:=h;obtain⟨t,rfl⟩:=rx;exact rule i t s _ _ ⟨.int (g i),H,I.tok _,⟨_,rfl⟩,q⟩
theorem kh:UnR X (unaryOp .USub) (rU λi=>.int (-i)):=unI λ_ _ _ _ _ q=>neg_int q
end
noncomputable def mT:V->V->Bool
 | .non,.non=>true|.non,.int _=>true|.int _,.non=>true|.non,.bl _=>true|.bl _,.non=>true|.non,.str _=>true|.str _,.non=>true
 | .int _,.int _=>true|.bl _,.bl _=>true|.str _,.str _=>true|.byt _,.byt _=>true
 | .int _,.str _=>true|.str _,.int _=>true|.bl _,.str _=>true|.str _,.bl _=>true
 | _,_=>false
def rEq:R2:=λx y H Q=>mT x y=true/\Q (.bl (decide (x=y))) H
def rNe:R2:=λx y H Q=>mT x y=true/\Q (.bl (!decide (x=y))) H
theorem mE {i j:Int}:decide (V.int i=V.int j)=(i==j):=by
 rw[xN];simp
theorem qo {i j:Bool}:decide (V.bl i=V.bl j)=(i==j):=by
 rw[xN];simp
theorem mD {i j:Str}:decide (V.str i=V.str j)=(i==j):=by
 rw[xN];simp
theorem mF {i j:Array UInt8}:decide (V.byt i=V.byt j)=(i.toList==j.toList):=by
 rw[xN];cases i;cases j;simp
section
variable {X:Cx} {a b c:Expr} {ta tb tc:TE} {pos:Pos}
theorem aX {pins:A1} {U:St} {H:Hp} {s:Shared} {Q:VK} {k k':Bool} (I:Inv X pins U H s) (q:Q (.bl k) H) (e:k=k'):EP X pins U Q (.bool k') s:=by
 subst e;exact⟨.bl k,H,I,rfl,q⟩
theorem cJ:OpR X (compareOp .Eq) rEq:=by
 intro pins s U H x y v u Q I rx ry h;obtain⟨hs,q⟩:=h
 cases x with
 | non =>
  cases rx
  cases y with
  | non=>cases ry;exact PySem.EqNone.eq_none_none (aX I q (by simp))
  | bl j=>cases ry;exact PySem.EqNone.eq_none_bool (aX I q (by simp))
  | int j=>obtain⟨t',rfl⟩:=ry;exact PySem.EqNone.eq_none_int (aX I q (by simp))
  | str j=>obtain⟨t',rfl⟩:=ry;exact PySem.EqNone.eq_none_str (aX I q (by simp))
  | _=>exact absurd (show false=true from hs) Qn
 | bl i =>
  cases rx
  cases y with
  | non=>cases ry;exact PySem.EqNone.eq_bool_none (aX I q (by simp))
  | bl j=>cases ry;exact eq_bool (aX I q qo)
  | str j=>obtain⟨t',rfl⟩:=ry;exact PySem.EqMixed.eq_bool_str (aX I q (by simp))
  | _=>exact absurd (show false=true from hs) Qn
 | int i =>
  obtain⟨t,rfl⟩:=rx
  cases y with
  | non=>cases ry;exact PySem.EqNone.eq_int_none (aX I q (by simp))
  | int j=>obtain⟨t',rfl⟩:=ry;exact eq_int (aX I q mE)
  | str j=>obtain⟨t',rfl⟩:=ry;exact PySem.EqMixed.eq_int_str (aX I q (by simp))
  | _=>exact absurd (show false=true from hs) Qn
 | str i =>
  obtain⟨t,rfl⟩:=rx
  cases y with
  | non=>cases ry;exact PySem.EqNone.eq_str_none (aX I q (by simp))
  | bl j=>cases ry;exact PySem.EqMixed.eq_str_bool (aX I q (by simp))
  | int j=>obtain⟨t',rfl⟩:=ry;exact PySem.EqMixed.eq_str_int (aX I q (by simp))
  | str j=>obtain⟨t',rfl⟩:=ry;exact eq_str (aX I q mD)
  | _=>exact absurd (show false=true from hs) Qn
 | byt i =>
  obtain⟨t,rfl⟩:=rx
  cases y with
  | byt j=>obtain⟨t',rfl⟩:=ry;exact PySem.W.eq_bytes (aX I q mF)
  | _=>exact absurd (show false=true from hs) Qn
 | _=>cases y <;> exact absurd (show false=true from hs) Qn
theorem pA:OpR X (compareOp .NotEq) rNe:=by
 intro pins s U H x y v u Q I rx ry h;obtain⟨hs,q⟩:=h
 cases x with
 | non =>
  cases rx
  cases y with
  | non=>cases ry;exact PySem.EqNone.ne_none_none (aX I q (by simp))
  | bl j=>cases ry;exact PySem.EqNone.ne_none_bool (aX I q (by simp))
  | int j=>obtain⟨t',rfl⟩:=ry;exact PySem.EqNone.ne_none_int (aX I q (by simp))
  | str j=>obtain⟨t',rfl⟩:=ry;exact PySem.EqNone.ne_none_str (aX I q (by simp))
  | _=>exact absurd (show false=true from hs) Qn
 | bl i =>
  cases rx
  cases y with
  | non=>cases ry;exact PySem.EqNone.ne_bool_none (aX I q (by simp))
  | bl j=>cases ry;exact ne_bool (aX I q (congrArg not qo))
  | str j=>obtain⟨t',rfl⟩:=ry;exact PySem.EqMixed.ne_bool_str (aX I q (by simp))
  | _=>exact absurd (show false=true from hs) Qn
 | int i =>
  obtain⟨t,rfl⟩:=rx
  cases y with
  | non=>cases ry;exact PySem.EqNone.ne_int_none (aX I q (by simp))
  | int j=>obtain⟨t',rfl⟩:=ry;exact ne_int (aX I q (congrArg not mE))
  | str j=>obtain⟨t',rfl⟩:=ry;exact PySem.EqMixed.ne_int_str (aX I q (by simp))
  | _=>exact absurd (show false=true from hs) Qn
 | str i =>
  obtain⟨t,rfl⟩:=rx
  cases y with
  | non=>cases ry;exact PySem.EqNone.ne_str_none (aX I q (by simp))
  | bl j=>cases ry;exact PySem.EqMixed.ne_str_bool (aX I q (by simp))
  | int j=>obtain⟨t',rfl⟩:=ry;exact PySem.EqMixed.ne_str_int (aX I q (by simp))
  | str j=>obtain⟨t',rfl⟩:=ry;exact ne_str (aX I q (congrArg not mD))
  | _=>exact absurd (show false=true from hs) Qn
 | byt i =>
  obtain⟨t,rfl⟩:=rx
  cases y with
  | byt j=>obtain⟨t',rfl⟩:=ry;exact PySem.W.ne_bytes (aX I q (congrArg not mF))
  | _=>exact absurd (show false=true from hs) Qn
 | _=>cases y <;> exact absurd (show false=true from hs) Qn
theorem lN:OpR X (compareOp .Lt) (rI0 λi j=>.bl (decide (i<j))):=tW λ_ _ _ _ _ _ _ q=>lt_int q
theorem gx:OpR X (compareOp .Gt) (rI0 λi j=>.bl (decide (j<i))):=tW λ_ _ _ _ _ _ _ q=>gt_int q
theorem u4:OpR X (compareOp .GtE) (rI0 λi j=>.bl (decide (j<=i))):=tW λ_ _ _ _ _ _ _ q=>ge_int q
theorem qY:OpR X (compareOp .IsNot) (λx y H Q=>y=.non/\Q (.bl (!decide (x=.non))) H):=by
 intro pins s U H x y v u Q I rx ry h;obtain⟨rfl,q⟩:=h;cases ry;refine isnot_none_gen (aX I q ?_)
 cases x <;> first
  | (cases rx;rfl)
  | (obtain⟨t,rfl⟩:=rx;rfl)
variable {op:CmpOp}
theorem aG (b:Expr) (h:op≠.In:=by decide) (h2:op≠.NotIn:=by decide):behindInMarks op b=false:=by
 have e1:(op==CmpOp.In)=false:=by cases op <;> first|rfl|exact absurd rfl h
 have e2:(op==CmpOp.NotIn)=false:=by cases op <;> first|rfl|exact absurd rfl h2
 cases b <;> simp[behindInMarks,e1,e2]
theorem bC {r:R2} (ho:OpR X (compareOp op) r) (ha:PE X a ta) (hb:PE X b tb) (hm:behindInMarks op b=false):PE X (.Compare a [op] [b] pos) (tOp r ta tb):=by
 intro pins s U H Q I h;exact wpAny_Compare1 (ux ha hb I h λv u s2 x y H2 I2 rx ry q=>ho pins s2 U H2 x y v u Q I2 rx ry q) hm
def si (t:TE):TT:=λU H Q=>t U H λx H'=>∃k,x=.bl k/\Q k H'
theorem aC {r:R2} (ho:OpR X (compareOp op) r) (ha:PE X a ta) (hb:PE X b tb) (hm:behindInMarks op b=false):PT X (.Compare a [op] [b] pos) (si (tOp r ta tb)):=by
 intro pins s U H Q I h
 refine wpAny_isTrue_Compare1 (thn (ha pins s U H _ I h) λv s1 ⟨x,H1,I1,r1,q1⟩=>thn (hb pins s1 U H1 _ I1 q1) λu s2 ⟨y,H2,I2,r2,q2⟩ =>
  thn (ho pins s2 U H2 x y v u _ I2 r1 r2 q2) λc s3 ⟨z,H3,I3,r3,k,e,q3⟩=>?_) hm
 subst e;cases r3;exact wpAny_truthy_bool ⟨H3,I3,q3⟩
theorem eM:(sizeLine:Nat)<2 ^ 63:=by rw[xK];decide
theorem bB:OpR X (binaryOp .Add) (λx y H Q=>∃i j,x=.str i/\y=.str j/\i.length+j.length<=sizeLine/\Q (.str (i++j)) H):=by
 intro pins s U H x y v u Q I rx ry h;obtain⟨i,j,rfl,rfl,hz,q⟩:=h;obtain⟨t,rfl⟩:=rx;obtain⟨t',rfl⟩:=ry;exact add_str (λt' tk=>⟨.str (i++j),H,I.tok _,⟨_,rfl⟩,q⟩) hz
theorem cR {x:V} {us:List Value} (r:aL [x] us):∃u,us=[u]/\aU x u:=by
 cases r with
 | cons r1 r2=>cases r2;exact⟨_,rfl,r1⟩
theorem i7 {x y:V} {us:List Value} (r:aL [x,y] us):∃u w',us=[u,w']/\aU x u/\aU y w':=by
 cases r with
 | cons r1 r2 =>
 cases r2 with
 | cons r3 r4=>cases r4;exact⟨_,_,rfl,r1,r3⟩
theorem nW (hc:X.calm=true):cG X (.builtin "max") (λxs H Q=>∃i j,xs=[.int i,.int j]/\Q (.int (if j>i then j else i)) H):=by
 intro pins s U H xs us Q I r h;obtain⟨i,j,rfl,q⟩:=h;obtain⟨u,w',rfl,⟨t,rfl⟩,⟨t',rfl⟩⟩:=i7 r;refine max_two_ints (I.ok.hd hc) λh' tk k=>⟨_,H,I.kept k,?_,q⟩;by_cases hj:j>i
 ·rw[Qw hj,Qw hj];exact⟨_,rfl⟩
 rw[Qq hj,Qq hj];exact⟨_,rfl⟩
theorem gK (hc:X.calm=true):cG X (.builtin "min") (λxs H Q=>∃i j,xs=[.int i,.int j]/\Q (.int (if j<i then j else i)) H):=by
 intro pins s U H xs us Q I r h;obtain⟨i,j,rfl,q⟩:=h;obtain⟨u,w',rfl,⟨t,rfl⟩,⟨t',rfl⟩⟩:=i7 r;refine min_two_ints (I.ok.hd hc) λh' tk k=>⟨_,H,I.kept k,?_,q⟩;by_cases hj:j<i
 ·rw[Qw hj,Qw hj];exact⟨_,rfl⟩
 rw[Qq hj,Qq hj];exact⟨_,rfl⟩
theorem bP:cG X (.type "int") (λxs H Q=>(∃i,xs=[.int i]/\Q (.int i) H)\/∃k,xs=[.bl k]/\Q (.int (if k then 1 else 0)) H):=by
 intro pins s U H xs us Q I r h;rcases h with⟨i,rfl,q⟩|⟨k,rfl,q⟩
 ·obtain⟨u,rfl,t,rfl⟩:=cR r;exact call_int_int ⟨.int i,H,I,⟨_,rfl⟩,q⟩
 obtain⟨u,rfl,r1⟩:=cR r;cases r1;exact call_int_bool ⟨.int (if k then 1 else 0),H,I.tok _,⟨_,rfl⟩,q⟩
end
structure ObjM (h:Heap) (x dx C:Addr) (mA:A2):Prop where
 obj:h.get? x=some (PySem.W.instObj C dx)
 ns:h.Ns1 dx mA
 ne:dx≠x
variable {mA mg:A2}
theorem ng (n:h.Ns1 dx mA):∃od,h.get? dx=some od/\∀name,PySem.W.lookIn name od=some (mA name):=by
 obtain⟨o,es,ep,ho,hd,hk,_,hm⟩:=n;refine⟨o,ho,λname=>?_⟩;have e:=hm name;unfold nsFind findBy at e;rw[<-Array.find?_toList]at e;unfold PySem.W.lookIn;rw[hd];dsimp only
 split
 ·rename_i y q
  rw[q]at e;exact congrArg some e
 rename_i q
 rw[q]at e
 have a:es.toList.any (·.refKey)=false:=by
  rw[List.any_eq_false];intro y hy;obtain⟨z,t,hkey⟩:=hk y (Array.mem_toList_iff.mp hy);simp[DictEntry.refKey,hkey]
 have a':¬es.toList.any (·.refKey)=true:=by rw[a];exact Qn
 rw[Qq a'];exact congrArg some e
theorem ObjM.look {x:Addr} (I:ObjM h x dx C mA):∃od,PySem.W.InstAt h x (PySem.W.instObj C dx) C (some od)/\∀name,PySem.W.lookIn name od=some (mA name) :=
 let ⟨od,ho,hl⟩:=ng I.ns
 ⟨od,⟨I.obj,rfl,rfl,ho⟩,hl⟩
section
variable {prog:Program} {w:World} {A:Around} {E:A0} {s:Shared} {K:PySem.W.Frag} {x dx C f:Addr} {mA:A2} {name:Str} {v:Value}
end
theorem eS.some_of {v:V} {o:Option Value} (r:eS (some v) o):∃u,o=some u/\aU v u:=by
 cases o with
 | none=>exact(show False from r).elim
 | some u=>exact⟨u,rfl,r⟩
theorem eS.none_of {o:Option Value} (r:eS none o):o=none:=by
 cases o with
 | none=>rfl
 | some u=>exact(show False from r).elim
section
variable {P:Program} {w:World} {H H':Hp} {h h':Heap} {a C dx:Addr} {fs fs':List (Str × V)}
theorem l7 (hok:HOk P w H h) (e:H a=some (.ins C dx fs)):∃mA,ObjM h a dx C mA/\(∀f,eS (fs.lookup f) (mA f))/\PySem.Within mA (fs.map (·.1))/\fs.length<=1000/\H dx=some (.own a):=by
 obtain⟨d,z,ne,ob,mA,n,r,q⟩:=(show a7 P w H h a (.ins C dx fs) from hok a _ e);exact⟨mA,⟨ob,n,ne⟩,r,q,z,d⟩
end
structure Cls (K:PySem.W.Frag) (C:Addr):Prop where
 pg:PySem.W.plainGet K C Str.empty=true
 hd:PySem.W.hasDictIn K C=true
 po:PySem.W.plainOver K C=true
 sa:PySem.W.findIn K (.ref C) "__setattr__" = some (some (.builtin "object.__setattr__"))
theorem Cls.get (c:Cls K C) (f:Str):PySem.W.plainGet K C f=true:=c.pg
structure Con (K:PySem.W.Frag) (C:Addr) (f:Str) (v:V) (u:Value):Prop where
 at_:PySem.W.findIn K (.ref C) f=some (some u)
 rel:aU v u
 get:PySem.W.specialIn K u "__get__" = some none
 cp:PySem.W.copiedNames.contains f=false
structure Meth (K:PySem.W.Frag) (C:Addr) (m:Str) (f:Addr):Prop where
 at_:PySem.W.findIn K (.ref C) m=some (some (.ref f))
 fn:PySem.W.isFn K (.ref f)=true
 kp:PySem.W.keepIn K (.ref f)=true
section
variable {X:Cx} {pins:A1} {U:St} {H:Hp} {s:Shared} {a C dx:Addr} {fs:List (Str × V)} {f:Str} {v:V} {A:Around} {E:A0}
end
section
variable {X:Cx} {o e value:Expr} {f:Str} {pos pos' tpos:Pos} {ta tv:TE}
end
section
variable {X:Cx} {pins:A1} {U:St} {H:Hp} {s:Shared} {A:Around} {E:A0} {Q:A0} {c:Value} {b:Bool}
inductive TyOf (K:PySem.W.Frag) (H:Hp):V->Value->Prop where
 | non:TyOf K H .non (.type "NoneType")
 | bl (x:Bool):TyOf K H (.bl x) (.type "bool")
 | int (i:Int):TyOf K H (.int i) (.type "int")
 | str (x:Str):TyOf K H (.str x) (.type "str")
 | flt (x:UInt64):TyOf K H (.flt x) (.type "float")
 | lst {a:Addr} {xs:List V} (e:H a=some (.lst xs)):TyOf K H (.ref a) (.type "list")
 | frz {a:Addr} {o:Obj} {xs:List V} (e:H a=some (.frz o (.lst xs))):TyOf K H (.ref a) (.type "list")
 | tup {a:Addr} {xs:List V} (e:H a=some (.tup xs)):TyOf K H (.ref a) (.type "tuple")
 | dK {a:Addr} {kvs:List (Key × V)} (e:H a=some (.dK kvs)):TyOf K H (.ref a) (.type "dict")
 | dT {a:Addr} {kvs:List (av × V)} (e:H a=some (.dT kvs)):TyOf K H (.ref a) (.type "dict")
 | ins {a C dx:Addr} {fs:List (Str × V)} (e:H a=some (.ins C dx fs)) (cl:Cls K C) (ha:PySem.W.findIn K (.ref C) "__class__" = some (some (.builtin "object.__class__")))
   (hn:PySem.W.specialIn K (.builtin "object.__class__") "__get__" = some (some (.builtin "getset_descriptor.__get__"))) (htk:PySem.W.takesIn K (.builtin "object.__class__")=some true)
   (hm:PySem.W.mroIn K C (.type "object")=some true):TyOf K H (.ref a) (.ref C)
theorem nC {x:V} {u t:Value} (I:Inv X pins U H s) (rx:aU x u) (ty:TyOf X.K H x t) (e:PySem.W.kitOne X.K t c=some b) (h:∀tk,Q (.bool b) { s with toks:=tk }) :
  wpAny (model X.prog X.w) A (call (.builtin "isinstance") [u,c]) Q E s:=by
 cases ty with
 | non=>cases (show u=Value.none from rx);exact xI PySem.W.kitx_none I.kIn True.intro e (λz=>nomatch z) h
 | bl y=>cases (show u=Value.bool y from rx);exact xI PySem.W.kitx_bool I.kIn True.intro e (λz=>nomatch z) h
 | int i=>obtain⟨t,q⟩:=(show ∃t,u=Value.int i t from rx);cases q;exact xI PySem.W.kitx_int I.kIn True.intro e (λz=>nomatch z) h
 | str y=>obtain⟨t,q⟩:=(show ∃t,u=Value.str y t from rx);cases q;exact xI PySem.W.kitx_str I.kIn True.intro e (λz=>nomatch z) h
 | flt y=>obtain⟨t,q⟩:=(show ∃t,u=Value.float y t from rx);cases q;exact xI PySem.W.kitx_float I.kIn True.intro e (λz=>nomatch z) h
 | @lst a xs ea =>
  cases (show u=Value.ref a from rx);obtain⟨_,_,n,_,h1⟩:=(show a7 X.prog X.w H s.heap a (.lst xs) from I.hok a _ ea);exact xI PySem.W.kitx_list I.kIn ⟨_,h1,rfl⟩ e (λz=>nomatch z) h
 | @frz a ob xs ea =>
  cases (show u=Value.ref a from rx);obtain⟨_,_,_,n,_,h1⟩:=(show a7 X.prog X.w H s.heap a (.frz ob (.lst xs)) from I.hok a _ ea);exact xI PySem.W.kitx_list I.kIn ⟨_,h1,rfl⟩ e (λz=>nomatch z) h
 | @tup a xs ea =>
  cases (show u=Value.ref a from rx);obtain⟨_,_,_,p⟩:=(show a7 X.prog X.w H s.heap a (.tup xs) from I.hok a _ ea);obtain⟨o,h1,h2,_⟩:=p;exact xI PySem.W.kitx_tuple I.kIn ⟨o,h1,h2⟩ e (λz=>nomatch z) h
 | @dK a kvs ea =>
  cases (show u=Value.ref a from rx);obtain⟨_,_,vs,_,p⟩:=(show a7 X.prog X.w H s.heap a (.dK kvs) from I.hok a _ ea);obtain⟨o,es,ep,h1,h2,_⟩:=p;exact xI PySem.W.kitx_dict I.kIn ⟨o,h1,h2.1⟩ e (λz=>nomatch z) h
 | @dT a kvs ea =>
  cases (show u=Value.ref a from rx);obtain⟨_,_,xs,_,o,es,ep,h1,h2,_⟩:=(show a7 X.prog X.w H s.heap a (.dT kvs) from I.hok a _ ea);exact xI PySem.W.kitx_dict I.kIn ⟨o,h1,h2.1⟩ e (λz=>nomatch z) h
 | @ins a C dx fs ea cl ha hn htk hm =>
 cases (show u=Value.ref a from rx);obtain⟨mA,O,_⟩:=l7 I.hok ea;obtain⟨od,J,_⟩:=O.look;exact xI (PySem.W.kitx_own (cl.get _) cl.hd ha hn htk hm) I.kIn J e (λz=>nomatch z) h
end
structure Room (k:Nat) (A:Around):Prop where
 hd:A.handled=none
 dp:A.depth+3*k+5<recursionLimit
 un:A.units+16*k+200<cLine
variable {k:Nat}
theorem Room.mono {j:Nat} (r:Room k A) (h:j<=k):Room j A:=⟨r.hd,by have:=r.dp;omega,by have:=r.un;omega⟩
theorem Room.deeper (r:Room (k+1) A) (env:Env):Room k (A.deeper env) :=
 ⟨r.hd,by have:=r.dp;show A.depth+1+3*k+5<_;omega,by have:=r.un;show A.units+3+16*k+200<_;omega⟩
theorem Room.depth (r:Room k A):A.depth<recursionLimit:=by have:=r.dp;omega
theorem Room.units (r:Room k A):A.units+64<cLine:=by have:=r.un;omega
def ja:TA:=λ_ H Q=>Q [] H
def dg (ta:TE) (tr:TA):TA:=λU H Q=>ta U H λx H1=>tr U H1 λxs H2=>Q (x::xs) H2
section
variable {X:Cx} {e:Expr} {es:List Expr} {te:TE} {t:TA} {pos:Pos}
theorem ab:PA X [] ja:=λ_ _ _ _ H Q I h=>Calls.spliced_nil ⟨[],H,I,.nil,h⟩
theorem aa (ha:PE X e te) (hr:PA X es t) (hs:starEach (e::es) X.env=(false,eval e X.env)::starEach es X.env:=by rfl):PA X (e::es) (dg te t):=by
 intro pos pins s U H Q I h;rw[hs];show wpAny _ _ (spliced ((false,eval e X.env)::backTo pos (starEach es X.env))) _ _ s;refine Calls.spliced_cons (thn (ha pins s U H _ I h) λu s1 ⟨x,H1,I1,r1,q1⟩=>?_);exact thn (hr pos pins s1 U H1 _ I1 q1) λus s2 ⟨xs,H2,I2,r2,q2⟩=>⟨x::xs,H2,I2,.cons r1 r2,q2⟩
def mP (t:TA):TE:=λU H Q=>t U H λxs H1=>xs.length<=sizeLine/\∀p,H1 p=none->Q (.ref p) (upd H1 p (.tup xs))
def qO (t:TA):TE:=λU H Q=>t U H λxs H1=>xs.length<=sizeLine/\∀p,H1 p=none->Q (.ref p) (upd H1 p (.lst xs))
theorem bg {x1} (h:PA X es t):PE X (.Tuple es x1 pos) (mP t):=by
 intro pins s U H Q I hq;refine wpAny_Tuple_spliced (thn (h pos pins s U H _ I hq) λus s1 ⟨xs,H1,I1,r,z,q⟩=>⟨by rw[<-r.length];exact z,?_⟩);have hf:H1 s1.heap.objs.size=none:=I1.hok.fresh (Qi _);refine⟨.ref s1.heap.objs.size,upd H1 s1.heap.objs.size (.tup xs),I1.laid (t':=s1.toks) (λb u e=>Qd _ e) (Qi _) ?_,rfl,q _ hf⟩;exact⟨z,us,r,⟨_,Qt _ rfl,rfl,_,rfl⟩⟩
theorem a_ (h:PA X es t):PE X (.List es pos) (qO t):=by
 intro pins s U H Q I hq;refine wpAny_List_spliced (thn (h pos pins s U H _ I hq) λus s1 ⟨xs,H1,I1,r,z,q⟩=>⟨by rw[<-r.length];exact z,?_⟩);have hf:H1 s1.heap.objs.size=none:=I1.hok.fresh (Qi _);refine⟨.ref s1.heap.objs.size,upd H1 s1.heap.objs.size (.lst xs),I1.laid (t':=s1.toks) (λb u e=>Qd _ e) (Qi _) ?_,rfl,q _ hf⟩;exact⟨z,us,0,r,Qt _ rfl⟩
end
abbrev Sp:=List V->Hp->VK->XK->Prop
abbrev CXT:=List Env->Hp->Shared->XK->A0
structure Env0 (P:Program) (w:World) (K:PySem.W.Frag) (mg:A2) (base:Heap) (A:Around) (outer:List Env) (s:Shared) (H:Hp):Prop where
 frames:A.frames=some outer
 mod:Mod K mg base
 bs:∀b o,base.get? b=some o->s.heap.get? b=some o/\H b=none
 bsz:base.objs.size<=s.heap.objs.size
 funs:s.heap.FunFrames base outer
 frf:∀b∈frs outer,H b=none
 hok:HOk P w H s.heap
 bare:AllBare s.gens
def CE (outer:List Env) (P:Program) (w:World) (H:Hp) (s:Shared) (Q:VK) (u:Value) (s':Shared):Prop :=
 ∃v H',s'.os=s.os/\AllBare s'.gens/\Un (frs outer) [] H H' s.heap s'.heap/\HOk P w H' s'.heap/\aU v u/\Q v H'
def CR (CX:CXT) (outer:List Env) (P:Program) (w:World) (H:Hp) (s:Shared) (Q:VK) (E:XK) (r:Result) (s':Shared):Prop :=
 match r with
 | .ok (.ret u)=>CE outer P w H s Q u s'
 | .ok _=>False
 | .error e=>CX outer H s E e s'
structure FnOk (P:Program) (w:World) (K:PySem.W.Frag) (mg:A2) (base:Heap) (CX:CXT) (k:Nat) (f:Addr) (fd:FuncData) (ps:List Str) (sp:Sp):Prop where
 len:∀vs H Q E,sp vs H Q E->vs.length=ps.length
 run:∀(A:Around) (outer:List Env) (s:Shared) (H:Hp) (args:Args) (us:List Value) (vs:List V) (Q:VK) (E:XK),Room k A->Env0 P w K mg base A outer s H->BindsTo s fd args (ps.zip us)->aL vs us->sp vs H Q E ->
  codeAny (model P w) A (.call (.ref f) args) (CR CX outer P w H s Q E) s
section
variable {X:Cx} {pins:A1} {U:St} {H:Hp} {s s':Shared}
theorem Inv.env0 (I:Inv X pins U H s):Env0 X.prog X.w X.K X.mg X.base X.A X.stack s H :=
 ⟨I.ok.frames,I.ok.mod,I.bs,QK I.ok.bsz I.sz,I.stack,I.stkFree,I.hok,I.bare⟩
theorem Inv.after {Q:VK} {u:Value} (I:Inv X pins U H s) (h:CE X.stack X.prog X.w H s Q u s'):EP X pins U Q u s':=by
 obtain⟨v,H',os,bare,un,hok,r,q⟩:=h;obtain⟨hh,g,d,t,os'⟩:=s';obtain rfl:os'=s.os:=os;exact⟨v,H',I.call (h':=hh) (g':=g) (d':=d) (t':=t) (ch:=[]) un hok bare (λb z=>absurd z (by simp)),r,q⟩
end
def lg (sp:Sp) (dvs:List V) (E:XK) (t:TA):TE:=λU H Q=>t U H λvs H1=>sp (vs++dvs) H1 Q E
def dJ (K:PySem.W.Frag) (fd:FuncData) (ps:List Str) (ds:List Value):Prop :=
 ∀(s:Shared) (us:List Value),K.In s.heap->(us++ds).length=ps.length->BindsTo s fd ⟨us,[]⟩ (ps.zip (us++ds))
variable {ps N:List Str}
theorem dJ.all {fd:FuncData} (h:∀us:List Value,us.length=ps.length->bindArgs fd ⟨us,[]⟩=pure (ps.zip us)):dJ K fd ps []:=λs us _ hl=>by
 rw[List.append_nil]at hl ⊢;exact .of_eq (h us hl)
def iY (CX:CXT) (X:Cx) (E:XK):Prop:=∀(pins:A1) (U:St) (H:Hp) (s:Shared) (e:Value) (s':Shared),Inv X pins U H s->CX X.stack H s E e s'->X.xe e s'
section
variable {X:Cx} {CX:CXT} {k:Nat} {f C:Addr} {fd:FuncData} {ps:List Str} {sp:Sp} {dvs:List V} {ds:List Value} {E:XK} {x m:Str} {p pos apos:Pos} {e o:Expr} {es:List Expr} {ta:TE} {t:TA}
theorem tI {pins:A1} {U:St} {H:Hp} {s:Shared} {Q:VK} {us:List Value} {vs:List V} (F:FnOk X.prog X.w X.K X.mg X.base CX k f fd ps sp) (hr:Room k X.A) (hb:dJ X.K fd ps ds) (hd:aL dvs ds) (hx:iY CX X E)
  (I:Inv X pins U H s) (r:aL vs us) (h:sp (vs++dvs) H Q E):wpAny (model X.prog X.w) X.A (call (.ref f) us) (EP X pins U Q) X.xe s:=by
 have r2:aL (vs++dvs) (us++ds):=r.append hd;have hl:(us++ds).length=ps.length:=by rw[<-r2.length];exact F.len _ _ _ _ h
 refine wpAny_call (codeAny_mono (F.run X.A X.stack s H ⟨us,[]⟩ (us++ds) (vs++dvs) Q E hr I.env0 (hb s us I.kIn hl) r2 h) λr s' hq=>?_)
 cases r with
 | error e=>exact hx pins U H s e s' I hq
 | ok fl =>
 cases fl with
 | ret u=>exact I.after hq
 | next=>exact False.elim hq
 | brk=>exact False.elim hq
 | cont=>exact False.elim hq
theorem qV (F:FnOk X.prog X.w X.K X.mg X.base CX k f fd ps sp) (hr:Room k X.A) (hg:Gl X x) (hm:X.mg x=some (.ref f)) (hk:PySem.W.keepIn X.K (.ref f)=true) (hb:dJ X.K fd ps ds) (hd:aL dvs ds) (hx:iY CX X E)
  (ha:PA X (e::es) t) (hdb:(x==("__debug__" : Str))=false:=by decide) (he:starEach (e::es) X.env=(false,eval e X.env)::starEach es X.env:=by rfl) (hpl:(backTo pos (starEach es X.env)).any (·.1)=false:=by rfl) :
  PE X (.Call (.Name x p) (e::es) [] pos) (lg sp dvs E t):=by
 intro pins s U H Q I h;refine wpAny_Call_Name_kw (lW I hg hm ?_ hdb);refine PySem.W.callWith_K (h₀:=X.base) I.ok.mod.kin hk (thn (ha pos pins s U H _ I h) λus s1 ⟨vs,H1,I1,r,q⟩=>⟨I1.kIn,?_⟩) he hpl;exact tI F hr hb hd hx I1 r q
structure Mk (K:PySem.W.Frag) (C f:Addr):Prop where
 makes:PySem.W.makesIn K C=true
 init:PySem.W.findIn K (.ref C) "__init__" = some (some (.ref f))
 fn:PySem.W.isFn K (.ref f)=true
 kp:PySem.W.keepIn K (.ref C)=true
end
section
variable {X:Cx} {CX:CXT} {k:Nat} {f C:Addr} {fd:FuncData} {ps ks:List Str} {sp:Sp} {E:XK} {x m:Str} {p pos apos kpos:Pos} {e o:Expr} {es:List Expr} {kws:List Keyword} {te ta:TE} {t tk:TA} {nm:Option Str}
structure KBinds (K:PySem.W.Frag) (fd:FuncData) (ps ks:List Str) (g:List Value->List Value->List Value) (gV:List V->List V->List V):Prop where
 to:∀(s:Shared) (us ws:List Value),K.In s.heap->(g us ws).length=ps.length->BindsTo s fd ⟨us,ks.zip ws⟩ (ps.zip (g us ws))
 rel:∀{vs:List V} {us:List Value} {zs:List V} {ws:List Value},aL vs us->aL zs ws->aL (gV vs zs) (g us ws)
variable {g:List Value->List Value->List Value} {gV:List V->List V->List V}
end
structure FnScope (N P:List Str) (sc:Scope):Prop where
 kind:sc.kind=.function
 co:sc.isCoroutine=false
 gen:sc.isGenerator=false
 nd:N.Nodup
 pre:N.take P.length=P
 par:∀x∈P,sc.names.lookup x=some .local\/sc.names.lookup x=some .cell
 nofree:∀y∈sc.names,y.2≠.free
theorem gL {kindOf:Str->Option NameKind} {x:Str}:∀{binds:List (Str × Value)} {m:A2},(∀v,(x,v)∉binds)->bindL kindOf binds m x=m x
 | [],_,_=>rfl
 | (n,v)::r,m,h=>by
  unfold bindL;rw[gL λw hw=>h w (Qp _ hw)]
  split
  ·have:x≠n:=by rintro rfl;exact h v Q2
   simp[this]
  rfl
theorem gN {kindOf:Str->Option NameKind} {x:Str}:∀{binds:List (Str × Value)} {m:A2},(∀v,(x,v)∉binds)->bindC kindOf binds m x=m x
 | [],_,_=>rfl
 | (n,v)::r,m,h=>by
  unfold bindC;rw[gN λw hw=>h w (Qp _ hw)]
  split
  ·rfl
  have:x≠n:=by rintro rfl;exact h v Q2
  simp[this]
theorem gM {kindOf:Str->Option NameKind} {x:Str} {v:Value}:∀{P:List Str} {vs:List Value} {i:Nat} {m:A2},P.Nodup->P[i]?=some x->vs[i]?=some v->kindOf x=some .local ->
  bindL kindOf (P.zip vs) m x=some v
 | [],_,_,_,_,h,_,_=>by simp at h
 | _::_,[],_,_,_,_,h,_=>by simp at h
 | p::P,w::vs,0,m,nd,h1,h2,hk=>by
  simp at h1 h2;subst h1;subst h2;show bindL kindOf ((p,w)::P.zip vs) m p=_;unfold bindL;rw[gL λv hv=>(QN.mp nd).1 (List.of_mem_zip hv).1,Qw hk];simp
 | p::P,w::vs,i+1,m,nd,h1,h2,hk=>by
  show bindL kindOf ((p,w)::P.zip vs) m x=_;unfold bindL;exact gM (i:=i) (QN.mp nd).2 (by simpa using h1) (by simpa using h2) hk
theorem gO {kindOf:Str->Option NameKind} {x:Str} {v:Value}:∀{P:List Str} {vs:List Value} {i:Nat} {m:A2},P.Nodup->P[i]?=some x->vs[i]?=some v->kindOf x≠some .local ->
  bindC kindOf (P.zip vs) m x=some v
 | [],_,_,_,_,h,_,_=>by simp at h
 | _::_,[],_,_,_,_,h,_=>by simp at h
 | p::P,w::vs,0,m,nd,h1,h2,hk=>by
  simp at h1 h2;subst h1;subst h2;show bindC kindOf ((p,w)::P.zip vs) m p=_;unfold bindC;rw[gN λv hv=>(QN.mp nd).1 (List.of_mem_zip hv).1,Qq hk];simp
 | p::P,w::vs,i+1,m,nd,h1,h2,hk=>by
  show bindC kindOf ((p,w)::P.zip vs) m x=_;unfold bindC;exact gO (i:=i) (QN.mp nd).2 (by simpa using h1) (by simpa using h2) hk
def start (N:List Str) (vs:List V):St:=vs.map some++List.replicate (N.length-vs.length) none
noncomputable def cxOf (CX:CXT) (P:Program) (w:World) (K:PySem.W.Frag) (mg:A2) (base:Heap) (N:List Str) (qual:Str) (scope:Scope) (f:Addr) (cd:Value) (A:Around) (outer:List Env) (s:Shared) (H:Hp) (E:XK):Cx where
 prog:=P
 w:=w
 K:=K
 mg:=mg
 base:=base
 A:=A.deeper (envOfC qual scope s.heap.objs.size f cd)
 N:=N
 s₀:=s
 H₀:=H
 env:=envOfC qual scope s.heap.objs.size f cd
 outer:=outer
 stack:=envOfC qual scope s.heap.objs.size f cd::outer
 ex:=[]
 calm:=true
 fn:=λ_=>true
 pn:=[]
 xe:=λe s'=>wpAny (model P w) (A.deeper (envOfC qual scope s.heap.objs.size f cd)) (leaving (envOfC qual scope s.heap.objs.size f cd) e) (λ_ s''=>CX outer H s E e s'') (λe' s''=>CX outer H s E e' s'') s'
variable {sc scope:Scope}
theorem jY {n:Nat} {x:Str} (h:sc.names.lookup x=some .cell):∃c,(cellsFrom n sc.names []).lookup x=some c:=by
 have q:=PySem.W.cellsFrom_some sc.names n [] (.inl h);exact Option.isSome_iff_exists.mp q
theorem nE {CX:CXT} {w:World} {qual:Str} {outer:List Env} {E:XK} {us:List Value} {vs:List V}
  (S:FnScope N ps scope) (hd:A.handled=none) (e0:Env0 P w K mg base A outer s H) (hl:vs.length=ps.length) (r:aL vs us)
  (x:InCallC s s.heap.objs.size (bindL (envOfC qual scope s.heap.objs.size f cd).kindOf (ps.zip us) λ_=>none) (cellsFrom (s.heap.objs.size+1) scope.names []) (bindC (envOfC qual scope s.heap.objs.size f cd).kindOf (ps.zip us) λ_=>none) s1) :
  Inv (cxOf CX P w K mg base N qual scope f cd A outer s H E) [] (start N vs) H s1:=by
 have hpl:ps.length<=N.length:=by have:=congrArg List.length S.pre;rw[Q3]at this;omega
 obtain⟨h1,tk,rfl,hk⟩:=x.done;have noA:∀b:Addr,b∉(cxOf CX P w K mg base N qual scope f cd A outer s H E).ex:=λb z=>absurd (show b∈([]:A3) from z) (by simp)
 refine⟨⟨e0.mod,S.kind,rfl,rfl,Qi _,λy z c h1 h2=>?_,λy hy=>?_,λy c _ h=>?_,λ_=>hd,Around.frames_deeper e0.frames,.inr ⟨rfl,rfl⟩,λb z=>absurd z (noA b),e0.bs,e0.bsz,λb _ _=>noA b,λb z=>absurd z (noA b),e0.funs,e0.frf⟩,
  rfl,e0.bare,Un.kept hk,⟨_,x.toInCall.ns,λi y v h1 h2 h3=>?_⟩,λy c h=>⟨_,x.cell y c h⟩,e0.hok.fresh (Qi _),λy c h=>?_,λp hp=>absurd (show p∈([]:A1) from hp) (by simp),e0.hok.kept hk,?_⟩
 ·exact name_of_addr x.apart (PySem.mem_of_lookup h1) (PySem.mem_of_lookup h2)
 ·have hy:scope.names.lookup y=some .cell\/scope.names.lookup y=some .free:=hy;rcases hy with hy|hy
  ·exact jY hy
  exact absurd rfl (S.nofree _ (PySem.mem_of_lookup hy))
 ·exact Nat.le_of_lt (x.above y c (PySem.mem_of_lookup h))
 ·have hi:i<vs.length:=by
   unfold start at h2;by_cases hi:i<vs.length
   ·exact hi
   rw[QJ (by simpa using hi)]at h2;rw[List.getElem?_replicate]at h2
   split at h2 <;> cases h2
  have ha:vs[i]?=some v:=by
   unfold start at h2;rw[QI (by simpa using hi),QE]at h2
   cases e:vs[i]? with
   | none=>rw[e]at h2;cases h2
   | some a=>rw[e]at h2;cases h2;rfl
  obtain⟨u,hu,rv⟩:=r.get ha
  have hp:ps[i]?=some y:=by
   rw[<-S.pre,List.getElem?_take_of_lt (by omega)];exact h1
  have ndP:ps.Nodup:=by rw[<-S.pre];exact S.nd.sublist (List.take_sublist _ _)
  refine⟨u,rv,?_⟩;rcases S.par y (Ql hp) with k|k
  ·exact .inl ⟨k,gM ndP hp hu k⟩
  obtain⟨c,e⟩:=jY (n:=s.heap.objs.size+1) k;refine .inr ⟨.inl k,c,e,?_⟩;have q:=x.cell y c e;rw[gO ndP hp hu (by show scope.names.lookup y≠_;rw[k];decide)]at q;exact q
 ·exact e0.hok.fresh (Nat.le_of_lt (x.above y c (PySem.mem_of_lookup h)))
 unfold start;show _=N.length;rw[Qh,Qc,List.length_replicate];omega
theorem sU {CX:CXT} {w:World} {name qual:Str} {params:Arguments} {body:List Stmt} {kV:Value} {an od:Option Addr}
  {osl:Array (Option Value)} {sp:Sp} (lk:K.lookup f=some ⟨oc,od,.func (PySem.W.fnOf name qual params body scope dV kV doc pm an cdv ct),osl⟩) (hcd:PySem.W.codeIn K cdv qual=true) (S:FnScope N ps scope)
  (len:∀vs H Q E,sp vs H Q E->vs.length=ps.length)
  (hbody:∀(A:Around) (outer:List Env) (s:Shared) (H:Hp) (vs:List V) (Q:VK) (E:XK),Room k (A.deeper (envOfC qual scope s.heap.objs.size f cdv))->sp vs H Q E ->
   ∃t,PSs (cxOf CX P w K mg base N qual scope f cdv A outer s H E) body t/\t { nx:=λ_ H'=>Q .non H',rt:=Q } (start N vs) H) :
  FnOk P w K mg base CX (k+1) f (PySem.W.fnOf name qual params body scope dV kV doc pm an cdv ct) ps sp:=by
 refine⟨len,λA outer s H args us vs Q E hr e0 hb r hsp=>?_⟩;have hl:=len _ _ _ _ hsp;have KX:K.In s.heap:=e0.mod.kin.keeps λb o e=>(e0.bs b o e).1;have lim:s.heap.NoLimit:=e0.mod.nolimit.keeps λb o e=>(e0.bs b o e).1
 have hkind:∀y∈ps.zip us,scope.names.lookup y.1=some .local\/(scope.names.lookup y.1=some .cell/\((cellsFrom (s.heap.objs.size+1) scope.names []).lookup y.1).isSome=true):=λ⟨n,v⟩ hy=>by
  rcases S.par n (List.of_mem_zip hy).1 with q|q
  ·exact .inl q
  exact .inr ⟨q,PySem.W.cellsFrom_some _ _ _ (.inl q)⟩
 refine codeAny_call_function hr.depth (KX _ _ lk) rfl S.co S.gen rfl (PySem.W.codeRec_of KX hcd) (hb _ _ _ _ ?_);refine wpAny_newFunctionEnv_cells S.kind hkind λenv he s1 x=>?_;subst he;refine⟨lim.keeps x.toInCall.keep,codeAny_func ?_⟩;obtain⟨t,ht,hq⟩:=hbody A outer s H vs Q E (hr.deeper _) hsp;have I:Inv (cxOf CX P w K mg base N qual scope f cdv A outer s H E) [] (start N vs) H s1:=nE S hr.hd e0 hl r x;refine wpAny_mono (ht [] s1 (start N vs) H _ I hq) (λfl s' hs=>?_) λe s' hs=>hs
 have fin:∀{σ':St} {H':Hp} {v:V} {u:Value},Inv (cxOf CX P w K mg base N qual scope f cdv A outer s H E) [] σ' H' s'->aU v u->Q v H'->CE outer P w H s Q u s' :=
  λ{σ' H' v u} J rv q=>⟨v,H',J.os,J.bare,J.base,J.hok,rv,q⟩
 cases fl with
 | ret u =>
  obtain⟨v,σ',H',J,rv,q⟩:=hs;exact fin J rv q
 | next =>
  obtain⟨σ',H',J,q⟩:=hs;exact fin (v:=V.non) (u:=Value.none) J rfl q
 | brk =>
  obtain⟨_,_,_,q⟩:=hs;exact False.elim q
 | cont =>
 obtain⟨_,_,_,q⟩:=hs;exact False.elim q
section
variable {X:Cx} {x:Str} {p pos:Pos} {e:Expr} {es:List Expr} {t:TA} {id T:String} {r:List V->Hp->VK->Prop}
def tCB (r:List V->Hp->VK->Prop) (t:TA):TE:=λU H Q=>t U H λvs H1=>r vs H1 Q
theorem aw (hc:cG X (.builtin id) r) (hg:Gl X x) (hm:X.mg x=none) (hv:bootBuiltins x=some (.builtin id)) (ha:PA X (e::es) t) (hn:x ≠ "__name__" := by decide) (hdb:(x==("__debug__" : Str))=false:=by decide)
  (he:starEach (e::es) X.env=(false,eval e X.env)::starEach es X.env:=by rfl) (hpl:(backTo pos (starEach es X.env)).any (·.1)=false:=by rfl):PE X (.Call (.Name x p) (e::es) [] pos) (tCB r t):=by
 intro pins s U H Q I h;refine wpAny_Call_Name_kw (dv I hg hm hv ?_ hn hdb);exact PyProof.Rows.callWith_builtin1 (thn (ha pos pins s U H _ I h) λus s1 ⟨vs,H1,I1,r1,q1⟩=>hc pins s1 U H1 vs us Q I1 r1 q1) he hpl
theorem aV (hc:cG X (.type T) r) (hg:Gl X x) (hm:X.mg x=none) (hv:bootBuiltins x=some (.type T)) (ha:PA X (e::es) t) (hn:x ≠ "__name__" := by decide) (hdb:(x==("__debug__" : Str))=false:=by decide)
  (he:starEach (e::es) X.env=(false,eval e X.env)::starEach es X.env:=by rfl) (hpl:(backTo pos (starEach es X.env)).any (·.1)=false:=by rfl):PE X (.Call (.Name x p) (e::es) [] pos) (tCB r t):=by
 intro pins s U H Q I h;refine wpAny_Call_Name_kw (dv I hg hm hv ?_ hn hdb);exact xT (thn (ha pos pins s U H _ I h) λus s1 ⟨vs,H1,I1,r1,q1⟩=>hc pins s1 U H1 vs us Q I1 r1 q1) he hpl
end
end L2
namespace HT
open PySem PyProof.Rows
section
open PySem.SeqAt
open PySem.AutoSeq1 (wpAny_loadPart')
open PySem.MeetsSeq PySem.MeetsSeq2 PySem.MeetsSeq3
end
section
variable {prog:Program} {w:World} {A:Around} {E:A0} {s:Shared}
def sIx (n d:Nat):Option Int->Nat
 | none=>d
 | some v=>if v<0 then (v+(n:Int)).toNat else min v.toNat n
theorem ju (n d:Nat):sIx n d none=d:=rfl
theorem lE (n d k:Nat):sIx n d (some (k:Int))=min k n:=by
 show (if (k:Int)<0 then ((k:Int)+(n:Int)).toNat else min (k:Int).toNat n)=min k n;rw[Qq (by omega),QX]
end
end HT
namespace L2
open PySem PySem.Spec PyProof.Rows
abbrev TO:=St->Hp->(Option Int->Hp->Prop)->Prop
def PO (X:Cx) (e:Option Expr) (t:TO):Prop :=
 ∀(pins:A1) (s:Shared) (U:St) (H:Hp) (Q:Option Int->Hp->Prop),Inv X pins U H s->t U H Q ->
  wpAny (model X.prog X.w) X.A (evalPart e X.env) (λu s'=>∃o H',Inv X pins U H' s'/\IsPart u o/\Q o H') X.xe s
def lc:TO:=λ_ H Q=>Q none H
def sj (t:TE):TO:=λU H Q=>t U H λx H1=>∃i,x=.int i/\Q (some i) H1
section
variable {X:Cx} {e:Expr} {te:TE} {lo hi:Option Expr} {tl th:TO} {pos p2:Pos}
theorem cx:PO X none lc:=by
 intro pins s U H Q I h;rw[evalPart_none];exact Qf ⟨none,H,I,.none,h⟩
theorem cw (h:PE X e te):PO X (some e) (sj te):=by
 intro pins s U H Q I hw;rw[evalPart_some];refine thn (h pins s U H _ I hw) λu s1 ⟨x,H1,I1,r1,q1⟩=>?_;obtain⟨i,rfl,q⟩:=q1;obtain⟨t,rfl⟩:=r1;exact⟨some i,H1,I1,.int i t,q⟩
def SlR (X:Cx) (r:V->Option Int->Option Int->Hp->VK->Prop):Prop :=
 ∀(pins:A1) (s:Shared) (U:St) (H:Hp) (x:V) (v vl vu:Value) (lo hi:Option Int) (sl:Addr) (Q:VK),Inv X pins U H s->aU x v->s.heap.IsSliceOf sl vl vu .none->IsPart vl lo->IsPart vu hi->r x lo hi H Q ->
  ∃T id,typeLookup (.type T) "__getitem__" = pure (some (.builtin id))/\s.TypeIs v T/\wpAny (model X.prog X.w) X.A (getItem v (.ref sl)) (EP X pins U Q) X.xe s
def tSl (r:V->Option Int->Option Int->Hp->VK->Prop) (te:TE) (tl th:TO):TE:=λU H Q=>te U H λx H1=>tl U H1 λl H2=>th U H2 λu H3=>r x l u H3 Q
theorem bT {r:V->Option Int->Option Int->Hp->VK->Prop} (hr:SlR X r) (he:PE X e te) (hl:PO X lo tl) (hu:PO X hi th):PE X (.Subscript e (.Slice lo hi none p2) pos) (tSl r te tl th):=by
 intro pins s U H Q I h;refine Subscript_ (thn (he pins s U H _ I h) λv s1 ⟨x,H1,I1,r1,q1⟩=>?_);refine wpAny_Slice (thn (hl pins s1 U H1 _ I1 q1) λvl s2 ⟨l,H2,I2,pl,q2⟩=>thn (hu pins s2 U H2 _ I2 q2) λvu s3 ⟨u,H3,I3,pu,q3⟩=>?_);rw[evalPart_none];refine Qf ?_;have I4:Inv X pins U H3 { s3 with heap:=s3.heap.push { cls:=.type "slice", data:=.fields #[vl,vu,.none] } }:=I3.kept (t':=s3.toks) λb ob q=>Qd _ q;obtain⟨T,id,hT,ht,hg⟩:=hr pins { s3 with heap:=s3.heap.push { cls:=.type "slice", data:=.fields #[vl,vu,.none] } } U H3 x v vl vu l u s3.heap.objs.size Q I4 r1 (Heap.IsSliceOf.new ..) pl pu q3;show wpAny (model X.prog X.w) X.A (subscriptTail e (.Slice lo hi none p2) v (.ref s3.heap.objs.size)) (EP X pins U Q) X.xe { s3 with heap:=s3.heap.push { cls:=.type "slice", data:=.fields #[vl,vu,.none] } };exact tail_any (ops:=[.ref s3.heap.objs.size,v]) ht hT hg (by with_unfolding_all rfl)
def iP (xs:List V) (lo hi:Option Int):List V:=(xs.drop (HT.sIx xs.length 0 lo)).take (HT.sIx xs.length xs.length hi-HT.sIx xs.length 0 lo)
theorem jX (xs:List V) (lo hi:Option Int):(iP xs lo hi).length<=xs.length:=by
 unfold iP;rw[Q3,xR];omega
end
def ixN (n:Nat) (i:Int):Option Nat:=if 0<=i then (if i<n then some i.toNat else none) else if -(n:Int)<=i then some (i+n).toNat else none
def atI {α:Type} (xs:List α) (i:Int):Option α:=(ixN xs.length i).bind λj=>xs[j]?
theorem iI {n:Nat} {i:Int} {j:Nat} (h:ixN n i=some j):seqIndex? i n=some j/\j<n/\-(n:Int)<=i/\i<n:=by
 unfold ixN at h;by_cases h0:0<=i
 ·rw[Qw h0]at h;by_cases h1:i<n
  ·rw[Qw h1]at h;have e:i.toNat=j:=QH h;exact⟨by rw[seqIndex_of h0 h1,e],by omega,by omega,h1⟩
  rw[Qq h1]at h;cases h
 rw[Qq h0]at h;by_cases h1:-(n:Int)<=i
 ·rw[Qw h1]at h;have e:(i+n).toNat=j:=QH h;exact⟨by rw[seqIndex_neg (by omega) h1,e],by omega,h1,by omega⟩
 rw[Qq h1]at h;cases h
theorem iS {α:Type} {xs:List α} {i:Int} {v:α} (h:atI xs i=some v):∃j,seqIndex? i xs.length=some j/\xs[j]?=some v/\j<xs.length/\-(xs.length:Int)<=i/\i<xs.length:=by
 unfold atI at h
 cases e:ixN xs.length i with
 | none=>rw[e]at h;cases h
 | some j =>
 rw[e]at h;obtain⟨h1,h2,h3,h4⟩:=iI e;exact⟨j,h1,h,h2,h3,h4⟩
theorem b_ {α:Type} {xs:List α} {j:Nat} {v:α} (h:xs[j]?=some v):atI xs (j:Int)=some v:=by
 have hj:j<xs.length:=(Qe.mp h).1
 have e:ixN xs.length (j:Int)=some j:=by
  unfold ixN;rw[Qw (by omega),Qw (by omega)];simp
 unfold atI;rw[e];exact h
def rZ (b:Expr):Prop:=∀o i,subscripted b false o i=operate [o,i] (getItem o i)
def IxR (X:Cx) (r:R2):Prop :=
 ∀(value slice:Expr) (pins:A1) (s:Shared) (U:St) (H:Hp) (x y:V) (v u:Value) (Q:VK),Inv X pins U H s->aU x v->aU y u->r x y H Q ->
  subscripted slice false v u=operate [v,u] (getItem v u)->wpAny (model X.prog X.w) X.A (subscriptTail value slice v u) (EP X pins U Q) X.xe s
def MtR (X:Cx) (id:String) (r:V->List V->Hp->VK->Prop):Prop :=
 ∀(pins:A1) (s:Shared) (U:St) (H:Hp) (x:V) (xs:List V) (v:Value) (us:List Value) (Q:VK),Inv X pins U H s->aU x v->aL xs us->r x xs H Q ->
  wpAny (model X.prog X.w) X.A (call (.builtin id) (v::us)) (EP X pins U Q) X.xe s
section
variable {X:Cx} {a b:Expr} {ta tb:TE} {pos:Pos}
theorem au {r:R2} (hr:IxR X r) (ha:PE X a ta) (hb:PE X b tb) (hs:rZ b:=by exact λ_ _=>rfl):PE X (.Subscript a b pos) (tOp r ta tb):=by
 intro pins s U H Q I h;exact Subscript_ (ux ha hb I h λv u s2 x y H2 I2 rx ry q=>hr a b pins s2 U H2 x y v u Q I2 rx ry q (hs _ _))
def uU (K:PySem.W.Frag):R2:=λx y H Q=>∃p xs i v,x=.ref p/\y=.int i/\SqL K H p xs/\atI xs i=some v/\Q v H
def tL (K:PySem.W.Frag):R2:=λx y H Q=>∃p xs i v,x=.ref p/\y=.int i/\SqT K H p xs/\atI xs i=some v/\Q v H
def tM:R2:=λx y H Q=>∃z i c,x=.str z/\y=.int i/\z.length<=sizeLine/\atI z.cps.toList i=some c/\Q (.str ⟨#[c]⟩) H
theorem aQ:IxR X (uU X.K):=by
 intro value slice pins s U H x y v u Q I rx ry h hs;obtain⟨p,xs,i,z,rfl,rfl,hq,he,q⟩:=h;cases rx;obtain⟨t,rfl⟩:=ry;obtain⟨its,r,pl,hz⟩:=I.list hq;obtain⟨j,h1,h2,h3,h4,h5⟩:=iS he;obtain⟨w,ew,rw'⟩:=r.get h2;have hl:=r.length;have hn:=eM;have fin:EP X pins U Q w s:=⟨z,H,I,rw',q⟩;by_cases h0:0<=i
 ·have hj:i.toNat=j:=by
   rw[seqIndex_of h0 h5]at h1;exact QH h1
  exact item_listR pl.isList h0 (by omega) (by rw[hj];simpa using ew) fin hs
 have hj:(i+(its.toArray.size:Int)).toNat=j:=by
  rw[seqIndex_neg (by omega) h4]at h1;rw[Qk,<-hl];exact QH h1
 exact subscriptTail_builtinR (x:=w) pl.isList.typeIs slot_list_getitem.lookup
  (wpAny_getItem_list_neg (Q:=λr s'=>r=w/\EP X pins U Q r s') pl.isList (by omega) (by rw[Qk] <;> omega) (by omega) (by rw[hj];simpa using ew) ⟨rfl,fin⟩) hs
theorem aI:IxR X (tL X.K):=by
 intro value slice pins s U H x y v u Q I rx ry h hs;obtain⟨p,xs,i,z,rfl,rfl,hq,he,q⟩:=h;cases rx;obtain⟨t,rfl⟩:=ry;obtain⟨its,r,pl,hz⟩:=I.tuple hq;obtain⟨j,h1,h2,h3,h4,h5⟩:=iS he;obtain⟨w,ew,rw'⟩:=r.get h2;have hl:=r.length;have hn:=eM;have fin:EP X pins U Q w s:=⟨z,H,I,rw',q⟩
 exact subscriptTail_builtinR (x:=w) pl.typeIs slot_tuple_getitem.lookup
  (getItem_tuple (j:=j) (Q:=λr s'=>r=w/\EP X pins U Q r s') pl (by omega) (by omega) (by rw[Qk,<-hl];exact h1) (by simpa using ew) ⟨rfl,fin⟩) hs
theorem cu:IxR X tM:=by
 intro value slice pins s U H x y v u Q I rx ry h hs;obtain⟨z,i,c,rfl,rfl,hz,he,q⟩:=h;obtain⟨t,rfl⟩:=rx;obtain⟨t',rfl⟩:=ry;obtain⟨j,h1,h2,h3,h4,h5⟩:=iS he;have hl:z.cps.toList.length=z.length:=by simp[Str.length]
 rw[hl]at h1 h4 h5;have hn:=eM
 exact tail_any (typeIs_str s z t) slot_str_getitem.lookup (getItem_str (c:=c) (by
  have e1:decide (i < -(2 ^ 63:Int))=false:=Qy (by omega);have e2:decide (i>=2 ^ 63)=false:=Qy (by omega)
  rw[e1,e2,Bool.or_false]) (by rw[h1];simpa using h2) ⟨.str ⟨#[c]⟩,H,I.tok _,⟨_,rfl⟩,q⟩) hs
theorem kJ (its:List Value) (n j:Nat) (u:Value):Obj.mapSeq (·.setIfInBounds j u) { cls:=.type "list", data:=.seq its.toArray n }={ cls:=.type "list", data:=.seq (its.set j u).toArray n }:=by
 simp[Obj.mapSeq]
variable {s:Shared} {pins:A1}
theorem Inv.lst {U:St} {H:Hp} {p:Addr} {xs:List V} (I:Inv X pins U H s) (h:H p=some (.lst xs)) :
  ∃(its:List Value) (n:Nat),aL xs its/\s.heap.get? p=some { cls:=.type "list", data:=.seq its.toArray n }/\xs.length<=sizeLine:=by
 obtain⟨z,its,n,r,e⟩:=I.hok p _ h;exact⟨its,n,r,e,z⟩
theorem Inv.lstUpd {U:St} {H:Hp} {p:Addr} {xs ys:List V} {its its':List Value} {n n':Nat} {f:Obj->Obj} (I:Inv X pins U H s) (h:H p=some (.lst xs))
  (ho:s.heap.get? p=some { cls:=.type "list", data:=.seq its.toArray n }) (hf:f { cls:=.type "list", data:=.seq its.toArray n }={ cls:=.type "list", data:=.seq its'.toArray n' }) (r:aL ys its') (hz:ys.length<=sizeLine) (t:Nat) :
  Inv X pins U (upd H p (.lst ys)) { s with heap:=s.heap.update p f,toks:=t }:=by
 have e:(s.heap.update p f).get? p=some { cls:=.type "list", data:=.seq its'.toArray n' }:=by
  rw[Q5 f ho (by rw[hf] <;> rfl),hf]
 refine I.write (x:=p) (e:=p) (by rw[h];trivial) (.inl rfl) (λb u hb q=>(xg _ _ (Ne.symm hb)).trans q) ⟨_,e⟩ ?_;exact⟨hz,its',n',r,e⟩
def sG:V->V->V->Hp->(Hp->Prop)->Prop:=λo i v H Q=>∃p xs k j,o=.ref p/\i=.int k/\H p=some (.lst xs)/\ixN xs.length k=some j/\Q (upd H p (.lst (xs.set j v)))
theorem fE:vJ X sG:=by
 intro pins s U H o i v ov iv u Q I ro ri rv h;obtain⟨p,xs,k,j,rfl,rfl,hp,hj,q⟩:=h;cases ro;obtain⟨t,rfl⟩:=ri;obtain⟨its,n,r,ho,hz⟩:=I.lst hp;obtain⟨h1,h2,h3,h4⟩:=iI hj;have hl:=r.length;have hn:=eM
 have I':Inv X pins U (upd H p (.lst (xs.set j v))) { s with heap:=s.heap.update p (Obj.mapSeq (·.setIfInBounds j u)) } :=
  I.lstUpd hp ho (kJ its n j u) (r.set rv j) (by rw[List.length_set];exact hz) s.toks
 by_cases h0:0<=k
 ·have hk:k.toNat=j:=by
   rw[seqIndex_of h0 h4]at h1;exact QH h1
  exact PySem.W.ki_setAt ho h0 (by omega) (by rw[Qk,<-hl];exact h4) (by rw[hk];exact⟨_,I',q⟩)
 have hk:(k+(its.toArray.size:Int)).toNat=j:=by
  rw[seqIndex_neg (by omega) h3]at h1;rw[Qk,<-hl];exact QH h1
 exact PySem.W.ki_setBack ho (by omega) (by rw[Qk,<-hl];exact h3) (by omega) (by rw[hk];exact⟨_,I',q⟩)
theorem sD (i:Int) (n:Nat):max 0 (min (if i<0 then i+(n:Int) else i) (n:Int))=(((if i<0 then (i+(n:Int)).toNat else min i.toNat n):Nat):Int):=by
 by_cases h:i<0
 ·rw[Qw h,Qw h,Int.min_eq_left (by omega)];omega
 obtain⟨k,rfl⟩:=Int.eq_ofNat_of_zero_le (Int.not_lt.mp h);rw[Qq h,Qq h,QX];omega
theorem hW (lo hi:Option Int) (n:Nat):(sliceBounds lo hi none n).1=((HT.sIx n 0 lo:Nat):Int)/\(sliceBounds lo hi none n).2.1=((HT.sIx n n hi:Nat):Int)/\(sliceBounds lo hi none n).2.2=1:=by
 refine⟨?_,?_,rfl⟩
 ·cases lo with
  | none=>simp[sliceBounds,HT.sIx]
  | some i =>
   simp only[sliceBounds,HT.sIx,Option.getD_none,show (1:Int)>0 by decide,if_true];exact sD i n
 cases hi with
 | none=>simp[sliceBounds,HT.sIx]
 | some i =>
 simp only[sliceBounds,HT.sIx,Option.getD_none,show (1:Int)>0 by decide,if_true];exact sD i n
theorem f_ (its:List Value) (lo hi:Option Int):slicePick its.toArray lo hi none=((its.drop (HT.sIx its.length 0 lo)).take (HT.sIx its.length its.length hi-HT.sIx its.length 0 lo)).toArray:=by
 obtain⟨h1,h2,h3⟩:=hW lo hi its.toArray.size;unfold slicePick;rw[h1,h2,h3];simp only[sliceRange_one,pick_run,Qk] <;> rfl
def uS (K:PySem.W.Frag):V->Option Int->Option Int->Hp->VK->Prop:=λx lo hi H Q=>∃a xs,x=.ref a/\SqL K H a xs/\∀p,H p=none->Q (.ref p) (upd H p (.lst (iP xs lo hi)))
theorem lC:SlR X (uS X.K):=by
 intro pins s U H x v vl vu lo hi sl Q I rx hs pl pu h;obtain⟨a,xs,rfl,hx,q⟩:=h;cases rx;obtain⟨its,r,ht,hz⟩:=I.list hx;have hlen:=r.length;refine⟨"list", _,slot_list_getitem.lookup,ht.isList.typeIs,?_⟩;refine wpAny_getItem_list_slice ht.isList hs pl pu .none (by simp) ?_ (by rw[Qk] <;> omega);rw[f_,<-hlen];refine⟨.ref s.heap.objs.size,_,I.laid (t':=s.toks) (o:=.lst (iP xs lo hi)) (λb ob q=>Qd _ q) (Qi _) ?_,rfl,q _ (I.hok.fresh (Qi _))⟩;exact⟨QK (jX xs lo hi) hz,_,0,(r.drop (HT.sIx xs.length 0 lo)).take (HT.sIx xs.length xs.length hi-HT.sIx xs.length 0 lo),Qt _ rfl⟩
def cF:V->Bool
 | .non=>true
 | .bl _=>true
 | .int _=>true
 | .str _=>true
 | _=>false
def eqV:V->V->Bool
 | .non,.non=>true
 | .bl a,.bl b=>a==b
 | .bl a,.int b=>(if a then 1 else 0)==b
 | .int a,.bl b=>a==(if b then 1 else 0)
 | .int a,.int b=>a==b
 | .str a,.str b=>a==b
 | _,_=>false
variable {u v:Value}
theorem qj {A:Around} {y x:V} (ry:aU y u) (rx:aU x v) (fy:cF y=true) (fx:cF x=true):SeqAt.EqAt A s u v (eqV y x):=by
 cases y with
 | non =>
  cases ry
  cases x with
  | non=>cases rx;exact SeqAt.EqAt.same _
  | bl b=>cases rx;exact SeqAt.EqAt.none_bool b
  | int b=>obtain⟨t,rfl⟩:=rx;exact SeqAt.EqAt.none_int b t
  | str b=>obtain⟨t,rfl⟩:=rx;exact SeqAt.EqAt.none_str b t
  | _=>exact absurd (show false=true from fx) Qn
 | bl a =>
  cases ry
  cases x with
  | non=>cases rx;exact SeqAt.EqAt.bool_none a
  | bl b=>cases rx;exact SeqAt.EqAt.bool_bool a b
  | int b=>obtain⟨t,rfl⟩:=rx;exact SeqAt.EqAt.bool_int a b t
  | str b=>obtain⟨t,rfl⟩:=rx;exact SeqAt.EqAt.bool_str a b t
  | _=>exact absurd (show false=true from fx) Qn
 | int a =>
  obtain⟨t',rfl⟩:=ry
  cases x with
  | non=>cases rx;exact SeqAt.EqAt.int_none a t'
  | bl b=>cases rx;exact SeqAt.EqAt.int_bool a t' b
  | int b=>obtain⟨t,rfl⟩:=rx;exact SeqAt.EqAt.int_int a t' b t
  | str b=>obtain⟨t,rfl⟩:=rx;exact SeqAt.EqAt.int_str a t' b t
  | _=>exact absurd (show false=true from fx) Qn
 | str a =>
  obtain⟨t',rfl⟩:=ry
  cases x with
  | non=>cases rx;exact SeqAt.EqAt.str_none a t'
  | bl b=>cases rx;exact SeqAt.EqAt.str_bool a t' b
  | int b=>obtain⟨t,rfl⟩:=rx;exact SeqAt.EqAt.str_int a t' b t
  | str b=>obtain⟨t,rfl⟩:=rx;exact SeqAt.EqAt.str_str a t' b t
  | _=>exact absurd (show false=true from fx) Qn
 | _=>exact absurd (show false=true from fy) Qn
def eqU (x:V) (u:Value):Bool:=match u with
 | .none=>eqV .non x
 | .bool b=>eqV (.bl b) x
 | .int i _=>eqV (.int i) x
 | .str z _=>eqV (.str z) x
 | _=>false
theorem qi {x y:V} (r:aU y u) (f:cF y=true):eqU x u=eqV y x:=by
 cases y with
 | non=>cases r;rfl
 | bl b=>cases r;rfl
 | int i=>obtain⟨t,rfl⟩:=r;rfl
 | str z=>obtain⟨t,rfl⟩:=r;rfl
 | _=>exact absurd (show false=true from f) Qn
theorem iV {x:V}:∀{xs:List V} {us:List Value},aL xs us->xs.all cF=true->us.any (eqU x)=xs.any λy=>eqV y x
 | _,_,.nil,_=>rfl
 | y::xs,u::us,.cons r t,f=>by
  rw[List.all_cons,xF]at f;rw[List.any_cons,List.any_cons,qi r f.1,iV t f.2]
theorem fP {A:Around} {s:Shared} {x:V} {v:Value} (rx:aU x v) (fx:cF x=true):∀{xs:List V} {us:List Value},aL xs us->xs.all cF=true->∀u∈us,SeqAt.EqAt A s u v (eqU x u)
 | _,_,.nil,_=>λu hu=>by cases hu
 | y::xs,u::us,.cons r t,f=>λu' hu=>by
  rw[List.all_cons,xF]at f;rcases Qg.mp hu with rfl|hu
  ·rw[qi r f.1];exact qj r rx f.1 fx
  exact fP rx fx t f.2 u' hu
def inV (x:V) (xs:List V):Bool:=xs.any λy=>eqV y x
def rIn (K:PySem.W.Frag) (neg:Bool):R2:=λx y H Q=>∃p xs,y=.ref p/\(SqL K H p xs\/SqT K H p xs)/\cF x=true/\xs.all cF=true/\Q (.bl (if neg then !inV x xs else inV x xs)) H
theorem eJ:OpR X (compareOp .In) (rIn X.K false):=by
 intro pins s U H x y v u Q I rx ry h;obtain⟨p,xs,rfl,hq,fx,fs,q⟩:=h;cases ry;rcases hq with hq|hq
 ·obtain⟨its,r,pl,hz⟩:=I.list hq;refine SeqAt.in_listAt (eqU x) pl.isList (λw hw=>fP rx fx r fs w (by simpa using hw)) ⟨.bl _,H,I,rfl,?_⟩;rw[show its.toArray.any (eqU x)=its.any (eqU x) by simp,iV r fs];exact q
 obtain⟨its,r,pl,hz⟩:=I.tuple hq;refine SeqAt.in_tupleAt (eqU x) pl (λw hw=>fP rx fx r fs w (by simpa using hw)) ⟨.bl _,H,I,rfl,?_⟩;rw[show its.toArray.any (eqU x)=its.any (eqU x) by simp,iV r fs];exact q
theorem aB:cG X (.builtin "len") (λxs H Q=>∃p ys,xs=[.ref p]/\(SqL X.K H p ys\/SqT X.K H p ys)/\Q (.int ys.length) H):=by
 intro pins s U H xs us Q I r h;obtain⟨p,ys,rfl,hq,q⟩:=h;obtain⟨u,rfl,rx⟩:=cR r;cases rx;have hn:=eM;rcases hq with hq|hq
 ·obtain⟨its,r',pl,hz⟩:=I.list hq;have hlen:=r'.length;exact Calls.call_len_list pl.isList (by simp only[Qk] <;> omega) ⟨.int ys.length,H,I.tok _,⟨s.toks+1,by rw[Qk,hlen]⟩,q⟩
 obtain⟨its,r',pl,hz⟩:=I.tuple hq;have hlen:=r'.length;exact len_tuple pl (by simp only[Qk] <;> omega) ⟨.int ys.length,H,I.tok _,⟨s.toks+1,by rw[Qk,hlen]⟩,q⟩
theorem iQ:cG X (.builtin "len") (λxs H Q=>∃z,xs=[.str z]/\z.length<=sizeLine/\Q (.int z.length) H):=by
 intro pins s U H xs us Q I r h;obtain⟨z,rfl,hz,q⟩:=h;obtain⟨u,rfl,t,rfl⟩:=cR r;have hn:=eM;exact len_str (by omega) ⟨.int z.length,H,I.tok _,⟨_,rfl⟩,q⟩
theorem bE:cG X (.type "list") (λxs H Q=>∃p ys,xs=[.ref p]/\(SqL X.K H p ys\/SqT X.K H p ys)/\∀l,H l=none->Q (.ref l) (upd H l (.lst ys))):=by
 intro pins s U H xs us Q I r h;obtain⟨p,ys,rfl,hq,q⟩:=h;obtain⟨u,rfl,rx⟩:=cR r;cases rx
 have fin:∀(its:List Value),aL ys its->ys.length<=sizeLine->∀(h':Heap) (c':Nat),(∀b o',s.heap.get? b=some o'->h'.get? b=some o') ->
   h'.get? s.heap.objs.size=some { cls:=.type "list", dict:=none,data:=.seq its.toArray c',slots:=#[] }->EP X pins U Q (.ref s.heap.objs.size) { s with heap:=h' }:=λits r' hz h' c' kp e =>
  ⟨.ref s.heap.objs.size,_,I.laid (t':=s.toks) kp (Qi _) (show a7 X.prog X.w _ h' _ (.lst ys) from⟨hz,its,c',r',e⟩),rfl,q _ (I.hok.fresh (Qi _))⟩
 rcases hq with hq|hq
 ·obtain⟨its,r',pl,hz⟩:=I.list hq;have hlen:=r'.length;obtain⟨o,ho,hc,n,hd⟩:=pl.isList;exact call_list_seq p (.inl rfl) ho hc hd (λh' c' kp e=>fin its r' hz h' c' kp e) (by simp only[Qk] <;> omega)
 obtain⟨its,r',pl,hz⟩:=I.tuple hq;have hlen:=r'.length;obtain⟨o,ho,hc,n,hd⟩:=pl;exact call_list_seq p (.inr rfl) ho hc hd (λh' c' kp e=>fin its r' hz h' c' kp e) (by simp only[Qk] <;> omega)
theorem cP:cG X (.type "tuple") (λxs H Q=>∃p ys,xs=[.ref p]/\((SqL X.K H p ys/\∀l,H l=none->Q (.ref l) (upd H l (.tup ys)))\/(SqT X.K H p ys/\Q (.ref p) H))):=by
 intro pins s U H xs us Q I r h;obtain⟨p,ys,rfl,h⟩:=h;obtain⟨u,rfl,rx⟩:=cR r;cases rx;rcases h with⟨hq,q⟩|⟨hq,q⟩
 ·obtain⟨its,r',pl,hz⟩:=I.list hq;have hlen:=r'.length;refine call_tuple_list pl.isList (λh' kp=>?_) (by simp only[Qk] <;> omega);have I1:Inv X pins U H { s with heap:=h' }:=I.kept (t':=s.toks) kp
  have I2:Inv X pins U (upd H h'.objs.size (.tup ys)) { s with heap:=h'.push { cls:=.type "tuple", data:=.seq its.toArray } } :=
   I1.laid (t':=s.toks) (λb o e=>Qd _ e) (Qi _) (show a7 X.prog X.w _ _ _ (.tup ys) from⟨hz,its,r',IsTup.new _ _⟩)
  exact⟨.ref h'.objs.size,_,I2,rfl,q _ (I1.hok.fresh (Qi _))⟩
 obtain⟨its,r',pl,hz⟩:=I.tuple hq;exact call_tuple_same pl ⟨.ref p,H,I,rfl,q⟩
def tyV (K:PySem.W.Frag) (T:String) (x:V) (H:Hp):Prop:=match x with
 | .str _=>T = "str"
 | .int _=>T = "int"
 | .ref p=>(T = "list" /\ ∃xs,SqL K H p xs)\/(T = "tuple" /\ ∃o,K.lookup p=some o/\o.cls=.type "tuple" /\ o.dict=none) \/
   (T = "dict" /\ ((∃kvs,H p=some (.dK kvs))\/∃kvs,H p=some (.dT kvs)))\/(T = "set" /\ ∃S n,H p=some (.set S n))
 | _=>False
theorem tj {U:St} {H:Hp} {T:String} {x:V} (I:Inv X pins U H s) (r:aU x v) (ty:tyV X.K T x H) :
  s.TypeIs v T/\∀a,v=.ref a->∃ob,s.heap.get? a=some ob/\ob.dict=none:=by
 cases x with
 | str z =>
  obtain⟨t,rfl⟩:=r;cases (show T = "str" from ty);exact⟨typeIs_str s z t,λ_ e=>nomatch e⟩
 | int i =>
  obtain⟨t,rfl⟩:=r;cases (show T = "int" from ty);exact⟨typeIs_int s i t,λ_ e=>nomatch e⟩
 | ref p =>
  cases r;rcases ty with⟨rfl,xs,hq⟩|⟨rfl,o,hk,hc,hd⟩|⟨rfl,hk⟩|⟨rfl,S,n,hk⟩
  ·obtain⟨its,_,pl,_⟩:=I.list hq;refine⟨pl.isList.typeIs,λa e=>?_⟩;cases e;obtain⟨o,n,e,c,hd,_⟩:=pl;exact⟨o,e,hd⟩
  ·refine⟨⟨o,I.kIn p o hk,hc⟩,λa e=>?_⟩;cases e;exact⟨o,I.kIn _ o hk,hd⟩
  ·have z:∃o,s.heap.get? p=some o/\o.ExactDict:=by
    rcases hk with⟨kvs,hk⟩|⟨kvs,hk⟩
    ·obtain⟨_,_,_,_,o,_,_,e,ex,_⟩:=I.hok p _ hk;exact⟨o,e,ex⟩
    obtain⟨_,_,_,_,o,_,_,e,ex,_⟩:=I.hok p _ hk;exact⟨o,e,ex⟩
   obtain⟨o,e,ex⟩:=z;refine⟨⟨o,e,ex.1⟩,λa e2=>?_⟩;cases e2;exact⟨o,e,ex.2.1⟩
  obtain⟨o,_,_,_,e,ex,_⟩:=I.hok p _ hk;refine⟨⟨o,e,ex.1⟩,λa e2=>?_⟩;cases e2;exact⟨o,e,ex.2.1⟩
 | _=>exact False.elim ty
def tBM (K:PySem.W.Frag) (T:String) (r:V->List V->Hp->VK->Prop) (to:TE) (t:TA):TE:=λU H Q=>to U H λx H1=>tyV K T x H1/\t U H1 λxs H2=>r x xs H2 Q
variable {o e:Expr} {es:List Expr} {to:TE} {t:TA} {name:Str} {apos cpos:Pos} {T id:String} {r:V->List V->Hp->VK->Prop}
theorem bt (pa:PlainAttrs T) (slot:Slot T name id) (hty:typeOf (.builtin id)=pure (.type "method_descriptor")) (hm:MtR X id r) (ho:PE X o to) (ha:PA X (e::es) t)
  (hbase:attributeBase o name X.env (eval o X.env)=eval o X.env:=by rfl)
  (hfew:((backTo cpos (starEach (e::es) X.env)).all (fun x=>!x.1)&&(backToKw cpos (keywordEach [] X.env)).all (fun x=>x.1.isSome)
   && decide ((e::es).length+([]:List Keyword).length+(if ([]:List Keyword).isEmpty then 0 else 1)<30))=true:=by rfl)
  (hline:(apos.endLine==cpos.line)=true:=by rfl) (hs:starEach (e::es) X.env=(false,eval e X.env)::starEach es X.env:=by rfl) (hplain:(backTo cpos (starEach es X.env)).any (·.1)=false:=by rfl) :
  PE X (.Call (.Attribute o name apos) (e::es) [] cpos) (tBM X.K T r to t):=by
 intro pins s U H Q I h;refine wpAny_Call_method_late hbase hfew hline rfl (thn (ho pins s U H _ I h) λv s1 ⟨x,H1,I1,r1,ty,q1⟩=>?_);obtain⟨h1,h2⟩:=tj I1 r1 ty;refine⟨T,id,pa,slot,hty,h1,h2,?_⟩;have hA:=ha cpos pins s1 U H1 _ I1 q1;rw[hs]at hA ⊢;refine Calls.callWith_builtin (by show (false || (backTo cpos (starEach es X.env)).any (·.1))=false;rw[hplain] <;> rfl) (Calls.evalArgs_plain ?_);exact thn hA λus s2 ⟨vs,H2,I2,r2,q2⟩=>hm pins s2 U H2 x vs v us Q I2 r1 r2 q2
end
def MtM (X:Cx) (id:String) (r:V->List V->Hp->VK->Prop):Prop :=
 ∀(pins:A1) (s:Shared) (U:St) (H:Hp) (x:V) (xs:List V) (v:Value) (us:List Value) (Q:VK),Inv X pins U H s->aU x v->aL xs us->r x xs H Q ->
  wpAny (model X.prog X.w) X.A (call (.builtin id) (v::us)) (EP X pins U Q) X.xe s
theorem aL.one:∀{x:V} {us:List Value},aL [x] us->∃u,us=[u]/\aU x u
 | _,_,.cons r .nil=>⟨_,rfl,r⟩
theorem aL.two:∀{x y:V} {us:List Value},aL [x,y] us->∃u v,us=[u,v]/\aU x u/\aU y v
 | _,_,_,.cons r (.cons q .nil)=>⟨_,_,rfl,r,q⟩
theorem aL.eraseIdx:∀{xs:List V} {us:List Value} (i:Nat),aL xs us->aL (xs.eraseIdx i) (us.eraseIdx i)
 | _,_,_,.nil=>.nil
 | _,_,0,.cons _ t=>t
 | _,_,i+1,.cons r t=>.cons r (aL.eraseIdx i t)
theorem gE {α:Type}:∀(l:List α) (i:Nat),(l.eraseIdx i).length<=l.length
 | [],_=>Qi _
 | _::_,0=>Nat.le_succ _
 | _::r,i+1=>Nat.succ_le_succ (gE r i)
section
variable {X:Cx} {pins:A1} {U:St} {H:Hp} {s:Shared} {l b:Addr} {xs ys zs:List V}
theorem Inv.lset {its its':List Value} {n:Nat} {f:Array Value->Array Value} {t':Nat} (I:Inv X pins U H s) (hH:H l=some (.lst xs))
  (e:s.heap.get? l=some { cls:=.type "list", data:=.seq its.toArray n }) (hf:f its.toArray=its'.toArray) (hv:aL ys its') (hz:ys.length<=sizeLine) :
  Inv X pins U (upd H l (.lst ys)) { s with heap:=s.heap.update l (Obj.mapSeq f),toks:=t' }:=by
 have q:=PySem.IsL.update e f;rw[hf]at q;refine I.write (x:=l) (e:=l) (by rw[hH];exact trivial) (.inl rfl) (λb' u hb hu=>(xg s.heap (Obj.mapSeq f) (Ne.symm hb)).trans hu) ⟨_,q⟩ ?_;exact⟨hz,its',_,hv,q⟩
theorem Inv.lnew {its:List Value} {t':Nat} (I:Inv X pins U H s) (hv:aL ys its) (hz:ys.length<=sizeLine) :
  Inv X pins U (upd H s.heap.objs.size (.lst ys)) { s with heap:=s.heap.push { cls:=.type "list", data:=.seq its.toArray },toks:=t' } :=
 I.laid (λ_ _ q=>Qd _ q) (Qi _) ⟨hz,its,0,hv,Qt _ rfl⟩
theorem Inv.fresh (I:Inv X pins U H s):H s.heap.objs.size=none:=I.hok.fresh (Qi _)
theorem Inv.lstM (I:Inv X pins U H s) (hH:H l=some (.lst xs)):xs.length<=sizeLine/\∃(its:List Value) (n:Nat),aL xs its/\xs.length=its.length/\s.heap.get? l=some { cls:=.type "list", data:=.seq its.toArray n }:=by
 obtain⟨z,its,n,r,e⟩:=I.hok l _ hH;exact⟨z,its,n,r,r.length,e⟩
end
section
variable {X:Cx}
def lI:V->List V->Hp->VK->Prop:=λx vs H Q=>∃l xs y,x=.ref l/\vs=[y]/\H l=some (.lst xs)/\xs.length<sizeLine/\Q .non (upd H l (.lst (xs++[y])))
theorem aZ:MtM X "list.append" lI:=by
 intro pins s U H x vs v us Q I rx rv h;obtain⟨l,xs,y,rfl,rfl,hH,hz,q⟩:=h;cases rx;obtain⟨u,rfl,ru⟩:=rv.one;obtain⟨z,its,n,r,hl,e⟩:=I.lstM hH;refine call_meets F.slot_list_append ⟨_,e,rfl⟩ F.entry_list_append (F.args_list_append_2 _ _) (PySem.list_append l its.toArray n u (by rw[Qk];omega)) ⟨e,?_⟩;refine⟨.non,_,I.lset (its':=its++[u]) hH e (by simp) (r.append (.cons ru .nil)) ?_,rfl,q⟩;rw[Qh,Qs];omega
def tK:V->List V->Hp->VK->Prop:=λx vs H Q=>∃l xs i k y,x=.ref l/\vs=[.int i]/\H l=some (.lst xs)/\-(2 ^ 63)<=i/\i<2 ^ 63/\seqIndex? i xs.length=some k/\xs[k]?=some y/\Q y (upd H l (.lst (xs.eraseIdx k)))
theorem pJ:MtM X "list.pop" tK:=by
 intro pins s U H x vs v us Q I rx rv h;obtain⟨l,xs,i,k,y,rfl,rfl,hH,h1,h2,hk,hy,q⟩:=h;cases rx;obtain⟨u,rfl,ru⟩:=rv.one;obtain⟨t,rfl⟩:=ru;obtain⟨z,its,n,r,hl,e⟩:=I.lstM hH;obtain⟨w,hw,rw'⟩:=r.get hy
 refine call_meets F.slot_list_pop ⟨_,e,rfl⟩ F.entry_list_pop (F.args_list_pop_2 _ _)
  (MeetsSeq.list_pop_at l its.toArray n i t k w (fitsIndex_both h1 h2) (by rw[Qk,<-hl];exact hk) (by rw[<-Q0];exact hw) (by rw[Qk];omega)) ⟨e,?_⟩
 refine⟨y,_,I.lset (its':=its.eraseIdx k) hH e ?_ (r.eraseIdx k) ?_,rw',q⟩
 ·show its.toArray.eraseIdxIfInBounds k=(its.eraseIdx k).toArray;rw[List.eraseIdxIfInBounds_toArray]
 have:=gE xs k;omega
def qU:R2:=λx y H Q=>∃l b xs zs,x=.ref l/\y=.ref b/\H l=some (.lst xs)/\H b=some (.lst zs)/\xs.length+zs.length<=sizeLine/\∀p,H p=none->Q (.ref p) (upd H p (.lst (xs++zs)))
theorem cO:OpR X (binaryOp .Add) qU:=by
 intro pins s U H x y v u Q I rx ry h;obtain⟨l,b,xs,zs,rfl,rfl,hH,hB,hz,q⟩:=h;cases rx;cases ry;obtain⟨z,its,n,r,hl,e⟩:=I.lstM hH;obtain⟨z2,its2,n2,r2,hl2,e2⟩:=I.lstM hB;refine PySem.P.add_list e e2 ?_ (by rw[Qk,Qk];omega);have ea:its.toArray++its2.toArray=(its++its2).toArray:=by simp
 rw[ea];exact⟨.ref _,_,I.lnew (t':=s.toks) (r.append r2) (by rw[Qh];omega),rfl,q _ I.fresh⟩
end
section
variable {prog:Program} {w:World} {A:Around} {E:A0} {s:Shared}
end
section
variable {X:Cx}
end
section
variable {κ:Type} [DecidableEq κ]
def bH (kvs:List (κ × V)) (k:κ):Option V:=(kvs.find? λkv=>decide (kv.1=k)).map (·.2)
def bL (kvs:List (κ × V)) (k:κ) (v:V):List (κ × V) :=
 if (kvs.any λkv=>decide (kv.1=k))=true then kvs.map (λkv=>if kv.1=k then (kv.1,v) else kv) else kvs++[(k,v)]
variable {r kvs:List (κ × V)}
theorem bv {p:κ × V} {k:κ} (e:p.1=k):bH (p::r) k=some p.2:=by simp[bH,List.find?_cons,e]
theorem bw {p:κ × V} {k:κ} (e:¬p.1=k):bH (p::r) k=bH r k:=by simp[bH,List.find?_cons,e]
theorem cg (k:κ):∀kvs:List (κ × V),(kvs.any λkv=>decide (kv.1=k))=(bH kvs k).isSome
 | []=>rfl
 | p::r=>by
  rw[List.any_cons];by_cases e:p.1=k
  ·simp only[bv e,QA e,Bool.true_or,Option.isSome_some]
  rw[bw e,Qy e,Bool.false_or];exact cg k r
theorem i_ (k j:κ) (y:V):∀kvs:List (κ × V),bH (kvs.map λkv=>if kv.1=k then (kv.1,y) else kv) j=(bH kvs j).map λx=>if j=k then y else x
 | []=>rfl
 | p::r=>by
  have ih:=i_ k j y r;rw[Qu];by_cases h:p.1=k
  ·rw[Qw h];by_cases e:p.1=j
   ·rw[bv (p:=(p.1,y)) e,bv e,Option.map_some,Qw (e.symm.trans h)]
   rw[bw (p:=(p.1,y)) e,bw e,ih]
  rw[Qq h];by_cases e:p.1=j
  ·rw[bv (p:=p) e,bv e,Option.map_some,Qq (λz=>h (e.trans z))]
  rw[bw (p:=p) e,bw e,ih]
theorem gk (k j:κ) (y:V):∀kvs:List (κ × V),bH kvs k=none->bH (kvs++[(k,y)]) j=if j=k then some y else bH kvs j
 | [],_=>by
  by_cases e:k=j
  ·rw[Qw e.symm];exact bv (p:=(k,y)) e
  rw[Qq (λz=>e z.symm)];exact bw (p:=(k,y)) e
 | p::r,hn=>by
  rw[List.cons_append];have hk:¬p.1=k:=λz=>by rw[bv z]at hn;cases hn
  rw[bw hk]at hn;have ih:=gk k j y r hn;by_cases e:p.1=j
  ·rw[bv e,bv e,Qq (λz=>hk (e.trans z))]
  rw[bw e,bw e,ih]
theorem i8 (kvs:List (κ × V)) (k j:κ) (y:V):bH (bL kvs k y) j=if j=k then some y else bH kvs j:=by
 unfold bL;by_cases a:(kvs.any λkv=>decide (kv.1=k))=true
 ·rw[Qw a,i_];rw[cg]at a;by_cases e:j=k
  ·obtain⟨x,hx⟩:=Option.isSome_iff_exists.mp a;rw[Qw e,e,hx,Option.map_some,Qw rfl]
  rw[Qq e]
  cases bH kvs j with
  | none=>rfl
  | some x=>rw[Option.map_some,Qq e]
 rw[Qq a];refine gk k j y kvs ?_;rw[cg]at a
 cases q:bH kvs k with
 | none=>rfl
 | some x=>rw[q]at a;exact(a rfl).elim
theorem ci (kvs:List (κ × V)) (k:κ) (v:V):(bL kvs k v).length<=kvs.length+1:=by
 unfold bL
 split
 ·rw[Qc];omega
 rw[Qh,xr,List.length_nil];omega
theorem oU {k:κ} (v:V) (h:bH kvs k=none):bL kvs k v=kvs++[(k,v)]:=by
 unfold bL;rw[cg,h];exact Qq (by decide)
theorem eS.isSome_eq {o:Option V} {u:Option Value} (r:eS o u):o.isSome=u.isSome:=by
 cases o with
 | none=>cases u with
  | none=>rfl
  | some _=>exact(show False from r).elim
 | some _=>cases u with
  | none=>exact(show False from r).elim
  | some _=>rfl
variable {vs:List (κ × Value)}
theorem KV.val (r:KV kvs vs) (k:κ):eS (bH kvs k) (valueAt vs k):=by
 unfold KV at r
 induction r with
 | nil=>exact True.intro
 | @cons p q ps qs h t ih =>
 obtain⟨h1,h2⟩:=h;by_cases e:p.1=k
 ·have e':q.1=k:=h1.symm.trans e;have b:valueAt (q::qs) k=some q.2:=by simp[valueAt,List.find?_cons,e']
  rw[bv e,b];exact h2
 have e':¬q.1=k:=λz=>e (h1.trans z);have b:valueAt (q::qs) k=valueAt qs k:=by simp[valueAt,List.find?_cons,e']
 rw[bw e,b];exact ih
theorem KV.any (r:KV kvs vs) (k:κ):(kvs.any λkv=>decide (kv.1=k))=vs.any λkv=>decide (kv.1=k):=by
 unfold KV at r
 induction r with
 | nil=>rfl
 | cons h t ih=>rw[List.any_cons,List.any_cons,ih,h.1]
theorem KV.repl (r:KV kvs vs) (k:κ) {y:V} {u:Value} (ry:aU y u) :
  KV (kvs.map λkv=>if kv.1=k then (kv.1,y) else kv) (vs.map λkv=>if kv.1=k then (kv.1,u) else kv):=by
 unfold KV at r ⊢
 induction r with
 | nil=>exact .nil
 | @cons p q ps qs h t ih =>
 rw[Qu,Qu];refine .cons ?_ ih;obtain⟨h1,h2⟩:=h;by_cases e:p.1=k
 ·rw[Qw e,Qw (h1.symm.trans e)];exact⟨h1,ry⟩
 rw[Qq e,Qq (λz=>e (h1.trans z))];exact⟨h1,h2⟩
theorem KV.put (r:KV kvs vs) (k:κ) {y:V} {u:Value} (ry:aU y u):KV (bL kvs k y) (stored vs k u):=by
 unfold bL stored;rw[r.any k];by_cases e:(vs.any λkv=>decide (kv.1=k))=true
 ·rw[Qw e,Qw e];exact r.repl k ry
 rw[Qq e,Qq e];exact Paired.snoc r ⟨rfl,ry⟩
theorem KV.length (r:KV kvs vs):kvs.length=vs.length:=xi r
end
variable {u:Value} {P prog:Program}
theorem jO {w:World} {k:Key} (r:aU (kV k) u):(ax P w).is k u=true:=by
 cases k with
 | inl i=>obtain⟨t,e⟩:=(show ∃t,u=Value.int i t from r);subst e;exact jH P w i t
 | inr x=>obtain⟨t,e⟩:=(show ∃t,u=Value.str x t from r);subst e;exact jG P w x t
theorem pV {a b:Key} (e:kV a=kV b):a=b:=by
 cases a with
 | inl i=>cases b with
  | inl j=>have e':V.int i=V.int j:=e;injection e' with e';rw[e']
  | inr y=>exact nomatch (show V.int i=V.str y from e)
 | inr x=>cases b with
  | inl j=>exact nomatch (show V.str x=V.int j from e)
  | inr y=>have e':V.str x=V.str y:=e;injection e' with e';rw[e']
theorem iH:∀{a b:List Key},a.map kV=b.map kV->a=b
 | [],[],_=>rfl
 | [],_::_,e=>by simp at e
 | _::_,[],e=>by simp at e
 | x::xs,y::ys,e=>by
  rw[Qu,Qu]at e;injection e with e1 e2;rw[pV e1,iH e2]
theorem gG {P:Program} {w:World}:∀{ks:List Key} {us:List Value},aL (ks.map kV) us->ItemsAre (ax P w) ks us
 | [],_,r=>by rw[List.map_nil]at r;cases r;exact .nil
 | k::ks,_,r=>by
  rw[Qu]at r
  cases r with
  | cons h t=>exact .cons (jO h) (gG t)
abbrev KT (H:Hp):List (av × V)->List (av × Addr × Value)->Prop:=Paired λp q=>p.1=q.1/\bA H p.1 q.2.1/\aU p.2 q.2.2
variable {xs:List (av × Addr × Value)} {kvs:List (av × V)} {H H':Hp}
theorem KT.val (r:KT H kvs xs) (k:av):eS (bH kvs k) ((atKey xs k).map (·.2)):=by
 induction r with
 | nil=>exact True.intro
 | @cons p q ps qs h t ih =>
 obtain⟨h1,_,h2⟩:=h;by_cases e:p.1=k
 ·have e':q.1=k:=h1.symm.trans e;have b:atKey (q::qs) k=some q.2:=by simp[atKey,List.find?_cons,e']
  rw[bv e,b];exact h2
 have e':¬q.1=k:=λz=>e (h1.trans z);have b:atKey (q::qs) k=atKey qs k:=by simp[atKey,List.find?_cons,e']
 rw[bw e,b];exact ih
theorem KT.repl (r:KT H kvs xs) (k:av) {y:V} (ry:aU y u) :
  KT H (kvs.map λkv=>if kv.1=k then (kv.1,y) else kv) (xs.map (putAt k u)):=by
 induction r with
 | nil=>exact .nil
 | @cons p q ps qs h t ih =>
 rw[Qu,Qu];refine .cons ?_ ih;obtain⟨h1,h2,h3⟩:=h;unfold putAt;by_cases e:p.1=k
 ·rw[Qw e,Qw (h1.symm.trans e)];exact⟨h1,h2,ry⟩
 rw[Qq e,Qq (λz=>e (h1.trans z))];exact⟨h1,h2,h3⟩
variable {b a:Addr}
theorem KT.put (r:KT H kvs xs) (k:av) {y:V} (hb:bA H k b) (ry:aU y u) :
  KT H (bL kvs k y) (storedH xs k b u):=by
 have e:(kvs.any λkv=>decide (kv.1=k))=(atKey xs k).isSome:=by
  rw[cg,(r.val k).isSome_eq,Option.isSome_map]
 unfold bL storedH;rw[e];by_cases q:(atKey xs k).isSome=true
 ·rw[Qw q,Qw q];exact r.repl k ry
 rw[Qq q,Qq q];exact Paired.snoc r ⟨rfl,hb,ry⟩
theorem KT.keeps (r:KT H kvs xs) (ht:∀b ys,H b=some (.tup ys)->H' b=some (.tup ys)):KT H' kvs xs :=
 Paired.mapP r λ_ _ z=>⟨z.1,z.2.1.keeps ht,z.2.2⟩
section
variable {P:Program} {w:World} {H:Hp} {h:Heap} {a:Addr}
theorem oN {u:HO} (ok:HOk P w H h) (e:Rd H a u):a7 P w H h a u:=e.ok ok
variable {kvs:List (Key × V)}
theorem mB (ok:HOk P w H h) (e:Rd H a (.dK kvs)):kvs.length<=sizeLine/\(a==sysModules)=false/\∃vs,KV kvs vs/\h.DictOf (ax P w) a vs :=
 show a7 P w H h a (.dK kvs) from oN ok e
theorem vE (ok:HOk P w H h) (e:H a=some (.dK kvs)):kvs.length<=sizeLine/\(a==sysModules)=false/\∃vs,KV kvs vs/\h.DictOf (ax P w) a vs:=mB ok (.inl e)
theorem jM (ok:HOk P w H h):∀{ks:av} {vs:List V} {its:List Value},Paired (KIt H) ks vs->aL vs its->TK.Its (ax P w) h ks its
 | _,_,_,.nil,.nil=>.nil
 | k::_,_,_,.cons q t,.cons rv r=>.cons (by
   cases k with
   | inl k=>cases q;exact jO rv
   | inr ks =>
   obtain⟨c,rfl,q⟩:=q;obtain⟨_,its,r,o,h1,h2,n,h3⟩:=(show a7 P w H h c (.tup (ks.map kV)) from ok c _ q)
   exact⟨c,rv,o,its.toArray,n,h1,h2,h3,by simpa using gG r⟩) (jM ok t r)
theorem c8 {ks:av} (ok:HOk P w H h) (e:bA H ks a):(be P w).is h ks a:=by
 obtain⟨vs,e,pr⟩:=e;obtain⟨_,its,r,o,h1,h2,n,h3⟩:=(show a7 P w H h a (.tup vs) from ok a _ e);exact⟨o,its.toArray,n,h1,h2,h3,by simpa using jM ok pr r⟩
theorem my {kvs:List (av × V)} (ok:HOk P w H h) (e:Rd H a (.dT kvs)):kvs.length<=sizeLine/\(a==sysModules)=false /\
  ∃xs,KT H kvs xs/\h.DictOfH (be P w) a xs:=by
 obtain⟨z,y,xs,r,o,es,ep,h1,h2,h3,h4,h5⟩:=(show a7 P w H h a (.dT kvs) from oN ok e);refine⟨z,y,xs,r,o,es,ep,h1,h2,h3,h4,λx hx=>?_,h5⟩
 have all:∀{l:List (av × V)} {m:List (av × Addr × Value)},KT H l m->∀x∈m,(be P w).is h x.1 x.2.1:=by
  intro l m q
  induction q with
  | nil=>intro x hx;exact nomatch hx
  | @cons p q ps qs hq t ih =>
  intro x hx;rcases Qg.mp hx with e|hx
  ·subst e;exact c8 ok (by rw[<-hq.1];exact hq.2.1)
  exact ih x hx
 exact all r x hx
theorem sV {kvs:List (av × V)} (ok:HOk P w H h) (e:H a=some (.dT kvs)):kvs.length<=sizeLine/\(a==sysModules)=false /\
  ∃xs,KT H kvs xs/\h.DictOfH (be P w) a xs:=my ok (.inl e)
end
def eA (H:Hp) (a:Addr) (y:V) (r:Option V):Prop :=
 (∃kvs k,Rd H a (.dK kvs)/\y=kV k/\r=bH kvs k)\/∃kvs k b,Rd H a (.dT kvs)/\y=.ref b/\bA H k b/\r=bH kvs k
def gi (H:Hp) (a:Addr) (y v:V) (H':Hp):Prop :=
 (∃kvs k,H a=some (.dK kvs)/\y=kV k/\kvs.length<sizeLine/\H'=upd H a (.dK (bL kvs k v))) \/
 ∃kvs k b,H a=some (.dT kvs)/\y=.ref b/\bA H k b/\kvs.length<sizeLine/\H'=upd H a (.dT (bL kvs k v))
theorem eA.t {k:av} (e:H a=some (.dT kvs)) (eb:bA H k b):eA H a (.ref b) (bH kvs k):=.inr ⟨kvs,k,b,.inl e,rfl,eb,rfl⟩
theorem gi.t {k:av} {v:V} (e:H a=some (.dT kvs)) (eb:bA H k b) (hl:kvs.length<sizeLine) :
  gi H a (.ref b) v (upd H a (.dT (bL kvs k v))):=.inr ⟨kvs,k,b,e,rfl,eb,hl,rfl⟩
section
variable {X:Cx} {pins:A1} {U:St} {H:Hp} {s:Shared} {a:Addr} {y v:V} {u r:Value} {o:Option V} {A:Around} {E:A0}
theorem Inv.big (I:Inv X pins U H s):sysModules<s.heap.objs.size:=by
 have h:mainGlobals<s.heap.objs.size:=(I.mod.glob.keeps I.bk).lt;exact Nat.lt_trans (by decide) h
variable {Q:A0}
theorem nR (hu:A.units+8<cLine) (I:Inv X pins U H s) (g:eA H a y (some v)) (ry:aU y u) (h:∀w' s',Inv X pins U H s'->aU v w'->Q w' s') :
  wpAny (model X.prog X.w) A (getItem (.ref a) u) Q E s:=by
 rcases g with⟨kvs,k,e,ey,l⟩|⟨kvs,k,b,e,ey,eb,l⟩
 ·subst ey;obtain⟨z,hd,vs,rel,dd⟩:=mB I.hok e;obtain⟨w',hw,rw'⟩:=eS.some_of (v:=v) (o:=valueAt vs k) (by rw[l];exact rel.val k);exact wpAny_getItem_of (jO ry) dd.mapOf hw (h w' _ (I.tok _) rw')
 subst ey;cases (show u=Value.ref b from ry);obtain⟨z,hd,xs,rel,dd⟩:=my I.hok e;obtain⟨w',hw,rw'⟩:=eS.some_of (v:=v) (o:=(atKey xs k).map (·.2)) (by rw[l];exact rel.val k);obtain⟨p,hp,hp2⟩:=xh.mp hw;refine wpAny_getItem_heap (gW hu) (c8 I.hok eb) dd hp ?_;rw[hp2];exact h w' _ (I.tok _) rw'
theorem rP (hu:A.units+8<cLine) (I:Inv X pins U H s) (g:eA H a y o) (ry:aU y u) (h:∀s',Inv X pins U H s'->Q (.bool (!o.isSome)) s') :
  wpAny (model X.prog X.w) A (compareOp .NotIn u (.ref a)) Q E s:=by
 rcases g with⟨kvs,k,e,ey,l⟩|⟨kvs,k,b,e,ey,eb,l⟩
 ·subst ey;obtain⟨z,hd,vs,rel,dd⟩:=mB I.hok e;refine wpAny_notIn_of (jO ry) hd dd.mapOf ?_;rw[<-(rel.val k).isSome_eq,<-l];exact h _ (I.tok _)
 subst ey;cases (show u=Value.ref b from ry);obtain⟨z,hd,xs,rel,dd⟩:=my I.hok e;refine wpAny_notIn_heap (gW hu) (c8 I.hok eb) hd dd ?_;have q:=(rel.val k).isSome_eq;rw[Option.isSome_map]at q;rw[<-q,<-l];exact h _ (I.tok _)
theorem iN {h':Heap} {t':Nat} {ob:HO} (I:Inv X pins U H s) (mu:Mut (H a)) (hs:Heap.SameBut a s.heap h') (he:∃q,h'.get? a=some q) (new:a7 X.prog X.w (upd H a ob) h' a ob) :
  Inv X pins U (upd H a ob) { s with heap:=h',toks:=t' } :=
 I.write (x:=a) (e:=a) mu (.inl rfl) (λb q hb z=>(hs.2 b hb).trans z) he new
theorem ut {P:Program} {w:World} {H':Hp} {h':Heap} {kvs:List (Key × V)} {vs:List (Key × Value)} (z:kvs.length<=sizeLine) (hd:(a==sysModules)=false) (rel:KV kvs vs) (dd:h'.DictOf (ax P w) a vs) :
  a7 P w H' h' a (.dK kvs):=⟨z,hd,vs,rel,dd⟩
theorem nQ {H':Hp} {Q:Unit->Shared->Prop} (hu:A.units+8<cLine) (I:Inv X pins U H s) (g:gi H a y v H') (ry:aU y u) (rv:aU v r) (h:∀s',Inv X pins U H' s'->Q () s') :
  wpAny (model X.prog X.w) A (setItem (.ref a) u r) Q E s:=by
 rcases g with⟨kvs,k,e,ey,l,eH⟩|⟨kvs,k,b,e,ey,eb,l,eH⟩
 ·subst ey eH;obtain⟨z,hd,vs,rel,dd⟩:=vE I.hok e;have hz:vs.length<=sizeLine:=by rw[<-rel.length];exact z
  have hl:(bL kvs k v).length<=sizeLine:=by have:=ci kvs k v;omega
  refine wpAny_setItem_pairs (hsz:=hz) (jO ry) dd λh' dd' hs=>h _ ?_;have he:∃q,h'.get? a=some q:=let ⟨q,_,_,hq,_⟩:=dd';⟨q,hq⟩;exact iN I (by rw[e];exact True.intro) hs he (ut hl hd (rel.put k rv) dd')
 subst ey eH;cases (show u=Value.ref b from ry);obtain⟨z,hd,xs,rel,dd⟩:=sV I.hok e;have hz:xs.length<=sizeLine:=by rw[<-xi rel];exact z
 have hl:(bL kvs k v).length<=sizeLine:=by have:=ci kvs k v;omega
 refine wpAny_setItem_heap (hsz:=hz) (gW hu) (c8 I.hok eb) dd λh' dd' hs=>h _ ?_;obtain⟨q,es,ep,hq,h2,h3,h4,_,h5⟩:=dd';refine iN I (by rw[e];exact True.intro) hs ⟨q,hq⟩ ⟨hl,hd,_,(rel.put k eb rv).keeps λc ys ec=>?_,q,es,ep,hq,h2,h3,h4,h5⟩;rw[ag (sL ec e (λz=>nomatch z))];exact ec
end
section
variable {X:Cx} {pins:A1} {U:St} {H:Hp} {s:Shared} {a:Addr} {kvs:List (Key × V)} {k:Key} {u:Value} {A:Around} {E:A0}
end
def vK (i:Expr):Prop:=∀ov iv,subscripted i false ov iv=operate [ov,iv] (getItem ov iv)
variable {Q E:A0}
theorem qP {w:World} {A:Around} {s:Shared} {env:Env} {value slice:Expr} {pos:Pos} {T id:String}
  (hl:typeLookup (.type T) "__getitem__" = pure (some (.builtin id))) (hs:vK slice)
  (h:wpAny (model prog w) A (eval value env) (λo s₁=>wpAny (model prog w) A (eval slice env) (λi s₂=>s₂.TypeIs o T/\wpAny (model prog w) A (getItem o i) Q E s₂) E s₁) E s) :
  wpAny (model prog w) A (eval (.Subscript value slice pos) env) Q E s:=by
 refine Subscript_ (wpAny_mono h (λo s₁ h₁=>wpAny_mono h₁ (λi s₂ h₂=>?_) λ_ _ x=>x) λ_ _ x=>x);obtain⟨hT,h₂⟩:=h₂;unfold subscriptTail;refine Qa ?_;rw[getitemInPython_of_ne hT.not_modules];refine Qa (wpAny_specialOf hT hl ?_)
 have fin:wpAny (model prog w) A (subscripted slice false o i) (λr s₃=>wpAny (model prog w) A (letTemporaryGo value o r >>= λ_=>pure r) Q E s₃) E s₂:=by
  rw[hs o i];exact wpAny_operating (wpAny_mono h₂ (λr s₃ h₃=>Qa (wpAny_letTemporaryGo (Qf h₃))) λ_ _ x=>x)
 first
  | exact Qf (Qa fin)
  | exact Qa (Qf (Qa fin))
  | exact Qa fin
theorem jW {X:Cx} {pins:A1} {U:St} {s:Shared} {y:V} {o:Option V} (I:Inv X pins U H s) (g:eA H a y o):s.TypeIs (.ref a) "dict" := by
 rcases g with⟨kvs,k,e,_,_⟩|⟨kvs,k,b,e,_,_,_⟩
 ·obtain⟨_,_,vs,_,dd⟩:=mB I.hok e;exact dd.typeIs
 obtain⟨_,_,xs,_,dd⟩:=my I.hok e;exact dd.typeIs
def su (td ty:TE):TE:=λU H Q=>td U H λx H1=>ty U H1 λy H2=>∃a v,x=.ref a/\eA H2 a y (some v)/\Q v H2
def lf (ty td:TE):TE:=λU H Q=>ty U H λy H1=>td U H1 λx H2=>∃a o,x=.ref a/\eA H2 a y o/\Q (.bl (!o.isSome)) H2
def sE (td ty tv:TE):TS:=λD U H=>tv U H λv H1=>td U H1 λx H2=>ty U H2 λy H3=>∃a H4,x=.ref a/\gi H3 a y v H4/\D.nx U H4
section
variable {X:Cx} {o i e value:Expr} {pos pos' tpos:Pos} {td ty tv:TE}
theorem ff (hu:X.A.units+8<cLine) (ho:PE X o td) (hi:PE X i ty) (hs:vK i:=by exact λ_ _=>rfl):PE X (.Subscript o i pos) (su td ty):=by
 intro pins s U H Q I h;refine qP PySem.F.slot_dict_getitem.lookup hs (thn (ho pins s U H _ I h) λu s1 ⟨x,H1,I1,rx,q1⟩=>thn (hi pins s1 U H1 _ I1 q1) λiv s2 ⟨y,H2,I2,ry,a,v,ex,g,q2⟩=>?_);subst ex;obtain rfl:u=Value.ref a:=rx;exact⟨jW I2 g,nR hu I2 g ry λw' s3 I3 rw'=>⟨v,H2,I3,rw',q2⟩⟩
theorem mV (hu:X.A.units+8<cLine) (hi:PE X i ty) (ho:PE X o td):PC X .NotIn i o (lf ty td):=by
 intro pins s U H Q I h;refine thn (hi pins s U H _ I h) λiv s1 ⟨y,H1,I1,ry,q1⟩=>thn (ho pins s1 U H1 _ I1 q1) λu s2 ⟨x,H2,I2,rx,a,ov,ex,g,q2⟩=>?_;subst ex;obtain rfl:u=Value.ref a:=rx;exact rP hu I2 g ry λs3 I3=>⟨.bl (!ov.isSome),H2,I3,rfl,q2⟩
theorem dX (hu:X.A.units+8<cLine) (ho:PE X o td) (hi:PE X i ty) (hv:PE X value tv) (hs:swapsWith value (some (.Subscript o i pos')) pos.line X.env=pure false) :
  PS X (.Assign [.Subscript o i pos'] value pos) (sE td ty tv):=by
 intro pins s U H D I h;refine wpAny_Assign_Subscript (thn (hv pins s U H _ I h) λr s1 ⟨v,H1,I1,rv,q1⟩=>thn (ho pins s1 U H1 _ I1 q1) λu s2 ⟨x,H2,I2,rx,q2⟩=>thn (hi pins s2 U H2 _ I2 q2) λiv s3 ⟨y,H3,I3,ry,a,H4,ex,g,q3⟩=>?_) hs;subst ex;obtain rfl:u=Value.ref a:=rx;exact nQ hu I3 g ry rv λs4 I4=>⟨U,H4,I4,q3⟩
end
theorem jV {w:World} (h:Heap) (hb:sysModules<h.objs.size):a7 P w H (h.push { cls:=.type "dict", data:=.dict #[] }) h.objs.size (.dT []) :=
 ⟨QT _,beq_eq_false_iff_ne.mpr (Ne.symm (QG hb)),[],.nil,_,#[],0,Qt _ rfl,⟨rfl,rfl,rfl⟩,rfl,rfl,List.nodup_nil⟩
def tE:TE:=λ_ H Q=>∀p,H p=none->Q (.ref p) (upd H p (.dT []))
section
variable {X:Cx} {pos:Pos}
theorem o7:PE X (.Dict [] [] pos) tE:=λpins s U H Q I h =>
 wpAny_Dict_empty ⟨.ref s.heap.objs.size,_,I.laid (a:=s.heap.objs.size) (o:=.dT []) (t':=s.toks) (λ_ _ q=>Qd _ q) (Qi _) (jV s.heap I.big),rfl,h _ (I.hok.fresh (Qi _))⟩
end
structure M1 (X:Cx) (o:Expr) (m:Str) (apos:Pos) (e:Expr) (cpos:Pos):Prop where
 base:attributeBase o m X.env (eval o X.env)=eval o X.env
 few:((backTo cpos (starEach [e] X.env)).all (λx=>!x.1)&&(backToKw cpos (keywordEach [] X.env)).all (λx=>x.1.isSome)
  && decide (([e]:List Expr).length+([]:List Keyword).length+(if ([]:List Keyword).isEmpty then 0 else 1)<30))=true
 line:(apos.endLine==cpos.line)=true
 trees:backTo cpos (starEach [e] X.env)=[(false,eval e X.env)]
structure M2 (X:Cx) (o:Expr) (m:Str) (apos:Pos) (e f:Expr) (cpos:Pos):Prop where
 base:attributeBase o m X.env (eval o X.env)=eval o X.env
 few:((backTo cpos (starEach [e,f] X.env)).all (λx=>!x.1)&&(backToKw cpos (keywordEach [] X.env)).all (λx=>x.1.isSome)
  && decide (([e,f]:List Expr).length+([]:List Keyword).length+(if ([]:List Keyword).isEmpty then 0 else 1)<30))=true
 line:(apos.endLine==cpos.line)=true
 trees:backTo cpos (starEach [e,f] X.env)=[(false,eval e X.env),(false,eval f X.env)]
section
variable {X:Cx} {pins:A1} {U:St} {H:Hp} {s:Shared} {a:Addr} {y d:V} {u r:Value} {o:Option V} {A:Around} {E:A0}
end
section
variable {X:Cx} {o e f:Expr} {apos cpos:Pos} {td ty tx:TE}
end
section
variable {X:Cx} {pins:A1} {U:St} {H:Hp} {s:Shared} {a:Addr} {kvs:List (Key × V)} {A:Around} {E:A0}
end
section
variable {X:Cx} {pins:A1} {U:St} {H:Hp} {s:Shared} {a:Addr} {y:V} {u:Value} {A:Around} {E:A0}
end
end L2
namespace Att
open PySem PySem.W PySem.Calls PyProof.Rows
theorem fc {P:Params} {h:Heap}:∀(ns:List Int) (vs:List Value),WellAll P h vs (ns.map WData.int)->IntsAre vs ns:=by
 intro ns
 induction ns with
 | nil =>
  intro vs w;rw[List.map_nil]at w;cases w;exact .nil
 | cons n ns ih =>
 intro vs w;rw[Qu]at w
 cases w with
 | cons a b =>
 cases a;exact .cons _ _ (ih _ b)
theorem mS {l:OpenLaw} {n:Nat} (hn:l.most=some n) {P:Params} {h:Heap} {args:List WData} {vals:List Value}
  (hpre:l.row.toRowW.claim.pre args=true) (hwl:WellAll P h vals args) :
  ∃a vs ns,vals=[Value.ref a]/\args=[WData.list (ns.map WData.int)]/\h.get? a=some { cls:=.type "list", data:=.seq vs.toArray }/\IntsAre vs ns/\ns.length<=n:=by
 have hsh:WShape.hasAll [] args [.list .int]=true:=(pre_splitW hpre).1;have hc:l.pre.holds [] { args:=args }=true:=(pre_splitW hpre).2;obtain⟨d,r,rfl,h1,h2⟩:=hasAllW_cons hsh;obtain rfl:=hasAllW_nil h2;obtain⟨xs,rfl,h3⟩:=hasW_list h1;obtain⟨ns,rfl⟩:=items_int h3
 have hlen:ns.length<=n:=by
  unfold OpenLaw.pre at hc
  have h4:(WTm.not (.lt (.lit (.int (n:Int))) (.len (.arg 0)))).holds [] { args:=[.list (ns.map .int)] }=true:=by
   have h4:=(holds_andW hc).1;rw[hn]at h4;exact h4
  have h5:=condW_of h4 (w_not (w_lt w_lit (w_len_list (w_arg rfl))));rw[Qc]at h5;refine Nat.le_of_not_lt λq=>?_;have q':(n:Int)<((ns.length:Nat):Int):=by omega
  first
   | (rw[QA q']at h5;exact absurd h5 (by decide))
   | (simp at h5;omega)
 cases hwl with
 | cons w1 w2 =>
 cases w2
 cases w1 with
 | list ho hall=>exact⟨_,_,ns,rfl,rfl,ho,fc ns _ hall,hlen⟩
theorem mU (l:OpenLaw) (args:List WData):l.row.toRowW.claim.post args (.bool true) args=true :=
 postW_of (r:=l.row.toRowW) (X:=(true==true))
  (show WShape.has [] (.bool true) .bool=true by first|rfl|decide|simp[WShape.has,WShape.arms,WShape.armsAll])
  (show (WTm.eq .res (.lit (.bool true))).value [] { args:=args,res:=some (.bool true),after:=args }=some (.bool (true==true)) from w_eq_bool (w_res rfl) w_lit) rfl
theorem j0 {l:OpenLaw} {n:Nat} {q:Program} {loose:List Str} {XP:A2->Heap->Prop} {YP:World->Heap->Prop} {d:DefRec}
  (hn:l.most=some n) (hdf:d.params.defaults=[])
  (call:∀(w:World) (s₀ s₁:Shared) (mg mb:A2) (fa:Addr) (o:Obj) (pm cd doc:Value) (a:Addr) (vs:List Value) (ns:List Int),
   Ground q loose [] XP w s₀ mg mb s₁.heap->YP w s₁.heap ->
   s₁.heap.get? fa=some o->o.data=.func (docDef d.name d.params d.body d.scope pm cd doc)->s₁.heap.CodeRec cd d.name->mg d.name=some (.ref fa) ->
   s₁.heap.get? a=some { cls:=.type "list", data:=.seq vs.toArray }->IntsAre vs ns->ns.length<=n->s₁.gens=#[] ->
   codeAny (model l.prog w) callerA (.call (.ref fa) ⟨[.ref a],[]⟩) (λr s'=>r=.ok (.ret (.bool true))/\OldK s₁.heap s'.heap/\s'.os=s₁.os/\AllBare s'.gens) s₁) :
  WalkO q loose XP YP l.row.toRowW d [] (λf vs=>PySem.call f vs):=by
 intro w s₀ s₁ mg mb G Y fa o pm cd doc dV kV ho hd hcd hD hmg hg args vals as hpre hlay hrd hwl hlo;obtain rfl:dV=.none:=Dflts.none hD hdf;obtain rfl:kV=.none:=Dflts.noKw hD;obtain⟨a,vs,ns,rfl,rfl,hobj,hints,hlen⟩:=mS hn hpre hwl;refine enter_call (codeAny_mono (call w s₀ s₁ mg mb fa o pm cd doc a vs ns G Y ho (fd_plain hd) hcd hmg hobj hints hlen hg) λr s' hq=>?_);obtain⟨rfl,h2,h3,h4⟩:=hq;exact⟨.inl ⟨.bool true,.bool true,[],rfl,λ_=>rfl,.bool true,mU l _,λ_=>⟨List.Pairwise.nil,λ_ hm=>(nomatch hm)⟩⟩,h2,h3,h4⟩
section
variable {prog:Program} {w:World} {A:Around} {E:A0} {s:Shared} {K:Frag}
end
end Att
namespace L2
open PySem PySem.Spec PyProof.Rows
theorem gj:∀{vs:List Value} {ns:List Int},IntsAre vs ns->aL (ns.map V.int) vs
 | _,_,.nil=>.nil
 | _,_,.cons n t h=>.cons ⟨t,rfl⟩ (gj h)
end L2
/- THE LAST THEOREM (shape;LID,My.* are yours):
  My.Adr: a structure of the addresses that your layer names (classes,functions);My.Txt K t: a structure (Prop) of the equations over K;
  My.txt_mk:{K} {implicit addresses ..} (e1:nsIn K mainGlobals "law" = some (some (.ref f))) (e2:K.lookup f=some ⟨oc,od,.func (fnOf "law" "law" params body scope dV kV doc pm an cdv ct),sl⟩) (e3:codeIn K cdv "law" = true) ..:∃t,My.Txt K t
(the tactic k_is has no namespace: write k_is) -/
namespace L2
open PySem PySem.Spec PyProof.Rows
abbrev CX0:CXT:=λ_ _ _ _ _ _=>False
abbrev E0:XK:=λ_ _ _=>False
variable {X:Cx}
theorem uX:iY CX0 X E0:=λ_ _ _ _ _ _ _ h=>h.elim
structure Fun (K:PySem.W.Frag) (x qual:Str) (st:Stmt) (f:Addr) (fd:FuncData):Prop where
 ex:∃(oc:Value) (od:Option Addr) (kV doc pm:Value) (an:Option Addr) (cdv ct:Value) (osl:Array (Option Value)),
  fd=PySem.W.fnOf x qual (b9 st) (bJ st) (az st) .none kV doc pm an cdv ct/\K.lookup f=some ⟨oc,od,.func fd,osl⟩/\PySem.W.codeIn K cdv qual=true
 kp:PySem.W.keepIn K (.ref f)=true
section
variable {P:Program} {w:World} {K:PySem.W.Frag} {mg:A2} {base:Heap}
variable {x qual:Str}
theorem Fun.ok {st:Stmt} {f:Addr} {fd:FuncData} {N ps:List Str} {k:Nat} {sp:Sp} (F:Fun K x qual st f fd) (S:FnScope N ps (az st)) (len:∀vs H Q E,sp vs H Q E->vs.length=ps.length)
  (hbody:∀(cdv:Value) (A:Around) (outer:List Env) (s:Shared) (H:Hp) (vs:List V) (Q:VK) (E:XK),Room k (A.deeper (envOfC qual (az st) s.heap.objs.size f cdv))->sp vs H Q E ->
   ∃t,PSs (cxOf CX0 P w K mg base N qual (az st) f cdv A outer s H E).nox (bJ st) t/\t { nx:=λ_ H'=>Q .non H',rt:=Q } (start N vs) H):FnOk P w K mg base CX0 (k+1) f fd ps sp:=by
 obtain⟨oc,od,kV,doc,pm,an,cdv,ct,osl,rfl,lk,hcd⟩:=F.ex;refine sU lk hcd S len λA outer s H vs Q E hr hsp=>?_;obtain⟨t,h,q⟩:=hbody cdv A outer s H vs Q E hr hsp;exact⟨t,h.nox,q⟩
theorem Fun.binds {st:Stmt} {f:Addr} {fd:FuncData} {ps:List Str} (F:Fun K x qual st f fd)
  (h:∀(kV doc pm:Value) (an:Option Addr) (cdv ct:Value) (us:List Value),us.length=ps.length->bindArgs (PySem.W.fnOf x qual (b9 st) (bJ st) (az st) .none kV doc pm an cdv ct) ⟨us,[]⟩=pure (ps.zip us)):dJ K fd ps []:=by
 obtain⟨oc,od,kV,doc,pm,an,cdv,ct,osl,rfl,lk,hcd⟩:=F.ex;exact .all (h kV doc pm an cdv ct)
theorem qe {st:Stmt} {f:Addr} {oc:Value} {od an:Option Addr} {osl:Array (Option Value)} {kV doc pm cdv ct:Value} (l:K.lookup f=some ⟨oc,od,.func (PySem.W.fnOf x qual (b9 st) (bJ st) (az st) .none kV doc pm an cdv ct),osl⟩)
  (c:PySem.W.codeIn K cdv qual=true) (k:PySem.W.keepIn K (.ref f)=true):Fun K x qual st f (PySem.W.fnOf x qual (b9 st) (bJ st) (az st) .none kV doc pm an cdv ct):=⟨⟨oc,od,kV,doc,pm,an,cdv,ct,osl,rfl,l,c⟩,k⟩
end
variable {k i n:Nat}
theorem cW {A:Around} (hr:Room k A):A.units+8<cLine:=xP (Nat.add_le_add_left (by decide:8<=64) _) hr.units
section
variable {X:Cx}
theorem pv (i:Nat) {x:Str} {pos:Pos} (hN:X.N[i]?=some x:=by rfl) (hv:Vis X.env.scope x:=by first|exact Or.inl rfl|exact Or.inr (Or.inl rfl)|exact Or.inr (Or.inr rfl)) (hd:(x==("__debug__" : Str))=false:=by decide)
  (hcd:(x==("__classdict__" : Str))=false:=by decide):PE X (.Name x pos) (dS i):=tQ hN hv hd hcd
end
theorem iteF {A B:Prop} (h:B):if false=true then A else B:=by
 rw[Qq Qn];exact h
theorem cq {A B:Prop} (h:A):if true=true then A else B:=by
 rw[Qw rfl];exact h
theorem jP {c A B:Prop} [Decidable c] (h1:c->A) (h2:¬c->B):if c then A else B:=by
 by_cases h:c
 ·rw[Qw h];exact h1 h
 rw[Qq h];exact h2 h
def ak (H H':Hp):Prop:=∀b o,H b=some o->H' b=some o
theorem ak.refl (H:Hp):ak H H:=λ_ _ h=>h
variable {H H1 H2 H' H4:Hp}
theorem ak.trans (a:ak H H1) (b:ak H1 H2):ak H H2:=λc o h=>b c o (a c o h)
variable {a c e T:Addr} {K:PySem.W.Frag}
theorem ak.seq {xs:List V} (e:ak H H') (h:SqL K H a xs):SqL K H' a xs:=by
 rcases h with(h|⟨o,h⟩)|h
 ·exact .inl (.inl (e _ _ h))
 ·exact .inl (.inr ⟨o,e _ _ h⟩)
 exact .inr h
section
variable {κ:Type} [DecidableEq κ]
variable {kvs:List (κ × V)}
theorem i9 {k:κ} (h:bH kvs k=none):¬k∈kvs.map (·.1):=by
 intro m;obtain⟨p,hp,e⟩:=Qo.mp m;have q:(kvs.any λkv=>decide (kv.1=k))=true:=List.any_eq_true.mpr ⟨p,hp,QA e⟩;rw[cg,h]at q;exact absurd q (by simp)
theorem qI {k:κ} {v:V} (h:bH kvs k=some v):k∈kvs.map (·.1):=by
 have q:(kvs.any λkv=>decide (kv.1=k))=true:=by
  rw[cg,h]
  all_goals rfl
 obtain⟨p,hp,e⟩:=List.any_eq_true.mp q;exact Qo.mpr ⟨p,hp,xv e⟩
theorem lR:∀{l:List κ} {k:κ},l.Nodup->¬k∈l->(l++[k]).Nodup
 | [],k,_,_=>by simp
 | a::r,k,h,hk=>by
  obtain⟨h1,h2⟩:=QN.mp h;show (a::(r++[k])).Nodup;refine QN.mpr ⟨λm=>?_,lR h2 λm=>hk (Qg.mpr (Or.inr m))⟩;rcases Qx.mp m with q|q
  ·exact h1 q
  exact hk (Qg.mpr (Or.inl (QB.mp q).symm))
end
section
variable {X:Cx}
end
def wk:St->St->Prop
 | [],[]=>True
 | none::a,_::b=>wk a b
 | some x::a,y::b=>y=some x/\wk a b
 | _,_=>False
theorem gT:∀{a b:St},wk a b->a.length=b.length
 | [],[],_=>rfl
 | [],_::_,h=>h.elim
 | none::_,[],h=>h.elim
 | some _::_,[],h=>h.elim
 | none::a,_::b,h=>congrArg (·+1) (gT (a:=a) (b:=b) h)
 | some _::a,_::b,h=>congrArg (·+1) (gT (a:=a) (b:=b) h.2)
theorem gU:∀{a b:St},wk a b->∀(i:Nat) (v:V),a[i]?=some (some v)->b[i]?=some (some v)
 | [],[],_,i,v,e=>by simp at e
 | [],_::_,h,_,_,_=>h.elim
 | none::_,[],h,_,_,_=>h.elim
 | some _::_,[],h,_,_,_=>h.elim
 | none::a,y::b,h,0,v,e=>by simp at e
 | none::a,y::b,h,i+1,v,e=>by
  have:=gU (a:=a) (b:=b) h i v (by simpa using e);simpa using this
 | some x::a,y::b,h,0,v,e=>by
  have e':x=v:=by simpa using e
  subst e';rw[h.1];rfl
 | some x::a,y::b,h,i+1,v,e=>by
  have:=gU (a:=a) (b:=b) h.2 i v (by simpa using e);simpa using this
def bV (env:Env):List (Str × NameKind)->List (Str × Addr)->List (Str × Addr)
 | [],acc=>acc
 | (n,k)::r,acc=>bV env r (if (k==.free)=true then (n,(env.cells.lookup n).getD 0)::acc else acc)
theorem fZ {env:Env}:∀(ns:List (Str × NameKind)) (acc:List (Str × Addr)),(∀y∈ns,y.2=.free->∃c,env.cells.lookup y.1=some c) ->
  (forIn ns acc (fun x r=>match x with
   | (name,kind)=>if (kind==NameKind.free)=true then (do let c <-cellOf env name;pure (ForInStep.yield ((name,c)::r))) else pure (ForInStep.yield r)):Sem (List (Str × Addr)))=pure (bV env ns acc)
 | [],acc,_=>rfl
 | (n,k)::r,acc,h=>by
  rw[xE];have ih:=λa=>fZ (env:=env) r a λy hy=>h y (Qp _ hy);by_cases hk:(k==NameKind.free)=true
  ·obtain⟨c,hc⟩:=h (n,k) Q2 (by simpa using hk);have e1:cellOf env n=pure c:=by unfold cellOf;rw[hc]
   simp only[hk,if_true,e1,pure_bind];unfold bV;simp only[hk,if_true,hc,Option.getD_some];exact ih _
  simp only[hk,xq,pure_bind];unfold bV;simp only[hk,xq];exact ih _
variable {env:Env} {scope:Scope}
theorem f6 (h:∀y∈scope.names,y.2=.free->∃c,env.cells.lookup y.1=some c):closureFor scope env=pure (bV env scope.names []):=by
 have e:=fZ scope.names [] h;unfold closureFor
 first
  | (rw[show (forIn scope.names ([]:List (Str × Addr)) _:Sem (List (Str × Addr)))=pure (bV env scope.names []) from e];rfl)
  | (simp only[bind_pure];exact e)
  | exact(congrArg (· >>= pure) e)
theorem eP {env:Env}:∀(ns:List (Str × NameKind)) (acc:List (Str × Addr)) (n:Str) (a:Addr),(n,a)∈bV env ns acc->(n,a)∈acc\/(a=(env.cells.lookup n).getD 0/\(n,NameKind.free)∈ns)
 | [],acc,n,a,h=>.inl h
 | (m,k)::r,acc,n,a,h=>by
  unfold bV at h;by_cases hk:(k==NameKind.free)=true
  ·rw[Qw hk]at h;rcases eP r _ n a h with q|⟨q1,q2⟩
   ·rcases Qg.mp q with q|q
    ·cases q;have hk':k=.free:=by simpa using hk
     subst hk';exact .inr ⟨rfl,Q2⟩
    exact .inl q
   exact .inr ⟨q1,Qp _ q2⟩
  rw[Qq hk]at h;rcases eP r _ n a h with q|⟨q1,q2⟩
  ·exact .inl q
  exact .inr ⟨q1,Qp _ q2⟩
theorem gJ {env:Env}:∀(ns:List (Str × NameKind)) (acc:List (Str × Addr)) (p:Str × Addr),p∈acc->p∈bV env ns acc
 | [],_,_,h=>h
 | (m,k)::r,acc,p,h=>by
  unfold bV;refine gJ r _ p ?_
  split
  ·exact Qp _ h
  exact h
theorem fY {env:Env}:∀(ns:List (Str × NameKind)) (acc:List (Str × Addr)) (n:Str),(n,NameKind.free)∈ns->(n,(env.cells.lookup n).getD 0)∈bV env ns acc
 | [],_,_,h=>nomatch h
 | (m,k)::r,acc,n,h=>by
  unfold bV;rcases Qg.mp h with q|q
  ·cases q;refine gJ r _ _ ?_;rw[Qw (by rfl)];exact Q2
  exact fY r _ n q
theorem cZ {α β:Type} [BEq α] [LawfulBEq α]:∀{l:List (α × β)} {x:α} {y:β},l.lookup x=some y->(x,y)∈l
 | [],_,_,h=>by simp at h
 | (a,b)::r,x,y,h=>by
  rw[xj]at h;by_cases e:(x==a)=true
  ·rw[e]at h;have e':x=a:=by simpa using e
   have h':b=y:=by simpa using h
   subst e' h';exact Q2
  have e2:(x==a)=false:=by simpa using e
  rw[e2]at h;exact Qp _ (cZ (by simpa using h))
theorem dI {α β:Type} [BEq α] [LawfulBEq α]:∀{l:List (α × β)} {x:α} {y:β},(x,y)∈l->∃z,l.lookup x=some z
 | [],_,_,h=>nomatch h
 | (a,b)::r,x,y,h=>by
  rw[xj];by_cases e:(x==a)=true
  ·rw[e];exact⟨b,rfl⟩
  have e2:(x==a)=false:=by simpa using e
  rw[e2];rcases Qg.mp h with q|q
  ·cases q;simp at e
  exact dI q
variable {x:Str} {ns:List (Str × NameKind)}
theorem qw (h:(bV env ns []).lookup x=some c) (hall:∀y∈ns,y.2=.free->∃c,env.cells.lookup y.1=some c):env.cells.lookup x=some c:=by
 rcases eP ns [] x c (cZ h) with q|⟨q1,q2⟩
 ·nomatch q
 obtain⟨c',hc⟩:=hall _ q2 rfl;have hc':env.cells.lookup x=some c':=hc;rw[hc']at q1;rw[hc',q1];rfl
theorem mG {env:Env} (h:(x,NameKind.free)∈ns):∃c,(bV env ns []).lookup x=some c:=dI (fY ns [] x h)
noncomputable def Cx.block (X:Cx) (N:List Str) (scope:Scope) (C:Addr) (s:Shared) (H:Hp) (fp:A3):Cx :=
 { X with N:=N,s₀:=s,H₀:=H,env:=compEnvC scope (bV X.env scope.names []) C X.env,outer:=X.stack,ex:=fp,fn:=λ_=>false,pn:=[],xe:=λ_ _=>False }
theorem ie {k:NameKind} (h:(relabel scope env).names.lookup x=some k):∃k',scope.names.lookup x=some k'/\(k=k'\/(k'=.free/\k=.cell)):=by
 unfold relabel at h;generalize scope.names=ns at h
 induction ns with
 | nil=>simp at h
 | cons p r ih =>
 obtain⟨n,k0⟩:=p;rw[Qu]at h;by_cases e:(x==n)=true
 ·refine⟨k0,by rw[xj,e],?_⟩;by_cases c:(k0==NameKind.free&&env.scope.kind==.function&&env.kindOf n==some .cell)=true
  ·have h1:some NameKind.cell=some k:=by
    have h2:=h;simp only[c,if_true]at h2;rw[xj,e]at h2;exact h2
   have h3:k0=.free:=by
    simp only[xF,beq_iff_eq]at c;exact c.1.1
   exact .inr ⟨h3,(QH h1).symm⟩
  have h1:some k0=some k:=by
   have h2:=h;simp only[c,Qz,xq]at h2;rw[xj,e]at h2;exact h2
  exact .inl (QH h1).symm
 have e2:(x==n)=false:=by simpa using e
 rw[xj,e2];refine ih ?_;by_cases c:(k0==NameKind.free&&env.scope.kind==.function&&env.kindOf n==some .cell)=true
 ·have h2:=h;simp only[c,if_true]at h2;rw[xj,e2]at h2;exact h2
 have h2:=h;simp only[c,Qz,xq]at h2;rw[xj,e2]at h2;exact h2
theorem ig (h:scope.names.lookup x=some .free):(relabel scope env).names.lookup x=some .cell\/(relabel scope env).names.lookup x=some .free:=by
 unfold relabel;show List.lookup x (scope.names.map _)=_\/List.lookup x (scope.names.map _)=_;generalize scope.names=ns at h
 induction ns with
 | nil=>simp at h
 | cons p r ih =>
 obtain⟨n,k0⟩:=p;rw[Qu];by_cases e:(x==n)=true
 ·rw[xj,e]at h;have h':k0=.free:=by simpa using h
  subst h';by_cases c:(NameKind.free==NameKind.free&&env.scope.kind==.function&&env.kindOf n==some .cell)=true
  ·left
   simp only[c,if_true];rw[xj,e]
  right
  simp only[c,Qz,xq];rw[xj,e]
 have e2:(x==n)=false:=by simpa using e
 rw[xj,e2]at h;have h3:=ih h;by_cases c:(k0==NameKind.free&&env.scope.kind==.function&&env.kindOf n==some .cell)=true
 ·simp only[c,if_true];rw[xj,e2];exact h3
 simp only[c,Qz,xq];rw[xj,e2];exact h3
def r8 (X:Cx) (ifs:List Expr) (t:TT):Prop :=
 ∀(pins:A1) (s:Shared) (U:St) (H:Hp) (Q:Bool->Hp->Prop),Inv X pins U H s->t U H Q ->
  wpAny (model X.prog X.w) X.A (forIn ifs true λc r=>if r=true then do let ok <-isTrue c X.env (eval c X.env);pure (ForInStep.yield ok) else pure (ForInStep.yield r)) (TP X pins U Q) X.xe s
def eZ:TT:=λ_ H Q=>Q true H
theorem dj:r8 X [] eZ:=λ_ _ _ H _ I h=>wpAny_tests_nil ⟨H,I,h⟩
theorem cS {c:Expr} {t:TT} (h:PT X c t):r8 X [c] t:=λpins s U H Q I hw=>wpAny_tests_one (h pins s U H Q I hw)
theorem d_ {prog:Program} {w:World} {A:Around} {R:Result->Shared->Prop} {s:Shared} {elt target iter:Expr} {ifs:List Expr} {pos:Pos} {it acc:Value} (I:Nat->Shared->Prop)
  (turn:∀n s,I n s->wpAny (model prog w) A (pyNext it) (fun r s1=>match r with
   | none=>R (.ok .next) s1
   | some v=>wpAny (model prog w) A (letOwnedTupleGo target it v) (λ_ s2=>wpAny (model prog w) A (assign target env v) (λ_ s3 =>
     wpAny (model prog w) A (forIn ifs true λc r=>if r=true then do let ok <-isTrue c env (eval c env);pure (ForInStep.yield ok) else pure (ForInStep.yield r)) (λok s4 =>
      if ok=true then wpAny (model prog w) A (eval elt env) (λx s5 =>
       wpAny (model prog w) A (call (.builtin "list.append") [acc,x]) (λ_ s6=>∃m,m<n/\I m s6) (λ_ _=>False) s5) (λ_ _=>False) s4
      else ∃m,m<n/\I m s4) (λ_ _=>False) s3) (λ_ _=>False) s2) (λ_ _=>False) s1) (λ_ _=>False) s)
  (n:Nat) (h:I n s):codeAny (model prog w) A (.compLoop (.ListComp elt [⟨target,iter,ifs,0⟩] scope pos) 0 it acc env) R s:=by
 refine codeAny_loop rfl I (λn s hI=>?_) n h;show wpAny _ A ((compTurn (.ListComp elt [⟨target,iter,ifs,0⟩] scope pos) 0 it acc env).onRaise (λx=>do noteFrame x env;theTreesLotGoes x)) _ _ s;refine wpAny_noted ?_;rw[compTurn_list];have no:∀{E:A0},∀e s',(λ(_:Value) (_:Shared)=>False) e s'->E e s':=λ_ _ z=>False.elim z;refine Qa (wpAny_standAt (Qa (wpAny_mono (turn n s hI) (λr s1 h1=>?_) no)))
 cases r with
 | none=>exact Qf h1
 | some v =>
 refine Qa (wpAny_mono h1 (λ_ s2 h2=>?_) no);refine Qa (wpAny_mono h2 (λ_ s3 h3=>Qa (wpAny_mono h3 (λok s4 h4=>?_) no)) no)
 cases ok with
 | false=>exact Qf ⟨rfl,h4⟩
 | true =>
 exact Qa (Qa (wpAny_mono h4 (λx s5 h5=>Qa (wpAny_mono h5 (λ_ s6 h6=>Qf (Qf ⟨rfl,h6⟩)) no)) no))
def br (tgs:List Str) (cap:List (Str × Nat)) (U:St):St:=tgs.map (λ_=>none)++cap.map λc=>(U[c.2]?).join
def fz (wi:TI) (g:TG) (tt:TT) (te:TE) (f:St->St):TE:=λU H Q=>wi U H λJ H1=>∀D,H1 D=none->∃W:Nat->Nat->Hp->List V->Prop,(∃m,W 0 m (upd H1 D (.lst [])) []) /\
 ∀i m H ys,W i m H ys->H D=some (.lst ys)/\((J.stop i H/\Q (.ref D) H)\/(J.go i H/\∀x H',J.yld i H x H'->g x (f U) H' λσ2 H2=>wk (f U) σ2/\tt σ2 H2 λb H3 =>
  if b=true then te σ2 H3 λv H4=>H4 D=some (.lst ys)/\ys.length<sizeLine/\∃m',m'<m/\W (i+1) m' (upd H4 D (.lst (ys++[v]))) (ys++[v])
  else ∃m',m'<m/\W (i+1) m' H3 ys))
structure BlockOk (X:Cx) (scope:Scope) (tgs:List Str) (cap:List (Str × Nat)):Prop where
 kind:scope.kind=.function
 nocell:(scope.names.all λy=>!(y.2==NameKind.cell))=true
 names:(scope.names.all λy=>!(y.2==NameKind.local) || (scope.names.lookup y.1==some .local))=true
 free:(scope.names.all λy=>!(y.2==NameKind.free) || (X.env.scope.names.lookup y.1==some .cell) || (X.env.scope.names.lookup y.1==some .free))=true
 caps:(cap.all λc=>decide (X.N[c.2]?=some c.1)&&(scope.names.lookup c.1==some .free)&&(decide (X.env.scope.names.lookup c.1=some .cell) || decide (X.env.scope.names.lookup c.1=some .free)))=true
 tgl:(tgs.all λx=>(scope.names.lookup x==some .local))=true
section
variable {X:Cx} {scope:Scope} {tgs:List Str} {cap:List (Str × Nat)}
theorem BlockOk.cellAt (B:BlockOk X scope tgs cap) (ok:X.Ok):∀y∈scope.names,y.2=.free->∃c,X.env.cells.lookup y.1=some c:=λy hy hk=>by
 have q:=xa.mp B.free y hy;rw[hk]at q;refine ok.has y.1 ?_;simp only[beq_self_eq_true,xU,Bool.false_or,Bool.or_eq_true,beq_iff_eq]at q;exact q
theorem BlockOk.noc (B:BlockOk X scope tgs cap):∀y∈scope.names,y.2≠.cell:=λy hy hk=>by
 have q:=xa.mp B.nocell y hy;rw[hk]at q;simp at q
theorem BlockOk.locs (B:BlockOk X scope tgs cap):∀y∈scope.names,y.2=.local->scope.names.lookup y.1=some .local:=λy hy hk=>by
 have q:=xa.mp B.names y hy;rw[hk]at q;simpa using q
variable {pins:A1}
theorem Inv.enter {U:St} {H:Hp} {s:Shared} {h1:Heap} {tk:Nat} {fp:A3} (B:BlockOk X scope tgs cap) (I:Inv X pins U H s) (hfp:∀b∈fp,dB X pins H b) (hlt:∀b∈fp,b<s.heap.objs.size)
  (hns:h1.Ns s.heap.objs.size (λ_=>none)) (old:∀b o,s.heap.get? b=some o->h1.get? b=some o) :
  Inv (X.block (tgs++cap.map (·.1)) scope s.heap.objs.size s H fp) [] (br tgs cap U) H { s with heap:=h1,toks:=tk }:=by
 have cellsIn:∀x c,(bV X.env scope.names []).lookup x=some c->X.env.cells.lookup x=some c:=λx c e=>qw e (B.cellAt I.ok)
 have kindIn:∀x,((relabel scope X.env).names.lookup x=some .cell\/(relabel scope X.env).names.lookup x=some .free)->(x,NameKind.free)∈scope.names:=λx hx=>by
  have go:∀k,(relabel scope X.env).names.lookup x=some k->(k=.cell\/k=.free)->(x,NameKind.free)∈scope.names:=λk hk hc=>by
   obtain⟨k',e1,e2⟩:=ie hk;have m:=cZ e1;rcases e2 with e2|⟨e2,_⟩
   ·subst e2;rcases hc with z|z
    ·exact absurd z (B.noc _ m)
    subst z;exact m
   subst e2;exact m
  rcases hx with h|h
  ·exact go _ h (.inl rfl)
  exact go _ h (.inr rfl)
 have nocl:∀x c,X.env.cells.lookup x=some c->c≠s.heap.objs.size:=λx c e=>by
  obtain⟨v,q⟩:=I.cell x c e;exact QG q.lt
 refine⟨⟨I.ok.mod,?_,I.ok.glob,I.ok.blt,Qi _,λx y c e1 e2=>I.ok.inj x y c (cellsIn x c e1) (cellsIn y c e2),λx hx=>?_,λx c hf _=>absurd (show false=true from hf) Qn,I.ok.hd,I.ok.frames,.inl rfl,
  λb hb=>⟨QG (hlt b hb),λx c e=>?_⟩,I.bs,QK I.ok.bsz I.sz,λb o e hb=>?_,λb hb hf=>?_,I.stack,I.stkFree⟩,
  rfl,I.bare,Un.kept old,⟨_,hns,λi x v h2 h3 h4=>?_⟩,λx c e=>?_,?_,λx c e=>I.freeC x c (cellsIn x c e),λp hp=>absurd (show p∈([]:A1) from hp) (by simp),I.hok.kept old,?_⟩
 ·exact B.kind
 ·exact mG (kindIn x hx)
 ·exact(hfp b hb).2.2.2.2.1 x c (cellsIn x c e)
 ·-- no object of the base is an iterator of ours
  rcases(hfp b hb).2.2.2.1 with z|z
  ·exact I.ok.noex b o e z
  have q:=I.ok.bs b o e;exact absurd (QR (Qr q.1) z) (xV _)
 ·have hf':b∈frs X.stack:=hf;rcases Qg.mp (I.stkSub b hf') with z|z
  ·exact(hfp b hb).2.1 z
  exact(hfp b hb).2.2.1 z
 ·-- a name that is known: one of the captured ones
  have hi:tgs.length<=i:=by
   by_cases hl:i<tgs.length
   ·exfalso;unfold br at h3;rw[QI (by simpa using hl),QE]at h3
    cases e:tgs[i]? with
    | none=>rw[e]at h3;cases h3
    | some z=>rw[e]at h3;cases h3
   exact om2 hl
  unfold br at h3;rw[QJ (by simpa using hi),Qc,QE]at h3;have h2':(tgs++cap.map (·.1))[i]?=some x:=h2;rw[QJ hi,QE]at h2'
  cases e:cap[i-tgs.length]? with
  | none=>rw[e]at h2';cases h2'
  | some c =>
  rw[e]at h2' h3;have hx:c.1=x:=by simpa using h2'
  have hv:(U[c.2]?).join=some v:=by simpa using h3
  have hm:c∈cap:=Ql e;have q:=xa.mp B.caps c hm;simp only[xF,decide_eq_true_eq,beq_iff_eq,Bool.or_eq_true]at q;obtain⟨⟨q1,q2⟩,q3⟩:=q
  have hσ:U[c.2]?=some (some v):=by
   cases z:U[c.2]? with
   | none=>rw[z]at hv;cases hv
   | some o =>
   rw[z]at hv;have:o=some v:=by simpa using hv
   rw[this]
  obtain⟨m,_,hl⟩:=I.loc
  obtain⟨u,r,l⟩:=hl c.2 c.1 v q1 hσ (by
   rcases q3 with z|z
   ·exact .inr (.inl z)
   exact .inr (.inr z))
  subst hx;refine⟨u,r,.inr ⟨ig q2,?_⟩⟩
  have nl:¬X.env.kindOf c.1=some .local:=λz=>by
   rcases q3 with y|y
   ·have:X.env.kindOf c.1=some .cell:=y;rw[this]at z;cases z
   have:X.env.kindOf c.1=some .free:=y;rw[this]at z;cases z
  rcases l with⟨l1,_⟩|⟨_,d,l2,l3⟩
  ·exact absurd l1 nl
  obtain⟨d',e'⟩:=mG (env:=X.env) (cZ q2);have:d=d':=QH (l2.symm.trans (cellsIn _ _ e'));subst this;obtain⟨oc,ho,hd⟩:=l3;exact⟨d,e',oc,old d oc ho,hd⟩
 ·obtain⟨v,oc,ho,hd⟩:=I.cell x c (cellsIn x c e);exact⟨v,oc,old c oc ho,hd⟩
 ·exact I.hok.fresh (Qi _)
 unfold br;show _=(tgs++cap.map (·.1)).length;simp
theorem Inv.leave {U σ':St} {H H':Hp} {s s':Shared} {h2:Heap} {fp:A3} {N:List Str} (I:Inv X pins U H s) (hfp:∀b∈fp,dB X pins H b)
  (J:Inv (X.block N scope s.heap.objs.size s H fp) [] σ' H' s') (hs:Heap.SameBut s.heap.objs.size s'.heap h2):Inv X pins U H' { s' with heap:=h2 }:=by
 have u:Un (frs X.stack) fp H H' s.heap s'.heap:=J.base;have ne:∀b o,s.heap.get? b=some o->b≠s.heap.objs.size:=λb o e=>QG (Qr e);have hf:H' s.heap.objs.size=none:=J.free;have k:∀b o,b≠s.heap.objs.size->s'.heap.get? b=some o->h2.get? b=some o:=λb o hb e=>(hs.2 b hb).trans e
 have u2:Un (frs X.stack) fp H H' s.heap h2 :=
  ⟨λb o e n h1 h3=>k b o (ne b o e) (u.keep b o e n h1 h3),λb o e n h1 h3=>let ⟨sl,q⟩:=u.slot b o e n h1 h3;⟨sl,k b _ (ne b o e) q⟩,u.free,λb o e h3=>let ⟨o',q⟩:=u.there b o e h3;⟨o',k b o' (ne b o e) q⟩,u.tups,u.frzs,u.tbls⟩
 have hok:HOk X.prog X.w H' h2:=λb ob e=>(J.hok b ob e).stay (λc v hc q=>k c v (by
  rcases hc with z|z
  ·subst z;intro y;rw[y,hf]at e;cases e
  intro y
  rw[y,hf]at z;cases z) q) (λ_ q=>q) λ_ _ q=>q
 exact Inv.call' I (s':={ s' with heap:=h2 }) J.os u2 hok J.bare λb hb=>by
  obtain⟨f0,f1,f2,f3,f4,f5⟩:=hfp b hb;exact⟨f3,f1,f4,f5⟩
theorem eT {elt tg iter:Expr} {ifs:List Expr} {pos:Pos} {wi:TI} {g:TG} {tt:TT} {te:TE} (hc:X.calm=true) (B:BlockOk X scope tgs cap) (hi:PI X tg iter wi)
  (hg:∀C s H fp,PG (X.block (tgs++cap.map (·.1)) scope C s H fp) tg g) (ht:∀C s H fp,r8 (X.block (tgs++cap.map (·.1)) scope C s H fp) ifs tt) (he:∀C s H fp,PE (X.block (tgs++cap.map (·.1)) scope C s H fp) elt te)
  (hs:∀x,foldedSetIterable iter X.env x=pure x:=by intro _;rfl):PE X (.ListComp elt [⟨tg,iter,ifs,0⟩] scope pos) (fz wi g tt te (br tgs cap)):=by
 intro pins s U H Q I h;rw[eval_ListComp];refine wpAny_comprehension_free (use:=none) rfl hs (f6 (B.cellAt I.ok)) B.kind B.locs (thn (hi pins s U H _ I h) λv s1 h1=>thn h1 λitv s2 h2=>?_);obtain⟨it,fp,tn,J,H2,e,I2,T,st2,f2,q⟩:=h2;subst e;have lt2:∀b∈fp,b<s2.heap.objs.size:=λb hb=>let ⟨o,e,_⟩:=T.obj _ _ st2 b hb;Qr e;have hD:H2 s2.heap.objs.size=none:=I2.hok.fresh (Qi _);obtain⟨W,⟨m0,w0⟩,turn⟩:=q s2.heap.objs.size hD;refine xw ?_;have I3:Inv X pins U (upd H2 s2.heap.objs.size (.lst [])) { s2 with heap:=s2.heap.push { cls:=.type "list", dict:=none,data:=.seq ([]:List Value).toArray } }:=I2.lnew (t':=s2.toks) (ys:=[]) (its:=[]) .nil (QT _);have st3:tn 0 (s2.heap.push { cls:=.type "list", dict:=none,data:=.seq ([]:List Value).toArray }):=T.keep _ _ _ st2 λb _ o e=>Qd _ e;have nD:∀b∈fp,b≠s2.heap.objs.size:=λb hb=>QG (lt2 b hb);have f3:∀b∈fp,dB X pins (upd H2 s2.heap.objs.size (.lst [])) b:=λb hb=>⟨by rw[ag (nD b hb)];exact(f2 b hb).1,(f2 b hb).2⟩;generalize hs3:({ s2 with heap:=s2.heap.push { cls:=.type "list", dict:=none,data:=.seq ([]:List Value).toArray } }:Shared)=s3 at I3 st3 ⊢;have st3':tn 0 s3.heap:=by rw[<-hs3];exact st3
 have lt3:∀b∈fp,b<s3.heap.objs.size:=λb hb=>let ⟨o,e,_⟩:=T.obj _ _ st3' b hb;Qr e;generalize hH3:upd H2 s2.heap.objs.size (.lst [])=H3 at I3 f3 w0;generalize s2.heap.objs.size=D at *;refine wpAny_newFunctionEnv B.noc (by intro y hy;simp at hy) (λh1 hns hsb=>?_) B.kind;have old:∀b o,s3.heap.get? b=some o->h1.get? b=some o:=λb o e=>hsb.extBut b o (QG (Qr e)) (Qd _ e);have I4:=Inv.enter (tk:=s3.toks+([]:List (Str × Value)).length) (h1:=h1) B I3 f3 lt3 hns old;have st4:tn 0 h1:=T.keep _ _ _ st3' λb _ o e=>old b o e
 have fpB:∀{H':Hp},(∀b∈fp,H' b=none)->∀b∈fp,dB (X.block (tgs++cap.map (·.1)) scope s3.heap.objs.size s3 H3 fp) [] H' b:=λ{H'} hn b hb =>
  ⟨hn b hb,QG (lt3 b hb),I4.ok.exfs b hb,.inl hb,λx c e=>(I4.ok.exf b hb).2 x c e,λp hp=>absurd (show p∈([]:A1) from hp) (by simp)⟩
 have loop:codeAny (model X.prog X.w) X.A (.compLoop (.ListComp elt [⟨tg,iter,ifs,0⟩] scope pos) 0 (.ref it) (.ref D) (compEnvC scope (bV X.env scope.names []) s3.heap.objs.size X.env))
   (compPost (model X.prog X.w) X.A X.xe none (EP X pins U Q) (.ref D) s3.heap.objs.size) { s3 with heap:=h1,toks:=s3.toks+([]:List (Str × Value)).length }:=by
  refine d_ (λn s'=>∃i H' ys,Inv (X.block (tgs++cap.map (·.1)) scope s3.heap.objs.size s3 H3 fp) [] (br tgs cap U) H' s'/\tn i s'.heap/\(∀b∈fp,H' b=none)/\W i n H' ys) ?_ m0 ⟨0,H3,[],I4,st4,λb hb=>(f3 b hb).1,w0⟩;rintro n s5 ⟨i,H5,ys,I5,st5,fr5,w5⟩;obtain⟨hl,ht5⟩:=turn i n H5 ys w5;rcases ht5 with⟨stop,qd⟩|⟨go,step⟩
  ·refine thn (T.done (X.block (tgs++cap.map (·.1)) scope s3.heap.objs.size s3 H3 fp) rfl rfl rfl hc i [] s5 _ H5 _ I5 (fpB fr5) st5 stop) λr s6 ⟨hr,I6⟩=>?_;subst hr;obtain⟨m6,n6,_⟩:=I6.loc;exact⟨m6,n6,λh' hs'=>⟨.ref D,H5,Inv.leave I3 f3 I6 hs',rfl,qd⟩⟩
  refine thn (T.item (X.block (tgs++cap.map (·.1)) scope s3.heap.objs.size s3 H3 fp) rfl rfl rfl hc i [] s5 _ H5 _ I5 (fpB fr5) st5 go) λr s6 ⟨u,hr,h6⟩=>?_;subst hr;refine thn h6 λ_ s7 ⟨x,H7,I7,r7,y7,st7,fr7⟩=>?_;have I7':=I7.pinned (fpB fr7) (T.obj _ _ st7)
  have again:∀{σ8:St} {H8:Hp} {s8:Shared} {ys8:List V},Inv (X.block (tgs++cap.map (·.1)) scope s3.heap.objs.size s3 H3 fp) ([]++eF fp s7.heap) σ8 H8 s8->wk (br tgs cap U) σ8->(∃m',m'<n/\W (i+1) m' H8 ys8) ->
    ∃m,m<n/\∃i H' ys,Inv (X.block (tgs++cap.map (·.1)) scope s3.heap.objs.size s3 H3 fp) [] (br tgs cap U) H' s8/\tn i s8.heap/\(∀b∈fp,H' b=none)/\W i m H' ys:=λ{σ8 H8 s8 ys8} I8 k8 ⟨m',hm,w8⟩=>by
   refine⟨m',hm,i+1,H8,ys8,I8.unpinned.weak (gT k8) (gU k8),T.keep _ _ _ st7 λb hb o e=>(I8.pin (b,o) (QC _ (QC _ (bY hb e)))).1,λb hb=>?_,w8⟩;obtain⟨o,e,d⟩:=T.obj _ _ st7 b hb;exact(I8.pin (b,o) (QC _ (QC _ (bY hb e)))).2.1
  refine thn (hg _ _ _ _ _ s7 _ H7 x u _ I7' r7 (step x H7 y7)) λ_ s8 ⟨σ8,H8,I8,k8,q8⟩=>?_;refine thn (ht _ _ _ _ _ s8 σ8 H8 _ I8 q8) λok s9 ⟨H9,I9,q9⟩=>?_
  cases ok with
  | false =>
   rw[Qq Qn]at q9 ⊢;exact again I9 k8 q9
  | true =>
  rw[Qw rfl]at q9 ⊢;refine thn (he _ _ _ _ _ s9 σ8 H9 _ I9 q9) λy sA ⟨yv,HA,IA,rA,hA,zA,qA⟩=>?_;exact thn (aZ _ sA σ8 HA (.ref D) [yv] (.ref D) [y] (λv H'=>v=.non/\∃m',m'<n/\W (i+1) m' H' (ys++[yv])) IA rfl (.cons rA .nil) ⟨D,ys,yv,rfl,rfl,hA,zA,rfl,qA⟩) λ_ sB ⟨_,HB,IB,_,_,qB⟩=>again IB k8 qB
 exact codeAny_compStart_list loop (T.self _ 0 _ _ _ st4 loop)
theorem dZ {X:Cx} {scope:Scope} {elt iter:Expr} {p pos:Pos} {wi:TI} {te:TE} (x:Str) (cap:List (Str × Nat)) (hi:PI X (.Name x p) iter wi) (he:∀C s H fp,PE (X.block ([x]++cap.map (·.1)) scope C s H fp) elt te) (hc:X.calm=true:=by rfl) (B:BlockOk X scope [x] cap:=by exact⟨rfl,rfl,rfl,rfl,rfl,rfl⟩) (hN:([x]++cap.map (·.1)).Nodup:=by decide +kernel) (hg:([x]++cap.map (·.1)).Nodup->∀C s H fp,PG (X.block ([x]++cap.map (·.1)) scope C s H fp) (.Name x p) (dh 0):=by intro h _ _ _ _;exact bf (i:=0) h rfl (by z_go)) (hs:∀x,foldedSetIterable iter X.env x=pure x:=by intro _;rfl):PE X (.ListComp elt [⟨.Name x p,iter,[],0⟩] scope pos) (fz wi (dh 0) eZ te (br [x] cap)):=eT hc B hi (hg hN) (λ_ _ _ _=>dj) he hs
end
def Itf (n:Nat) (f:Nat->V):It:=⟨λi _=>i<n,λi H x H'=>H'=H/\x=f i,λi _=>i=n⟩
def fD (z:Str) (i:Nat):V:=.str ⟨#[z.cps.getD i 0]⟩
section
variable {X:Cx} {x:Str} {px:Pos}
def vV (tl:TE):TI:=λU H R=>tl U H λv H1=>∃z:Str,v=.str z/\R (Itf z.cps.size (fD z)) H1
end
section
variable {X:Cx}
def uR:V->Option Int->Option Int->Hp->VK->Prop:=λx lo hi H Q=>∃z:Str,x=.str z/\z.length<=sizeLine/\Q (.str (Txt.slice z lo hi)) H
theorem dN:SlR X uR:=by
 intro pins s U H x v vl vu lo hi sl Q I rx hs pl pu h;obtain⟨z,e,hz,q⟩:=h;subst e;obtain⟨t,e⟩:=rx;subst e;refine⟨"str", _,F.slot_str_getitem.lookup,typeIs_str _ _ _,?_⟩;have fin:∀(t':Tok) (k:Nat),EP X pins U Q (.str (Txt.slice z lo hi) t') { s with toks:=k }:=λt' k=>⟨.str _,H,I.tok k,⟨t',rfl⟩,q⟩
 cases pl with
 | none =>
  cases pu with
  | none=>exact wpAny_getItem_str_slice (l:=none) (u:=none) (st:=none) hs rfl (post_val_or_str ⟨QK (Txt.slice_le z _ _) hz,fin⟩)
  | int j uj=>exact wpAny_getItem_str_slice (l:=none) (u:=some (j,uj)) (st:=none) hs rfl (post_val_or_str ⟨QK (Txt.slice_le z _ _) hz,fin⟩)
 | int i ui =>
 cases pu with
 | none=>exact wpAny_getItem_str_slice (l:=some (i,ui)) (u:=none) (st:=none) hs rfl (post_val_or_str ⟨QK (Txt.slice_le z _ _) hz,fin⟩)
 | int j uj=>exact wpAny_getItem_str_slice (l:=some (i,ui)) (u:=some (j,uj)) (st:=none) hs rfl (post_val_or_str ⟨QK (Txt.slice_le z _ _) hz,fin⟩)
theorem dM:∀{ys:List Str} {us:List Value},aL (ys.map V.str) us->StrsAre us ys
 | [],_,r=>by
  rw[List.map_nil]at r;cases r;exact .nil
 | y::ys,_,r=>by
  rw[Qu]at r
  cases r with
  | cons r1 r2 =>
  obtain⟨t,e⟩:=r1;subst e;exact .cons y t (dM r2)
def uT (K:PySem.W.Frag):V->List V->Hp->VK->Prop:=λx vs H Q=>∃(z:Str) (l:Addr) (ys:List Str),x=.str z/\vs=[.ref l]/\SqL K H l (ys.map V.str)/\(ys.map (·.length)).sum+ys.length*z.length<=16777216/\Q (.str (Txt.join z ys)) H
theorem rq:MtR X "str.join" (uT X.K):=by
 intro pins s U H x vs v us Q I rx rv h;obtain⟨z,l,ys,e1,e2,hl,hz,q⟩:=h;subst e1 e2;obtain⟨t,e⟩:=rx;subst e;obtain⟨u,e,ru⟩:=rv.one;subst e;cases ru;obtain⟨its,r,pl,_⟩:=I.list hl;exact join_list pl.isList (by simpa using dM r) hz λt' k=>⟨.str _,H,I.tok k,⟨t',rfl⟩,q⟩
theorem nJ (ys:List Str):(Txt.join Str.empty ys).cps.toList=(ys.map (·.cps.toList)).flatten:=by
 unfold Txt.join;rw[PySem.StrLaws.glued_eq_join]
 induction ys with
 | nil=>rfl
 | cons y r ih =>
 cases r with
 | nil=>simp[Str.join]
 | cons y2 r2 =>
 show (y++Str.empty++Str.join Str.empty (y2::r2)).cps.toList=_;rw[Qu,List.flatten_cons,<-ih];show (y.cps++Str.empty.cps++(Str.join Str.empty (y2::r2)).cps).toList=_;simp[Str.empty]
end
inductive EqD (K:PySem.W.Frag) (H:Hp):Nat->V->V->Bool->Prop
 | flat {n:Nat} {x y:V}:cF x=true->cF y=true->EqD K H n x y (eqV x y)
 | same {n:Nat} {a:Addr}:EqD K H n (.ref a) (.ref a) true
 | lists {n:Nat} {a b:Addr} {xs ys:List V} {e:Nat->Bool}:SqL K H a xs->SqL K H b ys->xs.length=ys.length->(∀(j:Nat) x y,xs[j]?=some x->ys[j]?=some y->EqD K H n x y (e j))->a≠b ->
   EqD K H (n+1) (.ref a) (.ref b) ((List.range xs.length).all e)
 | tups {n:Nat} {a b:Addr} {xs ys:List V} {e:Nat->Bool}:SqT K H a xs->SqT K H b ys->(∀(j:Nat) x y,xs[j]?=some x->ys[j]?=some y->EqD K H n x y (e j))->a≠b ->
   EqD K H (n+1) (.ref a) (.ref b) ((List.range (min xs.length ys.length)).all e&&xs.length==ys.length)
theorem EqD.at {X:Cx} {pins:A1} {U:St} {H:Hp} {s:Shared} (I:Inv X pins U H s) {n:Nat} {x y:V} {b:Bool} (h:EqD X.K H n x y b) :
  ∀{A:Around} {u v:Value},A.units+n<cLine->aU x u->aU y v->SeqAt.EqAt A s u v b:=by
 induction h with
 | flat fx fy=>intro A u v _ rx ry;exact qj rx ry fx fy
 | same =>
  intro A u v _ rx ry;cases rx;cases ry;exact SeqAt.EqAt.same _
 | @lists n a c xs ys e ha hb hl hi hne ih =>
  intro A u v hu rx ry;cases rx;cases ry;obtain⟨its,r1,p1,_⟩:=I.list ha;obtain⟨its2,r2,p2,_⟩:=I.list hb;have l1:=r1.length;have l2:=r2.length;refine SeqAt.EqAt.of_refs hne ?_
  have q:=SeqAt.RcAt.lists (A:=A) (e:=e) p1.isList p2.isList (by rw[Qk,Qk];exact om7 hl l1 l2) (by exact om8 hu) λj h1 h2=>by
   rw[Qk]at h1 h2;have e1:xs[j]?=some xs[j]:=Qb (by exact om9 hl l1 l2 h1);have e2:ys[j]?=some ys[j]:=Qb (by exact vS hl l1 l2 h1);obtain⟨w1,g1,rr1⟩:=r1.get e1;obtain⟨w2,g2,rr2⟩:=r2.get e2
   have g1':its.toArray[j]=w1:=by
    have:=(Qe.mp g1).2;simpa using this
   have g2':its2.toArray[j]=w2:=by
    have:=(Qe.mp g2).2;simpa using this
   rw[g1',g2'];exact ih j _ _ e1 e2 (by show A.units+1+n<cLine;exact u9 hu) rr1 rr2
  rw[Qk,<-l1]at q;exact q
 | @tups n a c xs ys e ha hb hi hne ih =>
 intro A u v hu rx ry;cases rx;cases ry;obtain⟨its,r1,p1,_⟩:=I.tuple ha;obtain⟨its2,r2,p2,_⟩:=I.tuple hb;have l1:=r1.length;have l2:=r2.length;refine SeqAt.EqAt.of_refs hne ?_
 have q:=SeqAt.RcAt.tuples (A:=A) (e:=e) (show s.heap.IsTuple a its.toArray from p1) (show s.heap.IsTuple c its2.toArray from p2) (by exact om8 hu) λj h1 h2=>by
  rw[Qk]at h1 h2;have e1:xs[j]?=some xs[j]:=Qb (by exact pC l1 h1);have e2:ys[j]?=some ys[j]:=Qb (by exact pC l2 h2);obtain⟨w1,g1,rr1⟩:=r1.get e1;obtain⟨w2,g2,rr2⟩:=r2.get e2
  have g1':its.toArray[j]=w1:=by
   have:=(Qe.mp g1).2;simpa using this
  have g2':its2.toArray[j]=w2:=by
   have:=(Qe.mp g2).2;simpa using this
  rw[g1',g2'];exact ih j _ _ e1 e2 (by show A.units+1+n<cLine;exact u9 hu) rr1 rr2
 rw[Qk,Qk,<-l1,<-l2]at q;exact q
section
variable {X:Cx}
theorem EqD.items {pins:A1} {U:St} {H:Hp} {s:Shared} (I:Inv X pins U H s) {n:Nat} {A:Around} (hu:A.units+1+n<cLine) {xs ys:List V} {its its2:List Value} (r1:aL xs its) (r2:aL ys its2) {e:Nat->Bool}
  (h:∀(j:Nat) x y,xs[j]?=some x->ys[j]?=some y->EqD X.K H n x y (e j)) (j:Nat) (h1:j<its.toArray.size) (h2:j<its2.toArray.size):SeqAt.EqAt A.in1 s its.toArray[j] its2.toArray[j] (e j):=by
 have l1:=r1.length;have l2:=r2.length;rw[Qk]at h1 h2;have e1:xs[j]?=some xs[j]:=Qb (by exact u7 h1 l1);have e2:ys[j]?=some ys[j]:=Qb (by exact u7 h2 l2);obtain⟨w1,g1,rr1⟩:=r1.get e1;obtain⟨w2,g2,rr2⟩:=r2.get e2
 have g1':its.toArray[j]=w1:=by
  have:=(Qe.mp g1).2;simpa using this
 have g2':its2.toArray[j]=w2:=by
  have:=(Qe.mp g2).2;simpa using this
 rw[g1',g2'];exact EqD.at I (h j _ _ e1 e2) (by show A.units+1+n<cLine;exact hu) rr1 rr2
def qT (K:PySem.W.Frag) (neg:Bool):R2:=λx y H Q=>∃a b xs ys e,x=.ref a/\y=.ref b/\SqL K H a xs/\SqL K H b ys/\(∀(j:Nat) x y,xs[j]?=some x->ys[j]?=some y->EqD K H 8 x y (e j)) /\
 Q (.bl (if neg then !(xs.length==ys.length&&(List.range xs.length).all e) else (xs.length==ys.length&&(List.range xs.length).all e))) H
def oS (K:PySem.W.Frag) (neg:Bool):R2:=λx y H Q=>∃a b xs ys e,x=.ref a/\y=.ref b/\SqT K H a xs/\SqT K H b ys/\(∀(j:Nat) x y,xs[j]?=some x->ys[j]?=some y->EqD K H 8 x y (e j)) /\
 Q (.bl (if neg then !((List.range (min xs.length ys.length)).all e&&xs.length==ys.length) else ((List.range (min xs.length ys.length)).all e&&xs.length==ys.length))) H
theorem iw (hu:X.A.units+64<cLine):OpR X (compareOp .Eq) (qT X.K false):=by
 intro pins s U H x y v u Q I rx ry h;obtain⟨a,b,xs,ys,e,e1,e2,ha,hb,hi,q⟩:=h;subst e1 e2;cases rx;cases ry;obtain⟨its,r1,p1,_⟩:=I.list ha;obtain⟨its2,r2,p2,_⟩:=I.list hb;have l1:=r1.length;have l2:=r2.length;by_cases hl:xs.length=ys.length
 ·refine SeqAt.eq_listAt (e:=e) p1.isList p2.isList (by rw[Qk,Qk];exact u6 l1 l2 hl) (by exact mX hu) (EqD.items I (by exact q_ hu) r1 r2 hi) ⟨.bl _,H,I,rfl,?_⟩;rw[Qk,<-l1];have:(xs.length==ys.length)=true:=by simpa using hl
  rw[this]at q;exact q
 refine SeqAt.eq_list_lengthsAt p1.isList p2.isList (by rw[Qk,Qk,<-l1,<-l2];simpa using hl) (by exact mX hu) ⟨.bl _,H,I,rfl,?_⟩;have:(xs.length==ys.length)=false:=by simpa using hl
 rw[this]at q;exact q
theorem pq (hu:X.A.units+64<cLine):OpR X (compareOp .NotEq) (qT X.K true):=by
 intro pins s U H x y v u Q I rx ry h;obtain⟨a,b,xs,ys,e,e1,e2,ha,hb,hi,q⟩:=h;subst e1 e2;cases rx;cases ry;obtain⟨its,r1,p1,_⟩:=I.list ha;obtain⟨its2,r2,p2,_⟩:=I.list hb;have l1:=r1.length;have l2:=r2.length;by_cases hl:xs.length=ys.length
 ·refine SeqAt.RcNeAt.lists (e:=e) p1.isList p2.isList (by rw[Qk,Qk];exact u6 l1 l2 hl) (by exact mX hu) (EqD.items I (by exact q_ hu) r1 r2 hi) _ _ _ _ ⟨.bl _,H,I,rfl,?_⟩;rw[Qk,<-l1];have:(xs.length==ys.length)=true:=by simpa using hl
  rw[this]at q;exact q
 refine SeqAt.RcNeAt.lists_lengths p1.isList p2.isList (by rw[Qk,Qk,<-l1,<-l2];simpa using hl) (by exact mX hu) _ _ _ _ ⟨.bl _,H,I,rfl,?_⟩;have:(xs.length==ys.length)=false:=by simpa using hl
 rw[this]at q;exact q
theorem eK (hu:X.A.units+64<cLine):OpR X (compareOp .Eq) (oS X.K false):=by
 intro pins s U H x y v u Q I rx ry h;obtain⟨a,b,xs,ys,e,e1,e2,ha,hb,hi,q⟩:=h;subst e1 e2;cases rx;cases ry;obtain⟨its,r1,p1,_⟩:=I.tuple ha;obtain⟨its2,r2,p2,_⟩:=I.tuple hb;have l1:=r1.length;have l2:=r2.length;refine SeqAt.eq_tupleAt (e:=e) (show s.heap.IsTuple a its.toArray from p1) (show s.heap.IsTuple b its2.toArray from p2) (by exact mX hu) (EqD.items I (by exact q_ hu) r1 r2 hi) ⟨.bl _,H,I,rfl,?_⟩;rw[Qk,Qk,<-l1,<-l2];exact q
theorem tU (hu:X.A.units+64<cLine):OpR X (compareOp .NotEq) (oS X.K true):=by
 intro pins s U H x y v u Q I rx ry h;obtain⟨a,b,xs,ys,e,e1,e2,ha,hb,hi,q⟩:=h;subst e1 e2;cases rx;cases ry;obtain⟨its,r1,p1,_⟩:=I.tuple ha;obtain⟨its2,r2,p2,_⟩:=I.tuple hb;have l1:=r1.length;have l2:=r2.length;refine SeqAt.RcNeAt.tuples (e:=e) (show s.heap.IsTuple a its.toArray from p1) (show s.heap.IsTuple b its2.toArray from p2) (by exact mX hu) (EqD.items I (by exact q_ hu) r1 r2 hi) _ _ _ _ ⟨.bl _,H,I,rfl,?_⟩;rw[Qk,Qk,<-l1,<-l2];exact q
end
section
variable {X:Cx}
theorem bp:cG X (.builtin "isinstance") (λxs H Q=>∃x T ty b,xs=[x,.ty T]/\TyOf X.K H x ty/\PySem.W.kitOne X.K ty (.type T)=some b/\Q (.bl b) H):=by
 intro pins s U H xs us Q I r h;obtain⟨x,T,ty,b,e,t,k,q⟩:=h;subst e;obtain⟨u1,u2,e,r1,r2⟩:=i7 r;subst e;cases r2;exact nC I r1 t k λtk=>⟨.bl b,H,I.tok tk,rfl,q⟩
theorem nY (bs:List Bool):(List.range bs.length).all (λi=>bs.getD i false)=bs.all id:=by
 rw[xN];simp only[xa,xD]
 constructor
 ·intro h x hx;obtain⟨i,hi,e⟩:=List.mem_iff_getElem.mp hx;have q:=h i hi;rw[QU,Qb hi,Option.getD_some,e]at q;exact q
 intro h i hi;rw[QU,Qb hi,Option.getD_some];exact h _ (xG hi)
theorem qx (hc:X.calm=true):cG X (.builtin "all") (λxs H Q=>∃(l:Addr) (bs:List Bool),xs=[.ref l]/\SqL X.K H l (bs.map V.bl)/\Q (.bl (bs.all id)) H):=by
 intro pins s U H xs us Q I r h;obtain⟨l,bs,e,hl,q⟩:=h;subst e;obtain⟨u,e,ru⟩:=cR r;subst e;cases ru;obtain⟨its,rv,pl,hz⟩:=I.list hl;have hlen:=rv.length;rw[Qc]at hlen
 have ne:l≠s.heap.objs.size:=by
  obtain⟨o,ho,_⟩:=pl.isList;exact QG (Qr ho)
 refine call_all_walk (wpAny_pyIter_list pl.isList ?_);refine⟨s.heap.objs.size,_,_,_,_,_,(λi=>bs.getD i false),rfl,Walks.list (show X.A.in1.handled=none from I.ok.hd hc) s.heap.objs.size l ne its.toArray,⟨⟨_,Qt _ rfl,rfl,rfl⟩,pl.isList.push _⟩,?_,λh' tk hk=>?_⟩
 ·intro i v s' Q' E' hP hQ;have hP':its[i]?=some v:=by simpa using hP
  have hi:i<bs.length:=by
   have:=(Qe.mp hP').1;exact pC hlen this
  have e1:(bs.map V.bl)[i]?=some (.bl (bs.getD i false)):=by
   rw[QE,Qb hi,QU,Qb hi];rfl
  obtain⟨u,hu,ru⟩:=rv.get e1;rw[hP']at hu;cases hu;cases ru;exact wpAny_truthy_bool hQ
 have hs:its.toArray.size=bs.length:=by rw[Qk];exact hlen.symm
 rw[hs,nY]
 exact⟨.bl _,H,I.kept λb o e=>hk b o (by
  have:=Qr e;simp only[QB]
  exact QG this) (Qd _ e),rfl,q⟩
abbrev gq (K:PySem.W.Frag) (T:Addr) (D:List (Str × KTD.Dat)):Prop:=KTD.tabLook (KTD.datLooks λa=>K.lookup a) (λa=>K.lookup a) T D=true
theorem kB:OpR X (binaryOp .Mult) (λx y H Q=>∃z n,x=.str z/\y=.int n/\MulOk z n/\Q (.str (Txt.mul z n)) H):=by
 intro pins s U H x y v u Q I rx ry h;obtain⟨z,n,e1,e2,hm,q⟩:=h;subst e1 e2;obtain⟨t,e⟩:=rx;subst e;obtain⟨t',e⟩:=ry;subst e;exact SB.mul hm λt' k=>⟨.str _,H,I.tok k,⟨t',rfl⟩,q⟩
theorem gh:cG X (.type "int") (λxs H Q=>∃z n,xs=[.str z]/\PySem.intText? z=some n/\z.length<=640/\Q (.int n) H):=by
 intro pins s U H xs us Q I r h;obtain⟨z,n,e,h1,h2,q⟩:=h;subst e;obtain⟨u,e,ru⟩:=cR r;subst e;obtain⟨t,e⟩:=ru;subst e;exact PySem.W.KIN.call_text h1 h2 ⟨.int n,H,I.tok _,⟨_,rfl⟩,q⟩
end
theorem Inv.turned2 {pins:A1} {U:St} {s:Shared} {h':Heap} {t':Nat} {it:Addr} {o:HO} (I:Inv X pins U H s) (k:∀b o,b≠e->b≠it->s.heap.get? b=some o->h'.get? b=some o)
  (f1:dB X pins H e) (f2:dB X pins H it) (hT:s.heap.objs.size<=T) (new:a7 X.prog X.w (upd H T o) h' T o):Inv X pins U (upd H T o) { s with heap:=h',toks:=t' }:=by
 have hn:H T=none:=I.hok.fresh hT;have nT:∀b u,s.heap.get? b=some u->b≠T:=λb u q=>QG (QR (Qr q) hT);have n1:∀b u,H b=some u->b≠e:=λb u q z=>by rw[z,f1.1]at q;cases q
 have n2:∀b u,H b=some u->b≠it:=λb u q z=>by rw[z,f2.1]at q;cases q
 have kk:∀b u,b∉[e,it]->s.heap.get? b=some u->h'.get? b=some u:=λb u hc q=>k b u (λz=>hc (by simp[z])) (λz=>hc (by simp[z])) q
 refine I.step (g':=s.gens) (d':=s.drawn) (ch:=[e,it]) (λb hb=>?_) (λb u _ _ hc q _=>kk b u hc q) (λb u _ _ hc q _=>⟨u.slots,kk b u hc q⟩) (λb u _ q n=>by rw[ag (nT b u q)];exact n)
  (λb u hc q=>⟨u,kk b u hc q⟩) (λb xs q=>by rw[ag (aA q hn)];exact q) (λb u xs q=>by rw[ag (aA q hn)];exact q) (λb ps q=>⟨#[],by rw[ag (aA q hn),q];simp⟩) (λm hm=>?_) (λb u q=>?_) I.bare
 ·have z:b=e\/b=it:=by simpa using hb
  rcases z with z|z
  ·subst z;obtain⟨_,a2,_,a4,a5,a6⟩:=f1;exact⟨a4,a2,a5,a6⟩
  subst z;obtain⟨_,a2,_,a4,a5,a6⟩:=f2;exact⟨a4,a2,a5,a6⟩
 ·obtain⟨ob,es,ep,ho,r⟩:=hm;exact⟨ob,es,ep,k _ ob (Ne.symm f1.2.1) (Ne.symm f2.2.1) ho,r⟩
 by_cases hb:b=T
 ·subst hb;rw[af]at q;cases q;exact new
 rw[ag hb]at q;refine(I.hok b u q).stay (λc v hc z=>k c v ?_ ?_ z) (λc z=>by rw[ag (aA z hn)];exact z) λc xs z=>by rw[ag (aA z hn)];exact z
 ·rcases hc with z|z
  ·rw[z];exact n1 b u q
  exact n1 c _ z
 rcases hc with z|z
 ·rw[z];exact n2 b u q
 exact n2 c _ z
noncomputable def Ite (K:PySem.W.Frag) (a:Addr):It :=
 ⟨λi H=>∃xs x,SqL K H a xs/\xs[i]?=some x,λi H x H'=>∃T v,H T=none/\x=.ref T/\H'=upd H T (.tup [.int (i:Nat),v])/\∀xs,SqL K H a xs->xs[i]?=some v,λi H=>∃xs,SqL K H a xs/\xs.length<=i⟩
theorem mM {P:Program} {w:World} {elts:List Expr} {pos:Pos} (a e it:Addr) (hne:e≠it) :
  Turn P w K (.Tuple elts k pos) (Ite K a) [e,it] e (λi h=>(∃old,IsEnum h e it (i:Nat) old)/\h.IsListIter it a i) where
 mem:=by simp
 obj:=λi h st b hb=>by
  obtain⟨⟨old,he⟩,o,ho,hc,hd⟩:=st;have z:b=e\/b=it:=by simpa using hb
  rcases z with z|z
  ·subst z
   exact⟨_,he,λv q=>by
    have q':Data.fields _=Data.cell v:=q
    cases q'⟩
  subst z;exact⟨o,ho,λv q=>by rw[hd]at q;cases q⟩
 keep:=λi h h' st kk=>by
  obtain⟨⟨old,he⟩,hl⟩:=st;exact⟨⟨old,kk e (by simp) _ he⟩,hl.at λo q=>kk it (by simp) o q⟩
 item:=by
  intro X hP hw hK hc i pins s U H E I hf st hg;subst hP hw hK;obtain⟨xs,x,hq,hx⟩:=hg;obtain⟨its,rv,p,hz⟩:=I.list hq;obtain⟨u,hu,ru⟩:=rv.get hx;obtain⟨⟨old,he⟩,hl⟩:=st;have f1:=hf e (by simp);have f2:=hf it (by simp);refine wpAny_pyNext_enum_item he hl p.isList (x:=u) (by simpa using hu) hne λh1 a1 a2 a3 a4 a5=>⟨_,rfl,?_⟩;refine wpAny_letOwnedTupleGo_enum a1 λh2 b1 b2=>?_
  have nTe:s.heap.objs.size≠e:=λz=>by
   have q:=Qr (show s.heap.get? e=some _ from he);rw[<-z]at q;exact xV _ q
  have keep2:∀b o,b≠e->b≠it->s.heap.get? b=some o->h2.get? b=some o:=λb o n1 n2 q=>b2.extBut b o n1 (a5 b o n1 n2 q);have tup2:h2.get? s.heap.objs.size=some { cls:=.type "tuple", data:=.seq #[.int i s.toks,u] }:=b2.extBut _ _ nTe a3
  have I2:Inv X pins U (upd H s.heap.objs.size (.tup [.int (i:Nat),x])) { s with heap:=h2,toks:=s.toks+1 } :=
   I.turned2 keep2 f1 f2 (Qi _) ⟨(by show 2<=sizeLine;decide),[.int i s.toks,u],.cons ⟨_,rfl⟩ (.cons ru .nil),⟨_,tup2,rfl,_,rfl⟩⟩
  refine⟨.ref s.heap.objs.size,_,I2,rfl,⟨s.heap.objs.size,x,I.hok.fresh (Qi _),rfl,rfl,λys hy=>by rw[I.list_inj hy hq];exact hx⟩,⟨⟨u,?_⟩,(a2.extBut b2.extBut (Ne.symm hne))⟩,λb hb=>?_⟩
  ·have q:IsEnum h2 e it ((i:Int)+1) u:=b1;have c:(((i+1:Nat):Nat):Int)=(i:Int)+1:=by omega
   rw[c];exact q
  have z:b=e\/b=it:=by simpa using hb
  have nT:b≠s.heap.objs.size:=by
   rcases z with z|z
   ·rw[z];exact Ne.symm nTe
   rw[z];obtain⟨o,ho,_⟩:=hl;exact QG (Qr ho)
  rw[ag nT];exact(hf b hb).1
 done:=by
  intro X hP hw hK hc i pins s U H E I hf st hg;subst hP hw hK;obtain⟨xs,hq,hx⟩:=hg;obtain⟨its,rv,p,hz⟩:=I.list hq;obtain⟨⟨old,he⟩,hl⟩:=st;obtain⟨f0,f1,f2,f3,f4,f5⟩:=hf it (by simp);have hlen:=rv.length;exact wpAny_pyNext_enum_end (I.ok.hd hc) he hl p.isList (by simp;exact om4 hx hlen) λh' eb=>⟨rfl,I.turned (t':=s.toks) (λb o hb q=>eb b o hb q) f0 f1 f3 f4 f5⟩
 self:=λ_ _ _ _ _ st h=>by
  obtain⟨⟨old,he⟩,_⟩:=st;exact wpAny_pyIter_enum he h
section
variable {X:Cx} {elts:List Expr} {k:Nat} {tpos:Pos}
def vz (K:PySem.W.Frag) (ta:TA):TI:=λU H R=>ta U H λvs H1=>∃a,vs=[.ref a]/\(∃xs,SqL K H1 a xs)/\R (Ite K a) H1
theorem lL {a:Expr} {ta:TA} {p pos:Pos} (hg:Gl X "enumerate") (hm:X.mg "enumerate" = none) (ha:PA X [a] ta) (hs:starEach [a] X.env=[(false,eval a X.env)]:=by rfl):PI X (.Tuple elts k tpos) (.Call (.Name "enumerate" p) [a] [] pos) (vz X.K ta):=by
 intro pins s U H R I h;refine Call_ (dv I hg hm boot_enumerate (xT (thn (ha pos pins s U H _ I h) λus s1 ⟨vs,H1,I1,r1,q1⟩=>?_) hs rfl));obtain⟨l,e,⟨xs,hq⟩,q⟩:=q1;subst e
 cases r1 with
 | cons r rr =>
 cases rr;cases r;obtain⟨its,rv,pl,hz⟩:=I1.list hq;refine call_enumerate_list pl.isList λh' b1 b2 b3 b4=>?_;refine wpAny_pyIter_enum b1 ?_;have I2:Inv X pins U H1 { s1 with heap:=h' }:=I1.kept (t':=s1.toks) b4;refine⟨s1.heap.objs.size+1,[s1.heap.objs.size+1,s1.heap.objs.size],_,_,H1,rfl,I2,mM l (s1.heap.objs.size+1) s1.heap.objs.size (by show @Ne Nat _ _;exact om5),⟨⟨_,b1⟩,b2⟩,λb hb=>?_,q⟩;have z:b=s1.heap.objs.size+1\/b=s1.heap.objs.size:=by simpa using hb
 have hle:s1.heap.objs.size<=b:=by
  rcases z with z|z
  ·rw[z];exact Nat.le_succ _
  rw[z];exact Qi _
 exact I1.fpOk hle (I1.hok.fresh hle)
end
theorem jS {xs:List V} {g:TG} {tb:TS} {D:Ends} {U:St} (Pv:Nat->St->Hp->Prop) (h0:Pv 0 U H) (hl:∀i U H,i<=xs.length->Pv i U H->SqL K H a xs)
  (hs:∀i x U H T,xs[i]?=some x->Pv i U H->H T=none->g (.ref T) U (upd H T (.tup [.int (i:Nat),x])) λσ2 H2=>tb { D with nx:=Pv (i+1),ct:=Pv (i+1),bk:=D.nx } σ2 H2) (hd:∀U H,Pv xs.length U H->D.nx U H) :
  ∃W:Nat->Nat->St->Hp->Prop,(∃m,W 0 m U H)/\∀i m U H,W i m U H ->
   ((Ite K a).stop i H/\D.nx U H)\/((Ite K a).go i H/\∃N:St->Hp->Prop,(∀σ' H',N σ' H'->∃m',m'<m/\W (i+1) m' σ' H')/\∀x H',(Ite K a).yld i H x H'->g x U H' λσ2 H2=>tb { D with nx:=N,ct:=N,bk:=D.nx } σ2 H2):=by
 refine⟨λi m U H=>m=xs.length-i/\i<=xs.length/\Pv i U H,⟨xs.length,by simp,QT _,h0⟩,?_⟩;rintro i m U H ⟨rfl,hi,p⟩;have q:=hl i U H hi p;by_cases hlt:i<xs.length
 ·refine .inr ⟨⟨xs,xs[i],q,by simp[hlt]⟩,Pv (i+1),λσ' H' p'=>⟨xs.length-(i+1),by exact om6 hlt,rfl,hlt,p'⟩,λx H' y=>?_⟩;obtain⟨T,v,hT,ex,eH,y⟩:=y;subst ex eH;exact hs i v U H T (y xs q) p hT
 have e:i=xs.length:=by exact om0 hi hlt
 subst e;exact .inl ⟨⟨xs,q,Qi _⟩,hd U H p⟩
structure Fn (P:Program) (w:World) (K:PySem.W.Frag) (mg:A2) (base:Heap) (x:Str) (ps:List Str) (k:Nat) (sp:Sp):Prop where
 ex:∃f fd,FnOk P w K mg base CX0 k f fd ps sp/\mg x=some (.ref f)/\PySem.W.keepIn K (.ref f)=true/\dJ K fd ps []
section
variable {X:Cx}
theorem uW {x:Str} {ps:List Str} {k:Nat} {sp:Sp} {e:Expr} {es:List Expr} {t:TA} {p pos:Pos} (F:Fn X.prog X.w X.K X.mg X.base x ps k sp) (hr:Room k X.A) (hg:Gl X x) (ha:PA X (e::es) t)
  (hdb:(x==("__debug__" : Str))=false:=by decide) (he:starEach (e::es) X.env=(false,eval e X.env)::starEach es X.env:=by rfl) (hpl:(backTo pos (starEach es X.env)).any (·.1)=false:=by rfl) :
  PE X (.Call (.Name x p) (e::es) [] pos) (lg sp [] E0 t):=by
 obtain⟨f,fd,G,hm,hk,hb⟩:=F.ex;exact qV G hr hg hm hk hb .nil uX ha hdb he hpl
theorem aN {x:Str} {ps:List Str} {k j:Nat} {sp:Sp} {e:Expr} {es:List Expr} {t:TA} {p pos:Pos} (F:Fn X.prog X.w X.K X.mg X.base x ps k sp) (hr:Room j X.A) (ha:PA X (e::es) t) (hk:k<=j:=by first|decide|omega) (hg:Gl X x:=by rfl) (hdb:(x==("__debug__" : Str))=false:=by decide) (he:starEach (e::es) X.env=(false,eval e X.env)::starEach es X.env:=by rfl) (hpl:(backTo pos (starEach es X.env)).any (·.1)=false:=by rfl):PE X (.Call (.Name x p) (e::es) [] pos) (lg sp [] E0 t):=uW F (hr.mono hk) hg ha hdb he hpl
end
section
variable {U:St} {H:Hp} {Q:VK} {K:PySem.W.Frag}
variable {v x y:V}
theorem a9 {i:Nat} (h:U[i]?=some (some v)) (q:Q v H):dS i U H Q:=⟨v,h,q⟩
theorem i_c (q:Q v H):tC v U H Q:=q
variable {ta tb te to ti tl:TE}
theorem i_op {r:R2} (q:ta U H λx H1=>tb U H1 λy H2=>r x y H2 Q):tOp r ta tb U H Q:=q
variable {i j k:Int}
theorem i_rI0 {g:Int->Int->V} (q:Q (g i j) H):rI0 g (.int i) (.int j) H Q:=⟨i,j,rfl,rfl,q⟩
theorem i_rI {C:Int->Int->Prop} {g:Int->Int->V} (c:C i j) (q:Q (g i j) H):rI C g (.int i) (.int j) H Q:=⟨i,j,rfl,rfl,c,q⟩
theorem i_eq (h:mT x y=true) (q:Q (.bl (decide (x=y))) H):rEq x y H Q:=⟨h,q⟩
theorem i_ne (h:mT x y=true) (q:Q (.bl (!decide (x=y))) H):rNe x y H Q:=⟨h,q⟩
variable {R:Bool->Hp->Prop}
theorem i_test {t:TE} (q:t U H λx H'=>∃k,x=.bl k/\R k H'):si t U H R:=q
theorem i_tB {t:TE} (q:t U H λx H'=>∃k,x=.bl k/\R k H'):tB t U H R:=q
theorem i_and {t u:TT} (q:t U H λc H1=>if c=true then u U H1 R else R false H1):uL t u U H R:=q
theorem i_or {t u:TT} (q:t U H λc H1=>if c=true then R true H1 else u U H1 R):tOr t u U H R:=q
theorem i_not {t:TT} (q:t U H λc H1=>R (!c) H1):uH t U H R:=q
theorem i_andV (q:ta U H λx H1=>∃c,x=.bl c/\if c=true then tb U H1 Q else Q (.bl false) H1):sw ta tb U H Q:=q
theorem i_orV (q:ta U H λx H1=>∃c,x=.bl c/\if c=true then Q (.bl true) H1 else tb U H1 Q):vQ ta tb U H Q:=q
theorem i_notV (q:ta U H λx H1=>∃c,x=.bl c/\Q (.bl (!c)) H1):uG ta U H Q:=q
theorem i_ifE {t:TT} (q:t U H λc H1=>if c=true then ta U H1 Q else tb U H1 Q):tIf t ta tb U H Q:=q
theorem aW {R:List V->Hp->Prop} (q:R [] H):ja U H R:=q
theorem ba {tr:TA} {R:List V->Hp->Prop} (q:te U H λx H1=>tr U H1 λxs H2=>R (x::xs) H2):dg te tr U H R:=q
theorem i_call {sp:Sp} {E:XK} {t:TA} (q:t U H λvs H1=>sp vs H1 Q E):lg sp [] E t U H Q:=by
 show t U H λvs H1=>sp (vs++[]) H1 Q E;simpa only[List.append_nil] using q
theorem i_cb {r:List V->Hp->VK->Prop} {t:TA} (q:t U H λvs H1=>r vs H1 Q):tCB r t U H Q:=q
theorem i_tup {t:TA} (q:t U H λxs H1=>xs.length<=sizeLine/\∀p,H1 p=none->Q (.ref p) (upd H1 p (.tup xs))):mP t U H Q:=q
theorem i_lst {t:TA} (q:t U H λxs H1=>xs.length<=sizeLine/\∀p,H1 p=none->Q (.ref p) (upd H1 p (.lst xs))):qO t U H Q:=q
theorem i_bm {T:String} {r:V->List V->Hp->VK->Prop} {t:TA} (q:to U H λx H1=>tyV K T x H1/\t U H1 λxs H2=>r x xs H2 Q):tBM K T r to t U H Q:=q
theorem i_sl {r:V->Option Int->Option Int->Hp->VK->Prop} {tl th:TO} (q:te U H λx H1=>tl U H1 λl H2=>th U H2 λu H3=>r x l u H3 Q):tSl r te tl th U H Q:=q
theorem i_nopart {R:Option Int->Hp->Prop} (q:R none H):lc U H R:=q
theorem i_part {t:TE} {R:Option Int->Hp->Prop} (q:t U H λx H1=>∃i,x=.int i/\R (some i) H1):sj t U H R:=q
variable {xs:List V}
theorem i_ixL {p:Addr} {v:V} (h:SqL K H p xs) (e:atI xs i=some v) (q:Q v H):uU K (.ref p) (.int i) H Q:=⟨p,xs,i,v,rfl,rfl,h,e,q⟩
theorem i_ixT {p:Addr} (h:H p=some (.tup xs)) (e:atI xs i=some v) (q:Q v H):tL K (.ref p) (.int i) H Q:=⟨p,xs,i,v,rfl,rfl,SqT.of h,e,q⟩
theorem dy {z:Str} {c:Nat} (hz:z.length<=sizeLine) (e:atI z.cps.toList i=some c) (q:Q (.str ⟨#[c]⟩) H):tM (.str z) (.int i) H Q:=⟨z,i,c,rfl,rfl,hz,e,q⟩
variable {D:Ends}
theorem s_seq {t u:TS} (q:t { D with nx:=u D } U H):qL t u D U H:=q
theorem s_asg {g:TG} (q:te U H λx H1=>g x U H1 D.nx):on te g D U H:=q
theorem ay {i:Nat} {R:St->Hp->Prop} (q:R (U.set i (some v)) H):dh i v U H R:=q
theorem s_drop (q:te U H λ_ H1=>D.nx U H1):sn te D U H:=q
theorem s_ret {te:TE} (q:te U H D.rt):uF te D U H:=q
theorem s_next (q:D.nx U H):sm D U H:=q
theorem s_if {c:TT} {t u:TS} (q:c U H λb H1=>if b=true then t D U H1 else u D U H1):uI c t u D U H:=q
theorem s_sub {t:rY} {R:St->Hp->Prop} (q:to U H λo H1=>ti U H1 λi H2=>t o i v H2 λH3=>R U H3):vB to ti t v U H R:=q
theorem s_setL {p:Addr} {j:Nat} {R:Hp->Prop} (h:H p=some (.lst xs)) (e:ixN xs.length k=some j) (q:R (upd H p (.lst (xs.set j v)))):sG (.ref p) (.int k) v H R:=⟨p,xs,k,j,rfl,rfl,h,e,q⟩
theorem s_for {wi:TI} {g:TG} {tb:TS} (q:wi U H λJ H1=>∃W:Nat->Nat->St->Hp->Prop,(∃m,W 0 m U H1)/\∀i m U H,W i m U H ->
 (J.stop i H/\D.nx U H)\/(J.go i H/\∃N:St->Hp->Prop,(∀σ' H',N σ' H'->∃m',m'<m/\W (i+1) m' σ' H')/\∀x H',J.yld i H x H'->g x U H' λσ2 H2=>tb { D with nx:=N,ct:=N,bk:=D.nx } σ2 H2)):uK wi g tb D U H:=q
theorem s_rng1 {ta:TA} {R:It->Hp->Prop} (q:ta U H λvs H1=>∃j:Int,vs=[.int j]/\-(2 ^ 62)<=j/\j<2 ^ 62/\R (Itr 0 j.toNat) H1):sR ta U H R:=q
theorem s_list {R:It->Hp->Prop} (q:tl U H λx H1=>∃a,x=.ref a/\(∃xs,SqL K H1 a xs)/\R (Itl K a) H1):jR K tl U H R:=q
theorem s_str {R:It->Hp->Prop} (q:tl U H λv H1=>∃z:Str,v=.str z/\R (Itf z.cps.size (fD z)) H1):vV tl U H R:=q
theorem bF {wi:TI} {g:TG} {tt:TT} {f:St->St} (q:wi U H λJ H1=>∀D,H1 D=none->∃W:Nat->Nat->Hp->List V->Prop,(∃m,W 0 m (upd H1 D (.lst [])) []) /\
 ∀i m H ys,W i m H ys->H D=some (.lst ys)/\((J.stop i H/\Q (.ref D) H)\/(J.go i H/\∀x H',J.yld i H x H'->g x (f U) H' λσ2 H2=>wk (f U) σ2/\tt σ2 H2 λb H3 =>
  if b=true then te σ2 H3 λv H4=>H4 D=some (.lst ys)/\ys.length<sizeLine/\∃m',m'<m/\W (i+1) m' (upd H4 D (.lst (ys++[v]))) (ys++[v])
  else ∃m',m'<m/\W (i+1) m' H3 ys))):fz wi g tt te f U H Q:=q
end
def eh (Pv:Nat->Hp->List V->Prop) (n:Nat) (D:Addr) (i:Nat) (ys:List V):VK:=λv H4=>H4 D=some (.lst ys)/\ys.length<sizeLine/\∃m',m'<n-i/\(m'=n-(i+1)/\i+1<=n/\Pv (i+1) (upd H4 D (.lst (ys++[v]))) (ys++[v]))
theorem eh.mk {Pv:Nat->Hp->List V->Prop} {D:Addr} {ys:List V} {v:V} (hd:H4 D=some (.lst ys)) (hi:i<n) (hl:ys.length<sizeLine) (p:Pv (i+1) (upd H4 D (.lst (ys++[v]))) (ys++[v])):eh Pv n D i ys v H4 :=
 ⟨hd,hl,n-(i+1),by exact om6 hi,rfl,hi,p⟩
section
variable {K:PySem.W.Frag} {g:TG} {te:TE} {σ0:St} {QD:Hp->Prop} {H1:Hp} {D:Addr}
theorem kY {lo:Int} {n:Nat} (Pv:Nat->Hp->List V->Prop) (h0:Pv 0 (upd H1 D (.lst [])) []) (hD:∀i H ys,Pv i H ys->H D=some (.lst ys))
  (hs:∀i H ys,i<n->Pv i H ys->g (.int (lo+i)) σ0 H λσ2 H2=>wk σ0 σ2/\eZ σ2 H2 λb H3=>if b=true then te σ2 H3 (eh Pv n D i ys) else ∃m',m'<n-i/\(m'=n-(i+1)/\i+1<=n/\Pv (i+1) H3 ys)) (hd:∀H ys,Pv n H ys->QD H) :
  ∃W:Nat->Nat->Hp->List V->Prop,(∃m,W 0 m (upd H1 D (.lst [])) [])/\∀i m H ys,W i m H ys->H D=some (.lst ys)/\(((Itr lo n).stop i H/\QD H)\/((Itr lo n).go i H/\∀x H',(Itr lo n).yld i H x H'->g x σ0 H' λσ2 H2=>wk σ0 σ2/\eZ σ2 H2 λb H3 =>
   if b=true then te σ2 H3 λv H4=>H4 D=some (.lst ys)/\ys.length<sizeLine/\∃m',m'<m/\W (i+1) m' (upd H4 D (.lst (ys++[v]))) (ys++[v]) else ∃m',m'<m/\W (i+1) m' H3 ys)):=by
 refine⟨λi m H ys=>m=n-i/\i<=n/\Pv i H ys,⟨n,by simp,QT _,h0⟩,?_⟩;rintro i m H ys ⟨rfl,hi,p⟩;refine⟨hD i H ys p,?_⟩;by_cases hlt:i<n
 ·refine .inr ⟨hlt,λx H' y=>?_⟩;obtain⟨e,y⟩:=y;subst e y;exact hs i _ ys hlt p
 have e:i=n:=by exact om0 hi hlt
 subst e;exact .inl ⟨Qi _,hd H ys p⟩
theorem nV {a:Addr} {xs:List V} (Pv:Nat->Hp->List V->Prop) (h0:Pv 0 (upd H1 D (.lst [])) []) (hD:∀i H ys,Pv i H ys->H D=some (.lst ys)/\SqL K H a xs)
  (hs:∀i x H ys,xs[i]?=some x->Pv i H ys->g x σ0 H λσ2 H2=>wk σ0 σ2/\eZ σ2 H2 λb H3=>if b=true then te σ2 H3 (eh Pv xs.length D i ys) else ∃m',m'<xs.length-i/\(m'=xs.length-(i+1)/\i+1<=xs.length/\Pv (i+1) H3 ys)) (hd:∀H ys,Pv xs.length H ys->QD H) :
  ∃W:Nat->Nat->Hp->List V->Prop,(∃m,W 0 m (upd H1 D (.lst [])) [])/\∀i m H ys,W i m H ys->H D=some (.lst ys)/\(((Itl K a).stop i H/\QD H)\/((Itl K a).go i H/\∀x H',(Itl K a).yld i H x H'->g x σ0 H' λσ2 H2=>wk σ0 σ2/\eZ σ2 H2 λb H3 =>
   if b=true then te σ2 H3 λv H4=>H4 D=some (.lst ys)/\ys.length<sizeLine/\∃m',m'<m/\W (i+1) m' (upd H4 D (.lst (ys++[v]))) (ys++[v]) else ∃m',m'<m/\W (i+1) m' H3 ys)):=by
 refine⟨λi m H ys=>m=xs.length-i/\i<=xs.length/\Pv i H ys,⟨xs.length,by simp,QT _,h0⟩,?_⟩;rintro i m H ys ⟨rfl,hi,p⟩;obtain⟨d1,d2⟩:=hD i H ys p;refine⟨d1,?_⟩;by_cases hlt:i<xs.length
 ·refine .inr ⟨⟨xs,xs[i],d2,by simp[hlt]⟩,λx H' y=>?_⟩;obtain⟨e,y⟩:=y;subst e;exact hs i x _ ys (y xs d2) p
 have e:i=xs.length:=by exact om0 hi hlt
 subst e;exact .inl ⟨⟨xs,d2,Qi _⟩,hd H ys p⟩
end
section
variable {H:Hp} {Q:VK} {K:PySem.W.Frag}
theorem fU {z:Str} {lo hi:Option Int} (h:z.length<=sizeLine) (q:Q (.str (Txt.slice z lo hi)) H):uR (.str z) lo hi H Q:=⟨z,rfl,h,q⟩
variable {xs zs:List V}
theorem sP {a:Addr} {lo hi:Option Int} (h:SqL K H a xs) (q:∀p,H p=none->Q (.ref p) (upd H p (.lst (iP xs lo hi)))):uS K (.ref a) lo hi H Q:=⟨a,xs,rfl,h,q⟩
theorem vU {x:V} {p:Addr} (h:SqL K H p xs) (fx:cF x=true) (fs:xs.all cF=true) (q:Q (.bl (inV x xs)) H):rIn K false x (.ref p) H Q:=⟨p,xs,rfl,.inl h,fx,fs,q⟩
theorem eX {l b:Addr} (h1:H l=some (.lst xs)) (h2:H b=some (.lst zs)) (hz:xs.length+zs.length<=sizeLine) (q:∀p,H p=none->Q (.ref p) (upd H p (.lst (xs++zs)))):qU (.ref l) (.ref b) H Q:=⟨l,b,xs,zs,rfl,rfl,h1,h2,hz,q⟩
theorem cE {l:Addr} {xs:List V} {y:V} (h:H l=some (.lst xs)) (hz:xs.length<sizeLine) (q:Q .non (upd H l (.lst (xs++[y])))):lI (.ref l) [y] H Q:=⟨l,xs,y,rfl,rfl,h,hz,q⟩
theorem i_tyL {p:Addr} (h:H p=some (.lst xs)):tyV K "list" (.ref p) H:=.inl ⟨rfl,xs,SqL.of h⟩
end
theorem am {p:Addr} {o:HO} (hp:H p=none):ak H (upd H p o):=λb u e=>by rw[ag (aA e hp)];exact e
end L2
namespace L2
open PySem
section
variable {U:St} {H:Hp} {D:Ends}
theorem s_seqT {t u:TS} (q:let D':Ends:={ D with nx:=u D };t D' U H):qL t u D U H:=q
theorem s_nameT {i:Nat} {v:V} {R:St->Hp->Prop} (q:let σ':St:=U.set i (some v);R σ' H):dh i v U H R:=q
end
variable {H:Hp}
theorem i_yes {U:St} {R:Bool->Hp->Prop} (q:R true H):eZ U H R:=q
theorem i_dget {td ty:TE} {U:St} {Q:VK} (q:td U H λx H1=>ty U H1 λy H2=>∃a v,x=.ref a/\eA H2 a y (some v)/\Q v H2):su td ty U H Q:=q
theorem i_un {r:V->Hp->VK->Prop} {ta:TE} {U:St} {Q:VK} (q:ta U H λx H1=>r x H1 Q):tUn r ta U H Q:=q
theorem i_rU {g:Int->V} {i:Int} {Q:VK} (q:Q (g i) H):rU g (.int i) H Q:=⟨i,rfl,q⟩
end L2
namespace L2
open PySem PySem.Spec PyProof.Rows
def fX (H:Hp) (c:Addr):Hp:=λb=>if b=c then none else H b
variable {c b cell fa a T:Addr} {H H':Hp}
theorem dF:fX H c c=none:=Qw rfl
theorem bD (h:b≠c):fX H c b=H b:=Qq h
theorem nP {o:HO} (h:fX H c b=some o):b≠c/\H b=some o:=by
 by_cases e:b=c
 ·subst e;rw[dF]at h;cases h
 rw[bD e]at h;exact⟨e,h⟩
def j_ (o:Obj):HO:=.frz o (.ext λ_=>True)
section
variable {P:Program} {w:World} {H H1:Hp} {h h1:Heap} {c:Addr} {o:Obj} {fs ex:A3}
theorem rX {H:Hp} (e:h.get? c=some o):a7 P w H h c (j_ o):=⟨e,trivial,⟨o,e⟩,λ_ _ _ _=>trivial⟩
theorem HOk.drop (x:HOk P w H h) (hc:H c=some (j_ o)):HOk P w (fX H c) h:=λb u e=>by
 obtain⟨_,e⟩:=nP e;refine(x b u e).stay (λ_ _ _ q=>q) (λd q=>?_) λd xs q=>?_
 ·rw[bD];exact q;intro z;subst z;rw[hc]at q;cases q
 rw[bD];exact q;intro z;subst z;rw[hc]at q;cases q
theorem HOk.take (x:HOk P w H h) (hc:H c=none) (e:h.get? c=some o):HOk P w (upd H c (j_ o)) h:=λb u q=>by
 by_cases hb:b=c
 ·subst hb;rw[af]at q;cases q;exact rX e
 rw[ag hb]at q;refine(x b u q).stay (λ_ _ _ r=>r) (λd r=>?_) λd xs r=>?_
 ·rw[ag (aA r hc)];exact r
 rw[ag (aA r hc)];exact r
theorem Un.back (u:Un fs ex (fX H c) H1 h h1) (hc:H c=some (j_ o)) (e:h.get? c=some o) (nf:c∉fs) (nx:c∉ex):Un fs ex H (upd H1 c (j_ o)) h h1/\H1 c=none/\h1.get? c=some o:=by
 have h1c:=u.free c o e dF nx;have e1:=u.keep c o e dF nf nx;have ne:∀{b v},H b=some v->v≠j_ o->b≠c:=λq n z=>by subst z;rw[hc]at q;cases q;exact n rfl
 have nn:∀{b},H b=none->b≠c:=λq z=>by subst z;rw[hc]at q;cases q
 refine⟨⟨λb ob q n hb hx=>?_,λb ob q n hb hx=>?_,λb ob q n hx=>?_,λb ob q hx=>u.there b ob q hx,λb xs q=>?_,λb ob v q=>?_,λb ps q=>?_⟩,h1c,e1⟩
 ·exact u.keep b ob q (by rw[bD (nn n)];exact n) hb hx
 ·exact u.slot b ob q (by rw[bD (nn n)];exact n) hb hx
 ·rw[ag (nn n)];exact u.free b ob q (by rw[bD (nn n)];exact n) hx
 ·have nb:=ne q (λz=>by cases z);rw[ag nb];exact u.tups b xs (by rw[bD nb];exact q)
 ·by_cases nb:b=c
  ·subst nb;rw[hc]at q;cases q;exact af
  rw[ag nb];exact u.frzs b ob v (by rw[bD nb];exact q)
 have nb:=ne q (λz=>by cases z);rw[ag nb];exact u.tbls b ps (by rw[bD nb];exact q)
theorem Un.out (u:Un fs ex (upd H c (j_ o)) H1 h h1) (k1:HOk P w H1 h1) (hc:H c=none) (e:h.get? c=some o) (nf:c∉fs):Un fs ex H (fX H1 c) h h1/\HOk P w (fX H1 c) h1/\H1 c=some (j_ o):=by
 have h1c:=u.frzs c o _ af;have e1:=(k1 c _ h1c).1;refine⟨⟨λb ob q n hb hx=>?_,λb ob q n hb hx=>?_,λb ob q n hx=>?_,λb ob q hx=>u.there b ob q hx,λb xs q=>?_,λb ob v q=>?_,λb ps q=>?_⟩,k1.drop h1c,h1c⟩
 ·by_cases nb:b=c
  ·subst nb;rw[e]at q;cases q;exact e1
  exact u.keep b ob q (by rw[ag nb];exact n) hb hx
 ·have nb:b≠c:=λz=>by subst z;exact nf hb
  exact u.slot b ob q (by rw[ag nb];exact n) hb hx
 ·by_cases nb:b=c
  ·subst nb;exact dF
  rw[bD nb];exact u.free b ob q (by rw[ag nb];exact n) hx
 ·have nb:=aA q hc;rw[bD nb];exact u.tups b xs (by rw[ag nb];exact q)
 ·have nb:=aA q hc;rw[bD nb];exact u.frzs b ob v (by rw[ag nb];exact q)
 have nb:=aA q hc;rw[bD nb];exact u.tbls b ps (by rw[ag nb];exact q)
end
structure Lm where
 qual:Str
 params:Arguments
 body:Expr
 scope:Scope
 pos:Pos
def vN (c:Addr) (qual:Str):HO:=.ext λh=>h.CodeRec (.ref c) qual
def v4 (f:Addr) (l:Lm) (cl:List (Str × Addr)) (c:Addr):HO:=.ext λh=>∃pm ctv,h.get? f=some (PySem.W.kla_obj "<lambda>" l.qual l.params l.body l.scope cl pm c ctv)
def mr (l:Lm) (c:Addr):Array Value:=#[rawInt l.pos.line,rawInt l.pos.col,.ref c]
structure Made (T:Addr) (l:Lm) (cl:List (Str × Addr)) (H:Hp) (f c:Addr) (H':Hp):Prop where
 new:H f=none
 fn:H' f=some (v4 f l cl c)
 code:H' c=some (vN c l.qual)
 tab:H' T=some (.tbl (mr l c))
 old:∀b o,H b=some o->b≠T->H' b=some o
def eY (base:Heap) (mg:A2):Prop:=∃bm ob,mg "__builtins__" = some (.ref bm)/\bm≠builtinsNs/\bm≠mainGlobals/\base.get? bm=some ob/\ob.cls=.type "module" /\ ob.dict=some builtinsNs/\ob.data=.plain
section
variable {X:Cx}
end
structure LmScope (x y:Str) (sc:Scope):Prop where
 kind:sc.kind=.function
 co:sc.isCoroutine=false
 gen:sc.isGenerator=false
 par:sc.names.lookup x=some .local
 fre:sc.names.lookup y=some .free
 ne:x≠y
 nocell:∀z∈sc.names,z.2≠.cell
 only:∀z,sc.names.lookup z=some .free->z=y
def Calls (P:Program) (w:World) (K:PySem.W.Frag) (mg:A2) (base:Heap) (k:Nat) (f:Addr) (r:V->Hp->VK->Prop):Prop :=
 ∀(X:Cx),X.prog=P->X.w=w->X.K=K->X.mg=mg->X.base=base->iY CX0 X E0->Room k X.A->∀pins s U H vx u (Q:VK),Inv X pins U H s->aU vx u->r vx H Q->wpAny (model X.prog X.w) X.A (call (.ref f) [u]) (EP X pins U Q) X.xe s
variable {y x:Str}
theorem Inv.cellAt {X:Cx} {pins:A1} {s:Shared} {U:St} {i:Nat} {vy:V} (I:Inv X pins U H s) (hN:X.N[i]?=some y) (hi:U[i]?=some (some vy)) (hk:X.env.kindOf y=some .cell) (hv:Vis X.env.scope y) (hl:X.env.cells.lookup y=some cell) :
  ∃o uy,s.heap.get? cell=some o/\o.data=.cell (some uy)/\aU vy uy/\H cell=none:=by
 obtain⟨m,_,loc⟩:=I.loc;obtain⟨u,ru,lk⟩:=loc i y vy hN hi hv;rcases lk with⟨k,_⟩|⟨_,c,e,o,e1,e2⟩
 ·rw[hk]at k;cases k
 rw[hl]at e;cases e;exact⟨o,u,e1,e2,ru,I.freeC y cell hl⟩
structure FunC (K:PySem.W.Frag) (x qual:Str) (st:Stmt) (f:Addr) (fd:FuncData) (c:Addr):Prop where
 ex:∃oc od kV doc pm an ct osl,fd=PySem.W.fnOf x qual (b9 st) (bJ st) (az st) .none kV doc pm an (.ref c) ct/\K.lookup f=some ⟨oc,od,.func (PySem.W.fnOf x qual (b9 st) (bJ st) (az st) .none kV doc pm an (.ref c) ct),osl⟩/\PySem.W.codeIn K (.ref c) qual=true
section
variable {P:Program} {w:World} {K:PySem.W.Frag} {mg:A2} {base:Heap}
theorem FunC.ok {x qual:Str} {st:Stmt} {f c:Addr} {fd:FuncData} {N ps:List Str} {k:Nat} {sp:Sp} (F:FunC K x qual st f fd c) (S:FnScope N ps (az st)) (len:∀vs H Q E,sp vs H Q E->vs.length=ps.length)
  (hbody:∀(A:Around) (outer:List Env) (s:Shared) (H:Hp) (vs:List V) (Q:VK) (E:XK),Room k (A.deeper (envOfC qual (az st) s.heap.objs.size f (.ref c)))->sp vs H Q E ->
   ∃t,PSs (cxOf CX0 P w K mg base N qual (az st) f (.ref c) A outer s H E).nox (bJ st) t/\t { nx:=λ_ H'=>Q .non H',rt:=Q } (start N vs) H):FnOk P w K mg base CX0 (k+1) f fd ps sp:=by
 obtain⟨oc,od,kV,doc,pm,an,ct,osl,rfl,lk,hcd⟩:=F.ex;refine sU lk hcd S len λA outer s H vs Q E hr hsp=>?_;obtain⟨t,h,q⟩:=hbody A outer s H vs Q E hr hsp;exact⟨t,h.nox,q⟩
end
structure OnlyT (tabs:List (Addr × Addr)) (H:Hp):Prop where
 tab:∀q∈tabs,H q.2=some (.tbl #[])
 other:∀b,b∉tabs.map (·.2)->H b=none\/∃o xs,H b=some (.frz o (.lst xs))
variable {mg mb:A2} {K:PySem.W.Frag} {P q:Program}
theorem nv {w:World} {CX:CXT} {k:Nat} {fd:FuncData} {sp:Sp} {s₁:Shared} {vs:List Value} {ns:List Int} {tabs:List (Addr × Addr)}
  (KX:K.In s₁.heap) (hns:s₁.heap.Ns mainGlobals mg) (hb:s₁.heap.Ns builtinsNs mb) (hbb:∀x:Str,x ≠ "__name__" -> mb x=bootBuiltins x) (hlim:s₁.heap.NoLimit) (hg:s₁.gens=#[])
  (hbm:eY s₁.heap mg) (hT:PySem.W.TabsAt tabs s₁.heap) (hTK:∀q∈tabs,K.lookup q.2=none)
  (ha:s₁.heap.get? a=some { cls:=.type "list", data:=.seq vs.toArray }) (hi:IntsAre vs ns) (hl:ns.length<=sizeLine) (hr:Room k callerA)
  (F:∀base:Heap,K.In base->base.Ns mainGlobals mg->eY base mg->FnOk P w K mg base CX k fa fd [x] sp) (hbind:∀(s:Shared) (u:Value),BindsTo s fd ⟨[u],[]⟩ [(x,u)])
  (hsp:∀H:Hp,OnlyT tabs H->SqL K H a (ns.map V.int)->sp [.ref a] H (λv _=>v=.bl true) λ_ _ _=>False)
  (hCX:∀H e s',CX [] H s₁ (λ_ _ _=>False) e s'->False) :
  codeAny (model P w) callerA (.call (.ref fa) ⟨[.ref a],[]⟩) (λr s'=>r=.ok (.ret (.bool true))/\OldK s₁.heap s'.heap/\s'.os=s₁.os/\AllBare s'.gens) s₁:=by
 have rv:=gj hi;have lenV:=hi.length
 have naT:a∉tabs.map (·.2):=λq=>by
  obtain⟨r,hr,e⟩:=Qo.mp q;have e2:=(hT r hr).2;rw[e,ha]at e2;cases e2
 have core:∀H:Hp,OnlyT tabs H->SqL K H a (ns.map V.int)->HOk P w H s₁.heap->(∀b,H b≠none->b=a\/b∈tabs.map (·.2))->(H a≠none->K.lookup a=none) ->
   codeAny (model P w) callerA (.call (.ref fa) ⟨[.ref a],[]⟩) (λr s'=>r=.ok (.ret (.bool true))/\OldK s₁.heap s'.heap/\s'.os=s₁.os/\AllBare s'.gens) s₁:=by
  intro H hO hS hok hA hK;have base_of:∀{b:Addr} {o:Obj},s₁.heap.get? b=some o->H b=none->(ge s₁.heap H).get? b=some o:=λe n=>p_ e n
  have noA:∀{b:Addr} {o:Obj},s₁.heap.get? b=some o->(∀ps n,o.data≠.seq ps n)->(∀ps,o.data≠.fields ps)->H b=none:=λ{b o} e d1 d2=>by
   cases q:H b with
   | none=>rfl
   | some u =>
   rcases hA b (by rw[q];simp) with e'|e'
   ·subst e';rw[ha]at e;cases e;exact absurd rfl (d1 _ _)
   obtain⟨r,hr,er⟩:=Qo.mp e';have e2:=(hT r hr).2;rw[er,e]at e2;cases e2;exact absurd rfl (d2 _)
  have nsK:∀{b:Addr} {m:A2},s₁.heap.Ns b m->(ge s₁.heap H).Ns b m:=λ{b m} ⟨o,es,ep,e,d,r⟩=>⟨o,es,ep,base_of e (noA e (λ_ _ z=>by rw[d]at z;cases z) (λ_ z=>by rw[d]at z;cases z)),d,r⟩
  have hKb:K.In (ge s₁.heap H):=λb o e=>base_of (KX b o e) (by
   cases q:H b with
   | none=>rfl
   | some u =>
   rcases hA b (by rw[q];simp) with e'|e'
   ·subst e';rw[hK (by rw[q];simp)]at e;cases e
   obtain⟨r,hr,er⟩:=Qo.mp e';have e2:=hTK r hr;rw[er,e]at e2
   cases e2)
  have hM:Mod K mg (ge s₁.heap H):=⟨hKb,nsK hns,⟨mb,nsK hb,hbb⟩,let ⟨mc,h1,h2⟩:=hlim;⟨mc,nsK h1,h2⟩⟩
  have hB:eY (ge s₁.heap H) mg:=by
   obtain⟨bm,ob,b1,b2,b3,b4,b5,b6,b7⟩:=hbm;exact⟨bm,ob,b1,b2,b3,base_of b4 (noA b4 (λ_ _ z=>by rw[b7]at z;cases z) (λ_ z=>by rw[b7]at z;cases z)),b5,b6,b7⟩
  have e0:Env0 P w K mg (ge s₁.heap H) callerA [] s₁ H:=⟨rfl,hM,λb o e=>rk e,Nat.le_of_eq (nH _ _),trivial,λb hb=>absurd (show b∈([]:A3) from hb) (by simp),hok,.of_eq hg⟩;refine codeAny_mono ((F _ hKb (nsK hns) hB).run callerA [] s₁ H ⟨[.ref a],[]⟩ [.ref a] [.ref a] _ _ hr e0 (hbind s₁ (.ref a)) (.cons rfl .nil) (hsp H hO hS)) λr s' h=>?_
  cases r with
  | error e=>exact(hCX H e s' h).elim
  | ok fl =>
  cases fl with
  | next=>exact False.elim h
  | brk=>exact False.elim h
  | cont=>exact False.elim h
  | ret u =>
  obtain⟨v,H',os,bare,un,hok',r',q⟩:=h;have q':v=.bl true:=q;subst q';obtain rfl:u=Value.bool true:=r';refine⟨rfl,⟨λb o e=>?_,λb o e=>un.there b o e (by simp)⟩,os,bare⟩
  cases q:H b with
  | none=>exact .inl (un.keep b o e q (by intro z;exact absurd (show b∈([]:A3) from z) (by simp)) (by simp))
  | some u =>
  by_cases hb:b∈tabs.map (·.2)
  ·obtain⟨r,hr,er⟩:=Qo.mp hb;have t1:=hO.tab r hr;have e2:=(hT r hr).2;have ict:=((hT r hr).1.tab (hT r hr).2).isCodeTable;rw[er]at t1 e2 ict;rw[e]at e2;cases e2;obtain⟨more,t2⟩:=un.tbls b _ t1;have t3:s'.heap.get? b=some { cls:=.none,data:=.fields (#[]++more) }:=hok' b _ t2;exact .inr (.inl ⟨ict,rfl,#[],more,rfl,t3⟩)
  rcases hO.other b hb with z|⟨ob,xs,z⟩
  ·rw[q]at z;cases z
  have z2:=un.frzs b ob _ z;obtain⟨e1,_⟩:=hok b _ z;obtain⟨e2,_⟩:=hok' b _ z2;rw[e]at e1;cases e1;exact .inl e2
 let HT:Hp:=λb=>if b∈tabs.map (·.2) then some (.tbl #[]) else none
 have htab:∀b,b∈tabs.map (·.2)->s₁.heap.get? b=some (PySem.W.tabObj #[]):=λb hb=>by
  obtain⟨r,hr,er⟩:=Qo.mp hb;rw[<-er];exact(hT r hr).2
 cases hk:K.lookup a with
 | some o =>
  have e:=KX a o hk;rw[ha]at e;cases e;refine core HT ⟨λq hq=>Qw (Qo.mpr ⟨q,hq,rfl⟩),λb hb=>.inl (Qq hb)⟩ (.inr ⟨_,vs.toArray,_,hk,rfl,rfl,rfl,by rw[Qk,lenV];exact hl,by simpa using rv⟩) (λb u z=>?_) (λb z=>?_) λz=>absurd (Qq naT) z
  ·by_cases hb:b∈tabs.map (·.2)
   ·have z':=(Qw hb).symm.trans z;cases z';exact htab b hb
   have z':=(Qq hb).symm.trans z;cases z'
  by_cases hb:b∈tabs.map (·.2)
  ·exact .inr hb
  exact absurd (Qq hb) z
 | none =>
 let HA:Hp:=λb=>if b=a then some (.frz { cls:=.type "list", data:=.seq vs.toArray } (.lst (ns.map V.int))) else HT b;have hA1:HA a=some (.frz { cls:=.type "list", data:=.seq vs.toArray } (.lst (ns.map V.int))):=Qw rfl;have hA2:∀b,b≠a->HA b=HT b:=λb h=>Qq h;refine core HA ⟨λq hq=>?_,λb hb=>?_⟩ (.inl (.inr ⟨{ cls:=.type "list", data:=.seq vs.toArray },hA1⟩)) (λb u z=>?_) (λb z=>?_) λ_=>hk
 ·rw[hA2 _ λz=>naT (Qo.mpr ⟨q,hq,z⟩)];exact Qw (Qo.mpr ⟨q,hq,rfl⟩)
 ·by_cases hba:b=a
  ·subst hba;exact .inr ⟨_,_,hA1⟩
  rw[hA2 b hba];exact .inl (Qq hb)
 ·by_cases hba:b=a
  ·subst hba;rw[hA1]at z;cases z;exact⟨ha,by rw[Qc];exact hl,vs,_,rv,ha⟩
  rw[hA2 b hba]at z;by_cases hb:b∈tabs.map (·.2)
  ·have z':=(Qw hb).symm.trans z;cases z';exact htab b hb
  have z':=(Qq hb).symm.trans z;cases z'
 by_cases hba:b=a
 ·exact .inl hba
 rw[hA2 b hba]at z;by_cases hb:b∈tabs.map (·.2)
 ·exact .inr hb
 exact absurd (Qq hb) z
variable {loose:List Str}
theorem qy {p:Program} {mean:ExcName->Option Value} {h:Heap} (T:Top p loose mean mg mb h):eY h mg:=by
 obtain⟨bm,ob,b1,b2,b3,b4,b5,b6⟩:=T.bmain;refine⟨bm,ob,b1,b2,λq=>?_,b3,b4,b5,b6⟩;obtain⟨o,es,ep,e,hd,_⟩:=T.g;rw[q,e]at b3;cases b3;rw[hd]at b6;cases b6
variable {XP:A2->Heap->Prop} {l:PySem.W.OpenLaw}
theorem nZ {n k:Nat} {YP:World->Heap->Prop} {d:DefRec} {K:Params->PySem.W.Frag} {CX:World->CXT} {sp:World->Sp} (tabs:World->List (Addr × Addr))
  (hn:l.most=some n) (hn2:n<=sizeLine) (hdf:d.params.defaults=[]) (hr:Room k callerA)
  (hY:∀(w:World) (h:Heap),YP w h->(K w.params).In h) (hY2:∀(w:World) (h:Heap),YP w h->PySem.W.TabsAt (tabs w) h) (hTK:∀(w:World),∀q∈tabs w,(K w.params).lookup q.2=none)
  (F:∀(w:World) (mg:A2) (fa:Addr) (h:Heap),(K w.params).In h->h.Ns mainGlobals mg->mg d.name=some (.ref fa) ->
   ∃fd:FuncData,(∀(s:Shared) (u:Value),BindsTo s fd ⟨[u],[]⟩ [(x,u)]) /\
    ∀base:Heap,(K w.params).In base->base.Ns mainGlobals mg->eY base mg->FnOk l.prog w (K w.params) mg base (CX w) k fa fd [x] (sp w))
  (hsp:∀(w:World) (H:Hp) (a:Addr) (ns:List Int),ns.length<=n->OnlyT (tabs w) H->SqL (K w.params) H a (ns.map V.int)->sp w [.ref a] H (λv _=>v=.bl true) λ_ _ _=>False)
  (hCX:∀(w:World) (H:Hp) (s:Shared) (e:Value) (s':Shared),CX w [] H s (λ_ _ _=>False) e s'->False) :
  PySem.W.WalkO q loose XP YP l.row.toRowW d [] (λf vs=>PySem.call f vs):=by
 refine Att.j0 hn hdf λw s₀ s₁ mg mb fa o pm cd doc a vs ns G Y ho hd hcd hmg hobj hints hlen hg=>?_;have KX:=hY w _ Y;obtain⟨fd,hb,hF⟩:=F w mg fa _ KX G.T.g hmg;exact nv KX G.T.g G.T.b G.T.builtins G.T.nolimit hg (qy G.T) (hY2 w _ Y) (hTK w) hobj hints (QK hlen hn2) hr hF hb (λH hO hS=>hsp w H a ns hlen hO hS) λH e s'=>hCX w H s₁ e s'
def kM (K:PySem.W.Frag) (ts:A3):List (Addr × Addr):=ts.flatMap λT=>(K.filter λp=>PySem.W.codeHdIn K p.1 T).map λp=>(p.1,T)
def d0 (K:PySem.W.Frag) (ts:A3):Bool:=ts.all λT=>(K.any λp=>PySem.W.codeHdIn K p.1 T)&&(K.lookup T).isNone
variable {ts as:A3}
theorem fQ {q:Addr × Addr} (h:q∈kM K ts):q.2∈ts/\PySem.W.codeHdIn K q.1 q.2=true:=by
 obtain⟨T,hT,h⟩:=List.mem_flatMap.mp h;obtain⟨p,hp,rfl⟩:=Qo.mp h;exact⟨hT,(List.mem_filter.mp hp).2⟩
theorem kL (ok:d0 K ts=true) (hT:T∈ts):∃c,(c,T)∈kM K ts:=by
 have h:=xa.mp ok T hT;rw[xF]at h;obtain⟨p,hp,e⟩:=List.any_eq_true.mp h.1;exact⟨p.1,List.mem_flatMap.mpr ⟨T,hT,Qo.mpr ⟨p,List.mem_filter.mpr ⟨hp,e⟩,rfl⟩⟩⟩
theorem kK (ok:d0 K ts=true) (hT:T∈ts):K.lookup T=none:=by
 have h:=xa.mp ok T hT;rw[xF]at h;exact Option.isNone_iff_eq_none.mp h.2
theorem n9 {n k:Nat} {d:DefRec} {K:Params->PySem.W.Frag} {e:∀P,as=(K P).map (·.1)} {CX:World->CXT} {sp:World->Sp}
  (hn:l.most=some n) (hn2:n<=sizeLine) (hdf:d.params.defaults=[]) (hr:Room k callerA) (ok:∀w:World,d0 (K w.params) ts=true)
  (F:∀(w:World) (mg:A2) (fa:Addr) (h:Heap),(K w.params).In h->h.Ns mainGlobals mg->mg d.name=some (.ref fa) ->
   ∃fd:FuncData,(∀(s:Shared) (u:Value),BindsTo s fd ⟨[u],[]⟩ [(x,u)]) /\
    ∀base:Heap,(K w.params).In base->base.Ns mainGlobals mg->eY base mg->FnOk l.prog w (K w.params) mg base (CX w) k fa fd [x] (sp w))
  (hsp:∀(w:World) (H:Hp) (a:Addr) (ns:List Int),ns.length<=n->(∀T∈ts,H T=some (.tbl #[]))->SqL (K w.params) H a (ns.map V.int)->sp w [.ref a] H (λv _=>v=.bl true) λ_ _ _=>False)
  (hCX:∀(w:World) (H:Hp) (s:Shared) (e:Value) (s':Shared),CX w [] H s (λ_ _ _=>False) e s'->False) :
  PySem.W.WalkO q loose XP (PySem.W.kmHook K as e ts).says l.row.toRowW d [] (λf vs=>PySem.call f vs):=by
 refine nZ (λw=>kM (K w.params) ts) hn hn2 hdf hr (λw h Y=>PySem.W.km_in_of Y) (λw h Y q hq=>?_) (λw q hq=>kK (ok w) (fQ hq).1) F (λw H a ns h1 hO hS=>hsp w H a ns h1 (λT hT=>?_) hS) hCX
 ·obtain⟨h1,h2⟩:=fQ hq;exact⟨PySem.W.codeHd_of_K (PySem.W.km_in_of Y) h2,PySem.W.km_tabs_of Y _ h1⟩
 obtain⟨c,hc⟩:=kL (ok w) hT;exact hO.tab _ hc
def Fz:HO->Prop
 | .dK _=>True
 | .dT _=>True
 | .lst _=>True
 | _=>False
def back (H:Hp) (a:Addr) (H':Hp):Hp:=λb=>if b=a then H a else H' b
theorem eQ:back H a H' a=H a:=Qw rfl
theorem bK (h:b≠a):back H a H' b=H' b:=Qq h
section
variable {X:Cx} {pins:A1} {U σ':St} {H H':Hp} {s s':Shared} {a:Addr} {u:HO} {o:Obj}
theorem lG (r:Rd H a u):∃v,H a=some v:=by
 rcases r with r|⟨o,r⟩ <;> exact⟨_,r⟩
theorem sF (r:Rd H a u) (f:Fz u):(∀xs,H a≠some (.tup xs))/\(∀ps,H a≠some (.tbl ps))/\(∀x,H a≠some (.own x))/\∀ob v,H a=some (.frz ob v)->v=u:=by
 rcases r with r|⟨o,r⟩
 ·refine⟨λxs z=>?_,λps z=>?_,λx z=>?_,λob v z=>?_⟩ <;> (rw[r]at z;cases z;exact f.elim)
 refine⟨λxs z=>?_,λps z=>?_,λx z=>?_,λob v z=>?_⟩ <;> (rw[r]at z;cases z);rfl
theorem Inv.freeze (I:Inv X pins U H s) (r:Rd H a u) (f:Fz u) (e:s.heap.get? a=some o):Inv X pins U (upd H a (.frz o u)) s:=by
 obtain⟨v,hv⟩:=lG r;obtain⟨n1,n2,n3,n4⟩:=sF r f;have ne:∀{b},H b=none->b≠a:=λh z=>by rw[z,hv]at h;cases h
 have ok:=r.ok I.hok;refine⟨I.ok,I.os,I.bare,⟨I.base.keep,I.base.slot,λb ob q n hx=>?_,I.base.there,λb xs q=>?_,λb ob w q=>?_,λb ps q=>?_⟩,I.loc,I.cell,?_,λx c h=>?_,λp hp=>?_,λb w q=>?_,I.len⟩
 ·have:=I.base.free b ob q n hx;rw[ag (ne this)];exact this
 ·have:=I.base.tups b xs q;rw[ag (λz=>n1 xs (by rw[<-z];exact this))];exact this
 ·have z:=I.base.frzs b ob w q;by_cases hb:b=a
  ·subst hb;have ew:=n4 ob w z;subst ew;obtain⟨e1,_⟩:=I.hok b _ z;rw[e]at e1;cases e1;exact af
  rw[ag hb];exact z
 ·obtain⟨more,z⟩:=I.base.tbls b ps q;exact⟨more,by rw[ag (λy=>n2 _ (by rw[<-y];exact z))];exact z⟩
 ·rw[ag (ne I.free)];exact I.free
 ·rw[ag (ne (I.freeC x c h))];exact I.freeC x c h
 ·obtain⟨p1,p2,p3,p4,p5⟩:=I.pin p hp;exact⟨p1,by rw[ag (ne p2)];exact p2,p3,p4,p5⟩
 have st:∀{b w},a7 X.prog X.w H s.heap b w->a7 X.prog X.w (upd H a (.frz o u)) s.heap b w:=λh=>h.stay (λ_ _ _ q=>q) (λd q=>by rw[ag (λz=>n3 _ (by rw[<-z];exact q))];exact q) λd xs q=>by rw[ag (λz=>n1 _ (by rw[<-z];exact q))];exact q
 by_cases hb:b=a
 ·subst hb;rw[af]at q;cases q;exact⟨e,st ok⟩
 rw[ag hb]at q;exact st (I.hok b w q)
theorem Inv.thaw (I:Inv X pins U H s) (r:Rd H a u) (f:Fz u) (e:s.heap.get? a=some o) (J:Inv X pins σ' H' s') (h':H' a=some (.frz o u)):Inv X pins σ' (back H a H') s':=by
 obtain⟨v,hv⟩:=lG r;obtain⟨n1,n2,n3,n4⟩:=sF r f;have ne:∀{b},H' b=none->b≠a:=λh z=>by rw[z,h']at h;cases h
 have ok:=J.hok a _ h';refine⟨J.ok,J.os,J.bare,⟨J.base.keep,J.base.slot,λb ob q n hx=>?_,J.base.there,λb xs q=>?_,λb ob w q=>?_,λb ps q=>?_⟩,J.loc,J.cell,?_,λx c h=>?_,λp hp=>?_,λb w q=>?_,J.len⟩
 ·have:=J.base.free b ob q n hx;rw[bK (ne this)];exact this
 ·have:=J.base.tups b xs q;rw[bK (λz=>by rw[z,h']at this;cases this)];exact this
 ·by_cases hb:b=a
  ·subst hb;rw[eQ];exact I.base.frzs b ob w q
  rw[bK hb];exact J.base.frzs b ob w q
 ·obtain⟨more,z⟩:=J.base.tbls b ps q;exact⟨more,by rw[bK (λy=>by rw[y,h']at z;cases z)];exact z⟩
 ·rw[bK (ne J.free)];exact J.free
 ·rw[bK (ne (J.freeC x c h))];exact J.freeC x c h
 ·obtain⟨p1,p2,p3,p4,p5⟩:=J.pin p hp;exact⟨p1,by rw[bK (ne p2)];exact p2,p3,p4,p5⟩
 have st:∀{b w},a7 X.prog X.w H' s'.heap b w->a7 X.prog X.w (back H a H') s'.heap b w:=λh=>h.stay (λ_ _ _ q=>q) (λd q=>by rw[bK (λz=>by rw[z,h']at q;cases q)];exact q) λd xs q=>by rw[bK (λz=>by rw[z,h']at q;cases q)];exact q
 by_cases hb:b=a
 ·subst hb;rw[eQ]at q;rcases r with r|⟨o2,r⟩
  ·rw[r]at q;cases q;exact st ok.2
  obtain⟨e2,_⟩:=I.hok b _ r;rw[e]at e2;cases e2;rw[r]at q;cases q;exact⟨ok.1,st ok.2⟩
 rw[bK hb]at q;exact st (J.hok b w q)
def uJ (t:TE):TE:=λU H Q=>∃a u,Rd H a u/\Fz u/\∀o,t U (upd H a (.frz o u)) λv H'=>H' a=some (.frz o u)/\Q v (back H a H')
theorem tR {ex:Expr} {t:TE} (h:PE X ex t):PE X ex (uJ t):=by
 intro pins s U H Q I q;obtain⟨a,u,r,f,q⟩:=q
 obtain⟨o,e⟩:∃o,s.heap.get? a=some o:=by
  rcases r with r|⟨o,r⟩
  ·have:=(I.hok a _ r)
   cases u with
   | lst xs=>obtain⟨_,_,_,_,e⟩:=this;exact⟨_,e⟩
   | dK kvs=>obtain⟨_,_,_,_,o,_,_,e,_⟩:=this;exact⟨_,e⟩
   | dT kvs=>obtain⟨_,_,_,_,o,_,_,e,_⟩:=this;exact⟨_,e⟩
   | _=>exact f.elim
  exact⟨o,(I.hok a _ r).1⟩
 refine wpAny_mono (h pins s U _ _ (I.freeze r f e) (q o)) (λv s' z=>?_) λ_ _ z=>z;obtain⟨v',H',J,rv,h1,h2⟩:=z;exact⟨v',_,I.thaw r f e J h1,rv,h2⟩
end
theorem KV.len {κ:Type} {xs:List (κ × V)} {ys:List (κ × Value)} (r:KV xs ys):xs.length=ys.length:=xi r
theorem KV.get {κ:Type}:∀{xs:List (κ × V)} {ys:List (κ × Value)} {i:Nat} {k:κ} {v:V},KV xs ys->xs[i]?=some (k,v)->∃u,ys[i]?=some (k,u)/\aU v u
 | _,_,_,_,_,.nil,e=>by simp at e
 | _,(k',u)::_,0,k,v,.cons r _,e=>by
  simp at e;subst e;obtain⟨r1,r2⟩:=r;have r1:k=k':=r1;subst r1;exact⟨u,rfl,r2⟩
 | _,_,i+1,k,v,.cons _ t,e=>by
  obtain⟨u,h1,h2⟩:=KV.get (i:=i) t (by simpa using e);exact⟨u,by simpa using h1,h2⟩
section
variable {X:Cx} {tg:Expr}
end
section
variable {X:Cx} {o e f:Expr} {apos cpos:Pos} {td ty tx:TE}
end
end L2
namespace Bf
section
variable {κ:Type} [DecidableEq κ]
inductive Reach (nx:κ->List κ) (s:κ):κ->Prop
 | start:Reach nx s s
 | step {a b:κ}:Reach nx s a->b∈nx a->Reach nx s b
variable {nx:κ->List κ} {s:κ}
theorem pigeon:∀(xs ys:List κ),xs.Nodup->(∀x∈xs,x∈ys)->xs.length<=ys.length
 | [],_,_,_=>QT _
 | x::xs,ys,nd,h=>by
  rw[QN]at nd;have hx:x∈ys:=h x Q2;have:=pigeon xs (ys.erase x) nd.2 λy hy=>(List.mem_erase_of_ne (λz:y=x=>nd.1 (by rw[<-z];exact hy))).mpr (h y (Qp _ hy));rw[List.length_erase_of_mem hx]at this;have:0<ys.length:=List.length_pos_of_mem hx;simp only[xr];omega
end
end Bf
namespace L2
open PySem PySem.Spec PyProof.Rows
section
variable {X:Cx}
def tN:V->List V->Hp->VK->Prop:=λx vs H Q=>∃(l:Addr) (xs:List Str) (y:Str) (j:Nat),x=.ref l/\vs=[.str y]/\H l=some (.lst (xs.map V.str))/\xs[j]?=some y/\(∀m,m<j->xs[m]?≠some y)/\xs.length<=100000/\Q (.int j) H
theorem fN:MtR X "list.index" tN:=by
 intro pins s U H x vs v us Q I rx rv h;obtain⟨l,xs,y,j,rfl,rfl,hH,hj,hno,hz,q⟩:=h;cases rx;obtain⟨u,rfl,t,rfl⟩:=cR rv;obtain⟨z,its,n,r,hl,e⟩:=I.lstM hH;have sa:=dM r;have hlen:its.length=xs.length:=by rw[<-hl,Qc]
 have hjl:j<xs.length:=(Qe.mp hj).1
 have at':∀m (hm:m<its.toArray.size),isStrOf y its.toArray[m]=(xs[m]'(by rw[Qk]at hm;exact pB hlen hm)==y):=λm hm=>by
  rw[Qk]at hm;obtain⟨u,hu,ru⟩:=r.get (i:=m) (show (xs.map V.str)[m]?=some (.str (xs[m]'(by exact pB hlen hm))) from by rw[QE,Qb (by exact pB hlen hm)];rfl);obtain⟨tu,eu⟩:=ru;subst eu
  have e2:its.toArray[m]=.str (xs[m]'(by exact pB hlen hm)) tu:=by
   have:=(Qe.mp hu).2;simpa using this
  rw[e2];rfl
 refine call_meets F.slot_list_index ⟨_,e,rfl⟩ F.entry_list_index (F.args_list_index_2 _ _) (MeetsSeq.list_index l its.toArray n (.str y t) (isStrOf y) (λv hv=>eq_isStrOf y t sa v (by simpa using hv)) j (by rw[Qk];exact pC hlen hjl) (by omega) ?_ (λm hm hmj=>?_)) ⟨e,?_⟩
 ·rw[at' j (by rw[Qk];exact pC hlen hjl)];have:=(Qe.mp hj).2;rw[this];simp
 ·rw[at' m hm];rw[Qk]at hm;have h1:=hno m hmj;rw[Qb (by exact pB hlen hm)]at h1;simpa using h1
 exact⟨.int j,H,I.tok _,⟨_,rfl⟩,q⟩
end
section
variable {X:Cx}
end
section
variable {X:Cx}
def lH (T:Addr):R2:=λx y H Q=>x=.ref T/\((y=.str "0" /\ Q (.str "1") H)\/(y=.str "1" /\ Q (.str "0") H))
theorem rF {T:Addr} (hT:gq X.K T [("0", .flat (.str "1")),("1", .flat (.str "0"))]):IxR X (lH T):=by
 intro value slice pins s U H x y v u Q I rx ry h hs;obtain⟨e1,h⟩:=h;subst e1;cases rx;have here:KTD.Here X.base s.heap T [("0", .flat (.str "1")),("1", .flat (.str "0"))]:=⟨KTD.text_of_look (get:=λa=>X.K.lookup a) (λa o e=>I.mod.kin a o e) hT,I.bk⟩;rcases h with⟨e,q⟩|⟨e,q⟩
 ·subst e;obtain⟨t,e⟩:=ry;subst e;refine KTD.item_textA here (by rfl) (by decide +kernel) ?_ hs;have e:decide (("0" : Str) = "0")=true:=by decide +kernel
  simp only[KTD.EachL,e,if_true];exact λt=>⟨.str "1", H,I.tok _,⟨_,rfl⟩,q⟩
 subst e;obtain⟨t,e⟩:=ry;subst e;refine KTD.item_textA here (by rfl) (by decide +kernel) ?_ hs;have e:decide (("1" : Str) = "0")=false:=by decide +kernel
 simp only[KTD.EachL,e,Qz,xq];exact λ_ t=>⟨.str "0", H,I.tok _,⟨_,rfl⟩,q⟩
end
end L2
set_option maxHeartbeats 1000000
namespace Ks
open PySem PyProof.Rows PySem.W
def ev {α:Type} (c:Nat->Nat->Bool):KasT α->α
 | .ret a=>a
 | .ask i j k=>ev c (k (c i j))
theorem dE {α β:Type} (c:Nat->Nat->Bool) (f:α->KasT β):∀t:KasT α,ev c (t.bind f)=ev c (f (ev c t))
 | .ret _=>rfl
 | .ask i j k=>dE c f (k (c i j))
def Low {α:Type} (N:Nat):KasT α->Prop
 | .ret _=>True
 | .ask i j k=>i<N/\j<N/\∀b,Low N (k b)
theorem wp_of {α:Type} {N:Nat} {c:Nat->Nat->Bool} {cmp:Nat->Nat->(Bool->Shared->Prop)->Shared->Prop} {G:α->Shared->Prop} {s:Shared} (hc:∀i j,i<N->j<N->∀C:Bool->Shared->Prop,C (c i j) s->cmp i j C s) :
  ∀t:KasT α,Low N t->G (ev c t) s->t.kasWp cmp G s
 | .ret _,_,g=>g
 | .ask i j k,l,g=>hc i j l.1 l.2.1 _ (wp_of hc (k (c i j)) (l.2.2 _) g)
variable {N:Nat}
theorem Low.bind {α β:Type} {f:α->KasT β}:∀{t:KasT α},Low N t->(∀a,Low N (f a))->Low N (t.bind f)
 | .ret a,_,h=>h a
 | .ask i j k,l,h=>⟨l.1,l.2.1,λb=>Low.bind (l.2.2 b) h⟩
def Out {α:Type} (P:α->Prop):KasT α->Prop
 | .ret a=>P a
 | .ask _ _ k=>∀b,Out P (k b)
theorem Low.bindO {α β:Type} {P:α->Prop} {f:α->KasT β}:∀{t:KasT α},Low N t->Out P t->(∀a,P a->Low N (f a))->Low N (t.bind f)
 | .ret a,_,o,h=>h a o
 | .ask i j k,l,o,h=>⟨l.1,l.2.1,λb=>Low.bindO (l.2.2 b) (o b) h⟩
def Lt (N:Nat) (p:Array Nat):Prop:=∀x∈p.toList,x<N
theorem Lt.get {p:Array Nat} (h:Lt N p) (h0:0<N) (i:Nat):p.getD i 0<N:=by
 by_cases c:i<p.size
 ·have e:p.getD i 0=p[i]:=by simp[Array.getD,c]
  rw[e];exact h _ (Array.getElem_mem_toList c)
 have e:p.getD i 0=0:=by simp[Array.getD,c]
 rw[e];exact h0
theorem Lt.perm {p q:Array Nat} (h:Lt N p) (e:q.Perm p):Lt N q:=λx hx=>h x ((Array.perm_iff_toList_perm.mp e).mem_iff.mp hx)
section
variable {N:Nat} (h0:0<N)
include h0
theorem iA {p:Array Nat} (h:Lt N p):∀f n,Low N (kas_asc p f n)
 | 0,_=>trivial
 | f+1,n=>⟨h.get h0 _,h.get h0 _,λb=>by
   cases b with
   | true=>exact trivial
   | false=>exact iA h f (n+1)⟩
theorem d4:∀f (p:Array Nat) n q,Lt N p->Low N (kas_desc f p n q)/\Out (λr=>Lt N r.1) (kas_desc f p n q)
 | 0,p,n,q,h=>⟨trivial,h⟩
 | f+1,p,n,q,h=>by
  have a1:=d4 f p (n+1) 0 h;have a2:=d4 f _ (n+1) 0 (h.perm (mirror_perm p (n-(q+1)) n ((n-(n-(q+1))) / 2)));have a3:=d4 f p (n+1) (q+1) h
  have hz:∀b,Low N (if b=true then (if q>0 then kas_desc f (kas_rev p (n-(q+1)) n) (n+1) 0 else kas_desc f p (n+1) 0) else KasT.ask (p.getD (n-1) 0) (p.getD n 0) λd=>if d=true then .ret (p,n,q) else kas_desc f p (n+1) (q+1)) /\
    Out (λr=>Lt N r.1) (if b=true then (if q>0 then kas_desc f (kas_rev p (n-(q+1)) n) (n+1) 0 else kas_desc f p (n+1) 0) else KasT.ask (p.getD (n-1) 0) (p.getD n 0) λd=>if d=true then .ret (p,n,q) else kas_desc f p (n+1) (q+1)):=λb=>by
   cases b with
   | true =>
    rw[Qw rfl];by_cases c:q>0
    ·rw[Qw c];exact a2
    rw[Qq c];exact a1
   | false =>
   rw[Qq Qn];refine⟨⟨h.get h0 _,h.get h0 _,λd=>?_⟩,λd=>?_⟩
   ·cases d with
    | true=>exact trivial
    | false=>exact a3.1
   cases d with
   | true=>exact h
   | false=>exact a3.2
  exact⟨⟨h.get h0 _,h.get h0 _,λb=>(hz b).1⟩,λb=>(hz b).2⟩
theorem gD {p:Array Nat} (h:Lt N p) (n nrem:Nat):Low N (kas_tail3 n nrem p)/\Out (λr=>Lt N r.2) (kas_tail3 n nrem p):=by
 have h':Lt N (kas_rev p 0 n):=h.perm (mirror_perm ..)
 have out:∀{t:KasT Nat},Out (λr:Nat × Array Nat=>Lt N r.2) (t.bind λm=>.ret (m,kas_rev p 0 n)):=by
  intro t
  induction t with
  | ret a=>exact h'
  | ask i j k ih=>exact λb=>ih b
 exact⟨(iA h0 h' _ _).bind λ_=>trivial,out⟩
theorem Out.bind {α β:Type} {P:α->Prop} {P':β->Prop} {f:α->KasT β}:∀{t:KasT α},Out P t->(∀a,P a->Out P' (f a))->Out P' (t.bind f)
 | .ret a,o,h=>h a o
 | .ask i j k,o,h=>λb=>Out.bind (o b) h
theorem jJ {p:Array Nat} (h:Lt N p) (n nrem:Nat):Low N (kas_descPart n nrem p)/\Out (λr=>Lt N r.2) (kas_descPart n nrem p):=by
 have d:=d4 h0 (nrem-(n+1)) p (n+1) 0 h
 have z:∀r:Array Nat × Nat × Nat,Lt N r.1->Low N (if r.2.2>0 then kas_tail3 r.2.1 nrem (kas_rev r.1 (r.2.1-(r.2.2+1)) r.2.1) else kas_tail3 r.2.1 nrem r.1)/\Out (λr=>Lt N r.2) (if r.2.2>0 then kas_tail3 r.2.1 nrem (kas_rev r.1 (r.2.1-(r.2.2+1)) r.2.1) else kas_tail3 r.2.1 nrem r.1):=λr hr=>by
  split
  ·exact gD h0 (hr.perm (mirror_perm ..)) _ _
  exact gD h0 hr _ _
 exact⟨d.1.bindO d.2 λr hr=>(z r hr).1,Out.bind h0 d.2 λr hr=>(z r hr).2⟩
theorem m_ {p:Array Nat} (h:Lt N p) (nrem:Nat):Low N (kas_count nrem p)/\Out (λr=>Lt N r.2) (kas_count nrem p):=by
 have z:∀n:Nat,Low N (if (n==nrem)=true then KasT.ret (n,p) else if n>1 then .ask (p.getD 0 0) (p.getD (n-1) 0) λc=>if c=true then .ret (n,p) else kas_descPart n nrem (kas_rev p 0 n) else kas_descPart n nrem p) /\
   Out (λr=>Lt N r.2) (if (n==nrem)=true then KasT.ret (n,p) else if n>1 then .ask (p.getD 0 0) (p.getD (n-1) 0) λc=>if c=true then .ret (n,p) else kas_descPart n nrem (kas_rev p 0 n) else kas_descPart n nrem p):=λn=>by
  split
  ·exact⟨trivial,h⟩
  split
  ·have q:=jJ h0 (h.perm (mirror_perm p 0 n ((n-0) / 2))) n nrem;refine⟨⟨h.get h0 _,h.get h0 _,λb=>?_⟩,λb=>?_⟩
   ·cases b with
    | true=>exact trivial
    | false=>exact q.1
   cases b with
   | true=>exact h
   | false=>exact q.2
  exact jJ h0 h n nrem
 have all:∀{t:KasT Nat},Out (λ_=>True) t:=by
  intro t
  induction t with
  | ret a=>exact trivial
  | ask i j k ih=>exact λb=>ih b
 exact⟨(iA h0 h _ _).bind λn=>(z n).1,Out.bind h0 all λn _=>(z n).2⟩
theorem eL {p:Array Nat} (h:Lt N p) (k:Nat):∀f l r,Low N (kas_place p k f l r)
 | 0,_,_=>trivial
 | f+1,l,r=>by
  unfold kas_place
  split
  ·exact trivial
  refine⟨h.get h0 _,h.get h0 _,λb=>?_⟩
  cases b with
  | true=>exact eL h k f _ _
  | false=>exact eL h k f _ _
theorem lV:∀f (p:Array Nat) k,Lt N p->Low N (kas_bin f p k)
 | 0,_,_,_=>trivial
 | f+1,p,k,h=>(eL h0 h k k 0 k).bind λl=>lV f _ _ (h.perm (bubble_perm ..))
theorem low_sort:Low N (kas_sort N):=by
 have h:Lt N (List.range N).toArray:=λx hx=>by simpa using hx
 have q:=m_ h0 h N;refine q.1.bindO q.2 λr hr=>?_
 split
 ·exact lV h0 _ _ _ hr
 exact trivial
end
section
variable {O:KeyOrd} {K:Nat->O.α}
def at_ (K:Nat->O.α) (p:Array Nat) (i:Nat):O.α:=K (p.getD i 0)
def Up (K:Nat->O.α) (p:Array Nat) (m:Nat):Prop:=∀i j,i<=j->j<m->O.kle (at_ K p i) (at_ K p j)
def Dn (K:Nat->O.α) (p:Array Nat) (m:Nat):Prop:=∀i j,i<=j->j<m->O.kle (at_ K p j) (at_ K p i)
abbrev cb (K:Nat->O.α) (i j:Nat):Bool:=O.blt (K i) (K j)
theorem Up.one (p:Array Nat):Up K p 1:=λi j h1 h2=>by
 obtain rfl:j=0:=by omega
 obtain rfl:i=0:=by omega
 exact O.irrefl _
variable {n i j k N:Nat}
theorem Up.more {p:Array Nat} (u:Up K p n) (h1:1<=n) (h:O.kle (at_ K p (n-1)) (at_ K p n)):Up K p (n+1):=λi j h2 h3=>by
 by_cases e:j=n
 ·subst e;by_cases e2:i=j
  ·subst e2;exact O.irrefl _
  exact KeyOrd.kle_trans (u i (j-1) (by omega) (by omega)) h
 exact u i j h2 (by omega)
theorem Dn.more {p:Array Nat} (u:Dn K p n) (h1:1<=n) (h:O.kle (at_ K p n) (at_ K p (n-1))):Dn K p (n+1):=λi j h2 h3=>by
 by_cases e:j=n
 ·subst e;by_cases e2:i=j
  ·subst e2;exact O.irrefl _
  exact KeyOrd.kle_trans h (u i (j-1) (by omega) (by omega))
 exact u i j h2 (by omega)
theorem uz {p:Array Nat}:∀f n,1<=n->Up K p n->Up K p (ev (cb K) (kas_asc p f n))/\n<=ev (cb K) (kas_asc p f n)/\ev (cb K) (kas_asc p f n)<=n+f /\
  (ev (cb K) (kas_asc p f n)<n+f->O.klt (at_ K p (ev (cb K) (kas_asc p f n))) (at_ K p (ev (cb K) (kas_asc p f n)-1)))
 | 0,n,_,u=>⟨u,Qi _,Qi _,λh=>absurd h (xV _)⟩
 | f+1,n,h1,u=>by
  have st:ev (cb K) (kas_asc p (f+1) n)=ev (cb K) (if cb K (p.getD n 0) (p.getD (n-1) 0)=true then KasT.ret n else kas_asc p f (n+1)):=rfl;rw[st];clear st
  cases c:cb K (p.getD n 0) (p.getD (n-1) 0) with
  | true=>exact⟨u,Qi _,by show n<=n+(f+1);omega,λ_=>c⟩
  | false =>
  rw[Qq Qn];obtain⟨a1,a2,a3,a4⟩:=uz f (n+1) (by omega) (u.more h1 c);exact⟨a1,by omega,by omega,λh=>a4 (by omega)⟩
theorem mf (p:Array Nat) (hj:j<=p.size) (k:Nat):(kas_rev p i j).getD k 0=if (i<=k/\k<i+(j-i) / 2)\/(j-(j-i) / 2<=k/\k<j) then p.getD (i+j-1-k) 0 else p.getD k 0:=by
 have q:=getElem?_mirror (xs:=p) (i:=i) (j:=j) hj ((j-i) / 2) (by omega) k;unfold kas_rev;rw[xz,q]
 split
 ·rw[xz]
 rw[xz]
theorem lF {p:Array Nat} (hj:n<=p.size) (hk:k<n):at_ K (kas_rev p 0 n) k=at_ K p (n-1-k):=by
 unfold at_;rw[mf p hj]
 split
 ·rw[Nat.zero_add]
 rename_i h
 have:n-1-k=k:=by omega
 rw[this]
theorem fI {p:Array Nat} {a n:Nat} (hj:n<=p.size) (h:∀i,a<=i->i<n->at_ K p i=at_ K p (n-1)) (k:Nat):at_ K (kas_rev p a n) k=at_ K p k:=by
 unfold at_;rw[mf p hj]
 split
 ·rename_i c
  show at_ K p _=at_ K p _;rw[h (a+n-1-k) (by omega) (by omega),h k (by omega) (by omega)]
 rfl
theorem Dn.up {p:Array Nat} (hj:n<=p.size) (d:Dn K p n):Up K (kas_rev p 0 n) n:=λi j h1 h2=>by
 rw[lF hj (by omega),lF hj h2];exact d _ _ (by omega) (by omega)
theorem Dn.congr {p q:Array Nat} (d:Dn K p n) (h:∀k,at_ K q k=at_ K p k):Dn K q n:=λi j h1 h2=>by rw[h,h];exact d i j h1 h2
def Seg (K:Nat->O.α) (p:Array Nat) (n q:Nat):Prop:=∀i,n-(q+1)<=i->i<n->at_ K p i=at_ K p (n-1)
theorem Seg.zero (p:Array Nat) (n:Nat):Seg K p n 0:=λi h1 h2=>by rw[show i=n-1 by omega]
theorem mC:∀f (p:Array Nat) n q,1<=n->Dn K p n->q+1<=n->Seg K p n q->n+f<=p.size ->
  (ev (cb K) (kas_desc f p n q)).1.Perm p/\Dn K (ev (cb K) (kas_desc f p n q)).1 (ev (cb K) (kas_desc f p n q)).2.1/\n<=(ev (cb K) (kas_desc f p n q)).2.1/\(ev (cb K) (kas_desc f p n q)).2.1<=n+f/\(ev (cb K) (kas_desc f p n q)).2.2+1<=(ev (cb K) (kas_desc f p n q)).2.1/\Seg K (ev (cb K) (kas_desc f p n q)).1 (ev (cb K) (kas_desc f p n q)).2.1 (ev (cb K) (kas_desc f p n q)).2.2
 | 0,p,n,q,h1,d,hq,sg,hz=>⟨.refl _,d,Qi _,Qi _,hq,sg⟩
 | f+1,p,n,q,h1,d,hq,sg,hz=>by
  have st:ev (cb K) (kas_desc (f+1) p n q)=ev (cb K) (if cb K (p.getD n 0) (p.getD (n-1) 0)=true then (if q>0 then kas_desc f (kas_rev p (n-(q+1)) n) (n+1) 0 else kas_desc f p (n+1) 0) else .ask (p.getD (n-1) 0) (p.getD n 0) λd=>if d=true then .ret (p,n,q) else kas_desc f p (n+1) (q+1)):=by
   conv=>lhs;unfold kas_desc
   rfl
  rw[st];clear st
  cases c:cb K (p.getD n 0) (p.getD (n-1) 0) with
  | true =>
   rw[Qw rfl];have k1:O.kle (at_ K p n) (at_ K p (n-1)):=KeyOrd.klt_asymm c;by_cases q0:q>0
   ·rw[Qw q0];have e:=fI (K:=K) (p:=p) (a:=n-(q+1)) (n:=n) (by omega) sg;obtain⟨a1,a2,a3,a4,a5,a6⟩:=mC f (kas_rev p (n-(q+1)) n) (n+1) 0 (by omega) ((d.more h1 k1).congr e) (by omega) (.zero _ _) (by rw[kas_rev,mirror_size];omega);exact⟨a1.trans (mirror_perm ..),a2,by omega,by omega,a5,a6⟩
   rw[Qq q0];obtain⟨a1,a2,a3,a4,a5,a6⟩:=mC f p (n+1) 0 (by omega) (d.more h1 k1) (by omega) (.zero _ _) (by omega);exact⟨a1,a2,by omega,by omega,a5,a6⟩
  | false =>
  rw[Qq Qn];have st:ev (cb K) (KasT.ask (p.getD (n-1) 0) (p.getD n 0) λd=>if d=true then .ret (p,n,q) else kas_desc f p (n+1) (q+1))=ev (cb K) (if cb K (p.getD (n-1) 0) (p.getD n 0)=true then .ret (p,n,q) else kas_desc f p (n+1) (q+1)):=rfl;rw[st];clear st
  cases c2:cb K (p.getD (n-1) 0) (p.getD n 0) with
  | true =>
   rw[Qw rfl];exact⟨.refl _,d,Qi _,QO _ _,hq,sg⟩
  | false =>
  rw[Qq Qn];have e:at_ K p n=at_ K p (n-1):=O.total _ _ c c2
  obtain⟨a1,a2,a3,a4,a5,a6⟩:=mC f p (n+1) (q+1) (by omega) (d.more h1 (by rw[e];exact O.irrefl _)) (by omega) (λi g1 g2=>by
   rw[Nat.add_sub_cancel];by_cases z:i=n
   ·rw[z]
   rw[e];exact sg i (by omega) (by omega)) (by omega)
  exact⟨a1,a2,by omega,by omega,a5,a6⟩
theorem oj {p:Array Nat} {n nrem:Nat} (h1:1<=n) (hn:n<=nrem) (hz:nrem<=p.size) (d:Dn K p n) :
  (ev (cb K) (kas_tail3 n nrem p)).2.Perm p/\Up K (ev (cb K) (kas_tail3 n nrem p)).2 (ev (cb K) (kas_tail3 n nrem p)).1/\1<=(ev (cb K) (kas_tail3 n nrem p)).1/\(ev (cb K) (kas_tail3 n nrem p)).1<=nrem:=by
 unfold kas_tail3;rw[dE];obtain⟨a1,a2,a3,_⟩:=uz (K:=K) (nrem-n) n h1 (d.up (by omega));exact⟨mirror_perm ..,a1,by show 1<=ev _ _;omega,by show ev _ _<=nrem;omega⟩
theorem sH {p:Array Nat} {n nrem:Nat} (h1:1<=n) (hn:n+1<=nrem) (hz:nrem<=p.size) (d:Dn K p (n+1)) :
  (ev (cb K) (kas_descPart n nrem p)).2.Perm p/\Up K (ev (cb K) (kas_descPart n nrem p)).2 (ev (cb K) (kas_descPart n nrem p)).1/\1<=(ev (cb K) (kas_descPart n nrem p)).1/\(ev (cb K) (kas_descPart n nrem p)).1<=nrem:=by
 unfold kas_descPart;rw[dE];obtain⟨a1,a2,a3,a4,a5,a6⟩:=mC (K:=K) (nrem-(n+1)) p (n+1) 0 (by omega) d (by omega) (.zero _ _) (by omega);have sz:=a1.size_eq;generalize ev (cb K) (kas_desc (nrem-(n+1)) p (n+1) 0)=r at *;obtain⟨p',m,q⟩:=r;dsimp only at *
 split
 ·have e:=fI (K:=K) (p:=p') (a:=m-(q+1)) (n:=m) (by omega) a6;obtain⟨b1,b2,b3,b4⟩:=oj (K:=K) (p:=kas_rev p' (m-(q+1)) m) (n:=m) (nrem:=nrem) (by omega) (by omega) (by rw[kas_rev,mirror_size];omega) (a2.congr e);exact⟨b1.trans ((mirror_perm ..).trans a1),b2,b3,b4⟩
 obtain⟨b1,b2,b3,b4⟩:=oj (K:=K) (p:=p') (n:=m) (nrem:=nrem) (by omega) (by omega) (by omega) a2;exact⟨b1.trans a1,b2,b3,b4⟩
theorem uv {p:Array Nat} {nrem:Nat} (h1:1<=nrem) (hz:nrem<=p.size) :
  (ev (cb K) (kas_count nrem p)).2.Perm p/\Up K (ev (cb K) (kas_count nrem p)).2 (ev (cb K) (kas_count nrem p)).1/\1<=(ev (cb K) (kas_count nrem p)).1/\(ev (cb K) (kas_count nrem p)).1<=nrem:=by
 unfold kas_count;rw[dE];obtain⟨a1,a2,a3,a4⟩:=uz (K:=K) (p:=p) (nrem-1) 1 (Qi _) (.one p);generalize ev (cb K) (kas_asc p (nrem-1) 1)=n at *
 split
 ·exact⟨.refl _,a1,a2,by show n<=nrem;omega⟩
 rename_i c
 have c:n≠nrem:=by simpa using c
 have lt:=a4 (by omega)
 split
 ·have st:ev (cb K) (KasT.ask (p.getD 0 0) (p.getD (n-1) 0) λc=>if c=true then .ret (n,p) else kas_descPart n nrem (kas_rev p 0 n))=ev (cb K) (if cb K (p.getD 0 0) (p.getD (n-1) 0)=true then .ret (n,p) else kas_descPart n nrem (kas_rev p 0 n)):=rfl;rw[st];clear st
  cases c2:cb K (p.getD 0 0) (p.getD (n-1) 0) with
  | true=>rw[Qw rfl];exact⟨.refl _,a1,a2,by show n<=nrem;omega⟩
  | false =>
  rw[Qq Qn]
  have eq0:∀i,i<n->at_ K p i=at_ K p (n-1):=λi hi=>by
   have k1:O.kle (at_ K p i) (at_ K p (n-1)):=a1 i (n-1) (by omega) (by omega);have k2:O.kle (at_ K p (n-1)) (at_ K p 0):=c2;exact KeyOrd.kle_antisymm k1 (KeyOrd.kle_trans k2 (a1 0 i (by omega) hi))
  have e:=fI (K:=K) (p:=p) (a:=0) (n:=n) (by omega) (λi _ h=>eq0 i h);have d:Dn K (kas_rev p 0 n) (n+1):=Dn.congr (p:=p) (Dn.more (λi j g1 g2=>by rw[eq0 i (by omega),eq0 j g2];exact O.irrefl _) a2 (KeyOrd.klt_asymm lt)) e;obtain⟨b1,b2,b3,b4⟩:=sH (K:=K) (p:=kas_rev p 0 n) (n:=n) (nrem:=nrem) a2 (by omega) (by rw[kas_rev,mirror_size];omega) d;exact⟨b1.trans (mirror_perm ..),b2,b3,b4⟩
 obtain rfl:n=1:=by omega
 exact sH (K:=K) (Qi _) (by omega) hz (Dn.more (λi j g1 g2=>by rw[show i=j by omega];exact O.irrefl _) (Qi _) (KeyOrd.klt_asymm lt))
theorem kz {p:Array Nat} {k:Nat} (u:Up K p k):∀f l r,l<=r->r<=k->r-l<=f->(∀i,i<l->O.kle (at_ K p i) (at_ K p k))->(∀i,r<=i->i<k->O.klt (at_ K p k) (at_ K p i)) ->
  ev (cb K) (kas_place p k f l r)<=k/\(∀i,i<ev (cb K) (kas_place p k f l r)->O.kle (at_ K p i) (at_ K p k))/\∀i,ev (cb K) (kas_place p k f l r)<=i->i<k->O.klt (at_ K p k) (at_ K p i)
 | 0,l,r,h1,h2,h3,b1,b2=>by
  obtain rfl:l=r:=by omega
  exact⟨h2,b1,b2⟩
 | f+1,l,r,h1,h2,h3,b1,b2=>by
  unfold kas_place;by_cases c:l>=r
  ·rw[Qw c];obtain rfl:l=r:=by omega
   exact⟨h2,b1,b2⟩
  rw[Qq c];have st:ev (cb K) (KasT.ask (p.getD k 0) (p.getD ((l+r) / 2) 0) λc=>if c=true then kas_place p k f l ((l+r) / 2) else kas_place p k f ((l+r) / 2+1) r)=ev (cb K) (if cb K (p.getD k 0) (p.getD ((l+r) / 2) 0)=true then kas_place p k f l ((l+r) / 2) else kas_place p k f ((l+r) / 2+1) r):=rfl;rw[st];clear st
  cases c2:cb K (p.getD k 0) (p.getD ((l+r) / 2) 0) with
  | true =>
   rw[Qw rfl];exact kz u f l ((l+r) / 2) (by omega) (by omega) (by omega) b1 λi g1 g2=>KeyOrd.klt_of_klt_of_kle c2 (u _ _ g1 g2)
  | false =>
  rw[Qq Qn];exact kz u f ((l+r) / 2+1) r (by omega) (by omega) (by omega) (λi g=>KeyOrd.kle_trans (u i ((l+r) / 2) (by omega) (by omega)) c2) b2
theorem rK {p:Array Nat} {k d:Nat} (hk:k<p.size) (hd:d<=k) (i:Nat):at_ K (bubble p k d) i=if i=k-d then at_ K p k else if k-d<i/\i<=k then at_ K p (i-1) else at_ K p i:=by
 have q:=getElem?_bubble (xs:=p) hk d hd i;have e:∀j,at_ K p j=K (p[j]?.getD 0):=λj=>by rw[at_,xz]
 rw[e,e,e,at_,xz,q];by_cases c1:i=k-d
 ·rw[Qw c1,Qw c1]
 rw[Qq c1,Qq c1];by_cases c2:k-d<i/\i<=k
 ·rw[Qw c2,Qw c2]
 rw[Qq c2,Qq c2]
theorem vF:∀f (p:Array Nat) k,Up K p k->k+f<=p.size->(ev (cb K) (kas_bin f p k)).Perm p/\Up K (ev (cb K) (kas_bin f p k)) (k+f)
 | 0,p,k,u,_=>⟨.refl _,u⟩
 | f+1,p,k,u,hz=>by
  unfold kas_bin;rw[dE];obtain⟨a1,a2,a3⟩:=kz (K:=K) u k 0 k (QT _) (Qi _) (by omega) (λi h=>absurd h (Nat.not_lt_zero _)) (λi g1 g2=>absurd g2 (by omega));generalize ev (cb K) (kas_place p k k 0 k)=l at *;have gb:=rK (K:=K) (p:=p) (k:=k) (d:=k-l) (by omega) (by omega);have el:k-(k-l)=l:=by omega
  rw[el]at gb
  have u':Up K (bubble p k (k-l)) (k+1):=λi j g1 g2=>by
   rw[gb i,gb j];by_cases i1:i=l
   ·rw[Qw i1];by_cases j1:j=l
    ·rw[Qw j1];exact O.irrefl _
    rw[Qq j1,Qw ⟨by omega,by omega⟩];exact KeyOrd.klt_asymm (a3 _ (by omega) (by omega))
   rw[Qq i1];by_cases i2:l<i/\i<=k
   ·rw[Qw i2,Qq (by omega),Qw ⟨by omega,by omega⟩];exact u _ _ (by omega) (by omega)
   rw[Qq i2];by_cases j1:j=l
   ·rw[Qw j1];exact a2 i (by omega)
   rw[Qq j1];by_cases j2:l<j/\j<=k
   ·rw[Qw j2];exact u _ _ (by omega) (by omega)
   rw[Qq j2];exact u _ _ g1 (by omega)
  obtain⟨b1,b2⟩:=vF f (bubble p k (k-l)) (k+1) u' (by rw[bubble_size];omega);exact⟨b1.trans (bubble_perm ..),by rw[show k+(f+1)=k+1+f by omega];exact b2⟩
theorem sort_ (h0:0<N):(ev (cb K) (kas_sort N)).Perm (List.range N).toArray/\Up K (ev (cb K) (kas_sort N)) N:=by
 unfold kas_sort;rw[dE];obtain⟨a1,a2,a3,a4⟩:=uv (K:=K) (p:=(List.range N).toArray) (nrem:=N) h0 (by simp);have sz:(ev (cb K) (kas_count N (List.range N).toArray)).2.size=N:=by rw[a1.size_eq];simp
 generalize ev (cb K) (kas_count N (List.range N).toArray)=r at *
 split
 ·have e:max r.1 1=r.1:=Nat.max_eq_left a3;rw[e];obtain⟨b1,b2⟩:=vF (K:=K) (N-r.1) r.2 r.1 a2 (by omega);exact⟨b1.trans a1,by rw[show r.1+(N-r.1)=N by omega]at b2;exact b2⟩
 exact⟨a1,by rw[show N=r.1 by omega];exact a2⟩
end
end Ks
namespace Tm
open PySem PySem.Spec PyProof.Rows
def vL (κ:PyProof.Rows.KeyKind) (kd:SortKind) (prog:Program) (w:World) (A:Around) (s:Shared):Prop :=
 ∀(E:A0) (x y:Value) (a b:κ.α) (Q:Bool->Shared->Prop),κ.keyOf x=some a->κ.keyOf y=some b->Q (κ.blt a b) s->wpAny (model prog w) A (keyLt' kd x y) Q E s
def kv (κ:PyProof.Rows.KeyKind) (p:Keyed):κ.α:=(κ.keyOf p.1).getD κ.dflt
def le (κ:PyProof.Rows.KeyKind) (p q:Keyed):Prop:=κ.kle (kv κ p) (kv κ q)
def leV (κ:PyProof.Rows.KeyKind) (u v:Value):Prop:=le κ (u,u) (v,v)
section
variable {prog:Program} {w:World} {A:Around} {E:A0} {s:Shared}
structure Can (prog:Program) (w:World) (up:Around->Prop) (κ:PyProof.Rows.KeyKind) (kd:SortKind) (h:Heap) (a:Addr) (vs:List Value):Prop where
 key:∀v∈vs,∃x,κ.keyOf v=some x
 lt:∀(A:Around) (s:Shared),up A->(∀b o,b≠a->h.get? b=some o->s.heap.get? b=some o)->vL κ kd prog w A s
 kind:2<=vs.length->∀(A:Around) (E:A0) (s:Shared) (Q:SortKind->Shared->Prop),(∀b o,b≠a->h.get? b=some o->s.heap.get? b=some o)->Q kd s->wpAny (model prog w) A (keyKind' vs.toArray) Q E s
variable {vs:List Value} {κ:PyProof.Rows.KeyKind}
theorem pi {p:Array Nat} (hp:p.Perm (List.range vs.length).toArray) (u:Ks.Up (O:=κ.toKeyOrd) (λi=>kv κ (vs.getD i Value.none,vs.getD i Value.none)) p vs.length) :
  (p.toList.map λi=>vs.getD i Value.none).Perm vs/\(p.toList.map λi=>vs.getD i Value.none).Pairwise (leV κ):=by
 have pl:p.toList.Perm (List.range vs.length):=by simpa using Array.perm_iff_toList_perm.mp hp
 have sz:p.size=vs.length:=by rw[hp.size_eq];simp
 refine⟨?_,?_⟩
 ·have e:vs=(List.range vs.length).map λi=>vs.getD i Value.none:=by
   refine List.ext_getElem (by simp) λi h1 h2=>?_;rw[List.getElem_map,List.getElem_range,QU,Qb h1];rfl
  conv=>rhs;rw[e]
  exact pl.map _
 rw[xb,List.pairwise_iff_getElem];intro i j hi hj hij;have:=u i j (by omega) (by rw[Qj]at hj;omega);unfold Ks.at_ at this;rw[Qj]at hi hj;have e1:p.getD i 0=p.toList[i]:=by simp[Array.getD,hi]
 have e2:p.getD j 0=p.toList[j]:=by simp[Array.getD,hj]
 rw[e1,e2]at this;exact this
theorem rE {kd:SortKind} {G:Array Nat->Shared->Prop} (hL:vL κ kd prog w A s) (hk:∀v∈vs,∃x,κ.keyOf v=some x) (h0:0<vs.length)
  (h:∀p:Array Nat,(p.toList.map λi=>vs.getD i Value.none).Perm vs->(p.toList.map λi=>vs.getD i Value.none).Pairwise (leV κ)->G p s):(PySem.W.kas_sort vs.length).kasWp (PySem.W.kas_ask prog w A kd vs) G s:=by
 refine Ks.wp_of (N:=vs.length) (c:=Ks.cb (O:=κ.toKeyOrd) λi=>kv κ (vs.getD i Value.none,vs.getD i Value.none)) (λi j hi hj C hC=>?_) _ (Ks.low_sort h0) ?_
 ·have mem:∀i,i<vs.length->∃x,κ.keyOf (vs.getD i Value.none)=some x:=λi hi=>hk _ (by rw[QU,Qb hi];exact xG hi);obtain⟨a,ha⟩:=mem i hi;obtain⟨b,hb⟩:=mem j hj;refine hL _ _ _ a b _ ha hb ?_
  have e:Ks.cb (O:=κ.toKeyOrd) (λi=>kv κ (vs.getD i Value.none,vs.getD i Value.none)) i j=κ.blt a b:=by
   show κ.blt ((κ.keyOf (vs.getD i Value.none)).getD κ.dflt) ((κ.keyOf (vs.getD j Value.none)).getD κ.dflt)=_;rw[ha,hb];rfl
  rw[e]at hC;exact hC
 obtain⟨a1,a2⟩:=Ks.sort_ (O:=κ.toKeyOrd) (K:=λi=>kv κ (vs.getD i Value.none,vs.getD i Value.none)) h0;obtain⟨b1,b2⟩:=pi a1 a2;exact h _ b1 b2
variable {a b d:Addr}
theorem fR {up:Around->Prop} {kd:SortKind} {n:Nat} {P:Fin->Shared->Prop} (ho:s.heap.get? a=some (seqObj "list" vs.toArray n)) (c:Can prog w up κ kd s.heap a vs) (hu:up A) (hn:vs.length<64)
  (h:∀out:Array Value,out.toList.Perm vs->out.toList.Pairwise (leV κ)->P (.done (.ret .none)) { s with heap:=sortedHeap s.heap a vs out }):wpAny (model prog w) A (Builtin.«list.sort» ⟨[.ref a],[]⟩) P E s:=by
 rw[list_sort_plain];have ha:a<s.heap.objs.size:=Qr ho;refine Qa (listItems_at ho rfl (Qa (listUpdate_at ho rfl ?_)));obtain⟨e1,ho1⟩:∃e1,(s.heap.update a (Obj.mapSeq λ_=>#[])).get? a=some (seqObj "list" #[] e1):=⟨_,get?_update_seq ho (λ_=>#[])⟩;refine Qa (seqEpoch_at ho1 rfl (Qa (wpAny_newTuple (Qa (wpAny_newList (Q7 ?_))) (by rw[xK];show vs.length<=_;omega))))
 have keep:∀b o,b≠a->s.heap.get? b=some o->(((s.heap.update a (Obj.mapSeq λ_=>#[])).push (seqObj "tuple" vs.toArray 0)).push (seqObj "list" #[] 0)).get? b=some o:=λb o hb e =>
  Qd _ (Qd _ ((xg _ _ (Ne.symm hb)).trans e))
 have ho6:(((s.heap.update a (Obj.mapSeq λ_=>#[])).push (seqObj "tuple" vs.toArray 0)).push (seqObj "list" #[] 0)).get? a=some (seqObj "list" #[] e1):=Qd _ (Qd _ ho1);show wpAny (model prog w) A _ P E { s with heap:=((s.heap.update a (Obj.mapSeq λ_=>#[])).push (seqObj "tuple" vs.toArray 0)).push (seqObj "list" #[] 0) };dsimp only;have zs:vs.toArray.size=vs.length:=by simp
 by_cases c2:vs.toArray.size<2
 ·rw[Qw c2,Qw c2];refine Qa (Qf ?_);rw[StateT.run_pure];refine Qa (Qf (Qa (seqEpoch_at ho6 rfl (Qa (listUpdate_at ho6 rfl ?_ (hsz2:=by rw[Array.size_map];show (pairsOf vs).size<=_;rw[pairsOf_size,xK];omega))))));simp only[bne_self_eq_false,Qz,xq];have e:((vs.toArray.zip vs.toArray).map (·.2)).toList=vs:=by simp[List.map_snd_zip]
  have p1:(((vs.toArray.zip vs.toArray).map (·.2)).toList).Perm vs:=by rw[e]
  have p2:(((vs.toArray.zip vs.toArray).map (·.2)).toList).Pairwise (leV κ):=by
   rw[e]
   match vs,zs,c2 with
   | [],_,_=>exact List.Pairwise.nil
   | [v],_,_=>exact List.pairwise_singleton _ _
   | v::u::r,zs,c2=>exact absurd c2 (by simp)
  exact Qf (h _ p1 p2)
 rw[Qq c2,Qq c2];refine Qa (c.kind (by omega) _ _ _ _ keep ?_);have h2:2<=vs.length:=by omega
 refine Qa (wpAny_mono (PySem.W.kat_run (κ:=kd) (ks:=vs) (vs:=vs) (G:=λp s'=>s'=_/\(p.toList.map λi=>vs.getD i Value.none).Perm vs/\(p.toList.map λi=>vs.getD i Value.none).Pairwise (leV κ))
  (Q:=λst' s'=>s'=_/\failedOf st'=none/\∃l:List Value,(arrOf st').map (·.2)=l.toArray/\l.Perm vs/\l.Pairwise (leV κ)) rfl h2 hn
  (λp st' s' a1 a2 a3 a4=>⟨a4.1,a3,_,PySem.W.kat_snds rfl a2,a4.2⟩) (rE (c.lt _ _ hu keep) c.key (by omega) λp q1 q2=>⟨rfl,q1,q2⟩)) ?_ λ_ _ e=>e)
 rintro⟨⟨⟩,st'⟩ s' ⟨rfl,hf,l,hl,q1,q2⟩;dsimp only;rw[hl];refine Qa (seqEpoch_at ho6 rfl (Qa (listUpdate_at ho6 rfl ?_ (hsz2:=by rw[Qk,q1.length_eq,xK];omega))));rw[hf];simp only[bne_self_eq_false,Qz,xq];exact Qf (h _ q1 q2)
theorem di {h:Heap} {out:Array Value} {o:Obj} (hb:b≠a) (e:h.get? b=some o):(sortedHeap h a vs out).get? b=some o:=by
 unfold sortedHeap;exact(xg _ _ (Ne.symm hb)).trans (Qd _ (Qd _ ((xg _ _ (Ne.symm hb)).trans e)))
theorem dH {h:Heap} {vs:List Value} {out:Array Value} {n:Nat} (e:h.get? a=some (seqObj "list" vs.toArray n)):∃m,(sortedHeap h a vs out).get? a=some (seqObj "list" out m):=by
 unfold sortedHeap;exact⟨_,get?_update_seq (Qd _ (Qd _ (get?_update_seq e (λ_=>#[])))) (λ_=>out)⟩
theorem mR {up:Around->Prop} {κ:Heap->PyProof.Rows.KeyKind} {kd:SortKind} {r:Value} {Q:A0} {G:Heap->List Value->Prop}
  (col:∀(A:Around) (E:A0) (R:List Value->Shared->Prop),A.handled=none->(∀h' tk vs,(∀b o,s.heap.get? b=some o->h'.get? b=some o)->s.heap.objs.size<=h'.objs.size->G h' vs->R vs { s with heap:=h',toks:=tk })->wpAny (model prog w) A (collect r) R E s)
  (hh:A.handled=none) (hu:up A.in1.in1) (can:∀h' vs D,(∀b o,s.heap.get? b=some o->h'.get? b=some o)->G h' vs->D=h'.objs.size->vs.length<64/\Can prog w up (κ h') kd (h'.push (seqObj "list" vs.toArray 0)) D vs)
  (h:∀D h' tk vs h1 (out:Array Value) m,(∀b o,s.heap.get? b=some o->h1.get? b=some o)->G h1 vs->(∀b o,h1.get? b=some o->h'.get? b=some o)->s.heap.objs.size<=D->h1.objs.size<=D->h'.get? D=some (seqObj "list" out m)->out.toList.Perm vs->out.toList.Pairwise (leV (κ h1))->Q (.ref D) { s with heap:=h',toks:=tk }) :
  wpAny (model prog w) A (call (.builtin "sorted") [r]) Q E s:=by
 refine Calls.call_function_entry kind_sorted plain_sorted entry_sorted (args_sorted1 _) ?_;unfold Builtin.«sorted»;refine Qa (m:=checkCount "sorted" 1 1 _) (Qf ?_);refine Qa (col A.in1 E _ hh λh1 tk vs k1 z1 g1=>?_);obtain⟨len,_⟩:=can h1 vs h1.objs.size k1 g1 rfl;refine Qa (wpAny_newList ?_ (by rw[xK];omega));obtain⟨_,cn⟩:=can h1 vs h1.objs.size k1 g1 rfl;have hoL:(h1.push (seqObj "list" vs.toArray 0)).get? h1.objs.size=some (seqObj "list" vs.toArray 0):=Qt _ rfl;refine Qa (Q7 (QV (s:={ s with heap:=h1.push (seqObj "list" vs.toArray 0),toks:=tk }) slot_list_sort ⟨_,hoL,rfl⟩ entry_list_sort (fR hoL cn hu len λout p1 p2=>⟨_,rfl,?_⟩) (args_list_sort _)));obtain⟨m,at'⟩:=dH (vs:=vs) (out:=out) hoL;exact Qf ⟨_,rfl,h _ _ _ vs h1 out m k1 g1 (λb o e=>di (QG (Qr e)) (Qd _ e)) z1 (Qi _) at' p1 p2⟩
theorem qu {T:String} {r:Addr} {n:Nat} {P:Nat->Value->Prop} {OK:Heap->Prop} {R:List Value->Shared->Prop} (K:PySem.W.KdlSrc prog w T r d n P OK) (hh:A.handled=none) (ok:OK s.heap) (hn:n<=sizeLine)
  (h:∀(g:Heap) (tk:Nat) (acc:Array Value),(∀b o,s.heap.get? b=some o->g.get? b=some o)->s.heap.objs.size<=g.objs.size->PySem.ItemsOf P acc n->R acc.toList { s with heap:=g,toks:=tk }):wpAny (model prog w) A (collect (.ref r)) R E s:=by
 obtain⟨l1,l2⟩:=K.there _ ok;unfold collect;refine Qa (wpAny_runValue (codeAny_builtin entry_proto_collect' ?_));rw[xS PySem.F.plain_proto_collect _];refine Qa (xw (Qf ⟨plainId_quiet PySem.F.plain_list_iadd _,codeAny_builtin entry_list_iadd' ?_⟩));rw[xS PySem.F.plain_list_iadd _]
 refine wpAny_mono (PySem.W.kdl_extend (A:=A) (s:={ s with heap:=s.heap.push { cls:=.type "list", data:=.seq ([]:List Value).toArray } }) (R:=λq s'=>∃(g:Heap) (tk:Nat) (acc:Array Value) (c:Nat),q=.ok (.ret (.ref s.heap.objs.size))/\s'={ s with heap:=g,toks:=tk } /\
   (∀b o,s.heap.get? b=some o->g.get? b=some o)/\g.get? s.heap.objs.size=some { cls:=.type "list", dict:=none,data:=.seq acc c,slots:=#[] }/\PySem.ItemsOf P acc n)
  K hh (K.keep _ _ ok λb _ o e=>Qd _ e) s.heap.objs.size (Nat.ne_of_gt l1) (Nat.ne_of_gt l2) (.ref s.heap.objs.size) 0 (Qt _ rfl)
  (λg tk acc c k at' it=>⟨g,tk,acc,c,rfl,rfl,λb o e=>k b o (QG (Qr e)) (Qd _ e),at',it⟩) hn) (λfn s' x=>?_) λe s' x=>?_
 ·cases fn with
  | done f =>
   obtain⟨g,tk,acc,c,e,rfl,k,at',it⟩:=x;cases e;exact Qa (wpAny_load at' (Qf (h g tk acc k (Nat.le_of_lt (Qr at')) it)))
  | again c1 =>
   refine⟨x.1,codeAny_mono x.2 λq s2 y=>?_⟩;obtain⟨g,tk,acc,c,rfl,rfl,k,at',it⟩:=y;exact Qa (wpAny_load at' (Qf (h g tk acc k (Nat.le_of_lt (Qr at')) it)))
 obtain⟨_,_,_,_,z,_⟩:=x;cases z
end
end Tm
set_option maxHeartbeats 4000000
namespace Tm
open PySem PySem.Spec PyProof.Rows L2
def kb:Key->Key->Bool
 | .inl i,.inl j=>decide (i<j)
 | .inl _,.inr _=>true
 | .inr _,.inl _=>false
 | .inr x,.inr y=>decide (x.cps.toList<y.cps.toList)
def lb:List Key->List Key->Bool
 | [],[]=>false
 | [],_::_=>true
 | _::_,[]=>false
 | a::as,b::bs=>kb a b || (decide (a=b)&&lb as bs)
theorem rQ {x y:Str} (e:x.cps.toList=y.cps.toList):x=y:=by cases x;cases y;exact congrArg Str.mk (Array.toList_inj.mp e)
theorem iG (a:Key):kb a a=false:=by
 cases a with
 | inl i=>exact Qy (Int.lt_irrefl _)
 | inr x=>exact Qy (List.lt_irrefl _)
theorem ub (a b:Key):kb a b=true\/a=b\/kb b a=true:=by
 cases a with
 | inl i =>
  cases b with
  | inl j =>
   rcases Int.lt_trichotomy i j with h|h|h
   ·exact .inl (QA h)
   ·exact .inr (.inl (by rw[h]))
   exact .inr (.inr (QA h))
  | inr y=>exact .inl rfl
 | inr x =>
 cases b with
 | inl j=>exact .inr (.inr rfl)
 | inr y =>
 by_cases h1:x.cps.toList<y.cps.toList
 ·exact .inl (QA h1)
 by_cases h2:y.cps.toList<x.cps.toList
 ·exact .inr (.inr (QA h2))
 exact .inr (.inl (by rw[rQ (List.le_antisymm (List.not_lt.mp h2) (List.not_lt.mp h1))]))
theorem pT {a b c:Key} (h1:kb a b=true) (h2:kb b c=true):kb a c=true:=by
 cases a with
 | inl i =>
  cases c with
  | inr z=>rfl
  | inl k =>
  cases b with
  | inr y=>cases h2
  | inl j=>exact QA (Int.lt_trans (xv h1) (xv h2))
 | inr x =>
 cases b with
 | inl j=>cases h1
 | inr y =>
 cases c with
 | inl k=>cases h2
 | inr z=>exact QA (List.lt_trans (xv h1) (xv h2))
theorem iC:∀l:List Key,lb l l=false
 | []=>rfl
 | a::l=>by unfold lb;rw[iG,iC l];simp
theorem iB:∀x y:List Key,lb x y=true\/x=y\/lb y x=true
 | [],[]=>.inr (.inl rfl)
 | [],_::_=>.inl rfl
 | _::_,[]=>.inr (.inr rfl)
 | a::x,b::y=>by
  unfold lb;rcases ub a b with h|rfl|h
  ·exact .inl (by rw[h];rfl)
  ·rcases iB x y with h|rfl|h
   ·exact .inl (by rw[h];simp)
   ·exact .inr (.inl rfl)
   exact .inr (.inr (by rw[h];simp))
  exact .inr (.inr (by rw[h];rfl))
theorem dw:∀{x y z:List Key},lb x y=true->lb y z=true->lb x z=true
 | [],_,[],h1,h2=>by cases h2':(‹List Key›) with
  | nil=>rw[h2']at h1;cases h1
  | cons _ _=>rw[h2']at h2;cases h2
 | [],_,_::_,_,_=>rfl
 | _::_,[],_,h1,_=>by cases h1
 | _::_,_::_,[],_,h2=>by cases h2
 | a::x,b::y,c::z,h1,h2=>by
  unfold lb at h1 h2 ⊢;rw[Bool.or_eq_true,xF,decide_eq_true_eq] at *;rcases h1 with h1|⟨rfl,h1⟩
  ·rcases h2 with h2|⟨rfl,h2⟩
   ·exact .inl (pT h1 h2)
   exact .inl h1
  rcases h2 with h2|⟨rfl,h2⟩
  ·exact .inl h2
  exact .inr ⟨rfl,dw h1 h2⟩
def leK (x y:List Key):Prop:=lb y x=false
theorem jK {x y:List Key} (h1:leK x y) (h2:leK y x):x=y:=by
 rcases iB x y with h|h|h
 ·rw[h2]at h;cases h
 ·exact h
 rw[h1]at h;cases h
theorem nr (x y:List Key):leK x y\/leK y x:=by
 cases h:lb y x with
 | false=>exact .inl h
 | true =>
 refine .inr ?_
 cases h2:lb x y with
 | false=>exact h2
 | true=>have:=dw h h2;rw[iC]at this;cases this
noncomputable def ua:PyProof.Rows.KeyOrd where
 α:=List Key
 blt:=lb
 irrefl:=iC
 trans _ _ _ h1 h2:=dw h1 h2
 negTrans a b c h:=by
  rcases iB a b with h1|rfl|h1
  ·exact .inl h1
  ·exact .inr h
  exact .inr (dw h1 h)
 total a b h1 h2:=jK h2 h1
def sh1:Key->Bool
 | .inl _=>false
 | .inr _=>true
def sh2:Key ⊕ List Key->Bool ⊕ List Bool
 | .inl k=>.inl (sh1 k)
 | .inr ks=>.inr (ks.map sh1)
def flat:av->List Key
 | []=>[]
 | .inl k::r=>k::flat r
 | .inr ks::r=>ks++flat r
theorem fk (a b:Key) (x y:List Key):lb (a::x) (b::y)=(kb a b || (decide (a=b)&&lb x y)):=rfl
theorem kN:∀{x y:List Key} {u v:List Key},x.length=y.length->lb (x++u) (y++v)=(lb x y || (decide (x=y)&&lb u v))
 | [],[],u,v,_=>by simp[lb]
 | a::x,b::y,u,v,h=>by
  rw[List.cons_append,List.cons_append,fk,fk,kN (by simpa using h)];by_cases e:a=b
  ·subst e;simp[iG]
  simp[e]
section
variable {prog:Program} {w:World} {A:Around} {E:A0} {s:Shared}
variable {R:A0}
theorem vk {x y:Key} {u v:Value} (e:sh1 x=sh1 y) (hx:cV x u=true) (hy:cV y v=true) (h:R (.bool (kb x y)) s):wpAny (model prog w) A (compareOp .Lt u v) R E s:=by
 rcases aJ hx with⟨i,t,rfl,rfl⟩|⟨z,t,rfl,rfl⟩
 ·rcases aJ hy with⟨j,t',rfl,rfl⟩|⟨z',t',rfl,rfl⟩
  ·exact lt_int h
  cases e
 rcases aJ hy with⟨j,t',rfl,rfl⟩|⟨z',t',rfl,rfl⟩
 ·cases e
 exact PyProof.Rows.lt_str h
theorem rC {x y:List Key} {a b:Addr} {P:Fin->Shared->Prop} (e:x.map sh1=y.map sh1) (hx:IsTupleKey (ax prog w) s.heap x a) (hy:IsTupleKey (ax prog w) s.heap y b) (h:P (.done (.ret (.bool (lb x y)))) s) :
  wpAny (model prog w) A (Builtin.«tuple.__lt__» ⟨[.ref a,.ref b],[]⟩) P E s:=by
 have hTb:=hy.typeIs;obtain⟨oa,xs,na,hoa,_,hda,hia⟩:=hx;obtain⟨ob,ys,nb,hob,_,hdb,hib⟩:=hy;show wpAny _ _ (isInstance (.ref b) (.type "tuple") >>= _) _ _ s;refine Qa (xQ hTb isSubtype_tuple_tuple ?_);simp only[xU,Qz,xq];refine Qa (wpAny_tupleItemsOf hoa hda ?_);refine Qa (wpAny_tupleItemsOf hob hdb ?_);refine Qa ?_
 have zz:xs.size=ys.size:=by
  have:=congrArg List.length e;rw[Qc,Qc,hia.length,hib.length,Qj,Qj]at this;exact this
 refine wpAny_forIn_list _
  (λrest r s'=>r.1=none/\s'=s/\∃x' y' xs' ys',rest=List.zip xs' ys'/\ItemsAre (ax prog w) x' xs'/\ItemsAre (ax prog w) y' ys'/\lb x' y'=lb x y/\x'.map sh1=y'.map sh1)
  _ ?_ ?_ _ _ ⟨rfl,rfl,x,y,xs.toList,ys.toList,rfl,hia,hib,rfl,e⟩
 ·rintro⟨u,v⟩ rest r s' ⟨hr,rfl,x',y',xs',ys',hz,hx',hy',hdec,hsh⟩
  cases hx' with
  | nil=>simp at hz
  | @cons k1 u' x'' xs'' h1 hx'' =>
  cases hy' with
  | nil=>simp at hz
  | @cons k2 v' y'' ys'' h2 hy'' =>
  simp only[List.zip_cons_cons,List.cons.injEq,Prod.mk.injEq]at hz;obtain⟨⟨rfl,rfl⟩,rfl⟩:=hz;rw[Qu,Qu]at hsh;injection hsh with s1 s2;refine Qa ((ax prog w).eqBool (a:=k1) (b:=k2) h1 h2 ?_);by_cases hk:k1=k2
  ·subst hk;rw[QA rfl];simp only[xU,Qz,xq];refine Qf ⟨rfl,rfl,x'',y'',xs'',ys'',rfl,hx'',hy'',?_,s2⟩;rw[<-hdec]
   conv=>rhs;unfold lb
   rw[iG];simp
  rw[Qy hk];simp only[Bool.not_false,if_true];have hf:lb x y=kb k1 k2:=by rw[<-hdec];unfold lb;simp[hk]
  rw[hf]at h;refine Qa (wpAny_rule (Qa ?_));refine vk s1 h1 h2 ?_;exact Qa (Qf (Qf (Qf h)))
 rintro⟨r1,r2⟩ s' ⟨hr,rfl,x',y',xs',ys',hz,hx',hy',hdec,hsh⟩;simp only at hr;subst hr;refine Qf ?_
 have e0:lb x y=false:=by
  rw[<-hdec]
  cases hx' with
  | nil=>cases hy' with
   | nil=>rfl
   | cons _ _=>cases hsh
  | cons _ _=>cases hy' with
   | nil=>cases hsh
   | cons _ _=>simp at hz
 rw[e0]at h;have:Builtin.Tuple.tupleCompareSizes .Lt xs.size ys.size=.bool false:=by rw[zz];simp[Builtin.Tuple.tupleCompareSizes]
 show P (.done (.ret (Builtin.Tuple.tupleCompareSizes .Lt xs.size ys.size))) s';rw[this];exact h
theorem tm {x y:List Key} {a b:Addr} (hu:A.units<cLine) (e:x.map sh1=y.map sh1) (hx:IsTupleKey (ax prog w) s.heap x a) (hy:IsTupleKey (ax prog w) s.heap y b) (h:R (.bool (lb x y)) s) :
  wpAny (model prog w) A (compareOp .Lt (.ref a) (.ref b)) R E s:=by
 show wpAny _ _ (richCompare .Lt _ _) _ _ _;exact wpAny_richCompare_same_room (op:=.Lt) hx.typeIs hy.typeIs F.slot_tuple_lt (QV F.slot_tuple_lt hx.typeIs F.entry_tuple_lt (rC e hx hy ⟨_,rfl,(λe=>nomatch e),h⟩) (F.args_tuple_lt_2 _ _)) hu
theorem pU {x y:av} {xs ys:List Value} {b:Bool} {Q:Bool->Shared->Prop} (hu:A.units<cLine) (hx:TK.Its (ax prog w) s.heap x xs) (hy:TK.Its (ax prog w) s.heap y ys) (e:x.map sh2=y.map sh2):∀i,(i=0->b=true->∃k r,x=.inl (.inr k)::r)->Q (lb (flat x) (flat y)) s ->
  PySem.W.KatLex prog w A b false Q (xs.zip ys) i s:=by
 induction hx generalizing y ys with
 | nil =>
  cases hy with
  | nil=>intro i _ q;exact PySem.W.kat_nil q
  | cons _ _=>cases e
 | @cons k1 u x' xs' h1 t1 ih =>
 cases hy with
 | nil=>cases e
 | @cons k2 v y' ys' h2 t2 =>
 intro i hb q;rw[Qu,Qu]at e;injection e with e1 e2;refine PySem.W.kat_cons (TK.it_eq (iz prog w) hu h1 h2 (PySem.W.kat_go (λc=>PySem.W.kat_yes (ih t2 e2 _ (λz=>absurd z (Nat.succ_ne_zero _)) ?_)) (λc=>PySem.W.kat_no ?_)))
 ·obtain rfl:k1=k2:=by simpa using c
  have:lb (flat (k1::x')) (flat (k1::y'))=lb (flat x') (flat y'):=by
   cases k1 with
   | inl k=>show lb (k::flat x') (k::flat y')=_;rw[fk,iG];simp
   | inr ks=>show lb (ks++flat x') (ks++flat y')=_;rw[kN rfl,iC];simp
  rw[this]at q;exact q
 have ne:k1≠k2:=by simpa using c
 cases k1 with
 | inl k =>
  cases k2 with
  | inr js=>cases e1
  | inl j =>
  have hkj:k≠j:=λz=>ne (by rw[z]);have:lb (flat (.inl k::x')) (flat (.inl j::y'))=kb k j:=by show lb (k::flat x') (j::flat y')=_;rw[fk];simp[hkj]
  rw[this]at q;have e1:sh1 k=sh1 j:=Sum.inl.inj e1;by_cases c1:(b&&i==0)=true
  ·rw[c1];rw[xF]at c1;obtain⟨k',r,ek⟩:=hb (by simpa using c1.2) c1.1;injection ek with ek _;injection ek with ek;subst ek;rcases aJ (show cV (.inr k') u=true from h1) with⟨_,_,z,_⟩|⟨_,t,z,rfl⟩
   ·cases z
   cases z;rcases aJ (show cV j v=true from h2) with⟨_,_,rfl,_⟩|⟨z',t',rfl,rfl⟩
   ·cases e1
   exact oneLt_str q
  rw[show (b&&i==0)=false by simpa using c1];exact PySem.W.kat_one _ _ (vk e1 h1 h2 q)
 | inr ks =>
 cases k2 with
 | inl j=>cases e1
 | inr js =>
 obtain⟨a1,rfl,g1⟩:=h1;obtain⟨a2,rfl,g2⟩:=h2;have e1:ks.map sh1=js.map sh1:=Sum.inr.inj e1;have len:ks.length=js.length:=by have:=congrArg List.length e1;simpa using this
 have hkj:ks≠js:=λz=>ne (by rw[z]);have:lb (flat (.inr ks::x')) (flat (.inr js::y'))=lb ks js:=by show lb (ks++flat x') (js++flat y')=_;rw[kN len];simp[hkj]
 rw[this]at q
 have c1:(b&&i==0)=false:=by
  cases c1:(b&&i==0) with
  | false=>rfl
  | true =>
  rw[xF]at c1;obtain⟨k',r,ek⟩:=hb (by simpa using c1.2) c1.1;cases ek
 rw[c1];exact PySem.W.kat_one _ _ (tm hu e1 g1 g2 q)
end
def jN (bs:A3) (tk:Addr->av):PyProof.Rows.KeyKind:={ ua with
 keyOf:=λv=>match v with
  | .ref b=>if b∈bs then some (flat (tk b)) else none
  | _=>none
 dflt:=[] }
theorem gF {bs:A3} {tk:Addr->av} {v:Value} {k:List Key} (e:(jN bs tk).keyOf v=some k):∃b,v=.ref b/\b∈bs/\k=flat (tk b):=by
 have no:¬(none:Option (List Key))=some k:=λz=>nomatch z
 cases v with
 | ref b =>
  have e:(if b∈bs then some (flat (tk b)) else none)=some k:=e;by_cases c:b∈bs
  ·rw[Qw c]at e;exact⟨b,rfl,c,(QH e).symm⟩
  rw[Qq c]at e;cases e
 | _=>exact absurd e no
theorem d5 {bs:A3} (tk:Addr->av) {b:Addr} (h:b∈bs):(jN bs tk).keyOf (.ref b)=some (flat (tk b)):=Qw h
def Shp (b:Bool) (bs:A3) (tk:Addr->av):Prop:=(∀a∈bs,∀c∈bs,(tk a).map sh2=(tk c).map sh2)/\∀a∈bs,if b=true then ∃k r,tk a=.inl (.inr k)::r else ∃k r,tk a=.inr k::r
section
variable {prog:Program} {w:World}
theorem bO {h h':Heap} {k:av} {a:Addr} (x:TK.IsT (ax prog w) h k a) (ks:∀b o,h.get? b=some o->o.cls=.type "tuple" -> h'.get? b=some o):TK.IsT (ax prog w) h' k a:=by
 obtain⟨o,items,n,h1,h2,h3,h4⟩:=x;refine⟨o,items,n,ks _ _ h1 h2,h2,h3,h4.imp λk v q=>?_⟩
 cases k with
 | inl k=>exact q
 | inr ks' =>
 obtain⟨c,e,o,items,n,h1,h2,h3,h4⟩:=q;exact⟨c,e,o,items,n,ks _ _ h1 h2,h2,h3,h4⟩
theorem jZ {h:Heap} {a:Addr} {o:Obj} {bs:A3} {tk:Addr->av} {b:Bool} (ho:h.get? a=some o) (hc:o.cls≠.type "tuple") (p:∀c∈bs,TK.IsT (ax prog w) h (tk c) c) (sp:Shp b bs tk) :
  Can prog w (λA=>A.units<cLine) (jN bs tk) (tuples' b) h a (bs.map Value.ref) where
 key v hv:=by
  obtain⟨c,hc,rfl⟩:=Qo.mp hv;exact⟨_,d5 tk hc⟩
 lt A s hu ks:=by
  intro E x y k1 k2 Q h1 h2 q;obtain⟨c1,rfl,m1,rfl⟩:=gF h1;obtain⟨c2,rfl,m2,rfl⟩:=gF h2;have kp:∀b o',h.get? b=some o'->o'.cls=.type "tuple" -> s.heap.get? b=some o':=λb o' e ec=>ks _ _ (λz=>by rw[z,ho]at e;cases e;exact hc ec) e;obtain⟨o1,i1,n1,g1,_,d1,t1⟩:=bO (p c1 m1) kp;obtain⟨o2,i2,n2,g2,_,d2,t2⟩:=bO (p c2 m2) kp;have e:=sp.1 _ m1 _ m2
  have ez:decide (i1.size<i2.size)=false:=by
   have l1:∀{k:av} {vs:List Value},TK.Its (ax prog w) s.heap k vs->k.length=vs.length:=by
    intro k vs q
    induction q with
    | nil=>rfl
    | cons _ _ ih=>simp[ih]
   have:=congrArg List.length e;rw[Qc,Qc,l1 t1,l1 t2,Qj,Qj]at this;rw[this];exact Qy (xV _)
  refine PySem.W.kat_lt g1 d1 g2 d2 ?_;rw[ez];refine pU hu t1 t2 e 0 (λ_ hb=>?_) q;have:=sp.2 _ m1;rw[Qw hb]at this;exact this
 kind h2 A E s Q ks hq:=by
  have kp:∀b o',h.get? b=some o'->o'.cls=.type "tuple" -> s.heap.get? b=some o':=λb o' e ec=>ks _ _ (λz=>by rw[z,ho]at e;cases e;exact hc ec) e
  have all:∀{l:A3},(∀c∈l,c∈bs)->∃fs:List Value,fs.length=l.length/\PySem.W.KatTups s.heap (l.map Value.ref) fs/\∀f∈fs,PySem.W.Looks (model prog w) s.heap (typeOf f) (.type (if b=true then "str" else "tuple")):=by
   intro l
   induction l with
   | nil=>intro _;exact⟨[],rfl,.nil,λf hf=>nomatch hf⟩
   | cons c l ih =>
   intro hl;obtain⟨fs,z1,z2,z3⟩:=ih λc h=>hl c (Qp _ h);have hcb:=hl c (by simp);obtain⟨o1,i1,n1,g1,cl,d1,t1⟩:=bO (p c hcb) kp;have sp2:=sp.2 c hcb
   cases b with
   | true =>
    rw[Qw rfl]at sp2 ⊢;obtain⟨k,r,ek⟩:=sp2;rw[ek]at t1;generalize hv:i1.toList=vs at t1
    cases t1 with
    | @cons _ v _ vs h1 _ =>
    rcases aJ (show cV (.inr k) v=true from h1) with⟨_,_,z,_⟩|⟨_,t,z,rfl⟩
    ·cases z
    refine⟨_::fs,by simp[z1],.cons g1 cl d1 (by rw[<-Q0,hv];rfl) z2,λf hf=>?_⟩;rcases Qg.mp hf with rfl|hf
    ·exact PySem.W.Looks.of_pure rfl
    exact z3 f hf
   | false =>
   rw[Qq Qn]at sp2 ⊢;obtain⟨k,r,ek⟩:=sp2;rw[ek]at t1;generalize hv:i1.toList=vs at t1
   cases t1 with
   | @cons _ v _ vs h1 _ =>
   obtain⟨c',rfl,o2,i2,n2,g2,cl2,_⟩:=h1;refine⟨_::fs,by simp[z1],.cons g1 cl d1 (by rw[<-Q0,hv];rfl) z2,λf hf=>?_⟩;rcases Qg.mp hf with rfl|hf
   ·exact λA Q E s' k q=>wpAny_typeOf_ref (k _ _ g2) (by rw[cl2];exact q)
   exact z3 f hf
  obtain⟨fs,l,kt,hf⟩:=all (l:=bs) λ_ h=>h;rw[Qc]at h2;refine PySem.W.kat_kind (T:=.type (if b=true then "str" else "tuple")) kt (by omega) hf (by cases b <;> decide) ?_;have:(Value.type (if b=true then "str" else "tuple") != Value.type "tuple")=b:=by cases b <;> decide
  rw[this];exact hq
end
end Tm
namespace LZ
open PySem
section
variable {prog:Program} {w:World} {A:Around} {E:A0} {s:Shared}
abbrev IsZ (h:Heap) (z TI TO:Addr) (f0:Value) (f1:Bool):Prop :=
 h.get? z=some { cls:=.type "zip", dict:=none,data:=.fields #[f0,.bool f1,.bool false,.ref TI,.ref TO],slots:=#[] }
structure Apart5 (z TI TO i1 i2 l:Addr):Prop where
 TIz:TI≠z
 TOz:TO≠z
 i1z:i1≠z
 i2z:i2≠z
 TITO:TI≠TO
 TIi1:TI≠i1
 TIi2:TI≠i2
 TOi1:TO≠i1
 TOi2:TO≠i2
 i12:i1≠i2
 lz:l≠z
 lTO:l≠TO
 li1:l≠i1
 li2:l≠i2
theorem qE {a:Addr} {o:Obj} {Q:Option Obj->Shared->Prop} (ho:s.heap.get? a=some o) (h:Q (some o) s):wpAny (model prog w) A (loadIfAlive a) Q E s:=by
 have h':Q (s.heap.get? a) s:=by rw[ho];exact h
 exact λ_ _ _=>h'
theorem next_end {z TI TO i1 i2 l:Addr} {f0:Value} {f1:Bool} {k:Nat} {xs:Array Value} {a b:Value} {Q:Option Value->Shared->Prop} (hh:A.handled=none) (D:Apart5 z TI TO i1 i2 l)
  (hz:IsZ s.heap z TI TO f0 f1) (hf:(f0=.none/\f1=false/\∃a b,IsPair s.heap TO a b)\/∃(T:Addr) (oT:Obj),f0=rawInt (T:Nat)/\s.heap.get? T=some oT) (hTI:IsPair s.heap TI (.ref i1) (.ref i2)) (h1:s.heap.IsListIter i1 l k) (hl:s.heap.IsList l xs) (hv:xs[k]?=none)
  (hQ:∀h',(∀c o,c≠z->c≠i1->s.heap.get? c=some o->h'.get? c=some o)->Q none { s with heap:=h' }):wpAny (model prog w) A (pyNext (.ref z)) Q E s:=by
 have hTy:s.TypeIs (.ref z) "zip" := ⟨_,hz,rfl⟩;unfold pyNext
 refine Qa (wpAny_attempt (QY (name:=Str.ofString "__next__") hTy F.slot_zip_next
  (QV F.slot_zip_next hTy F.entry_zip_next ?_ (F.args_zip_next_1 _))))
 show wpAny _ _ (field (.ref z) 2 >>= _) _ _ _;refine Qa (Q1 hz rfl (x:=.bool false) rfl ?_);show wpAny _ _ (field (.ref z) 3 >>= _) _ _ _;refine Qa (Q1 hz rfl (x:=.ref TI) rfl ?_);refine Qa (xt hTI rfl ?_);show wpAny _ _ (Builtin.SmallTypes.ownedTupleIsFree (.ref z) >>= _) _ _ _;refine Qa ?_;unfold Builtin.SmallTypes.ownedTupleIsFree;refine Qa (Q1 hz rfl (x:=f0) rfl ?_)
 have fin:∀h' e,(∀c o,c≠z->c≠i1->s.heap.get? c=some o->h'.get? c=some o)->(∃o,h'.get? e=some o/\o.cls=.type "StopIteration") ->
   wpAny (model prog w) A (do if <-isInstance (.ref e) (.type "StopIteration") then pure none else throw (.ref e)) Q E { s with heap:=h' }:=λh' e hk ⟨o,ho,hc⟩ =>
  Qa (xQ (T := "StopIteration") (b:=true) ⟨o,ho,hc⟩ isSubtype_stop (Qf (hQ _ hk)))
 rcases hf with⟨e1,e2,a,b,hTO⟩|⟨T,oT,e1,hT⟩
 ·subst e1 e2;refine Qf ?_;simp only[if_true];refine Qa (wpAny_rule ?_);refine Qa (Q1 hz rfl (x:=.ref TO) rfl ?_);refine Qa (xk hz (by simp) λh₁ hz1 hs1=>?_)
  replace hz1:IsZ h₁ z TI TO .ellipsis false:=hz1
  refine Qa ?_;simp only[List.zipIdx_cons,List.zipIdx_nil,xE,xL];refine Qa (Qa (wpAny_onRaise ?_));show wpAny _ _ (Builtin.SmallTypes.nextOf (.ref i1) >>= _) _ _ _;refine Qa (wpAny_nextOf_list_end hh (h1.extBut hs1.extBut D.i1z) (hl.extBut hs1.extBut D.lz) hv λh₂ e hs₂ he=>?_);obtain⟨oe,hoe,hce⟩:=he;have hz₂:IsZ h₂ z TI TO .ellipsis false:=hs₂ _ _ D.i1z.symm hz1;have hez:e≠z:=λx=>by subst x;rw[hz₂]at hoe;cases hoe;simp at hce
  refine xk hz₂ (by simp) λh₃ _ hs₃=>?_;exact fin h₃ e (λc o c1 c3 x=>hs₃.extBut _ _ c1 (hs₂ _ _ c3 (hs1.extBut _ _ c1 x))) ⟨oe,hs₃.extBut _ _ hez hoe,hce⟩
 subst e1;show wpAny _ _ (loadIfAlive ((T:Int).toNat) >>= _) _ _ _;rw[QX];refine Qa (qE hT ?_);simp only[Option.isNone_some,Qz,xq];refine Qa (Q1 hz rfl (x:=.bool f1) rfl ?_)
 cases f1 with
 | false =>
  simp only[show (Value.bool false != Value.bool true)=true from rfl,if_true];refine Qa (xk hz (by simp) λh₁ hz1 hs1=>Qf ?_)
  replace hz1:IsZ h₁ z TI TO (rawInt T) true:=hz1
  simp only[Qz,xq,List.forIn_toArray,xE,xL];refine Qa (Qa (Qa (Q7 ?_)));show wpAny _ _ (Builtin.SmallTypes.nextOf (.ref i1) >>= _) _ _ _;refine Qa (wpAny_nextOf_list_end hh (h1.extBut hs1.extBut D.i1z) (hl.extBut hs1.extBut D.lz) hv λh₂ e hs₂ he=>?_);exact fin h₂ e (λc o c1 c3 x=>hs₂ _ _ c3 (hs1.extBut _ _ c1 x)) he
 | true =>
 simp only[show (Value.bool true != Value.bool true)=false from rfl,Qz,xq];refine Qf ?_;simp only[Qz,xq,List.forIn_toArray,xE,xL];refine Qa (Qa (Qa (Q7 ?_)));show wpAny _ _ (Builtin.SmallTypes.nextOf (.ref i1) >>= _) _ _ _;refine Qa (wpAny_nextOf_list_end hh h1 hl hv λh₂ e hs₂ he=>?_);exact fin h₂ e (λc o c1 c3 x=>hs₂ _ _ c3 x) he
end
structure ApartD (z TI TO i1 i2 l d:Addr):Prop extends Apart5 z TI TO i1 i2 l where
 dz:d≠z
 dTI:d≠TI
 dTO:d≠TO
 di1:d≠i1
 di2:d≠i2
 dl:d≠l
structure ZS (h:Heap) (z TI TO i1 i2 l d:Addr) (ty:String) (x:Str) (t:Tok) (xs:Array Value) (k:Nat):Prop where
 zf:(IsZ h z TI TO .none false/\∃a b,IsPair h TO a b)\/∃(T:Addr) (f1:Bool) (oT:Obj),IsZ h z TI TO (rawInt (T:Nat)) f1/\h.get? T=some oT/\T≠z/\T≠i1/\T≠i2/\T≠d
 ti:IsPair h TI (.ref i1) (.ref i2)
 a1:h.IsListIter i1 l k
 a2:h.IsStrIter i2 ty x t k
 li:h.IsList l xs
section
variable {prog:Program} {w:World} {K:Type} [DecidableEq K] {knd:KeyKind prog w K} {A:Around} {R:Result->Shared->Prop}
end
end LZ
namespace L2
open PySem PySem.Spec PyProof.Rows
theorem paired_get {α β:Type} {F:α->β->Prop}:∀{xs:List α} {ys:List β},xs.length=ys.length->(∀(j:Nat) x y,xs[j]?=some x->ys[j]?=some y->F x y)->Paired F xs ys
 | [],[],_,_=>.nil
 | x::xs,y::ys,hl,h=>.cons (h 0 x y rfl rfl) (paired_get (by simpa using hl) λj a b e1 e2=>h (j+1) a b (by simpa using e1) (by simpa using e2))
section
variable {X:Cx} {a b:Expr} {ta:TA} {p1 p2 pos1 pos2:Pos}
end
end L2
namespace LZ
open PySem
section
variable {prog:Program} {w:World} {A:Around} {E:A0} {s:Shared}
end
section
variable {prog:Program} {w:World} {K:Type} [DecidableEq K] {knd:KeyKind prog w K} {A:Around} {R:Result->Shared->Prop}
def iZ (h:Heap) (xs:Array Value) (ka va:Nat->Value) (it d:Addr):Prop:=∀k,k<xs.size->∃(T:Addr) (o:Obj) (n:Nat),xs[k]?=some (.ref T)/\h.get? T=some o/\o.cls=.type "tuple" /\ o.data=.seq #[ka k,va k] n/\T≠it/\T≠d
theorem iZ.keep {h h':Heap} {xs:Array Value} {ka va:Nat->Value} {it d:Addr} (p:iZ h xs ka va it d) (hk:∀c o,c≠it->c≠d->h.get? c=some o->h'.get? c=some o):iZ h' xs ka va it d:=λk hlt =>
 let ⟨T,o,n,e1,e2,e3,e4,e5,e6⟩:=p k hlt;⟨T,o,n,e1,hk T o e5 e6 e2,e3,e4,e5,e6⟩
end
end LZ
namespace L2
open PySem PySem.Spec PyProof.Rows
section
variable {X:Cx} {a:Expr} {ta:TA} {p1 pos1:Pos}
end
end L2
namespace LS
open PySem PySem.Spec PyProof.Rows
def Led (w:World) (t:SetTable) (n:Nat):Prop:=w.params.followText "set-order" = true\/(t.led=true/\(n≠0->t.plain=false))
def f8 (prog:Program) (w:World) (h:Heap) (a:Addr) (S:Str->Bool) (n:Nat):Prop:=∃o es ep t,h.get? a=some o/\o.ExactSet/\o.data=.set es ep t/\ElemsOf (strKind prog w) es.toList/\(∀k,S k=true↔∃e∈es.toList,(strKind prog w).is k e.2=true)/\es.size<scanBound/\t.fits es.size=true/\es.size=n/\Led w t es.size
section
variable {prog:Program} {w:World} {A:Around} {E:A0} {s:Shared} {a:Addr} {S:Str->Bool} {n:Nat}
variable {es' es:Array (Int × Value)}
theorem f8.put {h:Heap} {o:Obj} {ep:Nat} {t:SetTable} (ho:h.get? a=some o) (hex:o.ExactSet) (hd:o.data=.set es ep t) {t':SetTable}
  (hel:ElemsOf (strKind prog w) es'.toList) (hm:∀k,S k=true↔∃e∈es'.toList,(strKind prog w).is k e.2=true) (hb:es'.size<scanBound) (hf:t'.fits es'.size=true) (hn:es'.size=n) (hl:Led w t' es'.size) :
  (h.update a (Obj.putSet es' t')).get? a=some { o with data:=.set es' (ep+1) t' }/\f8 prog w (h.update a (Obj.putSet es' t')) a S n:=by
 obtain⟨g,_⟩:=SetOf_store (knd:=strKind prog w) ho hex hd hel hm hb hf;exact⟨g,_,es',ep+1,t',g,hex,rfl,hel,hm,hb,hf,hn,hl⟩
theorem f8.congr {h:Heap} {S':Str->Bool} {m:Nat} (q:f8 prog w h a S n) (e:∀k,S k=S' k) (f:n=m):f8 prog w h a S' m:=by
 obtain⟨o,es,ep,t,h1,h2,h3,h4,h5,h6,h7,h8,h9⟩:=q;exact⟨o,es,ep,t,h1,h2,h3,h4,λk=>by rw[<-e k];exact h5 k,h6,h7,h8.trans f,h9⟩
abbrev bare (led:Bool):Obj:={ cls:=.type "set", dict:=none,data:=.set #[] 0 (.fresh 0 0 led) }
theorem f8.bare {h:Heap} (g:h.get? a=some (bare !(w.params.followText "set-order"))):f8 prog w h a (λ_=>false) 0 :=
 ⟨_,#[],0,_,g,⟨rfl,rfl,rfl⟩,rfl,fun e he=>by simp at he,fun k=>by simp,by decide,rfl,rfl,by
  unfold Led
  cases e:w.params.followText "set-order" with
  | true=>exact .inl rfl
  | false=>exact .inr ⟨rfl,λz=>absurd rfl z⟩⟩
theorem qv (x:Value) {Q₁:A0} (h:Q₁ (.ref s.heap.objs.size) { s with heap:=s.heap.push (LS.bare !(w.params.followText "set-order")) }) :
  codeAny (model prog w) A (.call (.builtin "set.__new__") ⟨[.type "set", x],[]⟩) (wants Q₁ E) s:=by
 refine codeAny_of_tree ?_;show wpAny _ A.in1 (do checkBuiltinCall "set.__new__" ⟨[.type "set", x],[]⟩;again (.builtin "set.__new__" ⟨[.type "set", x],[]⟩)) _ _ s;refine Qa (wpAny_of_eq (F.newCall_set_1 x) (Qf ⟨plainId_quiet F.plain_set_new _,codeAny_builtin F.entry_set_new ?_⟩));rw[xS F.plain_set_new _];unfold Builtin.«set.__new__» Builtin.Frozenset.newClass;have hsub:=sub_set_self;obtain⟨hp,g,d,tk,os⟩:=s;dsimp only
 wp_walk
 refine wpAny_askSetting (Qf ?_);dsimp only;simp only[newObj];exact Qa (wpAny_alloc (Qf (Qf h)))
end
theorem bQ:Slot "set_iterator" "__next__" "set_iterator.__next__" :=
 .of (owner := "set_iterator") (n := "__next__") (by rw[typeLookup_type,builtinLookup_eq_fast];kernel_rfl) (by decide +kernel) (by decide +kernel) (by decide +kernel)
  (by first|exact .inl (by decide +kernel)|exact .inr (by decide +kernel)) (by rw[isSubtype_type];kernel_rfl)
theorem dU:Slot "set_iterator" "__iter__" "set_iterator.__iter__" :=
 .of (owner := "set_iterator") (n := "__iter__") (by rw[typeLookup_type,builtinLookup_eq_fast];kernel_rfl) (by decide +kernel) (by decide +kernel) (by decide +kernel)
  (by first|exact .inl (by decide +kernel)|exact .inr (by decide +kernel)) (by rw[isSubtype_type];kernel_rfl)
theorem gf:entryFor table "set_iterator.__next__" = some Builtin.«set_iterator.__next__»:=entryFor_of_tree (by kernel_rfl)
theorem gg:entryFor table "set_iterator.__iter__" = some Builtin.«dict_keyiterator.__iter__»:=entryFor_alias (id' := "dict_keyiterator.__iter__") (by kernel_rfl) rfl (by decide +kernel) (by kernel_rfl)
theorem fW:entryFor table "set.__iter__" = some Builtin.«frozenset.__iter__»:=entryFor_alias (id' := "frozenset.__iter__") (by kernel_rfl) rfl (by decide +kernel) (by kernel_rfl)
theorem jx:Manifest.owners.lookup (String.ofList ['r','o','t','a','r','e','t','i','_','t','e','s'].reverse)=some Manifest.sig_set_iterator:=by kernel_rfl
theorem iT (a:Value):argsOk "set_iterator.__next__" ⟨[a],[]⟩:=by
 unfold argsOk;rw[signature?_of (id := "set_iterator.__next__") (n:=['_','_','t','x','e','n','_','_']) (o:=['r','o','t','a','r','e','t','i','_','t','e','s']) (by kernel_rfl) jx];kernel_rfl
theorem iU (a:Value):argsOk "set_iterator.__iter__" ⟨[a],[]⟩:=by
 unfold argsOk;rw[signature?_of (id := "set_iterator.__iter__") (n:=['_','_','r','e','t','i','_','_']) (o:=['r','o','t','a','r','e','t','i','_','t','e','s']) (by kernel_rfl) jx];kernel_rfl
def dA (h:Heap) (it a:Addr) (first:Value) (i n ep:Nat):Prop:=∃o,h.get? it=some o/\o.cls=.type "set_iterator" /\ o.data=.fields #[first,.int i 0,.ref a,.int n 0,.int ep 0]
def cN (h:Heap) (a:Addr) (es:Array (Int × Value)) (ep:Nat) (t:SetTable):Prop:=∃o,h.get? a=some o/\o.data=.set es ep t/\o.cls=.type "set" /\ t.fits es.size=true
section
variable {prog:Program} {w:World} {A:Around} {E:A0} {s:Shared} {a it:Addr} {es:Array (Int × Value)} {ep:Nat} {t:SetTable} {i:Nat} {first:Value}
variable {n:Nat}
theorem dA.typeIs (h:dA s.heap it a first i n ep):s.TypeIs (.ref it) "set_iterator" := let ⟨o,ho,hc,_⟩:=h;⟨o,ho,hc⟩
theorem dA.at {h h':Heap} (x:dA h it a first i n ep) (e:∀o,h.get? it=some o->h'.get? it=some o):dA h' it a first i n ep:=let ⟨o,ho,r⟩:=x;⟨o,e _ ho,r⟩
theorem cN.at {h h':Heap} (x:cN h a es ep t) (e:∀o,h.get? a=some o->h'.get? a=some o):cN h' a es ep t:=let ⟨o,ho,r⟩:=x;⟨o,e _ ho,r⟩
theorem iJ {Q:A0} (hit:dA s.heap it a first i n ep) (h:Q (.ref it) s):wpAny (model prog w) A (pyIter (.ref it)) Q E s:=by
 refine wpAny_pyIter_slot hit.typeIs dU (QV dU hit.typeIs gg ?_ (iU _));show wpAny _ _ (ret (.ref it)) _ _ s;exact Qf ⟨_,rfl, "set_iterator", _,hit.typeIs,bQ.lookup,h⟩
variable {Q:Option Value->Shared->Prop}
theorem fi (hit:dA s.heap it a first i n ep) (h:wpAny (model prog w) A.in1 (Builtin.«set_iterator.__next__» ⟨[.ref it],[]⟩) (λfin s'=>∃v,fin=Fin.done (Flow.ret v)/\wpAny (model prog w) A (pure (some v)) Q E s')
   (λe s'=>wpAny (model prog w) A (isInstance e (Value.type "StopIteration") >>= λb=>if b=true then pure none else throw e) Q E s') s):wpAny (model prog w) A (pyNext (.ref it)) Q E s :=
 Qa (wpAny_attempt (QY (name:=Str.ofString "__next__") hit.typeIs bQ (QV bQ hit.typeIs gf h (iT _))))
theorem oo {h1:Heap} (hh:A.handled=none) (k:Heap.ExtBut it s.heap h1) (h:∀h',Heap.ExtBut it s.heap h'->Q none { s with heap:=h' }) :
  wpAny (model prog w) A.in1 (newExc (Value.type "StopIteration") [] >>= λe=>raiseNew (α:=Fin) e) (λfin s'=>∃v,fin=Fin.done (Flow.ret v)/\wpAny (model prog w) A (pure (some v)) Q E s')
   (λe s'=>wpAny (model prog w) A (isInstance e (Value.type "StopIteration") >>= λb=>if b=true then pure none else throw e) Q E s') { s with heap:=h1 }:=by
 refine Qa ?_;simp only[newExc,newTuple];refine Qa (xw ?_ (by size_fits));refine Qa (m:=firstArgMember _ _) (wpAny_of_eq (a:=Value.none) (by first|rfl|(simp only[firstArgMember];rfl)) ?_);refine xw ?_ (by size_fits);simp only[raiseNew];refine Qa (wpAny_handled ?_);rw[show A.in1.handled=none from hh];refine Qa (Qf (wpAny_throw ?_));refine Qa (xQ (T := "StopIteration") (b:=true) ⟨_,Qt _ rfl,rfl⟩ isSubtype_stop ?_);exact Qf (h _ ((k.push _).push _))
theorem gB {slot next:Nat} {x:Value} (hit:dA s.heap it a (.int slot 0) i es.size ep) (hs:cN s.heap a es ep t)
  (hw:∀(Q:Option (Value × Nat)->Shared->Prop) (E:A0),Q (some (x,next)) s->wpAny (model prog w) A.in1 (setNext a slot i ep) Q E s)
  (h:∀h',dA h' it a (.int next 0) (i+1) es.size ep->Heap.SameBut it s.heap h'->Q (some x) { s with heap:=h' }):wpAny (model prog w) A (pyNext (.ref it)) Q E s:=by
 obtain⟨o,ho,hc,hd⟩:=id hit;obtain⟨os,hos,hds,_,hf⟩:=id hs;refine fi hit ?_;unfold Builtin.«set_iterator.__next__»;refine Qa (Qf (Qa (wpAny_fieldsOf ho hd ?_)));dsimp only;refine Qa (wpAny_setEntries_of hos hds hf ?_);rw[Qq (by simp)];refine Qa (hw _ _ ?_);dsimp only;refine Qa (xM ho hd (by simp) ?_);have h1:=Q5 (Obj.mapFields (·.setIfInBounds 0 (rawInt (next:Int)))) ho (Obj.isFreed_of_fields (xm hd _));have d1:=xm hd (·.setIfInBounds 0 (rawInt (next:Int)));refine Qa (xM h1 d1 (by simp) ?_);refine Qf ⟨_,rfl,Qf (h _ ⟨_,Q5 _ h1 (Obj.isFreed_of_fields (xm d1 _)),(Obj.cls_mapFields ..).trans ((Obj.cls_mapFields ..).trans hc),by rw[xm d1];simp[rawInt]⟩ ((Q4 ..).trans (Q4 ..)))⟩
theorem gC {slot:Nat} (hh:A.handled=none) (hit:dA s.heap it a (.int slot 0) i es.size ep) (hs:cN s.heap a es ep t)
  (hw:∀(Q:Option (Value × Nat)->Shared->Prop) (E:A0),Q none s->wpAny (model prog w) A.in1 (setNext a slot i ep) Q E s)
  (h:∀h',Heap.ExtBut it s.heap h'->Q none { s with heap:=h' }):wpAny (model prog w) A (pyNext (.ref it)) Q E s:=by
 obtain⟨o,ho,hc,hd⟩:=id hit;obtain⟨os,hos,hds,_,hf⟩:=id hs;refine fi hit ?_;unfold Builtin.«set_iterator.__next__»;refine Qa (Qf (Qa (wpAny_fieldsOf ho hd ?_)));dsimp only;refine Qa (wpAny_setEntries_of hos hds hf ?_);rw[Qq (by simp)];refine Qa (hw _ _ ?_);dsimp only;refine Qa (xM ho hd (by simp) ?_);exact oo hh (Q4 ..).extBut h
theorem kW {tp:Addr} {pl:List Nat} {p:Nat} {e:Int × Value} (hit:dA s.heap it a (.ref tp) i es.size ep) (hs:cN s.heap a es ep t) (ht:s.heap.get? tp=some { cls:=.type "tuple", data:=.seq (pl.map λ(i:Nat)=>rawInt i).toArray })
  (hp:pl[i]?=some p) (he:es[p]?=some e) (h:∀h',dA h' it a (.ref tp) (i+1) es.size ep->Heap.SameBut it s.heap h'->Q (some e.2) { s with heap:=h' }):wpAny (model prog w) A (pyNext (.ref it)) Q E s:=by
 obtain⟨o,ho,hc,hd⟩:=id hit;obtain⟨os,hos,hds,_,hf⟩:=id hs;refine fi hit ?_;unfold Builtin.«set_iterator.__next__»;refine Qa (Qf (Qa (wpAny_fieldsOf ho hd ?_)));dsimp only;refine Qa (wpAny_setEntries_of hos hds hf ?_);rw[Qq (by simp)];refine Qa (xt ht rfl ?_);dsimp only;rw[show (List.map (λ(i:Nat)=>rawInt (i:Int)) pl).toArray[(i:Int).toNat]?=some (rawInt (p:Int)) by rw[QX,List.getElem?_toArray,QE,hp];rfl];dsimp only[rawInt];unfold setNextDrawn;refine Qa (Qa (xx hos hds hf ?_));dsimp only;rw[Qq (by simp),QX,he];refine Qa (Qf (Qf ?_));refine Qa (xM ho hd (by simp) ?_);exact Qf ⟨_,rfl,Qf (h _ ⟨_,Q5 _ ho (Obj.isFreed_of_fields (xm hd _)),(Obj.cls_mapFields ..).trans hc,by rw[xm hd];simp⟩ (Q4 ..))⟩
theorem kX {tp:Addr} {pl:List Nat} (hh:A.handled=none) (hit:dA s.heap it a (.ref tp) i es.size ep) (hs:cN s.heap a es ep t) (ht:s.heap.get? tp=some { cls:=.type "tuple", data:=.seq (pl.map λ(i:Nat)=>rawInt i).toArray })
  (hp:pl[i]?=none) (h:∀h',Heap.ExtBut it s.heap h'->Q none { s with heap:=h' }):wpAny (model prog w) A (pyNext (.ref it)) Q E s:=by
 obtain⟨o,ho,hc,hd⟩:=id hit;obtain⟨os,hos,hds,_,hf⟩:=id hs;refine fi hit ?_;unfold Builtin.«set_iterator.__next__»;refine Qa (Qf (Qa (wpAny_fieldsOf ho hd ?_)));dsimp only;refine Qa (wpAny_setEntries_of hos hds hf ?_);rw[Qq (by simp)];refine Qa (xt ht rfl ?_);dsimp only;have en:(List.map (λ(i:Nat)=>rawInt (i:Int)) pl).toArray[(i:Int).toNat]?=none:=by rw[QX,List.getElem?_toArray,QE,hp,Option.map_none]
 rw[en];dsimp only;refine Qa (xM ho hd (by simp) ?_);have h1:=Q5 (Obj.mapFields (·.setIfInBounds 0 (rawInt 0))) ho (Obj.isFreed_of_fields (xm hd _));have d1:=xm hd (·.setIfInBounds 0 (rawInt 0));refine Qa (xM h1 d1 (by simp) ?_);have k2:Heap.ExtBut it s.heap ((s.heap.update it (Obj.mapFields (·.setIfInBounds 0 (rawInt 0)))).update it (Obj.mapFields (·.setIfInBounds 2 .none))):=((Q4 s.heap it _).trans (Q4 _ it _)).extBut;exact oo (s:=s) (it:=it) (h1:=(s.heap.update it (Obj.mapFields (·.setIfInBounds 0 (rawInt 0)))).update it (Obj.mapFields (·.setIfInBounds 2 .none))) hh k2 h
end
end LS
set_option maxHeartbeats 1000000
namespace DR
open PySem PySem.Spec PyProof.Rows
abbrev At (h:Heap) (d:Addr) (es:Array DictEntry) (ep:Nat):Prop:=h.get? d=some { cls:=.type "dict", data:=.dict es ep }
abbrev IAt (h:Heap) (it d:Addr) (i n ep:Nat):Prop:=h.get? it=some { cls:=.type "dict_keyiterator", data:=.fields #[.ref d,.int i 0,.int n 0,.int ep 0] }
theorem uY:(if Builtin.Dict_items.ownsTuple ((Manifest.find? "dict_keyiterator").elim "dict_keyiterator" λx=>x.tpName)=true then 2 else 0)=0:=by rw[find?_eq_fast];kernel_rfl
section
variable {prog:Program} {w:World} {A:Around} {E:A0} {s:Shared} {d it:Addr} {es:Array DictEntry} {ep i:Nat}
theorem iter {Q:A0} (hd:(d==sysModules)=false) (hm:At s.heap d es ep)
  (hQ:Q (.ref s.heap.objs.size) { s with heap:=s.heap.push { cls:=.type "dict_keyiterator", data:=.fields #[.ref d,.int 0 0,.int es.size 0,.int ep 0] } }):wpAny (model prog w) A (pyIter (.ref d)) Q E s:=by
 have hT:s.TypeIs (.ref d) "dict" := ⟨_,hm,rfl⟩;refine wpAny_pyIter_slot hT F.slot_dict_iter (QV F.slot_dict_iter hT F.entry_dict_iter ?_ (F.args_dict_iter_1 _));unfold Builtin.«dict.__iter__» Builtin.Dict.dictSlotNone Builtin.Dict.showsAll
 wp_walk
 exact⟨_,rfl, "dict_keyiterator", _,⟨_,Qt _ rfl,rfl⟩,xO.lookup,hQ⟩
variable {Q:Option Value->Shared->Prop}
theorem nxt (hit:IAt s.heap it d i es.size ep) (hm:At s.heap d es ep) (hi:i<es.size)
  (hQ:∀h',IAt h' it d (i+1) es.size ep->Heap.SameBut it s.heap h'->Q (some es[i].key) { s with heap:=h' }):wpAny (model prog w) A (pyNext (.ref it)) Q E s:=by
 have hT:s.TypeIs (.ref it) "dict_keyiterator" := ⟨_,hit,rfl⟩;refine Qa (wpAny_attempt (QY (name:=Str.ofString "__next__") hT xO (QV xO hT F.entry_dict_keyiterator_next ?_ (F.args_dict_keyiterator_next_1 _))));unfold Builtin.«dict_keyiterator.__next__»
 wp_walk
 have e:(if (i:Int)<0 then none else es[(i:Int).toNat]?)=some es[i]:=by rw[Qq (by omega),QX];simp[hi]
 rw[e];dsimp only;have m1:=mroOf_keyiter
 wp_walk
 rw[uY,Qq (by decide +kernel)];exact⟨_,rfl,Qf (hQ _ ((Q5 _ hit rfl).trans (by simp[Obj.mapFields,rawInt])) (Q4 ..))⟩
theorem stp (hh:A.handled=none) (hit:IAt s.heap it d i es.size ep) (hm:At s.heap d es ep) (hi:es.size<=i)
  (hQ:∀h',Heap.ExtBut it s.heap h'->Q none { s with heap:=h' }):wpAny (model prog w) A (pyNext (.ref it)) Q E s:=by
 have hT:s.TypeIs (.ref it) "dict_keyiterator" := ⟨_,hit,rfl⟩;refine Qa (wpAny_attempt (QY (name:=Str.ofString "__next__") hT xO (QV xO hT F.entry_dict_keyiterator_next ?_ (F.args_dict_keyiterator_next_1 _))));unfold Builtin.«dict_keyiterator.__next__»
 wp_walk
 have e:(if (i:Int)<0 then none else es[(i:Int).toNat]?)=none:=by rw[Qq (by omega),QX];simp[hi]
 rw[e];dsimp only;have m1:=mroOf_keyiter;generalize hN:setField=SF
 wp_walk
 subst hN;refine xM hit rfl (by rw[uY];simp) ?_;exact LS.oo hh (Q4 ..).extBut hQ
theorem self {Q:A0} {n:Nat} (hit:IAt s.heap it d i n ep) (h:Q (.ref it) s):wpAny (model prog w) A (pyIter (.ref it)) Q E s:=wpAny_pyIter_keyiter ⟨_,hit,rfl,rfl⟩ h
theorem r_ (hh:A.handled=none) (I d:Addr) (hne:d≠I) (es:Array DictEntry) (ep:Nat):Walks prog w A I [I,d] [I] es.size (λi v=>∃e,es[i]?=some e/\v=e.key) (λi h=>IAt h I d i es.size ep/\At h d es ep) where
 sub:=λb hb=>by simp at hb;simp[hb]
 frame:=λ_ _ _ st hk=>⟨hk I (by simp) _ st.1,hk d (by simp) _ st.2⟩
 item:=λi s Q E hi st hQ=>nxt st.1 st.2 hi λh' hit' hs'=>hQ _ h' s.toks ⟨es[i],by simp[hi],rfl⟩ ⟨hit',hs'.extBut d _ hne st.2⟩ λb o hb e=>hs'.extBut b o (λh=>hb (by simp[h])) e
 done:=λs Q E st hQ=>stp hh st.1 st.2 (Qi _) λh' he'=>hQ h' s.toks λb o hb e=>he' b o (λh=>hb (by simp[h])) e
 self:=λ_ _ _ _ st hQ=>self st.1 hQ
theorem src (lo:(d==sysModules)=false):PySem.W.KdlSrc prog w "dict" d d es.size (λi v=>∃e,es[i]?=some e/\v=e.key) (λh=>At h d es ep) where
 type:=λ_ hm=>⟨_,hm,rfl⟩
 there:=λ_ h=>⟨Qr h,Qr h⟩
 keep:=λ_ _ hm hk=>hk d (.inl rfl) _ hm
 notList:=by decide
 notTuple:=by decide
 hint:=λ_ _ _ _ hm hq=>PySem.W.kdl_hint_dict ⟨_,hm,rfl⟩ hq
 iter:=λ_ _ hh hm=>⟨_,_,(λ_ _ hq=>iter lo hm hq),r_ hh _ d (QG (Qr hm)) es ep,⟨Qt _ rfl,Qd _ hm⟩⟩
end
end DR
namespace L2
open PySem PySem.Spec PyProof.Rows
variable {H H':Hp}
theorem KIt.inj {x y:Key ⊕ List Key} {v:V} (h1:KIt H x v) (h2:KIt H y v):x=y:=by
 cases x with
 | inl k =>
  cases h1
  cases y with
  | inl j=>rw[pV (show kV k=kV j from h2)]
  | inr js=>obtain⟨c,e,_⟩:=h2;cases k <;> cases e
 | inr ks =>
 obtain⟨c,rfl,h1⟩:=h1
 cases y with
 | inl j=>have e:V.ref c=kV j:=h2;cases j <;> cases e
 | inr js =>
 obtain⟨c2,e,h2⟩:=h2;cases e;rw[h1]at h2;cases iH (HO.tup.inj (QH h2));rfl
variable {b a:Addr} {x y k:av}
theorem bA.inj (h1:bA H x b) (h2:bA H y b):x=y:=by
 obtain⟨vs,e1,p1⟩:=h1;obtain⟨us,e2,p2⟩:=h2;rw[e1]at e2;cases HO.tup.inj (QH e2);clear e1 e2
 induction p1 generalizing y with
 | nil=>cases p2;rfl
 | cons q _ ih=>cases p2 with
  | cons q2 t2=>rw[q.inj q2,ih t2]
abbrev KsA (H:Hp) (bs:A3) (ks:List av):Prop:=Paired (λb k=>bA H k b) bs ks
theorem KsA.keeps {bs:A3} {ks:List av} (h:KsA H bs ks) (ht:∀b xs,H b=some (.tup xs)->H' b=some (.tup xs)):KsA H' bs ks:=Paired.mapT h λ_ _ z=>z.keeps ht
open Classical in
noncomputable def cC (H:Hp) (b:Addr):av:=if h:∃k,bA H k b then h.choose else []
theorem k_ (h:bA H k b):cC H b=k:=by
 unfold cC;rw[dif_pos ⟨k,h⟩];exact(Exists.choose_spec (p:=λk=>bA H k b) ⟨k,h⟩).inj h
theorem KsA.tk {bs:A3} {ks:List av} (h:KsA H bs ks):ks=bs.map (cC H)/\∀b∈bs,bA H (cC H b) b:=by
 induction h with
 | nil=>exact⟨rfl,λb hb=>nomatch hb⟩
 | cons q _ ih =>
 rw[Qu,k_ q];refine⟨by rw[<-ih.1],λb hb=>?_⟩;rcases Qg.mp hb with rfl|hb
 ·rw[k_ q];exact q
 exact ih.2 b hb
theorem kO {H:Hp}:∀{bs:A3},(∀b∈bs,bA H (cC H b) b)->KsA H bs (bs.map (cC H))
 | [],_=>.nil
 | b::bs,h=>.cons (h b (by simp)) (kO λc hc=>h c (Qp _ hc))
theorem eE:∀(cs:A3),aL (cs.map V.ref) (cs.map Value.ref)
 | []=>.nil
 | _::cs=>.cons rfl (eE cs)
theorem dL:∀{cs:A3} {us:List Value},aL (cs.map V.ref) us->us=cs.map Value.ref
 | [],_,r=>by
  rw[List.map_nil]at r;cases r;rfl
 | c::cs,_,r=>by
  rw[Qu]at r
  cases r with
  | cons r1 r2=>rw[dL r2,Qu];cases (show _=Value.ref c from r1);rfl
theorem gu {ys:List Value} {l:A3} (h:ys.Perm (l.map Value.ref)):∃l':A3,l'.Perm l/\ys=l'.map Value.ref:=by
 let f:Value->Addr:=λv=>match v with
  | .ref a=>a
  | _=>0
 have e:∀l:A3,(l.map Value.ref).map f=l:=λl=>by rw[List.map_map];exact List.map_id _
 refine⟨ys.map f,by have:=h.map f;rwa [e]at this,?_⟩;rw[List.map_map];refine(List.map_id _).symm.trans (List.map_congr_left λv hv=>?_);obtain⟨a,_,rfl⟩:=Qo.mp (h.mem_iff.mp hv);rfl
section
variable {P:Program} {w:World} {H:Hp} {h:Heap} {a:Addr}
theorem iM {kvs:List (av × V)} (ok:HOk P w H h) (e:Rd H a (.dT kvs)):(a==sysModules)=false/\kvs.length<=sizeLine/\∃(es:Array DictEntry) (ep:Nat) (bs:A3),DR.At h a es ep/\es.toList.map (·.key)=bs.map Value.ref/\KsA H bs (kvs.map (·.1)):=by
 obtain⟨z,y,xs,r,o,es,ep,h1,h2,h3,h4,h5⟩:=(show a7 P w H h a (.dT kvs) from oN ok e);refine⟨y,z,es,ep,xs.map (·.2.1),?_,by rw[h4,List.map_map,List.map_map];rfl,?_⟩
 ·obtain⟨c,d,dt,sl⟩:=o;obtain⟨e1,e2,e3⟩:=h2;dsimp only at e1 e2 e3 h3;subst e1 e2 e3 h3;exact h1
 clear h4 h5 z e
 induction r with
 | nil=>exact .nil
 | cons q _ ih=>exact .cons q.2.1 ih
end
def v0 (K:PySem.W.Frag) (H:Hp) (l:Addr) (ks:List av):Prop:=(∃bs:A3,SqL K H l (bs.map V.ref)/\KsA H bs ks)\/∃kvs,Rd H l (.dT kvs)/\kvs.map (·.1)=ks
def qG (b:Bool) (ks:List av):Prop:=(∀x∈ks,∀y∈ks,x.map Tm.sh2=y.map Tm.sh2)/\∀x∈ks,if b=true then ∃k r,x=.inl (.inr k)::r else ∃k r,x=.inr k::r
abbrev leF (x y:av):Prop:=Tm.leK (Tm.flat x) (Tm.flat y)
def oP (K:PySem.W.Frag):List V->Hp->VK->Prop:=λxs H Q=>∃(l:Addr) (ks:List av) (b:Bool),xs=[.ref l]/\v0 K H l ks/\qG b ks/\ks.length<64 /\
 ∀(p:Addr) (bs':A3) (ks':List av),H p=none->KsA H bs' ks'->ks'.Perm ks->ks'.Pairwise leF->Q (.ref p) (upd H p (.lst (bs'.map V.ref)))
section
variable {X:Cx}
theorem dR (hc:X.calm=true) (hu:X.A.units+8<cLine):cG X (.builtin "sorted") (oP X.K):=by
 intro pins s U H xs us Q I r h;obtain⟨l,ks,b,rfl,src,sp,hz,q⟩:=h;obtain⟨u,rfl,ru⟩:=cR r;cases ru
 have main:∀bs:A3,KsA H bs ks->(∀(A:Around) (E:A0) (R:List Value->Shared->Prop),A.handled=none->(∀h' tk vs,(∀b o,s.heap.get? b=some o->h'.get? b=some o)->s.heap.objs.size<=h'.objs.size->vs=bs.map Value.ref->R vs { s with heap:=h',toks:=tk })->wpAny (model X.prog X.w) A (collect (.ref l)) R E s) ->
   wpAny (model X.prog X.w) X.A (call (.builtin "sorted") [.ref l]) (EP X pins U Q) X.xe s:=λbs ka col=>by
  obtain⟨ek,tk⟩:=ka.tk;have bl:bs.length=ks.length:=by rw[ek,Qc]
  have mem:∀{c},c∈bs->cC H c∈ks:=λhc=>by rw[ek];exact Qo.mpr ⟨_,hc,rfl⟩
  refine Tm.mR (s:=s) (up:=λA=>A.units<cLine) (κ:=λ_=>Tm.jN bs (cC H)) (kd:=tuples' b) (G:=λ_ vs=>vs=bs.map Value.ref) col (I.ok.hd hc) (show X.A.units+1+1<cLine by omega) (λh' vs D k g hD=>?_) (λD h' tk' vs h1 out m k1 g1 k2 hle hD at' p1 p2=>?_)
  ·subst g;refine⟨by rw[Qc,bl];exact hz,Tm.jZ (o:=seqObj "list" (bs.map Value.ref).toArray 0) (by rw[hD];exact Qt _ rfl) (λz=>absurd (Value.type.inj z) (by decide)) (λc hc=>?_) ⟨λa ha c hc=>sp.1 _ (mem ha) _ (mem hc),λa ha=>sp.2 _ (mem ha)⟩⟩;exact Tm.bO (c8 I.hok (tk c hc)) λb o e _=>Qd _ (k _ _ e)
  subst g1;obtain⟨bs',pm,eo⟩:=gu p1;rw[eo,xb]at p2;have tk':∀b∈bs',bA H (cC H b) b:=λb hb=>tk b (pm.mem_iff.mp hb)
  have so:(bs'.map (cC H)).Pairwise leF:=by
   rw[xb];refine p2.imp_of_mem λ{a c} ha hc hq=>?_;have hq:Tm.lb (((Tm.jN bs (cC H)).keyOf (.ref c)).getD []) (((Tm.jN bs (cC H)).keyOf (.ref a)).getD [])=false:=hq;rw[Tm.d5 _ (pm.mem_iff.mp ha),Tm.d5 _ (pm.mem_iff.mp hc)]at hq;exact hq
  refine⟨.ref D,_,I.laid (o:=.lst (bs'.map V.ref)) (t':=_) (λb o g=>k2 b o (k1 b o g)) hle ⟨by rw[Qc,pm.length_eq,bl,xK];omega,out.toList,m,by rw[eo];exact eE _,by rw[Array.toArray_toList];exact at'⟩,rfl,q _ bs' _ (I.hok.fresh hle) (kO tk') (by rw[ek];exact pm.map _) so⟩
 rcases src with⟨bs,hl,ka⟩|⟨kvs,rd,ek⟩
 ·obtain⟨its,rv,pl,_⟩:=I.list hl;refine main bs ka λA E R _ hR=>collect_list pl.isList (hR _ _ its (λb o e=>?_) (by rw[Heap.size_update,size_push'];exact Nat.le_succ _) (dL rv)) (by rw[<-rv.length,Qc,xi ka,xK];omega);exact(xg _ _ (Nat.ne_of_gt (Qr e))).trans (Qd _ e)
 obtain⟨y,z,es,ep,bs,da,ee,ka⟩:=iM I.hok rd;rw[ek]at ka
 have ez:es.size=ks.length:=by
  have:=congrArg List.length ee;rw[Qc,Qc,Qj]at this;rw[this,xi ka]
 refine main bs ka λA E R hA hR=>Tm.qu (DR.src (es:=es) (ep:=ep) y) hA da (by rw[ez,xK];omega) λh' tk acc k z it=>hR h' tk acc.toList k z ?_;rw[<-ee];refine List.ext_getElem? λj=>?_;rw[QE];by_cases hj:j<es.size
 ·have ha:j<acc.size:=by rw[it.1];exact hj
  obtain⟨e,e1,e2⟩:=it.2 j acc[j] (QF ha);rw[Q0,Q0,QF ha,e1,e2];rfl
 rw[Q6 (by rw[Qj,it.1];omega),Q6 (by rw[Qj];omega)];rfl
end
def vOf:Value->V
 | .none=>.non
 | .bool b=>.bl b
 | .int i _=>.int i
 | .str x _=>.str x
 | .bytes b _=>.byt b
 | .float b _=>.flt b
 | .ref a=>.ref a
 | .type n=>.ty n
 | _=>.non
theorem kg {x:V} {u:Value} (r:aU x u):vOf u=x:=by
 cases x with
 | int i=>obtain⟨t,rfl⟩:=r;rfl
 | str z=>obtain⟨t,rfl⟩:=r;rfl
 | byt b=>obtain⟨t,rfl⟩:=r;rfl
 | flt b=>obtain⟨t,rfl⟩:=r;rfl
 | _=>cases r;rfl
theorem i6:∀{xs:List V} {us:List Value},aL xs us->us.map vOf=xs
 | _,_,.nil=>rfl
 | _,_,.cons r t=>by rw[Qu,kg r,i6 t]
theorem ft {xs:List V} {us:List Value} (r:aL xs us) (e:V->Bool):us.any (λu=>e (vOf u))=xs.any e:=by rw[<-i6 r,List.any_map];rfl
section
variable {X:Cx}
theorem EqD.mems {pins:A1} {U:St} {H:Hp} {s:Shared} (I:Inv X pins U H s) {A:Around} (hu:A.units+8<cLine) {x:V} {v:Value} (rx:aU x v) {e:V->Bool}:∀{xs:List V} {us:List Value},aL xs us->(∀y∈xs,EqD X.K H 8 y x (e y))->∀u∈us,SeqAt.EqAt A s u v (e (vOf u))
 | _,_,.nil,_=>λu hu=>by cases hu
 | y::xs,u::us,.cons r t,f=>λu' hu'=>by
  rcases Qg.mp hu' with rfl|hu'
  ·rw[kg r];exact EqD.at I (f y (by simp)) hu r rx
  exact EqD.mems I hu rx t (λy hy=>f y (Qp _ hy)) u' hu'
def oR (K:PySem.W.Frag) (neg:Bool):R2:=λx y H Q=>∃(p:Addr) (ys:List V) (e:V->Bool),y=.ref p/\(SqL K H p ys\/SqT K H p ys)/\(∀v∈ys,EqD K H 8 v x (e v))/\Q (.bl (if neg then !(ys.any e) else ys.any e)) H
theorem tV (hu:X.A.units+64<cLine):OpR X (compareOp .In) (oR X.K false):=by
 intro pins s U H x y v u Q I rx ry h;obtain⟨p,xs,e,rfl,hq,f,q⟩:=h;cases ry;have hu':X.A.in1.units+8<cLine:=show X.A.units+1+8<cLine by omega
 rcases hq with hq|hq
 ·obtain⟨its,r,pl,hz⟩:=I.list hq;refine SeqAt.in_listAt (λu=>e (vOf u)) pl.isList (λw hw=>EqD.mems I hu' rx r f w (by simpa using hw)) ⟨.bl _,H,I,rfl,?_⟩;rw[show its.toArray.any (λu=>e (vOf u))=its.any (λu=>e (vOf u)) by simp,ft r];exact q
 obtain⟨its,r,pl,hz⟩:=I.tuple hq;refine SeqAt.in_tupleAt (λu=>e (vOf u)) pl (λw hw=>EqD.mems I hu' rx r f w (by simpa using hw)) ⟨.bl _,H,I,rfl,?_⟩;rw[show its.toArray.any (λu=>e (vOf u))=its.any (λu=>e (vOf u)) by simp,ft r];exact q
theorem mW (hu:X.A.units+64<cLine):OpR X (compareOp .NotIn) (oR X.K true):=by
 intro pins s U H x y v u Q I rx ry h;obtain⟨p,xs,e,rfl,hq,f,q⟩:=h;cases ry;have hu':X.A.in1.units+8<cLine:=show X.A.units+1+8<cLine by omega
 rcases hq with hq|hq
 ·obtain⟨its,r,pl,hz⟩:=I.list hq;refine SeqAt.notIn_listAt (λu=>e (vOf u)) pl.isList (λw hw=>EqD.mems I hu' rx r f w (by simpa using hw)) ⟨.bl _,H,I,rfl,?_⟩;rw[show its.toArray.any (λu=>e (vOf u))=its.any (λu=>e (vOf u)) by simp,ft r];exact q
 obtain⟨its,r,pl,hz⟩:=I.tuple hq;refine SeqAt.notIn_tupleAt (λu=>e (vOf u)) pl (λw hw=>EqD.mems I hu' rx r f w (by simpa using hw)) ⟨.bl _,H,I,rfl,?_⟩;rw[show its.toArray.any (λu=>e (vOf u))=its.any (λu=>e (vOf u)) by simp,ft r];exact q
def ij (K:PySem.W.Frag):V->List V->Hp->VK->Prop:=λx vs H Q=>∃(l:Addr) (ys:List V) (y:V) (e:V->Bool) (j:Nat) (z:V),x=.ref l/\vs=[y]/\SqL K H l ys/\(∀v∈ys,EqD K H 8 v y (e v))/\ys[j]?=some z/\e z=true/\(∀m v,m<j->ys[m]?=some v->e v=false)/\Q (.int j) H
theorem bX (hu:X.A.units+64<cLine):MtR X "list.index" (ij X.K):=by
 intro pins s U H x vs v us Q I rx rv h;obtain⟨l,ys,y,e,j,z,rfl,rfl,hl,f,hj,ez,no,q⟩:=h;cases rx;obtain⟨u,rfl,ru⟩:=cR rv;obtain⟨its,r,pl,hz⟩:=I.list hl;obtain⟨o,ho,hc,n,hd⟩:=pl.isList;obtain⟨ocls,odict,odata,oslots⟩:=o;dsimp only at hc hd;subst hc hd;have hu':X.A.in1.units+8<cLine:=show X.A.units+1+8<cLine by omega
 obtain⟨w1,hw1,rw1⟩:=r.get hj;have hjl:=(Qe.mp hw1).1
 have at_:∀m (hm:m<its.toArray.size),∃v,ys[m]?=some v/\vOf its.toArray[m]=v:=λm hm=>by
  have hm:m<its.length:=by simpa using hm
  have hm2:m<ys.length:=by rw[r.length];exact hm
  obtain⟨w,hw,rw'⟩:=r.get (Qb hm2);rw[Qb hm]at hw;cases hw;exact⟨_,Qb hm2,kg rw'⟩
 refine call_meets F.slot_list_index ⟨_,ho,rfl⟩ F.entry_list_index (F.args_list_index_2 _ _) (SeqAt.list_indexAt l its.toArray n odict oslots u (λu=>e (vOf u)) j (by simpa using hjl) ?_ ?_ (λm hm hmj=>?_)) ⟨ho,?_,?_⟩
 ·rw[xK]at hz;have:=(Qe.mp hj).1;omega
 ·obtain⟨v,hv,ev⟩:=at_ j (by simpa using hjl);rw[hj]at hv;cases hv;rw[ev];exact ez
 ·obtain⟨v,hv,ev⟩:=at_ m hm;rw[ev];exact no m v hmj hv
 ·exact λw hw=>EqD.mems I hu' ru r f w (by simpa using hw)
 exact⟨.int j,H,I.tok _,⟨_,rfl⟩,q⟩
end
theorem mo (a b:Key) (h:Tm.sh1 a=Tm.sh1 b):eqV (kV a) (kV b)=decide (a=b):=by
 cases a with
 | inl i=>cases b with
  | inl j=>rw[pS];rfl
  | inr y=>cases h
 | inr x=>cases b with
  | inl j=>cases h
  | inr y =>
   rw[pR];show (x==y)=_;by_cases e:x=y
   ·subst e;simp
   rw[Qy e];exact beq_eq_false_iff_ne.mpr e
theorem fo (k:Key):cF (kV k)=true:=by cases k <;> rfl
variable {n ep:Nat} {K:PySem.W.Frag}
theorem rO {x y:List Key} (ha:H a=some (.tup (x.map kV))) (hb:H b=some (.tup (y.map kV))) (e:x.map Tm.sh1=y.map Tm.sh1):EqD K H (n+1) (.ref a) (.ref b) (decide (x=y)):=by
 have len:x.length=y.length:=by have:=congrArg List.length e;simpa using this
 by_cases c:a=b
 ·subst c;rw[ha]at hb;cases iH (HO.tup.inj (QH hb));rw[QA rfl];exact .same
 have q:=EqD.tups (K:=K) (n:=n) (e:=λj=>decide (x[j]?=y[j]?)) (SqT.of ha) (SqT.of hb) (λj u v e1 e2=>?_) c
 ·have:((List.range (min (x.map kV).length (y.map kV).length)).all (λj=>decide (x[j]?=y[j]?))&&(x.map kV).length==(y.map kV).length)=decide (x=y):=by
   rw[Qc,Qc,len,Nat.min_self,beq_self_eq_true,Bool.and_true,xN,xa,xH]
   constructor
   ·intro h;refine List.ext_getElem? λj=>?_;by_cases hj:j<y.length
    ·exact xv (h j (xD.mpr hj))
    rw[Q6 (by omega),Q6 (by omega)]
   rintro rfl j _;simp
  rw[this]at q;exact q
 rw[QE]at e1 e2;obtain⟨k1,h1,rfl⟩:=xh.mp e1;obtain⟨k2,h2,rfl⟩:=xh.mp e2;have s:=congrArg (·[j]?) e;simp only[QE,h1,h2]at s;have s:Tm.sh1 k1=Tm.sh1 k2:=QH s;rw[h1,h2,show decide (some k1=some k2)=decide (k1=k2) by simp,<-mo _ _ s];exact .flat (fo _) (fo _)
theorem fS {H:Hp}:∀{k:av} {vs:List V} {j:Nat} {v:V},Paired (KIt H) k vs->vs[j]?=some v->∃x,k[j]?=some x/\KIt H x v
 | _,_,_,_,.nil,e=>by simp at e
 | _,_,0,_,.cons r _,e=>by simp at e;subst e;exact⟨_,rfl,r⟩
 | _,_,j+1,_,.cons _ t,e=>by obtain⟨x,h1,h2⟩:=fS (j:=j) t (by simpa using e);exact⟨x,by simpa using h1,h2⟩
theorem ur {k1 k2:Key ⊕ List Key} {u v:V} (r1:KIt H k1 u) (r2:KIt H k2 v) (s:Tm.sh2 k1=Tm.sh2 k2):EqD K H (n+1) u v (decide (k1=k2)):=by
 cases k1 with
 | inl k1=>cases k2 with
  | inr _=>cases s
  | inl k2 =>
   cases r1;cases r2;have s:Tm.sh1 k1=Tm.sh1 k2:=Sum.inl.inj s;rw[show decide ((Sum.inl k1:Key ⊕ List Key)=Sum.inl k2)=decide (k1=k2) by simp,<-mo _ _ s];exact .flat (fo _) (fo _)
 | inr k1=>cases k2 with
  | inl _=>cases s
  | inr k2 =>
   obtain⟨c1,rfl,r1⟩:=r1;obtain⟨c2,rfl,r2⟩:=r2;have s:k1.map Tm.sh1=k2.map Tm.sh1:=Sum.inr.inj s;rw[show decide ((Sum.inr k1:Key ⊕ List Key)=Sum.inr k2)=decide (k1=k2) by simp];exact rO r1 r2 s
theorem qD (len:x.length=y.length):((List.range y.length).all λj=>decide (x[j]?=y[j]?))=decide (x=y):=by
 rw[xN,xa,xH]
 constructor
 ·intro h;refine List.ext_getElem? λj=>?_;by_cases hj:j<y.length
  ·exact xv (h j (xD.mpr hj))
  rw[Q6 (by omega),Q6 (by omega)]
 rintro rfl j _;simp
theorem pW {vs us:List V} (p1:Paired (KIt H) x vs) (p2:Paired (KIt H) y us) (e:x.map Tm.sh2=y.map Tm.sh2) (j:Nat) (u v:V) (e1:vs[j]?=some u) (e2:us[j]?=some v):EqD K H (n+1) u v (decide (x[j]?=y[j]?)):=by
 obtain⟨k1,g1,r1⟩:=fS p1 e1;obtain⟨k2,g2,r2⟩:=fS p2 e2;have s:=congrArg (·[j]?) e;simp only[QE,g1,g2]at s;rw[g1,g2,show decide (some k1=some k2)=decide (k1=k2) by simp];exact ur r1 r2 (QH s)
theorem uq (ha:bA H x a) (hb:bA H y b) (e:x.map Tm.sh2=y.map Tm.sh2):EqD K H (n+2) (.ref a) (.ref b) (decide (x=y)):=by
 have len:x.length=y.length:=by have:=congrArg List.length e;simpa using this
 by_cases c:a=b
 ·subst c;rw[ha.inj hb,QA rfl];exact .same
 obtain⟨vs,h1,p1⟩:=ha;obtain⟨us,h2,p2⟩:=hb;have l1:=xi p1;have l2:=xi p2;have q:=EqD.tups (K:=K) (n:=n+1) (e:=λj=>decide (x[j]?=y[j]?)) (SqT.of h1) (SqT.of h2) (pW p1 p2 e) c;rwa [<-l1,<-l2,len,Nat.min_self,beq_self_eq_true,Bool.and_true,qD len]at q
theorem vn {neg:Bool} {Q:VK} (ha:bA H x a) (hb:bA H y b) (e:x.map Tm.sh2=y.map Tm.sh2) (q:Q (.bl (if neg=true then !decide (x=y) else decide (x=y))) H):oS K neg (.ref a) (.ref b) H Q:=by
 have len:x.length=y.length:=by have:=congrArg List.length e;simpa using this
 obtain⟨vs,h1,p1⟩:=ha;obtain⟨us,h2,p2⟩:=hb;have l1:=xi p1;have l2:=xi p2;refine⟨a,b,vs,us,λj=>decide (x[j]?=y[j]?),rfl,rfl,SqT.of h1,SqT.of h2,pW p1 p2 e,?_⟩;rw[<-l1,<-l2,len,Nat.min_self,beq_self_eq_true,Bool.and_true,qD len];exact q
def qH (a:Addr) (o:Obj) (kvs:List (av × V)):It :=
 ⟨λi H=>H a=some (.frz o (.dT kvs))/\i<kvs.length,λi H x H'=>H'=H/\∃k v b,kvs[i]?=some (k,v)/\x=.ref b/\bA H k b,λi H=>H a=some (.frz o (.dT kvs))/\kvs.length<=i⟩
theorem iL {X:Cx} {pins:A1} {U:St} {s:Shared} {o:Obj} {es:Array DictEntry} {kvs:List (av × V)} (I:Inv X pins U H s) (h:H a=some (.frz o (.dT kvs))) (hd:o={ cls:=.type "dict", data:=.dict es ep }) :
  (a==sysModules)=false/\DR.At s.heap a es ep/\es.size=kvs.length/\∃bs:A3,es.toList.map (·.key)=bs.map Value.ref/\KsA H bs (kvs.map (·.1)):=by
 obtain⟨y,z,es',ep',bs,e1,e2,e3⟩:=iM I.hok (.inr ⟨o,h⟩);obtain⟨e4,_⟩:=I.hok a _ h;rw[e1,hd]at e4;cases e4;have:=congrArg List.length e2;rw[Qc,Qc,Qj,xi e3,Qc]at this;exact⟨y,e1,this,bs,e2,e3⟩
theorem lX {H:Hp}:∀{bs:A3} {ks:List av} {i:Nat} {k:av},KsA H bs ks->ks[i]?=some k->∃b,bs[i]?=some b/\bA H k b
 | _,_,_,_,.nil,e=>by simp at e
 | _,_,0,_,.cons r _,e=>by simp at e;subst e;exact⟨_,rfl,r⟩
 | _,_,i+1,_,.cons _ t,e=>by obtain⟨b,h1,h2⟩:=lX (i:=i) t (by simpa using e);exact⟨b,by simpa using h1,h2⟩
theorem km {P:Program} {w:World} {tg:Expr} (a it:Addr) (o:Obj) (kvs:List (av × V)) (es:Array DictEntry) (ep:Nat) (hd:o={ cls:=.type "dict", data:=.dict es ep }):Turn P w K tg (qH a o kvs) [it] it (λi h=>DR.IAt h it a i kvs.length ep) where
 mem:=by simp
 obj:=λi h st b hb=>by
  have e:b=it:=by simpa using hb
  subst e;exact⟨_,st,λv z=>nomatch z⟩
 keep:=λi h h' st k=>k it (by simp) _ st
 item:=by
  intro X hP hw hK hc i pins s U H E I hf st hg;subst hP hw hK;obtain⟨hz,hi⟩:=hg;obtain⟨_,da,ez,bs,e2,e3⟩:=iL I hz hd;obtain⟨⟨k,v⟩,hx⟩:∃p,kvs[i]?=some p:=⟨kvs[i],by simp[hi]⟩;obtain⟨b,hb,tb⟩:=lX (i:=i) (k:=k) e3 (by rw[QE,hx];rfl);have hi':i<es.size:=by omega
  have hk:es[i].key=.ref b:=by
   have e:=congrArg (·[i]?) e2;simp only[QE,hb,Q0,QF hi']at e;exact QH e
  obtain⟨f0,f1,f2,f3,f4,f5⟩:=hf it (by simp);have st0:=st;rw[<-ez]at st0;refine DR.nxt st0 da hi' λh' st' sb=>?_;have I1:Inv X pins U H { s with heap:=h' }:=I.turned (t':=s.toks) (λb o hb e=>(sb.2 b hb).trans e) f0 f1 f3 f4 f5;rw[ez]at st';rw[hk];exact⟨.ref b,rfl,l_ (s:={ s with heap:=h' }) st' rfl rfl (by decide) ⟨.ref b,H,I1,rfl,⟨rfl,k,v,b,hx,rfl,tb⟩,st',λb hb=>(hf b hb).1⟩⟩
 done:=by
  intro X hP hw hK hc i pins s U H E I hf st hg;subst hP hw hK;obtain⟨hz,hi⟩:=hg;obtain⟨_,da,ez,bs,e2,e3⟩:=iL I hz hd;obtain⟨f0,f1,f2,f3,f4,f5⟩:=hf it (by simp);rw[<-ez]at st;exact DR.stp (I.ok.hd hc) st da (by omega) λh' eb=>⟨rfl,I.turned (t':=s.toks) (λb o hb e=>eb b o hb e) f0 f1 f3 f4 f5⟩
 self:=λ_ _ _ _ _ st h=>DR.self st h
def uk (tl:TE):TI:=λU H R=>tl U H λx H1=>∃a o kvs,x=.ref a/\H1 a=some (.frz o (.dT kvs))/\R (qH a o kvs) H1
theorem oY {X:Cx} {tg l:Expr} {tl:TE} (hl:PE X l tl):PI X tg l (uk tl):=by
 intro pins s U H R I h;refine thn (hl pins s U H _ I h) λv s1 ⟨x,H1,I1,r1,q1⟩=>?_;obtain⟨a,o,kvs,e,hz,q⟩:=q1;subst e;cases r1;obtain⟨y,z,es,ep,bs,e1,e2,e3⟩:=iM I1.hok (.inr ⟨o,hz⟩);obtain⟨e4,_⟩:=I1.hok a _ hz;have eo:o={ cls:=.type "dict", data:=.dict es ep }:=QH (e4.symm.trans e1);obtain⟨_,_,ez,_⟩:=iL I1 hz eo;refine DR.iter y e1 ?_;refine⟨s1.heap.objs.size,[s1.heap.objs.size],_,_,H1,rfl,I1.kept (t':=s1.toks) λb o e=>Qd _ e,km a _ o kvs es ep eo,by rw[ez];exact Qt _ rfl,λb hb=>?_,q⟩;have e:b=s1.heap.objs.size:=by simpa using hb
 subst e;exact I1.fpOk (Qi _) (I1.hok.fresh (Qi _))
section
variable {X:Cx}
theorem nX:cG X (.builtin "len") (λxs H Q=>∃a kvs,xs=[V.ref a]/\H a=some (.dT kvs)/\Q (.int kvs.length) H):=by
 intro pins s U H xs us Q I r h;obtain⟨a,kvs,rfl,ha,q⟩:=h;obtain⟨u,rfl,ru⟩:=cR r;cases ru;obtain⟨y,z,es,ep,bs,da,e2,e3⟩:=iM I.hok (.inl ha);have ez:=congrArg List.length e2;rw[Qc,Qc,Qj,xi e3,Qc]at ez;have hT:s.TypeIs (.ref a) "dict" := ⟨_,da,rfl⟩;refine Calls.call_function_entry kind_len plain_len entry_len (args_len1 _) ?_;have fit:(es.size:Int)<2 ^ 63:=by rw[ez];rw[xK]at z;omega
 refine Qa (m:=oneArg _ _) (Qf (Qa (QY (name:=Str.ofString "__len__") hT F.slot_dict_len (QV F.slot_dict_len hT F.entry_dict_len ?_ (F.args_dict_len_1 _)))));unfold Builtin.«dict.__len__»
 wp_walk
 refine⟨_,rfl,?_⟩;have n0:¬((es.size:Int)+((0:Nat):Int)<0):=by omega
 have n1:¬((es.size:Int)+((0:Nat):Int)>=2 ^ 63):=by omega
 wp_walk
 rw[Qq n1]
 wp_walk
 exact⟨_,rfl,.int kvs.length,H,I.tok _,⟨s.toks+1,by rw[ez];simp⟩,q⟩
def tD (tk tv:TE):TE:=λU H Q=>∀p,H p=none->tk U (upd H p (.dT [])) λx H1=>tv U H1 λy H2=>H2 p=some (.dT [])/\∃b k,x=.ref b/\bA H2 k b/\Q (.ref p) (upd H2 p (.dT [(k,y)]))
theorem o8 {k v:Expr} {pos:Pos} {tk tv:TE} (hu:X.A.units+8<cLine) (hk:PE X k tk) (hv:PE X v tv):PE X (.Dict [some k] [v] pos) (tD tk tv):=by
 intro pins s U H Q I q;have hn:=I.hok.fresh (Qi s.heap.objs.size);have I1:=I.laid (a:=s.heap.objs.size) (o:=.dT []) (h':=s.heap.push { cls:=.type "dict", data:=.dict #[] }) (t':=s.toks) (λ_ _ q=>Qd _ q) (Qi _) (jV s.heap I.big);rw[arm_eval_Dict,zip_pairTrees [some k] [v] X.env pos rfl rfl,dictDisplay_pairs (pairTrees [some k] [v] X.env pos) (by simp[pairTrees]) (by simp[pairTrees])];refine Qa (wpAny_standAt ?_);unfold subDict;refine Qa (Qa (wpAny_alloc (Qa (Q7 ?_))));rw[Qw (by simp[pairTrees])];refine Qa (pairTrees_cons_walk (thn (hk pins _ U _ _ I1 (q _ hn)) λu s1 ⟨x,H1,I2,rx,q1⟩=>thn (hv pins s1 U H1 _ I2 q1) λw2 s2 ⟨y,H2,I3,ry,e,b,kk,ex,tb,q2⟩=>pairTrees_nil_walk ?_));subst ex;obtain rfl:u=.ref b:=rx;obtain⟨z,hd,xs,rel,dd⟩:=sV I3.hok e;cases rel;refine Q7 ?_;rw[xE];dsimp only;refine Qa (Qa (Qa (wpAny_dictSet_heap (knd:=be X.prog X.w) (show X.A.units+1<cLine by omega) (c8 I3.hok tb) dd λh' dd' hs=>Qf ?_)));dsimp only;rw[xL];refine Qf (Qf (Qf (Qf ⟨.ref s.heap.objs.size,_,?_,rfl,q2⟩)));obtain⟨q,es,ep,hq,h2,h3,h4,_,h5⟩:=dd';refine iN I3 (by rw[e];exact True.intro) hs ⟨q,hq⟩ ⟨QK (by simp) (show 1<=sizeLine by decide),hd,[(kk,b,w2)],.cons ⟨rfl,tb.keeps λc ys ec=>?_,ry⟩ .nil,q,es,ep,hq,h2,h3,h4,h5⟩;rw[ag (sL ec e (λz=>nomatch z))];exact ec
end
end L2
namespace Ht
open PySem PySem.SetTable
def itn {α:Type} (f:α->α):Nat->α->α
 | 0,x=>x
 | n+1,x=>itn f n (f x)
theorem cK {α:Type} (f:α->α):∀(m n:Nat) (x:α),itn f (m+n) x=itn f n (itn f m x)
 | 0,n,x=>by rw[Nat.zero_add];rfl
 | m+1,n,x=>by rw[Nat.succ_add];exact cK f m n (f x)
def Msk (m:Nat):Prop:=m=7\/m=31\/m=127
def lp (m i:Nat):Nat:=(i*5+1+0) % (m+1)
variable {m s e j i k:Nat}
theorem vX (hm:Msk m):(∀e,e<m+1->∃d,d<m+1/\itn (lp m) d 0=e)/\itn (lp m) (m+1) 0=0:=by
 rcases hm with rfl|rfl|rfl <;> exact⟨by decide +kernel,by decide +kernel⟩
theorem cyc (hm:Msk m) (hs:s<m+1) (he:e<m+1):∃d,d<m+1/\itn (lp m) d s=e:=by
 obtain⟨all,z⟩:=vX hm;obtain⟨a,ha,rfl⟩:=all s hs;obtain⟨b,hb,rfl⟩:=all e he;by_cases c:a<=b
 ·exact⟨b-a,by omega,by rw[<-cK];congr 1;omega⟩
 refine⟨b+(m+1)-a,by omega,?_⟩;rw[<-cK,show a+(b+(m+1)-a)=(m+1)+b by omega,cK,z]
def lps (m:Nat) (x:Nat × Nat):Nat × Nat:=leap m x.1 x.2
theorem lU (m:Nat):∀n x,(itn (lps m) n x).2=x.2 / 32 ^ n
 | 0,x=>by simp[itn]
 | n+1,x=>by
  show (itn (lps m) n (lps m x)).2=_;rw[lU m n];show x.2 / 32 / 32 ^ n=_;rw[Nat.div_div_eq_div_mul,Nat.pow_succ,Nat.mul_comm]
theorem jI (m:Nat):∀n i,itn (lps m) n (i,0)=(itn (lp m) n i,0)
 | 0,i=>rfl
 | n+1,i=>by
  show itn (lps m) n (lps m (i,0))=_;rw[show lps m (i,0)=(lp m i,0) by simp[lps,leap,lp]];exact jI m n (lp m i)
theorem pM {m:Nat}:∀n x,x.1<m+1->(itn (lps m) n x).1<m+1
 | 0,x,h=>h
 | n+1,x,h=>pM n (lps m x) (Nat.mod_lt _ (Nat.succ_pos _))
theorem sW {x:Nat × Nat} (hm:Msk m) (h1:x.1<m+1) (h2:x.2<2 ^ 64) (he:e<m+1):∃n,n<m+14/\(itn (lps m) n x).1=e:=by
 have z:(itn (lps m) 13 x).2=0:=by rw[lU];exact Nat.div_eq_of_lt (Nat.lt_trans h2 (by decide))
 have l:=pM (m:=m) 13 x h1;obtain⟨d,hd,ed⟩:=cyc hm l he;refine⟨13+d,by omega,?_⟩;rw[cK,show itn (lps m) 13 x=((itn (lps m) 13 x).1,0) from by rw[<-z],jI];exact ed
def adv (m:Nat) (p:Probe):Probe:=if p.more>0 then { p with j:=p.j+1,more:=p.more-1 } else let (i,perturb):=leap m p.i p.perturb;{ p with j:=i,more:=runEnd m i-i,i,perturb }
def beg (m:Nat) (x:Nat × Nat):Probe:={ j:=x.1,more:=runEnd m x.1-x.1,i:=x.1,perturb:=x.2,dummy:=none }
theorem ox (t:SetTable) (h:Int):t.probeStart h=beg t.mask (bits h % (t.mask+1),bits h):=rfl
theorem tH (m i:Nat):runEnd m i-i<=9:=by unfold runEnd;split <;> omega
theorem iW (m:Nat):∀(k:Nat) (p:Probe),p.more=k->p.dummy=none->itn (adv m) (k+1) p=beg m (lps m (p.i,p.perturb))
 | 0,p,h,hd=>by
  show adv m p=_;unfold adv;rw[Qq (by omega)];obtain⟨j,more,i,pe,d⟩:=p;dsimp only at hd;subst hd;rfl
 | k+1,p,h,hd=>by
  have e:adv m p={ p with j:=p.j+1,more:=p.more-1 }:=Qw (by omega);show itn (adv m) (k+1) (adv m p)=_;rw[e];exact iW m k { p with j:=p.j+1,more:=p.more-1 } (by show p.more-1=k;omega) hd
theorem gR (m:Nat):∀(n:Nat) (x:Nat × Nat),∃c,c<=10*n/\itn (adv m) c (beg m x)=beg m (itn (lps m) n x)
 | 0,x=>⟨0,Qi _,rfl⟩
 | n+1,x=>by
  obtain⟨c,hc,e⟩:=gR m n (lps m x);have r:=tH m x.1;refine⟨(beg m x).more+1+c,by show runEnd m x.1-x.1+1+c<=_;omega,?_⟩;rw[cK,iW m _ (beg m x) rfl rfl];exact e
def Emp (m:Nat) (L:Nat->Prop):Nat->Probe->Prop
 | 0,p=>¬L p.j
 | n+1,p=>L p.j/\Emp m L n (adv m p)
theorem qk {m:Nat} {L:Nat->Prop}:∀(n:Nat) (p:Probe),¬L (itn (adv m) n p).j->∃k,k<=n/\Emp m L k p
 | 0,p,h=>⟨0,Qi _,h⟩
 | n+1,p,h=>by
  by_cases c:L p.j
  ·obtain⟨k,hk,e⟩:=qk n (adv m p) h;exact⟨k+1,by omega,c,e⟩
  exact⟨0,QT _,c⟩
theorem nM {L:Nat->Prop} (hm:Msk m) (h:Int) (he:e<m+1) (ne:¬L e):∃n,n<10*turns m/\Emp m L n (beg m (bits h % (m+1),bits h)):=by
 have hb:bits h<2 ^ 64:=by
  unfold bits;have h1:0<=h % (2 ^ 64:Int):=Int.emod_nonneg _ (by decide);have h2:h % (2 ^ 64:Int)<2 ^ 64:=Int.emod_lt_of_pos _ (by decide);omega
 obtain⟨n,hn,ee⟩:=sW (x:=(bits h % (m+1),bits h)) hm (Nat.mod_lt _ (Nat.succ_pos _)) hb he;obtain⟨c,hc,ec⟩:=gR m n (bits h % (m+1),bits h);obtain⟨k,hk,em⟩:=qk (m:=m) (L:=L) c (beg m (bits h % (m+1),bits h)) (by rw[ec];show ¬L (itn (lps m) n _).1;rw[ee];exact ne);exact⟨k,by unfold turns;omega,em⟩
inductive Rch (m:Nat) (L:Nat->Prop):Probe->Nat->Prop
 | here (p:Probe):Rch m L p p.j
 | step {p:Probe} {j:Nat}:L p.j->Rch m L (adv m p) j->Rch m L p j
theorem Rch.mono {L L':Nat->Prop} (f:∀j,L j->L' j) {p:Probe} (h:Rch m L p j):Rch m L' p j:=by
 induction h with
 | here p=>exact .here p
 | step a _ ih=>exact .step (f _ a) ih
theorem Emp.rch {L:Nat->Prop}:∀{n:Nat} {p:Probe},Emp m L n p->Rch m L p (itn (adv m) n p).j/\¬L (itn (adv m) n p).j
 | 0,p,h=>⟨.here p,h⟩
 | n+1,p,h=>⟨.step h.1 (Emp.rch h.2).1,(Emp.rch h.2).2⟩
def iX (l:List Nat):Prop:=l.Pairwise (·<·)
variable {l js:List Nat}
theorem iX.lt (r:iX l) (h:i<k) (hk:k<l.length):l[i]<l[k]:=List.pairwise_iff_getElem.mp r i k (by omega) hk h
theorem k3 {xs:Array Nat} {j:Nat} (r:iX xs.toList):∀(f lo hi:Nat),lo<=hi->hi<=xs.size->hi-lo<=f->(∀i (h:i<xs.toList.length),i<lo->xs.toList[i]<j)->(∀i (h:i<xs.toList.length),hi<=i->j<=xs.toList[i]) ->
  below.go xs j f lo hi<=xs.size/\(∀i (h:i<xs.toList.length),i<below.go xs j f lo hi->xs.toList[i]<j)/\∀i (h:i<xs.toList.length),below.go xs j f lo hi<=i->j<=xs.toList[i]
 | 0,lo,hi,h1,h2,h3,a,b=>by
  obtain rfl:lo=hi:=by omega
  exact⟨h2,a,b⟩
 | f+1,lo,hi,h1,h2,h3,a,b=>by
  unfold below.go;by_cases c:lo<hi
  ·rw[Qw c];have hz:xs.toList.length=xs.size:=Qj;have hm:(lo+hi) / 2<xs.toList.length:=by omega
   have e:xs.getD ((lo+hi) / 2) j=xs.toList[(lo+hi) / 2]:=by
    have:(lo+hi) / 2<xs.size:=by omega
    simp[Array.getD,this]
   dsimp only;rw[e];by_cases d:xs.toList[(lo+hi) / 2]<j
   ·rw[Qw d];refine k3 r f _ hi (by omega) h2 (by omega) (λi h hx=>?_) b;by_cases z:i=(lo+hi) / 2
    ·subst z;exact d
    exact Nat.lt_trans (r.lt (show i<(lo+hi) / 2 by omega) hm) d
   rw[Qq d];refine k3 r f lo _ (by omega) (by omega) (by omega) a λi h hx=>?_;by_cases z:i=(lo+hi) / 2
   ·subst z;omega
   have:=r.lt (show (lo+hi) / 2<i by omega) h;omega
  rw[Qq c];obtain rfl:lo=hi:=by omega
  exact⟨h2,a,b⟩
theorem bel {xs:Array Nat} (j:Nat) (r:iX xs.toList):below xs j<=xs.size/\(∀i (h:i<xs.toList.length),i<below xs j->xs.toList[i]<j)/\∀i (h:i<xs.toList.length),below xs j<=i->j<=xs.toList[i] :=
 k3 r _ 0 xs.size (QT _) (Qi _) (by omega) (λi _ h=>absurd h (Nat.not_lt_zero _)) (λi h1 h2=>absurd h1 (by rw[Qj];omega))
theorem eC {t:SetTable} (r:iX t.place.toList) (h:t.place.toList[i]?=some j):t.slot j=.live i:=by
 obtain⟨b1,b2,b3⟩:=bel j r;obtain⟨hi,e⟩:=Qe.mp h
 have eb:below t.place j=i:=by
  by_cases c:i<below t.place j
  ·have:=b2 i hi c;omega
  by_cases d:below t.place j<i
  ·have h1:=b3 (below t.place j) (by omega) (Qi _);have h2:=r.lt d hi;omega
  omega
 unfold slot;dsimp only;rw[eb,<-Q0,h];simp
theorem ko {t:SetTable} (hd:t.dummies=#[]) (h:j∉t.place.toList):t.slot j=.empty:=by
 unfold slot;dsimp only
 have n1:(t.place[below t.place j]?==some j)=false:=by
  cases c:t.place[below t.place j]? with
  | none=>rfl
  | some k =>
  have:k∈t.place.toList:=Ql (by rw[Q0];exact c);have:k≠j:=λz=>h (z▸this);simpa using this
 rw[n1,hd];simp[has]
theorem jQ {α:Type} (xs:Array α) (p:Nat) (x:α) (h:p<=xs.size):(insertAt xs p x).toList=xs.toList.take p++x::xs.toList.drop p:=by
 unfold insertAt;rw[Array.toList_append,Array.toList_push,Array.toList_extract,Array.toList_extract];simp only[List.extract_eq_take_drop,List.drop_zero,Nat.sub_zero,List.append_assoc,List.singleton_append];congr 2;exact Q8 (by rw[xR,Qj];exact Qi _)
structure Tb (t:SetTable) (hs:List Int):Prop where
 msk:Msk t.mask
 dum:t.dummies=#[]
 len:t.place.toList.length=hs.length
 up:iX t.place.toList
 bd:∀j∈t.place.toList,j<t.mask+1
 rch:∀q∈t.place.toList.zip hs,Rch t.mask (·∈t.place.toList) (t.probeStart q.2) q.1
variable {hs:List Int}
theorem Tb.fits {t:SetTable} (b:Tb t hs) (h:hs.length<=t.mask):t.fits hs.length=true:=by
 have:=b.len;rw[Qj]at this;simp[SetTable.fits,fill,b.dum,this,h]
theorem mh {m:Nat} (nd:l.Nodup) (h:l.length<m+1):∃e,e<m+1/\e∉l:=by
 by_cases c:∃e,e<m+1/\e∉l
 ·exact c
 exfalso
 have all:∀e,e∈List.range (m+1)->e∈l:=λe he=>by
  by_cases d:e∈l
  ·exact d
  exact absurd ⟨e,xD.mp he,d⟩ c
 have le:∀(as bs:List Nat),as.Nodup->(∀x∈as,x∈bs)->as.length<=bs.length:=by
  intro as
  induction as with
  | nil=>intro bs _ _;exact QT _
  | cons a as ih =>
  intro bs nd h;have ha:=h a (by simp);have:=ih (bs.erase a) (QN.mp nd).2 λx hx=>(List.mem_erase_of_ne λe:x=a=>(QN.mp nd).1 (e▸hx)).mpr (h x (Qp _ hx));rw[List.length_erase_of_mem ha]at this;have:=List.length_pos_of_mem ha;simp only[xr];omega
 have:=le _ l List.nodup_range all;rw[List.length_range]at this;omega
theorem iX.nodup (r:iX l):l.Nodup:=r.imp λh=>QG h
theorem Tb.put {t:SetTable} {h:Int} (b:Tb t hs) (hj:j<t.mask+1) (nj:j∉t.place.toList) (r:Rch t.mask (·∈t.place.toList) (t.probeStart h) j) :
  ∃p,p=(t.put j).2/\p<=hs.length/\(t.put j).1.mask=t.mask/\(t.put j).1.led=t.led/\(t.put j).1.plain=t.plain/\Tb (t.put j).1 (hs.take p++h::hs.drop p):=by
 obtain⟨b1,b2,b3⟩:=bel j b.up;have lz:t.place.size=hs.length:=by rw[<-Qj];exact b.len
 have nh:has t.dummies j=false:=by rw[b.dum];simp[has]
 refine⟨below t.place j,rfl,by omega,rfl,rfl,rfl,?_⟩;have pl:(t.put j).1.place.toList=t.place.toList.take (below t.place j)++j::t.place.toList.drop (below t.place j):=jQ _ _ _ b1
 have mem:∀x,x∈(t.put j).1.place.toList↔x=j\/x∈t.place.toList:=λx=>by
  rw[pl,Qx,Qg]
  conv=>rhs;rw[<-List.take_append_drop (below t.place j) t.place.toList,Qx]
  constructor
  ·rintro(h|h|h)
   ·exact .inr (.inl h)
   ·exact .inl h
   exact .inr (.inr h)
  rintro(h|h|h)
  ·exact .inr (.inl h)
  ·exact .inl h
  exact .inr (.inr h)
 have bl:=b.len;refine⟨b.msk,?_,?_,?_,λx hx=>?_,λq hq=>?_⟩
 ·show (if has t.dummies j=true then _ else t.dummies)=#[];rw[Qq (by rw[nh];simp)];exact b.dum
 ·rw[pl];simp only[Qh,xr,Q3,xR];omega
 ·rw[pl];refine List.pairwise_append.mpr ⟨b.up.sublist (List.take_sublist _ _),List.pairwise_cons.mpr ⟨λx hx=>?_,b.up.sublist (List.drop_sublist _ _)⟩,λx hx y hy=>?_⟩
  ·obtain⟨i,hi,e⟩:=QS hx;rw[List.getElem_drop]at e;rw[xR]at hi;have:=b3 (below t.place j+i) (by omega) (by omega);have ne:x≠j:=λz=>nj (z▸List.mem_of_mem_drop hx);omega
  obtain⟨i,hi,e⟩:=QS hx;rw[List.getElem_take]at e;rw[Q3]at hi;have h1:=b2 i (by omega) (by omega);rcases Qg.mp hy with rfl|hy
  ·omega
  obtain⟨k,hk,e2⟩:=QS hy;rw[List.getElem_drop]at e2;rw[xR]at hk;have:=b3 (below t.place j+k) (by omega) (by omega);omega
 ·rcases(mem x).mp hx with rfl|hx
  ·exact hj
  exact b.bd x hx
 have up:∀x,x∈t.place.toList->x∈(t.put j).1.place.toList:=λx hx=>(mem x).mpr (.inr hx);rw[pl,List.zip_append (by rw[Q3,Q3];omega),List.zip_cons_cons,Qx,Qg]at hq
 have old:∀q,q∈(t.place.toList.take (below t.place j)).zip (hs.take (below t.place j))\/q∈(t.place.toList.drop (below t.place j)).zip (hs.drop (below t.place j))->q∈t.place.toList.zip hs:=λq hq=>by
  rw[<-List.take_append_drop (below t.place j) t.place.toList,<-List.take_append_drop (below t.place j) hs,List.zip_append (by rw[Q3,Q3];omega),Qx];simpa using hq
 rcases hq with hq|rfl|hq
 ·exact(b.rch q (old q (.inl hq))).mono up
 ·exact r.mono up
 exact(b.rch q (old q (.inr hq))).mono up
theorem kw (h:i<m+1):i<=runEnd m i/\runEnd m i<m+1:=by unfold runEnd;split <;> omega
theorem j5 {p:Probe} (h:p.more>0):adv m p={ p with j:=p.j+1,more:=p.more-1 }:=Qw h
theorem oK {m:Nat} {L:Nat->Prop}:∀(k:Nat) (p:Probe),k<=p.more->(∀d,d<k->L (p.j+d))->Rch m L p (p.j+k)
 | 0,p,_,_=>.here p
 | k+1,p,h,a=>by
  refine .step (a 0 (by omega)) ?_;rw[j5 (by omega),show p.j+(k+1)=p.j+1+k by omega];exact oK k { p with j:=p.j+1,more:=p.more-1 } (by show k<=p.more-1;omega) λd hd=>by have:=a (d+1) (by omega);rw[show p.j+(d+1)=p.j+1+d by omega]at this;exact this
theorem oM {m j:Nat} {L:Nat->Prop}:∀(k:Nat) (p:Probe),p.more=k->p.dummy=none->(∀d,d<=k->L (p.j+d))->Rch m L (beg m (lps m (p.i,p.perturb))) j->Rch m L p j
 | 0,p,h,hd,a,r=>by
  refine .step (a 0 (Qi _)) ?_;have:=iW m 0 p h hd;rw[show itn (adv m) (0+1) p=adv m p from rfl]at this;rw[this];exact r
 | k+1,p,h,hd,a,r=>by
  refine .step (a 0 (QT _)) ?_;rw[j5 (by omega)];exact oM k { p with j:=p.j+1,more:=p.more-1 } (by show p.more-1=k;omega) hd (λd hd=>by have:=a (d+1) (by omega);rw[show p.j+(d+1)=p.j+1+d by omega]at this;exact this) r
def Ln (m:Nat) (owner:Array (Option Nat)) (j:Nat):Prop:=j<m+1/\owner.getD j none≠none
theorem sT {m e:Nat} {owner:Array (Option Nat)} (ho:owner.size=m+1) (he:e<m+1) (ee:owner.getD e none=none):∀(f i per:Nat),i<m+1->(∃n,n<f/\(itn (lps m) n (i,per)).1=e) ->
  ∃j,layClean.free m owner f i per=some j/\j<m+1/\owner.getD j none=none/\Rch m (Ln m owner) (beg m (i,per)) j
 | 0,i,per,hi,⟨n,hn,_⟩=>absurd hn (Nat.not_lt_zero _)
 | f+1,i,per,hi,⟨n,hn,en⟩=>by
  obtain⟨r1,r2⟩:=kw hi
  have gd:∀j,j<m+1->owner.getD j (some 0)=owner.getD j none:=λj hj=>by
   have:j<owner.size:=by omega
   simp[Array.getD,this]
  unfold layClean.free
  cases c:(List.range (runEnd m i+1-i)).find? λk=>(owner.getD (i+k) (some 0)).isNone with
  | some k =>
   obtain⟨h1,as,bs,h2,h3⟩:=List.find?_eq_some_iff_append.mp c;have hk:k∈List.range (runEnd m i+1-i):=List.mem_of_find?_eq_some c;rw[xD]at hk;have kl:i+k<m+1:=by omega
   rw[gd _ kl]at h1;refine⟨i+k,rfl,kl,by simpa using h1,?_⟩;refine oK (m:=m) (L:=Ln m owner) k (beg m (i,per)) (by show k<=runEnd m i-i;omega) λd hd=>?_;have hd2:i+d<m+1:=by omega
   refine⟨hd2,λz=>?_⟩;have z:owner.getD (i+d) none=none:=z
   have mem:d∈as:=by
    have e1:d∈as++k::bs:=by rw[<-h2,xD];omega
    rcases Qx.mp e1 with q|q
    ·exact q
    exfalso;have sr:(as++k::bs).Pairwise (·<·):=by rw[<-h2];exact List.pairwise_lt_range
    have:=(List.pairwise_cons.mp (List.pairwise_append.mp sr).2.1).1;rcases Qg.mp q with rfl|q
    ·omega
    have:=this d q;omega
   have:=h3 d mem;rw[gd _ hd2,z]at this;simp at this
  | none =>
  have all:∀d,d<=runEnd m i-i->Ln m owner (i+d):=λd hd=>by
   have hd2:i+d<m+1:=by omega
   refine⟨hd2,λz=>?_⟩;have:=List.find?_eq_none.mp c d (xD.mpr (by omega));rw[gd _ hd2,z]at this;simp at this
  cases n with
  | zero=>exact absurd ee (by have:=all 0 (QT _);rw[show e=i+0 from en.symm];exact this.2)
  | succ n =>
  obtain⟨j,q1,q2,q3,q4⟩:=sT ho he ee f (lps m (i,per)).1 (lps m (i,per)).2 (Nat.mod_lt _ (Nat.succ_pos _)) ⟨n,by omega,en⟩;exact⟨j,q1,q2,q3,oM _ (beg m (i,per)) rfl rfl all q4⟩
structure Lay (m:Nat) (owner:Array (Option Nat)) (js:List Nat) (hs:List Int):Prop where
 sz:owner.size=m+1
 len:js.length=hs.length
 nd:js.Nodup
 bd:∀j∈js,j<m+1
 own:∀j i,j<m+1->(owner.getD j none=some i↔js[i]?=some j)
 rch:∀q∈js.zip hs,Rch m (·∈js) (beg m (bits q.2 % (m+1),bits q.2)) q.1
theorem rS (h:Int):bits h<2 ^ 64:=by
 unfold bits;have h1:0<=h % (2 ^ 64:Int):=Int.emod_nonneg _ (by decide);have h2:h % (2 ^ 64:Int)<2 ^ 64:=Int.emod_lt_of_pos _ (by decide);omega
theorem Lay.more {owner:Array (Option Nat)} (hm:Msk m) (l:Lay m owner js hs) (h:Int) (fw:hs.length<m+1) :
  ∃j,layClean.free m owner (turns m) (bits h % (m+1)) (bits h)=some j/\Lay m (owner.setIfInBounds j (some hs.length)) (js++[j]) (hs++[h]):=by
 obtain⟨e,he,ne⟩:=mh l.nd (by rw[l.len];exact fw)
 have none_of:∀j,j<m+1->j∉js->owner.getD j none=none:=λj hj nj=>by
  cases c:owner.getD j none with
  | none=>rfl
  | some i=>exact absurd (Ql ((l.own j i hj).mp c)) nj
 obtain⟨n,hn,en⟩:=sW (x:=(bits h % (m+1),bits h)) hm (Nat.mod_lt _ (Nat.succ_pos _)) (rS h) he;obtain⟨j,f1,f2,f3,f4⟩:=sT l.sz he (none_of e he ne) (turns m) (bits h % (m+1)) (bits h) (Nat.mod_lt _ (Nat.succ_pos _)) ⟨n,by unfold turns;omega,en⟩
 have mem_of:∀j,Ln m owner j->j∈js:=λj ⟨a,b⟩=>by
  cases c:owner.getD j none with
  | none=>exact absurd c b
  | some i=>exact Ql ((l.own j i a).mp c)
 have nj:j∉js:=λz=>by
  obtain⟨i,hi,e⟩:=QS z;rw[(l.own j i f2).mpr (by rw[Qb hi,e])]at f3;cases f3
 have up:∀x,x∈js->x∈js++[j]:=λx hx=>xu _ hx;refine⟨j,f1,by simp[l.sz],by simp[l.len],?_,λx hx=>?_,λx i hx=>?_,λq hq=>?_⟩
 ·exact List.nodup_append.mpr ⟨l.nd,by simp,λa ha b hb e=>nj (by simp at hb;rw[<-hb,<-e];exact ha)⟩
 ·rcases Qx.mp hx with hx|hx
  ·exact l.bd x hx
  simp at hx;rw[hx];exact f2
 ·have hj:j<owner.size:=by rw[l.sz];exact f2
  have gd:(owner.setIfInBounds j (some hs.length)).getD x none=if j=x then some hs.length else owner.getD x none:=by
   rw[xz,Array.getElem?_setIfInBounds];by_cases c:j=x
   ·subst c;simp[hj]
   rw[Qq c,Qq c,xz]
  rw[gd];by_cases c:j=x
  ·subst c;rw[Qw rfl]
   constructor
   ·intro z;cases z;rw[<-l.len,QJ (Qi _)];simp
   intro z;by_cases d:i<js.length
   ·rw[QI d]at z;exact absurd (Ql z) nj
   have:=(Qe.mp z).1;rw[Qh,Qs]at this;rw[show i=js.length by omega,l.len]
  rw[Qq c,l.own x i hx];by_cases d:i<js.length
  ·rw[QI d]
  rw[Q6 (by omega),QJ (by omega)]
  constructor
  ·intro z;cases z
  intro z;have:=Ql z;simp at this;exact absurd this.symm c
 rw[List.zip_append l.len,Qx]at hq;rcases hq with hq|hq
 ·exact(l.rch q hq).mono up
 simp at hq;subst hq;exact(f4.mono mem_of).mono up
theorem jL {m:Nat} (hm:Msk m):∀(more hs:List Int) (owner:Array (Option Nat)) (js:List Nat),Lay m owner js hs->hs.length+more.length<=m+1 ->
  ∃owner' js',more.foldl (λ(acc:Option (Array (Option Nat) × Nat)) h=>do
   let (owner,k) <-acc;let j <-layClean.free m owner (turns m) (bits h % (m+1)) (bits h)
   pure (owner.setIfInBounds j (some k),k+1)) (some (owner,hs.length))=some (owner',(hs++more).length)/\Lay m owner' js' (hs++more)
 | [],hs,owner,js,l,_=>⟨owner,js,by simp,by simpa using l⟩
 | h::more,hs,owner,js,l,z=>by
  rw[xr]at z;obtain⟨j,e,l'⟩:=l.more hm h (by omega);obtain⟨o',js',e2,l2⟩:=jL hm more (hs++[h]) _ _ l' (by simp;omega);refine⟨o',js',?_,by simpa using l2⟩;rw[List.foldl_cons]
  have st:(do
    let (owner,k) <-some (owner,hs.length);let j <-layClean.free m owner (turns m) (bits h % (m+1)) (bits h)
    pure (owner.setIfInBounds j (some k),k+1):Option (Array (Option Nat) × Nat))=some (owner.setIfInBounds j (some hs.length),(hs++[h]).length):=by
   show (layClean.free m owner (turns m) (bits h % (m+1)) (bits h)).bind _=_;rw[e];simp
  rw[st,e2];simp
theorem nu (hm:Msk m) (hs:Array Int) (fw:hs.size<=m+1):∃owner js,layClean m hs=some owner/\Lay m owner js hs.toList:=by
 have l0:Lay m (Array.replicate (m+1) none) [] []:=⟨by simp,rfl,List.nodup_nil,λj h=>(nomatch h),λj i hj=>by simp[Array.getD,hj],λq hq=>(nomatch hq)⟩;obtain⟨o,js,e,l⟩:=jL hm hs.toList [] _ _ l0 (by simpa using fw);refine⟨o,js,?_,by simpa using l⟩;unfold layClean;rw[<-Array.foldl_toList];have e':=congrArg (Option.map (·.1)) e;exact e'
theorem pI {α:Type} [DecidableEq α]:∀(as bs:List α),as.Nodup->(∀x∈as,x∈bs)->as.length<=bs.length
 | [],_,_,_=>QT _
 | a::as,bs,nd,h=>by
  have ha:=h a (by simp);have:=pI as (bs.erase a) (QN.mp nd).2 λx hx=>(List.mem_erase_of_ne λe:x=a=>(QN.mp nd).1 (e▸hx)).mpr (h x (Qp _ hx));rw[List.length_erase_of_mem ha]at this;have:=List.length_pos_of_mem ha;simp only[xr];omega
theorem lT {α:Type} [DecidableEq α]:∀(as bs:List α),as.Nodup->(∀x∈as,x∈bs)->bs.length<=as.length->as.Perm bs
 | [],bs,_,_,h=>by
  obtain rfl:bs=[]:=List.length_eq_zero_iff.mp (by simpa using h);exact .nil
 | a::as,bs,nd,h,z=>by
  obtain⟨n1,n2⟩:=QN.mp nd;have ha:=h a (by simp);have q:=lT as (bs.erase a) n2 (λx hx=>(List.mem_erase_of_ne λ(e:x=a)=>n1 (e▸hx)).mpr (h x (Qp _ hx))) (by rw[List.length_erase_of_mem ha];simp at z;omega);exact(q.cons a).trans (List.perm_cons_erase ha).symm
theorem u_ {α:Type} [DecidableEq α] {as bs:List α} (n1:as.Nodup) (n2:bs.Nodup) (h:∀x,x∈as↔x∈bs):as.Perm bs:=lT as bs n1 (λx=>(h x).mp) (pI bs as n2 λx=>(h x).mpr)
theorem vj {α:Type} (hm:Msk m) (es:Array (Int × α)) (fw:es.size<=m+1) (finger moves:Nat) (led plain:Bool):∃t order,laid m finger moves led plain (es.map (·.1))=some (t,order)/\t.mask=m/\t.led=led/\t.plain=plain /\
  (order.filterMap (es[·]?)).toList.Perm es.toList/\Tb t ((order.filterMap (es[·]?)).toList.map (·.1)):=by
 obtain⟨owner,js,e,l⟩:=nu hm (es.map (·.1)) (by simpa using fw);rw[Array.toList_map]at l;have ll:js.length=es.size:=by have:=l.len;rwa [Qc,Qj]at this
 let live:=(List.range (m+1)).filterMap λj=>(owner.getD j none).map (j,·)
 have mem:∀j i,(j,i)∈live↔j<m+1/\js[i]?=some j:=λj i=>by
  show (j,i)∈(List.range (m+1)).filterMap _↔_;rw[List.mem_filterMap]
  constructor
  ·rintro⟨x,hx,z⟩;obtain⟨y,hy,z⟩:=xh.mp z;cases z;have hx:=xD.mp hx;exact⟨hx,(l.own j i hx).mp hy⟩
  rintro⟨h1,h2⟩;exact⟨j,xD.mpr h1,by rw[(l.own j i h1).mpr h2];rfl⟩
 have f1:live.map (·.1)=(List.range (m+1)).filter λj=>(owner.getD j none).isSome:=by
  show ((List.range (m+1)).filterMap _).map _=_;generalize List.range (m+1)=r
  induction r with
  | nil=>rfl
  | cons x r ih =>
  cases c:owner.getD x none with
  | none=>rw[List.filterMap_cons_none (by rw[c];rfl),ih,List.filter_cons_of_neg (by rw[c];simp)]
  | some i=>rw[List.filterMap_cons_some (by rw[c];rfl),Qu,ih,List.filter_cons_of_pos (by rw[c];rfl)]
 have up:iX (live.map (·.1)):=by rw[f1];exact List.pairwise_lt_range.sublist List.filter_sublist
 have ms:∀j,j∈live.map (·.1)↔j∈js:=λj=>by
  rw[Qo]
  constructor
  ·rintro⟨⟨x,i⟩,h,rfl⟩;exact Ql ((mem x i).mp h).2
  intro h;obtain⟨i,hi,ei⟩:=QS h;exact⟨(j,i),(mem j i).mpr ⟨l.bd j h,by rw[Qb hi,ei]⟩,rfl⟩
 have inj:∀q∈live,∀r∈live,q.2=r.2->q=r:=λ⟨j,i⟩ hq ⟨j',i'⟩ hr z=>by
  cases z;have h1:=((mem j i).mp hq).2;have h2:=((mem j' i).mp hr).2;rw[h1]at h2;cases h2;rfl
 have ndl:live.Nodup:=by
  have:(live.map (·.1)).Nodup:=up.nodup;rw[List.nodup_iff_pairwise_ne,xb]at this;exact List.nodup_iff_pairwise_ne.mpr (this.imp λh z=>h (by rw[z]))
 have nd2:(live.map (·.2)).Nodup:=by
  rw[List.nodup_iff_pairwise_ne]at ndl ⊢;rw[xb];exact ndl.imp_of_mem λha hb ne z=>ne (inj _ ha _ hb z)
 have pr:(live.map (·.2)).Perm (List.range es.size):=u_ nd2 List.nodup_range λi=>by
  rw[Qo,xD]
  constructor
  ·rintro⟨⟨j,k⟩,h,rfl⟩;have:=(Qe.mp ((mem j k).mp h).2).1;show k<_;omega
  intro h;have hi:i<js.length:=by omega
  exact⟨(js[i],i),(mem _ _).mpr ⟨l.bd _ (xG hi),Qb hi⟩,rfl⟩
 refine⟨{ mask:=m,place:=(live.map (·.1)).toArray,dummies:=#[],finger,led,moves,plain },(live.map (·.2)).toArray,?_,rfl,rfl,rfl,?_,?_⟩
 ·unfold laid;rw[e];rfl
 ·rw[Array.toList_filterMap];refine(pr.filterMap _).trans (.of_eq ?_);refine List.ext_getElem? λi=>?_
  have:∀n k,n<=es.size->((List.range n).filterMap (es[·]?))[k]?=if k<n then es[k]? else none:=by
   intro n
   induction n with
   | zero=>intro k _;simp
   | succ n ih =>
   intro k hn
   have ln:((List.range n).filterMap (es[·]?)).length=n:=by
    have h1:=ih n (by omega);rw[Qq (xV _)]at h1;have h1:=List.getElem?_eq_none_iff.mp h1;by_cases c:n=0
    ·subst c;rfl
    have h2:=ih (n-1) (by omega);rw[Qw (by omega),QF (show n-1<es.size by omega)]at h2;have:=(Qe.mp h2).1;omega
   rw[List.range_succ,List.filterMap_append,List.filterMap_cons_some (QF (show n<es.size by omega)),List.filterMap_nil];by_cases c:k<n
   ·rw[QI (by omega),ih k (by omega),Qw c,Qw (by omega)]
   rw[QJ (by omega),ln];by_cases d:k=n
   ·subst d;simp <;> omega
   rw[Qq (by omega),Q6 (by simp;omega)]
  rw[this _ _ (Qi _),Q0]
  split
  ·rfl
  rename_i h;rw[Array.getElem?_eq_none (by omega)]
 have fm:((live.map (·.2)).toArray.filterMap (es[·]?)).toList.map (·.1)=live.map λq=>(es.toList.map (·.1)).getD q.2 0:=by
  rw[Array.toList_filterMap];show ((live.map (·.2)).filterMap (es[·]?)).map (·.1)=_
  have all:∀q∈live,q.2<es.size:=λ⟨j,k⟩ h=>by
   have:=(Qe.mp ((mem j k).mp h).2).1;show k<_;omega
  generalize live=lv at all
  induction lv with
  | nil=>rfl
  | cons q lv ih =>
  have hq:=all q (by simp);rw[Qu,List.filterMap_cons_some (QF hq),Qu,Qu,ih λr hr=>all r (Qp _ hr)];congr 1;rw[QU,QE,Q0,QF hq];rfl
 rw[fm];refine⟨hm,rfl,by simp,by simpa using up,λj hj=>?_,λq hq=>?_⟩
 ·have hj:j∈live.map (·.1):=by simpa using hj
  exact l.bd j ((ms j).mp hj)
 have hq:q∈(live.map (·.1)).zip (live.map λq=>(es.toList.map (·.1)).getD q.2 0):=by simpa using hq
 rw[List.zip_map',Qo]at hq;obtain⟨⟨j,i⟩,h1,rfl⟩:=hq;obtain⟨h2,h3⟩:=(mem j i).mp h1;have hi:=(Qe.mp h3).1
 have z:(j,(es.toList.map (·.1)).getD i 0)∈js.zip (es.toList.map (·.1)):=by
  have hz:i<(es.toList.map (·.1)).length:=by rw[<-l.len];exact hi
  refine Ql (i:=i) ?_;rw[List.getElem?_zip_eq_some];exact⟨h3,by rw[QU,Qb hz];rfl⟩
 refine(l.rch _ z).mono λx hx=>?_;have:=(ms x).mpr hx;simpa using this
end Ht
namespace Ht
open PySem PySem.Spec PyProof.Rows L2 PySem.SetTable
section
variable {prog:Program} {w:World} {A:Around} {E:A0} {s:Shared}
theorem gH {α:Type} {P:α->Prop} {Q:Option Bool × PUnit->Shared->Prop} {f:α->Option Bool × PUnit->Sem (ForInStep (Option Bool × PUnit))} (l:List α) (hl:∀x∈l,P x)
  (hf:∀x,P x->∀(R:ForInStep (Option Bool × PUnit)->Shared->Prop),R (.yield (none,⟨⟩)) s->wpAny (model prog w) A (f x (none,⟨⟩)) R E s) (h:Q (none,⟨⟩) s):wpAny (model prog w) A (forIn l (none,⟨⟩) f) Q E s:=by
 refine wpAny_forIn_list _ (λrest r s'=>r=(none,⟨⟩)/\s'=s/\∀x∈rest,P x) _ ?_ ?_ _ _ ⟨rfl,rfl,hl⟩
 ·rintro x rest r s' ⟨rfl,rfl,a⟩;exact hf x (a x (by simp)) _ ⟨rfl,rfl,λy hy=>a y (Qp _ hy)⟩
 rintro r s' ⟨rfl,rfl,_⟩;exact h
variable {v:Value}
theorem rD {k:Key} (h:(ax prog w).is k v=true):(∃i t,v=.int i t)\/∃x t,v=.str x t:=by
 rcases aJ (show cV k v=true from h) with⟨i,t,_,e⟩|⟨x,t,_,e⟩
 ·exact .inl ⟨i,t,e⟩
 exact .inr ⟨x,t,e⟩
variable {vs:List Value}
theorem rH {ks:List Key} (h:ItemsAre (ax prog w) ks vs):∀v∈vs,∃k,(ax prog w).is k v=true:=by
 induction h with
 | nil=>intro v hv;cases hv
 | cons q _ ih =>
 intro v hv;rcases Qg.mp hv with rfl|hv
 ·exact⟨_,q⟩
 exact ih v hv
theorem pX {h:Heap} {ks:av} (x:TK.Its (ax prog w) h ks vs):∀v∈vs,∃k,TK.It (ax prog w) h k v:=by
 induction x with
 | nil=>intro v hv;cases hv
 | cons q _ ih =>
 intro v hv;rcases Qg.mp hv with rfl|hv
 ·exact⟨_,q⟩
 exact ih v hv
variable {Q:Bool->Shared->Prop}
theorem gy {k:Key} {d:Nat} (hk:(ax prog w).is k v=true) (h:Q false s):wpAny (model prog w) A (ofAClassStatement d v) Q E s:=by
 rcases rD hk with⟨i,t,rfl⟩|⟨x,t,rfl⟩ <;> (unfold ofAClassStatement;exact Qf h)
variable {b:Addr}
theorem gz {o:Obj} {its:Array Value} {n d:Nat} {P:Value->Prop} (ho:s.heap.get? b=some o) (hc:o.cls=.type "tuple") (hd:o.data=.seq its n) (hp:∀v∈its.toList,P v)
  (hf:∀v,P v->∀(R:Bool->Shared->Prop),R false s->wpAny (model prog w) A (ofAClassStatement d v) R E s) (h:Q false s):wpAny (model prog w) A (ofAClassStatement (d+1) (.ref b)) Q E s:=by
 unfold ofAClassStatement;refine Qa (wpAny_typeOf (T := "tuple") ⟨o,ho,hc⟩ ?_);dsimp only;rw[Qw (by decide)];refine Qa (Qf ?_);rw[Qq (by decide)];unfold seqItems?;refine Qa (Qa (wpAny_load ho ?_));rw[hd];refine Qf ?_;dsimp only;refine Qa ?_;rw[<-Array.forIn_toList];refine gH its.toList hp (λv hv R hR=>Qa (hf v hv _ ?_)) ?_
 ·rw[Qq Qn];exact Qf hR
 exact Qf h
theorem lQ {k:av} (hk:TK.IsT (ax prog w) s.heap k b) (h:Q false s):wpAny (model prog w) A (ofAClassStatement 8 (.ref b)) Q E s:=by
 obtain⟨o,its,n,h1,h2,h3,h4⟩:=hk;refine gz (d:=7) h1 h2 h3 (pX h4) (λv ⟨k,hv⟩ R hR=>?_) h
 cases k with
 | inl k=>exact gy hv hR
 | inr ks =>
 obtain⟨c,rfl,o,its,n,h1,h2,h3,h4⟩:=hv;exact gz (d:=6) h1 h2 h3 (rH h4) (λv ⟨k,hv⟩ R hR=>gy hv hR) hR
def uw:Key->Bool
 | .inl _=>true
 | .inr _=>false
def byV2:Key ⊕ List Key->Bool
 | .inl k=>uw k
 | .inr ks=>ks.all uw
theorem sX {k:Key} {d:Nat} (hk:(ax prog w).is k v=true) (h:Q (uw k) s):wpAny (model prog w) A (hashByValue d v) Q E s:=by
 rcases aJ (show cV k v=true from hk) with⟨i,t,rfl,rfl⟩|⟨x,t,rfl,rfl⟩ <;> (unfold hashByValue;exact Qf h)
theorem sY {α:Type} {o:Obj} {its:Array Value} {n d:Nat} {P:α->Value->Prop} {g:α->Bool} {xs:List α} (ho:s.heap.get? b=some o) (hc:o.cls=.type "tuple") (hd:o.data=.seq its n) (hp:Paired P xs its.toList)
  (hf:∀x v,P x v->∀(R:Bool->Shared->Prop),R (g x) s->wpAny (model prog w) A (hashByValue d v) R E s) (h:Q (xs.all g) s):wpAny (model prog w) A (hashByValue (d+1) (.ref b)) Q E s:=by
 unfold hashByValue;refine Qa (wpAny_specialOf (T := "tuple") ⟨o,ho,hc⟩ F.slot_tuple_hash.lookup ?_);dsimp only;unfold seqItems?;refine Qa (Qa (wpAny_load ho ?_));rw[hd];refine Qf ?_;refine Qa ?_;rw[Option.getD_some,<-Array.forIn_toList];refine wpAny_forIn_list _ (λrest r s'=>r.1=none/\s'=s/\∃ys,Paired P ys rest/\xs.all g=ys.all g) _ ?_ ?_ _ _ ⟨rfl,rfl,xs,hp,rfl⟩
 ·rintro x rest r s' ⟨_,rfl,ys,a,e⟩
  cases a with
  | @cons y _ ys _ q t =>
  refine Qa (hf y x q _ ?_);rw[List.all_cons]at e
  cases c:g y with
  | true=>rw[c,Bool.true_and]at e;exact Qf ⟨rfl,rfl,ys,t,e⟩
  | false=>rw[c,Bool.false_and]at e;rw[e]at h;exact Qf (Qf h)
 rintro⟨r1,r2⟩ s' ⟨hr,rfl,ys,a,e⟩;dsimp only at hr;subst hr;cases a;rw[e]at h;exact Qf h
theorem ue {ks:List Key} (h:ItemsAre (ax prog w) ks vs):Paired (λk v=>(ax prog w).is k v=true) ks vs:=by
 induction h with
 | nil=>exact .nil
 | cons q _ ih=>exact .cons q ih
theorem rG {h:Heap} {ks:av} (x:TK.Its (ax prog w) h ks vs):Paired (TK.It (ax prog w) h) ks vs:=by
 induction x with
 | nil=>exact .nil
 | cons q _ ih=>exact .cons q ih
theorem byv {k:av} (hk:TK.IsT (ax prog w) s.heap k b) (h:Q (k.all byV2) s):wpAny (model prog w) A (hashByValue 8 (.ref b)) Q E s:=by
 obtain⟨o,its,n,h1,h2,h3,h4⟩:=hk;refine sY (d:=7) h1 h2 h3 (rG h4) (λk v hv R hR=>?_) h
 cases k with
 | inl k=>exact sX hv hR
 | inr ks =>
 obtain⟨c,rfl,o,its,n,h1,h2,h3,h4⟩:=hv;exact sY (d:=6) h1 h2 h3 (ue h4) (λk v hv R hR=>sX hv hR) hR
end
theorem sS {t:SetTable} {hs:List Int} {f:Nat->Int} {h:Int} (b:Tb t hs):∀(n:Nat) (p:Probe) (fu:Nat),Emp t.mask (·∈t.place.toList) n p->n<fu->p.dummy=none ->
  (probe.go t f h fu p=some (.empty (itn (adv t.mask) n p).j none)/\∀d,d<n->∀i,t.place.toList[i]?=some (itn (adv t.mask) d p).j->f i≠h) \/
  ∃d i,d<n/\t.place.toList[i]?=some (itn (adv t.mask) d p).j/\f i=h/\probe.go t f h fu p=some (.candidate (itn (adv t.mask) d p).j i (itn (adv t.mask) (d+1) p))/\Emp t.mask (·∈t.place.toList) (n-(d+1)) (itn (adv t.mask) (d+1) p) /\
   (itn (adv t.mask) (d+1) p).dummy=none/\∀d',d'<d->∀i',t.place.toList[i']?=some (itn (adv t.mask) d' p).j->f i'≠h
 | 0,p,fu+1,e,_,hd=>by
  refine .inl ⟨?_,λd hd=>absurd hd (Nat.not_lt_zero _)⟩;unfold probe.go;rw[ko b.dum e];show some (Met.empty p.j p.dummy)=_;rw[hd];rfl
 | n+1,p,fu+1,e,hn,hd=>by
  obtain⟨i,hi,ei⟩:=QS e.1;have ei:t.place.toList[i]?=some p.j:=by rw[Qb hi,ei]
  have hd':(adv t.mask p).dummy=none:=by unfold adv;split <;> exact hd
  by_cases c:f i=h
  ·refine .inr ⟨0,i,by omega,ei,c,?_,e.2,hd',λd' hd=>absurd hd (Nat.not_lt_zero _)⟩;unfold probe.go;rw[eC b.up ei];dsimp only;rw[Qw (by simpa using c)];rfl
  have st:probe.go t f h (fu+1) p=probe.go t f h fu (adv t.mask p):=by
   conv=>lhs;unfold probe.go
   rw[eC b.up ei];dsimp only;rw[Qq (by simpa using c)];rfl
  have one:∀i',t.place.toList[i']?=some p.j->i'=i:=λi' z=>by
   have:=(List.getElem?_inj hi b.up.nodup).mp (ei.trans z.symm);exact this.symm
  rcases sS b n (adv t.mask p) fu e.2 (by omega) hd' with⟨g1,g2⟩|⟨d,i2,g1,g2,g3,g4,g5,g6,g7⟩
  ·refine .inl ⟨by rw[st];exact g1,λd hd=>?_⟩
   cases d with
   | zero=>intro i' z;rw[one i' z];exact c
   | succ d=>exact g2 d (by omega)
  refine .inr ⟨d+1,i2,by omega,g2,g3,by rw[st];exact g4,by rw[show n+1-(d+1+1)=n-(d+1) by omega];exact g5,g6,λd' hd=>?_⟩
  cases d' with
  | zero=>intro i' z;rw[one i' z];exact c
  | succ d'=>exact g7 d' (by omega)
section
variable {prog:Program} {w:World}
def El (prog:Program) (w:World) (B:Addr->Prop) (h:Heap) (e:Int × Value) (k:av):Prop:=∃b,e.2=.ref b/\TK.IsT (ax prog w) h k b/\e.1=(be prog w).hash k/\B b
abbrev qS (es:Array (Int × Value)) (ep:Nat) (t:SetTable):Obj:={ cls:=.type "set", data:=.set es ep t }
theorem El.at {B:Addr->Prop} {h h':Heap} {a:Addr} {o:Obj} {e:Int × Value} {k:av} (x:El prog w B h e k) (ho:h.get? a=some o) (hc:o.cls≠.type "tuple") (sb:∀b o,b≠a->h.get? b=some o->h'.get? b=some o):El prog w B h' e k:=by
 obtain⟨b,e1,e2,e3⟩:=x;exact⟨b,e1,Tm.bO e2 λc oc hc' hcl=>sb c oc (λz=>by rw[z,ho]at hc';cases hc';exact hc hcl) hc',e3⟩
theorem d9 {B:Addr->Prop} {h:Heap}:∀{es:List (Int × Value)} {ks:List av} {i:Nat},Paired (El prog w B h) es ks->∀{e},es[i]?=some e->∃k,ks[i]?=some k/\El prog w B h e k
 | _,_,_,.nil,_,e=>by simp at e
 | _,_,0,.cons r _,_,e=>by simp at e;subst e;exact⟨_,rfl,r⟩
 | _,_,i+1,.cons _ t,_,e=>by obtain⟨k,h1,h2⟩:=d9 (i:=i) t (by simpa using e);exact⟨k,by simpa using h1,h2⟩
variable {A:Around} {E:A0} {s:Shared} {a b:Addr} {es:Array (Int × Value)} {ep:Nat} {t:SetTable} {ks:List av} {kx:av}
theorem s_ {l:List Value} {Q:Bool->Shared->Prop} (hx:TK.IsT (ax prog w) s.heap kx b) (hl:∀v∈l,∃c k,v=.ref c/\TK.IsT (ax prog w) s.heap k c) (h:Q false s):wpAny (model prog w) A (searchCouldBeSeen (.ref b) l) Q E s:=by
 unfold searchCouldBeSeen;refine Qa (gH l hl (λv ⟨c,k,e,hv⟩ R hR=>?_) (Qf h));subst e;dsimp only;refine wpAny_ite_split (λ_=>Qf hR) λ_=>?_;refine Qa (TK.t_quiet hx ?_);rw[Qq (by simp)];refine Qa (TK.t_quiet hv ?_);rw[Qq (by simp)];refine Qa (lQ hx ?_);rw[Qq Qn];refine Qa (lQ hv ?_);rw[Qq Qn];exact Qf hR
end
section
variable {prog:Program} {w:World} {A:Around} {E:A0} {s:Shared} {a b:Addr} {es:Array (Int × Value)} {ep:Nat} {t:SetTable} {ks:List av} {kx:av} {B:Addr->Prop}
theorem rm {m:Nat} (h:Msk m):m % 2=1:=by rcases h with rfl|rfl|rfl <;> rfl
theorem tF (hu:A.units+1<cLine) (ho:s.heap.get? a=some (qS es ep t)) (b0:Tb t (es.toList.map (·.1))) (fw:es.size<=t.mask) (el:Paired (El prog w B s.heap) es.toList ks) (hx:TK.IsT (ax prog w) s.heap kx b) {Q:SetFound->Shared->Prop} :
  ∀(n:Nat) (p:Probe) (fu:Nat) (st:Option Probe),st.getD (t.probeStart ((be prog w).hash kx))=p->Emp t.mask (·∈t.place.toList) n p->n<fu->n<10*turns t.mask->p.dummy=none ->
   ((∃d i:Nat,d<n/\t.place.toList[i]?=some (itn (adv t.mask) d p).j/\ks[i]?=some kx)/\Q (.there none) s\/kx∉ks/\Q (.free (itn (adv t.mask) n p).j false) s) ->
   wpAny (model prog w) A (setSearchFrom a (.ref b) ((be prog w).hash kx) true fu st) Q E s:=by
 have hf:t.fits es.size=true:=by have:=b0.fits (by rw[Qc,Qj];exact fw);rwa [Qc,Qj]at this
 have pz:t.place.toList.length=es.toList.length:=by rw[b0.len,Qc]
 have gw:t.gaveWay=false:=by have:=rm b0.msk;simp[gaveWay,this]
 intro n
 induction n using Nat.strongRecOn with
 | _ n ih =>
 intro p fu st est e hn hn2 hd q;obtain⟨fu,rfl⟩:∃f,fu=f+1:=⟨fu-1,by omega⟩;unfold setSearchFrom;refine Qa (xx ho rfl hf ?_);dsimp only;rw[gw,est];rw[Qq Qn];have go:=sS (f:=λi=>(es[i]?.map (·.1)).getD 0) (h:=(be prog w).hash kx) b0 n p (10*turns t.mask) e hn2 hd
 have at_:∀(i:Nat) (k:av),ks[i]?=some k->∃(e:Int × Value) (c:Addr),es[i]?=some e/\e.2=.ref c/\TK.IsT (ax prog w) s.heap k c/\(es[i]?.map (·.1)).getD 0=(be prog w).hash k:=λi k hk=>by
  have hi:i<es.toList.length:=by rw[xi el];exact(Qe.mp hk).1
  obtain⟨k',h1,c,h2,h3,h4⟩:=d9 el (Qb hi);rw[hk]at h1;cases h1;rw[Qj]at hi;exact⟨es[i],c,QF hi,h2,h3,by rw[QF hi];exact h4.1⟩
 split
 ·rename_i met hmet
  have hmet:probe.go t (λi=>(es[i]?.map (·.1)).getD 0) ((be prog w).hash kx) (10*turns t.mask) p=some met:=hmet;rcases go with⟨g1,g2⟩|⟨d,i,g1,g2,g3,g4,g5,g6,g7⟩
  ·rw[g1]at hmet;cases hmet;rcases q with⟨⟨d,i,h1,h2,h3⟩,_⟩|⟨_,q⟩
   ·obtain⟨_,_,_,_,_,z⟩:=at_ i kx h3;exact absurd z (g2 d h1 i h2)
   exact Qf q
  rw[g4]at hmet;cases hmet;have hi:i<es.size:=by have:=(Qe.mp g2).1;rw[<-Qj];omega
  obtain⟨k,hk,c,hc,hic,hh⟩:=d9 el (i:=i) (e:=es[i]) (by rw[Q0];exact QF hi)
  have all:∀v∈List.map (λx:Int × Value=>x.2) (Array.filter (λx=>x.1==(be prog w).hash kx) es).toList,∃c k,v=.ref c/\TK.IsT (ax prog w) s.heap k c:=λv hv=>by
   obtain⟨e,he,rfl⟩:=Qo.mp hv;rw[Array.toList_filter]at he;obtain⟨j,hj⟩:=List.getElem?_of_mem (List.mem_filter.mp he).1;obtain⟨k,_,c,h1,h2,_⟩:=d9 el hj;exact⟨c,k,h1,h2⟩
  have same:t.sameMemory t.moves t.mask=some true:=by simp[sameMemory]
  refine wpAny_ite_split (λ_=>Qa (s_ hx all ?_)) (λ_=>?_)
  all_goals try rw[Qq Qn]
  all_goals
   rw[QF hi];have ee:es[i]=(es[i].1,.ref c):=by rw[<-hc]
   rw[ee];dsimp only;refine Qa (Q7 (TK.t_eq (iz prog w) hu hic hx ?_));refine Qa (xx ho rfl hf ?_);dsimp only;by_cases ck:k=kx
   ·subst ck;rw[QA rfl,Qw (show (true&&true)=true from rfl)];rcases q with⟨_,q⟩|⟨q,_⟩
    ·exact Qf q
    exact absurd (Ql hk) q
   rw[Qy ck,Qq (by simp),same];dsimp only;rw[Qw rfl,eC b0.up g2];dsimp only;rw[QF hi,ee];dsimp only;refine Qa (wpAny_isSame_ref_self (Qa (Qf ?_)));rw[Qw rfl];dsimp only;rw[Qq Qn];refine ih (n-(d+1)) (by omega) (itn (adv t.mask) (d+1) p) fu (some (itn (adv t.mask) (d+1) p)) rfl g5 (by omega) (by omega) g6 ?_;rcases q with⟨⟨d2,i2,h1,h2,h3⟩,q⟩|⟨q1,q2⟩
   ·refine .inl ⟨⟨d2-(d+1),i2,?_,?_,h3⟩,q⟩
    all_goals
     have:d<d2:=by
      rcases Nat.lt_trichotomy d2 d with z|z|z
      ·obtain⟨_,_,_,_,_,y⟩:=at_ i2 kx h3;exact absurd y (g7 d2 z i2 h2)
      ·subst z;have hi2:i2<t.place.toList.length:=(Qe.mp h2).1;have:=(List.getElem?_inj hi2 b0.up.nodup).mp (h2.trans g2.symm);subst this;rw[hk]at h3;exact absurd (QH h3) ck
      exact z
    ·omega
    rw[<-cK,show d+1+(d2-(d+1))=d2 by omega];exact h2
   refine .inr ⟨q1,?_⟩;rw[<-cK,show d+1+(n-(d+1))=n by omega];exact q2
 rename_i hmet
 have hmet:probe.go t (λi=>(es[i]?.map (·.1)).getD 0) ((be prog w).hash kx) (10*turns t.mask) p=none:=by
  cases c:probe.go t (λi=>(es[i]?.map (·.1)).getD 0) ((be prog w).hash kx) (10*turns t.mask) p with
  | none=>rfl
  | some m=>exact absurd c (hmet m)
 rcases go with⟨g1,_⟩|⟨d,i,_,_,_,g4,_⟩
 ·rw[g1]at hmet;cases hmet
 rw[g4]at hmet;cases hmet
end
theorem uQ {m n j:Nat} {L:Nat->Prop} {p:Probe} (r:Rch m L p j) (hj:L j) (e:Emp m L n p):∃d,d<n/\(itn (adv m) d p).j=j:=by
 induction r generalizing n with
 | here p =>
  cases n with
  | zero=>exact absurd hj e
  | succ n=>exact⟨0,by omega,rfl⟩
 | step a _ ih =>
 cases n with
 | zero=>exact absurd a e
 | succ n=>obtain⟨d,h1,h2⟩:=ih hj e.2;exact⟨d+1,by omega,h2⟩
theorem qF {m:Nat}:∀(n:Nat) (p:Probe),p.j+p.more<m+1->(itn (adv m) n p).j<m+1
 | 0,p,h=>by show p.j<_;omega
 | n+1,p,h=>by
  refine qF n (adv m p) ?_;unfold adv
  split
  ·show p.j+1+(p.more-1)<_;omega
  have l:(leap m p.i p.perturb).1<m+1:=Nat.mod_lt _ (Nat.succ_pos _);have:=kw l;show (leap m p.i p.perturb).1+(runEnd m (leap m p.i p.perturb).1-(leap m p.i p.perturb).1)<_;omega
theorem paired_perm {α β:Type} {R:α->β->Prop} {as as':List α} (p:as'.Perm as):∀{bs:List β},Paired R as bs->∃bs',Paired R as' bs'/\bs'.Perm bs:=by
 induction p with
 | nil=>intro bs h;exact⟨bs,h,.refl _⟩
 | cons x _ ih=>intro bs h;cases h with
  | cons q t=>obtain⟨bs',h1,h2⟩:=ih t;exact⟨_::bs',.cons q h1,h2.cons _⟩
 | swap x y l=>intro bs h;cases h with
  | cons q t=>cases t with
   | cons q2 t2=>exact⟨_::_::_,.cons q2 (.cons q t2),.swap _ _ _⟩
 | trans _ _ ih1 ih2=>intro bs h;obtain⟨b2,h1,h2⟩:=ih2 h;obtain⟨b3,h3,h4⟩:=ih1 h1;exact⟨b3,h3,h4.trans h2⟩
theorem fL {α β:Type} {R:α->β->Prop} {x:α} {y:β} (q:R x y):∀(p:Nat) {as:List α} {bs:List β},Paired R as bs->Paired R (as.take p++x::as.drop p) (bs.take p++y::bs.drop p)
 | 0,_,_,h=>by simpa using Paired.cons q h
 | p+1,_,_,.nil=>.cons q .nil
 | p+1,_,_,.cons r t=>.cons r (fL q p t)
section
variable {prog:Program} {w:World}
def SetK (prog:Program) (w:World) (B:Addr->Prop) (h:Heap) (a:Addr) (ks:List av):Prop:=∃(es:Array (Int × Value)) (ep:Nat) (t:SetTable) (ks':List av),h.get? a=some (qS es ep t)/\Paired (El prog w B h) es.toList ks'/\ks'.Perm ks/\ks.Nodup/\Tb t (es.toList.map (·.1))/\es.size*5<t.mask*3/\LS.Led w t es.size
variable {A:Around} {E:A0} {s:Shared} {a b:Addr} {ks:List av} {k:av} {B:Addr->Prop}
theorem SetK.new {h:Heap} (g:h.get? a=some (LS.bare !(w.params.followText "set-order"))):SetK prog w B h a [] :=
 ⟨#[],0,_,[],g,.nil,.refl _,List.nodup_nil,⟨.inl rfl,rfl,rfl,List.Pairwise.nil,fun j h=>(nomatch h),fun q h=>(nomatch h)⟩,show 0*5<7*3 by decide,by
  unfold LS.Led
  cases e:w.params.followText "set-order" with
  | true=>exact .inl rfl
  | false=>exact .inr ⟨rfl,λz=>absurd rfl z⟩⟩
theorem vI {Q:Bool->Shared->Prop} (hu:A.units+1<cLine) (S:SetK prog w B s.heap a ks) (hk:TK.IsT (ax prog w) s.heap k b) (tx:k.all byV2=false) (hB:B b) (fw:ks.length<76)
  (h:∀h' c ks2,Heap.SameBut a s.heap h'->SetK prog w B h' a ks2->ks2.length<=ks.length+1->(∀x,x∈ks2↔x∈ks\/x=k)->Q c { s with heap:=h' }):wpAny (model prog w) A (setAddHashed a (.ref b) ((be prog w).hash k)) Q E s:=by
 obtain⟨es,ep,t,ks',ho,el,pk,nd,b0,fe,ld⟩:=S;have lk:es.size=ks.length:=by rw[<-Qj,xi el,pk.length_eq]
 have m7:7<=t.mask:=by rcases b0.msk with e|e|e <;> omega
 have fl:es.size<=t.mask:=by omega
 have hf:t.fits es.size=true:=by have:=b0.fits (by rw[Qc,Qj];exact fl);rwa [Qc,Qj]at this
 have pz:t.place.toList.length=es.toList.length:=by rw[b0.len,Qc]
 obtain⟨e0,he0,ne0⟩:=mh (m:=t.mask) b0.up.nodup (by rw[pz,Qj];omega);obtain⟨n,hn,em⟩:=nM (L:=(·∈t.place.toList)) b0.msk ((be prog w).hash k) he0 ne0;have t127:t.mask<=127:=by rcases b0.msk with e|e|e <;> omega
 unfold setAddHashed setAddHashedIn;refine Q7 (Qa (xx ho rfl hf ?_));dsimp only;rw[Qq (show ¬(byScan (.ref b) es=true) by simp[byScan,Value.scannable])];unfold setSearch;refine Qa (tF hu ho b0 fl el hk n (beg t.mask (bits ((be prog w).hash k) % (t.mask+1),bits ((be prog w).hash k))) 100000 none rfl em (by unfold turns at hn;omega) hn rfl ?_);by_cases c:k∈ks
 ·refine .inl ⟨?_,Qf (h s.heap false ks (Heap.SameBut.refl a s.heap) ⟨es,ep,t,ks',ho,el,pk,nd,b0,fe,ld⟩ (Nat.le_succ _) λx=>⟨.inl,λz=>z.elim id λe=>e▸c⟩)⟩;obtain⟨i,hi,ei⟩:=QS (pk.mem_iff.mpr c);have ei:ks'[i]?=some k:=by rw[Qb hi,ei]
  have hi2:i<es.toList.length:=by rw[xi el];exact hi
  have hi3:i<t.place.toList.length:=by omega
  obtain⟨k2,h1,_,_,_,h4,_⟩:=d9 el (Qb hi2);rw[ei]at h1;cases h1
  have r:=b0.rch (t.place.toList[i],es.toList[i].1) (Ql (i:=i) (by
   rw[List.getElem?_zip_eq_some]
   exact⟨Qb hi3,by rw[QE,Qb hi2];rfl⟩))
  dsimp only at r;rw[h4]at r;obtain⟨d,d1,d2⟩:=uQ r (xG hi3) em;exact⟨d,i,d1,by rw[ox]at d2;rw[Qb hi3];exact congrArg some d2.symm,ei⟩
 refine .inr ⟨λz=>c (pk.mem_iff.mp z),?_⟩;obtain⟨r,nl⟩:=em.rch
 have jb:(itn (adv t.mask) n (beg t.mask (bits ((be prog w).hash k) % (t.mask+1),bits ((be prog w).hash k)))).j<t.mask+1:=qF n _ (by
  have l:bits ((be prog w).hash k) % (t.mask+1)<t.mask+1:=Nat.mod_lt _ (Nat.succ_pos _);have:=kw l;show bits ((be prog w).hash k) % (t.mask+1)+(runEnd t.mask (bits ((be prog w).hash k) % (t.mask+1))-bits ((be prog w).hash k) % (t.mask+1))<_
  omega)
 generalize (itn (adv t.mask) n (beg t.mask (bits ((be prog w).hash k) % (t.mask+1),bits ((be prog w).hash k)))).j=j at *;dsimp only;refine Qa (xx ho rfl hf ?_);dsimp only;obtain⟨p,ep',p1,p2,p3,p4,b1⟩:=b0.put jb nl r;rw[<-ep'];generalize (t.put j).1=t1 at *;have lp:es.size=(es.toList.map (·.1)).length:=by simp
 rw[<-lp]at p1;have il:=jQ es p ((be prog w).hash k,Value.ref b) p1;generalize insertAt es p ((be prog w).hash k,Value.ref b)=es1 at *;have ih1:es1.toList.map (·.1)=(es.toList.map (·.1)).take p++(be prog w).hash k::(es.toList.map (·.1)).drop p:=by rw[il,xC,Qu,List.map_take,List.map_drop]
 rw[<-ih1]at b1;have z1:es1.size=es.size+1:=by rw[<-Qj,il];simp only[Qh,xr,Q3,xR,Qj];omega
 have el1:Paired (El prog w B s.heap) es1.toList (ks'.take p++k::ks'.drop p):=by rw[il];exact fL ⟨b,rfl,hk,rfl,hB⟩ p el
 have pk1:(ks'.take p++k::ks'.drop p).Perm (ks++[k]):=by
  refine List.perm_middle.trans ?_;rw[List.take_append_drop];exact(pk.cons k).trans (List.perm_append_singleton k ks).symm
 have nd1:(ks++[k]).Nodup:=List.nodup_append.mpr ⟨nd,by simp,λx hx y hy e=>c (by simp at hy;rw[<-hy,<-e];exact hx)⟩;have mm:∀x,x∈ks++[k]↔x∈ks\/x=k:=λx=>by simp
 have fin:∀t2:SetTable,t2.mask=t.mask->Tb t2 (es1.toList.map (·.1))->LS.Led w t2 es1.size ->
   wpAny (model prog w) A (storeSet a es1 t2 >>= λ_=>if (!false&&t2.tooFull)=true then setRelay a (grown (es.size+1)) >>= λ_=>pure true else pure true) Q E s:=λt2 em b2 ld2=>by
  have fill2:t2.fill=es1.size:=by unfold SetTable.fill;have:=b2.len;rw[Qj,Qc,Qj]at this;rw[this,b2.dum];rfl
  refine Qa (wpAny_storeSet_of ho rfl ?_ (by rw[xK];omega));have g1:(s.heap.update a (Obj.putSet es1 t2)).get? a=some (qS es1 (ep+1) t2):=Q5 (Obj.putSet es1 t2) ho rfl;have sb1:=Q4 s.heap a (Obj.putSet es1 t2);have elA:∀{h':Heap} {l:List (Int × Value)} {ks3:List av},Heap.SameBut a s.heap h'->Paired (El prog w B s.heap) l ks3->Paired (El prog w B h') l ks3:=λsb x=>Paired.mapT x λe k q=>q.at ho (λz=>absurd (Value.type.inj z) (by decide)) λb o hb e=>(sb.2 b hb).trans e;by_cases tf:t2.tooFull=true
  ·rw[tf,Qw (show (!false&&true)=true from rfl)];unfold tooFull at tf;rw[fill2,em]at tf;have tf:t.mask*3<=es1.size*5:=xv tf
   obtain⟨m',hm',es',fw'⟩:∃m',Msk m'/\sizeAbove (grown (es.size+1))=m'+1/\es1.size*5<m'*3:=by
    rcases b0.msk with e|e|e
    ·have:es.size=4:=by omega
     rw[this];exact⟨31,.inr (.inl rfl),by decide +kernel,by omega⟩
    ·have:es.size=18:=by omega
     rw[this];exact⟨127,.inr (.inr rfl),by decide +kernel,by omega⟩
    omega
   have hf2:t2.fits es1.size=true:=by have:=b2.fits (by rw[Qc,Qj];omega);rwa [Qc,Qj]at this
   obtain⟨t3,order,l1,l2,l3,l4,l5,l6⟩:=vj hm' es1 (by omega) t2.finger (t2.movedTo m') t2.led t2.plain
   have rl:t2.relaid (es1.map (·.1)) (grown (es.size+1))=some (t3,order):=by
    unfold relaid;rw[es',Nat.add_sub_cancel];exact l1
   have z3:(order.filterMap (es1[·]?)).size=es1.size:=by rw[<-Qj,l5.length_eq,Qj]
   unfold setRelay;refine Qa (Qa (xx (s:={ s with heap:=s.heap.update a (Obj.putSet es1 t2) }) g1 rfl hf2 ?_));dsimp only;have m127:m'<=127:=by rcases hm' with e|e|e <;> omega
   rw[Qq (show ¬sizeAbove (grown (es.size+1))>sizeLine by rw[es',xK];omega),rl];have nz:((order.filterMap (es1[·]?)).size != es1.size)=false:=by rw[z3];simp
   generalize hS:storeSet=ST
   wp_walk
   subst hS;dsimp only;refine wpAny_storeSet_of (s:={ s with heap:=s.heap.update a (Obj.putSet es1 t2) }) g1 rfl ?_ (by rw[z3,xK];omega);obtain⟨ks4,e4,p4'⟩:=paired_perm l5 el1;have sb2:=sb1.trans (Q4 (s.heap.update a (Obj.putSet es1 t2)) a (Obj.putSet (order.filterMap (es1[·]?)) t3));refine Qf (h _ true (ks++[k]) sb2 ⟨_,ep+1+1,t3,ks4,Q5 (Obj.putSet (order.filterMap (es1[·]?)) t3) g1 rfl,elA sb2 e4,p4'.trans pk1,nd1,l6,by rw[z3,l2];exact fw',?_⟩ (by simp) mm);rw[z3];exact ld2.imp id λz=>⟨l3.trans z.1,λy=>l4.trans (z.2 y)⟩
  rw[Bool.eq_false_iff.mpr tf,Qq (by simp)];refine Qf (h _ true (ks++[k]) sb1 ⟨es1,ep+1,t2,_,g1,elA sb1 el1,pk1,nd1,b2,?_,ld2⟩ (by simp) mm);unfold tooFull at tf;rw[fill2]at tf;have:=of_decide_eq_false (Bool.eq_false_iff.mpr tf);omega
 have tb_off:Tb { t1 with plain:=false } (es1.toList.map (·.1)):=⟨b1.msk,b1.dum,b1.len,b1.up,b1.bd,b1.rch⟩;have led2:∀t2:SetTable,t2.led=t.led->t2.plain=false->LS.Led w t2 es1.size:=λt2 e1 e2=>ld.imp id λz=>⟨e1.trans z.1,λ_=>e2⟩;by_cases pl:t1.plain=true
 ·rw[Qw pl];refine Qa (byv hk ?_);rw[tx];exact fin { t1 with plain:=false } p2 tb_off (led2 _ p3 rfl)
 rw[Qq pl];refine Qa (Qf ?_);exact fin t1 p2 b1 (led2 _ p3 (Bool.eq_false_iff.mpr pl))
end
end Ht
set_option maxHeartbeats 4000000
namespace LG
open PySem PySem.Spec PyProof.Rows LS
section
variable {prog:Program} {w:World} {A:Around} {E:A0} {s:Shared}
theorem call_set_gen {l:Addr} {its:Array Value} {G:Heap->Addr->Prop} {Q:A0} (hh:A.handled=none) (hl:s.heap.IsList l its)
  (loop:∀(I S:Addr) (s0:Shared) (R:Result->Shared->Prop),(∀b o,s.heap.get? b=some o->s0.heap.get? b=some o)->s.heap.objs.size<=S->s.heap.objs.size<=I->l≠I->S∉[I,l]->(s0.heap.IsListIter I l 0/\s0.heap.IsList l its)->s0.heap.get? S=some (bare !(w.params.followText "set-order")) ->
   (∀s',Moved [S,I] (λa b=>b=a) s0 s'->G s'.heap S->R (.ok (.ret .none)) s')->codeAny (model prog w) A.in1.in1 (.builtin "set.update.loop" ⟨[.ref S,.ref I],[]⟩) R s0)
  (h:∀(h1:Heap) (tk:Nat),G h1 s.heap.objs.size->(∀b o,s.heap.get? b=some o->h1.get? b=some o)->Q (.ref s.heap.objs.size) { s with heap:=h1,toks:=tk }) :
  wpAny (model prog w) A (call (.type "set") [.ref l]) Q E s:=by
 obtain⟨cl,tl,mro⟩:=F.called_set.mro;have y1:=F.called_set.made;have y2:=F.called_set.sub;refine wpAny_call (codeAny_of_tree ?_);show wpAny _ _ (callAny (.type "set") ⟨[.ref l],[]⟩) _ _ _;refine Qf ⟨Code.quiet_builtin _ (by decide +kernel),codeAny_builtin F.entry_type_call ?_⟩;rw[Around.under_plain (weight_type_call_type "set" [.ref l] []) rfl];have y3:=F.called_set.notType;have y4:=F.called_set.canCreate;have y5:=F.typeCall_set_1 (.ref l)
 repeat (any_goals (first|assumption|wp_step))
 refine codeAny_mono (qv (.ref l) (E:=E) (Q₁:=λv s1=>∃led:Bool,led=!(w.params.followText "set-order")/\v=.ref s.heap.objs.size/\s1={ s with heap:=s.heap.push (bare led) }) ⟨_,rfl,rfl,rfl⟩) λr s1 hr=>?_
 cases r with
 | error e=>exact hr
 | ok fl =>
 cases fl with
 | ret obj =>
  obtain⟨led,hled,rfl,rfl⟩:=hr;have hS:(s.heap.push (bare led)).get? s.heap.objs.size=some (bare led):=Qt _ rfl;have hT:Shared.TypeIs { s with heap:=s.heap.push (bare led) } (.ref s.heap.objs.size) "set" := ⟨_,hS,rfl⟩;have y6:=F.called_set.init.lookup;have y7:=F.called_set.init.bind (.ref s.heap.objs.size)
  repeat (any_goals (first|assumption|wp_step))
  refine codeAny_mono (codeAny_call_builtin (R:=wants (λv s2=>v=.none/\∃h1 tk,s2={ s with heap:=h1,toks:=tk }/\G h1 s.heap.objs.size/\∀b o,s.heap.get? b=some o->h1.get? b=some o) E) F.called_set.init.plain F.entry_set_init (check_set_init_1 hT ?_)) λr2 s2 hr2=>?_
  ·obtain⟨ol,hol,hcl,nl,hdl⟩:=hl;obtain⟨ocls,odict,odata,oslots⟩:=ol;simp only at hcl hdl;subst hcl;subst hdl;have hol1:(s.heap.push (bare led)).get? l=some { cls:=.type "list", dict:=odict,data:=.seq its nl,slots:=oslots }:=Qd _ hol;have y8:=F.sub_list_set;have y9:=F.sub_list_frozenset;have y0:(Value.type "list" == Value.type "dict")=false:=by decide
   have hl1:(s.heap.push (bare led)).IsList l its:=⟨_,hol1,rfl,nl,rfl⟩;unfold Builtin.«set.__init__» noKeywords Builtin.Frozenset.updateFrom;generalize hPI:pyIter=PI
   wp_walk
   subst hPI;refine wpAny_pyIter_list hl1 ?_;refine Qa (wpAny_runValue ?_);have lS:l<s.heap.objs.size:=Qr hol
   have nI:l≠(s.heap.push (bare led)).objs.size:=by
    rw[xy];exact QG (Nat.lt_succ_of_lt lS)
   have nF:s.heap.objs.size∉[(s.heap.push (bare led)).objs.size,l]:=by
    rw[xy];simp only[Qg,QB,Qm,QQ,not_or];exact⟨QG (Nat.lt_succ_self _),Nat.ne_of_gt lS⟩
   refine loop _ _ _ _ (λb o e=>Qd _ (Qd _ e)) (Qi _) (by rw[xy];exact Nat.le_succ _) nI nF ⟨⟨_,Qt _ rfl,rfl,rfl⟩,(hl1.push _)⟩ ?_ λs3 mv q=>?_
   ·have e:((s.heap.push (bare led)).push { cls:=.type "list_iterator", data:=.fields #[.ref l,.int 0 0] }).get? s.heap.objs.size=some (bare led):=Qd _ hS;rw[e,hled]
   obtain⟨h3,g3,d3,tk3,os3⟩:=s3;obtain rfl:g3=s.gens:=mv.gens;obtain rfl:d3=s.drawn:=mv.drawn;obtain rfl:os3=s.os:=mv.os;show wpAny _ _ _ _ _ _;refine Qf ?_;show wpAny _ _ (ret Value.none) _ _ _;refine Qf ⟨rfl,h3,tk3,rfl,q,λb o e=>?_⟩;have lb:=Qr e;have z1:b≠s.heap.objs.size:=QG lb
   have z2:b≠(s.heap.push (bare led)).objs.size:=by
    rw[xy];exact QG (Nat.lt_succ_of_lt lb)
   exact mv.heap b o (by simp only[Qg,QB,Qm,QQ,not_or];exact⟨z1,z2⟩) (Qd _ (Qd _ e))
  cases r2 with
  | error e=>exact hr2
  | ok fl2 =>
  cases fl2 with
  | ret r =>
   obtain⟨rfl,h1,tk,rfl,q,k⟩:=hr2
   repeat (any_goals (first|assumption|wp_step))
   exact h _ _ q k
  | _=>exact hr2.elim
 | _=>exact hr.elim
end
end LG
set_option maxHeartbeats 400000
namespace LS
open PySem PySem.Spec PyProof.Rows
theorem dQ {α:Type}:∀{l:List α} {i:Nat} (h:i<l.length),(l[i]::l.eraseIdx i).Perm l
 | a::l,0,_=>.refl _
 | a::l,i+1,h=>by
  have hi:i<l.length:=by simpa using h
  have q:=dQ (l:=l) (i:=i) hi;show (l[i]::a::l.eraseIdx i).Perm (a::l);exact(List.Perm.swap _ _ _).trans (q.cons a)
theorem lK {α:Type} (next:Nat->Nat):∀(fuel k:Nat) (left:List α) (out:Array α),left.length=fuel->(pickOrder.go next fuel k left out).toList.Perm (out.toList++left)
 | 0,k,left,out,h=>by
  obtain rfl:left=[]:=List.length_eq_zero_iff.mp h;simp[pickOrder.go]
 | fuel+1,k,left,out,h=>by
  have lt:next k % left.length<left.length:=Nat.mod_lt _ (by omega);have e:left[next k % left.length]?=some left[next k % left.length]:=Qb lt;unfold pickOrder.go;rw[e];refine(lK next fuel (k+1) _ _ (by rw[List.length_eraseIdx_of_lt lt];omega)).trans ?_;rw[Array.toList_push,List.append_assoc];exact List.Perm.append_left _ (dQ lt)
theorem pick_perm {α:Type} (next:Nat->Nat) (xs:Array α):(pickOrder next xs).toList.Perm xs.toList:=by
 have:=lK next xs.size 0 xs.toList #[] (by simp);unfold pickOrder;simpa using this
section
variable {prog:Program} {w:World} {A:Around} {E:A0} {s:Shared} {a it:Addr} {es:Array (Int × Value)} {ep:Nat} {t:SetTable} {i:Nat}
theorem gS {src:Source} {n:Nat} {Q:Nat->Shared->Prop} (hn:n≠0) (h:∀i d,i<n->Q i { s with drawn:=d }):wpAny (model prog w) A (choose src n) Q E s:=λΓ p hΓ=>by
 show Sem.wp (model prog w) Γ (.choose src n .pure) _ _ p s;rw[Sem.wp_choose];refine⟨hn,?_⟩;rw[Sem.wp_pure];exact h _ _ (Nat.mod_lt _ (Nat.pos_of_ne_zero hn))
theorem df {α:Type}:∀(n:Nat) (xs:List α) (s:Shared) (Q:List α->Shared->Prop),xs.length=n->(∀ys d,ys.Perm xs->Q ys { s with drawn:=d })->wpAny (model prog w) A (drawOrder n xs) Q E s
 | 0,xs,s,Q,h,q=>by
  obtain rfl:xs=[]:=List.length_eq_zero_iff.mp h;exact Qf (q [] s.drawn .nil)
 | n+1,[],s,Q,h,q=>by cases h
 | n+1,x::xs,s,Q,h,q=>by
  unfold drawOrder;refine Qa (gS (by simp) λi d hi=>?_);rw[Qb hi];dsimp only;refine Qa (df n _ _ _ (by rw[List.length_eraseIdx_of_lt hi];simp at h ⊢;omega) λys d2 pm=>Qf (q _ d2 ?_));exact(List.Perm.cons _ pm).trans (dQ hi)
variable {Q:Option (Value × Nat)->Shared->Prop}
theorem gA {slot:Nat} (ht:w.params.followText "set-order" = true) (hs:cN s.heap a es ep t) (h:Q (((pickOrder (w.params.setOrder a ep) es)[i]?).map λe=>(e.2,slot)) s):wpAny (model prog w) A (setNext a slot i ep) Q E s:=by
 obtain⟨os,hos,hds,_,hf⟩:=id hs;unfold setNext setsByText;refine Qa (xx hos hds hf ?_);dsimp only;refine Qa (Qa (wpAny_askSetting (Qf ?_)));rw[Qw (show (Setting.params ⟨(model prog w).prog,(model prog w).w.params⟩).followText "set-order" = true from ht),Qq (by simp)];unfold setWalk setsByText;refine Qa (Qa (xx hos hds hf ?_));dsimp only;refine Qa (Qa (wpAny_askSetting (Qf ?_)));rw[Qw (show (Setting.params ⟨(model prog w).prog,(model prog w).w.params⟩).followText "set-order" = true from ht)];refine Qa (wpAny_askSetting (Qf ?_));exact Qf h
theorem jC {slot:Nat} (ht:w.params.followText "set-order" = false) (hs:cN s.heap a es ep t) (h1:es.size<=1) (hl:t.led=true)
  (h:Q (match es[SetTable.below t.place slot]?,t.place[SetTable.below t.place slot]? with|some (_,x),some j=>some (x,j+1)|_,_=>none) s):wpAny (model prog w) A (setNext a slot i ep) Q E s:=by
 obtain⟨os,hos,hds,_,hf⟩:=id hs;unfold setNext setsByText;refine Qa (xx hos hds hf ?_);dsimp only;refine Qa (Qa (wpAny_askSetting (Qf ?_)));rw[Qq (show ¬(Setting.params ⟨(model prog w).prog,(model prog w).w.params⟩).followText "set-order" = true by rw[show (Setting.params ⟨(model prog w).prog,(model prog w).w.params⟩).followText "set-order" = false from ht];exact Qn)];refine wpAny_ite_split (λhab=>?_) λ_=>?_
 ·have hab:(!t.plain&&decide (es.size>1))=true:=hab;simp at hab;omega
 refine Qa ?_;show wpAny _ _ (if (!t.led&&!es.isEmpty)=true then unsupported "set:maker-not-led" else pure ()) _ _ _;rw[Qq (by rw[hl];simp)];exact Qf (Qf h)
theorem ke (hh:A.handled=none) (ht:w.params.followText "set-order" = true) (I:Addr) (ne:a≠I):Walks prog w A I [I,a] [I] es.size (λi v=>∃e,(pickOrder (w.params.setOrder a ep) es).toList[i]?=some e/\v=e.2) (λi h=>dA h I a (.int 0 0) i es.size ep/\cN h a es ep t) where
 sub:=λb hb=>by simp at hb;simp[hb]
 frame:=λ_ _ _ st hk=>⟨st.1.at λo e=>hk I (by simp) o e,st.2.at λo e=>hk a (by simp) o e⟩
 item:=λi s Q E hi st hQ=>by
  have z:(pickOrder (w.params.setOrder a ep) es).size=es.size:=by simpa using(pick_perm (w.params.setOrder a ep) es).length_eq
  obtain⟨e,he⟩:∃e,(pickOrder (w.params.setOrder a ep) es)[i]?=some e:=⟨_,QF (by rw[z];exact hi)⟩;refine gB (slot:=0) (next:=0) (x:=e.2) st.1 st.2 (λQ E q=>gA ht st.2 (by rw[he];exact q)) λh' hit' hs'=>?_;exact hQ _ h' s.toks ⟨e,by rw[Q0];exact he,rfl⟩ ⟨hit',st.2.at λo e=>hs'.extBut a o ne e⟩ λb o hb e=>hs'.extBut b o (λh=>hb (by simp[h])) e
 done:=λs Q E st hQ=>by
  have z:(pickOrder (w.params.setOrder a ep) es).size=es.size:=by simpa using(pick_perm (w.params.setOrder a ep) es).length_eq
  exact gC (slot:=0) hh st.1 st.2 (λQ E q=>gA ht st.2 (by rw[Array.getElem?_eq_none (by rw[z];exact Qi _)];exact q)) λh' he'=>hQ h' s.toks λb o hb e=>he' b o (λh=>hb (by simp[h])) e
 self:=λ_ _ _ _ st hQ=>iJ st.1 hQ
theorem i4 (hh:A.handled=none) (I tp:Addr) (pl:List Nat) (hp:pl.Perm (List.range es.size)) (ne:a≠I) (nt:tp≠I):Walks prog w A I [I,a,tp] [I] es.size (λi v=>∃e,(pl.filterMap λj=>es[j]?)[i]?=some e/\v=e.2)
  (λi h=>dA h I a (.ref tp) i es.size ep/\cN h a es ep t/\h.get? tp=some { cls:=.type "tuple", data:=.seq (pl.map λ(i:Nat)=>rawInt i).toArray }) where
 sub:=λb hb=>by simp at hb;simp[hb]
 frame:=λ_ _ _ st hk=>⟨st.1.at λo e=>hk I (by simp) o e,st.2.1.at λo e=>hk a (by simp) o e,hk tp (by simp) _ st.2.2⟩
 item:=λi s Q E hi st hQ=>by
  have pz:pl.length=es.size:=by simpa using hp.length_eq
  have lt:i<pl.length:=by omega
  have all:∀j∈pl,∃e,es[j]?=some e:=λj hj=>⟨_,QF (by simpa using hp.mem_iff.mp hj)⟩;obtain⟨e,he⟩:=all pl[i] (xG lt)
  have fm:∀(l:List Nat) (i:Nat) (h:i<l.length),(∀j∈l,∃e,es[j]?=some e)->(l.filterMap λj=>es[j]?)[i]?=es[l[i]]?:=by
   intro l
   induction l with
   | nil=>intro i h;simp at h
   | cons x l ih =>
   intro i h al;obtain⟨e,he⟩:=al x Q2;rw[List.filterMap_cons_some he]
   cases i with
   | zero=>rw[List.getElem?_cons_zero];exact he.symm
   | succ i=>rw[List.getElem?_cons_succ];exact ih i (by simpa using h) λj hj=>al j (Qp _ hj)
  refine kW (p:=pl[i]) st.1 st.2.1 st.2.2 (Qb lt) he λh' hit' hs'=>?_;exact hQ _ h' s.toks ⟨e,by rw[fm pl i lt all];exact he,rfl⟩ ⟨hit',st.2.1.at λo e=>hs'.extBut a o ne e,hs'.extBut tp _ nt st.2.2⟩ λb o hb e=>hs'.extBut b o (λh=>hb (by simp[h])) e
 done:=λs Q E st hQ=>by
  have pz:pl.length=es.size:=by simpa using hp.length_eq
  exact kX hh st.1 st.2.1 st.2.2 (Q6 (by omega)) λh' he'=>hQ h' s.toks λb o hb e=>he' b o (λh=>hb (by simp[h])) e
 self:=λ_ _ _ _ st hQ=>iJ st.1 hQ
theorem gP (j k:Nat):SetTable.below #[j] k=if j<k then 1 else 0:=by
 unfold SetTable.below;simp[SetTable.below.go]
theorem mJ (hh:A.handled=none) (ht:w.params.followText "set-order" = false) (h1:es.size<=1) (hl:t.led=true) (I:Addr) (ne:a≠I):Walks prog w A I [I,a] [I] es.size (λi v=>∃e,es.toList[i]?=some e/\v=e.2)
  (λi h=>(∃slot:Nat,dA h I a (.int slot 0) i es.size ep/\(i=0->slot=0)/\(i=1->∃j,t.place=#[j]/\slot=j+1))/\cN h a es ep t) where
 sub:=λb hb=>by simp at hb;simp[hb]
 frame:=λ_ _ _ st hk=>let ⟨⟨sl,x,y⟩,z⟩:=st;⟨⟨sl,x.at λo e=>hk I (by simp) o e,y⟩,z.at λo e=>hk a (by simp) o e⟩
 item:=λi s Q E hi st hQ=>by
  obtain⟨⟨sl,x,y,_⟩,z⟩:=st;obtain rfl:i=0:=by omega
  obtain rfl:=y rfl;have e1:es.size=1:=by omega
  obtain⟨os,hos,hds,_,hf⟩:=id z;have pz:t.place.size=1:=by simp[SetTable.fits]at hf;omega
  obtain⟨j,hj⟩:=Array.size_eq_one_iff.mp pz;obtain⟨e,he⟩:=Array.size_eq_one_iff.mp e1;refine gB (slot:=0) (next:=j+1) (x:=e.2) x z (λQ E q=>jC ht z h1 hl (by rw[hj,gP];simp[he];exact q)) λh' hit' hs'=>?_;exact hQ _ h' s.toks ⟨e,by rw[he];rfl,rfl⟩ ⟨⟨j+1,hit',λq=>by omega,λ_=>⟨j,hj,rfl⟩⟩,z.at λo e=>hs'.extBut a o ne e⟩ λb o hb e=>hs'.extBut b o (λh=>hb (by simp[h])) e
 done:=λs Q E st hQ=>by
  obtain⟨⟨sl,x,y1,y2⟩,z⟩:=st;refine gC hh x z (λQ E q=>jC ht z h1 hl ?_) λh' he'=>hQ h' s.toks λb o hb e=>he' b o (λh=>hb (by simp[h])) e;by_cases e1:es.size=1
  ·obtain⟨j,hj,rfl⟩:=y2 e1;rw[hj,gP];simpa[e1] using q
  have e0:es=#[]:=by simpa using(show es.size=0 by omega)
  subst e0;simpa using q
 self:=λ_ _ _ _ st hQ=>iJ st.1.choose_spec.1 hQ
end
end LS
namespace LG
open PySem PySem.Spec PyProof.Rows PySem.Calls LS
section
variable {prog:Program} {w:World} {A:Around} {E:A0} {s:Shared} {a:Addr}
variable {es:Array (Int × Value)}
theorem oJ {o:Obj} {ep:Nat} {t:SetTable} {Q:A0} (hh:A.handled=none) (ho:s.heap.get? a=some o) (hc:o.cls=.type "set") (hd:o.data=.set es ep t) (hb:es.size<scanBound) (hf:t.fits es.size=true) (hl:Led w t es.size)
  (h:∀h' d I (od:List (Int × Value)) fp St,od.Perm es.toList->(∀b o,s.heap.get? b=some o->h'.get? b=some o)->s.heap.objs.size<=I->(∀b∈fp,b=a\/s.heap.objs.size<=b)->Walks prog w A I fp [I] es.size (λi v=>∃e,od[i]?=some e/\v=e.2) St->St 0 h'->Q (.ref I) { s with heap:=h',drawn:=d }) :
  wpAny (model prog w) A (pyIter (.ref a)) Q E s:=by
 have hT:s.TypeIs (.ref a) "set" := ⟨o,ho,hc⟩;have hlt:=Qr ho;refine wpAny_pyIter_slot hT F.slot_set_iter (QV F.slot_set_iter hT fW ?_ (F.args_set_iter_1 _));unfold Builtin.«frozenset.__iter__» Builtin.Frozenset.slot0 slotArgs;simp only[List.isEmpty_nil,xU,Qz,↓reduceIte,bind_assoc,List.length_nil,bne_self_eq_false];unfold Builtin.Frozenset.addrOf Builtin.Frozenset.sizeOf;refine Qa (Qf ?_)
 try dsimp only
 refine Qa (Qf ?_);refine Qa (Qa (wpAny_setEntries_of ho hd hf (Qf ?_)));unfold setDrawn setsByText;refine Qa (Qa (xx ho hd hf ?_));dsimp only;refine Qa (Qa (wpAny_askSetting (Qf ?_)));show wpAny _ _ (pure (!(w.params.followText "set-order")&&(!t.plain&&decide (es.size>1)))) _ _ _;refine Qf ?_;have hs0:cN s.heap a es ep t:=⟨o,ho,hd,hc,hf⟩
 have plainway:∀(oI:Obj),oI={ cls:=.type "set_iterator", data:=.fields #[.int 0 0,.int 0 0,.ref a,.int es.size 0,.int ep 0] }->dA (s.heap.push oI) s.heap.objs.size a (.int ((0:Nat):Int) 0) 0 es.size ep/\cN (s.heap.push oI) a es ep t:=λoI e=>by
  subst e;exact⟨⟨_,Qt _ rfl,rfl,rfl⟩,hs0.at λo e=>Qd _ e⟩
 refine wpAny_ite_split (λhab=>?_) λhab=>?_
 ·simp only[xF,Bool.not_eq_true',decide_eq_true_eq]at hab;refine Qa (df es.size (List.range es.size) s _ (by simp) λpl d pm=>?_);refine Qa (wpAny_newTuple ?_ (by rw[Qc,pm.length_eq,List.length_range];exact fits_of_scanBound hb));unfold setEpoch;have ho1:(s.heap.push { cls:=.type "tuple", data:=.seq (pl.map λ(i:Nat)=>rawInt i).toArray }).get? a=some o:=Qd _ ho;refine Qa (Qa (xx (s:={ s with heap:=s.heap.push { cls:=.type "tuple", data:=.seq (pl.map λ(i:Nat)=>rawInt i).toArray },drawn:=d }) ho1 hd hf (Qf ?_)));unfold newFields;refine Qa (xw ?_ (by size_fits));refine Qf ⟨_,rfl, "set_iterator", _,⟨_,Qt _ rfl,rfl⟩,bQ.lookup,?_⟩;have ne:a≠(s.heap.push { cls:=.type "tuple", data:=.seq (pl.map λ(i:Nat)=>rawInt i).toArray }).objs.size:=by rw[xy];exact QG (Nat.lt_succ_of_lt hlt)
  have nt:s.heap.objs.size≠(s.heap.push { cls:=.type "tuple", data:=.seq (pl.map λ(i:Nat)=>rawInt i).toArray }).objs.size:=by rw[xy];exact QG (Nat.lt_succ_self _)
  refine h _ _ _ (pl.filterMap λj=>es[j]?) _ _ ((pm.filterMap _).trans (by rw[filterMap_getElem?_range])) (λb o e=>Qd _ (Qd _ e)) (by rw[xy];exact Nat.le_succ _) (λb hb=>?_) (i4 (ep:=ep) (t:=t) hh _ _ pl pm ne nt) ?_
  ·simp only[Qg,Qm,QQ]at hb;rcases hb with rfl|rfl|rfl
   ·exact .inr (by rw[xy];exact Nat.le_succ _)
   ·exact .inl rfl
   exact .inr (Qi _)
  exact⟨⟨_,Qt _ rfl,rfl,rfl⟩,hs0.at λo e=>Qd _ (Qd _ e),Qd _ (Qt _ rfl)⟩
 refine Qa (Qf ?_);unfold setEpoch;refine Qa (Qa (xx ho hd hf (Qf ?_)));unfold newFields;refine Qa (xw ?_ (by size_fits));refine Qf ⟨_,rfl, "set_iterator", _,⟨_,Qt _ rfl,rfl⟩,bQ.lookup,?_⟩;obtain⟨i0,s0⟩:=plainway _ rfl;have ne:a≠s.heap.objs.size:=QG hlt
 have fpok:∀b∈[s.heap.objs.size,a],b=a\/s.heap.objs.size<=b:=λb hb=>by
  simp only[Qg,Qm,QQ]at hb;rcases hb with rfl|rfl
  ·exact .inr (Qi _)
  exact .inl rfl
 cases ht:w.params.followText "set-order" with
 | true=>exact h _ s.drawn _ _ _ _ (pick_perm (w.params.setOrder a ep) es) (λb o e=>Qd _ e) (Qi _) fpok (ke (ep:=ep) (t:=t) hh ht _ ne) ⟨i0,s0⟩
 | false =>
 rcases hl with z|⟨z1,z2⟩
 ·rw[ht]at z;cases z
 have h1:es.size<=1:=by
  rw[ht]at hab;by_cases e0:es.size=0
  ·omega
  rw[z2 e0]at hab;simp at hab;omega
 exact h _ s.drawn _ _ _ _ (.refl _) (λb o e=>Qd _ e) (Qi _) fpok (mJ (ep:=ep) hh ht h1 z1 _ ne) ⟨⟨0,i0,λ_=>rfl,λz=>by cases z⟩,s0⟩
theorem p9 {r:Addr} {Q:Bool->Shared->Prop} (hT:s.TypeIs (.ref r) "set") (h:Q false s):wpAny (model prog w) A (Builtin.List.listLengthHint (.ref r)) Q E s:=by
 unfold Builtin.List.listLengthHint;refine Qa (wpAny_specialOf hT PySem.F.slot_set_len.lookup ?_);generalize hid:("set.__len__" : String)=id0
 wp_delta
 rw[show splitId id0=some ("set", "__len__") from by subst hid;decide +kernel];subst hid;refine Qa (xQ (T := "set") (b:=true) hT (by rw[isSubtype_type];kernel_rfl) ?_);refine wpAny_ite_split (λhab=>absurd hab (by decide)) (λ_=>?_);refine wpAny_ite_split (λ_=>?_) (λhab=>absurd (by decide +kernel) hab);refine Qa (wpAny_typeOf hT ?_);exact Qf h
theorem collect_set {o:Obj} {ep:Nat} {t:SetTable} {R:List Value->Shared->Prop} (hh:A.handled=none) (ho:s.heap.get? a=some o) (hc:o.cls=.type "set") (hd:o.data=.set es ep t) (hb:es.size<scanBound) (hf:t.fits es.size=true) (hl:Led w t es.size)
  (h:∀g tk d (od:List (Int × Value)),od.Perm es.toList->(∀b o,s.heap.get? b=some o->g.get? b=some o)->s.heap.objs.size<=g.objs.size->R (od.map (·.2)) { s with heap:=g,toks:=tk,drawn:=d }):wpAny (model prog w) A (collect (.ref a)) R E s:=by
 have hlt:=Qr ho;have nz:es.size<=sizeLine:=fits_of_scanBound hb;unfold collect;refine Qa (wpAny_runValue (codeAny_builtin entry_proto_collect' ?_));rw[xS PySem.F.plain_proto_collect _];refine Qa (xw (Qf ⟨plainId_quiet PySem.F.plain_list_iadd _,codeAny_builtin entry_list_iadd' ?_⟩));rw[xS PySem.F.plain_list_iadd _];show wpAny _ _ (Builtin.List.listExtendWith (.ref s.heap.objs.size) (.ref a) (.ref s.heap.objs.size)) _ _ { s with heap:=s.heap.push { cls:=.type "list", data:=.seq ([]:List Value).toArray } };generalize hL:({ cls:=.type "list", data:=.seq ([]:List Value).toArray }:Obj)=L;have ho1:(s.heap.push L).get? a=some o:=Qd _ ho;have hS:(s.heap.push L).get? s.heap.objs.size=some L:=Qt _ (by rw[<-hL];rfl);have nS:s.heap.objs.size≠a:=Nat.ne_of_gt hlt;unfold Builtin.List.listExtendWith;refine Qa (wpAny_typeOf (T := "set") (s:={ s with heap:=s.heap.push L }) ⟨o,ho1,hc⟩ ?_);have h1:Builtin.List.listSameRef (.ref s.heap.objs.size) (.ref a)=false:=by simp[Builtin.List.listSameRef,nS]
 have h2:(Value.type "set" == Value.type "list")=false:=by decide
 have h3:(Value.type "set" == Value.type "tuple")=false:=by decide
 simp only[h1,h2,h3,Bool.or_false,Qz,xq];refine Qa (oJ (A:=A.in1) (s:={ s with heap:=s.heap.push L }) hh ho1 hc hd hb hf hl λh' d I od fp St om k hI hfp W st=>?_);have k':∀b o,s.heap.get? b=some o->h'.get? b=some o:=λb o e=>k b o (Qd _ e);have szL:(s.heap.push L).objs.size=s.heap.objs.size+1:=xy ..;have nI:s.heap.objs.size≠I:=by have:=hI;simp only[szL]at this;omega
 have hI':s.heap.objs.size<=I:=by simp only[szL]at hI;omega
 have nF:s.heap.objs.size∉fp:=λz=>by
  rcases hfp _ z with y|y
  ·exact nS y
  simp only[szL]at y;omega
 have hS1:h'.get? s.heap.objs.size=some L:=k _ _ hS;refine Qa (Q7 (p9 (s:={ s with heap:=h',drawn:=d }) ⟨o,k' a o ho,hc⟩ ?_))
 have key:∀(g:Heap) (c₁ tk:Nat),St 0 g->(∀b o,b≠s.heap.objs.size->h'.get? b=some o->g.get? b=some o)->g.get? s.heap.objs.size=some { cls:=.type "list", data:=.seq #[] c₁ } ->
   codeAny (model prog w) A (.builtin "list.extend.loop" ⟨[.ref s.heap.objs.size,.ref I,.ref s.heap.objs.size],[]⟩) (λr s'=>∃(g:Heap) (tk:Nat) (acc:Array Value) (c:Nat),r=.ok (.ret (.ref s.heap.objs.size))/\s'={ s with heap:=g,toks:=tk,drawn:=d } /\
   (∀b o,s.heap.get? b=some o->g.get? b=some o)/\g.get? s.heap.objs.size=some { cls:=.type "list", dict:=none,data:=.seq acc c,slots:=#[] }/\PySem.ItemsOf (λi v=>∃e,od[i]?=some e/\v=e.2) acc es.size) { s with heap:=g,toks:=tk,drawn:=d }:=by
  intro g c₁ tk hst hk hS₁;refine codeAny_extend_loopS W.toS nz _ nF _ es.size 0 _ #[] c₁ rfl (QT _) hst hS₁ (ItemsOf.nil _) λs' acc' c' hm hS' hacc=>?_;rw[Moved.eq_with hm];refine⟨s'.heap,s'.toks,acc',c',rfl,rfl,λb o e=>hm.heap b o (λhmem=>?_) (hk b o (QG (Qr e)) (k' b o e)),hS',hacc⟩;rcases Qg.mp hmem with e'|hmem
  ·exact absurd (Qr e) (by rw[e'];exact xV _)
  exact absurd (Qr e) (by rw[QB.mp hmem];exact Nat.not_lt.mpr hI')
 have all:∀(acc:Array Value),PySem.ItemsOf (λi v=>∃e,od[i]?=some e/\v=e.2) acc es.size->acc.toList=od.map (·.2):=λacc ⟨z1,z2⟩=>by
  refine List.ext_getElem? λi=>?_;rw[Q0,QE];by_cases hi:i<es.size
  ·obtain⟨e,e1,e2⟩:=z2 i acc[i] (QF (by omega));rw[QF (by omega),e1,e2];rfl
  rw[Array.getElem?_eq_none (by omega),Q6 (by rw[om.length_eq,Qj];omega)];rfl
 subst hL;refine wpAny_ite_split (λ_=>?_) (λ_=>Qf ⟨plainId_quiet PySem.F.plain_extend_loop _,codeAny_mono (key h' 0 s.toks st (λb o _ e=>e) hS1) λr s' y=>?_⟩)
 ·refine Qa (wpAny_rule ?_);refine Qa ?_;show wpAny _ _ (updateSeq s.heap.objs.size (·.push .none) >>= λ_=>updateSeq s.heap.objs.size (·.pop)) _ _ _;refine Qa (wpAny_updateSeq hS1 rfl ?_);have hS₂:=Q5 (Obj.mapSeq (·.push Value.none)) hS1 rfl;refine wpAny_updateSeq (hz:=by seq_fits) hS₂ rfl ?_;have hS3:=Q5 (Obj.mapSeq (·.pop)) hS₂ rfl;refine Qf ⟨plainId_quiet PySem.F.plain_extend_loop _,codeAny_mono (key _ _ s.toks ?_ (λb o hb e=>?_) hS3) λr s' y=>?_⟩
  ·refine W.frame 0 _ _ st λb hb o e=>?_;have hbS:b≠s.heap.objs.size:=λh=>nF (h▸hb);exact(xg _ _ (Ne.symm hbS)).trans ((xg _ _ (Ne.symm hbS)).trans e)
  ·exact(xg _ _ (Ne.symm hb)).trans ((xg _ _ (Ne.symm hb)).trans e)
  obtain⟨g,tk,acc,c,rfl,rfl,kk,at',it⟩:=y;exact Qa (wpAny_load at' (Qf (by rw[all acc it];exact h g tk d od om kk (Nat.le_of_lt (Qr at')))))
 obtain⟨g,tk,acc,c,rfl,rfl,kk,at',it⟩:=y;exact Qa (wpAny_load at' (Qf (by rw[all acc it];exact h g tk d od om kk (Nat.le_of_lt (Qr at')))))
end
end LG
set_option maxHeartbeats 1000000
namespace Ht
open PySem PySem.Spec PyProof.Rows L2 LS
section
variable {B:Addr->Prop} {prog:Program} {w:World} {A:Around} {E:A0} {s:Shared}
def Tps (h0 h:Heap):Prop:=∀b o,h0.get? b=some o->o.cls=.type "tuple" -> h.get? b=some o
theorem oH {R:Result->Shared->Prop} {I S l:Addr} {its:Array Value} {h0:Heap} {kf:Nat->av} (hh:A.handled=none) (hu:A.units+3<cLine) (nI:l≠I) (nS:S∉[I,l]) (new:∀b∈[S,I],h0.get? b=none)
  (hg:∀i v,its[i]?=some v->∃b,v=.ref b/\TK.IsT (ax prog w) h0 (kf i) b/\(kf i).all byV2=false/\B b) (few:∀us:List av,us.Nodup->(∀x∈us,∃j,j<its.size/\kf j=x)->us.length<76) :
  ∀(m i:Nat) (s:Shared) (ks:List av),its.size-i=m->i<=its.size->(s.heap.IsListIter I l i/\s.heap.IsList l its)->Tps h0 s.heap->SetK prog w B s.heap S ks->(∀x,x∈ks↔∃j,j<i/\kf j=x) ->
   (∀s' ks',Moved [S,I] (λa b=>b=a) s s'->SetK prog w B s'.heap S ks'->(∀x,x∈ks'↔∃j,j<its.size/\kf j=x)->R (.ok (.ret .none)) s') ->
   codeAny (model prog w) A (.builtin "set.update.loop" ⟨[.ref S,.ref I],[]⟩) R s:=by
 have W:=(Walks.list (prog:=prog) (w:=w) (show A.in1.handled=none by simp[hh]) I l nI its).toS;have nSI:S≠I:=λz=>nS (by simp[z]);have more:∀b∈[I],b∈[S,I]:=λb z=>Qp _ z
 have setk:∀{s s':Shared} {ks:List av},Tps h0 s.heap->Moved [I] (λa b=>b=a) s s'->s.heap.IsListIter I l 0\/True->SetK prog w B s.heap S ks->(∀o,s.heap.get? I=some o->o.cls≠.type "tuple")->SetK prog w B s'.heap S ks:=λ{s s' ks} tp mv _ q ni=>by
  obtain⟨es,ep,t,ks',h1,h2,h3⟩:=q;exact⟨es,ep,t,ks',mv.heap S _ (by simpa using nSI) h1,Paired.mapT h2 λe k ⟨b,e1,e2,e3⟩=>⟨b,e1,Tm.bO e2 λc o hc ht=>mv.heap c o (λz=>by simp at z;subst z;exact ni o hc ht) hc,e3⟩,h3⟩
 have notI:∀{s:Shared} {i:Nat},s.heap.IsListIter I l i->∀o,s.heap.get? I=some o->o.cls≠.type "tuple" := λ⟨o',h1,h2,_⟩ o e z=>by
  rw[h1]at e;cases e;rw[h2]at z;exact absurd (Value.type.inj z) (by decide)
 have tps:∀{s s':Shared},Tps h0 s.heap->Moved [S,I] (λa b=>b=a) s s'->Tps h0 s'.heap:=λtp mv b o e ht=>mv.heap b o (λz=>by rw[new b z]at e;cases e) (tp b o e ht);intro m
 induction m with
 | zero =>
  intro i s ks em hi st tp q mm fin;obtain rfl:i=its.size:=by omega
  refine codeAny_builtin F.entry_set_update_loop ?_;rw[xS F.plain_set_update_loop _];show wpAny _ A.in1 (pyNext (.ref I) >>= _) _ _ s;exact Qa (W.done s _ _ st λs1 mv=>Qf (fin s1 ks (mv.mono more) (setk tp mv (.inr trivial) q (notI st.1)) mm))
 | succ m ih =>
 intro i s ks em hi st tp q mm fin;have lt:i<its.size:=by omega
 refine codeAny_builtin F.entry_set_update_loop ?_;rw[xS F.plain_set_update_loop _];show wpAny _ A.in1 (pyNext (.ref I) >>= _) _ _ s;refine Qa (W.item i s _ _ lt st λv s1 hP st1 mv=>?_);obtain⟨b,rfl,hb,tx,hB⟩:=hg i v hP;have q1:=setk tp mv (.inr trivial) q (notI st.1);have tp1:=tps tp (mv.mono more);have hb1:TK.IsT (ax prog w) s1.heap (kf i) b:=Tm.bO hb tp1;show wpAny _ A.in1 (holding [Value.ref b] (setAdd S (.ref b)) >>= _) _ _ s1;refine Qa (Q7 ?_);unfold setAdd;refine Q7 (Qa ((be prog w).pyHash (k:=kf i) (show A.units+1+1<cLine by omega) hb1 ?_));have kn:ks.Nodup:=let ⟨_,_,_,_,_,_,_,n,_⟩:=q;n;refine vI (s:={ s1 with toks:=s1.toks+(be prog w).draws (kf i) }) (show A.units+1+1<cLine by omega) q1 hb1 tx hB (few ks kn λx hx=>by obtain⟨j,hj,e⟩:=(mm x).mp hx;exact⟨j,by omega,e⟩) λh2 _ ks2 sb q2 _ m2=>?_
 have mv2:Moved [S,I] (λa b=>b=a) s { s1 with heap:=h2,toks:=s1.toks+(be prog w).draws (kf i) }:=(mv.mono more).then_heap (QO _ _) λb o z e=>by
  rw[sb.2 b (λy:b=S=>z (by rw[y];exact Q2))];exact e
 refine Qf ⟨plainId_quiet F.plain_set_update_loop _,ih (i+1) _ ks2 (by omega) lt (W.frame _ s1 _ _ st1 (QO _ _) λb z o e=>?_) (tps tp mv2) q2 (λx=>?_) λs3 ks3 mv3 q3 m3=>fin s3 ks3 (Moved.trans W.gtrans mv2 mv3) q3 m3⟩
 ·rw[sb.2 b (λy:b=S=>nS (by rw[<-y];exact z))];exact e
 rw[m2,mm]
 constructor
 ·rintro(⟨j,hj,e⟩|e)
  ·exact⟨j,by omega,e⟩
  exact⟨i,by omega,e.symm⟩
 rintro⟨j,hj,e⟩;rcases Nat.lt_succ_iff_lt_or_eq.mp hj with z|z
 ·exact .inl ⟨j,z,e⟩
 subst z;exact .inr e.symm
theorem call_set {l:Addr} {its:Array Value} {kf:Nat->av} {Q:A0} (hh:A.handled=none) (hu:A.units+8<cLine) (hl:s.heap.IsList l its)
  (hg:∀i v,its[i]?=some v->∃b,v=.ref b/\TK.IsT (ax prog w) s.heap (kf i) b/\(kf i).all byV2=false/\B b) (few:∀us:List av,us.Nodup->(∀x∈us,∃j,j<its.size/\kf j=x)->us.length<76)
  (h:∀(h1:Heap) (tk:Nat) (ks:List av),SetK prog w B h1 s.heap.objs.size ks->(∀x,x∈ks↔∃j,j<its.size/\kf j=x)->(∀b o,s.heap.get? b=some o->h1.get? b=some o)->Q (.ref s.heap.objs.size) { s with heap:=h1,toks:=tk }) :
  wpAny (model prog w) A (call (.type "set") [.ref l]) Q E s:=by
 refine LG.call_set_gen (G:=λh S=>∃ks,SetK prog w B h S ks/\∀x,x∈ks↔∃j,j<its.size/\kf j=x) hh hl (λI S s0 R kp hS hI nI nS st g fin=>?_) λh1 tk ⟨ks,q,m⟩ kp=>h h1 tk ks q m kp
 have nw:∀b∈[S,I],s.heap.get? b=none:=λb hb=>by
  simp only[Qg,Qm,QQ]at hb;rcases hb with rfl|rfl
  ·exact Heap.get?_none_of_le hS
  exact Heap.get?_none_of_le hI
 exact oH (A:=A.in1.in1) (h0:=s.heap) (kf:=kf) (by simp[hh]) (show A.units+1+1+3<cLine by omega) nI nS nw hg few (its.size-0) 0 s0 [] rfl (QT _) st (λb o e _=>kp b o e) (SetK.new g) (λx=>by simp) λs' ks' mv q m=>fin s' mv ⟨ks',q,m⟩
theorem SetK.raw {h:Heap} {a:Addr} {ks:List av} (x:SetK prog w B h a ks):∃es ep t ks',h.get? a=some (qS es ep t)/\Paired (El prog w B h) es.toList ks'/\ks'.Perm ks/\ks.Nodup/\es.size=ks.length/\es.size<scanBound/\t.fits es.size=true/\Led w t es.size:=by
 obtain⟨es,ep,t,ks',h1,h2,h3,h4,h5,h6,h7⟩:=x;have t127:t.mask<=127:=by rcases h5.msk with e|e|e <;> omega
 refine⟨es,ep,t,ks',h1,h2,h3,h4,by rw[<-Qj,xi h2,h3.length_eq],by unfold scanBound;omega,?_,h7⟩;have:=h5.fits (by rw[Qc,Qj];omega);rwa [Qc,Qj]at this
theorem els_refs {h:Heap}:∀{od:List (Int × Value)} {ks:List av},Paired (El prog w B h) od ks->∃bs:A3,od.map (·.2)=bs.map Value.ref/\Paired (λb k=>TK.IsT (ax prog w) h k b/\B b) bs ks
 | _,_,.nil=>⟨[],rfl,.nil⟩
 | _,_,.cons ⟨b,e1,e2,e3⟩ t=>by
  obtain⟨bs,h1,h2⟩:=els_refs t;exact⟨b::bs,by rw[Qu,Qu,e1,h1],.cons ⟨e2,e3.2⟩ h2⟩
end
end Ht
namespace L2
open PySem PySem.Spec PyProof.Rows PySem.Calls
theorem Inv.drawn {X:Cx} {pins:A1} {U:List (Option V)} {H:Hp} {s:Shared} (I:Inv X pins U H s) (d:Drawn):Inv X pins U H { s with drawn:=d }:=⟨I.ok,I.os,I.bare,I.base,I.loc,I.cell,I.free,I.freeC,I.pin,I.hok,I.len⟩
section
variable {X:Cx} {a:Expr} {ta:TA} {p p1 pos pos1:Pos}
def k7 (K:PySem.W.Frag) (H:Hp) (vs:List V) (ks:List av):Prop:=∃(l:Addr) (bs:A3),vs=[.ref l]/\SqL K H l (bs.map V.ref)/\KsA H bs ks/\(∀k∈ks,k.all Ht.byV2=false)/\∀us:List av,us.Nodup->(∀x∈us,x∈ks)->us.length<64
def gr (K:PySem.W.Frag) (ta:TA):TE:=λU H Q=>ta U H λvs H1=>∃(ks:List av) (b:Bool),k7 K H1 vs ks/\qG b ks/\∀(p:Addr) (bs':A3) (us:List av),H1 p=none->KsA H1 bs' us->us.Nodup->(∀x,x∈us↔x∈ks)->us.Pairwise leF->Q (.ref p) (upd H1 p (.lst (bs'.map V.ref)))
theorem oG {pins:A1} {U:St} {H:Hp} {s:Shared} {us:List Value} {vs:List V} {ks:List av} {Q:A0} (hc:X.calm=true) (hu:X.A.units+8<cLine) (I:Inv X pins U H s) (r:aL vs us) (h:k7 X.K H vs ks)
  (q:∀(h1:Heap) (tk:Nat) (ks':List av),Ht.SetK X.prog X.w (λb=>bA H (cC H b) b) h1 s.heap.objs.size ks'->(∀x,x∈ks'↔x∈ks)->(∀b o,s.heap.get? b=some o->h1.get? b=some o)->Q (.ref s.heap.objs.size) { s with heap:=h1,toks:=tk }) :
  wpAny (model X.prog X.w) X.A (call (.type "set") us) Q X.xe s:=by
 obtain⟨l,bs,rfl,hl,ka,tx,few⟩:=h;obtain⟨u1,rfl,ru1⟩:=cR r;cases ru1;obtain⟨its,rv,pl,_⟩:=I.list hl;have ei:=dL rv;have bl:=xi ka;have zz:its.toArray.size=ks.length:=by rw[Qk,ei,Qc,bl]
 obtain⟨ek,tk⟩:=ka.tk
 have kfm:∀x,(∃j,j<its.toArray.size/\ks.getD j []=x)↔x∈ks:=λx=>by
  rw[zz]
  constructor
  ·rintro⟨j,hj,rfl⟩;rw[QU,Qb hj];exact xG hj
  intro hx;obtain⟨j,hj,e⟩:=QS hx;exact⟨j,hj,by rw[QU,Qb hj];exact e⟩
 refine Ht.call_set (B:=λb=>bA H (cC H b) b) (its:=its.toArray) (kf:=λi=>ks.getD i []) (I.ok.hd hc) hu pl.isList (λi v hv=>?_) (λus nd h=>Nat.lt_trans (few us nd λx hx=>(kfm x).mp (h x hx)) (by decide)) λh1 tk ks' q1 m kp=>q h1 tk ks' q1 (λx=>(m x).trans (kfm x)) kp;have hv:its[i]?=some v:=by simpa using hv
 rw[ei,QE]at hv;obtain⟨b,hb,rfl⟩:=xh.mp hv;have hi:=(Qe.mp hb).1;have ej:ks[i]?=some (cC H b):=by rw[ek,QE,hb];rfl
 have eg:ks.getD i []=cC H b:=by rw[QU,ej];rfl
 have tb:=tk b (Ql hb);rw[eg];exact⟨b,rfl,c8 I.hok tb,tx _ (Ql ej),tb⟩
theorem jv (hc:X.calm=true) (hu:X.A.units+8<cLine) (hg:Gl X "sorted") (hm:X.mg "sorted" = none) (hg1:Gl X "set") (hm1:X.mg "set" = none) (ha:PA X [a] ta) (hs:starEach [a] X.env=[(false,eval a X.env)]:=by rfl)
  (he:starEach [.Call (.Name "set" p1) [a] [] pos1] X.env=[(false,eval (.Call (.Name "set" p1) [a] [] pos1) X.env)]:=by rfl):PE X (.Call (.Name "sorted" p) [.Call (.Name "set" p1) [a] [] pos1] [] pos) (gr X.K ta):=by
 intro pins s U H Q I h;refine wpAny_Call_Name_kw (dv I hg hm PyProof.Rows.boot_sorted ?_);refine PyProof.Rows.callWith_builtin1 ?_ he rfl;rw[he];show wpAny _ _ (spliced ((false,eval (.Call (.Name "set" p1) [a] [] pos1) X.env)::backTo pos [])) _ _ s;refine Calls.spliced_cons ?_;refine Call_ (dv I hg1 hm1 PyProof.Rows.boot_set (xT (thn (ha pos1 pins s U H _ I h) λus s1 z=>?_) hs rfl));obtain⟨vs,H1,I1,r1,ks,b,so,sp,q⟩:=z;have fw:∀us:List av,us.Nodup->(∀x∈us,x∈ks)->us.length<64:=let ⟨_,_,_,_,_,_,few⟩:=so;few;refine oG hc hu I1 r1 so λh1 tk ks' sk mm kp=>Calls.spliced_nil ?_;obtain⟨es,ep,t,ks2,g1,g2,g3,g4,g5,g6,g7,g8⟩:=sk.raw;refine Calls.call_function_entry kind_sorted plain_sorted entry_sorted (args_sorted1 _) ?_;unfold Builtin.«sorted»;refine Qa (m:=checkCount "sorted" 1 1 _) (Qf ?_);refine Qa (LG.collect_set (A:=X.A.in1) (s:={ s1 with heap:=h1,toks:=tk }) (show X.A.in1.handled=none by simp[I1.ok.hd hc]) g1 rfl rfl g6 g7 g8 λh2 tk2 d od po kp2 z2=>?_);obtain⟨ks3,e3,p3⟩:=Ht.paired_perm po g2;obtain⟨bs,ev,pb⟩:=Ht.els_refs e3;have lb:bs.length=ks'.length:=by rw[xi pb,p3.length_eq,g3.length_eq]
 have l64:ks'.length<64:=fw ks' g4 λx hx=>(mm x).mp hx;rw[ev];refine Qa (wpAny_newList ?_ (by rw[Qc,xK];omega))
 have kb:KsA H1 bs (bs.map (cC H1))/\ks3=bs.map (cC H1):=by
  have I3:=I1.kept (t':=tk) kp;clear ev lb e3 p3
  induction pb with
  | nil=>exact⟨.nil,rfl⟩
  | @cons b k bs ks r _ ih =>
  obtain⟨i1,i2⟩:=ih;refine⟨.cons r.2 i1,?_⟩;have:=(c8 I3.hok r.2).inj r.1;rw[Qu,this,<-i2]
 obtain⟨kb,ek3⟩:=kb;have mem:∀c∈bs,cC H1 c∈ks:=λc hc=>(mm _).mp (g3.mem_iff.mp (p3.mem_iff.mp (by rw[ek3];exact Qo.mpr ⟨c,hc,rfl⟩)));have tkb:=kb.tk.2;have I3:=I1.kept (t':=tk) kp;have hoL:(h2.push (seqObj "list" (bs.map Value.ref).toArray 0)).get? h2.objs.size=some (seqObj "list" (bs.map Value.ref).toArray 0):=Qt _ rfl
 refine Qa (Q7 (QV (s:={ s1 with heap:=h2.push (seqObj "list" (bs.map Value.ref).toArray 0),toks:=tk2,drawn:=d }) slot_list_sort ⟨_,hoL,rfl⟩ entry_list_sort
  (Tm.fR (up:=λA=>A.units<cLine) hoL (Tm.jZ (b:=b) hoL (λz=>absurd (Value.type.inj z) (by decide)) (λc hc=>Tm.bO (c8 I3.hok (tkb c hc)) λb o e _=>Qd _ (kp2 _ _ e)) ⟨λx hx y hy=>sp.1 _ (mem x hx) _ (mem y hy),λx hx=>sp.2 _ (mem x hx)⟩) (show X.A.units+1+1<cLine by omega) (by rw[Qc,lb];exact l64) λout p1 p2=>⟨_,rfl,?_⟩) (args_list_sort _)))
 obtain⟨m,at'⟩:=Tm.dH (vs:=bs.map Value.ref) (out:=out) hoL;obtain⟨bs',pm,eo⟩:=gu p1;rw[eo,xb]at p2
 have so':(bs'.map (cC H1)).Pairwise leF:=by
  rw[xb];refine p2.imp_of_mem λ{x y} hx hy hq=>?_;have hq:Tm.lb (((Tm.jN bs (cC H1)).keyOf (.ref y)).getD []) (((Tm.jN bs (cC H1)).keyOf (.ref x)).getD [])=false:=hq;rw[Tm.d5 _ (pm.mem_iff.mp hx),Tm.d5 _ (pm.mem_iff.mp hy)]at hq;exact hq
 have pmk:(bs'.map (cC H1)).Perm ks':=((pm.map _).trans (by rw[<-ek3];exact p3)).trans g3;have I4:=(I3.kept (t':=tk2) kp2).drawn d
 exact Qf ⟨_,rfl,.ref h2.objs.size,_,I4.laid (o:=.lst (bs'.map V.ref)) (t':=tk2) (λb o e=>Tm.di (QG (Qr e)) (Qd _ e)) (Qi _) ⟨by rw[Qc,pm.length_eq,lb,xK];omega,out.toList,m,by rw[eo];exact eE _,by rw[Array.toArray_toList];exact at'⟩,rfl,
  q _ bs' _ (I4.hok.fresh (Qi _)) (kO λb hb=>tkb b (pm.mem_iff.mp hb)) (pmk.nodup_iff.mpr g4) (λx=>pmk.mem_iff.trans (mm x)) so'⟩
end
end L2
set_option maxHeartbeats 4000000
namespace L2
open PySem PySem.Spec PyProof.Rows
variable {pins:A1}
theorem Inv.turnedL {X:Cx} {U:St} {H:Hp} {s:Shared} {h':Heap} {t':Nat} {T:Addr} {o:HO} {ch:A3} (I:Inv X pins U H s) (k:∀b o,b∉ch->s.heap.get? b=some o->h'.get? b=some o)
  (f:∀b∈ch,dB X pins H b) (hT:s.heap.objs.size<=T) (new:a7 X.prog X.w (upd H T o) h' T o):Inv X pins U (upd H T o) { s with heap:=h',toks:=t' }:=by
 have hn:H T=none:=I.hok.fresh hT;have nT:∀b u,s.heap.get? b=some u->b≠T:=λb u q=>QG (QR (Qr q) hT);have n:∀b u,H b=some u->b∉ch:=λb u q z=>by rw[(f b z).1]at q;cases q
 refine I.step (g':=s.gens) (d':=s.drawn) (ch:=ch) (λb hb=>?_) (λb u _ _ hc q _=>k b u hc q) (λb u _ _ hc q _=>⟨u.slots,k b u hc q⟩) (λb u _ q n=>by rw[ag (nT b u q)];exact n)
  (λb u hc q=>⟨u,k b u hc q⟩) (λb xs q=>by rw[ag (aA q hn)];exact q) (λb u xs q=>by rw[ag (aA q hn)];exact q) (λb ps q=>⟨#[],by rw[ag (aA q hn),q];simp⟩) (λm hm=>?_) (λb u q=>?_) I.bare
 ·obtain⟨_,a2,_,a4,a5,a6⟩:=f b hb;exact⟨a4,a2,a5,a6⟩
 ·obtain⟨ob,es,ep,ho,r⟩:=hm;exact⟨ob,es,ep,k _ ob (λz=>(f _ z).2.1 rfl) ho,r⟩
 by_cases hb:b=T
 ·subst hb;rw[af]at q;cases q;exact new
 rw[ag hb]at q;refine(I.hok b u q).stay (λc v hc z=>k c v ?_ z) (λc z=>by rw[ag (aA z hn)];exact z) λc xs z=>by rw[ag (aA z hn)];exact z
 rcases hc with z|z
 ·rw[z];exact n b u q
 exact n c _ z
theorem Inv.turnedE {X:Cx} {U:St} {H:Hp} {s:Shared} {h':Heap} {t':Nat} {ch:A3} (I:Inv X pins U H s) (k:∀b o,b∉ch->s.heap.get? b=some o->h'.get? b=some o)
  (f:∀b∈ch,dB X pins H b):Inv X pins U H { s with heap:=h',toks:=t' }:=by
 have n:∀b u,H b=some u->b∉ch:=λb u q z=>by rw[(f b z).1]at q;cases q
 refine I.step (g':=s.gens) (d':=s.drawn) (ch:=ch) (λb hb=>?_) (λb u _ _ hc q _=>k b u hc q) (λb u _ _ hc q _=>⟨u.slots,k b u hc q⟩) (λb u _ q n=>n)
  (λb u hc q=>⟨u,k b u hc q⟩) (λb xs q=>q) (λb u xs q=>q) (λb ps q=>⟨#[],by rw[q];simp⟩) (λm hm=>?_) (λb u q=>?_) I.bare
 ·obtain⟨_,a2,_,a4,a5,a6⟩:=f b hb;exact⟨a4,a2,a5,a6⟩
 ·obtain⟨ob,es,ep,ho,r⟩:=hm;exact⟨ob,es,ep,k _ ob (λz=>(f _ z).2.1 rfl) ho,r⟩
 refine(I.hok b u q).stay (λc v hc z=>k c v ?_ z) (λc z=>z) λc xs z=>z;rcases hc with z|z
 ·rw[z];exact n b u q
 exact n c _ z
section
variable {X:Cx} {elts:List Expr} {k:Nat} {tpos:Pos}
end
section
variable {X:Cx}
end
end L2
namespace LZg
open PySem LZ
section
variable {prog:Program} {w:World} {A:Around} {E:A0} {s:Shared}
variable {Q:A0} {x f0 v u a:Value} {its xs ys:Array Value} {i k:Nat} {c l b z i1 i2 m:Addr}
theorem nextT_item {t:Addr} (hc:s.heap.IsTupleIter c t i) (ht:s.heap.IsTuple t its) (hx:its[i]?=some x)
  (hQ:∀h',h'.IsTupleIter c t (i+1)->Heap.SameBut c s.heap h'->Q x { s with heap:=h' }):wpAny (model prog w) A (Builtin.SmallTypes.nextOf (.ref c)) Q E s:=by
 obtain⟨o,ho,h1,h2⟩:=id hc;obtain⟨ot,hot,_,nt,hdt⟩:=ht;unfold Builtin.SmallTypes.nextOf;refine Qa (QY (name:=Str.ofString "__next__") hc.typeIs xn (QV xn hc.typeIs F.entry_tuple_iterator_next ?_ (F.args_tuple_iterator_next_1 _)));show wpAny _ _ (field (.ref c) 0 >>= _) _ _ s;refine Qa (Q1 ho h2 (x:=.ref t) rfl ?_);rw[Qq (show ¬((Value.ref t==Value.none)=true) from Qn)];show wpAny _ _ (field (.ref c) 1 >>= _) _ _ s;refine Qa (Q1 ho h2 (x:=.int i 0) rfl ?_);show wpAny _ _ (seqItems? _ >>= _) _ _ _;refine Qa (xt hot hdt ?_);simp only[QX,hx];refine Qa (xM ho h2 (by simp) (Qf ⟨x,rfl,Qf (hQ _ ⟨_,Q5 _ ho (Obj.isFreed_of_fields (xm h2 _)),(Obj.cls_mapFields ..).trans h1,?_⟩ (Q4 ..))⟩));rw[xm h2];simp[rawInt]
theorem nextT_end {t:Addr} (hh:A.handled=none) (hc:s.heap.IsTupleIter c t i) (ht:s.heap.IsTuple t its) (hx:its[i]?=none)
  (hE:∀h' e,Heap.ExtBut c s.heap h'->(∃o,h'.get? e=some o/\o.cls=.type "StopIteration")->E (.ref e) { s with heap:=h' }):wpAny (model prog w) A (Builtin.SmallTypes.nextOf (.ref c)) Q E s:=by
 obtain⟨o,ho,h1,h2⟩:=id hc;obtain⟨ot,hot,_,nt,hdt⟩:=ht;unfold Builtin.SmallTypes.nextOf;refine Qa (QY (name:=Str.ofString "__next__") hc.typeIs xn (QV xn hc.typeIs F.entry_tuple_iterator_next ?_ (F.args_tuple_iterator_next_1 _)));show wpAny _ _ (field (.ref c) 0 >>= _) _ _ s;refine Qa (Q1 ho h2 (x:=.ref t) rfl ?_);rw[Qq (show ¬((Value.ref t==Value.none)=true) from Qn)];show wpAny _ _ (field (.ref c) 1 >>= _) _ _ s;refine Qa (Q1 ho h2 (x:=.int i 0) rfl ?_);show wpAny _ _ (seqItems? _ >>= _) _ _ _;refine Qa (xt hot hdt ?_);simp only[QX,hx];refine Qa (wpAny_rule (Qa (xM ho h2 (by simp) ?_)));refine Qa (m:=newExc (.type "StopIteration") []) ?_;simp only[newExc,newTuple];refine Qa (xw ?_ (by size_fits));refine Qa (m:=firstArgMember _ _) (wpAny_of_eq (a:=Value.none) rfl ?_);refine xw ?_ (by size_fits);simp only[raiseNew];refine Qa (wpAny_handled ?_);rw[show A.in1.handled=none from hh];exact Qa (Qf (wpAny_throw (hE _ _ (((Q4 ..).extBut.push _).push _) ⟨_,Qt _ rfl,rfl⟩)))
def SqOb:Bool->Heap->Addr->Array Value->Prop
 | true,h,l,xs=>h.IsTuple l xs
 | false,h,l,xs=>h.IsList l xs
def SqIt:Bool->Heap->Addr->Addr->Nat->Prop
 | true,h,c,l,i=>h.IsTupleIter c l i
 | false,h,c,l,i=>h.IsListIter c l i
def p7 (t:Bool):String:=if t then "tuple_iterator" else "list_iterator"
variable {h h':Heap}
theorem SqIt.of {t:Bool} (g:h.get? c=some { cls:=.type (p7 t),data:=.fields #[.ref l,.int i 0] }):SqIt t h c l i:=by
 cases t <;> exact⟨_,g,rfl,rfl⟩
theorem SqIt.raw {t:Bool} (x:SqIt t h c l i):∃o,h.get? c=some o/\o.data=.fields #[.ref l,.int i 0]:=by
 cases t <;> (obtain⟨o,h1,_,h3⟩:=x;exact⟨o,h1,h3⟩)
theorem SqIt.at {t:Bool} (x:SqIt t h c l i) (k:∀o,h.get? c=some o->h'.get? c=some o):SqIt t h' c l i:=by
 cases t <;> (obtain⟨o,h1,r⟩:=x;exact⟨o,k _ h1,r⟩)
theorem SqIt.extBut {t:Bool} (x:SqIt t h c l i) (hs:Heap.ExtBut b h h') (n:c≠b):SqIt t h' c l i:=x.at λo e=>hs c o n e
theorem SqOb.extBut {t:Bool} (x:SqOb t h l xs) (hs:Heap.ExtBut b h h') (n:l≠b):SqOb t h' l xs:=by
 cases t <;> (obtain⟨o,h1,r⟩:=x;exact⟨o,hs l o n h1,r⟩)
theorem SqOb.push {t:Bool} (x:SqOb t h l xs) (o:Obj):SqOb t (h.push o) l xs:=by
 cases t <;> (obtain⟨o,h1,r⟩:=x;exact⟨o,Qd _ h1,r⟩)
theorem SqOb.lt {t:Bool} (x:SqOb t h l xs):l<h.objs.size:=by
 cases t <;> (obtain⟨o,h1,r⟩:=x;exact Qr h1)
theorem pY {t:Bool} (x:SqOb t s.heap l xs) (h:Q (.ref s.heap.objs.size) { s with heap:=s.heap.push { cls:=.type (p7 t),data:=.fields #[.ref l,.int 0 0] } }):wpAny (model prog w) A (pyIter (.ref l)) Q E s:=by
 cases t with
 | true=>exact wpAny_pyIter_tuple x h
 | false=>exact wpAny_pyIter_list x h
theorem lP {t:Bool} (hc:SqIt t s.heap c l i) (ht:SqOb t s.heap l its) (hx:its[i]?=some x)
  (hQ:∀h',SqIt t h' c l (i+1)->Heap.SameBut c s.heap h'->Q x { s with heap:=h' }):wpAny (model prog w) A (Builtin.SmallTypes.nextOf (.ref c)) Q E s:=by
 cases t with
 | true=>exact nextT_item hc ht hx hQ
 | false=>exact wpAny_nextOf_list_item hc ht hx hQ
theorem kD {t:Bool} (hh:A.handled=none) (hc:SqIt t s.heap c l i) (ht:SqOb t s.heap l its) (hx:its[i]?=none)
  (hE:∀h' e,Heap.ExtBut c s.heap h'->(∃o,h'.get? e=some o/\o.cls=.type "StopIteration")->E (.ref e) { s with heap:=h' }):wpAny (model prog w) A (Builtin.SmallTypes.nextOf (.ref c)) Q E s:=by
 cases t with
 | true=>exact nextT_end hh hc ht hx hE
 | false=>exact wpAny_nextOf_list_end hh hc ht hx hE
variable {f1 t1 t2:Bool}
theorem next_end {TI TO:Addr} {a b:Value} {Q:Option Value->Shared->Prop} (hh:A.handled=none) (D:Apart5 z TI TO i1 i2 l)
  (hz:IsZ s.heap z TI TO f0 f1) (hf:(f0=.none/\f1=false/\∃a b,IsPair s.heap TO a b)\/∃(T:Addr) (oT:Obj),f0=rawInt (T:Nat)/\s.heap.get? T=some oT) (hTI:IsPair s.heap TI (.ref i1) (.ref i2)) (h1:SqIt t1 s.heap i1 l k) (hl:SqOb t1 s.heap l xs) (hv:xs[k]?=none)
  (hQ:∀h',(∀c o,c≠z->c≠i1->s.heap.get? c=some o->h'.get? c=some o)->Q none { s with heap:=h' }):wpAny (model prog w) A (pyNext (.ref z)) Q E s:=by
 have hTy:s.TypeIs (.ref z) "zip" := ⟨_,hz,rfl⟩;unfold pyNext
 refine Qa (wpAny_attempt (QY (name:=Str.ofString "__next__") hTy F.slot_zip_next
  (QV F.slot_zip_next hTy F.entry_zip_next ?_ (F.args_zip_next_1 _))))
 show wpAny _ _ (field (.ref z) 2 >>= _) _ _ _;refine Qa (Q1 hz rfl (x:=.bool false) rfl ?_);show wpAny _ _ (field (.ref z) 3 >>= _) _ _ _;refine Qa (Q1 hz rfl (x:=.ref TI) rfl ?_);refine Qa (xt hTI rfl ?_);show wpAny _ _ (Builtin.SmallTypes.ownedTupleIsFree (.ref z) >>= _) _ _ _;refine Qa ?_;unfold Builtin.SmallTypes.ownedTupleIsFree;refine Qa (Q1 hz rfl (x:=f0) rfl ?_)
 have fin:∀h' e,(∀c o,c≠z->c≠i1->s.heap.get? c=some o->h'.get? c=some o)->(∃o,h'.get? e=some o/\o.cls=.type "StopIteration") ->
   wpAny (model prog w) A (do if <-isInstance (.ref e) (.type "StopIteration") then pure none else throw (.ref e)) Q E { s with heap:=h' }:=λh' e hk ⟨o,ho,hc⟩ =>
  Qa (xQ (T := "StopIteration") (b:=true) ⟨o,ho,hc⟩ isSubtype_stop (Qf (hQ _ hk)))
 rcases hf with⟨e1,e2,a,b,hTO⟩|⟨T,oT,e1,hT⟩
 ·subst e1 e2;refine Qf ?_;simp only[if_true];refine Qa (wpAny_rule ?_);refine Qa (Q1 hz rfl (x:=.ref TO) rfl ?_);refine Qa (xk hz (by simp) λh₁ hz1 hs1=>?_)
  replace hz1:IsZ h₁ z TI TO .ellipsis false:=hz1
  refine Qa ?_;simp only[List.zipIdx_cons,List.zipIdx_nil,xE,xL];refine Qa (Qa (wpAny_onRaise ?_));show wpAny _ _ (Builtin.SmallTypes.nextOf (.ref i1) >>= _) _ _ _;refine Qa (kD hh (h1.extBut hs1.extBut D.i1z) (hl.extBut hs1.extBut D.lz) hv λh₂ e hs₂ he=>?_);obtain⟨oe,hoe,hce⟩:=he;have hz₂:IsZ h₂ z TI TO .ellipsis false:=hs₂ _ _ D.i1z.symm hz1;have hez:e≠z:=λx=>by subst x;rw[hz₂]at hoe;cases hoe;simp at hce
  refine xk hz₂ (by simp) λh₃ _ hs₃=>?_;exact fin h₃ e (λc o c1 c3 x=>hs₃.extBut _ _ c1 (hs₂ _ _ c3 (hs1.extBut _ _ c1 x))) ⟨oe,hs₃.extBut _ _ hez hoe,hce⟩
 subst e1;show wpAny _ _ (loadIfAlive ((T:Int).toNat) >>= _) _ _ _;rw[QX];refine Qa (qE hT ?_);simp only[Option.isNone_some,Qz,xq];refine Qa (Q1 hz rfl (x:=.bool f1) rfl ?_)
 cases f1 with
 | false =>
  simp only[show (Value.bool false != Value.bool true)=true from rfl,if_true];refine Qa (xk hz (by simp) λh₁ hz1 hs1=>Qf ?_)
  replace hz1:IsZ h₁ z TI TO (rawInt T) true:=hz1
  simp only[Qz,xq,List.forIn_toArray,xE,xL];refine Qa (Qa (Qa (Q7 ?_)));show wpAny _ _ (Builtin.SmallTypes.nextOf (.ref i1) >>= _) _ _ _;refine Qa (kD hh (h1.extBut hs1.extBut D.i1z) (hl.extBut hs1.extBut D.lz) hv λh₂ e hs₂ he=>?_);exact fin h₂ e (λc o c1 c3 x=>hs₂ _ _ c3 (hs1.extBut _ _ c1 x)) he
 | true =>
 simp only[show (Value.bool true != Value.bool true)=false from rfl,Qz,xq];refine Qf ?_;simp only[Qz,xq,List.forIn_toArray,xE,xL];refine Qa (Qa (Qa (Q7 ?_)));show wpAny _ _ (Builtin.SmallTypes.nextOf (.ref i1) >>= _) _ _ _;refine Qa (kD hh h1 hl hv λh₂ e hs₂ he=>?_);exact fin h₂ e (λc o c1 c3 x=>hs₂ _ _ c3 x) he
theorem next_first {TI TO:Addr} {b:Value} {Q:Option Value->Shared->Prop} (D:Apart5 z TI TO i1 i2 l) (mz:m≠z) (mTO:m≠TO) (mi1:m≠i1) (mi2:m≠i2)
  (hz:IsZ s.heap z TI TO .none false) (hTI:IsPair s.heap TI (.ref i1) (.ref i2)) (hTO:IsPair s.heap TO a b) (h1:SqIt t1 s.heap i1 l k) (h2:SqIt t2 s.heap i2 m k) (hl:SqOb t1 s.heap l xs) (hm:SqOb t2 s.heap m ys) (hv:xs[k]?=some v) (hc:ys[k]?=some u)
  (hQ:∀h',IsZ h' z TI TO (rawInt s.heap.objs.size) false->(∃a b,IsPair h' TO a b)->SqIt t1 h' i1 l (k+1)->SqIt t2 h' i2 m (k+1)->IsPair h' s.heap.objs.size v u->h'.objs.size=s.heap.objs.size+1 ->
   (∀c o,c≠z->c≠TO->c≠i1->c≠i2->s.heap.get? c=some o->h'.get? c=some o)->Q (some (.ref s.heap.objs.size)) { s with heap:=h' }) :
  wpAny (model prog w) A (pyNext (.ref z)) Q E s:=by
 have hT:s.TypeIs (.ref z) "zip" := ⟨_,hz,rfl⟩;unfold pyNext
 refine Qa (wpAny_attempt (QY (name:=Str.ofString "__next__") hT F.slot_zip_next
  (QV F.slot_zip_next hT F.entry_zip_next ?_ (F.args_zip_next_1 _))))
 show wpAny _ _ (field (.ref z) 2 >>= _) _ _ _;refine Qa (Q1 hz rfl (x:=.bool false) rfl ?_);show wpAny _ _ (field (.ref z) 3 >>= _) _ _ _;refine Qa (Q1 hz rfl (x:=.ref TI) rfl ?_);refine Qa (xt hTI rfl ?_);show wpAny _ _ (Builtin.SmallTypes.ownedTupleIsFree (.ref z) >>= _) _ _ _;refine Qa ?_;unfold Builtin.SmallTypes.ownedTupleIsFree;refine Qa (Q1 hz rfl (x:=.none) rfl (Qf ?_));simp only[if_true];refine Qa (wpAny_rule ?_);refine Qa (Q1 hz rfl (x:=.ref TO) rfl ?_);refine Qa (xk hz (by simp) λh₁ hz1 hs1=>?_)
 replace hz1:IsZ h₁ z TI TO .ellipsis false:=hz1
 refine Qa ?_;simp only[List.zipIdx_cons,List.zipIdx_nil,xE,xL];refine Qa (Qa (wpAny_onRaise ?_));show wpAny _ _ (Builtin.SmallTypes.nextOf (.ref i1) >>= _) _ _ _;refine Qa (lP (h1.extBut hs1.extBut D.i1z) (hl.extBut hs1.extBut D.lz) hv λh₂ h12 hs₂=>Qf ?_);have hTO2:IsPair h₂ TO a b:=hs₂.extBut _ _ D.TOi1 (hs1.extBut _ _ D.TOz hTO);refine Qa (xt hTO2 rfl ?_);refine Qa (wpAny_updateSeq_pair hTO2 λh₃ hTO3 hs₃=>?_)
 replace hTO3:IsPair h₃ TO v b:=hTO3
 refine Qa (wpAny_letGo (Qf ?_));refine Qa (Qa (wpAny_onRaise ?_));show wpAny _ _ (Builtin.SmallTypes.nextOf (.ref i2) >>= _) _ _ _;have h23:SqIt t2 h₃ i2 m k:=((h2.extBut hs1.extBut D.i2z).extBut hs₂.extBut D.i12.symm).extBut hs₃.extBut D.TOi2.symm;refine Qa (lP h23 (((hm.extBut hs1.extBut mz).extBut hs₂.extBut mi1).extBut hs₃.extBut mTO) hc λh₄ h24 hs4=>Qf ?_);have hTO4:IsPair h₄ TO v b:=hs4.extBut _ _ D.TOi2 hTO3;refine Qa (xt hTO4 rfl ?_);refine Qa (wpAny_updateSeq_pair hTO4 λh₅ hTO5 hs5=>?_)
 replace hTO5:IsPair h₅ TO v u:=hTO5
 refine Qa (wpAny_letGo (Qf (Qf ?_)));refine Qa (xt hTO5 rfl ?_);refine Qa (wpAny_newTuple ?_);have hsz:h₅.objs.size=s.heap.objs.size:=by rw[hs5.1,hs4.1,hs₃.1,hs₂.1,hs1.1]
 have hz5:IsZ h₅ z TI TO .ellipsis false:=hs5.extBut _ _ D.TOz.symm (hs4.extBut _ _ D.i2z.symm (hs₃.extBut _ _ D.TOz.symm (hs₂.extBut _ _ D.i1z.symm hz1)))
 have hk5:∀c o,c≠z->c≠TO->c≠i1->c≠i2->s.heap.get? c=some o->h₅.get? c=some o:=λc o c1 c2 c3 c4 e =>
  hs5.extBut _ _ c2 (hs4.extBut _ _ c4 (hs₃.extBut _ _ c2 (hs₂.extBut _ _ c3 (hs1.extBut _ _ c1 e))))
 have h15:SqIt t1 h₅ i1 l (k+1):=((h12.extBut hs₃.extBut D.TOi1.symm).extBut hs4.extBut D.i12).extBut hs5.extBut D.TOi1.symm;have h25:SqIt t2 h₅ i2 m (k+1):=h24.extBut hs5.extBut D.TOi2.symm;have hzlt:z<h₅.objs.size:=Qr hz5;show wpAny _ _ (Builtin.SmallTypes.ownedTupleHandOut (.ref z) (.ref h₅.objs.size) >>= _) _ _ _;refine Qa ?_;unfold Builtin.SmallTypes.ownedTupleHandOut;have hz6:IsZ (h₅.push { cls:=.type "tuple", data:=.seq #[v,u] }) z TI TO .ellipsis false:=Qd _ hz5;refine Qa (xk hz6 (by simp) λh₇ hz7 hs7=>?_)
 replace hz7:IsZ h₇ z TI TO (rawInt h₅.objs.size) false:=hz7
 refine xk hz7 (by simp) λh₈ hz₈ hs8=>?_
 replace hz₈:IsZ h₈ z TI TO (rawInt h₅.objs.size) false:=hz₈
 have up:∀c o,c≠z->h₅.get? c=some o->h₈.get? c=some o:=λc o c1 e=>hs8.extBut _ _ c1 (hs7.extBut _ _ c1 (Qd _ e));have hT8:IsPair h₈ h₅.objs.size v u:=hs8.extBut _ _ (Nat.ne_of_gt hzlt) (hs7.extBut _ _ (Nat.ne_of_gt hzlt) (Qt _ rfl));have hz8:h₈.objs.size=h₅.objs.size+1:=by rw[hs8.1,hs7.1,xy]
 rw[hsz]at hz₈ hT8 hz8;refine Qf ⟨_,rfl,Qf ?_⟩;show Q (some (.ref h₅.objs.size)) _;rw[hsz];exact hQ h₈ hz₈ ⟨_,_,up _ _ D.TOz hTO5⟩ (h15.at λo e=>up _ o D.i1z e) (h25.at λo e=>up _ o D.i2z e) hT8 hz8 λc o c1 c2 c3 c4 e=>up c o c1 (hk5 c o c1 c2 c3 c4 e)
abbrev zH1 (t1:Bool) (h:Heap) (l:Addr):Heap:=h.push { cls:=.type (p7 t1),data:=.fields #[.ref l,.int 0 0] }
abbrev zH2 (t1 t2:Bool) (h:Heap) (l m:Addr):Heap:=(zH1 t1 h l).push { cls:=.type (p7 t2),data:=.fields #[.ref m,.int 0 0] }
abbrev zH3 (t1 t2:Bool) (h:Heap) (l m:Addr):Heap:=(zH2 t1 t2 h l m).push { cls:=.type "tuple", data:=.seq #[.ref h.objs.size,.ref (zH1 t1 h l).objs.size] }
abbrev zH4 (t1 t2:Bool) (h:Heap) (l m:Addr):Heap:=(zH3 t1 t2 h l m).push { cls:=.type "tuple", data:=.seq #[.none,.none] }
abbrev zH5 (t1 t2:Bool) (h:Heap) (l m:Addr):Heap:=(zH4 t1 t2 h l m).push { cls:=.type "zip", data:=.fields #[.none,.bool false,.bool false,.ref (zH2 t1 t2 h l m).objs.size,.ref (zH3 t1 t2 h l m).objs.size] }
theorem m9 (t1 t2:Bool) (l m:Addr) (xs ys:Array Value) :
  Meets (Builtin.«zip.__new__» ⟨[.type "zip", .ref l,.ref m],[]⟩) (λ_ R s=>SqOb t1 s.heap l xs/\SqOb t2 s.heap m ys/\R (.ok (.ret (.ref (zH4 t1 t2 s.heap l m).objs.size))) { s with heap:=zH5 t1 t2 s.heap l m }) :=
 .of_wp λprog w A R s h=>by
  obtain⟨hp,g,d,tk,os⟩:=s;obtain⟨hl1,hl2,h⟩:=h;have hsub:=sub_zip;have hL1:SqOb t1 (Shared.heap ⟨hp,g,d,tk,os⟩) l xs:=hl1;have hL2:SqOb t2 (Shared.heap ⟨hp.push { cls:=.type (p7 t1),data:=.fields #[.ref l,.int 0 0] },g,d,tk,os⟩) m ys:=hl2.push _
  wp_walk using pY hL1,pY hL2
  exact⟨_,rfl,h⟩
theorem call_zip (hl1:SqOb t1 s.heap l xs) (hl2:SqOb t2 s.heap m ys)
  (h:∀h',IsZ h' (s.heap.objs.size+4) (s.heap.objs.size+2) (s.heap.objs.size+3) .none false->IsPair h' (s.heap.objs.size+2) (.ref s.heap.objs.size) (.ref (s.heap.objs.size+1)) ->
   IsPair h' (s.heap.objs.size+3) .none .none->SqIt t1 h' s.heap.objs.size l 0->SqIt t2 h' (s.heap.objs.size+1) m 0->h'.objs.size=s.heap.objs.size+5 ->
   (∀c o,s.heap.get? c=some o->h'.get? c=some o)->Q (.ref (s.heap.objs.size+4)) { s with heap:=h' }) :
  wpAny (model prog w) A (call (.type "zip") [.ref l,.ref m]) Q E s:=by
 refine callType_new F.called_zip (by decide) (F.typeCall_zip_2 _ _) (F.newCall_zip_2 _ _) (λobj=>F.args_object_init_3 obj _ _) F.entry_zip_new (m9 t1 t2 l m xs ys) ⟨hl1,hl2,?_⟩;have z1:(zH1 t1 s.heap l).objs.size=s.heap.objs.size+1:=xy ..;have z2:(zH2 t1 t2 s.heap l m).objs.size=s.heap.objs.size+2:=by rw[xy,z1]
 have z3:(zH3 t1 t2 s.heap l m).objs.size=s.heap.objs.size+3:=by rw[xy,z2]
 have z4:(zH4 t1 t2 s.heap l m).objs.size=s.heap.objs.size+4:=by rw[xy,z3]
 have z5:(zH5 t1 t2 s.heap l m).objs.size=s.heap.objs.size+5:=by rw[xy,z4]
 have g5:(zH5 t1 t2 s.heap l m).get? (zH4 t1 t2 s.heap l m).objs.size=some _:=Qt _ rfl;have g4:(zH5 t1 t2 s.heap l m).get? (zH3 t1 t2 s.heap l m).objs.size=some _:=Qd _ (Qt _ rfl);have g3:(zH5 t1 t2 s.heap l m).get? (zH2 t1 t2 s.heap l m).objs.size=some _:=Qd _ (Qd _ (Qt _ rfl));have g2:(zH5 t1 t2 s.heap l m).get? (zH1 t1 s.heap l).objs.size=some _:=Qd _ (Qd _ (Qd _ (Qt _ rfl)));have g1:(zH5 t1 t2 s.heap l m).get? s.heap.objs.size=some _:=Qd _ (Qd _ (Qd _ (Qd _ (Qt _ rfl))));show _/\_;rw[z2,z3,z4]at g5;rw[z1,z2]at g3;rw[z3]at g4;rw[z1]at g2;rw[z4]
 exact⟨⟨_,g5,rfl⟩,h _ g5 g3 g4 (SqIt.of g1) (SqIt.of g2) z5 λc o x =>
  Qd _ (Qd _ (Qd _ (Qd _ (Qd _ x))))⟩
end
end LZg
namespace L2
open PySem PySem.Spec PyProof.Rows
def SqS:Bool->PySem.W.Frag->Hp->Addr->List V->Prop
 | true,K,H,a,xs=>SqT K H a xs
 | false,K,H,a,xs=>SqL K H a xs
variable {xs ys:List V} {pins:A1}
theorem Inv.sq {X:Cx} {U:St} {H:Hp} {s:Shared} (I:Inv X pins U H s) {t:Bool} {a:Addr} (h:SqS t X.K H a xs):∃its:List Value,aL xs its/\LZg.SqOb t s.heap a its.toArray/\xs.length<=sizeLine:=by
 cases t with
 | true=>obtain⟨its,r,p,z⟩:=I.tuple h;exact⟨its,r,p,z⟩
 | false=>obtain⟨its,r,p,z⟩:=I.list h;exact⟨its,r,p.isList,z⟩
theorem Inv.sq_inj {X:Cx} {U:St} {H:Hp} {s:Shared} (I:Inv X pins U H s) {t:Bool} {a:Addr} (h1:SqS t X.K H a xs) (h2:SqS t X.K H a ys):xs=ys:=by
 cases t with
 | true=>exact I.tuple_inj h1 h2
 | false=>exact I.list_inj h1 h2
noncomputable def f9 (t1 t2:Bool) (K:PySem.W.Frag) (a b:Addr):It :=
 ⟨λi H=>(∃xs x,SqS t1 K H a xs/\xs[i]?=some x)/\∃ys y,SqS t2 K H b ys/\ys[i]?=some y,λi H x H'=>∃T v u,H T=none/\x=.ref T/\H'=upd H T (.tup [v,u])/\(∀xs,SqS t1 K H a xs->xs[i]?=some v)/\∀ys,SqS t2 K H b ys->ys[i]?=some u,λi H=>∃xs,SqS t1 K H a xs/\xs.length<=i⟩
theorem mK {t1 t2:Bool} {P:Program} {w:World} {K:PySem.W.Frag} {elts:List Expr} {k:Nat} {pos:Pos} (a bb z TI TO i1 i2:Addr) (D:LZ.Apart5 z TI TO i1 i2 a) (mz:bb≠z) (mTO:bb≠TO) (mi1:bb≠i1) (mi2:bb≠i2) :
  Turn P w K (.Tuple elts k pos) (f9 t1 t2 K a bb) [z,TI,TO,i1,i2] z (λi h=>LZ.IsZ h z TI TO .none false/\IsPair h TI (.ref i1) (.ref i2)/\(∃u v,IsPair h TO u v)/\LZg.SqIt t1 h i1 a i/\LZg.SqIt t2 h i2 bb i) where
 mem:=by simp
 obj:=λi h st b hb=>by
  obtain⟨hz,hTI,⟨u,v,hTO⟩,h1,h2⟩:=st;obtain⟨o1,g1,d1⟩:=h1.raw;obtain⟨o2,g2,d2⟩:=h2.raw;simp only[Qg,Qm,QQ]at hb;rcases hb with rfl|rfl|rfl|rfl|rfl
  ·exact⟨_,hz,λv q=>by have q':Data.fields _=Data.cell v:=q;cases q'⟩
  ·exact⟨_,hTI,λv q=>by have q':Data.seq _ _=Data.cell v:=q;cases q'⟩
  ·exact⟨_,hTO,λv q=>by have q':Data.seq _ _=Data.cell v:=q;cases q'⟩
  ·exact⟨o1,g1,λv q=>by rw[d1]at q;cases q⟩
  exact⟨o2,g2,λv q=>by rw[d2]at q;cases q⟩
 keep:=λi h h' st kk=>by
  obtain⟨hz,hTI,⟨u,v,hTO⟩,h1,h2⟩:=st;exact⟨kk z (by simp) _ hz,kk TI (by simp) _ hTI,⟨u,v,kk TO (by simp) _ hTO⟩,h1.at λo e=>kk i1 (by simp) o e,h2.at λo e=>kk i2 (by simp) o e⟩
 item:=by
  intro X hP hw hK hc i pins s U H E I hf st hg;subst hP hw hK;obtain⟨⟨xs,y,hq,hx⟩,ys,y2,hq2,hx2⟩:=hg;obtain⟨its,rv,p,hsz⟩:=I.sq hq;obtain⟨u,hu,ru⟩:=rv.get hx;obtain⟨its2,rv2,p2,hsz2⟩:=I.sq hq2;obtain⟨u2,hu2,ru2⟩:=rv2.get hx2;obtain⟨hz,hTI,⟨a0,b0,hTO⟩,h1,h2⟩:=st;refine LZg.next_first D mz mTO mi1 mi2 hz hTI hTO h1 h2 p p2 (v:=u) (u:=u2) (by simpa using hu) (by simpa using hu2) λh' b1 b2 b3 b4 b5 b6 b7=>⟨_,rfl,?_⟩;refine wpAny_letOwnedTupleGo_zip (T:=s.heap.objs.size) b1 λh2' c1 c2=>?_
  have szT:∀c∈[z,TI,TO,i1,i2],c≠s.heap.objs.size:=λc hc=>by
   have:∃o,s.heap.get? c=some o:=by
    simp only[Qg,Qm,QQ]at hc;obtain⟨o1,g1,_⟩:=h1.raw;obtain⟨o2,g2,_⟩:=h2.raw;rcases hc with rfl|rfl|rfl|rfl|rfl
    ·exact⟨_,hz⟩
    ·exact⟨_,hTI⟩
    ·exact⟨_,hTO⟩
    ·exact⟨_,g1⟩
    exact⟨_,g2⟩
   obtain⟨o,e⟩:=this;exact QG (Qr e)
  have zT:z≠s.heap.objs.size:=szT z (by simp)
  have keep2:∀b o,b∉[z,TI,TO,i1,i2]->s.heap.get? b=some o->h2'.get? b=some o:=λb o nb q=>by
   simp only[Qg,Qm,QQ,not_or]at nb;exact c2.extBut b o nb.1 (b7 b o nb.1 nb.2.2.1 nb.2.2.2.1 nb.2.2.2.2 q)
  have kp:∀{b o},b≠z->h'.get? b=some o->h2'.get? b=some o:=λnb q=>c2.extBut _ _ nb q;have tup2:h2'.get? s.heap.objs.size=some _:=kp (Ne.symm zT) b5
  have I2:Inv X pins U (upd H s.heap.objs.size (.tup [y,y2])) { s with heap:=h2',toks:=s.toks } :=
   I.turnedL (ch:=[z,TI,TO,i1,i2]) keep2 hf (Qi _) ⟨(by show 2<=sizeLine;decide),[u,u2],.cons ru (.cons ru2 .nil),⟨_,tup2,rfl,_,rfl⟩⟩
  obtain⟨a1,b1',b2'⟩:=b2;refine⟨.ref s.heap.objs.size,_,I2,rfl,⟨s.heap.objs.size,y,y2,I.hok.fresh (Qi _),rfl,rfl,λys hy=>by rw[I.sq_inj hy hq];exact hx,λys hy=>by rw[I.sq_inj hy hq2];exact hx2⟩,⟨c1,?_,⟨a1,b1',?_⟩,?_,?_⟩,λb hb=>?_⟩
  ·exact kp D.TIz (b7 TI _ D.TIz D.TITO D.TIi1 D.TIi2 hTI)
  ·exact kp D.TOz b2'
  ·exact b3.at λo e=>kp D.i1z e
  ·exact b4.at λo e=>kp D.i2z e
  rw[ag (szT b hb)];exact(hf b hb).1
 done:=by
  intro X hP hw hK hc i pins s U H E I hf st hg;subst hP hw hK;obtain⟨xs,hq,hx⟩:=hg;obtain⟨its,rv,p,hsz⟩:=I.sq hq;obtain⟨hz,hTI,hTO,h1,h2⟩:=st;have hlen:=rv.length;refine LZg.next_end (a:=.none) (b:=.none) (I.ok.hd hc) D hz (.inl ⟨rfl,rfl,hTO⟩) hTI h1 p (by simp;omega) λh' eb=>⟨rfl,?_⟩
  exact I.turnedE (t':=s.toks) (ch:=[z,TI,TO,i1,i2]) (λb o nb q=>by
   simp only[Qg,Qm,QQ,not_or]at nb
   exact eb b o nb.1 nb.2.2.2.1 q) hf
 self:=λ_ _ _ _ _ st h=>wpAny_pyIter_zip st.1 h
section
variable {X:Cx} {elts:List Expr} {k:Nat} {tpos:Pos}
def vq (K:PySem.W.Frag) (ta:TA):TI:=λU H R=>ta U H λvs H1=>∃a b t1 t2,vs=[.ref a,.ref b]/\(∃xs,SqS t1 K H1 a xs)/\(∃ys,SqS t2 K H1 b ys)/\R (f9 t1 t2 K a b) H1
theorem dY {a b:Expr} {ta:TA} {p pos:Pos} (hg:Gl X "zip") (hm:X.mg "zip" = none) (ha:PA X [a,b] ta) (hs:starEach [a,b] X.env=[(false,eval a X.env),(false,eval b X.env)]:=by rfl) (hs2:starEach [b] X.env=[(false,eval b X.env)]:=by rfl):PI X (.Tuple elts k tpos) (.Call (.Name "zip" p) [a,b] [] pos) (vq X.K ta):=by
 intro pins s U H R I h;refine Call_ (dv I hg hm boot_zip (xT (thn (ha pos pins s U H _ I h) λus s1 ⟨vs,H1,I1,r1,q1⟩=>?_) (by rw[hs,hs2]) (by rw[hs2];rfl)));obtain⟨l,m,t1,t2,e,⟨xs,hq⟩,⟨ys,hq2⟩,q⟩:=q1;subst e;obtain⟨u1,u2,eu,r3,r2⟩:=i7 r1;subst eu;cases (show u1=Value.ref l from r3);cases (show u2=Value.ref m from r2)
 have frs:∀b∈[s1.heap.objs.size+4,s1.heap.objs.size+2,s1.heap.objs.size+3,s1.heap.objs.size,s1.heap.objs.size+1],s1.heap.objs.size<=b:=λb hb=>by
  simp only[Qg,Qm,QQ]at hb;rcases hb with rfl|rfl|rfl|rfl|rfl
  ·exact QO _ _
  ·exact QO _ _
  ·exact QO _ _
  ·exact Qi _
  exact QO _ _
 obtain⟨its,rv,pl,hz⟩:=I1.sq hq;obtain⟨its2,rv2,pl2,hz2⟩:=I1.sq hq2;refine LZg.call_zip pl pl2 λh' b1 b2 b3 b4 b5 b6 b7=>?_;refine wpAny_pyIter_zip b1 ?_;have I2:Inv X pins U H1 { s1 with heap:=h' }:=I1.kept (t':=s1.toks) b7;have ll:@LT.lt Nat _ l s1.heap.objs.size:=pl.lt;have lm:@LT.lt Nat _ m s1.heap.objs.size:=pl2.lt;refine⟨s1.heap.objs.size+4,[s1.heap.objs.size+4,s1.heap.objs.size+2,s1.heap.objs.size+3,s1.heap.objs.size,s1.heap.objs.size+1],_,_,H1,rfl,I2,mK l m (s1.heap.objs.size+4) (s1.heap.objs.size+2) (s1.heap.objs.size+3) s1.heap.objs.size (s1.heap.objs.size+1) ?_ (by show @Ne Nat _ _;omega) (by show @Ne Nat _ _;omega) (by show @Ne Nat _ _;omega) (by show @Ne Nat _ _;omega),⟨b1,b2,⟨_,_,b3⟩,b4,b5⟩,λb hb=>I1.fpOk (frs b hb) (I1.hok.fresh (frs b hb)),q⟩
 constructor <;> (show @Ne Nat _ _;omega)
theorem nU {t1 t2:Bool} {K:PySem.W.Frag} {H1:Hp} {D:Addr} {σ0:St} {g:TG} {te:TE} {tt:TT} {QD:Hp->Prop} {a b:Addr} {xs us:List V} (hz:xs.length<=us.length) (Pv:Nat->Hp->List V->Prop) (h0:Pv 0 (upd H1 D (.lst [])) []) (hD:∀i H ys,Pv i H ys->H D=some (.lst ys)/\SqS t1 K H a xs/\SqS t2 K H b us)
  (hs:∀i x u H ys T,xs[i]?=some x->us[i]?=some u->Pv i H ys->H T=none->g (.ref T) σ0 (upd H T (.tup [x,u])) λσ2 H2=>wk σ0 σ2/\tt σ2 H2 λb H3=>if b=true then te σ2 H3 (eh Pv xs.length D i ys) else ∃m',m'<xs.length-i/\(m'=xs.length-(i+1)/\i+1<=xs.length/\Pv (i+1) H3 ys))
  (hd:∀H ys,Pv xs.length H ys->QD H) :
  ∃W:Nat->Nat->Hp->List V->Prop,(∃m,W 0 m (upd H1 D (.lst [])) [])/\∀i m H ys,W i m H ys->H D=some (.lst ys)/\(((f9 t1 t2 K a b).stop i H/\QD H)\/((f9 t1 t2 K a b).go i H/\∀x H',(f9 t1 t2 K a b).yld i H x H'->g x σ0 H' λσ2 H2=>wk σ0 σ2/\tt σ2 H2 λb H3 =>
   if b=true then te σ2 H3 λv H4=>H4 D=some (.lst ys)/\ys.length<sizeLine/\∃m',m'<m/\W (i+1) m' (upd H4 D (.lst (ys++[v]))) (ys++[v]) else ∃m',m'<m/\W (i+1) m' H3 ys)):=by
 refine⟨λi m H ys=>m=xs.length-i/\i<=xs.length/\Pv i H ys,⟨_,rfl,QT _,h0⟩,?_⟩;rintro i m H ys ⟨rfl,hi,p⟩;obtain⟨h1,q,q2⟩:=hD i H ys p;refine⟨h1,?_⟩;by_cases hlt:i<xs.length
 ·refine .inr ⟨⟨⟨xs,xs[i],q,by simp[hlt]⟩,us,us[i]'(by omega),q2,by rw[Qb]⟩,λx H' y=>?_⟩;obtain⟨T,v,u,hT,ex,eH,y1,y2⟩:=y;subst ex eH;exact hs i v u H ys T (y1 xs q) (y2 us q2) p hT
 have e:i=xs.length:=by omega
 subst e;exact .inl ⟨⟨xs,q,Qi _⟩,hd H ys p⟩
theorem qf {t1 t2:Bool} {K:PySem.W.Frag} {a b:Addr} {xs us:List V} {g:TG} {tb:TS} {D:Ends} {U:St} {H:Hp} (hz:xs.length<=us.length) (Pv:Nat->St->Hp->Prop) (h0:Pv 0 U H) (hl:∀i U H,i<=xs.length->Pv i U H->SqS t1 K H a xs/\SqS t2 K H b us)
  (hs:∀i x u U H T,xs[i]?=some x->us[i]?=some u->Pv i U H->H T=none->g (.ref T) U (upd H T (.tup [x,u])) λσ2 H2=>tb { D with nx:=Pv (i+1),ct:=Pv (i+1),bk:=D.nx } σ2 H2) (hd:∀U H,Pv xs.length U H->D.nx U H) :
  ∃W:Nat->Nat->St->Hp->Prop,(∃m,W 0 m U H)/\∀i m U H,W i m U H ->
   ((f9 t1 t2 K a b).stop i H/\D.nx U H)\/((f9 t1 t2 K a b).go i H/\∃N:St->Hp->Prop,(∀σ' H',N σ' H'->∃m',m'<m/\W (i+1) m' σ' H')/\∀x H',(f9 t1 t2 K a b).yld i H x H'->g x U H' λσ2 H2=>tb { D with nx:=N,ct:=N,bk:=D.nx } σ2 H2):=by
 refine⟨λi m U H=>m=xs.length-i/\i<=xs.length/\Pv i U H,⟨_,rfl,QT _,h0⟩,?_⟩;rintro i m U H ⟨rfl,hi,p⟩;obtain⟨d1,d2⟩:=hl i U H hi p;by_cases hlt:i<xs.length
 ·refine .inr ⟨⟨⟨xs,xs[i],d1,by simp[hlt]⟩,us,us[i]'(by omega),d2,by rw[Qb (by omega)]⟩,Pv (i+1),λσ' H' p'=>⟨xs.length-(i+1),by omega,rfl,hlt,p'⟩,λx H' y=>?_⟩;obtain⟨T,v,u,hT,ex,eH,hv,hu⟩:=y;subst ex eH;exact hs i v u U H T (hv _ d1) (hu _ d2) p hT
 have e:i=xs.length:=by omega
 subst e;exact .inl ⟨⟨xs,d1,Qi _⟩,hd U H p⟩
end
theorem qp {a:Nat} (h:a<=xs.length):iP xs (some (a:Int)) none=xs.drop a:=by
 unfold iP;rw[HT.lE,HT.ju,Nat.min_eq_left h,Q8 (by rw[xR];exact om1)]
theorem uu {a:Nat} (h:a<=xs.length):iP xs none (some (a:Int))=xs.take a:=by
 unfold iP;rw[HT.lE,HT.ju,Nat.min_eq_left h];simp
theorem qC (n:Nat):((List.range n).all λ_=>true)=true:=xa.mpr λ_ _=>rfl
section
variable {K:PySem.W.Frag} {H:Hp} {Q:VK}
theorem vm {a b:Addr} {xs ys:List V} (h1:SqL K H a xs) (h2:SqL K H b ys) (hl:xs.length=ys.length) (hi:∀(j:Nat) x y,xs[j]?=some x->ys[j]?=some y->EqD K H 8 x y true) (q:Q (.bl true) H):qT K false (.ref a) (.ref b) H Q:=by
 refine⟨a,b,xs,ys,λ_=>true,rfl,rfl,h1,h2,hi,?_⟩;rw[qC,hl,beq_self_eq_true];exact q
theorem ii {R:Bool->Hp->Prop} {l:Addr} {xs:List V} {U:St} (hl:H l=some (.lst xs)) (q:∀H',ak H H'->R (decide (xs.length=0)) H'):qO ja U H λy H2=>qT K false (.ref l) y H2 λx H'=>∃k,x=.bl k/\R k H':=by
 refine i_lst (aW ⟨by simp[sizeLine],λp hp=>?_⟩);refine⟨l,p,xs,[],λ_=>true,rfl,rfl,SqL.of (am hp _ _ hl),SqL.of af,λj x y _ e=>by simp at e,_,rfl,?_⟩
 have e:(if false=true then !(xs.length==([]:List V).length&&(List.range xs.length).all λ_=>true) else (xs.length==([]:List V).length&&(List.range xs.length).all λ_=>true))=decide (xs.length=0):=by
  rw[Qq Qn,qC,Bool.and_true];rfl
 rw[e];exact q _ (am hp)
end
section
variable {X:Cx}
def oQ (T:Addr):R2:=λx y H Q=>x=.ref T/\((y=.str "+" /\ Q (.str "0") H)\/(y=.str "-" /\ Q (.str "1") H))
theorem ud {T:Addr} (hT:gq X.K T [("+", .flat (.str "0")),("-", .flat (.str "1"))]):IxR X (oQ T):=by
 intro value slice pins s U H x y v u Q I rx ry h hs;obtain⟨e1,h⟩:=h;subst e1;cases rx;have here:KTD.Here X.base s.heap T [("+", .flat (.str "0")),("-", .flat (.str "1"))]:=⟨KTD.text_of_look (get:=λa=>X.K.lookup a) (λa o e=>I.mod.kin a o e) hT,I.bk⟩;rcases h with⟨e,q⟩|⟨e,q⟩
 ·subst e;obtain⟨t,e⟩:=ry;subst e;refine KTD.item_textA here (by rfl) (by decide +kernel) ?_ hs;have e:decide (("+" : Str) = "+")=true:=by decide +kernel
  simp only[KTD.EachL,e,if_true];exact λt=>⟨.str "0", H,I.tok _,⟨_,rfl⟩,q⟩
 subst e;obtain⟨t,e⟩:=ry;subst e;refine KTD.item_textA here (by rfl) (by decide +kernel) ?_ hs;have e:decide (("-" : Str) = "+")=false:=by decide +kernel
 simp only[KTD.EachL,e,Qz,xq];exact λ_ t=>⟨.str "1", H,I.tok _,⟨_,rfl⟩,q⟩
end
section
variable {X:Cx} {scope:Scope} {tgs:List Str} {cap:List (Str × Nat)}
theorem oW {j:Nat} {x:Str} {pos' spos:Pos} {elt tg iter:Expr} {ifs:List Expr} {pos:Pos} {wi:TI} {g:TG} {tt:TT} {te:TE} (hN:X.N.Nodup) (hj:X.N[j]?=some x) (hx:Loc X.env.scope x) (hc:X.calm=true) (B:BlockOk X scope tgs cap) (hi:PI X tg iter wi)
  (hg:∀C s H fp,PG (X.block (tgs++cap.map (·.1)) scope C s H fp) tg g) (ht:∀C s H fp,r8 (X.block (tgs++cap.map (·.1)) scope C s H fp) ifs tt) (he:∀C s H fp,PE (X.block (tgs++cap.map (·.1)) scope C s H fp) elt te)
  (hs:∀x,foldedSetIterable iter X.env x=pure x:=by intro _;rfl) (hsw:swapsWith (.ListComp elt [⟨tg,iter,ifs,0⟩] scope pos) (some (.Name x pos')) spos.line X.env=pure true:=by rfl)
  (hf:X.fn x=true\/X.env.scope.names.lookup x=some .local:=by z_go):PS X (.Assign [.Name x pos'] (.ListComp elt [⟨tg,iter,ifs,0⟩] scope pos) spos) (on (fz wi g tt te (br tgs cap)) (dh j)):=by
 intro pins s U H D I h;rw[exec_Assign_Name_used _ _ _ _ hsw];refine Qa (wpAny_standAt (Qa ?_));show wpAny _ _ (comprehension _ _ _ _ _ _ _ _ >>= _) _ _ _;refine Qa (thn (Q:=λ_ s'=>SP X pins D .next s') ?_ λ_ s' q=>Qf (Qf q));refine wpAny_comprehension_free (use:=some (assign (.Name x pos') X.env)) rfl hs (f6 (B.cellAt I.ok)) B.kind B.locs (thn (hi pins s U H _ I h) λv s1 h1=>thn h1 λitv s2 h2=>?_);obtain⟨it,fp,tn,J,H2,e,I2,T,st2,f2,q⟩:=h2;subst e;have lt2:∀b∈fp,b<s2.heap.objs.size:=λb hb=>let ⟨o,e,_⟩:=T.obj _ _ st2 b hb;Qr e;have hD:H2 s2.heap.objs.size=none:=I2.hok.fresh (Qi _);obtain⟨W,⟨m0,w0⟩,turn⟩:=q s2.heap.objs.size hD;refine xw ?_;have I3:Inv X pins U (upd H2 s2.heap.objs.size (.lst [])) { s2 with heap:=s2.heap.push { cls:=.type "list", dict:=none,data:=.seq ([]:List Value).toArray } }:=I2.lnew (t':=s2.toks) (ys:=[]) (its:=[]) .nil (QT _);have st3:tn 0 (s2.heap.push { cls:=.type "list", dict:=none,data:=.seq ([]:List Value).toArray }):=T.keep _ _ _ st2 λb _ o e=>Qd _ e;have nD:∀b∈fp,b≠s2.heap.objs.size:=λb hb=>QG (lt2 b hb);have f3:∀b∈fp,dB X pins (upd H2 s2.heap.objs.size (.lst [])) b:=λb hb=>⟨by rw[ag (nD b hb)];exact(f2 b hb).1,(f2 b hb).2⟩;generalize hs3:({ s2 with heap:=s2.heap.push { cls:=.type "list", dict:=none,data:=.seq ([]:List Value).toArray } }:Shared)=s3 at I3 st3 ⊢;have st3':tn 0 s3.heap:=by rw[<-hs3];exact st3
 have lt3:∀b∈fp,b<s3.heap.objs.size:=λb hb=>let ⟨o,e,_⟩:=T.obj _ _ st3' b hb;Qr e;generalize hH3:upd H2 s2.heap.objs.size (.lst [])=H3 at I3 f3 w0;generalize s2.heap.objs.size=DD at *;refine wpAny_newFunctionEnv B.noc (by intro y hy;simp at hy) (λh1 hns hsb=>?_) B.kind;have old:∀b o,s3.heap.get? b=some o->h1.get? b=some o:=λb o e=>hsb.extBut b o (QG (Qr e)) (Qd _ e);have I4:=Inv.enter (tk:=s3.toks+([]:List (Str × Value)).length) (h1:=h1) B I3 f3 lt3 hns old;have st4:tn 0 h1:=T.keep _ _ _ st3' λb _ o e=>old b o e
 have fpB:∀{H':Hp},(∀b∈fp,H' b=none)->∀b∈fp,dB (X.block (tgs++cap.map (·.1)) scope s3.heap.objs.size s3 H3 fp) [] H' b:=λ{H'} hn b hb =>
  ⟨hn b hb,QG (lt3 b hb),I4.ok.exfs b hb,.inl hb,λx c e=>(I4.ok.exf b hb).2 x c e,λp hp=>absurd (show p∈([]:A1) from hp) (by simp)⟩
 have loop:codeAny (model X.prog X.w) X.A (.compLoop (.ListComp elt [⟨tg,iter,ifs,0⟩] scope pos) 0 (.ref it) (.ref DD) (compEnvC scope (bV X.env scope.names []) s3.heap.objs.size X.env))
   (compPost (model X.prog X.w) X.A X.xe (some (assign (.Name x pos') X.env)) (λ_ s'=>SP X pins D .next s') (.ref DD) s3.heap.objs.size) { s3 with heap:=h1,toks:=s3.toks+([]:List (Str × Value)).length }:=by
  refine d_ (λn s'=>∃i H' ys,Inv (X.block (tgs++cap.map (·.1)) scope s3.heap.objs.size s3 H3 fp) [] (br tgs cap U) H' s'/\tn i s'.heap/\(∀b∈fp,H' b=none)/\W i n H' ys) ?_ m0 ⟨0,H3,[],I4,st4,λb hb=>(f3 b hb).1,w0⟩;rintro n s5 ⟨i,H5,ys,I5,st5,fr5,w5⟩;obtain⟨hl,ht5⟩:=turn i n H5 ys w5;rcases ht5 with⟨stop,qd⟩|⟨go,step⟩
  ·refine thn (T.done (X.block (tgs++cap.map (·.1)) scope s3.heap.objs.size s3 H3 fp) rfl rfl rfl hc i [] s5 _ H5 _ I5 (fpB fr5) st5 stop) λr s6 ⟨hr,I6⟩=>?_;subst hr;obtain⟨m6,n6,_⟩:=I6.loc;have IO:Inv X pins U H5 s6:=Inv.leave (h2:=s6.heap) I3 f3 I6 ⟨rfl,λ_ _=>rfl⟩;have fC:dB X pins H5 s3.heap.objs.size:=⟨I6.free,(I3.fpOk (Qi _) (I3.hok.fresh (Qi _))).2⟩;obtain⟨f0,f1,f2',f3',f4,f5⟩:=fC;refine wpAny_assign_Name (gs IO hN hj hx (show aU (.ref DD) (.ref DD) from rfl) (λs7 I7 ⟨a,sb,ha⟩=>?_) hf)
   have na:s3.heap.objs.size≠a:=by
    rcases ha with z|z
    ·rw[z];exact f1
    exact λy=>f4 x a z y.symm
   obtain⟨o6,es6,ep6,ho6,r6⟩:=n6;refine⟨m6,⟨o6,es6,ep6,(sb.2 _ na).trans ho6,r6⟩,λh' hs'=>⟨_,H5,I7.turned (t':=s7.toks) (λb o hb q=>(hs'.2 b hb).trans q) f0 f1 f3' f4 f5,qd⟩⟩
  refine thn (T.item (X.block (tgs++cap.map (·.1)) scope s3.heap.objs.size s3 H3 fp) rfl rfl rfl hc i [] s5 _ H5 _ I5 (fpB fr5) st5 go) λr s6 ⟨u,hr,h6⟩=>?_;subst hr;refine thn h6 λ_ s7 ⟨x,H7,I7,r7,y7,st7,fr7⟩=>?_;have I7':=I7.pinned (fpB fr7) (T.obj _ _ st7)
  have again:∀{σ8:St} {H8:Hp} {s8:Shared} {ys8:List V},Inv (X.block (tgs++cap.map (·.1)) scope s3.heap.objs.size s3 H3 fp) ([]++eF fp s7.heap) σ8 H8 s8->wk (br tgs cap U) σ8->(∃m',m'<n/\W (i+1) m' H8 ys8) ->
    ∃m,m<n/\∃i H' ys,Inv (X.block (tgs++cap.map (·.1)) scope s3.heap.objs.size s3 H3 fp) [] (br tgs cap U) H' s8/\tn i s8.heap/\(∀b∈fp,H' b=none)/\W i m H' ys:=λ{σ8 H8 s8 ys8} I8 k8 ⟨m',hm,w8⟩=>by
   refine⟨m',hm,i+1,H8,ys8,I8.unpinned.weak (gT k8) (gU k8),T.keep _ _ _ st7 λb hb o e=>(I8.pin (b,o) (QC _ (QC _ (bY hb e)))).1,λb hb=>?_,w8⟩;obtain⟨o,e,d⟩:=T.obj _ _ st7 b hb;exact(I8.pin (b,o) (QC _ (QC _ (bY hb e)))).2.1
  refine thn (hg _ _ _ _ _ s7 _ H7 x u _ I7' r7 (step x H7 y7)) λ_ s8 ⟨σ8,H8,I8,k8,q8⟩=>?_;refine thn (ht _ _ _ _ _ s8 σ8 H8 _ I8 q8) λok s9 ⟨H9,I9,q9⟩=>?_
  cases ok with
  | false =>
   rw[Qq Qn]at q9 ⊢;exact again I9 k8 q9
  | true =>
  rw[Qw rfl]at q9 ⊢;refine thn (he _ _ _ _ _ s9 σ8 H9 _ I9 q9) λy sA ⟨yv,HA,IA,rA,hA,zA,qA⟩=>?_;exact thn (aZ _ sA σ8 HA (.ref DD) [yv] (.ref DD) [y] (λv H'=>v=.non/\∃m',m'<n/\W (i+1) m' H' (ys++[yv])) IA rfl (.cons rA .nil) ⟨DD,ys,yv,rfl,rfl,hA,zA,rfl,qA⟩) λ_ sB ⟨_,HB,IB,_,_,qB⟩=>again IB k8 qB
 exact codeAny_compStart_list loop (T.self _ 0 _ _ _ st4 loop)
end
end L2
namespace L2
open PySem PySem.Spec PyProof.Rows
open AutoSeq1 (wpAny_loadPart')
section
variable {P:Program} {w:World} {A:Around} {E:A0} {s:Shared}
end
end L2
namespace L2
open PySem PySem.Spec PyProof.Rows
section
variable {P:Program} {w:World} {A:Around} {E:A0} {s:Shared}
end
end L2
namespace LY
open PySem LZ
section
variable {prog:Program} {w:World} {A:Around} {E:A0} {s:Shared}
end
structure ApartM (z TI TO i1 i2 l m d:Addr):Prop extends ApartD z TI TO i1 i2 l d where
 mz:m≠z
 mTO:m≠TO
 mi1:m≠i1
 mi2:m≠i2
 dm:d≠m
structure ZS (h:Heap) (z TI TO i1 i2 l d:Addr) (m:Addr) (xs ys:Array Value) (k:Nat):Prop where
 zf:(IsZ h z TI TO .none false/\∃a b,IsPair h TO a b)\/∃(T:Addr) (f1:Bool) (oT:Obj),IsZ h z TI TO (rawInt (T:Nat)) f1/\h.get? T=some oT/\T≠z/\T≠i1/\T≠i2/\T≠d
 ti:IsPair h TI (.ref i1) (.ref i2)
 a1:h.IsListIter i1 l k
 a2:h.IsListIter i2 m k
 li:h.IsList l xs
 mi:h.IsList m ys
section
variable {prog:Program} {w:World} {K:Type} [DecidableEq K] {knd:KeyKind prog w K} {A:Around} {R:Result->Shared->Prop}
end
end LY
namespace L2
open PySem PySem.Spec PyProof.Rows
section
variable {X:Cx} {elts:List Expr} {k:Nat} {tpos:Pos}
end
section
variable {X:Cx}
end
end L2
namespace LYT
open PySem LZ
section
variable {prog:Program} {w:World} {A:Around} {E:A0} {s:Shared}
variable {Q:A0} {its xs:Array Value}
theorem nextT_item {c t:Addr} {i:Nat} {x:Value} (hc:s.heap.IsTupleIter c t i) (ht:s.heap.IsTuple t its) (hx:its[i]?=some x)
  (hQ:∀h',h'.IsTupleIter c t (i+1)->Heap.SameBut c s.heap h'->Q x { s with heap:=h' }):wpAny (model prog w) A (Builtin.SmallTypes.nextOf (.ref c)) Q E s:=by
 obtain⟨o,ho,h1,h2⟩:=id hc;obtain⟨ot,hot,_,nt,hdt⟩:=ht;unfold Builtin.SmallTypes.nextOf;refine Qa (QY (name:=Str.ofString "__next__") hc.typeIs xn (QV xn hc.typeIs F.entry_tuple_iterator_next ?_ (F.args_tuple_iterator_next_1 _)));show wpAny _ _ (field (.ref c) 0 >>= _) _ _ s;refine Qa (Q1 ho h2 (x:=.ref t) rfl ?_);rw[Qq (show ¬((Value.ref t==Value.none)=true) from Qn)];show wpAny _ _ (field (.ref c) 1 >>= _) _ _ s;refine Qa (Q1 ho h2 (x:=.int i 0) rfl ?_);show wpAny _ _ (seqItems? _ >>= _) _ _ _;refine Qa (xt hot hdt ?_);simp only[QX,hx];refine Qa (xM ho h2 (by simp) (Qf ⟨x,rfl,Qf (hQ _ ⟨_,Q5 _ ho (Obj.isFreed_of_fields (xm h2 _)),(Obj.cls_mapFields ..).trans h1,?_⟩ (Q4 ..))⟩));rw[xm h2];simp[rawInt]
theorem nextT_end {c t:Addr} {i:Nat} (hh:A.handled=none) (hc:s.heap.IsTupleIter c t i) (ht:s.heap.IsTuple t its) (hx:its[i]?=none)
  (hE:∀h' e,Heap.ExtBut c s.heap h'->(∃o,h'.get? e=some o/\o.cls=.type "StopIteration")->E (.ref e) { s with heap:=h' }):wpAny (model prog w) A (Builtin.SmallTypes.nextOf (.ref c)) Q E s:=by
 obtain⟨o,ho,h1,h2⟩:=id hc;obtain⟨ot,hot,_,nt,hdt⟩:=ht;unfold Builtin.SmallTypes.nextOf;refine Qa (QY (name:=Str.ofString "__next__") hc.typeIs xn (QV xn hc.typeIs F.entry_tuple_iterator_next ?_ (F.args_tuple_iterator_next_1 _)));show wpAny _ _ (field (.ref c) 0 >>= _) _ _ s;refine Qa (Q1 ho h2 (x:=.ref t) rfl ?_);rw[Qq (show ¬((Value.ref t==Value.none)=true) from Qn)];show wpAny _ _ (field (.ref c) 1 >>= _) _ _ s;refine Qa (Q1 ho h2 (x:=.int i 0) rfl ?_);show wpAny _ _ (seqItems? _ >>= _) _ _ _;refine Qa (xt hot hdt ?_);simp only[QX,hx];refine Qa (wpAny_rule (Qa (xM ho h2 (by simp) ?_)));refine Qa (m:=newExc (.type "StopIteration") []) ?_;simp only[newExc,newTuple];refine Qa (xw ?_ (by size_fits));refine Qa (m:=firstArgMember _ _) (wpAny_of_eq (a:=Value.none) rfl ?_);refine xw ?_ (by size_fits);simp only[raiseNew];refine Qa (wpAny_handled ?_);rw[show A.in1.handled=none from hh];exact Qa (Qf (wpAny_throw (hE _ _ (((Q4 ..).extBut.push _).push _) ⟨_,Qt _ rfl,rfl⟩)))
theorem next_end {z TI TO i1 i2 l:Addr} {f0:Value} {f1:Bool} {k:Nat} {a b:Value} {Q:Option Value->Shared->Prop} (hh:A.handled=none) (D:Apart5 z TI TO i1 i2 l)
  (hz:IsZ s.heap z TI TO f0 f1) (hf:(f0=.none/\f1=false/\∃a b,IsPair s.heap TO a b)\/∃(T:Addr) (oT:Obj),f0=rawInt (T:Nat)/\s.heap.get? T=some oT) (hTI:IsPair s.heap TI (.ref i1) (.ref i2)) (h1:s.heap.IsTupleIter i1 l k) (hl:s.heap.IsTuple l xs) (hv:xs[k]?=none)
  (hQ:∀h',(∀c o,c≠z->c≠i1->s.heap.get? c=some o->h'.get? c=some o)->Q none { s with heap:=h' }):wpAny (model prog w) A (pyNext (.ref z)) Q E s:=by
 have hTy:s.TypeIs (.ref z) "zip" := ⟨_,hz,rfl⟩;unfold pyNext
 refine Qa (wpAny_attempt (QY (name:=Str.ofString "__next__") hTy F.slot_zip_next
  (QV F.slot_zip_next hTy F.entry_zip_next ?_ (F.args_zip_next_1 _))))
 show wpAny _ _ (field (.ref z) 2 >>= _) _ _ _;refine Qa (Q1 hz rfl (x:=.bool false) rfl ?_);show wpAny _ _ (field (.ref z) 3 >>= _) _ _ _;refine Qa (Q1 hz rfl (x:=.ref TI) rfl ?_);refine Qa (xt hTI rfl ?_);show wpAny _ _ (Builtin.SmallTypes.ownedTupleIsFree (.ref z) >>= _) _ _ _;refine Qa ?_;unfold Builtin.SmallTypes.ownedTupleIsFree;refine Qa (Q1 hz rfl (x:=f0) rfl ?_)
 have fin:∀h' e,(∀c o,c≠z->c≠i1->s.heap.get? c=some o->h'.get? c=some o)->(∃o,h'.get? e=some o/\o.cls=.type "StopIteration") ->
   wpAny (model prog w) A (do if <-isInstance (.ref e) (.type "StopIteration") then pure none else throw (.ref e)) Q E { s with heap:=h' }:=λh' e hk ⟨o,ho,hc⟩ =>
  Qa (xQ (T := "StopIteration") (b:=true) ⟨o,ho,hc⟩ isSubtype_stop (Qf (hQ _ hk)))
 rcases hf with⟨e1,e2,a,b,hTO⟩|⟨T,oT,e1,hT⟩
 ·subst e1 e2;refine Qf ?_;simp only[if_true];refine Qa (wpAny_rule ?_);refine Qa (Q1 hz rfl (x:=.ref TO) rfl ?_);refine Qa (xk hz (by simp) λh₁ hz1 hs1=>?_)
  replace hz1:IsZ h₁ z TI TO .ellipsis false:=hz1
  refine Qa ?_;simp only[List.zipIdx_cons,List.zipIdx_nil,xE,xL];refine Qa (Qa (wpAny_onRaise ?_));show wpAny _ _ (Builtin.SmallTypes.nextOf (.ref i1) >>= _) _ _ _;refine Qa (nextT_end hh (h1.extBut hs1.extBut D.i1z) (hl.extBut hs1.extBut D.lz) hv λh₂ e hs₂ he=>?_);obtain⟨oe,hoe,hce⟩:=he;have hz₂:IsZ h₂ z TI TO .ellipsis false:=hs₂ _ _ D.i1z.symm hz1;have hez:e≠z:=λx=>by subst x;rw[hz₂]at hoe;cases hoe;simp at hce
  refine xk hz₂ (by simp) λh₃ _ hs₃=>?_;exact fin h₃ e (λc o c1 c3 x=>hs₃.extBut _ _ c1 (hs₂ _ _ c3 (hs1.extBut _ _ c1 x))) ⟨oe,hs₃.extBut _ _ hez hoe,hce⟩
 subst e1;show wpAny _ _ (loadIfAlive ((T:Int).toNat) >>= _) _ _ _;rw[QX];refine Qa (qE hT ?_);simp only[Option.isNone_some,Qz,xq];refine Qa (Q1 hz rfl (x:=.bool f1) rfl ?_)
 cases f1 with
 | false =>
  simp only[show (Value.bool false != Value.bool true)=true from rfl,if_true];refine Qa (xk hz (by simp) λh₁ hz1 hs1=>Qf ?_)
  replace hz1:IsZ h₁ z TI TO (rawInt T) true:=hz1
  simp only[Qz,xq,List.forIn_toArray,xE,xL];refine Qa (Qa (Qa (Q7 ?_)));show wpAny _ _ (Builtin.SmallTypes.nextOf (.ref i1) >>= _) _ _ _;refine Qa (nextT_end hh (h1.extBut hs1.extBut D.i1z) (hl.extBut hs1.extBut D.lz) hv λh₂ e hs₂ he=>?_);exact fin h₂ e (λc o c1 c3 x=>hs₂ _ _ c3 (hs1.extBut _ _ c1 x)) he
 | true =>
 simp only[show (Value.bool true != Value.bool true)=false from rfl,Qz,xq];refine Qf ?_;simp only[Qz,xq,List.forIn_toArray,xE,xL];refine Qa (Qa (Qa (Q7 ?_)));show wpAny _ _ (Builtin.SmallTypes.nextOf (.ref i1) >>= _) _ _ _;refine Qa (nextT_end hh h1 hl hv λh₂ e hs₂ he=>?_);exact fin h₂ e (λc o c1 c3 x=>hs₂ _ _ c3 x) he
end
end LYT
namespace L2
open PySem PySem.Spec PyProof.Rows
section
variable {X:Cx} {elts:List Expr} {k:Nat} {tpos:Pos}
end
section
variable {X:Cx}
def uV (K:PySem.W.Frag):List V->Hp->VK->Prop:=λxs H Q=>∃(x:V) (t:Addr) (Ts:List String) (ty:Value) (b:Bool),xs=[x,.ref t]/\H t=some (.tup (Ts.map V.ty))/\TyOf K H x ty/\PySem.W.kitAny K ty (Ts.map Value.type)=some b/\Q (.bl b) H
theorem i5:∀{Ts:List String} {us:List Value},aL (Ts.map V.ty) us->us=Ts.map Value.type
 | [],_,r=>by
  rw[List.map_nil]at r;cases r;rfl
 | c::cs,_,r=>by
  rw[Qu]at r
  cases r with
  | cons r1 r2=>rw[i5 r2,Qu];cases (show _=Value.type c from r1);rfl
theorem cQ:cG X (.builtin "isinstance") (uV X.K):=by
 intro pins s U H xs us Q I r h;obtain⟨x,t,Ts,ty,b,ex,ht,tt,kt,q⟩:=h;subst ex;obtain⟨u1,u2,eu,r1,r2⟩:=i7 r;subst eu;cases (show u2=Value.ref t from r2);obtain⟨its,rv,it,_⟩:=I.tuple (SqT.of ht);obtain⟨⟨_,_,_,_⟩,g,g2,n,g3⟩:=it;dsimp only at g2 g3;subst g2 g3;rw[i5 rv]at g;have fin:∀tk,EP X pins U Q (.bool b) { s with toks:=tk }:=λtk=>⟨.bl b,H,I.tok tk,rfl,q⟩
 cases tt with
 | non=>cases (show u1=Value.none from r1);exact xJ PySem.W.kitx_none I.kIn True.intro g kt (λz=>nomatch z) fin
 | bl y=>cases (show u1=Value.bool y from r1);exact xJ PySem.W.kitx_bool I.kIn True.intro g kt (λz=>nomatch z) fin
 | int i=>obtain⟨t,q⟩:=(show ∃t,u1=Value.int i t from r1);cases q;exact xJ PySem.W.kitx_int I.kIn True.intro g kt (λz=>nomatch z) fin
 | str y=>obtain⟨t,q⟩:=(show ∃t,u1=Value.str y t from r1);cases q;exact xJ PySem.W.kitx_str I.kIn True.intro g kt (λz=>nomatch z) fin
 | flt y=>obtain⟨t,q⟩:=(show ∃t,u1=Value.float y t from r1);cases q;exact xJ PySem.W.kitx_float I.kIn True.intro g kt (λz=>nomatch z) fin
 | @lst a xs ea =>
  cases (show u1=Value.ref a from r1);obtain⟨_,_,n,_,h1⟩:=(show a7 X.prog X.w H s.heap a (.lst xs) from I.hok a _ ea);exact xJ PySem.W.kitx_list I.kIn ⟨_,h1,rfl⟩ g kt (λz=>nomatch z) fin
 | @frz a ob xs ea =>
  cases (show u1=Value.ref a from r1);obtain⟨_,_,_,n,_,h1⟩:=(show a7 X.prog X.w H s.heap a (.frz ob (.lst xs)) from I.hok a _ ea);exact xJ PySem.W.kitx_list I.kIn ⟨_,h1,rfl⟩ g kt (λz=>nomatch z) fin
 | @tup a xs ea =>
  cases (show u1=Value.ref a from r1);obtain⟨_,_,_,p⟩:=(show a7 X.prog X.w H s.heap a (.tup xs) from I.hok a _ ea);obtain⟨o,h1,h2,_⟩:=p;exact xJ PySem.W.kitx_tuple I.kIn ⟨o,h1,h2⟩ g kt (λz=>nomatch z) fin
 | @dK a kvs ea =>
  cases (show u1=Value.ref a from r1);obtain⟨_,_,vs,_,p⟩:=(show a7 X.prog X.w H s.heap a (.dK kvs) from I.hok a _ ea);obtain⟨o,es,ep,h1,h2,_⟩:=p;exact xJ PySem.W.kitx_dict I.kIn ⟨o,h1,h2.1⟩ g kt (λz=>nomatch z) fin
 | @dT a kvs ea =>
  cases (show u1=Value.ref a from r1);obtain⟨_,_,xs,_,o,es,ep,h1,h2,_⟩:=(show a7 X.prog X.w H s.heap a (.dT kvs) from I.hok a _ ea);exact xJ PySem.W.kitx_dict I.kIn ⟨o,h1,h2.1⟩ g kt (λz=>nomatch z) fin
 | @ins a C dx fs ea cl ha hn htk hm =>
 cases (show u1=Value.ref a from r1);obtain⟨mA,O,_⟩:=l7 I.hok ea;obtain⟨od,J,_⟩:=O.look;exact xJ (PySem.W.kitx_own (cl.get _) cl.hd ha hn htk hm) I.kIn J g kt (λz=>nomatch z) fin
end
section
variable {X:Cx} {o e:Expr} {apos cpos:Pos} {ty:TE} {T:Addr}
end
section
variable {K:PySem.W.Frag} {g:TG} {te:TE} {σ0:St} {QD:Hp->Prop} {H1:Hp} {D:Addr}
theorem qt {a:Addr} {xs:List V} (Pv:Nat->Hp->List V->Prop) (h0:Pv 0 (upd H1 D (.lst [])) []) (hD:∀i H ys,Pv i H ys->H D=some (.lst ys)/\SqT K H a xs)
  (hs:∀i x H ys,xs[i]?=some x->Pv i H ys->g x σ0 H λσ2 H2=>wk σ0 σ2/\eZ σ2 H2 λb H3=>if b=true then te σ2 H3 (eh Pv xs.length D i ys) else ∃m',m'<xs.length-i/\(m'=xs.length-(i+1)/\i+1<=xs.length/\Pv (i+1) H3 ys)) (hd:∀H ys,Pv xs.length H ys->QD H) :
  ∃W:Nat->Nat->Hp->List V->Prop,(∃m,W 0 m (upd H1 D (.lst [])) [])/\∀i m H ys,W i m H ys->H D=some (.lst ys)/\(((Itt K a).stop i H/\QD H)\/((Itt K a).go i H/\∀x H',(Itt K a).yld i H x H'->g x σ0 H' λσ2 H2=>wk σ0 σ2/\eZ σ2 H2 λb H3 =>
   if b=true then te σ2 H3 λv H4=>H4 D=some (.lst ys)/\ys.length<sizeLine/\∃m',m'<m/\W (i+1) m' (upd H4 D (.lst (ys++[v]))) (ys++[v]) else ∃m',m'<m/\W (i+1) m' H3 ys)):=by
 refine⟨λi m H ys=>m=xs.length-i/\i<=xs.length/\Pv i H ys,⟨xs.length,by simp,QT _,h0⟩,?_⟩;rintro i m H ys ⟨rfl,hi,p⟩;obtain⟨d1,d2⟩:=hD i H ys p;refine⟨d1,?_⟩;by_cases hlt:i<xs.length
 ·refine .inr ⟨⟨xs,xs[i],d2,by simp[hlt]⟩,λx H' y=>?_⟩;obtain⟨e,y⟩:=y;subst e;exact hs i x _ ys (y xs d2) p
 have e:i=xs.length:=by exact om0 hi hlt
 subst e;exact .inl ⟨⟨xs,d2,Qi _⟩,hd H ys p⟩
theorem uO {U:St} {H:Hp} {tl:TE} {R:It->Hp->Prop} (q:tl U H λx H1=>∃a,x=.ref a/\(∃xs,SqT K H1 a xs)/\R (Itt K a) H1):vv K tl U H R:=q
end
section
variable {X:Cx}
end
section
variable {K:PySem.W.Frag} {g:TG} {te:TE} {tt:TT} {σ0:St} {QD:Hp->Prop} {H1:Hp} {D:Addr}
end
end L2
namespace L2
open PySem PySem.Spec PyProof.Rows
open AutoSeq1 (wpAny_loadPart')
section
variable {A:Around} {s:Shared} {l:Addr}
end
section
variable {X:Cx}
end
end L2
namespace K2
open PySem L2
abbrev IvF:=Nat->St->Hp->Prop
abbrev IvC:=Nat->Hp->List V->Prop
abbrev IvJ:=St->Hp->Prop
variable {X:Cx}
theorem c_ {K:PySem.W.Frag} (h:X.K=K):IxR X (tL K):=by subst h;exact aI
variable {H H' H1 H2:Hp}
theorem fH {td ty tv:TE} {D:Ends} {U:St} (q:tv U H λv H1=>td U H1 λx H2=>ty U H2 λy H3=>∃a H4,x=.ref a/\gi H3 a y v H4/\D.nx U H4):sE td ty tv D U H:=q
theorem p8 {td ty:TE} {U:St} {Q:VK} (q:ty U H λy H1=>td U H1 λx H2=>∃a o,x=.ref a/\eA H2 a y o/\Q (.bl (!o.isSome)) H2):lf ty td U H Q:=q
structure Txt (K:PySem.W.Frag) (mg:A2) (TT:Addr):Prop where
 n_len:mg "len" = none
 n_range:mg "range" = none
 n_max:mg "max" = none
 n_min:mg "min" = none
 n_int:mg "int" = none
 n_list:mg "list" = none
 n_str:mg "str" = none
 n_isinstance:mg "isinstance" = none
 n_all:mg "all" = none
 n_set:mg "set" = none
 n_dict:mg "dict" = none
 n_enumerate:mg "enumerate" = none
 n_sorted:mg "sorted" = none
 n_tuple:mg "tuple" = none
 n_bool:mg "bool" = none
 n_zip:mg "zip" = none
 n_reversed:mg "reversed" = none
 mNODES:∃t,mg "MOST_NODES" = some (.int 40 t)
 sA:∃a,mg "SIGNS_AHEAD" = some (.ref a)/\gq K a [("+", .flat (.str "0")),("-", .flat (.str "1"))]
 tURNED:mg "TURNED" = some (.ref TT)
 tab:gq K TT [("0", .flat (.str "1")),("1", .flat (.str "0"))]
structure Dk where
 d:Addr
 n:Nat
def Dk.more (D:Dk) (k:Nat):Dk:=⟨D.d,D.n+k⟩
def Dk.own (D:Dk) (b:Addr):Prop:=b=D.d
def Dk.At (D:Dk) (H:Hp):Prop:=∃a b c:Int,H D.d=some (.lst [.int a,.int b,.int c])/\0<=c/\c<=(D.n:Int)
structure Kp (D:Dk) (H H':Hp):Prop where
 old:∀b o,H b=some o->¬D.own b->H' b=some o
 dk:D.At H'
def eB:Sp:=λvs H Q _=>∃(D:Dk) (m:Int),vs=[.ref D.d,.int m]/\D.At H/\D.n<100000/\1<=m/\m<=100000/\∀(r:Int) H',0<=r->r<m->Kp (D.more 1) H H'->Q (.int r) H'
theorem sO {D:Dk} {a b c:Int} (h0:0<=c) (h1:c<=(D.n:Int)):Kp D H (upd H D.d (.lst [.int a,.int b,.int c])):=⟨λb o e nb=>by rw[ag nb];exact e,⟨_,_,_,af,h0,h1⟩⟩
def aO (H H':Hp):Prop:=∀b xs,H b=some (.tup xs)->H' b=some (.tup xs)
theorem ak.tups (S:ak H H'):aO H H':=λb xs e=>S b _ e
variable {D D':Dk}
theorem Dk.At.same {H':Hp} (S:ak H H') (h:D.At H):D.At H':=let ⟨a,b,c,e,l⟩:=h;⟨a,b,c,S _ _ e,l⟩
theorem Kp.of {D:Dk} (h:D.At H) (S:ak H H'):Kp D H H':=⟨λb o e _=>S b o e,h.same S⟩
theorem Kp.trans (a:Kp D H H1) (b:Kp D' H1 H2) (e:D.d=D'.d:=by rfl):Kp D' H H2:=⟨λc o h n=>b.old c o (a.old c o h (by unfold Dk.own at n ⊢;rw[e];exact n)) n,b.dk⟩
theorem Dk.At.le (a:D.At H) (l:D.n<=D'.n) (e:D.d=D'.d:=by rfl):D'.At H:=by
 obtain⟨x,y,z,h,h0,h1⟩:=a;exact⟨x,y,z,by rw[<-e];exact h,h0,by omega⟩
theorem Kp.le (a:Kp D H H') (l:D.n<=D'.n) (e:D.d=D'.d:=by rfl):Kp D' H H':=⟨λc o h n=>a.old c o h (by unfold Dk.own at n ⊢;rw[e];exact n),a.dk.le l e⟩
variable {o:HO} {b L l:Addr}
theorem iy {D:Dk} (DA:D.At H) (h:H b=some o) (hi:∀xs,o=.lst xs->∀i:Int,V.int i∉xs):¬D.own b:=by
 obtain⟨x,y,z,e,_⟩:=DA;intro q;cases q;rw[e]at h;exact hi _ (QH h).symm x (by simp)
theorem Kp.tups {D:Dk} (DA:D.At H) (k:Kp D H H'):aO H H':=λb xs e=>k.old b _ e (iy DA e (λ_ z=>nomatch z))
theorem kG (ns:List Str):∀i:Int,V.int i∉ns.map V.str:=λi h=>by
 obtain⟨x,_,e⟩:=Qo.mp h;cases e
theorem kH {xs:List V} (h:∀x∈xs,∃a,x=V.ref a):∀i:Int,V.int i∉xs:=λi hi=>by
 obtain⟨a,e⟩:=h _ hi;cases e
theorem Kp.fresh {o:HO} (DA:D.At H) (hL:H L=none) (k:Kp D H H'):Kp D H (upd H' L o):=by
 obtain⟨a0,b0,c0,e0,_⟩:=DA;obtain⟨a,b,c,e,l⟩:=k.dk;exact⟨λb u e nb=>by rw[ag (aA e hL)];exact k.old b u e nb,⟨a,b,c,by rw[ag (aA e0 hL)];exact e,l⟩⟩
theorem Kp.new {p:Addr} (k:Kp D H H') (hp:H' p=none):Kp D H (upd H' p o):=k.trans (Kp.of k.dk (am hp))
theorem Kp.free (k:Kp D H H') (h:H' l=none):H l=none:=by
 cases e:H l with
 | none=>rfl
 | some o =>
 exfalso;by_cases c:D.own l
 ·obtain⟨a,b,z,q,_⟩:=k.dk;cases c;rw[q]at h;cases h
 rw[k.old l o e c]at h;cases h
theorem aM {D:Dk} {p:Addr} (DA:D.At H) (hp:H p=none):¬D.own p:=λz=>by
 obtain⟨a,b,c,e,_⟩:=DA;cases z;rw[e]at hp;cases hp
structure StOk (n:Nat) (z:Str):Prop where
 len:z.cps.size=n
 signs:∀c∈z.cps.toList,c=48\/c=49
variable {es a:List Expr}
theorem dC {K:PySem.W.Frag} {k:Nat} {t:TGs} {n:Nat} {pos:Pos} (hK:X.K=K) (hc:X.calm=true) (h:PGs X es t)
  (hn:(assignEach es X.env).length=n:=by rfl) (hst:(assignEach es X.env).findIdx? (·.1)=none:=by rfl):PG X (.Tuple es k pos) (vA K n t):=by subst hK;exact dO hc h hn hst
theorem bR {A B:TS} {D:Ends} {U:St} (J:St->Hp->Prop) (h:∀(R:St->Hp->Prop),(∀U H,J U H->R U H)->A { D with nx:=R } U H) (hJ:∀U H,J U H->B D U H):qL A B D U H:=h (B D) hJ
variable {env:Env}
theorem se_tup {n:Nat} {p:Pos}:starEach (.Tuple a n p::es) env=(false,eval (.Tuple a n p) env)::starEach es env:=by rfl
theorem se_lst {p:Pos}:starEach (.List a p::es) env=(false,eval (.List a p) env)::starEach es env:=by rfl
theorem se_call {f:Expr} {k:List Keyword} {p:Pos}:starEach (.Call f a k p::es) env=(false,eval (.Call f a k p) env)::starEach es env:=by rfl
theorem aD {c:Const} {n:Nat} {p:Pos}:starEach (.Constant c n p::es) env=(false,eval (.Constant c n p) env)::starEach es env:=by rfl
theorem ac {x:Str} {p:Pos}:starEach (.Name x p::es) env=(false,eval (.Name x p) env)::starEach es env:=by rfl
theorem se_bin {a b:Expr} {o:Operator} {p:Pos}:starEach (.BinOp a o b p::es) env=(false,eval (.BinOp a o b p) env)::starEach es env:=by rfl
theorem se_lc {a:Expr} {g:List Comprehension} {sc:Scope} {p:Pos}:starEach (.ListComp a g sc p::es) env=(false,eval (.ListComp a g sc p) env)::starEach es env:=by rfl
theorem se_sub {a b:Expr} {p:Pos}:starEach (.Subscript a b p::es) env=(false,eval (.Subscript a b p) env)::starEach es env:=by rfl
theorem aq {a:Addr} (h1:H a=some o) (h2:H b=none):b≠a:=λz=>by rw[z,h1]at h2;cases h2
theorem aK {α β:Type} {F:α->β->Prop}:∀{xs:List α} {ys:List β} {x:α} {y:β},Paired F xs ys->F x y->Paired F (xs++[x]) (ys++[y])
 | _,_,_,_,.nil,h=>.cons h .nil
 | _,_,_,_,.cons h t,g=>.cons h (aK t g)
theorem ae {α β:Type} {F G:α->β->Prop} (h:∀a b,F a b->G a b):∀{xs:List α} {ys:List β},Paired F xs ys->Paired G xs ys
 | _,_,.nil=>.nil
 | _,_,.cons a t=>.cons (h _ _ a) (ae h t)
theorem paired_get {α β:Type} {F:α->β->Prop}:∀{xs:List α} {ys:List β} {i:Nat} {x:α},Paired F xs ys->xs[i]?=some x->∃y,ys[i]?=some y/\F x y
 | _,_,_,_,.nil,e=>by simp at e
 | _,_,0,_,.cons r _,e=>by simp at e;subst e;exact⟨_,rfl,r⟩
 | _,_,i+1,x,.cons _ t,e=>by
  obtain⟨u,h1,h2⟩:=paired_get (i:=i) (x:=x) t (by simpa using e);exact⟨u,by simpa using h1,h2⟩
theorem aY {α β:Type} {F:α->β->Prop}:∀{xs:List α} {ys:List β} {i:Nat} {y:β},Paired F xs ys->ys[i]?=some y->∃x,xs[i]?=some x/\F x y
 | _,_,_,_,.nil,e=>by simp at e
 | _,_,0,_,.cons r _,e=>by simp at e;subst e;exact⟨_,rfl,r⟩
 | _,_,i+1,y,.cons _ t,e=>by
  obtain⟨u,h1,h2⟩:=aY (i:=i) (y:=y) t (by simpa using e);exact⟨u,by simpa using h1,h2⟩
theorem ifT {c:Bool} {A B:Prop} (hc:c=true) (h:A):if c=true then A else B:=by rw[Qw hc];exact h
theorem ifF {c:Bool} {A B:Prop} (hc:c=false) (h:B):if c=true then A else B:=by subst hc;exact iteF h
theorem bS {D:Addr} (S:ak H H') (hD:H D=none):ak H (upd H' D o):=λb u e=>by rw[ag (aA e hD)];exact S b u e
theorem aj {p:Addr} (h:H p=none) (e:upd H p o=H'):ak H H'/\H' p=some o:=by
 subst e;exact⟨am h,af⟩
theorem ao {α β:Type} {F:α->β->Prop}:∀{xs:List α} {ys:List β},Paired F xs ys->xs.length=ys.length
 | _,_,.nil=>rfl
 | _,_,.cons h t=>by simp[ao t]
theorem ir {K:PySem.W.Frag} (h:X.K=K) (hu:X.A.units+64<cLine):OpR X (compareOp .Eq) (oS K false):=by subst h;exact eK hu
theorem qZ {K:PySem.W.Frag} (h:X.K=K) (hu:X.A.units+64<cLine):OpR X (compareOp .In) (oR K false):=by subst h;exact tV hu
end K2
namespace K2
open PySem L2
abbrev SqLofQ:=@SqL.of
abbrev i_consQ:=@ba
abbrev i_nilQ:=@aW
abbrev i_varQ:=@a9
abbrev iteTQ:=@cq
abbrev pa_consQ:=@aa
abbrev pa_nilQ:=@ab
abbrev pe_intQ:=@ad
abbrev pe_lstQ:=@a_
abbrev pe_strQ:=@bc
abbrev pe_tupQ:=@bg
abbrev s_nameQ:=@ay
abbrev se_conQ:=@aD
abbrev se_nameQ:=@ac
local macro_rules | `(tactic| walk_at "vc") => `(tactic| first
 | ((refine' (?zz : (?zA → ?zG) → ?zA → ?zG) ?zr ?_); (case zr => with_reducible exact s_seqT); (case zz => exact fun _ q => q); intro D') | ((refine' (?zz : (?zA → ?zG) → ?zA → ?zG) ?zr ?_); (case zr => with_reducible first | exact s_asg | exact s_drop | exact s_ret | exact s_if | exact s_sub | exact s_next | exact i_c | exact i_op | exact i_test | exact i_tB | exact i_and | exact i_or | exact i_not | exact i_andV | exact i_orV | exact i_notV | exact i_ifE | exact i_nilQ | exact i_consQ | exact i_cb | exact i_tup | exact i_lst | exact i_bm | exact i_sl | exact i_nopart | exact i_part | exact s_for | exact s_rng1 | exact s_list | exact s_str | exact i_dget | exact i_yes | exact i_un); (case zz => exact fun _ q => q))   | (with_reducible refine s_nameQ ?_)
 | ((with_reducible refine' i_varQ ?hv ?_); (case hv => exact rfl))   | (with_reducible first | refine i_rI0 ?_ | refine i_call ?_ | refine s_strI ?_ | refine iteF ?_ | refine iteTQ ?_ | refine i_rU ?_)
 | ((with_reducible show ∃ i, V.int _ = V.int i ∧ _); (refine ⟨_, rfl, ?_⟩)) | ((with_reducible show ∃ k, V.bl _ = V.bl k ∧ _); (refine ⟨_, rfl, ?_⟩)) | ((with_reducible show (∃ i, [V.bl _] = [V.int i] ∧ _) ∨ _); (refine Or.inr ⟨_, rfl, ?_⟩))
 | ((with_reducible refine' i_ixL ?ha ?hb ?_); (case ha => exact SqLofQ (by assumption)); (case hb => exact rfl)) | ((with_reducible refine' i_ixT ?ha ?hb ?_); (case ha => assumption); (case hb => exact rfl))
 | ((with_reducible show ∃ p _, [V.ref _] = [V.ref p] ∧ (SqL _ _ _ _ ∨ SqT _ _ _ _) ∧ _); (refine' ⟨_, _, rfl, Or.inl (SqLofQ ?ha), ?_⟩); (case ha => assumption)) | ((with_reducible refine' s_setL ?ha ?hb ?_); (case ha => assumption); (case hb => exact rfl))
 | ((with_reducible refine' i_eq ?ha ?_); (case ha => exact rfl)) | ((with_reducible refine' i_ne ?ha ?_); (case ha => exact rfl))
 | ((with_reducible show ∃ z, V.str _ = V.str z ∧ _); (refine ⟨_, rfl, ?_⟩))
 | ((with_reducible refine' i_rI ?hv ?_); (case hv => first | decide | (dsimp only; omega) | exact .inl ⟨by omega, by omega⟩ | exact .inr ⟨by omega, by omega⟩ | exact ⟨by decide, by decide⟩ | exact ⟨by decide, by decide, by decide⟩ | exact ⟨by omega, by omega⟩))
 | ((with_reducible show ∃ i, [V.int _] = [V.int i] ∧ _); (refine ⟨_, rfl, ?_⟩))
 | ((with_reducible show tyV _ "list" _ _ ∧ _); (refine' ⟨i_tyL ?ha, ?_⟩); (case ha => assumption)))
local macro_rules | `(tactic| walk_at "p") => `(tactic| repeat' (with_reducible first | (refine' pss_one ?_; rotate_left 1) | (refine' pss_cons ?_ ?_; rotate_left 2) | exact pss_nil | (refine' ps_if ?_ ?_ ?_; rotate_left 3)))
local macro_rules | `(tactic| walk_at "b") => `(tactic| (refine' pss_cons ?_ ?_; rotate_left 2; walk_at "p"))
local macro_rules | `(tactic| walk_at "f") => `(tactic| (refine' ps_for PassesOwn.never rfl ?_ ?_ ?_ (fun _ => rfl); rotate_left 3))
local macro_rules | `(tactic| walk_at "q") => `(tactic| repeat' (with_reducible first | exact pe_strQ | exact pe_intQ | exact pa_nilQ | (refine' pe_tupQ ?_; rotate_left 1) | (refine' pe_lstQ ?_; rotate_left 1) | (refine' pa_consQ ?_ ?_ se_conQ; rotate_left 2) | (refine' pa_consQ ?_ ?_ se_tup; rotate_left 2) | (refine' pa_consQ ?_ ?_ se_nameQ; rotate_left 2) | (refine' pa_consQ ?_ ?_ se_sub; rotate_left 2) | (refine' pa_consQ ?_ ?_ se_bin; rotate_left 2) | (refine' pa_consQ ?_ ?_ se_lst; rotate_left 2) | (refine' pa_consQ ?_ ?_ se_call; rotate_left 2) | (refine' pa_consQ ?_ ?_ se_lc; rotate_left 2)))
local macro_rules | `(tactic|room) => `(tactic| (intro vs H Q E h; repeat (first | (obtain ⟨e, _⟩ := h; subst e; rfl) | (obtain ⟨_, h⟩ := h))))
local macro_rules | `(tactic|x_go) => `(tactic| ((try dsimp only [cxOf, Cx.nox, Cx.wish]); (conv in (L2.start _ _) => simp only [L2.start, Qu, List.map_nil, xr, List.length_nil, List.replicate_succ, List.replicate_zero, List.cons_append, List.nil_append, Nat.reduceAdd, Nat.reduceSub]); have big : 100000 < sizeLine := by decide))
local macro_rules | `(tactic|kt_k) => `(tactic| (with_reducible first | refine s_seq ?_ | refine s_if ?_ | refine s_next ?_ | refine i_or ?_ | refine s_nameQ ?_ | refine s_ret ?_))
local macro_rules|`(tactic|lk)=>`(tactic|repeat walk_at "vc")
local macro_rules|`(tactic|fin2)=>`(tactic|exact⟨rfl,rfl,rfl,by decide +kernel,rfl,by decide +kernel,by decide +kernel⟩)
def sg (b:Bool):V:=if b then .str "1" else .str "0"
variable {i n c j k:Nat} {z word:Str}
theorem hX (st:StOk n z) (hi:i<n):fD z i=sg (z.cps.getD i 0==49):=by
 have hl:=st.len;have e:z.cps.getD i 0=z.cps[i]'(by omega):=by simp[Array.getD,hl,hi]
 have:z.cps.getD i 0=48\/z.cps.getD i 0=49:=by
  rw[e];exact st.signs _ (by simp)
 unfold fD;rcases this with e|e
 ·rw[e];decide +kernel
 rw[e];decide +kernel
def bU (z:Str) (i:Nat):Str:=if (z.cps.getD i 0==49)=true then "0" else "1"
def gm (z:Str) (i:Nat):Str:=(Txt.slice z none (some (i:Int))++bU z i)++Txt.slice z (some ((i:Int)+1)) none
def je:Sp:=λvs H Q _=>∃(z:Str) (n i:Nat),vs=[.str z,.int (i:Int)]/\StOk n z/\i<n/\n<=11/\Q (.str (gm z i)) H
variable {P:Program} {w:World} {K:PySem.W.Frag} {mg:A2} {base:Heap} {TT:Addr}
section
theorem fq {n:Nat} {z:Str} (st:StOk n z) {i:Nat} (hi:i<n):atI z.cps.toList ((i:Nat):Int)=some (z.cps.getD i 0):=by
 have hl:=st.len;refine b_ ?_;simp[Array.getD,hl,hi]
theorem hZ:FnScope ["standing", "place"] ["standing", "place"] (az (top 2)):=by fin2
theorem mY {f:Addr} {fd:FuncData} (Fu:Fun K "turned_at" "turned_at" (top 2) f fd) (T:Txt K mg TT):FnOk P w K mg base CX0 1 f fd ["standing", "place"] je:=by
 have S:=hZ;refine Fu.ok S (by room) (λcdv A outer s H vs Q E hr h=>?_);obtain⟨z,n,i,rfl,st,hi,hn,k⟩:=h;refine⟨_,(pss_one (aR (aF bB (aF bB (bT dN (pv 0) cx (cw (pv 1))) (au (rF T.tab) (iq (v:=.ref TT) (by rfl) T.tURNED rfl) (au cu (pv 0) (pv 1)))) (bT dN (pv 0) (cw (aF bN (pv 1) ad)) cx)))),?_⟩;x_go;have hz:z.length=n:=st.len;have big:1000<sizeLine:=by decide
 lk;have s1:=Txt.slice_le z none (some (i:Int));have s2:=Txt.slice_le z (some ((i:Int)+1)) none
 have fl:(bU z i).length=1:=by
  unfold bU
  split
  ·decide +kernel
  decide +kernel
 refine fU (by omega) ?_;refine i_op (i_c ?_);refine i_op (a9 rfl (a9 rfl (dy (by omega) (fq st hi) ?_)));have e:=hX st hi;unfold fD at e;rw[e]
 have step:∀(b:Bool) (G:VK),G (.str (if b=true then "0" else "1")) H->lH TT (.ref TT) (sg b) H G:=λb G g=>by
  cases b
  ·exact⟨rfl,.inl ⟨rfl,g⟩⟩
  exact⟨rfl,.inr ⟨rfl,g⟩⟩
 refine step _ _ ?_;show ∃i_1 j,V.str _=V.str i_1/\V.str (bU z i)=V.str j/\_;have l1:(Txt.slice z none (some (i:Int))++bU z i).length=(Txt.slice z none (some (i:Int))).length+(bU z i).length:=Array.size_append;refine⟨_,_,rfl,rfl,by omega,?_⟩;lk;refine fU (by omega) ?_;exact⟨_,_,rfl,rfl,by rw[l1];omega,k⟩
end
theorem fV {xs:Array Nat}:∀(j a:Nat),a+j<=xs.size->((List.range j).map λk=>a+k).filterMap (xs[·]?)=(xs.toList.drop a).take j
 | 0,a,_=>by simp
 | j+1,a,h=>by
  rw[List.range_succ,xC,List.filterMap_append,fV j a (by omega),List.take_succ];have e:(xs.toList.drop a)[j]?=xs[a+j]?:=by rw[List.getElem?_drop];simp
  rw[e];have q:xs[a+j]?=some (xs[a+j]'(by omega)):=by rw[QF]
  simp[q]
theorem fB {a b:Nat} {lo hi:Option Int} (hl:PySem.Builtin.Str.strSliceIndices lo hi 1 z.length=(List.range (b-a)).map λk=>a+k) (hb:b<=z.cps.size) (hab:a<=b):(Txt.slice z lo hi).cps.toList=(z.cps.toList.drop a).take (b-a):=by
 unfold Txt.slice;rw[hl]
 split
 ·rename_i h
  have h:b-a=z.length:=by simpa using h
  have h':z.length=z.cps.size:=rfl;have a0:a=0:=by omega
  subst a0;rw[List.drop_zero,Q8 (by rw[Qj];omega)]
 exact fV (b-a) a (by omega)
theorem oF {z:Str} {j:Nat} (h:j<=z.cps.size):(Txt.slice z none (some (j:Int))).cps.toList=z.cps.toList.take j:=by
 have h':z.length=z.cps.size:=rfl;refine(fB (a:=0) (b:=j) ?_ h (QT _)).trans (by simp);unfold PySem.Builtin.Str.strSliceIndices sliceRange
 have e:max 0 (min (if (j:Int)<0 then (j:Int)+z.length else (j:Int)) (z.length:Int))=(j:Int):=by
  rw[Qq (Int.not_lt.mpr (Int.natCast_nonneg _)),Int.min_eq_left (show _<=(z.length:Int) from Int.ofNat_le.mpr h),Int.max_eq_right (Int.natCast_nonneg _)]
 simp only[show (1:Int)>0 from by decide,if_true,e]
 have c:(if (0:Int)<(j:Int) then ((j:Int)-0+1-1) / 1 else 0).toNat=j-0:=by
  rw[Int.ediv_one,Int.add_sub_cancel,Int.sub_zero,Nat.sub_zero]
  split
  ·rfl
  omega
 rw[c];refine List.map_congr_left λk _=>?_;omega
theorem kr {z:Str} {a:Nat} (h:a<=z.cps.size):(Txt.slice z (some (a:Int)) none).cps.toList=z.cps.toList.drop a:=by
 have h':z.length=z.cps.size:=rfl;refine(fB (a:=a) (b:=z.cps.size) ?_ (Qi _) h).trans (by rw[Q8 (by rw[xR,Qj];omega)]);unfold PySem.Builtin.Str.strSliceIndices sliceRange
 have e:max 0 (min (if (a:Int)<0 then (a:Int)+z.length else (a:Int)) (z.length:Int))=(a:Int):=by
  rw[Qq (Int.not_lt.mpr (Int.natCast_nonneg _)),Int.min_eq_left (show _<=(z.length:Int) from Int.ofNat_le.mpr h),Int.max_eq_right (Int.natCast_nonneg _)]
 simp only[show (1:Int)>0 from by decide,if_true,e]
 have c:(if (a:Int)<(z.length:Int) then ((z.length:Int)-(a:Int)+1-1) / 1 else 0).toNat=z.cps.size-a:=by
  rw[Int.ediv_one,Int.add_sub_cancel,h']
  split
  ·rw[<-Int.ofNat_sub h];rfl
  omega
 rw[c];refine List.map_congr_left λk _=>?_;omega
theorem qK (st:StOk n z) (hi:i<n):StOk n (gm z i):=by
 have hl:=st.len;have a:=oF (z:=z) (j:=i) (by omega);have b:=kr (z:=z) (a:=i+1) (by omega);rw[show ((i+1:Nat):Int)=(i:Int)+1 from by omega]at b
 have f:(bU z i).cps.toList=[48]\/(bU z i).cps.toList=[49]:=by
  unfold bU
  split
  ·exact .inl (by decide +kernel)
  exact .inr (by decide +kernel)
 have e:(gm z i).cps.toList=(z.cps.toList.take i++(bU z i).cps.toList)++z.cps.toList.drop (i+1):=by
  unfold gm;show ((_++_)++_:Array Nat).toList=_;rw[Array.toList_append,Array.toList_append,a,b]
 refine⟨?_,λc hc=>?_⟩
 ·rw[<-Qj,e,Qh,Qh,Q3,xR,Qj];have:(bU z i).cps.toList.length=1:=by rcases f with f|f <;> rw[f] <;> rfl
  omega
 rw[e]at hc;rcases Qx.mp hc with h|h
 ·rcases Qx.mp h with h|h
  ·exact st.signs c (List.mem_of_mem_take h)
  rcases f with f|f
  ·rw[f]at h;exact .inl (by simpa using h)
  rw[f]at h;exact .inr (by simpa using h)
 exact st.signs c (List.mem_of_mem_drop h)
variable {b l a li L nl N wb q:Addr} {H H' H1 H2 H0 H3:Hp}
theorem aP (S:ak H H') (h:H' b=none):H b=none:=by
 cases e:H b with
 | none=>rfl
 | some o=>rw[S b o e]at h;cases h
variable {xs vs ys:List V}
theorem bo {D:Addr} {o:HO} (h:H D=some (.lst xs)):aO H (upd H D o):=λb ys e=>by
 rw[ag (λz=>by rw[z,h]at e;cases e)];exact e
section
variable {α β:Type} {K:PySem.W.Frag} {J:It} {H1:Hp} {D:Addr} {σ0:St} {g:TG} {te:TE} {tt:L2.TT} {QD:Hp->Prop}
theorem cm (xs:List α) (c:α->Bool) (R:Hp->V->α->Prop) (hD:H1 D=none) (few:xs.length<=100000) (mono:∀H H' v x,aO H H'->R H v x->R H' v x)
  (go:∀i H,ak H1 H->i<xs.length->J.go i H) (stop:∀H,ak H1 H->J.stop xs.length H)
  (hs:∀i x H v H',xs[i]?=some x->ak H1 H->J.yld i H v H'->∀(G:V->Hp->Prop) (N:Hp->Prop),(c x=true->∀u H2,ak H H2->R H2 u x->G u H2)->(c x=false->∀H2,ak H H2->N H2)->g v σ0 H' λσ2 H2=>wk σ0 σ2/\tt σ2 H2 λb H3=>if b=true then te σ2 H3 G else N H3)
  (hd:∀H ys,ak H1 H->H D=some (.lst ys)->Paired (R H) ys (xs.filter c)->QD H) :
  ∃W:Nat->Nat->Hp->List V->Prop,(∃m,W 0 m (upd H1 D (.lst [])) [])/\∀i m H ys,W i m H ys->H D=some (.lst ys)/\((J.stop i H/\QD H)\/(J.go i H/\∀x H',J.yld i H x H'->g x σ0 H' λσ2 H2=>wk σ0 σ2/\tt σ2 H2 λb H3 =>
   if b=true then te σ2 H3 λv H4=>H4 D=some (.lst ys)/\ys.length<sizeLine/\∃m',m'<m/\W (i+1) m' (upd H4 D (.lst (ys++[v]))) (ys++[v]) else ∃m',m'<m/\W (i+1) m' H3 ys)):=by
 refine⟨λi m H ys=>m=xs.length-i/\i<=xs.length/\ak H1 H/\H D=some (.lst ys)/\Paired (R H) ys ((xs.take i).filter c),⟨_,rfl,QT _,am hD,af,by rw[List.take_zero];exact .nil⟩,?_⟩;rintro i m H ys ⟨rfl,hi,S,hy,p⟩;refine⟨hy,?_⟩;by_cases hl:i<xs.length
 ·refine .inr ⟨go i H S hl,λv H' y=>?_⟩;have ex:xs[i]?=some xs[i]:=Qb hl;have hm:xs.length-(i+1)<xs.length-i:=by omega
  refine hs i xs[i] H v H' ex S y _ _ (λct u H2 S2 r=>?_) (λcf H2 S2=>?_)
  ·have yl:ys.length<=xs.length:=by
    rw[ao p];refine QK (List.length_filter_le _ _) ?_;rw[Q3];omega
   have hy2:=S2 _ _ hy;have kt:=bo (o:=.lst (ys++[u])) hy2;refine⟨hy2,xP yl (xP few (by decide)),_,hm,rfl,hl,bS (S.trans S2) hD,af,?_⟩;rw[List.take_succ,ex,List.filter_append];have e:(some xs[i]).toList.filter c=[xs[i]]:=by simp[ct]
   rw[e];exact aK (ae (λv x r=>mono _ _ v x kt (mono _ _ v x (ak.tups S2) r)) p) (mono _ _ u _ kt r)
  refine⟨_,hm,rfl,hl,S.trans S2,S2 _ _ hy,?_⟩;rw[List.take_succ,ex,List.filter_append];have e:(some xs[i]).toList.filter c=[]:=by simp[cf]
  rw[e,List.append_nil];exact ae (λv x r=>mono _ _ v x (ak.tups S2) r) p
 obtain rfl:i=xs.length:=by omega
 rw[Q8 (Qi _)]at p;exact .inl ⟨stop H S,hd H ys S hy p⟩
variable {xs:List α} {vs:List V} {a b:Addr}
theorem de {I:V->α->Prop} (c:α->Bool) (R:Hp->V->α->Prop) (hD:H1 D=none) (e:H1 a=some (.lst vs)) (pa:Paired I vs xs) (few:xs.length<=100000) (mono:∀H H' v x,aO H H'->R H v x->R H' v x)
  (hs:∀v x H,I v x->x∈xs->ak H1 H->∀(G:V->Hp->Prop) (N:Hp->Prop),(c x=true->∀u H2,ak H H2->R H2 u x->G u H2)->(c x=false->∀H2,ak H H2->N H2)->g v σ0 H λσ2 H2=>wk σ0 σ2/\tt σ2 H2 λb H3=>if b=true then te σ2 H3 G else N H3)
  (hd:∀H ys,ak H1 H->H D=some (.lst ys)->Paired (R H) ys (xs.filter c)->QD H) :
  ∃W:Nat->Nat->Hp->List V->Prop,(∃m,W 0 m (upd H1 D (.lst [])) [])/\∀i m H ys,W i m H ys->H D=some (.lst ys)/\(((Itl K a).stop i H/\QD H)\/((Itl K a).go i H/\∀x H',(Itl K a).yld i H x H'->g x σ0 H' λσ2 H2=>wk σ0 σ2/\tt σ2 H2 λb H3 =>
   if b=true then te σ2 H3 λv H4=>H4 D=some (.lst ys)/\ys.length<sizeLine/\∃m',m'<m/\W (i+1) m' (upd H4 D (.lst (ys++[v]))) (ys++[v]) else ∃m',m'<m/\W (i+1) m' H3 ys)):=by
 have l:=ao pa;refine cm xs c R hD few mono (λi H S hi=>⟨vs,vs[i],SqL.of (S _ _ e),Qb _⟩) (λH S=>⟨vs,SqL.of (S _ _ e),by omega⟩) (λi x H v H' ex S y=>?_) hd;obtain⟨e',y⟩:=y;subst e';obtain⟨v',ev,r⟩:=aY pa ex;cases ev.symm.trans (y vs (SqL.of (S _ _ e)));exact hs v x _ r (Ql ex) S
theorem eW {us:List β} {i:Nat} {x:α} {u:β} (h1:xs[i]?=some x) (h2:us[i]?=some u):(xs.zip us)[i]?=some (x,u):=by
 rw[List.getElem?_zip_eq_some];exact⟨h1,h2⟩
def Sqv (t:Bool) (H:Hp) (a:Addr) (vs:List V):Prop:=if t=true then H a=some (.tup vs) else H a=some (.lst vs)
theorem Sqv.of {t:Bool} {H:Hp} (h:Sqv t H a vs):SqS t K H a vs:=by
 cases t with
 | true=>exact SqT.of h
 | false=>exact SqL.of h
theorem Sqv.same {t:Bool} {H H':Hp} (S:ak H H') (h:Sqv t H a vs):Sqv t H' a vs:=by
 cases t with
 | true=>exact S _ _ h
 | false=>exact S _ _ h
theorem kZ {t1 t2:Bool} {ws:List V} {us:List β} {I1:V->α->Prop} {I2:V->β->Prop} (c:α × β->Bool) (R:Hp->V->α × β->Prop) (hD:H1 D=none) (e1:Sqv t1 H1 a vs) (e2:Sqv t2 H1 b ws) (p1:Paired I1 vs xs) (p2:Paired I2 ws us) (hl:xs.length=us.length) (few:xs.length<=100000) (mono:∀H H' v x,aO H H'->R H v x->R H' v x)
  (hs:∀v x w u T H,I1 v x->I2 w u->(x,u)∈xs.zip us->ak H1 H->H T=some (.tup [v,w])->∀(G:V->Hp->Prop) (N:Hp->Prop),(c (x,u)=true->∀y H2,ak H H2->R H2 y (x,u)->G y H2)->(c (x,u)=false->∀H2,ak H H2->N H2)->g (.ref T) σ0 H λσ2 H2=>wk σ0 σ2/\tt σ2 H2 λb H3=>if b=true then te σ2 H3 G else N H3)
  (hd:∀H ys,ak H1 H->H D=some (.lst ys)->Paired (R H) ys ((xs.zip us).filter c)->QD H) :
  ∃W:Nat->Nat->Hp->List V->Prop,(∃m,W 0 m (upd H1 D (.lst [])) [])/\∀i m H ys,W i m H ys->H D=some (.lst ys)/\(((f9 t1 t2 K a b).stop i H/\QD H)\/((f9 t1 t2 K a b).go i H/\∀x H',(f9 t1 t2 K a b).yld i H x H'->g x σ0 H' λσ2 H2=>wk σ0 σ2/\tt σ2 H2 λb H3 =>
   if b=true then te σ2 H3 λv H4=>H4 D=some (.lst ys)/\ys.length<sizeLine/\∃m',m'<m/\W (i+1) m' (upd H4 D (.lst (ys++[v]))) (ys++[v]) else ∃m',m'<m/\W (i+1) m' H3 ys)):=by
 have l1:=ao p1;have l2:=ao p2;have lz:(xs.zip us).length=xs.length:=by rw[List.length_zip];omega
 refine cm (xs.zip us) c R hD (by omega) mono (λi H S hi=>⟨⟨vs,vs[i],(e1.same S).of,Qb _⟩,ws,ws[i],(e2.same S).of,Qb _⟩) (λH S=>⟨vs,(e1.same S).of,by omega⟩) (λi x H v H' ex S y=>?_) hd;obtain⟨T,v',w',hT,ex',eH,y1,y2⟩:=y;subst ex' eH;obtain⟨x,u⟩:=x;obtain⟨g1,g2⟩:=List.getElem?_zip_eq_some.mp ex;obtain⟨v1,ev1,r1⟩:=aY p1 g1;obtain⟨w1,ew1,r2⟩:=aY p2 g2;cases ev1.symm.trans (y1 vs (e1.same S).of);cases ew1.symm.trans (y2 ws (e2.same S).of);intro G N hG hN;have ST:=am (o:=.tup [v',w']) hT;exact hs v' x w' u T _ r1 r2 (Ql ex) (S.trans ST) af G N (λct y H2 S2 r=>hG ct y H2 (ST.trans S2) r) (λcf H2 S2=>hN cf H2 (ST.trans S2))
end
abbrev Tu:=Str × Str
structure Arc where
 one:Tu
 two:Tu
 mark:Int
structure Rg where
 ins:List Str
 outs:List Str
 z:Str
 arcs:List Arc
def Rg.ws (r:Rg):List Str:=r.ins++r.outs
def cH (ws:List Str) (t:Tu):Prop:=t.1∈ws/\(t.2 = "+" \/ t.2 = "-")
structure ArOk (ws:List Str) (a:Arc):Prop where
 o:cH ws a.one
 t:cH ws a.two
 ne:a.one≠a.two
 m:a.mark=0\/a.mark=1
structure RgOk (r:Rg):Prop where
 nd:r.ws.Nodup
 w1:1<=r.ws.length
 w5:r.ws.length<=5
 st:StOk r.ws.length r.z
 few:r.arcs.length<=1000
 arcs:∀a∈r.arcs,ArOk r.ws a
def TuA (H:Hp) (v:V) (t:Tu):Prop:=∃b,v=.ref b/\H b=some (.tup [.str t.1,.str t.2])
def ArA (H:Hp) (v:V) (a:Arc):Prop:=∃b v1 v2,v=.ref b/\H b=some (.tup [v1,v2,.int a.mark])/\TuA H v1 a.one/\TuA H v2 a.two
variable {v u vt:V}
theorem TuA.kt {t:Tu} (k:aO H H') (h:TuA H v t):TuA H' v t:=let ⟨b,e,q⟩:=h;⟨b,e,k _ _ q⟩
theorem ArA.kt {a:Arc} (k:aO H H') (h:ArA H v a):ArA H' v a:=let ⟨b,v1,v2,e,q,h1,h2⟩:=h;⟨b,v1,v2,e,k _ _ q,h1.kt k,h2.kt k⟩
structure ArsA (H:Hp) (l:Addr) (vs:List V) (as:List Arc):Prop where
 h:H l=some (.lst vs)
 p:Paired (ArA H) vs as
theorem ArsA.same {H':Hp} {as:List Arc} (S:ak H H') (h:ArsA H l vs as):ArsA H' l vs as:=⟨S _ _ h.h,ae (λ_ _ q=>q.kt (ak.tups S)) h.p⟩
structure RgA (H:Hp) (a li lo l:Addr) (vs:List V) (r:Rg):Prop where
 ha:H a=some (.tup [.ref li,.ref lo,.str r.z,.ref l])
 hi:H li=some (.lst (r.ins.map V.str))
 ho:H lo=some (.lst (r.outs.map V.str))
 arcs:ArsA H l vs r.arcs
variable {r:Rg}
theorem RgA.same {H':Hp} {lo:Addr} (S:ak H H') (h:RgA H a li lo l vs r):RgA H' a li lo l vs r:=⟨S _ _ h.ha,S _ _ h.hi,S _ _ h.ho,h.arcs.same S⟩
def tk2 (t:Tu):av:=[.inl (.inr t.1),.inl (.inr t.2)]
variable {x y:Tu}
theorem cY (h:tk2 x=tk2 y):x=y:=by
 unfold tk2 at h;simp only[List.cons.injEq,Sum.inl.injEq,Sum.inr.injEq]at h;exact Prod.ext h.1 h.2.1
theorem TuA.tk {t:Tu} (h:TuA H (.ref b) t):bA H (tk2 t) b:=by
 obtain⟨_,e,q⟩:=h;cases e;exact⟨_,q,.cons rfl (.cons rfl .nil)⟩
theorem TuA.of {t:Tu} (h:bA H (tk2 t) b):TuA H (.ref b) t:=by
 obtain⟨vs,q,p⟩:=h
 cases p with
 | cons r1 p=>cases p with
  | cons r2 p =>
   cases p;cases r1;cases r2;exact⟨b,rfl,q⟩
variable {Q G:VK} {K:PySem.W.Frag}
theorem db {neg:Bool} (h1:TuA H u x) (h2:TuA H v y) (q:Q (.bl (if neg=true then !decide (x=y) else decide (x=y))) H):oS K neg u v H Q:=by
 obtain⟨a,e,_⟩:=id h1;subst e;obtain⟨b,e,_⟩:=id h2;subst e;refine vn h1.tk h2.tk rfl ?_;have e:decide (tk2 x=tk2 y)=decide (x=y):=decide_eq_decide.mpr ⟨cY,λh=>by rw[h]⟩;rw[e];exact q
variable {ts way:List Tu}
theorem oh (h:Paired (TuA H) vs ts):∃bs:A3,vs=bs.map V.ref/\KsA H bs (ts.map tk2):=by
 induction h with
 | nil=>exact⟨[],rfl,.nil⟩
 | @cons v t _ _ r _ ih =>
 obtain⟨bs,e,p⟩:=ih;obtain⟨b,e1,q⟩:=id r;subst e1;exact⟨b::bs,by rw[e];rfl,.cons r.tk p⟩
variable {ks us:List av}
theorem pP {bs:A3} (h:KsA H bs ks) (hk:∀k∈ks,∃t,k=tk2 t):∃ts:List Tu,ks=ts.map tk2/\Paired (TuA H) (bs.map V.ref) ts:=by
 induction h with
 | nil=>exact⟨[],rfl,.nil⟩
 | @cons b k _ _ r _ ih =>
 obtain⟨ts,e,p⟩:=ih λk hk'=>hk k (Qp _ hk');obtain⟨t,rfl⟩:=hk k (by simp);exact⟨t::ts,by rw[e];rfl,.cons (TuA.of r) p⟩
theorem lD (ts:List Tu):qG true (ts.map tk2):=by
 refine⟨λx hx y hy=>?_,λx hx=>?_⟩
 ·obtain⟨t,_,rfl⟩:=Qo.mp hx;obtain⟨u,_,rfl⟩:=Qo.mp hy;rfl
 obtain⟨t,_,rfl⟩:=Qo.mp hx;exact⟨_,_,rfl⟩
def leT (x y:Tu):Prop:=leF (tk2 x) (tk2 y)
theorem pN (h1:leT x y) (h2:leT y x):x=y:=by
 have h:=Tm.jK h1 h2;have:[Sum.inr x.1,Sum.inr x.2]=([Sum.inr y.1,Sum.inr y.2]:List Key):=h;simp only[List.cons.injEq,Sum.inr.injEq]at this;exact Prod.ext this.1 this.2.1
structure WtOk (P:Tu->Prop) (ts:List Tu):Prop where
 nd:ts.Nodup
 mem:∀x,x∈ts↔P x
 so:ts.Pairwise leT
theorem fA {α:Type} {le:α->α->Prop} (anti:∀x y,le x y->le y x->x=y):∀{xs ys:List α},xs.Nodup->ys.Nodup->(∀x,x∈xs↔x∈ys)->xs.Pairwise le->ys.Pairwise le->xs=ys
 | [],[],_,_,_,_,_=>rfl
 | [],y::_,_,_,m,_,_=>absurd ((m y).mpr (by simp)) (by simp)
 | x::_,[],_,_,m,_,_=>absurd ((m x).mp (by simp)) (by simp)
 | x::xs,y::ys,n1,n2,m,s1,s2=>by
  rw[QN]at n1 n2;rw[List.pairwise_cons]at s1 s2
  have e:x=y:=by
   rcases Qg.mp ((m x).mp (by simp)) with h|h
   ·exact h
   rcases Qg.mp ((m y).mpr (by simp)) with h'|h'
   ·exact h'.symm
   exact anti _ _ (s1.1 _ h') (s2.1 _ h)
  subst e;refine congrArg (x::·) (fA anti n1.2 n2.2 (λz=>?_) s1.2 s2.2);have:=m z;by_cases c:z=x
  ·subst c;exact⟨λh=>absurd h n1.1,λh=>absurd h n2.1⟩
  simpa[c] using this
theorem WtOk.one {P P':Tu->Prop} {us:List Tu} (h:WtOk P ts) (g:WtOk P' us) (e:∀x,P x↔P' x):ts=us :=
 fA (λ_ _=>pN) h.nd g.nd (λx=>(h.mem x).trans ((e x).trans (g.mem x).symm)) h.so g.so
def jg:Sp:=λvs H Q _=>∃(a li lo l:Addr) (as:List V) (r:Rg) (row nm:Str),vs=[.ref a,.str row,.str nm]/\RgA H a li lo l as r/\RgOk r/\StOk r.ws.length row/\nm∈r.ws/\∀H',ak H H'->Q (.str (gm row (r.ws.idxOf nm))) H'
def oz:Sp:=λvs H Q _=>∃(l:Addr) (as:List V) (r:Rg),vs=[.ref l]/\ArsA H l as r.arcs/\RgOk r/\∀p vs ts H',ak H H'->H p=none->H' p=some (.lst vs)->Paired (TuA H') vs ts->WtOk (λt=>∃a∈r.arcs,a.two=t) ts->Q (.ref p) H'
def mks (as:List Arc):List Int:=as.map (·.mark)
def lB:Sp:=λvs H Q _=>∃(l:Addr) (as:List V) (r:Rg),vs=[.ref l]/\ArsA H l as r.arcs/\RgOk r/\∀p H',ak H H'->H' p=some (.tup ((mks r.arcs).map V.int))->Q (.ref p) H'
theorem kP {ws:List Str} {x:Str} (h:x∈ws):ws[ws.idxOf x]?=some x:=by
 have hi:=xA h;rw[Qb hi];exact congrArg some (List.getElem_idxOf hi)
theorem eO {ws:List Str} {x:Str}:∀m,m<ws.idxOf x->ws[m]?≠some x:=λm hm e=>by
 have h1:=List.not_of_lt_findIdx (xs:=ws) (p:=(·==x)) (i:=m) hm;obtain⟨h2,e2⟩:=Qe.mp e;rw[e2]at h1;simp at h1
variable {α β:Type}
theorem bZ (xs:List α):xs.filter (λ_=>true)=xs:=List.filter_eq_self.mpr (by simp)
theorem bM {α β γ:Type} {F:α->γ->Prop} {f:β->γ}:∀{xs:List α} {ys:List β},Paired (λx y=>F x (f y)) xs ys->Paired F xs (ys.map f)
 | _,_,.nil=>.nil
 | _,_,.cons h t=>.cons h (bM t)
theorem cz {α β:Type} {f:β->α}:∀{xs:List α} {ys:List β},Paired (λx y=>x=f y) xs ys->xs=ys.map f
 | _,_,.nil=>rfl
 | _,_,.cons h t=>by rw[h,cz t];rfl
theorem rM (ok:RgOk r) (nd:us.Nodup) (h:∀x∈us,x∈(r.arcs.map (·.two)).map tk2):us.length<64:=by
 have:=Bf.pigeon us ((r.ws.map λn=>tk2 (n, "+"))++(r.ws.map λn=>tk2 (n, "-"))) nd λx hx=>by
  have hx:=h x hx;rw[List.map_map]at hx;obtain⟨a,ha,rfl⟩:=Qo.mp hx;obtain⟨h1,h2⟩:=(ok.arcs a ha).t;refine Qx.mpr ?_;rcases h2 with e|e
  ·exact .inl (Qo.mpr ⟨_,h1,by show tk2 _=tk2 _;rw[<-e]⟩)
  exact .inr (Qo.mpr ⟨_,h1,by show tk2 _=tk2 _;rw[<-e]⟩)
 rw[Qh,Qc,Qc]at this;have:=ok.w5;omega
variable {U σ0:St}
theorem kQ {ta:TA} (q:ta U H λvs H1=>∃(ks:List av) (b:Bool),k7 K H1 vs ks/\qG b ks/\∀(p:Addr) (bs':A3) (us:List av),H1 p=none->KsA H1 bs' us->us.Nodup->(∀x,x∈us↔x∈ks)->us.Pairwise leF->Q (.ref p) (upd H1 p (.lst (bs'.map V.ref)))):gr K ta U H Q:=q
section
theorem ga:FnScope ["sheet", "row", "name"] ["sheet", "row", "name"] (az (top 5)):=by fin2
variable {fd:FuncData}
theorem m5 {f:Addr} (Fu:Fun K "row_behind" "row_behind" (top 5) f fd) (T:Txt K mg TT) (f_turned_at:Fn P w K mg base "turned_at" ["standing", "place"] 1 je):FnOk P w K mg base CX0 2 f fd ["sheet", "row", "name"] jg:=by
 have S:=ga;refine Fu.ok S (by room) (λcdv A outer s H vs Q E hr h=>?_);obtain⟨a,li,lo,l,as,sh,row,nm,rfl,at_,ok,st,hnm,k⟩:=h;refine⟨_,(pss_one (aR (aN f_turned_at hr (aa (pv 1) (aa (bt Qv xc xf fN (aF cO (au aI (pv 0) ad) (au aI (pv 0) ad)) (aa (pv 2) ab ac)) ab se_call) ac)))),?_⟩;x_go;have lw:(sh.ins.map V.str).length+(sh.outs.map V.str).length=sh.ws.length:=by rw[Qc,Qc];unfold Rg.ws;rw[Qh]
 have ha:=at_.ha;have w5:=ok.w5;lk;refine eX at_.hi at_.ho (by rw[lw];omega) λp hp=>?_;rw[<-xC];show tyV K "list" (.ref p) _/\_;refine⟨i_tyL af,?_⟩;lk;refine⟨p,sh.ws,nm,sh.ws.idxOf nm,rfl,rfl,af,kP hnm,eO,by omega,?_⟩;lk;exact⟨row,_,_,rfl,st,xA hnm,by omega,k _ (am hp)⟩
theorem eD:FnScope ["arcs"] ["arcs"] (az (top 8)):=by fin2
theorem ra {f:Addr} (Fu:Fun K "waiting_turns" "waiting_turns" (top 8) f fd) (T:Txt K mg TT):FnOk P w K mg base CX0 2 f fd ["arcs"] oz:=by
 have S:=eD;refine Fu.ok S (by room) (λcdv A outer s H vs Q E hr h=>?_);obtain⟨l,as,r,rfl,at_,ok,k⟩:=h;have hu:=cW hr;refine⟨_,(pss_one (aR (jv rfl hu (by rfl) T.n_sorted (by rfl) T.n_set (aa (dZ "arc" [] (bn (pv 0)) (λ_ _ _ _=>(au (c_ (K:=K) rfl) (pv 0) ad))) ab)))),?_⟩;x_go;lk;refine kQ (ba (bF (s_list (a9 rfl ⟨l,rfl,⟨_,SqL.of at_.h⟩,λD hD=>?_⟩))));refine de (λ_=>true) (λH v (a:Arc)=>TuA H v a.two) hD at_.h at_.p (QK ok.few (by decide)) (λH H' v x k h=>h.kt k) (λv x H' ia mx S' G N hG _=>?_) (λH' ys S' hy p=>?_)
 ·obtain⟨b,v1,v2,rfl,hb,t1,t2⟩:=ia.kt (ak.tups S');refine ay ⟨trivial,i_yes (cq ?_)⟩;lk;exact hG rfl _ H' (ak.refl _) t2
 rw[bZ]at p;have p:=bM (f:=λa:Arc=>a.two) p;obtain⟨bs,e,ka⟩:=oh p;subst e;refine aW ⟨_,true,⟨D,bs,rfl,SqL.of hy,ka,λk hk=>?_,λus nd h=>rM ok nd h⟩,lD _,λq bs' us hq ka' nd mm so=>?_⟩
 ·obtain⟨t,_,rfl⟩:=Qo.mp hk;rfl
 obtain⟨ts,e,pt⟩:=pP ka' λk hk=>by obtain⟨t,_,e⟩:=Qo.mp ((mm k).mp hk);exact⟨t,e.symm⟩
 subst e;have S4:=am (o:=.lst (bs'.map V.ref)) hq;refine k q _ ts _ (S'.trans S4) (aP S' hq) af (ae (λ_ _ h=>h.kt (ak.tups S4)) pt) ⟨(xb.mp nd).imp λh e=>h (by rw[e]),λx=>?_,(xb.mp so).imp λh=>h⟩
 constructor
 ·intro hx;obtain⟨t,ht,e⟩:=Qo.mp ((mm _).mp (Qo.mpr ⟨x,hx,rfl⟩));obtain⟨a,ha,e2⟩:=Qo.mp ht;exact⟨a,ha,by rw[e2];exact cY e⟩
 rintro⟨a,ha,rfl⟩;obtain⟨t,ht,e⟩:=Qo.mp ((mm (tk2 a.two)).mpr (Qo.mpr ⟨_,Qo.mpr ⟨a,ha,rfl⟩,rfl⟩));rw[<-cY e];exact ht
theorem fG:FnScope ["arcs"] ["arcs"] (az (top 9)):=by fin2
theorem pH {f:Addr} (Fu:Fun K "first_marks" "first_marks" (top 9) f fd) (T:Txt K mg TT):FnOk P w K mg base CX0 2 f fd ["arcs"] lB:=by
 have S:=fG;refine Fu.ok S (by room) (λcdv A outer s H vs Q E hr h=>?_);obtain⟨l,as,r,rfl,at_,ok,k⟩:=h;have hu:=cW hr;refine⟨_,(pss_one (aR (aV cP (by rfl) T.n_tuple xp (aa (dZ "arc" [] (bn (pv 0)) (λ_ _ _ _=>(au (c_ (K:=K) rfl) (pv 0) ad))) ab)))),?_⟩;x_go;lk;refine bF (s_list (a9 rfl ⟨l,rfl,⟨_,SqL.of at_.h⟩,λD hD=>?_⟩));refine de (λ_=>true) (λH v (a:Arc)=>v=.int a.mark) hD at_.h at_.p (QK ok.few (by decide)) (λH H' v x k h=>h) (λv x H' ia mx S' G N hG _=>?_) (λH' ys S' hy p=>?_)
 ·obtain⟨b,v1,v2,rfl,hb,t1,t2⟩:=ia.kt (ak.tups S');refine ay ⟨trivial,i_yes (cq ?_)⟩;lk;exact hG rfl _ H' (ak.refl _) rfl
 rw[bZ]at p;refine aW ⟨D,ys,rfl,.inl ⟨SqL.of hy,λq hq=>?_⟩⟩;have e:ys=(mks r.arcs).map V.int:=by rw[cz p];unfold mks;rw[List.map_map];rfl
 subst e;exact k q _ (S'.trans (am hq)) af
end
def dG (as:List Arc) (ms:List Int) (t:Tu):Bool:=(as.zip ms).all λp=>!decide (p.1.two=t) || decide (0<p.2)
def mkB (a:Arc) (m:Int) (t:Tu):Int:=if a.one=t then m+1 else if a.two=t then m-1 else m
def fO (as:List Arc) (ms:List Int) (t:Tu):List Int:=(as.zip ms).map λp=>mkB p.1 p.2 t
structure MkOk (as:List Arc) (ms:List Int):Prop where
 len:ms.length=as.length
 m:∀m∈ms,m=0\/m=1
def sC:Sp:=λvs H Q _=>∃(l ma ta:Addr) (as:List V) (r:Rg) (ms:List Int) (t:Tu),vs=[.ref l,.ref ma,.ref ta]/\ArsA H l as r.arcs/\RgOk r/\H ma=some (.tup (ms.map V.int))/\MkOk r.arcs ms/\TuA H (.ref ta) t/\∀H',ak H H'->Q (.bl (dG r.arcs ms t)) H'
def oC:Sp:=λvs H Q _=>∃(v:V) (m:Int) (ta:Addr) (a:Arc) (t:Tu),vs=[v,.int m,.ref ta]/\ArA H v a/\(m=0\/m=1)/\TuA H (.ref ta) t/\∀H',ak H H'->Q (.int (mkB a m t)) H'
def lx:Sp:=λvs H Q _=>∃(l ma ta:Addr) (as:List V) (r:Rg) (ms:List Int) (t:Tu),vs=[.ref l,.ref ma,.ref ta]/\ArsA H l as r.arcs/\RgOk r/\H ma=some (.tup (ms.map V.int))/\MkOk r.arcs ms/\TuA H (.ref ta) t/\∀p H',ak H H'->H' p=some (.tup ((fO r.arcs ms t).map V.int))->Q (.ref p) H'
theorem cI:∀(ms:List Int),Paired (λv m=>v=V.int m) (ms.map V.int) ms
 | []=>.nil
 | _::ms=>.cons rfl (cI ms)
section
theorem jk:FnScope ["arcs", "marks", "turn"] ["arcs", "marks", "turn"] (az (top 10)):=by fin2
variable {fd:FuncData}
theorem tZ {f:Addr} (Fu:Fun K "may_come" "may_come" (top 10) f fd) (T:Txt K mg TT):FnOk P w K mg base CX0 2 f fd ["arcs", "marks", "turn"] sC:=by
 have S:=jk;refine Fu.ok S (by room) (λcdv A outer s H vs Q E hr h=>?_);obtain⟨l,ma,ta,as,r,ms,t,rfl,at_,ok,hm,mok,tu,k⟩:=h;have hu:=cW hr;refine⟨_,(pss_one (aR (aw (qx rfl) (by rfl) T.n_all PyProof.Rows.boot_all (aa (eT (tgs:=["arc", "mark"]) (cap:=[("turn", 2)]) rfl ⟨rfl,rfl,rfl,rfl,rfl,rfl⟩ (dY (by rfl) T.n_zip (aa (pv 0) (aa (pv 1) ab ac) ac)) (λ_ _ _ _=>(dC (K:=K) (n:=2) rfl rfl (aE (bf (i:=0) (show List.Nodup [("arc" : Str),("mark" : Str),("turn" : Str)] by decide +kernel) rfl (by z_go)) (aE (bf (i:=1) (show List.Nodup [("arc" : Str),("mark" : Str),("turn" : Str)] by decide +kernel) rfl (by z_go)) bI)))) (λ_ _ _ _=>(cS (aC (ir (K:=K) rfl hr.units) (au (c_ (K:=K) rfl) (pv 0) ad) (pv 2) (aG _)))) (λ_ _ _ _=>(bC gx (pv 1) ad (aG _)))) ab)))),?_⟩;x_go;lk;refine bF (ba (a9 rfl (ba (a9 rfl (aW ⟨l,ma,false,true,rfl,⟨_,SqL.of at_.h⟩,⟨_,SqT.of hm⟩,λD hD=>?_⟩)))));refine kZ (λp=>decide (p.1.two=t)) (λH v p=>v=.bl (decide (0<p.2))) hD at_.h hm at_.p (cI ms) mok.len.symm (QK ok.few (by decide)) (λH H' v x k h=>h) (λv x u m b H' ia im mx S' hb G N hG hN=>?_) (λH' ys S' hy p=>?_)
 ·obtain⟨c,v1,v2,rfl,hc,t1,t2⟩:=ia.kt (ak.tups S');cases im;refine⟨b,_,rfl,SqT.of hb,rfl,_,_,rfl,ay ⟨_,_,rfl,ay ⟨rfl,⟨rfl,trivial⟩,?_⟩⟩⟩;lk;refine db t2 (tu.kt (ak.tups S')) ⟨_,rfl,?_⟩;dsimp only at hG hN ⊢;cases ct:decide (x.two=t)
  ·exact iteF (hN ct H' (ak.refl _))
  refine cq ?_;lk;exact hG ct _ H' (ak.refl _) rfl
 refine aW ⟨D,(((r.arcs.zip ms).filter λp=>decide (p.1.two=t)).map λp=>decide (0<p.2)),rfl,?_,?_⟩
 ·rw[cz p]at hy;rw[List.map_map];exact SqL.of hy
 have e:((((r.arcs.zip ms).filter λp=>decide (p.1.two=t)).map λp=>decide (0<p.2)).all id)=dG r.arcs ms t:=by
  unfold dG;rw[List.all_map,List.all_filter];rfl
 rw[e];exact k H' S'
theorem fF:FnScope ["arc", "mark", "turn"] ["arc", "mark", "turn"] (az (top 11)):=by fin2
theorem rg {f:Addr} (Fu:Fun K "mark_behind" "mark_behind" (top 11) f fd) (T:Txt K mg TT):FnOk P w K mg base CX0 2 f fd ["arc", "mark", "turn"] oC:=by
 have S:=fF;refine Fu.ok S (by room) (λcdv A outer s H vs Q E hr h=>?_);obtain⟨v,m,ta,a,t,rfl,ia,hm,tu,k⟩:=h;have hu:=cW hr;obtain⟨b,v1,v2,rfl,hb,t1,t2⟩:=ia
 refine⟨_,(pss_cons (ps_if (aC (eK hr.units) (au aI (pv 0) ad) (pv 2) (aG _)) (pss_one (aR (aF bN (pv 1) ad))) pss_nil)
  (pss_one (aR (jw (aC (eK hr.units) (au aI (pv 0) ad) (pv 2) (aG _)) (aF eG (pv 1) ad) (pv 1))))),?_⟩
 x_go;have k:=k H (ak.refl H);unfold mkB at k;lk;refine db t1 tu ⟨_,rfl,?_⟩;by_cases c1:a.one=t
 ·rw[Qw c1]at k;refine ifT (QA c1) ?_;lk;exact k
 rw[Qq c1]at k;refine ifF (Qy c1) ?_;lk;refine db t2 tu ⟨_,rfl,?_⟩;by_cases c2:a.two=t
 ·rw[Qw c2]at k;refine ifT (QA c2) ?_;lk;exact k
 rw[Qq c2]at k;refine ifF (Qy c2) ?_;lk;exact k
theorem e_:FnScope ["arcs", "marks", "turn"] ["arcs", "marks", "turn"] (az (top 12)):=by fin2
theorem pF {f:Addr} (Fu:Fun K "marks_behind" "marks_behind" (top 12) f fd) (T:Txt K mg TT) (f_mark_behind:Fn P w K mg base "mark_behind" ["arc", "mark", "turn"] 2 oC):FnOk P w K mg base CX0 3 f fd ["arcs", "marks", "turn"] lx:=by
 have S:=e_;refine Fu.ok S (by room) (λcdv A outer s H vs Q E hr h=>?_);obtain⟨l,ma,ta,as,r,ms,t,rfl,at_,ok,hm,mok,tu,k⟩:=h;have hu:=cW hr;refine⟨_,(pss_one (aR (aV cP (by rfl) T.n_tuple xp (aa (eT (tgs:=["arc", "mark"]) (cap:=[("turn", 2)]) rfl ⟨rfl,rfl,rfl,rfl,rfl,rfl⟩ (dY (by rfl) T.n_zip (aa (pv 0) (aa (pv 1) ab ac) ac)) (λ_ _ _ _=>(dC (K:=K) (n:=2) rfl rfl (aE (bf (i:=0) (show List.Nodup [("arc" : Str),("mark" : Str),("turn" : Str)] by decide +kernel) rfl (by z_go)) (aE (bf (i:=1) (show List.Nodup [("arc" : Str),("mark" : Str),("turn" : Str)] by decide +kernel) rfl (by z_go)) bI)))) (λ_ _ _ _=>dj) (λ_ _ _ _=>(aN f_mark_behind hr (aa (pv 0) (aa (pv 1) (aa (pv 2) ab ac) ac) ac)))) ab)))),?_⟩;x_go;lk;refine bF (ba (a9 rfl (ba (a9 rfl (aW ⟨l,ma,false,true,rfl,⟨_,SqL.of at_.h⟩,⟨_,SqT.of hm⟩,λD hD=>?_⟩)))));refine kZ (λ_=>true) (λH v p=>v=.int (mkB p.1 p.2 t)) hD at_.h hm at_.p (cI ms) mok.len.symm (QK ok.few (by decide)) (λH H' v x k h=>h) (λv x u m b H' ia im mx S' hb G N hG hN=>?_) (λH' ys S' hy p=>?_)
 ·have ia:=ia.kt (ak.tups S');cases im;refine⟨b,_,rfl,SqT.of hb,rfl,_,_,rfl,ay ⟨_,_,rfl,ay ⟨rfl,⟨rfl,trivial⟩,i_yes (cq ?_)⟩⟩⟩;lk;exact⟨v,m,ta,x,t,rfl,ia,mok.m m (List.of_mem_zip mx).2,tu.kt (ak.tups S'),λH2 S2=>hG rfl _ H2 S2 rfl⟩
 rw[bZ]at p;refine aW ⟨D,ys,rfl,.inl ⟨SqL.of hy,λq hq=>?_⟩⟩;have e:ys=(fO r.arcs ms t).map V.int:=by rw[cz p];unfold fO;rw[List.map_map];rfl
 subst e;exact k q _ (S'.trans (am hq)) af
end
abbrev Pl:=List Int × Str
structure PlOk (r:Rg) (p:Pl):Prop where
 m:MkOk r.arcs p.1
 z:StOk r.ws.length p.2
def PlA (H:Hp) (v:V) (p:Pl):Prop:=∃b mb,v=.ref b/\H b=some (.tup [.ref mb,.str p.2])/\H mb=some (.tup (p.1.map V.int))
theorem PlA.kt {p:Pl} (k:aO H H') (h:PlA H v p):PlA H' v p:=let ⟨b,mb,e,h1,h2⟩:=h;⟨b,mb,e,k _ _ h1,k _ _ h2⟩
abbrev Sp1:=Tu × Pl
def StA (H:Hp) (v:V) (s:Sp1):Prop:=∃b v1 v2,v=.ref b/\H b=some (.tup [v1,v2])/\TuA H v1 s.1/\PlA H v2 s.2
theorem StA.kt {s:Sp1} (k:aO H H') (h:StA H v s):StA H' v s:=let ⟨b,v1,v2,e,h0,h1,h2⟩:=h;⟨b,v1,v2,e,k _ _ h0,h1.kt k,h2.kt k⟩
def cD (r:Rg) (p:Pl) (t:Tu):Sp1:=(t,(fO r.arcs p.1 t,gm p.2 (r.ws.idxOf t.1)))
def bh (r:Rg) (ts:List Tu) (p:Pl):List Sp1:=(ts.filter (dG r.arcs p.1)).map (cD r p)
abbrev Wt (r:Rg) (ts:List Tu):Prop:=WtOk (λt=>∃a∈r.arcs,a.two=t) ts
theorem Wt.few (ok:RgOk r) (w:Wt r ts):ts.length<=10:=by
 have:=Bf.pigeon ts ((r.ws.map λn=>((n, "+"):Tu))++(r.ws.map λn=>((n, "-"):Tu))) w.nd λx hx=>by
  obtain⟨a,ha,rfl⟩:=(w.mem x).mp hx;obtain⟨h1,h2⟩:=(ok.arcs a ha).t;refine Qx.mpr ?_;rcases h2 with e|e
  ·exact .inl (Qo.mpr ⟨_,h1,Prod.ext rfl e.symm⟩)
  exact .inr (Qo.mpr ⟨_,h1,Prod.ext rfl e.symm⟩)
 rw[Qh,Qc,Qc]at this;have:=ok.w5;omega
theorem Wt.ok {r:Rg} {ts:List Tu} (ok:RgOk r) (w:Wt r ts) {t:Tu} (h:t∈ts):cH r.ws t:=by
 obtain⟨a,ha,rfl⟩:=(w.mem t).mp h;exact(ok.arcs a ha).t
def lr:Sp:=λvs H Q _=>∃(a li lo l:Addr) (as:List V) (r:Rg) (v:V) (p:Pl),vs=[.ref a,v]/\RgA H a li lo l as r/\RgOk r/\PlA H v p/\PlOk r p/\∀q sv ts H',ak H H'->H q=none->H' q=some (.lst sv)->Wt r ts->Paired (StA H') sv (bh r ts p)->Q (.ref q) H'
theorem d6 {m:Int}:∀{ns:List Int},inV (.int m) (ns.map V.int)=true↔m∈ns
 | []=>by simp[inV]
 | x::ns=>by
  have ih:=d6 (m:=m) (ns:=ns);unfold inV at ih ⊢;rw[Qu,List.any_cons,Bool.or_eq_true,Qg,ih]
  have:eqV (.int x) (.int m)=true↔m=x:=by
   show (x==m)=true↔m=x;rw[beq_iff_eq];exact eq_comm
  rw[this]
theorem gI (ns:List Int):(ns.map V.int).all cF=true:=by
 rw[List.all_map];exact xa.mpr λ_ _=>rfl
def sgB (row:Str) (i:Nat):Bool:=row.cps.getD i 0==49
def ix (r:Rg) (row:Str) (s:Sp1):Option Str:=if sgB row (r.ws.idxOf s.1.1)=decide (s.1.2 = "+") then some "signs" else if 2∈s.2.1 then some "twice" else none
def wV:Option Str->V
 | none=>.non
 | some z=>.str z
def sy:Sp:=λvs H Q _=>∃(a li lo l:Addr) (as:List V) (r:Rg) (v u:V) (p:Pl) (s:Sp1),vs=[.ref a,v,u]/\RgA H a li lo l as r/\RgOk r/\PlA H v p/\PlOk r p/\StA H u s/\cH r.ws s.1/\∀H',ak H H'->Q (wV (ix r p.2 s)) H'
section
theorem ji:FnScope ["ring_sheet", "place", "arcs", "steps", "turn"] ["ring_sheet", "place"] (az (top 13)):=by fin2
theorem pD {f:Addr} {fd:FuncData} (Fu:Fun K "steps_at" "steps_at" (top 13) f fd) (T:Txt K mg TT) (f_waiting_turns:Fn P w K mg base "waiting_turns" ["arcs"] 2 oz) (f_may_come:Fn P w K mg base "may_come" ["arcs", "marks", "turn"] 2 sC) (f_marks_behind:Fn P w K mg base "marks_behind" ["arcs", "marks", "turn"] 3 lx) (f_row_behind:Fn P w K mg base "row_behind" ["sheet", "row", "name"] 2 jg):FnOk P w K mg base CX0 4 f fd ["ring_sheet", "place"] lr:=by
 have S:=ji;refine Fu.ok S (by room) (λcdv A outer s H vs Q E hr h=>?_);obtain⟨a,li,lo,l,as,r,v,p,rfl,at_,ok,pa,po,k⟩:=h;have hu:=cW hr;obtain⟨b,mb,rfl,hb,hmb⟩:=id pa
 refine⟨_,(pss_cons (aH 2 S.nd (au aI (pv 0) ad))
  (pss_cons (aH 3 S.nd (a_ ab))
  (pss_cons (ps_for PassesOwn.never rfl (bn (aN f_waiting_turns hr (aa (pv 2) ab ac))) (bz 4 S.nd)
  (pss_one (ps_if (cr (aN f_may_come hr (aa (pv 2) (aa (au aI (pv 1) ad) (aa (pv 4) ab ac)) ac))) (pss_one (bj (bt Qv QL QM aZ (pv 3) (aa (bg (aa (pv 4) (aa (bg (aa (aN f_marks_behind hr (aa (pv 2) (aa (au aI (pv 1) ad) (aa (pv 4) ab ac)) ac)) (aa (aN f_row_behind hr (aa (pv 0) (aa (au aI (pv 1) ad) (aa (au aI (pv 4) ad) ab)) ac)) ab se_call) se_call)) ab se_tup) ac)) ab se_tup)))) pss_nil)))
  (pss_one (aR (pv 3)))))),?_⟩
 x_go;have ha:=at_.ha;lk;refine⟨by simp,λL hL=>ay ?_⟩;generalize hE:upd H L (.lst [])=H0;obtain⟨S0,q0⟩:=aj hL hE;refine s_seq (s_for (s_list (i_call (ba (a9 rfl (aW ⟨l,as,r,rfl,at_.arcs.same S0,ok,λq tv ts H1 S1 nq hq pt wt=>⟨q,rfl,⟨_,SqL.of hq⟩,?_⟩⟩))))));have nLq:L≠q:=λz=>by rw[<-z,q0]at nq;cases nq
 let I1:IvF:=λi U H'=>(∃x,U=[some (.ref a),some (.ref b),some (.ref l),some (.ref L),x])/\ak H H'/\aO H1 H'/\H' q=some (.lst tv)/\∃sv,H' L=some (.lst sv)/\Paired (StA H') sv (bh r (ts.take i) p);refine cX (xs:=tv) I1 ⟨⟨none,rfl⟩,S0.trans S1,λ_ _ e=>e,hq,[],S1 _ _ q0,.nil⟩ (λi U H' _ h=>SqL.of h.2.2.2.1) (λi x U H' ex h=>?_) (λU H' h=>?_)
 ·obtain⟨⟨x0,rfl⟩,Sm,kt,hq',sv,hL',ps⟩:=h;obtain⟨t,et,tu⟩:=paired_get pt ex;have tu:=tu.kt kt;obtain⟨ta,rfl,hta⟩:=id tu;have at':=at_.same Sm;have pa':=pa.kt (ak.tups Sm);have hb':=Sm _ _ hb;have hmb':=Sm _ _ hmb;have mt:t∈ts:=Ql et;have few:=Wt.few ok wt;have sl:=ao ps
  have sf:sv.length<=10:=by
   rw[sl];unfold bh;rw[Qc];refine QK (List.length_filter_le _ _) ?_;rw[Q3];omega
  have big:1000<sizeLine:=by decide
  lk;refine⟨l,mb,ta,as,r,p.1,t,rfl,at'.arcs,ok,hmb',po.m,tu,λH2 S2=>⟨_,rfl,?_⟩⟩
  have et':(ts.take i).filter (dG r.arcs p.1)++(if dG r.arcs p.1 t=true then [t] else [])=(ts.take (i+1)).filter (dG r.arcs p.1):=by
   rw[List.take_succ,et,List.filter_append];congr 1;cases c:dG r.arcs p.1 t <;> simp[c]
  cases c:dG r.arcs p.1 t
  ·refine iteF (s_next ⟨⟨_,rfl⟩,Sm.trans S2,λb xs e=>S2 _ _ (kt b xs e),S2 _ _ hq',sv,S2 _ _ hL',?_⟩);rw[c,Qq Qn,List.append_nil]at et';unfold bh;rw[<-et'];exact ae (λ_ _ h=>h.kt (ak.tups S2)) ps
  refine cq ?_;rw[c,Qw rfl]at et';have hL2:=S2 _ _ hL';have hb2:=S2 _ _ hb';lk;refine⟨l,mb,ta,as,r,p.1,t,rfl,at'.arcs.same S2,ok,S2 _ _ hmb',po.m,tu.kt (ak.tups S2),λm2 H3 S3 hm2=>?_⟩;have hb3:=S3 _ _ hb2;have S23:=S2.trans S3;have hta3:=S23 _ _ hta;lk;refine⟨a,li,lo,l,as,r,p.2,t.1,rfl,at'.same S23,ok,po.z,(Wt.ok ok wt mt).1,λH4 S4=>?_⟩;lk;refine⟨by simp[sizeLine],λp5 h5=>?_⟩;generalize hE5:upd H4 p5 _=H5;obtain⟨S5,q5⟩:=aj h5 hE5;lk;refine⟨by simp[sizeLine],λp6 h6=>?_⟩;generalize hE6:upd H5 p6 _=H6;obtain⟨S6,q6⟩:=aj h6 hE6;have S46:=(S23.trans S4).trans (S5.trans S6);have hL6:=S46 _ _ hL';refine aW (cE hL6 (by omega) (s_next ?_));have ktu:=bo (o:=.lst (sv++[.ref p6])) hL6;refine⟨⟨_,rfl⟩,bS (Sm.trans S46) hL,λb xs e=>ktu _ _ (S46 _ _ (kt b xs e)),by rw[ag nLq.symm];exact S46 _ _ hq',_,af,?_⟩;unfold bh;rw[<-et',xC];refine aK (ae (λ_ _ h=>(h.kt (ak.tups S46)).kt ktu) ps) ?_;exact⟨p6,_,_,rfl,ktu _ _ q6,(tu.kt (ak.tups S46)).kt ktu,p5,m2,rfl,ktu _ _ (S6 _ _ q5),ktu _ _ (S6 _ _ (S5 _ _ (S4 _ _ hm2)))⟩
 obtain⟨⟨x0,rfl⟩,Sm,kt,hq',sv,hL',ps⟩:=h;rw[Q8 (Nat.le_of_eq (ao pt).symm)]at ps;exact s_ret (a9 rfl (k L sv ts H' Sm hL hL' wt ps))
theorem jj:FnScope ["ring_sheet", "place", "step", "turn", "sign"] ["ring_sheet", "place", "step"] (az (top 14)):=by fin2
theorem tY {f:Addr} {fd:FuncData} (Fu:Fun K "odd_word" "odd_word" (top 14) f fd) (T:Txt K mg TT):FnOk P w K mg base CX0 2 f fd ["ring_sheet", "place", "step"] sy:=by
 have S:=jj;refine Fu.ok S (by room) (λcdv A outer s H vs Q E hr h=>?_);obtain⟨a,li,lo,l,as,r,v,u,p,sp,rfl,at_,ok,pa,po,sa,tok,k⟩:=h;have hu:=cW hr;obtain⟨SA,tS1,tS2⟩:=T.sA;obtain⟨b,mb,rfl,hb,hmb⟩:=id pa;obtain⟨c,v1,v2,rfl,hc,t1,p2⟩:=id sa;obtain⟨d,rfl,hd⟩:=id t1;obtain⟨e,me,rfl,he,hme⟩:=id p2
 refine⟨_,(pss_cons (aH 3 S.nd (au aI (pv 2) ad))
  (pss_cons (aH 4 S.nd (au cu (au aI (pv 1) ad) (bt Qv xc xf fN (aF cO (au aI (pv 0) ad) (au aI (pv 0) ad)) (aa (au aI (pv 3) ad) ab))))
  (pss_cons (ps_if (aC pA (pv 4) (au (ud tS2) (iq (v:=.ref SA) (by rfl) tS1 rfl) (au aI (pv 3) ad)) (aG _)) (pss_one (aR bc)) pss_nil)
  (pss_one (aR (jw (aC eJ ad (au aI (au aI (pv 2) ad) ad) rfl) bc o5)))))),?_⟩
 x_go;have ha:=at_.ha;lk;have w5:=ok.w5;have big:1000<sizeLine:=by decide
 have lw:(r.ins.map V.str).length+(r.outs.map V.str).length=r.ws.length:=by rw[Qc,Qc];unfold Rg.ws;rw[Qh]
 refine eX at_.hi at_.ho (by rw[lw];omega) λp1 hp1=>?_;rw[<-xC];generalize hE:upd H p1 _=H1;obtain⟨S1,q1⟩:=aj hp1 hE;have k:=k H1 S1;have hc:=S1 _ _ hc;have hd:=S1 _ _ hd;have he:=S1 _ _ he;have hme:=S1 _ _ hme;refine⟨i_tyL q1,?_⟩;lk;refine⟨p1,r.ws,sp.1.1,r.ws.idxOf sp.1.1,rfl,rfl,q1,kP tok.1,eO,by omega,?_⟩;have il:=xA tok.1;have hz:=po.z.len;refine dy (by show p.2.cps.size<=_;omega) (fq po.z il) ?_;have es:=hX po.z il;unfold fD at es;rw[es];lk
 have key:∀(G:VK),(G (.bl (decide (sgB p.2 (r.ws.idxOf sp.1.1)=decide (sp.1.2 = "+")))) H1)->oQ SA (.ref SA) (.str sp.1.2) H1 λy H2=>rNe (sg (p.2.cps.getD (r.ws.idxOf sp.1.1) 0==49)) y H2 G:=λG g=>by
  unfold sgB at g;rcases tok.2 with e|e
  ·rw[e]at g ⊢;refine⟨rfl,.inl ⟨rfl,?_⟩⟩;cases c:(p.2.cps.getD (r.ws.idxOf sp.1.1) 0==49)
   ·rw[c]at g;exact i_ne rfl g
   rw[c]at g;exact i_ne rfl g
  rw[e]at g ⊢;refine⟨rfl,.inr ⟨rfl,?_⟩⟩;cases c:(p.2.cps.getD (r.ws.idxOf sp.1.1) 0==49)
  ·rw[c]at g;exact i_ne rfl g
  rw[c]at g;exact i_ne rfl g
 refine key _ ⟨_,rfl,?_⟩;unfold ix at k;by_cases c1:sgB p.2 (r.ws.idxOf sp.1.1)=decide (sp.1.2 = "+")
 ·rw[Qw c1]at k;refine ifT (QA c1) ?_;lk;exact k
 rw[Qq c1]at k;refine ifF (Qy c1) ?_;lk;refine⟨me,_,rfl,.inr (SqT.of hme),rfl,gI _,_,rfl,?_⟩;by_cases c2:2∈sp.2.1
 ·rw[Qw c2]at k;refine ifT (d6.mpr c2) ?_;lk;exact k
 rw[Qq c2]at k;refine ifF (Bool.eq_false_iff.mpr λz=>c2 (d6.mp z)) ?_;lk;exact k
end
abbrev Nd:=List (Str × Nat)
inductive Res where
 | odd (way:List Tu) (word:Str)
 | many
 | sheet (nodes:List Nd)
structure Sx where
 ps:List Pl
 ws:List (List Tu)
noncomputable def cv (r:Rg) (row:Str) (way:List Tu):List Sp1->Sx->Nd->Res ⊕ (Sx × Nd)
 | [],x,nd=>.inr (x,nd)
 | s::ss,x,nd=>match ix r row s with
  | some w=>.inl (.odd (way++[s.1]) w)
  | none=>if s.2∈x.ps then cv r row way ss x (nd++[(s.1.1,x.ps.idxOf s.2)])
   else if x.ps.length=40 then .inl .many
   else cv r row way ss ⟨x.ps++[s.2],x.ws++[way++[s.1]]⟩ (nd++[(s.1.1,x.ps.length)])
def Sx.p (x:Sx) (i:Nat):Pl:=x.ps.getD i ([],Str.empty)
def Sx.wy (x:Sx) (i:Nat):List Tu:=x.ws.getD i []
noncomputable def outer (r:Rg) (ts:List Tu):Nat->Sx->List Nd->Res
 | 0,_,_=>.many
 | f+1,x,nds=>if nds.length<x.ps.length then
   match cv r (x.p nds.length).2 (x.wy nds.length) (bh r ts (x.p nds.length)) x [] with
   | .inl res=>res
   | .inr (x',nd)=>outer r ts f x' (nds++[nd])
  else .sheet nds
def Sx.first (r:Rg):Sx:=⟨[(mks r.arcs,r.z)],[[]]⟩
def unf (r:Rg) (ts:List Tu):Res:=outer r ts 41 (Sx.first r) []
theorem nk {x y z:Tu} (h1:leT x y) (h2:leT y z):leT x z:=by
 have h1:Tm.lb (Tm.flat (tk2 y)) (Tm.flat (tk2 x))=false:=h1;have h2:Tm.lb (Tm.flat (tk2 z)) (Tm.flat (tk2 y))=false:=h2;show Tm.lb (Tm.flat (tk2 z)) (Tm.flat (tk2 x))=false
 cases c:Tm.lb (Tm.flat (tk2 z)) (Tm.flat (tk2 x)) with
 | false=>rfl
 | true =>
 rcases Tm.iB (Tm.flat (tk2 z)) (Tm.flat (tk2 y)) with h|h|h
 ·rw[h2]at h;cases h
 ·rw[h,h1]at c;cases c
 rw[Tm.dw h c]at h1;cases h1
theorem vR (xs:List Tu):∃us:List Tu,us.Nodup/\∀x,x∈us↔x∈xs:=by
 induction xs with
 | nil=>exact⟨[],.nil,λx=>Iff.rfl⟩
 | cons x xs ih =>
 obtain⟨us,nd,mm⟩:=ih;by_cases h:x∈us
 ·exact⟨us,nd,λy=>by rw[mm,Qg];exact⟨.inr,λz=>z.elim (λz=>z▸(mm x).mp h) id⟩⟩
 exact⟨x::us,QN.mpr ⟨h,nd⟩,λy=>by rw[Qg,Qg,mm]⟩
theorem r9 (r:Rg):∃ts,Wt r ts:=by
 obtain⟨us,nd,mm⟩:=vR (r.arcs.map (·.two));have pm:=List.mergeSort_perm us (λx y=>!Tm.lb (Tm.flat (tk2 y)) (Tm.flat (tk2 x)));refine⟨us.mergeSort (λx y=>!Tm.lb (Tm.flat (tk2 y)) (Tm.flat (tk2 x))),pm.nodup_iff.mpr nd,λx=>?_,?_⟩
 ·rw[pm.mem_iff,mm,Qo]
 refine(List.pairwise_mergeSort (λa b c h1 h2=>?_) (λa b=>?_) us).imp λ{a b} h=>?_
 ·rw[Bool.not_eq_true']at h1 h2 ⊢;exact nk (x:=a) (y:=b) (z:=c) h1 h2
 ·rw[Bool.or_eq_true,Bool.not_eq_true',Bool.not_eq_true'];exact Tm.nr _ _
 rw[Bool.not_eq_true']at h;exact h
variable {ms:List Int}
theorem jE {as:List Arc} {t:Tu} (h:ms.length=as.length):(fO as ms t).length=as.length:=by
 unfold fO;rw[Qc,List.length_zip];omega
theorem jd {p:Pl} {t:Tu} (po:PlOk r p) (tok:cH r.ws t) (may:dG r.arcs p.1 t=true) (no2:2∉(cD r p t).2.1):PlOk r (cD r p t).2:=by
 refine⟨⟨jE po.m.len,λm hm=>?_⟩,qK po.z (xA tok.1)⟩;have h2:m≠2:=λz=>no2 (z▸hm);have hm:m∈fO r.arcs p.1 t:=hm;unfold fO at hm;obtain⟨⟨a,n⟩,hz,rfl⟩:=Qo.mp hm;have hn:=po.m.m n (List.of_mem_zip hz).2;have hp:=xa.mp may _ hz;dsimp only at hp h2 ⊢;unfold mkB at h2 ⊢;by_cases c1:a.one=t
 ·rw[Qw c1]at h2 ⊢;omega
 rw[Qq c1]at h2 ⊢;by_cases c2:a.two=t
 ·rw[Qw c2]at h2 ⊢;rw[QA c2,xU,Bool.false_or,decide_eq_true_eq]at hp;omega
 rw[Qq c2];exact hn
def Sx.Ok (r:Rg) (x:Sx):Prop:=x.ws.length=x.ps.length/\1<=x.ps.length/\x.ps.length<=40/\(∀p∈x.ps,PlOk r p)/\∀w∈x.ws,w.length<x.ws.length
theorem Sx.p_mem {x:Sx} (h:i<x.ps.length):x.ps[i]?=some (x.p i):=by
 unfold Sx.p;rw[QU,Qb h];rfl
theorem Sx.w_mem {x:Sx} {i:Nat} (h:i<x.ws.length):x.ws[i]?=some (x.wy i):=by
 unfold Sx.wy;rw[QU,Qb h];rfl
theorem t4 (ok:RgOk r):PlOk r (mks r.arcs,r.z):=by
 refine⟨⟨Qc ..,λm hm=>?_⟩,ok.st⟩;obtain⟨a,ha,rfl⟩:=Qo.mp hm;exact(ok.arcs a ha).m
theorem jU (ok:RgOk r):(Sx.first r).Ok r:=⟨rfl,Qi _,(by decide:1<=40),λp hp=>by cases QB.mp hp;exact t4 ok,λw hw=>by cases QB.mp hw;exact Nat.zero_lt_one⟩
def tkP (p:Pl):av:=[.inr (p.1.map Sum.inl),.inl (.inr p.2)]
theorem l8:∀{xs ys:List Int},xs.map (Sum.inl:Int->Key)=ys.map Sum.inl->xs=ys
 | [],[],_=>rfl
 | [],_::_,h=>by simp at h
 | _::_,[],h=>by simp at h
 | x::xs,y::ys,h=>by
  rw[Qu,Qu]at h;injection h with h1 h2;rw[Sum.inl.inj h1,l8 h2]
theorem k9 {x y:Pl} (h:tkP x=tkP y):x=y:=by
 unfold tkP at h;simp only[List.cons.injEq,Sum.inl.injEq,Sum.inr.injEq]at h;exact Prod.ext (l8 h.1) h.2.1
theorem PlA.tk {p:Pl} (h:PlA H (.ref b) p):bA H (tkP p) b:=by
 obtain⟨_,mb,e,q,q2⟩:=h;cases e;refine⟨_,q,.cons ⟨mb,rfl,?_⟩ (.cons rfl .nil)⟩;rw[q2,List.map_map];rfl
def mH (H:Hp) (a:Addr) (ps:List Pl):Prop:=∃kvs,H a=some (.dT kvs)/\kvs.length<=ps.length/\∀p,bH kvs (tkP p)=if p∈ps then some (.int (ps.idxOf p:Nat)) else none
theorem rp (p:Pl) (h:H a=some (.dT [(tkP p,.int 0)])):mH H a [p]:=by
 refine⟨_,h,Qi _,λq=>?_⟩;by_cases c:q=p
 ·subst c;rw[bv rfl,Qw (by simp)];simp
 rw[bw (λz=>c (k9 z).symm),Qq (by simpa using c)];rfl
variable {ps:List Pl} {kvs:List (av × V)}
theorem rn {p:Pl} (hp:p∉ps) (hv:∀p,bH kvs (tkP p)=if p∈ps then some (.int (ps.idxOf p:Nat)) else none) (q:Pl):bH (bL kvs (tkP p) (.int (ps.length:Nat))) (tkP q)=if q∈ps++[p] then some (.int ((ps++[p]).idxOf q:Nat)) else none:=by
 rw[i8,hv,List.idxOf_append];by_cases c:q=p
 ·subst c;rw[Qw rfl,Qw (by simp),Qq hp];simp
 rw[Qq (λz=>c (k9 z))];by_cases d:q∈ps
 ·rw[Qw d,Qw (by simp[d]),Qw d]
 rw[Qq d,Qq (by simp[c,d])]
def SgA (H:Hp) (v:V) (p:Str × Nat):Prop:=∃b,v=.ref b/\H b=some (.tup [.str p.1,.int (p.2:Int)])
def i3 (H:Hp) (l:Addr) (nd:Nd):Prop:=∃vs,H l=some (.lst vs)/\Paired (SgA H) vs nd
def f7 (H:Hp) (l:Addr) (w:List Tu):Prop:=∃vs,H l=some (.lst vs)/\Paired (TuA H) vs w
theorem SgA.kt {p:Str × Nat} (k:aO H H') (h:SgA H v p):SgA H' v p:=let ⟨b,e,q⟩:=h;⟨b,e,k _ _ q⟩
theorem i3.keep {nd:Nd} (k:aO H H') (kl:∀vs,H l=some (.lst vs)->H' l=some (.lst vs)) (h:i3 H l nd):i3 H' l nd:=let ⟨vs,e,q⟩:=h;⟨vs,kl _ e,ae (λ_ _ h=>h.kt k) q⟩
theorem f7.keep {w:List Tu} (k:aO H H') (kl:∀vs,H l=some (.lst vs)->H' l=some (.lst vs)) (h:f7 H l w):f7 H' l w:=let ⟨vs,e,q⟩:=h;⟨vs,kl _ e,ae (λ_ _ h=>h.kt k) q⟩
noncomputable def uD (H0 H:Hp) (v:V) (r:Rg):Res->Prop
 | .odd way w=>∃a l,v=.ref a/\H a=some (.tup [.str "odd", .ref l,.str w])/\H0 l=none/\f7 H l way
 | .many=>∃a,v=.ref a/\H a=some (.tup [.str "many"])
 | .sheet nds=>∃(a s li lo ln:Addr) (nas:A3),v=.ref a/\H a=some (.tup [.str "sheet", .ref s])/\H s=some (.tup [.ref li,.ref lo,.str r.z,.ref ln])/\H li=some (.lst (r.ins.map V.str))/\H lo=some (.lst (r.outs.map V.str))/\H ln=some (.lst (nas.map V.ref))/\Paired (i3 H) nas nds/\(li::lo::ln::nas).Nodup/\∀b∈li::lo::ln::nas,H0 b=none
def sx:Sp:=λvs H Q _=>∃(a li lo l:Addr) (as:List V) (r:Rg),vs=[.ref a]/\RgA H a li lo l as r/\RgOk r/\∀v ts H',ak H H'->Wt r ts->uD H H' v r (unf r ts)->Q v H'
theorem sN {Os:A3} (no:∀b∈Os,∀ys,H b≠some (.tup ys)) (kb:∀b o,H b=some o->b∉Os->H' b=some o):aO H H':=λb ys e=>kb b _ e λz=>no b z ys e
theorem bq {α β:Type} {F G:α->β->Prop}:∀{xs:List α} {ys:List β},Paired F xs ys->(∀a b,a∈xs->F a b->G a b)->Paired G xs ys
 | _,_,.nil,_=>.nil
 | _,_,.cons r t,h=>.cons (h _ _ (by simp) r) (bq t λa b ha=>h a b (Qp _ ha))
structure UI (H0 H:Hp) (Lp Ln Lw Lo:Addr) (x:Sx) (pv:List V) (was nas:A3) (nds:List Nd):Prop where
 s:ak H0 H
 p:H Lp=some (.lst pv)
 pp:Paired (PlA H) pv x.ps
 n:mH H Ln x.ps
 w:H Lw=some (.lst (was.map V.ref))
 wp:Paired (f7 H) was x.ws
 o:H Lo=some (.lst (nas.map V.ref))
 op:Paired (i3 H) nas nds
 ap:∀b∈was++nas,b∉[Lp,Ln,Lw,Lo]
 nd:nas.Nodup
 nw:∀b∈nas,H0 b=none
 dl:[Lp,Ln,Lw,Lo].Nodup
 new:∀b∈[Lp,Ln,Lw,Lo],H0 b=none
section
variable {H0 H H':Hp} {Lp Ln Lw Lo:Addr} {x:Sx} {pv:List V} {was nas:A3} {nds:List Nd}
theorem UI.keep {N:Addr} (u:UI H0 H Lp Ln Lw Lo x pv was nas nds) (s:ak H0 H') (kt:aO H H') (kb:∀b o,H b=some o->b≠N->H' b=some o) (n:N∉Lp::Ln::Lw::Lo::(was++nas)):UI H0 H' Lp Ln Lw Lo x pv was nas nds:=by
 have ne:∀b∈Lp::Ln::Lw::Lo::(was++nas),b≠N:=λb hb z=>n (z▸hb);have inn:∀b∈was++nas,b≠N:=λb hb=>ne b (by simp only[Qg];exact .inr (.inr (.inr (.inr hb))));refine⟨s,kb _ _ u.p (ne _ (by simp)),ae (λ_ _ h=>h.kt kt) u.pp,?_,kb _ _ u.w (ne _ (by simp)),?_,kb _ _ u.o (ne _ (by simp)),?_,u.ap,u.nd,u.nw,u.dl,u.new⟩
 ·obtain⟨kvs,h,r⟩:=u.n;exact⟨kvs,kb _ _ h (ne _ (by simp)),r⟩
 ·exact bq u.wp λb w hb h=>h.keep kt λvs e=>kb _ _ e (inn b (xu _ hb))
 exact bq u.op λb w hb h=>h.keep kt λvs e=>kb _ _ e (inn b (QC _ hb))
theorem UI.same (u:UI H0 H Lp Ln Lw Lo x pv was nas nds) (S:ak H H'):UI H0 H' Lp Ln Lw Lo x pv was nas nds:=by
 refine⟨u.s.trans S,S _ _ u.p,ae (λ_ _ h=>h.kt (ak.tups S)) u.pp,?_,S _ _ u.w,?_,S _ _ u.o,?_,u.ap,u.nd,u.nw,u.dl,u.new⟩
 ·obtain⟨kvs,h,r⟩:=u.n;exact⟨kvs,S _ _ h,r⟩
 ·exact ae (λb w h=>h.keep (ak.tups S) λvs e=>S _ _ e) u.wp
 exact ae (λb w h=>h.keep (ak.tups S) λvs e=>S _ _ e) u.op
theorem UI.more {p:Pl} {w:List Tu} {v:V} {wl:Addr} (u:UI H0 H Lp Ln Lw Lo x pv was nas nds) (kb:∀b o,H b=some o->b∉[Lp,Ln,Lw]->H' b=some o) (hp:H' Lp=some (.lst (pv++[v]))) (pa:PlA H' v p) (hn:mH H' Ln (x.ps++[p])) (hw:H' Lw=some (.lst ((was++[wl]).map V.ref))) (wy:f7 H' wl w) (nw:H wl=none) :
  aO H H'/\UI H0 H' Lp Ln Lw Lo ⟨x.ps++[p],x.ws++[w]⟩ (pv++[v]) (was++[wl]) nas nds:=by
 obtain⟨kvs,en,_⟩:=id u.n;have dl:=u.dl;simp only[QN,Qg,Qm,QQ,not_or]at dl
 have kt:aO H H':=sN (Os:=[Lp,Ln,Lw]) (λb hb ys e=>by
  simp only[Qg,Qm,QQ]at hb;rcases hb with rfl|rfl|rfl
  ·rw[u.p]at e;cases e
  ·rw[en]at e;cases e
  rw[u.w]at e;cases e) kb
 have kb':∀b o,H b=some o->b∉[Lp,Ln,Lw,Lo]->H' b=some o:=λb o e n=>kb b o e λz=>n (by simp only[Qg,Qm,QQ]at z ⊢;rcases z with z|z|z <;> simp[z]);refine⟨kt,λb o e=>kb b o (u.s _ _ e) λz=>?_,hp,aK (ae (λ_ _ h=>h.kt kt) u.pp) pa,hn,hw,aK (bq u.wp λb w hb h=>h.keep kt λvs e=>kb' _ _ e (u.ap b (xu _ hb))) wy,kb _ _ u.o (by simp only[Qg,Qm,QQ,not_or];exact⟨λz=>dl.1.2.2 z.symm,λz=>dl.2.1.2 z.symm,λz=>dl.2.2.1 z.symm⟩),bq u.op λb w hb h=>h.keep kt λvs e=>kb' _ _ e (u.ap b (QC _ hb)),λb hb=>?_,u.nd,u.nw,u.dl,u.new⟩
 ·rw[u.new b (by simp only[Qg,Qm,QQ]at z ⊢;rcases z with z|z|z <;> simp[z])]at e;cases e
 rw[List.append_assoc,Qx,Qx,QB]at hb;rcases hb with hb|rfl|hb
 ·exact u.ap b (xu _ hb)
 ·intro z;simp only[Qg,Qm,QQ]at z;rcases z with rfl|rfl|rfl|rfl
  ·rw[u.p]at nw;cases nw
  ·rw[en]at nw;cases nw
  ·rw[u.w]at nw;cases nw
  rw[u.o]at nw;cases nw
 exact u.ap b (QC _ hb)
theorem UI.node {N:Addr} {nd:Nd} (u:UI H0 H Lp Ln Lw Lo x pv was nas nds) (at_:i3 H N nd) (n:N∉Lp::Ln::Lw::Lo::(was++nas)) (h0:H0 N=none):UI H0 (upd H Lo (.lst ((nas++[N]).map V.ref))) Lp Ln Lw Lo x pv was (nas++[N]) (nds++[nd]):=by
 obtain⟨kvs,en,r⟩:=id u.n;have dl:=u.dl;simp only[QN,Qg,Qm,QQ,not_or]at dl;have kt:aO H (upd H Lo (.lst ((nas++[N]).map V.ref))):=bo u.o;have kb:∀b o,H b=some o->b≠Lo->upd H Lo (.lst ((nas++[N]).map V.ref)) b=some o:=λb o e z=>by rw[ag z];exact e
 simp only[Qg,not_or]at n;have inn:∀b∈was++nas,b≠Lo:=λb hb z=>u.ap b hb (by rw[z];simp);refine⟨λb o e=>kb b o (u.s _ _ e) λz=>?_,kb _ _ u.p dl.1.2.2,ae (λ_ _ h=>h.kt kt) u.pp,⟨kvs,kb _ _ en dl.2.1.2,r⟩,kb _ _ u.w dl.2.2.1,bq u.wp λb w hb h=>h.keep kt λvs e=>kb _ _ e (inn b (xu _ hb)),af,aK (bq u.op λb w hb h=>h.keep kt λvs e=>kb _ _ e (inn b (QC _ hb))) (at_.keep kt λvs e=>kb _ _ e n.2.2.2.1),λb hb=>?_,?_,λb hb=>?_,u.dl,u.new⟩
 ·rw[z,u.new Lo (by simp)]at e;cases e
 ·rw[<-List.append_assoc,Qx,QB]at hb;rcases hb with hb|rfl
  ·exact u.ap b hb
  simp only[Qg,Qm,QQ,not_or];exact⟨n.1,n.2.1,n.2.2.1,n.2.2.2.1⟩
 ·rw[List.nodup_append];refine⟨u.nd,by simp,λa ha b hb=>?_⟩;rw[QB.mp hb];exact λz=>n.2.2.2.2 (QC _ (z▸ha))
 rcases Qx.mp hb with hb|hb
 ·exact u.nw b hb
 rw[QB.mp hb];exact h0
end
structure IV (H0 Hs H:Hp) (Lp Ln Lw Lo N q:Addr) (r:Rg) (x:Sx) (pv:List V) (was nas:A3) (nds:List Nd) (p:Pl) (way:List Tu) (sv ndv:List V) (nd:Nd):Prop where
 u:UI H0 H Lp Ln Lw Lo x pv was nas nds
 xo:x.Ok r
 kt:aO Hs H
 hq:H q=some (.lst sv)
 hN:H N=some (.lst ndv)
 pn:Paired (SgA H) ndv nd
 nN:N∉Lp::Ln::Lw::Lo::(was++nas)
 nq:q∉[Lp,Ln,Lw,N]
 gp:x.ps[nds.length]?=some p
 gw:x.ws[nds.length]?=some way
 N0:H0 N=none
section
variable {H0 Hs H H':Hp} {Lp Ln Lw Lo N q:Addr} {r:Rg} {x:Sx} {pv:List V} {was nas:A3} {nds:List Nd} {p:Pl} {way:List Tu} {sv ndv:List V} {nd:Nd}
theorem IV.same (i:IV H0 Hs H Lp Ln Lw Lo N q r x pv was nas nds p way sv ndv nd) (S:ak H H'):IV H0 Hs H' Lp Ln Lw Lo N q r x pv was nas nds p way sv ndv nd :=
 ⟨i.u.same S,i.xo,λb ys e=>S _ _ (i.kt b ys e),S _ _ i.hq,S _ _ i.hN,ae (λ_ _ h=>h.kt (ak.tups S)) i.pn,i.nN,i.nq,i.gp,i.gw,i.N0⟩
theorem IV.put {v:V} {e:Str × Nat} (i:IV H0 Hs H Lp Ln Lw Lo N q r x pv was nas nds p way sv ndv nd) (h:SgA H v e):IV H0 Hs (upd H N (.lst (ndv++[v]))) Lp Ln Lw Lo N q r x pv was nas nds p way sv (ndv++[v]) (nd++[e]):=by
 have kt:aO H (upd H N (.lst (ndv++[v]))):=bo i.hN;have kb:∀b o,H b=some o->b≠N->upd H N (.lst (ndv++[v])) b=some o:=λb o e z=>by rw[ag z];exact e
 have nq:=i.nq;simp only[Qg,Qm,QQ,not_or]at nq;exact⟨i.u.keep (bS i.u.s i.N0) kt kb i.nN,i.xo,λb ys e=>kt _ _ (i.kt b ys e),kb _ _ i.hq nq.2.2.2,af,aK (ae (λ_ _ h=>h.kt kt) i.pn) (h.kt kt),i.nN,i.nq,i.gp,i.gw,i.N0⟩
theorem IV.more {p':Pl} {w':List Tu} {v:V} {wl:Addr} (i:IV H0 Hs H Lp Ln Lw Lo N q r x pv was nas nds p way sv ndv nd) (xo:Sx.Ok r ⟨x.ps++[p'],x.ws++[w']⟩) (kb:∀b o,H b=some o->b∉[Lp,Ln,Lw]->H' b=some o) (hp:H' Lp=some (.lst (pv++[v]))) (pa:PlA H' v p') (hn:mH H' Ln (x.ps++[p'])) (hw:H' Lw=some (.lst ((was++[wl]).map V.ref))) (wy:f7 H' wl w') (nw:H wl=none) :
  aO H H'/\IV H0 Hs H' Lp Ln Lw Lo N q r ⟨x.ps++[p'],x.ws++[w']⟩ (pv++[v]) (was++[wl]) nas nds p way sv ndv nd:=by
 obtain⟨kt,u'⟩:=i.u.more kb hp pa hn hw wy nw;have nq:=i.nq;have nN:=i.nN;simp only[Qg,Qx,Qm,QQ,not_or]at nq nN;refine⟨kt,u',xo,λb ys e=>kt _ _ (i.kt b ys e),kb _ _ i.hq (by simp only[Qg,Qm,QQ,not_or];exact⟨nq.1,nq.2.1,nq.2.2.1⟩),kb _ _ i.hN (by simp only[Qg,Qm,QQ,not_or];exact⟨nN.1,nN.2.1,nN.2.2.1⟩),ae (λ_ _ h=>h.kt kt) i.pn,?_,i.nq,?_,?_,i.N0⟩
 ·simp only[Qg,Qx,Qm,QQ,not_or];exact⟨nN.1,nN.2.1,nN.2.2.1,nN.2.2.2.1,⟨nN.2.2.2.2.1,(aq i.hN nw).symm⟩,nN.2.2.2.2.2⟩
 ·rw[QI (Qe.mp i.gp).1];exact i.gp
 rw[QI (Qe.mp i.gw).1];exact i.gw
end
section
theorem jh:FnScope ["ring_sheet", "places", "numbers", "ways", "nodes", "at", "node", "step", "word"] ["ring_sheet"] (az (top 15)):=by fin2
theorem tX {f:Addr} {fd:FuncData} (Fu:Fun K "unfolded" "unfolded" (top 15) f fd) (T:Txt K mg TT) (f_first_marks:Fn P w K mg base "first_marks" ["arcs"] 2 lB) (f_steps_at:Fn P w K mg base "steps_at" ["ring_sheet", "place"] 4 lr) (f_odd_word:Fn P w K mg base "odd_word" ["ring_sheet", "place", "step"] 2 sy):FnOk P w K mg base CX0 5 f fd ["ring_sheet"] sx:=by
 have S:=jh;refine Fu.ok S (by room) (λcdv A outer s H vs Q E hr h=>?_);obtain⟨a,li,lo,l,as,r,rfl,at_,ok,k⟩:=h;have hu:=cW hr;obtain⟨_,gMN⟩:=T.mNODES;have ha:=at_.ha;obtain⟨ts,wt⟩:=r9 r;refine'⟨?_,?bb,?_⟩
 case bb =>
  walk_at "b";refine' aH 1 S.nd ?e
  case e =>
   walk_at "q";exact(aN f_first_marks hr (aa (au aI (pv 0) ad) ab se_sub));exact(au aI (pv 0) ad)
  exact aH 2 S.nd (o8 hu (au aQ (pv 1) ad) ad);refine' aH 3 S.nd ?e
  case e =>
   walk_at "q"
  exact aH 4 S.nd (a_ ab);refine' dW PassesOwn.never ?_ ?_;rotate_left 2;exact(aC lN (aw aB (by rfl) T.n_len QZ (aa (pv 4) ab ac)) (aw aB (by rfl) T.n_len QZ (aa (pv 1) ab ac)) (aG _));walk_at "p";exact aH 5 S.nd (aw aB (by rfl) T.n_len QZ (aa (pv 4) ab ac));exact aH 6 S.nd (a_ ab);walk_at "f";exact(bn (aN f_steps_at hr (aa (pv 0) (aa (au aQ (pv 1) (pv 5)) ab) ac)));exact(bz 7 S.nd);walk_at "p";exact aH 8 S.nd (aN f_odd_word hr (aa (pv 0) (aa (au aQ (pv 1) (pv 5)) (aa (pv 7) ab ac)) ac));exact(aC qY (pv 8) o5 rfl);refine' aR ?e
  case e =>
   walk_at "q";exact(aF cO (au aQ (pv 3) (pv 5)) (a_ (aa (au aI (pv 7) ad) ab se_sub)));exact(pv 8)
  exact(tO (mV hu (au aI (pv 7) ad) (pv 2)));exact(aC cJ (aw aB (by rfl) T.n_len QZ (aa (pv 1) ab ac)) (iq (v:=.int 40) (by rfl) gMN ⟨_,rfl⟩) (aG _));exact(aR (bg (aa bc ab aD)));exact(dX hu (pv 2) (au aI (pv 7) ad) (aw aB (by rfl) T.n_len QZ (aa (pv 1) ab ac)) rfl);exact(bj (bt Qv QL QM aZ (pv 1) (aa (au aI (pv 7) ad) ab)));refine' bj (bt Qv QL QM aZ (pv 3) ?a)
  case a =>
   walk_at "q";exact(aF cO (au aQ (pv 3) (pv 5)) (a_ (aa (au aI (pv 7) ad) ab se_sub)))
  refine' bj (bt Qv QL QM aZ (pv 6) ?a)
  case a =>
   walk_at "q";exact(au aI (au aI (pv 7) ad) ad);exact(ff hu (pv 2) (au aI (pv 7) ad))
  exact(bj (bt Qv QL QM aZ (pv 4) (aa (pv 6) ab ac)));refine' aR ?e
  case e =>
   walk_at "q";exact(aV bE (by rfl) T.n_list Q9 (aa (au aI (pv 0) ad) ab));exact(aV bE (by rfl) T.n_list Q9 (aa (au aI (pv 0) ad) ab));exact(au aI (pv 0) ad);exact(pv 4)
 x_go;lk;refine⟨l,as,r,rfl,at_.arcs,ok,λm0 H1 S1 hm0=>?_⟩;have ha1:=S1 _ _ ha;lk;refine⟨by simp[sizeLine],λp0 hp0=>?_⟩;generalize hE:upd H1 p0 _=H2;obtain⟨S2,q2⟩:=aj hp0 hE;lk;refine⟨by simp[sizeLine],λLp hLp=>?_⟩;generalize hE:upd H2 Lp _=H3;obtain⟨S3,q3⟩:=aj hLp hE;refine λLn hLn=>?_;generalize hE:upd H3 Ln _=H4;obtain⟨S4,q4⟩:=aj hLn hE;have q34:=S4 _ _ q3;lk;have ep:aO H2 H4:=ak.tups (S3.trans S4);have pl0:PlA H2 (.ref p0) (mks r.arcs,r.z):=⟨p0,m0,rfl,q2,S2 _ _ hm0⟩;refine⟨q4,p0,_,rfl,(pl0.kt ep).tk,?_⟩;generalize hE:upd H4 Ln _=H5;have q5:H5 Ln=some (.dT [(tkP (mks r.arcs,r.z),.int 0)]):=by rw[<-hE];exact af
 have S5:ak H3 H5:=by rw[<-hE];exact bS S4 hLn
 lk;refine⟨by simp[sizeLine],λw0 hw0=>?_⟩;generalize hE:upd H5 w0 _=H6;obtain⟨S6,q6⟩:=aj hw0 hE;lk;refine⟨by simp[sizeLine],λLw hLw=>?_⟩;generalize hE:upd H6 Lw _=H7;obtain⟨S7,q7⟩:=aj hLw hE;lk;refine⟨by simp[sizeLine],λLo hLo=>?_⟩;generalize hE:upd H7 Lo _=H8;obtain⟨S8,q8⟩:=aj hLo hE
 have ui:UI H H8 Lp Ln Lw Lo (Sx.first r) [.ref p0] [w0] [] []:=by
  have S68:=(S6.trans S7).trans S8;have S38:=S5.trans S68;have n1:Ln≠Lp:=aq q3 hLn;have n2:Lw≠Lp:=aq (S6 _ _ (S5 _ _ q3)) hLw;have n3:Lo≠Lp:=aq (S7 _ _ (S6 _ _ (S5 _ _ q3))) hLo;have n4:Lw≠Ln:=aq (S6 _ _ q5) hLw;have n5:Lo≠Ln:=aq (S7 _ _ (S6 _ _ q5)) hLo;have n6:Lo≠Lw:=aq q7 hLo;refine⟨((S1.trans S2).trans S3).trans S38,S38 _ _ q3,.cons (pl0.kt (ak.tups (S3.trans S38))) .nil,rp _ (S68 _ _ q5),S8 _ _ q7,.cons ⟨[],S8 _ _ (S7 _ _ q6),.nil⟩ .nil,q8,.nil,λb hb=>?_,.nil,(λb hb=>nomatch hb),?_,λb hb=>?_⟩
  ·rw[List.append_nil,QB]at hb;subst hb;simp only[Qg,Qm,QQ,not_or];exact⟨aq (S5 _ _ q3) hw0,aq q5 hw0,(aq q6 hLw).symm,(aq (S7 _ _ q6) hLo).symm⟩
  ·simp only[QN,Qg,Qm,QQ,not_or,not_false_iff,List.nodup_nil,and_true];exact⟨⟨n1.symm,n2.symm,n3.symm⟩,⟨n4.symm,n5.symm⟩,n6.symm⟩
  have S12:=S1.trans S2;have S13:=S12.trans S3;have S16:=S13.trans (S5.trans S6);simp only[Qg,Qm,QQ]at hb;rcases hb with rfl|rfl|rfl|rfl
  ·exact aP S12 hLp
  ·exact aP S13 hLn
  ·exact aP S16 hLw
  exact aP (S16.trans S7) hLo
 refine ay (s_seq ?_);let I2:IvF:=λm U H'=>∃x pv was nas nds y5 y6 y7 y8,U=[some (.ref a),some (.ref Lp),some (.ref Ln),some (.ref Lw),some (.ref Lo),y5,y6,y7,y8]/\UI H H' Lp Ln Lw Lo x pv was nas nds/\x.Ok r/\nds.length<=x.ps.length/\m+nds.length=40/\K2.outer r ts (m+1) x nds=unf r ts;refine⟨I2,⟨40,_,_,_,_,_,none,none,none,none,rfl,ui,jU ok,QT _,rfl,rfl⟩,?_⟩;rintro m U H' ⟨x,pv,was,nas,nds,y5,y6,y7,y8,rfl,u,xo,hn,hm,hR⟩;have hLp':=u.p;have hLo':=u.o;have lp:=ao u.pp;have lo_:=ao u.op;have at':=at_.same u.s;lk;rw[Qc,lo_,lp];unfold K2.outer at hR;by_cases c:nds.length<x.ps.length
 ·refine ifT (QA (by omega)) ?_;rw[Qw c]at hR;obtain⟨m1,rfl⟩:∃m1,m=m1+1:=⟨m-1,by have:=xo.2.2.1;omega⟩;refine⟨_,λσ' H2 h=>⟨m1,Nat.lt_succ_self _,h⟩,?_⟩;have gp:=Sx.p_mem c;have gw:=Sx.w_mem (x:=x) (i:=nds.length) (by rw[xo.1];exact c);generalize x.p nds.length=p at hR gp;generalize x.wy nds.length=way at hR gw;have po:=xo.2.2.2.1 p (Ql gp);obtain⟨vp,gvp,plp⟩:=aY u.pp gp;lk;rw[Qc,lo_];refine⟨by simp[sizeLine],λN hN=>?_⟩;generalize hE:upd H' N _=G1;obtain⟨T1,qN⟩:=aj hN hE;have uN:=u.same T1;have hLp1:=uN.p;lk;refine i_ixL (SqL.of hLp1) (b_ gvp) ?_;refine aW ⟨a,li,lo,l,as,r,vp,p,rfl,at'.same T1,ok,plp.kt (ak.tups T1),po,λq sv ts' G2 T2 nq hq wt' psv=>?_⟩;obtain rfl:ts'=ts:=wt'.one wt λ_=>Iff.rfl;refine⟨q,rfl,⟨_,SqL.of hq⟩,?_⟩
  have iv:IV H G2 G2 Lp Ln Lw Lo N q r x pv was nas nds p way sv [] []:=by
   have u2:=uN.same T2;obtain⟨kvs,en,_⟩:=id uN.n;obtain⟨kvs',en',_⟩:=id u.n
   have was_at:∀b∈was++nas,∃o,H' b=some o:=λb hb=>by
    rcases Qx.mp hb with hb|hb
    ·obtain⟨i,hi,rfl⟩:=QS hb;obtain⟨y,_,vs,e,_⟩:=paired_get u.wp (Qb hi);exact⟨_,e⟩
    obtain⟨i,hi,rfl⟩:=QS hb;obtain⟨y,_,vs,e,_⟩:=paired_get u.op (Qb hi);exact⟨_,e⟩
   refine⟨u2,xo,λ_ _ e=>e,hq,T2 _ _ qN,.nil,?_,?_,gp,gw,aP u.s hN⟩
   ·simp only[Qg,not_or];refine⟨aq u.p hN,aq en' hN,aq u.w hN,aq u.o hN,λz=>?_⟩;obtain⟨o,e⟩:=was_at _ z;rw[e]at hN;cases hN
   simp only[Qg,Qm,QQ,not_or];exact⟨aq uN.p nq,aq en nq,aq uN.w nq,aq qN nq⟩
  generalize eR:cv r p.2 way (bh r ts' p) x []=R at hR;let I3:IvF:=λi U H2=>∃x pv was ndv nd y7 y8,U=[some (.ref a),some (.ref Lp),some (.ref Ln),some (.ref Lw),some (.ref Lo),some (.int (nds.length:Nat)),some (.ref N),y7,y8]/\IV H G2 H2 Lp Ln Lw Lo N q r x pv was nas nds p way sv ndv nd/\cv r p.2 way ((bh r ts' p).drop i) x nd=R/\nd.length=i;refine cX (xs:=sv) I3 ⟨x,pv,was,[],[],y7,y8,rfl,iv,by rw[List.drop_zero];exact eR,rfl⟩ (λi U H2 _ ⟨_,_,_,_,_,_,_,_,iv,_⟩=>SqL.of iv.hq) (λi v U H2 ev h=>?_) (λU H2 h=>?_)
  ·obtain⟨x,pv,was,ndv,nd,y7,y8,rfl,iv,hI,hnd⟩:=h;obtain⟨s,es,sa⟩:=paired_get psv ev;have sa:=sa.kt iv.kt;obtain⟨sb,v1,v2,rfl,hsb,tu,pl2⟩:=id sa;obtain⟨ta,rfl,hta⟩:=id tu;obtain⟨pb,mb,rfl,hpb,hmb⟩:=id pl2;obtain⟨vp,gvp,plp⟩:=aY iv.u.pp iv.gp;obtain⟨t,mt,et⟩:=Qo.mp (Ql es);obtain⟨mt,may⟩:=List.mem_filter.mp mt;have tok:=Wt.ok ok wt mt;have ssl:(bh r ts' p).length<=10:=by unfold bh;rw[Qc];exact QK (List.length_filter_le _ _) (Wt.few ok wt)
   have il:=(Qe.mp es).1;have ndl:=ao iv.pn;have big:1000<sizeLine:=by decide
   rw[List.drop_eq_getElem_cons il,(Qe.mp es).2]at hI;have hLp2:=iv.u.p;have at2:=at_.same iv.u.s;lk;refine i_ixL (SqL.of hLp2) (b_ gvp) ?_;lk;refine⟨a,li,lo,l,as,r,vp,.ref sb,p,s,rfl,at2,ok,plp,po,sa,by rw[<-et];exact tok,λG3 T3=>?_⟩;have iv3:=iv.same T3;have hsb3:=T3 _ _ hsb;have hta3:=T3 _ _ hta;lk;refine⟨rfl,_,rfl,?_⟩
   cases co:ix r p.2 s with
   | some wd =>
    refine ifT (by rw[Qy (λz=>by cases z)];rfl) ?_;have hLw3:=iv3.u.w;obtain⟨wl,gwl,wvs,hwl,wpr⟩:=aY iv3.u.wp iv3.gw;have wl10:way.length<41:=by have:=iv3.xo.2.2.2.2 way (Ql iv3.gw);have:=iv3.xo.1;have:=iv3.xo.2.2.1;omega
    lk;refine i_ixL (SqL.of hLw3) (b_ (by rw[QE,gwl];rfl)) ?_;lk;refine⟨by simp[sizeLine],λp1 h1=>?_⟩;generalize hE:upd G3 p1 _=G4;obtain⟨T4,q4⟩:=aj h1 hE;have wl2:=ao wpr;refine eX (T4 _ _ hwl) q4 (by rw[Qs];omega) λp2 h2=>?_;generalize hE:upd G4 p2 _=G5;obtain⟨T5,q5⟩:=aj h2 hE;lk;refine⟨by simp[sizeLine],λp3 h3=>?_⟩;generalize hE:upd G5 p3 _=G6;obtain⟨T6,q6⟩:=aj h3 hE;have TT:=(T4.trans T5).trans T6;refine k (.ref p3) ts' G6 (iv3.u.s.trans TT) wt ?_
    have eU:unf r ts'=.odd (way++[s.1]) wd:=by
     unfold cv at hI;rw[co]at hI;rw[<-hR,<-hI]
    rw[eU];exact⟨p3,p2,rfl,q6,aP (iv3.u.s.trans T4) h2,_,T6 _ _ q5,aK (ae (λ_ _ h=>h.kt (ak.tups TT)) wpr) (tu.kt (ak.tups (T3.trans TT)))⟩
   | none =>
   refine ifF rfl ?_;refine s_next ?_;unfold cv at hI;rw[co]at hI;dsimp only at hI;let I4:IvJ:=λU G=>∃x' pv' was',U=[some (.ref a),some (.ref Lp),some (.ref Ln),some (.ref Lw),some (.ref Lo),some (.int (nds.length:Nat)),some (.ref N),some (.ref sb),some .non]/\IV H G2 G Lp Ln Lw Lo N q r x' pv' was' nas nds p way sv ndv nd/\aO G3 G/\s.2∈x'.ps/\cv r p.2 way ((bh r ts' p).drop (i+1)) x' (nd++[(s.1.1,x'.ps.idxOf s.2)])=R;with_reducible refine bR I4 (λRR hJ=>?_) (λU G h=>?_)
   ·obtain⟨kvs,en,kl,kv⟩:=id iv3.u.n;have pl3:=pl2.kt (ak.tups T3);refine s_if (i_tB (p8 ?_));lk;refine⟨Ln,_,rfl,eA.t en pl3.tk,_,rfl,?_⟩;rw[kv];by_cases c:s.2∈x.ps
    ·rw[Qw c]at hI ⊢;exact ifF rfl (s_next (hJ _ _ ⟨x,pv,was,rfl,iv3,λ_ _ e=>e,c,hI⟩))
    rw[Qq c]at hI ⊢;refine ifT rfl ?_;have hLp3:=iv3.u.p;have lp3:=ao iv3.u.pp;lk;rw[lp3];by_cases c40:x.ps.length=40
    ·rw[Qw c40]at hI;refine ifT (QA (by rw[c40];rfl)) ?_;lk;refine⟨by simp[sizeLine],λp3 h3=>?_⟩;generalize hE:upd G3 p3 _=G6;obtain⟨T6,q6⟩:=aj h3 hE;refine k (.ref p3) ts' G6 (iv3.u.s.trans T6) wt ?_;have eU:unf r ts'=.many:=by rw[<-hR,<-hI]
     rw[eU];exact⟨p3,rfl,q6⟩
    rw[Qq c40]at hI;refine ifF (Qy (λz=>c40 (by have:=V.int.inj z;omega))) ?_;kt_k;kt_k;refine fH ?_;lk;rw[lp3];have l40:=iv3.xo.2.2.1;refine⟨Ln,_,rfl,gi.t en pl3.tk (by omega),?_⟩;generalize hE4:upd G3 Ln _=G4;have dl:=iv3.u.dl;simp only[QN,Qg,Qm,QQ,not_or]at dl;obtain⟨wl,gwl,wvs,hwl,wpr⟩:=aY iv3.u.wp iv3.gw;have apw:=iv3.u.ap wl (xu _ (Ql gwl));simp only[Qg,Qm,QQ,not_or]at apw;have wl2:=ao wpr;have wl10:way.length<x.ws.length:=iv3.xo.2.2.2.2 way (Ql iv3.gw);have wsl:=iv3.xo.1;have k4:∀b o,G3 b=some o->b≠Ln->G4 b=some o:=λb o e z=>by rw[<-hE4,ag z];exact e
    have q4:G4 Ln=some (.dT (bL kvs (tkP s.2) (.int (x.ps.length:Nat)))):=by rw[<-hE4];exact af
    have hLp4:=k4 _ _ hLp3 dl.1.1;have hsb4:=k4 _ _ hsb3 (λz=>by rw[z,en]at hsb3;cases hsb3);have hta4:=k4 _ _ hta3 (λz=>by rw[z,en]at hta3;cases hta3);lk;refine cE hLp4 (by omega) ?_;generalize hE5:upd G4 Lp _=G5;have k5:∀b o,G4 b=some o->b≠Lp->G5 b=some o:=λb o e z=>by rw[<-hE5,ag z];exact e
    have q5:G5 Lp=some (.lst (pv++[.ref pb])):=by rw[<-hE5];exact af
    have hLw5:=k5 _ _ (k4 _ _ iv3.u.w (λz=>dl.2.1.1 z.symm)) (λz=>dl.1.2.1 z.symm);have hwl5:=k5 _ _ (k4 _ _ hwl apw.2.1) apw.1;have hsb5:=k5 _ _ hsb4 (λz=>by rw[z,hLp4]at hsb4;cases hsb4);have hta5:=k5 _ _ hta4 (λz=>by rw[z,hLp4]at hta4;cases hta4);lk;refine i_ixL (SqL.of hLw5) (b_ (by rw[QE,gwl];rfl)) ?_;lk;refine⟨by simp[sizeLine],λp1 h1=>?_⟩;generalize hE:upd G5 p1 _=G6;obtain⟨T6,q6⟩:=aj h1 hE;refine eX (T6 _ _ hwl5) q6 (by rw[Qs];omega) λp2 h2=>?_;generalize hE:upd G6 p2 _=G7;obtain⟨T7,q7⟩:=aj h2 hE;have hLw7:=T7 _ _ (T6 _ _ hLw5);have wal:=ao iv3.u.wp;refine aW (cE hLw7 (by rw[Qc];omega) ?_);generalize hE8:upd G7 Lw _=G8;have k8:∀b o,G7 b=some o->b≠Lw->G8 b=some o:=λb o e z=>by rw[<-hE8,ag z];exact e
    have kb:∀b o,G3 b=some o->b∉[Lp,Ln,Lw]->G8 b=some o:=λb o e nb=>by
     simp only[Qg,Qm,QQ,not_or]at nb;exact k8 _ _ (T7 _ _ (T6 _ _ (k5 _ _ (k4 _ _ e nb.2.1) nb.1))) nb.2.2
    have no2:2∉s.2.1:=λz=>by
     unfold ix at co;rw[Qw z]at co
     split at co <;> cases co
    have xo':Sx.Ok r ⟨x.ps++[s.2],x.ws++[way++[s.1]]⟩:=by
     refine⟨by rw[Qh,Qh,wsl];rfl,by rw[Qh,Qs];omega,by rw[Qh,Qs];omega,λp' hp'=>?_,λw' hw'=>?_⟩
     ·rcases Qx.mp hp' with h|h
      ·exact iv3.xo.2.2.2.1 p' h
      rw[QB.mp h,<-et];exact jd po tok may (by rw[et];exact no2)
     show _<(x.ws++[way++[s.1]]).length;rw[Qh,Qs];rcases Qx.mp hw' with h|h
     ·have:=iv3.xo.2.2.2.2 w' h;omega
     rw[QB.mp h,Qh,Qs];omega
    have kt3:aO G3 G8:=sN (Os:=[Lp,Ln,Lw]) (λb hb ys e=>by
     simp only[Qg,Qm,QQ]at hb;rcases hb with rfl|rfl|rfl
     ·rw[hLp3]at e;cases e
     ·rw[en]at e;cases e
     rw[iv3.u.w]at e;cases e) kb
    have hp2:p2≠Lw:=aq (T6 _ _ hLw5) h2
    have hw2:G3 p2=none:=by
     cases e:G3 p2 with
     | none=>rfl
     | some o =>
     by_cases z1:p2=Lp
     ·rw[z1,T6 _ _ q5]at h2;cases h2
     by_cases z2:p2=Ln
     ·rw[z2,T6 _ _ (k5 _ _ q4 (λz=>dl.1.1 z.symm))]at h2;cases h2
     rw[T6 _ _ (k5 _ _ (k4 _ _ e z2) z1)]at h2;cases h2
    obtain⟨kt8,iv8⟩:=iv3.more (p':=s.2) (w':=way++[s.1]) (v:=.ref pb) (wl:=p2) (H':=G8) xo' kb (k8 _ _ (T7 _ _ (T6 _ _ q5)) dl.1.2.1) (pl3.kt kt3)
     ⟨_,k8 _ _ (T7 _ _ (T6 _ _ (k5 _ _ q4 (λz=>dl.1.1 z.symm)))) dl.2.1.1,QK (ci _ _ _) (by rw[Qh,Qs];omega),rn c kv⟩
     (by rw[<-hE8,af,xC];rfl) ⟨_,k8 _ _ q7 hp2,aK (ae (λ_ _ h=>h.kt kt3) wpr) ((tu.kt (ak.tups T3)).kt kt3)⟩ hw2
    refine hJ _ _ ⟨_,_,_,rfl,iv8,kt8,QC _ (List.mem_singleton_self _),?_⟩;rw[show (x.ps++[s.2]).idxOf s.2=x.ps.length by rw[List.idxOf_append,Qq c];simp];exact hI
   obtain⟨x',pv',was',rfl,iv',kt',ms,hI'⟩:=h;obtain⟨kvs,en,kl,kv⟩:=id iv'.u.n;have hsb':=kt' _ _ hsb3;have hta':=kt' _ _ hta3;have hN':=iv'.hN;have pl':=(pl2.kt (ak.tups T3)).kt kt';lk;refine⟨Ln,_,rfl,by have z:=eA.t en pl'.tk;rw[kv,Qw ms]at z;exact z,?_⟩;lk;refine⟨by simp[sizeLine],λp5 h5=>?_⟩;generalize hE:upd G p5 _=G6;obtain⟨T6,q6⟩:=aj h5 hE;have iv6:=iv'.same T6;refine aW (cE iv6.hN (by omega) ?_);exact⟨x',pv',was',_,_,_,_,rfl,iv6.put ⟨p5,rfl,q6⟩,hI',by rw[Qh,hnd];rfl⟩
  obtain⟨x,pv,was,ndv,nd,y7,y8,rfl,iv,hI,hnd⟩:=h;rw[List.drop_of_length_le (Nat.le_of_eq (ao psv).symm)]at hI;unfold cv at hI;rw[<-hI]at hR;have hLo2:=iv.u.o;have gl:=(Qe.mp iv.gp).1;have big:1000<sizeLine:=by decide
  have l40:=iv.xo.2.2.1;lk;refine cE hLo2 (by rw[Qc,lo_];omega) ?_;have un:=iv.u.node ⟨ndv,iv.hN,iv.pn⟩ iv.nN iv.N0;rw[xC]at un;exact⟨x,pv,was,nas++[N],nds++[nd],_,_,_,_,rfl,un,iv.xo,by rw[Qh,Qs];exact gl,by rw[Qh,Qs];omega,hR⟩
 refine ifF (Qy (by omega)) ?_;rw[Qq c]at hR;have ha':=at'.ha;have hi':=at'.hi;lk;refine λli2 h2=>?_;generalize hE:upd H' li2 _=H9;obtain⟨S9,q9⟩:=aj h2 hE;have ha9:=S9 _ _ ha';have ho9:=S9 _ _ at'.ho;lk;refine λlo2 h3=>?_;generalize hE:upd H9 lo2 _=Ha;obtain⟨Sa,qa⟩:=aj h3 hE;have haa:=Sa _ _ ha9;lk;refine⟨by simp[sizeLine],λs2 h4=>?_⟩;generalize hE:upd Ha s2 _=Hb;obtain⟨Sb,qb⟩:=aj h4 hE;lk;refine⟨by simp[sizeLine],λa2 h5=>?_⟩;generalize hE:upd Hb a2 _=Hc;obtain⟨Sc,qc⟩:=aj h5 hE;have Sall:ak H' Hc:=((S9.trans Sa).trans Sb).trans Sc;refine k (.ref a2) ts Hc (u.s.trans Sall) wt ?_;rw[<-hR];have uc:=u.same Sall;have e1:li2≠Lo:=λz=>by rw[z,hLo']at h2;cases h2
 have e2:lo2≠li2:=λz=>by rw[z,q9]at h3;cases h3
 have e3:lo2≠Lo:=λz=>by rw[z,S9 _ _ hLo']at h3;cases h3
 have nas_at:∀b∈nas,∃o,H' b=some o:=λb hb=>by
  obtain⟨i,hi,rfl⟩:=QS hb;obtain⟨y,_,vs,e,_⟩:=paired_get u.op (Qb hi);exact⟨_,e⟩
 have e4:li2∉nas:=λz=>by obtain⟨o,e⟩:=nas_at _ z;rw[e]at h2;cases h2
 have e5:lo2∉nas:=λz=>by obtain⟨o,e⟩:=nas_at _ z;rw[S9 _ _ e]at h3;cases h3
 have e6:Lo∉nas:=λz=>u.ap _ (QC _ z) (by simp);refine⟨a2,s2,li2,lo2,Lo,nas,rfl,qc,Sc _ _ qb,Sc _ _ (Sb _ _ (Sa _ _ q9)),Sc _ _ (Sb _ _ qa),uc.o,uc.op,?_,?_⟩
 ·simp only[QN,Qg,not_or];exact⟨⟨e2.symm,e1,e4⟩,⟨e3,e5⟩,e6,u.nd⟩
 intro b hb;simp only[Qg]at hb;rcases hb with rfl|rfl|rfl|hb
 ·exact aP u.s h2
 ·exact aP (u.s.trans S9) h3
 ·exact u.new _ (by simp)
 exact u.nw b hb
end
def oB (K:PySem.W.Frag):Sp:=λvs H Q _=>∃(s:Addr) (ns:List Int) (k:Nat),vs=[.ref s,.int (k:Int)]/\SqL K H s (ns.map V.int)/\k<=100/\∀(D:Dk) H',D.n=3700->ak H H'->H D.d=none->D.At H'->Q (.ref D.d) H'
theorem rB {x y:Int} (x0:0<=x) (x1:x<9999999607) (y0:0<=y) (y1:y<=100000):0<=(x+991)*(29*y+59)+3517*y*y/\(x+991)*(29*y+59)+3517*y*y<1000000000000000000:=by
 have a0:0<=(x+991)*(29*y+59):=Int.mul_nonneg (by omega) (by omega);have a1:(x+991)*(29*y+59)<=10000000598*2900059:=Int.mul_le_mul (by omega) (by omega) (by omega) (by omega);have b0:0<=3517*y*y:=Int.mul_nonneg (by omega) y0;have b1:3517*y*y<=351700000*100000:=Int.mul_le_mul (by omega) y1 y0 (by omega);omega
section
theorem jp:FnScope ["script", "k", "cell"] ["script", "k"] (az (top 17)):=by fin2
theorem re {f:Addr} {fd:FuncData} (Fu:Fun K "_law_pool" "_law_pool" (top 17) f fd) (T:Txt K mg TT):FnOk P w K mg base CX0 1 f fd ["script", "k"] (oB K):=by
 have S:=jp;refine Fu.ok S (by room) (λcdv A outer s H vs Q E hr h=>?_);obtain⟨s,ns,k,rfl,hS,k100,q⟩:=h
 refine⟨_,(pss_cons (oV (i:=2) S.nd rfl (by z_go) ad)
  (pss_cons (ps_if (aC lN (pv 1) (aw aB (by rfl) T.n_len QZ (aa (pv 0) ab ac)) (aG _)) (pss_one (aH 2 S.nd (au aQ (pv 0) (pv 1)))) pss_nil)
  (pss_cons (ps_if (aC u4 (pv 2) (aF pj ad ad) (aG _)) (pss_one (aR (a_ (aa (aF eG (pv 2) (aF pj ad ad)) (aa ad (aa ad ab aD) aD))))) pss_nil)
  (pss_one (aR (a_ (aa (pv 2) (aa ad (aa (aF du ad (pv 1)) ab) aD) ac))))))),?_⟩
 x_go;lk;refine⟨_,_,rfl,Or.inl hS,?_⟩;lk;rw[Qc]
 have J:∀(a b:Int) p,0<=b->b<=3700->H p=none->∀x,upd H p (.lst [.int a,.int x,.int b])=upd H p (.lst [.int a,.int x,.int b])->Q (.ref p) (upd H p (.lst [.int a,.int x,.int b])):=λa b p b0 b1 hp x _ =>
  q ⟨p,3700⟩ _ rfl (am hp) hp ⟨_,_,_,af,b0,b1⟩
 by_cases c:k<ns.length
 ·refine ifT (QA (by omega)) ?_;lk;refine i_ixL (v:=.int ns[k]) hS (b_ (by rw[QE,Qb c];rfl)) ?_;lk
  first|refine i_rI ⟨by decide,by decide,by decide⟩ ?_|skip
  lk;refine jP (λ_=>?_) (λ_=>?_)
  ·lk
   first|refine i_rI ⟨by decide,by decide,by decide⟩ ?_|skip
   lk;refine⟨by simp[sizeLine],λp hp=>?_⟩;exact J _ _ p (by omega) (by omega) hp _ rfl
  lk;refine⟨by simp[sizeLine],λp hp=>?_⟩;exact J _ _ p (by omega) (by omega) hp _ rfl
 refine ifF (Qy (by omega)) ?_;lk
 first|refine i_rI ⟨by decide,by decide,by decide⟩ ?_|skip
 lk;refine jP (λ_=>?_) (λ_=>?_)
 ·lk
  first|refine i_rI ⟨by decide,by decide,by decide⟩ ?_|skip
  lk;refine⟨by simp[sizeLine],λp hp=>?_⟩;exact J _ _ p (by omega) (by omega) hp _ rfl
 lk;refine⟨by simp[sizeLine],λp hp=>?_⟩;exact J _ _ p (by omega) (by omega) hp _ rfl
theorem jm:FnScope ["pool", "many", "found", "step", "mark"] ["pool", "many"] (az (top 18)):=by fin2
theorem rb {f:Addr} {fd:FuncData} (Fu:Fun K "_law_take" "_law_take" (top 18) f fd) (T:Txt K mg TT):FnOk P w K mg base CX0 1 f fd ["pool", "many"] eB:=by
 have S:=jm;refine Fu.ok S (by room) (λcdv A outer s H vs Q E hr h=>?_);obtain⟨D,m,rfl,DA,n1,h1,h2,k⟩:=h
 refine⟨_,(pss_cons (ps_if (aC cJ (au aQ (pv 0) ad) ad (aG _)) (pss_cons (aH 2 S.nd (aF eI (au aQ (pv 0) ad) (pv 1)))
  (pss_cons (fK (aF lO (au aQ (pv 0) ad) (pv 1)) (kA (pv 0) ad fE))
  (pss_one (aR (pv 2))))) pss_nil)
  (pss_cons (fK (aF bN (au aQ (pv 0) ad) ad) (kA (pv 0) ad fE))
  (pss_cons (aH 3 S.nd (au aQ (pv 0) ad))
  (pss_cons (aH 4 S.nd (aF du (aF bN (aF eI (au aQ (pv 0) ad) ad) ad) (aF bN (aF du ad (pv 3)) ad)))
  (pss_cons (aH 4 S.nd (aF bN (pv 4) (aF du (aF du ad (pv 3)) (pv 3))))
  (pss_cons (aH 4 S.nd (aF eI (aF du (pv 4) (pv 4)) ad))
  (pss_one (aR (aF eI (aF lO (aF eI (aF du (pv 4) (aF bN (pv 4) ad)) ad) ad) (pv 1)))))))))),?_⟩
 x_go;obtain⟨a,b,c,hd,c0,c1⟩:=id DA;lk;refine jP (λ_=>?_) (λ_=>?_)
 ·lk
  first|refine i_rI (show (0:Int)<m by omega) ?_|skip
  lk
  first|refine i_rI ⟨by omega,by omega⟩ ?_|skip
  lk;exact k _ _ (Int.emod_nonneg _ (by omega)) (Int.emod_lt_of_pos _ (by omega)) ((sO (D:=D) c0 c1).le (QO _ _))
 lk;have hd2:upd H D.d (HO.lst ([V.int a,V.int b,V.int c].set (Int.toNat 2) (V.int (c+1)))) D.d=some (.lst [.int a,.int b,.int (c+1)]):=af;have kp:Kp (D.more 1) H (upd H D.d (HO.lst ([V.int a,V.int b,V.int c].set (Int.toNat 2) (V.int (c+1))))):=sO (D:=D.more 1) (by omega) (by show c+1<=((D.n+1:Nat):Int);omega);generalize upd H D.d (HO.lst ([V.int a,V.int b,V.int c].set (Int.toNat 2) (V.int (c+1))))=H1 at *;lk;obtain⟨M0,M1⟩:=rB (x:=a % 9999999607) (y:=c+1) (Int.emod_nonneg _ (by decide)) (Int.emod_lt_of_pos _ (by decide)) (by omega) (by omega);generalize (a % 9999999607+991)*(29*(c+1)+59)+3517*(c+1)*(c+1)=M at *;refine i_rI (.inl ⟨by omega,by omega⟩) ?_;lk;have N0:=Int.emod_nonneg (M*M) (show (99999999647:Int)≠0 by decide);have N1:=Int.emod_lt_of_pos (M*M) (show (0:Int)<99999999647 by decide);generalize M*M % 99999999647=N at *
 first|refine i_rI (.inl ⟨by omega,by omega⟩) ?_|skip
 lk
 first|refine i_rI (show (0:Int)<m by omega) ?_|skip
 exact k _ _ (Int.emod_nonneg _ (by omega)) (Int.emod_lt_of_pos _ (by omega)) kp
end
theorem c7 {T:List Nat}:∀(zs:List Str),(∀z∈zs,∃c∈T,z=⟨#[c]⟩)->((zs.map (·.cps.toList)).flatten).length=zs.length/\(∀c∈(zs.map (·.cps.toList)).flatten,c∈T)/\(zs.map (·.length)).sum=zs.length
 | [],_=>⟨rfl,λc h=>(Qm h).elim,rfl⟩
 | z::zs,h=>by
  obtain⟨c,hc,rfl⟩:=h z (by simp);obtain⟨e1,e2,e3⟩:=c7 zs λz hz=>h z (Qp _ hz);refine⟨?_,λd hd=>?_,?_⟩
  ·simp only[Qu,List.flatten_cons,Qh,e1,xr];show (#[c]:Array Nat).toList.length+zs.length=_;simp;omega
  ·simp only[Qu,List.flatten_cons,Qx]at hd;rcases hd with hd|hd
   ·have:d=c:=by simpa using hd
    rw[this];exact hc
   exact e2 d hd
  simp only[Qu,List.sum_cons,xr,e3];show (#[c]:Array Nat).size+zs.length=_;simp;omega
variable {zs ns:List Str}
theorem nB {T:List Nat} (h:∀z∈zs,∃c∈T,z=⟨#[c]⟩):(Txt.join Str.empty zs).cps.size=zs.length/\∀c∈(Txt.join Str.empty zs).cps.toList,c∈T:=by
 obtain⟨e1,e2,_⟩:=c7 zs h;rw[<-Qj,nJ];exact⟨e1,e2⟩
theorem rW {t:Str} {r:Int} (h0:0<=r) (h1:r<t.cps.size):∃c,atI t.cps.toList r=some c/\c∈t.cps.toList:=by
 have hr:r.toNat<t.cps.toList.length:=by rw[Qj];omega
 refine⟨t.cps.toList[r.toNat],?_,xG hr⟩;have e:r=((r.toNat:Nat):Int):=by omega
 have q:=b_ (xs:=t.cps.toList) (j:=r.toNat) (v:=t.cps.toList[r.toNat]) (Qb hr);rw[<-e]at q;exact q
def Lt:Str := "abcdefghijklmnopqrstuvwxyz"
def Xn (t:Nat):Str:=Txt.mul ⟨#[Lt.cps.getD t 0]⟩ 8
theorem uC:∀i,i<26->∀j,j<26->Xn i=Xn j->i=j:=by decide +kernel
theorem uB:∀t,t<26->(Xn t).length=8:=by decide +kernel
theorem vb (c:Nat):MulOk ⟨#[c]⟩ 8:=by
 refine⟨by decide,λ_ _=>?_,λ_ _=>?_⟩
 ·show ¬((1:Int)>(2 ^ 63-1) / 8)
  decide
 rfl
theorem pigeon:∀(xs ys:List Str),xs.Nodup->(∀x∈xs,x∈ys)->xs.length<=ys.length
 | [],ys,_,_=>QT _
 | x::xs,ys,nd,h=>by
  rw[QN]at nd;have hx:=h x (by simp);have:=pigeon xs (ys.erase x) nd.2 λy hy=>(List.mem_erase_of_ne (λz:y=x=>nd.1 (by rw[<-z];exact hy))).mpr (h y (Qp _ hy));rw[List.length_erase_of_mem hx]at this;have:0<ys.length:=List.length_pos_of_mem hx;rw[xr];omega
theorem j8:∀t,t<=26->((List.range t).map Xn).Nodup
 | 0,_=>by simp
 | t+1,h=>by
  rw[List.range_succ,xC,List.nodup_append];refine⟨j8 t (by omega),by simp,λa ha b hb e=>?_⟩;obtain⟨i,hi,rfl⟩:=Qo.mp ha;rw[xD]at hi;have:b=Xn t:=by simpa using hb
  subst this;have:=uC i (by omega) t (by omega) e;omega
theorem vD {t:Nat} (ht:t<=26) (h:∀j,j<t->Xn j∈ns):t<=ns.length:=by
 have:=pigeon ((List.range t).map Xn) ns (j8 t ht) λx hx=>by
  obtain⟨j,hj,rfl⟩:=Qo.mp hx;exact h j (xD.mp hj)
 simpa using this
structure NmOk (b:Nat) (z:Str):Prop where
 pos:1<=z.length
 lt:z.length<b
def Bd (k:Nat):Nat:=9*2 ^ k
theorem mI (k:Nat):Bd (k+1)=2*Bd k:=by unfold Bd;rw[Nat.pow_succ];omega
theorem sZ:∀k,9<=Bd k
 | 0=>by decide
 | k+1=>by rw[mI];have:=sZ k;omega
theorem vO:∀k,k<=11->Bd k<=20000:=by decide
theorem rV (h:ns≠[]):∃n∈ns,atI (ns.map V.str) (-1)=some (.str n):=by
 have hl:0<ns.length:=List.length_pos_iff.mpr h;refine⟨ns[ns.length-1],xG _,?_⟩
 have e:ixN (ns.map V.str).length (-1)=some (ns.length-1):=by
  unfold ixN;rw[Qc,Qq (by decide),Qw (by omega)];congr 1;omega
 unfold atI;rw[e];show (ns.map V.str)[ns.length-1]?=_;rw[QE,Qb (by omega)];rfl
theorem rT {ws:List Str} {r:Int} (h0:0<=r) (h1:r<ws.length):∃n∈ws,atI (ws.map V.str) r=some (.str n):=by
 have hr:r.toNat<ws.length:=by omega
 refine⟨ws[r.toNat],xG hr,?_⟩;have e:r=((r.toNat:Nat):Int):=by omega
 have q:=b_ (xs:=ws.map V.str) (j:=r.toNat) (v:=.str ws[r.toNat]) (by rw[QE,Qb hr];rfl);rw[<-e]at q;exact q
theorem iK {nm:Str}:∀{ns:List Str},inV (.str nm) (ns.map V.str)=true↔nm∈ns
 | []=>by simp[inV]
 | x::ns=>by
  have ih:=iK (nm:=nm) (ns:=ns);unfold inV at ih ⊢;rw[Qu,List.any_cons,Bool.or_eq_true,ih,Qg]
  have:eqV (.str x) (.str nm)=true↔nm=x:=by
   show decide (x=nm)=true↔_;rw[xH];exact⟨λh=>h.symm,λh=>h.symm⟩
  rw[this]
theorem nK (ns:List Str):(ns.map V.str).all cF=true:=by
 rw[xa];intro x hx;obtain⟨y,_,rfl⟩:=Qo.mp hx;rfl
theorem lap (a b:Str):(a++b).length=a.length+b.length:=by show (a.cps++b.cps).size=_;rw[Array.size_append];rfl
def jf:Sp:=λvs H Q _=>∃(D:Dk) (m:Nat),vs=[.ref D.d,.int (m:Int)]/\D.At H/\D.n<50000/\1<=m/\m<=11 /\
 ∀l (nm:List Str) H',Kp (D.more 200) H H'->H l=none->nm.length=m->nm.Nodup->H' l=some (.lst (nm.map V.str))->Q (.ref l) H'
variable {D:Dk}
theorem Kp.up {c':Nat} (a:Kp (D.more c) H H1) (l:c<=c'):Kp (D.more c') H H1:=a.le (Nat.add_le_add_left l _)
theorem Kp.one (a:Kp (D.more c) H H1) (b:Kp ((D.more c).more 1) H1 H2):Kp (D.more (c+1)) H H2:=(a.trans b).le (Nat.le_of_eq (Nat.add_assoc _ _ _))
variable {m:Int}
theorem bi {c:Nat} {E:XK} (kp:Kp (D.more c) H0 H) (dn:D.n+c<100000) (h1:1<=m) (h2:m<=100000)
  (q:∀(r:Int) H',0<=r->r<m->(∀b o,H b=some o->¬D.own b->H' b=some o)->Kp (D.more (c+1)) H0 H'->Q (.int r) H'):eB [.ref D.d,.int m] H Q E :=
 ⟨D.more c,m,rfl,kp.dk,dn,h1,h2,λr H' r0 r1 k=>q r H' r0 r1 k.old (kp.one k)⟩
theorem k6 {r:Int} (h0:0<=r) (h1:r<26):∃c∈Lt.cps.toList,atI Lt.cps.toList r=some c:=by
 have z26:((Lt.cps.size:Nat):Int)=26:=by decide +kernel
 obtain⟨c,e,hc⟩:=rW (t:=Lt) (r:=r) h0 (by rw[z26];exact h1);exact⟨c,hc,e⟩
def NJp (D:Dk) (m:Nat) (l:Addr) (stem:Str) (H:Hp) (i:Nat) (ns:List Str) (c:Nat):St->Hp->Prop:=λU H'=>∃(way:Int) (nm:Str) (x8 x9:Option V),U=[some (.ref D.d),some (.int (m:Int)),some (.str Lt),some (.str stem),some (.ref l),some (.int (0+i)),some (.str nm),some (.int way),x8,x9]/\NmOk (Bd (i+1)) nm/\H' l=some (.lst (ns.map V.str))/\Kp (D.more c) H H'
local macro_rules|`(tactic|ctx_has $a $b $c $d $e $f $g)=>`(tactic|(generalize hE:upd $a $b _=$c;obtain⟨$d,$e⟩:=$f $g hE;clear hE))
section
theorem ib:FnScope ["pool", "many", "letters", "stem", "found", "k", "name", "way", "at", "turn"] ["pool", "many"] (az (top 19)):=by fin2
theorem mZ {f:Addr} {fd:FuncData} (Fu:Fun K "_law_names" "_law_names" (top 19) f fd) (T:Txt K mg TT) (f_law_take:Fn P w K mg base "_law_take" ["pool", "many"] 1 eB):FnOk P w K mg base CX0 2 f fd ["pool", "many"] jf:=by
 have S:=ib;refine Fu.ok S (by room) (λcdv A outer s H vs Q E hr h=>?_);obtain⟨D,m,rfl,DA,dn,m1,m11,k⟩:=h;refine'⟨?_,?bb,?_⟩
 case bb =>
  walk_at "b";exact aH 2 S.nd bc;exact aH 3 S.nd (au aQ (a_ (aa bc (aa bc (aa bc (aa bc ab aD) aD) aD) aD)) (aN f_law_take hr (aa (pv 0) (aa ad ab aD) ac)));exact aH 4 S.nd (a_ ab);walk_at "f";exact(cT (by rfl) T.n_range (aa (pv 1) ab ac));exact(bz 5 S.nd);walk_at "p";exact aH 6 S.nd (aF bB (bT dN (pv 3) cx (cw (aN f_law_take hr (aa (pv 0) (aa ad ab aD) ac)))) (au cu (pv 2) (aN f_law_take hr (aa (pv 0) (aa ad ab aD) ac))));exact aH 7 S.nd (aN f_law_take hr (aa (pv 0) (aa ad ab aD) ac));exact(aC cJ (pv 7) ad (aG _));exact aH 6 S.nd (bt PySem.F.plainAttrs_str PySem.F.slot_str_join PySem.F.type_str_join rq bc (aa (dZ "turn" [("letters", 2),("pool", 0)] (cT (by rfl) T.n_range (aa (aF bN ad (aN f_law_take hr (aa (pv 0) (aa ad ab aD) ac))) ab)) (λ_ _ _ _=>(au cu (pv 1) (aN f_law_take hr (aa (pv 2) (aa ad ab aD) ac))))) ab));exact(PW.pt (ky (aC cJ (pv 7) ad (aG _)) (ip (aC (pq hr.units) (pv 4) (a_ ab) (aG _)))));exact aH 8 S.nd (aN f_law_take hr (aa (pv 0) (aa (aw iQ (by rfl) T.n_len QZ (aa (au aQ (pv 4) (oZ kh ad)) ab)) ab se_call) ac));exact aH 6 S.nd (aF bB (aF bB (bT dN (au aQ (pv 4) (oZ kh ad)) cx (cw (pv 8))) (au cu (pv 2) (aN f_law_take hr (aa (pv 0) (aa ad ab aD) ac)))) (bT dN (au aQ (pv 4) (oZ kh ad)) (cw (aF bN (pv 8) ad)) cx));exact aH 9 S.nd ad;refine' dW PassesOwn.never ?_ ?_;rotate_left 2;exact(aC eJ (pv 6) (pv 4) rfl);walk_at "p";exact aH 6 S.nd (aF kB (au cu (pv 2) (pv 9)) ad);exact aH 9 S.nd (aF bN (pv 9) ad);exact(bj (bt Qv QL QM aZ (pv 4) (aa (pv 6) ab ac)));exact(aR (pv 4))
 x_go;lk;refine⟨by decide +kernel,λp hp=>?_⟩;ctx_has H p H1 S1 q1 aj hp;have q1':H1 p=some (.lst ((["abcdefg", "placeof", "zyxwvut", "kjqrshn"]:List Str).map V.str)):=q1;have kp1:Kp (D.more 0) H H1:=Kp.of DA S1;lk;refine bi kp1 (by omega) (by decide) (by decide) λr H2 r0 r1 o2 kp2=>?_;have np:¬D.own p:=aM DA hp;have q2:=o2 _ _ q1' np;obtain⟨stem,hst,est⟩:=rT (ws:=["abcdefg", "placeof", "zyxwvut", "kjqrshn"]) (r:=r) r0 r1;have hstl:stem.length=7:=(by decide +kernel:∀z∈(["abcdefg", "placeof", "zyxwvut", "kjqrshn"]:List Str),z.length=7) stem hst;refine i_ixL (SqL.of q2) est ?_;clear q2 q1 q1' S1 kp1;lk;refine⟨by decide,λl hl=>?_⟩;have nl:¬D.own l:=aM (D:=D.more 1) kp2.dk hl;have HL:H l=none:=kp2.free hl;ctx_has H2 l H3 S3 q3 aj hl;have q3':H3 l=some (.lst (([]:List Str).map V.str)):=q3;have kp3:Kp (D.more 1) H H3:=kp2.trans (Kp.of kp2.dk S3);clear q3 S3 hl;lk;refine⟨by omega,by omega,?_⟩;rw[QX];let I5:IvF:=λi U H'=>∃x5 x6 x7 x8 x9,∃ns:List Str,U=[some (.ref D.d),some (.int (m:Int)),some (.str Lt),some (.str stem),some (.ref l),x5,x6,x7,x8,x9]/\i<=11/\ns.length=i/\ns.Nodup/\(∀n∈ns,NmOk (Bd i) n)/\H' l=some (.lst (ns.map V.str))/\Kp (D.more (1+14*i)) H H'
 refine dD (n:=m) I5
  ⟨_,_,_,_,_,[],rfl,QT _,rfl,List.nodup_nil,(λn h=>nomatch h),q3',kp3⟩ (λi U H' hi pv=>?_) (λU H' pv=>?_)
 ·obtain⟨x5,x6,x7,x8,x9,ns,rfl,_,hn,nd,good,hl',kp⟩:=pv;have bge:=sZ i;have ble:=vO i (by omega);have bsu:=mI i;have l1:∀c,(⟨#[c]⟩:Str).length=1:=λ_=>rfl;refine ay ?_;lk;refine bi kp (by omega) (by decide) (by decide) λr2 Ha r20 r21 oa kpa=>?_;lk;have sl:=Txt.slice_le stem none (some r2);refine fU (by omega) ?_;lk;refine bi kpa (by omega) (by decide) (by decide) λr3 Hb r30 r31 ob kpb=>?_;obtain⟨c,hc,ec⟩:=k6 r30 r31;refine dy (by decide +kernel) ec ?_;refine⟨_,_,rfl,rfl,by rw[l1];omega,?_⟩;have hnm:NmOk (Bd (i+1)) (Txt.slice stem none (some r2)++⟨#[c]⟩):=⟨by rw[lap,l1];omega,by rw[lap,l1];omega⟩;generalize Txt.slice stem none (some r2)++⟨#[c]⟩=nm at *;have hlb:=ob _ _ (oa _ _ hl' nl) nl;clear oa ob kpa sl r20 r21;refine ay ?_;lk;refine bi kpb (by omega) (by decide) (by decide) λway Hc w0 w1 oc kpc=>?_;have hlc:=oc _ _ hlb nl;clear oc kpb hlb;refine ay ?_;with_reducible refine bR (NJp D m l stem H i ns (1+14*i+12)) (λR hR=>?_) (λσ6 H6 j6=>?_)
  ·lk;refine jP (λ_=>?_) (λ_=>hR _ _ ⟨way,nm,x8,x9,rfl,hnm,hlc,kpc.up (by omega)⟩);lk;refine⟨rfl,?_⟩;lk;refine bF ?_;lk;refine bi kpc (by omega) (by decide) (by decide) λr4 Hd r40 r41 od kpd=>?_;have hld:=od _ _ hlc nl;lk;refine⟨by omega,by omega,λL hL=>?_⟩;have nL:¬D.own L:=aM (D:=D.more _) kpd.dk hL;have HLn:H L=none:=kpd.free hL;obtain⟨n8,e8,a8,b8⟩:∃n8:Nat,(1+r4).toNat=n8/\1<=n8/\n8<=8:=⟨_,rfl,by omega,by omega⟩;rw[e8];have nlL:l≠L:=aA hld hL;let I6:IvC:=λn H' ys=>Kp (D.more (1+14*i+4+n)) H H'/\H' L=some (.lst ys)/\H' l=some (.lst (ns.map V.str))/\∃zs:List Str,ys=zs.map V.str/\zs.length=n/\∀z∈zs,∃c∈Lt.cps.toList,z=⟨#[c]⟩
   refine kY (n:=n8) I6
    ⟨(Kp.new kpd hL).up (by omega),af,by rw[ag nlL];exact hld,[],rfl,rfl,λz h=>nomatch h⟩ (λn H' ys pv=>pv.2.1) (λn H' ys hn8 pv=>?_) (λH' ys pv=>?_)
   ·obtain⟨kpx,hLx,hlx,zs,rfl,hz,hzs⟩:=pv;refine ay ⟨⟨rfl,rfl,trivial⟩,i_yes (cq ?_)⟩;show tOp _ _ _ [some (.int (0+n)),some (.str Lt),some (.ref D.d)] _ _;lk;refine bi kpx (by omega) (by decide) (by decide) λr5 Hy r50 r51 oy kpy=>?_;obtain⟨c5,hc5,ec5⟩:=k6 r50 r51;refine dy (by decide +kernel) ec5 ?_;refine eh.mk (oy _ _ hLx nL) hn8 (by rw[Qc];omega) ⟨Kp.fresh (DA.le (QO _ _)) HLn (kpy.up (by omega)),af,by rw[ag nlL];exact oy _ _ hlx nl,zs++[⟨#[c5]⟩],by simp,by simp[hz],λz hz'=>?_⟩;rcases Qx.mp hz' with h|h
    ·exact hzs z h
    rw[QB]at h;exact⟨c5,hc5,h⟩
   obtain⟨kpx,hLx,hlx,zs,rfl,hz,hzs⟩:=pv;obtain⟨_,_,f3⟩:=c7 zs hzs;obtain⟨js,_⟩:=nB hzs;have e0:("" : Str)=Str.empty:=by decide +kernel
   have e00:("" : Str).length=0:=by decide +kernel
   refine aW ⟨"", L,zs,rfl,rfl,SqL.of hLx,by rw[f3,e00];omega,?_⟩;rw[e0];have js':(Txt.join Str.empty zs).length=zs.length:=js;exact ay (hR _ _ ⟨way,_,x8,x9,rfl,⟨by omega,by omega⟩,hlx,kpx.up (by omega)⟩)
  clear hnm hlc kpc;with_reducible refine bR (NJp D m l stem H i ns (1+14*i+14)) (λR hR=>?_) (λσ7 H7 j7=>?_)
  ·obtain⟨way,nm,x8,x9,rfl,hnm,hl6,kp6⟩:=j6;have out:∀H',ak H6 H'->R [some (.ref D.d),some (.int (m:Int)),some (.str Lt),some (.str stem),some (.ref l),some (.int (0+i)),some (.str nm),some (.int way),x8,x9] H':=λH' kq=>hR _ _ ⟨way,nm,x8,x9,rfl,hnm,kq _ _ hl6,(kp6.trans (Kp.of kp6.dk kq)).up (by omega)⟩;lk;refine jP (λ_=>?_) (λ_=>?_)
   ·lk;refine⟨by decide,λp hp=>?_⟩;have S7:=am (o:=.lst []) hp;have hl7:=S7 _ _ hl6;refine⟨l,p,_,[],λ_=>true,rfl,rfl,SqL.of hl7,SqL.of af,(λj x y _ h=>by simp at h),⟨_,rfl,?_⟩⟩;refine jP (λhne=>?_) (λ_=>out _ S7);have nne:ns≠[]:=λz=>by subst z;simp at hne
    obtain⟨la,hla,ela⟩:=rV nne;have gla:=good la hla;have gp:=gla.pos;have gl:=gla.lt;have kp8:Kp (D.more (1+14*i+12)) H (upd H6 p (.lst [])):=kp6.trans (Kp.of kp6.dk S7);generalize upd H6 p (.lst [])=H8 at *;lk;refine i_ixL (SqL.of hl7) ela ?_;lk;refine⟨_,rfl,by omega,?_⟩;lk;refine bi kp8 (by omega) (by omega) (by omega) λat1 H9 t0 t1 o9 kp9=>?_;have hl9:=o9 _ _ hl7 nl;lk;refine i_ixL (SqL.of hl9) ela ?_;lk;refine fU (by omega) ?_;lk;refine bi kp9 (by omega) (by decide) (by decide) λr6 Hk r60 r61 ok kpk=>?_;obtain⟨c6,hc6,ec6⟩:=k6 r60 r61;have hlk:=ok _ _ hl9 nl;refine dy (by decide +kernel) ec6 ?_;have sl1:=Txt.slice_le la none (some at1);have sl2:=Txt.slice_le la (some (at1+1)) none;refine⟨_,_,rfl,rfl,by rw[l1];omega,?_⟩;lk;refine i_ixL (SqL.of hlk) ela ?_;lk;refine fU (by omega) ?_;refine⟨_,_,rfl,rfl,by rw[lap,l1];omega,?_⟩;exact ay (hR _ _ ⟨way,_,_,x9,rfl,⟨by rw[lap,lap,l1];omega,by rw[lap,lap,l1];omega⟩,hlk,kpk.up (by omega)⟩)
   first|exact out _ (ak.refl _)|exact iteF (out _ (ak.refl _))
  obtain⟨way,nm,x8,x9,e,hnm,hl6,kp6⟩:=j7;subst e;with_reducible refine s_seq (s_asg (i_c (ay ?_)))
  let I7:IvJ:=λU H'=>∃(t:Int) (nm:Str),U=[some (.ref D.d),some (.int (m:Int)),some (.str Lt),some (.str stem),some (.ref l),some (.int (0+i)),some (.str nm),some (.int way),x8,some (.int t)]/\NmOk (Bd (i+1)) nm/\nm∉ns/\H'=H7;with_reducible refine bR I7 (λR hR=>?_) (λσ9 H9 j9=>?_)
  ·let I8:IvF:=λn U H'=>∃(t:Nat) (nm:Str),n=26-t/\t<=11/\U=[some (.ref D.d),some (.int (m:Int)),some (.str Lt),some (.str stem),some (.ref l),some (.int (0+i)),some (.str nm),some (.int way),x8,some (.int t)]/\NmOk (Bd (i+1)) nm/\H'=H7/\(∀j,j+1<t->Xn j∈ns)/\(1<=t->nm=Xn (t-1));refine⟨I8,⟨26,0,nm,rfl,by omega,rfl,hnm,rfl,(λj h=>by omega),(λh=>by omega)⟩,?_⟩;rintro n U H' ⟨t,nm,rfl,t11,rfl,hnm,rfl,q1,q2⟩;have z26:((Lt.cps.size:Nat):Int)=26:=by decide +kernel
   lk;refine vU (SqL.of hl6) rfl (nK ns) ?_;refine⟨_,rfl,?_⟩;refine jP (λhin=>?_) (λhin=>?_)
   ·have hmem:=iK.mp hin
    have hall:∀j,j<t->Xn j∈ns:=λj hj=>by
     by_cases z:j+1<t
     ·exact q1 j z
     have:j=t-1:=by omega
     rw[this,<-q2 (by omega)];exact hmem
    have ht:=vD (by omega) hall;refine⟨_,λσ' H' w=>⟨26-(t+1),by omega,w⟩,?_⟩;lk
    have et:atI Lt.cps.toList ((t:Nat):Int)=some (Lt.cps.getD t 0):=by
     refine b_ ?_;have:t<Lt.cps.size:=by omega
     simp[Array.getD,this]
    refine dy (by decide +kernel) et ?_;lk;refine⟨_,_,rfl,rfl,vb _,?_⟩;lk;refine⟨t+1,Xn t,rfl,by omega,rfl,?_,rfl,(λj hj=>hall j (by omega)),(λ_=>rfl)⟩;have:=uB t (by omega);exact⟨by omega,by omega⟩
   exact hR _ _ ⟨t,nm,rfl,hnm,λz=>hin (iK.mpr z),rfl⟩
  obtain⟨t,nm,e,hnm,hnot,e9⟩:=j9;subst e e9;lk;refine cE hl6 (by rw[Qc];omega) ?_;refine⟨_,_,_,_,_,ns++[nm],rfl,by omega,by simp[hn],?_,λn hn'=>?_,by rw[af];simp,Kp.fresh (DA.le (QO _ _)) HL (kp6.up (by omega))⟩
  ·rw[List.nodup_append]
   exact⟨nd,by simp,λa ha b hb e=>hnot (by
    have hb':b=nm:=by simpa using hb
    rw[<-hb',<-e];exact ha)⟩
  rcases Qx.mp hn' with h|h
  ·have g:=good n h;have g1:=g.pos;have g2:=g.lt;exact⟨g1,by omega⟩
  have:n=nm:=by simpa using h
  rw[this];exact hnm
 obtain⟨x5,x6,x7,x8,x9,ns,rfl,_,hn,nd,good,hl',kp⟩:=pv;refine s_ret (te:=dS 4) (D:={ nx:=λx H'=>Q V.non H',rt:=Q }) (a9 rfl ?_);exact k l ns H' (kp.up (by omega)) HL hn nd hl'
end
def lu (K:PySem.W.Frag):Sp:=λvs H Q _=>∃(D:Dk) (a:Addr) (xs:List V),vs=[.ref D.d,.ref a]/\D.At H/\SqL K H a xs/\D.n<50000/\xs.length<=100 /\
 ∀l (ys:List V) H',Kp (D.more 100) H H'->H l=none->ys.Perm xs->H' l=some (.lst ys)->Q (.ref l) H'
theorem pick_perm:∀{ls:List V} {k:Nat} {y:V},ls[k]?=some y->(y::ls.eraseIdx k).Perm ls
 | [],_,_,h=>by simp at h
 | x::r,0,y,h=>by simp at h;subst h;exact .refl _
 | x::r,k+1,y,h=>by
  have:=pick_perm (ls:=r) (k:=k) (y:=y) (by simpa using h);rw[List.eraseIdx_cons_succ];exact(List.Perm.swap _ _ _).trans (this.cons _)
section
theorem h_:FnScope ["pool", "things", "left", "found"] ["pool", "things"] (az (top 20)):=by fin2
theorem pE {f:Addr} {fd:FuncData} (Fu:Fun K "_law_order" "_law_order" (top 20) f fd) (T:Txt K mg TT) (f_law_take:Fn P w K mg base "_law_take" ["pool", "many"] 1 eB):FnOk P w K mg base CX0 2 f fd ["pool", "things"] (lu K):=by
 have S:=h_;refine Fu.ok S (by room) (λcdv A outer s H vs Q E hr h=>?_);obtain⟨D,a,xs,rfl,DA,hx,dn,x100,k⟩:=h;refine'⟨?_,?bb,?_⟩
 case bb =>
  walk_at "b";exact aH 2 S.nd (aV bE (by rfl) T.n_list Q9 (aa (pv 1) ab ac));exact aH 3 S.nd (a_ ab);refine' dW PassesOwn.never ?_ ?_;rotate_left 2;exact(aC (pq hr.units) (pv 2) (a_ ab) (aG _));walk_at "p";exact(bj (bt Qv QL QM aZ (pv 3) (aa (bt Qv PySem.F.slot_list_pop PySem.F.type_list_pop pJ (pv 2) (aa (aN f_law_take hr (aa (pv 0) (aa (aw aB (by rfl) T.n_len QZ (aa (pv 2) ab ac)) ab se_call) ac)) ab se_call)) ab se_call)));exact(aR (pv 3))
 x_go;lk;refine⟨_,_,rfl,.inl hx,λl hl=>?_⟩;have nl:¬D.own l:=aM DA hl;ctx_has H l H1 S1 q1 aj hl;have kp1:Kp (D.more 0) H H1:=Kp.of DA S1;lk;refine⟨by decide,λp hp=>?_⟩;have np:¬D.own p:=aM (D:=D.more _) kp1.dk hp;have nlp:l≠p:=aA q1 hp;have HP:H p=none:=kp1.free hp;ctx_has H1 p H2 S2 q2 aj hp;have kp2:Kp (D.more 0) H H2:=kp1.trans (Kp.of kp1.dk S2);have q1':=S2 _ _ q1;clear kp1 S1 S2 hp q1;lk;let I9:IvF:=λn U H'=>∃(ls fs:List V),n=ls.length/\fs.length+ls.length=xs.length/\U=[some (.ref D.d),some (.ref a),some (.ref l),some (.ref p)]/\(fs++ls).Perm xs/\H' l=some (.lst ls)/\H' p=some (.lst fs)/\Kp (D.more fs.length) H H';refine⟨I9,⟨_,xs,[],rfl,by simp,rfl,.refl _,q1',q2,kp2⟩,?_⟩;rintro n U H' ⟨ls,fs,rfl,hlen,rfl,pm,hl',hp',kp⟩;lk;refine⟨by decide,λe he=>?_⟩;have Se:=am (o:=.lst []) he;have hle:=Se _ _ hl';have hpe:=Se _ _ hp';have kpe:Kp (D.more fs.length) H (upd H' e (.lst [])):=kp.trans (Kp.of kp.dk Se);refine⟨l,e,_,[],λ_=>true,rfl,rfl,SqL.of hle,SqL.of af,(λj x y _ h=>by simp at h),⟨_,rfl,?_⟩⟩;generalize upd H' e (.lst [])=H3 at *;refine jP (λhne=>?_) (λhno=>?_)
 ·have nne:ls≠[]:=λz=>by subst z;simp at hne
  have lpos:0<ls.length:=List.length_pos_iff.mpr nne;refine⟨_,λσ' H' w=>⟨ls.length-1,by omega,w⟩,?_⟩;lk;refine bi kpe (by omega) (by omega) (by omega) λr H4 r0 r1 o4 kp4=>?_;have hl4:=o4 _ _ hle nl;have hp4:=o4 _ _ hpe np;have hj:r.toNat<ls.length:=by omega
  have ez:ls[r.toNat]?=some ls[r.toNat]:=Qb hj;refine aW ?_;refine⟨l,ls,r,r.toNat,_,rfl,rfl,hl4,by omega,by omega,?_,ez,?_⟩
  ·have:ixN ls.length r=some r.toNat:=by unfold ixN;rw[Qw r0,Qw r1]
   exact(iI this).1
  refine aW ?_;have pz:=pick_perm ez;generalize ls[r.toNat]=z at *;have lz:(ls.eraseIdx r.toNat).length+1=ls.length:=by rw[List.length_eraseIdx];rw[Qw hj];omega
  refine cE (xs:=fs) (by rw[ag nlp.symm];exact hp4) (by omega) ?_;refine⟨ls.eraseIdx r.toNat,fs++[z],by omega,by rw[Qh];show fs.length+1+_=_;omega,rfl,?_,by rw[ag nlp,af],af,?_⟩
  ·rw[List.append_assoc];exact(List.Perm.append_left fs pz).trans pm
  have:=Kp.fresh (o:=.lst (fs++[z])) (DA.le (QO _ _)) HP (Kp.fresh (o:=.lst (ls.eraseIdx r.toNat)) (DA.le (QO _ _)) hl kp4);rw[Qh];exact this
 have e0:ls=[]:=by
  cases ls with
  | nil=>rfl
  | cons x r=>exact absurd (by simp) hno
 subst e0;lk;exact k p fs H3 (kpe.up (by simp at hlen;omega)) HP (by simpa using pm) hpe
end
theorem TuA.inj (h1:TuA H v x) (h2:TuA H v y):x=y:=by
 obtain⟨b,e,q⟩:=h1;subst e;obtain⟨b',e,q'⟩:=h2;cases e;rw[q]at q';have:=HO.tup.inj (QH q');simp only[List.cons.injEq,V.str.injEq]at this;exact Prod.ext this.1 this.2.1
open Classical in
theorem kT {t:Tu} (h1:TuA H u x) (h2:TuA H v t):EqD K H (n+2) u v (decide (TuA H u t)):=by
 have e:decide (TuA H u t)=decide (tk2 x=tk2 t):=decide_eq_decide.mpr ⟨λh=>by rw[h1.inj h],λh=>by rw[<-cY h];exact h1⟩;rw[e];obtain⟨a,e,_⟩:=id h1;subst e;obtain⟨b,e,_⟩:=id h2;subst e;exact uq h1.tk h2.tk rfl
open Classical in
theorem cB {t:Tu} (h:H l=some (.lst vs)) (p:Paired (TuA H) vs ts) (hu:TuA H u t) (m:t∈ts) (q:Q (.int (ts.idxOf t:Nat)) H):ij K (.ref l) [u] H Q:=by
 have hi:=xA m;have et:ts[ts.idxOf t]?=some t:=by rw[Qb hi];exact congrArg some (List.getElem_idxOf hi)
 obtain⟨z,ez,hz⟩:=aY p et;refine⟨l,vs,u,λv=>decide (TuA H v t),ts.idxOf t,z,rfl,rfl,SqL.of h,λv hv=>?_,ez,QA hz,λj v hj ev=>?_,q⟩
 ·obtain⟨i,hi,rfl⟩:=QS hv;obtain⟨x,_,hx⟩:=paired_get p (Qb hi);exact kT hx hu
 obtain⟨x,ex,hx⟩:=paired_get p ev;refine Qy λz=>?_;cases hx.inj z;have h1:=List.not_of_lt_findIdx (xs:=ts) (p:=(·==t)) (i:=j) hj;obtain⟨h2,e2⟩:=Qe.mp ex;rw[e2]at h1;simp at h1
abbrev Pr:=Tu × Tu
def PrA (H:Hp) (v:V) (p:Pr):Prop:=∃b v1 v2,v=.ref b/\H b=some (.tup [v1,v2])/\TuA H v1 p.1/\TuA H v2 p.2
theorem PrA.kt {p:Pr} (k:aO H H') (h:PrA H v p):PrA H' v p:=let ⟨b,v1,v2,e,q,h1,h2⟩:=h;⟨b,v1,v2,e,k _ _ q,h1.kt k,h2.kt k⟩
open Classical in
theorem uf {p:Pr} {t:Tu} (hp:PrA H v p) (hu:TuA H u t) (q:Q (.bl (decide (p.1=t) || decide (p.2=t))) H):oR K false u v H Q:=by
 obtain⟨b,v1,v2,rfl,hb,h1,h2⟩:=hp;refine⟨b,_,λv=>decide (TuA H v t),rfl,.inr (SqT.of hb),λv hv=>?_,?_⟩
 ·rcases Qg.mp hv with rfl|hv
  ·exact kT h1 hu
  cases QB.mp hv;exact kT h2 hu
 have e1:decide (TuA H v1 t)=decide (p.1=t):=decide_eq_decide.mpr ⟨λh=>h1.inj h,λh=>h▸h1⟩;have e2:decide (TuA H v2 t)=decide (p.2=t):=decide_eq_decide.mpr ⟨λh=>h2.inj h,λh=>h▸h2⟩;rw[List.any_cons,List.any_cons,List.any_nil,Bool.or_false,e1,e2];exact q
def ku (t:Tu):List Key:=[.inr t.1,.inr t.2]
def tkR (p:Pr):av:=[.inr (ku p.1),.inr (ku p.2)]
theorem pO (h:ku x=ku y):x=y:=by
 unfold ku at h;simp only[List.cons.injEq,Sum.inr.injEq]at h;exact Prod.ext h.1 h.2.1
theorem gX {x y:Pr} (h:tkR x=tkR y):x=y:=by
 unfold tkR at h;simp only[List.cons.injEq,Sum.inr.injEq]at h;exact Prod.ext (pO h.1) (pO h.2.1)
theorem PrA.tk {p:Pr} (h:PrA H (.ref b) p):bA H (tkR p) b:=by
 obtain⟨_,v1,v2,e,q,⟨c,e1,h1⟩,d,e2,h2⟩:=h;cases e;subst e1 e2;exact⟨_,q,.cons ⟨c,rfl,h1⟩ (.cons ⟨d,rfl,h2⟩ .nil)⟩
theorem PrA.of {p:Pr} (h:bA H (tkR p) b):PrA H (.ref b) p:=by
 obtain⟨vs,q,pr⟩:=h
 cases pr with
 | cons r1 pr=>cases pr with
  | cons r2 pr =>
   cases pr;obtain⟨c,e1,h1⟩:=r1;obtain⟨d,e2,h2⟩:=r2;subst e1 e2;exact⟨b,_,_,rfl,q,⟨c,rfl,h1⟩,d,rfl,h2⟩
structure PrOk (ws:List Str) (p:Pr):Prop where
 o:cH ws p.1
 t:cH ws p.2
 ne:p.1≠p.2
structure MkD (H:Hp) (a:Addr) (ws:List Str) (kvs:List (av × V)) (n:Nat):Prop where
 h:H a=some (.dT kvs)
 l:kvs.length<=n
 ok:∀kv∈kvs,∃p:Pr,kv.1=tkR p/\PrOk ws p/\∃m:Int,kv.2=.int m/\(m=0\/m=1)
 nd:(kvs.map (·.1)).Nodup
theorem pL {k:av} {kv:av × V} (h:kv∈bL kvs k v):kv∈kvs\/kv=(k,v):=by
 unfold bL at h
 split at h
 ·obtain⟨x,hx,e⟩:=Qo.mp h;by_cases c:x.1=k
  ·rw[Qw c]at e;exact .inr (by rw[<-e,c])
  rw[Qq c]at e;exact .inl (e▸hx)
 rcases Qx.mp h with h|h
 ·exact .inl h
 exact .inr (QB.mp h)
theorem cU (kvs:List (av × V)) (k:av) (v:V):(k∈kvs.map (·.1)/\(bL kvs k v).map (·.1)=kvs.map (·.1))\/(k∉kvs.map (·.1)/\(bL kvs k v).map (·.1)=kvs.map (·.1)++[k]):=by
 cases e:bH kvs k with
 | none=>exact .inr ⟨i9 e,by rw[oU v e,xC];rfl⟩
 | some u =>
 refine .inl ⟨qI e,?_⟩;unfold bL;rw[cg,e];rw[Qw (show (some u).isSome=true from rfl),List.map_map];refine List.map_congr_left λx _=>?_;show (if x.1=k then (x.1,v) else x).1=x.1
 split <;> rfl
theorem MkD.put {H':Hp} {ws:List Str} {p:Pr} (d:MkD H a ws kvs n) (ok:PrOk ws p) (hm:m=0\/m=1) (e:H' a=some (.dT (bL kvs (tkR p) (.int m)))):MkD H' a ws (bL kvs (tkR p) (.int m)) (n+1):=by
 refine⟨e,QK (ci _ _ _) (Nat.succ_le_succ d.l),λkv h=>?_,?_⟩
 ·rcases pL h with h|rfl
  ·exact d.ok kv h
  exact⟨p,rfl,ok,m,rfl,hm⟩
 rcases cU kvs (tkR p) (.int m) with⟨_,e⟩|⟨c,e⟩
 ·rw[e];exact d.nd
 rw[e];exact lR d.nd c
theorem MkD.set {ws:List Str} {p:Pr} (d:MkD H a ws kvs n) (hp:tkR p∈kvs.map (·.1)) (ok:PrOk ws p) (hm:m=0\/m=1) (e:H' a=some (.dT (bL kvs (tkR p) (.int m)))):MkD H' a ws (bL kvs (tkR p) (.int m)) n:=by
 have q:=d.put ok hm e;refine⟨q.h,?_,q.ok,q.nd⟩;rcases cU kvs (tkR p) (.int m) with⟨_,e⟩|⟨c,_⟩
 ·have:=congrArg List.length e;rw[Qc,Qc]at this;rw[this];exact d.l
 exact absurd hp c
theorem MkD.same {H':Hp} {ws:List Str} (d:MkD H a ws kvs n) (e:∀o,H a=some o->H' a=some o):MkD H' a ws kvs n:=⟨e _ d.h,d.l,d.ok,d.nd⟩
theorem MkD.val {ws:List Str} {p:Pr} (d:MkD H a ws kvs n) (h:tkR p∈kvs.map (·.1)):PrOk ws p/\∃m:Int,bH kvs (tkR p)=some (.int m)/\(m=0\/m=1):=by
 cases e:bH kvs (tkR p) with
 | none=>exact absurd h (i9 e)
 | some v =>
 unfold bH at e;obtain⟨kv,hf,rfl⟩:=xh.mp e;have h1:=List.find?_some hf;obtain⟨p',e1,ok,m,e2,hm⟩:=d.ok kv (List.mem_of_find?_eq_some hf);have h1:kv.1=tkR p:=xv h1;cases gX (e1.symm.trans h1);exact⟨ok,m,by rw[e2],hm⟩
theorem cmK {g:TG} {te:TE} {tt:L2.TT} {QD:Hp->Prop} {xs:List α} {I:V->α->Prop} (R:Hp->V->α->Prop) (DA:D.At H1) (hL:H1 L=none) (e:H1 a=some (.lst vs)) (na:¬D.own a) (pa:Paired I vs xs) (few:xs.length<=100000) (mono:∀H H' v x,aO H H'->R H v x->R H' v x)
  (hs:∀i v x H,i<xs.length->I v x->x∈xs->Kp (D.more i) H1 H->∀(G:V->Hp->Prop) (N:Hp->Prop),(∀u H2,Kp (D.more (i+1)) H H2->R H2 u x->G u H2)->(∀H2,Kp (D.more (i+1)) H H2->N H2)->g v σ0 H λσ2 H2=>wk σ0 σ2/\tt σ2 H2 λb H3=>if b=true then te σ2 H3 G else N H3)
  (hd:∀H ys zs,Kp (D.more xs.length) H1 H->H L=some (.lst ys)->zs.Sublist xs->Paired (R H) ys zs->QD H) :
  ∃W:Nat->Nat->Hp->List V->Prop,(∃m,W 0 m (upd H1 L (.lst [])) [])/\∀i m H ys,W i m H ys->H L=some (.lst ys)/\(((Itl K a).stop i H/\QD H)\/((Itl K a).go i H/\∀x H',(Itl K a).yld i H x H'->g x σ0 H' λσ2 H2=>wk σ0 σ2/\tt σ2 H2 λb H3 =>
   if b=true then te σ2 H3 λv H4=>H4 L=some (.lst ys)/\ys.length<sizeLine/\∃m',m'<m/\W (i+1) m' (upd H4 L (.lst (ys++[v]))) (ys++[v]) else ∃m',m'<m/\W (i+1) m' H3 ys)):=by
 have l:=ao pa;have nL:¬D.own L:=aM DA hL;refine⟨λi m H ys=>m=xs.length-i/\i<=xs.length/\Kp (D.more i) H1 H/\H L=some (.lst ys)/\∃zs,zs.Sublist (xs.take i)/\Paired (R H) ys zs,⟨_,rfl,QT _,Kp.of DA (am hL),af,[],List.nil_sublist _,.nil⟩,?_⟩;rintro i m H ys ⟨rfl,hi,kp,hy,zs,sb,p⟩;refine⟨hy,?_⟩;have ea:=kp.old _ _ e na;by_cases hl:i<xs.length
 ·refine .inr ⟨⟨vs,vs[i]'(by omega),SqL.of ea,Qb _⟩,λv H' y=>?_⟩;obtain⟨e',y⟩:=y;subst e';have ex:xs[i]?=some xs[i]:=Qb hl;have hm:xs.length-(i+1)<xs.length-i:=by omega
  obtain⟨v',ev,r⟩:=aY pa ex;cases ev.symm.trans (y vs (SqL.of ea));have st:xs.take i++[xs[i]]=xs.take (i+1):=by rw[List.take_succ,ex];rfl
  refine hs i v xs[i] _ hl r (Ql ex) kp _ _ (λu H2 k2 ru=>?_) (λH2 k2=>?_)
  ·have yl:ys.length<=xs.length:=by
    rw[ao p];refine QK sb.length_le ?_;rw[Q3];omega
   have hy2:=k2.old _ _ hy nL;have kt:=bo (o:=.lst (ys++[u])) hy2;have kt2:=Kp.tups (kp.dk.le (Nat.add_le_add_left (Nat.le_succ _) _)) k2;refine⟨hy2,xP yl (xP few (by decide)),_,hm,rfl,hl,Kp.fresh (DA.le (QO _ _)) hL (kp.trans k2),af,zs++[xs[i]],?_,?_⟩
   ·rw[<-st];exact sb.append (List.Sublist.refl _)
   exact aK (ae (λv x r=>mono _ _ v x kt (mono _ _ v x kt2 r)) p) (mono _ _ u _ kt ru)
  have kt2:=Kp.tups (kp.dk.le (Nat.add_le_add_left (Nat.le_succ _) _)) k2;exact⟨_,hm,rfl,hl,kp.trans k2,k2.old _ _ hy nL,zs,by rw[<-st];exact sb.trans (List.sublist_append_left _ _),ae (λv x r=>mono _ _ v x kt2 r) p⟩
 obtain rfl:i=xs.length:=by omega
 rw[Q8 (Qi _)]at sb;exact .inl ⟨⟨vs,SqL.of ea,by omega⟩,hd H ys zs kp hy sb p⟩
theorem iR {xs:List V} {i:Int} (h0:-(xs.length:Int)<=i) (h1:i<xs.length):∃v,atI xs i=some v/\v∈xs:=by
 unfold atI ixN;by_cases c:0<=i
 ·rw[Qw c,Qw h1];exact⟨xs[i.toNat]'(by omega),Qb _,xG _⟩
 rw[Qq c,Qw h0];exact⟨xs[(i+xs.length).toNat]'(by omega),Qb _,xG _⟩
theorem bx {F:α->β->Prop} {xs:List α} {ys:List β} (p:Paired F xs ys) {x:α} (h:x∈xs):∃y∈ys,F x y:=by
 obtain⟨i,hi,rfl⟩:=QS h;obtain⟨y,e,r⟩:=paired_get p (Qb hi);exact⟨y,Ql e,r⟩
theorem og (p:Paired (TuA H) vs ts):∀x∈vs,∃a,x=V.ref a:=λx hx=>by
 obtain⟨_,_,b,e,_⟩:=bx p hx;exact⟨b,e⟩
theorem dq:∀(ns:List Str),Paired (λv n=>v=V.str n) (ns.map V.str) ns
 | []=>.nil
 | _::ns=>.cons rfl (dq ns)
theorem qX {t u:L2.TT} {R:Bool->Hp->Prop} (J:Hp->Prop) (hT:∀H',J H'->R true H') (hF:∀H',J H'->R false H') (h:∀(R':Bool->Hp->Prop),(∀b H',J H'->R' b H')->tOr t u U H R'):tOr t u U H R:=h R λb H' j=>by
 cases b
 ·exact hF H' j
 exact hT H' j
theorem c9 {D:Addr} {o:HO} (h:H D=some (.dT kvs)):aO H (upd H D o):=λb ys e=>by
 rw[ag (λz=>by rw[z,h]at e;cases e)];exact e
theorem bit (b:Bool):(if b=true then (1:Int) else 0)=0\/(if b=true then (1:Int) else 0)=1:=by cases b <;> simp
structure AI (D:Dk) (H H':Hp) (Lm Lq:Addr) (ws:List Str) (c n:Nat) (pv:List V) (ps:List Pr):Prop where
 kp:Kp (D.more c) H H'
 m:H' Lm=some (.dT [])
 q:H' Lq=some (.lst pv)
 pp:Paired (PrA H') pv ps
 ok:∀p∈ps,cH ws p.1/\cH ws p.2
 l:ps.length<=n
section
variable {D:Dk} {H H' H2:Hp} {Lm Lq:Addr} {ws:List Str} {c n:Nat} {pv:List V} {ps:List Pr}
theorem Kp.kt {k:Nat} (kp:Kp (D.more k) H H') (old:∀b o,H' b=some o->¬D.own b->H2 b=some o):aO H' H2:=λb xs e=>old b _ e (iy (D:=D.more k) kp.dk e (λ_ z=>nomatch z))
theorem AI.draw {c':Nat} (i:AI D H H' Lm Lq ws c n pv ps) (DA:D.At H) (hm:H Lm=none) (hq:H Lq=none) (old:∀b o,H' b=some o->¬D.own b->H2 b=some o) (k:Kp (D.more c') H H2):AI D H H2 Lm Lq ws c' n pv ps :=
 ⟨k,old _ _ i.m (aM DA hm),old _ _ i.q (aM DA hq),ae (λ_ _ h=>h.kt (i.kp.kt old)) i.pp,i.ok,i.l⟩
theorem AI.same (i:AI D H H' Lm Lq ws c n pv ps) (S:ak H' H2):AI D H H2 Lm Lq ws c n pv ps :=
 ⟨i.kp.trans (Kp.of i.kp.dk S),S _ _ i.m,S _ _ i.q,ae (λ_ _ h=>h.kt (ak.tups S)) i.pp,i.ok,i.l⟩
theorem AI.add {v:V} {p:Pr} (i:AI D H H' Lm Lq ws c n pv ps) (DA:D.At H) (hq:H Lq=none) (pa:PrA H' v p) (ok:cH ws p.1/\cH ws p.2):AI D H (upd H' Lq (.lst (pv++[v]))) Lm Lq ws c (n+1) (pv++[v]) (ps++[p]):=by
 have kt:aO H' (upd H' Lq (.lst (pv++[v]))):=bo i.q;refine⟨Kp.fresh (DA.le (QO _ _)) hq i.kp,by rw[ag (λz=>by have:=i.m;rw[z,i.q]at this;cases this)];exact i.m,af,aK (ae (λ_ _ h=>h.kt kt) i.pp) (pa.kt kt),λp' hp'=>?_,by rw[Qh];exact Nat.succ_le_succ i.l⟩;rcases Qx.mp hp' with h|h
 ·exact i.ok p' h
 rw[QB.mp h];exact ok
end
def oE:Sp:=λvs H Q _=>∃(D:Dk) (o nl:Addr) (ov:List V) (ots:List Tu) (ws:List Str),vs=[.ref D.d,.ref o,.ref nl]/\D.At H/\D.n<50000/\H o=some (.lst ov)/\Paired (TuA H) ov ots/\H nl=some (.lst (ws.map V.str))/\(∀t,t∈ots↔cH ws t)/\1<=ots.length/\ots.length<=10/\ws.length<=5 /\
 ∀a kvs H',Kp (D.more 70) H H'->H a=none->MkD H' a ws kvs 52->Q (.ref a) H'
section
theorem jr:FnScope ["pool", "order", "names", "marks", "pairs", "turn", "at", "one", "other"] ["pool", "order", "names"] (az (top 21)):=by fin2
theorem rj {f:Addr} {fd:FuncData} (Fu:Fun K "_law_arcs" "_law_arcs" (top 21) f fd) (T:Txt K mg TT) (f_law_take:Fn P w K mg base "_law_take" ["pool", "many"] 1 eB):FnOk P w K mg base CX0 2 f fd ["pool", "order", "names"] oE:=by
 have S:=jr;refine Fu.ok S (by room) (λcdv A outer s H vs Q E hr h=>?_);obtain⟨D,o,nl,ov,ots,ws,rfl,DA,dn,ho,po,hnl,all,o1,o10,w5,k⟩:=h;have hu:=cW hr;refine'⟨?_,?bb,?_⟩
 case bb =>
  walk_at "b";exact aH 3 S.nd o7;exact(oW (j:=4) S.nd rfl (by z_go) (tgs:=["name"]) (cap:=[("pool", 0)]) rfl ⟨rfl,rfl,rfl,rfl,rfl,rfl⟩ (bn (pv 2)) (λ_ _ _ _=>(bf (i:=0) (show List.Nodup [("name" : Str),("pool" : Str)] by decide +kernel) rfl (by z_go))) (λ_ _ _ _=>(cS (aC gx (aN f_law_take hr (aa (pv 1) (aa ad ab aD) ac)) ad (aG _)))) (λ_ _ _ _=>(bg (aa (bg (aa (pv 0) (aa bc ab aD) ac)) (aa (bg (aa (pv 0) (aa bc ab aD) ac)) ab se_tup) se_tup))));walk_at "f";exact(cT (by rfl) T.n_range (aa (aN f_law_take hr (aa (pv 0) (aa (au aQ (a_ (aa ad (aa ad ab aD) aD)) (aN f_law_take hr (aa (pv 0) (aa ad ab aD) ac))) ab) ac)) ab se_call));exact(bz 5 S.nd);walk_at "p";refine' bj (bt Qv QL QM aZ (pv 4) ?a)
  case a =>
   walk_at "q";exact(au aQ (pv 1) (aN f_law_take hr (aa (pv 0) (aa (aw aB (by rfl) T.n_len QZ (aa (pv 1) ab ac)) ab se_call) ac)));exact(au aQ (pv 1) (aN f_law_take hr (aa (pv 0) (aa (aw aB (by rfl) T.n_len QZ (aa (pv 1) ab ac)) ab se_call) ac)))
  walk_at "f";exact(lL (by rfl) T.n_enumerate (aa (pv 1) ab ac));exact(dO rfl (aE (bz 6 S.nd) (aE (bz 5 S.nd) bI)));walk_at "p";exact(aC (iw hr.units) (eT (tgs:=["pair"]) (cap:=[("turn", 5)]) rfl ⟨rfl,rfl,rfl,rfl,rfl,rfl⟩ (bn (pv 4)) (λ_ _ _ _=>(bf (i:=0) (show List.Nodup [("pair" : Str),("turn" : Str)] by decide +kernel) rfl (by z_go))) (λ_ _ _ _=>(cS (aC (qZ (K:=K) rfl hr.units) (pv 1) (pv 0) rfl))) (λ_ _ _ _=>ad)) (a_ ab) (aG _));refine' bj (bt Qv QL QM aZ (pv 4) ?a)
  case a =>
   walk_at "q";exact(au aQ (pv 1) (aF eG (pv 6) ad));exact(pv 5)
  walk_at "f";exact(bn (pv 4));exact(dO rfl (aE (bz 7 S.nd) (aE (bz 8 S.nd) bI)));walk_at "p";exact(aC (tU hr.units) (pv 7) (pv 8) (aG _));exact(dX hu (pv 3) (bg (aa (pv 7) (aa (pv 8) ab ac) ac)) (aV bP (by rfl) T.n_int xB (aa (bC gx (bt Qv xc xf (bX hr.units) (pv 1) (aa (pv 7) ab ac)) (bt Qv xc xf (bX hr.units) (pv 1) (aa (pv 8) ab ac)) (aG _)) ab)) rfl);exact(PW.pt (lJ (aC gx (aN f_law_take hr (aa (pv 0) (aa ad ab aD) ac)) ad (aG _)) (ik (aC cJ (au aI (pv 7) ad) (au aI (pv 8) ad) (aG _)))));exact(dX hu (pv 3) (bg (aa (pv 8) (aa (pv 7) ab ac) ac)) (aF eG ad (ff hu (pv 3) (bg (aa (pv 7) (aa (pv 8) ab ac) ac)))) rfl);exact(aR (pv 3))
 x_go;have no_:¬D.own o:=iy DA ho (λxs e=>by cases e;exact kH (og po));have nn_:¬D.own nl:=iy DA hnl (λxs e=>by cases e;exact kG ws);lk;refine λLm hLm=>?_;generalize hE:upd H Lm _=H1;obtain⟨S1,q1⟩:=aj hLm hE;have DA1:=DA.same S1;refine ay ?_;lk;refine bF (s_list (a9 rfl ⟨nl,rfl,⟨_,SqL.of (S1 _ _ hnl)⟩,λLq hLq1=>?_⟩));have hLq:=aP S1 hLq1;refine cmK (I:=λv n=>v=V.str n) (xs:=ws) (λH v nm=>PrA H v ((nm, "+"),(nm, "-"))) DA1 hLq1 (S1 _ _ hnl) nn_ (dq ws) (by omega) (λH H' v x k h=>h.kt k) (λi v x H' hi ev mx kp G N hG hN=>?_) (λH' ys zs kp hy sb pz=>?_)
 ·subst ev;refine ay ⟨⟨rfl,trivial⟩,?_⟩;lk;refine bi kp (by omega) (by omega) (by omega) λr H2 r0 r1 o2 kp2=>?_;lk;have k2:Kp (D.more (i+1)) H' H2:=⟨o2,kp2.dk⟩;cases decide (0<r)
  ·exact iteF (hN H2 k2)
  refine cq ?_;lk;refine⟨by simp[sizeLine],λp1 h1=>?_⟩;generalize hE:upd H2 p1 _=H3;obtain⟨S3,q3⟩:=aj h1 hE;lk;refine⟨by simp[sizeLine],λp2 h2=>?_⟩;generalize hE:upd H3 p2 _=H4;obtain⟨S4,q4⟩:=aj h2 hE;lk;refine⟨by simp[sizeLine],λp3 h3=>?_⟩;generalize hE:upd H4 p3 _=H5;obtain⟨S5,q5⟩:=aj h3 hE;exact hG _ H5 (k2.trans (Kp.of k2.dk ((S3.trans S4).trans S5))) ⟨p3,_,_,rfl,q5,⟨p1,rfl,S5 _ _ (S4 _ _ q3)⟩,p2,rfl,S5 _ _ q4⟩
 have ai:AI D H H' Lm Lq ws 5 5 ys (zs.map λnm=>((nm, "+"),(nm, "-"))):=by
  have kpH:Kp (D.more ws.length) H H':=(Kp.of (D:=D.more ws.length) (DA.le (QO _ _)) S1).trans kp;refine⟨kpH.up w5,kp.old _ _ q1 (aM (D:=D) DA hLm),hy,bM (f:=λnm:Str=>(((nm, "+"),(nm, "-")):Pr)) pz,λp hp=>?_,by rw[Qc];exact QK sb.length_le w5⟩;obtain⟨nm,hn,rfl⟩:=Qo.mp hp;have:=sb.subset hn;exact⟨⟨this,.inl rfl⟩,this,.inr rfl⟩
 generalize (zs.map λnm=>(((nm, "+"),(nm, "-")):Pr))=ps at ai;clear pz sb zs kp hy;lk;have ordA:∀{H':Hp} {k:Nat},Kp (D.more k) H H'->H' o=some (.lst ov)/\Paired (TuA H') ov ots:=λ{H' k} kp=>⟨kp.old _ _ ho no_,ae (λ_ _ h=>h.kt (Kp.tups (D:=D.more k) (DA.le (QO _ _)) kp)) po⟩;have pol:=ao po
 have pick:∀{H':Hp} {k:Nat} {r:Int},Kp (D.more k) H H'->-(ov.length:Int)<=r->r<ov.length->∃v t,atI ov r=some v/\TuA H' v t/\cH ws t:=λ{H' k r} kp h0 h1=>by
  obtain⟨v,e,hv⟩:=iR h0 h1;obtain⟨t,ht,tu⟩:=bx (ordA kp).2 hv;exact⟨v,t,e,tu,(all t).mp ht⟩
 refine⟨by decide,λp0 hp0=>?_⟩;generalize hE:upd H' p0 _=H2;obtain⟨S2,q2⟩:=aj hp0 hE;have np0:¬D.own p0:=aM (D:=D.more _) ai.kp.dk hp0;have ai2:=ai.same S2;lk;refine bi ai2.kp (by omega) (by omega) (by omega) λr H3 r0 r1 o3 kp3=>?_;have ai3:=ai2.draw DA hLm hLq o3 kp3
 have at3:∃m:Int,atI [V.int 3,V.int 12] r=some (.int m)/\1<=m/\m<=12:=by
  have:r=0\/r=1:=by omega
  rcases this with rfl|rfl
  ·exact⟨3,rfl,by decide,by decide⟩
  exact⟨12,rfl,by decide,by decide⟩
 obtain⟨m,em,m1,m12⟩:=at3;refine i_ixL (SqL.of (o3 _ _ q2 np0)) em ?_;lk;refine bi ai3.kp (by omega) (by omega) (by omega) λr H4 r0 r1 o4 kp4=>?_;have ai4:=ai3.draw DA hLm hLq o4 kp4;clear ai ai2 ai3 o3 o4 kp3 kp4 S2 q2 hE;refine aW ⟨r,rfl,by omega,by omega,?_⟩;let I10:IvF:=λi U H'=>∃pv ps y,U=[some (.ref D.d),some (.ref o),some (.ref nl),some (.ref Lm),some (.ref Lq),y,none,none,none]/\AI D H H' Lm Lq ws (7+2*i) (5+i) pv ps;refine dD I10 ⟨_,_,_,rfl,ai4⟩ (λi U H' hi h=>?_) (λU H' h=>?_)
 ·obtain⟨pv,ps,y,rfl,ai⟩:=h;have hq:=ai.q;have hoo:=(ordA ai.kp).1;refine ay ?_;lk;refine bi ai.kp (by omega) (by omega) (by omega) λr H2 r0 r1 o2 kp2=>?_;have ai2:=ai.draw DA hLm hLq o2 kp2;obtain⟨v1,t1,e1,tu1,ok1⟩:=pick kp2 (r:=r) (by omega) r1;refine i_ixL (SqL.of (ordA kp2).1) e1 ?_;have hoo:=(ordA ai2.kp).1;lk;refine bi ai2.kp (by omega) (by omega) (by omega) λr H3 r0 r1 o3 kp3=>?_;have ai3:=ai2.draw DA hLm hLq o3 kp3;obtain⟨v2,t2,e2,tu2,ok2⟩:=pick kp3 (r:=r) (by omega) r1;refine i_ixL (SqL.of (ordA kp3).1) e2 ?_;lk;refine⟨by simp[sizeLine],λp4 hp4=>?_⟩;generalize hE:upd H3 p4 _=H4;obtain⟨S4,q4⟩:=aj hp4 hE;have ai4:=ai3.same S4;have:=ai4.l;refine aW (cE ai4.q (by rw[ao ai4.pp];omega) ?_);exact⟨_,_,_,rfl,ai4.add (p:=(t1,t2)) DA hLq ⟨p4,_,_,rfl,q4,(tu1.kt (kp2.kt o3)).kt (ak.tups S4),tu2.kt (ak.tups S4)⟩ ⟨ok1,ok2⟩⟩
 obtain⟨pv,ps,y,rfl,ai⟩:=h;have ai:AI D H H' Lm Lq ws 29 16 pv ps:=⟨ai.kp.up (by omega),ai.m,ai.q,ai.pp,ai.ok,by have:=ai.l;omega⟩;have hoo:=(ordA ai.kp).1;lk;refine ba (a9 rfl (aW ⟨o,rfl,⟨_,SqL.of hoo⟩,?_⟩));let I11:IvF:=λi U H'=>∃pv ps y5 y6,U=[some (.ref D.d),some (.ref o),some (.ref nl),some (.ref Lm),some (.ref Lq),y5,y6,none,none]/\AI D H H' Lm Lq ws 29 (16+i) pv ps;refine jS (xs:=ov) I11 ⟨_,_,_,_,rfl,ai⟩ (λi U H' _ ⟨_,_,_,_,_,ai⟩=>SqL.of (ordA ai.kp).1) (λi x U H' TA ex h hT=>?_) (λU H' h=>?_)
 ·obtain⟨pv,ps,y5,y6,rfl,ai⟩:=h;have hi:=(Qe.mp ex).1;generalize hE:upd H' TA _=H2;obtain⟨S2,q2⟩:=aj hT hE;have ai2:=ai.same S2;obtain⟨t,et,tu⟩:=paired_get (ordA ai2.kp).2 ex;have tkt:=(all t).mp (Ql et);refine⟨TA,_,rfl,SqT.of q2,rfl,_,_,rfl,ay ⟨_,_,rfl,ay ⟨rfl,?_⟩⟩⟩;lk;refine bF (s_list (a9 rfl ⟨Lq,rfl,⟨_,SqL.of ai2.q⟩,λLc hLc=>?_⟩));refine de (λp=>decide (p.1=t) || decide (p.2=t)) (λH v p=>v=.int 1) hLc ai2.q ai2.pp (by have:=ai2.l;omega) (λH H' v x k h=>h) (λv p H3 pa mp S3 G N hG hN=>?_) (λH3 ys S3 hy pz=>?_)
  ·refine ay ⟨⟨rfl,trivial⟩,?_⟩;lk;refine uf (pa.kt (ak.tups S3)) (tu.kt (ak.tups S3)) ⟨_,rfl,?_⟩;cases cc:(decide (p.1=t) || decide (p.2=t))
   ·exact iteF (hN cc H3 (ak.refl _))
   exact cq (hG cc _ H3 (ak.refl _) rfl)
  refine ii hy λH4 S4=>?_;have ai4:=ai2.same (S3.trans S4);cases decide (ys.length=0)
  ·exact iteF (s_next ⟨_,_,_,_,rfl,ai4.kp,ai4.m,ai4.q,ai4.pp,ai4.ok,QK ai4.l (Nat.le_succ _)⟩)
  refine cq ?_;have hq4:=ai4.q;lk;obtain⟨v1,t1,e1,tu1,ok1⟩:=pick ai4.kp (r:=(i:Int)-1) (by omega) (by omega);refine i_ixL (SqL.of (ordA ai4.kp).1) e1 ?_;lk;refine⟨by simp[sizeLine],λp4 hp4=>?_⟩;generalize hE:upd H4 p4 _=H5;obtain⟨S5,q5⟩:=aj hp4 hE;have ai5:=ai4.same S5;have:=ai5.l;refine aW (cE ai5.q (by rw[ao ai5.pp];omega) ?_);exact⟨_,_,_,_,rfl,ai5.add (p:=(t1,t)) DA hLq ⟨p4,_,_,rfl,q5,tu1.kt (ak.tups S5),tu.kt (ak.tups ((S3.trans S4).trans S5))⟩ ⟨ok1,tkt⟩⟩
 obtain⟨pv,ps,y5,y6,rfl,ai⟩:=h;have pl:=ao ai.pp;have p26:pv.length<=26:=by have:=ai.l;omega
 lk;refine⟨Lq,rfl,⟨_,SqL.of ai.q⟩,?_⟩;have nq:¬D.own Lq:=aM DA hLq;have nm:¬D.own Lm:=aM DA hLm;have aip:=ai.pp;have Hk:=ai.kp;generalize hHC:H'=HC at ai aip Hk;subst hHC;let I12:IvF:=λi U H'=>∃kvs y7 y8,U=[some (.ref D.d),some (.ref o),some (.ref nl),some (.ref Lm),some (.ref Lq),y5,y6,y7,y8]/\Kp (D.more (29+i)) H H'/\H' Lq=some (.lst pv)/\Paired (PrA H') pv ps/\MkD H' Lm ws kvs (2*i);refine cX (xs:=pv) I12 ⟨[],_,_,rfl,ai.kp,ai.q,ai.pp,ai.m,QT _,(λ_ h=>nomatch h),.nil⟩ (λi U H' _ ⟨_,_,_,_,_,h,_⟩=>SqL.of h) (λi x U H' ex h=>?_) (λU H' h=>?_)
 ·obtain⟨kvs,y7,y8,rfl,kp,hq,pp,md⟩:=h;have hi:=(Qe.mp ex).1;obtain⟨p,ep,pa⟩:=paired_get pp ex;have pok:=ai.ok p (Ql ep);obtain⟨b,v1,v2,rfl,hb,tu1,tu2⟩:=pa;refine⟨b,_,rfl,SqT.of hb,rfl,_,_,rfl,ay ⟨_,_,rfl,ay ⟨rfl,?_⟩⟩⟩;lk;refine db tu1 tu2 ⟨_,rfl,?_⟩;by_cases ce:p.1=p.2
  ·exact ifF (by rw[QA ce];rfl) (s_next ⟨kvs,_,_,rfl,kp.up (by omega),hq,pp,md.h,QK md.l (by omega),md.ok,md.nd⟩)
  refine ifT (by rw[Qy ce];rfl) ?_;have hoo:=ordA kp;have ho1:=hoo.1;have mq:Lm≠Lq:=λz=>by have:=md.h;rw[z,hq]at this;cases this
  kt_k;refine fH ?_;lk;refine cB ho1 hoo.2 tu1 ((all _).mpr pok.1) ?_;lk;refine cB ho1 hoo.2 tu2 ((all _).mpr pok.2) ?_;lk;refine⟨by simp[sizeLine],λp3 h3=>?_⟩;have hm:=bit (decide (((ots.idxOf p.2:Nat):Int)<(ots.idxOf p.1:Nat)));generalize (if (decide (((ots.idxOf p.2:Nat):Int)<(ots.idxOf p.1:Nat)))=true then (1:Int) else 0)=m at hm ⊢;generalize hE:upd H' p3 _=H2;obtain⟨S2,q2⟩:=aj h3 hE;have pa2:PrA H2 (.ref p3) p:=⟨p3,_,_,rfl,q2,tu1.kt (ak.tups S2),tu2.kt (ak.tups S2)⟩;have hm2:=S2 _ _ md.h;have:=md.l;refine⟨Lm,_,rfl,gi.t hm2 pa2.tk (by omega),?_⟩;generalize hE3:upd H2 Lm _=H3;have q3:H3 Lm=some (.dT (bL kvs (tkR p) (.int m))):=by rw[<-hE3];exact af
  have kt3:aO H' H3:=λb ys e=>by rw[<-hE3];exact c9 hm2 _ _ (S2 _ _ e)
  have hq3:H3 Lq=some (.lst pv):=by rw[<-hE3,ag mq.symm];exact S2 _ _ hq
  have md3:=md.put (H':=H3) ⟨pok.1,pok.2,ce⟩ hm q3;have kp3:Kp (D.more (29+i)) H H3:=by rw[<-hE3];exact Kp.fresh (DA.le (QO _ _)) hLm (kp.trans (Kp.of kp.dk S2))
  kt_k;refine qX (λH4=>Kp (D.more (29+i+1)) H H4/\∀b o,H3 b=some o->¬D.own b->H4 b=some o) (λH4 j=>cq ?_) (λH4 j=>iteF ?_) (λR' hR=>?_)
  ·obtain⟨kp4,o4⟩:=j;have kt4:aO H' H4:=λb ys e=>kp3.kt o4 _ _ (kt3 _ _ e);have md4:=md3.same (H':=H4) λo e=>o4 _ _ e nm;have tu14:=tu1.kt kt4;have tu24:=tu2.kt kt4;refine fH ?_;lk;refine⟨by simp[sizeLine],λp5 h5=>?_⟩;generalize hE:upd H4 p5 _=H5;obtain⟨S5,q5⟩:=aj h5 hE;have pa5:PrA H5 (.ref p5) p:=⟨p5,_,_,rfl,q5,tu14.kt (ak.tups S5),tu24.kt (ak.tups S5)⟩;have hm5:=S5 _ _ md4.h;refine⟨Lm,_,rfl,by have z:=eA.t hm5 pa5.tk;rw[i8,Qw rfl]at z;exact z,?_⟩;lk;refine⟨by simp[sizeLine],λp6 h6=>?_⟩;generalize hE:upd H5 p6 _=H6;obtain⟨S6,q6⟩:=aj h6 hE;have S56:=S5.trans S6;have pa6:PrA H6 (.ref p6) (p.2,p.1):=⟨p6,_,_,rfl,q6,tu24.kt (ak.tups S56),tu14.kt (ak.tups S56)⟩;have hm6:=S6 _ _ hm5;refine⟨Lm,_,rfl,gi.t hm6 pa6.tk (by have:=ci kvs (tkR p) (.int m);omega),?_⟩;have md6:=md4.put (H':=upd H6 Lm (.dT (bL (bL kvs (tkR p) (.int m)) (tkR (p.2,p.1)) (.int (1-m))))) (p:=(p.2,p.1)) (m:=1-m) ⟨pok.2,pok.1,λz=>ce z.symm⟩ (by omega) af;refine⟨_,_,_,rfl,Kp.fresh (DA.le (QO _ _)) hLm (kp4.trans (Kp.of kp4.dk S56)),by rw[ag mq.symm];exact S56 _ _ (o4 _ _ hq3 nq),ae (λ_ _ h=>h.kt λb ys e=>c9 hm6 _ _ (S56 _ _ (kt4 _ _ e))) pp,md6⟩
  ·obtain⟨kp4,o4⟩:=j;have kt4:aO H' H4:=λb ys e=>kp3.kt o4 _ _ (kt3 _ _ e);have md4:=md3.same (H':=H4) λo e=>o4 _ _ e nm;exact s_next ⟨_,_,_,rfl,kp4,o4 _ _ hq3 nq,ae (λ_ _ h=>h.kt kt4) pp,md4.h,QK md4.l (by omega),md4.ok,md4.nd⟩
  obtain⟨a1,rfl,ha1⟩:=tu1.kt kt3;obtain⟨a2,rfl,ha2⟩:=tu2.kt kt3;lk;refine bi kp3 (by omega) (by omega) (by omega) λr H4 r0 r1 o4 kp4=>?_;have kt4:=kp3.kt o4;have ha14:=kt4 _ _ ha1;have ha24:=kt4 _ _ ha2;lk;cases decide (0<r)
  ·refine iteF ?_;lk;exact hR _ _ ⟨kp4,o4⟩
  exact cq (hR _ _ ⟨kp4,o4⟩)
 obtain⟨kvs,y7,y8,rfl,kp,hq,pp,md⟩:=h;exact s_ret (a9 rfl (k Lm kvs H' (kp.up (by omega)) hLm ⟨md.h,QK md.l (by omega),md.ok,md.nd⟩))
end
def vM (r:Rg):Prop:=∀t,cH r.ws t->∃a∈r.arcs,a.two=t
def oA:Sp:=λvs H Q _=>∃(D:Dk),vs=[.ref D.d]/\D.At H/\D.n<40000 /\
 ∀a li lo l as (r:Rg) H',Kp (D.more 1000) H H'->(∀b∈[a,li,lo,l],H b=none)->RgA H' a li lo l as r->RgOk r->vM r->Q (.ref a) H'
theorem qQ (st:StOk n z) (hc:c=48\/c=49):StOk (n+1) (z++⟨#[c]⟩):=by
 have e:(z++(⟨#[c]⟩:Str)).cps=z.cps++#[c]:=rfl;refine⟨by rw[e,Array.size_append,st.len];rfl,λd hd=>?_⟩;rw[e,Array.toList_append]at hd;rcases Qx.mp hd with h|h
 ·exact st.signs d h
 have:d=c:=by simpa using h
 rw[this];exact hc
theorem fM {α β:Type} {F:α->β->Prop}:∀{xs us:List α} {ys ws:List β},Paired F xs ys->Paired F us ws->Paired F (xs++us) (ys++ws)
 | _,_,_,_,.nil,h=>h
 | _,_,_,_,.cons r t,h=>.cons r (fM t h)
theorem gt {o:HO} (S:ak (upd H a o) H'):ak H (back H a H'):=λb u e=>by
 by_cases c:b=a
 ·rw[c,eQ,<-c];exact e
 rw[bK c];exact S b u (by rw[ag c];exact e)
section
variable {α:Type} {K:PySem.W.Frag} {H1:Hp} {D:Addr} {σ0:St} {g:TG} {te:TE} {tt:L2.TT} {QD:Hp->Prop}
theorem rR {a:Addr} {o:Obj} {kvs:List (av × V)} (c:av × V->Bool) (R:Hp->V->av × V->Prop) (hD:H1 D=none) (e:H1 a=some (.frz o (.dT kvs))) (few:kvs.length<=100000) (mono:∀H H' v x,aO H H'->R H v x->R H' v x)
  (hs:∀kv b H,kv∈kvs->bA H kv.1 b->ak H1 H->∀(G:V->Hp->Prop) (N:Hp->Prop),(c kv=true->∀u H2,ak H H2->R H2 u kv->G u H2)->(c kv=false->∀H2,ak H H2->N H2)->g (.ref b) σ0 H λσ2 H2=>wk σ0 σ2/\tt σ2 H2 λb H3=>if b=true then te σ2 H3 G else N H3)
  (hd:∀H ys,ak H1 H->H D=some (.lst ys)->Paired (R H) ys (kvs.filter c)->QD H) :
  ∃W:Nat->Nat->Hp->List V->Prop,(∃m,W 0 m (upd H1 D (.lst [])) [])/\∀i m H ys,W i m H ys->H D=some (.lst ys)/\(((qH a o kvs).stop i H/\QD H)\/((qH a o kvs).go i H/\∀x H',(qH a o kvs).yld i H x H'->g x σ0 H' λσ2 H2=>wk σ0 σ2/\tt σ2 H2 λb H3 =>
   if b=true then te σ2 H3 λv H4=>H4 D=some (.lst ys)/\ys.length<sizeLine/\∃m',m'<m/\W (i+1) m' (upd H4 D (.lst (ys++[v]))) (ys++[v]) else ∃m',m'<m/\W (i+1) m' H3 ys)):=by
 refine cm kvs c R hD few mono (λi H S hi=>⟨S _ _ e,hi⟩) (λH S=>⟨S _ _ e,Qi _⟩) (λi x H v H' ex S y=>?_) hd;obtain⟨e',k,u,b,hk,ev,tb⟩:=y;subst e' ev;rw[ex]at hk;cases hk;exact hs _ b _ (Ql ex) tb S
end
theorem t8 {bs:A3} (h:KsA H bs ks) (hk:∀k∈ks,∃p,k=tkR p):∃ps:List Pr,ks=ps.map tkR/\Paired (PrA H) (bs.map V.ref) ps:=by
 induction h with
 | nil=>exact⟨[],rfl,.nil⟩
 | @cons b k _ _ r _ ih =>
 obtain⟨ts,e,p⟩:=ih λk hk'=>hk k (Qp _ hk');obtain⟨t,rfl⟩:=hk k (by simp);exact⟨t::ts,by rw[e];rfl,.cons (PrA.of r) p⟩
theorem MkD.keys {ws:List Str} (d:MkD H a ws kvs n):∀k∈kvs.map (·.1),∃p,k=tkR p:=λk hk=>by
 obtain⟨kv,h,rfl⟩:=Qo.mp hk;obtain⟨p,e,_⟩:=d.ok kv h;exact⟨p,e⟩
theorem MkD.shp {ws:List Str} (d:MkD H a ws kvs n):qG false (kvs.map (·.1)):=by
 refine⟨λx hx y hy=>?_,λx hx=>?_⟩
 ·obtain⟨p,rfl⟩:=d.keys x hx;obtain⟨q,rfl⟩:=d.keys y hy;rfl
 obtain⟨p,rfl⟩:=d.keys x hx;exact⟨_,_,rfl⟩
theorem MkD.sort {ws:List Str} (d:MkD H a ws kvs n) (hn:n<64) (q:∀p vs (ps:List Pr),H p=none->Paired (PrA H) vs ps->(ps.map tkR).Perm (kvs.map (·.1))->(ps.map tkR).Pairwise leF->Q (.ref p) (upd H p (.lst vs))):oP K [.ref a] H Q:=by
 refine⟨a,_,false,rfl,.inr ⟨kvs,.inl d.h,rfl⟩,d.shp,by rw[Qc];exact xP d.l hn,λp bs ks hp ka pm so=>?_⟩;obtain⟨ps,rfl,pp⟩:=t8 ka λk hk=>d.keys k (pm.mem_iff.mp hk);exact q p _ ps hp pp pm so
structure RI (D:Dk) (H H':Hp) (nl tl ol Lm:Addr) (ws:List Str) (tv:List V) (tts:List Tu) (ov:List V) (ots:List Tu) (kvs:List (av × V)) (n c:Nat):Prop where
 kp:Kp (D.more c) H H'
 nl:H' nl=some (.lst (ws.map V.str))
 tl:H' tl=some (.lst tv)
 tp:Paired (TuA H') tv tts
 ol:H' ol=some (.lst ov)
 op:Paired (TuA H') ov ots
 md:MkD H' Lm ws kvs n
section
variable {D:Dk} {H H' H2:Hp} {nl tl ol Lm:Addr} {ws:List Str} {tv ov:List V} {tts ots:List Tu} {kvs:List (av × V)} {n c:Nat}
theorem RI.draw {c':Nat} (i:RI D H H' nl tl ol Lm ws tv tts ov ots kvs n c) (no:∀b∈[nl,tl,ol,Lm],¬D.own b) (old:∀b o,H' b=some o->¬D.own b->H2 b=some o) (k:Kp (D.more c') H H2):RI D H H2 nl tl ol Lm ws tv tts ov ots kvs n c' :=
 have kt:=i.kp.kt old
 ⟨k,old _ _ i.nl (no _ (by simp)),old _ _ i.tl (no _ (by simp)),ae (λ_ _ h=>h.kt kt) i.tp,old _ _ i.ol (no _ (by simp)),ae (λ_ _ h=>h.kt kt) i.op,i.md.same λo e=>old _ _ e (no _ (by simp))⟩
theorem RI.same (i:RI D H H' nl tl ol Lm ws tv tts ov ots kvs n c) (S:ak H' H2):RI D H H2 nl tl ol Lm ws tv tts ov ots kvs n c :=
 ⟨i.kp.trans (Kp.of i.kp.dk S),S _ _ i.nl,S _ _ i.tl,ae (λ_ _ h=>h.kt (ak.tups S)) i.tp,S _ _ i.ol,ae (λ_ _ h=>h.kt (ak.tups S)) i.op,i.md.same λo e=>S _ _ e⟩
theorem RI.up {n' c':Nat} (i:RI D H H' nl tl ol Lm ws tv tts ov ots kvs n c) (hn:n<=n') (hc:c<=c'):RI D H H' nl tl ol Lm ws tv tts ov ots kvs n' c' :=
 ⟨i.kp.up hc,i.nl,i.tl,i.tp,i.ol,i.op,i.md.h,QK i.md.l hn,i.md.ok,i.md.nd⟩
theorem RI.set {kvs':List (av × V)} {n':Nat} (i:RI D H H' nl tl ol Lm ws tv tts ov ots kvs n c) (DA:D.At H) (hm:H Lm=none) (d:MkD (upd H' Lm (.dT kvs')) Lm ws kvs' n'):RI D H (upd H' Lm (.dT kvs')) nl tl ol Lm ws tv tts ov ots kvs' n' c:=by
 have kt:aO H' (upd H' Lm (.dT kvs')):=c9 i.md.h;have ne:∀{b xs},H' b=some (.lst xs)->b≠Lm:=λe z=>by have:=i.md.h;rw[<-z,e]at this;cases this
 exact⟨Kp.fresh (DA.le (QO _ _)) hm i.kp,by rw[ag (ne i.nl)];exact i.nl,by rw[ag (ne i.tl)];exact i.tl,ae (λ_ _ h=>h.kt kt) i.tp,by rw[ag (ne i.ol)];exact i.ol,ae (λ_ _ h=>h.kt kt) i.op,d⟩
end
def kI (kvs:List (av × V)) (p:Pr):Int:=match bH kvs (tkR p) with
 | some (.int m)=>m
 | _=>0
def qW (z:Str):Str:=if z = "+" then "-" else "+"
theorem tS {ws:List Str} {t:Tu} (h:cH ws t):cH ws (t.1,qW t.2)/\((t.1,qW t.2):Tu)≠t:=by
 unfold qW;rcases h.2 with e|e
 ·rw[Qw e];exact⟨⟨h.1,.inr rfl⟩,λz=>by have z:("-" : Str)=t.2:=congrArg Prod.snd z;rw[e]at z;exact absurd z (by decide +kernel)⟩
 rw[Qq (by rw[e];decide +kernel)];exact⟨⟨h.1,.inl rfl⟩,λz=>by have z:("+" : Str)=t.2:=congrArg Prod.snd z;rw[e]at z;exact absurd z (by decide +kernel)⟩
theorem tT (h:z = "+" \/ z = "-"):∃c,atI ("+-" : Str).cps.toList (if decide (V.str z=V.str "+")=true then 1 else 0)=some c/\(⟨#[c]⟩:Str)=qW z:=by
 rcases h with rfl|rfl
 ·exact⟨45,by decide +kernel,by decide +kernel⟩
 exact⟨43,by decide +kernel,by decide +kernel⟩
theorem vY (x:Int):∃c,atI ("01" : Str).cps.toList (x % 2)=some c/\(c=48\/c=49):=by
 have:x % 2=0\/x % 2=1:=by omega
 rcases this with e|e
 ·rw[e];exact⟨48,by decide +kernel,.inl rfl⟩
 rw[e];exact⟨49,by decide +kernel,.inr rfl⟩
theorem jF {ws:List Str} {p:Pr} (d:MkD H a ws kvs n) (h:tkR p∈kvs.map (·.1)):PrOk ws p/\bH kvs (tkR p)=some (.int (kI kvs p))/\(kI kvs p=0\/kI kvs p=1):=by
 obtain⟨ok,m,e,hm⟩:=d.val h;have:kI kvs p=m:=by unfold kI;rw[e]
 rw[this];exact⟨ok,e,hm⟩
def j3 (kvs:List (av × V)) (p:Pr):Arc:=⟨p.1,p.2,kI kvs p⟩
def bW (ws:List Str):List Tu:=(ws.map λn=>((n, "+"):Tu))++(ws.map λn=>((n, "-"):Tu))
theorem cA {ws:List Str} {t:Tu}:t∈bW ws↔cH ws t:=by
 unfold bW cH;rw[Qx,Qo,Qo]
 constructor
 ·rintro(⟨n,h,rfl⟩|⟨n,h,rfl⟩)
  ·exact⟨h,.inl rfl⟩
  exact⟨h,.inr rfl⟩
 rintro⟨h,e|e⟩
 ·exact .inl ⟨t.1,h,Prod.ext rfl e.symm⟩
 exact .inr ⟨t.1,h,Prod.ext rfl e.symm⟩
theorem l9 {ws:List Str} (hv:U[i]?=some (some (.ref nl))) (qn:H nl=some (.lst (ws.map V.str))) (w5:ws.length<=1000)
  (q:∀tl tv H',ak H H'->H tl=none->H' tl=some (.lst tv)->Paired (TuA H') tv (bW ws)->Q (.ref tl) H') :
  tOp qU (fz (jR K (dS i)) (dh 0) eZ (mP (dg (dS 0) (dg (tC (V.str "+")) ja))) (br ["name"] [])) (fz (jR K (dS i)) (dh 0) eZ (mP (dg (dS 0) (dg (tC (V.str "-")) ja))) (br ["name"] [])) U H Q:=by
 have one:∀{z:Str} {H:Hp} {U:St} {Q:VK},U[i]?=some (some (.ref nl))->H nl=some (.lst (ws.map V.str))->(∀L y H',ak H H'->H' L=some (.lst y)->Paired (λv n=>TuA H' v (n,z)) y ws->Q (.ref L) H')->fz (jR K (dS i)) (dh 0) eZ (mP (dg (dS 0) (dg (tC (V.str z)) ja))) (br ["name"] []) U H Q:=λ{z H U Q} hv qn q=>by
  refine bF (s_list (a9 hv ⟨nl,rfl,⟨_,SqL.of qn⟩,λL1 hL1=>?_⟩));refine de (I:=λv n=>v=V.str n) (λ_=>true) (λH v (n:Str)=>TuA H v (n,z)) hL1 qn (dq ws) (by omega) (λH H' v x k h=>h.kt k) (λv x H' ev mx S' G N hG _=>?_) (λH6 y1 S6 hy1 py1=>?_)
  ·subst ev;refine ay ⟨trivial,i_yes (cq ?_)⟩;refine i_tup (ba (a9 rfl (ba (i_c (aW ⟨by simp[sizeLine],λp1 h1=>?_⟩)))));exact hG rfl _ _ (am h1) ⟨p1,rfl,af⟩
  rw[bZ]at py1;exact q L1 y1 H6 S6 hy1 py1
 refine i_op (one hv qn λL1 y1 H6 S6 hy1 py1=>one hv (S6 _ _ qn) λL2 y2 H7 S7 hy2 py2=>?_);have l1:=ao py1;have l2:=ao py2;have big:100000<sizeLine:=by decide
 refine eX (S7 _ _ hy1) hy2 (by omega) λtl htl=>?_;have S8:=am (o:=.lst (y1++y2)) htl;exact q tl _ _ ((S6.trans S7).trans S8) (aP (S6.trans S7) htl) af (fM (bM (f:=λn:Str=>((n, "+"):Tu)) (ae (λ_ _ h=>h.kt (ak.tups (S7.trans S8))) py1)) (bM (f:=λn:Str=>((n, "-"):Tu)) (ae (λ_ _ h=>h.kt (ak.tups S8)) py2)))
theorem gQ (ws:List Str):(bW ws).length=2*ws.length:=by unfold bW;rw[Qh,Qc,Qc];omega
def PlL (H:Hp) (v:V) (p:Pl):Prop:=∃b mb,v=.ref b/\H b=some (.tup [.ref mb,.str p.2])/\H mb=some (.lst (p.1.map V.int))
theorem fT:∀{xs ys:List Int},xs.map V.int=ys.map V.int->xs=ys
 | [],[],_=>rfl
 | [],_::_,h=>by simp at h
 | _::_,[],h=>by simp at h
 | x::xs,y::ys,h=>by
  rw[Qu,Qu]at h;injection h with h1 h2;rw[V.int.inj h1,fT h2]
theorem PlL.inj {x y:Pl} (h1:PlL H v x) (h2:PlL H v y):x=y:=by
 obtain⟨b,mb,e,q,q2⟩:=h1;subst e;obtain⟨b',mb',e,q',q2'⟩:=h2;cases e;rw[q]at q';have:=HO.tup.inj (QH q');simp only[List.cons.injEq,V.str.injEq,V.ref.injEq]at this;obtain⟨rfl,e2,_⟩:=this;rw[q2]at q2';exact Prod.ext (fT (HO.lst.inj (QH q2'))) e2
theorem qh {x y:List Int} (h1:H a=some (.lst (x.map V.int))) (h2:H b=some (.lst (y.map V.int))) (l:x.length=y.length):EqD K H (n+1) (.ref a) (.ref b) (decide (x=y)):=by
 by_cases c:a=b
 ·subst c;rw[h1]at h2;rw[QA (fT (HO.lst.inj (QH h2)))];exact .same
 have q:=EqD.lists (K:=K) (n:=n) (e:=λj=>decide (x[j]?=y[j]?)) (SqL.of h1) (SqL.of h2) (by rw[Qc,Qc,l]) (λj u v e1 e2=>?_) c
 ·have e:((List.range (x.map V.int).length).all λj=>decide (x[j]?=y[j]?))=decide (x=y):=by
   rw[Qc,xN,xa,xH]
   constructor
   ·intro h;refine List.ext_getElem? λj=>?_;by_cases hj:j<x.length
    ·exact xv (h j (xD.mpr hj))
    rw[Q6 (by omega),Q6 (by omega)]
   rintro rfl j _;simp
  rw[e]at q;exact q
 rw[QE]at e1 e2;obtain⟨i,h1,rfl⟩:=xh.mp e1;obtain⟨k,h2,rfl⟩:=xh.mp e2;rw[h1,h2,show decide (some i=some k)=eqV (.int i) (.int k) by show _=(i==k);by_cases c:i=k <;> simp[c]];exact .flat rfl rfl
open Classical in
theorem qg {x p:Pl} (h1:PlL H u x) (h2:PlL H v p) (l:x.1.length=p.1.length):EqD K H (n+2) u v (decide (PlL H u p)):=by
 have ed:decide (PlL H u p)=(decide (x.1=p.1)&&decide (x.2=p.2)):=by
  rw[<-Bool.decide_and];exact decide_eq_decide.mpr ⟨λh=>by rw[h1.inj h];exact⟨rfl,rfl⟩,λh=>by rw[<-Prod.ext h.1 h.2];exact h1⟩
 obtain⟨a,ma,e,qa,qm⟩:=id h1;subst e;obtain⟨b,mb,e,qb,qn⟩:=id h2;subst e;by_cases c:a=b
 ·subst c;rw[QA h2];exact .same
 rw[ed];have q:=EqD.tups (K:=K) (n:=n+1) (e:=λj=>if j=0 then decide (x.1=p.1) else decide (x.2=p.2)) (SqT.of qa) (SqT.of qb) (λj u v e1 e2=>?_) c
 ·have e:(((List.range (min [V.ref ma,V.str x.2].length [V.ref mb,V.str p.2].length)).all λj=>if j=0 then decide (x.1=p.1) else decide (x.2=p.2))&&[V.ref ma,V.str x.2].length==[V.ref mb,V.str p.2].length)=(decide (x.1=p.1)&&decide (x.2=p.2)):=by
   show (((List.range 2).all λj=>if j=0 then decide (x.1=p.1) else decide (x.2=p.2))&&true)=_;rw[show List.range 2=[0,1] from rfl];simp
  rw[e]at q;exact q
 match j with
 | 0 =>
  cases e1;cases e2;exact qh qm qn l
 | 1 =>
  cases e1;cases e2;rw[Qq (by decide),show decide (x.2=p.2)=eqV (.str x.2) (.str p.2) by show _=(x.2==p.2);by_cases c:x.2=p.2 <;> simp[c]];exact .flat rfl rfl
 | j+2=>simp at e1
open Classical in
theorem ug {p:Pl} (h:H l=some (.lst vs)) (pa:Paired (PlL H) vs ps) (hu:PlL H u p) (ln:∀q∈ps,q.1.length=p.1.length) (q:Q (.bl (!decide (p∈ps))) H):oR K true u (.ref l) H Q:=by
 refine⟨l,vs,λv=>decide (PlL H v p),rfl,.inl (SqL.of h),λv hv=>?_,?_⟩
 ·obtain⟨x,hx,hp⟩:=bx pa hv;exact qg hp hu (ln x hx)
 have e:vs.any (λv=>decide (PlL H v p))=decide (p∈ps):=by
  rw[xN,List.any_eq_true,xH]
  constructor
  ·rintro⟨v,hv,e⟩;obtain⟨x,hx,hp⟩:=bx pa hv;rw[<-hp.inj (xv e)];exact hx
  intro hp;obtain⟨i,hi,rfl⟩:=QS hp;obtain⟨v,ev,hv⟩:=aY pa (Qb hi);exact⟨v,Ql ev,QA hv⟩
 rw[e];exact q
open Classical in
theorem nG {p:Pl} (h:H l=some (.lst vs)) (pa:Paired (PlL H) vs ps) (hu:PlL H u p) (ln:∀q∈ps,q.1.length=p.1.length) (m:p∈ps) (q:Q (.int (ps.idxOf p:Nat)) H):ij K (.ref l) [u] H Q:=by
 have hi:=xA m;have et:ps[ps.idxOf p]?=some p:=by rw[Qb hi];exact congrArg some (List.getElem_idxOf hi)
 obtain⟨z,ez,hz⟩:=aY pa et;refine⟨l,vs,u,λv=>decide (PlL H v p),ps.idxOf p,z,rfl,rfl,SqL.of h,λv hv=>?_,ez,QA hz,λj v hj ev=>?_,q⟩
 ·obtain⟨x,hx,hp⟩:=bx pa hv;exact qg hp hu (ln x hx)
 obtain⟨x,ex,hx⟩:=paired_get pa ev;refine Qy λz=>?_;cases hx.inj z;have h1:=List.not_of_lt_findIdx (xs:=ps) (p:=(·==p)) (i:=j) hj;obtain⟨h2,e2⟩:=Qe.mp ex;rw[e2]at h1;simp at h1
theorem kc {α β:Type}:∀(xs:List α) (ys:List β),xs.zip ys=(ys.zip xs).map λq=>(q.2,q.1)
 | [],ys=>by simp
 | _::_,[]=>by simp
 | x::xs,y::ys=>by rw[List.zip_cons_cons,List.zip_cons_cons,Qu,kc xs ys]
def no0 (t:Tu) (q:Int × Arc):Bool:=decide (q.2.two=t)&&decide (q.1=0)
theorem t7 {as:List Arc} (mok:MkOk as ms) (t:Tu):decide (((ms.zip as).filter (no0 t)).length=0)=dG as ms t:=by
 unfold dG;rw[kc as ms,List.all_map,xN,xH,List.length_eq_zero_iff,List.filter_eq_nil_iff,xa];refine forall_congr' λq=>forall_congr' λhq=>?_;have:=mok.m q.1 (List.of_mem_zip hq).1;unfold no0;show ¬(decide (q.2.two=t)&&decide (q.1=0))=true↔(!decide (q.2.two=t) || decide (0<q.1))=true;rw[xF,Bool.or_eq_true,Bool.not_eq_true',xH,xH,xH,decide_eq_false_iff_not];by_cases c:q.2.two=t
 ·simp only[c,true_and,not_true,false_or];omega
 simp[c]
def b01 (b:Bool):Int:=if b=true then 1 else 0
def mkL (t:Tu) (q:Int × Arc):Int:=q.1+b01 (decide (q.2.one=t))-b01 (decide (q.2.two=t))
theorem t5 {ws:List Str} {as:List Arc} (h:∀a∈as,ArOk ws a) (t:Tu):(ms.zip as).map (mkL t)=fO as ms t:=by
 unfold fO;rw[kc as ms,List.map_map];refine List.map_congr_left λq hq=>?_;have ne:=(h q.2 (List.of_mem_zip hq).2).ne;show mkL t q=mkB q.2 q.1 t;unfold mkL mkB b01;by_cases c1:q.2.one=t
 ·have c2:¬q.2.two=t:=λz=>ne (c1.trans z.symm);simp[c1,c2]
 by_cases c2:q.2.two=t
 ·simp[c1,c2]
 simp[c1,c2]
theorem qz (b:Bool):atI [V.int 0,V.int 1] (if b=true then 1 else 0)=some (.int (b01 b)):=by cases b <;> rfl
theorem vG (b:Bool):∃d,atI ("01" : Str).cps.toList (if b=true then 1 else 0)=some d/\V.str ⟨#[d]⟩=sg b:=by
 cases b
 ·exact⟨48,by decide +kernel,by decide +kernel⟩
 exact⟨49,by decide +kernel,by decide +kernel⟩
theorem uM (a b:Bool):decide (sg a=sg b)=decide (a=b):=by
 cases a <;> cases b <;> decide +kernel
theorem qR (a b:Bool):mT (sg a) (sg b)=true:=by cases a <;> cases b <;> rfl
theorem uh (st:StOk n z) (hi:i<n) (g:G (.str (bU z i)) H):(λ(xs:List V) (H:Hp) (Q:VK)=>∃z n,xs=[V.str z]/\PySem.intText? z=some n/\z.length<=640/\Q (V.int n) H) [V.str ⟨#[z.cps.getD i 0]⟩] H (λy H2=>tM (V.str "10") y H2 G):=by
 have sgns:z.cps.getD i 0=48\/z.cps.getD i 0=49:=by
  have hl:=st.len;have e:z.cps.getD i 0=z.cps[i]'(by omega):=by simp[Array.getD,hl,hi]
  rw[e];exact st.signs _ (by simp)
 have ef:bU z i=if (z.cps.getD i 0==49)=true then ("0" : Str) else ("1" : Str):=rfl;rcases sgns with e|e
 ·rw[e];rw[e]at ef;refine⟨_,0,rfl,by decide +kernel,by decide,?_⟩;refine⟨"10", 0,49,rfl,rfl,by decide,by decide +kernel,?_⟩;rw[show (⟨#[49]⟩:Str) = "1" by decide +kernel,show ("1" : Str)=bU z i from by rw[ef];rfl];exact g
 rw[e];rw[e]at ef;refine⟨_,1,rfl,by decide +kernel,by decide,?_⟩;refine⟨"10", 1,48,rfl,rfl,by decide,by decide +kernel,?_⟩;rw[show (⟨#[48]⟩:Str) = "0" by decide +kernel,show ("0" : Str)=bU z i from by rw[ef];rfl];exact g
def FdA (Os:A3) (H:Hp) (v:V) (f:Pl × List Tu):Prop:=∃b mb wb,v=.ref b/\H b=some (.tup [.ref mb,.str f.1.2,.ref wb])/\mb∉Os/\wb∉Os/\H mb=some (.lst (f.1.1.map V.int))/\f7 H wb f.2
variable {f:Pl × List Tu} {Os as:A3}
theorem FdA.keep (kt:aO H H') (kb:∀b o,H b=some o->b∉Os->H' b=some o) (h:FdA Os H v f):FdA Os H' v f:=by
 obtain⟨b,mb,wb,e,q,n1,n2,q1,q2⟩:=h;exact⟨b,mb,wb,e,kt _ _ q,n1,n2,kb _ _ q1 n1,q2.keep kt λvs e=>kb _ _ e n2⟩
theorem FdA.more {v:V} (hN:H N=none) (h:FdA Os H v f):FdA (N::Os) H v f:=by
 obtain⟨b,mb,wb,e,q,n1,n2,q1,vs,q2,q3⟩:=h;exact⟨b,mb,wb,e,q,λz=>(Qg.mp z).elim (λz=>by rw[z,hN]at q1;cases q1) n1,λz=>(Qg.mp z).elim (λz=>by rw[z,hN]at q2;cases q2) n2,q1,vs,q2,q3⟩
theorem FdA.less (h:FdA (N::Os) H v f):FdA Os H v f:=by
 obtain⟨b,mb,wb,e,q,n1,n2,q1,q2⟩:=h;exact⟨b,mb,wb,e,q,λz=>n1 (Qp _ z),λz=>n2 (Qp _ z),q1,q2⟩
structure LU (H0 H:Hp) (Lf Lo:Addr) (Os:A3) (x:Sx) (fv:List V) (nas:A3) (nds:List Nd):Prop where
 s:ak H0 H
 f:H Lf=some (.lst fv)
 fp:Paired (FdA Os H) fv (x.ps.zip x.ws)
 o:H Lo=some (.lst (nas.map V.ref))
 op:Paired (i3 H) nas nds
 ap:∀b∈nas,b∉Os
 nd:nas.Nodup
 nw:∀b∈nas,H0 b=none
 iF:Lf∈Os
 iO:Lo∈Os
 ne:Lf≠Lo
 new:∀b∈Os,H0 b=none
 li:∀b∈Os,∃xs,H b=some (.lst xs)
section
variable {H0 H H':Hp} {Lf Lo:Addr} {Os:A3} {x:Sx} {fv:List V} {nas:A3} {nds:List Nd}
theorem LU.same (u:LU H0 H Lf Lo Os x fv nas nds) (S:ak H H'):LU H0 H' Lf Lo Os x fv nas nds :=
 ⟨u.s.trans S,S _ _ u.f,ae (λ_ _ h=>h.keep (ak.tups S) λb o e _=>S b o e) u.fp,S _ _ u.o,ae (λ_ _ h=>h.keep (ak.tups S) λvs e=>S _ _ e) u.op,u.ap,u.nd,u.nw,u.iF,u.iO,u.ne,u.new,λb hb=>let ⟨xs,e⟩:=u.li b hb;⟨xs,S _ _ e⟩⟩
theorem LU.at {L:Addr} {xs:List V} (u:LU H0 H Lf Lo Os x fv nas nds) (hL:L∈Os):aO H (upd H L (.lst xs))/\(∀b o,H b=some o->b∉Os->upd H L (.lst xs) b=some o)/\ak H0 (upd H L (.lst xs))/\∀b∈Os,∃ys,upd H L (.lst xs) b=some (.lst ys):=by
 obtain⟨zs,e⟩:=u.li L hL;refine⟨bo e,λb o e n=>by rw[ag (λz:b=L=>n (by rw[z];exact hL))];exact e,bS u.s (u.new L hL),λb hb=>?_⟩;by_cases c:b=L
 ·rw[c];exact⟨_,af⟩
 rw[ag c];exact u.li b hb
theorem LU.put {N:Addr} {xs:List V} (u:LU H0 H Lf Lo Os x fv nas nds) (hN:N∈Os) (n1:N≠Lf) (n2:N≠Lo):LU H0 (upd H N (.lst xs)) Lf Lo Os x fv nas nds:=by
 obtain⟨kt,kb,s,li⟩:=u.at (xs:=xs) hN;exact⟨s,by rw[ag n1.symm];exact u.f,ae (λ_ _ h=>h.keep kt kb) u.fp,by rw[ag n2.symm];exact u.o,bq u.op λb w hb h=>h.keep kt λvs e=>kb _ _ e (u.ap b hb),u.ap,u.nd,u.nw,u.iF,u.iO,u.ne,u.new,li⟩
theorem LU.found {v:V} {p:Pl} {w:List Tu} (u:LU H0 H Lf Lo Os x fv nas nds) (hl:x.ws.length=x.ps.length) (f:FdA Os H v (p,w)):LU H0 (upd H Lf (.lst (fv++[v]))) Lf Lo Os ⟨x.ps++[p],x.ws++[w]⟩ (fv++[v]) nas nds:=by
 obtain⟨kt,kb,s,li⟩:=u.at (xs:=fv++[v]) u.iF;refine⟨s,af,?_,by rw[ag u.ne.symm];exact u.o,bq u.op λb w hb h=>h.keep kt λvs e=>kb _ _ e (u.ap b hb),u.ap,u.nd,u.nw,u.iF,u.iO,u.ne,u.new,li⟩;show Paired _ _ ((x.ps++[p]).zip (x.ws++[w]));rw[List.zip_append hl.symm];exact aK (ae (λ_ _ h=>h.keep kt kb) u.fp) (f.keep kt kb)
theorem LU.node {N:Addr} {nd:Nd} (u:LU H0 H Lf Lo (N::Os) x fv nas nds) (iF:Lf∈Os) (iO:Lo∈Os) (nN:N∉Os) (at_:i3 H N nd) (no:N∉nas):LU H0 (upd H Lo (.lst ((nas++[N]).map V.ref))) Lf Lo Os x fv (nas++[N]) (nds++[nd]):=by
 obtain⟨kt,kb,s,li⟩:=u.at (xs:=(nas++[N]).map V.ref) u.iO;have hN:N≠Lo:=λz=>nN (z▸iO);refine⟨s,by rw[ag u.ne];exact u.f,ae (λ_ _ h=>(h.keep kt kb).less) u.fp,af,aK (bq u.op λb w hb h=>h.keep kt λvs e=>kb _ _ e (u.ap b hb)) (at_.keep kt λvs e=>by rw[ag hN];exact e),λb hb=>?_,?_,λb hb=>?_,iF,iO,u.ne,λb hb=>u.new b (Qp _ hb),λb hb=>li b (Qp _ hb)⟩
 ·rcases Qx.mp hb with h|h
  ·exact λz=>u.ap b h (Qp _ z)
  rw[QB.mp h];exact nN
 ·rw[List.nodup_append];refine⟨u.nd,by simp,λa ha b hb=>?_⟩;rw[QB.mp hb];exact λz=>no (z▸ha)
 rcases Qx.mp hb with h|h
 ·exact u.nw b h
 rw[QB.mp h];exact u.new N (by simp)
theorem LU.apart {N:Addr} {xs:List V} (u:LU H0 H Lf Lo Os x fv nas nds) (hN:H N=none):LU H0 (upd H N (.lst xs)) Lf Lo (N::Os) x fv nas nds:=by
 have S:=am (o:=.lst xs) hN;have u2:=u.same S;refine⟨u2.s,u2.f,ae (λ_ _ h=>(h.more hN).keep (ak.tups S) λb o e _=>S b o e) u.fp,u2.o,u2.op,λb hb z=>?_,u.nd,u.nw,Qp _ u.iF,Qp _ u.iO,u.ne,λb hb=>?_,λb hb=>?_⟩
 ·rcases Qg.mp z with z|z
  ·obtain⟨y,hy,vs,e,_⟩:=bx u.op hb;rw[z,hN]at e;cases e
  exact u.ap b hb z
 ·rcases Qg.mp hb with z|z
  ·rw[z];exact aP u.s hN
  exact u.new b z
 rcases Qg.mp hb with z|z
 ·rw[z];exact⟨_,af⟩
 exact u2.li b z
end
structure LV (Hb H:Hp) (Lf Lo N mb wb:Addr) (r:Rg) (x:Sx) (fv:List V) (nas:A3) (nds:List Nd) (p:Pl) (way:List Tu) (ndv:List V) (nd:Nd):Prop where
 u:LU Hb H Lf Lo [N,Lf,Lo] x fv nas nds
 xo:x.Ok r
 hN:H N=some (.lst ndv)
 pn:Paired (SgA H) ndv nd
 gp:x.ps[nds.length]?=some p
 gw:x.ws[nds.length]?=some way
 hm:H mb=some (.lst (p.1.map V.int))
 nm:mb∉[N,Lf,Lo]
 hw:f7 H wb way
 nw:wb∉[N,Lf,Lo]
section
variable {Hb H H':Hp} {Lf Lo N mb wb:Addr} {r:Rg} {x:Sx} {fv:List V} {nas:A3} {nds:List Nd} {p:Pl} {way:List Tu} {ndv:List V} {nd:Nd}
theorem LV.same (i:LV Hb H Lf Lo N mb wb r x fv nas nds p way ndv nd) (S:ak H H'):LV Hb H' Lf Lo N mb wb r x fv nas nds p way ndv nd :=
 ⟨i.u.same S,i.xo,S _ _ i.hN,ae (λ_ _ h=>h.kt (ak.tups S)) i.pn,i.gp,i.gw,S _ _ i.hm,i.nm,i.hw.keep (ak.tups S) λvs e=>S _ _ e,i.nw⟩
theorem LV.put {v:V} {e:Str × Nat} (i:LV Hb H Lf Lo N mb wb r x fv nas nds p way ndv nd) (n1:N≠Lf) (n2:N≠Lo) (h:SgA H v e):LV Hb (upd H N (.lst (ndv++[v]))) Lf Lo N mb wb r x fv nas nds p way (ndv++[v]) (nd++[e]):=by
 obtain⟨kt,kb,_⟩:=i.u.at (L:=N) (xs:=ndv++[v]) (by simp);exact⟨i.u.put (by simp) n1 n2,i.xo,af,aK (ae (λ_ _ h=>h.kt kt) i.pn) (h.kt kt),i.gp,i.gw,kb _ _ i.hm i.nm,i.nm,i.hw.keep kt λvs e=>kb _ _ e i.nw,i.nw⟩
theorem LV.found {v:V} {p':Pl} {w':List Tu} (i:LV Hb H Lf Lo N mb wb r x fv nas nds p way ndv nd) (n1:N≠Lf) (xo:Sx.Ok r ⟨x.ps++[p'],x.ws++[w']⟩) (f:FdA [N,Lf,Lo] H v (p',w')):LV Hb (upd H Lf (.lst (fv++[v]))) Lf Lo N mb wb r ⟨x.ps++[p'],x.ws++[w']⟩ (fv++[v]) nas nds p way ndv nd:=by
 obtain⟨kt,kb,_⟩:=i.u.at (L:=Lf) (xs:=fv++[v]) i.u.iF;refine⟨i.u.found i.xo.1 f,xo,by rw[ag n1];exact i.hN,ae (λ_ _ h=>h.kt kt) i.pn,?_,?_,kb _ _ i.hm i.nm,i.nm,i.hw.keep kt λvs e=>kb _ _ e i.nw,i.nw⟩
 ·rw[QI (Qe.mp i.gp).1];exact i.gp
 rw[QI (Qe.mp i.gw).1];exact i.gw
end
theorem sQ {t:Tu} (hi:U[i]?=some (some (.ref wb))) (hj:U[j]?=some (some vt)) (hw:f7 H wb way) (tu:TuA H vt t) (few:way.length<=1000)
  (q:∀a l H',ak H H'->H l=none->H' a=some (.tup [.str "odd", .ref l,.str word])->f7 H' l (way++[t])->Q (.ref a) H') :
  mP (dg (tC (.str "odd")) (dg (tOp qU (dS i) (qO (dg (dS j) ja))) (dg (tC (.str word)) ja))) U H Q:=by
 obtain⟨vs,hw,pw⟩:=hw;have pl:=ao pw;have big:100000<sizeLine:=by decide
 refine i_tup (ba (i_c (ba (i_op (a9 hi (i_lst (ba (a9 hj (aW ⟨by simp[sizeLine],λp1 h1=>?_⟩)))))))));have S1:=am (o:=.lst [vt]) h1;refine eX (S1 _ _ hw) af (by rw[Qs];omega) λp2 h2=>?_;have S2:=S1.trans (am (o:=.lst (vs++[vt])) h2);refine ba (i_c (aW ⟨by simp[sizeLine],λp3 h3=>?_⟩));have S3:=am (o:=.tup [.str "odd", .ref p2,.str word]) h3;have S23:=S2.trans S3;exact q p3 p2 _ S23 (aP S1 h2) af ⟨_,S3 _ _ af,aK (ae (λ_ _ h=>h.kt (ak.tups S23)) pw) (tu.kt (ak.tups S23))⟩
theorem j4 {ws:List Str} (nd:ws.Nodup):(bW ws).Nodup:=by
 unfold bW;rw[List.nodup_append];refine⟨xb.mpr (nd.imp λh e=>h (congrArg Prod.fst e)),xb.mpr (nd.imp λh e=>h (congrArg Prod.fst e)),λa ha b hb e=>?_⟩;obtain⟨n,_,rfl⟩:=Qo.mp ha;obtain⟨m,_,rfl⟩:=Qo.mp hb;have:=congrArg Prod.snd e;exact absurd (show ("+" : Str) = "-" from this) (by decide +kernel)
theorem mQ {p:Pl} {t:Tu} (et:ts[i]?=some t) (h:dG r.arcs p.1 t=true):bh r (ts.drop i) p=cD r p t::bh r (ts.drop (i+1)) p:=by
 obtain⟨hi,e⟩:=Qe.mp et;unfold bh;rw[List.drop_eq_getElem_cons hi,e,List.filter_cons,Qw h,Qu]
theorem oq {p:Pl} {t:Tu} (et:ts[i]?=some t) (h:dG r.arcs p.1 t=false):bh r (ts.drop i) p=bh r (ts.drop (i+1)) p:=by
 obtain⟨hi,e⟩:=Qe.mp et;unfold bh;rw[List.drop_eq_getElem_cons hi,e,List.filter_cons,Qq (by rw[h];decide)]
theorem n_ {x y:HO} (h:a≠b):upd (upd H a x) b y=upd (upd H b y) a x:=funext λc=>by
 by_cases c1:c=b
 ·rw[c1,af,ag h.symm,af]
 by_cases c2:c=a
 ·rw[c2,ag h,af,af]
 rw[ag c1,ag c2,ag c2,ag c1]
theorem rs {x:Sx} {p:Pl} {t:Tu} (xo:x.Ok r) (l40:x.ps.length≠40) (mp:p∈x.ps) (mw:way∈x.ws) (tok:cH r.ws t) (may:dG r.arcs p.1 t=true) (no2:2∉(cD r p t).2.1):Sx.Ok r ⟨x.ps++[(cD r p t).2],x.ws++[way++[(cD r p t).1]]⟩:=by
 have wsl:=xo.1;have lw:=xo.2.2.2.2 way mw;have:=xo.2.2.1;refine⟨by rw[Qh,Qh,wsl];rfl,by rw[Qh,Qs];omega,by rw[Qh,Qs];omega,λp' hp'=>?_,λw' hw'=>?_⟩
 ·rcases Qx.mp hp' with h|h
  ·exact xo.2.2.2.1 p' h
  rw[QB.mp h];exact jd (xo.2.2.2.1 p mp) tok may no2
 show _<(x.ws++[_]).length;rw[Qh,Qs];rcases Qx.mp hw' with h|h
 ·have:=xo.2.2.2.2 w' h;omega
 rw[QB.mp h,Qh,Qs];omega
def oD:Sp:=λvs H Q _=>∃(a li lo l:Addr) (as:List V) (r:Rg),vs=[.ref a]/\RgA H a li lo l as r/\RgOk r/\vM r/\∀v ts H',ak H H'->Wt r ts->uD H H' v r (unf r ts)->Q v H'
section
theorem fb:FnScope ["ring", "inputs", "outputs", "first", "arcs", "wires", "turns", "found", "nodes", "marks", "signs", "way", "here", "turn", "at", "more", "mark", "arc", "there", "known"] ["ring"] (az (top 23)):=by fin2
theorem rh {f:Addr} {fd:FuncData} (Fu:Fun K "_law_unfolded" "_law_unfolded" (top 23) f fd) (T:Txt K mg TT):FnOk P w K mg base CX0 2 f fd ["ring"] oD:=by
 have S:=fb;refine Fu.ok S (by room) (λcdv A outer s H vs Q E hr h=>?_);obtain⟨a,li,lo,l,as,r,rfl,at_,ok,full,k⟩:=h;have hu:=cW hr;have ha:=at_.ha;obtain⟨ts,wt⟩:=r9 r;refine'⟨?_,?bb,?_⟩
 case bb =>
  walk_at "b";exact(fK (pv 0) (dO rfl (aE (bz 1 S.nd) (aE (bz 2 S.nd) (aE (bz 3 S.nd) (aE (bz 4 S.nd) bI))))));exact aH 5 S.nd (aF cO (pv 1) (pv 2));exact aH 6 S.nd (aw (dR rfl hu) (by rfl) T.n_sorted PyProof.Rows.boot_sorted (aa (aF cO (dZ "name" [] (bn (pv 5)) (λ_ _ _ _=>(bg (aa (pv 0) (aa bc ab aD) ac)))) (dZ "name" [] (bn (pv 5)) (λ_ _ _ _=>(bg (aa (pv 0) (aa bc ab aD) ac))))) ab));refine' aH 7 S.nd ?e
  case e =>
   walk_at "q";exact(eT (tgs:=["one", "other", "mark"]) (cap:=[]) rfl ⟨rfl,rfl,rfl,rfl,rfl,rfl⟩ (bn (pv 4)) (λ_ _ _ _=>(dC (K:=K) (n:=3) rfl rfl (aE (bf (i:=0) (show List.Nodup [("one" : Str),("other" : Str),("mark" : Str)] by decide +kernel) rfl (by z_go)) (aE (bf (i:=1) (show List.Nodup [("one" : Str),("other" : Str),("mark" : Str)] by decide +kernel) rfl (by z_go)) (aE (bf (i:=2) (show List.Nodup [("one" : Str),("other" : Str),("mark" : Str)] by decide +kernel) rfl (by z_go)) bI))))) (λ_ _ _ _=>dj) (λ_ _ _ _=>(pv 2)));exact(pv 3)
  exact aH 8 S.nd (a_ ab);refine' dW PassesOwn.never ?_ ?_;rotate_left 2;exact(aC lN (aw aB (by rfl) T.n_len QZ (aa (pv 8) ab ac)) (aw aB (by rfl) T.n_len QZ (aa (pv 7) ab ac)) (aG _));walk_at "p";exact(fK (au aQ (pv 7) (aw aB (by rfl) T.n_len QZ (aa (pv 8) ab ac))) (dO rfl (aE (bz 9 S.nd) (aE (bz 10 S.nd) (aE (bz 11 S.nd) bI)))));exact aH 12 S.nd (a_ ab);walk_at "f";exact(bn (pv 6));exact(bz 13 S.nd);walk_at "p";exact(aC (iw hr.units) (eT (tgs:=["mark", "arc"]) (cap:=[("turn", 13)]) rfl ⟨rfl,rfl,rfl,rfl,rfl,rfl⟩ (dY (by rfl) T.n_zip (aa (pv 9) (aa (pv 4) ab ac) ac)) (λ_ _ _ _=>(dC (K:=K) (n:=2) rfl rfl (aE (bf (i:=0) (show List.Nodup [("mark" : Str),("arc" : Str),("turn" : Str)] by decide +kernel) rfl (by z_go)) (aE (bf (i:=1) (show List.Nodup [("mark" : Str),("arc" : Str),("turn" : Str)] by decide +kernel) rfl (by z_go)) bI)))) (λ_ _ _ _=>(cS (PW.pt (ky (aC (ir (K:=K) rfl hr.units) (au (c_ (K:=K) rfl) (pv 1) ad) (pv 2) (aG _)) (ip (aC cJ (pv 0) ad (aG _))))))) (λ_ _ _ _=>ad)) (a_ ab) (aG _));exact aH 14 S.nd (bt Qv xc xf fN (pv 5) (aa (au aI (pv 13) ad) ab));exact(aC cJ (au cu (pv 10) (pv 14)) (au cu bc (aV bP (by rfl) T.n_int xB (aa (bC cJ (au aI (pv 13) ad) bc (aG _)) ab))) (aG _));refine' aR ?e
  case e =>
   walk_at "q";exact(aF cO (pv 11) (a_ (aa (pv 13) ab ac)))
  exact aH 15 S.nd (a_ ab);walk_at "f";exact(dY (by rfl) T.n_zip (aa (pv 9) (aa (pv 4) ab ac) ac));exact(dO rfl (aE (bz 16 S.nd) (aE (bz 17 S.nd) bI)));walk_at "p";refine' bj (bt Qv QL QM aZ (pv 15) ?a)
  case a =>
   walk_at "q";exact(aF eG (aF bN (pv 16) (au aQ (a_ (aa ad (aa ad ab aD) aD)) (aV bP (by rfl) T.n_int xB (aa (bC (eK hr.units) (au aI (pv 17) ad) (pv 13) (aG _)) ab)))) (au aQ (a_ (aa ad (aa ad ab aD) aD)) (aV bP (by rfl) T.n_int xB (aa (bC (eK hr.units) (au aI (pv 17) ad) (pv 13) (aG _)) ab))))
  exact(aC eJ ad (pv 15) rfl);refine' aR ?e
  case e =>
   walk_at "q";exact(aF cO (pv 11) (a_ (aa (pv 13) ab ac)))
  exact aH 18 S.nd (bg (aa (pv 15) (aa (aF bB (aF bB (bT dN (pv 10) cx (cw (pv 14))) (au cu bc (aV gh (by rfl) T.n_int xB (aa (au cu (pv 10) (pv 14)) ab)))) (bT dN (pv 10) (cw (aF bN (pv 14) ad)) cx)) ab) ac));exact(oW (j:=19) S.nd rfl (by z_go) (tgs:=["one", "other", "past"]) (cap:=[]) rfl ⟨rfl,rfl,rfl,rfl,rfl,rfl⟩ (bn (pv 7)) (λ_ _ _ _=>(dC (K:=K) (n:=3) rfl rfl (aE (bf (i:=0) (show List.Nodup [("one" : Str),("other" : Str),("past" : Str)] by decide +kernel) rfl (by z_go)) (aE (bf (i:=1) (show List.Nodup [("one" : Str),("other" : Str),("past" : Str)] by decide +kernel) rfl (by z_go)) (aE (bf (i:=2) (show List.Nodup [("one" : Str),("other" : Str),("past" : Str)] by decide +kernel) rfl (by z_go)) bI))))) (λ_ _ _ _=>dj) (λ_ _ _ _=>(bg (aa (pv 0) (aa (pv 1) ab ac) ac))));exact(aC (mW hr.units) (pv 18) (pv 19) rfl);refine' bj (bt Qv QL QM aZ (pv 7) ?a)
  case a =>
   walk_at "q";exact(au aI (pv 18) ad);exact(au aI (pv 18) ad);exact(aF cO (pv 11) (a_ (aa (pv 13) ab ac)))
  exact(bj (bt Qv QL QM aZ (pv 19) (aa (pv 18) ab ac)));exact(aC gx (aw aB (by rfl) T.n_len QZ (aa (pv 7) ab ac)) ad (aG _));exact(aR (bg (aa bc ab aD)));refine' bj (bt Qv QL QM aZ (pv 12) ?a)
  case a =>
   walk_at "q";exact(au aI (pv 13) ad);exact(bt Qv xc xf (bX hr.units) (pv 19) (aa (pv 18) ab ac))
  exact(bj (bt Qv QL QM aZ (pv 8) (aa (pv 12) ab ac)));refine' aR ?e
  case e =>
   walk_at "q";exact(aV bE (by rfl) T.n_list Q9 (aa (pv 1) ab ac));exact(aV bE (by rfl) T.n_list Q9 (aa (pv 2) ab ac));exact(pv 3);exact(pv 8)
 x_go;have w5:=ok.w5;have lw:(r.ins.map V.str).length+(r.outs.map V.str).length=r.ws.length:=by rw[Qc,Qc];unfold Rg.ws;rw[Qh]
 lk;refine⟨a,_,rfl,SqT.of ha,rfl,_,_,rfl,ay ⟨_,_,rfl,ay ⟨_,_,rfl,ay ⟨_,_,rfl,ay ⟨rfl,?_⟩⟩⟩⟩⟩;lk;refine eX at_.hi at_.ho (by rw[lw];omega) λwl hwl=>?_;rw[<-xC];generalize hE:upd H wl _=H1;obtain⟨S1,qwl⟩:=aj hwl hE;kt_k;kt_k;with_reducible refine s_asg ?_
 refine i_cb (ba (l9 rfl qwl (show r.ws.length<=1000 by omega) λtl tv H2 S2 htl qtl pt=>aW ?_));obtain⟨bs,e,ka⟩:=oh pt;subst e;have atl:=gQ r.ws;refine⟨tl,_,true,rfl,.inl ⟨bs,SqL.of qtl,ka⟩,lD _,by rw[Qc,show (bW (r.ins++r.outs)).length=2*r.ws.length from atl];omega,λtq bs' ks' htq ka' pm so=>?_⟩;obtain⟨ts',e,pts⟩:=pP ka' λk hk=>by obtain⟨t,_,e⟩:=Qo.mp (pm.mem_iff.mp hk);exact⟨t,e.symm⟩
 subst e
 have wt':Wt r ts':=by
  refine⟨?_,λx=>?_,(xb.mp so).imp λh=>h⟩
  ·have nd:((bW r.ws).map tk2).Nodup:=xb.mpr ((j4 ok.nd).imp λh e=>h (cY e));exact(xb.mp (pm.nodup_iff.mpr nd)).imp λh e=>h (by rw[e])
  have e:x∈ts'↔x∈bW r.ws:=by
   constructor
   ·intro h;obtain⟨y,hy,e⟩:=Qo.mp (pm.mem_iff.mp (Qo.mpr ⟨x,h,rfl⟩));rw[<-cY e];exact hy
   intro h;obtain⟨y,hy,e⟩:=Qo.mp (pm.mem_iff.mpr (Qo.mpr ⟨x,h,rfl⟩));rw[<-cY e];exact hy
  rw[e,cA];exact⟨full x,λ⟨a,ha,e⟩=>e▸(ok.arcs a ha).t⟩
 obtain rfl:ts'=ts:=wt'.one wt λ_=>Iff.rfl;generalize bs'.map V.ref=tqv at pts;generalize hE:upd H2 tq _=H3;obtain⟨S3,qtq⟩:=aj htq hE;have pts:=ae (λ_ _ h=>TuA.kt (ak.tups S3) h) pts;have at3:=at_.same ((S1.trans S2).trans S3);have qwl3:=S3 _ _ (S2 _ _ qwl);have SH3:=(S1.trans S2).trans S3;clear so pm ka' ka hE S1 S2 S3 qwl;lk;refine bF (s_list (a9 rfl ⟨l,rfl,⟨_,SqL.of at3.arcs.h⟩,λm0 hm0=>?_⟩));refine de (λ_=>true) (λH v (a:Arc)=>v=.int a.mark) hm0 at3.arcs.h at3.arcs.p (QK ok.few (by decide)) (λH H' v x k h=>h) (λv x H' ia mx S' G N hG _=>?_) (λH4 ys S4 hy py=>?_)
 ·obtain⟨b,v1,v2,rfl,hb,t1,t2⟩:=ia.kt (ak.tups S');refine⟨b,_,rfl,SqT.of hb,rfl,_,_,rfl,ay ⟨_,_,rfl,ay ⟨_,_,rfl,ay ⟨rfl,trivial,i_yes (cq ?_)⟩⟩⟩⟩;lk;exact hG rfl _ H' (ak.refl _) rfl
 rw[bZ]at py;have e:ys=(mks r.arcs).map V.int:=by rw[cz py];unfold mks;rw[List.map_map];rfl
 subst e;lk;refine⟨by simp[sizeLine],λw0 hw0=>?_⟩;generalize hE:upd H4 w0 _=H5;obtain⟨S5,qw0⟩:=aj hw0 hE;lk;refine⟨by simp[sizeLine],λf0 hf0=>?_⟩;generalize hE:upd H5 f0 _=H6;obtain⟨S6,qf0⟩:=aj hf0 hE;lk;refine⟨by simp[sizeLine],λLf hLf=>?_⟩;generalize hE:upd H6 Lf _=H7;obtain⟨S7,qLf⟩:=aj hLf hE;lk;refine⟨by simp[sizeLine],λLo hLo=>?_⟩;generalize hE:upd H7 Lo _=H8;obtain⟨S8,qLo⟩:=aj hLo hE;have S68:=S7.trans S8;have S36:=(S4.trans S5).trans S6
 have u8:LU H3 H8 Lf Lo [Lf,Lo] (Sx.first r) [.ref f0] [] []:=by
  have ne:Lo≠Lf:=aq qLf hLo;refine⟨S36.trans S68,S8 _ _ qLf,.cons ⟨f0,m0,w0,rfl,S68 _ _ qf0,?_,?_,S68 _ _ (S6 _ _ (S5 _ _ hy)),[],S68 _ _ (S6 _ _ qw0),.nil⟩ .nil,qLo,.nil,(λb hb=>nomatch hb),.nil,(λb hb=>nomatch hb),by simp,by simp,ne.symm,λb hb=>?_,λb hb=>?_⟩
  ·simp only[Qg,Qm,QQ,not_or];exact⟨(aq (S6 _ _ (S5 _ _ hy)) hLf).symm,(aq (S7 _ _ (S6 _ _ (S5 _ _ hy))) hLo).symm⟩
  ·simp only[Qg,Qm,QQ,not_or];exact⟨(aq (S6 _ _ qw0) hLf).symm,(aq (S7 _ _ (S6 _ _ qw0)) hLo).symm⟩
  ·simp only[Qg,Qm,QQ]at hb;rcases hb with rfl|rfl
   ·exact aP S36 hLf
   exact aP (S36.trans S7) hLo
  simp only[Qg,Qm,QQ]at hb;rcases hb with rfl|rfl
  ·exact⟨_,S8 _ _ qLf⟩
  exact⟨_,qLo⟩
 kt_k;kt_k;let I13:IvF:=λm U H'=>∃x fv nas nds y9 y10 y11 y12 y13 y14 y15 y16 y17 y18 y19,U=[some (.ref a),some (.ref li),some (.ref lo),some (.str r.z),some (.ref l),some (.ref wl),some (.ref tq),some (.ref Lf),some (.ref Lo),y9,y10,y11,y12,y13,y14,y15,y16,y17,y18,y19]/\LU H3 H' Lf Lo [Lf,Lo] x fv nas nds/\x.Ok r/\nds.length<=x.ps.length/\m+nds.length=40/\K2.outer r ts' (m+1) x nds=unf r ts';refine⟨I13,⟨40,_,_,_,_,none,none,none,none,none,none,none,none,none,none,none,rfl,u8,jU ok,QT _,rfl,rfl⟩,?_⟩;rintro m U H' ⟨x,fv,nas,nds,y9,y10,y11,y12,y13,y14,y15,y16,y17,y18,y19,rfl,u,xo,hn,hm,hR⟩;clear u8 S68 S36 qLo qLf hE S5 S6 S7 S8 S4 hy py qf0 qw0;have hLf':=u.f;have hLo':=u.o;have lz:fv.length=x.ps.length:=by rw[ao u.fp,List.length_zip,xo.1,Nat.min_self]
 have lo_:=ao u.op;have at':=at3.same u.s;lk;rw[Qc,lo_,lz];unfold K2.outer at hR;by_cases c:nds.length<x.ps.length
 ·refine ifT (QA (by omega)) ?_;rw[Qw c]at hR;obtain⟨m1,rfl⟩:∃m1,m=m1+1:=⟨m-1,by have:=xo.2.2.1;omega⟩;refine⟨_,λσ' H2 h=>⟨m1,Nat.lt_succ_self _,h⟩,?_⟩;have gp:=Sx.p_mem c;have gw:=Sx.w_mem (x:=x) (i:=nds.length) (by rw[xo.1];exact c);generalize x.p nds.length=p at hR gp;generalize x.wy nds.length=way at hR gw;have po:=xo.2.2.2.1 p (Ql gp);obtain⟨fv',gfv,b0,mb,wb,rfl,hb0,nmb,nwb,hmb,hwb⟩:=aY u.fp (eW gp gw);lk;refine i_ixL (SqL.of hLf') (b_ (by rw[Qc,lo_];exact gfv)) ?_;refine⟨b0,_,rfl,SqT.of hb0,rfl,_,_,rfl,ay ⟨_,_,rfl,ay ⟨_,_,rfl,ay ⟨rfl,?_⟩⟩⟩⟩;lk;refine⟨by simp[sizeLine],λN hN=>?_⟩
  have lv0:LV H3 (upd H' N (.lst [])) Lf Lo N mb wb r x fv nas nds p way [] []:=by
   have S':=am (o:=.lst []) hN;refine⟨u.apart hN,xo,af,.nil,gp,gw,S' _ _ hmb,λz=>?_,hwb.keep (ak.tups S') λvs e=>S' _ _ e,λz=>?_⟩
   ·rcases Qg.mp z with z|z
    ·rw[z,hN]at hmb;cases hmb
    exact nmb z
   rcases Qg.mp z with z|z
   ·obtain⟨vs,e,_⟩:=hwb;rw[z,hN]at e;cases e
   exact nwb z
  have nF:N≠Lf:=aq hLf' hN;have nO:N≠Lo:=aq hLo' hN;have nna:N∉nas:=λz=>by obtain⟨y,_,vs,e,_⟩:=bx u.op z;rw[hN]at e;cases e
  generalize upd H' N (.lst [])=G1 at lv0;generalize eR:cv r p.2 way (bh r ts' p) x []=R at hR;kt_k;lk;refine⟨tq,rfl,⟨_,SqL.of (lv0.u.s _ _ qtq)⟩,?_⟩;let I14:IvF:=λi U H2=>∃x fv ndv nd y13 y14 y15 y16 y17 y18 y19,U=[some (.ref a),some (.ref li),some (.ref lo),some (.str r.z),some (.ref l),some (.ref wl),some (.ref tq),some (.ref Lf),some (.ref Lo),some (.ref mb),some (.str p.2),some (.ref wb),some (.ref N),y13,y14,y15,y16,y17,y18,y19]/\LV H3 H2 Lf Lo N mb wb r x fv nas nds p way ndv nd/\cv r p.2 way (bh r (ts'.drop i) p) x nd=R/\nd.length<=i;refine cX (xs:=tqv) I14 ⟨x,fv,[],[],y13,y14,y15,y16,y17,y18,y19,rfl,lv0,by rw[List.drop_zero];exact eR,Qi _⟩ (λi U H2 _ ⟨_,_,_,_,_,_,_,_,_,_,_,_,lv,_⟩=>SqL.of (lv.u.s _ _ qtq)) (λi v U H2 ev h=>?_) (λU H2 h=>?_)
  ·obtain⟨x,fv,ndv,nd,y13,y14,y15,y16,y17,y18,y19,rfl,lv,hI,hnd⟩:=h;obtain⟨t,et,tu⟩:=paired_get pts ev;have tu:=tu.kt (ak.tups lv.u.s);obtain⟨ta,rfl,hta⟩:=id tu;have mt:=Ql et;have tok:=Wt.ok ok wt mt;have few:=Wt.few ok wt;have il:=(Qe.mp et).1;have ndl:=ao lv.pn;have at2:=at3.same lv.u.s;have arl:=ok.few;kt_k;lk;refine bF (ba (a9 rfl (ba (a9 rfl (aW ⟨mb,l,false,false,rfl,⟨_,SqL.of lv.hm⟩,⟨_,SqL.of at2.arcs.h⟩,λD hD=>?_⟩)))));refine kZ (no0 t) (λH v p=>v=.int 1) hD lv.hm at2.arcs.h (cI p.1) at2.arcs.p po.m.len (by rw[po.m.len];omega) (λH H' v x k h=>h) (λv m u a b G im ia mx S' hb GG N hG hN=>?_) (λG2 ys T2 hy py=>?_)
   ·obtain⟨c,v1,v2,rfl,hc,t1,t2⟩:=ia.kt (ak.tups S');cases im;refine⟨b,_,rfl,SqT.of hb,rfl,_,_,rfl,ay ⟨_,_,rfl,ay ⟨rfl,⟨rfl,trivial⟩,?_⟩⟩⟩;lk;refine db t2 (tu.kt (ak.tups S')) ⟨_,rfl,?_⟩;unfold no0 at hG hN;dsimp only at hG hN;by_cases c1:a.two=t
    ·refine ifT (QA c1) ?_;rw[QA c1,Bool.true_and]at hG hN;lk;by_cases c2:m=0
     ·refine ifT (QA (by rw[c2])) ?_;exact hG (QA c2) _ G (ak.refl _) rfl
     exact ifF (Qy λz=>c2 (V.int.inj z)) (hN (Qy c2) G (ak.refl _))
    refine ifF (Qy c1) (iteF (hN (by rw[Qy c1];rfl) G (ak.refl _)))
   refine ii hy λG3 T3=>?_;rw[ao py,t7 po.m];have T13:=T2.trans T3;have lv:=lv.same T13;have tu:=tu.kt (ak.tups T13);have hta:=T13 _ _ hta;cases may:dG r.arcs p.1 t
   ·refine iteF (s_next ⟨x,fv,ndv,nd,_,_,_,_,_,_,_,rfl,lv,?_,Nat.le_succ_of_le hnd⟩);rw[<-oq et may];exact hI
   rw[mQ et may]at hI;refine cq ?_;have qwl':=lv.u.s _ _ qwl3;lk;refine⟨wl,r.ws,t.1,r.ws.idxOf t.1,rfl,rfl,qwl',kP tok.1,eO,by omega,?_⟩;have xl:=xA tok.1;have hz:=po.z.len;lk;refine dy (by show p.2.cps.size<=_;omega) (fq po.z xl) ?_;have es:=hX po.z xl;unfold fD at es;rw[es];lk;obtain⟨d,ed,ed2⟩:=vG (decide (V.str t.2=V.str "+"));refine dy (by decide) ed ?_;rw[ed2];refine i_eq (qR _ _) ⟨_,rfl,?_⟩;rw[uM,show decide (V.str t.2=V.str "+")=decide (t.2 = "+") from decide_eq_decide.mpr ⟨λh=>V.str.inj h,λh=>by rw[h]⟩];unfold cv at hI;have wl41:way.length<41:=by have:=lv.xo.2.2.2.2 way (Ql lv.gw);have:=lv.xo.1;have:=lv.xo.2.2.1;omega
   by_cases c1:sgB p.2 (r.ws.idxOf t.1)=decide (t.2 = "+")
   ·refine ifT (QA c1) ?_;rw[show ix r p.2 (cD r p t)=some "signs" from Qw c1]at hI;refine s_ret (sQ rfl rfl lv.hw tu (by omega) λa2 l2 G4 T4 hl2 q4 wy=>?_);refine k (.ref a2) ts' G4 ((SH3.trans lv.u.s).trans T4) wt ?_;rw[show unf r ts'=.odd (way++[t]) "signs" by rw[<-hR,<-hI];rfl];exact⟨a2,l2,rfl,q4,aP (SH3.trans lv.u.s) hl2,wy⟩
   refine ifF (Qy c1) ?_;lk;refine⟨by simp[sizeLine],λM hM=>?_⟩;have lv4:=lv.same (am (o:=.lst []) hM)
   have nMO:M∉[N,Lf,Lo]:=λz=>by
    obtain⟨xs,e⟩:=lv.u.li M z;rw[hM]at e;cases e
   have at4:=at3.same lv4.u.s;kt_k;lk;refine ba (a9 rfl (ba (a9 rfl (aW ⟨mb,l,false,false,rfl,⟨_,SqL.of lv4.hm⟩,⟨_,SqL.of at4.arcs.h⟩,?_⟩))));have arl2:=ao at3.arcs.p;let I15:IvF:=λj U H2=>∃y16 y17,U=[some (.ref a),some (.ref li),some (.ref lo),some (.str r.z),some (.ref l),some (.ref wl),some (.ref tq),some (.ref Lf),some (.ref Lo),some (.ref mb),some (.str p.2),some (.ref wb),some (.ref N),some (.ref ta),some (.int (r.ws.idxOf t.1:Nat)),some (.ref M),y16,y17,y18,y19]/\ak G3 H2/\H2 M=some (.lst ((((p.1.zip r.arcs).take j).map (mkL t)).map V.int));refine qf (xs:=p.1.map V.int) (us:=as) (by rw[Qc,po.m.len,arl2];exact Qi _) I15 ⟨_,_,rfl,am hM,af⟩ (λj U H2 _ ⟨_,_,_,S2,_⟩=>⟨SqL.of (S2 _ _ lv.hm),SqL.of ((at3.same (lv.u.s.trans S2)).arcs.h)⟩) (λj x1 x2 U H2 TA e1 e2 h hT=>?_) (λU H2 h=>?_)
   ·obtain⟨y16,y17,rfl,S2,qM⟩:=h;rw[QE]at e1;obtain⟨m',em,rfl⟩:=xh.mp e1;generalize hE:upd H2 TA _=H4;obtain⟨S4,q4⟩:=aj hT hE;have S24:=S2.trans S4;obtain⟨ar,ear,ia⟩:=paired_get (at3.same (lv.u.s.trans S24)).arcs.p e2;obtain⟨cb,v1,v2,rfl,hcb,t1,t2⟩:=ia;have qM4:=S4 _ _ qM;have tu4:=tu.kt (ak.tups S24);have jl:=(Qe.mp em).1;refine⟨TA,_,rfl,SqT.of q4,rfl,_,_,rfl,ay ⟨_,_,rfl,ay ⟨rfl,?_⟩⟩⟩;lk;refine⟨by simp[sizeLine],λq1 h1=>?_⟩;generalize hE:upd H4 q1 _=H5;obtain⟨S5,q5⟩:=aj h1 hE;have hcb5:=S5 _ _ hcb;lk;refine db (t1.kt (ak.tups S5)) (tu4.kt (ak.tups S5)) ?_;lk;refine i_ixL (SqL.of q5) (qz _) ?_;lk;refine⟨by simp[sizeLine],λq2 h2=>?_⟩;generalize hE:upd H5 q2 _=H6;obtain⟨S6,q6⟩:=aj h2 hE;have hcb6:=S6 _ _ hcb5;have S46:=S5.trans S6;lk;refine db (t2.kt (ak.tups S46)) (tu4.kt (ak.tups S46)) ?_;lk;refine i_ixL (SqL.of q6) (qz _) ?_;lk;refine cE (S46 _ _ qM4) (by rw[Qc,Qc,Q3,List.length_zip];have:=po.m.len;omega) ?_;refine⟨_,_,rfl,bS (S24.trans S46) hM,?_⟩;rw[af,List.take_succ,eW em ear,xC,xC];rfl
   obtain⟨y16,y17,rfl,S2,qM⟩:=h;rw[Qc,Q8 (by rw[List.length_zip];exact Nat.min_le_left _ _),t5 ok.arcs]at qM;have lv:=lv.same S2;have tu:=tu.kt (ak.tups S2);have hta:=S2 _ _ hta;lk;refine⟨M,_,rfl,.inl (SqL.of qM),rfl,gI _,_,rfl,?_⟩;by_cases c2:2∈fO r.arcs p.1 t
   ·refine ifT (d6.mpr c2) ?_;rw[show ix r p.2 (cD r p t)=some "twice" from(Qq c1).trans (Qw c2)]at hI;refine s_ret (sQ rfl rfl lv.hw tu (by omega) λa2 l2 G4 T4 hl2 q4 wy=>?_);refine k (.ref a2) ts' G4 ((SH3.trans lv.u.s).trans T4) wt ?_;rw[show unf r ts'=.odd (way++[t]) "twice" by rw[<-hR,<-hI];rfl];exact⟨a2,l2,rfl,q4,aP (SH3.trans lv.u.s) hl2,wy⟩
   refine ifF (Bool.eq_false_iff.mpr λz=>c2 (d6.mp z)) ?_;rw[show ix r p.2 (cD r p t)=none from(Qq c1).trans (Qq c2)]at hI;dsimp only at hI;lk;have s1:=Txt.slice_le p.2 none (some ((r.ws.idxOf t.1:Nat):Int));have s2:=Txt.slice_le p.2 (some (((r.ws.idxOf t.1:Nat):Int)+1)) none;have zl:p.2.length=r.ws.length:=hz
   have fl:(bU p.2 (r.ws.idxOf t.1)).length=1:=by
    unfold bU
    split
    ·decide +kernel
    decide +kernel
   have l1:(Txt.slice p.2 none (some ((r.ws.idxOf t.1:Nat):Int))++bU p.2 (r.ws.idxOf t.1)).length=(Txt.slice p.2 none (some ((r.ws.idxOf t.1:Nat):Int))).length+(bU p.2 (r.ws.idxOf t.1)).length:=Array.size_append;refine fU (by omega) ?_;refine i_op (i_c ?_);refine i_cb (ba (i_op (a9 rfl (a9 rfl (dy (by omega) (fq po.z xl) ?_)))));refine aW (uh po.z xl ?_);refine⟨_,_,rfl,rfl,by omega,?_⟩;lk;refine fU (by omega) ?_;refine⟨_,_,rfl,rfl,by rw[l1];omega,?_⟩;refine aW ⟨by simp[sizeLine],λth hth=>?_⟩;generalize hE:upd H2 th _=G5;obtain⟨T5,qth⟩:=aj hth hE;have lv:=lv.same T5;have tu:=tu.kt (ak.tups T5);have hta:=T5 _ _ hta;have plt:PlL G5 (.ref th) (cD r p t).2:=⟨th,M,rfl,qth,T5 _ _ qM⟩;have hmM:=T5 _ _ qM;have fl2:fv.length=x.ps.length:=by rw[ao lv.u.fp,List.length_zip,lv.xo.1,Nat.min_self]
   have l40:=lv.xo.2.2.1;clear hE T5;kt_k;lk;refine bF (s_list (a9 rfl ⟨Lf,rfl,⟨_,SqL.of lv.u.f⟩,λLk hLk=>?_⟩));refine de (λ_=>true) (λH v (f:Pl × List Tu)=>∃b mb,v=.ref b/\H b=some (.tup [.ref mb,.str f.1.2])/\G5 mb=some (.lst (f.1.1.map V.int))/\mb∉[N,Lf,Lo]) hLk lv.u.f lv.u.fp (by rw[List.length_zip,lv.xo.1];omega) (λH H' v x k ⟨b,m,h1,h2,h3⟩=>⟨b,m,h1,k _ _ h2,h3⟩) (λv f G fa mx S' GG NN hG _=>?_) (λG6 kv S6 hk pk=>?_)
   ·obtain⟨b,mb',wb',rfl,hb,nmb',_,hmb',_⟩:=fa;refine⟨b,_,rfl,SqT.of (S' _ _ hb),rfl,_,_,rfl,ay ⟨_,_,rfl,ay ⟨_,_,rfl,ay ⟨rfl,trivial,i_yes (cq ?_)⟩⟩⟩⟩;lk;refine⟨by simp[sizeLine],λp1 h1=>?_⟩;exact hG rfl _ _ (am h1) ⟨p1,mb',rfl,af,hmb',nmb'⟩
   rw[bZ]at pk
   have pk0:Paired (λ(v:V) (q:Pl)=>∃b mb,v=.ref b/\G6 b=some (.tup [.ref mb,.str q.2])/\G5 mb=some (.lst (q.1.map V.int))/\mb∉[N,Lf,Lo]) kv x.ps:=by
    have z:=bM (F:=λ(v:V) (q:Pl)=>∃b mb,v=.ref b/\G6 b=some (.tup [.ref mb,.str q.2])/\G5 mb=some (.lst (q.1.map V.int))/\mb∉[N,Lf,Lo]) (f:=λf:Pl × List Tu=>f.1) pk;rwa [show (x.ps.zip x.ws).map (λf:Pl × List Tu=>f.1)=x.ps from List.map_fst_zip (Nat.le_of_eq lv.xo.1.symm)]at z
   have pk:Paired (PlL G6) kv x.ps:=ae (λ_ _ ⟨b,m,h1,h2,h3,_⟩=>⟨b,m,h1,h2,S6 _ _ h3⟩) pk0;have pl6:PlL G6 (.ref th) (cD r p t).2:=⟨th,M,rfl,S6 _ _ qth,S6 _ _ hmM⟩
   have lens:∀q∈x.ps,q.1.length=(cD r p t).2.1.length:=λq hq=>by
    rw[(lv.xo.2.2.2.1 q hq).m.len];exact(jE po.m.len).symm
   have lv6:=lv.same S6;have no2:2∉(cD r p t).2.1:=c2;generalize hs:cD r p t=s at hI pl6 lens plt no2;have es1:s.1=t:=by rw[<-hs];rfl
   kt_k;let I16:IvJ:=λU G=>U=[some (.ref a),some (.ref li),some (.ref lo),some (.str r.z),some (.ref l),some (.ref wl),some (.ref tq),some (.ref Lf),some (.ref Lo),some (.ref mb),some (.str p.2),some (.ref wb),some (.ref N),some (.ref ta),some (.int (r.ws.idxOf t.1:Nat)),some (.ref M),y16,y17,some (.ref th),some (.ref Lk)]/\((∃fv',G Lf=some (.lst fv')/\fv'.length=41/\ak H3 G/\R=.inl .many)\/∃x' fv' kv',LV H3 G Lf Lo N mb wb r x' fv' nas nds p way ndv nd/\aO G6 G/\G Lk=some (.lst kv')/\Paired (PlL G) kv' x'.ps/\PlL G (.ref th) s.2/\s.2∈x'.ps/\(∀q∈x'.ps,q.1.length=s.2.1.length)/\cv r p.2 way (bh r (ts'.drop (i+1)) p) x' (nd++[(s.1.1,x'.ps.idxOf s.2)])=R);with_reducible refine bR I16 (λRR hJ=>?_) (λU G h=>?_)
   ·lk;refine ug hk pk pl6 lens ⟨_,rfl,?_⟩;by_cases c:s.2∈x.ps
    ·rw[Qw c]at hI;exact ifF (by rw[QA c];rfl) (s_next (hJ _ _ ⟨rfl,.inr ⟨x,fv,kv,lv6,λ_ _ e=>e,hk,pk,pl6,c,lens,hI⟩⟩))
    rw[Qq c]at hI;refine ifT (by rw[Qy c];rfl) ?_;have hLf6:=lv6.u.f;have qth6:=S6 _ _ qth;have hLk6:Lk≠Lf:=aq lv.u.f hLk;obtain⟨wvs,hw6,pw6⟩:=lv6.hw;have wvl:=ao pw6;lk;refine⟨by simp[sizeLine],λp1 h1=>?_⟩;generalize hE:upd G6 p1 _=G7;obtain⟨T7,q7⟩:=aj h1 hE;refine eX (T7 _ _ hw6) q7 (by rw[Qs];omega) λp2 h2=>?_;generalize hE:upd G7 p2 _=G8;obtain⟨T8,q8⟩:=aj h2 hE;lk;refine⟨by simp[sizeLine],λp3 h3=>?_⟩;generalize hE:upd G8 p3 _=G9;obtain⟨T9,q9⟩:=aj h3 hE;have T69:=(T7.trans T8).trans T9;have hk9:=T69 _ _ hk;have lv9:=lv6.same T69;refine aW (cE lv9.u.f (by omega) ?_);have hkA:upd G9 Lf (.lst (fv++[.ref p3])) Lk=some (.lst kv):=by rw[ag hLk6];exact hk9
    have kvl:=ao pk;lk;refine cE hkA (by omega) ?_;rw[n_ hLk6.symm];have SL:ak G5 (upd G9 Lk (.lst (kv++[.ref th]))):=bS (S6.trans T69) hLk;have lvL:=lv.same SL
    have np2:p2∉[N,Lf,Lo]:=λz=>by
     obtain⟨xs,e⟩:=(lv6.same T7).u.li p2 z;rw[h2]at e;cases e
    have n2k:p2≠Lk:=aq (T7 _ _ hk) h2;have ktk:aO G9 (upd G9 Lk (.lst (kv++[.ref th]))):=bo hk9
    have fd:FdA [N,Lf,Lo] (upd G9 Lk (.lst (kv++[.ref th]))) (.ref p3) (s.2,way++[s.1]):=by
     refine⟨p3,M,p2,rfl,ktk _ _ ?_,nMO,np2,?_,wvs++[.ref ta],by rw[ag n2k];exact T9 _ _ q8,aK (ae (λ_ _ h=>(h.kt (ak.tups T69)).kt ktk) pw6) (by rw[es1];exact((tu.kt (ak.tups S6)).kt (ak.tups T69)).kt ktk)⟩
     ·rw[q9,<-hs];rfl
     rw[<-hs];exact SL _ _ hmM
    by_cases c40:x.ps.length=40
    ·rw[Qw c40]at hI;refine hJ _ _ ⟨rfl,.inl ⟨fv++[.ref p3],af,by rw[Qh,Qs];omega,?_,hI.symm⟩⟩;exact bS lvL.u.s (lvL.u.new _ lvL.u.iF)
    rw[Qq c40]at hI;have xo':=rs lv.xo c40 (Ql lv.gp) (Ql lv.gw) tok may (by rw[hs];exact no2);rw[hs]at xo';have lvF:=lvL.found nF xo' fd;have ktF:aO (upd G9 Lk (.lst (kv++[.ref th]))) (upd (upd G9 Lk (.lst (kv++[.ref th]))) Lf (.lst (fv++[.ref p3]))):=bo lvL.u.f;have kbF:=(lvL.u.at (L:=Lf) (xs:=fv++[.ref p3]) lvL.u.iF).2.1;have kt69:aO G6 (upd (upd G9 Lk (.lst (kv++[.ref th]))) Lf (.lst (fv++[.ref p3]))):=λb ys e=>ktF _ _ (ktk _ _ (T69 _ _ e))
    have plF:PlL (upd (upd G9 Lk (.lst (kv++[.ref th]))) Lf (.lst (fv++[.ref p3]))) (.ref th) s.2:=by
     rw[<-hs];exact⟨th,M,rfl,kt69 _ _ qth6,kbF _ _ (SL _ _ hmM) nMO⟩
    refine hJ _ _ ⟨rfl,.inr ⟨_,_,kv++[.ref th],lvF,kt69,by rw[ag hLk6,af],aK (ae (λ_ _ ⟨b,m,h1,h2,h3,h4⟩=>⟨b,m,h1,kt69 _ _ h2,kbF _ _ (SL _ _ h3) h4⟩) pk0) plF,plF,QC _ (List.mem_singleton_self _),λq hq=>?_,?_⟩⟩
    ·rcases Qx.mp hq with h|h
     ·exact lens q h
     rw[QB.mp h]
    rw[show (x.ps++[s.2]).idxOf s.2=x.ps.length by rw[List.idxOf_append,Qq c];simp];exact hI
   obtain⟨rfl,h⟩:=h;rcases h with⟨fv',hLf1,l41,SG,eRm⟩|⟨x',fv',kv',lv',kt',hk',pk',pl',ms,lens',hI'⟩
   ·lk;refine ifT (QA (by rw[l41];decide)) ?_;lk;refine⟨by simp[sizeLine],λp3 h3=>?_⟩;have T6:=am (o:=.tup [.str "many"]) h3;refine k (.ref p3) ts' _ ((SH3.trans SG).trans T6) wt ?_;rw[show unf r ts'=.many by rw[<-hR,eRm]];exact⟨p3,rfl,af⟩
   have hLf1:=lv'.u.f;have fl':fv'.length=x'.ps.length:=by rw[ao lv'.u.fp,List.length_zip,lv'.xo.1,Nat.min_self]
   have l40':=lv'.xo.2.2.1;lk;refine ifF (Qy (by omega)) ?_;have hN':=lv'.hN;have hta':=kt' _ _ (S6 _ _ hta);lk;refine nG hk' pk' pl' lens' ms ?_;lk;refine⟨by simp[sizeLine],λp5 h5=>?_⟩;generalize hE:upd G p5 _=G8;obtain⟨T8,q8⟩:=aj h5 hE;have lv8:=lv'.same T8;refine aW (cE lv8.hN (by omega) ?_);refine⟨x',fv',_,_,_,_,_,_,_,_,_,rfl,lv8.put nF nO (e:=(s.1.1,x'.ps.idxOf s.2)) ⟨p5,rfl,by rw[q8,es1]⟩,hI',by rw[Qh,Qs];omega⟩
  obtain⟨x,fv,ndv,nd,y13,y14,y15,y16,y17,y18,y19,rfl,lv,hI,hnd⟩:=h;rw[List.drop_of_length_le (Nat.le_of_eq (ao pts).symm)]at hI;have hI:Sum.inr (x,nd)=R:=hI;rw[<-hI]at hR;have hLo2:=lv.u.o;have gl:=(Qe.mp lv.gp).1;have l40:=lv.xo.2.2.1;lk;refine cE hLo2 (by rw[Qc,lo_];omega) ?_;have un:=lv.u.node (by simp) (by simp) (by simp[nF,nO]) ⟨ndv,lv.hN,lv.pn⟩ nna;rw[xC]at un;exact⟨x,fv,nas++[N],nds++[nd],_,_,_,_,_,_,_,_,_,_,_,rfl,un,lv.xo,by rw[Qh,Qs];exact gl,by rw[Qh,Qs];omega,hR⟩
 refine ifF (Qy (by omega)) ?_;rw[Qq c]at hR;have hi':=at'.hi;lk;refine λli2 h2=>?_;generalize hE:upd H' li2 _=H9;obtain⟨S9,q9⟩:=aj h2 hE;have ho9:=S9 _ _ at'.ho;lk;refine λlo2 h3=>?_;generalize hE:upd H9 lo2 _=Ha;obtain⟨Sa,qa⟩:=aj h3 hE;lk;refine⟨by simp[sizeLine],λs2 h4=>?_⟩;generalize hE:upd Ha s2 _=Hb;obtain⟨Sb,qb⟩:=aj h4 hE;lk;refine⟨by simp[sizeLine],λa2 h5=>?_⟩;generalize hE:upd Hb a2 _=Hc;obtain⟨Sc,qc⟩:=aj h5 hE;have Sall:ak H' Hc:=((S9.trans Sa).trans Sb).trans Sc;have SHH:=SH3.trans u.s;refine k (.ref a2) ts' Hc (SHH.trans Sall) wt ?_;rw[<-hR];have uc:=u.same Sall;have e1:li2≠Lo:=λz=>by rw[z,hLo']at h2;cases h2
 have e2:lo2≠li2:=λz=>by rw[z,q9]at h3;cases h3
 have e3:lo2≠Lo:=λz=>by rw[z,S9 _ _ hLo']at h3;cases h3
 have nas_at:∀b∈nas,∃o,H' b=some o:=λb hb=>by
  obtain⟨y,_,vs,e,_⟩:=bx u.op hb;exact⟨_,e⟩
 have e4:li2∉nas:=λz=>by obtain⟨o,e⟩:=nas_at _ z;rw[e]at h2;cases h2
 have e5:lo2∉nas:=λz=>by obtain⟨o,e⟩:=nas_at _ z;rw[S9 _ _ e]at h3;cases h3
 have e6:Lo∉nas:=λz=>u.ap _ z (by simp);refine⟨a2,s2,li2,lo2,Lo,nas,rfl,qc,Sc _ _ qb,Sc _ _ (Sb _ _ (Sa _ _ q9)),Sc _ _ (Sb _ _ qa),uc.o,uc.op,?_,?_⟩
 ·simp only[QN,Qg,not_or];exact⟨⟨e2.symm,e1,e4⟩,⟨e3,e5⟩,e6,u.nd⟩
 intro b hb;simp only[Qg]at hb;rcases hb with rfl|rfl|rfl|hb
 ·exact aP SHH h2
 ·exact aP (SHH.trans S9) h3
 ·exact aP SH3 (u.new _ (by simp))
 exact aP SH3 (u.nw b hb)
end
section
theorem jo:FnScope ["pool", "names", "turns", "order", "marks", "turn", "other", "pair", "odd", "first", "k", "name", "sign", "arcs", "at"] ["pool"] (az (top 22)):=by fin2
theorem rc {f:Addr} {fd:FuncData} (Fu:Fun K "_law_ring" "_law_ring" (top 22) f fd) (T:Txt K mg TT) (f_law_take:Fn P w K mg base "_law_take" ["pool", "many"] 1 eB) (f_law_names:Fn P w K mg base "_law_names" ["pool", "many"] 2 jf) (f_law_order:Fn P w K mg base "_law_order" ["pool", "things"] 2 (lu K)) (f_law_arcs:Fn P w K mg base "_law_arcs" ["pool", "order", "names"] 2 oE):FnOk P w K mg base CX0 3 f fd ["pool"] oA:=by
 have S:=jo;refine Fu.ok S (by room) (λcdv A outer s H vs Q E hr h=>?_);obtain⟨D,rfl,DA,dn,k⟩:=h;have hu:=cW hr;refine'⟨?_,?bb,?_⟩
 case bb =>
  walk_at "b";exact aH 1 S.nd (aN f_law_names hr (aa (pv 0) (aa (aF bN ad (au aQ (a_ (aa (aN f_law_take hr (aa (pv 0) (aa ad ab aD) ac)) (aa (aN f_law_take hr (aa (pv 0) (aa ad ab aD) ac)) ab se_call) se_call)) (aN f_law_take hr (aa (pv 0) (aa ad ab aD) ac)))) ab se_bin) ac));exact aH 2 S.nd (aF cO (dZ "name" [] (bn (pv 1)) (λ_ _ _ _=>(bg (aa (pv 0) (aa bc ab aD) ac)))) (dZ "name" [] (bn (pv 1)) (λ_ _ _ _=>(bg (aa (pv 0) (aa bc ab aD) ac)))));exact aH 3 S.nd (aN f_law_order hr (aa (pv 0) (aa (pv 2) ab ac) ac));exact aH 4 S.nd (aN f_law_arcs hr (aa (pv 0) (aa (pv 3) (aa (pv 1) ab ac) ac) ac));walk_at "f";exact(bn (pv 2));exact(bz 5 S.nd);walk_at "p";exact(aC (iw hr.units) (tR (eT (tgs:=["pair"]) (cap:=[("turn", 5)]) rfl ⟨rfl,rfl,rfl,rfl,rfl,rfl⟩ (oY (pv 4)) (λ_ _ _ _=>(bf (i:=0) (show List.Nodup [("pair" : Str),("turn" : Str)] by decide +kernel) rfl (by z_go))) (λ_ _ _ _=>(cS (aC (ir (K:=K) rfl hr.units) (au (c_ (K:=K) rfl) (pv 0) ad) (pv 1) (aG _)))) (λ_ _ _ _=>(pv 0)))) (a_ ab) (aG _));exact aH 6 S.nd (au aQ (pv 2) (aN f_law_take hr (aa (pv 0) (aa (aw aB (by rfl) T.n_len QZ (aa (pv 2) ab ac)) ab se_call) ac)));exact(aC (eK hr.units) (pv 6) (pv 5) (aG _));exact aH 6 S.nd (bg (aa (au aI (pv 5) ad) (aa (au cu bc (aV bP (by rfl) T.n_int xB (aa (bC cJ (au aI (pv 5) ad) bc (aG _)) ab))) ab)));exact(dX hu (pv 4) (bg (aa (pv 6) (aa (pv 5) ab ac) ac)) (aV bP (by rfl) T.n_int xB (aa (bC gx (bt Qv xc xf (bX hr.units) (pv 3) (aa (pv 6) ab ac)) (bt Qv xc xf (bX hr.units) (pv 3) (aa (pv 5) ab ac)) (aG _)) ab)) rfl);exact(aC cJ (aN f_law_take hr (aa (pv 0) (aa ad ab aD) ac)) ad (aG _));exact aH 7 S.nd (au aQ (aw (dR rfl hu) (by rfl) T.n_sorted PyProof.Rows.boot_sorted (aa (pv 4) ab ac)) (aN f_law_take hr (aa (pv 0) (aa (aw nX (by rfl) T.n_len QZ (aa (pv 4) ab ac)) ab se_call) ac)));exact(dX hu (pv 4) (pv 7) (aF eG ad (ff hu (pv 4) (pv 7))) rfl);exact aH 8 S.nd (aN f_law_take hr (aa (pv 0) (aa (aF du ad (aw aB (by rfl) T.n_len QZ (aa (pv 1) ab ac))) ab) ac));exact aH 9 S.nd bc;walk_at "f";exact(lL (by rfl) T.n_enumerate (aa (pv 1) ab ac));exact(dO rfl (aE (bz 10 S.nd) (aE (bz 11 S.nd) bI)));walk_at "p";exact aH 12 S.nd (aV bP (by rfl) T.n_int xB (aa (bC lN (bt Qv xc xf (bX hr.units) (pv 3) (aa (bg (aa (pv 11) (aa bc ab aD) ac)) ab se_tup)) (bt Qv xc xf (bX hr.units) (pv 3) (aa (bg (aa (pv 11) (aa bc ab aD) ac)) ab se_tup)) (aG _)) ab));exact aH 9 S.nd (aF bB (pv 9) (au cu bc (aF eI (aF bN (pv 12) (aV bP (by rfl) T.n_int xB (aa (bC cJ (pv 8) (pv 10) (aG _)) ab))) ad)));exact(oW (j:=13) S.nd rfl (by z_go) (tgs:=["pair"]) (cap:=[("marks", 4)]) rfl ⟨rfl,rfl,rfl,rfl,rfl,rfl⟩ (bn (aw (dR rfl hu) (by rfl) T.n_sorted PyProof.Rows.boot_sorted (aa (pv 4) ab ac))) (λ_ _ _ _=>(bf (i:=0) (show List.Nodup [("pair" : Str),("marks" : Str)] by decide +kernel) rfl (by z_go))) (λ_ _ _ _=>dj) (λ_ _ _ _=>(bg (aa (au (c_ (K:=K) rfl) (pv 0) ad) (aa (au (c_ (K:=K) rfl) (pv 0) ad) (aa (ff hu (pv 1) (pv 0)) ab))))));exact aH 14 S.nd (aN f_law_take hr (aa (pv 0) (aa (aw (gK rfl) (by rfl) T.n_min PyProof.Rows.boot_min (aa ad (aa (aw aB (by rfl) T.n_len QZ (aa (pv 1) ab ac)) ab se_call) aD)) ab se_call) ac));refine' aR ?e
  case e =>
   walk_at "q";exact(bT lC (pv 1) cx (cw (pv 14)));exact(bT lC (pv 1) (cw (pv 14)) cx);exact(pv 9);exact(pv 13)
 x_go;lk;refine bi (c:=0) (Kp.of DA (ak.refl H)) (by omega) (by omega) (by omega) λx1 H1 x10 x11 o1 kp1=>?_;lk;refine bi kp1 (by omega) (by omega) (by omega) λx2 H2 x20 x21 o2 kp2=>?_;lk;refine⟨by simp[sizeLine],λp0 hp0=>?_⟩;generalize hE:upd H2 p0 _=H3;obtain⟨S3,q3⟩:=aj hp0 hE;have np0:¬D.own p0:=aM (D:=D.more _) kp2.dk hp0;have kp3:=kp2.trans (Kp.of kp2.dk S3);lk;refine bi kp3 (by omega) (by omega) (by omega) λx3 H4 x30 x31 o4 kp4=>?_
 have ex:∃m:Int,atI [V.int x1,V.int x2] x3=some (.int m)/\0<=m/\m<=4:=by
  have:x3=0\/x3=1:=by omega
  rcases this with rfl|rfl
  ·exact⟨x1,rfl,x10,by omega⟩
  exact⟨x2,rfl,x20,by omega⟩
 obtain⟨m,em,m0,m4⟩:=ex;refine i_ixL (SqL.of (o4 _ _ q3 np0)) em ?_;lk;refine⟨D.more 3,(1+m).toNat,by rw[show (((1+m).toNat:Nat):Int)=1+m by omega];rfl,kp4.dk,by show D.n+3<50000;omega,by omega,by omega,λnl ws H5 kp5 hnl wl wnd qn=>?_⟩;have kpa:Kp (D.more 203) H H5:=kp4.trans (kp5.le (Qi _));have nlH:H nl=none:=kp4.free hnl;clear hE q3 S3 o1 o2 o4 kp1 kp2 kp3 kp5;have w1:1<=ws.length:=by omega
 have w5:ws.length<=5:=by omega
 kt_k;kt_k;with_reducible refine s_asg ?_
 refine l9 rfl qn (by omega) λtl tv H8 S58 htl qtl pt=>?_;have kp8:=kpa.trans (Kp.of kpa.dk S58);have htlH:H tl=none:=kpa.free htl;have tl_:=ao pt;have atl:=gQ ws;refine ay ?_;lk;refine⟨D.more 203,tl,tv,rfl,kp8.dk,SqL.of qtl,by show D.n+203<50000;omega,by omega,λol ov H9 kp9 hol pm qol=>?_⟩;obtain⟨ots,pot,pmo⟩:=Ht.paired_perm pm pt;have no8:∀b,H b=none->¬D.own b:=λb hb=>aM DA hb;have kt9:aO H8 H9:=Kp.tups (D:=(D.more 203).more 100) (kp8.dk.le (QO _ _)) kp9;have kpb:Kp (D.more 303) H H9:=kp8.trans (kp9.le (Qi _));have holH:H ol=none:=kp8.free hol;have po9:Paired (TuA H9) ov ots:=ae (λ_ _ h=>h.kt kt9) pot;have all:∀t,t∈ots↔cH ws t:=λt=>pmo.mem_iff.trans cA;have otl:ots.length=2*ws.length:=by rw[pmo.length_eq,atl]
 have qn9:=kp9.old _ _ (S58 _ _ qn) (no8 _ nlH);lk;refine⟨D.more 303,ol,nl,ov,ots,ws,rfl,kpb.dk,by show D.n+303<50000;omega,qol,po9,qn9,all,by omega,by omega,w5,λLm kvs H10 kp10 hLm md=>?_⟩;have kpc:Kp (D.more 373) H H10:=kpb.trans (kp10.le (Qi _));have hLmH:H Lm=none:=kpb.free hLm;have kt10:aO H9 H10:=Kp.tups (D:=(D.more 303).more 70) (kpb.dk.le (QO _ _)) kp10
 have no:∀b∈[nl,tl,ol,Lm],¬D.own b:=λb hb=>by
  simp only[Qg,Qm,QQ]at hb;rcases hb with rfl|rfl|rfl|rfl
  ·exact no8 _ nlH
  ·exact no8 _ htlH
  ·exact no8 _ holH
  exact no8 _ hLmH
 have ri:RI D H H10 nl tl ol Lm ws tv (bW ws) ov ots kvs 52 373:=⟨kpc,kp10.old _ _ qn9 (no8 _ nlH),kp10.old _ _ (kp9.old _ _ qtl (no8 _ htlH)) (no8 _ htlH),ae (λ_ _ h=>(h.kt kt9).kt kt10) pt,kp10.old _ _ qol (no8 _ holH),ae (λ_ _ h=>h.kt kt10) po9,md⟩;clear kt10 kpc kp10 md po9 kt9 kpb kp9 kp8 S58 pot pm pt qtl qol qn9;lk;refine⟨tl,rfl,⟨_,SqL.of ri.tl⟩,?_⟩;let I17:IvF:=λi U H'=>∃kvs y5 y6,U=[some (.ref D.d),some (.ref nl),some (.ref tl),some (.ref ol),some (.ref Lm),y5,y6,none,none,none,none,none,none,none,none]/\RI D H H' nl tl ol Lm ws tv (bW ws) ov ots kvs (52+i) (373+i)/\∀t∈(bW ws).take i,∃p:Pr,tkR p∈kvs.map (·.1)/\p.2=t;refine cX (xs:=tv) I17 ⟨kvs,_,_,rfl,ri,λt h=>by simp at h⟩ (λi U H' _ ⟨_,_,_,_,ri,_⟩=>SqL.of ri.tl) (λi x U H' ex h=>?_) (λU H' h=>?_)
 ·obtain⟨kvs,y5,y6,rfl,ri,inc⟩:=h;obtain⟨t,et,tu⟩:=paired_get ri.tp ex;have tkt:cH ws t:=cA.mp (Ql et);have hi:=(Qe.mp ex).1;have kl:=ri.md.l
  have inc':∀kvs':List (av × V),(∀k∈kvs.map (·.1),k∈kvs'.map (·.1))->(∃p:Pr,tkR p∈kvs'.map (·.1)/\p.2=t)->∀t∈(bW ws).take (i+1),∃p:Pr,tkR p∈kvs'.map (·.1)/\p.2=t:=λkvs' sub new t' ht'=>by
   rw[List.take_succ,et]at ht';rcases Qx.mp ht' with h|h
   ·obtain⟨p,h1,h2⟩:=inc t' h;exact⟨p,sub _ h1,h2⟩
   have:t'=t:=by simpa using h
   rw[this];exact new
  refine ay ?_;lk;refine⟨Lm,_,.inl ri.md.h,trivial,λo=>?_⟩;refine bF (a9 rfl ⟨Lm,o,kvs,rfl,af,λLc hLc=>?_⟩)
  classical
  have ktz:aO H' (upd H' Lm (.frz o (.dT kvs))):=c9 ri.md.h;refine rR (λkv=>decide (∃p:Pr,kv.1=tkR p/\p.2=t)) (λH v kv=>True) hLc af (by omega) (λ_ _ _ _ _ h=>h) (λkv b H2 mk tb S2 G N hG hN=>?_) (λH2 ys S2 hy pz=>?_)
  ·obtain⟨p,ek,pok,_⟩:=ri.md.ok kv mk;rw[ek]at tb;obtain⟨_,v1,v2,e,hb,h1,h2⟩:=PrA.of tb;cases e;refine ay ⟨⟨rfl,trivial⟩,?_⟩;lk;refine db h2 ((tu.kt ktz).kt (ak.tups S2)) ⟨_,rfl,?_⟩;by_cases ce:p.2=t
   ·refine ifT (QA ce) ?_;lk;exact hG (QA ⟨p,ek,ce⟩) _ H2 (ak.refl _) trivial
   exact ifF (Qy ce) (hN (Qy λ⟨q,e1,e2⟩=>ce (by rw[gX (ek.symm.trans e1)];exact e2)) H2 (ak.refl _))
  have ncm:Lc≠Lm:=λz=>by rw[z,af]at hLc;cases hLc
  refine⟨S2 _ _ af,ii (by rw[bK ncm];exact hy) λH3 S3=>?_⟩;have ri3:=ri.same ((gt S2).trans S3);have tu3:=tu.kt (ak.tups ((gt S2).trans S3));by_cases c0:ys.length=0
  ·refine ifT (QA c0) ?_;have tl3:=ri3.tl;lk;refine bi ri3.kp (by omega) (by omega) (by omega) λr H4 r0 r1 o4 kp4=>?_;have ri4:=ri3.draw no o4 kp4;have tu4:=tu3.kt (ri3.kp.kt o4);obtain⟨v6,e6,hv6⟩:=iR (xs:=tv) (i:=r) (by omega) r1;obtain⟨t6,ht6,tu6⟩:=bx ri4.tp hv6;refine i_ixL (SqL.of ri4.tl) e6 ?_;refine ay ?_;obtain⟨ta,rfl,hta⟩:=id tu4;let I18:IvJ:=λU G=>∃vo to,U=[some (.ref D.d),some (.ref nl),some (.ref tl),some (.ref ol),some (.ref Lm),some (.ref ta),some vo,none,none,none,none,none,none,none,none]/\ak H4 G/\TuA G vo to/\cH ws to/\to≠t;with_reducible refine bR I18 (λRR hJ=>?_) (λU G h=>?_)
   ·lk;refine db tu6 tu4 ⟨_,rfl,?_⟩;by_cases ce:t6=t
    ·refine ifT (QA ce) ?_;lk;obtain⟨c,ec,ec2⟩:=tT tkt.2;refine dy (by decide) ec ?_;rw[ec2];lk;refine⟨by simp[sizeLine],λp5 h5=>?_⟩;exact hJ _ _ ⟨_,_,rfl,am h5,⟨p5,rfl,af⟩,tS tkt⟩
    exact ifF (Qy ce) (s_next (hJ _ _ ⟨_,_,rfl,ak.refl _,tu6,cA.mp ht6,ce⟩))
   obtain⟨vo,to,rfl,SG,tuo,tko,ne⟩:=h;have riG:=ri4.same SG;have tuG:=tu4.kt (ak.tups SG);have olG:=riG.ol;refine fH ?_;lk;refine cB olG riG.op tuo ((all _).mpr tko) ?_;lk;refine cB olG riG.op tuG ((all _).mpr tkt) ?_;lk;refine⟨by simp[sizeLine],λp3 h3=>?_⟩;have hm:=bit (decide (((ots.idxOf t:Nat):Int)<(ots.idxOf to:Nat)));generalize (if (decide (((ots.idxOf t:Nat):Int)<(ots.idxOf to:Nat)))=true then (1:Int) else 0)=m at hm ⊢;generalize hE:upd G p3 _=H5;obtain⟨S5,q5⟩:=aj h3 hE;have pa5:PrA H5 (.ref p3) (to,t):=⟨p3,_,_,rfl,q5,tuo.kt (ak.tups S5),tuG.kt (ak.tups S5)⟩;have ri5:=riG.same S5;refine⟨Lm,_,rfl,gi.t ri5.md.h pa5.tk (by omega),?_⟩;have d:=ri5.md.put (H':=upd H5 Lm (.dT (bL kvs (tkR (to,t)) (.int m)))) (p:=(to,t)) (m:=m) ⟨tko,tkt,ne⟩ hm af;refine⟨_,_,_,rfl,ri5.set DA hLmH d,inc' _ (λk hk=>?_) ⟨(to,t),?_,rfl⟩⟩
   ·rcases cU kvs (tkR (to,t)) (.int m) with⟨_,e⟩|⟨_,e⟩
    ·rw[e];exact hk
    rw[e];exact xu _ hk
   rcases cU kvs (tkR (to,t)) (.int m) with⟨h,e⟩|⟨_,e⟩
   ·rw[e];exact h
   rw[e];exact QC _ (List.mem_singleton_self _)
  refine ifF (Qy c0) (s_next ⟨kvs,_,_,rfl,ri3.up (by omega) (by omega),inc' kvs (λ_ h=>h) ?_⟩);have pl:=ao pz
  cases hf:kvs.filter λkv=>decide (∃p:Pr,kv.1=tkR p/\p.2=t) with
  | nil=>rw[hf]at pl;exact absurd pl c0
  | cons kv r =>
  have:kv∈kvs.filter λkv=>decide (∃p:Pr,kv.1=tkR p/\p.2=t):=by rw[hf];simp
  obtain⟨m1,m2⟩:=List.mem_filter.mp this;obtain⟨p,e1,e2⟩:=xv m2;exact⟨p,Qo.mpr ⟨kv,m1,e1⟩,e2⟩
 obtain⟨kvs,y5,y6,rfl,ri,inc⟩:=h;rw[Q8 (Nat.le_of_eq tl_.symm)]at inc;have ri:=ri.up (n':=62) (c':=383) (by omega) (by omega)
 have kpos:∀kvs:List (av × V),(∀t∈bW ws,∃p:Pr,tkR p∈kvs.map (·.1)/\p.2=t)->1<=kvs.length:=λkvs inc=>by
  cases ws with
  | nil=>simp at w1
  | cons n ws =>
  obtain⟨p,hp,_⟩:=inc (n, "+") (cA.mpr ⟨by simp,.inl rfl⟩);have:=List.length_pos_of_mem hp;rwa [Qc]at this
 let I19:IvJ:=λU G=>∃kvs y7,U=[some (.ref D.d),some (.ref nl),some (.ref tl),some (.ref ol),some (.ref Lm),y5,y6,y7,none,none,none,none,none,none,none]/\RI D H G nl tl ol Lm ws tv (bW ws) ov ots kvs 62 390/\∀t∈bW ws,∃p:Pr,tkR p∈kvs.map (·.1)/\p.2=t;with_reducible refine bR I19 (λRR hJ=>?_) (λU G h=>?_)
 ·lk;refine bi ri.kp (by omega) (by omega) (by omega) λr H2 r0 r1 o2 kp2=>?_;have ri2:=ri.draw no o2 kp2;lk;cases decide (V.int r=V.int 0)
  ·exact iteF (s_next (hJ _ _ ⟨kvs,_,rfl,ri2.up (by omega) (by omega),inc⟩))
  refine cq ?_;lk;refine ri2.md.sort (by decide) λp vs ps hp pp pm so=>?_;generalize hE:upd H2 p _=H3;obtain⟨S3,q3⟩:=aj hp hE;have ri3:=ri2.same S3;have np:¬D.own p:=aM (D:=D.more _) ri2.kp.dk hp;have kl:=ri3.md.l;have kp1:=kpos kvs inc
  have vl:vs.length=kvs.length:=by
   have:=pm.length_eq;rw[Qc,Qc]at this;rw[ao pp,this]
  lk;refine⟨Lm,kvs,rfl,ri3.md.h,?_⟩;lk;refine bi ri3.kp (by omega) (by omega) (by omega) λr H4 r0 r1 o4 kp4=>?_;have ri4:=ri3.draw no o4 kp4;obtain⟨v7,e7,hv7⟩:=iR (xs:=vs) (i:=r) (by omega) (by omega);obtain⟨pr,hpr,pa⟩:=bx pp hv7;refine i_ixL (SqL.of (o4 _ _ q3 np)) e7 ?_;have pa4:=(pa.kt (ak.tups S3)).kt (ri3.kp.kt o4);obtain⟨b7,_,_,rfl,_⟩:=id pa4;have hk:tkR pr∈kvs.map (·.1):=pm.mem_iff.mp (Qo.mpr ⟨pr,hpr,rfl⟩);obtain⟨pok,m,ev,hm⟩:=ri4.md.val hk;refine ay ?_;with_reducible refine fH ?_
  lk;refine⟨Lm,_,rfl,by have z:=eA.t ri4.md.h pa4.tk;rw[ev]at z;exact z,?_⟩;lk;refine⟨Lm,_,rfl,gi.t ri4.md.h pa4.tk (by omega),?_⟩;have d:=ri4.md.set (H':=upd H4 Lm (.dT (bL kvs (tkR pr) (.int (1-m))))) (p:=pr) (m:=1-m) hk pok (by omega) af;refine hJ _ _ ⟨_,_,rfl,(ri4.set DA hLmH d).up (by omega) (by omega),λt ht=>?_⟩;obtain⟨q,h1,h2⟩:=inc t ht;refine⟨q,?_,h2⟩;rcases cU kvs (tkR pr) (.int (1-m)) with⟨_,e⟩|⟨_,e⟩
  ·rw[e];exact h1
  rw[e];exact xu _ h1
 obtain⟨kvs,y7,rfl,ri,inc⟩:=h;have nl3:=ri.nl;lk;rw[Qc];refine bi ri.kp (by omega) (by omega) (by omega) λod H2 r0 r1 o2 kp2=>?_;have ri:=ri.draw no o2 kp2;have nl3:=ri.nl;lk;refine ba (a9 rfl (aW ⟨nl,rfl,⟨_,SqL.of nl3⟩,?_⟩));let I20:IvF:=λi U H'=>∃z y10 y11 y12,U=[some (.ref D.d),some (.ref nl),some (.ref tl),some (.ref ol),some (.ref Lm),y5,y6,y7,some (.int od),some (.str z),y10,y11,y12,none,none]/\RI D H H' nl tl ol Lm ws tv (bW ws) ov ots kvs 62 391/\StOk i z;refine jS (xs:=ws.map V.str) I20 ⟨_,_,_,_,rfl,ri,⟨rfl,λc hc=>nomatch hc⟩⟩ (λi U H' _ ⟨_,_,_,_,_,ri,_⟩=>SqL.of ri.nl) (λi x U H' TA ex h hT=>?_) (λU H' h=>?_)
 ·obtain⟨z,y10,y11,y12,rfl,ri,st⟩:=h;have hi:=(Qe.mp ex).1;rw[QE]at ex;obtain⟨n,en,rfl⟩:=xh.mp ex;have mn:=Ql en;generalize hE:upd H' TA _=H2;obtain⟨S2,q2⟩:=aj hT hE;have ri2:=ri.same S2;have ol2:=ri2.ol;refine⟨TA,_,rfl,SqT.of q2,rfl,_,_,rfl,ay ⟨_,_,rfl,ay ⟨rfl,?_⟩⟩⟩;lk;refine⟨by simp[sizeLine],λp3 h3=>?_⟩;generalize hE:upd H2 p3 _=H3;obtain⟨S3,q3⟩:=aj h3 hE;have ri3:=ri2.same S3;have ol3:=ri3.ol;lk;refine cB (t:=(n, "-")) ol3 ri3.op ⟨p3,rfl,q3⟩ ((all _).mpr ⟨mn,.inr rfl⟩) ?_;lk;refine⟨by simp[sizeLine],λp4 h4=>?_⟩;generalize hE:upd H3 p4 _=H4;obtain⟨S4,q4⟩:=aj h4 hE;have ri4:=ri3.same S4;lk;refine cB (t:=(n, "+")) ri4.ol ri4.op ⟨p4,rfl,q4⟩ ((all _).mpr ⟨mn,.inl rfl⟩) ?_;lk;obtain⟨c,ec,hc⟩:=vY (_+_);refine dy (by decide) ec ?_;have zl:z.length=i:=st.len;rw[Qc]at hi;refine⟨z,_,rfl,rfl,by show z.length+1<=_;omega,?_⟩;exact⟨_,_,_,_,rfl,ri4,qQ st hc⟩
 obtain⟨z,y10,y11,y12,rfl,ri,st⟩:=h;rw[Qc]at st;lk;refine bF (s_list (i_cb (ba (a9 rfl (aW (ri.md.sort (by decide) λp vs ps hp pp pm so=>?_))))));generalize hE:upd H' p _=H2;obtain⟨S2,q2⟩:=aj hp hE;have ri2:=ri.same S2;refine⟨p,rfl,⟨_,SqL.of q2⟩,λLa hLa=>?_⟩
 have pl:ps.length<=62:=by
  have:=pm.length_eq;have:=ri.md.l;simp only[Qc] at *;omega
 have hk:∀x∈ps,tkR x∈kvs.map (·.1):=λx hx=>pm.mem_iff.mp (Qo.mpr ⟨x,hx,rfl⟩);refine de (λ_=>true) (λH v x=>ArA H v (j3 kvs x)) hLa q2 pp (by omega) (λH H' v x k h=>h.kt k) (λv x H3 pa mx S3 G N hG _=>?_) (λH3 ys S3 hy py=>?_)
 ·obtain⟨b,v1,v2,rfl,hb,t1,t2⟩:=pa.kt (ak.tups (S2.trans S3));have ri3:=ri2.same S3;obtain⟨pok,ev,hm⟩:=jF ri3.md (hk x mx);have pa3:PrA H3 (.ref b) x:=⟨b,v1,v2,rfl,hb,t1,t2⟩;refine ay ⟨⟨rfl,trivial⟩,i_yes (cq ?_)⟩;lk;refine⟨Lm,_,rfl,by have z:=eA.t ri3.md.h pa3.tk;rw[ev]at z;exact z,?_⟩;lk;refine⟨by simp[sizeLine],λp4 h4=>?_⟩;have S4:=am (o:=.tup [v1,v2,.int (kI kvs x)]) h4;exact hG rfl _ _ S4 ⟨p4,_,_,rfl,af,t1.kt (ak.tups S4),t2.kt (ak.tups S4)⟩
 rw[bZ]at py;have py:=bM (f:=j3 kvs) py;have ri3:=ri2.same S3;have hLaH:H La=none:=ri2.kp.free hLa;have nl3:=ri3.nl;lk;refine⟨5,_,rfl,?_⟩;rw[Qc];lk;refine bi ri3.kp (by omega) (by split <;> omega) (by split <;> omega) λr H4 r0 r1 o4 kp4=>?_;have ri4:=ri3.draw no o4 kp4
 have rl:r.toNat<ws.length:=by
  have:r<ws.length:=by
   split at r1 <;> omega
  omega
 obtain⟨j,rfl⟩:∃j:Nat,r=(j:Int):=⟨r.toNat,by omega⟩;rw[QX]at rl;have nl4:=ri4.nl;have hya:=o4 _ _ hy (no8 _ hLaH);have py4:=ae (λ_ _ h=>ArA.kt (ri3.kp.kt o4) h) py;lk;refine sP (SqL.of nl4) λli hli=>?_;rw[uu (by rw[Qc];omega),<-List.map_take];generalize hE:upd H4 li _=H5;obtain⟨S5,q5⟩:=aj hli hE;have nl5:=S5 _ _ nl4;lk;refine sP (SqL.of nl5) λlo hlo=>?_;rw[qp (by rw[Qc];omega),<-List.map_drop];generalize hE:upd H5 lo _=H6;obtain⟨S6,q6⟩:=aj hlo hE;lk;refine⟨by simp[sizeLine],λa h7=>?_⟩;generalize hE:upd H6 a _=H7;obtain⟨S7,q7⟩:=aj h7 hE;have S47:=(S5.trans S6).trans S7;have kp7:=kp4.trans (Kp.of kp4.dk S47);have ews:(⟨ws.take j,ws.drop j,z,ps.map (j3 kvs)⟩:Rg).ws=ws:=List.take_append_drop _ _;refine k a li lo La ys ⟨ws.take j,ws.drop j,z,ps.map (j3 kvs)⟩ H7 (kp7.up (by omega)) (λb hb=>?_) ⟨q7,S7 _ _ (S6 _ _ q5),S7 _ _ q6,S47 _ _ hya,ae (λ_ _ h=>h.kt (ak.tups S47)) py4⟩ ⟨?_,?_,?_,?_,?_,?_⟩ ?_
 ·simp only[Qg,Qm,QQ]at hb;rcases hb with rfl|rfl|rfl|rfl
  ·exact kp4.free (aP (S5.trans S6) h7)
  ·exact kp4.free hli
  ·exact kp4.free (aP S5 hlo)
  exact hLaH
 ·rw[ews];exact wnd
 ·rw[ews];exact w1
 ·rw[ews];exact w5
 ·rw[ews];exact st
 ·show (ps.map _).length<=_;rw[Qc];omega
 ·rw[ews];intro x hx;obtain⟨q,hq,rfl⟩:=Qo.mp hx;obtain⟨pok,_,hm⟩:=jF ri.md (hk q hq);exact⟨pok.o,pok.t,pok.ne,hm⟩
 intro t ht;rw[ews]at ht;obtain⟨q,h1,h2⟩:=inc t (cA.mpr ht);obtain⟨q',hq',e⟩:=Qo.mp (pm.mem_iff.mpr h1);exact⟨j3 kvs q',Qo.mpr ⟨q',hq',rfl⟩,by rw[<-gX e]at h2;exact h2⟩
end
inductive Tr where
 | non|bl (b:Bool)|int (i:Int)|str (z:Str)|lst (ts:List Tr)|tup (ts:List Tr)
inductive Ow (H:Hp):Nat->V->Tr->A3->Prop where
 | non {n:Nat}:Ow H n .non .non []
 | bl {n:Nat} {b:Bool}:Ow H n (.bl b) (.bl b) []
 | int {n:Nat} {i:Int}:Ow H n (.int i) (.int i) []
 | str {n:Nat} {z:Str}:Ow H n (.str z) (.str z) []
 | lst {n:Nat} {a:Addr} {xs:List V} {ts:List Tr} {ass:List A3}:H a=some (.lst xs)->xs.length=ts.length->ass.length=ts.length->(∀(j:Nat) x t as,xs[j]?=some x->ts[j]?=some t->ass[j]?=some as->Ow H n x t as)->Ow H (n+1) (.ref a) (.lst ts) (a::ass.flatten)
 | tup {n:Nat} {a:Addr} {xs:List V} {ts:List Tr} {ass:List A3}:H a=some (.tup xs)->xs.length=ts.length->ass.length=ts.length->(∀(j:Nat) x t as,xs[j]?=some x->ts[j]?=some t->ass[j]?=some as->Ow H n x t as)->Ow H (n+1) (.ref a) (.tup ts) ass.flatten
def few:Nat->Tr->Prop
 | n+1,.lst ts=>ts.length<=1000/\∀t∈ts,few n t
 | n+1,.tup ts=>ts.length<=1000/\∀t∈ts,few n t
 | _,_=>True
variable {ass:List A3}
theorem cL (e:ass[j]?=some as) (h:b∈as):b∈ass.flatten:=List.mem_flatten.mpr ⟨as,Ql e,h⟩
theorem Ow.keep (kt:aO H H') {t:Tr} (h:Ow H n v t as):(∀b∈as,∀xs,H b=some (.lst xs)->H' b=some (.lst xs))->Ow H' n v t as:=by
 induction h with
 | non=>exact λ_=>.non
 | bl=>exact λ_=>.bl
 | int=>exact λ_=>.int
 | str=>exact λ_=>.str
 | lst e l1 l2 _ ih=>exact λkl=>.lst (kl _ (Q2 ..) _ e) l1 l2 λj x t as h1 h2 h3=>ih j x t as h1 h2 h3 λb hb=>kl b (Qp _ (cL h3 hb))
 | tup e l1 l2 _ ih=>exact λkl=>.tup (kt _ _ e) l1 l2 λj x t as h1 h2 h3=>ih j x t as h1 h2 h3 λb hb=>kl b (cL h3 hb)
theorem Ow.same {H':Hp} (S:ak H H') {t:Tr} (h:Ow H n v t as):Ow H' n v t as:=h.keep (ak.tups S) λb _ xs e=>S _ _ e
theorem Ow.at {t:Tr} (h:Ow H n v t as):∀b∈as,∃xs,H b=some (.lst xs):=by
 induction h with
 | non=>exact λb hb=>nomatch hb
 | bl=>exact λb hb=>nomatch hb
 | int=>exact λb hb=>nomatch hb
 | str=>exact λb hb=>nomatch hb
 | @lst n a xs ts ass e l1 l2 _ ih =>
  intro b hb;rcases Qg.mp hb with rfl|hb
  ·exact⟨_,e⟩
  obtain⟨as,h1,h2⟩:=List.mem_flatten.mp hb;obtain⟨j,hj,rfl⟩:=QS h1;exact ih j _ _ _ (Qb (by omega)) (Qb (by omega)) (Qb hj) b h2
 | @tup n a xs ts ass e l1 l2 _ ih =>
 intro b hb;obtain⟨as,h1,h2⟩:=List.mem_flatten.mp hb;obtain⟨j,hj,rfl⟩:=QS h1;exact ih j _ _ _ (Qb (by omega)) (Qb (by omega)) (Qb hj) b h2
def Tr.kd:Tr->String
 | .non => "NoneType" | .bl _ => "bool" | .int _ => "int" | .str _ => "str" | .lst _ => "list" | .tup _ => "tuple"
def Tr.isStr:Tr->Bool
 | .str _=>true|_=>false
def Tr.isBl:Tr->Bool
 | .bl _=>true|_=>false
def Tr.isLst:Tr->Bool
 | .lst _=>true|_=>false
def Tr.isTup:Tr->Bool
 | .tup _=>true|_=>false
def Tr.isSeq:Tr->Bool
 | .lst _=>true|.tup _=>true|_=>false
theorem Ow.ty {t:Tr} (h:Ow H n v t as):TyOf K H v (.type t.kd):=by
 cases h with
 | non=>exact .non
 | bl=>exact .bl _
 | int=>exact .int _
 | str=>exact .str _
 | lst e=>exact .lst e
 | tup e=>exact .tup e
theorem lY (t:Tr):PySem.W.kitOne K (.type t.kd) (.type "str")=some t.isStr:=by cases t <;> with_unfolding_all rfl
theorem pQ (t:Tr):PySem.W.kitOne K (.type t.kd) (.type "bool")=some t.isBl:=by cases t <;> with_unfolding_all rfl
theorem lZ (t:Tr):PySem.W.kitOne K (.type t.kd) (.type "list")=some t.isLst:=by cases t <;> with_unfolding_all rfl
theorem iD (t:Tr):PySem.W.kitOne K (.type t.kd) (.type "tuple")=some t.isTup:=by cases t <;> with_unfolding_all rfl
theorem iE (t:Tr):PySem.W.kitAny K (.type t.kd) [.type "list", .type "tuple"]=some t.isSeq:=by cases t <;> with_unfolding_all rfl
theorem Ow.seq {t:Tr} (h:Ow H n v t as) (cs:t.isSeq=true):∃(m:Nat) (tb:Bool) (a:Addr) (xs:List V) (ts:List Tr) (ass:List A3),n=m+1/\v=.ref a/\Sqv tb H a xs/\t=(match tb with|true=>Tr.tup ts|false=>Tr.lst ts)/\xs.length=ts.length/\ass.length=ts.length/\(∀(j:Nat) x t as,xs[j]?=some x->ts[j]?=some t->ass[j]?=some as->Ow H m x t as)/\as=(match tb with|true=>ass.flatten|false=>a::ass.flatten):=by
 cases h with
 | lst e l1 l2 hi=>exact⟨_,false,_,_,_,_,rfl,rfl,e,rfl,l1,l2,hi,rfl⟩
 | tup e l1 l2 hi=>exact⟨_,true,_,_,_,_,rfl,rfl,e,rfl,l1,l2,hi,rfl⟩
 | _=>cases cs
theorem dP {P:Program} {w:World} {mg:A2} {base:Heap} {f:Addr} {fd:FuncData} {ps:List Str} {sp:Sp} (h:∀vs H Q E,sp vs H Q E->False):FnOk P w K mg base CX0 k f fd ps sp :=
 ⟨λvs H Q E q=>(h vs H Q E q).elim,λ_ _ _ _ _ _ vs Q E _ _ _ _ q=>(h _ _ _ _ q).elim⟩
structure Cp (H H':Hp) (L:Addr) (n m:Nat) (ys:List V) (ts:List Tr) (ass:List A3):Prop where
 s:ak H H'
 l:H' L=some (.lst ys)
 ly:ys.length=m
 la:ass.length=m
 ow:∀(j:Nat) x t as,ys[j]?=some x->ts[j]?=some t->ass[j]?=some as->Ow H' n x t as
 nd:ass.flatten.Nodup
 new:∀b∈ass.flatten,H b=none/\b≠L
theorem Cp.more {H':Hp} {m:Nat} {ts:List Tr} {t:Tr} (c:Cp H H' L n m ys ts ass) (hL:H L=none) (S2:ak H' H2) (et:ts[m]?=some t) (o:Ow H2 n u t as) (nd:as.Nodup) (new:∀b∈as,H' b=none) (hm:m<ts.length):Cp H (upd H2 L (.lst (ys++[u]))) L n (m+1) (ys++[u]) ts (ass++[as]):=by
 have hL2:=S2 _ _ c.l;have kt:=bo (o:=.lst (ys++[u])) hL2;have nL:∀b∈as,b≠L:=λb hb z=>by have:=new b hb;rw[z,c.l]at this;cases this
 have old:∀b∈ass.flatten,∃xs,H' b=some (.lst xs):=λb hb=>by
  obtain⟨bs,h1,h2⟩:=List.mem_flatten.mp hb;obtain⟨j,hj,rfl⟩:=QS h1;have l1:=c.la;have l2:=c.ly;exact(c.ow j _ _ _ (Qb (by omega)) (Qb (by omega)) (Qb hj)).at b h2
 have fl:(ass++[as]).flatten=ass.flatten++as:=by rw[List.flatten_append,List.flatten_singleton]
 refine⟨bS (c.s.trans S2) hL,af,by rw[Qh,c.ly];rfl,by rw[Qh,c.la];rfl,λj x t' as' e1 e2 e3=>?_,?_,λb hb=>?_⟩
 ·by_cases cj:j<m
  ·rw[QI (by rw[c.ly];exact cj)]at e1;rw[QI (by rw[c.la];exact cj)]at e3;refine((c.ow j x t' as' e1 e2 e3).same S2).keep kt λb hb xs e=>?_;rw[ag (c.new b (cL e3 hb)).2];exact e
  have lj:=(Qe.mp e1).1;rw[Qh,Qs,c.ly]at lj;obtain rfl:j=m:=by omega
  rw[QJ (Nat.le_of_eq c.ly),c.ly,Nat.sub_self]at e1;rw[QJ (Nat.le_of_eq c.la),c.la,Nat.sub_self]at e3;cases e1;cases e3;cases et.symm.trans e2;exact o.keep kt λb hb xs e=>by rw[ag (nL b hb)];exact e
 ·rw[fl];refine List.nodup_append.mpr ⟨c.nd,nd,λx h1 y h2 e=>?_⟩;obtain⟨xs,e1⟩:=old x h1;have e2:=new y h2;rw[<-e,e1]at e2;cases e2
 rw[fl]at hb;rcases Qx.mp hb with h|h
 ·exact c.new b h
 exact⟨aP c.s (new b h),nL b h⟩
def hV (k:Nat):Sp:=λvs H Q _=>∃(n:Nat) (v:V) (t:Tr) (bs:A3),vs=[v]/\n+1<=k/\few n t/\Ow H n v t bs/\∀u H' as,ak H H'->Ow H' n u t as->as.Nodup->(∀b∈as,H b=none)->Q u H'
def g_ (k:Nat):Sp:=λvs H Q _=>∃(n:Nat) (v u:V) (t:Tr) (as bs:A3),vs=[v,u]/\n+1<=k/\Ow H n v t as/\Ow H n u t bs/\∀H',ak H H'->Q (.bl true) H'
section
theorem jq:FnScope ["thing"] ["thing"] (az (top 24)):=by fin2
theorem jA {f:Addr} {fd:FuncData} (Fu:Fun K "_law_copy" "_law_copy" (top 24) f fd) (T:Txt K mg TT) (hm:mg "_law_copy" = some (.ref f)) (hk:PySem.W.keepIn K (.ref f)=true) (hb:dJ K fd ["thing"] []):∀d,FnOk P w K mg base CX0 d f fd ["thing"] (hV d)
 | 0=>dP λvs H Q E ⟨n,v,t,bs,_,h,_⟩=>by omega
 | k+1=>by
  have S:=jq;have f_law_copy:Fn P w K mg base "_law_copy" ["thing"] k (hV k):=⟨f,fd,jA Fu T hm hk hb k,hm,hk,hb⟩;refine Fu.ok S (λvs H Q E h=>?_) (λcdv A outer s H vs Q E hr h=>?_)
  ·obtain⟨n,v,t,bs,rfl,_⟩:=h;rfl
  obtain⟨n,v,t,bs,rfl,hk',fw,it,q⟩:=h;have hu:=cW hr;have big:100000<sizeLine:=by decide
  refine⟨_,(pss_cons (ps_if (cr (aw bp (by rfl) T.n_isinstance QP (aa (pv 0) (aa (bu (v:=.ty "list") (by rfl) T.n_list Q9 rfl) ab)))) (pss_one (aR (dZ "one" [] (bn (pv 0)) (λ_ _ _ _=>(aN f_law_copy hr (aa (pv 0) ab)))))) pss_nil)
  (pss_cons (ps_if (cr (aw bp (by rfl) T.n_isinstance QP (aa (pv 0) (aa (bu (v:=.ty "tuple") (by rfl) T.n_tuple xp rfl) ab)))) (pss_one (aR (aV cP (by rfl) T.n_tuple xp (aa (dZ "one" [] (tP (pv 0)) (λ_ _ _ _=>(aN f_law_copy hr (aa (pv 0) ab)))) ab)))) pss_nil)
  (pss_one (aR (pv 0))))),?_⟩
  x_go;lk;refine⟨_,_,_,_,rfl,it.ty,lZ _,?_⟩;cases cl:t.isLst
  ·refine⟨_,rfl,iteF ?_⟩;lk;refine⟨_,_,_,_,rfl,it.ty,iD _,?_⟩
   cases id it with
   | @tup n a xs ts ass e l1 l2 hi =>
    refine⟨_,rfl,cq ?_⟩;obtain⟨f1,f2⟩:=fw;lk;refine bF (uO ?_);lk;refine⟨a,rfl,⟨_,SqT.of e⟩,λL hL=>?_⟩;refine qt (xs:=xs) (λm H' ys=>∃ass,Cp H H' L n m ys ts ass) ⟨[],am hL,af,rfl,rfl,(λj x t as h _ _=>by simp at h),.nil,λb hb=>nomatch hb⟩ (λm H' ys ⟨_,p⟩=>⟨p.l,SqT.of (p.s _ _ e)⟩) (λm x H' ys ex ⟨as',p⟩=>?_) (λH' ys ⟨as',p⟩=>?_)
    ·have hm':m<xs.length:=(Qe.mp ex).1;have et:ts[m]?=some (ts[m]'(by omega)):=Qb (by omega);have ea:ass[m]?=some (ass[m]'(by omega)):=Qb (by omega);refine ay ⟨trivial,i_yes (cq ?_)⟩;refine i_call (ba (a9 rfl (aW ⟨n,x,_,_,rfl,by omega,f2 _ (Ql et),(hi m x _ _ ex et ea).same p.s,λu H2 bs S2 ou nd new=>?_⟩)));exact eh.mk (S2 _ _ p.l) hm' (by rw[p.ly];omega) ⟨_,p.more hL S2 et ou nd new (by omega)⟩
    refine aW ⟨L,ys,rfl,.inl ⟨SqL.of p.l,λp4 hp4=>?_⟩⟩;have S4:=am (o:=.tup ys) hp4;have l3:=p.ly;have l4:=p.la;exact q (.ref p4) _ _ (p.s.trans S4) (.tup af (by omega) (by omega) λj x t as e1 e2 e3=>(p.ow j x t as e1 e2 e3).same S4) p.nd λb hb=>(p.new b hb).1
   | lst=>cases cl
   | _=>exact⟨_,rfl,iteF (s_next (s_ret (a9 rfl (q _ H _ (ak.refl H) it .nil λb hb=>nomatch hb))))⟩
  cases id it with
  | @lst n a xs ts ass e l1 l2 hi =>
   refine⟨_,rfl,cq ?_⟩;obtain⟨f1,f2⟩:=fw;lk;refine bF (s_list ?_);lk;refine⟨a,rfl,⟨_,SqL.of e⟩,λL hL=>?_⟩;refine nV (xs:=xs) (λm H' ys=>∃ass,Cp H H' L n m ys ts ass) ⟨[],am hL,af,rfl,rfl,(λj x t as h _ _=>by simp at h),.nil,λb hb=>nomatch hb⟩ (λm H' ys ⟨_,p⟩=>⟨p.l,SqL.of (p.s _ _ e)⟩) (λm x H' ys ex ⟨as',p⟩=>?_) (λH' ys ⟨as',p⟩=>?_)
   ·have hm':m<xs.length:=(Qe.mp ex).1;have et:ts[m]?=some (ts[m]'(by omega)):=Qb (by omega);have ea:ass[m]?=some (ass[m]'(by omega)):=Qb (by omega);refine ay ⟨trivial,i_yes (cq ?_)⟩;refine i_call (ba (a9 rfl (aW ⟨n,x,_,_,rfl,by omega,f2 _ (Ql et),(hi m x _ _ ex et ea).same p.s,λu H2 bs S2 ou nd new=>?_⟩)));exact eh.mk (S2 _ _ p.l) hm' (by rw[p.ly];omega) ⟨_,p.more hL S2 et ou nd new (by omega)⟩
   have l3:=p.ly;have l4:=p.la;refine q (.ref L) H' _ p.s (.lst p.l (by omega) (by omega) p.ow) (QN.mpr ⟨λz=>(p.new _ z).2 rfl,p.nd⟩) λb hb=>?_;rcases Qg.mp hb with rfl|hb
   ·exact hL
   exact(p.new b hb).1
  | _=>cases cl
theorem jn:FnScope ["one", "other"] ["one", "other"] (az (top 25)):=by fin2
theorem jy {f:Addr} {fd:FuncData} (Fu:Fun K "_law_same" "_law_same" (top 25) f fd) (T:Txt K mg TT) (hm:mg "_law_same" = some (.ref f)) (hk:PySem.W.keepIn K (.ref f)=true) (hb:dJ K fd ["one", "other"] []):∀d,FnOk P w K mg base CX0 d f fd ["one", "other"] (g_ d)
 | 0=>dP λvs H Q E ⟨n,v,u,t,as,bs,_,h,_⟩=>by omega
 | k+1=>by
  have S:=jn;have f_law_same:Fn P w K mg base "_law_same" ["one", "other"] k (g_ k):=⟨f,fd,jy Fu T hm hk hb k,hm,hk,hb⟩;refine Fu.ok S (λvs H Q E h=>?_) (λcdv A outer s H vs Q E hr h=>?_)
  ·obtain⟨n,v,u,t,as,bs,rfl,_⟩:=h;rfl
  obtain⟨n,v,u,t,as,bs,rfl,hk',it,iu,q⟩:=h;have hu:=cW hr;have big:100000<sizeLine:=by decide
  refine'⟨?_,?bb,?_⟩
  case bb =>
   walk_at "b";exact(PW.pt (lJ (aC pA (aw bp (by rfl) T.n_isinstance QP (aa (pv 0) (aa (bu (v:=.ty "bool") (by rfl) T.n_bool PyProof.Rows.boot_bool rfl) ab))) (aw bp (by rfl) T.n_isinstance QP (aa (pv 1) (aa (bu (v:=.ty "bool") (by rfl) T.n_bool PyProof.Rows.boot_bool rfl) ab))) (aG _)) (ik (aC pA (aw bp (by rfl) T.n_isinstance QP (aa (pv 0) (aa (bu (v:=.ty "tuple") (by rfl) T.n_tuple xp rfl) ab))) (aw bp (by rfl) T.n_isinstance QP (aa (pv 1) (aa (bu (v:=.ty "tuple") (by rfl) T.n_tuple xp rfl) ab))) (aG _)))));exact(aR lM);exact(PW.pt (ky (cr (aw cQ (by rfl) T.n_isinstance QP (aa (pv 0) (aa (bg (aa (bu (v:=.ty "list") (by rfl) T.n_list Q9 rfl) (aa (bu (v:=.ty "tuple") (by rfl) T.n_tuple xp rfl) ab))) ab)))) (ip (cr (aw cQ (by rfl) T.n_isinstance QP (aa (pv 1) (aa (bg (aa (bu (v:=.ty "list") (by rfl) T.n_list Q9 rfl) (aa (bu (v:=.ty "tuple") (by rfl) T.n_tuple xp rfl) ab))) ab)))))));exact(aR (o_ (bC cJ (aw aB (by rfl) T.n_len QZ (aa (pv 0) ab)) (aw aB (by rfl) T.n_len QZ (aa (pv 1) ab)) (aG _)) (o0 (bC (iw hr.units) (eT (tgs:=["a", "b"]) (cap:=[]) rfl ⟨rfl,rfl,rfl,rfl,rfl,rfl⟩ (dY (by rfl) T.n_zip (aa (pv 0) (aa (pv 1) ab))) (λ_ _ _ _=>(dC (K:=K) (n:=2) rfl rfl (aE (bf (i:=0) (show List.Nodup [("a" : Str),("b" : Str)] by decide +kernel) rfl (by z_go)) (aE (bf (i:=1) (show List.Nodup [("a" : Str),("b" : Str)] by decide +kernel) rfl (by z_go)) bI)))) (λ_ _ _ _=>(cS (fJ (cr (aN f_law_same hr (aa (pv 0) (aa (pv 1) ab))))))) (λ_ _ _ _=>ad)) (a_ ab) (aG _)))));exact(aR (o_ (bC cJ (aw bp (by rfl) T.n_isinstance QP (aa (pv 0) (aa (bu (v:=.ty "str") (by rfl) T.n_str PyProof.Rows.boot_str rfl) ab))) (aw bp (by rfl) T.n_isinstance QP (aa (pv 1) (aa (bu (v:=.ty "str") (by rfl) T.n_str PyProof.Rows.boot_str rfl) ab))) (aG _)) (o0 (bC cJ (pv 0) (pv 1) (aG _)))))
  x_go;lk;refine⟨_,_,_,_,rfl,it.ty,pQ _,?_⟩;lk;refine⟨_,_,_,_,rfl,iu.ty,pQ _,?_⟩;refine i_ne rfl ⟨_,rfl,ifF (by simp) ?_⟩;lk;refine⟨_,_,_,_,rfl,it.ty,iD _,?_⟩;lk;refine⟨_,_,_,_,rfl,iu.ty,iD _,?_⟩;refine i_ne rfl ⟨_,rfl,ifF (by simp) ?_⟩;lk;refine⟨by simp[sizeLine],λp1 hp1=>?_⟩;have S1:=am (o:=.tup [.ty "list", .ty "tuple"]) hp1;have at1:upd H p1 (.tup [.ty "list", .ty "tuple"]) p1=some (.tup [.ty "list", .ty "tuple"]):=af;generalize upd H p1 (.tup [.ty "list", .ty "tuple"])=H1 at *;refine aW ⟨_,p1,["list", "tuple"],_,_,rfl,at1,(it.same S1).ty,iE t,?_⟩;cases cs:t.isSeq
  ·refine⟨_,rfl,iteF (iteF ?_)⟩;have it1:=it.same S1;have iu1:=iu.same S1;lk;refine⟨_,_,_,_,rfl,it1.ty,lY _,?_⟩;lk;refine⟨_,_,_,_,rfl,iu1.ty,lY _,?_⟩;refine i_eq rfl ⟨_,rfl,ifT (by simp) ?_⟩
   have fin:∀(x:V),x=v->mT x x=true->x=u->(tOp rEq (dS 0) (dS 1)) [some v,some u] H1 Q:=λx e1 e2 e3=>by
    subst e1;subst e3;refine i_op (a9 rfl (a9 rfl (i_eq e2 ?_)));rw[QA rfl];exact q _ S1
   cases it with
   | non=>cases iu;exact fin _ rfl rfl rfl
   | bl=>cases iu;exact fin _ rfl rfl rfl
   | int=>cases iu;exact fin _ rfl rfl rfl
   | str=>cases iu;exact fin _ rfl rfl rfl
   | lst=>cases cs
   | tup=>cases cs
  refine⟨_,rfl,cq ?_⟩;lk;refine⟨by simp[sizeLine],λp2 hp2=>?_⟩;have S2:=S1.trans (am (o:=.tup [.ty "list", .ty "tuple"]) hp2);have at2:upd H1 p2 (.tup [.ty "list", .ty "tuple"]) p2=some (.tup [.ty "list", .ty "tuple"]):=af;generalize upd H1 p2 (.tup [.ty "list", .ty "tuple"])=H2 at *;have it2:=it.same S2;have iu2:=iu.same S2;refine aW ⟨_,p2,["list", "tuple"],_,_,rfl,at2,iu2.ty,iE t,?_⟩;rw[cs];refine⟨_,rfl,cq ?_⟩;clear it iu;obtain⟨n1,tb,a,xs,ts,ass,rfl,rfl,e,et0,l1,l2,hi,_⟩:=it2.seq cs;obtain⟨n2,tb2,b,ys,ts2,bss,en,rfl,e',et2,l1',l2',hi',_⟩:=iu2.seq cs;obtain rfl:n1=n2:=by omega
  obtain⟨rfl,rfl⟩:tb=tb2/\ts=ts2:=by
   rw[et0]at et2;cases tb <;> cases tb2 <;> first|(injection et2 with z;exact⟨rfl,z⟩)|(cases et2)
  have lxy:xs.length=ys.length:=by omega
  have sq:∀{tb:Bool} {H:Hp} {a:Addr} {xs:List V},Sqv tb H a xs->SqL K H a xs\/SqT K H a xs:=λ{tb H a xs} h=>by
   cases tb with
   | true=>exact .inr (SqT.of h)
   | false=>exact .inl (SqL.of h)
  lk;refine⟨a,xs,rfl,sq e,?_⟩;lk;refine⟨b,ys,rfl,sq e',?_⟩;refine i_eq rfl ⟨_,rfl,ifT (by rw[lxy];simp) ?_⟩;refine i_op (bF (ba (a9 rfl (ba (a9 rfl (aW ⟨a,b,tb,tb,rfl,⟨_,e.of⟩,⟨_,e'.of⟩,λL hL=>?_⟩))))));refine nU (xs:=xs) (us:=ys) (by omega) (λm H' zs=>ak H2 H'/\H' L=some (.lst zs)/\zs=[]) ⟨am hL,af,rfl⟩ (λm H' zs p=>⟨p.2.1,(e.same p.1).of,(e'.same p.1).of⟩) (λm x y H' zs T ex ey p hT=>?_) (λH' zs p=>?_)
  ·obtain⟨Sm,hd,rfl⟩:=p;have hm':m<xs.length:=(Qe.mp ex).1;have et:ts[m]?=some (ts[m]'(by omega)):=Qb (by omega);have ea:ass[m]?=some (ass[m]'(by omega)):=Qb (by omega);have eb:bss[m]?=some (bss[m]'(by omega)):=Qb (by omega);have ST:=Sm.trans (am (o:=.tup [x,y]) hT);refine⟨T,_,rfl,SqT.of af,rfl,_,_,rfl,ay ⟨_,_,rfl,ay ⟨rfl,trivial,?_⟩⟩⟩;refine i_not (i_tB (i_call (ba (a9 rfl (ba (a9 rfl (aW ⟨n1,x,y,_,_,_,rfl,by omega,(hi m x _ _ ex et ea).same ST,(hi' m y _ _ ey et eb).same ST,λH3 S3=>?_⟩)))))));exact⟨_,rfl,iteF ⟨_,Nat.sub_lt_sub_left hm' (Nat.lt_succ_self _),rfl,hm',ST.trans S3,S3 _ _ (am hT _ _ hd),rfl⟩⟩
  obtain⟨Sm,hd,rfl⟩:=p;refine i_lst (aW ⟨by simp[sizeLine],λp hp=>?_⟩);exact vm (SqL.of (am hp _ _ hd)) (SqL.of af) rfl (λj x y e _=>by simp at e) (q _ (S2.trans (Sm.trans (am hp))))
end
def mwL (F:Tr->Int->Tr × Int) (ts:List Tr) (m:Int):List Tr × Int:=ts.foldl (λp t=>(p.1++[(F t p.2).1],(F t p.2).2)) ([],m)
def mkS (F:Tr->Int->Tr × Int):Tr->Int->Tr × Int
 | .lst ts,m=>(.lst (mwL F ts m).1,(mwL F ts m).2)
 | .tup ts,m=>(.tup (mwL F ts m).1,(mwL F ts m).2)
 | t,m=>(t,m)
def mkE (t:Tr) (m:Int):Tr × Int:=match t with
 | .lst ts=>(.lst (ts++[.int m]),m+1)
 | t=>(t,m+1)
def mkT:Nat->Tr->Int->Tr × Int
 | 0,t,m=>(t,m+1)
 | n+1,t,m=>mkE (mkS (mkT n) t m).1 (mkS (mkT n) t m).2
theorem jD (F:Tr->Int->Tr × Int) (ts:List Tr) (t:Tr) (m:Int):mwL F (ts++[t]) m=((mwL F ts m).1++[(F t (mwL F ts m).2).1],(F t (mwL F ts m).2).2):=by
 unfold mwL;rw[List.foldl_append];rfl
theorem fj (F:Tr->Int->Tr × Int) (m:Int) (ts:List Tr):(mwL F ts m).1.length=ts.length:=by
 have:∀(ts:List Tr) (p:List Tr × Int),(ts.foldl (λp t=>(p.1++[(F t p.2).1],(F t p.2).2)) p).1.length=p.1.length+ts.length:=λts=>by
  induction ts with
  | nil=>intro p;rfl
  | cons t ts ih=>intro p;rw[List.foldl_cons,ih,Qh,Qs,xr];omega
 unfold mwL;rw[this];exact Nat.zero_add _
def cur (F:Tr->Int->Tr × Int) (ts:List Tr) (m:Int) (i:Nat):List Tr:=(mwL F (ts.take i) m).1++ts.drop i
variable {F:Tr->Int->Tr × Int}
theorem qr {ts:List Tr} {t:Tr} (e:ts[i]?=some t):(cur F ts m i)[i]?=some t:=by
 have hi:=(Qe.mp e).1;unfold cur;rw[QJ (by rw[fj,Q3];omega),fj,Q3,show i-min i ts.length=0 by omega,List.getElem?_drop];exact e
theorem gn {ts:List α} {t:α} (e:ts[i]?=some t):ts.take (i+1)=ts.take i++[t]:=by
 rw[List.take_succ,e];rfl
theorem qq {ts:List Tr} {t:Tr} (e:ts[i]?=some t):(cur F ts m (i+1))[j]?=if j=i then some (F t (mwL F (ts.take i) m).2).1 else (cur F ts m i)[j]?:=by
 have hi:=(Qe.mp e).1;have l:(mwL F (ts.take i) m).1.length=i:=by rw[fj,Q3];omega
 unfold cur;rw[gn e,jD];dsimp only;generalize (mwL F (ts.take i) m).1=A at l;generalize (F t (mwL F (ts.take i) m).2).1=u;by_cases c:j<i
 ·rw[Qq (by omega),QI (by rw[Qh,l];omega),QI (by omega),QI (by omega)]
 by_cases c2:j=i
 ·rw[Qw c2,c2,QI (by rw[Qh,l];exact Nat.lt_succ_self i),QJ (by omega),l,Nat.sub_self];rfl
 rw[Qq c2,QJ (by rw[Qh,l];exact(by omega:i+1<=j)),QJ (by omega),Qh,l,List.getElem?_drop,List.getElem?_drop,Qs];congr 1;omega
theorem kR (nd:ass.flatten.Nodup) {bs:A3} (h1:ass[i]?=some as) (h2:ass[j]?=some bs) (ne:j≠i):∀b∈bs,b∉as:=by
 have p:=(List.pairwise_flatten.mp nd).2;intro b hb ha;obtain⟨i1,rfl⟩:=Qe.mp h1;obtain⟨j1,rfl⟩:=Qe.mp h2;rcases Nat.lt_or_gt_of_ne ne with c|c
 ·exact(List.pairwise_iff_getElem.mp p j i j1 i1 c) b hb b ha rfl
 exact(List.pairwise_iff_getElem.mp p i j i1 j1 c) b ha b hb rfl
theorem rL (nd:ass.flatten.Nodup) (h:ass[i]?=some as):as.Nodup:=(List.pairwise_flatten.mp nd).1 as (Ql h)
theorem eV {l:A3} (h1:b∈l) (h2:a∉l):b≠a:=λz=>by rw[z]at h1;exact h2 h1
structure MI (F:Tr->Int->Tr × Int) (H H2:Hp) (q c:Addr) (n i:Nat) (xs:List V) (ts:List Tr) (ass:List A3) (m:Int):Prop where
 fr:∀b o,H b=some o->b∉ass.flatten->b≠c->H2 b=some o
 hq:H2 q=some (.lst xs)
 hc:H2 c=some (.lst [.int (mwL F (ts.take i) m).2])
 ow:∀(j:Nat) x t as,xs[j]?=some x->(cur F ts m i)[j]?=some t->ass[j]?=some as->Ow H2 n x t as
theorem MI.step {c:Addr} {ts:List Tr} {x:V} {t:Tr} (I:MI F H H2 q c n i xs ts ass m) (ex:xs[i]?=some x) (et:ts[i]?=some t) (ea:ass[i]?=some as) (nd:ass.flatten.Nodup) (hq:q∉ass.flatten) (hqc:q≠c) (hc:c∉ass.flatten)
  (fr:∀b o,H2 b=some o->b∉as->b≠c->H3 b=some o) (o3:Ow H3 n x (F t (mwL F (ts.take i) m).2).1 as) (c3:H3 c=some (.lst [.int (F t (mwL F (ts.take i) m).2).2])):MI F H H3 q c n (i+1) xs ts ass m:=by
 have at2:=(I.ow i x t as ex (qr et) ea).at;have kt:aO H2 H3:=λb ys e=>fr b _ e (λz=>by obtain⟨zs,e'⟩:=at2 b z;rw[e]at e';cases e') (λz=>by rw[z,I.hc]at e;cases e);refine⟨λb o e h1 h2=>fr b o (I.fr b o e h1 h2) (λz=>h1 (cL ea z)) h2,fr _ _ I.hq (λz=>hq (cL ea z)) hqc,by rw[gn et,jD];exact c3,λj y t' bs e1 e2 e3=>?_⟩;rw[qq et]at e2;by_cases cj:j=i
 ·rw[Qw cj]at e2;subst cj;cases e2;cases e1.symm.trans ex;cases e3.symm.trans ea;exact o3
 rw[Qq cj]at e2;refine(I.ow j y t' bs e1 e2 e3).keep kt λb hb zs e=>fr b _ e (kR nd ea e3 cj b hb) (eV (cL e3 hb) hc)
def hU (k:Nat):Sp:=λvs H Q _=>∃(n:Nat) (v:V) (t:Tr) (as:A3) (c:Addr) (m:Int),vs=[v,.ref c]/\n+1<=k/\few n t/\Ow H n v t as/\as.Nodup/\c∉as/\H c=some (.lst [.int m]) /\
 ∀H',(∀b o,H b=some o->b∉as->b≠c->H' b=some o)->Ow H' n v (mkT n t m).1 as->H' c=some (.lst [.int (mkT n t m).2])->Q .non H'
structure MJ (H H2:Hp) (n:Nat) (v:V) (t:Tr) (as:A3) (c:Addr) (m:Int) (t2:Tr) (m2:Int):Prop where
 e:mkT n t m=mkE t2 m2
 ow:Ow H2 n v t2 as
 hc:H2 c=some (.lst [.int m2])
 fr:∀b o,H b=some o->b∉as->b≠c->H2 b=some o
 fw:∀ts,t2=.lst ts->ts.length<=1000
theorem rz {t:Tr} (h:t.isLst=false):mkE t m=(t,m+1):=by cases t <;> first|rfl|cases h
theorem pK {t:Tr} (h:t.isSeq=false):mkT n t m=mkE t m:=by
 cases n with
 | zero=>cases t <;> first|rfl|cases h
 | succ n=>cases t <;> first|rfl|cases h
section
theorem gc:FnScope ["thing", "marks", "one"] ["thing", "marks"] (az (top 26)):=by fin2
theorem jz {f:Addr} {fd:FuncData} (Fu:Fun K "_law_marked" "_law_marked" (top 26) f fd) (T:Txt K mg TT) (hm:mg "_law_marked" = some (.ref f)) (hk:PySem.W.keepIn K (.ref f)=true) (hb:dJ K fd ["thing", "marks"] []):∀d,FnOk P w K mg base CX0 d f fd ["thing", "marks"] (hU d)
 | 0=>dP λvs H Q E ⟨n,v,t,as,c,m,_,h,_⟩=>by omega
 | k+1=>by
  have S:=gc;have f_law_marked:Fn P w K mg base "_law_marked" ["thing", "marks"] k (hU k):=⟨f,fd,jz Fu T hm hk hb k,hm,hk,hb⟩;refine Fu.ok S (λvs H Q E h=>?_) (λcdv A outer s H vs Q E hr h=>?_)
  ·obtain⟨n,v,t,as,c,m,rfl,_⟩:=h;rfl
  obtain⟨n,v,t,as,c,m,rfl,hk',fw,ow,nd,hc,hcm,q⟩:=h;have big:100000<sizeLine:=by decide
  refine'⟨?_,?bb,?_⟩
  case bb =>
   walk_at "b";exact(cr (aw cQ (by rfl) T.n_isinstance QP (aa (pv 0) (aa (bg (aa (bu (v:=.ty "list") (by rfl) T.n_list Q9 rfl) (aa (bu (v:=.ty "tuple") (by rfl) T.n_tuple xp rfl) ab))) ab))));walk_at "f";exact(bn (aV bE (by rfl) T.n_list Q9 (aa (pv 0) ab)));exact(bz 2 S.nd);walk_at "p";exact(bj (aN f_law_marked hr (aa (pv 2) (aa (pv 1) ab))));exact(cr (aw bp (by rfl) T.n_isinstance QP (aa (pv 0) (aa (bu (v:=.ty "list") (by rfl) T.n_list Q9 rfl) ab))));exact(bj (bt Qv QL QM aZ (pv 0) (aa (au aQ (pv 1) ad) ab)));exact(fK (aF bN (au aQ (pv 1) ad) ad) (kA (pv 1) ad fE))
  x_go;with_reducible refine bR (λU H2=>∃x t2 m2,U=[some v,some (.ref c),x]/\MJ H H2 n v t as c m t2 m2) (λR hJ=>?_) (λU H2 h=>?_)
  ·lk;refine⟨by simp[sizeLine],λp1 hp1=>?_⟩;have S1:=am (o:=.tup [.ty "list", .ty "tuple"]) hp1;have at1:upd H p1 (.tup [.ty "list", .ty "tuple"]) p1=some (.tup [.ty "list", .ty "tuple"]):=af;generalize upd H p1 (.tup [.ty "list", .ty "tuple"])=H1 at *;have ow1:=ow.same S1;refine aW ⟨_,p1,["list", "tuple"],_,_,rfl,at1,ow1.ty,iE t,?_⟩;cases cs:t.isSeq
   ·refine⟨_,rfl,iteF (s_next (hJ _ _ ⟨_,t,m,rfl,pK cs,ow1,S1 _ _ hcm,λb o e _ _=>S1 _ _ e,λts e=>by rw[e]at cs;cases cs⟩))⟩
   refine⟨_,rfl,cq ?_⟩;obtain⟨n1,tb,a,xs,ts,ass,rfl,rfl,e,et0,l1,l2,hi,eas⟩:=ow1.seq cs
   obtain⟨f1,f2⟩:ts.length<=1000/\∀t∈ts,few n1 t:=by
    rw[et0]at fw;cases tb <;> exact fw
   have sub:∀b∈ass.flatten,b∈as:=λb hb=>by
    rw[eas];cases tb
    ·exact Qp _ hb
    exact hb
   have ndf:ass.flatten.Nodup:=by
    rw[eas]at nd;cases tb
    ·exact(QN.mp nd).2
    exact nd
   have at1:=ow1.at;lk
   have sq:SqL K H1 a xs\/SqT K H1 a xs:=by
    cases tb with
    | true=>exact .inr (SqT.of e)
    | false=>exact .inl (SqL.of e)
   refine⟨a,xs,rfl,sq,λl hl=>?_⟩;have Sl:=am (o:=.lst xs) hl;have ql:upd H1 l (.lst xs) l=some (.lst xs):=af;generalize upd H1 l (.lst xs)=H2 at *;have hlc:l≠c:=aq (S1 _ _ hcm) hl;have hla:l∉ass.flatten:=λz=>by obtain⟨zs,e'⟩:=at1 l (sub l z);rw[hl]at e';cases e'
   refine⟨l,rfl,⟨_,SqL.of ql⟩,?_⟩;refine cX (xs:=xs) (λi U G=>∃x,U=[some (.ref a),some (.ref c),x]/\MI (mkT n1) H2 G l c n1 i xs ts ass m) ⟨_,rfl,λb o e _ _=>e,ql,Sl _ _ (S1 _ _ hcm),λj x t as e1 e2 e3=>(hi j x t as e1 e2 e3).same Sl⟩ (λi U G _ ⟨_,_,I⟩=>SqL.of I.hq) (λi v U G ev h=>?_) (λU G h=>?_)
   ·obtain⟨x,rfl,I⟩:=h;have hi':i<xs.length:=(Qe.mp ev).1;have et:ts[i]?=some (ts[i]'(by omega)):=Qb (by omega);have ea:ass[i]?=some (ass[i]'(by omega)):=Qb (by omega);refine ay ?_;lk;refine⟨n1,v,_,_,c,_,rfl,by omega,f2 _ (Ql et),I.ow i v _ _ ev (qr et) ea,rL ndf ea,λz=>hc (sub _ (cL ea z)),I.hc,λH3 fr o3 c3=>?_⟩;exact⟨_,rfl,I.step ev et ea ndf hla hlc (λz=>hc (sub _ z)) fr o3 c3⟩
   obtain⟨x,rfl,I⟩:=h
   have cl:cur (mkT n1) ts m xs.length=(mwL (mkT n1) ts m).1:=by
    unfold cur;rw[Q8 (by omega),List.drop_of_length_le (by omega),List.append_nil]
   have ic:=I.hc;have io:=I.ow;rw[cl]at io;rw[Q8 (by omega)]at ic;have ml:=fj (mkT n1) m ts;have S12:=S1.trans Sl;have frm:∀b o,H b=some o->b∉as->b≠c->G b=some o:=λb o e h1 h2=>I.fr b o (S12 _ _ e) (λz=>h1 (sub b z)) h2
   cases tb with
   | false =>
    subst et0 eas;refine hJ _ _ ⟨_,.lst (mwL (mkT n1) ts m).1,_,rfl,rfl,.lst (I.fr _ _ (Sl _ _ e) (QN.mp nd).1 (eV (Q2 ..) hc)) (by omega) (by omega) io,ic,frm,λts' e'=>?_⟩;cases e';omega
   | true =>
   subst et0 eas
   have na:a∉ass.flatten:=λz=>by
    obtain⟨zs,e'⟩:=at1 a z;rw[show H1 a=some (.tup xs) from e]at e';cases e'
   have nac:a≠c:=λz=>by
    have e':H1 a=some (.tup xs):=e;rw[z,S1 _ _ hcm]at e';cases e'
   exact hJ _ _ ⟨_,.tup (mwL (mkT n1) ts m).1,_,rfl,rfl,.tup (I.fr _ _ (Sl _ _ e) na nac) (by omega) (by omega) io,ic,frm,λts' e'=>nomatch e'⟩
  obtain⟨x,t2,m2,rfl,J⟩:=h;have hc2:=J.hc;let I21:IvJ:=λU H3=>∃x,U=[some v,some (.ref c),x]/\Ow H3 n v (mkE t2 m2).1 as/\H3 c=some (.lst [.int m2])/\∀b o,H b=some o->b∉as->b≠c->H3 b=some o;with_reducible refine bR I21 (λR hJ=>?_) (λU H3 h=>?_)
  ·lk;refine⟨_,_,_,_,rfl,J.ow.ty,lZ _,?_⟩;cases cl:t2.isLst
   ·refine⟨_,rfl,iteF (s_next (hJ _ _ ⟨_,rfl,?_,hc2,J.fr⟩))⟩;rw[rz cl];exact J.ow
   refine⟨_,rfl,cq ?_⟩;obtain⟨_,ow2,_,fr2,fw2⟩:=J
   cases ow2 with
   | @lst n a xs ts ass e l1 l2 hi =>
    have tl:=fw2 ts rfl;obtain⟨na,ndf⟩:=QN.mp nd;have nac:c≠a:=(eV (Q2 ..) hc).symm;lk;refine cE e (by omega) ?_;have kt:=bo (o:=.lst (xs++[.int m2])) e;refine hJ _ _ ⟨_,rfl,?_,by rw[ag nac];exact hc2,λb o e1 h1 h2=>by rw[ag (eV (Q2 ..) h1).symm];exact fr2 b o e1 h1 h2⟩
    have z:Ow (upd H2 a (.lst (xs++[.int m2]))) (n+1) (.ref a) (.lst (ts++[.int m2])) (a::(ass++[[]]).flatten):=by
     refine .lst af (by rw[Qh,Qh,l1];rfl) (by rw[Qh,Qh,l2];rfl) λj y t' bs e1 e2 e3=>?_;by_cases cj:j<ts.length
     ·rw[QI (by omega)]at e1 e2 e3;exact(hi j y t' bs e1 e2 e3).keep kt λb hb zs e'=>by rw[ag (eV (cL e3 hb) na)];exact e'
     have lj:=(Qe.mp e2).1;rw[Qh,Qs]at lj;rw[QJ (by omega),show j-xs.length=0 by omega]at e1;rw[QJ (by omega),show j-ts.length=0 by omega]at e2;rw[QJ (by omega),show j-ass.length=0 by omega]at e3;cases e1;cases e2;cases e3;exact .int
    rw[List.flatten_append,List.flatten_singleton,List.append_nil]at z;exact z
   | _=>cases cl
  obtain⟨x,rfl,ow3,hc3,fr3⟩:=h;lk;have kt:=bo (o:=.lst [.int (m2+1)]) hc3;refine q _ (λb o e h1 h2=>by rw[ag h2];exact fr3 b o e h1 h2) ?_ ?_
  ·rw[J.e];exact ow3.keep kt λb hb zs e'=>by rw[ag (eV hb hc)];exact e'
  rw[J.e];have:(mkE t2 m2).2=m2+1:=by cases t2 <;> rfl
  rw[this];exact af
end
def tuT (t:Tu):Tr:=.tup [.str t.1,.str t.2]
def arT (a:Arc):Tr:=.tup [tuT a.one,tuT a.two,.int a.mark]
def sgT (p:Str × Nat):Tr:=.tup [.str p.1,.int (p.2:Int)]
def ndT (nd:Nd):Tr:=.lst (nd.map sgT)
def rgT (r:Rg):Tr:=.tup [.lst (r.ins.map Tr.str),.lst (r.outs.map Tr.str),.str r.z,.lst (r.arcs.map arT)]
noncomputable def tJ (r:Rg):Res->Tr
 | .odd way w=>.tup [.str "odd", .lst (way.map tuT),.str w]
 | .many=>.tup [.str "many"]
 | .sheet nds=>.tup [.str "sheet", .tup [.lst (r.ins.map Tr.str),.lst (r.outs.map Tr.str),.str r.z,.lst (nds.map ndT)]]
abbrev T3:=V × Tr × A3
section
variable {H:Hp} {n:Nat}
variable {as:A3} {v:V}
theorem sK {t:Tr} {bs:A3} (h:Ow H n v t as) (e:as=bs):Ow H n v t bs:=by rw[<-e];exact h
theorem sJ {l:List T3} (h:∀p∈l,Ow H n p.1 p.2.1 p.2.2) (j:Nat) (x:V) (t:Tr) (as:A3) (e1:(l.map (·.1))[j]?=some x) (e2:(l.map (·.2.1))[j]?=some t) (e3:(l.map (·.2.2))[j]?=some as):Ow H n x t as:=by
 rw[QE]at e1 e2 e3
 cases e:l[j]? with
 | none=>rw[e]at e1;cases e1
 | some p =>
 rw[e]at e1 e2 e3;cases e1;cases e2;cases e3;exact h p (Ql e)
variable {a li lo:Addr}
theorem dr (l:List T3) (e:H a=some (.tup (l.map (·.1)))) (h:∀p∈l,Ow H n p.1 p.2.1 p.2.2):Ow H (n+1) (.ref a) (.tup (l.map (·.2.1))) (l.map (·.2.2)).flatten:=.tup e (by rw[Qc,Qc]) (by rw[Qc,Qc]) (sJ h)
theorem ph (l:List T3) (e:H a=some (.lst (l.map (·.1)))) (h:∀p∈l,Ow H n p.1 p.2.1 p.2.2):Ow H (n+1) (.ref a) (.lst (l.map (·.2.1))) (a::(l.map (·.2.2)).flatten):=.lst e (by rw[Qc,Qc]) (by rw[Qc,Qc]) (sJ h)
theorem pf {α β:Type} {F:α->β->Prop} (f:α->V) (g:β->Tr) (k:α->A3) (h:∀a b,F a b->Ow H n (f a) (g b) (k a)):∀{xs:List α} {ys:List β},Paired F xs ys->∃l:List T3,l.map (·.1)=xs.map f/\l.map (·.2.1)=ys.map g/\l.map (·.2.2)=xs.map k/\∀p∈l,Ow H n p.1 p.2.1 p.2.2
 | _,_,.nil=>⟨[],rfl,rfl,rfl,λp hp=>nomatch hp⟩
 | _,_,.cons (a:=x) (b:=y) r t=>by
  obtain⟨l,e1,e2,e3,hl⟩:=pf f g k h t;refine⟨(f x,g y,k x)::l,by rw[Qu,Qu,e1],by rw[Qu,Qu,e2],by rw[Qu,Qu,e3],λp hp=>?_⟩;rcases Qg.mp hp with rfl|hp
  ·exact h _ _ r
  exact hl p hp
theorem fh {α β:Type} {F:V->β->Prop} {g:β->Tr} {xs:List V} {ys:List β} (e:H a=some (.lst xs)) (p:Paired F xs ys) (h:∀x b,F x b->Ow H n x (g b) []):Ow H (n+1) (.ref a) (.lst (ys.map g)) [a]:=by
 obtain⟨l,e1,e2,e3,hl⟩:=pf (F:=F) id g (λ_=>[]) h p;rw[List.map_id]at e1;have o:=ph l (by rw[e1];exact e) hl;rw[e2,e3,show (xs.map λ_=>([]:A3)).flatten=[] by simp]at o;exact o
theorem pc {t:Tu} (h:TuA H v t):Ow H (n+1) v (tuT t) []:=by
 obtain⟨b,rfl,e⟩:=h;refine dr [(.str t.1,.str t.1,[]),(.str t.2,.str t.2,[])] e λp hp=>?_;simp only[Qg,Qm,QQ]at hp;rcases hp with rfl|rfl <;> exact .str
theorem uZ {p:Str × Nat} (h:SgA H v p):Ow H (n+1) v (sgT p) []:=by
 obtain⟨b,rfl,e⟩:=h;refine dr [(.str p.1,.str p.1,[]),(.int p.2,.int p.2,[])] e λq hq=>?_;simp only[Qg,Qm,QQ]at hq;rcases hq with rfl|rfl
 ·exact .str
 exact .int
theorem u3 {a:Arc} (h:ArA H v a):Ow H (n+2) v (arT a) []:=by
 obtain⟨b,v1,v2,rfl,e,h1,h2⟩:=h;refine dr [(v1,tuT a.one,[]),(v2,tuT a.two,[]),(.int a.mark,.int a.mark,[])] e λq hq=>?_;simp only[Qg,Qm,QQ]at hq;rcases hq with rfl|rfl|rfl
 ·exact pc h1
 ·exact pc h2
 exact .int
theorem fg {zs:List Str} (e:H a=some (.lst (zs.map V.str))):Ow H (n+1) (.ref a) (.lst (zs.map Tr.str)) [a]:=by
 have p:∀zs:List Str,Paired (λv z=>v=V.str z) (zs.map V.str) zs:=λzs=>by
  induction zs with
  | nil=>exact .nil
  | cons z zs ih=>exact .cons rfl ih
 exact fh (α:=V) e (p zs) λx b h=>by rw[h];exact .str
theorem u0 {nd:Nd} (h:i3 H a nd):Ow H (n+2) (.ref a) (ndT nd) [a]:=by
 obtain⟨vs,e,p⟩:=h;exact fh (α:=V) e p λx b h=>uZ h
theorem sI {l:Addr} {as:List V} {r:Rg} (h:RgA H a li lo l as r):Ow H (n+4) (.ref a) (rgT r) [li,lo,l]:=by
 refine dr [(.ref li,.lst (r.ins.map Tr.str),[li]),(.ref lo,.lst (r.outs.map Tr.str),[lo]),(.str r.z,.str r.z,[]),(.ref l,.lst (r.arcs.map arT),[l])] h.ha λq hq=>?_;simp only[Qg,Qm,QQ]at hq;rcases hq with rfl|rfl|rfl|rfl
 ·exact fg h.hi
 ·exact fg h.ho
 ·exact .str
 exact fh (α:=V) h.arcs.h h.arcs.p λx b h=>u3 h
theorem jT:∀(xs:A3),(xs.map λa=>[a]).flatten=xs
 | []=>rfl
 | x::xs=>by rw[Qu,List.flatten_cons,jT xs];rfl
theorem pd {H0:Hp} {r:Rg} {res:Res} (h:uD H0 H v r res):∃as,Ow H 5 v (tJ r res) as/\as.Nodup/\∀b∈as,H0 b=none:=by
 cases res with
 | odd way w =>
  obtain⟨a,l,rfl,e,hl,vs,el,p⟩:=h;refine⟨[l],dr [(.str "odd", .str "odd", []),(.ref l,.lst (way.map tuT),[l]),(.str w,.str w,[])] e λq hq=>?_,by simp,λb hb=>by rw[QB.mp hb];exact hl⟩;simp only[Qg,Qm,QQ]at hq;rcases hq with rfl|rfl|rfl
  ·exact .str
  ·exact fh (α:=V) el p λx b h=>pc h
  exact .str
 | many =>
  obtain⟨a,rfl,e⟩:=h;refine⟨[],dr [(.str "many", .str "many", [])] e λq hq=>?_,.nil,λb hb=>nomatch hb⟩;rw[QB.mp hq];exact .str
 | sheet nds =>
 obtain⟨a,s,li,lo,ln,nas,rfl,e,es,ei,eo,en,p,nd,new⟩:=h;refine⟨li::lo::ln::nas,?_,nd,new⟩;obtain⟨l,e1,e2,e3,hl⟩:=pf (n:=2) (H:=H) V.ref ndT (λa=>[a]) (λa b h=>u0 h) p;have o:=ph l (by rw[e1];exact en) hl;rw[e2,e3,jT]at o
 have o2:Ow H 4 (.ref s) (.tup [.lst (r.ins.map Tr.str),.lst (r.outs.map Tr.str),.str r.z,.lst (nds.map ndT)]) (li::lo::ln::nas):=by
  refine sK (dr (n:=3) [(.ref li,.lst (r.ins.map Tr.str),[li]),(.ref lo,.lst (r.outs.map Tr.str),[lo]),(.str r.z,.str r.z,[]),(.ref ln,.lst (nds.map ndT),ln::nas)] es λq hq=>?_) (by simp);simp only[Qg,Qm,QQ]at hq;rcases hq with rfl|rfl|rfl|rfl
  ·exact fg ei
  ·exact fg eo
  ·exact .str
  exact o
 refine sK (dr (n:=4) [(.str "sheet", .str "sheet", []),(.ref s,.tup [.lst (r.ins.map Tr.str),.lst (r.outs.map Tr.str),.str r.z,.lst (nds.map ndT)],li::lo::ln::nas)] e λq hq=>?_) (by simp);simp only[Qg,Qm,QQ]at hq;rcases hq with rfl|rfl
 ·exact .str
 exact o2
theorem Ow.tupP {ts:List Tr} (h:Ow H n v (.tup ts) as):∃(a:Addr) (xs:List V) (m:Nat),v=.ref a/\H a=some (.tup xs)/\Paired (λx t=>∃as,Ow H m x t as) xs ts:=by
 cases h with
 | @tup m a xs _ ass e l1 l2 hi =>
 refine⟨a,xs,m,rfl,e,?_⟩;clear e
 induction xs generalizing ts ass with
 | nil=>cases ts with
  | nil=>exact .nil
  | cons t ts=>cases l1
 | cons x xs ih=>cases ts with
  | nil=>cases l1
  | cons t ts=>cases ass with
   | nil=>cases l2
   | cons as ass=>exact .cons ⟨_,hi 0 x t as rfl rfl rfl⟩ (ih (Nat.succ.inj l1) (Nat.succ.inj l2) λj y u bs e1 e2 e3=>hi (j+1) y u bs e1 e2 e3)
theorem Ow.lstP {ts:List Tr} (h:Ow H n v (.lst ts) as):∃(a:Addr) (xs:List V) (m:Nat),v=.ref a/\H a=some (.lst xs)/\Paired (λx t=>∃as,Ow H m x t as) xs ts:=by
 cases h with
 | @lst m a xs _ ass e l1 l2 hi =>
 refine⟨a,xs,m,rfl,e,?_⟩;clear e
 induction xs generalizing ts ass with
 | nil=>cases ts with
  | nil=>exact .nil
  | cons t ts=>cases l1
 | cons x xs ih=>cases ts with
  | nil=>cases l1
  | cons t ts=>cases ass with
   | nil=>cases l2
   | cons as ass=>exact .cons ⟨_,hi 0 x t as rfl rfl rfl⟩ (ih (Nat.succ.inj l1) (Nat.succ.inj l2) λj y u bs e1 e2 e3=>hi (j+1) y u bs e1 e2 e3)
theorem oX {α β γ:Type} {F:α->γ->Prop} {g:β->γ}:∀{xs:List α} {ys:List β},Paired F xs (ys.map g)->Paired (λx y=>F x (g y)) xs ys
 | _,[],.nil=>.nil
 | _,_::_,.cons h t=>.cons h (oX t)
theorem gY {z:Str} (h:∃as,Ow H n v (.str z) as):v=.str z:=by
 obtain⟨as,h⟩:=h;cases h;rfl
theorem se {t:Tu} (h:∃as,Ow H n v (tuT t) as):TuA H v t:=by
 obtain⟨as,h⟩:=h;obtain⟨a,xs,m,rfl,e,p⟩:=h.tupP
 cases p with
 | cons h1 p=>cases p with
  | cons h2 p=>cases p with
   | nil =>
    rw[gY h1,gY h2]at e;exact⟨a,rfl,e⟩
theorem vH {r:Arc} (h:∃as,Ow H n v (arT r) as):ArA H v r:=by
 obtain⟨as,h⟩:=h;obtain⟨a,xs,m,rfl,e,p⟩:=h.tupP
 cases p with
 | cons h1 p=>cases p with
  | cons h2 p=>cases p with
   | cons h3 p=>cases p with
    | nil =>
     obtain⟨_,h3⟩:=h3;cases h3;exact⟨a,_,_,rfl,e,se h1,se h2⟩
theorem lq {zs:List Str} (h:∃as,Ow H n v (.lst (zs.map Tr.str)) as):∃a,v=.ref a/\H a=some (.lst (zs.map V.str)):=by
 obtain⟨as,h⟩:=h;obtain⟨a,xs,m,rfl,e,p⟩:=h.lstP;have p:=ae (λx z h=>gY h) (oX (F:=λx t=>∃as,Ow H m x t as) (g:=Tr.str) p);rw[cz p]at e;exact⟨a,rfl,e⟩
theorem uP {r:Rg} (h:Ow H n v (rgT r) as):∃a li lo l vs,v=.ref a/\RgA H a li lo l vs r:=by
 obtain⟨a,xs,m,rfl,e,p⟩:=h.tupP
 cases p with
 | cons h1 p=>cases p with
  | cons h2 p=>cases p with
   | cons h3 p=>cases p with
    | cons h4 p=>cases p with
     | nil =>
      obtain⟨li,rfl,ei⟩:=lq h1;obtain⟨lo,rfl,eo⟩:=lq h2;obtain⟨_,h4⟩:=h4;obtain⟨l,vs,m4,rfl,el,p4⟩:=h4.lstP;rw[gY h3]at e;exact⟨a,li,lo,l,vs,rfl,e,ei,eo,el,ae (λx z h=>vH h) (oX (F:=λx t=>∃as,Ow H m4 x t as) (g:=arT) p4)⟩
end
theorem cM {ts:List Tr} (l:ts.length<=1000) (h:∀t∈ts,few n t):few (n+1) (.tup ts):=⟨l,h⟩
theorem d8 {ts:List Tr} (l:ts.length<=1000) (h:∀t∈ts,few n t):few (n+1) (.lst ts):=⟨l,h⟩
theorem cy:few n (.str z):=by cases n <;> trivial
theorem mj {z:Int}:few n (.int z):=by cases n <;> trivial
theorem kS (t:Tu):few (n+1) (tuT t):=cM (by simp) λt h=>by
 simp only[Qg,Qm,QQ]at h;rcases h with rfl|rfl <;> exact cy
theorem d7 (l:zs.length<=1000):few (n+1) (.lst (zs.map Tr.str)):=d8 (by rw[Qc];exact l) λt h=>by
 obtain⟨z,_,rfl⟩:=Qo.mp h;exact cy
theorem uo (ok:RgOk r):few (n+4) (rgT r):=by
 have w5:=ok.w5;unfold Rg.ws at w5;rw[Qh]at w5;refine cM (by simp) λt h=>?_;simp only[Qg,Qm,QQ]at h;rcases h with rfl|rfl|rfl|rfl
 ·exact d7 (by omega)
 ·exact d7 (by omega)
 ·exact cy
 refine d8 (by rw[Qc];exact ok.few) λt h=>?_;obtain⟨a,_,rfl⟩:=Qo.mp h;refine cM (by simp) λt h=>?_;simp only[Qg,Qm,QQ]at h;rcases h with rfl|rfl|rfl
 ·exact kS _
 ·exact kS _
 exact mj
def Res.Few:Res->Prop
 | .odd way _=>way.length<=1000
 | .many=>True
 | .sheet nds=>nds.length<=1000/\∀nd∈nds,nd.length<=1000
def Sx.Few (x:Sx):Prop:=x.ws.length=x.ps.length/\x.ps.length<=40/\∀w∈x.ws,w.length<=x.ws.length
theorem eN {r:Rg} {row:Str} {way:List Tu}:∀(ss:List Sp1) (x:Sx) (nd:Nd),x.Few->way.length<=x.ws.length->nd.length+ss.length<=1000 ->
  match cv r row way ss x nd with
  | .inl res=>res.Few
  | .inr p=>p.1.Few/\p.2.length<=1000
 | [],x,nd,f,_,l=>⟨f,l⟩
 | s::ss,x,nd,f,hw,l=>by
  rw[xr]at l;have w40:x.ws.length<=40:=by rw[f.1];exact f.2.1
  unfold cv
  cases ix r row s with
  | some w=>exact(by show (way++[s.1]).length<=1000;rw[Qh,Qs];omega)
  | none =>
  dsimp only;by_cases c:s.2∈x.ps
  ·rw[Qw c];exact eN ss x _ f hw (by rw[Qh,Qs];omega)
  rw[Qq c];by_cases c2:x.ps.length=40
  ·rw[Qw c2];trivial
  rw[Qq c2];have l1:=f.2.1;refine eN ss _ _ ⟨?_,?_,λw hw'=>?_⟩ ?_ (by rw[Qh,Qs];omega)
  ·show (x.ws++[_]).length=(x.ps++[_]).length;rw[Qh,Qh,f.1];rfl
  ·show (x.ps++[_]).length<=40;rw[Qh,Qs];omega
  ·show w.length<=(x.ws++[_]).length;rw[Qh,Qs];rcases Qx.mp hw' with h|h
   ·have:=f.2.2 w h;omega
   rw[QB.mp h,Qh,Qs];omega
  show way.length<=(x.ws++[_]).length;rw[Qh];omega
theorem gv {r:Rg} {ts:List Tu} (ht:ts.length<=10):∀(f:Nat) (x:Sx) (nds:List Nd),x.Few->nds.length+f<=1000->(∀nd∈nds,nd.length<=1000)->(outer r ts f x nds).Few
 | 0,_,_,_,_,_=>trivial
 | f+1,x,nds,fx,l,h=>by
  unfold K2.outer;by_cases c:nds.length<x.ps.length
  ·rw[Qw c];have sl:(bh r ts (x.p nds.length)).length<=10:=by unfold bh;rw[Qc];exact QK (List.length_filter_le _ _) ht
   have wl:(x.wy nds.length).length<=x.ws.length:=fx.2.2 _ (Ql (Sx.w_mem (by rw[fx.1];exact c)));have z:=eN (r:=r) (row:=(x.p nds.length).2) (bh r ts (x.p nds.length)) x [] fx wl (by show 0+_<=1000;omega)
   cases e:cv r (x.p nds.length).2 (x.wy nds.length) (bh r ts (x.p nds.length)) x [] with
   | inl res=>rw[e]at z;exact z
   | inr p =>
   rw[e]at z;refine gv ht f p.1 (nds++[p.2]) z.1 (by rw[Qh,Qs];omega) λnd hnd=>?_;rcases Qx.mp hnd with h'|h'
   ·exact h nd h'
   rw[QB.mp h'];exact z.2
  rw[Qq c];exact⟨by omega,h⟩
theorem qJ {r:Rg} (ht:ts.length<=10):(unf r ts).Few:=gv ht 41 _ [] ⟨rfl,(by decide:1<=40),λw hw=>by rw[QB.mp hw];exact QT _⟩ (by decide) λnd h=>nomatch h
theorem rN (ok:RgOk r):∀{res:Res},res.Few->few 5 (tJ r res)
 | .odd way w,f=>cM (by simp) λt h=>by
  simp only[Qg,Qm,QQ]at h;rcases h with rfl|rfl|rfl
  ·exact cy
  ·refine d8 (by rw[Qc];exact f) λt h=>?_;obtain⟨a,_,rfl⟩:=Qo.mp h;exact kS _
  exact cy
 | .many,_=>cM (by simp) λt h=>by rw[QB.mp h];exact cy
 | .sheet nds,f=>cM (by simp) λt h=>by
  have w5:=ok.w5;unfold Rg.ws at w5;rw[Qh]at w5;simp only[Qg,Qm,QQ]at h;rcases h with rfl|rfl
  ·exact cy
  refine cM (by simp) λt h=>?_;simp only[Qg,Qm,QQ]at h;rcases h with rfl|rfl|rfl|rfl
  ·exact d7 (by omega)
  ·exact d7 (by omega)
  ·exact cy
  refine d8 (by rw[Qc];exact f.1) λt h=>?_;obtain⟨nd,hnd,rfl⟩:=Qo.mp h;refine d8 (by rw[Qc];exact f.2 nd hnd) λt h=>?_;obtain⟨p,_,rfl⟩:=Qo.mp h;refine cM (by simp) λt h=>?_;simp only[Qg,Qm,QQ]at h;rcases h with rfl|rfl
  ·exact cy
  exact mj
theorem gZ (h:SqL K H a xs) (k:∀o,H a=some o->H' a=some o):SqL K H' a xs:=by
 rcases h with h|h
 ·left
  rcases h with e|⟨o,e⟩
  ·exact .inl (k _ e)
  exact .inr ⟨o,k _ e⟩
 exact .inr h
theorem jt {c:Addr} (S:ak H H1) (fr:∀b o,H1 b=some o->b∉as->b≠c->H2 b=some o) (na:∀b∈as,H b=none) (nc:H c=none):ak H H2:=λb o e=>fr b o (S b o e) (λz=>by rw[na b z]at e;cases e) (λz=>by rw[z,nc]at e;cases e)
def lA (K:PySem.W.Frag):Sp:=λvs H Q _=>∃(a:Addr) (ns:List Int),vs=[.ref a]/\SqL K H a (ns.map V.int)/\ns.length<=63/\∀H',Q (.bl true) H'
section
theorem tG:FnScope ["script", "k", "pool", "ring", "due", "handed", "again", "found", "marked"] ["script"] (az (top 27)):=by fin2
theorem pG {f:Addr} {fd:FuncData} (Fu:Fun K "law" "law" (top 27) f fd) (T:Txt K mg TT) (f_law_pool:Fn P w K mg base "_law_pool" ["script", "k"] 1 (oB K)) (f_law_ring:Fn P w K mg base "_law_ring" ["pool"] 3 oA) (f_law_unfolded:Fn P w K mg base "_law_unfolded" ["ring"] 2 oD) (f_law_copy:Fn P w K mg base "_law_copy" ["thing"] 6 (hV 6)) (f_law_same:Fn P w K mg base "_law_same" ["one", "other"] 6 (g_ 6)) (f_law_marked:Fn P w K mg base "_law_marked" ["thing", "marks"] 6 (hU 6)) (f_unfolded:Fn P w K mg base "unfolded" ["ring_sheet"] 5 sx):FnOk P w K mg base CX0 7 f fd ["script"] (lA K):=by
 have S:=tG;refine Fu.ok S (by room) (λcdv A outer s H vs Q E hr h=>?_);obtain⟨sc,cells,rfl,hS,hlen,k⟩:=h;refine'⟨?_,?bb,?_⟩
 case bb =>
  walk_at "b";walk_at "f";exact(cT (by rfl) T.n_range (aa (aw (nW rfl) (by rfl) T.n_max PyProof.Rows.boot_max (aa ad (aa (aw (gK rfl) (by rfl) T.n_min PyProof.Rows.boot_min (aa ad (aa (aw aB (by rfl) T.n_len QZ (aa (pv 0) ab ac)) ab se_call) aD)) ab se_call) aD)) ab se_call));exact(bz 1 S.nd);walk_at "p";exact aH 2 S.nd (aN f_law_pool hr (aa (pv 0) (aa (pv 1) ab ac) ac));exact aH 3 S.nd (aN f_law_ring hr (aa (pv 2) ab ac));exact aH 4 S.nd (aN f_law_unfolded hr (aa (pv 3) ab ac));exact aH 5 S.nd (aN f_law_copy hr (aa (pv 3) ab ac));walk_at "f";exact(cT (by rfl) T.n_range (aa ad ab aD));exact(bz 6 S.nd);walk_at "p";exact aH 7 S.nd (aN f_unfolded hr (aa (pv 5) ab ac));exact(PW.pt (lJ (fJ (cr (aN f_law_same hr (aa (pv 7) (aa (pv 4) ab ac) ac)))) (ik (fJ (cr (aN f_law_same hr (aa (pv 5) (aa (pv 3) ab ac) ac)))))));exact(aR lM);exact aH 8 S.nd (aN f_law_copy hr (aa (pv 4) ab ac));exact(bj (aN f_law_marked hr (aa (pv 8) (aa (a_ (aa ad ab aD)) ab se_lst) ac)));exact(bj (aN f_law_marked hr (aa (pv 7) (aa (a_ (aa ad ab aD)) ab se_lst) ac)));exact(PW.pt (lJ (fJ (cr (aN f_law_same hr (aa (pv 7) (aa (pv 8) ab ac) ac)))) (ik (fJ (cr (aN f_law_same hr (aa (pv 5) (aa (pv 3) ab ac) ac)))))));exact(aR lM);exact(aR lM)
 x_go;lk;refine⟨_,_,rfl,Or.inl hS,?_⟩;lk;refine⟨_,_,rfl,?_⟩;lk;refine⟨_,_,rfl,?_⟩;rw[Qc]
 obtain⟨N,hN,N6⟩:∃N:Nat,(if (if (cells.length:Int)<6 then (cells.length:Int) else 6)>1 then (if (cells.length:Int)<6 then (cells.length:Int) else 6) else 1)=(N:Int)/\N<=6:=by
  by_cases h2:(cells.length:Int)<6
  ·rw[Qw h2];by_cases h1:(cells.length:Int)>1
   ·rw[Qw h1];exact⟨cells.length,rfl,by omega⟩
   rw[Qq h1];exact⟨1,rfl,by omega⟩
  rw[Qq h2,Qw (by decide)];exact⟨6,rfl,by omega⟩
 rw[hN];lk;refine⟨by omega,by omega,?_⟩;rw[QX];let I22:IvF:=λi U H'=>(∃x1 x2 x3 x4 x5 x6 x7 x8,U=[some (.ref sc),x1,x2,x3,x4,x5,x6,x7,x8])/\SqL K H' sc (cells.map V.int);refine dD (n:=N) I22 ⟨⟨_,_,_,_,_,_,_,_,rfl⟩,hS⟩ (λi U H0 hi pv=>?_) (λU H' pv=>?_)
 ·clear hS;obtain⟨⟨x1,x2,x3,x4,x5,x6,x7,x8,rfl⟩,hS⟩:=pv;refine ay ?_;lk;refine⟨sc,cells,i,by rw[Int.zero_add],hS,by omega,λD H1 dn S1 D0 DA1=>?_⟩;lk;refine⟨D,rfl,DA1,by omega,λa li lo l as r H2 k2 _ at2 ok full=>?_⟩;have hS2:SqL K H2 sc (cells.map V.int):=gZ hS λo e=>k2.old _ _ (S1 _ _ e) (λz=>aA e D0 z);clear k2 S1 hS DA1;lk;refine⟨a,li,lo,l,as,r,rfl,at2,ok,full,λvd ts H3 S3 wt rd=>?_⟩;obtain⟨das,od,dnd,dnew⟩:=pd rd;have at3:=at2.same S3;have fr:=qJ (r:=r) (Wt.few ok wt);have fres:=rN ok fr;lk;refine⟨4,.ref a,rgT r,_,rfl,by decide,uo ok,sI (n:=0) at3,λu H4 has S4 ou hnd hnew=>?_⟩;obtain⟨ah,lih,loh,lh,ash,rfl,ath⟩:=uP ou;have or4:=sI (n:=0) (at3.same S4);have od4:=od.same S4;have hS4:SqL K H4 sc (cells.map V.int):=gZ hS2 λo e=>S4 _ _ (S3 _ _ e);clear hS2 at3 od rd at2 S3 S4 dnew;lk;refine⟨by omega,by omega,?_⟩;rw[show ((2:Int)).toNat=2 from rfl];let I23:IvF:=λj U H'=>(∃x6 x7 x8,U=[some (.ref sc),some (.int (0+(i:Int))),some (.ref D.d),some (.ref a),some vd,some (.ref ah),x6,x7,x8])/\ak H4 H';refine dD (n:=2) I23 ⟨⟨_,_,_,rfl⟩,ak.refl _⟩ (λj U H' hj pv=>?_) (λU H' pv=>?_)
  ·obtain⟨⟨x6,x7,x8,rfl⟩,Sj⟩:=pv;refine ay ?_;lk;refine⟨ah,lih,loh,lh,ash,r,rfl,ath.same Sj,ok,λvf ts' H5 S5 wt' rf=>?_⟩;obtain rfl:ts'=ts:=wt'.one wt λ_=>Iff.rfl;obtain⟨fas,of,fnd,fnew⟩:=pd rf;have S45:=Sj.trans S5;have fnew4:∀b∈fas,H4 b=none:=λb hb=>aP Sj (fnew b hb);lk;refine⟨5,_,_,_,_,_,rfl,by decide,of,od4.same S45,λH6 S6=>⟨_,rfl,iteF ?_⟩⟩;have S46:=S45.trans S6;lk;refine⟨4,_,_,_,_,_,rfl,by decide,ou.same S46,or4.same S46,λH7 S7=>⟨_,rfl,iteF ?_⟩⟩;have S47:=S46.trans S7;lk;refine⟨5,_,_,_,rfl,by decide,fres,od4.same S47,λum H8 mas S8 om mnd mnew=>?_⟩;have S48:=S47.trans S8;have of8:=((of.same S6).same S7).same S8;have mnew4:∀b∈mas,H4 b=none:=λb hb=>aP S47 (mnew b hb)
   have apart:∀b∈fas,b∉mas:=λb hb z=>by
    obtain⟨xs,e⟩:=((of.same S6).same S7).at b hb;rw[mnew b z]at e;cases e
   lk;refine⟨by simp[sizeLine],λc1 hc1=>?_⟩;generalize hE:upd H8 c1 _=H9;obtain⟨S9,q9⟩:=aj hc1 hE;have c1m:c1∉mas:=λz=>by obtain⟨xs,e⟩:=om.at _ z;rw[hc1]at e;cases e
   have c1f:c1∉fas:=λz=>by obtain⟨xs,e⟩:=of8.at _ z;rw[hc1]at e;cases e
   have c14:=aP S48 hc1;refine aW ⟨5,um,_,mas,c1,0,rfl,by decide,fres,om.same S9,mnd,c1m,q9,λHa fra oa ca=>?_⟩;have Sa:ak H4 Ha:=jt (S48.trans S9) fra mnew4 c14;have kta:aO H9 Ha:=λb ys e=>fra b _ e (λz=>by obtain⟨xs,e'⟩:=(om.same S9).at _ z;rw[e]at e';cases e') (λz=>by rw[z,q9]at e;cases e);have ofa:Ow Ha 5 vf (tJ r (unf r ts')) fas:=(of8.same S9).keep kta λb hb xs e=>fra b _ e (apart b hb) (eV hb c1f);lk;refine⟨by simp[sizeLine],λc2 hc2=>?_⟩;generalize hE:upd Ha c2 _=Hb;obtain⟨Sb,qb⟩:=aj hc2 hE;have c2f:c2∉fas:=λz=>by obtain⟨xs,e⟩:=ofa.at _ z;rw[hc2]at e;cases e
   have c2m:c2∉mas:=λz=>by obtain⟨xs,e⟩:=oa.at _ z;rw[hc2]at e;cases e
   have c24:=aP Sa hc2;refine aW ⟨5,vf,_,fas,c2,0,rfl,by decide,fres,ofa.same Sb,fnd,c2f,qb,λHc frc oc cc=>?_⟩;have Sc:ak H4 Hc:=jt (Sa.trans Sb) frc fnew4 c24;have ktc:aO Hb Hc:=λb ys e=>frc b _ e (λz=>by obtain⟨xs,e'⟩:=(ofa.same Sb).at _ z;rw[e]at e';cases e') (λz=>by rw[z,qb]at e;cases e);have omc:=(oa.same Sb).keep ktc λb hb xs e=>frc b _ e (λz=>apart b z hb) (eV hb c2m);lk;refine⟨5,_,_,_,_,_,rfl,by decide,oc,omc,λHd Sd=>⟨_,rfl,iteF ?_⟩⟩;lk;refine⟨4,_,_,_,_,_,rfl,by decide,(ou.same Sc).same Sd,(or4.same Sc).same Sd,λHe Se=>⟨_,rfl,iteF ?_⟩⟩;lk;exact⟨⟨_,_,_,rfl⟩,(Sc.trans Sd).trans Se⟩
  obtain⟨⟨x6,x7,x8,rfl⟩,Sj⟩:=pv;exact⟨⟨_,_,_,_,_,_,_,_,rfl⟩,gZ hS4 λo e=>Sj _ _ e⟩
 obtain⟨⟨x1,x2,x3,x4,x5,x6,x7,x8,rfl⟩,_⟩:=pv;lk;exact k H'
end
end K2
namespace K2
open PySem L2 PySem.Spec PyProof.Rows
theorem sM {A:Type} {us:List A} (h:us.length=1):∃a0,us=[a0]:=by
 match us,h with
 | [a0],_=>exact⟨_,rfl⟩
theorem vg {A:Type} {us:List A} (h:us.length=2):∃a0 a1,us=[a0,a1]:=by
 match us,h with
 | [a0,a1],_=>exact⟨_,_,rfl⟩
theorem ve {A:Type} {us:List A} (h:us.length=3):∃a0 a1 a2,us=[a0,a1,a2]:=by
 match us,h with
 | [a0,a1,a2],_=>exact⟨_,_,_,rfl⟩
structure FX (K:PySem.W.Frag) (n:Str) (i:Nat) (f:Addr) (cd:Value):Prop where
 a:PySem.W.nsIn K mainGlobals n=some (some (.ref f))
 l:∃oc od kV dc pm an ct sl,K.lookup f=some ⟨oc,od,.func (PySem.W.fnOf n n (b9 (top i)) (bJ (top i)) (az (top i)) .none kV dc pm an cd ct),sl⟩
 c:PySem.W.codeIn K cd n=true
 k:PySem.W.keepIn K (.ref f)=true
variable {mg:A2} {K:PySem.W.Frag}
theorem FX.fn {n:Str} {i:Nat} {f:Addr} {cd:Value} {h:Heap} (X:K.In h) (G:h.Ns mainGlobals mg) (x:FX K n i f cd):∃fd,Fun K n n (top i) f fd/\mg n=some (.ref f):=by
 obtain⟨a,⟨_,_,_,_,_,_,_,_,l⟩,c,k⟩:=x;exact⟨_,qe (st:=top i) l c k,PySem.W.mg_of X G a⟩
abbrev ZN (K:PySem.W.Frag) (n:Str):Prop:=PySem.W.nsIn K mainGlobals n=some none
theorem bn1 {p:List Value->Prop} (h:∀a0,p [a0]) (us:List Value) (hl:us.length=1):p us:=by
 obtain⟨a0,e⟩:=sM hl;subst e;exact h a0
theorem bn2 {p:List Value->Prop} (h:∀a0 a1,p [a0,a1]) (us:List Value) (hl:us.length=2):p us:=by
 obtain⟨a0,a1,e⟩:=vg hl;subst e;exact h a0 a1
theorem bn3 {p:List Value->Prop} (h:∀a0 a1 a2,p [a0,a1,a2]) (us:List Value) (hl:us.length=3):p us:=by
 obtain⟨a0,a1,a2,e⟩:=ve hl;subst e;exact h a0 a1 a2
theorem FX.go (P:Program) (w:World) (base:Heap) {n:Str} {i k:Nat} {f:Addr} {cd:Value} {h:Heap} {ps:List Str} {sp:Sp} (X:K.In h) (G:h.Ns mainGlobals mg) (x:FX K n i f cd) (o:∀fd,Fun K n n (top i) f fd->mg n=some (.ref f)->dJ K fd ps []->FnOk P w K mg base CX0 k f fd ps sp)
  (hb:∀(kV doc pm:Value) (an:Option Addr) (cdv ct:Value) (us:List Value),us.length=ps.length->bindArgs (PySem.W.fnOf n n (b9 (top i)) (bJ (top i)) (az (top i)) .none kV doc pm an cdv ct) ⟨us,[]⟩=pure (ps.zip us):=by intro _ _ _ _ _ _;first|exact bn1 λ_=>rfl|exact bn2 λ_ _=>rfl|exact bn3 λ_ _ _=>rfl):Fn P w K mg base n ps k sp:=by
 obtain⟨fd,F,m⟩:=x.fn X G;have b:=F.binds hb;exact⟨f,fd,o fd F m b,m,x.k,b⟩
theorem uA {l:PySem.W.OpenLaw} {w:World} {h:Heap} {fa:Addr} (X:K.In h) (G:h.Ns mainGlobals mg) (hfa:mg "law" = some (.ref fa))
  (aT:PySem.W.nsIn K mainGlobals "TURNED" = some (some (.ref 15))) (tab:gq K 15 [("0", .flat (.str "1")),("1", .flat (.str "0"))])
  (aS:PySem.W.nsIn K mainGlobals "SIGNS_AHEAD" = some (some (.ref 30))) (tabS:gq K 30 [("+", .flat (.str "0")),("-", .flat (.str "1"))])
  (cn0:PySem.W.nsIn K mainGlobals "MOST_NODES" = some (some (.int 40 206)))
  (x0:FX K "turned_at" 2 22 (.ref 21)) (x1:FX K "row_behind" 5 29 (.ref 28)) (x2:FX K "waiting_turns" 8 35 (.ref 34)) (x3:FX K "first_marks" 9 40 (.ref 39)) (x4:FX K "may_come" 10 45 (.ref 44)) (x5:FX K "mark_behind" 11 52 (.ref 51)) (x6:FX K "marks_behind" 12 57 (.ref 56)) (x7:FX K "steps_at" 13 64 (.ref 63)) (x8:FX K "odd_word" 14 71 (.ref 70)) (x9:FX K "unfolded" 15 78 (.ref 77)) (x10:FX K "_law_pool" 17 85 (.ref 84)) (x11:FX K "_law_take" 18 92 (.ref 91)) (x12:FX K "_law_names" 19 97 (.ref 96)) (x13:FX K "_law_order" 20 104 (.ref 103)) (x14:FX K "_law_arcs" 21 109 (.ref 108)) (x15:FX K "_law_ring" 22 114 (.ref 113)) (x16:FX K "_law_unfolded" 23 119 (.ref 118)) (x17:FX K "_law_copy" 24 124 (.ref 123)) (x18:FX K "_law_same" 25 129 (.ref 128)) (x19:FX K "_law_marked" 26 136 (.ref 135)) (x20:FX K "law" 27 143 (.ref 142))
  (z0:ZN K "len") (z1:ZN K "range") (z2:ZN K "max") (z3:ZN K "min") (z4:ZN K "int") (z5:ZN K "list") (z6:ZN K "str") (z7:ZN K "isinstance") (z8:ZN K "all") (z9:ZN K "set") (z10:ZN K "dict") (z11:ZN K "enumerate") (z12:ZN K "sorted") (z13:ZN K "tuple") (z14:ZN K "bool") (z15:ZN K "zip") (z16:ZN K "reversed")
  : ∃fd:FuncData,(∀(s:Shared) (v:Value),BindsTo s fd ⟨[v],[]⟩ [("script", v)])/\∀base:Heap,K.In base->base.Ns mainGlobals mg->L2.eY base mg->FnOk l.prog w K mg base CX0 7 fa fd ["script"] (lA K ):=by
 have e:=hfa.symm.trans (PySem.W.mg_of X G x20.a);cases e;have T:Txt K mg 15:=⟨QW X G z0,QW X G z1,QW X G z2,QW X G z3,QW X G z4,QW X G z5,QW X G z6,QW X G z7,QW X G z8,QW X G z9,QW X G z10,QW X G z11,QW X G z12,QW X G z13,QW X G z14,QW X G z15,QW X G z16,⟨_,PySem.W.mg_of X G cn0⟩,⟨_,PySem.W.mg_of X G aS,tabS⟩,PySem.W.mg_of X G aT,tab⟩;obtain⟨a20,⟨_,_,kV,dc,pm,an,ct,_,l20⟩,c20,k20⟩:=x20;have m20:=PySem.W.mg_of X G a20;have F20:=qe (st:=top 27) l20 c20 k20;have b20:=F20.binds (ps:=["script"]) λ_ _ _ _ _ _ us hl=>by obtain⟨_,rfl⟩:=sM hl;rfl
 refine⟨PySem.W.fnOf "law" "law" (b9 (top 27)) (bJ (top 27)) (az (top 27)) .none kV dc pm an (.ref 142) ct,λs v=>.of_eq rfl,λbase KB _ BM=>?_⟩;have g10:=x10.go l.prog w base X G λ_ F _ _=>re F T;have g11:=x11.go l.prog w base X G λ_ F _ _=>rb F T;have g12:=x12.go l.prog w base X G λ_ F _ _=>mZ F T g11;have g13:=x13.go l.prog w base X G λ_ F _ _=>pE F T g11;have g14:=x14.go l.prog w base X G λ_ F _ _=>rj F T g11;have g15:=x15.go l.prog w base X G λ_ F _ _=>rc F T g11 g12 g13 g14;have g16:=x16.go l.prog w base X G λ_ F _ _=>rh F T;have g17:=x17.go l.prog w base X G λ_ F m b=>jA F T m x17.k b 6;have g18:=x18.go l.prog w base X G λ_ F m b=>jy F T m x18.k b 6;have g19:=x19.go l.prog w base X G λ_ F m b=>jz F T m x19.k b 6;have g3:=x3.go l.prog w base X G λ_ F _ _=>pH F T;have g2:=x2.go l.prog w base X G λ_ F _ _=>ra F T;have g4:=x4.go l.prog w base X G λ_ F _ _=>tZ F T;have g5:=x5.go l.prog w base X G λ_ F _ _=>rg F T;have g6:=x6.go l.prog w base X G λ_ F _ _=>pF F T g5;have g0:=x0.go l.prog w base X G λ_ F _ _=>mY F T;have g1:=x1.go l.prog w base X G λ_ F _ _=>m5 F T g0;have g7:=x7.go l.prog w base X G λ_ F _ _=>pD F T g2 g4 g6 g1;have g8:=x8.go l.prog w base X G λ_ F _ _=>tY F T;have g9:=x9.go l.prog w base X G λ_ F _ _=>tX F T g3 g7 g8;exact pG F20 T g10 g15 g16 g17 g18 g19 g9
theorem vP {l:PySem.W.OpenLaw} {q:Program} {loose:List Str} {XP:A2->Heap->Prop} {d:DefRec} {K:Params->PySem.W.Frag} {as:A3} {e:∀P,as=(K P).map (·.1)} (hn:l.most=some 63) (hdf:d.params.defaults=[]) (ok:∀w:World,d0 (K w.params) []=true)
  (F:∀(w:World) (mg:A2) (fa:Addr) (h:Heap),(K w.params).In h->h.Ns mainGlobals mg->mg d.name=some (.ref fa) ->
   ∃fd:FuncData,(∀(s:Shared) (u:Value),BindsTo s fd ⟨[u],[]⟩ [("script", u)])/\∀base:Heap,(K w.params).In base->base.Ns mainGlobals mg->L2.eY base mg->FnOk l.prog w (K w.params) mg base CX0 7 fa fd ["script"] (lA (K w.params) )) :
  PySem.W.WalkO q loose XP (PySem.W.kmHook K as e []).says l.row.toRowW d [] (λf vs=>PySem.call f vs) :=
 L2.n9 (n:=63) (k:=7) (x := "script") (CX:=λ_=>CX0) (sp:=λw=>lA (K w.params) ) hn (by decide) hdf ⟨rfl,by decide,by decide⟩ ok F (λ_ _ a ns hl hT hS=>⟨a,ns,rfl,hS,hl,λ_=>rfl⟩) λ_ _ _ _ _ z=>z
end K2
open PySem PySem.W PyProof.Rows
set_option maxRecDepth 100000 in
set_option maxHeartbeats 0 in
theorem PySem.Challenge.cw_anydelay_k51_unfolded_holds : PySem.Challenge.rw_anydelay_k51_unfolded.Holds := by
 w_on;refine holds_law K2.sd λsaid=>?_
 refine holds_open (q:=K2.vw) (loose:=[("TURNED" : Str),("SIGNS_AHEAD" : Str)]) (Xt:=λs=>xlAt K2.vw [] s&&recOk (RowW.records PySem.Challenge.rw_anydelay_k51_unfolded.row.toRowW) s) (XP:=XL K2.vw []) (Yf:=Hook.obs K2.hk) (Ya:=Hook.val K2.hk) (YP:=Hook.says K2.hk) (N:=1614) K2.left (Hook.of K2.hk) (Hook.keeps K2.hk) (λs e=>xl_of s (Bool.and_eq_true_iff.mp e).1) XL.keeps (by rfl) (by rfl) (by rfl) (λs e=>recFacts_of (Bool.and_eq_true_iff.mp e).2) (by rfl) (by first|assumption|decide +kernel) (by decide +kernel) ⟨rfl,rfl,rfl,rfl,rfl,by decide +kernel⟩ ?hw ?hc
 (case hw=>w_witness2)
 refine K2.vP (l:=PySem.Challenge.rw_anydelay_k51_unfolded) (K:=K2.KF) (as:=[3,15,21,22,28,29,30,34,35,39,40,44,45,51,52,56,57,63,64,70,71,77,78,84,85,91,92,96,97,103,104,108,109,113,114,118,119,123,124,128,129,135,136,142,143]) (e:=λ_=>rfl) rfl rfl (λw=>by kernel_rfl) ?F
 case F =>
  intro w mg fa h KX G hmg;refine' K2.uA KX G hmg ?_ ?_ ?_ ?_ ?_ ?_ ?_ ?_ ?_ ?_ ?_ ?_ ?_ ?_ ?_ ?_ ?_ ?_ ?_ ?_ ?_ ?_ ?_ ?_ ?_ ?_ ?_ ?_ ?_ ?_ ?_ ?_ ?_ ?_ ?_ ?_ ?_ ?_ ?_ ?_ ?_ ?_ ?_
  all_goals first|exact⟨by kernel_rfl,⟨_,_,_,_,_,_,_,_,rfl⟩,by kernel_rfl,by kernel_rfl⟩|kernel_rfl|rfl|decide|decide +kernel
