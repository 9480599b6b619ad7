import PyProof.Rows.All
import Wide.All
import OpenK.AllK
import Wide.FinOn
import Lean
import PyProof.EqAt
import PyProof.EqKinds
import PyProof.TupleCall
import PyProof.NeKinds
import KE.KTabLook
import KE.KIntText
import KE.KUnpack
import PyProof.StrBlock2
import KE.KLam
import KE.KDictLaws
import PyProof.DictWalks
import PyProof.Rows.StrInSeq3
import PyProof.FactsAll.list_1
import PyProof.CompUse
import PyProof.ZipIter
import PyProof.Draws
import PyProof.AttrMissHeap
import PyProof.DictUpdate
import PyProof.ListNew
import PyProof.FactsAll.dict_1
import PyProof.Rows.DictSet
import PyProof.Rows.SeqIn
import PyProof.ListRange
import PyProof.ForAppend
import PyProof.TupleIter
import KE.KRevSl
import PyProof.Rows.StrNews
import PyProof.StrLawsTight
import PyProof.PureStr
import PyProof.FitsStr
import KE.KEqDict
import PyProof.Rows.SortShellK
import PyProof.Rows.SortKeyStr
import KE.KDictSum
import KE.KItemsList
import PyProof.Rows.SortStr
import KE.KSortTup
import PySem.Challenge.RW_anydelay_k57_first_unsteady
noncomputable section
set_option linter.all false
set_option maxRecDepth 100000
set_option Elab.async false
section
variable {a b c d e f g h i j k l m n x r lo:Nat}
local macro_rules | `(tactic| walk_at "so") => `(tactic| (intros; first | solve_by_elim (maxDepth := 3) [Nat.le_of_lt, Nat.lt_of_lt_of_le, Nat.lt_of_le_of_lt, Nat.le_trans, Nat.lt_of_not_ge, Nat.lt_of_not_le, Nat.le_of_not_lt, Nat.ge_of_not_lt, Nat.le_add_right, Nat.le_add_left, Nat.sub_le, Nat.lt_succ_self, Nat.le_succ, Nat.add_le_add_left, Nat.add_le_add_right, Nat.add_lt_add_left, Nat.add_lt_add_right, Nat.succ_le_of_lt, Nat.lt_of_succ_le, Nat.le_of_eq, Nat.le_antisymm, Nat.lt_of_le_of_ne, Nat.le_refl, Nat.zero_le, Nat.sub_lt, Nat.succ_le_succ, Nat.lt_succ_of_le, Nat.le_of_lt_succ, Eq.symm, Eq.trans] | (subst_vars; solve_by_elim (maxDepth := 3) [Nat.le_of_lt, Nat.lt_of_lt_of_le, Nat.lt_of_le_of_lt, Nat.le_trans, Nat.lt_of_not_ge, Nat.lt_of_not_le, Nat.le_of_not_lt, Nat.ge_of_not_lt, Nat.le_add_right, Nat.le_add_left, Nat.sub_le, Nat.lt_succ_self, Nat.le_succ, Nat.add_le_add_left, Nat.add_le_add_right, Nat.add_lt_add_left, Nat.add_lt_add_right, Nat.succ_le_of_lt, Nat.lt_of_succ_le, Nat.le_of_eq, Nat.le_antisymm, Nat.lt_of_le_of_ne, Nat.le_refl, Nat.zero_le, Nat.sub_lt, Nat.succ_le_succ, Nat.lt_succ_of_le, Nat.le_of_lt_succ, Eq.symm, Eq.trans])))
theorem om0:a<=b->¬a < b->a=b:=by grind
theorem om1:a - b<=a - b:=by simp_all
theorem om2:¬b < a->a<=b:=by walk_at "so"
theorem om3:c=b->b=d->a < c->a < b:=by walk_at "so"
theorem om4:c<=b->c=a->a<=b:=by walk_at "so"
theorem om5:a + 1 ≠ a:=by simp_all
theorem om6:b < a->a - (b + 1) < a - b:=by omega
theorem om7:c=d->c=a->d=b->a=b:=by walk_at "so"
theorem om8:a + (c + 1) < b->a < b:=by grind
theorem om9:b=c->b=d->c=e->a < d->a < b:=by intros; simp_all
theorem om10:c=b->c=d->b=e->a < d->a < b:=by intros; simp_all
theorem om11:a + (b + 1) < c->a + 1 + b < c:=by omega
theorem om12:b=c->a < c->a < b:=by walk_at "so"
theorem om13:a < c->b=c->a < b:=by walk_at "so"
theorem om14:c=a->d=b->c=d->a=b:=by walk_at "so"
theorem om15:a + 64 < b->a < b:=by grind
theorem om16:a + 64 < b->a + 1 + 8 < b:=by grind
theorem om17:c=b->a < c->a < b:=by walk_at "so"
theorem om18:b<=100000->a=b->a<=16777216:=by grind
theorem om19:b<=a->a<=c->a - b<=c - 0:=by grind
theorem om20:a < b->a + (b - a) / 2 + 1<=b:=by grind
theorem om21:a < b + (c - b) / 2 + 1->a<=b + (c - b) / 2:=by walk_at "so"
theorem om22:b<=c->a < b->a + (b - a) / 2 < c:=by grind
theorem om23:a<=a + (b - a) / 2:=by walk_at "so"
theorem om24:b<=c->a < b->a + (b - a) / 2<=c:=by omega
theorem om25:a<=b->b - a<=c - max 0 c->a=b:=by grind
theorem om26:a < b->a + 0 < b:=by walk_at "so"
theorem om27:a < c->¬b>=c - a->a + b < c:=by grind
theorem om28:a < 2 * a + 1:=by grind
theorem om29:a < d->b < c->a + b < d->a + b + 1<=a + min c (d - a):=by grind
theorem om30:a < c->a + min b (c - a)<=c:=by grind
theorem om31:a < b + c + 1->a<=b + c:=by walk_at "so"
theorem om32:a < d->a + min b (d - a)<=c->b < d - a->a + b<=c:=by grind
theorem om33:a<=b->a>=b->a=b:=by grind
theorem om34:b<=c->¬a>=b->a + (b - a) / 2 < c:=by grind
theorem om35:¬a>=b->a < b:=by walk_at "so"
theorem om36:0<=a:=by walk_at "so"
theorem om37:a < c->d < b->¬b>=a + 1->a - b < c:=by grind
theorem om38:¬a>=b + 1->a<=b:=by walk_at "so"
theorem om39:c < b->c<=a->a + 1 - min b (a + 1)<=a - c:=by omega
theorem om40:a < c->b<=a->a - b<=c:=by grind
theorem om41:a < b + 1 - min c (b + 1)->c < b + 1->a<=b - c:=by grind
theorem om42:a < c->d < b->b < a + 1->a - b < c:=by grind
theorem om43:a + 1=b->a < b:=by walk_at "so"
theorem om44:a + b + 1=a + (b + 1):=by walk_at "so"
theorem om45:a<=b->a + 1<=b + 1:=by walk_at "so"
theorem om46:a + b + 1=a + 1 + b:=by grind
theorem om47:a < min b c->a < min b c:=by walk_at "so"
theorem om48:a < min b c->a < b:=by grind
theorem om49:a + b<=c->min (a + b) c - a=b:=by intros; simp_all
theorem om50:a + b + c=a + c + b:=by grind
theorem om51:c=d->a<=b->a<=b + c:=by grind
theorem om52:a + b + c=a + (b + c):=by grind
theorem om53:a<=b->¬a=b->a < b:=by grind
theorem om54:a + d<=c->b < d->a + b < c:=by grind
theorem om55:a + d<=c->b<=e->e < d->a + b < c:=by grind
theorem om56:a<=a + b:=by walk_at "so"
theorem om57:b<=c->a + b<=a + c:=by walk_at "so"
theorem om58:b < c->a + b < a + c:=by walk_at "so"
theorem om59:1<=a->0 < a:=by walk_at "so"
theorem om60:1<=a->0<=a:=by walk_at "so"
theorem om61:1<=a->¬0 + 1=a->0 + 1 < a:=by grind
theorem om62:1<=b->1<=a->¬1=a->¬0 + 1=b->1 < a:=by grind
theorem om63:a + 1 < b->a < b:=by walk_at "so"
theorem om64:a < b->¬a + 1=b->a + 1 < b:=by omega
theorem om65:a + 1 + (b + 1)<=a + 1 + b + 1:=by walk_at "so"
theorem om66:a + 1 < b->¬a + 1 + 1=b->a + 1 + 1 < b:=by omega
theorem om67:a + 1 < b->a + (b - a)<=b:=by grind
theorem om68:b + 1 < a->0 < a - b:=by grind
theorem om69:a < b->a + 1 + (b - (a + 1))<=b:=by omega
theorem om70:b < a->¬b + 1=a->0 < a - (b + 1):=by omega
theorem om71:a + 1 + (b + 1)<=a + 1 + b + 1 + 1:=by walk_at "so"
theorem om72:a < c->b<=c - (a + 1)->a + 1 + b<=c:=by grind
theorem om73:¬a > 0->a=0:=by simp
theorem om74:b < a->¬b + 1=a->0<=a - (b + 1)->0 < a - (b + 1):=by grind
theorem om75:a + 1 < c->b<=c - a->a + b<=c:=by grind
theorem om76:b + 1 < a->0<=a - b->0 < a - b:=by omega
theorem om77:1<=a->a=a - 1 + 1:=by intros; simp_all
theorem om78:1<=a->a<=b->a - 1<=b:=by grind
theorem om79:1<=b->a + b + c=d + e->a + 1 + (b - 1) + c=d + e:=by grind
theorem om80:1<=c->a + b + c=d + e->a + 1 + b + (c - 1)=d + e:=by grind
theorem om81:a < min b c - d->a < min b c - d:=by intros; simp_all
theorem om82:b < min c d - a->a + b < c:=by omega
theorem om83:c<=a->a<=b->min a b - c=a - c:=by intros; simp_all
theorem om84:a<=c->c<=b->a<=b:=by grind
theorem om85:c=d - e->a<=b->a<=b + c:=by grind
theorem om86:1<=a->a - 1 < a:=by grind
theorem om87:1<=b->1<=c->¬a=0->¬c=1->1<=a:=by grind
theorem om88:1<=a->a<=b->a - 1 < b:=by omega
theorem om89:2<=a->a<=b->a - 1 < b:=by grind
theorem om90:2<=a->1<=a:=by walk_at "so"
theorem om91:1<=a->¬a - 1=0->1<=a - 1:=by omega
theorem om92:2<=a->¬a - 1=1->2<=a - 1:=by grind
theorem om93:a<=b->0 + a<=b:=by grind
theorem om94:2<=a->a<=b->0 + (a - 1)<=b:=by grind
theorem om95:2<=a->a - 1 - 1 < a - 1:=by grind
theorem om96:a<=b - 1->a<=b - 1:=by walk_at "so"
theorem om97:¬a=1->¬a=0->2<=a:=by grind
theorem om98:2<=a->c=a - 1 - b->¬c > 0->a - 1 - 1 < b:=by omega
theorem om99:a<=b->a<=b:=by simp
theorem om100:¬a=0->1<=a:=by grind
theorem om101:1<=a->c=a - b->¬c > 0->a - 1 < b:=by omega
theorem om102:a<=b->b < 1->a=b:=by intros; simp_all
theorem om103:a < b + 1->¬a < b->a=b:=by grind
theorem om104:a<=b->1<=b->¬a=b->a<=b - 1:=by grind
theorem om105:1<=b->b<=a->1<=a:=by omega
theorem om106:a < b->a<=b:=by walk_at "so"
theorem om107:a<=b->max a b=b:=by intros; simp_all
theorem om108:d<=a->b < d->¬(a<=b/\b < c):=by grind
theorem om109:1<=b->a + b - 1=a + (b - 1):=by grind
theorem om110:a<=b->¬a=b->max (a + 1) b=b:=by grind
theorem om111:a + d<=e->b < d->c=e->a + b < c:=by omega
theorem om112:c + 1<=b->a + b - 1=a + (b - 1):=by grind
theorem om113:b + 1<=a->1<=a:=by grind
theorem om114:c + 1<=b->a<=a + b - (c + 1):=by omega
theorem om115:a + d<=e->b < d->c=e->a + b<=c:=by grind
theorem om116:0 + 1<=a + 1:=by walk_at "so"
theorem om117:b + 1 - (0 + 1)<=a->a < b + 1->a=b + 1 - 1:=by grind
theorem om118:a + 1<=b->a + 1 + 1<=b + 1:=by walk_at "so"
theorem om119:a + 1 - 1=a:=by walk_at "so"
theorem om120:a < b + 1->¬a=b->a < b:=by omega
theorem om121:a + d<=e->b<=d->f=e->c=e->a + b<=c:=by grind
theorem om122:b<=d->d < c->a<=a + b/\a + b < a + c:=by grind
theorem om123:b < c->a<=a + b/\a + b < a + c:=by intros; simp_all
theorem om126:c<=b->b < a->a - 1 - b<=a - 1 - c:=by omega
theorem om127:b<=c->c < a->a - 1 - b < a:=by grind
theorem om128:b + 1<=c->c<=a->1<=a:=by grind
theorem om129:a + d<=e->b<=d->c=e->a + b<=c:=by grind
theorem om130:1<=c->a + c<=b->a < b:=by grind
theorem om131:b > 1->a + b - 1=a + (b - 1):=by grind
theorem om132:b > 1->a < b->a<=b - 1:=by grind
theorem om133:a > 1->a - 1 < a:=by omega
theorem om134:a + d<=c->b<=d->a + b<=c:=by grind
theorem om135:a<=c->c < b->a < b:=by grind
theorem om136:1<=c->¬c > 1->a<=b->b < c->a=b:=by grind
theorem om137:a<=b->b < min (max c 1) d->c=0->a=b:=by grind
theorem om138:b<=c->a < min (max b 1) c->¬b=0->a < b:=by grind
theorem om139:min (max (max a 1) b) b=b:=by grind
theorem om140:a < b->min a b=a:=by grind
theorem om141:a<=a:=by simp
theorem om142:a - 0<=a - 0:=by walk_at "so"
theorem om143:¬a>=b->a<=(a + b) / 2:=by grind
theorem om144:b<=c->¬a>=b->(a + b) / 2<=c:=by grind
theorem om145:¬a>=b->(a + b) / 2 + 1<=b:=by omega
theorem om146:a < (b + c) / 2 + 1->a<=(b + c) / 2:=by walk_at "so"
theorem om147:b<=c->¬a>=b->(a + b) / 2 < c:=by omega
theorem om148:c<=b->d < a->a + b - (a + c)<=a + b:=by walk_at "so"
theorem om149:d<=c->a < b->¬a=b + c - (b + c - (b + d)):=by omega
theorem om150:a < b->min (a + 1) b=a + 1:=by grind
theorem om151:c<=b->a + b - (a + c)<=a + b:=by walk_at "so"
theorem om152:c<=b->a + b - (a + b - (a + c))=a + c:=by grind
theorem om153:c < b->a + b - 1=a + (b - 1):=by grind
theorem om154:b < c->¬a + b=a + c:=by grind
theorem om155:c < b->¬(a + b < a + c/\a + c<=a + d):=by grind
theorem om156:c<=b->a < b + 1->a < c->a < b:=by grind
theorem om157:b=c->a + b=a + c:=by walk_at "so"
theorem om158:¬b=c->¬a + b=a + c:=by simp
theorem om159:¬b < a->¬b=a->a < b:=by grind
theorem om160:a<=b->a < c->¬b < c->a<=b - 1:=by grind
theorem om161:c<=b->d<=a->a < b + 1->d < c->a - 1 < b:=by omega
theorem om162:d=c->b=c->a + b=a + c:=by walk_at "so"
theorem om163:d=c->¬b=c->¬a + b=a + c:=by intros; simp_all
theorem om164:c<=b->c=a->¬b=a->a < b:=by omega
theorem om165:c<=b->c=a->¬b=a->a<=b - 1:=by grind
theorem om166:c<=a->a < b + 1->c=d->¬a=d->a - 1 < b:=by grind
theorem om167:d<=b->¬d < c->¬d=c->¬a + b=a + c:=by grind
theorem om168:c<=b->¬c < a->¬c=a->a < b:=by grind
theorem om169:a<=b->a - 1<=b - 1:=by omega
theorem om170:c<=a->a < b + 1->¬c < d->¬c=d->a - 1 < b:=by grind
theorem om171:c=a + b->¬a + b < c:=by intros; simp_all
theorem om172:c=a + b->a + b - c=0:=by intros; simp_all
theorem om173:a=b + c->a + 1=b + (c + 1):=by walk_at "so"
theorem om174:¬a + 1 < a:=by simp
theorem om175:1<=b->d=a + (b + (e + f))->a<=a + b + c:=by grind
theorem om176:1<=a->d=b + (a + (e + f))->a<=b + a + c - b:=by grind
theorem om177:a + b + c - a - b=c:=by grind
theorem om178:1<=b->c=d + (b + (e + f))->a < b->a<=b - 1:=by grind
theorem om179:1<=d->c=a + (b + (d + e))->a + b<=c:=by walk_at "so"
theorem om180:1<=a->b=c + (a + (d + e))->0 < a:=by walk_at "so"
theorem om181:a<=b->a + (b - a)=b:=by intros; simp_all
theorem om182:a<=c->c<=b->a + (b - a)=b:=by grind
theorem om183:b<=a->a<=c->a - b<=c - b:=by grind
theorem om184:c=d + (b + (e + f))->g<=b->a < g->a < b:=by grind
theorem om185:1<=a->b=c + (a + (d + e))->a - 1 < a:=by grind
theorem om186:d=a + (b + (c + e))->a + b + c<=d:=by grind
theorem om187:c<=b->a < c->a < b:=by grind
theorem om188:a=0->a<=b:=by intros; simp_all
theorem om189:d=a + (c + (e + f))->b<=c->a + min b c=a + b + 0:=by intros; simp_all
theorem om190:c<=d->e=c->a - b + min c d=a - b + c:=by intros; simp_all
theorem om191:c=d->d<=b->a < d->a<=b:=by grind
theorem om192:a < c->c<=b->a<=b:=by grind
theorem om193:a < min b (c - d)->a < b:=by grind
theorem om194:a + 1 < b->min a b=a:=by grind
theorem om195:b=c + a->max 0 b<=c->a=0:=by grind
theorem om196:b=c->c=d + a->d>=c->a=0:=by grind
theorem om197:c=d->¬b>=d->d=b->a<=b:=by walk_at "so"
theorem om198:c=a->a=b + d->¬b>=a->1<=a - b:=by grind
theorem om199:c=b->b=a + d->¬a>=b->a + (b - a)<=c:=by intros; simp_all
theorem om200:a<=c->1<=d->e=c->b=c + d->a + 1<=b:=by grind
theorem om201:a=b->a > 1->a - 2 + 1 < b:=by grind
theorem om202:a=c + d->a + b=c + (d + b):=by grind
theorem om203:a<=c->b ≠ 0->a + 1<=b + c:=by grind
theorem om204:b=c->a<=c->a + 0<=b + 1:=by walk_at "so"
theorem om205:b=a->b<=1->a<=1:=by walk_at "so"
theorem om206:b=c->a + max 0 b<=b + 1->a<=1:=by grind
theorem om207:a<=100000->a<=16777216:=by grind
theorem om208:a<=100000->b=a->b < 2->a<=16777216 + 1:=by grind
theorem om209:a<=100000->b=a->¬b < 2->2<=a:=by walk_at "so"
theorem om210:a<=100000->b=a->¬b < 2->a<=16777216 + 1:=by grind
theorem om215:a<=d + c->d<=b + 1->a<=b + (c + 1):=by grind
theorem om261:a<=a + 1:=by simp
theorem om266:b - a=0->a<=b->a=b:=by grind
theorem om268:b - a=c + 1->a<=b->a < b:=by grind
theorem om269:c<=b->a<=d->d < c->a<=b:=by grind
theorem om270:a - b=c + 1->b < a->a - (b + 1)=c:=by grind
theorem om271:a < b->a + 1<=b:=by walk_at "so"
theorem om274:a - b=c + 1->b < a->a - b=a - (b + 1) + 1:=by omega
theorem om900 (h:k-l<=n-x):k-(l+(k-l)/2+1)<=n-(x+1):=by rw [Nat.add_assoc,<-Nat.sub_sub,<-Nat.sub_sub n x 1]; exact Nat.le_trans (Nat.sub_le_sub_left (Nat.le_add_left 1 _) _) (Nat.sub_le_sub_right h 1)
theorem om901 (h:k-l<=n-x) (e:l<k):l+(k-l)/2-l<=n-(x+1):=by rw [Nat.add_sub_cancel_left,<-Nat.sub_sub n x 1]; exact Nat.le_trans (Nat.le_sub_one_of_lt (Nat.div_lt_self (Nat.sub_pos_of_lt e) (by decide))) (Nat.sub_le_sub_right h 1)
theorem om902 (h:r-l<=k-x) (c:¬ l>=r):r-((l+r)/2+1)<=k-(x+1):=by rw [<-Nat.sub_sub,<-Nat.sub_sub k x 1]; exact Nat.sub_le_sub_right (Nat.le_trans (Nat.sub_le_sub_left ((Nat.le_div_iff_mul_le (by decide)).mpr (by rw [Nat.mul_two]; exact Nat.add_le_add_left (Nat.le_of_lt (Nat.lt_of_not_ge c)) _)) _) h) 1
theorem om903 (h:r-l<=k-x) (c:¬ l>=r):(l+r)/2-l<=k-(x+1):=by rw [<-Nat.sub_sub k x 1]; refine Nat.le_trans ?_ (Nat.sub_le_sub_right h 1); rw [Nat.sub_sub,Nat.add_comm l 1,<-Nat.sub_sub]; exact Nat.sub_le_sub_right (Nat.le_sub_one_of_lt ((Nat.div_lt_iff_lt_mul (by decide)).mpr (by rw [Nat.mul_two]; exact Nat.add_lt_add_right (Nat.lt_of_not_ge c) _))) _
theorem om904 (h:d<=x) (q:lo+x-d<=lo+i/\lo+i<lo+x):lo+x-d+(lo+x)-1-(lo+i)=lo+(x-d+x-1-i)/\x-d<=x-d+x-1-i/\x-d+x-1-i<x/\x-d<=i/\i<x:=by obtain ⟨y,rfl⟩:∃ y,x=y+d:=⟨x-d,(Nat.sub_add_cancel h).symm⟩; have e:lo+(y+d)-d=lo+y:=(by rw [<-Nat.add_assoc,Nat.add_sub_cancel]); rw [e] at q; rw [e,Nat.add_sub_cancel]; obtain ⟨p,rfl⟩:∃ p,i=y+p:=⟨i-y,(Nat.add_sub_of_le (Nat.le_of_add_le_add_left q.1)).symm⟩; have l:=Nat.lt_of_add_lt_add_left (Nat.lt_of_add_lt_add_left q.2); obtain ⟨z,rfl⟩:∃ z,d=p+1+z:=⟨d-(p+1),(Nat.add_sub_of_le l).symm⟩; have t:∀ u:Nat,u+y+(u+(y+(p+1+z)))-1-(u+(y+p))=u+(y+z):=(fun u=>by rw [show u+y+(u+(y+(p+1+z)))=u+(y+p)+(u+(y+z))+1 by ac_rfl,Nat.add_sub_cancel,Nat.add_sub_cancel_left]); have t0:=t 0; simp only [Nat.zero_add] at t0; rw [t,t0]; exact ⟨rfl,Nat.le_add_right _ _,by omega,Nat.le_add_right _ _,Nat.add_lt_add_left l _⟩
theorem om905 (q:i<n):lo+(lo+n)-1-(lo+i)=lo+(n-1-i):=by obtain ⟨p,rfl⟩:∃ p,n=i+1+p:=⟨n-(i+1),(Nat.add_sub_of_le q).symm⟩; rw [show lo+(lo+(i+1+p))=lo+i+(lo+p)+1 by ac_rfl,Nat.add_sub_cancel,Nat.add_sub_cancel_left,Nat.sub_sub,Nat.add_comm 1 i,Nat.add_sub_cancel_left]
theorem om906 (h:k<=x):f+k+(x-k)-1=f+(x-1)\/x=0:=by obtain ⟨y,rfl⟩:∃ y,x=k+y:=⟨x-k,(Nat.add_sub_of_le h).symm⟩; rw [Nat.add_sub_cancel_left,Nat.add_assoc]; cases (k+y); exact .inr rfl; exact .inl rfl
theorem om907 (h:k<=x) (q:¬ x-k=0) (z:m=x-k):k+(m-1)=x-1:=by subst z; rw [<-Nat.add_sub_assoc (Nat.pos_of_ne_zero q),Nat.add_sub_of_le h]
theorem om908 (h:2<=n) (q:¬ n-1=1):2<=n-1:=Nat.le_sub_one_of_lt (Nat.lt_of_le_of_ne h fun z=>q (by rw [<-z]))
theorem om909 (h:j=n-2-1\/j=n-2) (q:¬ n<=1) (e:n=m):j+1<m:=by subst e; obtain ⟨z,rfl⟩:∃ z,n=z+2:=⟨n-2,(Nat.sub_add_cancel (Nat.lt_of_not_le q)).symm⟩; rw [Nat.add_sub_cancel] at h; rcases h with rfl | rfl; exact Nat.lt_succ_of_le (Nat.add_le_add_right (Nat.sub_le _ _) 1); exact Nat.lt_succ_self _
end
-- CHANGE: your row's module here,as the last of these rows
namespace L2
open PySem PySem.Spec PyProof.Rows

abbrev Key:=Sum Int Str
noncomputable def keyIs:Key->Value->Bool
 | .inl k,v=>Value.isInt k v
 | .inr x,v=>Value.isStrOf x v
noncomputable def keyH (w:World):Key->Int
 | .inl k=>hashInt k
 | .inr x=>hashStr w x
theorem keyIs_shape:∀ {k:Key} {v:Value},keyIs k v=true->(∃ i t,k=Sum.inl i/\v=Value.int i t)\/(∃ x t,k=Sum.inr x/\v=Value.str x t)
 | .inl i,v,h=>by
  obtain ⟨t,e⟩:=Value.isInt_shape (k:=i) (v:=v) h
  exact .inl ⟨i,t,rfl,e⟩
 | .inr x,v,h=>by
  obtain ⟨t,e⟩:=Value.isStrOf_shape (x:=x) (v:=v) h
  exact .inr ⟨x,t,rfl,e⟩
theorem keyIs_int (i:Int) (t:Tok):keyIs (.inl i) (.int i t)=true:=by simp [keyIs,Value.isInt]
theorem keyIs_str (x:Str) (t:Tok):keyIs (.inr x) (.str x t)=true:=by simp [keyIs,Value.isStrOf]
theorem key_ll (a b:Int):decide ((Sum.inl a:Key)=Sum.inl b)=(a == b):=by
 by_cases e:a=b
 ·subst e; simp
 ·have h:¬ (Sum.inl a:Key)=Sum.inl b:=fun q=>e (Sum.inl.inj q)
  rw [decide_eq_false h]
  exact (beq_eq_false_iff_ne.mpr e).symm
theorem key_rr (a b:Str):decide ((Sum.inr a:Key)=Sum.inr b)=decide (a=b):=by
 by_cases e:a=b
 ·subst e; simp
 ·have h:¬ (Sum.inr a:Key)=Sum.inr b:=fun q=>e (Sum.inr.inj q)
  rw [decide_eq_false h,decide_eq_false e]
theorem key_lr (a:Int) (b:Str):decide ((Sum.inl a:Key)=Sum.inr b)=false:=decide_eq_false (fun q=>nomatch q)
theorem key_rl (a:Str) (b:Int):decide ((Sum.inr a:Key)=Sum.inl b)=false:=decide_eq_false (fun q=>nomatch q)

noncomputable def mixKind (prog:Program) (w:World):PySem.KeyKind prog w Key where
 is:=keyIs
 hash:=keyH w
 inj:=fun v a b ha hb=>by
  rcases keyIs_shape ha with ⟨i,t,rfl,rfl⟩ | ⟨x,t,rfl,rfl⟩
  ·rcases keyIs_shape hb with ⟨j,u,rfl,e⟩ | ⟨y,u,rfl,e⟩
   ·injection e with e1 _; rw [e1]
   ·exact nomatch e
  ·rcases keyIs_shape hb with ⟨j,u,rfl,e⟩ | ⟨y,u,rfl,e⟩
   ·exact nomatch e
   ·injection e with e1 _; rw [e1]
 byValue:=fun k v h=>by
  rcases keyIs_shape h with ⟨i,t,rfl,rfl⟩ | ⟨x,t,rfl,rfl⟩ <;> rfl
 pyHash:=fun hv h=>by
  rcases keyIs_shape hv with ⟨i,t,rfl,rfl⟩ | ⟨x,t,rfl,rfl⟩
  ·exact wpAny_pyHash_int h
  ·exact wpAny_pyHash_str h
 eqBool:=fun hu hv h=>by
  rcases keyIs_shape hu with ⟨i,t,rfl,rfl⟩ | ⟨x,t,rfl,rfl⟩
  ·rcases keyIs_shape hv with ⟨j,u,rfl,rfl⟩ | ⟨y,u,rfl,rfl⟩
   ·rw [key_ll] at h; exact wpAny_eqBool_int h
   ·rw [key_lr] at h; exact SeqAt.EqAt.int_str i t y u _ _ _ _ h
  ·rcases keyIs_shape hv with ⟨j,u,rfl,rfl⟩ | ⟨y,u,rfl,rfl⟩
   ·rw [key_rl] at h; exact SeqAt.EqAt.str_int x t j u _ _ _ _ h
   ·rw [key_rr] at h; exact wpAny_eqBool_str h
 «strs»:=fun k x t v h=>by
  rcases keyIs_shape h with ⟨i,u,rfl,e⟩ | ⟨y,u,rfl,e⟩
  ·exact nomatch e
  ·injection e with e1 _
   subst e1
   cases v <;> rfl

theorem mixKind_int (prog:Program) (w:World) (i:Int) (t:Tok):(mixKind prog w).is (.inl i) (.int i t)=true:=keyIs_int i t
theorem mixKind_str (prog:Program) (w:World) (x:Str) (t:Tok):(mixKind prog w).is (.inr x) (.str x t)=true:=keyIs_str x t
end L2

namespace L2
open PySem PySem.Spec PyProof.Rows

inductive V where
 | non | bl (b:Bool) | int (i:Int) | str (x:Str) | byt (b:Array UInt8) | flt (b:UInt64) | ref (a:Addr) | ty (n:String)
 deriving DecidableEq

noncomputable def RelV:V->Value->Prop
 | .non,u=>u=Value.none
 | .bl b,u=>u=Value.bool b
 | .int i,u=>∃ t,u=Value.int i t
 | .str x,u=>∃ t,u=Value.str x t
 | .byt b,u=>∃ t,u=Value.bytes b t
 | .flt b,u=>∃ t,u=Value.float b t
 | .ref a,u=>u=Value.ref a
 | .ty n,u=>u=Value.type n

abbrev Vals:List V->List Value->Prop:=Paired RelV
theorem Vals.length {xs:List V} {us:List Value} (r:Vals xs us):xs.length=us.length:=Paired.length r
theorem Vals.get:∀ {xs:List V} {us:List Value} {i:Nat} {x:V},Vals xs us->xs[i]?=some x->∃ u,us[i]?=some u/\RelV x u
 | _,_,_,_,.nil,e=>by simp at e
 | _,_,0,_,.cons r _,e=>by simp at e; subst e; exact ⟨_,rfl,r⟩
 | _,_,i + 1,x,.cons _ t,e=>by
  obtain ⟨u,h1,h2⟩:=Vals.get (i:=i) (x:=x) t (by simpa using e)
  exact ⟨u,by simpa using h1,h2⟩
theorem Vals.set {x:V} {u:Value} (r:RelV x u):∀ {xs:List V} {us:List Value} (i:Nat),Vals xs us->Vals (xs.set i x) (us.set i u)
 | _,_,_,.nil=>.nil
 | _,_,0,.cons _ t=>.cons r t
 | _,_,i + 1,.cons q t=>.cons q (Vals.set r i t)
theorem Vals.append:∀ {xs ys:List V} {us ws:List Value},Vals xs us->Vals ys ws->Vals (xs++ys) (us++ws)
 | _,_,_,_,.nil,s=>s
 | _,_,_,_,.cons r t,s=>.cons r (Vals.append t s)
theorem Vals.take:∀ {xs:List V} {us:List Value} (n:Nat),Vals xs us->Vals (xs.take n) (us.take n)
 | _,_,0,_=>.nil
 | _,_,_ + 1,.nil=>.nil
 | _,_,n + 1,.cons r t=>.cons r (Vals.take n t)
theorem Vals.drop:∀ {xs:List V} {us:List Value} (n:Nat),Vals xs us->Vals (xs.drop n) (us.drop n)
 | _,_,0,r=>r
 | _,_,_ + 1,.nil=>.nil
 | _,_,n + 1,.cons _ t=>Vals.drop n t

noncomputable def RelO:Option V->Option Value->Prop
 | some v,some u=>RelV v u
 | none,none=>True
 | _,_=>False
noncomputable def KV {κ:Type}:List (κ × V)->List (κ × Value)->Prop:=Paired fun (p:κ × V) (q:κ × Value)=>p.1=q.1/\RelV p.2 q.2

noncomputable def kV:Key->V
 | .inl i=>.int i
 | .inr x=>.str x

inductive HO where
 /-- a list -/
 | lst (xs:List V)
 /-- a tuple (never changes) -/
 | tup (xs:List V)
 /-- a dict whose keys are ints and texts; one whose keys are tuples of ints and texts (the empty one is both) -/
 | dK (kvs:List (Key × V)) | dT (kvs:List (List Key × V))
 /-- a set of ints: its members,its size -/
 | set (S:Int->Bool) (n:Nat)
 /-- an instance of the class at C,its dict at dx,its attributes -/
 | ins (C dx:Addr) (fs:List (Str × V))
 /-- the dict of the instance at x -/
 | own (x:Addr)
 /-- the dict of an exception -/
 | xd (fs:List (Str × V))
 /-- a bound method,f of x -/
 | met (f x:Addr)
 /-- a range object lo,lo + 1,.. below hi -/
 | rng (lo hi:Int)
 /-- a thing that is known to the object (the script; a dict while a loop walks it): read,never written while it is so -/
 | frz (o:Obj) (u:HO)
 /-- a code object's table -/
 | tbl (ps:Array Value)
 /-- any other thing,by what is true of its one object (a def of one's own: SetO a S n:=HO.ext fun h=>..) -/
 | ext (φ:Heap->Prop)

abbrev Hp:=Addr->Option HO
noncomputable def upd (H:Hp) (a:Addr) (o:HO):Hp:=fun b=>if b=a then some o else H b
theorem upd_same {H:Hp} {a:Addr} {o:HO}:upd H a o a=some o:=by unfold upd; rw [if_pos rfl]
theorem upd_ne {H:Hp} {a b:Addr} {o:HO} (h:b ≠ a):upd H a o b=H b:=by unfold upd; rw [if_neg h]
theorem upd_upd {H:Hp} {a:Addr} {o u:HO}:upd (upd H a o) a u=upd H a u:=by
 funext b; unfold upd; split <;> rfl
theorem ne_of {H:Hp} {a b:Addr} {o u:HO} (h:H a=some o) (h':H b=some u) (d:o ≠ u):a ≠ b:=by
 intro e; subst e; rw [h] at h'; exact d (Option.some.inj h')
theorem ne_of_none {H:Hp} {a b:Addr} {o:HO} (h:H a=some o) (h':H b=none):a ≠ b:=by
 intro e; subst e; rw [h] at h'; cases h'

section
variable (P:Program) (w:World)
noncomputable def ObjOk (H:Hp) (h:Heap) (a:Addr):HO->Prop
 | .lst xs=>xs.length<=sizeLine/\∃ (its:List Value) (n:Nat),Vals xs its/\h.get? a=some { cls:=.type "list", data:=.seq its.toArray n }
 | .tup xs=>xs.length<=sizeLine/\∃ its:List Value,Vals xs its/\IsTup h a its.toArray
 | .dK kvs=>kvs.length<=sizeLine/\(a == sysModules)=false/\∃ vs,KV kvs vs/\h.DictOf (mixKind P w) a vs
 | .dT kvs=>kvs.length<=sizeLine/\(a == sysModules)=false/\∃ xs:List (List Key × Addr × Value),
   Paired (fun (p:List Key × V) (q:List Key × Addr × Value)=>p.1=q.1/\H q.2.1=some (.tup (p.1.map kV))/\RelV p.2 q.2.2) kvs xs /\
   ∃ o es ep,h.get? a=some o/\o.ExactDict/\o.data=.dict es ep/\es.toList=xs.map (entryOfKey (tupleKind (mixKind P w)))/\(xs.map (·.1)).Nodup
 | .set S n=>h.SetOf (intKind P w) a S n
 | .ins C dx fs=>H dx=some (.own a)/\fs.length<=1000/\dx ≠ a/\h.get? a=some (PySem.W.instObj C dx) /\
   ∃ mA,h.Ns1 dx mA/\(∀ f,RelO (fs.lookup f) (mA f))/\PySem.Within mA (fs.map (·.1))
 | .own _=>∃ o,h.get? a=some o
 | .xd fs=>∃ mA,h.Ns1 a mA/\∀ f,RelO (fs.lookup f) (mA f)
 | .rng lo hi=>∃ t u v,h.get? a=some { cls:=.type "range", data:=.fields #[.int lo t,.int hi u,.int 1 v] }
 | .frz o u=>h.get? a=some o/\ObjOk H h a u
 | .tbl ps=>h.get? a=some { cls:=.none,data:=.fields ps }
 | .met f x=>h.get? a=some (PySem.W.methodObj (.ref f) (.ref x))
 | .ext φ=>φ h/\(∃ o,h.get? a=some o)/\∀ h1 h2:Heap,φ h1->(∀ o,h1.get? a=some o->h2.get? a=some o)->φ h2
noncomputable def HOk (H:Hp) (h:Heap):Prop:=∀ a o,H a=some o->ObjOk P w H h a o
end

section
variable {P:Program} {w:World} {H H':Hp} {h h':Heap} {a:Addr} {o:HO}
theorem ObjOk.lt (x:ObjOk P w H h a o):a < h.objs.size:=by
 cases o with
 | lst xs=>obtain ⟨_,_,_,_,e⟩:=x; exact Heap.lt_size e
 | tup xs=>obtain ⟨_,_,_,p⟩:=x; exact p.lt
 | dK kvs=>obtain ⟨_,_,_,_,o,_,_,e,_⟩:=x; exact Heap.lt_size e
 | dT kvs=>obtain ⟨_,_,_,_,o,_,_,e,_⟩:=x; exact Heap.lt_size e
 | set S n=>obtain ⟨o,_,_,_,e,_⟩:=x; exact Heap.lt_size e
 | ins C dx fs=>obtain ⟨_,_,_,e,_⟩:=x; exact Heap.lt_size e
 | own y=>obtain ⟨_,e⟩:=x; exact Heap.lt_size e
 | xd fs=>obtain ⟨_,⟨_,_,_,e,_⟩,_⟩:=x; exact Heap.lt_size e
 | rng lo hi=>obtain ⟨_,_,_,e⟩:=x; exact Heap.lt_size e
 | frz ob u=>obtain ⟨e,_⟩:=x; exact Heap.lt_size e
 | tbl ps=>exact Heap.lt_size (show h.get? a=some _ from x)
 | met f y=>exact Heap.lt_size (show h.get? a=some _ from x)
 | ext φ=>obtain ⟨_,⟨_,e⟩,_⟩:=x; exact Heap.lt_size e
theorem Paired.mapP {α β:Type} {F G:α->β->Prop}:∀ {l₁:List α} {l₂:List β},Paired F l₁ l₂->(∀ a b,F a b->G a b)->Paired G l₁ l₂
 | _,_,.nil,_=>.nil
 | _,_,.cons r t,f=>.cons (f _ _ r) (Paired.mapP t f)
theorem ObjOk.stay (x:ObjOk P w H h a o) (k:∀ b u,(b=a\/H b=some (.own a))->h.get? b=some u->h'.get? b=some u)
  (ho:∀ b,H b=some (.own a)->H' b=some (.own a)) (ht:∀ b xs,H b=some (.tup xs)->H' b=some (.tup xs)):ObjOk P w H' h' a o:=by
 induction o with
 | lst xs=>obtain ⟨z,its,n,r,e⟩:=x; exact ⟨z,its,n,r,k _ _ (.inl rfl) e⟩
 | tup xs=>obtain ⟨z,its,r,ob,e,c⟩:=x; exact ⟨z,its,r,ob,k _ _ (.inl rfl) e,c⟩
 | dK kvs=>obtain ⟨z,y,vs,r,ob,es,ep,e,c⟩:=x; exact ⟨z,y,vs,r,ob,es,ep,k _ _ (.inl rfl) e,c⟩
 | dT kvs =>
  obtain ⟨z,y,xs,r,ob,es,ep,e,c⟩:=x
  exact ⟨z,y,xs,Paired.mapP r fun p q z=>⟨z.1,ht _ _ z.2.1,z.2.2⟩,ob,es,ep,k _ _ (.inl rfl) e,c⟩
 | set S n=>obtain ⟨ob,es,ep,t,e,c⟩:=x; exact ⟨ob,es,ep,t,k _ _ (.inl rfl) e,c⟩
 | ins C dx fs =>
  obtain ⟨d,z,ne,e,mA,⟨od,es,ep,e2,c⟩,r⟩:=x
  exact ⟨ho _ d,z,ne,k _ _ (.inl rfl) e,mA,⟨od,es,ep,k _ _ (.inr d) e2,c⟩,r⟩
 | own y=>obtain ⟨ob,e⟩:=x; exact ⟨ob,k _ _ (.inl rfl) e⟩
 | xd fs=>obtain ⟨mA,⟨od,es,ep,e,c⟩,r⟩:=x; exact ⟨mA,⟨od,es,ep,k _ _ (.inl rfl) e,c⟩,r⟩
 | rng lo hi=>obtain ⟨t,u,v,e⟩:=x; exact ⟨t,u,v,k _ _ (.inl rfl) e⟩
 | frz ob u ih=>obtain ⟨e,q⟩:=x; exact ⟨k _ _ (.inl rfl) e,ih q⟩
 | tbl ps =>
  have e:h.get? a=some { cls:=.none,data:=.fields ps }:=x
  show h'.get? a=some { cls:=.none,data:=.fields ps }
  exact k a _ (.inl rfl) e
 | met f y =>
  have e:h.get? a=some (PySem.W.methodObj (.ref f) (.ref y)):=x
  show h'.get? a=some (PySem.W.methodObj (.ref f) (.ref y))
  exact k a _ (.inl rfl) e
 | ext φ=>obtain ⟨p,⟨o,e⟩,st⟩:=x; exact ⟨st _ _ p fun o q=>k _ _ (.inl rfl) q,⟨o,k _ _ (.inl rfl) e⟩,st⟩
theorem HOk.lt (x:HOk P w H h) (e:H a=some o):a < h.objs.size:=(x a o e).lt
theorem HOk.fresh (x:HOk P w H h) (e:h.objs.size<=a):H a=none:=by
 cases q:H a with
 | none=>rfl
 | some u=>exact absurd (Nat.lt_of_lt_of_le (x.lt q) e) (Nat.lt_irrefl _)
theorem HOk.kept (x:HOk P w H h) (k:∀ b u,h.get? b=some u->h'.get? b=some u):HOk P w H h':=fun a o e =>
 (x a o e).stay (fun b u _ q=>k b u q) (fun _ q=>q) fun _ _ q=>q
theorem HOk.laid (x:HOk P w H h) (k:∀ b u,h.get? b=some u->h'.get? b=some u) (hp:h.objs.size<=a) (new:ObjOk P w (upd H a o) h' a o):HOk P w (upd H a o) h':=fun b u e=>by
 have hn:=x.fresh hp
 by_cases hb:b=a
 ·subst hb; rw [upd_same] at e; cases e; exact new
 ·rw [upd_ne hb] at e
  exact (x b u e).stay (fun c v _ q=>k c v q) (fun c q=>by rw [upd_ne (ne_of_none q hn)]; exact q) fun c xs q=>by rw [upd_ne (ne_of_none q hn)]; exact q
end

noncomputable def Rd (H:Hp) (a:Addr) (u:HO):Prop:=H a=some u\/∃ o,H a=some (.frz o u)
theorem Rd.of {H:Hp} {a:Addr} {u:HO} (h:H a=some u):Rd H a u:=.inl h
theorem Rd.ok {P:Program} {w:World} {H:Hp} {h:Heap} {a:Addr} {u:HO} (r:Rd H a u) (x:HOk P w H h):ObjOk P w H h a u:=by
 rcases r with r | ⟨o,r⟩
 ·exact x a u r
 ·obtain ⟨_,q⟩:=x a _ r
  exact q
noncomputable def Mut:Option HO->Prop
 | some (.lst _)=>True
 | some (.dK _)=>True
 | some (.dT _)=>True
 | some (.set _ _)=>True
 | some (.ins _ _ _)=>True
 | some (.ext _)=>True
 | _=>False
section
variable {P:Program} {w:World} {H:Hp} {h h':Heap} {x e:Addr} {o':HO}
theorem HOk.write (ok:HOk P w H h) (mu:Mut (H x)) (he:e=x\/H e=some (.own x)) (k:∀ b u,b ≠ e->h.get? b=some u->h'.get? b=some u) (heo:∃ u,h'.get? e=some u)
  (new:ObjOk P w (upd H x o') h' x o'):HOk P w (upd H x o') h':=fun b u q=>by
 have nown:∀ c y,H c=some (.own y)->c ≠ x:=fun c y r z=>by subst z; rw [r] at mu; exact mu
 have ntup:∀ c xs,H c=some (.tup xs)->c ≠ x:=fun c xs r z=>by subst z; rw [r] at mu; exact mu
 by_cases hb:b=x
 ·subst hb; rw [upd_same] at q; cases q; exact new
 ·rw [upd_ne hb] at q
  by_cases hbe:b=e
  ·have q':H b=some (.own x):=by
    rcases he with z | z
    ·exact absurd (hbe.trans z) hb
    ·rw [hbe]; exact z
   rw [q] at q'; cases q'
   obtain ⟨v,hv⟩:=heo
   exact ⟨v,by rw [hbe]; exact hv⟩
  ·refine (ok b u q).stay (fun c v hc r=>k c v ?_ r) (fun c r=>by rw [upd_ne (nown c b r)]; exact r) fun c xs r=>by rw [upd_ne (ntup c xs r)]; exact r
   rcases hc with rfl | hc
   ·exact hbe
   ·rintro rfl
    rcases he with z | z
    ·exact nown c b hc z
    ·rw [hc] at z; cases z; exact hb rfl
end

structure Un (fs ex:List Addr) (H H':Hp) (h h':Heap):Prop where
 keep:∀ b o,h.get? b=some o->H b=none->b ∉ fs->b ∉ ex->h'.get? b=some o
 slot:∀ b o,h.get? b=some o->H b=none->b ∈ fs->b ∉ ex->∃ sl,h'.get? b=some { o with slots:=sl }
 free:∀ b o,h.get? b=some o->H b=none->b ∉ ex->H' b=none
 there:∀ b o,h.get? b=some o->b ∉ ex->∃ o',h'.get? b=some o'
 tups:∀ b xs,H b=some (.tup xs)->H' b=some (.tup xs)
 frzs:∀ b o u,H b=some (.frz o u)->H' b=some (.frz o u)
 tbls:∀ b ps,H b=some (.tbl ps)->∃ more,H' b=some (.tbl (ps++more))
section
variable {fs fs' ex ex':List Addr} {H H1 H2:Hp} {h h1 h2 h':Heap} {a x e:Addr} {o:HO}
theorem Un.any (u:Un fs ex H H1 h h1) {b:Addr} {ob:Obj} (q:h.get? b=some ob) (n:H b=none) (hx:b ∉ ex):∃ sl,h1.get? b=some { ob with slots:=sl }:=by
 by_cases hb:b ∈ fs
 ·exact u.slot b ob q n hb hx
 ·exact ⟨ob.slots,u.keep b ob q n hb hx⟩
theorem Un.kept (k:∀ b u,h.get? b=some u->h'.get? b=some u):Un fs ex H H h h' :=
 ⟨fun b ob q _ _ _=>k b ob q,fun b ob q _ _ _=>⟨ob.slots,k b ob q⟩,fun _ _ _ n _=>n,fun b ob q _=>⟨ob,k b ob q⟩,fun _ _ q=>q,fun _ _ _ q=>q,fun _ ps q=>⟨#[],by rw [q]; simp⟩⟩
theorem Un.refl:Un fs ex H H h h:=Un.kept fun _ _ q=>q
theorem Un.laid (k:∀ b u,h.get? b=some u->h'.get? b=some u) (hp:h.objs.size<=a) (hn:H a=none):Un fs ex H (upd H a o) h h' where
 keep:=fun b u q _ _ _=>k b u q
 slot:=fun b u q _ _ _=>⟨u.slots,k b u q⟩
 free:=fun b u q n _=>by rw [upd_ne (Nat.ne_of_lt (Nat.lt_of_lt_of_le (Heap.lt_size q) hp))]; exact n
 there:=fun b u q _=>⟨u,k b u q⟩
 tups:=fun b xs q=>by rw [upd_ne (ne_of_none q hn)]; exact q
 frzs:=fun b u xs q=>by rw [upd_ne (ne_of_none q hn)]; exact q
 tbls:=fun b ps q=>⟨#[],by rw [upd_ne (ne_of_none q hn),q]; simp⟩
theorem Un.write (mu:Mut (H x)) (he:e=x\/H e=some (.own x)) (k:∀ b u,b ≠ e->h.get? b=some u->h'.get? b=some u) (heo:∃ u,h'.get? e=some u):Un fs ex H (upd H x o) h h':=by
 have hx:∀ b,H b=none->b ≠ x:=fun b n z=>by subst z; rw [n] at mu; exact mu
 have hb:∀ b,H b=none->b ≠ e:=fun b n z=>by
  subst z
  rcases he with r | r
  ·exact hx b n r
  ·rw [n] at r; cases r
 have hm:∀ b u,H b=some u->¬ Mut (some u)->b ≠ x:=fun b u q nm z=>by subst z; rw [q] at mu; exact nm mu
 refine ⟨fun b u q n _ _=>k b u (hb b n) q,fun b u q n _ _=>⟨u.slots,k b u (hb b n) q⟩,fun b u q n _=>by rw [upd_ne (hx b n)]; exact n,fun b u q _=>?_,
  fun b xs q=>by rw [upd_ne (hm b _ q fun z=>z)]; exact q,fun b u xs q=>by rw [upd_ne (hm b _ q fun z=>z)]; exact q,fun b ps q=>⟨#[],by rw [upd_ne (hm b _ q fun z=>z),q]; simp⟩⟩
 by_cases hbe:b=e
 ·subst hbe; exact heo
 ·exact ⟨u,k b u hbe q⟩
end

noncomputable def trk (h:Heap) (H:Hp):List Addr:=(List.range h.objs.size).filter fun a=>(H a).isSome
noncomputable def hidT (h:Heap) (H:Hp):Heap:=PySem.W.hideAll h (trk h H)
theorem hidT_size (h:Heap) (H:Hp):(hidT h H).objs.size=h.objs.size:=PySem.W.hideAll_size _ _
theorem hidT_get {h:Heap} {H:Hp} {b:Addr} {o:Obj} (e:h.get? b=some o) (n:H b=none):(hidT h H).get? b=some o :=
 PySem.W.hideAll_get _ e fun hm=>by
  have q:(H b).isSome=true:=(List.mem_filter.mp hm).2
  rw [n] at q; simp at q
theorem of_hidT {h:Heap} {H:Hp} {b:Addr} {o:Obj} (e:(hidT h H).get? b=some o):h.get? b=some o/\H b=none:=by
 have e':h.get? b=some o:=PySem.W.of_hideAll (trk h H) e
 refine ⟨e',?_⟩
 cases q:H b with
 | none=>rfl
 | some x =>
  have hm:b ∈ trk h H:=List.mem_filter.mpr ⟨List.mem_range.mpr (Heap.lt_size e'),by simp [q]⟩
  have z:(hidT h H).get? b=none:=PySem.W.hideAll_none (trk h H) hm
  rw [z] at e; cases e

noncomputable def allNews (g h:Heap) (L:Addr):List (Addr × Obj):=(List.range h.objs.size).filterMap fun a=>if a=L\/(g.get? a).isSome=true then none else (h.get? a).map fun o=>(a,o)
noncomputable def rest (g h:Heap) (L d:Addr):List (Addr × Obj):=(allNews g h L).filter fun p=>decide (p.1 ≠ d)
end L2

namespace L2
open PySem PySem.Spec PyProof.Rows

structure Mod (K:PySem.W.Frag) (mg:Str->Option Value) (base:Heap):Prop where
 kin:K.In base
 glob:base.Ns mainGlobals mg
 blt:∃ mb,base.Ns builtinsNs mb/\∀ x:Str,x ≠ "__name__" -> mb x=bootBuiltins x
 nolimit:base.NoLimit

/-- the context: a def's body (or a comprehension's block) running. base: fixed through the whole law; s₀,H₀: the entry; outer: the frames whose slots others may change (a def's callers); stack: all frames that run;
  ex: iterators that were made ahead of the entry and are walked here (a comprehension's); fn: the names whose cells were made at the entry (a def: all; a comprehension's block: its own); calm: not within an except suite; pn: pins that every state bears; xe: what is wanted of an exception that leaves the code -/
structure Cx where
 prog:Program
 w:World
 K:PySem.W.Frag
 mg:Str->Option Value
 base:Heap
 A:Around
 N:List Str
 s₀:Shared
 H₀:Hp
 env:Env
 outer:List Env
 stack:List Env
 ex:List Addr
 fn:Str->Bool
 calm:Bool
 pn:List (Addr × Obj)
 xe:Value->Shared->Prop
noncomputable def frs (l:List Env):List Addr:=l.filterMap (·.frame)
abbrev Cx.fs (X:Cx):List Addr:=frs X.outer

noncomputable def Vis (sc:Scope) (x:Str):Prop:=sc.names.lookup x=some .local\/sc.names.lookup x=some .cell\/sc.names.lookup x=some .free
noncomputable def Loc (sc:Scope) (x:Str):Prop:=sc.names.lookup x=some .local\/sc.names.lookup x=some .cell
noncomputable def Look (env:Env) (h:Heap) (m:Str->Option Value) (x:Str) (u:Value):Prop :=
 (env.kindOf x=some .local/\m x=some u)\/((env.kindOf x=some .cell\/env.kindOf x=some .free)/\∃ c,env.cells.lookup x=some c/\h.IsCell c (some u))

structure Cx.Ok (X:Cx):Prop where
 mod:Mod X.K X.mg X.base
 kind:X.env.scope.kind=.function
 glob:X.env.globals=mainGlobals
 blt:X.env.builtins=builtinsNs
 above:X.s₀.heap.objs.size<=X.env.locals
 inj:∀ x y c,X.env.cells.lookup x=some c->X.env.cells.lookup y=some c->x=y
 has:∀ x,(X.env.kindOf x=some .cell\/X.env.kindOf x=some .free)->∃ c,X.env.cells.lookup x=some c
 cab:∀ x c,X.fn x=true->X.env.cells.lookup x=some c->X.s₀.heap.objs.size<=c
 hd:X.calm=true->X.A.handled=none
 frames:X.A.frames=some X.stack
 stk:X.stack=X.outer\/(X.stack=X.env :: X.outer/\X.env.frame=some X.env.locals)
 exf:∀ b ∈ X.ex,b ≠ X.env.locals/\∀ x c,X.env.cells.lookup x=some c->c ≠ b
 bs:∀ b o,X.base.get? b=some o->X.s₀.heap.get? b=some o/\X.H₀ b=none
 bsz:X.base.objs.size<=X.s₀.heap.objs.size
 noex:∀ b o,X.base.get? b=some o->b ∉ X.ex
 exfs:∀ b ∈ X.ex,b ∉ X.fs
 funs:X.s₀.heap.FunFrames X.base X.outer
 frf:∀ b ∈ X.fs,X.H₀ b=none

structure Inv (X:Cx) (pins:List (Addr × Obj)) (σ:List (Option V)) (H:Hp) (s:Shared):Prop where
 ok:X.Ok
 os:s.os=X.s₀.os
 bare:AllBare s.gens
 base:Un X.fs X.ex X.H₀ H X.s₀.heap s.heap
 loc:∃ m,s.heap.Ns X.env.locals m/\∀ (i:Nat) (x:Str) (v:V),X.N[i]?=some x->σ[i]?=some (some v)->Vis X.env.scope x->∃ u,RelV v u/\Look X.env s.heap m x u
 cell:∀ x c,X.env.cells.lookup x=some c->∃ v,s.heap.IsCell c v
 free:H X.env.locals=none
 freeC:∀ x c,X.env.cells.lookup x=some c->H c=none
 pin:∀ p ∈ X.pn++pins,s.heap.get? p.1=some p.2/\H p.1=none/\p.1 ≠ X.env.locals/\p.1 ∉ X.fs/\∀ v,p.2.data ≠ .cell v
 hok:HOk X.prog X.w H s.heap
 len:σ.length=X.N.length

section
variable {X:Cx} {pins:List (Addr × Obj)} {σ:List (Option V)} {H H':Hp} {s:Shared} {h':Heap}

theorem Cx.Ok.nofr (ok:X.Ok) {b:Addr} {o:Obj} (e:X.base.get? b=some o):b ∉ X.fs:=fun hb=>by
 have:=(ok.funs.mem hb).1
 rw [e] at this; cases this
theorem Inv.bs (I:Inv X pins σ H s):∀ b o,X.base.get? b=some o->s.heap.get? b=some o/\H b=none:=fun b o e =>
 ⟨I.base.keep b o (I.ok.bs b o e).1 (I.ok.bs b o e).2 (I.ok.nofr e) (I.ok.noex b o e),I.base.free b o (I.ok.bs b o e).1 (I.ok.bs b o e).2 (I.ok.noex b o e)⟩
theorem Inv.bk (I:Inv X pins σ H s):∀ b o,X.base.get? b=some o->s.heap.get? b=some o:=fun b o e=>(I.bs b o e).1
theorem Inv.mod (I:Inv X pins σ H s):Mod X.K X.mg X.base:=I.ok.mod
theorem Inv.kIn (I:Inv X pins σ H s):X.K.In s.heap:=I.ok.mod.kin.keeps I.bk
theorem Inv.fr (I:Inv X pins σ H s):∃ m,Fr X.base X.env.locals s.heap m :=
 let ⟨m,hn,_⟩:=I.loc
 ⟨m,hn,I.bk,Nat.le_trans I.ok.bsz I.ok.above⟩
theorem Inv.lt (I:Inv X pins σ H s):X.env.locals < s.heap.objs.size:=let ⟨_,hn,_⟩:=I.loc; hn.lt
theorem Inv.sz (I:Inv X pins σ H s):X.s₀.heap.objs.size<=s.heap.objs.size:=Nat.le_trans I.ok.above (Nat.le_of_lt I.lt)
theorem Inv.nofs (I:Inv X pins σ H s) {a:Addr} (h:s.heap.objs.size<=a):a ∉ X.fs:=fun hb=>by
 obtain ⟨_,o,ho,_⟩:=I.ok.funs.mem hb
 exact absurd (Nat.lt_of_lt_of_le (Heap.lt_size ho) (Nat.le_trans I.sz h)) (Nat.lt_irrefl _)
theorem Inv.cne (I:Inv X pins σ H s):∀ x c,X.env.cells.lookup x=some c->c ≠ X.env.locals:=fun x c e z=>by
 obtain ⟨v,o,ho,hd⟩:=I.cell x c e
 obtain ⟨m,⟨o',es,ep,ho',hd',_⟩,_⟩:=I.loc
 rw [z,ho'] at ho; cases ho; rw [hd'] at hd; cases hd
theorem Inv.funs (I:Inv X pins σ H s):s.heap.FunFrames X.base X.outer:=by
 have all:∀ (l:List Env),(∀ b ∈ frs l,b ∈ X.fs)->X.s₀.heap.FunFrames X.base l->s.heap.FunFrames X.base l:=by
  intro l
  induction l with
  | nil=>intro _ _; trivial
  | cons env r ih =>
   intro hs hl
   obtain ⟨hk,⟨L,o,hf,hn,ho,hd⟩,hr⟩:=hl
   have hL:L ∈ X.fs:=hs L (by unfold frs; rw [List.filterMap_cons,hf]; exact List.mem_cons_self)
   obtain ⟨sl,e⟩:=I.base.slot L o ho (I.ok.frf L hL) hL fun z=>I.ok.exfs L z hL
   exact ⟨hk,⟨L,_,hf,hn,e,hd⟩,ih (fun b hb=>hs b (by unfold frs; rw [List.filterMap_cons,hf]; exact List.mem_cons_of_mem _ hb)) hr⟩
 exact all X.outer (fun _ hb=>hb) I.ok.funs

theorem Inv.stack (I:Inv X pins σ H s):s.heap.FunFrames X.base X.stack:=by
 rcases I.ok.stk with e | ⟨e,hf⟩
 ·rw [e]; exact I.funs
 ·rw [e]
  obtain ⟨m,hn,_⟩:=I.loc
  refine .cons (by rw [I.ok.kind]; decide) hf hn ?_ I.funs
  exact Heap.get?_none_of_le (Nat.le_trans I.ok.bsz I.ok.above)
theorem Inv.stkSub (I:Inv X pins σ H s):∀ b ∈ frs X.stack,b ∈ X.env.locals :: X.fs:=fun b hb=>by
 rcases I.ok.stk with e | ⟨e,hf⟩
 ·rw [e] at hb; exact List.mem_cons_of_mem _ hb
 ·rw [e] at hb
  unfold frs at hb
  rw [List.filterMap_cons,hf] at hb
  exact hb
theorem Inv.stkFree (I:Inv X pins σ H s):∀ b ∈ frs X.stack,H b=none:=fun b hb=>by
 rcases List.mem_cons.mp (I.stkSub b hb) with e | hb
 ·rw [e]; exact I.free
 ·obtain ⟨_,o,ho,_⟩:=I.ok.funs.mem hb
  exact I.base.free b o ho (I.ok.frf b hb) fun z=>I.ok.exfs b z hb

theorem Inv.step {g':Array GenState} {t':Nat} {d':Drawn} {ch:List Addr} (I:Inv X pins σ H s)
  (hch:∀ b ∈ ch,(b ∈ X.ex\/X.s₀.heap.objs.size<=b)/\b ≠ X.env.locals/\(∀ x c,X.env.cells.lookup x=some c->c ≠ b)/\∀ p ∈ X.pn++pins,p.1 ≠ b)
  (keep:∀ b o,b ≠ X.env.locals->b ∉ X.fs->b ∉ ch->s.heap.get? b=some o->H b=none->h'.get? b=some o)
  (slot:∀ b o,b ≠ X.env.locals->b ∈ X.fs->b ∉ ch->s.heap.get? b=some o->H b=none->∃ sl,h'.get? b=some { o with slots:=sl }) (free:∀ b o,b ∉ ch->s.heap.get? b=some o->H b=none->H' b=none)
  (there:∀ b o,b ∉ ch->s.heap.get? b=some o->∃ o',h'.get? b=some o')
  (tups:∀ b xs,H b=some (.tup xs)->H' b=some (.tup xs)) (frzs:∀ b o u,H b=some (.frz o u)->H' b=some (.frz o u)) (tbls:∀ b ps,H b=some (.tbl ps)->∃ more,H' b=some (.tbl (ps++more)))
  (ns:∀ m,s.heap.Ns X.env.locals m->h'.Ns X.env.locals m) (hok:HOk X.prog X.w H' h') (hg:AllBare g') :
  Inv X pins σ H' { s with heap:=h',gens:=g',drawn:=d',toks:=t' }:=by
 have neL:∀ b o,X.s₀.heap.get? b=some o->b ≠ X.env.locals:=fun b o e=>Nat.ne_of_lt (Nat.lt_of_lt_of_le (Heap.lt_size e) I.ok.above)
 have neC:∀ b o,X.s₀.heap.get? b=some o->b ∉ X.ex->b ∉ ch:=fun b o e hx hb=>by
  rcases (hch b hb).1 with z | z
  ·exact hx z
  ·exact absurd (Nat.lt_of_lt_of_le (Heap.lt_size e) z) (Nat.lt_irrefl _)
 have cellK:∀ x c,X.env.cells.lookup x=some c->∀ v,s.heap.IsCell c v->h'.IsCell c v:=fun x c e v ⟨o,ho,hd⟩=>by
  have nch:c ∉ ch:=fun z=>(hch c z).2.2.1 x c e rfl
  by_cases hc:c ∈ X.fs
  ·obtain ⟨sl,q⟩:=slot c o (I.cne x c e) hc nch ho (I.freeC x c e)
   exact ⟨_,q,hd⟩
  ·exact ⟨o,keep c o (I.cne x c e) hc nch ho (I.freeC x c e),hd⟩
 refine ⟨I.ok,I.os,hg,⟨fun b o e n hb hx=>?_,fun b o e n hb hx=>?_,fun b o e n hx=>?_,fun b o e hx=>?_,fun b xs e=>tups b xs (I.base.tups b xs e),fun b o xs e=>frzs b o xs (I.base.frzs b o xs e),fun b ps e=>?_⟩,?_,fun x c e=>?_,?_,fun x c e=>?_,fun p hp=>?_,hok,I.len⟩
 ·exact keep b o (neL b o e) hb (neC b o e hx) (I.base.keep b o e n hb hx) (I.base.free b o e n hx)
 ·obtain ⟨sl,e1⟩:=I.base.slot b o e n hb hx
  obtain ⟨sl',e2⟩:=slot b _ (neL b o e) hb (neC b o e hx) e1 (I.base.free b o e n hx)
  exact ⟨sl',e2⟩
 ·obtain ⟨o',e1⟩:=I.base.there b o e hx
  exact free b o' (neC b o e hx) e1 (I.base.free b o e n hx)
 ·obtain ⟨o',e1⟩:=I.base.there b o e hx
  exact there b o' (neC b o e hx) e1
 ·obtain ⟨m1,e1⟩:=I.base.tbls b ps e
  obtain ⟨m2,e2⟩:=tbls b _ e1
  exact ⟨m1++m2,by rw [e2,Array.append_assoc]⟩
 ·obtain ⟨m,hn,hl⟩:=I.loc
  refine ⟨m,ns m hn,fun i x v e1 e2 e3=>?_⟩
  obtain ⟨u,r,l⟩:=hl i x v e1 e2 e3
  refine ⟨u,r,?_⟩
  rcases l with l | ⟨k,c,e,z⟩
  ·exact .inl l
  ·exact .inr ⟨k,c,e,cellK x c e _ z⟩
 ·obtain ⟨v,z⟩:=I.cell x c e
  exact ⟨v,cellK x c e v z⟩
 ·obtain ⟨m,⟨o,_,_,ho,_⟩,_⟩:=I.loc
  exact free _ o (fun z=>(hch _ z).2.1 rfl) ho I.free
 ·obtain ⟨v,o,ho,hd⟩:=I.cell x c e
  exact free c o (fun z=>(hch c z).2.2.1 x c e rfl) ho (I.freeC x c e)
 ·obtain ⟨e,n,ne,nf,d⟩:=I.pin p hp
  have nch:p.1 ∉ ch:=fun z=>(hch p.1 z).2.2.2 p hp rfl
  exact ⟨keep p.1 p.2 ne nf nch e n,free p.1 p.2 nch e n,ne,nf,d⟩
theorem Inv.un {t':Nat} (I:Inv X pins σ H s) (u:Un X.fs [] H H' s.heap h') (hok:HOk X.prog X.w H' h'):Inv X pins σ H' { s with heap:=h',toks:=t' }:=by
 obtain ⟨m,⟨o,es,ep,ho,r⟩,_⟩:=id I.loc
 obtain ⟨sl,hL⟩:=u.any ho I.free (by simp)
 exact I.step (g':=s.gens) (d':=s.drawn) (ch:=[]) (fun _ z=>nomatch z) (fun b o _ hb _ e n=>u.keep b o e n hb (by simp)) (fun b o _ hb _ e n=>u.slot b o e n hb (by simp)) (fun b o _ e n=>u.free b o e n (by simp)) (fun b o _ e=>u.there b o e (by simp)) u.tups u.frzs u.tbls (fun m' hm=>by
  obtain ⟨o',es',ep',ho',r'⟩:=hm
  rw [ho] at ho'; cases ho'
  exact ⟨_,es',ep',hL,r'⟩) hok I.bare
theorem Inv.call {g':Array GenState} {t':Nat} {d':Drawn} {ch:List Addr} (I:Inv X pins σ H s) (u:Un (frs X.stack) ch H H' s.heap h') (hok:HOk X.prog X.w H' h') (hg:AllBare g')
  (hch:∀ b ∈ ch,(b ∈ X.ex\/X.s₀.heap.objs.size<=b)/\b ≠ X.env.locals/\(∀ x c,X.env.cells.lookup x=some c->c ≠ b)/\∀ p ∈ X.pn++pins,p.1 ≠ b) :
  Inv X pins σ H' { s with heap:=h',gens:=g',drawn:=d',toks:=t' }:=by
 obtain ⟨m,⟨o,es,ep,ho,r⟩,_⟩:=id I.loc
 obtain ⟨sl,hL⟩:=u.any ho I.free fun z=>(hch _ z).2.1 rfl
 exact I.step (ch:=ch) hch (fun b o hL hb hc e n=>u.keep b o e n (fun z=>(List.mem_cons.mp (I.stkSub b z)).elim hL hb) hc) (fun b o _ _ hc e n=>u.any e n hc) (fun b o hc e n=>u.free b o e n hc) (fun b o hc e=>u.there b o e hc) u.tups u.frzs u.tbls (fun m' hm=>by
  obtain ⟨o',es',ep',ho',r'⟩:=hm
  rw [ho] at ho'; cases ho'
  exact ⟨_,es',ep',hL,r'⟩) hok hg
theorem Inv.turned {t':Nat} {it:Addr} (I:Inv X pins σ H s) (k:∀ b o,b ≠ it->s.heap.get? b=some o->h'.get? b=some o) (hn:H it=none) (hL:it ≠ X.env.locals)
  (h1:it ∈ X.ex\/X.s₀.heap.objs.size<=it) (h2:∀ x c,X.env.cells.lookup x=some c->c ≠ it) (h3:∀ p ∈ X.pn++pins,p.1 ≠ it):Inv X pins σ H { s with heap:=h',toks:=t' }:=by
 have nit:∀ b u,H b=some u->b ≠ it:=fun b u e z=>by rw [z,hn] at e; cases e
 refine I.step (g':=s.gens) (d':=s.drawn) (ch:=[it]) (fun b hb=>?_) (fun b o _ _ hc e _=>k b o (fun z=>hc (by simp [z])) e) (fun b o _ _ hc e _=>⟨o.slots,k b o (fun z=>hc (by simp [z])) e⟩) (fun _ _ _ _ n=>n)
  (fun b o hc e=>⟨o,k b o (fun z=>hc (by simp [z])) e⟩) (fun _ _ e=>e) (fun _ _ _ e=>e) (fun b ps e=>⟨#[],by rw [e]; simp⟩) (fun m hm=>?_) (fun b u e=>?_) I.bare
 ·have e:b=it:=by simpa using hb
  subst e
  exact ⟨h1,hL,h2,h3⟩
 ·obtain ⟨o,es,ep,ho,r⟩:=hm
  exact ⟨o,es,ep,k _ o (Ne.symm hL) ho,r⟩
 ·refine (I.hok b u e).stay (fun c v hc q=>k c v ?_ q) (fun _ q=>q) fun _ _ q=>q
  rcases hc with z | z
  ·rw [z]; exact nit b u e
  ·exact nit c _ z
theorem Inv.tok (I:Inv X pins σ H s) (t:Nat):Inv X pins σ H { s with toks:=t }:=I.un (h':=s.heap) (t':=t) Un.refl I.hok
theorem Inv.kept {t':Nat} (I:Inv X pins σ H s) (k:∀ b u,s.heap.get? b=some u->h'.get? b=some u):Inv X pins σ H { s with heap:=h',toks:=t' }:=I.un (Un.kept k) (I.hok.kept k)
theorem Inv.laid {a:Addr} {o:HO} {t':Nat} (I:Inv X pins σ H s) (k:∀ b u,s.heap.get? b=some u->h'.get? b=some u) (hp:s.heap.objs.size<=a) (new:ObjOk X.prog X.w (upd H a o) h' a o) :
  Inv X pins σ (upd H a o) { s with heap:=h',toks:=t' }:=I.un (Un.laid k hp (I.hok.fresh hp)) (I.hok.laid k hp new)
theorem Inv.write {x e:Addr} {o:HO} {t':Nat} (I:Inv X pins σ H s) (mu:Mut (H x)) (he:e=x\/H e=some (.own x)) (k:∀ b u,b ≠ e->s.heap.get? b=some u->h'.get? b=some u) (heo:∃ u,h'.get? e=some u)
  (new:ObjOk X.prog X.w (upd H x o) h' x o):Inv X pins σ (upd H x o) { s with heap:=h',toks:=t' }:=I.un (Un.write mu he k heo) (I.hok.write mu he k heo new)
theorem Inv.weak {σ':List (Option V)} (I:Inv X pins σ H s) (hl:σ'.length=σ.length) (w:∀ (i:Nat) v,σ'[i]?=some (some v)->σ[i]?=some (some v)):Inv X pins σ' H s :=
 ⟨I.ok,I.os,I.bare,I.base,let ⟨m,hn,hl'⟩:=I.loc; ⟨m,hn,fun i x v e1 e2 e3=>hl' i x v e1 (w i v e2) e3⟩,I.cell,I.free,I.freeC,I.pin,I.hok,hl.trans I.len⟩
theorem Inv.pins_of {pins':List (Addr × Obj)} (I:Inv X pins σ H s) (h:∀ p ∈ pins',s.heap.get? p.1=some p.2/\H p.1=none/\p.1 ≠ X.env.locals/\p.1 ∉ X.fs/\∀ v,p.2.data ≠ .cell v):Inv X pins' σ H s :=
 ⟨I.ok,I.os,I.bare,I.base,I.loc,I.cell,I.free,I.freeC,fun p hp=>(List.mem_append.mp hp).elim (fun z=>I.pin p (List.mem_append_left _ z)) (h p),I.hok,I.len⟩

theorem nodup_ix {N:List Str} (hN:N.Nodup) {i j:Nat} {x:Str} (a:N[i]?=some x) (b:N[j]?=some x):i=j:=by
 obtain ⟨h1,e1⟩:=List.getElem?_eq_some_iff.mp a
 obtain ⟨h2,e2⟩:=List.getElem?_eq_some_iff.mp b
 exact (List.getElem_inj hN).mp (e1.trans e2.symm)

theorem store_ok2 {M:Model} {A:Around} {E:Value->Shared->Prop} {i:Nat} {x:Str} {v:V} {u:Value} {Q:Unit->Shared->Prop} (I:Inv X pins σ H s) (hN:X.N.Nodup) (hi:X.N[i]?=some x) (hx:Loc X.env.scope x) (r:RelV v u)
  (h:∀ s',Inv X pins (σ.set i (some v)) H s'->(∃ a,Heap.SameBut a s.heap s'.heap/\(a=X.env.locals\/X.env.cells.lookup x=some a))->Q () s') (hf:X.fn x=true\/X.env.scope.names.lookup x=some .local:=by first | exact .inl rfl | exact .inr rfl | assumption):wpAny M A (storeName X.env x u) Q E s:=by
 obtain ⟨m,hn,hl⟩:=id I.loc
 have hcls:(X.env.scope.kind == .class || (X.env.scope.kind == .module && X.env.locals != X.env.globals))=false:=by rw [I.ok.kind]; rfl
 have hiσ:i < σ.length:=by rw [I.len]; exact (List.getElem?_eq_some_iff.mp hi).1
 have cne:=I.cne
 have tracked:∀ {a:Addr} {h':Heap},(∃ o,s.heap.get? a=some o/\H a=none)->Heap.SameBut a s.heap h'->HOk X.prog X.w H h':=fun {a h'} ha hs b ob e=>by
  obtain ⟨_,_,hfree⟩:=ha
  refine (I.hok b ob e).stay (fun c w' hc q=>(hs.2 c ?_).trans q) (fun _ q=>q) fun _ _ q=>q
  rintro rfl
  rcases hc with rfl | hc
  ·rw [hfree] at e; cases e
  ·rw [hfree] at hc; cases hc
 rcases hx with hk | hk
 ·refine wpAny_storeName_local hk hn (fun h' hn' hs=>?_) hcls
  obtain ⟨oL,_,_,hoL,_⟩:=id hn
  refine h _ ⟨I.ok,I.os,I.bare,⟨fun b o e n hb hx=>?_,fun b o e n hb hx=>?_,I.base.free,fun b o e hx=>?_,I.base.tups,I.base.frzs,I.base.tbls⟩,⟨_,hn',fun j y v' e1 e2 e3=>?_⟩,fun y c e=>?_,I.free,I.freeC,fun p hp=>?_,tracked ⟨oL,hoL,I.free⟩ hs,by simpa using I.len⟩ ⟨_,hs,.inl rfl⟩
  ·exact (hs.2 b (Nat.ne_of_lt (Nat.lt_of_lt_of_le (Heap.lt_size e) I.ok.above))).trans (I.base.keep b o e n hb hx)
  ·obtain ⟨sl,e1⟩:=I.base.slot b o e n hb hx
   exact ⟨sl,(hs.2 b (Nat.ne_of_lt (Nat.lt_of_lt_of_le (Heap.lt_size e) I.ok.above))).trans e1⟩
  ·obtain ⟨o',e1⟩:=I.base.there b o e hx
   exact ⟨o',(hs.2 b (Nat.ne_of_lt (Nat.lt_of_lt_of_le (Heap.lt_size e) I.ok.above))).trans e1⟩
  ·by_cases hj:j=i
   ·subst hj
    rw [hi] at e1; cases e1
    rw [List.getElem?_set_self hiσ] at e2
    cases e2
    exact ⟨u,r,.inl ⟨hk,by simp⟩⟩
   ·rw [List.getElem?_set_ne (Ne.symm hj)] at e2
    obtain ⟨u',r',q⟩:=hl j y v' e1 e2 e3
    refine ⟨u',r',?_⟩
    rcases q with ⟨k,e⟩ | ⟨k,c,e,z⟩
    ·refine .inl ⟨k,?_⟩
     have:y ≠ x:=fun e=>hj (nodup_ix hN e1 (e ▸ hi))
     simp [this,e]
    ·exact .inr ⟨k,c,e,z.sameBut hs (cne y c e)⟩
  ·obtain ⟨w',z⟩:=I.cell y c e
   exact ⟨w',z.sameBut hs (cne y c e)⟩
  ·obtain ⟨e,n,ne,nf,d⟩:=I.pin p hp
   exact ⟨(hs.2 p.1 ne).trans e,n,ne,nf,d⟩
 ·have hfn:X.fn x=true:=by
   rcases hf with z | z
   ·exact z
   ·rw [z] at hk; cases hk
  obtain ⟨c,hc⟩:=I.ok.has x (.inl hk)
  obtain ⟨w',z⟩:=I.cell x c hc
  refine wpAny_storeName_cell I.ok.kind hk hc z (fun h' hc' hs=>?_)
  obtain ⟨oc,hoc,hocd⟩:=id z
  refine h { s with heap:=h' } ⟨I.ok,I.os,I.bare,⟨fun b o e n hb hx=>?_,fun b o e n hb hx=>?_,I.base.free,fun b o e hx=>?_,I.base.tups,I.base.frzs,I.base.tbls⟩,⟨m,hn.sameBut hs (Ne.symm (cne x c hc)),fun j y v' e1 e2 e3=>?_⟩,fun y c' e=>?_,I.free,I.freeC,fun p hp=>?_,tracked ⟨oc,hoc,I.freeC x c hc⟩ hs,by simpa using I.len⟩ ⟨c,hs,.inr hc⟩
  ·exact (hs.2 b (Nat.ne_of_lt (Nat.lt_of_lt_of_le (Heap.lt_size e) (I.ok.cab x c hfn hc)))).trans (I.base.keep b o e n hb hx)
  ·obtain ⟨sl,e1⟩:=I.base.slot b o e n hb hx
   exact ⟨sl,(hs.2 b (Nat.ne_of_lt (Nat.lt_of_lt_of_le (Heap.lt_size e) (I.ok.cab x c hfn hc)))).trans e1⟩
  ·obtain ⟨o',e1⟩:=I.base.there b o e hx
   exact ⟨o',(hs.2 b (Nat.ne_of_lt (Nat.lt_of_lt_of_le (Heap.lt_size e) (I.ok.cab x c hfn hc)))).trans e1⟩
  ·by_cases hj:j=i
   ·subst hj
    rw [hi] at e1; cases e1
    rw [List.getElem?_set_self hiσ] at e2
    cases e2
    exact ⟨u,r,.inr ⟨.inl hk,c,hc,hc'⟩⟩
   ·rw [List.getElem?_set_ne (Ne.symm hj)] at e2
    obtain ⟨u',r',q⟩:=hl j y v' e1 e2 e3
    refine ⟨u',r',?_⟩
    rcases q with q | ⟨k,c',e,z'⟩
    ·exact .inl q
    ·refine .inr ⟨k,c',e,z'.sameBut hs ?_⟩
     rintro rfl
     exact hj (nodup_ix hN e1 (I.ok.inj _ _ _ e hc ▸ hi))
  ·by_cases hcc:c'=c
   ·subst hcc; exact ⟨_,hc'⟩
   ·obtain ⟨w2,z2⟩:=I.cell y c' e
    exact ⟨w2,z2.sameBut hs hcc⟩
  ·obtain ⟨e,n,ne,nf,d⟩:=I.pin p hp
   refine ⟨(hs.2 p.1 ?_).trans e,n,ne,nf,d⟩
   intro q
   rw [q,hoc] at e
   have q':oc=p.2:=Option.some.inj e
   exact d w' (by rw [<-q']; exact hocd)
theorem store_ok {M:Model} {A:Around} {E:Value->Shared->Prop} {i:Nat} {x:Str} {v:V} {u:Value} {Q:Unit->Shared->Prop} (I:Inv X pins σ H s) (hN:X.N.Nodup) (hi:X.N[i]?=some x) (hx:Loc X.env.scope x) (r:RelV v u)
  (h:∀ s',Inv X pins (σ.set i (some v)) H s'->Q () s') (hf:X.fn x=true\/X.env.scope.names.lookup x=some .local:=by first | exact .inl rfl | exact .inr rfl | assumption):wpAny M A (storeName X.env x u) Q E s :=
 store_ok2 I hN hi hx r (fun s' I' _=>h s' I') hf
theorem Inv.call' {s':Shared} {ch:List Addr} (I:Inv X pins σ H s) (ho:s'.os=s.os) (u:Un (frs X.stack) ch H H' s.heap s'.heap) (hok:HOk X.prog X.w H' s'.heap) (hg:AllBare s'.gens)
  (hch:∀ b ∈ ch,(b ∈ X.ex\/X.s₀.heap.objs.size<=b)/\b ≠ X.env.locals/\(∀ x c,X.env.cells.lookup x=some c->c ≠ b)/\∀ p ∈ X.pn++pins,p.1 ≠ b):Inv X pins σ H' s':=by
 obtain ⟨h',g',d',t',o'⟩:=s'
 have e:o'=s.os:=ho
 subst e
 exact I.call (g':=g') (t':=t') (d':=d') u hok hg hch
end

abbrev XK:=Value->Option Addr->Hp->Prop
abbrev St:=List (Option V)
abbrev VK:=V->Hp->Prop
abbrev TE:=St->Hp->VK->Prop
abbrev TT:=St->Hp->(Bool->Hp->Prop)->Prop
abbrev TA:=St->Hp->(List V->Hp->Prop)->Prop
structure Ends where
 nx:St->Hp->Prop
 rt:VK
 bk:St->Hp->Prop:=fun _ _=>False
 ct:St->Hp->Prop:=fun _ _=>False
abbrev TS:=Ends->St->Hp->Prop

noncomputable def EP (X:Cx) (pins:List (Addr × Obj)) (σ:St) (Q:VK) (u:Value) (s':Shared):Prop:=∃ v H',Inv X pins σ H' s'/\RelV v u/\Q v H'
noncomputable def TP (X:Cx) (pins:List (Addr × Obj)) (σ:St) (Q:Bool->Hp->Prop) (b:Bool) (s':Shared):Prop:=∃ H',Inv X pins σ H' s'/\Q b H'
noncomputable def AP (X:Cx) (pins:List (Addr × Obj)) (σ:St) (Q:List V->Hp->Prop) (us:List Value) (s':Shared):Prop:=∃ vs H',Inv X pins σ H' s'/\Vals vs us/\Q vs H'
noncomputable def SP (X:Cx) (pins:List (Addr × Obj)) (D:Ends) (f:Flow) (s':Shared):Prop :=
 match f with
 | .next=>∃ σ' H',Inv X pins σ' H' s'/\D.nx σ' H'
 | .brk=>∃ σ' H',Inv X pins σ' H' s'/\D.bk σ' H'
 | .cont=>∃ σ' H',Inv X pins σ' H' s'/\D.ct σ' H'
 | .ret u=>∃ v σ' H',Inv X pins σ' H' s'/\RelV v u/\D.rt v H'

noncomputable def PE (X:Cx) (e:Expr) (t:TE):Prop :=
 ∀ (pins:List (Addr × Obj)) (s:Shared) (σ:St) (H:Hp) (Q:VK),Inv X pins σ H s->t σ H Q->wpAny (model X.prog X.w) X.A (eval e X.env) (EP X pins σ Q) X.xe s
noncomputable def PT (X:Cx) (e:Expr) (t:TT):Prop :=
 ∀ (pins:List (Addr × Obj)) (s:Shared) (σ:St) (H:Hp) (Q:Bool->Hp->Prop),Inv X pins σ H s->t σ H Q->wpAny (model X.prog X.w) X.A (isTrue e X.env (eval e X.env)) (TP X pins σ Q) X.xe s
noncomputable def PW (X:Cx) (e:Expr) (t:TT):Prop :=
 ∀ (whole:Sem Value) (pins:List (Addr × Obj)) (s:Shared) (σ:St) (H:Hp) (Q:Bool->Hp->Prop),Inv X pins σ H s->t σ H Q->wpAny (model X.prog X.w) X.A (isTrue e X.env whole) (TP X pins σ Q) X.xe s
theorem PW.pt {X:Cx} {e:Expr} {t:TT} (h:PW X e t):PT X e t:=h _
noncomputable def PA (X:Cx) (es:List Expr) (t:TA):Prop :=
 ∀ (pos:Pos) (pins:List (Addr × Obj)) (s:Shared) (σ:St) (H:Hp) (Q:List V->Hp->Prop),Inv X pins σ H s->t σ H Q->wpAny (model X.prog X.w) X.A (spliced (backTo pos (starEach es X.env))) (AP X pins σ Q) X.xe s
noncomputable def PS (X:Cx) (st:Stmt) (t:TS):Prop :=
 ∀ (pins:List (Addr × Obj)) (s:Shared) (σ:St) (H:Hp) (D:Ends),Inv X pins σ H s->t D σ H->wpAny (model X.prog X.w) X.A (exec st X.env) (SP X pins D) X.xe s
noncomputable def PSs (X:Cx) (st:List Stmt) (t:TS):Prop :=
 ∀ (pins:List (Addr × Obj)) (s:Shared) (σ:St) (H:Hp) (D:Ends),Inv X pins σ H s->t D σ H->wpAny (model X.prog X.w) X.A (execs st X.env) (SP X pins D) X.xe s
theorem thn {α:Type} {t:Sem α} {Q Q':α->Shared->Prop} {M:Model} {A:Around} {E:Value->Shared->Prop} {s:Shared} (h:wpAny M A t Q E s) (hQ:∀ a s,Q a s->Q' a s):wpAny M A t Q' E s:=wpAny_mono h hQ fun _ _ x=>x
end L2

namespace L2
open PySem PySem.Spec PyProof.Rows
section
variable {X:Cx}


noncomputable def tVar (i:Nat):TE:=fun σ H Q=>∃ v,σ[i]?=some (some v)/\Q v H
noncomputable def tC (v:V):TE:=fun _ H Q=>Q v H
theorem pe_var {i:Nat} {x:Str} {pos:Pos} (hN:X.N[i]?=some x) (hv:Vis X.env.scope x) (hd:(x == ("__debug__" : Str))=false:=by decide) (hcd:(x == ("__classdict__" : Str))=false:=by decide):PE X (.Name x pos) (tVar i):=by
 intro pins s σ H Q I h
 obtain ⟨v,e,h⟩:=h
 obtain ⟨m,hn,hl⟩:=I.loc
 obtain ⟨u,r,l⟩:=hl i x v hN e hv
 have fin:EP X pins σ Q u s:=⟨v,H,I,r,h⟩
 rcases l with ⟨hk,hm⟩ | ⟨hk,c,hc,hcell⟩
 ·exact wpAny_Name (wpAny_loadName_local I.ok.kind hk hn hm fin) hd
 ·rcases hk with hk | hk
  ·exact wpAny_Name (wpAny_loadName_cell I.ok.kind hk hc hcell fin) hd
  ·exact wpAny_Name (wpAny_loadName_free I.ok.kind hk hc hcell fin hcd) hd
theorem pe_int {i j pos}:PE X (.Constant (.int i) j pos) (tC (.int i)):=fun _ _ _ H _ I h=>wpAny_Constant_int ⟨.int i,H,I.tok _,⟨_,rfl⟩,h⟩
theorem pe_bl {b j pos}:PE X (.Constant (.bool b) j pos) (tC (.bl b)):=fun _ _ _ H _ I h=>Constant_bool ⟨.bl b,H,I,rfl,h⟩
theorem pe_non {j pos}:PE X (.Constant .none j pos) (tC .non):=fun _ _ _ H _ I h=>Constant_none ⟨.non,H,I,rfl,h⟩
theorem pe_str {x j pos}:PE X (.Constant (.str x) j pos) (tC (.str x)):=fun _ _ _ H _ I h=>Calls.Constant_str ⟨.str x,H,I.tok _,⟨_,rfl⟩,h⟩

noncomputable def Gl (X:Cx) (x:Str):Prop:=X.env.kindOf x=some .globalImplicit
theorem ld_glob {E:Value->Shared->Prop} {pins:List (Addr × Obj)} {s:Shared} {σ:St} {H:Hp} {x:Str} {u:Value} {pos:Pos} {Q:Value->Shared->Prop} (I:Inv X pins σ H s) (hg:Gl X x) (hm:X.mg x=some u) (h:Q u s)
  (hd:(x == ("__debug__" : Str))=false:=by decide):wpAny (model X.prog X.w) X.A (eval (.Name x pos) X.env) Q E s :=
 Calls.Name_function_global I.ok.kind hg (Calls.loadGlobal_global (by rw [I.ok.glob]; exact I.mod.glob.keeps I.bk) hm h) hd
theorem ld_blt {E:Value->Shared->Prop} {pins:List (Addr × Obj)} {s:Shared} {σ:St} {H:Hp} {x:Str} {u:Value} {pos:Pos} {Q:Value->Shared->Prop} (I:Inv X pins σ H s) (hg:Gl X x) (hm:X.mg x=none) (hv:bootBuiltins x=some u) (h:Q u s)
  (hn:x ≠ "__name__" := by decide) (hd:(x == ("__debug__" : Str))=false:=by decide):wpAny (model X.prog X.w) X.A (eval (.Name x pos) X.env) Q E s:=by
 obtain ⟨mb,h1,h2⟩:=I.mod.blt
 exact Calls.Name_function_global I.ok.kind hg (Calls.loadGlobal_builtin (by rw [I.ok.glob]; exact I.mod.glob.keeps I.bk) hm (by rw [I.ok.blt]; exact h1.keeps I.bk) ((h2 x hn).trans hv) h) hd
theorem pe_glob {x:Str} {v:V} {u:Value} {pos:Pos} (hg:Gl X x) (hm:X.mg x=some u) (r:RelV v u) (hd:(x == ("__debug__" : Str))=false:=by decide):PE X (.Name x pos) (tC v) :=
 fun _ _ _ H _ I h=>ld_glob I hg hm ⟨v,H,I,r,h⟩ hd
theorem pe_bltn {x:Str} {v:V} {u:Value} {pos:Pos} (hg:Gl X x) (hm:X.mg x=none) (hv:bootBuiltins x=some u) (r:RelV v u) (hn:x ≠ "__name__" := by decide) (hd:(x == ("__debug__" : Str))=false:=by decide):PE X (.Name x pos) (tC v) :=
 fun _ _ _ H _ I h=>ld_blt I hg hm hv ⟨v,H,I,r,h⟩ hn hd

variable {a b:Expr} {ta tb:TE} {pos:Pos}

noncomputable def PC (X:Cx) (op:CmpOp) (a b:Expr) (t:TE):Prop :=
 ∀ (pins:List (Addr × Obj)) (s:Shared) (σ:St) (H:Hp) (Q:VK),Inv X pins σ H s->t σ H Q ->
  wpAny (model X.prog X.w) X.A (eval a X.env) (fun v s₁=>wpAny (model X.prog X.w) X.A (eval b X.env) (fun u s₂=>wpAny (model X.prog X.w) X.A (compareOp op v u) (EP X pins σ Q) X.xe s₂) X.xe s₁) X.xe s
theorem nobehind (b:Expr) {op:CmpOp} (h:op ≠ .In) (h2:op ≠ .NotIn):behindInMarks op b=false:=by
 have e1:(op == CmpOp.In)=false:=by cases op <;> first | rfl | exact absurd rfl h
 have e2:(op == CmpOp.NotIn)=false:=by cases op <;> first | rfl | exact absurd rfl h2
 cases b <;> simp [behindInMarks,e1,e2]
noncomputable def tB (t:TE):TT:=fun σ H Q=>t σ H fun x H1=>∃ c,x=.bl c/\Q c H1
theorem pt_cmp {op:CmpOp} {t:TE} (h:PC X op a b t) (h1:behindInMarks op b=false:=by first | exact nobehind _ (by decide) (by decide) | rfl):PT X (.Compare a [op] [b] pos) (tB t):=by
 intro pins s σ H Q I hw
 refine wpAny_isTrue_Compare1 (thn (h pins s σ H _ I hw) fun v s1 h1=>thn h1 fun u s2 h2=>thn h2 fun c s3 ⟨x,H1,I1,r1,q1⟩=>?_) h1
 obtain ⟨d,rfl,q⟩:=q1
 cases r1
 exact wpAny_truthy_bool ⟨H1,I1,q⟩
theorem pt_val {e:Expr} {t:TE} (h:PE X e t) (he:∀ whole,isTrue e X.env whole=(do let v <-whole; standAt e.pos; holding [v] (truthy v)):=by intro _; rfl):PT X e (tB t):=by
 intro pins s σ H Q I hw
 refine isTrue_plain (thn (h pins s σ H _ I hw) fun v s1 ⟨x,H1,I1,r1,q1⟩=>?_) (he _)
 obtain ⟨d,rfl,q⟩:=q1
 cases r1
 exact wpAny_truthy_bool ⟨H1,I1,q⟩

variable {tA tB':TT} {rest:List Expr}
noncomputable def tAnd (t u:TT):TT:=fun σ H Q=>t σ H fun c H1=>if c=true then u σ H1 Q else Q false H1
noncomputable def tOr (t u:TT):TT:=fun σ H Q=>t σ H fun c H1=>if c=true then Q true H1 else u σ H1 Q
noncomputable def tNot (t:TT):TT:=fun σ H Q=>t σ H fun c H1=>Q (!c) H1
theorem pw_and1 (ha:PT X a tA):PW X (.BoolOp .And [a] pos) tA:=by
 intro wh pins s σ H Q I h
 refine isTrue_and (thn (ha pins s σ H Q I h) fun c s1 e=>?_)
 cases c with
 | true=>exact isTrue_and_nil e
 | false=>exact e
theorem pw_or1 (ha:PT X a tA):PW X (.BoolOp .Or [a] pos) tA:=by
 intro wh pins s σ H Q I h
 refine isTrue_or (thn (ha pins s σ H Q I h) fun c s1 e=>?_)
 cases c with
 | false=>exact isTrue_or_nil e
 | true=>exact e
theorem pw_and (ha:PT X a tA) (hb:PW X (.BoolOp .And (b :: rest) pos) tB'):PW X (.BoolOp .And (a :: b :: rest) pos) (tAnd tA tB'):=by
 intro wh pins s σ H Q I h
 refine isTrue_and (thn (ha pins s σ H _ I h) fun c s1 ⟨H1,I1,q1⟩=>?_)
 cases c with
 | true=>exact hb wh pins s1 σ H1 Q I1 q1
 | false=>exact ⟨H1,I1,q1⟩
theorem pw_or (ha:PT X a tA) (hb:PW X (.BoolOp .Or (b :: rest) pos) tB'):PW X (.BoolOp .Or (a :: b :: rest) pos) (tOr tA tB'):=by
 intro wh pins s σ H Q I h
 refine isTrue_or (thn (ha pins s σ H _ I h) fun c s1 ⟨H1,I1,q1⟩=>?_)
 cases c with
 | true=>exact ⟨H1,I1,q1⟩
 | false=>exact hb wh pins s1 σ H1 Q I1 q1
theorem pt_not (ha:PT X a tA):PT X (.UnaryOp .Not a pos) (tNot tA):=by
 intro pins s σ H Q I h
 exact isTrue_not (ha pins s σ H (fun c H1=>Q (!c) H1) I h)
noncomputable def tAndV (ta tb:TE):TE:=fun σ H Q=>ta σ H fun x H1=>∃ c,x=.bl c/\if c=true then tb σ H1 Q else Q (.bl false) H1
noncomputable def tOrV (ta tb:TE):TE:=fun σ H Q=>ta σ H fun x H1=>∃ c,x=.bl c/\if c=true then Q (.bl true) H1 else tb σ H1 Q
noncomputable def tNotV (ta:TE):TE:=fun σ H Q=>ta σ H fun x H1=>∃ c,x=.bl c/\Q (.bl (!c)) H1
theorem pe_one {op} {t:TE} (h:PE X a t):PE X (.BoolOp op [a] pos) t:=fun pins s σ H Q I hw=>BoolOp_one (h pins s σ H Q I hw)
theorem pe_and (ha:PE X a ta) (hb:PE X (.BoolOp .And (b :: rest) pos) tb):PE X (.BoolOp .And (a :: b :: rest) pos) (tAndV ta tb):=by
 intro pins s σ H Q I h
 refine BoolOp_and (thn (ha pins s σ H _ I h) fun v s1 ⟨x,H1,I1,r1,q1⟩=>?_)
 obtain ⟨c,rfl,q1⟩:=q1
 cases r1
 refine wpAny_truthy_bool ?_
 cases c with
 | true=>exact hb pins s1 σ H1 Q I1 q1
 | false=>exact ⟨.bl false,H1,I1,rfl,q1⟩
theorem pe_or (ha:PE X a ta) (hb:PE X (.BoolOp .Or (b :: rest) pos) tb):PE X (.BoolOp .Or (a :: b :: rest) pos) (tOrV ta tb):=by
 intro pins s σ H Q I h
 refine BoolOp_or (thn (ha pins s σ H _ I h) fun v s1 ⟨x,H1,I1,r1,q1⟩=>?_)
 obtain ⟨c,rfl,q1⟩:=q1
 cases r1
 refine wpAny_truthy_bool ?_
 cases c with
 | false=>exact hb pins s1 σ H1 Q I1 q1
 | true=>exact ⟨.bl true,H1,I1,rfl,q1⟩
noncomputable def tIf (t:TT) (ta tb:TE):TE:=fun σ H Q=>t σ H fun c H1=>if c=true then ta σ H1 Q else tb σ H1 Q
theorem pe_ifExp {c:Expr} (hc:PT X c tA) (ha:PE X a ta) (hb:PE X b tb):PE X (.IfExp c a b pos) (tIf tA ta tb):=by
 intro pins s σ H Q I h
 refine wpAny_IfExp (thn (hc pins s σ H _ I h) fun d s1 ⟨H1,I1,q1⟩=>?_)
 cases d with
 | true=>exact ha pins s1 σ H1 Q I1 q1
 | false=>exact hb pins s1 σ H1 Q I1 q1
end
end L2

namespace L2
open PySem PySem.Spec PyProof.Rows

noncomputable def SqL (K:PySem.W.Frag) (H:Hp) (a:Addr) (xs:List V):Prop :=
 Rd H a (.lst xs) \/
  ∃ (o:Obj) (its:Array Value) (n:Nat),K.lookup a=some o/\o.cls=.type "list" /\ o.dict=none/\o.data=.seq its n/\its.size<=sizeLine/\Vals xs its.toList
noncomputable def SqT (K:PySem.W.Frag) (H:Hp) (a:Addr) (xs:List V):Prop :=
 Rd H a (.tup xs) \/
  ∃ (o:Obj) (its:Array Value) (n:Nat),K.lookup a=some o/\o.cls=.type "tuple" /\ o.data=.seq its n/\its.size<=sizeLine/\Vals xs its.toList
noncomputable def absV:Value->Option V
 | .none=>some .non
 | .bool b=>some (.bl b)
 | .int i _=>some (.int i)
 | .str x _=>some (.str x)
 | .bytes b _=>some (.byt b)
 | .float b _=>some (.flt b)
 | .ref a=>some (.ref a)
 | .type n=>some (.ty n)
 | _=>none
theorem RelV.abs {x:V} {u:Value} (r:RelV x u):absV u=some x:=by
 cases x with
 | non=>cases r; rfl
 | bl _=>cases r; rfl
 | int _=>obtain ⟨t,rfl⟩:=r; rfl
 | str _=>obtain ⟨t,rfl⟩:=r; rfl
 | byt _=>obtain ⟨t,rfl⟩:=r; rfl
 | flt _=>obtain ⟨t,rfl⟩:=r; rfl
 | ref _=>cases r; rfl
 | ty _=>cases r; rfl
theorem RelV.inj {x y:V} {u:Value} (r:RelV x u) (q:RelV y u):x=y:=Option.some.inj (r.abs.symm.trans q.abs)
theorem Vals.inj:∀ {xs ys:List V} {us:List Value},Vals xs us->Vals ys us->xs=ys
 | _,_,_,.nil,.nil=>rfl
 | _,_,_,.cons r t,.cons r' t'=>by rw [r.inj r',Vals.inj t t']
section
variable {X:Cx} {pins:List (Addr × Obj)} {σ:St} {H:Hp} {s:Shared} {a:Addr} {xs ys:List V}
theorem SqL.of {K:PySem.W.Frag} (h:H a=some (.lst xs)):SqL K H a xs:=.inl (.inl h)
theorem SqT.of {K:PySem.W.Frag} (h:H a=some (.tup xs)):SqT K H a xs:=.inl (.inl h)
theorem Inv.list (I:Inv X pins σ H s) (h:SqL X.K H a xs):∃ its:List Value,Vals xs its/\PlainL s.heap a its.toArray/\xs.length<=sizeLine:=by
 rcases h with h | ⟨o,its,n,hk,hc,hd,hs,hz,r⟩
 ·obtain ⟨z,its,n,r,e⟩:=h.ok I.hok
  exact ⟨its,r,⟨_,n,e,rfl,rfl,rfl⟩,z⟩
 ·refine ⟨its.toList,r,⟨o,n,I.kIn a o hk,hc,hd,by simpa using hs⟩,?_⟩
  have e:=r.length
  simp only [Array.length_toList] at e
  omega
theorem Inv.tuple (I:Inv X pins σ H s) (h:SqT X.K H a xs):∃ its:List Value,Vals xs its/\IsTup s.heap a its.toArray/\xs.length<=sizeLine:=by
 rcases h with h | ⟨o,its,n,hk,hc,hs,hz,r⟩
 ·obtain ⟨z,its,r,p⟩:=h.ok I.hok
  exact ⟨its,r,p,z⟩
 ·refine ⟨its.toList,r,⟨o,I.kIn a o hk,hc,n,by simpa using hs⟩,?_⟩
  have e:=r.length
  simp only [Array.length_toList] at e
  omega
theorem Inv.list_inj (I:Inv X pins σ H s) (h:SqL X.K H a xs) (h':SqL X.K H a ys):xs=ys:=by
 obtain ⟨its,r,⟨o,n,e,_,_,d⟩,_⟩:=I.list h
 obtain ⟨its',r',⟨o',n',e',_,_,d'⟩,_⟩:=I.list h'
 rw [e] at e'; cases e'
 rw [d] at d'
 injection d' with d1 _
 have:its=its':=by simpa using congrArg Array.toList d1
 subst this
 exact r.inj r'
theorem Inv.tuple_inj (I:Inv X pins σ H s) (h:SqT X.K H a xs) (h':SqT X.K H a ys):xs=ys:=by
 obtain ⟨its,r,⟨o,e,_,n,d⟩,_⟩:=I.tuple h
 obtain ⟨its',r',⟨o',e',_,n',d'⟩,_⟩:=I.tuple h'
 rw [e] at e'; cases e'
 rw [d] at d'
 injection d' with d1 _
 have:its=its':=by simpa using congrArg Array.toList d1
 subst this
 exact r.inj r'
end

abbrev Cx.wish (X:Cx) (E:Value->Shared->Prop):Cx:={ X with xe:=E }
abbrev Cx.nox (X:Cx):Cx:=X.wish fun _ _=>False
theorem Cx.Ok.wish {X:Cx} (ok:X.Ok) (E:Value->Shared->Prop):(X.wish E).Ok :=
 ⟨ok.mod,ok.kind,ok.glob,ok.blt,ok.above,ok.inj,ok.has,ok.cab,ok.hd,ok.frames,ok.stk,ok.exf,ok.bs,ok.bsz,ok.noex,ok.exfs,ok.funs,ok.frf⟩
theorem Cx.Ok.unwish {X:Cx} {E:Value->Shared->Prop} (ok:(X.wish E).Ok):X.Ok :=
 ⟨ok.mod,ok.kind,ok.glob,ok.blt,ok.above,ok.inj,ok.has,ok.cab,ok.hd,ok.frames,ok.stk,ok.exf,ok.bs,ok.bsz,ok.noex,ok.exfs,ok.funs,ok.frf⟩
section
variable {X:Cx} {pins:List (Addr × Obj)} {σ:St} {H:Hp} {s:Shared} {E:Value->Shared->Prop}
theorem Inv.wish (I:Inv X pins σ H s) (E:Value->Shared->Prop):Inv (X.wish E) pins σ H s:=⟨I.ok.wish E,I.os,I.bare,I.base,I.loc,I.cell,I.free,I.freeC,I.pin,I.hok,I.len⟩
theorem Inv.unwish (I:Inv (X.wish E) pins σ H s):Inv X pins σ H s:=⟨I.ok.unwish,I.os,I.bare,I.base,I.loc,I.cell,I.free,I.freeC,I.pin,I.hok,I.len⟩
theorem SP.unwish {D:Ends} {f:Flow} {s':Shared} (h:SP (X.wish E) pins D f s'):SP X pins D f s':=by
 cases f with
 | next=>obtain ⟨σ',H',I,q⟩:=h; exact ⟨σ',H',I.unwish,q⟩
 | brk=>obtain ⟨σ',H',I,q⟩:=h; exact ⟨σ',H',I.unwish,q⟩
 | cont=>obtain ⟨σ',H',I,q⟩:=h; exact ⟨σ',H',I.unwish,q⟩
 | ret u=>obtain ⟨v,σ',H',I,r,q⟩:=h; exact ⟨v,σ',H',I.unwish,r,q⟩
theorem PSs.nox {st:List Stmt} {t:TS} (h:PSs X.nox st t):PSs X st t:=fun pins s σ H D I hw =>
 wpAny_mono (h pins s σ H D (I.wish _) hw) (fun _ _ q=>q.unwish) fun _ _ z=>False.elim z
end

section
variable {X:Cx} {st:Stmt} {rest:List Stmt} {t u:TS} {e:Expr} {te:TE} {pos:Pos}
noncomputable def tNext:TS:=fun D σ H=>D.nx σ H
noncomputable def tSeq (t u:TS):TS:=fun D σ H=>t { D with nx:=u D } σ H
theorem pss_nil:PSs X [] tNext:=fun _ _ σ H _ I h=>wpAny_execs_nil ⟨σ,H,I,h⟩
theorem pss_cons (h1:PS X st t) (h2:PSs X rest u):PSs X (st :: rest) (tSeq t u):=by
 intro pins s σ H D I h
 refine wpAny_execs_cons (thn (h1 pins s σ H { D with nx:=u D } I h) fun f s1 q=>?_)
 cases f with
 | next =>
  obtain ⟨σ',H',I',q⟩:=q
  exact h2 pins s1 σ' H' D I' q
 | ret v=>exact q
 | brk=>exact q
 | cont=>exact q
theorem pss_one (h1:PS X st t):PSs X [st] t:=by
 intro pins s σ H D I h
 refine wpAny_execs_cons (thn (h1 pins s σ H D I h) fun f s1 q=>?_)
 cases f with
 | next=>exact wpAny_execs_nil q
 | ret v=>exact q
 | brk=>exact q
 | cont=>exact q
theorem Inv.quiet {pins:List (Addr × Obj)} {σ:St} {H:Hp} {s:Shared} (I:Inv X pins σ H s):interactive X.env=false:=by simp [interactive,I.ok.kind]
noncomputable def tDrop (te:TE):TS:=fun D σ H=>te σ H fun _ H1=>D.nx σ H1
theorem ps_expr (he:PE X e te) (hs:swapsWith e none pos.line X.env=pure false:=by rfl):PS X (.Expr e pos) (tDrop te):=by
 intro pins s σ H D I h
 exact wpAny_Expr_any (thn (he pins s σ H _ I h) fun v s1 ⟨x,H1,I1,r1,q1⟩=>⟨σ,H1,I1,q1⟩) I.quiet hs
noncomputable def tRet (te:TE):TS:=fun D σ H=>te σ H D.rt
theorem ps_ret (he:PE X e te):PS X (.Return (some e) pos) (tRet te):=by
 intro pins s σ H D I h
 exact wpAny_Return_some (thn (he pins s σ H _ I h) fun v s1 ⟨x,H1,I1,r1,q1⟩=>⟨x,σ,H1,I1,r1,q1⟩)
noncomputable def tIfS (c:TT) (t u:TS):TS:=fun D σ H=>c σ H fun b H1=>if b=true then t D σ H1 else u D σ H1
theorem ps_if {c:Expr} {a b:List Stmt} {tc:TT} (hc:PT X c tc) (ha:PSs X a t) (hb:PSs X b u):PS X (.If c a b pos) (tIfS tc t u):=by
 intro pins s σ H D I h
 refine wpAny_If (thn (hc pins s σ H _ I h) fun d s1 ⟨H1,I1,q1⟩=>?_)
 cases d with
 | true=>exact ha pins s1 σ H1 D I1 q1
 | false=>exact hb pins s1 σ H1 D I1 q1
end

abbrev TG:=V->St->Hp->(St->Hp->Prop)->Prop
abbrev TGs:=List V->St->Hp->(St->Hp->Prop)->Prop
noncomputable def PG (X:Cx) (target:Expr) (t:TG):Prop :=
 ∀ (pins:List (Addr × Obj)) (s:Shared) (σ:St) (H:Hp) (v:V) (u:Value) (Q:St->Hp->Prop),Inv X pins σ H s->RelV v u->t v σ H Q ->
  wpAny (model X.prog X.w) X.A (assign target X.env u) (fun _ s'=>∃ σ' H',Inv X pins σ' H' s'/\Q σ' H') X.xe s
noncomputable def PGs (X:Cx) (ts:List Expr) (t:TGs):Prop :=
 ∀ (pins:List (Addr × Obj)) (s:Shared) (σ:St) (H:Hp) (vs:List V) (us:List Value) (Q:St->Hp->Prop),Inv X pins σ H s->Vals vs us->t vs σ H Q ->
  wpAny (model X.prog X.w) X.A (assignInOrder ((assignEach ts X.env).map (·.2)) us) (fun _ s'=>∃ σ' H',Inv X pins σ' H' s'/\Q σ' H') X.xe s
abbrev TSet:=V->V->V->Hp->(Hp->Prop)->Prop
noncomputable def PSet (X:Cx) (t:TSet):Prop :=
 ∀ (pins:List (Addr × Obj)) (s:Shared) (σ:St) (H:Hp) (o i v:V) (ov iv u:Value) (Q:Hp->Prop),Inv X pins σ H s->RelV o ov->RelV i iv->RelV v u->t o i v H Q ->
  wpAny (model X.prog X.w) X.A (setItem ov iv u) (fun _ s'=>∃ H',Inv X pins σ H' s'/\Q H') X.xe s
abbrev TIp:=V->V->Hp->VK->Prop
noncomputable def PIp (X:Cx) (op:Operator) (t:TIp):Prop :=
 ∀ (pins:List (Addr × Obj)) (s:Shared) (σ:St) (H:Hp) (x y:V) (v u:Value) (Q:VK),Inv X pins σ H s->RelV x v->RelV y u->t x y H Q ->
  wpAny (model X.prog X.w) X.A (inplaceOp op v u) (EP X pins σ Q) X.xe s
section
variable {X:Cx} {pos:Pos}
noncomputable def gName (i:Nat):TG:=fun v σ H Q=>Q (σ.set i (some v)) H
theorem pg_name {i:Nat} {x:Str} (hN:X.N.Nodup) (hi:X.N[i]?=some x) (hx:Loc X.env.scope x) (hf:X.fn x=true\/X.env.scope.names.lookup x=some .local:=by first | exact .inl rfl | exact .inr rfl | assumption):PG X (.Name x pos) (gName i):=by
 intro pins s σ H v u Q I r h
 exact wpAny_assign_Name (store_ok I hN hi hx r (fun s' I'=>⟨_,H,I',h⟩) hf)
noncomputable def gNil:TGs:=fun vs σ H Q=>vs=[]/\Q σ H
noncomputable def gCons (t:TG) (u:TGs):TGs:=fun vs σ H Q=>∃ v r,vs=v :: r/\t v σ H fun σ' H'=>u r σ' H' Q
theorem pgs_nil:PGs X [] gNil:=by
 intro pins s σ H vs us Q I r h
 obtain ⟨e,h⟩:=h
 subst e
 cases r
 exact assignInOrder_nil ⟨σ,H,I,h⟩
theorem pgs_cons {e:Expr} {es:List Expr} {t:TG} {u:TGs} (h1:PG X e t) (h2:PGs X es u)
  (hs:(assignEach (e :: es) X.env).map (·.2)=assign e X.env :: (assignEach es X.env).map (·.2):=by rfl):PGs X (e :: es) (gCons t u):=by
 intro pins s σ H vs us Q I r h
 obtain ⟨v,vr,e1,h⟩:=h
 subst e1
 cases r with
 | cons r rr =>
  rw [hs]
  refine assignInOrder_cons (thn (h1 pins s σ H _ _ _ I r h) fun _ s1 ⟨σ1,H1,I1,q1⟩=>?_)
  exact h2 pins s1 σ1 H1 _ _ Q I1 rr q1
noncomputable def gTup (K:PySem.W.Frag) (n:Nat) (t:TGs):TG:=fun v σ H Q=>∃ a xs,v=.ref a/\SqT K H a xs/\xs.length=n/\t xs σ H Q
theorem pg_tup {es:List Expr} {k:Nat} {t:TGs} {n:Nat} (hc:X.calm=true) (h:PGs X es t)
  (hn:(assignEach es X.env).length=n:=by rfl) (hst:(assignEach es X.env).findIdx? (·.1)=none:=by rfl):PG X (.Tuple es k pos) (gTup X.K n t):=by
 intro pins s σ H v u Q I r hw
 obtain ⟨a,xs,e1,hq,hl,hw⟩:=hw
 subst e1
 cases r
 obtain ⟨its,rv,ht,hz⟩:=I.tuple hq
 refine assign_Tuple_tuple (I.ok.hd hc) ht (by simp [hn,<-hl,rv.length]) hst fun h' hx=>?_
 have I1:Inv X pins σ H { s with heap:=h' }:=I.kept (t':=s.toks) fun b o e=>hx b o (Nat.ne_of_lt (Heap.lt_size e)) e
 exact h pins _ σ H xs _ Q I1 (by simpa using rv) hw
noncomputable def gSub (to ti:TE) (t:TSet):TG:=fun v σ H Q=>to σ H fun o H1=>ti σ H1 fun i H2=>t o i v H2 fun H3=>Q σ H3
theorem pg_sub {o i:Expr} {to ti:TE} {t:TSet} (ho:PE X o to) (hi:PE X i ti) (hs:PSet X t)
  (ha:∀ v,assign (.Subscript o i pos) X.env v=(do
   let ov <-holding [v] (eval o X.env)
   let iv <-holding [v,ov] (eval i X.env)
   standAt pos
   holding [v,ov,iv] (setItem ov iv v)
   release [v,ov,iv] []):=by intro _; rfl):PG X (.Subscript o i pos) (gSub to ti t):=by
 intro pins s σ H v u Q I r h
 rw [ha]
 refine wpAny_bind (wpAny_holding (thn (ho pins s σ H _ I h) fun ov s1 ⟨x,H1,I1,r1,q1⟩=>?_))
 refine wpAny_bind (wpAny_holding (thn (hi pins s1 σ H1 _ I1 q1) fun iv s2 ⟨y,H2,I2,r2,q2⟩=>?_))
 refine wpAny_bind (wpAny_standAt (wpAny_bind (wpAny_holding (thn (hs pins s2 σ H2 x y v ov iv u _ I2 r1 r2 r q2) fun _ s3 ⟨H3,I3,q3⟩=>?_))))
 exact wpAny_release ⟨σ,H3,I3,q3⟩
noncomputable def tAsg (te:TE) (g:TG):TS:=fun D σ H=>te σ H fun x H1=>g x σ H1 D.nx
theorem ps_asg {tg e:Expr} {te:TE} {g:TG} (he:PE X e te) (hg:PG X tg g) (hs:swapsWithSole [tg] e pos.line X.env=pure false:=by rfl) (hw:swappedStores [tg] e X.env=pure none:=by rfl)
  (h1:(assignEach [tg] X.env).map (·.2)=[assign tg X.env]:=by rfl):PS X (.Assign [tg] e pos) (tAsg te g):=by
 intro pins s σ H D I h
 refine wpAny_Assign_stores (thn (he pins s σ H _ I h) fun v s1 ⟨x,H1,I1,r1,q1⟩=>?_) hs hw
 rw [h1]
 exact thn (hg pins s1 σ H1 x v _ I1 r1 q1) fun _ s2 q=>q
theorem ps_set {i:Nat} {x:Str} {e:Expr} {te:TE} {pos':Pos} (hN:X.N.Nodup) (hi:X.N[i]?=some x) (hx:Loc X.env.scope x) (he:PE X e te) (hs:swapsWith e (some (.Name x pos')) pos.line X.env=pure false:=by rfl) (hf:X.fn x=true\/X.env.scope.names.lookup x=some .local:=by first | exact .inl rfl | exact .inr rfl | assumption) :
  PS X (.Assign [.Name x pos'] e pos) (tAsg te (gName i)):=by
 intro pins s σ H D I h
 refine wpAny_Assign_Name (thn (he pins s σ H _ I h) fun v s1 ⟨y,H1,I1,r1,q1⟩=>?_) hs
 exact store_ok I1 hN hi hx r1 (fun s2 I2=>⟨_,H1,I2,q1⟩) hf
noncomputable def tAug (i:Nat) (te:TE) (ti:TIp):TS:=fun D σ H=>∃ x,σ[i]?=some (some x)/\te σ H fun y H1=>ti x y H1 fun z H2=>D.nx (σ.set i (some z)) H2
theorem ps_aug {i:Nat} {x:Str} {e:Expr} {te:TE} {op:Operator} {ti:TIp} {pos':Pos} (hN:X.N.Nodup) (hi:X.N[i]?=some x) (hx:Loc X.env.scope x) (he:PE X e te) (ho:PIp X op ti) (hf:X.fn x=true\/X.env.scope.names.lookup x=some .local:=by first | exact .inl rfl | exact .inr rfl | assumption) :
  PS X (.AugAssign (.Name x pos') op e pos) (tAug i te ti):=by
 intro pins s σ H D I h
 obtain ⟨v,e1,h⟩:=h
 obtain ⟨m,hn,hl⟩:=I.loc
 have vis:Vis X.env.scope x:=by rcases hx with k | k; exact .inl k; exact .inr (.inl k)
 obtain ⟨u,r,l⟩:=hl i x v hi e1 vis
 refine wpAny_AugAssign_Name ?_
 have go:wpAny (model X.prog X.w) X.A (eval e X.env) (fun w s₂=>wpAny (model X.prog X.w) X.A (inplaceOp op u w) (fun r s₃=>wpAny (model X.prog X.w) X.A (storeName X.env x r) (fun _=>SP X pins D .next) X.xe s₃) X.xe s₂) X.xe s:=by
  refine thn (he pins s σ H _ I h) fun w s1 ⟨y,H1,I1,r1,q1⟩=>?_
  refine thn (ho pins s1 σ H1 v y u w _ I1 r r1 q1) fun z s2 ⟨zv,H2,I2,r2,q2⟩=>?_
  exact store_ok I2 hN hi hx r2 (fun s3 I3=>⟨_,H2,I3,q2⟩) hf
 rcases l with ⟨hk,hm⟩ | ⟨hk,c,hc,hcell⟩
 ·exact wpAny_loadName_local I.ok.kind hk hn hm go
 ·rcases hk with hk | hk
  ·exact wpAny_loadName_cell I.ok.kind hk hc hcell go
  ·rcases hx with k | k
   ·have:X.env.scope.names.lookup x=some .free:=hk
    rw [k] at this; cases this
   ·have:X.env.scope.names.lookup x=some .free:=hk
    rw [k] at this; cases this
noncomputable def ipI (f:Int->Int->Int):TIp:=fun x y H Q=>∃ i j,x=.int i/\y=.int j/\Q (.int (f i j)) H
theorem ip_add:PIp X .Add (ipI fun i j=>i + j):=by
 intro pins s σ H x y v u Q I r1 r2 h
 obtain ⟨i,j,e1,e2,q⟩:=h
 subst e1; subst e2
 obtain ⟨t,rfl⟩:=r1
 obtain ⟨t',rfl⟩:=r2
 exact iadd_int ⟨.int _,H,I.tok _,⟨_,rfl⟩,q⟩
end

section
variable {X:Cx} {pos:Pos}
noncomputable def tWhile (c:TT) (tb:TS):TS:=fun D σ H=>∃ W:Nat->St->Hp->Prop,(∃ m,W m σ H)/\∀ m σ H,W m σ H ->
 c σ H fun b H1=>if b=true then ∃ N:St->Hp->Prop,(∀ σ' H',N σ' H'->∃ m',m' < m/\W m' σ' H')/\tb { D with nx:=N,ct:=N,bk:=D.nx } σ H1 else D.nx σ H1
theorem ps_while {c:Expr} {body:List Stmt} {tc:TT} {tb:TS} (hp:PassesOwn (model X.prog X.w) X.A X.env X.xe) (hc:PT X c tc) (hb:PSs X body tb):PS X (.While c body [] pos) (tWhile tc tb):=by
 intro pins s σ H D I h
 obtain ⟨W,⟨m0,w0⟩,turn⟩:=h
 refine wpAny_While (codeAny_whileLoop (fun n s'=>∃ σ' H',Inv X pins σ' H' s'/\W n σ' H') ?_ m0 ⟨σ,H,I,w0⟩)
 rintro n s1 ⟨σ1,H1,I1,w1⟩
 refine wpAny_passesOwn hp (thn (hc pins s1 σ1 H1 _ I1 (turn n σ1 H1 w1)) fun b s2 ⟨H2,I2,q2⟩=>?_)
 cases b with
 | true =>
  obtain ⟨N,hN,q2⟩:=q2
  rw [if_pos rfl]
  refine wpAny_passesOwn hp (thn (hb pins s2 σ1 H2 _ I2 q2) fun f s3 q3=>?_)
  cases f with
  | next =>
   obtain ⟨σ3,H3,I3,n3⟩:=q3
   obtain ⟨m',hm,w3⟩:=hN σ3 H3 n3
   exact ⟨m',hm,σ3,H3,I3,w3⟩
  | cont =>
   obtain ⟨σ3,H3,I3,n3⟩:=q3
   obtain ⟨m',hm,w3⟩:=hN σ3 H3 n3
   exact ⟨m',hm,σ3,H3,I3,w3⟩
  | brk=>exact q3
  | ret v=>exact q3
 | false =>
  rw [if_neg Bool.false_ne_true]
  exact wpAny_execs_nil ⟨σ1,H2,I2,q2⟩
end

structure It where
 go:Nat->Hp->Prop
 yld:Nat->Hp->V->Hp->Prop
 stop:Nat->Hp->Prop
noncomputable def FpOk (X:Cx) (pins:List (Addr × Obj)) (H:Hp) (b:Addr):Prop :=
 H b=none/\b ≠ X.env.locals/\b ∉ X.fs/\(b ∈ X.ex\/X.s₀.heap.objs.size<=b)/\(∀ x c,X.env.cells.lookup x=some c->c ≠ b)/\∀ p ∈ X.pn++pins,p.1 ≠ b
theorem Inv.fpOk {X:Cx} {pins:List (Addr × Obj)} {σ:St} {H H':Hp} {s:Shared} {b:Addr} (I:Inv X pins σ H s) (hb:s.heap.objs.size<=b) (hn:H' b=none):FpOk X pins H' b:=by
 refine ⟨hn,Nat.ne_of_gt (Nat.lt_of_lt_of_le I.lt hb),I.nofs hb,.inr (Nat.le_trans I.sz hb),fun x c e z=>?_,fun p hp z=>?_⟩
 ·obtain ⟨v,q⟩:=I.cell x c e
  exact absurd (Nat.lt_of_lt_of_le q.lt (by rw [z]; exact hb)) (Nat.lt_irrefl _)
 ·exact absurd (Nat.lt_of_lt_of_le (Heap.lt_size (I.pin p hp).1) (by rw [z]; exact hb)) (Nat.lt_irrefl _)
structure Turn (P:Program) (w:World) (K:PySem.W.Frag) (tg:Expr) (J:It) (fp:List Addr) (it:Addr) (tn:Nat->Heap->Prop):Prop where
 mem:it ∈ fp
 obj:∀ i h,tn i h->∀ b ∈ fp,∃ o,h.get? b=some o/\∀ v,o.data ≠ .cell v
 keep:∀ i h h',tn i h->(∀ b ∈ fp,∀ o,h.get? b=some o->h'.get? b=some o)->tn i h'
 item:∀ (X:Cx),X.prog=P->X.w=w->X.K=K->X.calm=true->∀ (i:Nat) (pins:List (Addr × Obj)) (s:Shared) (σ:St) (H:Hp) (E:Value->Shared->Prop),Inv X pins σ H s->(∀ b ∈ fp,FpOk X pins H b)->tn i s.heap->J.go i H ->
  wpAny (model P w) X.A (pyNext (.ref it)) (fun r s1=>∃ u,r=some u /\
   wpAny (model P w) X.A (letOwnedTupleGo tg (.ref it) u) (fun _ s2=>∃ x H',Inv X pins σ H' s2/\RelV x u/\J.yld i H x H'/\tn (i + 1) s2.heap/\∀ b ∈ fp,H' b=none) E s1) E s
 done:∀ (X:Cx),X.prog=P->X.w=w->X.K=K->X.calm=true->∀ (i:Nat) (pins:List (Addr × Obj)) (s:Shared) (σ:St) (H:Hp) (E:Value->Shared->Prop),Inv X pins σ H s->(∀ b ∈ fp,FpOk X pins H b)->tn i s.heap->J.stop i H ->
  wpAny (model P w) X.A (pyNext (.ref it)) (fun r s1=>r=none/\Inv X pins σ H s1) E s
 self:∀ (A:Around) (i:Nat) (s:Shared) (Q:Value->Shared->Prop) (E:Value->Shared->Prop),tn i s.heap->Q (.ref it) s->wpAny (model P w) A (pyIter (.ref it)) Q E s
abbrev TI:=St->Hp->(It->Hp->Prop)->Prop
noncomputable def PIE (X:Cx) (pins:List (Addr × Obj)) (σ:St) (tg:Expr) (R:It->Hp->Prop) (itv:Value) (s2:Shared):Prop :=
 ∃ (it:Addr) (fp:List Addr) (tn:Nat->Heap->Prop) (J:It) (H':Hp),itv=.ref it/\Inv X pins σ H' s2/\Turn X.prog X.w X.K tg J fp it tn/\tn 0 s2.heap/\(∀ b ∈ fp,FpOk X pins H' b)/\R J H'
noncomputable def PI (X:Cx) (tg iter:Expr) (wi:TI):Prop :=
 ∀ (pins:List (Addr × Obj)) (s:Shared) (σ:St) (H:Hp) (R:It->Hp->Prop),Inv X pins σ H s->wi σ H R ->
  wpAny (model X.prog X.w) X.A (eval iter X.env) (fun v s1=>wpAny (model X.prog X.w) X.A (pyIter v) (PIE X pins σ tg R) X.xe s1) X.xe s

theorem go_of {M:Model} {A:Around} {E:Value->Shared->Prop} {s:Shared} {tg:Expr} {it:Addr} {u:Value} {o:Obj} {n:String} {vs:Array Value} {Q:Unit->Shared->Prop} (ho:s.heap.get? it=some o) (hc:o.cls=.type n) (hd:o.data=.fields vs)
  (hn:["enumerate", "zip", "dict_itemiterator", "dict_reverseitemiterator", "odict_iterator", "itertools.zip_longest", "itertools.pairwise"].contains n=false) (hQ:Q () s):wpAny M A (letOwnedTupleGo tg (.ref it) u) Q E s:=by
 unfold letOwnedTupleGo
 cases tg <;> first
  | exact wpAny_pure hQ
  | (cases u <;> first
    | exact wpAny_pure hQ
    |(refine wpAny_bind (wpAny_load ho ?_)
      rw [hc,hd]
      show wpAny M A (if (["enumerate", "zip", "dict_itemiterator", "dict_reverseitemiterator", "odict_iterator", "itertools.zip_longest", "itertools.pairwise"].contains n && vs[0]? == some (rawInt _))=true then _ else _) Q E s
      rw [if_neg (by intro h; rw [hn,Bool.false_and] at h; cases h)]
      exact wpAny_pure hQ))

noncomputable def Itl (K:PySem.W.Frag) (a:Addr):It :=
 ⟨fun i H=>∃ xs x,SqL K H a xs/\xs[i]?=some x,fun i H x H'=>H'=H/\∀ xs,SqL K H a xs->xs[i]?=some x,fun i H=>∃ xs,SqL K H a xs/\xs.length<=i⟩
noncomputable def Itt (K:PySem.W.Frag) (a:Addr):It :=
 ⟨fun i H=>∃ xs x,SqT K H a xs/\xs[i]?=some x,fun i H x H'=>H'=H/\∀ xs,SqT K H a xs->xs[i]?=some x,fun i H=>∃ xs,SqT K H a xs/\xs.length<=i⟩
noncomputable def Itr (lo:Int) (n:Nat):It:=⟨fun i _=>i < n,fun i H x H'=>H'=H/\x=.int (lo + i),fun i _=>n<=i⟩
theorem turn_list {P:Program} {w:World} {K:PySem.W.Frag} {tg:Expr} (a it:Addr):Turn P w K tg (Itl K a) [it] it (fun i h=>h.IsListIter it a i) where
 mem:=by simp
 obj:=fun i h st b hb=>by
  have e:b=it:=by simpa using hb
  subst e
  obtain ⟨o,e,c,d⟩:=st
  exact ⟨o,e,fun v z=>by rw [d] at z; cases z⟩
 keep:=fun i h h' st k=>st.at fun o e=>k it (by simp) o e
 item:=by
  intro X hP hw hK hc i pins s σ H E I hf st hg
  subst hP hw hK
  obtain ⟨xs,x,hq,hx⟩:=hg
  obtain ⟨its,rv,p,hz⟩:=I.list hq
  obtain ⟨u,hu,ru⟩:=rv.get hx
  obtain ⟨f0,f1,f2,f3,f4,f5⟩:=hf it (by simp)
  refine wpAny_pyNext_list_item st p.isList (x:=u) (by simpa using hu) fun h' st' sb=>?_
  have I1:Inv X pins σ H { s with heap:=h' }:=I.turned (t':=s.toks) (fun b o hb e=>(sb.2 b hb).trans e) f0 f1 f3 f4 f5
  obtain ⟨o,e,c,d⟩:=id st'
  exact ⟨u,rfl,go_of (s:={ s with heap:=h' }) e c d (by decide) ⟨x,H,I1,ru,⟨rfl,fun ys hy=>by rw [I.list_inj hy hq]; exact hx⟩,st',fun b hb=>(hf b hb).1⟩⟩
 done:=by
  intro X hP hw hK hc i pins s σ H E I hf st hg
  subst hP hw hK
  obtain ⟨xs,hq,hx⟩:=hg
  obtain ⟨its,rv,p,hz⟩:=I.list hq
  obtain ⟨f0,f1,f2,f3,f4,f5⟩:=hf it (by simp)
  have hl:=rv.length
  exact wpAny_pyNext_list_end (I.ok.hd hc) st p.isList (by simp; omega) fun h' eb=>⟨rfl,I.turned (t':=s.toks) (fun b o hb e=>eb b o hb e) f0 f1 f3 f4 f5⟩
 self:=fun _ _ _ _ _ st h=>wpAny_pyIter_listiter st h
theorem turn_tuple {P:Program} {w:World} {K:PySem.W.Frag} {tg:Expr} (a it:Addr):Turn P w K tg (Itt K a) [it] it (fun i h=>h.IsTupleIter it a i) where
 mem:=by simp
 obj:=fun i h st b hb=>by
  have e:b=it:=by simpa using hb
  subst e
  obtain ⟨o,e,c,d⟩:=st
  exact ⟨o,e,fun v z=>by rw [d] at z; cases z⟩
 keep:=fun i h h' st k=>st.at fun o e=>k it (by simp) o e
 item:=by
  intro X hP hw hK hc i pins s σ H E I hf st hg
  subst hP hw hK
  obtain ⟨xs,x,hq,hx⟩:=hg
  obtain ⟨its,rv,p,hz⟩:=I.tuple hq
  obtain ⟨u,hu,ru⟩:=rv.get hx
  obtain ⟨f0,f1,f2,f3,f4,f5⟩:=hf it (by simp)
  refine wpAny_pyNext_tuple_item st (show s.heap.IsTuple a its.toArray from p) (x:=u) (by simpa using hu) fun h' st' sb=>?_
  have I1:Inv X pins σ H { s with heap:=h' }:=I.turned (t':=s.toks) (fun b o hb e=>(sb.2 b hb).trans e) f0 f1 f3 f4 f5
  obtain ⟨o,e,c,d⟩:=id st'
  exact ⟨u,rfl,go_of (s:={ s with heap:=h' }) e c d (by decide) ⟨x,H,I1,ru,⟨rfl,fun ys hy=>by rw [I.tuple_inj hy hq]; exact hx⟩,st',fun b hb=>(hf b hb).1⟩⟩
 done:=by
  intro X hP hw hK hc i pins s σ H E I hf st hg
  subst hP hw hK
  obtain ⟨xs,hq,hx⟩:=hg
  obtain ⟨its,rv,p,hz⟩:=I.tuple hq
  obtain ⟨f0,f1,f2,f3,f4,f5⟩:=hf it (by simp)
  have hl:=rv.length
  exact wpAny_pyNext_tuple_end (I.ok.hd hc) st (show s.heap.IsTuple a its.toArray from p) (by simp; omega) fun h' eb=>⟨rfl,I.turned (t':=s.toks) (fun b o hb e=>eb b o hb e) f0 f1 f3 f4 f5⟩
 self:=fun _ _ _ _ _ st h=>wpAny_pyIter_tupleiter st h
theorem turn_range {P:Program} {w:World} {K:PySem.W.Frag} {tg:Expr} (it:Addr) (lo:Int) (n:Nat):Turn P w K tg (Itr lo n) [it] it (fun i h=>IsRangeIter h it (lo + (i:Nat) * 1) ((n:Int) - (i:Nat)) 1) where
 mem:=by simp
 obj:=fun i h st b hb=>by
  have e:b=it:=by simpa using hb
  subst e
  exact ⟨_,st,fun v z=>by
   have z':Data.fields _=Data.cell v:=z
   cases z'⟩
 keep:=fun i h h' st k=>k it (by simp) _ st
 item:=by
  intro X hP hw hK hc i pins s σ H E I hf st hg
  subst hP hw hK
  obtain ⟨f0,f1,f2,f3,f4,f5⟩:=hf it (by simp)
  have W:=Walks.range (prog:=X.prog) (w:=X.w) (I.ok.hd hc) it lo 1 n
  refine W.item i s _ _ hg st fun v h' tk hv st' kk=>?_
  obtain ⟨t,rfl⟩:=hv
  have I1:Inv X pins σ H { s with heap:=h',toks:=tk }:=I.turned (fun b o hb e=>kk b o (by simpa using hb) e) f0 f1 f3 f4 f5
  refine ⟨_,rfl,go_of (s:={ s with heap:=h',toks:=tk }) (n := "range_iterator") st' rfl rfl (by decide) ⟨.int (lo + i),H,I1,⟨t,?_⟩,⟨rfl,rfl⟩,st',fun b hb=>(hf b hb).1⟩⟩
  rw [Int.mul_one]
 done:=by
  intro X hP hw hK hc i pins s σ H E I hf st hg
  subst hP hw hK
  obtain ⟨f0,f1,f2,f3,f4,f5⟩:=hf it (by simp)
  exact wpAny_pyNext_range_end (I.ok.hd hc) st (by have:n<=i:=hg; omega) fun h' eb=>⟨rfl,I.turned (t':=s.toks) (fun b o hb e=>eb b o hb e) f0 f1 f3 f4 f5⟩
 self:=fun _ _ _ _ _ st h=>wpAny_pyIter_rangeiter st h
end L2

namespace L2
open PySem PySem.Spec PyProof.Rows
section
variable {X:Cx} {tg:Expr}
noncomputable def iList (K:PySem.W.Frag) (tl:TE):TI:=fun σ H R=>tl σ H fun x H1=>∃ a,x=.ref a/\(∃ xs,SqL K H1 a xs)/\R (Itl K a) H1
noncomputable def iTup (K:PySem.W.Frag) (tl:TE):TI:=fun σ H R=>tl σ H fun x H1=>∃ a,x=.ref a/\(∃ xs,SqT K H1 a xs)/\R (Itt K a) H1
theorem pi_list {l:Expr} {tl:TE} (hl:PE X l tl):PI X tg l (iList X.K tl):=by
 intro pins s σ H R I h
 refine thn (hl pins s σ H _ I h) fun v s1 ⟨x,H1,I1,r1,q1⟩=>?_
 obtain ⟨a,e,⟨xs,hq⟩,q⟩:=q1
 subst e
 cases r1
 obtain ⟨its,rv,p,hz⟩:=I1.list hq
 refine wpAny_pyIter_list p.isList ?_
 refine ⟨s1.heap.objs.size,[s1.heap.objs.size],_,_,H1,rfl,I1.kept (t':=s1.toks) fun b o e=>Heap.get?_push_of_some _ e,turn_list a _,⟨_,Heap.get?_push_size _ rfl,rfl,rfl⟩,fun b hb=>?_,q⟩
 have e:b=s1.heap.objs.size:=by simpa using hb
 subst e
 exact I1.fpOk (Nat.le_refl _) (I1.hok.fresh (Nat.le_refl _))
theorem pi_tup {l:Expr} {tl:TE} (hl:PE X l tl):PI X tg l (iTup X.K tl):=by
 intro pins s σ H R I h
 refine thn (hl pins s σ H _ I h) fun v s1 ⟨x,H1,I1,r1,q1⟩=>?_
 obtain ⟨a,e,⟨xs,hq⟩,q⟩:=q1
 subst e
 cases r1
 obtain ⟨its,rv,p,hz⟩:=I1.tuple hq
 refine wpAny_pyIter_tuple (show s1.heap.IsTuple a its.toArray from p) ?_
 refine ⟨s1.heap.objs.size,[s1.heap.objs.size],_,_,H1,rfl,I1.kept (t':=s1.toks) fun b o e=>Heap.get?_push_of_some _ e,turn_tuple a _,⟨_,Heap.get?_push_size _ rfl,rfl,rfl⟩,fun b hb=>?_,q⟩
 have e:b=s1.heap.objs.size:=by simpa using hb
 subst e
 exact I1.fpOk (Nat.le_refl _) (I1.hok.fresh (Nat.le_refl _))
theorem range_it {pins:List (Addr × Obj)} {σ:St} {H:Hp} {s:Shared} {R:It->Hp->Prop} {E:Value->Shared->Prop} {lo hi:Int} {t u v:Tok} {tk:Nat} (I:Inv X pins σ H s) (h1:-(2 ^ 62)<=lo) (h2:lo < 2 ^ 62) (h3:-(2 ^ 62)<=hi) (h4:hi < 2 ^ 62)
  (q:R (Itr lo (hi - lo).toNat) H):wpAny (model X.prog X.w) X.A (pyIter (.ref s.heap.objs.size)) (PIE X pins σ tg R) E { s with heap:=s.heap.push { cls:=.type "range", data:=.fields #[.int lo t,.int hi u,.int 1 v] },toks:=tk }:=by
 refine wpAny_pyIter_range (IsRange.new ..) (small_one h1 h2 h3 h4) ?_
 have I1:Inv X pins σ H { s with heap:=s.heap.push { cls:=.type "range", data:=.fields #[.int lo t,.int hi u,.int 1 v] },toks:=tk }:=I.kept fun b o e=>Heap.get?_push_of_some _ e
 refine ⟨(s.heap.push { cls:=.type "range", data:=.fields #[.int lo t,.int hi u,.int 1 v] }).objs.size,[(s.heap.push { cls:=.type "range", data:=.fields #[.int lo t,.int hi u,.int 1 v] }).objs.size],_,_,H,rfl,
  I1.kept (t':=tk) fun b o e=>Heap.get?_push_of_some _ e,turn_range _ lo (hi - lo).toNat,?_,fun b hb=>?_,q⟩
 ·have e1:lo + ((0:Nat):Int) * 1=lo:=by simp
  have e2:(((hi - lo).toNat:Nat):Int) - ((0:Nat):Int)=Builtin.Range.rangeSize lo hi 1:=by rw [rangeSize_one]; split <;> omega
  show IsRangeIter _ _ (lo + ((0:Nat):Int) * 1) ((((hi - lo).toNat:Nat):Int) - ((0:Nat):Int)) 1
  rw [e1,e2]
  exact Heap.get?_push_size _ rfl
 ·have e:b=(s.heap.push { cls:=.type "range", data:=.fields #[.int lo t,.int hi u,.int 1 v] }).objs.size:=by simpa using hb
  subst e
  exact I1.fpOk (Nat.le_refl _) (I1.hok.fresh (Nat.le_refl _))
noncomputable def iRng1 (ta:TA):TI:=fun σ H R=>ta σ H fun vs H1=>∃ j:Int,vs=[.int j]/\-(2 ^ 62)<=j/\j < 2 ^ 62/\R (Itr 0 j.toNat) H1
theorem pi_range1 {a:Expr} {ta:TA} {p pos:Pos} (hg:Gl X "range") (hm:X.mg "range" = none) (ha:PA X [a] ta) (hs:starEach [a] X.env=[(false,eval a X.env)]:=by rfl):PI X tg (.Call (.Name "range" p) [a] [] pos) (iRng1 ta):=by
 intro pins s σ H R I h
 refine Call_ (ld_blt I hg hm boot_range (PyProof.Rows.callWith_type1 (thn (ha pos pins s σ H _ I h) fun us s1 ⟨vs,H1,I1,r1,q1⟩=>?_) hs rfl))
 obtain ⟨j,e,q1,q2,q⟩:=q1
 subst e
 cases r1 with
 | cons r rr =>
  cases rr
  obtain ⟨t,rfl⟩:=r
  exact call_range_1 (range_it I1 (by omega) (by omega) q1 q2 (by simpa using q))

noncomputable def tFor (wi:TI) (g:TG) (tb:TS):TS:=fun D σ H=>wi σ H fun J H1=>∃ W:Nat->Nat->St->Hp->Prop,(∃ m,W 0 m σ H1)/\∀ i m σ H,W i m σ H ->
 (J.stop i H/\D.nx σ H)\/(J.go i H/\∃ N:St->Hp->Prop,(∀ σ' H',N σ' H'->∃ m',m' < m/\W (i + 1) m' σ' H')/\∀ x H',J.yld i H x H'->g x σ H' fun σ2 H2=>tb { D with nx:=N,ct:=N,bk:=D.nx } σ2 H2)
noncomputable def pinsAt (fp:List Addr) (h:Heap):List (Addr × Obj):=fp.filterMap fun b=>(h.get? b).map fun o=>(b,o)
theorem mem_pinsAt {fp:List Addr} {h:Heap} {b:Addr} {o:Obj} (hb:b ∈ fp) (e:h.get? b=some o):(b,o) ∈ pinsAt fp h:=List.mem_filterMap.mpr ⟨b,hb,by rw [e]; rfl⟩
theorem of_pinsAt {fp:List Addr} {h:Heap} {p:Addr × Obj} (hp:p ∈ pinsAt fp h):p.1 ∈ fp/\h.get? p.1=some p.2:=by
 obtain ⟨b,hb,e⟩:=List.mem_filterMap.mp hp
 cases q:h.get? b with
 | none=>rw [q] at e; cases e
 | some o =>
  rw [q] at e
  have e':(b,o)=p:=Option.some.inj e
  subst e'
  exact ⟨hb,q⟩
theorem Inv.pinned {pins:List (Addr × Obj)} {σ:St} {H:Hp} {s:Shared} {fp:List Addr} (I:Inv X pins σ H s) (hf:∀ b ∈ fp,FpOk X pins H b) (ho:∀ b ∈ fp,∃ o,s.heap.get? b=some o/\∀ v,o.data ≠ .cell v):Inv X (pins++pinsAt fp s.heap) σ H s :=
 I.pins_of fun p hp=>(List.mem_append.mp hp).elim (fun z=>I.pin p (List.mem_append_right _ z)) fun z=>by
  obtain ⟨hb,e⟩:=of_pinsAt z
  obtain ⟨f0,f1,f2,_⟩:=hf p.1 hb
  obtain ⟨o,e',d⟩:=ho p.1 hb
  rw [e] at e'; cases e'
  exact ⟨e,f0,f1,f2,d⟩
theorem Inv.unpinned {pins pl:List (Addr × Obj)} {σ:St} {H:Hp} {s:Shared} (I:Inv X (pins++pl) σ H s):Inv X pins σ H s:=I.pins_of fun p hp=>I.pin p (List.mem_append_right _ (List.mem_append_left _ hp))
theorem ps_for {iter:Expr} {body:List Stmt} {wi:TI} {g:TG} {tb:TS} {pos:Pos} (hp:PassesOwn (model X.prog X.w) X.A X.env X.xe) (hc:X.calm=true) (hi:PI X tg iter wi) (hg:PG X tg g) (hb:PSs X body tb)
  (hs:∀ x,foldedSetIterable iter X.env x=pure x:=by intro _; rfl):PS X (.For tg iter body [] pos) (tFor wi g tb):=by
 intro pins s σ H D I h
 refine wpAny_For (thn (hi pins s σ H _ I h) fun v s1 h1=>thn h1 fun itv s2 h2=>?_) hs
 obtain ⟨it,fp,tn,J,H2,e,I2,T,st2,f2,W,⟨m0,w0⟩,turn⟩:=h2
 subst e
 -- what stays true of the iterator's objects through the loop
 have stat:∀ {H':Hp},(∀ b ∈ fp,H' b=none)->∀ b ∈ fp,FpOk X pins H' b:=fun hn b hb=>⟨hn b hb,(f2 b hb).2⟩
 refine codeAny_forLoop_any (fun n s'=>∃ i σ' H',Inv X pins σ' H' s'/\tn i s'.heap/\(∀ b ∈ fp,H' b=none)/\W i n σ' H') ?_ m0 ⟨0,σ,H2,I2,st2,fun b hb=>(f2 b hb).1,w0⟩
 rintro n s3 ⟨i,σ3,H3,I3,st3,fr3,w3⟩
 rcases turn i n σ3 H3 w3 with ⟨stop,qn⟩ | ⟨go,N,hN,step⟩
 ·refine wpAny_passesOwn hp (thn (T.done X rfl rfl rfl hc i pins s3 σ3 H3 X.xe I3 (stat fr3) st3 stop) fun r s4 ⟨hr,I4⟩=>?_)
  subst hr
  exact wpAny_execs_nil ⟨σ3,H3,I4,qn⟩
 ·refine wpAny_passesOwn hp (thn (T.item X rfl rfl rfl hc i pins s3 σ3 H3 X.xe I3 (stat fr3) st3 go) fun r s4 ⟨u,hr,h4⟩=>?_)
  subst hr
  refine wpAny_passesOwn hp (thn h4 fun _ s5 ⟨x,H5,I5,r5,y5,st5,fr5⟩=>?_)
  have I5':=I5.pinned (stat fr5) (T.obj _ _ st5)
  refine wpAny_passesOwn hp (thn (hg _ s5 σ3 H5 x u _ I5' r5 (step x H5 y5)) fun _ s6 ⟨σ6,H6,I6,q6⟩=>?_)
  refine wpAny_passesOwn hp (thn (hb _ s6 σ6 H6 _ I6 q6) fun f s7 q7=>?_)
  have again:∀ {σ7:St} {H7:Hp},Inv X (pins++pinsAt fp s5.heap) σ7 H7 s7->N σ7 H7->∃ m,m < n/\∃ i σ' H',Inv X pins σ' H' s7/\tn i s7.heap/\(∀ b ∈ fp,H' b=none)/\W i m σ' H':=fun {σ7 H7} I7 n7=>by
   obtain ⟨m',hm,w7⟩:=hN σ7 H7 n7
   refine ⟨m',hm,i + 1,σ7,H7,I7.unpinned,T.keep _ _ _ st5 fun b hb o e=>(I7.pin (b,o) (List.mem_append_right _ (List.mem_append_right _ (mem_pinsAt hb e)))).1,fun b hb=>?_,w7⟩
   obtain ⟨o,e,d⟩:=T.obj _ _ st5 b hb
   exact (I7.pin (b,o) (List.mem_append_right _ (List.mem_append_right _ (mem_pinsAt hb e)))).2.1
  cases f with
  | next=>obtain ⟨σ7,H7,I7,n7⟩:=q7; exact again I7 n7
  | cont=>obtain ⟨σ7,H7,I7,n7⟩:=q7; exact again I7 n7
  | brk=>obtain ⟨σ7,H7,I7,q7⟩:=q7; exact ⟨σ7,H7,I7.unpinned,q7⟩
  | ret v=>obtain ⟨x7,σ7,H7,I7,r7,q7⟩:=q7; exact ⟨x7,σ7,H7,I7.unpinned,r7,q7⟩
end

theorem for_list {K:PySem.W.Frag} {a:Addr} {xs:List V} {g:TG} {tb:TS} {D:Ends} {σ:St} {H:Hp} (Pv:Nat->St->Hp->Prop) (h0:Pv 0 σ H) (hl:∀ i σ H,i<=xs.length->Pv i σ H->SqL K H a xs)
  (hs:∀ i x σ H,xs[i]?=some x->Pv i σ H->g x σ H fun σ2 H2=>tb { D with nx:=Pv (i + 1),ct:=Pv (i + 1),bk:=D.nx } σ2 H2) (hd:∀ σ H,Pv xs.length σ H->D.nx σ H) :
  ∃ W:Nat->Nat->St->Hp->Prop,(∃ m,W 0 m σ H)/\∀ i m σ H,W i m σ H ->
   ((Itl K a).stop i H/\D.nx σ H)\/((Itl K a).go i H/\∃ N:St->Hp->Prop,(∀ σ' H',N σ' H'->∃ m',m' < m/\W (i + 1) m' σ' H')/\∀ x H',(Itl K a).yld i H x H'->g x σ H' fun σ2 H2=>tb { D with nx:=N,ct:=N,bk:=D.nx } σ2 H2):=by
 refine ⟨fun i m σ H=>m=xs.length - i/\i<=xs.length/\Pv i σ H,⟨xs.length,by simp,Nat.zero_le _,h0⟩,?_⟩
 rintro i m σ H ⟨rfl,hi,p⟩
 have q:=hl i σ H hi p
 by_cases hlt:i < xs.length
 ·refine .inr ⟨⟨xs,xs[i],q,by simp [hlt]⟩,Pv (i + 1),fun σ' H' p'=>⟨xs.length - (i + 1),by omega,rfl,hlt,p'⟩,fun x H' y=>?_⟩
  obtain ⟨e,y⟩:=y
  subst e
  exact hs i x σ _ (y xs q) p
 ·have e:i=xs.length:=by omega
  subst e
  exact .inl ⟨⟨xs,q,Nat.le_refl _⟩,hd σ H p⟩
theorem for_range {lo:Int} {n:Nat} {g:TG} {tb:TS} {D:Ends} {σ:St} {H:Hp} (Pv:Nat->St->Hp->Prop) (h0:Pv 0 σ H)
  (hs:∀ i σ H,i < n->Pv i σ H->g (.int (lo + i)) σ H fun σ2 H2=>tb { D with nx:=Pv (i + 1),ct:=Pv (i + 1),bk:=D.nx } σ2 H2) (hd:∀ σ H,Pv n σ H->D.nx σ H) :
  ∃ W:Nat->Nat->St->Hp->Prop,(∃ m,W 0 m σ H)/\∀ i m σ H,W i m σ H ->
   ((Itr lo n).stop i H/\D.nx σ H)\/((Itr lo n).go i H/\∃ N:St->Hp->Prop,(∀ σ' H',N σ' H'->∃ m',m' < m/\W (i + 1) m' σ' H')/\∀ x H',(Itr lo n).yld i H x H'->g x σ H' fun σ2 H2=>tb { D with nx:=N,ct:=N,bk:=D.nx } σ2 H2):=by
 refine ⟨fun i m σ H=>m=n - i/\i<=n/\Pv i σ H,⟨n,by simp,Nat.zero_le _,h0⟩,?_⟩
 rintro i m σ H ⟨rfl,hi,p⟩
 by_cases hlt:i < n
 ·refine .inr ⟨hlt,Pv (i + 1),fun σ' H' p'=>⟨n - (i + 1),by omega,rfl,hlt,p'⟩,fun x H' y=>?_⟩
  obtain ⟨e,y⟩:=y
  subst e y
  exact hs i σ _ hlt p
 ·have e:i=n:=by omega
  subst e
  exact .inl ⟨Nat.le_refl _,hd σ H p⟩
end L2

namespace L2
open PySem PySem.Spec PyProof.Rows

abbrev R2:=V->V->Hp->VK->Prop
noncomputable def OpR (X:Cx) (f:Value->Value->Sem Value) (r:R2):Prop :=
 ∀ (pins:List (Addr × Obj)) (s:Shared) (σ:St) (H:Hp) (x y:V) (v u:Value) (Q:VK),Inv X pins σ H s->RelV x v->RelV y u->r x y H Q ->
  wpAny (model X.prog X.w) X.A (f v u) (EP X pins σ Q) X.xe s
noncomputable def UnR (X:Cx) (f:Value->Sem Value) (r:V->Hp->VK->Prop):Prop :=
 ∀ (pins:List (Addr × Obj)) (s:Shared) (σ:St) (H:Hp) (x:V) (v:Value) (Q:VK),Inv X pins σ H s->RelV x v->r x H Q ->
  wpAny (model X.prog X.w) X.A (f v) (EP X pins σ Q) X.xe s
noncomputable def CallR (X:Cx) (f:Value) (r:List V->Hp->VK->Prop):Prop :=
 ∀ (pins:List (Addr × Obj)) (s:Shared) (σ:St) (H:Hp) (xs:List V) (us:List Value) (Q:VK),Inv X pins σ H s->Vals xs us->r xs H Q ->
  wpAny (model X.prog X.w) X.A (call f us) (EP X pins σ Q) X.xe s

noncomputable def tOp (r:R2) (ta tb:TE):TE:=fun σ H Q=>ta σ H fun x H1=>tb σ H1 fun y H2=>r x y H2 Q
noncomputable def tUn (r:V->Hp->VK->Prop) (ta:TE):TE:=fun σ H Q=>ta σ H fun x H1=>r x H1 Q
noncomputable def rI (C:Int->Int->Prop) (g:Int->Int->V):R2:=fun x y H Q=>∃ i j,x=.int i/\y=.int j/\C i j/\Q (g i j) H
noncomputable def rI0 (g:Int->Int->V):R2:=fun x y H Q=>∃ i j,x=.int i/\y=.int j/\Q (g i j) H
noncomputable def rU (g:Int->V):V->Hp->VK->Prop:=fun x H Q=>∃ i,x=.int i/\Q (g i) H

section
variable {X:Cx} {a b c:Expr} {ta tb tc:TE} {pos:Pos}

theorem binT (ha:PE X a ta) (hb:PE X b tb) {pins:List (Addr × Obj)} {s:Shared} {σ:St} {H:Hp} {R:V->V->Hp->Prop} (I:Inv X pins σ H s)
  (h:ta σ H fun x H1=>tb σ H1 fun y H2=>R x y H2) {Q:Value->Shared->Prop} {f:Value->Value->Sem Value}
  (hf:∀ v u s2 x y H2,Inv X pins σ H2 s2->RelV x v->RelV y u->R x y H2->wpAny (model X.prog X.w) X.A (f v u) Q X.xe s2) :
  wpAny (model X.prog X.w) X.A (eval a X.env) (fun v s₁=>wpAny (model X.prog X.w) X.A (eval b X.env) (fun u s₂=>wpAny (model X.prog X.w) X.A (f v u) Q X.xe s₂) X.xe s₁) X.xe s:=by
 refine thn (ha pins s σ H _ I h) fun v s1 ⟨x,H1,I1,r1,q1⟩=>?_
 refine thn (hb pins s1 σ H1 _ I1 q1) fun u s2 ⟨y,H2,I2,r2,q2⟩=>?_
 exact hf v u s2 x y H2 I2 r1 r2 q2

theorem pe_op {op:Operator} {r:R2} (ho:OpR X (binaryOp op) r) (ha:PE X a ta) (hb:PE X b tb):PE X (.BinOp a op b pos) (tOp r ta tb):=by
 intro pins s σ H Q I h
 exact wpAny_BinOp (binT ha hb I h fun v u s2 x y H2 I2 rx ry q=>ho pins s2 σ H2 x y v u Q I2 rx ry q)
theorem pe_un {op:UnaryOp} {r:V->Hp->VK->Prop} (ho:UnR X (unaryOp op) r) (ha:PE X a ta):PE X (.UnaryOp op a pos) (tUn r ta):=by
 intro pins s σ H Q I h
 exact UnaryOp_ (thn (ha pins s σ H _ I h) fun v s1 ⟨x,H1,I1,r1,q1⟩=>ho pins s1 σ H1 x v Q I1 r1 q1)

theorem opI {f:Value->Value->Sem Value} {C:Int->Int->Prop} {g:Int->Int->Int}
  (rule:∀ (i j:Int) (t u:Tok) (s:Shared) (Q:Value->Shared->Prop) (E:Value->Shared->Prop),C i j->Q (.int (g i j) s.toks) { s with toks:=s.toks + 1 }->wpAny (model X.prog X.w) X.A (f (.int i t) (.int j u)) Q E s) :
  OpR X f (rI C fun i j=>.int (g i j)):=by
 intro pins s σ H x y v u Q I rx ry h
 obtain ⟨i,j,rfl,rfl,hc,q⟩:=h
 obtain ⟨t,rfl⟩:=rx
 obtain ⟨t',rfl⟩:=ry
 exact rule i j t t' s _ _ hc ⟨.int (g i j),H,I.tok _,⟨_,rfl⟩,q⟩
theorem opI0 {f:Value->Value->Sem Value} {g:Int->Int->Int}
  (rule:∀ (i j:Int) (t u:Tok) (s:Shared) (Q:Value->Shared->Prop) (E:Value->Shared->Prop),Q (.int (g i j) s.toks) { s with toks:=s.toks + 1 }->wpAny (model X.prog X.w) X.A (f (.int i t) (.int j u)) Q E s) :
  OpR X f (rI0 fun i j=>.int (g i j)):=by
 intro pins s σ H x y v u Q I rx ry h
 obtain ⟨i,j,rfl,rfl,q⟩:=h
 obtain ⟨t,rfl⟩:=rx
 obtain ⟨t',rfl⟩:=ry
 exact rule i j t t' s _ _ ⟨.int (g i j),H,I.tok _,⟨_,rfl⟩,q⟩
theorem opB0 {f:Value->Value->Sem Value} {g:Int->Int->Bool}
  (rule:∀ (i j:Int) (t u:Tok) (s:Shared) (Q:Value->Shared->Prop) (E:Value->Shared->Prop),Q (.bool (g i j)) s->wpAny (model X.prog X.w) X.A (f (.int i t) (.int j u)) Q E s) :
  OpR X f (rI0 fun i j=>.bl (g i j)):=by
 intro pins s σ H x y v u Q I rx ry h
 obtain ⟨i,j,rfl,rfl,q⟩:=h
 obtain ⟨t,rfl⟩:=rx
 obtain ⟨t',rfl⟩:=ry
 exact rule i j t t' s _ _ ⟨.bl (g i j),H,I,rfl,q⟩

noncomputable def CDiv (i j:Int):Prop:=0 < j/\j < 1073741824
noncomputable def CPow (i j:Int):Prop:=0<=j/\j<=1000000/\i.natAbs < 2 ^ 64
noncomputable def CMul (i j:Int):Prop:=(-(2 ^ 64) < i/\i < 2 ^ 64)\/(-(2 ^ 64) < j/\j < 2 ^ 64)
theorem CMul.ok {i j:Int} (h:CMul i j):IntMulOk i j:=by
 rcases h with ⟨h1,h2⟩ | ⟨h1,h2⟩
 ·exact .of_left (intBits_le_64 h1 h2)
 ·exact .of_right (intBits_le_64 h1 h2)

theorem op_add:OpR X (binaryOp .Add) (rI0 fun i j=>.int (i + j)):=opI0 fun _ _ _ _ _ _ _ q=>add_int q
theorem op_sub:OpR X (binaryOp .Sub) (rI0 fun i j=>.int (i - j)):=opI0 fun _ _ _ _ _ _ _ q=>sub_int q
theorem op_mul:OpR X (binaryOp .Mult) (rI CMul fun i j=>.int (i * j)):=opI fun _ _ _ _ _ _ _ hc q=>mul_int q hc.ok
theorem op_fdiv:OpR X (binaryOp .FloorDiv) (rI CDiv fun i j=>.int (i / j)):=opI fun i j _ _ _ _ _ hc q=>by
 have h1:(0:Int) < j:=hc.1
 have h2:j < 1073741824:=hc.2
 exact floordiv_int (by omega) (by rw [Int.fdiv_eq_ediv_of_nonneg i (by omega)]; exact q) (.inl (PyProof.noPylong_small (by omega)))
theorem op_mod:OpR X (binaryOp .Mod) (rI (fun _ j=>0 < j) fun i j=>.int (i % j)):=opI fun i j _ _ _ _ _ hc q=>by
 have h1:(0:Int) < j:=hc
 exact mod_int' (by omega) (by rw [Int.fmod_eq_emod_of_nonneg i (by omega)]; exact q)
theorem op_pow:OpR X (binaryOp .Pow) (rI CPow fun i j=>.int (i ^ j.toNat)):=opI fun _ _ _ _ _ _ _ hc q=>pow_int_small hc.1 hc.2.1 hc.2.2 q


theorem unI {f:Value->Sem Value} {g:Int->Int}
  (rule:∀ (i:Int) (t:Tok) (s:Shared) (Q:Value->Shared->Prop) (E:Value->Shared->Prop),Q (.int (g i) s.toks) { s with toks:=s.toks + 1 }->wpAny (model X.prog X.w) X.A (f (.int i t)) Q E s) :
  UnR X f (rU fun i=>.int (g i)):=by
 intro pins s σ H x v Q I rx h
 obtain ⟨i,rfl,q⟩:=h
 obtain ⟨t,rfl⟩:=rx
 exact rule i t s _ _ ⟨.int (g i),H,I.tok _,⟨_,rfl⟩,q⟩
theorem un_neg:UnR X (unaryOp .USub) (rU fun i=>.int (-i)):=unI fun _ _ _ _ _ q=>neg_int q

end

noncomputable def scal:V->V->Bool
 | .non,.non=>true | .non,.int _=>true | .int _,.non=>true | .non,.bl _=>true | .bl _,.non=>true | .non,.str _=>true | .str _,.non=>true
 | .int _,.int _=>true | .bl _,.bl _=>true | .str _,.str _=>true | .byt _,.byt _=>true
 | .int _,.str _=>true | .str _,.int _=>true | .bl _,.str _=>true | .str _,.bl _=>true
 | _,_=>false
noncomputable def rEq:R2:=fun x y H Q=>scal x y=true/\Q (.bl (decide (x=y))) H
noncomputable def rNe:R2:=fun x y H Q=>scal x y=true/\Q (.bl (!decide (x=y))) H

theorem dec_int {i j:Int}:decide (V.int i=V.int j)=(i == j):=by
 rw [Bool.eq_iff_iff]
 simp
theorem dec_bl {i j:Bool}:decide (V.bl i=V.bl j)=(i == j):=by
 rw [Bool.eq_iff_iff]
 simp
theorem dec_str {i j:Str}:decide (V.str i=V.str j)=(i == j):=by
 rw [Bool.eq_iff_iff]
 simp
theorem dec_byt {i j:Array UInt8}:decide (V.byt i=V.byt j)=(i.toList == j.toList):=by
 rw [Bool.eq_iff_iff]
 cases i
 cases j
 simp

section
variable {X:Cx} {a b c:Expr} {ta tb tc:TE} {pos:Pos}
theorem fin_bl {pins:List (Addr × Obj)} {σ:St} {H:Hp} {s:Shared} {Q:VK} {k k':Bool} (I:Inv X pins σ H s) (q:Q (.bl k) H) (e:k=k'):EP X pins σ Q (.bool k') s:=by
 subst e
 exact ⟨.bl k,H,I,rfl,q⟩
theorem op_eq:OpR X (compareOp .Eq) rEq:=by
 intro pins s σ H x y v u Q I rx ry h
 obtain ⟨hs,q⟩:=h
 cases x with
 | non =>
  cases rx
  cases y with
  | non=>cases ry; exact PySem.EqNone.eq_none_none (fin_bl I q (by simp))
  | bl j=>cases ry; exact PySem.EqNone.eq_none_bool (fin_bl I q (by simp))
  | int j=>obtain ⟨t',rfl⟩:=ry; exact PySem.EqNone.eq_none_int (fin_bl I q (by simp))
  | str j=>obtain ⟨t',rfl⟩:=ry; exact PySem.EqNone.eq_none_str (fin_bl I q (by simp))
  | _=>exact absurd (show false=true from hs) Bool.false_ne_true
 | bl i =>
  cases rx
  cases y with
  | non=>cases ry; exact PySem.EqNone.eq_bool_none (fin_bl I q (by simp))
  | bl j=>cases ry; exact eq_bool (fin_bl I q dec_bl)
  | str j=>obtain ⟨t',rfl⟩:=ry; exact PySem.EqMixed.eq_bool_str (fin_bl I q (by simp))
  | _=>exact absurd (show false=true from hs) Bool.false_ne_true
 | int i =>
  obtain ⟨t,rfl⟩:=rx
  cases y with
  | non=>cases ry; exact PySem.EqNone.eq_int_none (fin_bl I q (by simp))
  | int j=>obtain ⟨t',rfl⟩:=ry; exact eq_int (fin_bl I q dec_int)
  | str j=>obtain ⟨t',rfl⟩:=ry; exact PySem.EqMixed.eq_int_str (fin_bl I q (by simp))
  | _=>exact absurd (show false=true from hs) Bool.false_ne_true
 | str i =>
  obtain ⟨t,rfl⟩:=rx
  cases y with
  | non=>cases ry; exact PySem.EqNone.eq_str_none (fin_bl I q (by simp))
  | bl j=>cases ry; exact PySem.EqMixed.eq_str_bool (fin_bl I q (by simp))
  | int j=>obtain ⟨t',rfl⟩:=ry; exact PySem.EqMixed.eq_str_int (fin_bl I q (by simp))
  | str j=>obtain ⟨t',rfl⟩:=ry; exact eq_str (fin_bl I q dec_str)
  | _=>exact absurd (show false=true from hs) Bool.false_ne_true
 | byt i =>
  obtain ⟨t,rfl⟩:=rx
  cases y with
  | byt j=>obtain ⟨t',rfl⟩:=ry; exact PySem.W.eq_bytes (fin_bl I q dec_byt)
  | _=>exact absurd (show false=true from hs) Bool.false_ne_true
 | _=>cases y <;> exact absurd (show false=true from hs) Bool.false_ne_true
theorem op_ne:OpR X (compareOp .NotEq) rNe:=by
 intro pins s σ H x y v u Q I rx ry h
 obtain ⟨hs,q⟩:=h
 cases x with
 | non =>
  cases rx
  cases y with
  | non=>cases ry; exact PySem.EqNone.ne_none_none (fin_bl I q (by simp))
  | bl j=>cases ry; exact PySem.EqNone.ne_none_bool (fin_bl I q (by simp))
  | int j=>obtain ⟨t',rfl⟩:=ry; exact PySem.EqNone.ne_none_int (fin_bl I q (by simp))
  | str j=>obtain ⟨t',rfl⟩:=ry; exact PySem.EqNone.ne_none_str (fin_bl I q (by simp))
  | _=>exact absurd (show false=true from hs) Bool.false_ne_true
 | bl i =>
  cases rx
  cases y with
  | non=>cases ry; exact PySem.EqNone.ne_bool_none (fin_bl I q (by simp))
  | bl j=>cases ry; exact ne_bool (fin_bl I q (congrArg not dec_bl))
  | str j=>obtain ⟨t',rfl⟩:=ry; exact PySem.EqMixed.ne_bool_str (fin_bl I q (by simp))
  | _=>exact absurd (show false=true from hs) Bool.false_ne_true
 | int i =>
  obtain ⟨t,rfl⟩:=rx
  cases y with
  | non=>cases ry; exact PySem.EqNone.ne_int_none (fin_bl I q (by simp))
  | int j=>obtain ⟨t',rfl⟩:=ry; exact ne_int (fin_bl I q (congrArg not dec_int))
  | str j=>obtain ⟨t',rfl⟩:=ry; exact PySem.EqMixed.ne_int_str (fin_bl I q (by simp))
  | _=>exact absurd (show false=true from hs) Bool.false_ne_true
 | str i =>
  obtain ⟨t,rfl⟩:=rx
  cases y with
  | non=>cases ry; exact PySem.EqNone.ne_str_none (fin_bl I q (by simp))
  | bl j=>cases ry; exact PySem.EqMixed.ne_str_bool (fin_bl I q (by simp))
  | int j=>obtain ⟨t',rfl⟩:=ry; exact PySem.EqMixed.ne_str_int (fin_bl I q (by simp))
  | str j=>obtain ⟨t',rfl⟩:=ry; exact ne_str (fin_bl I q (congrArg not dec_str))
  | _=>exact absurd (show false=true from hs) Bool.false_ne_true
 | byt i =>
  obtain ⟨t,rfl⟩:=rx
  cases y with
  | byt j=>obtain ⟨t',rfl⟩:=ry; exact PySem.W.ne_bytes (fin_bl I q (congrArg not dec_byt))
  | _=>exact absurd (show false=true from hs) Bool.false_ne_true
 | _=>cases y <;> exact absurd (show false=true from hs) Bool.false_ne_true

theorem op_lt:OpR X (compareOp .Lt) (rI0 fun i j=>.bl (decide (i < j))):=opB0 fun _ _ _ _ _ _ _ q=>lt_int q
theorem op_ge:OpR X (compareOp .GtE) (rI0 fun i j=>.bl (decide (j<=i))):=opB0 fun _ _ _ _ _ _ _ q=>ge_int q

theorem op_isN:OpR X (compareOp .Is) (fun x y H Q=>y=.non/\Q (.bl (decide (x=.non))) H):=by
 intro pins s σ H x y v u Q I rx ry h
 obtain ⟨rfl,q⟩:=h
 cases ry
 refine is_none_gen (fin_bl I q ?_)
 cases x <;> first
  | (cases rx; rfl)
  | (obtain ⟨t,rfl⟩:=rx; rfl)
theorem op_notN:OpR X (compareOp .IsNot) (fun x y H Q=>y=.non/\Q (.bl (!decide (x=.non))) H):=by
 intro pins s σ H x y v u Q I rx ry h
 obtain ⟨rfl,q⟩:=h
 cases ry
 refine isnot_none_gen (fin_bl I q ?_)
 cases x <;> first
  | (cases rx; rfl)
  | (obtain ⟨t,rfl⟩:=rx; rfl)



theorem nomark (b:Expr) {op:CmpOp} (h:op ≠ .In:=by decide) (h2:op ≠ .NotIn:=by decide):behindInMarks op b=false:=by
 have e1:(op == CmpOp.In)=false:=by cases op <;> first | rfl | exact absurd rfl h
 have e2:(op == CmpOp.NotIn)=false:=by cases op <;> first | rfl | exact absurd rfl h2
 cases b <;> simp [behindInMarks,e1,e2]
theorem pe_cmpR {op:CmpOp} {r:R2} (ho:OpR X (compareOp op) r) (ha:PE X a ta) (hb:PE X b tb) (hm:behindInMarks op b=false):PE X (.Compare a [op] [b] pos) (tOp r ta tb):=by
 intro pins s σ H Q I h
 exact wpAny_Compare1 (binT ha hb I h fun v u s2 x y H2 I2 rx ry q=>ho pins s2 σ H2 x y v u Q I2 rx ry q) hm
noncomputable def tTest (t:TE):TT:=fun σ H Q=>t σ H fun x H'=>∃ k,x=.bl k/\Q k H'
theorem pt_cmpR {op:CmpOp} {r:R2} (ho:OpR X (compareOp op) r) (ha:PE X a ta) (hb:PE X b tb) (hm:behindInMarks op b=false):PT X (.Compare a [op] [b] pos) (tTest (tOp r ta tb)):=by
 intro pins s σ H Q I h
 refine wpAny_isTrue_Compare1 (thn (ha pins s σ H _ I h) fun v s1 ⟨x,H1,I1,r1,q1⟩=>thn (hb pins s1 σ H1 _ I1 q1) fun u s2 ⟨y,H2,I2,r2,q2⟩ =>
  thn (ho pins s2 σ H2 x y v u _ I2 r1 r2 q2) fun c s3 ⟨z,H3,I3,r3,k,e,q3⟩=>?_) hm
 subst e
 cases r3
 exact wpAny_truthy_bool ⟨H3,I3,q3⟩

theorem line63:(sizeLine:Nat) < 2 ^ 63:=by rw [sizeLine_eq]; decide

theorem op_add_str:OpR X (binaryOp .Add) (fun x y H Q=>∃ i j,x=.str i/\y=.str j/\i.length + j.length<=sizeLine/\Q (.str (i++j)) H):=by
 intro pins s σ H x y v u Q I rx ry h
 obtain ⟨i,j,rfl,rfl,hz,q⟩:=h
 obtain ⟨t,rfl⟩:=rx
 obtain ⟨t',rfl⟩:=ry
 exact add_str (fun t' tk=>⟨.str (i++j),H,I.tok _,⟨_,rfl⟩,q⟩) hz


theorem vals1 {x:V} {us:List Value} (r:Vals [x] us):∃ u,us=[u]/\RelV x u:=by
 cases r with
 | cons r1 r2=>cases r2; exact ⟨_,rfl,r1⟩
theorem vals2 {x y:V} {us:List Value} (r:Vals [x,y] us):∃ u w',us=[u,w']/\RelV x u/\RelV y w':=by
 cases r with
 | cons r1 r2 =>
  cases r2 with
  | cons r3 r4=>cases r4; exact ⟨_,_,rfl,r1,r3⟩
theorem call_max2 (hc:X.calm=true):CallR X (.builtin "max") (fun xs H Q=>∃ i j,xs=[.int i,.int j]/\Q (.int (if j > i then j else i)) H):=by
 intro pins s σ H xs us Q I r h
 obtain ⟨i,j,rfl,q⟩:=h
 obtain ⟨u,w',rfl,⟨t,rfl⟩,⟨t',rfl⟩⟩:=vals2 r
 refine max_two_ints (I.ok.hd hc) fun h' tk k=>⟨_,H,I.kept k,?_,q⟩
 by_cases hj:j > i
 ·rw [if_pos hj,if_pos hj]; exact ⟨_,rfl⟩
 ·rw [if_neg hj,if_neg hj]; exact ⟨_,rfl⟩
theorem call_min2 (hc:X.calm=true):CallR X (.builtin "min") (fun xs H Q=>∃ i j,xs=[.int i,.int j]/\Q (.int (if j < i then j else i)) H):=by
 intro pins s σ H xs us Q I r h
 obtain ⟨i,j,rfl,q⟩:=h
 obtain ⟨u,w',rfl,⟨t,rfl⟩,⟨t',rfl⟩⟩:=vals2 r
 refine min_two_ints (I.ok.hd hc) fun h' tk k=>⟨_,H,I.kept k,?_,q⟩
 by_cases hj:j < i
 ·rw [if_pos hj,if_pos hj]; exact ⟨_,rfl⟩
 ·rw [if_neg hj,if_neg hj]; exact ⟨_,rfl⟩
end
end L2

namespace L2
open PySem PySem.Spec PyProof.Rows

structure ObjM (h:Heap) (x dx C:Addr) (mA:Str->Option Value):Prop where
 obj:h.get? x=some (PySem.W.instObj C dx)
 ns:h.Ns1 dx mA
 ne:dx ≠ x

theorem lookIn_ns {h:Heap} {dx:Addr} {mA:Str->Option Value} (n:h.Ns1 dx mA):∃ od,h.get? dx=some od/\∀ name,PySem.W.lookIn name od=some (mA name):=by
 obtain ⟨o,es,ep,ho,hd,hk,_,hm⟩:=n
 refine ⟨o,ho,fun name=>?_⟩
 have e:=hm name
 unfold nsFind findBy at e
 rw [<-Array.find?_toList] at e
 unfold PySem.W.lookIn
 rw [hd]
 dsimp only
 split
 ·rename_i y q
  rw [q] at e
  exact congrArg some e
 ·rename_i q
  rw [q] at e
  have a:es.toList.any (·.refKey)=false:=by
   rw [List.any_eq_false]
   intro y hy
   obtain ⟨z,t,hkey⟩:=hk y (Array.mem_toList_iff.mp hy)
   simp [DictEntry.refKey,hkey]
  have a':¬ es.toList.any (·.refKey)=true:=by rw [a]; exact Bool.false_ne_true
  rw [if_neg a']
  exact congrArg some e

theorem ObjM.look {h:Heap} {x dx C:Addr} {mA:Str->Option Value} (I:ObjM h x dx C mA):∃ od,PySem.W.InstAt h x (PySem.W.instObj C dx) C (some od)/\∀ name,PySem.W.lookIn name od=some (mA name) :=
 let ⟨od,ho,hl⟩:=lookIn_ns I.ns
 ⟨od,⟨I.obj,rfl,rfl,ho⟩,hl⟩

section
variable {prog:Program} {w:World} {A:Around} {E:Value->Shared->Prop} {s:Shared} {K:PySem.W.Frag} {x dx C f:Addr} {mA:Str->Option Value} {name:Str} {v:Value}





end


theorem RelO.some_of {v:V} {o:Option Value} (r:RelO (some v) o):∃ u,o=some u/\RelV v u:=by
 cases o with
 | none=>exact (show False from r).elim
 | some u=>exact ⟨u,rfl,r⟩

section
variable {P:Program} {w:World} {H H':Hp} {h h':Heap} {a C dx:Addr} {fs fs':List (Str × V)}
theorem ins_get (hok:HOk P w H h) (e:H a=some (.ins C dx fs)):∃ mA,ObjM h a dx C mA/\(∀ f,RelO (fs.lookup f) (mA f))/\PySem.Within mA (fs.map (·.1))/\fs.length<=1000/\H dx=some (.own a):=by
 obtain ⟨d,z,ne,ob,mA,n,r,q⟩:=(show ObjOk P w H h a (.ins C dx fs) from hok a _ e)
 exact ⟨mA,⟨ob,n,ne⟩,r,q,z,d⟩
end

structure Cls (K:PySem.W.Frag) (C:Addr):Prop where
 pg:PySem.W.plainGet K C Str.empty=true
 hd:PySem.W.hasDictIn K C=true
 po:PySem.W.plainOver K C=true
 sa:PySem.W.findIn K (.ref C) "__setattr__" = some (some (.builtin "object.__setattr__"))
theorem Cls.get {K:PySem.W.Frag} {C:Addr} (c:Cls K C) (f:Str):PySem.W.plainGet K C f=true:=c.pg
structure Con (K:PySem.W.Frag) (C:Addr) (f:Str) (v:V) (u:Value):Prop where
 at_:PySem.W.findIn K (.ref C) f=some (some u)
 rel:RelV v u
 get:PySem.W.specialIn K u "__get__" = some none
 cp:PySem.W.copiedNames.contains f=false
structure Meth (K:PySem.W.Frag) (C:Addr) (m:Str) (f:Addr):Prop where
 at_:PySem.W.findIn K (.ref C) m=some (some (.ref f))
 fn:PySem.W.isFn K (.ref f)=true
 kp:PySem.W.keepIn K (.ref f)=true

section
variable {X:Cx} {pins:List (Addr × Obj)} {σ:St} {H:Hp} {s:Shared} {a C dx:Addr} {fs:List (Str × V)} {f:Str} {v:V} {A:Around} {E:Value->Shared->Prop}






end


section
variable {X:Cx} {o e value:Expr} {f:Str} {pos pos' tpos:Pos} {ta tv:TE}

end

section
variable {X:Cx} {pins:List (Addr × Obj)} {σ:St} {H:Hp} {s:Shared} {A:Around} {E:Value->Shared->Prop} {Q:Value->Shared->Prop} {c:Value} {b:Bool}
inductive TyOf (K:PySem.W.Frag) (H:Hp):V->Value->Prop where
 | non:TyOf K H .non (.type "NoneType")
 | bl (x:Bool):TyOf K H (.bl x) (.type "bool")
 | int (i:Int):TyOf K H (.int i) (.type "int")
 | str (x:Str):TyOf K H (.str x) (.type "str")
 | flt (x:UInt64):TyOf K H (.flt x) (.type "float")
 | lst {a:Addr} {xs:List V} (e:H a=some (.lst xs)):TyOf K H (.ref a) (.type "list")
 | frz {a:Addr} {o:Obj} {xs:List V} (e:H a=some (.frz o (.lst xs))):TyOf K H (.ref a) (.type "list")
 | tup {a:Addr} {xs:List V} (e:H a=some (.tup xs)):TyOf K H (.ref a) (.type "tuple")
 | dK {a:Addr} {kvs:List (Key × V)} (e:H a=some (.dK kvs)):TyOf K H (.ref a) (.type "dict")
 | dT {a:Addr} {kvs:List (List Key × V)} (e:H a=some (.dT kvs)):TyOf K H (.ref a) (.type "dict")
 | ins {a C dx:Addr} {fs:List (Str × V)} (e:H a=some (.ins C dx fs)) (cl:Cls K C) (ha:PySem.W.findIn K (.ref C) "__class__" = some (some (.builtin "object.__class__")))
   (hn:PySem.W.specialIn K (.builtin "object.__class__") "__get__" = some (some (.builtin "getset_descriptor.__get__"))) (htk:PySem.W.takesIn K (.builtin "object.__class__")=some true)
   (hm:PySem.W.mroIn K C (.type "object")=some true):TyOf K H (.ref a) (.ref C)
theorem isinst_ok {x:V} {u t:Value} (I:Inv X pins σ H s) (rx:RelV x u) (ty:TyOf X.K H x t) (e:PySem.W.kitOne X.K t c=some b) (h:∀ tk,Q (.bool b) { s with toks:=tk }) :
  wpAny (model X.prog X.w) A (call (.builtin "isinstance") [u,c]) Q E s:=by
 cases ty with
 | non=>cases (show u=Value.none from rx); exact PySem.W.kia_one PySem.W.kitx_none I.kIn True.intro e (fun z=>nomatch z) h
 | bl y=>cases (show u=Value.bool y from rx); exact PySem.W.kia_one PySem.W.kitx_bool I.kIn True.intro e (fun z=>nomatch z) h
 | int i=>obtain ⟨t,q⟩:=(show ∃ t,u=Value.int i t from rx); cases q; exact PySem.W.kia_one PySem.W.kitx_int I.kIn True.intro e (fun z=>nomatch z) h
 | str y=>obtain ⟨t,q⟩:=(show ∃ t,u=Value.str y t from rx); cases q; exact PySem.W.kia_one PySem.W.kitx_str I.kIn True.intro e (fun z=>nomatch z) h
 | flt y=>obtain ⟨t,q⟩:=(show ∃ t,u=Value.float y t from rx); cases q; exact PySem.W.kia_one PySem.W.kitx_float I.kIn True.intro e (fun z=>nomatch z) h
 | @lst a xs ea =>
  cases (show u=Value.ref a from rx)
  obtain ⟨_,_,n,_,h1⟩:=(show ObjOk X.prog X.w H s.heap a (.lst xs) from I.hok a _ ea)
  exact PySem.W.kia_one PySem.W.kitx_list I.kIn ⟨_,h1,rfl⟩ e (fun z=>nomatch z) h
 | @frz a ob xs ea =>
  cases (show u=Value.ref a from rx)
  obtain ⟨_,_,_,n,_,h1⟩:=(show ObjOk X.prog X.w H s.heap a (.frz ob (.lst xs)) from I.hok a _ ea)
  exact PySem.W.kia_one PySem.W.kitx_list I.kIn ⟨_,h1,rfl⟩ e (fun z=>nomatch z) h
 | @tup a xs ea =>
  cases (show u=Value.ref a from rx)
  obtain ⟨_,_,_,p⟩:=(show ObjOk X.prog X.w H s.heap a (.tup xs) from I.hok a _ ea)
  obtain ⟨o,h1,h2,_⟩:=p
  exact PySem.W.kia_one PySem.W.kitx_tuple I.kIn ⟨o,h1,h2⟩ e (fun z=>nomatch z) h
 | @dK a kvs ea =>
  cases (show u=Value.ref a from rx)
  obtain ⟨_,_,vs,_,p⟩:=(show ObjOk X.prog X.w H s.heap a (.dK kvs) from I.hok a _ ea)
  obtain ⟨o,es,ep,h1,h2,_⟩:=p
  exact PySem.W.kia_one PySem.W.kitx_dict I.kIn ⟨o,h1,h2.1⟩ e (fun z=>nomatch z) h
 | @dT a kvs ea =>
  cases (show u=Value.ref a from rx)
  obtain ⟨_,_,xs,_,o,es,ep,h1,h2,_⟩:=(show ObjOk X.prog X.w H s.heap a (.dT kvs) from I.hok a _ ea)
  exact PySem.W.kia_one PySem.W.kitx_dict I.kIn ⟨o,h1,h2.1⟩ e (fun z=>nomatch z) h
 | @ins a C dx fs ea cl ha hn htk hm =>
  cases (show u=Value.ref a from rx)
  obtain ⟨mA,O,_⟩:=ins_get I.hok ea
  obtain ⟨od,J,_⟩:=O.look
  exact PySem.W.kia_one (PySem.W.kitx_own (cl.get _) cl.hd ha hn htk hm) I.kIn J e (fun z=>nomatch z) h
end
end L2

namespace L2
open PySem PySem.Spec PyProof.Rows

structure Room (k:Nat) (A:Around):Prop where
 hd:A.handled=none
 dp:A.depth + 3 * k + 5 < recursionLimit
 un:A.units + 16 * k + 200 < cLine
theorem Room.mono {j k:Nat} {A:Around} (r:Room k A) (h:j<=k):Room j A:=⟨r.hd,by have:=r.dp; omega,by have:=r.un; omega⟩
theorem Room.deeper {k:Nat} {A:Around} (r:Room (k + 1) A) (env:Env):Room k (A.deeper env) :=
 ⟨r.hd,by have:=r.dp; show A.depth + 1 + 3 * k + 5 < _; omega,by have:=r.un; show A.units + 3 + 16 * k + 200 < _; omega⟩
theorem Room.depth {k:Nat} {A:Around} (r:Room k A):A.depth < recursionLimit:=by have:=r.dp; omega
theorem Room.units {k:Nat} {A:Around} (r:Room k A):A.units + 64 < cLine:=by have:=r.un; omega

noncomputable def tNil:TA:=fun _ H Q=>Q [] H
noncomputable def tCons (ta:TE) (tr:TA):TA:=fun σ H Q=>ta σ H fun x H1=>tr σ H1 fun xs H2=>Q (x :: xs) H2
section
variable {X:Cx} {e:Expr} {es:List Expr} {te:TE} {t:TA} {pos:Pos}
theorem pa_nil:PA X [] tNil:=fun _ _ _ _ H Q I h=>Calls.spliced_nil ⟨[],H,I,.nil,h⟩
theorem pa_cons (ha:PE X e te) (hr:PA X es t) (hs:starEach (e :: es) X.env=(false,eval e X.env) :: starEach es X.env:=by rfl):PA X (e :: es) (tCons te t):=by
 intro pos pins s σ H Q I h
 rw [hs]
 show wpAny _ _ (spliced ((false,eval e X.env) :: backTo pos (starEach es X.env))) _ _ s
 refine Calls.spliced_cons (thn (ha pins s σ H _ I h) fun u s1 ⟨x,H1,I1,r1,q1⟩=>?_)
 exact thn (hr pos pins s1 σ H1 _ I1 q1) fun us s2 ⟨xs,H2,I2,r2,q2⟩=>⟨x :: xs,H2,I2,.cons r1 r2,q2⟩

noncomputable def tTup (t:TA):TE:=fun σ H Q=>t σ H fun xs H1=>xs.length<=sizeLine/\∀ p,H1 p=none->Q (.ref p) (upd H1 p (.tup xs))
noncomputable def tLst (t:TA):TE:=fun σ H Q=>t σ H fun xs H1=>xs.length<=sizeLine/\∀ p,H1 p=none->Q (.ref p) (upd H1 p (.lst xs))
theorem pe_tup {x1} (h:PA X es t):PE X (.Tuple es x1 pos) (tTup t):=by
 intro pins s σ H Q I hq
 refine wpAny_Tuple_spliced (thn (h pos pins s σ H _ I hq) fun us s1 ⟨xs,H1,I1,r,z,q⟩=>⟨by rw [<-r.length]; exact z,?_⟩)
 have hf:H1 s1.heap.objs.size=none:=I1.hok.fresh (Nat.le_refl _)
 refine ⟨.ref s1.heap.objs.size,upd H1 s1.heap.objs.size (.tup xs),I1.laid (t':=s1.toks) (fun b u e=>Heap.get?_push_of_some _ e) (Nat.le_refl _) ?_,rfl,q _ hf⟩
 exact ⟨z,us,r,⟨_,Heap.get?_push_size _ rfl,rfl,_,rfl⟩⟩
theorem pe_lst (h:PA X es t):PE X (.List es pos) (tLst t):=by
 intro pins s σ H Q I hq
 refine wpAny_List_spliced (thn (h pos pins s σ H _ I hq) fun us s1 ⟨xs,H1,I1,r,z,q⟩=>⟨by rw [<-r.length]; exact z,?_⟩)
 have hf:H1 s1.heap.objs.size=none:=I1.hok.fresh (Nat.le_refl _)
 refine ⟨.ref s1.heap.objs.size,upd H1 s1.heap.objs.size (.lst xs),I1.laid (t':=s1.toks) (fun b u e=>Heap.get?_push_of_some _ e) (Nat.le_refl _) ?_,rfl,q _ hf⟩
 exact ⟨z,us,0,r,Heap.get?_push_size _ rfl⟩
end

abbrev Sp:=List V->Hp->VK->XK->Prop
abbrev CXT:=List Env->Hp->Shared->XK->Value->Shared->Prop

structure Env0 (P:Program) (w:World) (K:PySem.W.Frag) (mg:Str->Option Value) (base:Heap) (A:Around) (outer:List Env) (s:Shared) (H:Hp):Prop where
 frames:A.frames=some outer
 mod:Mod K mg base
 bs:∀ b o,base.get? b=some o->s.heap.get? b=some o/\H b=none
 bsz:base.objs.size<=s.heap.objs.size
 funs:s.heap.FunFrames base outer
 frf:∀ b ∈ frs outer,H b=none
 hok:HOk P w H s.heap
 bare:AllBare s.gens
noncomputable def CE (outer:List Env) (P:Program) (w:World) (H:Hp) (s:Shared) (Q:VK) (u:Value) (s':Shared):Prop :=
 ∃ v H',s'.os=s.os/\AllBare s'.gens/\Un (frs outer) [] H H' s.heap s'.heap/\HOk P w H' s'.heap/\RelV v u/\Q v H'
noncomputable def CR (CX:CXT) (outer:List Env) (P:Program) (w:World) (H:Hp) (s:Shared) (Q:VK) (E:XK) (r:Result) (s':Shared):Prop :=
 match r with
 | .ok (.ret u)=>CE outer P w H s Q u s'
 | .ok _=>False
 | .error e=>CX outer H s E e s'
structure FnOk (P:Program) (w:World) (K:PySem.W.Frag) (mg:Str->Option Value) (base:Heap) (CX:CXT) (k:Nat) (f:Addr) (fd:FuncData) (ps:List Str) (sp:Sp):Prop where
 len:∀ vs H Q E,sp vs H Q E->vs.length=ps.length
 run:∀ (A:Around) (outer:List Env) (s:Shared) (H:Hp) (args:Args) (us:List Value) (vs:List V) (Q:VK) (E:XK),Room k A->Env0 P w K mg base A outer s H->BindsTo s fd args (ps.zip us)->Vals vs us->sp vs H Q E ->
  codeAny (model P w) A (.call (.ref f) args) (CR CX outer P w H s Q E) s


section
variable {X:Cx} {pins:List (Addr × Obj)} {σ:St} {H:Hp} {s s':Shared}
theorem Inv.env0 (I:Inv X pins σ H s):Env0 X.prog X.w X.K X.mg X.base X.A X.stack s H :=
 ⟨I.ok.frames,I.ok.mod,I.bs,Nat.le_trans I.ok.bsz I.sz,I.stack,I.stkFree,I.hok,I.bare⟩
theorem Inv.after {Q:VK} {u:Value} (I:Inv X pins σ H s) (h:CE X.stack X.prog X.w H s Q u s'):EP X pins σ Q u s':=by
 obtain ⟨v,H',os,bare,un,hok,r,q⟩:=h
 obtain ⟨hh,g,d,t,os'⟩:=s'
 obtain rfl:os'=s.os:=os
 exact ⟨v,H',I.call (h':=hh) (g':=g) (d':=d) (t':=t) (ch:=[]) un hok bare (fun b z=>absurd z (by simp)),r,q⟩
end

noncomputable def tCall (sp:Sp) (dvs:List V) (E:XK) (t:TA):TE:=fun σ H Q=>t σ H fun vs H1=>sp (vs++dvs) H1 Q E

noncomputable def Binds (K:PySem.W.Frag) (fd:FuncData) (ps:List Str) (ds:List Value):Prop :=
 ∀ (s:Shared) (us:List Value),K.In s.heap->(us++ds).length=ps.length->BindsTo s fd ⟨us,[]⟩ (ps.zip (us++ds))
theorem Binds.all {K:PySem.W.Frag} {fd:FuncData} {ps:List Str} (h:∀ us:List Value,us.length=ps.length->bindArgs fd ⟨us,[]⟩=pure (ps.zip us)):Binds K fd ps []:=fun s us _ hl=>by
 rw [List.append_nil] at hl ⊢
 exact .of_eq (h us hl)

noncomputable def Passes (CX:CXT) (X:Cx) (E:XK):Prop:=∀ (pins:List (Addr × Obj)) (σ:St) (H:Hp) (s:Shared) (e:Value) (s':Shared),Inv X pins σ H s->CX X.stack H s E e s'->X.xe e s'

section
variable {X:Cx} {CX:CXT} {k:Nat} {f C:Addr} {fd:FuncData} {ps:List Str} {sp:Sp} {dvs:List V} {ds:List Value} {E:XK} {x m:Str} {p pos apos:Pos} {e o:Expr} {es:List Expr} {ta:TE} {t:TA}

theorem run_fn {pins:List (Addr × Obj)} {σ:St} {H:Hp} {s:Shared} {Q:VK} {us:List Value} {vs:List V} (F:FnOk X.prog X.w X.K X.mg X.base CX k f fd ps sp) (hr:Room k X.A) (hb:Binds X.K fd ps ds) (hd:Vals dvs ds) (hx:Passes CX X E)
  (I:Inv X pins σ H s) (r:Vals vs us) (h:sp (vs++dvs) H Q E):wpAny (model X.prog X.w) X.A (call (.ref f) us) (EP X pins σ Q) X.xe s:=by
 have r2:Vals (vs++dvs) (us++ds):=r.append hd
 have hl:(us++ds).length=ps.length:=by rw [<-r2.length]; exact F.len _ _ _ _ h
 refine wpAny_call (codeAny_mono (F.run X.A X.stack s H ⟨us,[]⟩ (us++ds) (vs++dvs) Q E hr I.env0 (hb s us I.kIn hl) r2 h) fun r s' hq=>?_)
 cases r with
 | error e=>exact hx pins σ H s e s' I hq
 | ok fl =>
  cases fl with
  | ret u=>exact I.after hq
  | next=>exact False.elim hq
  | brk=>exact False.elim hq
  | cont=>exact False.elim hq

theorem pe_call (F:FnOk X.prog X.w X.K X.mg X.base CX k f fd ps sp) (hr:Room k X.A) (hg:Gl X x) (hm:X.mg x=some (.ref f)) (hk:PySem.W.keepIn X.K (.ref f)=true) (hb:Binds X.K fd ps ds) (hd:Vals dvs ds) (hx:Passes CX X E)
  (ha:PA X (e :: es) t) (hdb:(x == ("__debug__" : Str))=false:=by decide) (he:starEach (e :: es) X.env=(false,eval e X.env) :: starEach es X.env:=by rfl) (hpl:(backTo pos (starEach es X.env)).any (·.1)=false:=by rfl) :
  PE X (.Call (.Name x p) (e :: es) [] pos) (tCall sp dvs E t):=by
 intro pins s σ H Q I h
 refine wpAny_Call_Name_kw (ld_glob I hg hm ?_ hdb)
 refine PySem.W.callWith_K (h₀:=X.base) I.ok.mod.kin hk (thn (ha pos pins s σ H _ I h) fun us s1 ⟨vs,H1,I1,r,q⟩=>⟨I1.kIn,?_⟩) he hpl
 exact run_fn F hr hb hd hx I1 r q


structure Mk (K:PySem.W.Frag) (C f:Addr):Prop where
 makes:PySem.W.makesIn K C=true
 init:PySem.W.findIn K (.ref C) "__init__" = some (some (.ref f))
 fn:PySem.W.isFn K (.ref f)=true
 kp:PySem.W.keepIn K (.ref C)=true

end

section
variable {X:Cx} {CX:CXT} {k:Nat} {f C:Addr} {fd:FuncData} {ps ks:List Str} {sp:Sp} {E:XK} {x m:Str} {p pos apos kpos:Pos} {e o:Expr} {es:List Expr} {kws:List Keyword} {te ta:TE} {t tk:TA} {nm:Option Str}

structure KBinds (K:PySem.W.Frag) (fd:FuncData) (ps ks:List Str) (g:List Value->List Value->List Value) (gV:List V->List V->List V):Prop where
 to:∀ (s:Shared) (us ws:List Value),K.In s.heap->(g us ws).length=ps.length->BindsTo s fd ⟨us,ks.zip ws⟩ (ps.zip (g us ws))
 rel:∀ {vs:List V} {us:List Value} {zs:List V} {ws:List Value},Vals vs us->Vals zs ws->Vals (gV vs zs) (g us ws)
variable {g:List Value->List Value->List Value} {gV:List V->List V->List V}
end

structure FnScope (N P:List Str) (sc:Scope):Prop where
 kind:sc.kind=.function
 co:sc.isCoroutine=false
 gen:sc.isGenerator=false
 nd:N.Nodup
 pre:N.take P.length=P
 par:∀ x ∈ P,sc.names.lookup x=some .local\/sc.names.lookup x=some .cell
 nofree:∀ y ∈ sc.names,y.2 ≠ .free

theorem bindL_out {kindOf:Str->Option NameKind} {x:Str}:∀ {binds:List (Str × Value)} {m:Str->Option Value},(∀ v,(x,v) ∉ binds)->bindL kindOf binds m x=m x
 | [],_,_=>rfl
 | (n,v) :: r,m,h=>by
  unfold bindL
  rw [bindL_out fun w hw=>h w (List.mem_cons_of_mem _ hw)]
  split
  ·have:x ≠ n:=by rintro rfl; exact h v List.mem_cons_self
   simp [this]
  ·rfl
theorem bindC_out {kindOf:Str->Option NameKind} {x:Str}:∀ {binds:List (Str × Value)} {m:Str->Option Value},(∀ v,(x,v) ∉ binds)->bindC kindOf binds m x=m x
 | [],_,_=>rfl
 | (n,v) :: r,m,h=>by
  unfold bindC
  rw [bindC_out fun w hw=>h w (List.mem_cons_of_mem _ hw)]
  split
  ·rfl
  ·have:x ≠ n:=by rintro rfl; exact h v List.mem_cons_self
   simp [this]
theorem bindL_get {kindOf:Str->Option NameKind} {x:Str} {v:Value}:∀ {P:List Str} {vs:List Value} {i:Nat} {m:Str->Option Value},P.Nodup->P[i]?=some x->vs[i]?=some v->kindOf x=some .local ->
  bindL kindOf (P.zip vs) m x=some v
 | [],_,_,_,_,h,_,_=>by simp at h
 | _ :: _,[],_,_,_,_,h,_=>by simp at h
 | p :: P,w :: vs,0,m,nd,h1,h2,hk=>by
  simp at h1 h2; subst h1; subst h2
  show bindL kindOf ((p,w) :: P.zip vs) m p=_
  unfold bindL
  rw [bindL_out fun v hv=>(List.nodup_cons.mp nd).1 (List.of_mem_zip hv).1,if_pos hk]
  simp
 | p :: P,w :: vs,i + 1,m,nd,h1,h2,hk=>by
  show bindL kindOf ((p,w) :: P.zip vs) m x=_
  unfold bindL
  exact bindL_get (i:=i) (List.nodup_cons.mp nd).2 (by simpa using h1) (by simpa using h2) hk
theorem bindC_get {kindOf:Str->Option NameKind} {x:Str} {v:Value}:∀ {P:List Str} {vs:List Value} {i:Nat} {m:Str->Option Value},P.Nodup->P[i]?=some x->vs[i]?=some v->kindOf x ≠ some .local ->
  bindC kindOf (P.zip vs) m x=some v
 | [],_,_,_,_,h,_,_=>by simp at h
 | _ :: _,[],_,_,_,_,h,_=>by simp at h
 | p :: P,w :: vs,0,m,nd,h1,h2,hk=>by
  simp at h1 h2; subst h1; subst h2
  show bindC kindOf ((p,w) :: P.zip vs) m p=_
  unfold bindC
  rw [bindC_out fun v hv=>(List.nodup_cons.mp nd).1 (List.of_mem_zip hv).1,if_neg hk]
  simp
 | p :: P,w :: vs,i + 1,m,nd,h1,h2,hk=>by
  show bindC kindOf ((p,w) :: P.zip vs) m x=_
  unfold bindC
  exact bindC_get (i:=i) (List.nodup_cons.mp nd).2 (by simpa using h1) (by simpa using h2) hk

noncomputable def start (N:List Str) (vs:List V):St:=vs.map some++List.replicate (N.length - vs.length) none

noncomputable def cxOf (CX:CXT) (P:Program) (w:World) (K:PySem.W.Frag) (mg:Str->Option Value) (base:Heap) (N:List Str) (qual:Str) (scope:Scope) (f:Addr) (cd:Value) (A:Around) (outer:List Env) (s:Shared) (H:Hp) (E:XK):Cx where
 prog:=P
 w:=w
 K:=K
 mg:=mg
 base:=base
 A:=A.deeper (envOfC qual scope s.heap.objs.size f cd)
 N:=N
 s₀:=s
 H₀:=H
 env:=envOfC qual scope s.heap.objs.size f cd
 outer:=outer
 stack:=envOfC qual scope s.heap.objs.size f cd :: outer
 ex:=[]
 calm:=true
 fn:=fun _=>true
 pn:=[]
 xe:=fun e s'=>wpAny (model P w) (A.deeper (envOfC qual scope s.heap.objs.size f cd)) (leaving (envOfC qual scope s.heap.objs.size f cd) e) (fun _ s''=>CX outer H s E e s'') (fun e' s''=>CX outer H s E e' s'') s'

theorem cell_has {sc:Scope} {n:Nat} {x:Str} (h:sc.names.lookup x=some .cell):∃ c,(cellsFrom n sc.names []).lookup x=some c:=by
 have q:=PySem.W.cellsFrom_some sc.names n [] (.inl h)
 exact Option.isSome_iff_exists.mp q

theorem inv_start {CX:CXT} {P:Program} {w:World} {K:PySem.W.Frag} {mg:Str->Option Value} {base:Heap} {N ps:List Str} {qual:Str} {scope:Scope} {f:Addr} {cd:Value} {A:Around} {outer:List Env} {s s1:Shared} {H:Hp} {E:XK} {us:List Value} {vs:List V}
  (S:FnScope N ps scope) (hd:A.handled=none) (e0:Env0 P w K mg base A outer s H) (hl:vs.length=ps.length) (r:Vals vs us)
  (x:InCallC s s.heap.objs.size (bindL (envOfC qual scope s.heap.objs.size f cd).kindOf (ps.zip us) fun _=>none) (cellsFrom (s.heap.objs.size + 1) scope.names []) (bindC (envOfC qual scope s.heap.objs.size f cd).kindOf (ps.zip us) fun _=>none) s1) :
  Inv (cxOf CX P w K mg base N qual scope f cd A outer s H E) [] (start N vs) H s1:=by
 have hpl:ps.length<=N.length:=by have:=congrArg List.length S.pre; rw [List.length_take] at this; omega
 obtain ⟨h1,tk,rfl,hk⟩:=x.done
 have noA:∀ b:Addr,b ∉ (cxOf CX P w K mg base N qual scope f cd A outer s H E).ex:=fun b z=>absurd (show b ∈ ([]:List Addr) from z) (by simp)
 refine ⟨⟨e0.mod,S.kind,rfl,rfl,Nat.le_refl _,fun y z c h1 h2=>?_,fun y hy=>?_,fun y c _ h=>?_,fun _=>hd,Around.frames_deeper e0.frames,.inr ⟨rfl,rfl⟩,fun b z=>absurd z (noA b),e0.bs,e0.bsz,fun b _ _=>noA b,fun b z=>absurd z (noA b),e0.funs,e0.frf⟩,
  rfl,e0.bare,Un.kept hk,⟨_,x.toInCall.ns,fun i y v h1 h2 h3=>?_⟩,fun y c h=>⟨_,x.cell y c h⟩,e0.hok.fresh (Nat.le_refl _),fun y c h=>?_,fun p hp=>absurd (show p ∈ ([]:List (Addr × Obj)) from hp) (by simp),e0.hok.kept hk,?_⟩
 ·exact name_of_addr x.apart (PySem.mem_of_lookup h1) (PySem.mem_of_lookup h2)
 ·have hy:scope.names.lookup y=some .cell\/scope.names.lookup y=some .free:=hy
  rcases hy with hy | hy
  ·exact cell_has hy
  ·exact absurd rfl (S.nofree _ (PySem.mem_of_lookup hy))
 ·exact Nat.le_of_lt (x.above y c (PySem.mem_of_lookup h))
 ·have hi:i < vs.length:=by
   unfold start at h2
   by_cases hi:i < vs.length
   ·exact hi
   ·rw [List.getElem?_append_right (by simpa using hi)] at h2
    rw [List.getElem?_replicate] at h2
    split at h2 <;> cases h2
  have ha:vs[i]?=some v:=by
   unfold start at h2
   rw [List.getElem?_append_left (by simpa using hi),List.getElem?_map] at h2
   cases e:vs[i]? with
   | none=>rw [e] at h2; cases h2
   | some a=>rw [e] at h2; cases h2; rfl
  obtain ⟨u,hu,rv⟩:=r.get ha
  have hp:ps[i]?=some y:=by
   rw [<-S.pre,List.getElem?_take_of_lt (by omega)]; exact h1
  have ndP:ps.Nodup:=by rw [<-S.pre]; exact S.nd.sublist (List.take_sublist _ _)
  refine ⟨u,rv,?_⟩
  rcases S.par y (List.mem_of_getElem? hp) with k | k
  ·exact .inl ⟨k,bindL_get ndP hp hu k⟩
  ·obtain ⟨c,e⟩:=cell_has (n:=s.heap.objs.size + 1) k
   refine .inr ⟨.inl k,c,e,?_⟩
   have q:=x.cell y c e
   rw [bindC_get ndP hp hu (by show scope.names.lookup y ≠ _; rw [k]; decide)] at q
   exact q
 ·exact e0.hok.fresh (Nat.le_of_lt (x.above y c (PySem.mem_of_lookup h)))
 ·unfold start
  show _=N.length
  rw [List.length_append,List.length_map,List.length_replicate]
  omega

theorem fn_of {CX:CXT} {P:Program} {w:World} {K:PySem.W.Frag} {mg:Str->Option Value} {base:Heap} {k:Nat} {f:Addr} {name qual:Str} {params:Arguments} {body:List Stmt} {scope:Scope} {dV kV doc pm cdv ct oc:Value} {an od:Option Addr}
  {osl:Array (Option Value)} {N ps:List Str} {sp:Sp} (lk:K.lookup f=some ⟨oc,od,.func (PySem.W.fnOf name qual params body scope dV kV doc pm an cdv ct),osl⟩) (hcd:PySem.W.codeIn K cdv qual=true) (S:FnScope N ps scope)
  (len:∀ vs H Q E,sp vs H Q E->vs.length=ps.length)
  (hbody:∀ (A:Around) (outer:List Env) (s:Shared) (H:Hp) (vs:List V) (Q:VK) (E:XK),Room k (A.deeper (envOfC qual scope s.heap.objs.size f cdv))->sp vs H Q E ->
   ∃ t,PSs (cxOf CX P w K mg base N qual scope f cdv A outer s H E) body t/\t { nx:=fun _ H'=>Q .non H',rt:=Q } (start N vs) H) :
  FnOk P w K mg base CX (k + 1) f (PySem.W.fnOf name qual params body scope dV kV doc pm an cdv ct) ps sp:=by
 refine ⟨len,fun A outer s H args us vs Q E hr e0 hb r hsp=>?_⟩
 have hl:=len _ _ _ _ hsp
 have KX:K.In s.heap:=e0.mod.kin.keeps fun b o e=>(e0.bs b o e).1
 have lim:s.heap.NoLimit:=e0.mod.nolimit.keeps fun b o e=>(e0.bs b o e).1
 have hkind:∀ y ∈ ps.zip us,scope.names.lookup y.1=some .local\/(scope.names.lookup y.1=some .cell/\((cellsFrom (s.heap.objs.size + 1) scope.names []).lookup y.1).isSome=true):=fun ⟨n,v⟩ hy=>by
  rcases S.par n (List.of_mem_zip hy).1 with q | q
  ·exact .inl q
  ·exact .inr ⟨q,PySem.W.cellsFrom_some _ _ _ (.inl q)⟩
 refine codeAny_call_function hr.depth (KX _ _ lk) rfl S.co S.gen rfl (PySem.W.codeRec_of KX hcd) (hb _ _ _ _ ?_)
 refine wpAny_newFunctionEnv_cells S.kind hkind fun env he s1 x=>?_
 subst he
 refine ⟨lim.keeps x.toInCall.keep,codeAny_func ?_⟩
 obtain ⟨t,ht,hq⟩:=hbody A outer s H vs Q E (hr.deeper _) hsp
 have I:Inv (cxOf CX P w K mg base N qual scope f cdv A outer s H E) [] (start N vs) H s1:=inv_start S hr.hd e0 hl r x
 refine wpAny_mono (ht [] s1 (start N vs) H _ I hq) (fun fl s' hs=>?_) fun e s' hs=>hs
 have fin:∀ {σ':St} {H':Hp} {v:V} {u:Value},Inv (cxOf CX P w K mg base N qual scope f cdv A outer s H E) [] σ' H' s'->RelV v u->Q v H'->CE outer P w H s Q u s' :=
  fun {σ' H' v u} J rv q=>⟨v,H',J.os,J.bare,J.base,J.hok,rv,q⟩
 cases fl with
 | ret u =>
  obtain ⟨v,σ',H',J,rv,q⟩:=hs
  exact fin J rv q
 | next =>
  obtain ⟨σ',H',J,q⟩:=hs
  exact fin (v:=V.non) (u:=Value.none) J rfl q
 | brk =>
  obtain ⟨_,_,_,q⟩:=hs
  exact False.elim q
 | cont =>
  obtain ⟨_,_,_,q⟩:=hs
  exact False.elim q
end L2

namespace L2
open PySem PySem.Spec PyProof.Rows
section
variable {X:Cx} {x:Str} {p pos:Pos} {e:Expr} {es:List Expr} {t:TA} {id T:String} {r:List V->Hp->VK->Prop}

noncomputable def tCB (r:List V->Hp->VK->Prop) (t:TA):TE:=fun σ H Q=>t σ H fun vs H1=>r vs H1 Q
theorem pe_callB (hc:CallR X (.builtin id) r) (hg:Gl X x) (hm:X.mg x=none) (hv:bootBuiltins x=some (.builtin id)) (ha:PA X (e :: es) t) (hn:x ≠ "__name__" := by decide) (hdb:(x == ("__debug__" : Str))=false:=by decide)
  (he:starEach (e :: es) X.env=(false,eval e X.env) :: starEach es X.env:=by rfl) (hpl:(backTo pos (starEach es X.env)).any (·.1)=false:=by rfl):PE X (.Call (.Name x p) (e :: es) [] pos) (tCB r t):=by
 intro pins s σ H Q I h
 refine wpAny_Call_Name_kw (ld_blt I hg hm hv ?_ hn hdb)
 exact PyProof.Rows.callWith_builtin1 (thn (ha pos pins s σ H _ I h) fun us s1 ⟨vs,H1,I1,r1,q1⟩=>hc pins s1 σ H1 vs us Q I1 r1 q1) he hpl
theorem pe_callTy (hc:CallR X (.type T) r) (hg:Gl X x) (hm:X.mg x=none) (hv:bootBuiltins x=some (.type T)) (ha:PA X (e :: es) t) (hn:x ≠ "__name__" := by decide) (hdb:(x == ("__debug__" : Str))=false:=by decide)
  (he:starEach (e :: es) X.env=(false,eval e X.env) :: starEach es X.env:=by rfl) (hpl:(backTo pos (starEach es X.env)).any (·.1)=false:=by rfl):PE X (.Call (.Name x p) (e :: es) [] pos) (tCB r t):=by
 intro pins s σ H Q I h
 refine wpAny_Call_Name_kw (ld_blt I hg hm hv ?_ hn hdb)
 exact PyProof.Rows.callWith_type1 (thn (ha pos pins s σ H _ I h) fun us s1 ⟨vs,H1,I1,r1,q1⟩=>hc pins s1 σ H1 vs us Q I1 r1 q1) he hpl
end
end L2

namespace HT
open PySem PyProof.Rows



section
open PySem.SeqAt
open PySem.AutoSeq1 (wpAny_loadPart')
open PySem.MeetsSeq PySem.MeetsSeq2 PySem.MeetsSeq3

end

section
variable {prog:Program} {w:World} {A:Around} {E:Value->Shared->Prop} {s:Shared}



noncomputable def sIx (n d:Nat):Option Int->Nat
 | none=>d
 | some v=>if v < 0 then (v + (n:Int)).toNat else min v.toNat n
theorem sIx_none (n d:Nat):sIx n d none=d:=rfl
theorem sIx_nat (n d k:Nat):sIx n d (some (k:Int))=min k n:=by
 show (if (k:Int) < 0 then ((k:Int) + (n:Int)).toNat else min (k:Int).toNat n)=min k n
 rw [if_neg (by omega),Int.toNat_natCast]

end
end HT

namespace L2
open PySem PySem.Spec PyProof.Rows

abbrev TO:=St->Hp->(Option Int->Hp->Prop)->Prop
noncomputable def PO (X:Cx) (e:Option Expr) (t:TO):Prop :=
 ∀ (pins:List (Addr × Obj)) (s:Shared) (σ:St) (H:Hp) (Q:Option Int->Hp->Prop),Inv X pins σ H s->t σ H Q ->
  wpAny (model X.prog X.w) X.A (evalPart e X.env) (fun u s'=>∃ o H',Inv X pins σ H' s'/\IsPart u o/\Q o H') X.xe s
noncomputable def tNoPart:TO:=fun _ H Q=>Q none H
noncomputable def tPart (t:TE):TO:=fun σ H Q=>t σ H fun x H1=>∃ i,x=.int i/\Q (some i) H1


section
variable {X:Cx} {e:Expr} {te:TE} {lo hi:Option Expr} {tl th:TO} {pos p2:Pos}

theorem po_none:PO X none tNoPart:=by
 intro pins s σ H Q I h
 rw [evalPart_none]
 exact wpAny_pure ⟨none,H,I,.none,h⟩
theorem po_some (h:PE X e te):PO X (some e) (tPart te):=by
 intro pins s σ H Q I hw
 rw [evalPart_some]
 refine thn (h pins s σ H _ I hw) fun u s1 ⟨x,H1,I1,r1,q1⟩=>?_
 obtain ⟨i,rfl,q⟩:=q1
 obtain ⟨t,rfl⟩:=r1
 exact ⟨some i,H1,I1,.int i t,q⟩

noncomputable def SlR (X:Cx) (r:V->Option Int->Option Int->Hp->VK->Prop):Prop :=
 ∀ (pins:List (Addr × Obj)) (s:Shared) (σ:St) (H:Hp) (x:V) (v vl vu:Value) (lo hi:Option Int) (sl:Addr) (Q:VK),Inv X pins σ H s->RelV x v->s.heap.IsSliceOf sl vl vu .none->IsPart vl lo->IsPart vu hi->r x lo hi H Q ->
  ∃ T id,typeLookup (.type T) "__getitem__" = pure (some (.builtin id))/\s.TypeIs v T/\wpAny (model X.prog X.w) X.A (getItem v (.ref sl)) (EP X pins σ Q) X.xe s
noncomputable def tSl (r:V->Option Int->Option Int->Hp->VK->Prop) (te:TE) (tl th:TO):TE:=fun σ H Q=>te σ H fun x H1=>tl σ H1 fun l H2=>th σ H2 fun u H3=>r x l u H3 Q
theorem pe_slice {r:V->Option Int->Option Int->Hp->VK->Prop} (hr:SlR X r) (he:PE X e te) (hl:PO X lo tl) (hu:PO X hi th):PE X (.Subscript e (.Slice lo hi none p2) pos) (tSl r te tl th):=by
 intro pins s σ H Q I h
 refine Subscript_ (thn (he pins s σ H _ I h) fun v s1 ⟨x,H1,I1,r1,q1⟩=>?_)
 refine wpAny_Slice (thn (hl pins s1 σ H1 _ I1 q1) fun vl s2 ⟨l,H2,I2,pl,q2⟩=>thn (hu pins s2 σ H2 _ I2 q2) fun vu s3 ⟨u,H3,I3,pu,q3⟩=>?_)
 rw [evalPart_none]
 refine wpAny_pure ?_
 have I4:Inv X pins σ H3 { s3 with heap:=s3.heap.push { cls:=.type "slice", data:=.fields #[vl,vu,.none] } }:=I3.kept (t':=s3.toks) fun b ob q=>Heap.get?_push_of_some _ q
 obtain ⟨T,id,hT,ht,hg⟩:=hr pins { s3 with heap:=s3.heap.push { cls:=.type "slice", data:=.fields #[vl,vu,.none] } } σ H3 x v vl vu l u s3.heap.objs.size Q I4 r1 (Heap.IsSliceOf.new ..) pl pu q3
 show wpAny (model X.prog X.w) X.A (subscriptTail e (.Slice lo hi none p2) v (.ref s3.heap.objs.size)) (EP X pins σ Q) X.xe { s3 with heap:=s3.heap.push { cls:=.type "slice", data:=.fields #[vl,vu,.none] } }
 exact tail_any (ops:=[.ref s3.heap.objs.size,v]) ht hT hg (by with_unfolding_all rfl)

noncomputable def cutV (xs:List V) (lo hi:Option Int):List V:=(xs.drop (HT.sIx xs.length 0 lo)).take (HT.sIx xs.length xs.length hi - HT.sIx xs.length 0 lo)
theorem cutV_length (xs:List V) (lo hi:Option Int):(cutV xs lo hi).length<=xs.length:=by
 unfold cutV
 rw [List.length_take,List.length_drop]
 omega

end
end L2

namespace L2
open PySem PySem.Spec PyProof.Rows

noncomputable def ixN (n:Nat) (i:Int):Option Nat:=if 0<=i then (if i < n then some i.toNat else none) else if -(n:Int)<=i then some (i + n).toNat else none
noncomputable def atI {α:Type} (xs:List α) (i:Int):Option α:=(ixN xs.length i).bind fun j=>xs[j]?
theorem ixN_seq {n:Nat} {i:Int} {j:Nat} (h:ixN n i=some j):seqIndex? i n=some j/\j < n/\-(n:Int)<=i/\i < n:=by
 unfold ixN at h
 by_cases h0:0<=i
 ·rw [if_pos h0] at h
  by_cases h1:i < n
  ·rw [if_pos h1] at h
   have e:i.toNat=j:=Option.some.inj h
   exact ⟨by rw [seqIndex_of h0 h1,e],by omega,by omega,h1⟩
  ·rw [if_neg h1] at h; cases h
 ·rw [if_neg h0] at h
  by_cases h1:-(n:Int)<=i
  ·rw [if_pos h1] at h
   have e:(i + n).toNat=j:=Option.some.inj h
   exact ⟨by rw [seqIndex_neg (by omega) h1,e],by omega,h1,by omega⟩
  ·rw [if_neg h1] at h; cases h
theorem atI_get {α:Type} {xs:List α} {i:Int} {v:α} (h:atI xs i=some v):∃ j,seqIndex? i xs.length=some j/\xs[j]?=some v/\j < xs.length/\-(xs.length:Int)<=i/\i < xs.length:=by
 unfold atI at h
 cases e:ixN xs.length i with
 | none=>rw [e] at h; cases h
 | some j =>
  rw [e] at h
  obtain ⟨h1,h2,h3,h4⟩:=ixN_seq e
  exact ⟨j,h1,h,h2,h3,h4⟩
theorem atI_nat {α:Type} {xs:List α} {j:Nat} {v:α} (h:xs[j]?=some v):atI xs (j:Int)=some v:=by
 have hj:j < xs.length:=(List.getElem?_eq_some_iff.mp h).1
 have e:ixN xs.length (j:Int)=some j:=by
  unfold ixN
  rw [if_pos (by omega),if_pos (by omega)]; simp
 unfold atI; rw [e]; exact h

noncomputable def PlainIx (b:Expr):Prop:=∀ o i,subscripted b false o i=operate [o,i] (getItem o i)
noncomputable def IxR (X:Cx) (r:R2):Prop :=
 ∀ (value slice:Expr) (pins:List (Addr × Obj)) (s:Shared) (σ:St) (H:Hp) (x y:V) (v u:Value) (Q:VK),Inv X pins σ H s->RelV x v->RelV y u->r x y H Q ->
  subscripted slice false v u=operate [v,u] (getItem v u)->wpAny (model X.prog X.w) X.A (subscriptTail value slice v u) (EP X pins σ Q) X.xe s
noncomputable def MtR (X:Cx) (id:String) (r:V->List V->Hp->VK->Prop):Prop :=
 ∀ (pins:List (Addr × Obj)) (s:Shared) (σ:St) (H:Hp) (x:V) (xs:List V) (v:Value) (us:List Value) (Q:VK),Inv X pins σ H s->RelV x v->Vals xs us->r x xs H Q ->
  wpAny (model X.prog X.w) X.A (call (.builtin id) (v :: us)) (EP X pins σ Q) X.xe s
section
variable {X:Cx} {a b:Expr} {ta tb:TE} {pos:Pos}
theorem pe_ix {r:R2} (hr:IxR X r) (ha:PE X a ta) (hb:PE X b tb) (hs:PlainIx b):PE X (.Subscript a b pos) (tOp r ta tb):=by
 intro pins s σ H Q I h
 exact Subscript_ (binT ha hb I h fun v u s2 x y H2 I2 rx ry q=>hr a b pins s2 σ H2 x y v u Q I2 rx ry q (hs _ _))

noncomputable def rIxL (K:PySem.W.Frag):R2:=fun x y H Q=>∃ p xs i v,x=.ref p/\y=.int i/\SqL K H p xs/\atI xs i=some v/\Q v H
noncomputable def rIxT (K:PySem.W.Frag):R2:=fun x y H Q=>∃ p xs i v,x=.ref p/\y=.int i/\SqT K H p xs/\atI xs i=some v/\Q v H
noncomputable def rIxS:R2:=fun x y H Q=>∃ z i c,x=.str z/\y=.int i/\z.length<=sizeLine/\atI z.cps.toList i=some c/\Q (.str ⟨#[c]⟩) H
theorem ix_list:IxR X (rIxL X.K):=by
 intro value slice pins s σ H x y v u Q I rx ry h hs
 obtain ⟨p,xs,i,z,rfl,rfl,hq,he,q⟩:=h
 cases rx
 obtain ⟨t,rfl⟩:=ry
 obtain ⟨its,r,pl,hz⟩:=I.list hq
 obtain ⟨j,h1,h2,h3,h4,h5⟩:=atI_get he
 obtain ⟨w,ew,rw'⟩:=r.get h2
 have hl:=r.length
 have hn:=line63
 have fin:EP X pins σ Q w s:=⟨z,H,I,rw',q⟩
 by_cases h0:0<=i
 ·have hj:i.toNat=j:=by
   rw [seqIndex_of h0 h5] at h1
   exact Option.some.inj h1
  exact item_listR pl.isList h0 (by omega) (by rw [hj]; simpa using ew) fin hs
 ·have hj:(i + (its.toArray.size:Int)).toNat=j:=by
   rw [seqIndex_neg (by omega) h4] at h1
   rw [List.size_toArray,<-hl]
   exact Option.some.inj h1
  exact subscriptTail_builtinR (x:=w) pl.isList.typeIs slot_list_getitem.lookup
   (wpAny_getItem_list_neg (Q:=fun r s'=>r=w/\EP X pins σ Q r s') pl.isList (by omega) (by rw [List.size_toArray] <;> omega) (by omega) (by rw [hj]; simpa using ew) ⟨rfl,fin⟩) hs
theorem ix_tup:IxR X (rIxT X.K):=by
 intro value slice pins s σ H x y v u Q I rx ry h hs
 obtain ⟨p,xs,i,z,rfl,rfl,hq,he,q⟩:=h
 cases rx
 obtain ⟨t,rfl⟩:=ry
 obtain ⟨its,r,pl,hz⟩:=I.tuple hq
 obtain ⟨j,h1,h2,h3,h4,h5⟩:=atI_get he
 obtain ⟨w,ew,rw'⟩:=r.get h2
 have hl:=r.length
 have hn:=line63
 have fin:EP X pins σ Q w s:=⟨z,H,I,rw',q⟩
 exact subscriptTail_builtinR (x:=w) pl.typeIs slot_tuple_getitem.lookup
  (getItem_tuple (j:=j) (Q:=fun r s'=>r=w/\EP X pins σ Q r s') pl (by omega) (by omega) (by rw [List.size_toArray,<-hl]; exact h1) (by simpa using ew) ⟨rfl,fin⟩) hs
theorem ix_str:IxR X rIxS:=by
 intro value slice pins s σ H x y v u Q I rx ry h hs
 obtain ⟨z,i,c,rfl,rfl,hz,he,q⟩:=h
 obtain ⟨t,rfl⟩:=rx
 obtain ⟨t',rfl⟩:=ry
 obtain ⟨j,h1,h2,h3,h4,h5⟩:=atI_get he
 have hl:z.cps.toList.length=z.length:=by simp [Str.length]
 rw [hl] at h1 h4 h5
 have hn:=line63
 exact tail_any (typeIs_str s z t) slot_str_getitem.lookup (getItem_str (c:=c) (by
  have e1:decide (i < -(2 ^ 63:Int))=false:=decide_eq_false (by omega)
  have e2:decide (i>=2 ^ 63)=false:=decide_eq_false (by omega)
  rw [e1,e2,Bool.or_false]) (by rw [h1]; simpa using h2) ⟨.str ⟨#[c]⟩,H,I.tok _,⟨_,rfl⟩,q⟩) hs

theorem mapSeq_set (its:List Value) (n j:Nat) (u:Value):Obj.mapSeq (·.setIfInBounds j u) { cls:=.type "list", data:=.seq its.toArray n }={ cls:=.type "list", data:=.seq (its.set j u).toArray n }:=by
 simp [Obj.mapSeq]
theorem Inv.lst {pins:List (Addr × Obj)} {σ:St} {H:Hp} {s:Shared} {p:Addr} {xs:List V} (I:Inv X pins σ H s) (h:H p=some (.lst xs)) :
  ∃ (its:List Value) (n:Nat),Vals xs its/\s.heap.get? p=some { cls:=.type "list", data:=.seq its.toArray n }/\xs.length<=sizeLine:=by
 obtain ⟨z,its,n,r,e⟩:=I.hok p _ h
 exact ⟨its,n,r,e,z⟩
theorem Inv.lstUpd {pins:List (Addr × Obj)} {σ:St} {H:Hp} {s:Shared} {p:Addr} {xs ys:List V} {its its':List Value} {n n':Nat} {f:Obj->Obj} (I:Inv X pins σ H s) (h:H p=some (.lst xs))
  (ho:s.heap.get? p=some { cls:=.type "list", data:=.seq its.toArray n }) (hf:f { cls:=.type "list", data:=.seq its.toArray n }={ cls:=.type "list", data:=.seq its'.toArray n' }) (r:Vals ys its') (hz:ys.length<=sizeLine) (t:Nat) :
  Inv X pins σ (upd H p (.lst ys)) { s with heap:=s.heap.update p f,toks:=t }:=by
 have e:(s.heap.update p f).get? p=some { cls:=.type "list", data:=.seq its'.toArray n' }:=by
  rw [Heap.get?_update_self f ho (by rw [hf] <;> rfl),hf]
 refine I.write (x:=p) (e:=p) (by rw [h]; trivial) (.inl rfl) (fun b u hb q=>(Heap.get?_update_other _ _ (Ne.symm hb)).trans q) ⟨_,e⟩ ?_
 exact ⟨hz,its',n',r,e⟩
noncomputable def rSetL:V->V->V->Hp->(Hp->Prop)->Prop:=fun o i v H Q=>∃ p xs k j,o=.ref p/\i=.int k/\H p=some (.lst xs)/\ixN xs.length k=some j/\Q (upd H p (.lst (xs.set j v)))
theorem set_list:PSet X rSetL:=by
 intro pins s σ H o i v ov iv u Q I ro ri rv h
 obtain ⟨p,xs,k,j,rfl,rfl,hp,hj,q⟩:=h
 cases ro
 obtain ⟨t,rfl⟩:=ri
 obtain ⟨its,n,r,ho,hz⟩:=I.lst hp
 obtain ⟨h1,h2,h3,h4⟩:=ixN_seq hj
 have hl:=r.length
 have hn:=line63
 have I':Inv X pins σ (upd H p (.lst (xs.set j v))) { s with heap:=s.heap.update p (Obj.mapSeq (·.setIfInBounds j u)) } :=
  I.lstUpd hp ho (mapSeq_set its n j u) (r.set rv j) (by rw [List.length_set]; exact hz) s.toks
 by_cases h0:0<=k
 ·have hk:k.toNat=j:=by
   rw [seqIndex_of h0 h4] at h1
   exact Option.some.inj h1
  exact PySem.W.ki_setAt ho h0 (by omega) (by rw [List.size_toArray,<-hl]; exact h4) (by rw [hk]; exact ⟨_,I',q⟩)
 ·have hk:(k + (its.toArray.size:Int)).toNat=j:=by
   rw [seqIndex_neg (by omega) h3] at h1
   rw [List.size_toArray,<-hl]
   exact Option.some.inj h1
  exact PySem.W.ki_setBack ho (by omega) (by rw [List.size_toArray,<-hl]; exact h3) (by omega) (by rw [hk]; exact ⟨_,I',q⟩)

theorem sl_bd (i:Int) (n:Nat):max 0 (min (if i < 0 then i + (n:Int) else i) (n:Int))=(((if i < 0 then (i + (n:Int)).toNat else min i.toNat n):Nat):Int):=by
 by_cases h:i < 0
 ·rw [if_pos h,if_pos h,Int.min_eq_left (by omega)]
  omega
 ·obtain ⟨k,rfl⟩:=Int.eq_ofNat_of_zero_le (Int.not_lt.mp h)
  rw [if_neg h,if_neg h,Int.toNat_natCast]
  omega
theorem slice_bounds (lo hi:Option Int) (n:Nat):(sliceBounds lo hi none n).1=((HT.sIx n 0 lo:Nat):Int)/\(sliceBounds lo hi none n).2.1=((HT.sIx n n hi:Nat):Int)/\(sliceBounds lo hi none n).2.2=1:=by
 refine ⟨?_,?_,rfl⟩
 ·cases lo with
  | none=>simp [sliceBounds,HT.sIx]
  | some i =>
   simp only [sliceBounds,HT.sIx,Option.getD_none,show (1:Int) > 0 by decide,if_true]
   exact sl_bd i n
 ·cases hi with
  | none=>simp [sliceBounds,HT.sIx]
  | some i =>
   simp only [sliceBounds,HT.sIx,Option.getD_none,show (1:Int) > 0 by decide,if_true]
   exact sl_bd i n
theorem slicePick_cut (its:List Value) (lo hi:Option Int):slicePick its.toArray lo hi none=((its.drop (HT.sIx its.length 0 lo)).take (HT.sIx its.length its.length hi - HT.sIx its.length 0 lo)).toArray:=by
 obtain ⟨h1,h2,h3⟩:=slice_bounds lo hi its.toArray.size
 unfold slicePick
 rw [h1,h2,h3]
 simp only [sliceRange_one,pick_run,List.size_toArray] <;> rfl
noncomputable def rSlL (K:PySem.W.Frag):V->Option Int->Option Int->Hp->VK->Prop:=fun x lo hi H Q=>∃ a xs,x=.ref a/\SqL K H a xs/\∀ p,H p=none->Q (.ref p) (upd H p (.lst (cutV xs lo hi)))
theorem sl_list:SlR X (rSlL X.K):=by
 intro pins s σ H x v vl vu lo hi sl Q I rx hs pl pu h
 obtain ⟨a,xs,rfl,hx,q⟩:=h
 cases rx
 obtain ⟨its,r,ht,hz⟩:=I.list hx
 have hlen:=r.length
 refine ⟨"list", _,slot_list_getitem.lookup,ht.isList.typeIs,?_⟩
 refine wpAny_getItem_list_slice ht.isList hs pl pu .none (by simp) ?_ (by rw [List.size_toArray] <;> omega)
 rw [slicePick_cut,<-hlen]
 refine ⟨.ref s.heap.objs.size,_,I.laid (t':=s.toks) (o:=.lst (cutV xs lo hi)) (fun b ob q=>Heap.get?_push_of_some _ q) (Nat.le_refl _) ?_,rfl,q _ (I.hok.fresh (Nat.le_refl _))⟩
 exact ⟨Nat.le_trans (cutV_length xs lo hi) hz,_,0,(r.drop (HT.sIx xs.length 0 lo)).take (HT.sIx xs.length xs.length hi - HT.sIx xs.length 0 lo),Heap.get?_push_size _ rfl⟩

noncomputable def flatV:V->Bool
 | .non=>true
 | .bl _=>true
 | .int _=>true
 | .str _=>true
 | _=>false
noncomputable def eqV:V->V->Bool
 | .non,.non=>true
 | .bl a,.bl b=>a == b
 | .bl a,.int b=>(if a then 1 else 0) == b
 | .int a,.bl b=>a == (if b then 1 else 0)
 | .int a,.int b=>a == b
 | .str a,.str b=>a == b
 | _,_=>false
theorem eqAt_V {A:Around} {s:Shared} {y x:V} {u v:Value} (ry:RelV y u) (rx:RelV x v) (fy:flatV y=true) (fx:flatV x=true):SeqAt.EqAt A s u v (eqV y x):=by
 cases y with
 | non =>
  cases ry
  cases x with
  | non=>cases rx; exact SeqAt.EqAt.same _
  | bl b=>cases rx; exact SeqAt.EqAt.none_bool b
  | int b=>obtain ⟨t,rfl⟩:=rx; exact SeqAt.EqAt.none_int b t
  | str b=>obtain ⟨t,rfl⟩:=rx; exact SeqAt.EqAt.none_str b t
  | _=>exact absurd (show false=true from fx) Bool.false_ne_true
 | bl a =>
  cases ry
  cases x with
  | non=>cases rx; exact SeqAt.EqAt.bool_none a
  | bl b=>cases rx; exact SeqAt.EqAt.bool_bool a b
  | int b=>obtain ⟨t,rfl⟩:=rx; exact SeqAt.EqAt.bool_int a b t
  | str b=>obtain ⟨t,rfl⟩:=rx; exact SeqAt.EqAt.bool_str a b t
  | _=>exact absurd (show false=true from fx) Bool.false_ne_true
 | int a =>
  obtain ⟨t',rfl⟩:=ry
  cases x with
  | non=>cases rx; exact SeqAt.EqAt.int_none a t'
  | bl b=>cases rx; exact SeqAt.EqAt.int_bool a t' b
  | int b=>obtain ⟨t,rfl⟩:=rx; exact SeqAt.EqAt.int_int a t' b t
  | str b=>obtain ⟨t,rfl⟩:=rx; exact SeqAt.EqAt.int_str a t' b t
  | _=>exact absurd (show false=true from fx) Bool.false_ne_true
 | str a =>
  obtain ⟨t',rfl⟩:=ry
  cases x with
  | non=>cases rx; exact SeqAt.EqAt.str_none a t'
  | bl b=>cases rx; exact SeqAt.EqAt.str_bool a t' b
  | int b=>obtain ⟨t,rfl⟩:=rx; exact SeqAt.EqAt.str_int a t' b t
  | str b=>obtain ⟨t,rfl⟩:=rx; exact SeqAt.EqAt.str_str a t' b t
  | _=>exact absurd (show false=true from fx) Bool.false_ne_true
 | _=>exact absurd (show false=true from fy) Bool.false_ne_true
noncomputable def eqU (x:V) (u:Value):Bool:=match u with
 | .none=>eqV .non x
 | .bool b=>eqV (.bl b) x
 | .int i _=>eqV (.int i) x
 | .str z _=>eqV (.str z) x
 | _=>false
theorem eqU_of {x y:V} {u:Value} (r:RelV y u) (f:flatV y=true):eqU x u=eqV y x:=by
 cases y with
 | non=>cases r; rfl
 | bl b=>cases r; rfl
 | int i=>obtain ⟨t,rfl⟩:=r; rfl
 | str z=>obtain ⟨t,rfl⟩:=r; rfl
 | _=>exact absurd (show false=true from f) Bool.false_ne_true
theorem any_eqU {x:V}:∀ {xs:List V} {us:List Value},Vals xs us->xs.all flatV=true->us.any (eqU x)=xs.any fun y=>eqV y x
 | _,_,.nil,_=>rfl
 | y :: xs,u :: us,.cons r t,f=>by
  rw [List.all_cons,Bool.and_eq_true] at f
  rw [List.any_cons,List.any_cons,eqU_of r f.1,any_eqU t f.2]
theorem mem_eqAt {A:Around} {s:Shared} {x:V} {v:Value} (rx:RelV x v) (fx:flatV x=true):∀ {xs:List V} {us:List Value},Vals xs us->xs.all flatV=true->∀ u ∈ us,SeqAt.EqAt A s u v (eqU x u)
 | _,_,.nil,_=>fun u hu=>by cases hu
 | y :: xs,u :: us,.cons r t,f=>fun u' hu=>by
  rw [List.all_cons,Bool.and_eq_true] at f
  rcases List.mem_cons.mp hu with rfl | hu
  ·rw [eqU_of r f.1]; exact eqAt_V r rx f.1 fx
  ·exact mem_eqAt rx fx t f.2 u' hu
noncomputable def inV (x:V) (xs:List V):Bool:=xs.any fun y=>eqV y x
noncomputable def rIn (K:PySem.W.Frag) (neg:Bool):R2:=fun x y H Q=>∃ p xs,y=.ref p/\(SqL K H p xs\/SqT K H p xs)/\flatV x=true/\xs.all flatV=true/\Q (.bl (if neg then !inV x xs else inV x xs)) H
theorem op_in_seq:OpR X (compareOp .In) (rIn X.K false):=by
 intro pins s σ H x y v u Q I rx ry h
 obtain ⟨p,xs,rfl,hq,fx,fs,q⟩:=h
 cases ry
 rcases hq with hq | hq
 ·obtain ⟨its,r,pl,hz⟩:=I.list hq
  refine SeqAt.in_listAt (eqU x) pl.isList (fun w hw=>mem_eqAt rx fx r fs w (by simpa using hw)) ⟨.bl _,H,I,rfl,?_⟩
  rw [show its.toArray.any (eqU x)=its.any (eqU x) by simp,any_eqU r fs]
  exact q
 ·obtain ⟨its,r,pl,hz⟩:=I.tuple hq
  refine SeqAt.in_tupleAt (eqU x) pl (fun w hw=>mem_eqAt rx fx r fs w (by simpa using hw)) ⟨.bl _,H,I,rfl,?_⟩
  rw [show its.toArray.any (eqU x)=its.any (eqU x) by simp,any_eqU r fs]
  exact q
theorem op_notIn_seq:OpR X (compareOp .NotIn) (rIn X.K true):=by
 intro pins s σ H x y v u Q I rx ry h
 obtain ⟨p,xs,rfl,hq,fx,fs,q⟩:=h
 cases ry
 rcases hq with hq | hq
 ·obtain ⟨its,r,pl,hz⟩:=I.list hq
  refine SeqAt.notIn_listAt (eqU x) pl.isList (fun w hw=>mem_eqAt rx fx r fs w (by simpa using hw)) ⟨.bl _,H,I,rfl,?_⟩
  rw [show its.toArray.any (eqU x)=its.any (eqU x) by simp,any_eqU r fs]
  exact q
 ·obtain ⟨its,r,pl,hz⟩:=I.tuple hq
  refine SeqAt.notIn_tupleAt (eqU x) pl (fun w hw=>mem_eqAt rx fx r fs w (by simpa using hw)) ⟨.bl _,H,I,rfl,?_⟩
  rw [show its.toArray.any (eqU x)=its.any (eqU x) by simp,any_eqU r fs]
  exact q

theorem call_len_seq:CallR X (.builtin "len") (fun xs H Q=>∃ p ys,xs=[.ref p]/\(SqL X.K H p ys\/SqT X.K H p ys)/\Q (.int ys.length) H):=by
 intro pins s σ H xs us Q I r h
 obtain ⟨p,ys,rfl,hq,q⟩:=h
 obtain ⟨u,rfl,rx⟩:=vals1 r
 cases rx
 have hn:=line63
 rcases hq with hq | hq
 ·obtain ⟨its,r',pl,hz⟩:=I.list hq
  have hlen:=r'.length
  exact Calls.call_len_list pl.isList (by simp only [List.size_toArray] <;> omega) ⟨.int ys.length,H,I.tok _,⟨s.toks + 1,by rw [List.size_toArray,hlen]⟩,q⟩
 ·obtain ⟨its,r',pl,hz⟩:=I.tuple hq
  have hlen:=r'.length
  exact len_tuple pl (by simp only [List.size_toArray] <;> omega) ⟨.int ys.length,H,I.tok _,⟨s.toks + 1,by rw [List.size_toArray,hlen]⟩,q⟩
theorem call_len_str:CallR X (.builtin "len") (fun xs H Q=>∃ z,xs=[.str z]/\z.length<=sizeLine/\Q (.int z.length) H):=by
 intro pins s σ H xs us Q I r h
 obtain ⟨z,rfl,hz,q⟩:=h
 obtain ⟨u,rfl,t,rfl⟩:=vals1 r
 have hn:=line63
 exact len_str (by omega) ⟨.int z.length,H,I.tok _,⟨_,rfl⟩,q⟩
theorem call_list_of:CallR X (.type "list") (fun xs H Q=>∃ p ys,xs=[.ref p]/\(SqL X.K H p ys\/SqT X.K H p ys)/\∀ l,H l=none->Q (.ref l) (upd H l (.lst ys))):=by
 intro pins s σ H xs us Q I r h
 obtain ⟨p,ys,rfl,hq,q⟩:=h
 obtain ⟨u,rfl,rx⟩:=vals1 r
 cases rx
 have fin:∀ (its:List Value),Vals ys its->ys.length<=sizeLine->∀ (h':Heap) (c':Nat),(∀ b o',s.heap.get? b=some o'->h'.get? b=some o') ->
   h'.get? s.heap.objs.size=some { cls:=.type "list", dict:=none,data:=.seq its.toArray c',slots:=#[] }->EP X pins σ Q (.ref s.heap.objs.size) { s with heap:=h' }:=fun its r' hz h' c' kp e =>
  ⟨.ref s.heap.objs.size,_,I.laid (t':=s.toks) kp (Nat.le_refl _) (show ObjOk X.prog X.w _ h' _ (.lst ys) from ⟨hz,its,c',r',e⟩),rfl,q _ (I.hok.fresh (Nat.le_refl _))⟩
 rcases hq with hq | hq
 ·obtain ⟨its,r',pl,hz⟩:=I.list hq
  have hlen:=r'.length
  obtain ⟨o,ho,hc,n,hd⟩:=pl.isList
  exact call_list_seq p (.inl rfl) ho hc hd (fun h' c' kp e=>fin its r' hz h' c' kp e) (by simp only [List.size_toArray] <;> omega)
 ·obtain ⟨its,r',pl,hz⟩:=I.tuple hq
  have hlen:=r'.length
  obtain ⟨o,ho,hc,n,hd⟩:=pl
  exact call_list_seq p (.inr rfl) ho hc hd (fun h' c' kp e=>fin its r' hz h' c' kp e) (by simp only [List.size_toArray] <;> omega)
theorem call_tuple_of:CallR X (.type "tuple") (fun xs H Q=>∃ p ys,xs=[.ref p]/\((SqL X.K H p ys/\∀ l,H l=none->Q (.ref l) (upd H l (.tup ys)))\/(SqT X.K H p ys/\Q (.ref p) H))):=by
 intro pins s σ H xs us Q I r h
 obtain ⟨p,ys,rfl,h⟩:=h
 obtain ⟨u,rfl,rx⟩:=vals1 r
 cases rx
 rcases h with ⟨hq,q⟩ | ⟨hq,q⟩
 ·obtain ⟨its,r',pl,hz⟩:=I.list hq
  have hlen:=r'.length
  refine call_tuple_list pl.isList (fun h' kp=>?_) (by simp only [List.size_toArray] <;> omega)
  have I1:Inv X pins σ H { s with heap:=h' }:=I.kept (t':=s.toks) kp
  have I2:Inv X pins σ (upd H h'.objs.size (.tup ys)) { s with heap:=h'.push { cls:=.type "tuple", data:=.seq its.toArray } } :=
   I1.laid (t':=s.toks) (fun b o e=>Heap.get?_push_of_some _ e) (Nat.le_refl _) (show ObjOk X.prog X.w _ _ _ (.tup ys) from ⟨hz,its,r',IsTup.new _ _⟩)
  exact ⟨.ref h'.objs.size,_,I2,rfl,q _ (I1.hok.fresh (Nat.le_refl _))⟩
 ·obtain ⟨its,r',pl,hz⟩:=I.tuple hq
  exact call_tuple_same pl ⟨.ref p,H,I,rfl,q⟩

noncomputable def tyV (K:PySem.W.Frag) (T:String) (x:V) (H:Hp):Prop:=match x with
 | .str _=>T = "str"
 | .int _=>T = "int"
 | .ref p=>(T = "list" /\ ∃ xs,SqL K H p xs)\/(T = "tuple" /\ ∃ o,K.lookup p=some o/\o.cls=.type "tuple" /\ o.dict=none) \/
   (T = "dict" /\ ((∃ kvs,H p=some (.dK kvs))\/∃ kvs,H p=some (.dT kvs)))\/(T = "set" /\ ∃ S n,H p=some (.set S n))
 | _=>False
theorem tyV_is {pins:List (Addr × Obj)} {σ:St} {H:Hp} {s:Shared} {T:String} {x:V} {v:Value} (I:Inv X pins σ H s) (r:RelV x v) (ty:tyV X.K T x H) :
  s.TypeIs v T/\∀ a,v=.ref a->∃ ob,s.heap.get? a=some ob/\ob.dict=none:=by
 cases x with
 | str z =>
  obtain ⟨t,rfl⟩:=r
  cases (show T = "str" from ty)
  exact ⟨typeIs_str s z t,fun _ e=>nomatch e⟩
 | int i =>
  obtain ⟨t,rfl⟩:=r
  cases (show T = "int" from ty)
  exact ⟨typeIs_int s i t,fun _ e=>nomatch e⟩
 | ref p =>
  cases r
  rcases ty with ⟨rfl,xs,hq⟩ | ⟨rfl,o,hk,hc,hd⟩ | ⟨rfl,hk⟩ | ⟨rfl,S,n,hk⟩
  ·obtain ⟨its,_,pl,_⟩:=I.list hq
   refine ⟨pl.isList.typeIs,fun a e=>?_⟩
   cases e
   obtain ⟨o,n,e,c,hd,_⟩:=pl
   exact ⟨o,e,hd⟩
  ·refine ⟨⟨o,I.kIn p o hk,hc⟩,fun a e=>?_⟩
   cases e
   exact ⟨o,I.kIn _ o hk,hd⟩
  ·have z:∃ o,s.heap.get? p=some o/\o.ExactDict:=by
    rcases hk with ⟨kvs,hk⟩ | ⟨kvs,hk⟩
    ·obtain ⟨_,_,_,_,o,_,_,e,ex,_⟩:=I.hok p _ hk
     exact ⟨o,e,ex⟩
    ·obtain ⟨_,_,_,_,o,_,_,e,ex,_⟩:=I.hok p _ hk
     exact ⟨o,e,ex⟩
   obtain ⟨o,e,ex⟩:=z
   refine ⟨⟨o,e,ex.1⟩,fun a e2=>?_⟩
   cases e2
   exact ⟨o,e,ex.2.1⟩
  ·obtain ⟨o,_,_,_,e,ex,_⟩:=I.hok p _ hk
   refine ⟨⟨o,e,ex.1⟩,fun a e2=>?_⟩
   cases e2
   exact ⟨o,e,ex.2.1⟩
 | _=>exact False.elim ty
noncomputable def tBM (K:PySem.W.Frag) (T:String) (r:V->List V->Hp->VK->Prop) (to:TE) (t:TA):TE:=fun σ H Q=>to σ H fun x H1=>tyV K T x H1/\t σ H1 fun xs H2=>r x xs H2 Q
variable {o e:Expr} {es:List Expr} {to:TE} {t:TA} {name:Str} {apos cpos:Pos} {T id:String} {r:V->List V->Hp->VK->Prop}
theorem pe_bm (pa:PlainAttrs T) (slot:Slot T name id) (hty:typeOf (.builtin id)=pure (.type "method_descriptor")) (hm:MtR X id r) (ho:PE X o to) (ha:PA X (e :: es) t)
  (hbase:attributeBase o name X.env (eval o X.env)=eval o X.env:=by rfl)
  (hfew:((backTo cpos (starEach (e :: es) X.env)).all (fun x=>!x.1) && (backToKw cpos (keywordEach [] X.env)).all (fun x=>x.1.isSome)
   && decide ((e :: es).length + ([]:List Keyword).length + (if ([]:List Keyword).isEmpty then 0 else 1) < 30))=true:=by rfl)
  (hline:(apos.endLine == cpos.line)=true:=by rfl) (hs:starEach (e :: es) X.env=(false,eval e X.env) :: starEach es X.env:=by rfl) (hplain:(backTo cpos (starEach es X.env)).any (·.1)=false:=by rfl) :
  PE X (.Call (.Attribute o name apos) (e :: es) [] cpos) (tBM X.K T r to t):=by
 intro pins s σ H Q I h
 refine wpAny_Call_method_late hbase hfew hline rfl (thn (ho pins s σ H _ I h) fun v s1 ⟨x,H1,I1,r1,ty,q1⟩=>?_)
 obtain ⟨h1,h2⟩:=tyV_is I1 r1 ty
 refine ⟨T,id,pa,slot,hty,h1,h2,?_⟩
 have hA:=ha cpos pins s1 σ H1 _ I1 q1
 rw [hs] at hA ⊢
 refine Calls.callWith_builtin (by show (false || (backTo cpos (starEach es X.env)).any (·.1))=false; rw [hplain] <;> rfl) (Calls.evalArgs_plain ?_)
 exact thn hA fun us s2 ⟨vs,H2,I2,r2,q2⟩=>hm pins s2 σ H2 x vs v us Q I2 r1 r2 q2
end
end L2

namespace L2
open PySem PySem.Spec PyProof.Rows

noncomputable def MtM (X:Cx) (id:String) (r:V->List V->Hp->VK->Prop):Prop :=
 ∀ (pins:List (Addr × Obj)) (s:Shared) (σ:St) (H:Hp) (x:V) (xs:List V) (v:Value) (us:List Value) (Q:VK),Inv X pins σ H s->RelV x v->Vals xs us->r x xs H Q ->
  wpAny (model X.prog X.w) X.A (call (.builtin id) (v :: us)) (EP X pins σ Q) X.xe s

theorem Vals.one:∀ {x:V} {us:List Value},Vals [x] us->∃ u,us=[u]/\RelV x u
 | _,_,.cons r .nil=>⟨_,rfl,r⟩
theorem Vals.eraseIdx:∀ {xs:List V} {us:List Value} (i:Nat),Vals xs us->Vals (xs.eraseIdx i) (us.eraseIdx i)
 | _,_,_,.nil=>.nil
 | _,_,0,.cons _ t=>t
 | _,_,i + 1,.cons r t=>.cons r (Vals.eraseIdx i t)
theorem len_erase {α:Type}:∀ (l:List α) (i:Nat),(l.eraseIdx i).length<=l.length
 | [],_=>Nat.le_refl _
 | _ :: _,0=>Nat.le_succ _
 | _ :: r,i + 1=>Nat.succ_le_succ (len_erase r i)

section
variable {X:Cx} {pins:List (Addr × Obj)} {σ:St} {H:Hp} {s:Shared} {l b:Addr} {xs ys zs:List V}

theorem Inv.lset {its its':List Value} {n:Nat} {f:Array Value->Array Value} {t':Nat} (I:Inv X pins σ H s) (hH:H l=some (.lst xs))
  (e:s.heap.get? l=some { cls:=.type "list", data:=.seq its.toArray n }) (hf:f its.toArray=its'.toArray) (hv:Vals ys its') (hz:ys.length<=sizeLine) :
  Inv X pins σ (upd H l (.lst ys)) { s with heap:=s.heap.update l (Obj.mapSeq f),toks:=t' }:=by
 have q:=PySem.IsL.update e f
 rw [hf] at q
 refine I.write (x:=l) (e:=l) (by rw [hH]; exact trivial) (.inl rfl) (fun b' u hb hu=>(Heap.get?_update_other s.heap (Obj.mapSeq f) (Ne.symm hb)).trans hu) ⟨_,q⟩ ?_
 exact ⟨hz,its',_,hv,q⟩
theorem Inv.lnew {its:List Value} {t':Nat} (I:Inv X pins σ H s) (hv:Vals ys its) (hz:ys.length<=sizeLine) :
  Inv X pins σ (upd H s.heap.objs.size (.lst ys)) { s with heap:=s.heap.push { cls:=.type "list", data:=.seq its.toArray },toks:=t' } :=
 I.laid (fun _ _ q=>Heap.get?_push_of_some _ q) (Nat.le_refl _) ⟨hz,its,0,hv,Heap.get?_push_size _ rfl⟩
theorem Inv.fresh (I:Inv X pins σ H s):H s.heap.objs.size=none:=I.hok.fresh (Nat.le_refl _)
theorem Inv.lstM (I:Inv X pins σ H s) (hH:H l=some (.lst xs)):xs.length<=sizeLine/\∃ (its:List Value) (n:Nat),Vals xs its/\xs.length=its.length/\s.heap.get? l=some { cls:=.type "list", data:=.seq its.toArray n }:=by
 obtain ⟨z,its,n,r,e⟩:=I.hok l _ hH
 exact ⟨z,its,n,r,r.length,e⟩

end

section
variable {X:Cx}

noncomputable def rAppend:V->List V->Hp->VK->Prop:=fun x vs H Q=>∃ l xs y,x=.ref l/\vs=[y]/\H l=some (.lst xs)/\xs.length < sizeLine/\Q .non (upd H l (.lst (xs++[y])))
theorem mt_append:MtM X "list.append" rAppend:=by
 intro pins s σ H x vs v us Q I rx rv h
 obtain ⟨l,xs,y,rfl,rfl,hH,hz,q⟩:=h
 cases rx
 obtain ⟨u,rfl,ru⟩:=rv.one
 obtain ⟨z,its,n,r,hl,e⟩:=I.lstM hH
 refine call_meets F.slot_list_append ⟨_,e,rfl⟩ F.entry_list_append (F.args_list_append_2 _ _) (PySem.list_append l its.toArray n u (by rw [List.size_toArray]; omega)) ⟨e,?_⟩
 refine ⟨.non,_,I.lset (its':=its++[u]) hH e (by simp) (r.append (.cons ru .nil)) ?_,rfl,q⟩
 rw [List.length_append,List.length_singleton]
 omega



noncomputable def rPopAt:V->List V->Hp->VK->Prop:=fun x vs H Q=>∃ l xs i k y,x=.ref l/\vs=[.int i]/\H l=some (.lst xs)/\-(2 ^ 63)<=i/\i < 2 ^ 63/\seqIndex? i xs.length=some k/\xs[k]?=some y/\Q y (upd H l (.lst (xs.eraseIdx k)))
theorem mt_popAt:MtM X "list.pop" rPopAt:=by
 intro pins s σ H x vs v us Q I rx rv h
 obtain ⟨l,xs,i,k,y,rfl,rfl,hH,h1,h2,hk,hy,q⟩:=h
 cases rx
 obtain ⟨u,rfl,ru⟩:=rv.one
 obtain ⟨t,rfl⟩:=ru
 obtain ⟨z,its,n,r,hl,e⟩:=I.lstM hH
 obtain ⟨w,hw,rw'⟩:=r.get hy
 refine call_meets F.slot_list_pop ⟨_,e,rfl⟩ F.entry_list_pop (F.args_list_pop_2 _ _)
  (MeetsSeq.list_pop_at l its.toArray n i t k w (fitsIndex_both h1 h2) (by rw [List.size_toArray,<-hl]; exact hk) (by rw [<-Array.getElem?_toList]; exact hw) (by rw [List.size_toArray]; omega)) ⟨e,?_⟩
 refine ⟨y,_,I.lset (its':=its.eraseIdx k) hH e ?_ (r.eraseIdx k) ?_,rw',q⟩
 ·show its.toArray.eraseIdxIfInBounds k=(its.eraseIdx k).toArray
  rw [List.eraseIdxIfInBounds_toArray]
 ·have:=len_erase xs k
  omega



noncomputable def rCat:R2:=fun x y H Q=>∃ l b xs zs,x=.ref l/\y=.ref b/\H l=some (.lst xs)/\H b=some (.lst zs)/\xs.length + zs.length<=sizeLine/\∀ p,H p=none->Q (.ref p) (upd H p (.lst (xs++zs)))
theorem op_cat:OpR X (binaryOp .Add) rCat:=by
 intro pins s σ H x y v u Q I rx ry h
 obtain ⟨l,b,xs,zs,rfl,rfl,hH,hB,hz,q⟩:=h
 cases rx
 cases ry
 obtain ⟨z,its,n,r,hl,e⟩:=I.lstM hH
 obtain ⟨z2,its2,n2,r2,hl2,e2⟩:=I.lstM hB
 refine PySem.P.add_list e e2 ?_ (by rw [List.size_toArray,List.size_toArray]; omega)
 have ea:its.toArray++its2.toArray=(its++its2).toArray:=by simp
 rw [ea]
 exact ⟨.ref _,_,I.lnew (t':=s.toks) (r.append r2) (by rw [List.length_append]; omega),rfl,q _ I.fresh⟩

end

section
variable {prog:Program} {w:World} {A:Around} {E:Value->Shared->Prop} {s:Shared}
end

section
variable {X:Cx}
end
end L2

namespace L2
open PySem PySem.Spec PyProof.Rows

section
variable {κ:Type} [DecidableEq κ]
noncomputable def valV (kvs:List (κ × V)) (k:κ):Option V:=(kvs.find? fun kv=>decide (kv.1=k)).map (·.2)
noncomputable def putK (kvs:List (κ × V)) (k:κ) (v:V):List (κ × V) :=
 if (kvs.any fun kv=>decide (kv.1=k))=true then kvs.map (fun kv=>if kv.1=k then (kv.1,v) else kv) else kvs++[(k,v)]

theorem valV_pos {p:κ × V} {r:List (κ × V)} {k:κ} (e:p.1=k):valV (p :: r) k=some p.2:=by simp [valV,List.find?_cons,e]
theorem valV_neg {p:κ × V} {r:List (κ × V)} {k:κ} (e:¬ p.1=k):valV (p :: r) k=valV r k:=by simp [valV,List.find?_cons,e]
theorem valV_any (k:κ):∀ kvs:List (κ × V),(kvs.any fun kv=>decide (kv.1=k))=(valV kvs k).isSome
 | []=>rfl
 | p :: r=>by
  rw [List.any_cons]
  by_cases e:p.1=k
  ·simp only [valV_pos e,decide_eq_true e,Bool.true_or,Option.isSome_some]
  ·rw [valV_neg e,decide_eq_false e,Bool.false_or]; exact valV_any k r
theorem valV_map (k j:κ) (y:V):∀ kvs:List (κ × V),valV (kvs.map fun kv=>if kv.1=k then (kv.1,y) else kv) j=(valV kvs j).map fun x=>if j=k then y else x
 | []=>rfl
 | p :: r=>by
  have ih:=valV_map k j y r
  rw [List.map_cons]
  by_cases h:p.1=k
  ·rw [if_pos h]
   by_cases e:p.1=j
   ·rw [valV_pos (p:=(p.1,y)) e,valV_pos e,Option.map_some,if_pos (e.symm.trans h)]
   ·rw [valV_neg (p:=(p.1,y)) e,valV_neg e,ih]
  ·rw [if_neg h]
   by_cases e:p.1=j
   ·rw [valV_pos (p:=p) e,valV_pos e,Option.map_some,if_neg (fun z=>h (e.trans z))]
   ·rw [valV_neg (p:=p) e,valV_neg e,ih]
theorem valV_snoc (k j:κ) (y:V):∀ kvs:List (κ × V),valV kvs k=none->valV (kvs++[(k,y)]) j=if j=k then some y else valV kvs j
 | [],_=>by
  by_cases e:k=j
  ·rw [if_pos e.symm]; exact valV_pos (p:=(k,y)) e
  ·rw [if_neg (fun z=>e z.symm)]; exact valV_neg (p:=(k,y)) e
 | p :: r,hn=>by
  rw [List.cons_append]
  have hk:¬ p.1=k:=fun z=>by rw [valV_pos z] at hn; cases hn
  rw [valV_neg hk] at hn
  have ih:=valV_snoc k j y r hn
  by_cases e:p.1=j
  ·rw [valV_pos e,valV_pos e,if_neg (fun z=>hk (e.trans z))]
  ·rw [valV_neg e,valV_neg e,ih]
theorem valV_put (kvs:List (κ × V)) (k j:κ) (y:V):valV (putK kvs k y) j=if j=k then some y else valV kvs j:=by
 unfold putK
 by_cases a:(kvs.any fun kv=>decide (kv.1=k))=true
 ·rw [if_pos a,valV_map]
  rw [valV_any] at a
  by_cases e:j=k
  ·obtain ⟨x,hx⟩:=Option.isSome_iff_exists.mp a
   rw [if_pos e,e,hx,Option.map_some,if_pos rfl]
  ·rw [if_neg e]
   cases valV kvs j with
   | none=>rfl
   | some x=>rw [Option.map_some,if_neg e]
 ·rw [if_neg a]
  refine valV_snoc k j y kvs ?_
  rw [valV_any] at a
  cases q:valV kvs k with
  | none=>rfl
  | some x=>rw [q] at a; exact (a rfl).elim
theorem length_putK (kvs:List (κ × V)) (k:κ) (v:V):(putK kvs k v).length<=kvs.length + 1:=by
 unfold putK
 split
 ·rw [List.length_map]; omega
 ·rw [List.length_append,List.length_cons,List.length_nil]; omega
theorem putK_new {kvs:List (κ × V)} {k:κ} (v:V) (h:valV kvs k=none):putK kvs k v=kvs++[(k,v)]:=by
 unfold putK
 rw [valV_any,h]
 exact if_neg (by decide)

theorem RelO.isSome_eq {o:Option V} {u:Option Value} (r:RelO o u):o.isSome=u.isSome:=by
 cases o with
 | none=>cases u with
  | none=>rfl
  | some _=>exact (show False from r).elim
 | some _=>cases u with
  | none=>exact (show False from r).elim
  | some _=>rfl
theorem RelO.getD {o:Option V} {u:Option Value} {d:V} {d':Value} (r:RelO o u) (rd:RelV d d'):RelV (o.getD d) (u.getD d'):=by
 cases o with
 | none=>cases u with
  | none=>exact rd
  | some _=>exact (show False from r).elim
 | some _=>cases u with
  | none=>exact (show False from r).elim
  | some _=>exact r

theorem KV.val {kvs:List (κ × V)} {vs:List (κ × Value)} (r:KV kvs vs) (k:κ):RelO (valV kvs k) (valueAt vs k):=by
 unfold KV at r
 induction r with
 | nil=>exact True.intro
 | @cons p q ps qs h t ih =>
  obtain ⟨h1,h2⟩:=h
  by_cases e:p.1=k
  ·have e':q.1=k:=h1.symm.trans e
   have b:valueAt (q :: qs) k=some q.2:=by simp [valueAt,List.find?_cons,e']
   rw [valV_pos e,b]; exact h2
  ·have e':¬ q.1=k:=fun z=>e (h1.trans z)
   have b:valueAt (q :: qs) k=valueAt qs k:=by simp [valueAt,List.find?_cons,e']
   rw [valV_neg e,b]; exact ih
theorem KV.any {kvs:List (κ × V)} {vs:List (κ × Value)} (r:KV kvs vs) (k:κ):(kvs.any fun kv=>decide (kv.1=k))=vs.any fun kv=>decide (kv.1=k):=by
 unfold KV at r
 induction r with
 | nil=>rfl
 | cons h t ih=>rw [List.any_cons,List.any_cons,ih,h.1]
theorem KV.repl {kvs:List (κ × V)} {vs:List (κ × Value)} (r:KV kvs vs) (k:κ) {y:V} {u:Value} (ry:RelV y u) :
  KV (kvs.map fun kv=>if kv.1=k then (kv.1,y) else kv) (vs.map fun kv=>if kv.1=k then (kv.1,u) else kv):=by
 unfold KV at r ⊢
 induction r with
 | nil=>exact .nil
 | @cons p q ps qs h t ih =>
  rw [List.map_cons,List.map_cons]
  refine .cons ?_ ih
  obtain ⟨h1,h2⟩:=h
  by_cases e:p.1=k
  ·rw [if_pos e,if_pos (h1.symm.trans e)]; exact ⟨h1,ry⟩
  ·rw [if_neg e,if_neg (fun z=>e (h1.trans z))]; exact ⟨h1,h2⟩
theorem KV.put {kvs:List (κ × V)} {vs:List (κ × Value)} (r:KV kvs vs) (k:κ) {y:V} {u:Value} (ry:RelV y u):KV (putK kvs k y) (stored vs k u):=by
 unfold putK stored
 rw [r.any k]
 by_cases e:(vs.any fun kv=>decide (kv.1=k))=true
 ·rw [if_pos e,if_pos e]; exact r.repl k ry
 ·rw [if_neg e,if_neg e]; exact Paired.snoc r ⟨rfl,ry⟩
theorem KV.length {kvs:List (κ × V)} {vs:List (κ × Value)} (r:KV kvs vs):kvs.length=vs.length:=Paired.length r
end


theorem kV_is {P:Program} {w:World} {k:Key} {u:Value} (r:RelV (kV k) u):(mixKind P w).is k u=true:=by
 cases k with
 | inl i=>obtain ⟨t,e⟩:=(show ∃ t,u=Value.int i t from r); subst e; exact mixKind_int P w i t
 | inr x=>obtain ⟨t,e⟩:=(show ∃ t,u=Value.str x t from r); subst e; exact mixKind_str P w x t
theorem items_are {P:Program} {w:World}:∀ {ks:List Key} {us:List Value},Vals (ks.map kV) us->ItemsAre (mixKind P w) ks us
 | [],_,r=>by rw [List.map_nil] at r; cases r; exact .nil
 | k :: ks,_,r=>by
  rw [List.map_cons] at r
  cases r with
  | cons h t=>exact .cons (kV_is h) (items_are t)

abbrev KT (H:Hp):List (List Key × V)->List (List Key × Addr × Value)->Prop:=Paired fun p q=>p.1=q.1/\H q.2.1=some (.tup (p.1.map kV))/\RelV p.2 q.2.2
theorem KT.val {H:Hp} {kvs:List (List Key × V)} {xs:List (List Key × Addr × Value)} (r:KT H kvs xs) (k:List Key):RelO (valV kvs k) ((atKey xs k).map (·.2)):=by
 induction r with
 | nil=>exact True.intro
 | @cons p q ps qs h t ih =>
  obtain ⟨h1,_,h2⟩:=h
  by_cases e:p.1=k
  ·have e':q.1=k:=h1.symm.trans e
   have b:atKey (q :: qs) k=some q.2:=by simp [atKey,List.find?_cons,e']
   rw [valV_pos e,b]; exact h2
  ·have e':¬ q.1=k:=fun z=>e (h1.trans z)
   have b:atKey (q :: qs) k=atKey qs k:=by simp [atKey,List.find?_cons,e']
   rw [valV_neg e,b]; exact ih
theorem KT.repl {H:Hp} {kvs:List (List Key × V)} {xs:List (List Key × Addr × Value)} (r:KT H kvs xs) (k:List Key) {y:V} {u:Value} (ry:RelV y u) :
  KT H (kvs.map fun kv=>if kv.1=k then (kv.1,y) else kv) (xs.map (putAt k u)):=by
 induction r with
 | nil=>exact .nil
 | @cons p q ps qs h t ih =>
  rw [List.map_cons,List.map_cons]
  refine .cons ?_ ih
  obtain ⟨h1,h2,h3⟩:=h
  unfold putAt
  by_cases e:p.1=k
  ·rw [if_pos e,if_pos (h1.symm.trans e)]; exact ⟨h1,h2,ry⟩
  ·rw [if_neg e,if_neg (fun z=>e (h1.trans z))]; exact ⟨h1,h2,h3⟩
theorem KT.put {H:Hp} {kvs:List (List Key × V)} {xs:List (List Key × Addr × Value)} (r:KT H kvs xs) (k:List Key) {b:Addr} {y:V} {u:Value} (hb:H b=some (.tup (k.map kV))) (ry:RelV y u) :
  KT H (putK kvs k y) (storedH xs k b u):=by
 have e:(kvs.any fun kv=>decide (kv.1=k))=(atKey xs k).isSome:=by
  rw [valV_any,(r.val k).isSome_eq,Option.isSome_map]
 unfold putK storedH
 rw [e]
 by_cases q:(atKey xs k).isSome=true
 ·rw [if_pos q,if_pos q]; exact r.repl k ry
 ·rw [if_neg q,if_neg q]; exact Paired.snoc r ⟨rfl,hb,ry⟩
theorem KT.keeps {H H':Hp} {kvs:List (List Key × V)} {xs:List (List Key × Addr × Value)} (r:KT H kvs xs) (ht:∀ b ys,H b=some (.tup ys)->H' b=some (.tup ys)):KT H' kvs xs :=
 Paired.mapP r fun _ _ z=>⟨z.1,ht _ _ z.2.1,z.2.2⟩

section
variable {P:Program} {w:World} {H:Hp} {h:Heap} {a:Addr}
theorem rd_of {u:HO} (ok:HOk P w H h) (e:Rd H a u):ObjOk P w H h a u:=e.ok ok
theorem dk_rd {kvs:List (Key × V)} (ok:HOk P w H h) (e:Rd H a (.dK kvs)):kvs.length<=sizeLine/\(a == sysModules)=false/\∃ vs,KV kvs vs/\h.DictOf (mixKind P w) a vs :=
 show ObjOk P w H h a (.dK kvs) from rd_of ok e
theorem dk_of {kvs:List (Key × V)} (ok:HOk P w H h) (e:H a=some (.dK kvs)):kvs.length<=sizeLine/\(a == sysModules)=false/\∃ vs,KV kvs vs/\h.DictOf (mixKind P w) a vs:=dk_rd ok (.inl e)
theorem key_of {ks:List Key} (ok:HOk P w H h) (e:H a=some (.tup (ks.map kV))):(tupleKind (mixKind P w)).is h ks a:=by
 obtain ⟨_,its,r,o,h1,h2,n,h3⟩:=(show ObjOk P w H h a (.tup (ks.map kV)) from ok a _ e)
 exact ⟨o,its.toArray,n,h1,h2,h3,by simpa using items_are r⟩
theorem dt_rd {kvs:List (List Key × V)} (ok:HOk P w H h) (e:Rd H a (.dT kvs)):kvs.length<=sizeLine/\(a == sysModules)=false /\
  ∃ xs,KT H kvs xs/\h.DictOfH (tupleKind (mixKind P w)) a xs:=by
 obtain ⟨z,y,xs,r,o,es,ep,h1,h2,h3,h4,h5⟩:=(show ObjOk P w H h a (.dT kvs) from rd_of ok e)
 refine ⟨z,y,xs,r,o,es,ep,h1,h2,h3,h4,fun x hx=>?_,h5⟩
 have all:∀ {l:List (List Key × V)} {m:List (List Key × Addr × Value)},KT H l m->∀ x ∈ m,(tupleKind (mixKind P w)).is h x.1 x.2.1:=by
  intro l m q
  induction q with
  | nil=>intro x hx; exact nomatch hx
  | @cons p q ps qs hq t ih =>
   intro x hx
   rcases List.mem_cons.mp hx with e | hx
   ·subst e
    exact key_of ok (by rw [<-hq.1]; exact hq.2.1)
   ·exact ih x hx
 exact all r x hx
theorem dt_of {kvs:List (List Key × V)} (ok:HOk P w H h) (e:H a=some (.dT kvs)):kvs.length<=sizeLine/\(a == sysModules)=false /\
  ∃ xs,KT H kvs xs/\h.DictOfH (tupleKind (mixKind P w)) a xs:=dt_rd ok (.inl e)
end

noncomputable def DGet (H:Hp) (a:Addr) (y:V) (r:Option V):Prop :=
 (∃ kvs k,Rd H a (.dK kvs)/\y=kV k/\r=valV kvs k)\/∃ kvs k b,Rd H a (.dT kvs)/\y=.ref b/\H b=some (.tup (k.map kV))/\r=valV kvs k
noncomputable def DPut (H:Hp) (a:Addr) (y v:V) (H':Hp):Prop :=
 (∃ kvs k,H a=some (.dK kvs)/\y=kV k/\kvs.length < sizeLine/\H'=upd H a (.dK (putK kvs k v))) \/
 ∃ kvs k b,H a=some (.dT kvs)/\y=.ref b/\H b=some (.tup (k.map kV))/\kvs.length < sizeLine/\H'=upd H a (.dT (putK kvs k v))
theorem DGet.k {H:Hp} {a:Addr} {kvs:List (Key × V)} {k:Key} (e:H a=some (.dK kvs)):DGet H a (kV k) (valV kvs k):=.inl ⟨kvs,k,.inl e,rfl,rfl⟩
theorem DPut.k {H:Hp} {a:Addr} {kvs:List (Key × V)} {k:Key} {v:V} (e:H a=some (.dK kvs)) (hl:kvs.length < sizeLine):DPut H a (kV k) v (upd H a (.dK (putK kvs k v))):=.inl ⟨kvs,k,e,rfl,hl,rfl⟩


section
variable {X:Cx} {pins:List (Addr × Obj)} {σ:St} {H:Hp} {s:Shared} {a:Addr} {y v:V} {u r:Value} {o:Option V} {A:Around} {E:Value->Shared->Prop}

theorem Inv.big (I:Inv X pins σ H s):sysModules < s.heap.objs.size:=by
 have h:mainGlobals < s.heap.objs.size:=(I.mod.glob.keeps I.bk).lt
 exact Nat.lt_trans (by decide) h

theorem d_getItem {Q:Value->Shared->Prop} (hu:A.units + 1 < cLine) (I:Inv X pins σ H s) (g:DGet H a y (some v)) (ry:RelV y u) (h:∀ w' s',Inv X pins σ H s'->RelV v w'->Q w' s') :
  wpAny (model X.prog X.w) A (getItem (.ref a) u) Q E s:=by
 rcases g with ⟨kvs,k,e,ey,l⟩ | ⟨kvs,k,b,e,ey,eb,l⟩
 ·subst ey
  obtain ⟨z,hd,vs,rel,dd⟩:=dk_rd I.hok e
  obtain ⟨w',hw,rw'⟩:=RelO.some_of (v:=v) (o:=valueAt vs k) (by rw [l]; exact rel.val k)
  exact wpAny_getItem_of (kV_is ry) dd.mapOf hw (h w' _ (I.tok _) rw')
 ·subst ey
  cases (show u=Value.ref b from ry)
  obtain ⟨z,hd,xs,rel,dd⟩:=dt_rd I.hok e
  obtain ⟨w',hw,rw'⟩:=RelO.some_of (v:=v) (o:=(atKey xs k).map (·.2)) (by rw [l]; exact rel.val k)
  obtain ⟨p,hp,hp2⟩:=Option.map_eq_some_iff.mp hw
  refine wpAny_getItem_heap (tupleKind_room_in1 hu) (key_of I.hok eb) dd hp ?_
  rw [hp2]
  exact h w' _ (I.tok _) rw'
theorem d_in {Q:Value->Shared->Prop} (hu:A.units + 1 < cLine) (I:Inv X pins σ H s) (g:DGet H a y o) (ry:RelV y u) (h:∀ s',Inv X pins σ H s'->Q (.bool o.isSome) s') :
  wpAny (model X.prog X.w) A (compareOp .In u (.ref a)) Q E s:=by
 rcases g with ⟨kvs,k,e,ey,l⟩ | ⟨kvs,k,b,e,ey,eb,l⟩
 ·subst ey
  obtain ⟨z,hd,vs,rel,dd⟩:=dk_rd I.hok e
  refine wpAny_in_of (kV_is ry) hd dd.mapOf ?_
  rw [<-(rel.val k).isSome_eq,<-l]
  exact h _ (I.tok _)
 ·subst ey
  cases (show u=Value.ref b from ry)
  obtain ⟨z,hd,xs,rel,dd⟩:=dt_rd I.hok e
  refine wpAny_in_heap (tupleKind_room_in1 hu) (key_of I.hok eb) hd dd ?_
  have q:=(rel.val k).isSome_eq
  rw [Option.isSome_map] at q
  rw [<-q,<-l]
  exact h _ (I.tok _)
theorem d_notIn {Q:Value->Shared->Prop} (hu:A.units + 1 < cLine) (I:Inv X pins σ H s) (g:DGet H a y o) (ry:RelV y u) (h:∀ s',Inv X pins σ H s'->Q (.bool (!o.isSome)) s') :
  wpAny (model X.prog X.w) A (compareOp .NotIn u (.ref a)) Q E s:=by
 rcases g with ⟨kvs,k,e,ey,l⟩ | ⟨kvs,k,b,e,ey,eb,l⟩
 ·subst ey
  obtain ⟨z,hd,vs,rel,dd⟩:=dk_rd I.hok e
  refine wpAny_notIn_of (kV_is ry) hd dd.mapOf ?_
  rw [<-(rel.val k).isSome_eq,<-l]
  exact h _ (I.tok _)
 ·subst ey
  cases (show u=Value.ref b from ry)
  obtain ⟨z,hd,xs,rel,dd⟩:=dt_rd I.hok e
  refine wpAny_notIn_heap (tupleKind_room_in1 hu) (key_of I.hok eb) hd dd ?_
  have q:=(rel.val k).isSome_eq
  rw [Option.isSome_map] at q
  rw [<-q,<-l]
  exact h _ (I.tok _)
theorem d_write {h':Heap} {t':Nat} {ob:HO} (I:Inv X pins σ H s) (mu:Mut (H a)) (hs:Heap.SameBut a s.heap h') (he:∃ q,h'.get? a=some q) (new:ObjOk X.prog X.w (upd H a ob) h' a ob) :
  Inv X pins σ (upd H a ob) { s with heap:=h',toks:=t' } :=
 I.write (x:=a) (e:=a) mu (.inl rfl) (fun b q hb z=>(hs.2 b hb).trans z) he new
theorem dk_new {P:Program} {w:World} {H':Hp} {h':Heap} {kvs:List (Key × V)} {vs:List (Key × Value)} (z:kvs.length<=sizeLine) (hd:(a == sysModules)=false) (rel:KV kvs vs) (dd:h'.DictOf (mixKind P w) a vs) :
  ObjOk P w H' h' a (.dK kvs):=⟨z,hd,vs,rel,dd⟩
theorem d_setItem {H':Hp} {Q:Unit->Shared->Prop} (hu:A.units + 1 < cLine) (I:Inv X pins σ H s) (g:DPut H a y v H') (ry:RelV y u) (rv:RelV v r) (h:∀ s',Inv X pins σ H' s'->Q () s') :
  wpAny (model X.prog X.w) A (setItem (.ref a) u r) Q E s:=by
 rcases g with ⟨kvs,k,e,ey,l,eH⟩ | ⟨kvs,k,b,e,ey,eb,l,eH⟩
 ·subst ey eH
  obtain ⟨z,hd,vs,rel,dd⟩:=dk_of I.hok e
  have hz:vs.length<=sizeLine:=by rw [<-rel.length]; exact z
  have hl:(putK kvs k v).length<=sizeLine:=by have:=length_putK kvs k v; omega
  refine wpAny_setItem_pairs (hsz:=hz) (kV_is ry) dd fun h' dd' hs=>h _ ?_
  have he:∃ q,h'.get? a=some q:=let ⟨q,_,_,hq,_⟩:=dd'; ⟨q,hq⟩
  exact d_write I (by rw [e]; exact True.intro) hs he (dk_new hl hd (rel.put k rv) dd')
 ·subst ey eH
  cases (show u=Value.ref b from ry)
  obtain ⟨z,hd,xs,rel,dd⟩:=dt_of I.hok e
  have hz:xs.length<=sizeLine:=by rw [<-Paired.length rel]; exact z
  have hl:(putK kvs k v).length<=sizeLine:=by have:=length_putK kvs k v; omega
  refine wpAny_setItem_heap (hsz:=hz) (tupleKind_room_in1 hu) (key_of I.hok eb) dd fun h' dd' hs=>h _ ?_
  obtain ⟨q,es,ep,hq,h2,h3,h4,_,h5⟩:=dd'
  refine d_write I (by rw [e]; exact True.intro) hs ⟨q,hq⟩ ⟨hl,hd,_,(rel.put k eb rv).keeps fun c ys ec=>?_,q,es,ep,hq,h2,h3,h4,h5⟩
  rw [upd_ne (ne_of ec e (fun z=>nomatch z))]
  exact ec
end

section
variable {X:Cx} {pins:List (Addr × Obj)} {σ:St} {H:Hp} {s:Shared} {a:Addr} {kvs:List (Key × V)} {k:Key} {u:Value} {A:Around} {E:Value->Shared->Prop}
end


noncomputable def NoSl (i:Expr):Prop:=∀ ov iv,subscripted i false ov iv=operate [ov,iv] (getItem ov iv)
theorem subD_of {prog:Program} {w:World} {A:Around} {E:Value->Shared->Prop} {s:Shared} {env:Env} {value slice:Expr} {pos:Pos} {T id:String} {Q:Value->Shared->Prop}
  (hl:typeLookup (.type T) "__getitem__" = pure (some (.builtin id))) (hs:NoSl slice)
  (h:wpAny (model prog w) A (eval value env) (fun o s₁=>wpAny (model prog w) A (eval slice env) (fun i s₂=>s₂.TypeIs o T/\wpAny (model prog w) A (getItem o i) Q E s₂) E s₁) E s) :
  wpAny (model prog w) A (eval (.Subscript value slice pos) env) Q E s:=by
 refine Subscript_ (wpAny_mono h (fun o s₁ h₁=>wpAny_mono h₁ (fun i s₂ h₂=>?_) fun _ _ x=>x) fun _ _ x=>x)
 obtain ⟨hT,h₂⟩:=h₂
 unfold subscriptTail
 refine wpAny_bind ?_
 rw [getitemInPython_of_ne hT.not_modules]
 refine wpAny_bind (wpAny_specialOf hT hl ?_)
 have fin:wpAny (model prog w) A (subscripted slice false o i) (fun r s₃=>wpAny (model prog w) A (letTemporaryGo value o r >>= fun _=>pure r) Q E s₃) E s₂:=by
  rw [hs o i]
  exact wpAny_operating (wpAny_mono h₂ (fun r s₃ h₃=>wpAny_bind (wpAny_letTemporaryGo (wpAny_pure h₃))) fun _ _ x=>x)
 first
  | exact wpAny_pure (wpAny_bind fin)
  | exact wpAny_bind (wpAny_pure (wpAny_bind fin))
  | exact wpAny_bind fin

theorem dict_typeIs {X:Cx} {pins:List (Addr × Obj)} {σ:St} {H:Hp} {s:Shared} {a:Addr} {y:V} {o:Option V} (I:Inv X pins σ H s) (g:DGet H a y o):s.TypeIs (.ref a) "dict" := by
 rcases g with ⟨kvs,k,e,_,_⟩ | ⟨kvs,k,b,e,_,_,_⟩
 ·obtain ⟨_,_,vs,_,dd⟩:=dk_rd I.hok e
  exact dd.typeIs
 ·obtain ⟨_,_,xs,_,dd⟩:=dt_rd I.hok e
  exact dd.typeIs

noncomputable def tDGet (td ty:TE):TE:=fun σ H Q=>td σ H fun x H1=>ty σ H1 fun y H2=>∃ a v,x=.ref a/\DGet H2 a y (some v)/\Q v H2
noncomputable def tDIn (ty td:TE):TE:=fun σ H Q=>ty σ H fun y H1=>td σ H1 fun x H2=>∃ a o,x=.ref a/\DGet H2 a y o/\Q (.bl o.isSome) H2
noncomputable def tDNotIn (ty td:TE):TE:=fun σ H Q=>ty σ H fun y H1=>td σ H1 fun x H2=>∃ a o,x=.ref a/\DGet H2 a y o/\Q (.bl (!o.isSome)) H2
noncomputable def sDPut (td ty tv:TE):TS:=fun D σ H=>tv σ H fun v H1=>td σ H1 fun x H2=>ty σ H2 fun y H3=>∃ a H4,x=.ref a/\DPut H3 a y v H4/\D.nx σ H4

section
variable {X:Cx} {o i e value:Expr} {pos pos' tpos:Pos} {td ty tv:TE}
theorem pe_dget (hu:X.A.units + 1 < cLine) (ho:PE X o td) (hi:PE X i ty) (hs:NoSl i):PE X (.Subscript o i pos) (tDGet td ty):=by
 intro pins s σ H Q I h
 refine subD_of PySem.F.slot_dict_getitem.lookup hs (thn (ho pins s σ H _ I h) fun u s1 ⟨x,H1,I1,rx,q1⟩=>thn (hi pins s1 σ H1 _ I1 q1) fun iv s2 ⟨y,H2,I2,ry,a,v,ex,g,q2⟩=>?_)
 subst ex
 obtain rfl:u=Value.ref a:=rx
 exact ⟨dict_typeIs I2 g,d_getItem hu I2 g ry fun w' s3 I3 rw'=>⟨v,H2,I3,rw',q2⟩⟩
theorem pc_din (hu:X.A.units + 1 < cLine) (hi:PE X i ty) (ho:PE X o td):PC X .In i o (tDIn ty td):=by
 intro pins s σ H Q I h
 refine thn (hi pins s σ H _ I h) fun iv s1 ⟨y,H1,I1,ry,q1⟩=>thn (ho pins s1 σ H1 _ I1 q1) fun u s2 ⟨x,H2,I2,rx,a,ov,ex,g,q2⟩=>?_
 subst ex
 obtain rfl:u=Value.ref a:=rx
 exact d_in hu I2 g ry fun s3 I3=>⟨.bl ov.isSome,H2,I3,rfl,q2⟩
theorem pc_dnotin (hu:X.A.units + 1 < cLine) (hi:PE X i ty) (ho:PE X o td):PC X .NotIn i o (tDNotIn ty td):=by
 intro pins s σ H Q I h
 refine thn (hi pins s σ H _ I h) fun iv s1 ⟨y,H1,I1,ry,q1⟩=>thn (ho pins s1 σ H1 _ I1 q1) fun u s2 ⟨x,H2,I2,rx,a,ov,ex,g,q2⟩=>?_
 subst ex
 obtain rfl:u=Value.ref a:=rx
 exact d_notIn hu I2 g ry fun s3 I3=>⟨.bl (!ov.isSome),H2,I3,rfl,q2⟩
theorem ps_dput (hu:X.A.units + 1 < cLine) (ho:PE X o td) (hi:PE X i ty) (hv:PE X value tv) (hs:swapsWith value (some (.Subscript o i pos')) pos.line X.env=pure false) :
  PS X (.Assign [.Subscript o i pos'] value pos) (sDPut td ty tv):=by
 intro pins s σ H D I h
 refine wpAny_Assign_Subscript (thn (hv pins s σ H _ I h) fun r s1 ⟨v,H1,I1,rv,q1⟩=>thn (ho pins s1 σ H1 _ I1 q1) fun u s2 ⟨x,H2,I2,rx,q2⟩=>thn (hi pins s2 σ H2 _ I2 q2) fun iv s3 ⟨y,H3,I3,ry,a,H4,ex,g,q3⟩=>?_) hs
 subst ex
 obtain rfl:u=Value.ref a:=rx
 exact d_setItem hu I3 g ry rv fun s4 I4=>⟨σ,H4,I4,q3⟩
end


theorem dk_empty {P:Program} {w:World} {H:Hp} (h:Heap) (hb:sysModules < h.objs.size):ObjOk P w H (h.push { cls:=.type "dict", data:=.dict #[] }) h.objs.size (.dK []) :=
 ⟨Nat.zero_le _,beq_eq_false_iff_ne.mpr (Ne.symm (Nat.ne_of_lt hb)),[],.nil,Heap.DictOf.new h⟩
noncomputable def tDNewK:TE:=fun _ H Q=>∀ p,H p=none->Q (.ref p) (upd H p (.dK []))
section
variable {X:Cx} {pos:Pos}
theorem pe_dnewK:PE X (.Dict [] [] pos) tDNewK:=fun pins s σ H Q I h =>
 wpAny_Dict_empty ⟨.ref s.heap.objs.size,_,I.laid (a:=s.heap.objs.size) (o:=.dK []) (t':=s.toks) (fun _ _ q=>Heap.get?_push_of_some _ q) (Nat.le_refl _) (dk_empty s.heap I.big),rfl,h _ (I.hok.fresh (Nat.le_refl _))⟩
end

noncomputable def tPairs:List (TE × TE)->St->Hp->(List (V × V)->Hp->Prop)->Prop
 | [],_,H,Q=>Q [] H
 | (tk,tv) :: r,σ,H,Q=>tk σ H fun x H1=>tv σ H1 fun y H2=>tPairs r σ H2 fun ps H3=>Q ((x,y) :: ps) H3
abbrev VV:List (V × V)->List (Value × Value)->Prop:=Paired fun p q=>RelV p.1 q.1/\RelV p.2 q.2
noncomputable def PPs (X:Cx) (pos:Pos) (keys:List (Option Expr)) (values:List Expr) (trs:List (TE × TE)):Prop :=
 ∀ (pins:List (Addr × Obj)) (s:Shared) (σ:St) (H:Hp) (Q:List (V × V)->Hp->Prop),Inv X pins σ H s->tPairs trs σ H Q ->
  wpAny (model X.prog X.w) X.A (evalPairs (pairTrees keys values X.env pos)) (fun vs s'=>∃ ps H',Inv X pins σ H' s'/\VV ps vs/\Q ps H') X.xe s
theorem pps_nil {X:Cx} {pos:Pos}:PPs X pos [] [] []:=fun pins s σ H Q I h=>pairTrees_nil_walk ⟨[],H,I,.nil,h⟩
theorem pps_cons {X:Cx} {pos:Pos} {k v:Expr} {ks:List (Option Expr)} {vs:List Expr} {tk tv:TE} {trs:List (TE × TE)} (hk:PE X k tk) (hv:PE X v tv) (hr:PPs X pos ks vs trs) :
  PPs X pos (some k :: ks) (v :: vs) ((tk,tv) :: trs):=fun pins s σ H Q I h =>
 pairTrees_cons_walk (thn (hk pins s σ H _ I h) fun u s1 ⟨x,H1,I1,rx,q1⟩=>thn (hv pins s1 σ H1 _ I1 q1) fun w2 s2 ⟨y,H2,I2,ry,q2⟩ =>
  thn (hr pins s2 σ H2 _ I2 q2) fun ws s3 ⟨ps,H3,I3,rel,q3⟩=>⟨(x,y) :: ps,H3,I3,.cons ⟨rx,ry⟩ rel,q3⟩)

noncomputable def mergeK (kvs more:List (Key × V)):List (Key × V):=more.foldl (fun acc kv=>putK acc kv.1 kv.2) kvs
theorem KV.merge:∀ {more:List (Key × V)} {rs:List (Key × Value)} {kvs:List (Key × V)} {vs:List (Key × Value)},KV more rs->KV kvs vs->KV (mergeK kvs more) (merged vs rs):=by
 intro more rs kvs vs r
 unfold KV at r
 induction r generalizing kvs vs with
 | nil=>intro q; exact q
 | @cons p q ps qs h t ih =>
  intro r0
  have e:KV (putK kvs p.1 p.2) (stored vs q.1 q.2):=by
   have:=r0.put p.1 h.2
   rw [<-h.1]; exact this
  exact ih e
theorem length_mergeK:∀ (more kvs:List (Key × V)),(mergeK kvs more).length<=kvs.length + more.length
 | [],kvs=>by show kvs.length<=kvs.length + 0; omega
 | p :: r,kvs=>by
  have h1:=length_mergeK r (putK kvs p.1 p.2)
  have h2:=length_putK kvs p.1 p.2
  show (mergeK (putK kvs p.1 p.2) r).length<=_
  rw [List.length_cons]; omega
theorem carries_of {P:Program} {w:World}:∀ {kvs:List (Key × V)} {ws:List (Value × Value)},VV (kvs.map fun kv=>(kV kv.1,kv.2)) ws->∃ rs,Carries (mixKind P w) ws rs/\KV kvs rs
 | [],_,r=>by rw [List.map_nil] at r; cases r; exact ⟨[],True.intro,.nil⟩
 | p :: kvs,_,r=>by
  rw [List.map_cons] at r
  cases r with
  | @cons a b as bs h t =>
   obtain ⟨rs,c,q⟩:=carries_of (P:=P) (w:=w) t
   obtain ⟨b1,b2⟩:=b
   exact ⟨(p.1,b2) :: rs,⟨kV_is h.1,rfl,c⟩,.cons ⟨rfl,h.2⟩ q⟩
noncomputable def tDisp (trs:List (TE × TE)):TE:=fun σ H Q=>∀ p,H p=none->tPairs trs σ (upd H p (.dK [])) fun ps H2=>H2 p=some (.dK [])/\∃ kvs:List (Key × V),ps=kvs.map (fun kv=>(kV kv.1,kv.2))/\kvs.length<=15/\Q (.ref p) (upd H2 p (.dK (mergeK [] kvs)))
theorem pe_disp {X:Cx} {pos:Pos} {keys:List (Option Expr)} {values:List Expr} {trs:List (TE × TE)} (h:PPs X pos keys values trs) (hall:keys.all (·.isSome)=true) (hl:keys.length=values.length) (h0:keys ≠ [])
  (h15:keys.length<=15):PE X (.Dict keys values pos) (tDisp trs):=by
 intro pins s σ H Q I q
 have hn:=I.hok.fresh (Nat.le_refl s.heap.objs.size)
 have I1:=I.laid (a:=s.heap.objs.size) (o:=.dK []) (h':=s.heap.push { cls:=.type "dict", data:=.dict #[] }) (t':=s.toks) (fun _ _ q=>Heap.get?_push_of_some _ q) (Nat.le_refl _) (dk_empty s.heap I.big)
 refine wpAny_Dict_walk (knd:=mixKind X.prog X.w) hall hl h0 h15 (thn (h pins _ σ _ _ I1 (q _ hn)) fun ws s2 ⟨ps,H2,I2,rel,e,kvs,ep,lk,q2⟩=>?_)
 subst ep
 obtain ⟨rs,c,rk⟩:=carries_of (P:=X.prog) (w:=X.w) rel
 obtain ⟨z,hd,vs0,r0,dd⟩:=dk_of I2.hok e
 cases r0
 refine ⟨rs,c,dd,fun h' dd' hs=>⟨.ref s.heap.objs.size,_,?_,rfl,q2⟩⟩
 have hz:(mergeK [] kvs).length<=sizeLine:=by
  have h1:=length_mergeK kvs []
  rw [List.length_nil] at h1
  rw [sizeLine_eq]; omega
 have he:∃ q,h'.get? s.heap.objs.size=some q:=let ⟨q,_,_,hq,_⟩:=dd'; ⟨q,hq⟩
 exact d_write I2 (by rw [e]; exact True.intro) hs he (dk_new hz hd (rk.merge .nil) dd')


structure M1 (X:Cx) (o:Expr) (m:Str) (apos:Pos) (e:Expr) (cpos:Pos):Prop where
 base:attributeBase o m X.env (eval o X.env)=eval o X.env
 few:((backTo cpos (starEach [e] X.env)).all (fun x=>!x.1) && (backToKw cpos (keywordEach [] X.env)).all (fun x=>x.1.isSome)
  && decide (([e]:List Expr).length + ([]:List Keyword).length + (if ([]:List Keyword).isEmpty then 0 else 1) < 30))=true
 line:(apos.endLine == cpos.line)=true
 trees:backTo cpos (starEach [e] X.env)=[(false,eval e X.env)]
structure M2 (X:Cx) (o:Expr) (m:Str) (apos:Pos) (e f:Expr) (cpos:Pos):Prop where
 base:attributeBase o m X.env (eval o X.env)=eval o X.env
 few:((backTo cpos (starEach [e,f] X.env)).all (fun x=>!x.1) && (backToKw cpos (keywordEach [] X.env)).all (fun x=>x.1.isSome)
  && decide (([e,f]:List Expr).length + ([]:List Keyword).length + (if ([]:List Keyword).isEmpty then 0 else 1) < 30))=true
 line:(apos.endLine == cpos.line)=true
 trees:backTo cpos (starEach [e,f] X.env)=[(false,eval e X.env),(false,eval f X.env)]

noncomputable def IsD (H:Hp) (a:Addr):Prop:=(∃ kvs,Rd H a (.dK kvs))\/∃ kvs,Rd H a (.dT kvs)
theorem isD_at {X:Cx} {pins:List (Addr × Obj)} {σ:St} {H:Hp} {s:Shared} {a:Addr} (I:Inv X pins σ H s) (d:IsD H a) :
  s.TypeIs (.ref a) "dict" /\ (∀ b,Value.ref a=.ref b->∃ ob,s.heap.get? b=some ob/\ob.dict=none)/\(a == sysModules)=false:=by
 rcases d with ⟨kvs,e⟩ | ⟨kvs,e⟩
 ·obtain ⟨_,hd,vs,_,dd⟩:=dk_rd I.hok e
  refine ⟨dd.typeIs,fun b q=>?_,hd⟩
  cases q
  obtain ⟨ob,_,_,h1,h2,_⟩:=dd
  exact ⟨ob,h1,h2.2.1⟩
 ·obtain ⟨_,hd,xs,_,dd⟩:=dt_rd I.hok e
  refine ⟨dd.typeIs,fun b q=>?_,hd⟩
  cases q
  obtain ⟨ob,_,_,h1,h2,_⟩:=dd
  exact ⟨ob,h1,h2.2.1⟩

section
variable {X:Cx} {pins:List (Addr × Obj)} {σ:St} {H:Hp} {s:Shared} {a:Addr} {y d:V} {u r:Value} {o:Option V} {A:Around} {E:Value->Shared->Prop}
theorem d_get1 {Q:Value->Shared->Prop} (hu:A.units + 1 < cLine) (I:Inv X pins σ H s) (g:DGet H a y o) (ry:RelV y u) (h:∀ w' s',Inv X pins σ H s'->RelV (o.getD .non) w'->Q w' s') :
  wpAny (model X.prog X.w) A (call (.builtin "dict.get") [.ref a,u]) Q E s:=by
 rcases g with ⟨kvs,k,e,ey,l⟩ | ⟨kvs,k,b,e,ey,eb,l⟩
 ·subst ey
  obtain ⟨z,hd,vs,rel,dd⟩:=dk_rd I.hok e
  refine call_meetsIn PySem.F.slot_dict_get dd.typeIs PySem.F.entry_dict_get (PySem.F.args_dict_get_2 _ _) (meets_dict_get (mixKind X.prog X.w) a (kV_is ry) hd) ⟨_,dd.mapOf,h _ _ (I.tok _) ?_⟩
  rw [l]
  exact (rel.val k).getD rfl
 ·subst ey
  cases (show u=Value.ref b from ry)
  obtain ⟨z,hd,xs,rel,dd⟩:=dt_rd I.hok e
  refine call_meetsIn PySem.F.slot_dict_get dd.typeIs PySem.F.entry_dict_get (PySem.F.args_dict_get_2 _ _) (meetsH_dict_get (tupleKind (mixKind X.prog X.w)) a b hd) ⟨tupleKind_room_in1 hu,k,xs,key_of I.hok eb,dd,h _ _ (I.tok _) ?_⟩
  rw [l]
  exact (rel.val k).getD rfl
end

noncomputable def tDGet1 (td ty:TE):TE:=fun σ H Q=>td σ H fun x H1=>∃ a,x=.ref a/\IsD H1 a/\ty σ H1 fun y H2=>∃ o,DGet H2 a y o/\Q (o.getD .non) H2
section
variable {X:Cx} {o e f:Expr} {apos cpos:Pos} {td ty tx:TE}
theorem pe_dget1 (hu:X.A.units + 1 < cLine) (ho:PE X o td) (he:PE X e ty) (m:M1 X o "get" apos e cpos):PE X (.Call (.Attribute o "get" apos) [e] [] cpos) (tDGet1 td ty):=by
 intro pins s σ H Q I h
 refine wpAny_Call_method m.base m.few m.line PySem.F.plainAttrs_dict PySem.F.slot_dict_get PySem.F.type_dict_get (thn (ho pins s σ H _ I h) fun u s1 ⟨x,H1,I1,rx,a,ex,d,q1⟩=>?_)
 subst ex
 obtain rfl:u=Value.ref a:=rx
 obtain ⟨t1,t2,_⟩:=isD_at I1 d
 refine ⟨t1,t2,?_⟩
 rw [m.trees]
 refine Calls.callWith_builtin rfl (Calls.evalArgs_plain (Calls.spliced_cons (thn (he pins s1 σ H1 _ I1 q1) fun iv s2 ⟨y,H2,I2,ry,ov,g,q2⟩=>Calls.spliced_nil ?_)))
 exact d_get1 hu I2 g ry fun w' s3 I3 rw'=>⟨_,H2,I3,rw',q2⟩
end

section
variable {X:Cx} {pins:List (Addr × Obj)} {σ:St} {H:Hp} {s:Shared} {a:Addr} {kvs:List (Key × V)} {A:Around} {E:Value->Shared->Prop}
end


section
variable {X:Cx} {pins:List (Addr × Obj)} {σ:St} {H:Hp} {s:Shared} {a:Addr} {y:V} {u:Value} {A:Around} {E:Value->Shared->Prop}
end
end L2

namespace Att
open PySem PySem.W PySem.Calls PyProof.Rows

theorem ints_of_wellAll {P:Params} {h:Heap}:∀ (ns:List Int) (vs:List Value),WellAll P h vs (ns.map WData.int)->IntsAre vs ns:=by
 intro ns
 induction ns with
 | nil =>
  intro vs w
  rw [List.map_nil] at w
  cases w
  exact .nil
 | cons n ns ih =>
  intro vs w
  rw [List.map_cons] at w
  cases w with
  | cons a b =>
   cases a
   exact .cons _ _ (ih _ b)

theorem script_of {l:OpenLaw} {n:Nat} (hn:l.most=some n) {P:Params} {h:Heap} {args:List WData} {vals:List Value}
  (hpre:l.row.toRowW.claim.pre args=true) (hwl:WellAll P h vals args) :
  ∃ a vs ns,vals=[Value.ref a]/\args=[WData.list (ns.map WData.int)]/\h.get? a=some { cls:=.type "list", data:=.seq vs.toArray }/\IntsAre vs ns/\ns.length<=n:=by
 have hsh:WShape.hasAll [] args [.list .int]=true:=(pre_splitW hpre).1
 have hc:l.pre.holds [] { args:=args }=true:=(pre_splitW hpre).2
 obtain ⟨d,r,rfl,h1,h2⟩:=hasAllW_cons hsh
 obtain rfl:=hasAllW_nil h2
 obtain ⟨xs,rfl,h3⟩:=hasW_list h1
 obtain ⟨ns,rfl⟩:=items_int h3
 have hlen:ns.length<=n:=by
  unfold OpenLaw.pre at hc
  have h4:(WTm.not (.lt (.lit (.int (n:Int))) (.len (.arg 0)))).holds [] { args:=[.list (ns.map .int)] }=true:=by
   have h4:=(holds_andW hc).1
   rw [hn] at h4
   exact h4
  have h5:=condW_of h4 (w_not (w_lt w_lit (w_len_list (w_arg rfl))))
  rw [List.length_map] at h5
  refine Nat.le_of_not_lt fun q=>?_
  have q':(n:Int) < ((ns.length:Nat):Int):=by omega
  first
   | (rw [decide_eq_true q'] at h5; exact absurd h5 (by decide))
   | (simp at h5; omega)
 cases hwl with
 | cons w1 w2 =>
  cases w2
  cases w1 with
  | list ho hall=>exact ⟨_,_,ns,rfl,rfl,ho,ints_of_wellAll ns _ hall,hlen⟩

theorem post_true (l:OpenLaw) (args:List WData):l.row.toRowW.claim.post args (.bool true) args=true :=
 postW_of (r:=l.row.toRowW) (X:=(true == true))
  (show WShape.has [] (.bool true) .bool=true by first | rfl | decide | simp [WShape.has,WShape.arms,WShape.armsAll])
  (show (WTm.eq .res (.lit (.bool true))).value [] { args:=args,res:=some (.bool true),after:=args }=some (.bool (true == true)) from w_eq_bool (w_res rfl) w_lit) rfl


theorem attach_call {l:OpenLaw} {n:Nat} {q:Program} {loose:List Str} {XP:(Str->Option Value)->Heap->Prop} {YP:World->Heap->Prop} {d:DefRec}
  (hn:l.most=some n) (hdf:d.params.defaults=[])
  (call:∀ (w:World) (s₀ s₁:Shared) (mg mb:Str->Option Value) (fa:Addr) (o:Obj) (pm cd doc:Value) (a:Addr) (vs:List Value) (ns:List Int),
   Ground q loose [] XP w s₀ mg mb s₁.heap->YP w s₁.heap ->
   s₁.heap.get? fa=some o->o.data=.func (docDef d.name d.params d.body d.scope pm cd doc)->s₁.heap.CodeRec cd d.name->mg d.name=some (.ref fa) ->
   s₁.heap.get? a=some { cls:=.type "list", data:=.seq vs.toArray }->IntsAre vs ns->ns.length<=n->s₁.gens=#[] ->
   codeAny (model l.prog w) callerA (.call (.ref fa) ⟨[.ref a],[]⟩) (fun r s'=>r=.ok (.ret (.bool true))/\OldK s₁.heap s'.heap/\s'.os=s₁.os/\AllBare s'.gens) s₁) :
  WalkO q loose XP YP l.row.toRowW d [] (fun f vs=>PySem.call f vs):=by
 intro w s₀ s₁ mg mb G Y fa o pm cd doc dV kV ho hd hcd hD hmg hg args vals as hpre hlay hrd hwl hlo
 obtain rfl:dV=.none:=Dflts.none hD hdf
 obtain rfl:kV=.none:=Dflts.noKw hD
 obtain ⟨a,vs,ns,rfl,rfl,hobj,hints,hlen⟩:=script_of hn hpre hwl
 refine enter_call (codeAny_mono (call w s₀ s₁ mg mb fa o pm cd doc a vs ns G Y ho (fd_plain hd) hcd hmg hobj hints hlen hg) fun r s' hq=>?_)
 obtain ⟨rfl,h2,h3,h4⟩:=hq
 exact ⟨.inl ⟨.bool true,.bool true,[],rfl,fun _=>rfl,.bool true,post_true l _,fun _=>⟨List.Pairwise.nil,fun _ hm=>(nomatch hm)⟩⟩,h2,h3,h4⟩


section
variable {prog:Program} {w:World} {A:Around} {E:Value->Shared->Prop} {s:Shared} {K:Frag}






end
end Att

namespace L2
open PySem PySem.Spec PyProof.Rows

theorem vals_ints:∀ {vs:List Value} {ns:List Int},IntsAre vs ns->Vals (ns.map V.int) vs
 | _,_,.nil=>.nil
 | _,_,.cons n t h=>.cons ⟨t,rfl⟩ (vals_ints h)


end L2

namespace L2
open PySem PySem.Spec PyProof.Rows


end L2

/- THE LAST THEOREM (shape; LID,My.* are yours):
  My.Adr: a structure of the addresses that your layer names (classes,functions); My.Txt K t: a structure (Prop) of the equations over K;
  My.txt_mk:{K} {implicit addresses ..} (e1:nsIn K mainGlobals "law" = some (some (.ref f))) (e2:K.lookup f=some ⟨oc,od,.func (fnOf "law" "law" params body scope dV kV doc pm an cdv ct),sl⟩) (e3:codeIn K cdv "law" = true) ..:∃ t,My.Txt K t

(the tactic k_is has no namespace: write k_is) -/

namespace L2
open PySem PySem.Spec PyProof.Rows

noncomputable def defArgs (s:Stmt):Arguments:=match s with
 | .FunctionDef _ a _ _ _ _ _ _ _ _=>a
 | _=>{ posonlyargs:=[],args:=[],vararg:=none,kwonlyargs:=[],kw_defaults:=[],kwarg:=none,defaults:=[] }
noncomputable def defBody (s:Stmt):List Stmt:=match s with
 | .FunctionDef _ _ b _ _ _ _ _ _ _=>b
 | _=>[]
noncomputable def defScope (s:Stmt):Scope:=match s with
 | .FunctionDef _ _ _ _ _ _ sc _ _ _=>sc
 | _=>{ kind:=.function,names:=[],isGenerator:=false,isCoroutine:=false }

abbrev CX0:CXT:=fun _ _ _ _ _ _=>False
abbrev E0:XK:=fun _ _ _=>False
theorem pass0 {X:Cx}:Passes CX0 X E0:=fun _ _ _ _ _ _ _ h=>h.elim

structure Fun (K:PySem.W.Frag) (x qual:Str) (st:Stmt) (f:Addr) (fd:FuncData):Prop where
 ex:∃ (oc:Value) (od:Option Addr) (kV doc pm:Value) (an:Option Addr) (cdv ct:Value) (osl:Array (Option Value)),
  fd=PySem.W.fnOf x qual (defArgs st) (defBody st) (defScope st) .none kV doc pm an cdv ct/\K.lookup f=some ⟨oc,od,.func fd,osl⟩/\PySem.W.codeIn K cdv qual=true
 kp:PySem.W.keepIn K (.ref f)=true
section
variable {P:Program} {w:World} {K:PySem.W.Frag} {mg:Str->Option Value} {base:Heap}
theorem Fun.ok {x qual:Str} {st:Stmt} {f:Addr} {fd:FuncData} {N ps:List Str} {k:Nat} {sp:Sp} (F:Fun K x qual st f fd) (S:FnScope N ps (defScope st)) (len:∀ vs H Q E,sp vs H Q E->vs.length=ps.length)
  (hbody:∀ (cdv:Value) (A:Around) (outer:List Env) (s:Shared) (H:Hp) (vs:List V) (Q:VK) (E:XK),Room k (A.deeper (envOfC qual (defScope st) s.heap.objs.size f cdv))->sp vs H Q E ->
   ∃ t,PSs (cxOf CX0 P w K mg base N qual (defScope st) f cdv A outer s H E).nox (defBody st) t/\t { nx:=fun _ H'=>Q .non H',rt:=Q } (start N vs) H):FnOk P w K mg base CX0 (k + 1) f fd ps sp:=by
 obtain ⟨oc,od,kV,doc,pm,an,cdv,ct,osl,rfl,lk,hcd⟩:=F.ex
 refine fn_of lk hcd S len fun A outer s H vs Q E hr hsp=>?_
 obtain ⟨t,h,q⟩:=hbody cdv A outer s H vs Q E hr hsp
 exact ⟨t,h.nox,q⟩
theorem Fun.binds {x qual:Str} {st:Stmt} {f:Addr} {fd:FuncData} {ps:List Str} (F:Fun K x qual st f fd)
  (h:∀ (kV doc pm:Value) (an:Option Addr) (cdv ct:Value) (us:List Value),us.length=ps.length->bindArgs (PySem.W.fnOf x qual (defArgs st) (defBody st) (defScope st) .none kV doc pm an cdv ct) ⟨us,[]⟩=pure (ps.zip us)):Binds K fd ps []:=by
 obtain ⟨oc,od,kV,doc,pm,an,cdv,ct,osl,rfl,lk,hcd⟩:=F.ex
 exact .all (h kV doc pm an cdv ct)
theorem fun_mk {x qual:Str} {st:Stmt} {f:Addr} {oc:Value} {od an:Option Addr} {osl:Array (Option Value)} {kV doc pm cdv ct:Value} (l:K.lookup f=some ⟨oc,od,.func (PySem.W.fnOf x qual (defArgs st) (defBody st) (defScope st) .none kV doc pm an cdv ct),osl⟩)
  (c:PySem.W.codeIn K cdv qual=true) (k:PySem.W.keepIn K (.ref f)=true):Fun K x qual st f (PySem.W.fnOf x qual (defArgs st) (defBody st) (defScope st) .none kV doc pm an cdv ct):=⟨⟨oc,od,kV,doc,pm,an,cdv,ct,osl,rfl,l,c⟩,k⟩
end
theorem hu_of {A:Around} {k:Nat} (hr:Room k A):A.units + 1 < cLine:=Nat.lt_of_le_of_lt (Nat.add_le_add_left (by decide:1<=64) _) hr.units

section
variable {X:Cx}
theorem pv (i:Nat) {x:Str} {pos:Pos} (hN:X.N[i]?=some x:=by rfl) (hv:Vis X.env.scope x:=by first | exact Or.inl rfl | exact Or.inr (Or.inl rfl) | exact Or.inr (Or.inr rfl)) (hd:(x == ("__debug__" : Str))=false:=by decide)
  (hcd:(x == ("__classdict__" : Str))=false:=by decide):PE X (.Name x pos) (tVar i):=pe_var hN hv hd hcd
end

theorem iteF {A B:Prop} (h:B):if false=true then A else B:=by
 rw [if_neg Bool.false_ne_true]
 exact h
theorem iteT {A B:Prop} (h:A):if true=true then A else B:=by
 rw [if_pos rfl]
 exact h
theorem ite2 {c A B:Prop} [Decidable c] (h1:c->A) (h2:¬ c->B):if c then A else B:=by
 by_cases h:c
 ·rw [if_pos h]
  exact h1 h
 ·rw [if_neg h]
  exact h2 h

noncomputable def Same (H H':Hp):Prop:=∀ b o,H b=some o->H' b=some o
theorem Same.refl (H:Hp):Same H H:=fun _ _ h=>h
theorem Same.trans {H H1 H2:Hp} (a:Same H H1) (b:Same H1 H2):Same H H2:=fun c o h=>b c o (a c o h)
theorem Same.free {H H':Hp} (e:Same H H') {l:Addr} (h:H' l=Option.none):H l=Option.none:=by
 cases q:H l with
 | none=>rfl
 | some o =>
  rw [e l o q] at h
  cases h
theorem Same.seq {K:PySem.W.Frag} {H H':Hp} {a:Addr} {xs:List V} (e:Same H H') (h:SqL K H a xs):SqL K H' a xs:=by
 rcases h with (h | ⟨o,h⟩) | h
 ·exact .inl (.inl (e _ _ h))
 ·exact .inl (.inr ⟨o,e _ _ h⟩)
 ·exact .inr h

section
variable {κ:Type} [DecidableEq κ]
theorem valV_not {kvs:List (κ × V)} {k:κ} (h:valV kvs k=none):¬ k ∈ kvs.map (·.1):=by
 intro m
 obtain ⟨p,hp,e⟩:=List.mem_map.mp m
 have q:(kvs.any fun kv=>decide (kv.1=k))=true:=List.any_eq_true.mpr ⟨p,hp,decide_eq_true e⟩
 rw [valV_any,h] at q
 exact absurd q (by simp)
theorem valV_in {kvs:List (κ × V)} {k:κ} {v:V} (h:valV kvs k=some v):k ∈ kvs.map (·.1):=by
 have q:(kvs.any fun kv=>decide (kv.1=k))=true:=by
  rw [valV_any,h]
  all_goals rfl
 obtain ⟨p,hp,e⟩:=List.any_eq_true.mp q
 exact List.mem_map.mpr ⟨p,hp,of_decide_eq_true e⟩
end
section
variable {X:Cx}
end
end L2
set_option maxHeartbeats 4000000
namespace L2
open PySem PySem.Spec PyProof.Rows

noncomputable def wk:St->St->Prop
 | [],[]=>True
 | none :: a,_ :: b=>wk a b
 | some x :: a,y :: b=>y=some x/\wk a b
 | _,_=>False
theorem wk_len:∀ {a b:St},wk a b->a.length=b.length
 | [],[],_=>rfl
 | [],_ :: _,h=>h.elim
 | none :: _,[],h=>h.elim
 | some _ :: _,[],h=>h.elim
 | none :: a,_ :: b,h=>congrArg (· + 1) (wk_len (a:=a) (b:=b) h)
 | some _ :: a,_ :: b,h=>congrArg (· + 1) (wk_len (a:=a) (b:=b) h.2)
theorem wk_get:∀ {a b:St},wk a b->∀ (i:Nat) (v:V),a[i]?=some (some v)->b[i]?=some (some v)
 | [],[],_,i,v,e=>by simp at e
 | [],_ :: _,h,_,_,_=>h.elim
 | none :: _,[],h,_,_,_=>h.elim
 | some _ :: _,[],h,_,_,_=>h.elim
 | none :: a,y :: b,h,0,v,e=>by simp at e
 | none :: a,y :: b,h,i + 1,v,e=>by
  have:=wk_get (a:=a) (b:=b) h i v (by simpa using e)
  simpa using this
 | some x :: a,y :: b,h,0,v,e=>by
  have e':x=v:=by simpa using e
  subst e'
  rw [h.1]; rfl
 | some x :: a,y :: b,h,i + 1,v,e=>by
  have:=wk_get (a:=a) (b:=b) h.2 i v (by simpa using e)
  simpa using this

noncomputable def clsOf (env:Env):List (Str × NameKind)->List (Str × Addr)->List (Str × Addr)
 | [],acc=>acc
 | (n,k) :: r,acc=>clsOf env r (if (k == .free)=true then (n,(env.cells.lookup n).getD 0) :: acc else acc)
theorem closure_go {env:Env}:∀ (ns:List (Str × NameKind)) (acc:List (Str × Addr)),(∀ y ∈ ns,y.2=.free->∃ c,env.cells.lookup y.1=some c) ->
  (forIn ns acc (fun x r=>match x with
   | (name,kind)=>if (kind == NameKind.free)=true then (do let c <-cellOf env name; pure (ForInStep.yield ((name,c) :: r))) else pure (ForInStep.yield r)):Sem (List (Str × Addr)))=pure (clsOf env ns acc)
 | [],acc,_=>rfl
 | (n,k) :: r,acc,h=>by
  rw [List.forIn_cons]
  have ih:=fun a=>closure_go (env:=env) r a fun y hy=>h y (List.mem_cons_of_mem _ hy)
  by_cases hk:(k == NameKind.free)=true
  ·obtain ⟨c,hc⟩:=h (n,k) List.mem_cons_self (by simpa using hk)
   have e1:cellOf env n=pure c:=by unfold cellOf; rw [hc]
   simp only [hk,if_true,e1,pure_bind]
   unfold clsOf
   simp only [hk,if_true,hc,Option.getD_some]
   exact ih _
  ·simp only [hk,if_false,pure_bind]
   unfold clsOf
   simp only [hk,if_false]
   exact ih _
theorem closure_eq {scope:Scope} {env:Env} (h:∀ y ∈ scope.names,y.2=.free->∃ c,env.cells.lookup y.1=some c):closureFor scope env=pure (clsOf env scope.names []):=by
 have e:=closure_go scope.names [] h
 unfold closureFor
 first
  | (rw [show (forIn scope.names ([]:List (Str × Addr)) _:Sem (List (Str × Addr)))=pure (clsOf env scope.names []) from e]; rfl)
  | (simp only [bind_pure]; exact e)
  | exact (congrArg (· >>= pure) e)
theorem clsOf_mem {env:Env}:∀ (ns:List (Str × NameKind)) (acc:List (Str × Addr)) (n:Str) (a:Addr),(n,a) ∈ clsOf env ns acc->(n,a) ∈ acc\/(a=(env.cells.lookup n).getD 0/\(n,NameKind.free) ∈ ns)
 | [],acc,n,a,h=>.inl h
 | (m,k) :: r,acc,n,a,h=>by
  unfold clsOf at h
  by_cases hk:(k == NameKind.free)=true
  ·rw [if_pos hk] at h
   rcases clsOf_mem r _ n a h with q | ⟨q1,q2⟩
   ·rcases List.mem_cons.mp q with q | q
    ·cases q
     have hk':k=.free:=by simpa using hk
     subst hk'
     exact .inr ⟨rfl,List.mem_cons_self⟩
    ·exact .inl q
   ·exact .inr ⟨q1,List.mem_cons_of_mem _ q2⟩
  ·rw [if_neg hk] at h
   rcases clsOf_mem r _ n a h with q | ⟨q1,q2⟩
   ·exact .inl q
   ·exact .inr ⟨q1,List.mem_cons_of_mem _ q2⟩
theorem clsOf_acc {env:Env}:∀ (ns:List (Str × NameKind)) (acc:List (Str × Addr)) (p:Str × Addr),p ∈ acc->p ∈ clsOf env ns acc
 | [],_,_,h=>h
 | (m,k) :: r,acc,p,h=>by
  unfold clsOf
  refine clsOf_acc r _ p ?_
  split
  ·exact List.mem_cons_of_mem _ h
  ·exact h
theorem clsOf_free {env:Env}:∀ (ns:List (Str × NameKind)) (acc:List (Str × Addr)) (n:Str),(n,NameKind.free) ∈ ns->(n,(env.cells.lookup n).getD 0) ∈ clsOf env ns acc
 | [],_,_,h=>nomatch h
 | (m,k) :: r,acc,n,h=>by
  unfold clsOf
  rcases List.mem_cons.mp h with q | q
  ·cases q
   refine clsOf_acc r _ _ ?_
   rw [if_pos (by rfl)]
   exact List.mem_cons_self
  ·exact clsOf_free r _ n q
theorem lookup_mem {α β:Type} [BEq α] [LawfulBEq α]:∀ {l:List (α × β)} {x:α} {y:β},l.lookup x=some y->(x,y) ∈ l
 | [],_,_,h=>by simp at h
 | (a,b) :: r,x,y,h=>by
  rw [List.lookup_cons] at h
  by_cases e:(x == a)=true
  ·rw [e] at h
   have e':x=a:=by simpa using e
   have h':b=y:=by simpa using h
   subst e' h'
   exact List.mem_cons_self
  ·have e2:(x == a)=false:=by simpa using e
   rw [e2] at h
   exact List.mem_cons_of_mem _ (lookup_mem (by simpa using h))
theorem lookup_of_mem {α β:Type} [BEq α] [LawfulBEq α]:∀ {l:List (α × β)} {x:α} {y:β},(x,y) ∈ l->∃ z,l.lookup x=some z
 | [],_,_,h=>nomatch h
 | (a,b) :: r,x,y,h=>by
  rw [List.lookup_cons]
  by_cases e:(x == a)=true
  ·rw [e]; exact ⟨b,rfl⟩
  ·have e2:(x == a)=false:=by simpa using e
   rw [e2]
   rcases List.mem_cons.mp h with q | q
   ·cases q; simp at e
   ·exact lookup_of_mem q
theorem cls_look {env:Env} {ns:List (Str × NameKind)} {x:Str} {c:Addr} (h:(clsOf env ns []).lookup x=some c) (hall:∀ y ∈ ns,y.2=.free->∃ c,env.cells.lookup y.1=some c):env.cells.lookup x=some c:=by
 rcases clsOf_mem ns [] x c (lookup_mem h) with q | ⟨q1,q2⟩
 ·nomatch q
 ·obtain ⟨c',hc⟩:=hall _ q2 rfl
  have hc':env.cells.lookup x=some c':=hc
  rw [hc'] at q1
  rw [hc',q1]; rfl
theorem cls_has {env:Env} {ns:List (Str × NameKind)} {x:Str} (h:(x,NameKind.free) ∈ ns):∃ c,(clsOf env ns []).lookup x=some c:=lookup_of_mem (clsOf_free ns [] x h)

noncomputable def Cx.block (X:Cx) (N:List Str) (scope:Scope) (C:Addr) (s:Shared) (H:Hp) (fp:List Addr):Cx :=
 { X with N:=N,s₀:=s,H₀:=H,env:=compEnvC scope (clsOf X.env scope.names []) C X.env,outer:=X.stack,ex:=fp,fn:=fun _=>false,pn:=[],xe:=fun _ _=>False }
theorem relabel_kind {scope:Scope} {env:Env} {x:Str} {k:NameKind} (h:(relabel scope env).names.lookup x=some k):∃ k',scope.names.lookup x=some k'/\(k=k'\/(k'=.free/\k=.cell)):=by
 unfold relabel at h
 generalize scope.names=ns at h
 induction ns with
 | nil=>simp at h
 | cons p r ih =>
  obtain ⟨n,k0⟩:=p
  rw [List.map_cons] at h
  by_cases e:(x == n)=true
  ·refine ⟨k0,by rw [List.lookup_cons,e],?_⟩
   by_cases c:(k0 == NameKind.free && env.scope.kind == .function && env.kindOf n == some .cell)=true
   ·have h1:some NameKind.cell=some k:=by
     have h2:=h
     simp only [c,if_true] at h2
     rw [List.lookup_cons,e] at h2
     exact h2
    have h3:k0=.free:=by
     simp only [Bool.and_eq_true,beq_iff_eq] at c
     exact c.1.1
    exact .inr ⟨h3,(Option.some.inj h1).symm⟩
   ·have h1:some k0=some k:=by
     have h2:=h
     simp only [c,Bool.false_eq_true,if_false] at h2
     rw [List.lookup_cons,e] at h2
     exact h2
    exact .inl (Option.some.inj h1).symm
  ·have e2:(x == n)=false:=by simpa using e
   rw [List.lookup_cons,e2]
   refine ih ?_
   by_cases c:(k0 == NameKind.free && env.scope.kind == .function && env.kindOf n == some .cell)=true
   ·have h2:=h
    simp only [c,if_true] at h2
    rw [List.lookup_cons,e2] at h2
    exact h2
   ·have h2:=h
    simp only [c,Bool.false_eq_true,if_false] at h2
    rw [List.lookup_cons,e2] at h2
    exact h2
theorem relabel_free {scope:Scope} {env:Env} {x:Str} (h:scope.names.lookup x=some .free):(relabel scope env).names.lookup x=some .cell\/(relabel scope env).names.lookup x=some .free:=by
 unfold relabel
 show List.lookup x (scope.names.map _)=_\/List.lookup x (scope.names.map _)=_
 generalize scope.names=ns at h
 induction ns with
 | nil=>simp at h
 | cons p r ih =>
  obtain ⟨n,k0⟩:=p
  rw [List.map_cons]
  by_cases e:(x == n)=true
  ·rw [List.lookup_cons,e] at h
   have h':k0=.free:=by simpa using h
   subst h'
   by_cases c:(NameKind.free == NameKind.free && env.scope.kind == .function && env.kindOf n == some .cell)=true
   ·left
    simp only [c,if_true]
    rw [List.lookup_cons,e]
   ·right
    simp only [c,Bool.false_eq_true,if_false]
    rw [List.lookup_cons,e]
  ·have e2:(x == n)=false:=by simpa using e
   rw [List.lookup_cons,e2] at h
   have h3:=ih h
   by_cases c:(k0 == NameKind.free && env.scope.kind == .function && env.kindOf n == some .cell)=true
   ·simp only [c,if_true]
    rw [List.lookup_cons,e2]
    exact h3
   ·simp only [c,Bool.false_eq_true,if_false]
    rw [List.lookup_cons,e2]
    exact h3

noncomputable def PIfs (X:Cx) (ifs:List Expr) (t:TT):Prop :=
 ∀ (pins:List (Addr × Obj)) (s:Shared) (σ:St) (H:Hp) (Q:Bool->Hp->Prop),Inv X pins σ H s->t σ H Q ->
  wpAny (model X.prog X.w) X.A (forIn ifs true fun c r=>if r=true then do let ok <-isTrue c X.env (eval c X.env); pure (ForInStep.yield ok) else pure (ForInStep.yield r)) (TP X pins σ Q) X.xe s
noncomputable def tYes:TT:=fun _ H Q=>Q true H
theorem pifs_nil {X:Cx}:PIfs X [] tYes:=fun _ _ _ H _ I h=>wpAny_tests_nil ⟨H,I,h⟩
theorem pifs_one {X:Cx} {c:Expr} {t:TT} (h:PT X c t):PIfs X [c] t:=fun pins s σ H Q I hw=>wpAny_tests_one (h pins s σ H Q I hw)

theorem compLoop_any {prog:Program} {w:World} {A:Around} {R:Result->Shared->Prop} {s:Shared} {elt target iter:Expr} {ifs:List Expr} {scope:Scope} {pos:Pos} {it acc:Value} {env:Env} (I:Nat->Shared->Prop)
  (turn:∀ n s,I n s->wpAny (model prog w) A (pyNext it) (fun r s1=>match r with
   | none=>R (.ok .next) s1
   | some v=>wpAny (model prog w) A (letOwnedTupleGo target it v) (fun _ s2=>wpAny (model prog w) A (assign target env v) (fun _ s3 =>
     wpAny (model prog w) A (forIn ifs true fun c r=>if r=true then do let ok <-isTrue c env (eval c env); pure (ForInStep.yield ok) else pure (ForInStep.yield r)) (fun ok s4 =>
      if ok=true then wpAny (model prog w) A (eval elt env) (fun x s5 =>
       wpAny (model prog w) A (call (.builtin "list.append") [acc,x]) (fun _ s6=>∃ m,m < n/\I m s6) (fun _ _=>False) s5) (fun _ _=>False) s4
      else ∃ m,m < n/\I m s4) (fun _ _=>False) s3) (fun _ _=>False) s2) (fun _ _=>False) s1) (fun _ _=>False) s)
  (n:Nat) (h:I n s):codeAny (model prog w) A (.compLoop (.ListComp elt [⟨target,iter,ifs,0⟩] scope pos) 0 it acc env) R s:=by
 refine codeAny_loop rfl I (fun n s hI=>?_) n h
 show wpAny _ A ((compTurn (.ListComp elt [⟨target,iter,ifs,0⟩] scope pos) 0 it acc env).onRaise (fun x=>do noteFrame x env; theTreesLotGoes x)) _ _ s
 refine wpAny_noted ?_
 rw [compTurn_list]
 have no:∀ {E:Value->Shared->Prop},∀ e s',(fun (_:Value) (_:Shared)=>False) e s'->E e s':=fun _ _ z=>False.elim z
 refine wpAny_bind (wpAny_standAt (wpAny_bind (wpAny_mono (turn n s hI) (fun r s1 h1=>?_) no)))
 cases r with
 | none=>exact wpAny_pure h1
 | some v =>
  refine wpAny_bind (wpAny_mono h1 (fun _ s2 h2=>?_) no)
  refine wpAny_bind (wpAny_mono h2 (fun _ s3 h3=>wpAny_bind (wpAny_mono h3 (fun ok s4 h4=>?_) no)) no)
  cases ok with
  | false=>exact wpAny_pure ⟨rfl,h4⟩
  | true =>
   exact wpAny_bind (wpAny_bind (wpAny_mono h4 (fun x s5 h5=>wpAny_bind (wpAny_mono h5 (fun _ s6 h6=>wpAny_pure (wpAny_pure ⟨rfl,h6⟩)) no)) no))

noncomputable def blockSt (tgs:List Str) (cap:List (Str × Nat)) (σ:St):St:=tgs.map (fun _=>none)++cap.map fun c=>(σ[c.2]?).join
noncomputable def tComp (wi:TI) (g:TG) (tt:TT) (te:TE) (f:St->St):TE:=fun σ H Q=>wi σ H fun J H1=>∀ D,H1 D=none->∃ W:Nat->Nat->Hp->List V->Prop,(∃ m,W 0 m (upd H1 D (.lst [])) []) /\
 ∀ i m H ys,W i m H ys->H D=some (.lst ys)/\((J.stop i H/\Q (.ref D) H)\/(J.go i H/\∀ x H',J.yld i H x H'->g x (f σ) H' fun σ2 H2=>wk (f σ) σ2/\tt σ2 H2 fun b H3 =>
  if b=true then te σ2 H3 fun v H4=>H4 D=some (.lst ys)/\ys.length < sizeLine/\∃ m',m' < m/\W (i + 1) m' (upd H4 D (.lst (ys++[v]))) (ys++[v])
  else ∃ m',m' < m/\W (i + 1) m' H3 ys))

structure BlockOk (X:Cx) (scope:Scope) (tgs:List Str) (cap:List (Str × Nat)):Prop where
 kind:scope.kind=.function
 nocell:(scope.names.all fun y=>!(y.2 == NameKind.cell))=true
 names:(scope.names.all fun y=>!(y.2 == NameKind.local) || (scope.names.lookup y.1 == some .local))=true
 free:(scope.names.all fun y=>!(y.2 == NameKind.free) || (X.env.scope.names.lookup y.1 == some .cell) || (X.env.scope.names.lookup y.1 == some .free))=true
 caps:(cap.all fun c=>decide (X.N[c.2]?=some c.1) && (scope.names.lookup c.1 == some .free) && (decide (X.env.scope.names.lookup c.1=some .cell) || decide (X.env.scope.names.lookup c.1=some .free)))=true
 tgl:(tgs.all fun x=>(scope.names.lookup x == some .local))=true
section
variable {X:Cx} {scope:Scope} {tgs:List Str} {cap:List (Str × Nat)}
theorem BlockOk.cellAt (B:BlockOk X scope tgs cap) (ok:X.Ok):∀ y ∈ scope.names,y.2=.free->∃ c,X.env.cells.lookup y.1=some c:=fun y hy hk=>by
 have q:=List.all_eq_true.mp B.free y hy
 rw [hk] at q
 refine ok.has y.1 ?_
 simp only [beq_self_eq_true,Bool.not_true,Bool.false_or,Bool.or_eq_true,beq_iff_eq] at q
 exact q
theorem BlockOk.noc (B:BlockOk X scope tgs cap):∀ y ∈ scope.names,y.2 ≠ .cell:=fun y hy hk=>by
 have q:=List.all_eq_true.mp B.nocell y hy
 rw [hk] at q
 simp at q
theorem BlockOk.locs (B:BlockOk X scope tgs cap):∀ y ∈ scope.names,y.2=.local->scope.names.lookup y.1=some .local:=fun y hy hk=>by
 have q:=List.all_eq_true.mp B.names y hy
 rw [hk] at q
 simpa using q

theorem Inv.enter {pins:List (Addr × Obj)} {σ:St} {H:Hp} {s:Shared} {h1:Heap} {tk:Nat} {fp:List Addr} (B:BlockOk X scope tgs cap) (I:Inv X pins σ H s) (hfp:∀ b ∈ fp,FpOk X pins H b) (hlt:∀ b ∈ fp,b < s.heap.objs.size)
  (hns:h1.Ns s.heap.objs.size (fun _=>none)) (old:∀ b o,s.heap.get? b=some o->h1.get? b=some o) :
  Inv (X.block (tgs++cap.map (·.1)) scope s.heap.objs.size s H fp) [] (blockSt tgs cap σ) H { s with heap:=h1,toks:=tk }:=by
 have cellsIn:∀ x c,(clsOf X.env scope.names []).lookup x=some c->X.env.cells.lookup x=some c:=fun x c e=>cls_look e (B.cellAt I.ok)
 have kindIn:∀ x,((relabel scope X.env).names.lookup x=some .cell\/(relabel scope X.env).names.lookup x=some .free)->(x,NameKind.free) ∈ scope.names:=fun x hx=>by
  have go:∀ k,(relabel scope X.env).names.lookup x=some k->(k=.cell\/k=.free)->(x,NameKind.free) ∈ scope.names:=fun k hk hc=>by
   obtain ⟨k',e1,e2⟩:=relabel_kind hk
   have m:=lookup_mem e1
   rcases e2 with e2 | ⟨e2,_⟩
   ·subst e2
    rcases hc with z | z
    ·exact absurd z (B.noc _ m)
    ·subst z; exact m
   ·subst e2; exact m
  rcases hx with h | h
  ·exact go _ h (.inl rfl)
  ·exact go _ h (.inr rfl)
 have nocl:∀ x c,X.env.cells.lookup x=some c->c ≠ s.heap.objs.size:=fun x c e=>by
  obtain ⟨v,q⟩:=I.cell x c e
  exact Nat.ne_of_lt q.lt
 refine ⟨⟨I.ok.mod,?_,I.ok.glob,I.ok.blt,Nat.le_refl _,fun x y c e1 e2=>I.ok.inj x y c (cellsIn x c e1) (cellsIn y c e2),fun x hx=>?_,fun x c hf _=>absurd (show false=true from hf) Bool.false_ne_true,I.ok.hd,I.ok.frames,.inl rfl,
  fun b hb=>⟨Nat.ne_of_lt (hlt b hb),fun x c e=>?_⟩,I.bs,Nat.le_trans I.ok.bsz I.sz,fun b o e hb=>?_,fun b hb hf=>?_,I.stack,I.stkFree⟩,
  rfl,I.bare,Un.kept old,⟨_,hns,fun i x v h2 h3 h4=>?_⟩,fun x c e=>?_,?_,fun x c e=>I.freeC x c (cellsIn x c e),fun p hp=>absurd (show p ∈ ([]:List (Addr × Obj)) from hp) (by simp),I.hok.kept old,?_⟩
 ·exact B.kind
 ·exact cls_has (kindIn x hx)
 ·exact (hfp b hb).2.2.2.2.1 x c (cellsIn x c e)
 ·-- no object of the base is an iterator of ours
  rcases (hfp b hb).2.2.2.1 with z | z
  ·exact I.ok.noex b o e z
  ·have q:=I.ok.bs b o e
   exact absurd (Nat.lt_of_lt_of_le (Heap.lt_size q.1) z) (Nat.lt_irrefl _)
 ·have hf':b ∈ frs X.stack:=hf
  rcases List.mem_cons.mp (I.stkSub b hf') with z | z
  ·exact (hfp b hb).2.1 z
  ·exact (hfp b hb).2.2.1 z
 ·-- a name that is known: one of the captured ones
  have hi:tgs.length<=i:=by
   by_cases hl:i < tgs.length
   ·exfalso
    unfold blockSt at h3
    rw [List.getElem?_append_left (by simpa using hl),List.getElem?_map] at h3
    cases e:tgs[i]? with
    | none=>rw [e] at h3; cases h3
    | some z=>rw [e] at h3; cases h3
   ·exact om2 hl
  unfold blockSt at h3
  rw [List.getElem?_append_right (by simpa using hi),List.length_map,List.getElem?_map] at h3
  have h2':(tgs++cap.map (·.1))[i]?=some x:=h2
  rw [List.getElem?_append_right hi,List.getElem?_map] at h2'
  cases e:cap[i - tgs.length]? with
  | none=>rw [e] at h2'; cases h2'
  | some c =>
   rw [e] at h2' h3
   have hx:c.1=x:=by simpa using h2'
   have hv:(σ[c.2]?).join=some v:=by simpa using h3
   have hm:c ∈ cap:=List.mem_of_getElem? e
   have q:=List.all_eq_true.mp B.caps c hm
   simp only [Bool.and_eq_true,decide_eq_true_eq,beq_iff_eq,Bool.or_eq_true] at q
   obtain ⟨⟨q1,q2⟩,q3⟩:=q
   have hσ:σ[c.2]?=some (some v):=by
    cases z:σ[c.2]? with
    | none=>rw [z] at hv; cases hv
    | some o =>
     rw [z] at hv
     have:o=some v:=by simpa using hv
     rw [this]
   obtain ⟨m,_,hl⟩:=I.loc
   obtain ⟨u,r,l⟩:=hl c.2 c.1 v q1 hσ (by
    rcases q3 with z | z
    ·exact .inr (.inl z)
    ·exact .inr (.inr z))
   subst hx
   refine ⟨u,r,.inr ⟨relabel_free q2,?_⟩⟩
   have nl:¬ X.env.kindOf c.1=some .local:=fun z=>by
    rcases q3 with y | y
    ·have:X.env.kindOf c.1=some .cell:=y
     rw [this] at z; cases z
    ·have:X.env.kindOf c.1=some .free:=y
     rw [this] at z; cases z
   rcases l with ⟨l1,_⟩ | ⟨_,d,l2,l3⟩
   ·exact absurd l1 nl
   ·obtain ⟨d',e'⟩:=cls_has (env:=X.env) (lookup_mem q2)
    have:d=d':=Option.some.inj (l2.symm.trans (cellsIn _ _ e'))
    subst this
    obtain ⟨oc,ho,hd⟩:=l3
    exact ⟨d,e',oc,old d oc ho,hd⟩
 ·obtain ⟨v,oc,ho,hd⟩:=I.cell x c (cellsIn x c e)
  exact ⟨v,oc,old c oc ho,hd⟩
 ·exact I.hok.fresh (Nat.le_refl _)
 ·unfold blockSt
  show _=(tgs++cap.map (·.1)).length
  simp

theorem Inv.leave {pins:List (Addr × Obj)} {σ σ':St} {H H':Hp} {s s':Shared} {h2:Heap} {fp:List Addr} {N:List Str} (I:Inv X pins σ H s) (hfp:∀ b ∈ fp,FpOk X pins H b)
  (J:Inv (X.block N scope s.heap.objs.size s H fp) [] σ' H' s') (hs:Heap.SameBut s.heap.objs.size s'.heap h2):Inv X pins σ H' { s' with heap:=h2 }:=by
 have u:Un (frs X.stack) fp H H' s.heap s'.heap:=J.base
 have ne:∀ b o,s.heap.get? b=some o->b ≠ s.heap.objs.size:=fun b o e=>Nat.ne_of_lt (Heap.lt_size e)
 have hf:H' s.heap.objs.size=none:=J.free
 have k:∀ b o,b ≠ s.heap.objs.size->s'.heap.get? b=some o->h2.get? b=some o:=fun b o hb e=>(hs.2 b hb).trans e
 have u2:Un (frs X.stack) fp H H' s.heap h2 :=
  ⟨fun b o e n h1 h3=>k b o (ne b o e) (u.keep b o e n h1 h3),fun b o e n h1 h3=>let ⟨sl,q⟩:=u.slot b o e n h1 h3; ⟨sl,k b _ (ne b o e) q⟩,u.free,fun b o e h3=>let ⟨o',q⟩:=u.there b o e h3; ⟨o',k b o' (ne b o e) q⟩,u.tups,u.frzs,u.tbls⟩
 have hok:HOk X.prog X.w H' h2:=fun b ob e=>(J.hok b ob e).stay (fun c v hc q=>k c v (by
  rcases hc with z | z
  ·subst z
   intro y
   rw [y,hf] at e; cases e
  ·intro y
   rw [y,hf] at z; cases z) q) (fun _ q=>q) fun _ _ q=>q
 exact Inv.call' I (s':={ s' with heap:=h2 }) J.os u2 hok J.bare fun b hb=>by
  obtain ⟨f0,f1,f2,f3,f4,f5⟩:=hfp b hb
  exact ⟨f3,f1,f4,f5⟩

theorem pe_lc {elt tg iter:Expr} {ifs:List Expr} {pos:Pos} {wi:TI} {g:TG} {tt:TT} {te:TE} (hc:X.calm=true) (B:BlockOk X scope tgs cap) (hi:PI X tg iter wi)
  (hg:∀ C s H fp,PG (X.block (tgs++cap.map (·.1)) scope C s H fp) tg g) (ht:∀ C s H fp,PIfs (X.block (tgs++cap.map (·.1)) scope C s H fp) ifs tt) (he:∀ C s H fp,PE (X.block (tgs++cap.map (·.1)) scope C s H fp) elt te)
  (hs:∀ x,foldedSetIterable iter X.env x=pure x:=by intro _; rfl):PE X (.ListComp elt [⟨tg,iter,ifs,0⟩] scope pos) (tComp wi g tt te (blockSt tgs cap)):=by
 intro pins s σ H Q I h
 rw [eval_ListComp]
 refine wpAny_comprehension_free (use:=none) rfl hs (closure_eq (B.cellAt I.ok)) B.kind B.locs (thn (hi pins s σ H _ I h) fun v s1 h1=>thn h1 fun itv s2 h2=>?_)
 obtain ⟨it,fp,tn,J,H2,e,I2,T,st2,f2,q⟩:=h2
 subst e
 have lt2:∀ b ∈ fp,b < s2.heap.objs.size:=fun b hb=>let ⟨o,e,_⟩:=T.obj _ _ st2 b hb; Heap.lt_size e
 have hD:H2 s2.heap.objs.size=none:=I2.hok.fresh (Nat.le_refl _)
 obtain ⟨W,⟨m0,w0⟩,turn⟩:=q s2.heap.objs.size hD
 refine wpAny_newObj_type ?_
 have I3:Inv X pins σ (upd H2 s2.heap.objs.size (.lst [])) { s2 with heap:=s2.heap.push { cls:=.type "list", dict:=none,data:=.seq ([]:List Value).toArray } }:=I2.lnew (t':=s2.toks) (ys:=[]) (its:=[]) .nil (Nat.zero_le _)
 have st3:tn 0 (s2.heap.push { cls:=.type "list", dict:=none,data:=.seq ([]:List Value).toArray }):=T.keep _ _ _ st2 fun b _ o e=>Heap.get?_push_of_some _ e
 have nD:∀ b ∈ fp,b ≠ s2.heap.objs.size:=fun b hb=>Nat.ne_of_lt (lt2 b hb)
 have f3:∀ b ∈ fp,FpOk X pins (upd H2 s2.heap.objs.size (.lst [])) b:=fun b hb=>⟨by rw [upd_ne (nD b hb)]; exact (f2 b hb).1,(f2 b hb).2⟩
 generalize hs3:({ s2 with heap:=s2.heap.push { cls:=.type "list", dict:=none,data:=.seq ([]:List Value).toArray } }:Shared)=s3 at I3 st3 ⊢
 have st3':tn 0 s3.heap:=by rw [<-hs3]; exact st3
 have lt3:∀ b ∈ fp,b < s3.heap.objs.size:=fun b hb=>let ⟨o,e,_⟩:=T.obj _ _ st3' b hb; Heap.lt_size e
 generalize hH3:upd H2 s2.heap.objs.size (.lst [])=H3 at I3 f3 w0
 generalize s2.heap.objs.size=D at *
 refine wpAny_newFunctionEnv B.noc (by intro y hy; simp at hy) (fun h1 hns hsb=>?_) B.kind
 have old:∀ b o,s3.heap.get? b=some o->h1.get? b=some o:=fun b o e=>hsb.extBut b o (Nat.ne_of_lt (Heap.lt_size e)) (Heap.get?_push_of_some _ e)
 have I4:=Inv.enter (tk:=s3.toks + ([]:List (Str × Value)).length) (h1:=h1) B I3 f3 lt3 hns old
 have st4:tn 0 h1:=T.keep _ _ _ st3' fun b _ o e=>old b o e
 have fpB:∀ {H':Hp},(∀ b ∈ fp,H' b=none)->∀ b ∈ fp,FpOk (X.block (tgs++cap.map (·.1)) scope s3.heap.objs.size s3 H3 fp) [] H' b:=fun {H'} hn b hb =>
  ⟨hn b hb,Nat.ne_of_lt (lt3 b hb),I4.ok.exfs b hb,.inl hb,fun x c e=>(I4.ok.exf b hb).2 x c e,fun p hp=>absurd (show p ∈ ([]:List (Addr × Obj)) from hp) (by simp)⟩
 have loop:codeAny (model X.prog X.w) X.A (.compLoop (.ListComp elt [⟨tg,iter,ifs,0⟩] scope pos) 0 (.ref it) (.ref D) (compEnvC scope (clsOf X.env scope.names []) s3.heap.objs.size X.env))
   (compPost (model X.prog X.w) X.A X.xe none (EP X pins σ Q) (.ref D) s3.heap.objs.size) { s3 with heap:=h1,toks:=s3.toks + ([]:List (Str × Value)).length }:=by
  refine compLoop_any (fun n s'=>∃ i H' ys,Inv (X.block (tgs++cap.map (·.1)) scope s3.heap.objs.size s3 H3 fp) [] (blockSt tgs cap σ) H' s'/\tn i s'.heap/\(∀ b ∈ fp,H' b=none)/\W i n H' ys) ?_ m0 ⟨0,H3,[],I4,st4,fun b hb=>(f3 b hb).1,w0⟩
  rintro n s5 ⟨i,H5,ys,I5,st5,fr5,w5⟩
  obtain ⟨hl,ht5⟩:=turn i n H5 ys w5
  rcases ht5 with ⟨stop,qd⟩ | ⟨go,step⟩
  ·refine thn (T.done (X.block (tgs++cap.map (·.1)) scope s3.heap.objs.size s3 H3 fp) rfl rfl rfl hc i [] s5 _ H5 _ I5 (fpB fr5) st5 stop) fun r s6 ⟨hr,I6⟩=>?_
   subst hr
   obtain ⟨m6,n6,_⟩:=I6.loc
   exact ⟨m6,n6,fun h' hs'=>⟨.ref D,H5,Inv.leave I3 f3 I6 hs',rfl,qd⟩⟩
  ·refine thn (T.item (X.block (tgs++cap.map (·.1)) scope s3.heap.objs.size s3 H3 fp) rfl rfl rfl hc i [] s5 _ H5 _ I5 (fpB fr5) st5 go) fun r s6 ⟨u,hr,h6⟩=>?_
   subst hr
   refine thn h6 fun _ s7 ⟨x,H7,I7,r7,y7,st7,fr7⟩=>?_
   have I7':=I7.pinned (fpB fr7) (T.obj _ _ st7)
   have again:∀ {σ8:St} {H8:Hp} {s8:Shared} {ys8:List V},Inv (X.block (tgs++cap.map (·.1)) scope s3.heap.objs.size s3 H3 fp) ([]++pinsAt fp s7.heap) σ8 H8 s8->wk (blockSt tgs cap σ) σ8->(∃ m',m' < n/\W (i + 1) m' H8 ys8) ->
     ∃ m,m < n/\∃ i H' ys,Inv (X.block (tgs++cap.map (·.1)) scope s3.heap.objs.size s3 H3 fp) [] (blockSt tgs cap σ) H' s8/\tn i s8.heap/\(∀ b ∈ fp,H' b=none)/\W i m H' ys:=fun {σ8 H8 s8 ys8} I8 k8 ⟨m',hm,w8⟩=>by
    refine ⟨m',hm,i + 1,H8,ys8,I8.unpinned.weak (wk_len k8) (wk_get k8),T.keep _ _ _ st7 fun b hb o e=>(I8.pin (b,o) (List.mem_append_right _ (List.mem_append_right _ (mem_pinsAt hb e)))).1,fun b hb=>?_,w8⟩
    obtain ⟨o,e,d⟩:=T.obj _ _ st7 b hb
    exact (I8.pin (b,o) (List.mem_append_right _ (List.mem_append_right _ (mem_pinsAt hb e)))).2.1
   refine thn (hg _ _ _ _ _ s7 _ H7 x u _ I7' r7 (step x H7 y7)) fun _ s8 ⟨σ8,H8,I8,k8,q8⟩=>?_
   refine thn (ht _ _ _ _ _ s8 σ8 H8 _ I8 q8) fun ok s9 ⟨H9,I9,q9⟩=>?_
   cases ok with
   | false =>
    rw [if_neg Bool.false_ne_true] at q9 ⊢
    exact again I9 k8 q9
   | true =>
    rw [if_pos rfl] at q9 ⊢
    refine thn (he _ _ _ _ _ s9 σ8 H9 _ I9 q9) fun y sA ⟨yv,HA,IA,rA,hA,zA,qA⟩=>?_
    exact thn (mt_append _ sA σ8 HA (.ref D) [yv] (.ref D) [y] (fun v H'=>v=.non/\∃ m',m' < n/\W (i + 1) m' H' (ys++[yv])) IA rfl (.cons rA .nil) ⟨D,ys,yv,rfl,rfl,hA,zA,rfl,qA⟩) fun _ sB ⟨_,HB,IB,_,_,qB⟩=>again IB k8 qB
 exact codeAny_compStart_list loop (T.self _ 0 _ _ _ st4 loop)
end
end L2
namespace L2
open PySem PySem.Spec PyProof.Rows

noncomputable def Itf (n:Nat) (f:Nat->V):It:=⟨fun i _=>i < n,fun i H x H'=>H'=H/\x=f i,fun i _=>i=n⟩

noncomputable def signV (z:Str) (i:Nat):V:=.str ⟨#[z.cps.getD i 0]⟩
section
variable {X:Cx} {x:Str} {px:Pos}
noncomputable def iStr (tl:TE):TI:=fun σ H R=>tl σ H fun v H1=>∃ z:Str,v=.str z/\R (Itf z.cps.size (signV z)) H1
end

section
variable {X:Cx}
noncomputable def rSlS:V->Option Int->Option Int->Hp->VK->Prop:=fun x lo hi H Q=>∃ z:Str,x=.str z/\z.length<=sizeLine/\Q (.str (Txt.slice z lo hi)) H
theorem sl_str:SlR X rSlS:=by
 intro pins s σ H x v vl vu lo hi sl Q I rx hs pl pu h
 obtain ⟨z,e,hz,q⟩:=h
 subst e
 obtain ⟨t,e⟩:=rx
 subst e
 refine ⟨"str", _,F.slot_str_getitem.lookup,typeIs_str _ _ _,?_⟩
 have fin:∀ (t':Tok) (k:Nat),EP X pins σ Q (.str (Txt.slice z lo hi) t') { s with toks:=k }:=fun t' k=>⟨.str _,H,I.tok k,⟨t',rfl⟩,q⟩
 cases pl with
 | none =>
  cases pu with
  | none=>exact wpAny_getItem_str_slice (l:=none) (u:=none) (st:=none) hs rfl (post_val_or_str ⟨Nat.le_trans (Txt.slice_le z _ _) hz,fin⟩)
  | int j uj=>exact wpAny_getItem_str_slice (l:=none) (u:=some (j,uj)) (st:=none) hs rfl (post_val_or_str ⟨Nat.le_trans (Txt.slice_le z _ _) hz,fin⟩)
 | int i ui =>
  cases pu with
  | none=>exact wpAny_getItem_str_slice (l:=some (i,ui)) (u:=none) (st:=none) hs rfl (post_val_or_str ⟨Nat.le_trans (Txt.slice_le z _ _) hz,fin⟩)
  | int j uj=>exact wpAny_getItem_str_slice (l:=some (i,ui)) (u:=some (j,uj)) (st:=none) hs rfl (post_val_or_str ⟨Nat.le_trans (Txt.slice_le z _ _) hz,fin⟩)

theorem strsAre_of:∀ {ys:List Str} {us:List Value},Vals (ys.map V.str) us->StrsAre us ys
 | [],_,r=>by
  rw [List.map_nil] at r; cases r; exact .nil
 | y :: ys,_,r=>by
  rw [List.map_cons] at r
  cases r with
  | cons r1 r2 =>
   obtain ⟨t,e⟩:=r1
   subst e
   exact .cons y t (strsAre_of r2)
noncomputable def rJoin (K:PySem.W.Frag):V->List V->Hp->VK->Prop:=fun x vs H Q=>∃ (z:Str) (l:Addr) (ys:List Str),x=.str z/\vs=[.ref l]/\SqL K H l (ys.map V.str)/\(ys.map (·.length)).sum + ys.length * z.length<=16777216/\Q (.str (Txt.join z ys)) H
theorem mt_join:MtR X "str.join" (rJoin X.K):=by
 intro pins s σ H x vs v us Q I rx rv h
 obtain ⟨z,l,ys,e1,e2,hl,hz,q⟩:=h
 subst e1 e2
 obtain ⟨t,e⟩:=rx
 subst e
 obtain ⟨u,e,ru⟩:=rv.one
 subst e
 cases ru
 obtain ⟨its,r,pl,_⟩:=I.list hl
 exact join_list pl.isList (by simpa using strsAre_of r) hz fun t' k=>⟨.str _,H,I.tok k,⟨t',rfl⟩,q⟩
theorem glued_nil (ys:List Str):(Txt.join Str.empty ys).cps.toList=(ys.map (·.cps.toList)).flatten:=by
 unfold Txt.join
 rw [PySem.StrLaws.glued_eq_join]
 induction ys with
 | nil=>rfl
 | cons y r ih =>
  cases r with
  | nil=>simp [Str.join]
  | cons y2 r2 =>
   show (y++Str.empty++Str.join Str.empty (y2 :: r2)).cps.toList=_
   rw [List.map_cons,List.flatten_cons,<-ih]
   show (y.cps++Str.empty.cps++(Str.join Str.empty (y2 :: r2)).cps).toList=_
   simp [Str.empty]
end
end L2
namespace L2
open PySem PySem.Spec PyProof.Rows
inductive EqD (K:PySem.W.Frag) (H:Hp):Nat->V->V->Bool->Prop
 | flat {n:Nat} {x y:V}:flatV x=true->flatV y=true->EqD K H n x y (eqV x y)
 | same {n:Nat} {a:Addr}:EqD K H n (.ref a) (.ref a) true
 | lists {n:Nat} {a b:Addr} {xs ys:List V} {e:Nat->Bool}:SqL K H a xs->SqL K H b ys->xs.length=ys.length->(∀ (j:Nat) x y,xs[j]?=some x->ys[j]?=some y->EqD K H n x y (e j))->a ≠ b ->
   EqD K H (n + 1) (.ref a) (.ref b) ((List.range xs.length).all e)
 | tups {n:Nat} {a b:Addr} {xs ys:List V} {e:Nat->Bool}:SqT K H a xs->SqT K H b ys->(∀ (j:Nat) x y,xs[j]?=some x->ys[j]?=some y->EqD K H n x y (e j))->a ≠ b ->
   EqD K H (n + 1) (.ref a) (.ref b) ((List.range (min xs.length ys.length)).all e && xs.length == ys.length)
theorem EqD.at {X:Cx} {pins:List (Addr × Obj)} {σ:St} {H:Hp} {s:Shared} (I:Inv X pins σ H s) {n:Nat} {x y:V} {b:Bool} (h:EqD X.K H n x y b) :
  ∀ {A:Around} {u v:Value},A.units + n < cLine->RelV x u->RelV y v->SeqAt.EqAt A s u v b:=by
 induction h with
 | flat fx fy=>intro A u v _ rx ry; exact eqAt_V rx ry fx fy
 | same =>
  intro A u v _ rx ry
  cases rx
  cases ry
  exact SeqAt.EqAt.same _
 | @lists n a c xs ys e ha hb hl hi hne ih =>
  intro A u v hu rx ry
  cases rx
  cases ry
  obtain ⟨its,r1,p1,_⟩:=I.list ha
  obtain ⟨its2,r2,p2,_⟩:=I.list hb
  have l1:=r1.length
  have l2:=r2.length
  refine SeqAt.EqAt.of_refs hne ?_
  have q:=SeqAt.RcAt.lists (A:=A) (e:=e) p1.isList p2.isList (by rw [List.size_toArray,List.size_toArray]; exact om7 hl l1 l2) (by exact om8 hu) fun j h1 h2=>by
   rw [List.size_toArray] at h1 h2
   have e1:xs[j]?=some xs[j]:=List.getElem?_eq_getElem (by exact om9 hl l1 l2 h1)
   have e2:ys[j]?=some ys[j]:=List.getElem?_eq_getElem (by exact om10 hl l1 l2 h1)
   obtain ⟨w1,g1,rr1⟩:=r1.get e1
   obtain ⟨w2,g2,rr2⟩:=r2.get e2
   have g1':its.toArray[j]=w1:=by
    have:=(List.getElem?_eq_some_iff.mp g1).2
    simpa using this
   have g2':its2.toArray[j]=w2:=by
    have:=(List.getElem?_eq_some_iff.mp g2).2
    simpa using this
   rw [g1',g2']
   exact ih j _ _ e1 e2 (by show A.units + 1 + n < cLine; exact om11 hu) rr1 rr2
  rw [List.size_toArray,<-l1] at q
  exact q
 | @tups n a c xs ys e ha hb hi hne ih =>
  intro A u v hu rx ry
  cases rx
  cases ry
  obtain ⟨its,r1,p1,_⟩:=I.tuple ha
  obtain ⟨its2,r2,p2,_⟩:=I.tuple hb
  have l1:=r1.length
  have l2:=r2.length
  refine SeqAt.EqAt.of_refs hne ?_
  have q:=SeqAt.RcAt.tuples (A:=A) (e:=e) (show s.heap.IsTuple a its.toArray from p1) (show s.heap.IsTuple c its2.toArray from p2) (by exact om8 hu) fun j h1 h2=>by
   rw [List.size_toArray] at h1 h2
   have e1:xs[j]?=some xs[j]:=List.getElem?_eq_getElem (by exact om12 l1 h1)
   have e2:ys[j]?=some ys[j]:=List.getElem?_eq_getElem (by exact om12 l2 h2)
   obtain ⟨w1,g1,rr1⟩:=r1.get e1
   obtain ⟨w2,g2,rr2⟩:=r2.get e2
   have g1':its.toArray[j]=w1:=by
    have:=(List.getElem?_eq_some_iff.mp g1).2
    simpa using this
   have g2':its2.toArray[j]=w2:=by
    have:=(List.getElem?_eq_some_iff.mp g2).2
    simpa using this
   rw [g1',g2']
   exact ih j _ _ e1 e2 (by show A.units + 1 + n < cLine; exact om11 hu) rr1 rr2
  rw [List.size_toArray,List.size_toArray,<-l1,<-l2] at q
  exact q
section
variable {X:Cx}
theorem EqD.items {pins:List (Addr × Obj)} {σ:St} {H:Hp} {s:Shared} (I:Inv X pins σ H s) {n:Nat} {A:Around} (hu:A.units + 1 + n < cLine) {xs ys:List V} {its its2:List Value} (r1:Vals xs its) (r2:Vals ys its2) {e:Nat->Bool}
  (h:∀ (j:Nat) x y,xs[j]?=some x->ys[j]?=some y->EqD X.K H n x y (e j)) (j:Nat) (h1:j < its.toArray.size) (h2:j < its2.toArray.size):SeqAt.EqAt A.in1 s its.toArray[j] its2.toArray[j] (e j):=by
 have l1:=r1.length
 have l2:=r2.length
 rw [List.size_toArray] at h1 h2
 have e1:xs[j]?=some xs[j]:=List.getElem?_eq_getElem (by exact om13 h1 l1)
 have e2:ys[j]?=some ys[j]:=List.getElem?_eq_getElem (by exact om13 h2 l2)
 obtain ⟨w1,g1,rr1⟩:=r1.get e1
 obtain ⟨w2,g2,rr2⟩:=r2.get e2
 have g1':its.toArray[j]=w1:=by
  have:=(List.getElem?_eq_some_iff.mp g1).2
  simpa using this
 have g2':its2.toArray[j]=w2:=by
  have:=(List.getElem?_eq_some_iff.mp g2).2
  simpa using this
 rw [g1',g2']
 exact EqD.at I (h j _ _ e1 e2) (by show A.units + 1 + n < cLine; exact hu) rr1 rr2
noncomputable def rEqL (K:PySem.W.Frag) (neg:Bool):R2:=fun x y H Q=>∃ a b xs ys e,x=.ref a/\y=.ref b/\SqL K H a xs/\SqL K H b ys/\(∀ (j:Nat) x y,xs[j]?=some x->ys[j]?=some y->EqD K H 8 x y (e j)) /\
 Q (.bl (if neg then !(xs.length == ys.length && (List.range xs.length).all e) else (xs.length == ys.length && (List.range xs.length).all e))) H
theorem op_eqL (hu:X.A.units + 64 < cLine):OpR X (compareOp .Eq) (rEqL X.K false):=by
 intro pins s σ H x y v u Q I rx ry h
 obtain ⟨a,b,xs,ys,e,e1,e2,ha,hb,hi,q⟩:=h
 subst e1 e2
 cases rx
 cases ry
 obtain ⟨its,r1,p1,_⟩:=I.list ha
 obtain ⟨its2,r2,p2,_⟩:=I.list hb
 have l1:=r1.length
 have l2:=r2.length
 by_cases hl:xs.length=ys.length
 ·refine SeqAt.eq_listAt (e:=e) p1.isList p2.isList (by rw [List.size_toArray,List.size_toArray]; exact om14 l1 l2 hl) (by exact om15 hu) (EqD.items I (by exact om16 hu) r1 r2 hi) ⟨.bl _,H,I,rfl,?_⟩
  rw [List.size_toArray,<-l1]
  have:(xs.length == ys.length)=true:=by simpa using hl
  rw [this] at q
  exact q
 ·refine SeqAt.eq_list_lengthsAt p1.isList p2.isList (by rw [List.size_toArray,List.size_toArray,<-l1,<-l2]; simpa using hl) (by exact om15 hu) ⟨.bl _,H,I,rfl,?_⟩
  have:(xs.length == ys.length)=false:=by simpa using hl
  rw [this] at q
  exact q
theorem op_neL (hu:X.A.units + 64 < cLine):OpR X (compareOp .NotEq) (rEqL X.K true):=by
 intro pins s σ H x y v u Q I rx ry h
 obtain ⟨a,b,xs,ys,e,e1,e2,ha,hb,hi,q⟩:=h
 subst e1 e2
 cases rx
 cases ry
 obtain ⟨its,r1,p1,_⟩:=I.list ha
 obtain ⟨its2,r2,p2,_⟩:=I.list hb
 have l1:=r1.length
 have l2:=r2.length
 by_cases hl:xs.length=ys.length
 ·refine SeqAt.RcNeAt.lists (e:=e) p1.isList p2.isList (by rw [List.size_toArray,List.size_toArray]; exact om14 l1 l2 hl) (by exact om15 hu) (EqD.items I (by exact om16 hu) r1 r2 hi) _ _ _ _ ⟨.bl _,H,I,rfl,?_⟩
  rw [List.size_toArray,<-l1]
  have:(xs.length == ys.length)=true:=by simpa using hl
  rw [this] at q
  exact q
 ·refine SeqAt.RcNeAt.lists_lengths p1.isList p2.isList (by rw [List.size_toArray,List.size_toArray,<-l1,<-l2]; simpa using hl) (by exact om15 hu) _ _ _ _ ⟨.bl _,H,I,rfl,?_⟩
  have:(xs.length == ys.length)=false:=by simpa using hl
  rw [this] at q
  exact q
end
end L2
namespace L2
open PySem PySem.Spec PyProof.Rows
section
variable {X:Cx}
theorem call_isinst:CallR X (.builtin "isinstance") (fun xs H Q=>∃ x T ty b,xs=[x,.ty T]/\TyOf X.K H x ty/\PySem.W.kitOne X.K ty (.type T)=some b/\Q (.bl b) H):=by
 intro pins s σ H xs us Q I r h
 obtain ⟨x,T,ty,b,e,t,k,q⟩:=h
 subst e
 obtain ⟨u1,u2,e,r1,r2⟩:=vals2 r
 subst e
 cases r2
 exact isinst_ok I r1 t k fun tk=>⟨.bl b,H,I.tok tk,rfl,q⟩
abbrev tabAt (K:PySem.W.Frag) (T:Addr) (D:List (Str × KTD.Dat)):Prop:=KTD.tabLook (KTD.datLooks fun a=>K.lookup a) (fun a=>K.lookup a) T D=true
theorem op_mul_str:OpR X (binaryOp .Mult) (fun x y H Q=>∃ z n,x=.str z/\y=.int n/\MulOk z n/\Q (.str (Txt.mul z n)) H):=by
 intro pins s σ H x y v u Q I rx ry h
 obtain ⟨z,n,e1,e2,hm,q⟩:=h
 subst e1 e2
 obtain ⟨t,e⟩:=rx
 subst e
 obtain ⟨t',e⟩:=ry
 subst e
 exact SB.mul hm fun t' k=>⟨.str _,H,I.tok k,⟨t',rfl⟩,q⟩
theorem call_int_text:CallR X (.type "int") (fun xs H Q=>∃ z n,xs=[.str z]/\PySem.intText? z=some n/\z.length<=640/\Q (.int n) H):=by
 intro pins s σ H xs us Q I r h
 obtain ⟨z,n,e,h1,h2,q⟩:=h
 subst e
 obtain ⟨u,e,ru⟩:=vals1 r
 subst e
 obtain ⟨t,e⟩:=ru
 subst e
 exact PySem.W.KIN.call_text h1 h2 ⟨.int n,H,I.tok _,⟨_,rfl⟩,q⟩
end
end L2
namespace L2
open PySem PySem.Spec PyProof.Rows
theorem Inv.turned2 {X:Cx} {pins:List (Addr × Obj)} {σ:St} {H:Hp} {s:Shared} {h':Heap} {t':Nat} {e it T:Addr} {o:HO} (I:Inv X pins σ H s) (k:∀ b o,b ≠ e->b ≠ it->s.heap.get? b=some o->h'.get? b=some o)
  (f1:FpOk X pins H e) (f2:FpOk X pins H it) (hT:s.heap.objs.size<=T) (new:ObjOk X.prog X.w (upd H T o) h' T o):Inv X pins σ (upd H T o) { s with heap:=h',toks:=t' }:=by
 have hn:H T=none:=I.hok.fresh hT
 have nT:∀ b u,s.heap.get? b=some u->b ≠ T:=fun b u q=>Nat.ne_of_lt (Nat.lt_of_lt_of_le (Heap.lt_size q) hT)
 have n1:∀ b u,H b=some u->b ≠ e:=fun b u q z=>by rw [z,f1.1] at q; cases q
 have n2:∀ b u,H b=some u->b ≠ it:=fun b u q z=>by rw [z,f2.1] at q; cases q
 have kk:∀ b u,b ∉ [e,it]->s.heap.get? b=some u->h'.get? b=some u:=fun b u hc q=>k b u (fun z=>hc (by simp [z])) (fun z=>hc (by simp [z])) q
 refine I.step (g':=s.gens) (d':=s.drawn) (ch:=[e,it]) (fun b hb=>?_) (fun b u _ _ hc q _=>kk b u hc q) (fun b u _ _ hc q _=>⟨u.slots,kk b u hc q⟩) (fun b u _ q n=>by rw [upd_ne (nT b u q)]; exact n)
  (fun b u hc q=>⟨u,kk b u hc q⟩) (fun b xs q=>by rw [upd_ne (ne_of_none q hn)]; exact q) (fun b u xs q=>by rw [upd_ne (ne_of_none q hn)]; exact q) (fun b ps q=>⟨#[],by rw [upd_ne (ne_of_none q hn),q]; simp⟩) (fun m hm=>?_) (fun b u q=>?_) I.bare
 ·have z:b=e\/b=it:=by simpa using hb
  rcases z with z | z
  ·subst z
   obtain ⟨_,a2,_,a4,a5,a6⟩:=f1
   exact ⟨a4,a2,a5,a6⟩
  ·subst z
   obtain ⟨_,a2,_,a4,a5,a6⟩:=f2
   exact ⟨a4,a2,a5,a6⟩
 ·obtain ⟨ob,es,ep,ho,r⟩:=hm
  exact ⟨ob,es,ep,k _ ob (Ne.symm f1.2.1) (Ne.symm f2.2.1) ho,r⟩
 ·by_cases hb:b=T
  ·subst hb
   rw [upd_same] at q
   cases q
   exact new
  ·rw [upd_ne hb] at q
   refine (I.hok b u q).stay (fun c v hc z=>k c v ?_ ?_ z) (fun c z=>by rw [upd_ne (ne_of_none z hn)]; exact z) fun c xs z=>by rw [upd_ne (ne_of_none z hn)]; exact z
   ·rcases hc with z | z
    ·rw [z]; exact n1 b u q
    ·exact n1 c _ z
   ·rcases hc with z | z
    ·rw [z]; exact n2 b u q
    ·exact n2 c _ z

noncomputable def Ite (K:PySem.W.Frag) (a:Addr):It :=
 ⟨fun i H=>∃ xs x,SqL K H a xs/\xs[i]?=some x,fun i H x H'=>∃ T v,H T=none/\x=.ref T/\H'=upd H T (.tup [.int (i:Nat),v])/\∀ xs,SqL K H a xs->xs[i]?=some v,fun i H=>∃ xs,SqL K H a xs/\xs.length<=i⟩
theorem turn_enum {P:Program} {w:World} {K:PySem.W.Frag} {elts:List Expr} {k:Nat} {pos:Pos} (a e it:Addr) (hne:e ≠ it) :
  Turn P w K (.Tuple elts k pos) (Ite K a) [e,it] e (fun i h=>(∃ old,IsEnum h e it (i:Nat) old)/\h.IsListIter it a i) where
 mem:=by simp
 obj:=fun i h st b hb=>by
  obtain ⟨⟨old,he⟩,o,ho,hc,hd⟩:=st
  have z:b=e\/b=it:=by simpa using hb
  rcases z with z | z
  ·subst z
   exact ⟨_,he,fun v q=>by
    have q':Data.fields _=Data.cell v:=q
    cases q'⟩
  ·subst z
   exact ⟨o,ho,fun v q=>by rw [hd] at q; cases q⟩
 keep:=fun i h h' st kk=>by
  obtain ⟨⟨old,he⟩,hl⟩:=st
  exact ⟨⟨old,kk e (by simp) _ he⟩,hl.at fun o q=>kk it (by simp) o q⟩
 item:=by
  intro X hP hw hK hc i pins s σ H E I hf st hg
  subst hP hw hK
  obtain ⟨xs,x,hq,hx⟩:=hg
  obtain ⟨its,rv,p,hz⟩:=I.list hq
  obtain ⟨u,hu,ru⟩:=rv.get hx
  obtain ⟨⟨old,he⟩,hl⟩:=st
  have f1:=hf e (by simp)
  have f2:=hf it (by simp)
  refine wpAny_pyNext_enum_item he hl p.isList (x:=u) (by simpa using hu) hne fun h1 a1 a2 a3 a4 a5=>⟨_,rfl,?_⟩
  refine wpAny_letOwnedTupleGo_enum a1 fun h2 b1 b2=>?_
  have nTe:s.heap.objs.size ≠ e:=fun z=>by
   have q:=Heap.lt_size (show s.heap.get? e=some _ from he)
   rw [<-z] at q; exact Nat.lt_irrefl _ q
  have keep2:∀ b o,b ≠ e->b ≠ it->s.heap.get? b=some o->h2.get? b=some o:=fun b o n1 n2 q=>b2.extBut b o n1 (a5 b o n1 n2 q)
  have tup2:h2.get? s.heap.objs.size=some { cls:=.type "tuple", data:=.seq #[.int i s.toks,u] }:=b2.extBut _ _ nTe a3
  have I2:Inv X pins σ (upd H s.heap.objs.size (.tup [.int (i:Nat),x])) { s with heap:=h2,toks:=s.toks + 1 } :=
   I.turned2 keep2 f1 f2 (Nat.le_refl _) ⟨(by show 2<=sizeLine; decide),[.int i s.toks,u],.cons ⟨_,rfl⟩ (.cons ru .nil),⟨_,tup2,rfl,_,rfl⟩⟩
  refine ⟨.ref s.heap.objs.size,_,I2,rfl,⟨s.heap.objs.size,x,I.hok.fresh (Nat.le_refl _),rfl,rfl,fun ys hy=>by rw [I.list_inj hy hq]; exact hx⟩,⟨⟨u,?_⟩,(a2.extBut b2.extBut (Ne.symm hne))⟩,fun b hb=>?_⟩
  ·have q:IsEnum h2 e it ((i:Int) + 1) u:=b1
   have c:(((i + 1:Nat):Nat):Int)=(i:Int) + 1:=by omega
   rw [c]; exact q
  ·have z:b=e\/b=it:=by simpa using hb
   have nT:b ≠ s.heap.objs.size:=by
    rcases z with z | z
    ·rw [z]; exact Ne.symm nTe
    ·rw [z]
     obtain ⟨o,ho,_⟩:=hl
     exact Nat.ne_of_lt (Heap.lt_size ho)
   rw [upd_ne nT]
   exact (hf b hb).1
 done:=by
  intro X hP hw hK hc i pins s σ H E I hf st hg
  subst hP hw hK
  obtain ⟨xs,hq,hx⟩:=hg
  obtain ⟨its,rv,p,hz⟩:=I.list hq
  obtain ⟨⟨old,he⟩,hl⟩:=st
  obtain ⟨f0,f1,f2,f3,f4,f5⟩:=hf it (by simp)
  have hlen:=rv.length
  exact wpAny_pyNext_enum_end (I.ok.hd hc) he hl p.isList (by simp; exact om4 hx hlen) fun h' eb=>⟨rfl,I.turned (t':=s.toks) (fun b o hb q=>eb b o hb q) f0 f1 f3 f4 f5⟩
 self:=fun _ _ _ _ _ st h=>by
  obtain ⟨⟨old,he⟩,_⟩:=st
  exact wpAny_pyIter_enum he h
section
variable {X:Cx} {elts:List Expr} {k:Nat} {tpos:Pos}
noncomputable def iEnum (K:PySem.W.Frag) (ta:TA):TI:=fun σ H R=>ta σ H fun vs H1=>∃ a,vs=[.ref a]/\(∃ xs,SqL K H1 a xs)/\R (Ite K a) H1
theorem pi_enum {a:Expr} {ta:TA} {p pos:Pos} (hg:Gl X "enumerate") (hm:X.mg "enumerate" = none) (ha:PA X [a] ta) (hs:starEach [a] X.env=[(false,eval a X.env)]:=by rfl):PI X (.Tuple elts k tpos) (.Call (.Name "enumerate" p) [a] [] pos) (iEnum X.K ta):=by
 intro pins s σ H R I h
 refine Call_ (ld_blt I hg hm boot_enumerate (PyProof.Rows.callWith_type1 (thn (ha pos pins s σ H _ I h) fun us s1 ⟨vs,H1,I1,r1,q1⟩=>?_) hs rfl))
 obtain ⟨l,e,⟨xs,hq⟩,q⟩:=q1
 subst e
 cases r1 with
 | cons r rr =>
  cases rr
  cases r
  obtain ⟨its,rv,pl,hz⟩:=I1.list hq
  refine call_enumerate_list pl.isList fun h' b1 b2 b3 b4=>?_
  refine wpAny_pyIter_enum b1 ?_
  have I2:Inv X pins σ H1 { s1 with heap:=h' }:=I1.kept (t':=s1.toks) b4
  refine ⟨s1.heap.objs.size + 1,[s1.heap.objs.size + 1,s1.heap.objs.size],_,_,H1,rfl,I2,turn_enum l (s1.heap.objs.size + 1) s1.heap.objs.size (by show @Ne Nat _ _; exact om5),⟨⟨_,b1⟩,b2⟩,fun b hb=>?_,q⟩
  have z:b=s1.heap.objs.size + 1\/b=s1.heap.objs.size:=by simpa using hb
  have hle:s1.heap.objs.size<=b:=by
   rcases z with z | z
   ·rw [z]; exact Nat.le_succ _
   ·rw [z]; exact Nat.le_refl _
  exact I1.fpOk hle (I1.hok.fresh hle)
end
theorem for_enum {K:PySem.W.Frag} {a:Addr} {xs:List V} {g:TG} {tb:TS} {D:Ends} {σ:St} {H:Hp} (Pv:Nat->St->Hp->Prop) (h0:Pv 0 σ H) (hl:∀ i σ H,i<=xs.length->Pv i σ H->SqL K H a xs)
  (hs:∀ i x σ H T,xs[i]?=some x->Pv i σ H->H T=none->g (.ref T) σ (upd H T (.tup [.int (i:Nat),x])) fun σ2 H2=>tb { D with nx:=Pv (i + 1),ct:=Pv (i + 1),bk:=D.nx } σ2 H2) (hd:∀ σ H,Pv xs.length σ H->D.nx σ H) :
  ∃ W:Nat->Nat->St->Hp->Prop,(∃ m,W 0 m σ H)/\∀ i m σ H,W i m σ H ->
   ((Ite K a).stop i H/\D.nx σ H)\/((Ite K a).go i H/\∃ N:St->Hp->Prop,(∀ σ' H',N σ' H'->∃ m',m' < m/\W (i + 1) m' σ' H')/\∀ x H',(Ite K a).yld i H x H'->g x σ H' fun σ2 H2=>tb { D with nx:=N,ct:=N,bk:=D.nx } σ2 H2):=by
 refine ⟨fun i m σ H=>m=xs.length - i/\i<=xs.length/\Pv i σ H,⟨xs.length,by simp,Nat.zero_le _,h0⟩,?_⟩
 rintro i m σ H ⟨rfl,hi,p⟩
 have q:=hl i σ H hi p
 by_cases hlt:i < xs.length
 ·refine .inr ⟨⟨xs,xs[i],q,by simp [hlt]⟩,Pv (i + 1),fun σ' H' p'=>⟨xs.length - (i + 1),by exact om6 hlt,rfl,hlt,p'⟩,fun x H' y=>?_⟩
  obtain ⟨T,v,hT,ex,eH,y⟩:=y
  subst ex eH
  exact hs i v σ H T (y xs q) p hT
 ·have e:i=xs.length:=by exact om0 hi hlt
  subst e
  exact .inl ⟨⟨xs,q,Nat.le_refl _⟩,hd σ H p⟩
end L2
namespace L2
open PySem PySem.Spec PyProof.Rows
structure Fn (P:Program) (w:World) (K:PySem.W.Frag) (mg:Str->Option Value) (base:Heap) (x:Str) (ps:List Str) (k:Nat) (sp:Sp):Prop where
 ex:∃ f fd,FnOk P w K mg base CX0 k f fd ps sp/\mg x=some (.ref f)/\PySem.W.keepIn K (.ref f)=true/\Binds K fd ps []
section
variable {X:Cx}
theorem pe_fn {x:Str} {ps:List Str} {k:Nat} {sp:Sp} {e:Expr} {es:List Expr} {t:TA} {p pos:Pos} (F:Fn X.prog X.w X.K X.mg X.base x ps k sp) (hr:Room k X.A) (hg:Gl X x) (ha:PA X (e :: es) t)
  (hdb:(x == ("__debug__" : Str))=false:=by decide) (he:starEach (e :: es) X.env=(false,eval e X.env) :: starEach es X.env:=by rfl) (hpl:(backTo pos (starEach es X.env)).any (·.1)=false:=by rfl) :
  PE X (.Call (.Name x p) (e :: es) [] pos) (tCall sp [] E0 t):=by
 obtain ⟨f,fd,G,hm,hk,hb⟩:=F.ex
 exact pe_call G hr hg hm hk hb .nil pass0 ha hdb he hpl
end
section
variable {σ:St} {H:Hp} {Q:VK} {K:PySem.W.Frag}
theorem i_var {i:Nat} {v:V} (h:σ[i]?=some (some v)) (q:Q v H):tVar i σ H Q:=⟨v,h,q⟩
theorem i_c {v:V} (q:Q v H):tC v σ H Q:=q
theorem i_op {r:R2} {ta tb:TE} (q:ta σ H fun x H1=>tb σ H1 fun y H2=>r x y H2 Q):tOp r ta tb σ H Q:=q
theorem i_rI0 {g:Int->Int->V} {i j:Int} (q:Q (g i j) H):rI0 g (.int i) (.int j) H Q:=⟨i,j,rfl,rfl,q⟩
theorem i_rI {C:Int->Int->Prop} {g:Int->Int->V} {i j:Int} (c:C i j) (q:Q (g i j) H):rI C g (.int i) (.int j) H Q:=⟨i,j,rfl,rfl,c,q⟩
theorem i_eq {x y:V} (h:scal x y=true) (q:Q (.bl (decide (x=y))) H):rEq x y H Q:=⟨h,q⟩
theorem i_ne {x y:V} (h:scal x y=true) (q:Q (.bl (!decide (x=y))) H):rNe x y H Q:=⟨h,q⟩
theorem i_test {t:TE} {R:Bool->Hp->Prop} (q:t σ H fun x H'=>∃ k,x=.bl k/\R k H'):tTest t σ H R:=q
theorem i_tB {t:TE} {R:Bool->Hp->Prop} (q:t σ H fun x H'=>∃ k,x=.bl k/\R k H'):tB t σ H R:=q
theorem i_and {t u:TT} {R:Bool->Hp->Prop} (q:t σ H fun c H1=>if c=true then u σ H1 R else R false H1):tAnd t u σ H R:=q
theorem i_or {t u:TT} {R:Bool->Hp->Prop} (q:t σ H fun c H1=>if c=true then R true H1 else u σ H1 R):tOr t u σ H R:=q
theorem i_not {t:TT} {R:Bool->Hp->Prop} (q:t σ H fun c H1=>R (!c) H1):tNot t σ H R:=q
theorem i_andV {ta tb:TE} (q:ta σ H fun x H1=>∃ c,x=.bl c/\if c=true then tb σ H1 Q else Q (.bl false) H1):tAndV ta tb σ H Q:=q
theorem i_orV {ta tb:TE} (q:ta σ H fun x H1=>∃ c,x=.bl c/\if c=true then Q (.bl true) H1 else tb σ H1 Q):tOrV ta tb σ H Q:=q
theorem i_notV {ta:TE} (q:ta σ H fun x H1=>∃ c,x=.bl c/\Q (.bl (!c)) H1):tNotV ta σ H Q:=q
theorem i_ifE {t:TT} {ta tb:TE} (q:t σ H fun c H1=>if c=true then ta σ H1 Q else tb σ H1 Q):tIf t ta tb σ H Q:=q
theorem i_nil {R:List V->Hp->Prop} (q:R [] H):tNil σ H R:=q
theorem i_cons {te:TE} {tr:TA} {R:List V->Hp->Prop} (q:te σ H fun x H1=>tr σ H1 fun xs H2=>R (x :: xs) H2):tCons te tr σ H R:=q
theorem i_call {sp:Sp} {E:XK} {t:TA} (q:t σ H fun vs H1=>sp vs H1 Q E):tCall sp [] E t σ H Q:=by
 show t σ H fun vs H1=>sp (vs++[]) H1 Q E
 simpa only [List.append_nil] using q
theorem i_cb {r:List V->Hp->VK->Prop} {t:TA} (q:t σ H fun vs H1=>r vs H1 Q):tCB r t σ H Q:=q
theorem i_tup {t:TA} (q:t σ H fun xs H1=>xs.length<=sizeLine/\∀ p,H1 p=none->Q (.ref p) (upd H1 p (.tup xs))):tTup t σ H Q:=q
theorem i_lst {t:TA} (q:t σ H fun xs H1=>xs.length<=sizeLine/\∀ p,H1 p=none->Q (.ref p) (upd H1 p (.lst xs))):tLst t σ H Q:=q
theorem i_bm {T:String} {r:V->List V->Hp->VK->Prop} {to:TE} {t:TA} (q:to σ H fun x H1=>tyV K T x H1/\t σ H1 fun xs H2=>r x xs H2 Q):tBM K T r to t σ H Q:=q
theorem i_sl {r:V->Option Int->Option Int->Hp->VK->Prop} {te:TE} {tl th:TO} (q:te σ H fun x H1=>tl σ H1 fun l H2=>th σ H2 fun u H3=>r x l u H3 Q):tSl r te tl th σ H Q:=q
theorem i_nopart {R:Option Int->Hp->Prop} (q:R none H):tNoPart σ H R:=q
theorem i_part {t:TE} {R:Option Int->Hp->Prop} (q:t σ H fun x H1=>∃ i,x=.int i/\R (some i) H1):tPart t σ H R:=q
theorem i_ixL {p:Addr} {xs:List V} {i:Int} {v:V} (h:SqL K H p xs) (e:atI xs i=some v) (q:Q v H):rIxL K (.ref p) (.int i) H Q:=⟨p,xs,i,v,rfl,rfl,h,e,q⟩
theorem i_ixT {p:Addr} {xs:List V} {i:Int} {v:V} (h:H p=some (.tup xs)) (e:atI xs i=some v) (q:Q v H):rIxT K (.ref p) (.int i) H Q:=⟨p,xs,i,v,rfl,rfl,SqT.of h,e,q⟩
theorem i_ixS {z:Str} {i:Int} {c:Nat} (hz:z.length<=sizeLine) (e:atI z.cps.toList i=some c) (q:Q (.str ⟨#[c]⟩) H):rIxS (.str z) (.int i) H Q:=⟨z,i,c,rfl,rfl,hz,e,q⟩
variable {D:Ends}
theorem s_seq {t u:TS} (q:t { D with nx:=u D } σ H):tSeq t u D σ H:=q
theorem s_asg {te:TE} {g:TG} (q:te σ H fun x H1=>g x σ H1 D.nx):tAsg te g D σ H:=q
theorem s_name {i:Nat} {v:V} {R:St->Hp->Prop} (q:R (σ.set i (some v)) H):gName i v σ H R:=q
theorem s_drop {te:TE} (q:te σ H fun _ H1=>D.nx σ H1):tDrop te D σ H:=q
theorem s_ret {te:TE} (q:te σ H D.rt):tRet te D σ H:=q
theorem s_next (q:D.nx σ H):tNext D σ H:=q
theorem s_if {c:TT} {t u:TS} (q:c σ H fun b H1=>if b=true then t D σ H1 else u D σ H1):tIfS c t u D σ H:=q
theorem s_sub {to ti:TE} {t:TSet} {v:V} {R:St->Hp->Prop} (q:to σ H fun o H1=>ti σ H1 fun i H2=>t o i v H2 fun H3=>R σ H3):gSub to ti t v σ H R:=q
theorem s_setL {p:Addr} {xs:List V} {k:Int} {j:Nat} {v:V} {R:Hp->Prop} (h:H p=some (.lst xs)) (e:ixN xs.length k=some j) (q:R (upd H p (.lst (xs.set j v)))):rSetL (.ref p) (.int k) v H R:=⟨p,xs,k,j,rfl,rfl,h,e,q⟩
theorem s_for {wi:TI} {g:TG} {tb:TS} (q:wi σ H fun J H1=>∃ W:Nat->Nat->St->Hp->Prop,(∃ m,W 0 m σ H1)/\∀ i m σ H,W i m σ H ->
 (J.stop i H/\D.nx σ H)\/(J.go i H/\∃ N:St->Hp->Prop,(∀ σ' H',N σ' H'->∃ m',m' < m/\W (i + 1) m' σ' H')/\∀ x H',J.yld i H x H'->g x σ H' fun σ2 H2=>tb { D with nx:=N,ct:=N,bk:=D.nx } σ2 H2)):tFor wi g tb D σ H:=q
theorem s_rng1 {ta:TA} {R:It->Hp->Prop} (q:ta σ H fun vs H1=>∃ j:Int,vs=[.int j]/\-(2 ^ 62)<=j/\j < 2 ^ 62/\R (Itr 0 j.toNat) H1):iRng1 ta σ H R:=q
theorem s_list {tl:TE} {R:It->Hp->Prop} (q:tl σ H fun x H1=>∃ a,x=.ref a/\(∃ xs,SqL K H1 a xs)/\R (Itl K a) H1):iList K tl σ H R:=q
theorem s_str {tl:TE} {R:It->Hp->Prop} (q:tl σ H fun v H1=>∃ z:Str,v=.str z/\R (Itf z.cps.size (signV z)) H1):iStr tl σ H R:=q
theorem s_strI {z:Str} {R:It->Hp->Prop} (q:R (Itf z.cps.size (signV z)) H):∃ y:Str,V.str z=.str y/\R (Itf y.cps.size (signV y)) H:=⟨z,rfl,q⟩
theorem i_comp {wi:TI} {g:TG} {tt:TT} {te:TE} {f:St->St} (q:wi σ H fun J H1=>∀ D,H1 D=none->∃ W:Nat->Nat->Hp->List V->Prop,(∃ m,W 0 m (upd H1 D (.lst [])) []) /\
 ∀ i m H ys,W i m H ys->H D=some (.lst ys)/\((J.stop i H/\Q (.ref D) H)\/(J.go i H/\∀ x H',J.yld i H x H'->g x (f σ) H' fun σ2 H2=>wk (f σ) σ2/\tt σ2 H2 fun b H3 =>
  if b=true then te σ2 H3 fun v H4=>H4 D=some (.lst ys)/\ys.length < sizeLine/\∃ m',m' < m/\W (i + 1) m' (upd H4 D (.lst (ys++[v]))) (ys++[v])
  else ∃ m',m' < m/\W (i + 1) m' H3 ys))):tComp wi g tt te f σ H Q:=q
end
noncomputable def NextC (Pv:Nat->Hp->List V->Prop) (n:Nat) (D:Addr) (i:Nat) (ys:List V):VK:=fun v H4=>H4 D=some (.lst ys)/\ys.length < sizeLine/\∃ m',m' < n - i/\(m'=n - (i + 1)/\i + 1<=n/\Pv (i + 1) (upd H4 D (.lst (ys++[v]))) (ys++[v]))
theorem NextC.mk {Pv:Nat->Hp->List V->Prop} {n:Nat} {D:Addr} {i:Nat} {ys:List V} {v:V} {H4:Hp} (hd:H4 D=some (.lst ys)) (hi:i < n) (hl:ys.length < sizeLine) (p:Pv (i + 1) (upd H4 D (.lst (ys++[v]))) (ys++[v])):NextC Pv n D i ys v H4 :=
 ⟨hd,hl,n - (i + 1),by exact om6 hi,rfl,hi,p⟩
section
variable {K:PySem.W.Frag} {g:TG} {te:TE} {σ0:St} {QD:Hp->Prop} {H1:Hp} {D:Addr}
theorem comp_range {lo:Int} {n:Nat} (Pv:Nat->Hp->List V->Prop) (h0:Pv 0 (upd H1 D (.lst [])) []) (hD:∀ i H ys,Pv i H ys->H D=some (.lst ys))
  (hs:∀ i H ys,i < n->Pv i H ys->g (.int (lo + i)) σ0 H fun σ2 H2=>wk σ0 σ2/\tYes σ2 H2 fun b H3=>if b=true then te σ2 H3 (NextC Pv n D i ys) else ∃ m',m' < n - i/\(m'=n - (i + 1)/\i + 1<=n/\Pv (i + 1) H3 ys)) (hd:∀ H ys,Pv n H ys->QD H) :
  ∃ W:Nat->Nat->Hp->List V->Prop,(∃ m,W 0 m (upd H1 D (.lst [])) [])/\∀ i m H ys,W i m H ys->H D=some (.lst ys)/\(((Itr lo n).stop i H/\QD H)\/((Itr lo n).go i H/\∀ x H',(Itr lo n).yld i H x H'->g x σ0 H' fun σ2 H2=>wk σ0 σ2/\tYes σ2 H2 fun b H3 =>
   if b=true then te σ2 H3 fun v H4=>H4 D=some (.lst ys)/\ys.length < sizeLine/\∃ m',m' < m/\W (i + 1) m' (upd H4 D (.lst (ys++[v]))) (ys++[v]) else ∃ m',m' < m/\W (i + 1) m' H3 ys)):=by
 refine ⟨fun i m H ys=>m=n - i/\i<=n/\Pv i H ys,⟨n,by simp,Nat.zero_le _,h0⟩,?_⟩
 rintro i m H ys ⟨rfl,hi,p⟩
 refine ⟨hD i H ys p,?_⟩
 by_cases hlt:i < n
 ·refine .inr ⟨hlt,fun x H' y=>?_⟩
  obtain ⟨e,y⟩:=y
  subst e y
  exact hs i _ ys hlt p
 ·have e:i=n:=by exact om0 hi hlt
  subst e
  exact .inl ⟨Nat.le_refl _,hd H ys p⟩
theorem comp_list {a:Addr} {xs:List V} (Pv:Nat->Hp->List V->Prop) (h0:Pv 0 (upd H1 D (.lst [])) []) (hD:∀ i H ys,Pv i H ys->H D=some (.lst ys)/\SqL K H a xs)
  (hs:∀ i x H ys,xs[i]?=some x->Pv i H ys->g x σ0 H fun σ2 H2=>wk σ0 σ2/\tYes σ2 H2 fun b H3=>if b=true then te σ2 H3 (NextC Pv xs.length D i ys) else ∃ m',m' < xs.length - i/\(m'=xs.length - (i + 1)/\i + 1<=xs.length/\Pv (i + 1) H3 ys)) (hd:∀ H ys,Pv xs.length H ys->QD H) :
  ∃ W:Nat->Nat->Hp->List V->Prop,(∃ m,W 0 m (upd H1 D (.lst [])) [])/\∀ i m H ys,W i m H ys->H D=some (.lst ys)/\(((Itl K a).stop i H/\QD H)\/((Itl K a).go i H/\∀ x H',(Itl K a).yld i H x H'->g x σ0 H' fun σ2 H2=>wk σ0 σ2/\tYes σ2 H2 fun b H3 =>
   if b=true then te σ2 H3 fun v H4=>H4 D=some (.lst ys)/\ys.length < sizeLine/\∃ m',m' < m/\W (i + 1) m' (upd H4 D (.lst (ys++[v]))) (ys++[v]) else ∃ m',m' < m/\W (i + 1) m' H3 ys)):=by
 refine ⟨fun i m H ys=>m=xs.length - i/\i<=xs.length/\Pv i H ys,⟨xs.length,by simp,Nat.zero_le _,h0⟩,?_⟩
 rintro i m H ys ⟨rfl,hi,p⟩
 obtain ⟨d1,d2⟩:=hD i H ys p
 refine ⟨d1,?_⟩
 by_cases hlt:i < xs.length
 ·refine .inr ⟨⟨xs,xs[i],d2,by simp [hlt]⟩,fun x H' y=>?_⟩
  obtain ⟨e,y⟩:=y
  subst e
  exact hs i x _ ys (y xs d2) p
 ·have e:i=xs.length:=by exact om0 hi hlt
  subst e
  exact .inl ⟨⟨xs,d2,Nat.le_refl _⟩,hd H ys p⟩
end
end L2
namespace L2
open PySem PySem.Spec PyProof.Rows
section
variable {H:Hp} {Q:VK} {K:PySem.W.Frag}
theorem i_slS {z:Str} {lo hi:Option Int} (h:z.length<=sizeLine) (q:Q (.str (Txt.slice z lo hi)) H):rSlS (.str z) lo hi H Q:=⟨z,rfl,h,q⟩
theorem i_slL {a:Addr} {xs:List V} {lo hi:Option Int} (h:SqL K H a xs) (q:∀ p,H p=none->Q (.ref p) (upd H p (.lst (cutV xs lo hi)))):rSlL K (.ref a) lo hi H Q:=⟨a,xs,rfl,h,q⟩
theorem i_in {x:V} {p:Addr} {xs:List V} (h:SqL K H p xs) (fx:flatV x=true) (fs:xs.all flatV=true) (q:Q (.bl (inV x xs)) H):rIn K false x (.ref p) H Q:=⟨p,xs,rfl,.inl h,fx,fs,q⟩
theorem i_cat {l b:Addr} {xs zs:List V} (h1:H l=some (.lst xs)) (h2:H b=some (.lst zs)) (hz:xs.length + zs.length<=sizeLine) (q:∀ p,H p=none->Q (.ref p) (upd H p (.lst (xs++zs)))):rCat (.ref l) (.ref b) H Q:=⟨l,b,xs,zs,rfl,rfl,h1,h2,hz,q⟩
theorem i_app {l:Addr} {xs:List V} {y:V} (h:H l=some (.lst xs)) (hz:xs.length < sizeLine) (q:Q .non (upd H l (.lst (xs++[y])))):rAppend (.ref l) [y] H Q:=⟨l,xs,y,rfl,rfl,h,hz,q⟩
theorem i_tyL {p:Addr} {xs:List V} (h:H p=some (.lst xs)):tyV K "list" (.ref p) H:=.inl ⟨rfl,xs,SqL.of h⟩
theorem i_tyS {z:Str}:tyV K "str" (.str z) H:=rfl
theorem i_join {z:Str} {l:Addr} {ys:List Str} (h:H l=some (.lst (ys.map V.str))) (hz:(ys.map (·.length)).sum + ys.length * z.length<=16777216) (q:Q (.str (Txt.join z ys)) H):rJoin K (.str z) [.ref l] H Q:=⟨z,l,ys,rfl,rfl,SqL.of h,hz,q⟩
end
theorem fresh_same {H:Hp} {p:Addr} {o:HO} (hp:H p=none):Same H (upd H p o):=fun b u e=>by rw [upd_ne (ne_of_none e hp)]; exact e
end L2
namespace L2
open PySem
section
variable {σ:St} {H:Hp} {D:Ends}
theorem s_seqT {t u:TS} (q:let D':Ends:={ D with nx:=u D }; t D' σ H):tSeq t u D σ H:=q
theorem s_nameT {i:Nat} {v:V} {R:St->Hp->Prop} (q:let σ':St:=σ.set i (some v); R σ' H):gName i v σ H R:=q
end
theorem i_yes {σ:St} {H:Hp} {R:Bool->Hp->Prop} (q:R true H):tYes σ H R:=q
theorem i_dget {td ty:TE} {σ:St} {H:Hp} {Q:VK} (q:td σ H fun x H1=>ty σ H1 fun y H2=>∃ a v,x=.ref a/\DGet H2 a y (some v)/\Q v H2):tDGet td ty σ H Q:=q
theorem i_un {r:V->Hp->VK->Prop} {ta:TE} {σ:St} {H:Hp} {Q:VK} (q:ta σ H fun x H1=>r x H1 Q):tUn r ta σ H Q:=q
theorem i_rU {g:Int->V} {i:Int} {H:Hp} {Q:VK} (q:Q (g i) H):rU g (.int i) H Q:=⟨i,rfl,q⟩
end L2
namespace L2
open PySem PySem.Spec PyProof.Rows
noncomputable def dropH (H:Hp) (c:Addr):Hp:=fun b=>if b=c then none else H b
theorem drop_same {H:Hp} {c:Addr}:dropH H c c=none:=if_pos rfl
theorem drop_ne {H:Hp} {c b:Addr} (h:b ≠ c):dropH H c b=H b:=if_neg h
theorem drop_some {H:Hp} {c b:Addr} {o:HO} (h:dropH H c b=some o):b ≠ c/\H b=some o:=by
 by_cases e:b=c
 ·subst e; rw [drop_same] at h; cases h
 ·rw [drop_ne e] at h; exact ⟨e,h⟩
noncomputable def AsIs (o:Obj):HO:=.frz o (.ext fun _=>True)
section
variable {P:Program} {w:World} {H H1:Hp} {h h1:Heap} {c:Addr} {o:Obj} {fs ex:List Addr}
theorem asis_ok {H:Hp} (e:h.get? c=some o):ObjOk P w H h c (AsIs o):=⟨e,trivial,⟨o,e⟩,fun _ _ _ _=>trivial⟩
theorem HOk.drop (x:HOk P w H h) (hc:H c=some (AsIs o)):HOk P w (dropH H c) h:=fun b u e=>by
 obtain ⟨_,e⟩:=drop_some e
 refine (x b u e).stay (fun _ _ _ q=>q) (fun d q=>?_) fun d xs q=>?_
 ·rw [drop_ne]; exact q; intro z; subst z; rw [hc] at q; cases q
 ·rw [drop_ne]; exact q; intro z; subst z; rw [hc] at q; cases q
theorem HOk.take (x:HOk P w H h) (hc:H c=none) (e:h.get? c=some o):HOk P w (upd H c (AsIs o)) h:=fun b u q=>by
 by_cases hb:b=c
 ·subst hb; rw [upd_same] at q; cases q; exact asis_ok e
 ·rw [upd_ne hb] at q
  refine (x b u q).stay (fun _ _ _ r=>r) (fun d r=>?_) fun d xs r=>?_
  ·rw [upd_ne (ne_of_none r hc)]; exact r
  ·rw [upd_ne (ne_of_none r hc)]; exact r
theorem Un.back (u:Un fs ex (dropH H c) H1 h h1) (hc:H c=some (AsIs o)) (e:h.get? c=some o) (nf:c ∉ fs) (nx:c ∉ ex):Un fs ex H (upd H1 c (AsIs o)) h h1/\H1 c=none/\h1.get? c=some o:=by
 have h1c:=u.free c o e drop_same nx
 have e1:=u.keep c o e drop_same nf nx
 have ne:∀ {b v},H b=some v->v ≠ AsIs o->b ≠ c:=fun q n z=>by subst z; rw [hc] at q; cases q; exact n rfl
 have nn:∀ {b},H b=none->b ≠ c:=fun q z=>by subst z; rw [hc] at q; cases q
 refine ⟨⟨fun b ob q n hb hx=>?_,fun b ob q n hb hx=>?_,fun b ob q n hx=>?_,fun b ob q hx=>u.there b ob q hx,fun b xs q=>?_,fun b ob v q=>?_,fun b ps q=>?_⟩,h1c,e1⟩
 ·exact u.keep b ob q (by rw [drop_ne (nn n)]; exact n) hb hx
 ·exact u.slot b ob q (by rw [drop_ne (nn n)]; exact n) hb hx
 ·rw [upd_ne (nn n)]; exact u.free b ob q (by rw [drop_ne (nn n)]; exact n) hx
 ·have nb:=ne q (fun z=>by cases z)
  rw [upd_ne nb]; exact u.tups b xs (by rw [drop_ne nb]; exact q)
 ·by_cases nb:b=c
  ·subst nb; rw [hc] at q; cases q; exact upd_same
  ·rw [upd_ne nb]; exact u.frzs b ob v (by rw [drop_ne nb]; exact q)
 ·have nb:=ne q (fun z=>by cases z)
  rw [upd_ne nb]; exact u.tbls b ps (by rw [drop_ne nb]; exact q)
theorem Un.out (u:Un fs ex (upd H c (AsIs o)) H1 h h1) (k1:HOk P w H1 h1) (hc:H c=none) (e:h.get? c=some o) (nf:c ∉ fs):Un fs ex H (dropH H1 c) h h1/\HOk P w (dropH H1 c) h1/\H1 c=some (AsIs o):=by
 have h1c:=u.frzs c o _ upd_same
 have e1:=(k1 c _ h1c).1
 refine ⟨⟨fun b ob q n hb hx=>?_,fun b ob q n hb hx=>?_,fun b ob q n hx=>?_,fun b ob q hx=>u.there b ob q hx,fun b xs q=>?_,fun b ob v q=>?_,fun b ps q=>?_⟩,k1.drop h1c,h1c⟩
 ·by_cases nb:b=c
  ·subst nb; rw [e] at q; cases q; exact e1
  ·exact u.keep b ob q (by rw [upd_ne nb]; exact n) hb hx
 ·have nb:b ≠ c:=fun z=>by subst z; exact nf hb
  exact u.slot b ob q (by rw [upd_ne nb]; exact n) hb hx
 ·by_cases nb:b=c
  ·subst nb; exact drop_same
  ·rw [drop_ne nb]; exact u.free b ob q (by rw [upd_ne nb]; exact n) hx
 ·have nb:=ne_of_none q hc
  rw [drop_ne nb]; exact u.tups b xs (by rw [upd_ne nb]; exact q)
 ·have nb:=ne_of_none q hc
  rw [drop_ne nb]; exact u.frzs b ob v (by rw [upd_ne nb]; exact q)
 ·have nb:=ne_of_none q hc
  rw [drop_ne nb]
  exact u.tbls b ps (by rw [upd_ne nb]; exact q)
end
structure Lm where
 qual:Str
 params:Arguments
 body:Expr
 scope:Scope
 pos:Pos
noncomputable def CodeO (c:Addr) (qual:Str):HO:=.ext fun h=>h.CodeRec (.ref c) qual
noncomputable def LamO (f:Addr) (l:Lm) (cl:List (Str × Addr)) (c:Addr):HO:=.ext fun h=>∃ pm ctv,h.get? f=some (PySem.W.kla_obj "<lambda>" l.qual l.params l.body l.scope cl pm c ctv)
theorem codeO_ok {P:Program} {w:World} {H:Hp} {h:Heap} {c:Addr} {qual:Str} (r:h.CodeRec (.ref c) qual):ObjOk P w H h c (CodeO c qual):=by
 obtain ⟨d,oc,vs,t,e1,e2,r2⟩:=id r
 cases e1
 refine ⟨r,⟨oc,e2⟩,fun h1 h2 p k=>?_⟩
 obtain ⟨d,oc,vs,t,e1,e2,r2⟩:=p
 cases e1
 exact ⟨_,oc,vs,t,rfl,k _ e2,r2⟩
theorem lamO_ok {P:Program} {w:World} {H:Hp} {h:Heap} {f c:Addr} {l:Lm} {cl:List (Str × Addr)} {pm ctv:Value} (e:h.get? f=some (PySem.W.kla_obj "<lambda>" l.qual l.params l.body l.scope cl pm c ctv)):ObjOk P w H h f (LamO f l cl c) :=
 ⟨⟨pm,ctv,e⟩,⟨_,e⟩,fun _ _ ⟨pm,ctv,q⟩ k=>⟨pm,ctv,k _ q⟩⟩
noncomputable def entry (l:Lm) (c:Addr):Array Value:=#[rawInt l.pos.line,rawInt l.pos.col,.ref c]
noncomputable def TbAt (T:Addr) (l:Lm) (H:Hp):Prop:=H T=some (.tbl #[])\/∃ c,H T=some (.tbl (entry l c))/\H c=some (CodeO c l.qual)
structure Made (T:Addr) (l:Lm) (cl:List (Str × Addr)) (H:Hp) (f c:Addr) (H':Hp):Prop where
 new:H f=none
 fn:H' f=some (LamO f l cl c)
 code:H' c=some (CodeO c l.qual)
 tab:H' T=some (.tbl (entry l c))
 old:∀ b o,H b=some o->b ≠ T->H' b=some o
noncomputable def BMain (base:Heap) (mg:Str->Option Value):Prop:=∃ bm ob,mg "__builtins__" = some (.ref bm)/\bm ≠ builtinsNs/\bm ≠ mainGlobals/\base.get? bm=some ob/\ob.cls=.type "module" /\ ob.dict=some builtinsNs/\ob.data=.plain
noncomputable def tLam (T:Addr) (l:Lm) (cl:List (Str × Addr)):TE:=fun _ H Q=>TbAt T l H/\∀ f c H',Made T l cl H f c H'->Q (.ref f) H'
section
variable {X:Cx}
theorem pe_lam {params:Arguments} {body:Expr} {scope:Scope} {pos:Pos} {cc T:Addr} {cl:List (Str × Addr)} (hcode:X.env.code=.ref cc) (C:PySem.W.CodeHd X.base cc T) (B:BMain X.base X.mg) (hcl:closureFor scope X.env=pure cl) (hdef:defaultsOf params X.env=([],[]):=by rfl) :
  PE X (.Lambda params body scope pos) (tLam T ⟨X.env.qual ++ "<lambda>", params,body,scope,pos⟩ cl):=by
 intro pins s σ H Q I h
 obtain ⟨tb,q⟩:=h
 refine PySem.W.kla_eval hdef ?_
 have hg:s.heap.Ns mainGlobals X.mg:=I.mod.glob.keeps I.bk
 have hT:∃ ps,H T=some (.tbl ps):=by rcases tb with e | ⟨c,e,_⟩ <;> exact ⟨_,e⟩
 obtain ⟨ps0,hps0⟩:=hT
 have bne:∀ {b ob},X.base.get? b=some ob->b ≠ T:=fun e z=>by
  subst z
  rw [(I.bs _ _ e).2] at hps0
  cases hps0
 have hgP:mainGlobals ≠ T:=by
  obtain ⟨o,es,ep,e,_⟩:=I.mod.glob
  exact bne e
 obtain ⟨bm,ob,b1,b2,b3,b4,b5,b6,b7⟩:=B
 have hB:s.heap.BuiltinsAt X.mg T:=⟨bm,ob,b1,b2,b3,bne b4,I.bk _ _ b4,b5,b6,b7⟩
 have CH:=C.keeps I.bk
 rcases tb with e | ⟨c,e,hc⟩
 ·have hP:s.heap.get? T=some (PySem.W.tabObj #[]):=I.hok T _ e
  refine PySem.W.kla_makeFunction (mg:=X.mg) hcl I.ok.glob hg hcode CH hP trivial rfl hgP hB fun c' ctv h' tk hx hge hlt hrec htb=>?_
  have hsz:s.heap.objs.size<=h'.objs.size:=Nat.le_of_lt (Nat.lt_of_le_of_lt hge hlt)
  have nT:T < s.heap.objs.size:=Heap.lt_size hP
  let f:Addr:=h'.objs.size
  have Hf:H f=none:=I.hok.fresh hsz
  have Hc:H c'=none:=I.hok.fresh hge
  have nfc:c' ≠ f:=Nat.ne_of_lt hlt
  have nTf:T ≠ f:=Nat.ne_of_lt (Nat.lt_of_lt_of_le nT hsz)
  have nTc:T ≠ c':=Nat.ne_of_lt (Nat.lt_of_lt_of_le nT hge)
  let H':Hp:=upd (upd (upd H T (.tbl (entry ⟨X.env.qual ++ "<lambda>", params,body,scope,pos⟩ c'))) c' (CodeO c' (X.env.qual ++ "<lambda>"))) f (LamO f ⟨X.env.qual ++ "<lambda>", params,body,scope,pos⟩ cl c')
  have hH:∀ b o,H b=some o->b ≠ T->H' b=some o:=fun b o e n=>by
   show upd (upd (upd H T _) c' _) f _ b=_
   rw [upd_ne (ne_of_none e Hf),upd_ne (ne_of_none e Hc),upd_ne n]
   exact e
  have hHT:H' T=some (.tbl (entry ⟨X.env.qual ++ "<lambda>", params,body,scope,pos⟩ c')):=by
   show upd (upd (upd H T _) c' _) f _ T=_
   rw [upd_ne nTf,upd_ne nTc,upd_same]
  have hHc:H' c'=some (CodeO c' (X.env.qual ++ "<lambda>")):=by
   show upd (upd (upd H T _) c' _) f _ c'=_
   rw [upd_ne nfc,upd_same]
  have kx:∀ b o,b ≠ T->s.heap.get? b=some o->(h'.push (PySem.W.kla_obj "<lambda>" (X.env.qual ++ "<lambda>") params body scope cl ((X.mg "__name__").getD .none) c' ctv)).get? b=some o:=fun b o n e=>Heap.get?_push_of_some _ (hx b o n e)
  have htb':h'.get? T=some (PySem.W.tabObj (entry ⟨X.env.qual ++ "<lambda>", params,body,scope,pos⟩ c')):=by simpa [entry] using htb
  have ntb:∀ {b u},H b=some u->(∀ ps,u ≠ .tbl ps)->b ≠ T:=fun r n z=>by
   subst z
   rw [e] at r
   cases r
   exact n _ rfl
  have un:Un X.fs [] H H' s.heap (h'.push (PySem.W.kla_obj "<lambda>" (X.env.qual ++ "<lambda>") params body scope cl ((X.mg "__name__").getD .none) c' ctv)):=by
   have nn:∀ {b},H b=none->b ≠ T:=fun n z=>by subst z; rw [e] at n; cases n
   refine ⟨fun b o r n _ _=>kx b o (nn n) r,fun b o r n _ _=>⟨o.slots,kx b o (nn n) r⟩,fun b o r n _=>?_,fun b o r _=>?_,fun b xs r=>hH b _ r (ntb r fun _ z=>nomatch z),fun b o v r=>hH b _ r (ntb r fun _ z=>nomatch z),fun b ps r=>?_⟩
   ·have lb:b < s.heap.objs.size:=Heap.lt_size r
    show upd (upd (upd H T _) c' _) f _ b=none
    rw [upd_ne (Nat.ne_of_lt (Nat.lt_of_lt_of_le lb hsz)),upd_ne (Nat.ne_of_lt (Nat.lt_of_lt_of_le lb hge)),upd_ne (nn n)]
    exact n
   ·by_cases z:b=T
    ·subst z; exact ⟨_,Heap.get?_push_of_some _ htb'⟩
    ·exact ⟨o,kx b o z r⟩
   ·by_cases z:b=T
    ·subst z
     rw [e] at r
     cases r
     exact ⟨entry ⟨X.env.qual ++ "<lambda>", params,body,scope,pos⟩ c',by rw [hHT,Array.empty_append]⟩
    ·exact ⟨#[],by rw [hH b _ r z]; simp⟩
  have hok:HOk X.prog X.w H' (h'.push (PySem.W.kla_obj "<lambda>" (X.env.qual ++ "<lambda>") params body scope cl ((X.mg "__name__").getD .none) c' ctv)):=fun b u qb=>by
   have qb:upd (upd (upd H T (.tbl (entry ⟨X.env.qual ++ "<lambda>", params,body,scope,pos⟩ c'))) c' (CodeO c' (X.env.qual ++ "<lambda>"))) f (LamO f ⟨X.env.qual ++ "<lambda>", params,body,scope,pos⟩ cl c') b=some u:=qb
   by_cases z1:b=f
   ·subst z1
    rw [upd_same] at qb
    cases qb
    exact lamO_ok (Heap.get?_push_size _ rfl)
   ·rw [upd_ne z1] at qb
    by_cases z2:b=c'
    ·subst z2
     rw [upd_same] at qb
     cases qb
     obtain ⟨d,oc,vs,t,e1,e2,r2⟩:=hrec
     exact codeO_ok ⟨d,oc,vs,t,e1,Heap.get?_push_of_some _ e2,r2⟩
    ·rw [upd_ne z2] at qb
     by_cases z3:b=T
     ·subst z3
      rw [upd_same] at qb
      cases qb
      exact Heap.get?_push_of_some _ htb'
     ·rw [upd_ne z3] at qb
      refine (I.hok b u qb).stay (fun d v hd r=>kx d v ?_ r) (fun d r=>hH d _ r (ntb r fun _ z=>nomatch z)) fun d xs r=>hH d _ r (ntb r fun _ z=>nomatch z)
      rcases hd with z | z
      ·rw [z]; exact z3
      ·intro y; subst y; rw [e] at z; cases z
  refine ⟨.ref f,H',I.un (t':=tk) un hok,rfl,q f c' H' ⟨Hf,upd_same,hHc,hHT,hH⟩⟩
 ·have hP:s.heap.get? T=some (PySem.W.tabObj (entry ⟨X.env.qual ++ "<lambda>", params,body,scope,pos⟩ c)):=I.hok T _ e
  refine PySem.W.kla_makeFunctionHit (mg:=X.mg) (cv:=.ref c) hcl I.ok.glob hg hcode CH hP trivial (by simp [entry,codeAmong,rawInt]) hB fun ctv h' tk hk hsz=>?_
  let f:Addr:=h'.objs.size
  have Hf:H f=none:=I.hok.fresh hsz
  refine ⟨.ref f,_,I.laid (t':=tk) (a:=f) (o:=LamO f ⟨X.env.qual ++ "<lambda>", params,body,scope,pos⟩ cl c) (fun b o e=>Heap.get?_push_of_some _ (hk b o e)) hsz (lamO_ok (Heap.get?_push_size _ rfl)),rfl,q f c _ ⟨Hf,upd_same,?_,?_,fun b o e _=>?_⟩⟩
  ·rw [upd_ne (ne_of_none hc Hf)]; exact hc
  ·rw [upd_ne (ne_of_none e Hf)]; exact e
  ·rw [upd_ne (ne_of_none e Hf)]; exact e
end
end L2
namespace L2
open PySem PySem.Spec PyProof.Rows
structure LmScope (x y:Str) (sc:Scope):Prop where
 kind:sc.kind=.function
 co:sc.isCoroutine=false
 gen:sc.isGenerator=false
 par:sc.names.lookup x=some .local
 fre:sc.names.lookup y=some .free
 ne:x ≠ y
 nocell:∀ z ∈ sc.names,z.2 ≠ .cell
 only:∀ z,sc.names.lookup z=some .free->z=y
noncomputable def cxLam (P:Program) (w:World) (K:PySem.W.Frag) (mg:Str->Option Value) (base:Heap) (x y:Str) (l:Lm) (f c cell:Addr) (A:Around) (outer:List Env) (s:Shared) (H:Hp) (E:XK):Cx where
 prog:=P
 w:=w
 K:=K
 mg:=mg
 base:=base
 A:=A.deeper (PySem.W.envX l.qual l.scope s.heap.objs.size f (.ref c) [(y,cell)])
 N:=[x,y]
 s₀:=s
 H₀:=H
 env:=PySem.W.envX l.qual l.scope s.heap.objs.size f (.ref c) [(y,cell)]
 outer:=outer
 stack:=PySem.W.envX l.qual l.scope s.heap.objs.size f (.ref c) [(y,cell)] :: outer
 ex:=[]
 calm:=true
 fn:=fun _=>false
 pn:=[]
 xe:=fun e s'=>wpAny (model P w) (A.deeper (PySem.W.envX l.qual l.scope s.heap.objs.size f (.ref c) [(y,cell)])) (leaving (PySem.W.envX l.qual l.scope s.heap.objs.size f (.ref c) [(y,cell)]) e) (fun _ s''=>CX0 outer H s E e s'') (fun e' s''=>CX0 outer H s E e' s'') s'
theorem lk1 {y z:Str} {cell c:Addr} (h:[(y,cell)].lookup z=some c):z=y/\c=cell:=by
 rw [List.lookup_cons] at h
 by_cases e:(z == y)=true
 ·rw [e] at h
  cases h
  exact ⟨eq_of_beq e,rfl⟩
 ·have e:(z == y)=false:=by simpa using e
  rw [e] at h
  cases h
theorem lk1_self {y:Str} {cell:Addr}:[(y,cell)].lookup y=some cell:=by
 rw [List.lookup_cons,beq_self_eq_true]
theorem inv_lam {P:Program} {w:World} {K:PySem.W.Frag} {mg:Str->Option Value} {base:Heap} {x y:Str} {l:Lm} {f c cell:Addr} {A:Around} {outer:List Env} {s:Shared} {H:Hp} {E:XK} {u uy:Value} {vx vy:V} {h1:Heap} {tk:Nat}
  (S:LmScope x y l.scope) (hd:A.handled=none) (e0:Env0 P w K mg base A outer s H) (rx:RelV vx u) (ry:RelV vy uy) (hc:s.heap.IsCell cell (some uy)) (hH:H cell=none)
  (hns:h1.Ns s.heap.objs.size (fun z=>[(x,u)].reverse.lookup z)) (hk:∀ b o,s.heap.get? b=some o->h1.get? b=some o) :
  Inv (cxLam P w K mg base x y l f c cell A outer s H E) [] [some vx,some vy] H { s with heap:=h1,toks:=tk }:=by
 have noA:∀ b:Addr,b ∉ (cxLam P w K mg base x y l f c cell A outer s H E).ex:=fun b z=>absurd (show b ∈ ([]:List Addr) from z) (by simp)
 have hc1:h1.IsCell cell (some uy):=by obtain ⟨o,e1,e2⟩:=hc; exact ⟨o,hk _ _ e1,e2⟩
 refine ⟨⟨e0.mod,S.kind,rfl,rfl,Nat.le_refl _,fun y' z c h1 h2=>(lk1 h1).1.trans (lk1 h2).1.symm,fun z hz=>?_,(fun y c h _=>nomatch h),fun _=>hd,Around.frames_deeper e0.frames,.inr ⟨rfl,rfl⟩,fun b z=>absurd z (noA b),e0.bs,e0.bsz,fun b _ _=>noA b,fun b z=>absurd z (noA b),e0.funs,e0.frf⟩,
  rfl,e0.bare,Un.kept hk,⟨_,hns,fun i z v h1 h2 h3=>?_⟩,fun z c h=>?_,e0.hok.fresh (Nat.le_refl _),fun z c h=>?_,fun p hp=>absurd (show p ∈ ([]:List (Addr × Obj)) from hp) (by simp),e0.hok.kept hk,rfl⟩
 ·have hz:l.scope.names.lookup z=some .cell\/l.scope.names.lookup z=some .free:=hz
  rcases hz with hz | hz
  ·exact absurd rfl (S.nocell _ (PySem.mem_of_lookup hz))
  ·rw [S.only z hz]; exact ⟨cell,lk1_self⟩
 ·match i with
  | 0 =>
   cases h1
   cases h2
   refine ⟨u,rx,.inl ⟨S.par,?_⟩⟩
   show [(x,u)].reverse.lookup x=some u
   simp [List.lookup]
  | 1 =>
   cases h1
   cases h2
   exact ⟨uy,ry,.inr ⟨.inr S.fre,cell,lk1_self,hc1⟩⟩
  | i + 2 =>
   exact absurd h1 (by show ([x,y]:List Str)[i + 2]? ≠ some z; simp)
 ·rw [(lk1 h).2]; exact ⟨_,hc1⟩
 ·rw [(lk1 h).2]; exact hH
theorem lam_run {P:Program} {w:World} {K:PySem.W.Frag} {mg:Str->Option Value} {base:Heap} {x y:Str} {l:Lm} {f c cell:Addr} {A:Around} {outer:List Env} {s:Shared} {H:Hp} {Q:VK} {E:XK} {u uy pm ctv:Value} {vx vy:V} {k:Nat} {t:TE} {args:Args}
  (S:LmScope x y l.scope) (hr:Room (k + 1) A) (e0:Env0 P w K mg base A outer s H) (rx:RelV vx u) (ry:RelV vy uy) (hc:s.heap.IsCell cell (some uy)) (hH:H cell=none)
  (hf:s.heap.get? f=some (PySem.W.kla_obj "<lambda>" l.qual l.params l.body l.scope [(y,cell)] pm c ctv)) (hcd:s.heap.CodeRec (.ref c) l.qual) (hb:bindArgs (PySem.W.kla_fn "<lambda>" l.qual l.params l.body l.scope [(y,cell)] pm (.ref c) ctv) args=pure [(x,u)])
  (body:Room k (A.deeper (PySem.W.envX l.qual l.scope s.heap.objs.size f (.ref c) [(y,cell)]))->PE (cxLam P w K mg base x y l f c cell A outer s H E) l.body t) (q:t [some vx,some vy] H Q):codeAny (model P w) A (.call (.ref f) args) (CR CX0 outer P w H s Q E) s:=by
 have lim:s.heap.NoLimit:=e0.mod.nolimit.keeps fun b o e=>(e0.bs b o e).1
 refine PySem.W.kla_callFunE hr.depth hf rfl S.co S.gen rfl hcd ?_
 rw [hb]
 refine wpAny_pure (wpAny_newFunctionEnv S.nocell (fun z hz=>by rw [List.mem_singleton.mp hz]; exact S.par) (fun h1 hns hsb=>?_) S.kind)
 have hk1:∀ b o,s.heap.get? b=some o->h1.get? b=some o:=fun b o e=>hsb.extBut b o (Nat.ne_of_lt (Heap.lt_size e)) (Heap.get?_push_of_some _ e)
 refine ⟨lim.keeps hk1,?_⟩
 show codeAny _ _ (.expr l.body (PySem.W.envX l.qual l.scope s.heap.objs.size f (.ref c) [(y,cell)])) _ _
 have I:=inv_lam (f:=f) (c:=c) (E:=E) (tk:=s.toks + [(x,u)].length) S hr.hd e0 rx ry hc hH hns hk1
 refine PySem.W.kla_codeExpr (wpAny_mono (body (hr.deeper _) [] _ _ H Q I q) (fun v s' hs=>?_) fun e s' hs=>hs)
 obtain ⟨v',H',J,rv,qv⟩:=hs
 exact ⟨v',H',J.os,J.bare,J.base,J.hok,rv,qv⟩
end L2
namespace L2
open PySem PySem.Spec PyProof.Rows
noncomputable def Calls (P:Program) (w:World) (K:PySem.W.Frag) (mg:Str->Option Value) (base:Heap) (k:Nat) (f:Addr) (r:V->Hp->VK->Prop):Prop :=
 ∀ (X:Cx),X.prog=P->X.w=w->X.K=K->X.mg=mg->X.base=base->Passes CX0 X E0->Room k X.A->∀ pins s σ H vx u (Q:VK),Inv X pins σ H s->RelV vx u->r vx H Q->wpAny (model X.prog X.w) X.A (call (.ref f) [u]) (EP X pins σ Q) X.xe s
noncomputable def rLam (f:Addr) (l:Lm) (y:Str) (cell c:Addr) (t:TE):V->Hp->VK->Prop:=fun vx H Q=>∃ (o:Obj) (uy:Value) (vy:V),H f=some (LamO f l [(y,cell)] c)/\H c=some (CodeO c l.qual)/\H cell=some (AsIs o)/\o.data=.cell (some uy)/\RelV vy uy /\
 t [some vx,some vy] (dropH H cell) fun v H'=>Q v (upd H' cell (AsIs o))
theorem calls_lam {P:Program} {w:World} {K:PySem.W.Frag} {mg:Str->Option Value} {base:Heap} {x y:Str} {l:Lm} {f c cell:Addr} {k:Nat} {t:TE} (S:LmScope x y l.scope)
  (hb:∀ (pm ctv u:Value),bindArgs (PySem.W.kla_fn "<lambda>" l.qual l.params l.body l.scope [(y,cell)] pm (.ref c) ctv) ⟨[u],[]⟩=pure [(x,u)])
  (body:∀ (A:Around) (outer:List Env) (s:Shared) (H:Hp),Room k (A.deeper (PySem.W.envX l.qual l.scope s.heap.objs.size f (.ref c) [(y,cell)]))->PE (cxLam P w K mg base x y l f c cell A outer s H E0) l.body t) :
  Calls P w K mg base (k + 1) f (rLam f l y cell c t):=by
 intro X e1 e2 e3 e4 e5 hx hr pins s σ H vx u Q I rx h
 subst e1 e2 e3 e4 e5
 obtain ⟨o,uy,vy,hf,hc,hcell,hd,ry,q⟩:=h
 obtain ⟨pm,ctv,ef⟩:=(I.hok f _ hf).1
 have ec:s.heap.CodeRec (.ref c) l.qual:=(I.hok c _ hc).1
 have eo:s.heap.get? cell=some o:=(I.hok cell _ hcell).1
 have e0:=I.env0
 have nf:cell ∉ frs X.stack:=fun z=>by
  have:=e0.frf cell z
  rw [hcell] at this
  cases this
 have e0':Env0 X.prog X.w X.K X.mg X.base X.A X.stack s (dropH H cell):=⟨e0.frames,e0.mod,fun b ob e=>⟨(e0.bs b ob e).1,by
  by_cases z:b=cell
  ·rw [z]; exact drop_same
  ·rw [drop_ne z]; exact (e0.bs b ob e).2⟩,e0.bsz,e0.funs,fun b hb=>by
  by_cases z:b=cell
  ·rw [z]; exact drop_same
  ·rw [drop_ne z]; exact e0.frf b hb,e0.hok.drop hcell,e0.bare⟩
 refine wpAny_call (codeAny_mono (lam_run (E:=E0) S hr e0' rx ry ⟨o,eo,hd⟩ drop_same ef ec (hb pm ctv u) (body X.A X.stack s (dropH H cell)) q) fun r s' hq=>?_)
 cases r with
 | error e=>exact False.elim hq
 | ok fl =>
  cases fl with
  | ret u =>
   obtain ⟨v,H',os,bare,un,hok,rv,qv⟩:=hq
   obtain ⟨un',n',e'⟩:=un.back hcell eo nf (by simp)
   exact I.after ⟨v,_,os,bare,un',hok.take n' e',rv,qv⟩
  | next=>exact False.elim hq
  | brk=>exact False.elim hq
  | cont=>exact False.elim hq
noncomputable def tCallV (P:Program) (w:World) (K:PySem.W.Frag) (mg:Str->Option Value) (base:Heap) (k i:Nat) (te:TE):TE:=fun σ H Q=>∃ f l cl c r,σ[i]?=some (some (.ref f))/\Calls P w K mg base k f r/\H f=some (LamO f l cl c)/\te σ H fun v H1=>H1 f=some (LamO f l cl c)/\r v H1 Q
theorem fnAt_lam {X:Cx} {pins:List (Addr × Obj)} {s:Shared} {σ:St} {H:Hp} {f c:Addr} {l:Lm} {cl:List (Str × Addr)} (I:Inv X pins σ H s) (h:H f=some (LamO f l cl c)):PySem.W.FnAt f s.heap:=by
 obtain ⟨pm,ctv,e⟩:=(I.hok f _ h).1
 exact ⟨_,_,_,_,e⟩
theorem pe_callV {X:Cx} {k i:Nat} {n:Str} {e:Expr} {te:TE} {p pos:Pos} (hr:Room k X.A) (hx:Passes CX0 X E0) (hn:PE X (.Name n p) (tVar i)) (he:PE X e te) (hs:starEach [e] X.env=[(false,eval e X.env)]:=by rfl) (hs0:starEach ([]:List Expr) X.env=[]:=by rfl) (hpl:(backTo pos (starEach [] X.env)).any (·.1)=false:=by rfl) :
  PE X (.Call (.Name n p) [e] [] pos) (tCallV X.prog X.w X.K X.mg X.base k i te):=by
 intro pins s σ H Q I h
 obtain ⟨f,l,cl,c,r,hi,C,hf,h⟩:=h
 refine wpAny_Call_Name_kw (thn (hn pins s σ H (fun v H1=>v=.ref f/\H1=H) I ⟨_,hi,rfl,rfl⟩) fun u s1 ⟨v,H1,I1,ru,ev,eh⟩=>?_)
 subst ev eh
 obtain rfl:u=Value.ref f:=ru
 refine PySem.W.callWith_F (fnAt_lam I1 hf) ?_ (by rw [hs,hs0]) hpl
 rw [hs]
 refine Calls.spliced_cons (thn (he pins s1 σ H1 _ I1 h) fun iv s2 ⟨v,H2,I2,rv,hf2,q⟩=>?_)
 refine Calls.spliced_nil ⟨fnAt_lam I2 hf2,?_⟩
 exact C X rfl rfl rfl rfl rfl hx hr pins s2 σ H2 v iv Q I2 rv q
end L2
namespace L2
open PySem PySem.Spec PyProof.Rows
theorem Inv.cellAt {X:Cx} {pins:List (Addr × Obj)} {s:Shared} {σ:St} {H:Hp} {i:Nat} {y:Str} {vy:V} {cell:Addr} (I:Inv X pins σ H s) (hN:X.N[i]?=some y) (hi:σ[i]?=some (some vy)) (hk:X.env.kindOf y=some .cell) (hv:Vis X.env.scope y) (hl:X.env.cells.lookup y=some cell) :
  ∃ o uy,s.heap.get? cell=some o/\o.data=.cell (some uy)/\RelV vy uy/\H cell=none:=by
 obtain ⟨m,_,loc⟩:=I.loc
 obtain ⟨u,ru,lk⟩:=loc i y vy hN hi hv
 rcases lk with ⟨k,_⟩ | ⟨_,c,e,o,e1,e2⟩
 ·rw [hk] at k; cases k
 ·rw [hl] at e
  cases e
  exact ⟨o,u,e1,e2,ru,I.freeC y cell hl⟩
theorem Inv.cellOut {X:Cx} {pins:List (Addr × Obj)} {s:Shared} {σ:St} {H:Hp} {y:Str} {cell:Addr} (I:Inv X pins σ H s) (hf:X.fn y=true) (hl:X.env.cells.lookup y=some cell):cell ∉ frs X.stack:=fun z=>by
 have ab:=I.ok.cab y cell hf hl
 have no:cell ∉ frs X.outer:=fun z=>by
  obtain ⟨_,o,ho,_⟩:=I.ok.funs.mem z
  exact absurd (Heap.lt_size ho) (Nat.not_lt.mpr ab)
 rcases I.ok.stk with e | ⟨e,fr⟩
 ·rw [e] at z; exact no z
 ·rw [e] at z
  unfold frs at z
  rw [List.filterMap_cons,fr] at z
  rcases List.mem_cons.mp z with z | z
  ·exact I.cne y cell hl z
  ·exact no z
noncomputable def tCallC (sp:Sp) (i:Nat) (cell:Addr) (t:TA):TE:=fun σ H Q=>t σ H fun vs H1=>∃ vy,σ[i]?=some (some vy)/\∀ o uy,o.data=.cell (some uy)->RelV vy uy->H1 cell=none->sp vs (upd H1 cell (AsIs o)) (fun v H2=>Q v (dropH H2 cell)) E0
theorem pe_fnC {X:Cx} {x y:Str} {ps:List Str} {k i:Nat} {sp:Sp} {e:Expr} {es:List Expr} {t:TA} {p pos:Pos} {cell:Addr} (F:Fn X.prog X.w X.K X.mg X.base x ps k sp) (hr:Room k X.A) (hg:Gl X x) (ha:PA X (e :: es) t)
  (hN:X.N[i]?=some y) (hky:X.env.kindOf y=some .cell) (hv:Vis X.env.scope y) (hl:X.env.cells.lookup y=some cell) (hfn:X.fn y=true)
  (hdb:(x == ("__debug__" : Str))=false:=by decide) (he:starEach (e :: es) X.env=(false,eval e X.env) :: starEach es X.env:=by rfl) (hpl:(backTo pos (starEach es X.env)).any (·.1)=false:=by rfl) :
  PE X (.Call (.Name x p) (e :: es) [] pos) (tCallC sp i cell t):=by
 obtain ⟨f,fd,G,hm,hk,hb⟩:=F.ex
 intro pins s σ H Q I h
 refine wpAny_Call_Name_kw (ld_glob I hg hm ?_ hdb)
 refine PySem.W.callWith_K (h₀:=X.base) I.ok.mod.kin hk (thn (ha pos pins s σ H _ I h) fun us s1 ⟨vs,H1,I1,r,q⟩=>⟨I1.kIn,?_⟩) he hpl
 obtain ⟨vy,hi,q⟩:=q
 obtain ⟨o,uy,e1,e2,ry,hn⟩:=I1.cellAt hN hi hky hv hl
 have nf:=I1.cellOut hfn hl
 have ab:=I1.ok.cab y cell hfn hl
 have e0:=I1.env0
 have e0':Env0 X.prog X.w X.K X.mg X.base X.A X.stack s1 (upd H1 cell (AsIs o)):=⟨e0.frames,e0.mod,fun b ob e=>⟨(e0.bs b ob e).1,by
  rw [upd_ne]
  ·exact (e0.bs b ob e).2
  ·intro z
   have:=Heap.lt_size (I1.ok.bs b ob e).1
   rw [z] at this
   exact absurd this (Nat.not_lt.mpr ab)⟩,e0.bsz,e0.funs,fun b hb=>by
  rw [upd_ne]
  ·exact e0.frf b hb
  ·intro z; rw [z] at hb; exact nf hb,e0.hok.take hn e1,e0.bare⟩
 have hl2:us.length=ps.length:=by rw [<-r.length]; exact G.len _ _ _ _ (q o uy e2 ry hn)
 refine wpAny_call (codeAny_mono (G.run X.A X.stack s1 _ ⟨us,[]⟩ us vs _ E0 hr e0' (by have:=hb s1 us I1.kIn (by rw [List.append_nil]; exact hl2); rwa [List.append_nil] at this) r (q o uy e2 ry hn)) fun rr s' hq=>?_)
 cases rr with
 | error e=>exact False.elim hq
 | ok fl =>
  cases fl with
  | ret u =>
   obtain ⟨v,H',os,bare,un,hok,rv,qv⟩:=hq
   obtain ⟨un',hok',_⟩:=un.out hok hn e1 nf
   exact I1.after ⟨v,_,os,bare,un',hok',rv,qv⟩
  | next=>exact False.elim hq
  | brk=>exact False.elim hq
  | cont=>exact False.elim hq
end L2
namespace L2
open PySem PySem.Spec PyProof.Rows
structure FunC (K:PySem.W.Frag) (x qual:Str) (st:Stmt) (f:Addr) (fd:FuncData) (c:Addr):Prop where
 ex:∃ oc od kV doc pm an ct osl,fd=PySem.W.fnOf x qual (defArgs st) (defBody st) (defScope st) .none kV doc pm an (.ref c) ct/\K.lookup f=some ⟨oc,od,.func (PySem.W.fnOf x qual (defArgs st) (defBody st) (defScope st) .none kV doc pm an (.ref c) ct),osl⟩/\PySem.W.codeIn K (.ref c) qual=true
section
variable {P:Program} {w:World} {K:PySem.W.Frag} {mg:Str->Option Value} {base:Heap}
theorem FunC.ok {x qual:Str} {st:Stmt} {f c:Addr} {fd:FuncData} {N ps:List Str} {k:Nat} {sp:Sp} (F:FunC K x qual st f fd c) (S:FnScope N ps (defScope st)) (len:∀ vs H Q E,sp vs H Q E->vs.length=ps.length)
  (hbody:∀ (A:Around) (outer:List Env) (s:Shared) (H:Hp) (vs:List V) (Q:VK) (E:XK),Room k (A.deeper (envOfC qual (defScope st) s.heap.objs.size f (.ref c)))->sp vs H Q E ->
   ∃ t,PSs (cxOf CX0 P w K mg base N qual (defScope st) f (.ref c) A outer s H E).nox (defBody st) t/\t { nx:=fun _ H'=>Q .non H',rt:=Q } (start N vs) H):FnOk P w K mg base CX0 (k + 1) f fd ps sp:=by
 obtain ⟨oc,od,kV,doc,pm,an,ct,osl,rfl,lk,hcd⟩:=F.ex
 refine fn_of lk hcd S len fun A outer s H vs Q E hr hsp=>?_
 obtain ⟨t,h,q⟩:=hbody A outer s H vs Q E hr hsp
 exact ⟨t,h.nox,q⟩
end
end L2
namespace L2
open PySem PySem.Spec PyProof.Rows
structure OnlyT (tabs:List (Addr × Addr)) (H:Hp):Prop where
 tab:∀ q ∈ tabs,H q.2=some (.tbl #[])
 other:∀ b,b ∉ tabs.map (·.2)->H b=none\/∃ o xs,H b=some (.frz o (.lst xs))
theorem law_callT {P:Program} {w:World} {K:PySem.W.Frag} {mg mb:Str->Option Value} {CX:CXT} {k:Nat} {fa a:Addr} {fd:FuncData} {x:Str} {sp:Sp} {s₁:Shared} {vs:List Value} {ns:List Int} {tabs:List (Addr × Addr)}
  (KX:K.In s₁.heap) (hns:s₁.heap.Ns mainGlobals mg) (hb:s₁.heap.Ns builtinsNs mb) (hbb:∀ x:Str,x ≠ "__name__" -> mb x=bootBuiltins x) (hlim:s₁.heap.NoLimit) (hg:s₁.gens=#[])
  (hbm:BMain s₁.heap mg) (hT:PySem.W.TabsAt tabs s₁.heap) (hTK:∀ q ∈ tabs,K.lookup q.2=none)
  (ha:s₁.heap.get? a=some { cls:=.type "list", data:=.seq vs.toArray }) (hi:IntsAre vs ns) (hl:ns.length<=sizeLine) (hr:Room k callerA)
  (F:∀ base:Heap,K.In base->base.Ns mainGlobals mg->BMain base mg->FnOk P w K mg base CX k fa fd [x] sp) (hbind:∀ (s:Shared) (u:Value),BindsTo s fd ⟨[u],[]⟩ [(x,u)])
  (hsp:∀ H:Hp,OnlyT tabs H->SqL K H a (ns.map V.int)->sp [.ref a] H (fun v _=>v=.bl true) fun _ _ _=>False)
  (hCX:∀ H e s',CX [] H s₁ (fun _ _ _=>False) e s'->False) :
  codeAny (model P w) callerA (.call (.ref fa) ⟨[.ref a],[]⟩) (fun r s'=>r=.ok (.ret (.bool true))/\OldK s₁.heap s'.heap/\s'.os=s₁.os/\AllBare s'.gens) s₁:=by
 have rv:=vals_ints hi
 have lenV:=hi.length
 have naT:a ∉ tabs.map (·.2):=fun q=>by
  obtain ⟨r,hr,e⟩:=List.mem_map.mp q
  have e2:=(hT r hr).2
  rw [e,ha] at e2
  cases e2
 have core:∀ H:Hp,OnlyT tabs H->SqL K H a (ns.map V.int)->HOk P w H s₁.heap->(∀ b,H b ≠ none->b=a\/b ∈ tabs.map (·.2))->(H a ≠ none->K.lookup a=none) ->
   codeAny (model P w) callerA (.call (.ref fa) ⟨[.ref a],[]⟩) (fun r s'=>r=.ok (.ret (.bool true))/\OldK s₁.heap s'.heap/\s'.os=s₁.os/\AllBare s'.gens) s₁:=by
  intro H hO hS hok hA hK
  have base_of:∀ {b:Addr} {o:Obj},s₁.heap.get? b=some o->H b=none->(hidT s₁.heap H).get? b=some o:=fun e n=>hidT_get e n
  have noA:∀ {b:Addr} {o:Obj},s₁.heap.get? b=some o->(∀ ps n,o.data ≠ .seq ps n)->(∀ ps,o.data ≠ .fields ps)->H b=none:=fun {b o} e d1 d2=>by
   cases q:H b with
   | none=>rfl
   | some u =>
    rcases hA b (by rw [q]; simp) with e' | e'
    ·subst e'
     rw [ha] at e; cases e
     exact absurd rfl (d1 _ _)
    ·obtain ⟨r,hr,er⟩:=List.mem_map.mp e'
     have e2:=(hT r hr).2
     rw [er,e] at e2
     cases e2
     exact absurd rfl (d2 _)
  have nsK:∀ {b:Addr} {m:Str->Option Value},s₁.heap.Ns b m->(hidT s₁.heap H).Ns b m:=fun {b m} ⟨o,es,ep,e,d,r⟩=>⟨o,es,ep,base_of e (noA e (fun _ _ z=>by rw [d] at z; cases z) (fun _ z=>by rw [d] at z; cases z)),d,r⟩
  have hKb:K.In (hidT s₁.heap H):=fun b o e=>base_of (KX b o e) (by
   cases q:H b with
   | none=>rfl
   | some u =>
    rcases hA b (by rw [q]; simp) with e' | e'
    ·subst e'
     rw [hK (by rw [q]; simp)] at e; cases e
    ·obtain ⟨r,hr,er⟩:=List.mem_map.mp e'
     have e2:=hTK r hr
     rw [er,e] at e2
     cases e2)
  have hM:Mod K mg (hidT s₁.heap H):=⟨hKb,nsK hns,⟨mb,nsK hb,hbb⟩,let ⟨mc,h1,h2⟩:=hlim; ⟨mc,nsK h1,h2⟩⟩
  have hB:BMain (hidT s₁.heap H) mg:=by
   obtain ⟨bm,ob,b1,b2,b3,b4,b5,b6,b7⟩:=hbm
   exact ⟨bm,ob,b1,b2,b3,base_of b4 (noA b4 (fun _ _ z=>by rw [b7] at z; cases z) (fun _ z=>by rw [b7] at z; cases z)),b5,b6,b7⟩
  have e0:Env0 P w K mg (hidT s₁.heap H) callerA [] s₁ H:=⟨rfl,hM,fun b o e=>of_hidT e,Nat.le_of_eq (hidT_size _ _),trivial,fun b hb=>absurd (show b ∈ ([]:List Addr) from hb) (by simp),hok,.of_eq hg⟩
  refine codeAny_mono ((F _ hKb (nsK hns) hB).run callerA [] s₁ H ⟨[.ref a],[]⟩ [.ref a] [.ref a] _ _ hr e0 (hbind s₁ (.ref a)) (.cons rfl .nil) (hsp H hO hS)) fun r s' h=>?_
  cases r with
  | error e=>exact (hCX H e s' h).elim
  | ok fl =>
   cases fl with
   | next=>exact False.elim h
   | brk=>exact False.elim h
   | cont=>exact False.elim h
   | ret u =>
    obtain ⟨v,H',os,bare,un,hok',r',q⟩:=h
    have q':v=.bl true:=q
    subst q'
    obtain rfl:u=Value.bool true:=r'
    refine ⟨rfl,⟨fun b o e=>?_,fun b o e=>un.there b o e (by simp)⟩,os,bare⟩
    cases q:H b with
    | none=>exact .inl (un.keep b o e q (by intro z; exact absurd (show b ∈ ([]:List Addr) from z) (by simp)) (by simp))
    | some u =>
     by_cases hb:b ∈ tabs.map (·.2)
     ·obtain ⟨r,hr,er⟩:=List.mem_map.mp hb
      have t1:=hO.tab r hr
      have e2:=(hT r hr).2
      have ict:=((hT r hr).1.tab (hT r hr).2).isCodeTable
      rw [er] at t1 e2 ict
      rw [e] at e2
      cases e2
      obtain ⟨more,t2⟩:=un.tbls b _ t1
      have t3:s'.heap.get? b=some { cls:=.none,data:=.fields (#[]++more) }:=hok' b _ t2
      exact .inr (.inl ⟨ict,rfl,#[],more,rfl,t3⟩)
     ·rcases hO.other b hb with z | ⟨ob,xs,z⟩
      ·rw [q] at z; cases z
      ·have z2:=un.frzs b ob _ z
       obtain ⟨e1,_⟩:=hok b _ z
       obtain ⟨e2,_⟩:=hok' b _ z2
       rw [e] at e1; cases e1
       exact .inl e2
 let HT:Hp:=fun b=>if b ∈ tabs.map (·.2) then some (.tbl #[]) else none
 have htab:∀ b,b ∈ tabs.map (·.2)->s₁.heap.get? b=some (PySem.W.tabObj #[]):=fun b hb=>by
  obtain ⟨r,hr,er⟩:=List.mem_map.mp hb
  rw [<-er]; exact (hT r hr).2
 cases hk:K.lookup a with
 | some o =>
  have e:=KX a o hk
  rw [ha] at e
  cases e
  refine core HT ⟨fun q hq=>if_pos (List.mem_map.mpr ⟨q,hq,rfl⟩),fun b hb=>.inl (if_neg hb)⟩ (.inr ⟨_,vs.toArray,_,hk,rfl,rfl,rfl,by rw [List.size_toArray,lenV]; exact hl,by simpa using rv⟩) (fun b u z=>?_) (fun b z=>?_) fun z=>absurd (if_neg naT) z
  ·by_cases hb:b ∈ tabs.map (·.2)
   ·have z':=(if_pos hb).symm.trans z
    cases z'
    exact htab b hb
   ·have z':=(if_neg hb).symm.trans z
    cases z'
  ·by_cases hb:b ∈ tabs.map (·.2)
   ·exact .inr hb
   ·exact absurd (if_neg hb) z
 | none =>
  let HA:Hp:=fun b=>if b=a then some (.frz { cls:=.type "list", data:=.seq vs.toArray } (.lst (ns.map V.int))) else HT b
  have hA1:HA a=some (.frz { cls:=.type "list", data:=.seq vs.toArray } (.lst (ns.map V.int))):=if_pos rfl
  have hA2:∀ b,b ≠ a->HA b=HT b:=fun b h=>if_neg h
  refine core HA ⟨fun q hq=>?_,fun b hb=>?_⟩ (.inl (.inr ⟨{ cls:=.type "list", data:=.seq vs.toArray },hA1⟩)) (fun b u z=>?_) (fun b z=>?_) fun _=>hk
  ·rw [hA2 _ fun z=>naT (List.mem_map.mpr ⟨q,hq,z⟩)]
   exact if_pos (List.mem_map.mpr ⟨q,hq,rfl⟩)
  ·by_cases hba:b=a
   ·subst hba; exact .inr ⟨_,_,hA1⟩
   ·rw [hA2 b hba]; exact .inl (if_neg hb)
  ·by_cases hba:b=a
   ·subst hba
    rw [hA1] at z
    cases z
    exact ⟨ha,by rw [List.length_map]; exact hl,vs,_,rv,ha⟩
   ·rw [hA2 b hba] at z
    by_cases hb:b ∈ tabs.map (·.2)
    ·have z':=(if_pos hb).symm.trans z
     cases z'
     exact htab b hb
    ·have z':=(if_neg hb).symm.trans z
     cases z'
  ·by_cases hba:b=a
   ·exact .inl hba
   ·rw [hA2 b hba] at z
    by_cases hb:b ∈ tabs.map (·.2)
    ·exact .inr hb
    ·exact absurd (if_neg hb) z
theorem bmain_of {p:Program} {loose:List Str} {mean:ExcName->Option Value} {mg mb:Str->Option Value} {h:Heap} (T:Top p loose mean mg mb h):BMain h mg:=by
 obtain ⟨bm,ob,b1,b2,b3,b4,b5,b6⟩:=T.bmain
 refine ⟨bm,ob,b1,b2,fun q=>?_,b3,b4,b5,b6⟩
 obtain ⟨o,es,ep,e,hd,_⟩:=T.g
 rw [q,e] at b3; cases b3; rw [hd] at b6; cases b6
theorem walk_ofT {l:PySem.W.OpenLaw} {n k:Nat} {q:Program} {loose:List Str} {XP:(Str->Option Value)->Heap->Prop} {YP:World->Heap->Prop} {d:DefRec} {K:Params->PySem.W.Frag} {CX:World->CXT} {sp:World->Sp} {x:Str} (tabs:World->List (Addr × Addr))
  (hn:l.most=some n) (hn2:n<=sizeLine) (hdf:d.params.defaults=[]) (hr:Room k callerA)
  (hY:∀ (w:World) (h:Heap),YP w h->(K w.params).In h) (hY2:∀ (w:World) (h:Heap),YP w h->PySem.W.TabsAt (tabs w) h) (hTK:∀ (w:World),∀ q ∈ tabs w,(K w.params).lookup q.2=none)
  (F:∀ (w:World) (mg:Str->Option Value) (fa:Addr) (h:Heap),(K w.params).In h->h.Ns mainGlobals mg->mg d.name=some (.ref fa) ->
   ∃ fd:FuncData,(∀ (s:Shared) (u:Value),BindsTo s fd ⟨[u],[]⟩ [(x,u)]) /\
    ∀ base:Heap,(K w.params).In base->base.Ns mainGlobals mg->BMain base mg->FnOk l.prog w (K w.params) mg base (CX w) k fa fd [x] (sp w))
  (hsp:∀ (w:World) (H:Hp) (a:Addr) (ns:List Int),ns.length<=n->OnlyT (tabs w) H->SqL (K w.params) H a (ns.map V.int)->sp w [.ref a] H (fun v _=>v=.bl true) fun _ _ _=>False)
  (hCX:∀ (w:World) (H:Hp) (s:Shared) (e:Value) (s':Shared),CX w [] H s (fun _ _ _=>False) e s'->False) :
  PySem.W.WalkO q loose XP YP l.row.toRowW d [] (fun f vs=>PySem.call f vs):=by
 refine Att.attach_call hn hdf fun w s₀ s₁ mg mb fa o pm cd doc a vs ns G Y ho hd hcd hmg hobj hints hlen hg=>?_
 have KX:=hY w _ Y
 obtain ⟨fd,hb,hF⟩:=F w mg fa _ KX G.T.g hmg
 exact law_callT KX G.T.g G.T.b G.T.builtins G.T.nolimit hg (bmain_of G.T) (hY2 w _ Y) (hTK w) hobj hints (Nat.le_trans hlen hn2) hr hF hb (fun H hO hS=>hsp w H a ns hlen hO hS) fun H e s'=>hCX w H s₁ e s'
noncomputable def makers (K:PySem.W.Frag) (ts:List Addr):List (Addr × Addr):=ts.flatMap fun T=>(K.filter fun p=>PySem.W.codeHdIn K p.1 T).map fun p=>(p.1,T)
noncomputable def makersOk (K:PySem.W.Frag) (ts:List Addr):Bool:=ts.all fun T=>(K.any fun p=>PySem.W.codeHdIn K p.1 T) && (K.lookup T).isNone
theorem makers_mem {K:PySem.W.Frag} {ts:List Addr} {q:Addr × Addr} (h:q ∈ makers K ts):q.2 ∈ ts/\PySem.W.codeHdIn K q.1 q.2=true:=by
 obtain ⟨T,hT,h⟩:=List.mem_flatMap.mp h
 obtain ⟨p,hp,rfl⟩:=List.mem_map.mp h
 exact ⟨hT,(List.mem_filter.mp hp).2⟩
theorem makers_has {K:PySem.W.Frag} {ts:List Addr} (ok:makersOk K ts=true) {T:Addr} (hT:T ∈ ts):∃ c,(c,T) ∈ makers K ts:=by
 have h:=List.all_eq_true.mp ok T hT
 rw [Bool.and_eq_true] at h
 obtain ⟨p,hp,e⟩:=List.any_eq_true.mp h.1
 exact ⟨p.1,List.mem_flatMap.mpr ⟨T,hT,List.mem_map.mpr ⟨p,List.mem_filter.mpr ⟨hp,e⟩,rfl⟩⟩⟩
theorem makers_out {K:PySem.W.Frag} {ts:List Addr} (ok:makersOk K ts=true) {T:Addr} (hT:T ∈ ts):K.lookup T=none:=by
 have h:=List.all_eq_true.mp ok T hT
 rw [Bool.and_eq_true] at h
 exact Option.isNone_iff_eq_none.mp h.2
theorem walk_ofM {l:PySem.W.OpenLaw} {n k:Nat} {q:Program} {loose:List Str} {XP:(Str->Option Value)->Heap->Prop} {d:DefRec} {K:Params->PySem.W.Frag} {as:List Addr} {e:∀ P,as=(K P).map (·.1)} {ts:List Addr} {CX:World->CXT} {sp:World->Sp} {x:Str}
  (hn:l.most=some n) (hn2:n<=sizeLine) (hdf:d.params.defaults=[]) (hr:Room k callerA) (ok:∀ w:World,makersOk (K w.params) ts=true)
  (F:∀ (w:World) (mg:Str->Option Value) (fa:Addr) (h:Heap),(K w.params).In h->h.Ns mainGlobals mg->mg d.name=some (.ref fa) ->
   ∃ fd:FuncData,(∀ (s:Shared) (u:Value),BindsTo s fd ⟨[u],[]⟩ [(x,u)]) /\
    ∀ base:Heap,(K w.params).In base->base.Ns mainGlobals mg->BMain base mg->FnOk l.prog w (K w.params) mg base (CX w) k fa fd [x] (sp w))
  (hsp:∀ (w:World) (H:Hp) (a:Addr) (ns:List Int),ns.length<=n->(∀ T ∈ ts,H T=some (.tbl #[]))->SqL (K w.params) H a (ns.map V.int)->sp w [.ref a] H (fun v _=>v=.bl true) fun _ _ _=>False)
  (hCX:∀ (w:World) (H:Hp) (s:Shared) (e:Value) (s':Shared),CX w [] H s (fun _ _ _=>False) e s'->False) :
  PySem.W.WalkO q loose XP (PySem.W.kmHook K as e ts).says l.row.toRowW d [] (fun f vs=>PySem.call f vs):=by
 refine walk_ofT (fun w=>makers (K w.params) ts) hn hn2 hdf hr (fun w h Y=>PySem.W.km_in_of Y) (fun w h Y q hq=>?_) (fun w q hq=>makers_out (ok w) (makers_mem hq).1) F (fun w H a ns h1 hO hS=>hsp w H a ns h1 (fun T hT=>?_) hS) hCX
 ·obtain ⟨h1,h2⟩:=makers_mem hq
  exact ⟨PySem.W.codeHd_of_K (PySem.W.km_in_of Y) h2,PySem.W.km_tabs_of Y _ h1⟩
 ·obtain ⟨c,hc⟩:=makers_has (ok w) hT
  exact hO.tab _ hc
end L2
namespace L2
open PySem PySem.Spec PyProof.Rows
noncomputable def Fz:HO->Prop
 | .dK _=>True
 | .dT _=>True
 | .lst _=>True
 | _=>False
noncomputable def back (H:Hp) (a:Addr) (H':Hp):Hp:=fun b=>if b=a then H a else H' b
theorem back_same {H H':Hp} {a:Addr}:back H a H' a=H a:=if_pos rfl
theorem back_ne {H H':Hp} {a b:Addr} (h:b ≠ a):back H a H' b=H' b:=if_neg h
section
variable {X:Cx} {pins:List (Addr × Obj)} {σ σ':St} {H H':Hp} {s s':Shared} {a:Addr} {u:HO} {o:Obj}
theorem rd_some (r:Rd H a u):∃ v,H a=some v:=by
 rcases r with r | ⟨o,r⟩ <;> exact ⟨_,r⟩
theorem rd_fz (r:Rd H a u) (f:Fz u):(∀ xs,H a ≠ some (.tup xs))/\(∀ ps,H a ≠ some (.tbl ps))/\(∀ x,H a ≠ some (.own x))/\∀ ob v,H a=some (.frz ob v)->v=u:=by
 rcases r with r | ⟨o,r⟩
 ·refine ⟨fun xs z=>?_,fun ps z=>?_,fun x z=>?_,fun ob v z=>?_⟩ <;> (rw [r] at z; cases z; exact f.elim)
 ·refine ⟨fun xs z=>?_,fun ps z=>?_,fun x z=>?_,fun ob v z=>?_⟩ <;> (rw [r] at z; cases z)
  rfl
theorem Inv.freeze (I:Inv X pins σ H s) (r:Rd H a u) (f:Fz u) (e:s.heap.get? a=some o):Inv X pins σ (upd H a (.frz o u)) s:=by
 obtain ⟨v,hv⟩:=rd_some r
 obtain ⟨n1,n2,n3,n4⟩:=rd_fz r f
 have ne:∀ {b},H b=none->b ≠ a:=fun h z=>by rw [z,hv] at h; cases h
 have ok:=r.ok I.hok
 refine ⟨I.ok,I.os,I.bare,⟨I.base.keep,I.base.slot,fun b ob q n hx=>?_,I.base.there,fun b xs q=>?_,fun b ob w q=>?_,fun b ps q=>?_⟩,I.loc,I.cell,?_,fun x c h=>?_,fun p hp=>?_,fun b w q=>?_,I.len⟩
 ·have:=I.base.free b ob q n hx
  rw [upd_ne (ne this)]; exact this
 ·have:=I.base.tups b xs q
  rw [upd_ne (fun z=>n1 xs (by rw [<-z]; exact this))]; exact this
 ·have z:=I.base.frzs b ob w q
  by_cases hb:b=a
  ·subst hb
   have ew:=n4 ob w z
   subst ew
   obtain ⟨e1,_⟩:=I.hok b _ z
   rw [e] at e1
   cases e1
   exact upd_same
  ·rw [upd_ne hb]; exact z
 ·obtain ⟨more,z⟩:=I.base.tbls b ps q
  exact ⟨more,by rw [upd_ne (fun y=>n2 _ (by rw [<-y]; exact z))]; exact z⟩
 ·rw [upd_ne (ne I.free)]; exact I.free
 ·rw [upd_ne (ne (I.freeC x c h))]; exact I.freeC x c h
 ·obtain ⟨p1,p2,p3,p4,p5⟩:=I.pin p hp
  exact ⟨p1,by rw [upd_ne (ne p2)]; exact p2,p3,p4,p5⟩
 ·have st:∀ {b w},ObjOk X.prog X.w H s.heap b w->ObjOk X.prog X.w (upd H a (.frz o u)) s.heap b w:=fun h=>h.stay (fun _ _ _ q=>q) (fun d q=>by rw [upd_ne (fun z=>n3 _ (by rw [<-z]; exact q))]; exact q) fun d xs q=>by rw [upd_ne (fun z=>n1 _ (by rw [<-z]; exact q))]; exact q
  by_cases hb:b=a
  ·subst hb
   rw [upd_same] at q
   cases q
   exact ⟨e,st ok⟩
  ·rw [upd_ne hb] at q
   exact st (I.hok b w q)
theorem Inv.thaw (I:Inv X pins σ H s) (r:Rd H a u) (f:Fz u) (e:s.heap.get? a=some o) (J:Inv X pins σ' H' s') (h':H' a=some (.frz o u)):Inv X pins σ' (back H a H') s':=by
 obtain ⟨v,hv⟩:=rd_some r
 obtain ⟨n1,n2,n3,n4⟩:=rd_fz r f
 have ne:∀ {b},H' b=none->b ≠ a:=fun h z=>by rw [z,h'] at h; cases h
 have ok:=J.hok a _ h'
 refine ⟨J.ok,J.os,J.bare,⟨J.base.keep,J.base.slot,fun b ob q n hx=>?_,J.base.there,fun b xs q=>?_,fun b ob w q=>?_,fun b ps q=>?_⟩,J.loc,J.cell,?_,fun x c h=>?_,fun p hp=>?_,fun b w q=>?_,J.len⟩
 ·have:=J.base.free b ob q n hx
  rw [back_ne (ne this)]; exact this
 ·have:=J.base.tups b xs q
  rw [back_ne (fun z=>by rw [z,h'] at this; cases this)]; exact this
 ·by_cases hb:b=a
  ·subst hb
   rw [back_same]
   exact I.base.frzs b ob w q
  ·rw [back_ne hb]; exact J.base.frzs b ob w q
 ·obtain ⟨more,z⟩:=J.base.tbls b ps q
  exact ⟨more,by rw [back_ne (fun y=>by rw [y,h'] at z; cases z)]; exact z⟩
 ·rw [back_ne (ne J.free)]; exact J.free
 ·rw [back_ne (ne (J.freeC x c h))]; exact J.freeC x c h
 ·obtain ⟨p1,p2,p3,p4,p5⟩:=J.pin p hp
  exact ⟨p1,by rw [back_ne (ne p2)]; exact p2,p3,p4,p5⟩
 ·have st:∀ {b w},ObjOk X.prog X.w H' s'.heap b w->ObjOk X.prog X.w (back H a H') s'.heap b w:=fun h=>h.stay (fun _ _ _ q=>q) (fun d q=>by rw [back_ne (fun z=>by rw [z,h'] at q; cases q)]; exact q) fun d xs q=>by rw [back_ne (fun z=>by rw [z,h'] at q; cases q)]; exact q
  by_cases hb:b=a
  ·subst hb
   rw [back_same] at q
   rcases r with r | ⟨o2,r⟩
   ·rw [r] at q
    cases q
    exact st ok.2
   ·obtain ⟨e2,_⟩:=I.hok b _ r
    rw [e] at e2
    cases e2
    rw [r] at q
    cases q
    exact ⟨ok.1,st ok.2⟩
  ·rw [back_ne hb] at q
   exact st (J.hok b w q)
noncomputable def thawD (D:Ends) (H:Hp) (a:Addr) (o:Obj) (u:HO):Ends where
 nx:=fun σ' H'=>H' a=some (.frz o u)/\D.nx σ' (back H a H')
 bk:=fun σ' H'=>H' a=some (.frz o u)/\D.bk σ' (back H a H')
 ct:=fun σ' H'=>H' a=some (.frz o u)/\D.ct σ' (back H a H')
 rt:=fun v H'=>H' a=some (.frz o u)/\D.rt v (back H a H')
noncomputable def tFrz (t:TS):TS:=fun D σ H=>∃ a u,Rd H a u/\Fz u/\∀ o,t (thawD D H a o u) σ (upd H a (.frz o u))
theorem ps_frz {st:Stmt} {t:TS} (h:PS X st t):PS X st (tFrz t):=by
 intro pins s σ H D I q
 obtain ⟨a,u,r,f,q⟩:=q
 obtain ⟨v,hv⟩:=rd_some r
 obtain ⟨o,e⟩:∃ o,s.heap.get? a=some o:=by
  rcases r with r | ⟨o,r⟩
  ·have:=(I.hok a _ r)
   cases u with
   | lst xs=>obtain ⟨_,_,_,_,e⟩:=this; exact ⟨_,e⟩
   | dK kvs=>obtain ⟨_,_,_,_,o,_,_,e,_⟩:=this; exact ⟨_,e⟩
   | dT kvs=>obtain ⟨_,_,_,_,o,_,_,e,_⟩:=this; exact ⟨_,e⟩
   | _=>exact f.elim
  ·exact ⟨o,(I.hok a _ r).1⟩
 refine wpAny_mono (h pins s σ _ _ (I.freeze r f e) (q o)) (fun fl s' z=>?_) fun _ _ z=>z
 cases fl with
 | next=>obtain ⟨σ',H',J,h1,h2⟩:=z; exact ⟨σ',_,I.thaw r f e J h1,h2⟩
 | brk=>obtain ⟨σ',H',J,h1,h2⟩:=z; exact ⟨σ',_,I.thaw r f e J h1,h2⟩
 | cont=>obtain ⟨σ',H',J,h1,h2⟩:=z; exact ⟨σ',_,I.thaw r f e J h1,h2⟩
 | ret w=>obtain ⟨v,σ',H',J,rv,h1,h2⟩:=z; exact ⟨v,σ',_,I.thaw r f e J h1,rv,h2⟩
end
noncomputable def Itd (a:Addr) (o:Obj) (kvs:List (Key × V)):It :=
 ⟨fun i H=>H a=some (.frz o (.dK kvs))/\i < kvs.length,fun i H x H'=>H'=H/\∃ k v,kvs[i]?=some (k,v)/\x=kV k,fun i H=>H a=some (.frz o (.dK kvs))/\kvs.length<=i⟩
theorem is_kV {P:Program} {w:World} {k:Key} {u:Value} (h:(mixKind P w).is k u=true):RelV (kV k) u:=by
 rcases keyIs_shape (show keyIs k u=true from h) with ⟨i,t,rfl,rfl⟩ | ⟨x,t,rfl,rfl⟩
 ·exact ⟨t,rfl⟩
 ·exact ⟨t,rfl⟩
theorem KV.len {κ:Type} {xs:List (κ × V)} {ys:List (κ × Value)} (r:KV xs ys):xs.length=ys.length:=Paired.length r
theorem KV.get {κ:Type}:∀ {xs:List (κ × V)} {ys:List (κ × Value)} {i:Nat} {k:κ} {v:V},KV xs ys->xs[i]?=some (k,v)->∃ u,ys[i]?=some (k,u)/\RelV v u
 | _,_,_,_,_,.nil,e=>by simp at e
 | _,(k',u) :: _,0,k,v,.cons r _,e=>by
  simp at e
  subst e
  obtain ⟨r1,r2⟩:=r
  have r1:k=k':=r1
  subst r1
  exact ⟨u,rfl,r2⟩
 | _,_,i + 1,k,v,.cons _ t,e=>by
  obtain ⟨u,h1,h2⟩:=KV.get (i:=i) t (by simpa using e)
  exact ⟨u,by simpa using h1,h2⟩
theorem frz_dictAt {X:Cx} {pins:List (Addr × Obj)} {σ:St} {H:Hp} {s:Shared} {a:Addr} {o:Obj} {es:Array DictEntry} {ep:Nat} {kvs:List (Key × V)} (I:Inv X pins σ H s) (h:H a=some (.frz o (.dK kvs))) (hd:o.data=.dict es ep) :
  ∃ vs,KV kvs vs/\s.heap.DictAt (mixKind X.prog X.w) a vs ep/\(a == sysModules)=false:=by
 obtain ⟨e1,z,y,vs,rel,ob,es',ep',e2,c,d,r⟩:=I.hok a _ h
 rw [e1] at e2
 cases e2
 rw [hd] at d
 cases d
 exact ⟨vs,rel,⟨o,es,e1,c,hd,r⟩,y⟩
theorem turn_dict {P:Program} {w:World} {K:PySem.W.Frag} {tg:Expr} (a it:Addr) (o:Obj) (kvs:List (Key × V)) (es:Array DictEntry) (ep:Nat) (hd:o.data=.dict es ep):Turn P w K tg (Itd a o kvs) [it] it (fun i h=>h.IsKeyIter it a i kvs.length ep) where
 mem:=by simp
 obj:=fun i h st b hb=>by
  have e:b=it:=by simpa using hb
  subst e
  obtain ⟨ob,e,c,d⟩:=st
  exact ⟨ob,e,fun v z=>by rw [d] at z; cases z⟩
 keep:=fun i h h' st k=>st.at fun o e=>k it (by simp) o e
 item:=by
  intro X hP hw hK hc i pins s σ H E I hf st hg
  subst hP hw hK
  obtain ⟨hz,hi⟩:=hg
  obtain ⟨vs,rel,da,_⟩:=frz_dictAt I hz hd
  obtain ⟨⟨k,v⟩,hx⟩:∃ p,kvs[i]?=some p:=⟨kvs[i],by simp [hi]⟩
  obtain ⟨u,hu,ru⟩:=rel.get hx
  obtain ⟨f0,f1,f2,f3,f4,f5⟩:=hf it (by simp)
  have st0:=st
  rw [rel.len] at st
  refine wpAny_pyNext_dict_item st da hu fun key h' hkey st' sb=>?_
  have I1:Inv X pins σ H { s with heap:=h' }:=I.turned (t':=s.toks) (fun b o hb e=>(sb.2 b hb).trans e) f0 f1 f3 f4 f5
  rw [<-rel.len] at st'
  obtain ⟨ob,e,c,d⟩:=id st'
  exact ⟨key,rfl,go_of (s:={ s with heap:=h' }) e c d (by decide) ⟨kV k,H,I1,is_kV hkey,⟨rfl,k,v,hx,rfl⟩,st',fun b hb=>(hf b hb).1⟩⟩
 done:=by
  intro X hP hw hK hc i pins s σ H E I hf st hg
  subst hP hw hK
  obtain ⟨hz,hi⟩:=hg
  obtain ⟨vs,rel,da,_⟩:=frz_dictAt I hz hd
  obtain ⟨f0,f1,f2,f3,f4,f5⟩:=hf it (by simp)
  rw [rel.len] at st
  exact wpAny_pyNext_dict_end (I.ok.hd hc) st da (List.getElem?_eq_none (by rw [<-rel.len]; exact hi)) fun h' eb=>⟨rfl,I.turned (t':=s.toks) (fun b o hb e=>eb b o hb e) f0 f1 f3 f4 f5⟩
 self:=fun _ _ _ _ _ st h=>wpAny_pyIter_keyiter st h
noncomputable def iDictF (tl:TE):TI:=fun σ H R=>tl σ H fun x H1=>∃ a o kvs,x=.ref a/\H1 a=some (.frz o (.dK kvs))/\R (Itd a o kvs) H1
section
variable {X:Cx} {tg:Expr}
theorem pi_dictF {l:Expr} {tl:TE} (hl:PE X l tl):PI X tg l (iDictF tl):=by
 intro pins s σ H R I h
 refine thn (hl pins s σ H _ I h) fun v s1 ⟨x,H1,I1,r1,q1⟩=>?_
 obtain ⟨a,o,kvs,e,hz,q⟩:=q1
 subst e
 cases r1
 obtain ⟨e1,_,_,vs,rel,ob,es,ep,e2,c,d,r⟩:=I1.hok a _ hz
 rw [e1] at e2
 cases e2
 obtain ⟨vs,rel,da,hm⟩:=frz_dictAt I1 hz d
 refine wpAny_pyIter_dict hm da ?_
 refine ⟨s1.heap.objs.size,[s1.heap.objs.size],_,_,H1,rfl,I1.kept (t':=s1.toks) fun b o e=>Heap.get?_push_of_some _ e,turn_dict a _ o kvs es ep d,⟨_,Heap.get?_push_size _ rfl,rfl,by rw [rel.len]; rfl⟩,fun b hb=>?_,q⟩
 have e:b=s1.heap.objs.size:=by simpa using hb
 subst e
 exact I1.fpOk (Nat.le_refl _) (I1.hok.fresh (Nat.le_refl _))
end
theorem for_dict {a:Addr} {o:Obj} {kvs:List (Key × V)} {g:TG} {tb:TS} {D:Ends} {σ:St} {H:Hp} (Pv:Nat->St->Hp->Prop) (h0:Pv 0 σ H) (hl:∀ i σ H,i<=kvs.length->Pv i σ H->H a=some (.frz o (.dK kvs)))
  (hs:∀ i k v σ H,kvs[i]?=some (k,v)->Pv i σ H->g (kV k) σ H fun σ2 H2=>tb { D with nx:=Pv (i + 1),ct:=Pv (i + 1),bk:=D.nx } σ2 H2) (hd:∀ σ H,Pv kvs.length σ H->D.nx σ H) :
  ∃ W:Nat->Nat->St->Hp->Prop,(∃ m,W 0 m σ H)/\∀ i m σ H,W i m σ H ->
   ((Itd a o kvs).stop i H/\D.nx σ H)\/((Itd a o kvs).go i H/\∃ N:St->Hp->Prop,(∀ σ' H',N σ' H'->∃ m',m' < m/\W (i + 1) m' σ' H')/\∀ x H',(Itd a o kvs).yld i H x H'->g x σ H' fun σ2 H2=>tb { D with nx:=N,ct:=N,bk:=D.nx } σ2 H2):=by
 refine ⟨fun i m σ H=>m=kvs.length - i/\i<=kvs.length/\Pv i σ H,⟨kvs.length,by simp,Nat.zero_le _,h0⟩,?_⟩
 rintro i m σ H ⟨rfl,hi,p⟩
 have q:=hl i σ H hi p
 by_cases hlt:i < kvs.length
 ·refine .inr ⟨⟨q,hlt⟩,Pv (i + 1),fun σ' H' p'=>⟨kvs.length - (i + 1),by exact om6 hlt,rfl,hlt,p'⟩,fun x H' y=>?_⟩
  obtain ⟨e,k,v,hk,ex⟩:=y
  subst e ex
  exact hs i k v σ _ hk p
 ·have e:i=kvs.length:=by exact om0 hi hlt
  subst e
  exact .inl ⟨⟨q,Nat.le_refl _⟩,hd σ H p⟩
noncomputable def tDSetd (td ty tx:TE):TE:=fun σ H Q=>td σ H fun x H1=>∃ a,x=.ref a/\IsD H1 a/\ty σ H1 fun y H2=>tx σ H2 fun z H3=>∃ kvs k,H3 a=some (.dK kvs)/\y=kV k /\
 (∀ v,valV kvs k=some v->Q v H3)/\(valV kvs k=none->kvs.length < sizeLine/\Q z (upd H3 a (.dK (putK kvs k z))))
section
variable {X:Cx} {o e f:Expr} {apos cpos:Pos} {td ty tx:TE}
theorem pe_dsetd (ho:PE X o td) (he:PE X e ty) (hf:PE X f tx) (m:M2 X o "setdefault" apos e f cpos):PE X (.Call (.Attribute o "setdefault" apos) [e,f] [] cpos) (tDSetd td ty tx):=by
 intro pins s σ H Q I h
 refine wpAny_Call_method m.base m.few m.line PySem.F.plainAttrs_dict PySem.F.slot_dict_setdefault PySem.F.type_dict_setdefault (thn (ho pins s σ H _ I h) fun u s1 ⟨x,H1,I1,rx,a,ex,d,q1⟩=>?_)
 subst ex
 obtain rfl:u=Value.ref a:=rx
 obtain ⟨t1,t2,_⟩:=isD_at I1 d
 refine ⟨t1,t2,?_⟩
 rw [m.trees]
 refine Calls.callWith_builtin rfl (Calls.evalArgs_plain (Calls.spliced_cons (thn (he pins s1 σ H1 _ I1 q1) fun iv s2 ⟨y,H2,I2,ry,q2⟩ =>
  Calls.spliced_cons (thn (hf pins s2 σ H2 _ I2 q2) fun fv s3 ⟨z,H3,I3,rz,kvs,k,ea,ey,q3,q4⟩=>Calls.spliced_nil ?_))))
 subst ey
 obtain ⟨zl,hd,vs,rel,dd⟩:=dk_of I3.hok ea
 refine call_meetsIn PySem.F.slot_dict_setdefault dd.typeIs PySem.F.entry_dict_setdefault (PySem.F.args_dict_setdefault_3 _ _ _) (kt_meets_setdefault (mixKind X.prog X.w) a (kV_is ry) hd fv)
  ⟨vs,dd,by rw [<-rel.length]; exact zl,fun v' hv'=>?_,fun hn h' dd' hs=>?_⟩
 ·have r:=rel.val k
  rw [hv'] at r
  cases l:valV kvs k with
  | none=>rw [l] at r; exact r.elim
  | some v=>rw [l] at r; exact ⟨v,H3,I3.tok _,r,q3 v l⟩
 ·have r:=rel.val k
  rw [hn] at r
  cases l:valV kvs k with
  | some v=>rw [l] at r; exact r.elim
  | none =>
   obtain ⟨zl',q5⟩:=q4 l
   have he:∃ q,h'.get? a=some q:=let ⟨q,_,_,hq,_⟩:=dd'; ⟨q,hq⟩
   have hl:(putK kvs k z).length<=sizeLine:=by
    rw [putK_new z l,List.length_append]
    exact zl'
   exact ⟨z,_,d_write I3 (by rw [ea]; exact True.intro) hs he (dk_new hl hd (rel.put k rz) dd'),rz,q5⟩
end
end L2
namespace Bf
section
variable {κ:Type} [DecidableEq κ]
noncomputable def addNew (w:List κ):List κ->List κ
 | []=>w
 | k :: ks=>addNew (if k ∈ w then w else w++[k]) ks
noncomputable def bfs (nx:κ->List κ) (s:κ):Nat->List κ
 | 0=>[s]
 | n + 1=>match (bfs nx s n)[n]? with
  | some h=>addNew (bfs nx s n) (nx h)
  | none=>bfs nx s n
inductive Reach (nx:κ->List κ) (s:κ):κ->Prop
 | start:Reach nx s s
 | step {a b:κ}:Reach nx s a->b ∈ nx a->Reach nx s b
theorem addNew_pre:∀ (ks w:List κ),w <+: addNew w ks
 | [],w=>List.prefix_refl w
 | k :: ks,w=>by
  unfold addNew
  refine List.IsPrefix.trans ?_ (addNew_pre ks _)
  split
  ·exact List.prefix_refl w
  ·exact List.prefix_append w [k]
theorem addNew_mem:∀ (ks w:List κ) (x:κ),x ∈ addNew w ks ↔ x ∈ w\/x ∈ ks
 | [],w,x=>by simp [addNew]
 | k :: ks,w,x=>by
  unfold addNew
  rw [addNew_mem ks]
  split
  ·rename_i h
   constructor
   ·rintro (q | q)
    ·exact .inl q
    ·exact .inr (List.mem_cons_of_mem _ q)
   ·rintro (q | q)
    ·exact .inl q
    ·rcases List.mem_cons.mp q with e | q
     ·subst e; exact .inl h
     ·exact .inr q
  ·rw [List.mem_append,List.mem_singleton,List.mem_cons,or_assoc]
theorem addNew_nodup:∀ (ks w:List κ),w.Nodup->(addNew w ks).Nodup
 | [],w,h=>h
 | k :: ks,w,h=>by
  unfold addNew
  refine addNew_nodup ks _ ?_
  split
  ·exact h
  ·rename_i hk
   rw [List.nodup_append]
   refine ⟨h,by simp,fun a ha b hb=>?_⟩
   rw [List.mem_singleton] at hb
   subst hb
   intro e
   subst e
   exact hk ha
theorem addNew_append (w ks ls:List κ):addNew w (ks++ls)=addNew (addNew w ks) ls:=by
 induction ks generalizing w with
 | nil=>rfl
 | cons k ks ih=>exact ih _
theorem addNew_old {w:List κ} {k:κ} (h:k ∈ w):addNew w [k]=w:=by simp [addNew,h]
theorem addNew_one {w:List κ} {k:κ} (h:k ∉ w):addNew w [k]=w++[k]:=by simp [addNew,h]
variable {nx:κ->List κ} {s:κ}
theorem bfs_succ {n:Nat} {h:κ} (e:(bfs nx s n)[n]?=some h):bfs nx s (n + 1)=addNew (bfs nx s n) (nx h):=by
 show (match (bfs nx s n)[n]? with | some h=>addNew (bfs nx s n) (nx h) | none=>bfs nx s n)=_
 rw [e]
theorem bfs_stay {n:Nat} (e:(bfs nx s n)[n]?=none):bfs nx s (n + 1)=bfs nx s n:=by
 show (match (bfs nx s n)[n]? with | some h=>addNew (bfs nx s n) (nx h) | none=>bfs nx s n)=_
 rw [e]
theorem bfs_pre1 (n:Nat):bfs nx s n <+: bfs nx s (n + 1):=by
 cases e:(bfs nx s n)[n]? with
 | none=>rw [bfs_stay e]; exact List.prefix_refl _
 | some h=>rw [bfs_succ e]; exact addNew_pre _ _
theorem bfs_pre (n:Nat):∀ m,bfs nx s n <+: bfs nx s (n + m)
 | 0=>List.prefix_refl _
 | m + 1=>(bfs_pre n m).trans (bfs_pre1 (n + m))
theorem pre_get {xs ys:List κ} (h:xs <+: ys) {i:Nat} {x:κ} (e:xs[i]?=some x):ys[i]?=some x:=by
 obtain ⟨t,rfl⟩:=h
 rw [List.getElem?_append_left (List.getElem?_eq_some_iff.mp e).1]
 exact e
theorem pre_get' {xs ys:List κ} (h:xs <+: ys) {i:Nat} {x:κ} (hi:i < xs.length) (e:ys[i]?=some x):xs[i]?=some x:=by
 obtain ⟨t,rfl⟩:=h
 rw [List.getElem?_append_left hi] at e
 exact e
theorem bfs_nodup:∀ n,(bfs nx s n).Nodup
 | 0=>by simp [bfs]
 | n + 1=>by
  cases e:(bfs nx s n)[n]? with
  | none=>rw [bfs_stay e]; exact bfs_nodup n
  | some h=>rw [bfs_succ e]; exact addNew_nodup _ _ (bfs_nodup n)
theorem bfs_reach:∀ n x,x ∈ bfs nx s n->Reach nx s x
 | 0,x,h=>by
  have:x=s:=by simpa [bfs] using h
  subst this
  exact .start
 | n + 1,x,hx=>by
  cases e:(bfs nx s n)[n]? with
  | none=>rw [bfs_stay e] at hx; exact bfs_reach n x hx
  | some h =>
   rw [bfs_succ e] at hx
   rcases (addNew_mem _ _ _).mp hx with q | q
   ·exact bfs_reach n x q
   ·exact .step (bfs_reach n h (List.mem_of_getElem? e)) q
theorem bfs_zero (n:Nat):(bfs nx s n)[0]?=some s:=pre_get (by have:=bfs_pre (nx:=nx) (s:=s) 0 n; rwa [Nat.zero_add] at this) rfl
theorem bfs_start (n:Nat):s ∈ bfs nx s n:=List.mem_of_getElem? (bfs_zero n)
theorem bfs_closed {n i:Nat} {h:κ} (hi:i < n) (e:(bfs nx s n)[i]?=some h):∀ k ∈ nx h,k ∈ bfs nx s n:=by
 have h1:bfs nx s i <+: bfs nx s n:=by
  have:=bfs_pre (nx:=nx) (s:=s) i (n - i)
  rwa [Nat.add_sub_cancel' (Nat.le_of_lt hi)] at this
 have h2:bfs nx s (i + 1) <+: bfs nx s n:=by
  have:=bfs_pre (nx:=nx) (s:=s) (i + 1) (n - (i + 1))
  rwa [Nat.add_sub_cancel' hi] at this
 intro k hk
 cases q:(bfs nx s i)[i]? with
 | some h' =>
  have:some h'=some h:=(pre_get h1 q).symm.trans e
  cases this
  refine h2.subset ?_
  rw [bfs_succ q]
  exact (addNew_mem _ _ _).mpr (.inr hk)
 | none =>
  -- then nothing is added any more
  exfalso
  have stay:∀ m,bfs nx s (i + m)=bfs nx s i:=by
   intro m
   induction m with
   | zero=>rfl
   | succ m ih =>
    have:(bfs nx s (i + m))[i + m]?=none:=by
     rw [ih]
     exact List.getElem?_eq_none (Nat.le_trans (List.getElem?_eq_none_iff.mp q) (Nat.le_add_right i m))
    exact (bfs_stay this).trans ih
  have:=stay (n - i)
  rw [Nat.add_sub_cancel' (Nat.le_of_lt hi)] at this
  rw [this,q] at e
  cases e
theorem bfs_all {n:Nat} (hn:(bfs nx s n).length<=n) (x:κ):x ∈ bfs nx s n ↔ Reach nx s x:=by
 refine ⟨bfs_reach n x,fun r=>?_⟩
 induction r with
 | start=>exact bfs_start n
 | step r hb ih =>
  obtain ⟨i,hi,e⟩:=List.mem_iff_getElem.mp ih
  exact bfs_closed (i:=i) (by omega) (by rw [List.getElem?_eq_getElem hi,e]) _ hb
theorem addNew_new:∀ (ks w:List κ) (j:Nat) (x:κ),w.length<=j->(addNew w ks)[j]?=some x->x ∈ ks
 | [],w,j,x,hj,e=>by
  have:w[j]?=some x:=e
  rw [List.getElem?_eq_none hj] at this
  cases this
 | k :: ks,w,j,x,hj,e=>by
  unfold addNew at e
  split at e
  ·exact List.mem_cons_of_mem _ (addNew_new ks w j x hj e)
  ·by_cases c:j=w.length
   ·subst c
    have:=pre_get' (addNew_pre ks (w++[k])) (i:=w.length) (by simp) e
    rw [List.getElem?_append_right (Nat.le_refl _)] at this
    simp at this
    exact this ▸ List.mem_cons_self
   ·exact List.mem_cons_of_mem _ (addNew_new ks (w++[k]) j x (by simp; omega) e)
theorem bfs_pred:∀ (n j:Nat) (x:κ),0 < j->(bfs nx s n)[j]?=some x->∃ i h,i < j/\i < n/\(bfs nx s n)[i]?=some h/\x ∈ nx h
 | 0,j,x,hj,e=>by
  have:([s]:List κ)[j]?=some x:=e
  rw [List.getElem?_eq_none (by simp; omega)] at this
  cases this
 | n + 1,j,x,hj,e=>by
  cases q:(bfs nx s n)[n]? with
  | none =>
   rw [bfs_stay q] at e ⊢
   obtain ⟨i,h,h1,h2,h3,h4⟩:=bfs_pred n j x hj e
   exact ⟨i,h,h1,by omega,h3,h4⟩
  | some h =>
   rw [bfs_succ q] at e ⊢
   by_cases c:j < (bfs nx s n).length
   ·have e':=pre_get' (addNew_pre (nx h) (bfs nx s n)) c e
    obtain ⟨i,h',h1,h2,h3,h4⟩:=bfs_pred n j x hj e'
    exact ⟨i,h',h1,by omega,pre_get (addNew_pre _ _) h3,h4⟩
   ·have hn:n < (bfs nx s n).length:=(List.getElem?_eq_some_iff.mp q).1
    exact ⟨n,h,by omega,by omega,pre_get (addNew_pre _ _) q,addNew_new _ _ j x (by omega) e⟩
theorem pigeon:∀ (xs ys:List κ),xs.Nodup->(∀ x ∈ xs,x ∈ ys)->xs.length<=ys.length
 | [],_,_,_=>Nat.zero_le _
 | x :: xs,ys,nd,h=>by
  rw [List.nodup_cons] at nd
  have hx:x ∈ ys:=h x List.mem_cons_self
  have:=pigeon xs (ys.erase x) nd.2 fun y hy=>(List.mem_erase_of_ne (fun z:y=x=>nd.1 (by rw [<-z]; exact hy))).mpr (h y (List.mem_cons_of_mem _ hy))
  rw [List.length_erase_of_mem hx] at this
  have:0 < ys.length:=List.length_pos_of_mem hx
  simp only [List.length_cons]
  omega
end
end Bf
namespace L2
open PySem PySem.Spec PyProof.Rows
section
variable {X:Cx}
noncomputable def rIndex:V->List V->Hp->VK->Prop:=fun x vs H Q=>∃ (l:Addr) (xs:List Str) (y:Str) (j:Nat),x=.ref l/\vs=[.str y]/\H l=some (.lst (xs.map V.str))/\xs[j]?=some y/\(∀ m,m < j->xs[m]? ≠ some y)/\xs.length<=100000/\Q (.int j) H
theorem mt_index:MtR X "list.index" rIndex:=by
 intro pins s σ H x vs v us Q I rx rv h
 obtain ⟨l,xs,y,j,rfl,rfl,hH,hj,hno,hz,q⟩:=h
 cases rx
 obtain ⟨u,rfl,t,rfl⟩:=vals1 rv
 obtain ⟨z,its,n,r,hl,e⟩:=I.lstM hH
 have sa:=strsAre_of r
 have hlen:its.length=xs.length:=by rw [<-hl,List.length_map]
 have hjl:j < xs.length:=(List.getElem?_eq_some_iff.mp hj).1
 have at':∀ m (hm:m < its.toArray.size),isStrOf y its.toArray[m]=(xs[m]'(by rw [List.size_toArray] at hm; exact om17 hlen hm) == y):=fun m hm=>by
  rw [List.size_toArray] at hm
  obtain ⟨u,hu,ru⟩:=r.get (i:=m) (show (xs.map V.str)[m]?=some (.str (xs[m]'(by exact om17 hlen hm))) from by rw [List.getElem?_map,List.getElem?_eq_getElem (by exact om17 hlen hm)]; rfl)
  obtain ⟨tu,eu⟩:=ru
  subst eu
  have e2:its.toArray[m]=.str (xs[m]'(by exact om17 hlen hm)) tu:=by
   have:=(List.getElem?_eq_some_iff.mp hu).2
   simpa using this
  rw [e2]
  rfl
 refine call_meets F.slot_list_index ⟨_,e,rfl⟩ F.entry_list_index (F.args_list_index_2 _ _) (MeetsSeq.list_index l its.toArray n (.str y t) (isStrOf y) (fun v hv=>eq_isStrOf y t sa v (by simpa using hv)) j (by rw [List.size_toArray]; exact om12 hlen hjl) (by omega) ?_ (fun m hm hmj=>?_)) ⟨e,?_⟩
 ·rw [at' j (by rw [List.size_toArray]; exact om12 hlen hjl)]
  have:=(List.getElem?_eq_some_iff.mp hj).2
  rw [this]
  simp
 ·rw [at' m hm]
  rw [List.size_toArray] at hm
  have h1:=hno m hmj
  rw [List.getElem?_eq_getElem (by exact om17 hlen hm)] at h1
  simpa using h1
 ·exact ⟨.int j,H,I.tok _,⟨_,rfl⟩,q⟩
end
end L2
namespace L2
open PySem PySem.Spec PyProof.Rows
section
variable {X:Cx}
end
end L2
namespace L2
open PySem PySem.Spec PyProof.Rows
section
variable {X:Cx}
noncomputable def rIxTurn (T:Addr):R2:=fun x y H Q=>x=.ref T/\((y=.str "0" /\ Q (.str "1") H)\/(y=.str "1" /\ Q (.str "0") H))
theorem ix_turn {T:Addr} (hT:tabAt X.K T [("0", .flat (.str "1")),("1", .flat (.str "0"))]):IxR X (rIxTurn T):=by
 intro value slice pins s σ H x y v u Q I rx ry h hs
 obtain ⟨e1,h⟩:=h
 subst e1
 cases rx
 have here:KTD.Here X.base s.heap T [("0", .flat (.str "1")),("1", .flat (.str "0"))]:=⟨KTD.text_of_look (get:=fun a=>X.K.lookup a) (fun a o e=>I.mod.kin a o e) hT,I.bk⟩
 rcases h with ⟨e,q⟩ | ⟨e,q⟩
 ·subst e
  obtain ⟨t,e⟩:=ry
  subst e
  refine KTD.item_textA here (by rfl) (by decide +kernel) ?_ hs
  have e:decide (("0" : Str) = "0")=true:=by decide +kernel
  simp only [KTD.EachL,e,if_true]
  exact fun t=>⟨.str "1", H,I.tok _,⟨_,rfl⟩,q⟩
 ·subst e
  obtain ⟨t,e⟩:=ry
  subst e
  refine KTD.item_textA here (by rfl) (by decide +kernel) ?_ hs
  have e:decide (("1" : Str) = "0")=false:=by decide +kernel
  simp only [KTD.EachL,e,Bool.false_eq_true,if_false]
  exact fun _ t=>⟨.str "0", H,I.tok _,⟨_,rfl⟩,q⟩
end
end L2
namespace L2
open PySem PySem.Spec PyProof.Rows
section
variable {X:Cx} {scope:Scope} {tgs:List Str} {cap:List (Str × Nat)}
theorem ps_lc {j:Nat} {x:Str} {pos' spos:Pos} {elt tg iter:Expr} {ifs:List Expr} {pos:Pos} {wi:TI} {g:TG} {tt:TT} {te:TE} (hN:X.N.Nodup) (hj:X.N[j]?=some x) (hx:Loc X.env.scope x) (hc:X.calm=true) (B:BlockOk X scope tgs cap) (hi:PI X tg iter wi)
  (hg:∀ C s H fp,PG (X.block (tgs++cap.map (·.1)) scope C s H fp) tg g) (ht:∀ C s H fp,PIfs (X.block (tgs++cap.map (·.1)) scope C s H fp) ifs tt) (he:∀ C s H fp,PE (X.block (tgs++cap.map (·.1)) scope C s H fp) elt te)
  (hs:∀ x,foldedSetIterable iter X.env x=pure x:=by intro _; rfl) (hsw:swapsWith (.ListComp elt [⟨tg,iter,ifs,0⟩] scope pos) (some (.Name x pos')) spos.line X.env=pure true:=by rfl)
  (hf:X.fn x=true\/X.env.scope.names.lookup x=some .local:=by first | exact .inl rfl | exact .inr rfl | assumption):PS X (.Assign [.Name x pos'] (.ListComp elt [⟨tg,iter,ifs,0⟩] scope pos) spos) (tAsg (tComp wi g tt te (blockSt tgs cap)) (gName j)):=by
 intro pins s σ H D I h
 rw [exec_Assign_Name_used _ _ _ _ hsw]
 refine wpAny_bind (wpAny_standAt (wpAny_bind ?_))
 show wpAny _ _ (comprehension _ _ _ _ _ _ _ _ >>= _) _ _ _
 refine wpAny_bind (thn (Q:=fun _ s'=>SP X pins D .next s') ?_ fun _ s' q=>wpAny_pure (wpAny_pure q))
 refine wpAny_comprehension_free (use:=some (assign (.Name x pos') X.env)) rfl hs (closure_eq (B.cellAt I.ok)) B.kind B.locs (thn (hi pins s σ H _ I h) fun v s1 h1=>thn h1 fun itv s2 h2=>?_)
 obtain ⟨it,fp,tn,J,H2,e,I2,T,st2,f2,q⟩:=h2
 subst e
 have lt2:∀ b ∈ fp,b < s2.heap.objs.size:=fun b hb=>let ⟨o,e,_⟩:=T.obj _ _ st2 b hb; Heap.lt_size e
 have hD:H2 s2.heap.objs.size=none:=I2.hok.fresh (Nat.le_refl _)
 obtain ⟨W,⟨m0,w0⟩,turn⟩:=q s2.heap.objs.size hD
 refine wpAny_newObj_type ?_
 have I3:Inv X pins σ (upd H2 s2.heap.objs.size (.lst [])) { s2 with heap:=s2.heap.push { cls:=.type "list", dict:=none,data:=.seq ([]:List Value).toArray } }:=I2.lnew (t':=s2.toks) (ys:=[]) (its:=[]) .nil (Nat.zero_le _)
 have st3:tn 0 (s2.heap.push { cls:=.type "list", dict:=none,data:=.seq ([]:List Value).toArray }):=T.keep _ _ _ st2 fun b _ o e=>Heap.get?_push_of_some _ e
 have nD:∀ b ∈ fp,b ≠ s2.heap.objs.size:=fun b hb=>Nat.ne_of_lt (lt2 b hb)
 have f3:∀ b ∈ fp,FpOk X pins (upd H2 s2.heap.objs.size (.lst [])) b:=fun b hb=>⟨by rw [upd_ne (nD b hb)]; exact (f2 b hb).1,(f2 b hb).2⟩
 generalize hs3:({ s2 with heap:=s2.heap.push { cls:=.type "list", dict:=none,data:=.seq ([]:List Value).toArray } }:Shared)=s3 at I3 st3 ⊢
 have st3':tn 0 s3.heap:=by rw [<-hs3]; exact st3
 have lt3:∀ b ∈ fp,b < s3.heap.objs.size:=fun b hb=>let ⟨o,e,_⟩:=T.obj _ _ st3' b hb; Heap.lt_size e
 generalize hH3:upd H2 s2.heap.objs.size (.lst [])=H3 at I3 f3 w0
 generalize s2.heap.objs.size=DD at *
 refine wpAny_newFunctionEnv B.noc (by intro y hy; simp at hy) (fun h1 hns hsb=>?_) B.kind
 have old:∀ b o,s3.heap.get? b=some o->h1.get? b=some o:=fun b o e=>hsb.extBut b o (Nat.ne_of_lt (Heap.lt_size e)) (Heap.get?_push_of_some _ e)
 have I4:=Inv.enter (tk:=s3.toks + ([]:List (Str × Value)).length) (h1:=h1) B I3 f3 lt3 hns old
 have st4:tn 0 h1:=T.keep _ _ _ st3' fun b _ o e=>old b o e
 have fpB:∀ {H':Hp},(∀ b ∈ fp,H' b=none)->∀ b ∈ fp,FpOk (X.block (tgs++cap.map (·.1)) scope s3.heap.objs.size s3 H3 fp) [] H' b:=fun {H'} hn b hb =>
  ⟨hn b hb,Nat.ne_of_lt (lt3 b hb),I4.ok.exfs b hb,.inl hb,fun x c e=>(I4.ok.exf b hb).2 x c e,fun p hp=>absurd (show p ∈ ([]:List (Addr × Obj)) from hp) (by simp)⟩
 have loop:codeAny (model X.prog X.w) X.A (.compLoop (.ListComp elt [⟨tg,iter,ifs,0⟩] scope pos) 0 (.ref it) (.ref DD) (compEnvC scope (clsOf X.env scope.names []) s3.heap.objs.size X.env))
   (compPost (model X.prog X.w) X.A X.xe (some (assign (.Name x pos') X.env)) (fun _ s'=>SP X pins D .next s') (.ref DD) s3.heap.objs.size) { s3 with heap:=h1,toks:=s3.toks + ([]:List (Str × Value)).length }:=by
  refine compLoop_any (fun n s'=>∃ i H' ys,Inv (X.block (tgs++cap.map (·.1)) scope s3.heap.objs.size s3 H3 fp) [] (blockSt tgs cap σ) H' s'/\tn i s'.heap/\(∀ b ∈ fp,H' b=none)/\W i n H' ys) ?_ m0 ⟨0,H3,[],I4,st4,fun b hb=>(f3 b hb).1,w0⟩
  rintro n s5 ⟨i,H5,ys,I5,st5,fr5,w5⟩
  obtain ⟨hl,ht5⟩:=turn i n H5 ys w5
  rcases ht5 with ⟨stop,qd⟩ | ⟨go,step⟩
  ·refine thn (T.done (X.block (tgs++cap.map (·.1)) scope s3.heap.objs.size s3 H3 fp) rfl rfl rfl hc i [] s5 _ H5 _ I5 (fpB fr5) st5 stop) fun r s6 ⟨hr,I6⟩=>?_
   subst hr
   obtain ⟨m6,n6,_⟩:=I6.loc
   have IO:Inv X pins σ H5 s6:=Inv.leave (h2:=s6.heap) I3 f3 I6 ⟨rfl,fun _ _=>rfl⟩
   have fC:FpOk X pins H5 s3.heap.objs.size:=⟨I6.free,(I3.fpOk (Nat.le_refl _) (I3.hok.fresh (Nat.le_refl _))).2⟩
   obtain ⟨f0,f1,f2',f3',f4,f5⟩:=fC
   refine wpAny_assign_Name (store_ok2 IO hN hj hx (show RelV (.ref DD) (.ref DD) from rfl) (fun s7 I7 ⟨a,sb,ha⟩=>?_) hf)
   have na:s3.heap.objs.size ≠ a:=by
    rcases ha with z | z
    ·rw [z]; exact f1
    ·exact fun y=>f4 x a z y.symm
   obtain ⟨o6,es6,ep6,ho6,r6⟩:=n6
   refine ⟨m6,⟨o6,es6,ep6,(sb.2 _ na).trans ho6,r6⟩,fun h' hs'=>⟨_,H5,I7.turned (t':=s7.toks) (fun b o hb q=>(hs'.2 b hb).trans q) f0 f1 f3' f4 f5,qd⟩⟩
  ·refine thn (T.item (X.block (tgs++cap.map (·.1)) scope s3.heap.objs.size s3 H3 fp) rfl rfl rfl hc i [] s5 _ H5 _ I5 (fpB fr5) st5 go) fun r s6 ⟨u,hr,h6⟩=>?_
   subst hr
   refine thn h6 fun _ s7 ⟨x,H7,I7,r7,y7,st7,fr7⟩=>?_
   have I7':=I7.pinned (fpB fr7) (T.obj _ _ st7)
   have again:∀ {σ8:St} {H8:Hp} {s8:Shared} {ys8:List V},Inv (X.block (tgs++cap.map (·.1)) scope s3.heap.objs.size s3 H3 fp) ([]++pinsAt fp s7.heap) σ8 H8 s8->wk (blockSt tgs cap σ) σ8->(∃ m',m' < n/\W (i + 1) m' H8 ys8) ->
     ∃ m,m < n/\∃ i H' ys,Inv (X.block (tgs++cap.map (·.1)) scope s3.heap.objs.size s3 H3 fp) [] (blockSt tgs cap σ) H' s8/\tn i s8.heap/\(∀ b ∈ fp,H' b=none)/\W i m H' ys:=fun {σ8 H8 s8 ys8} I8 k8 ⟨m',hm,w8⟩=>by
    refine ⟨m',hm,i + 1,H8,ys8,I8.unpinned.weak (wk_len k8) (wk_get k8),T.keep _ _ _ st7 fun b hb o e=>(I8.pin (b,o) (List.mem_append_right _ (List.mem_append_right _ (mem_pinsAt hb e)))).1,fun b hb=>?_,w8⟩
    obtain ⟨o,e,d⟩:=T.obj _ _ st7 b hb
    exact (I8.pin (b,o) (List.mem_append_right _ (List.mem_append_right _ (mem_pinsAt hb e)))).2.1
   refine thn (hg _ _ _ _ _ s7 _ H7 x u _ I7' r7 (step x H7 y7)) fun _ s8 ⟨σ8,H8,I8,k8,q8⟩=>?_
   refine thn (ht _ _ _ _ _ s8 σ8 H8 _ I8 q8) fun ok s9 ⟨H9,I9,q9⟩=>?_
   cases ok with
   | false =>
    rw [if_neg Bool.false_ne_true] at q9 ⊢
    exact again I9 k8 q9
   | true =>
    rw [if_pos rfl] at q9 ⊢
    refine thn (he _ _ _ _ _ s9 σ8 H9 _ I9 q9) fun y sA ⟨yv,HA,IA,rA,hA,zA,qA⟩=>?_
    exact thn (mt_append _ sA σ8 HA (.ref DD) [yv] (.ref DD) [y] (fun v H'=>v=.non/\∃ m',m' < n/\W (i + 1) m' H' (ys++[yv])) IA rfl (.cons rA .nil) ⟨DD,ys,yv,rfl,rfl,hA,zA,rfl,qA⟩) fun _ sB ⟨_,HB,IB,_,_,qB⟩=>again IB k8 qB
 exact codeAny_compStart_list loop (T.self _ 0 _ _ _ st4 loop)
end
end L2
namespace L2
open PySem PySem.Spec PyProof.Rows
theorem comp_listF {K:PySem.W.Frag} {H1:Hp} {D:Addr} {σ0:St} {g:TG} {te:TE} {tt:TT} {QD:Hp->Prop} {a:Addr} {xs:List V} (Pv:Nat->Hp->List V->Prop) (h0:Pv 0 (upd H1 D (.lst [])) []) (hD:∀ i H ys,Pv i H ys->H D=some (.lst ys)/\SqL K H a xs)
  (hs:∀ i x H ys,xs[i]?=some x->Pv i H ys->g x σ0 H fun σ2 H2=>wk σ0 σ2/\tt σ2 H2 fun b H3=>if b=true then te σ2 H3 (NextC Pv xs.length D i ys) else ∃ m',m' < xs.length - i/\(m'=xs.length - (i + 1)/\i + 1<=xs.length/\Pv (i + 1) H3 ys)) (hd:∀ H ys,Pv xs.length H ys->QD H) :
  ∃ W:Nat->Nat->Hp->List V->Prop,(∃ m,W 0 m (upd H1 D (.lst [])) [])/\∀ i m H ys,W i m H ys->H D=some (.lst ys)/\(((Itl K a).stop i H/\QD H)\/((Itl K a).go i H/\∀ x H',(Itl K a).yld i H x H'->g x σ0 H' fun σ2 H2=>wk σ0 σ2/\tt σ2 H2 fun b H3 =>
   if b=true then te σ2 H3 fun v H4=>H4 D=some (.lst ys)/\ys.length < sizeLine/\∃ m',m' < m/\W (i + 1) m' (upd H4 D (.lst (ys++[v]))) (ys++[v]) else ∃ m',m' < m/\W (i + 1) m' H3 ys)):=by
 refine ⟨fun i m H ys=>m=xs.length - i/\i<=xs.length/\Pv i H ys,⟨xs.length,by simp,Nat.zero_le _,h0⟩,?_⟩
 rintro i m H ys ⟨rfl,hi,p⟩
 obtain ⟨d1,d2⟩:=hD i H ys p
 refine ⟨d1,?_⟩
 by_cases hlt:i < xs.length
 ·refine .inr ⟨⟨xs,xs[i],d2,by simp [hlt]⟩,fun x H' y=>?_⟩
  obtain ⟨e,y⟩:=y
  subst e
  exact hs i x _ ys (y xs d2) p
 ·have e:i=xs.length:=by exact om0 hi hlt
  subst e
  exact .inl ⟨⟨xs,d2,Nat.le_refl _⟩,hd H ys p⟩
theorem cut_from {xs:List V} {a:Nat} (h:a<=xs.length):cutV xs (some (a:Int)) none=xs.drop a:=by
 unfold cutV
 rw [HT.sIx_nat,HT.sIx_none,Nat.min_eq_left h,List.take_of_length_le (by rw [List.length_drop]; exact om1)]
theorem cut_to {xs:List V} {a:Nat} (h:a<=xs.length):cutV xs none (some (a:Int))=xs.take a:=by
 unfold cutV
 rw [HT.sIx_nat,HT.sIx_none,Nat.min_eq_left h]
 simp
end L2
namespace L2
open PySem PySem.Spec PyProof.Rows
theorem comp_enumF {K:PySem.W.Frag} {H1:Hp} {D:Addr} {σ0:St} {g:TG} {te:TE} {tt:TT} {QD:Hp->Prop} {a:Addr} {xs:List V} (Pv:Nat->Hp->List V->Prop) (h0:Pv 0 (upd H1 D (.lst [])) []) (hD:∀ i H ys,Pv i H ys->H D=some (.lst ys)/\SqL K H a xs)
  (hs:∀ i x H ys T,xs[i]?=some x->Pv i H ys->H T=none->g (.ref T) σ0 (upd H T (.tup [.int (i:Nat),x])) fun σ2 H2=>wk σ0 σ2/\tt σ2 H2 fun b H3=>if b=true then te σ2 H3 (NextC Pv xs.length D i ys) else ∃ m',m' < xs.length - i/\(m'=xs.length - (i + 1)/\i + 1<=xs.length/\Pv (i + 1) H3 ys)) (hd:∀ H ys,Pv xs.length H ys->QD H) :
  ∃ W:Nat->Nat->Hp->List V->Prop,(∃ m,W 0 m (upd H1 D (.lst [])) [])/\∀ i m H ys,W i m H ys->H D=some (.lst ys)/\(((Ite K a).stop i H/\QD H)\/((Ite K a).go i H/\∀ x H',(Ite K a).yld i H x H'->g x σ0 H' fun σ2 H2=>wk σ0 σ2/\tt σ2 H2 fun b H3 =>
   if b=true then te σ2 H3 fun v H4=>H4 D=some (.lst ys)/\ys.length < sizeLine/\∃ m',m' < m/\W (i + 1) m' (upd H4 D (.lst (ys++[v]))) (ys++[v]) else ∃ m',m' < m/\W (i + 1) m' H3 ys)):=by
 refine ⟨fun i m H ys=>m=xs.length - i/\i<=xs.length/\Pv i H ys,⟨xs.length,by simp,Nat.zero_le _,h0⟩,?_⟩
 rintro i m H ys ⟨rfl,hi,p⟩
 obtain ⟨d1,d2⟩:=hD i H ys p
 refine ⟨d1,?_⟩
 by_cases hlt:i < xs.length
 ·refine .inr ⟨⟨xs,xs[i],d2,by simp [hlt]⟩,fun x H' y=>?_⟩
  obtain ⟨T,v,hT,ex,eH,y⟩:=y
  subst ex eH
  exact hs i v H ys T (y xs d2) p hT
 ·have e:i=xs.length:=by exact om0 hi hlt
  subst e
  exact .inl ⟨⟨xs,d2,Nat.le_refl _⟩,hd H ys p⟩
end L2
namespace LZ
open PySem
section
variable {prog:Program} {w:World} {A:Around} {E:Value->Shared->Prop} {s:Shared}
abbrev IsZ (h:Heap) (z TI TO:Addr) (f0:Value) (f1:Bool):Prop :=
 h.get? z=some { cls:=.type "zip", dict:=none,data:=.fields #[f0,.bool f1,.bool false,.ref TI,.ref TO],slots:=#[] }
structure Apart5 (z TI TO i1 i2 l:Addr):Prop where
 TIz:TI ≠ z
 TOz:TO ≠ z
 i1z:i1 ≠ z
 i2z:i2 ≠ z
 TITO:TI ≠ TO
 TIi1:TI ≠ i1
 TIi2:TI ≠ i2
 TOi1:TO ≠ i1
 TOi2:TO ≠ i2
 i12:i1 ≠ i2
 lz:l ≠ z
 lTO:l ≠ TO
 li1:l ≠ i1
 li2:l ≠ i2
theorem sign_next {ty:String} (hty:ty = "str_ascii_iterator" \/ ty = "str_iterator") {it:Addr} {x:Str} {t:Tok} {i c:Nat} {Q:Value->Shared->Prop} (hit:s.heap.IsStrIter it ty x t i) (hx:x.cps[i]?=some c)
  (hQ:∀ h',h'.IsStrIter it ty x t (i + 1)->Heap.SameBut it s.heap h'->Q (.str ⟨#[c]⟩ s.toks) { s with heap:=h',toks:=s.toks + 1 }) :
  wpAny (model prog w) A (Builtin.SmallTypes.nextOf (.ref it)) Q E s:=by
 rcases hty with e | e
 ·subst e; exact wpAny_nextOf_ascii_item hit hx hQ
 ·subst e; exact wpAny_nextOf_wide_item hit hx hQ
theorem next_first {ty:String} (hty:ty = "str_ascii_iterator" \/ ty = "str_iterator") {z TI TO i1 i2 l:Addr} {k c:Nat} {xs:Array Value} {x:Str} {t:Tok} {v a b:Value} {Q:Option Value->Shared->Prop} (D:Apart5 z TI TO i1 i2 l)
  (hz:IsZ s.heap z TI TO .none false) (hTI:IsPair s.heap TI (.ref i1) (.ref i2)) (hTO:IsPair s.heap TO a b) (h1:s.heap.IsListIter i1 l k) (h2:s.heap.IsStrIter i2 ty x t k) (hl:s.heap.IsList l xs) (hv:xs[k]?=some v) (hc:x.cps[k]?=some c)
  (hQ:∀ h',IsZ h' z TI TO (rawInt s.heap.objs.size) false->(∃ a b,IsPair h' TO a b)->h'.IsListIter i1 l (k + 1)->h'.IsStrIter i2 ty x t (k + 1)->IsPair h' s.heap.objs.size v (.str ⟨#[c]⟩ s.toks)->h'.objs.size=s.heap.objs.size + 1 ->
   (∀ c o,c ≠ z->c ≠ TO->c ≠ i1->c ≠ i2->s.heap.get? c=some o->h'.get? c=some o)->Q (some (.ref s.heap.objs.size)) { s with heap:=h',toks:=s.toks + 1 }) :
  wpAny (model prog w) A (pyNext (.ref z)) Q E s:=by
 have hT:s.TypeIs (.ref z) "zip" := ⟨_,hz,rfl⟩
 unfold pyNext
 refine wpAny_bind (wpAny_attempt (wpAny_callSpecial?_slot (name:=Str.ofString "__next__") hT F.slot_zip_next
  (wpAny_call_entry F.slot_zip_next hT F.entry_zip_next ?_ (F.args_zip_next_1 _))))
 show wpAny _ _ (field (.ref z) 2 >>= _) _ _ _
 refine wpAny_bind (wpAny_field hz rfl (x:=.bool false) rfl ?_)
 show wpAny _ _ (field (.ref z) 3 >>= _) _ _ _
 refine wpAny_bind (wpAny_field hz rfl (x:=.ref TI) rfl ?_)
 refine wpAny_bind (wpAny_seqItems hTI rfl ?_)
 show wpAny _ _ (Builtin.SmallTypes.ownedTupleIsFree (.ref z) >>= _) _ _ _
 refine wpAny_bind ?_
 unfold Builtin.SmallTypes.ownedTupleIsFree
 refine wpAny_bind (wpAny_field hz rfl (x:=.none) rfl (wpAny_pure ?_))
 simp only [if_true]
 refine wpAny_bind (wpAny_rule ?_)
 refine wpAny_bind (wpAny_field hz rfl (x:=.ref TO) rfl ?_)
 refine wpAny_bind (wpAny_setField_rec hz (by simp) fun h₁ hz₁ hs₁=>?_)
 replace hz₁:IsZ h₁ z TI TO .ellipsis false:=hz₁
 refine wpAny_bind ?_
 simp only [List.zipIdx_cons,List.zipIdx_nil,List.forIn_cons,List.forIn_nil]
 refine wpAny_bind (wpAny_bind (wpAny_onRaise ?_))
 show wpAny _ _ (Builtin.SmallTypes.nextOf (.ref i1) >>= _) _ _ _
 refine wpAny_bind (wpAny_nextOf_list_item (h1.extBut hs₁.extBut D.i1z) (hl.extBut hs₁.extBut D.lz) hv fun h₂ h1₂ hs₂=>wpAny_pure ?_)
 have hTO₂:IsPair h₂ TO a b:=hs₂.extBut _ _ D.TOi1 (hs₁.extBut _ _ D.TOz hTO)
 refine wpAny_bind (wpAny_seqItems hTO₂ rfl ?_)
 refine wpAny_bind (wpAny_updateSeq_pair hTO₂ fun h₃ hTO₃ hs₃=>?_)
 replace hTO₃:IsPair h₃ TO v b:=hTO₃
 refine wpAny_bind (wpAny_letGo (wpAny_pure ?_))
 refine wpAny_bind (wpAny_bind (wpAny_onRaise ?_))
 show wpAny _ _ (Builtin.SmallTypes.nextOf (.ref i2) >>= _) _ _ _
 have h2₃:h₃.IsStrIter i2 ty x t k:=((h2.extBut hs₁.extBut D.i2z).extBut hs₂.extBut D.i12.symm).extBut hs₃.extBut D.TOi2.symm
 refine wpAny_bind (sign_next hty h2₃ hc fun h₄ h2₄ hs₄=>wpAny_pure ?_)
 have hTO₄:IsPair h₄ TO v b:=hs₄.extBut _ _ D.TOi2 hTO₃
 refine wpAny_bind (wpAny_seqItems hTO₄ rfl ?_)
 refine wpAny_bind (wpAny_updateSeq_pair hTO₄ fun h₅ hTO₅ hs₅=>?_)
 replace hTO₅:IsPair h₅ TO v (.str ⟨#[c]⟩ s.toks):=hTO₅
 refine wpAny_bind (wpAny_letGo (wpAny_pure (wpAny_pure ?_)))
 refine wpAny_bind (wpAny_seqItems hTO₅ rfl ?_)
 refine wpAny_bind (wpAny_newTuple ?_)
 have hsz:h₅.objs.size=s.heap.objs.size:=by rw [hs₅.1,hs₄.1,hs₃.1,hs₂.1,hs₁.1]
 have hz₅:IsZ h₅ z TI TO .ellipsis false:=hs₅.extBut _ _ D.TOz.symm (hs₄.extBut _ _ D.i2z.symm (hs₃.extBut _ _ D.TOz.symm (hs₂.extBut _ _ D.i1z.symm hz₁)))
 have hk₅:∀ c o,c ≠ z->c ≠ TO->c ≠ i1->c ≠ i2->s.heap.get? c=some o->h₅.get? c=some o:=fun c o c1 c2 c3 c4 e =>
  hs₅.extBut _ _ c2 (hs₄.extBut _ _ c4 (hs₃.extBut _ _ c2 (hs₂.extBut _ _ c3 (hs₁.extBut _ _ c1 e))))
 have h1₅:h₅.IsListIter i1 l (k + 1):=((h1₂.extBut hs₃.extBut D.TOi1.symm).extBut hs₄.extBut D.i12).extBut hs₅.extBut D.TOi1.symm
 have h2₅:h₅.IsStrIter i2 ty x t (k + 1):=h2₄.extBut hs₅.extBut D.TOi2.symm
 have hzlt:z < h₅.objs.size:=Heap.lt_size hz₅
 show wpAny _ _ (Builtin.SmallTypes.ownedTupleHandOut (.ref z) (.ref h₅.objs.size) >>= _) _ _ _
 refine wpAny_bind ?_
 unfold Builtin.SmallTypes.ownedTupleHandOut
 have hz₆:IsZ (h₅.push { cls:=.type "tuple", data:=.seq #[v,.str ⟨#[c]⟩ s.toks] }) z TI TO .ellipsis false:=Heap.get?_push_of_some _ hz₅
 refine wpAny_bind (wpAny_setField_rec hz₆ (by simp) fun h₇ hz₇ hs₇=>?_)
 replace hz₇:IsZ h₇ z TI TO (rawInt h₅.objs.size) false:=hz₇
 refine wpAny_setField_rec hz₇ (by simp) fun h₈ hz₈ hs₈=>?_
 replace hz₈:IsZ h₈ z TI TO (rawInt h₅.objs.size) false:=hz₈
 have up:∀ c o,c ≠ z->h₅.get? c=some o->h₈.get? c=some o:=fun c o c1 e=>hs₈.extBut _ _ c1 (hs₇.extBut _ _ c1 (Heap.get?_push_of_some _ e))
 have hT₈:IsPair h₈ h₅.objs.size v (.str ⟨#[c]⟩ s.toks):=hs₈.extBut _ _ (Nat.ne_of_gt hzlt) (hs₇.extBut _ _ (Nat.ne_of_gt hzlt) (Heap.get?_push_size _ rfl))
 have hz8:h₈.objs.size=h₅.objs.size + 1:=by rw [hs₈.1,hs₇.1,Heap.size_push]
 rw [hsz] at hz₈ hT₈ hz8
 refine wpAny_pure ⟨_,rfl,wpAny_pure ?_⟩
 show Q (some (.ref h₅.objs.size)) _
 rw [hsz]
 exact hQ h₈ hz₈ ⟨_,_,up _ _ D.TOz hTO₅⟩ (h1₅.at fun o e=>up _ o D.i1z e) (let ⟨o,e,r⟩:=h2₅; ⟨o,up _ o D.i2z e,r⟩) hT₈ hz8 fun c o c1 c2 c3 c4 e=>up c o c1 (hk₅ c o c1 c2 c3 c4 e)
theorem alive {a:Addr} {o:Obj} {Q:Option Obj->Shared->Prop} (ho:s.heap.get? a=some o) (h:Q (some o) s):wpAny (model prog w) A (loadIfAlive a) Q E s:=by
 have h':Q (s.heap.get? a) s:=by rw [ho]; exact h
 exact fun _ _ _=>h'
theorem next_end {z TI TO i1 i2 l:Addr} {f0:Value} {f1:Bool} {k:Nat} {xs:Array Value} {a b:Value} {Q:Option Value->Shared->Prop} (hh:A.handled=none) (D:Apart5 z TI TO i1 i2 l)
  (hz:IsZ s.heap z TI TO f0 f1) (hf:(f0=.none/\f1=false/\∃ a b,IsPair s.heap TO a b)\/∃ (T:Addr) (oT:Obj),f0=rawInt (T:Nat)/\s.heap.get? T=some oT) (hTI:IsPair s.heap TI (.ref i1) (.ref i2)) (h1:s.heap.IsListIter i1 l k) (hl:s.heap.IsList l xs) (hv:xs[k]?=none)
  (hQ:∀ h',(∀ c o,c ≠ z->c ≠ i1->s.heap.get? c=some o->h'.get? c=some o)->Q none { s with heap:=h' }):wpAny (model prog w) A (pyNext (.ref z)) Q E s:=by
 have hTy:s.TypeIs (.ref z) "zip" := ⟨_,hz,rfl⟩
 unfold pyNext
 refine wpAny_bind (wpAny_attempt (wpAny_callSpecial?_slot (name:=Str.ofString "__next__") hTy F.slot_zip_next
  (wpAny_call_entry F.slot_zip_next hTy F.entry_zip_next ?_ (F.args_zip_next_1 _))))
 show wpAny _ _ (field (.ref z) 2 >>= _) _ _ _
 refine wpAny_bind (wpAny_field hz rfl (x:=.bool false) rfl ?_)
 show wpAny _ _ (field (.ref z) 3 >>= _) _ _ _
 refine wpAny_bind (wpAny_field hz rfl (x:=.ref TI) rfl ?_)
 refine wpAny_bind (wpAny_seqItems hTI rfl ?_)
 show wpAny _ _ (Builtin.SmallTypes.ownedTupleIsFree (.ref z) >>= _) _ _ _
 refine wpAny_bind ?_
 unfold Builtin.SmallTypes.ownedTupleIsFree
 refine wpAny_bind (wpAny_field hz rfl (x:=f0) rfl ?_)
 have fin:∀ h' e,(∀ c o,c ≠ z->c ≠ i1->s.heap.get? c=some o->h'.get? c=some o)->(∃ o,h'.get? e=some o/\o.cls=.type "StopIteration") ->
   wpAny (model prog w) A (do if <-isInstance (.ref e) (.type "StopIteration") then pure none else throw (.ref e)) Q E { s with heap:=h' }:=fun h' e hk ⟨o,ho,hc⟩ =>
  wpAny_bind (wpAny_isInstance (T := "StopIteration") (b:=true) ⟨o,ho,hc⟩ isSubtype_stop (wpAny_pure (hQ _ hk)))
 rcases hf with ⟨e1,e2,a,b,hTO⟩ | ⟨T,oT,e1,hT⟩
 ·subst e1 e2
  refine wpAny_pure ?_
  simp only [if_true]
  refine wpAny_bind (wpAny_rule ?_)
  refine wpAny_bind (wpAny_field hz rfl (x:=.ref TO) rfl ?_)
  refine wpAny_bind (wpAny_setField_rec hz (by simp) fun h₁ hz₁ hs₁=>?_)
  replace hz₁:IsZ h₁ z TI TO .ellipsis false:=hz₁
  refine wpAny_bind ?_
  simp only [List.zipIdx_cons,List.zipIdx_nil,List.forIn_cons,List.forIn_nil]
  refine wpAny_bind (wpAny_bind (wpAny_onRaise ?_))
  show wpAny _ _ (Builtin.SmallTypes.nextOf (.ref i1) >>= _) _ _ _
  refine wpAny_bind (wpAny_nextOf_list_end hh (h1.extBut hs₁.extBut D.i1z) (hl.extBut hs₁.extBut D.lz) hv fun h₂ e hs₂ he=>?_)
  obtain ⟨oe,hoe,hce⟩:=he
  have hz₂:IsZ h₂ z TI TO .ellipsis false:=hs₂ _ _ D.i1z.symm hz₁
  have hez:e ≠ z:=fun x=>by subst x; rw [hz₂] at hoe; cases hoe; simp at hce
  refine wpAny_setField_rec hz₂ (by simp) fun h₃ _ hs₃=>?_
  exact fin h₃ e (fun c o c1 c3 x=>hs₃.extBut _ _ c1 (hs₂ _ _ c3 (hs₁.extBut _ _ c1 x))) ⟨oe,hs₃.extBut _ _ hez hoe,hce⟩
 ·subst e1
  show wpAny _ _ (loadIfAlive ((T:Int).toNat) >>= _) _ _ _
  rw [Int.toNat_natCast]
  refine wpAny_bind (alive hT ?_)
  simp only [Option.isNone_some,Bool.false_eq_true,if_false]
  refine wpAny_bind (wpAny_field hz rfl (x:=.bool f1) rfl ?_)
  cases f1 with
  | false =>
   simp only [show (Value.bool false != Value.bool true)=true from rfl,if_true]
   refine wpAny_bind (wpAny_setField_rec hz (by simp) fun h₁ hz₁ hs₁=>wpAny_pure ?_)
   replace hz₁:IsZ h₁ z TI TO (rawInt T) true:=hz₁
   simp only [Bool.false_eq_true,if_false,List.forIn_toArray,List.forIn_cons,List.forIn_nil]
   refine wpAny_bind (wpAny_bind (wpAny_bind (wpAny_holding ?_)))
   show wpAny _ _ (Builtin.SmallTypes.nextOf (.ref i1) >>= _) _ _ _
   refine wpAny_bind (wpAny_nextOf_list_end hh (h1.extBut hs₁.extBut D.i1z) (hl.extBut hs₁.extBut D.lz) hv fun h₂ e hs₂ he=>?_)
   exact fin h₂ e (fun c o c1 c3 x=>hs₂ _ _ c3 (hs₁.extBut _ _ c1 x)) he
  | true =>
   simp only [show (Value.bool true != Value.bool true)=false from rfl,Bool.false_eq_true,if_false]
   refine wpAny_pure ?_
   simp only [Bool.false_eq_true,if_false,List.forIn_toArray,List.forIn_cons,List.forIn_nil]
   refine wpAny_bind (wpAny_bind (wpAny_bind (wpAny_holding ?_)))
   show wpAny _ _ (Builtin.SmallTypes.nextOf (.ref i1) >>= _) _ _ _
   refine wpAny_bind (wpAny_nextOf_list_end hh h1 hl hv fun h₂ e hs₂ he=>?_)
   exact fin h₂ e (fun c o c1 c3 x=>hs₂ _ _ c3 x) he

abbrev zH1 (h:Heap) (l:Addr):Heap:=h.push { cls:=.type "list_iterator", data:=.fields #[.ref l,.int 0 0] }
abbrev zH2 (h:Heap) (l:Addr) (ty:String) (x:Str) (t:Tok):Heap:=(zH1 h l).push { cls:=.type ty,data:=.fields #[.str x t,.int 0 0] }
abbrev zH3 (h:Heap) (l:Addr) (ty:String) (x:Str) (t:Tok):Heap:=(zH2 h l ty x t).push { cls:=.type "tuple", data:=.seq #[.ref h.objs.size,.ref (zH1 h l).objs.size] }
abbrev zH4 (h:Heap) (l:Addr) (ty:String) (x:Str) (t:Tok):Heap:=(zH3 h l ty x t).push { cls:=.type "tuple", data:=.seq #[.none,.none] }
abbrev zH5 (h:Heap) (l:Addr) (ty:String) (x:Str) (t:Tok):Heap:=(zH4 h l ty x t).push { cls:=.type "zip", data:=.fields #[.none,.bool false,.bool false,.ref (zH2 h l ty x t).objs.size,.ref (zH3 h l ty x t).objs.size] }
noncomputable def tyOf (x:Str):String:=if x.cps.all (· < 128)=true then "str_ascii_iterator" else "str_iterator"
theorem iter_sign {x:Str} {t:Tok} {Q:Value->Shared->Prop} (hQ:Q (.ref s.heap.objs.size) { s with heap:=s.heap.push { cls:=.type (tyOf x),data:=.fields #[.str x t,.int 0 0] } }):wpAny (model prog w) A (pyIter (.str x t)) Q E s:=by
 unfold tyOf at hQ
 cases ha:x.cps.all (· < 128) with
 | true=>rw [ha,if_pos rfl] at hQ; exact wpAny_pyIter_ascii ha hQ
 | false=>rw [ha,if_neg Bool.false_ne_true] at hQ; exact wpAny_pyIter_wide ha hQ
theorem meets_new (l:Addr) (xs:Array Value) (x:Str) (t:Tok) :
  Meets (Builtin.«zip.__new__» ⟨[.type "zip", .ref l,.str x t],[]⟩) (fun _ R s=>s.heap.IsList l xs/\R (.ok (.ret (.ref (zH4 s.heap l (tyOf x) x t).objs.size))) { s with heap:=zH5 s.heap l (tyOf x) x t }) :=
 .of_wp fun prog w A R s h=>by
  obtain ⟨hp,g,d,tk,os⟩:=s; obtain ⟨hl1,h⟩:=h
  have hsub:=sub_zip
  have hL1:Heap.IsList (Shared.heap ⟨hp,g,d,tk,os⟩) l xs:=hl1
  wp_walk using wpAny_pyIter_list hL1,iter_sign
  exact ⟨_,rfl,h⟩
theorem call_zip {l:Addr} {xs:Array Value} {x:Str} {t:Tok} {Q:Value->Shared->Prop} (hl1:s.heap.IsList l xs)
  (h:∀ h',IsZ h' (s.heap.objs.size + 4) (s.heap.objs.size + 2) (s.heap.objs.size + 3) .none false->IsPair h' (s.heap.objs.size + 2) (.ref s.heap.objs.size) (.ref (s.heap.objs.size + 1)) ->
   IsPair h' (s.heap.objs.size + 3) .none .none->h'.IsListIter s.heap.objs.size l 0->h'.IsStrIter (s.heap.objs.size + 1) (tyOf x) x t 0->h'.objs.size=s.heap.objs.size + 5 ->
   (∀ c o,s.heap.get? c=some o->h'.get? c=some o)->Q (.ref (s.heap.objs.size + 4)) { s with heap:=h' }) :
  wpAny (model prog w) A (call (.type "zip") [.ref l,.str x t]) Q E s:=by
 refine callType_new F.called_zip (by decide) (F.typeCall_zip_2 _ _) (F.newCall_zip_2 _ _) (fun obj=>F.args_object_init_3 obj _ _) F.entry_zip_new (meets_new l xs x t) ⟨hl1,?_⟩
 have z1:(zH1 s.heap l).objs.size=s.heap.objs.size + 1:=Heap.size_push ..
 have z2:(zH2 s.heap l (tyOf x) x t).objs.size=s.heap.objs.size + 2:=by rw [Heap.size_push,z1]
 have z3:(zH3 s.heap l (tyOf x) x t).objs.size=s.heap.objs.size + 3:=by rw [Heap.size_push,z2]
 have z4:(zH4 s.heap l (tyOf x) x t).objs.size=s.heap.objs.size + 4:=by rw [Heap.size_push,z3]
 have z5:(zH5 s.heap l (tyOf x) x t).objs.size=s.heap.objs.size + 5:=by rw [Heap.size_push,z4]
 have g5:(zH5 s.heap l (tyOf x) x t).get? (zH4 s.heap l (tyOf x) x t).objs.size=some _:=Heap.get?_push_size _ rfl
 have g4:(zH5 s.heap l (tyOf x) x t).get? (zH3 s.heap l (tyOf x) x t).objs.size=some _:=Heap.get?_push_of_some _ (Heap.get?_push_size _ rfl)
 have g3:(zH5 s.heap l (tyOf x) x t).get? (zH2 s.heap l (tyOf x) x t).objs.size=some _:=Heap.get?_push_of_some _ (Heap.get?_push_of_some _ (Heap.get?_push_size _ rfl))
 have g2:(zH5 s.heap l (tyOf x) x t).get? (zH1 s.heap l).objs.size=some _:=Heap.get?_push_of_some _ (Heap.get?_push_of_some _ (Heap.get?_push_of_some _ (Heap.get?_push_size _ rfl)))
 have g1:(zH5 s.heap l (tyOf x) x t).get? s.heap.objs.size=some _:=Heap.get?_push_of_some _ (Heap.get?_push_of_some _ (Heap.get?_push_of_some _ (Heap.get?_push_of_some _ (Heap.get?_push_size _ rfl))))
 show _/\_
 rw [z2,z3,z4] at g5
 rw [z1,z2] at g3
 rw [z3] at g4
 rw [z1] at g2
 rw [z4]
 exact ⟨⟨_,g5,rfl⟩,h _ g5 g3 g4 ⟨_,g1,rfl,rfl⟩ ⟨_,g2,rfl,rfl⟩ z5 fun c o x =>
  Heap.get?_push_of_some _ (Heap.get?_push_of_some _ (Heap.get?_push_of_some _ (Heap.get?_push_of_some _ (Heap.get?_push_of_some _ x))))⟩

end
end LZ
namespace LZ
open PySem
theorem mro_dict:mroOf (.type "dict")=pure [.type "dict", .type "object"]:=by rw [mroOf_type]; kernel_rfl
theorem lookup_dict_new:typeLookup (.type "dict") "__new__" = pure (some (.builtin "dict.__new__")):=by rw [typeLookup_type,builtinLookup_eq_fast]; kernel_rfl
theorem called_dict:TypeCalled "dict" "dict.__new__" "dict.__init__" :=
 ⟨by decide +kernel,by decide +kernel,⟨_,_,mro_dict⟩,madeBy_type mro_dict lookup_dict_new (by decide +kernel),by decide +kernel,by rw [isSubtype_type]; kernel_rfl,F.slot_dict_init⟩
theorem typeCall_dict_1 (a:Value):checkTypeCall "dict" ⟨[a],[]⟩=pure ():=by kernel_rfl
theorem newCall_dict_1 (a:Value):checkBuiltinCall "dict.__new__" ⟨[.type "dict", a],[]⟩=pure ():=by kernel_rfl
theorem entry_dict_new:entryFor table "dict.__new__" = some Builtin.«dict.__new__»:=entryFor_of_tree (by kernel_rfl)
theorem plain_dict_new:plainId "dict.__new__" = true:=by decide +kernel
theorem sub_dict:isSubtype (.type "dict") (.type "dict")=pure true:=by rw [isSubtype_type]; kernel_rfl
theorem entry_upd:entryFor table "dict.update.loop" = some Builtin.«dict.update.loop»:=entryFor_of_tree (by kernel_rfl)
theorem plain_upd:plainId "dict.update.loop" = true:=by decide +kernel
structure ApartD (z TI TO i1 i2 l d:Addr):Prop extends Apart5 z TI TO i1 i2 l where
 dz:d ≠ z
 dTI:d ≠ TI
 dTO:d ≠ TO
 di1:d ≠ i1
 di2:d ≠ i2
 dl:d ≠ l
structure ZS (h:Heap) (z TI TO i1 i2 l d:Addr) (ty:String) (x:Str) (t:Tok) (xs:Array Value) (k:Nat):Prop where
 zf:(IsZ h z TI TO .none false/\∃ a b,IsPair h TO a b)\/∃ (T:Addr) (f1:Bool) (oT:Obj),IsZ h z TI TO (rawInt (T:Nat)) f1/\h.get? T=some oT/\T ≠ z/\T ≠ i1/\T ≠ i2/\T ≠ d
 ti:IsPair h TI (.ref i1) (.ref i2)
 a1:h.IsListIter i1 l k
 a2:h.IsStrIter i2 ty x t k
 li:h.IsList l xs
section
variable {prog:Program} {w:World} {K:Type} [DecidableEq K] {knd:KeyKind prog w K} {A:Around} {R:Result->Shared->Prop}
theorem ZS.dict {h h':Heap} {z TI TO i1 i2 l d:Addr} {ty:String} {x:Str} {t:Tok} {xs:Array Value} {k:Nat} (D:ApartD z TI TO i1 i2 l d) (Z:ZS h z TI TO i1 i2 l d ty x t xs k) (hs:Heap.SameBut d h h'):ZS h' z TI TO i1 i2 l d ty x t xs k:=by
 refine ⟨?_,hs.extBut _ _ D.dTI.symm Z.ti,Z.a1.extBut hs.extBut D.di1.symm,Z.a2.extBut hs.extBut D.di2.symm,Z.li.extBut hs.extBut D.dl.symm⟩
 rcases Z.zf with ⟨hz,a,b,hTO⟩ | ⟨T,f1,oT,hz,hT,n1,n2,n3,n4⟩
 ·exact .inl ⟨hs.extBut _ _ D.dz.symm hz,a,b,hs.extBut _ _ D.dTO.symm hTO⟩
 ·exact .inr ⟨T,f1,oT,hs.extBut _ _ D.dz.symm hz,hs.extBut _ _ n4 hT,n1,n2,n3,n4⟩
noncomputable def storedAll (kvs:List (K × Value)) (ps:List (K × Value)):List (K × Value):=ps.foldl (fun acc p=>stored acc p.1 p.2) kvs
theorem stored_len (kvs:List (K × Value)) (k:K) (v:Value):(stored kvs k v).length<=kvs.length + 1:=by
 unfold stored
 split
 ·rw [List.length_map]; exact om261
 ·rw [List.length_append]; simp
theorem code_dict_new {E:Value->Shared->Prop} {s:Shared} (a:Value) {Q:Value->Shared->Prop} (h:Q (.ref s.heap.objs.size) { s with heap:=s.heap.push { cls:=.type "dict", data:=.dict #[] } }) :
  codeAny (model prog w) A (.call (.builtin "dict.__new__") ⟨[.type "dict", a],[]⟩) (wants Q E) s:=by
 refine codeAny_call_builtin plain_dict_new entry_dict_new (wpAny_of_eq (newCall_dict_1 a) ?_)
 have hsub:=sub_dict
 have hmro:=mro_dict
 obtain ⟨hp,g,d,tk,os⟩:=s
 unfold Builtin.«dict.__new__»
 wp_walk
 exact h
end
end LZ
namespace L2
open PySem PySem.Spec PyProof.Rows
noncomputable def putAll (kvs:List (Key × V)):List (Key × V)->List (Key × V)
 | []=>kvs
 | p :: r=>putAll (putK kvs p.1 p.2) r
theorem kv_all:∀ {qs:List (Key × V)} {ps:List (Key × Value)} {kvs:List (Key × V)} {vs:List (Key × Value)},KV qs ps->KV kvs vs->KV (putAll kvs qs) (LZ.storedAll vs ps)
 | [],_,_,_,h,r=>by cases h; exact r
 | q :: qs,p :: ps,kvs,vs,h,r=>by
  cases h with
  | cons h1 h2 =>
   show KV (putAll (putK kvs q.1 q.2) qs) (LZ.storedAll (stored vs p.1 p.2) ps)
   rw [<-h1.1]
   exact kv_all h2 (r.put q.1 h1.2)
theorem paired_get {α β:Type} {F:α->β->Prop}:∀ {xs:List α} {ys:List β},xs.length=ys.length->(∀ (j:Nat) x y,xs[j]?=some x->ys[j]?=some y->F x y)->Paired F xs ys
 | [],[],_,_=>.nil
 | x :: xs,y :: ys,hl,h=>.cons (h 0 x y rfl rfl) (paired_get (by simpa using hl) fun j a b e1 e2=>h (j + 1) a b (by simpa using e1) (by simpa using e2))
theorem length_putAll:∀ (qs kvs:List (Key × V)),(putAll kvs qs).length<=kvs.length + qs.length
 | [],kvs=>Nat.le_refl _
 | q :: qs,kvs=>by
  have h1:=length_putAll qs (putK kvs q.1 q.2)
  have h2:=length_putK kvs q.1 q.2
  show (putAll (putK kvs q.1 q.2) qs).length<=_
  rw [List.length_cons]
  exact om215 h1 h2
section
variable {X:Cx} {a b:Expr} {ta:TA} {p1 p2 pos1 pos2:Pos}
end
end L2
namespace L2
open PySem PySem.Spec PyProof.Rows
theorem Inv.turnedL {X:Cx} {pins:List (Addr × Obj)} {σ:St} {H:Hp} {s:Shared} {h':Heap} {t':Nat} {T:Addr} {o:HO} {ch:List Addr} (I:Inv X pins σ H s) (k:∀ b o,b ∉ ch->s.heap.get? b=some o->h'.get? b=some o)
  (f:∀ b ∈ ch,FpOk X pins H b) (hT:s.heap.objs.size<=T) (new:ObjOk X.prog X.w (upd H T o) h' T o):Inv X pins σ (upd H T o) { s with heap:=h',toks:=t' }:=by
 have hn:H T=none:=I.hok.fresh hT
 have nT:∀ b u,s.heap.get? b=some u->b ≠ T:=fun b u q=>Nat.ne_of_lt (Nat.lt_of_lt_of_le (Heap.lt_size q) hT)
 have n:∀ b u,H b=some u->b ∉ ch:=fun b u q z=>by rw [(f b z).1] at q; cases q
 refine I.step (g':=s.gens) (d':=s.drawn) (ch:=ch) (fun b hb=>?_) (fun b u _ _ hc q _=>k b u hc q) (fun b u _ _ hc q _=>⟨u.slots,k b u hc q⟩) (fun b u _ q n=>by rw [upd_ne (nT b u q)]; exact n)
  (fun b u hc q=>⟨u,k b u hc q⟩) (fun b xs q=>by rw [upd_ne (ne_of_none q hn)]; exact q) (fun b u xs q=>by rw [upd_ne (ne_of_none q hn)]; exact q) (fun b ps q=>⟨#[],by rw [upd_ne (ne_of_none q hn),q]; simp⟩) (fun m hm=>?_) (fun b u q=>?_) I.bare
 ·obtain ⟨_,a2,_,a4,a5,a6⟩:=f b hb
  exact ⟨a4,a2,a5,a6⟩
 ·obtain ⟨ob,es,ep,ho,r⟩:=hm
  exact ⟨ob,es,ep,k _ ob (fun z=>(f _ z).2.1 rfl) ho,r⟩
 ·by_cases hb:b=T
  ·subst hb
   rw [upd_same] at q
   cases q
   exact new
  ·rw [upd_ne hb] at q
   refine (I.hok b u q).stay (fun c v hc z=>k c v ?_ z) (fun c z=>by rw [upd_ne (ne_of_none z hn)]; exact z) fun c xs z=>by rw [upd_ne (ne_of_none z hn)]; exact z
   rcases hc with z | z
   ·rw [z]; exact n b u q
   ·exact n c _ z
theorem Inv.turnedE {X:Cx} {pins:List (Addr × Obj)} {σ:St} {H:Hp} {s:Shared} {h':Heap} {t':Nat} {ch:List Addr} (I:Inv X pins σ H s) (k:∀ b o,b ∉ ch->s.heap.get? b=some o->h'.get? b=some o)
  (f:∀ b ∈ ch,FpOk X pins H b):Inv X pins σ H { s with heap:=h',toks:=t' }:=by
 have n:∀ b u,H b=some u->b ∉ ch:=fun b u q z=>by rw [(f b z).1] at q; cases q
 refine I.step (g':=s.gens) (d':=s.drawn) (ch:=ch) (fun b hb=>?_) (fun b u _ _ hc q _=>k b u hc q) (fun b u _ _ hc q _=>⟨u.slots,k b u hc q⟩) (fun b u _ q n=>n)
  (fun b u hc q=>⟨u,k b u hc q⟩) (fun b xs q=>q) (fun b u xs q=>q) (fun b ps q=>⟨#[],by rw [q]; simp⟩) (fun m hm=>?_) (fun b u q=>?_) I.bare
 ·obtain ⟨_,a2,_,a4,a5,a6⟩:=f b hb
  exact ⟨a4,a2,a5,a6⟩
 ·obtain ⟨ob,es,ep,ho,r⟩:=hm
  exact ⟨ob,es,ep,k _ ob (fun z=>(f _ z).2.1 rfl) ho,r⟩
 ·refine (I.hok b u q).stay (fun c v hc z=>k c v ?_ z) (fun c z=>z) fun c xs z=>z
  rcases hc with z | z
  ·rw [z]; exact n b u q
  ·exact n c _ z
section
variable {X:Cx} {elts:List Expr} {k:Nat} {tpos:Pos}
end
section
variable {X:Cx}
end
end L2
namespace LY
open PySem LZ
section
variable {prog:Program} {w:World} {A:Around} {E:Value->Shared->Prop} {s:Shared}
theorem next_first {z TI TO i1 i2 l:Addr} {m:Addr} {k:Nat} {xs ys:Array Value} {v u a b:Value} {Q:Option Value->Shared->Prop} (D:Apart5 z TI TO i1 i2 l) (mz:m ≠ z) (mTO:m ≠ TO) (mi1:m ≠ i1) (mi2:m ≠ i2)
  (hz:IsZ s.heap z TI TO .none false) (hTI:IsPair s.heap TI (.ref i1) (.ref i2)) (hTO:IsPair s.heap TO a b) (h1:s.heap.IsListIter i1 l k) (h2:s.heap.IsListIter i2 m k) (hl:s.heap.IsList l xs) (hm:s.heap.IsList m ys) (hv:xs[k]?=some v) (hc:ys[k]?=some u)
  (hQ:∀ h',IsZ h' z TI TO (rawInt s.heap.objs.size) false->(∃ a b,IsPair h' TO a b)->h'.IsListIter i1 l (k + 1)->h'.IsListIter i2 m (k + 1)->IsPair h' s.heap.objs.size v u->h'.objs.size=s.heap.objs.size + 1 ->
   (∀ c o,c ≠ z->c ≠ TO->c ≠ i1->c ≠ i2->s.heap.get? c=some o->h'.get? c=some o)->Q (some (.ref s.heap.objs.size)) { s with heap:=h' }) :
  wpAny (model prog w) A (pyNext (.ref z)) Q E s:=by
 have hT:s.TypeIs (.ref z) "zip" := ⟨_,hz,rfl⟩
 unfold pyNext
 refine wpAny_bind (wpAny_attempt (wpAny_callSpecial?_slot (name:=Str.ofString "__next__") hT F.slot_zip_next
  (wpAny_call_entry F.slot_zip_next hT F.entry_zip_next ?_ (F.args_zip_next_1 _))))
 show wpAny _ _ (field (.ref z) 2 >>= _) _ _ _
 refine wpAny_bind (wpAny_field hz rfl (x:=.bool false) rfl ?_)
 show wpAny _ _ (field (.ref z) 3 >>= _) _ _ _
 refine wpAny_bind (wpAny_field hz rfl (x:=.ref TI) rfl ?_)
 refine wpAny_bind (wpAny_seqItems hTI rfl ?_)
 show wpAny _ _ (Builtin.SmallTypes.ownedTupleIsFree (.ref z) >>= _) _ _ _
 refine wpAny_bind ?_
 unfold Builtin.SmallTypes.ownedTupleIsFree
 refine wpAny_bind (wpAny_field hz rfl (x:=.none) rfl (wpAny_pure ?_))
 simp only [if_true]
 refine wpAny_bind (wpAny_rule ?_)
 refine wpAny_bind (wpAny_field hz rfl (x:=.ref TO) rfl ?_)
 refine wpAny_bind (wpAny_setField_rec hz (by simp) fun h₁ hz₁ hs₁=>?_)
 replace hz₁:IsZ h₁ z TI TO .ellipsis false:=hz₁
 refine wpAny_bind ?_
 simp only [List.zipIdx_cons,List.zipIdx_nil,List.forIn_cons,List.forIn_nil]
 refine wpAny_bind (wpAny_bind (wpAny_onRaise ?_))
 show wpAny _ _ (Builtin.SmallTypes.nextOf (.ref i1) >>= _) _ _ _
 refine wpAny_bind (wpAny_nextOf_list_item (h1.extBut hs₁.extBut D.i1z) (hl.extBut hs₁.extBut D.lz) hv fun h₂ h1₂ hs₂=>wpAny_pure ?_)
 have hTO₂:IsPair h₂ TO a b:=hs₂.extBut _ _ D.TOi1 (hs₁.extBut _ _ D.TOz hTO)
 refine wpAny_bind (wpAny_seqItems hTO₂ rfl ?_)
 refine wpAny_bind (wpAny_updateSeq_pair hTO₂ fun h₃ hTO₃ hs₃=>?_)
 replace hTO₃:IsPair h₃ TO v b:=hTO₃
 refine wpAny_bind (wpAny_letGo (wpAny_pure ?_))
 refine wpAny_bind (wpAny_bind (wpAny_onRaise ?_))
 show wpAny _ _ (Builtin.SmallTypes.nextOf (.ref i2) >>= _) _ _ _
 have h2₃:h₃.IsListIter i2 m k:=((h2.extBut hs₁.extBut D.i2z).extBut hs₂.extBut D.i12.symm).extBut hs₃.extBut D.TOi2.symm
 refine wpAny_bind (wpAny_nextOf_list_item h2₃ (((hm.extBut hs₁.extBut mz).extBut hs₂.extBut mi1).extBut hs₃.extBut mTO) hc fun h₄ h2₄ hs₄=>wpAny_pure ?_)
 have hTO₄:IsPair h₄ TO v b:=hs₄.extBut _ _ D.TOi2 hTO₃
 refine wpAny_bind (wpAny_seqItems hTO₄ rfl ?_)
 refine wpAny_bind (wpAny_updateSeq_pair hTO₄ fun h₅ hTO₅ hs₅=>?_)
 replace hTO₅:IsPair h₅ TO v u:=hTO₅
 refine wpAny_bind (wpAny_letGo (wpAny_pure (wpAny_pure ?_)))
 refine wpAny_bind (wpAny_seqItems hTO₅ rfl ?_)
 refine wpAny_bind (wpAny_newTuple ?_)
 have hsz:h₅.objs.size=s.heap.objs.size:=by rw [hs₅.1,hs₄.1,hs₃.1,hs₂.1,hs₁.1]
 have hz₅:IsZ h₅ z TI TO .ellipsis false:=hs₅.extBut _ _ D.TOz.symm (hs₄.extBut _ _ D.i2z.symm (hs₃.extBut _ _ D.TOz.symm (hs₂.extBut _ _ D.i1z.symm hz₁)))
 have hk₅:∀ c o,c ≠ z->c ≠ TO->c ≠ i1->c ≠ i2->s.heap.get? c=some o->h₅.get? c=some o:=fun c o c1 c2 c3 c4 e =>
  hs₅.extBut _ _ c2 (hs₄.extBut _ _ c4 (hs₃.extBut _ _ c2 (hs₂.extBut _ _ c3 (hs₁.extBut _ _ c1 e))))
 have h1₅:h₅.IsListIter i1 l (k + 1):=((h1₂.extBut hs₃.extBut D.TOi1.symm).extBut hs₄.extBut D.i12).extBut hs₅.extBut D.TOi1.symm
 have h2₅:h₅.IsListIter i2 m (k + 1):=h2₄.extBut hs₅.extBut D.TOi2.symm
 have hzlt:z < h₅.objs.size:=Heap.lt_size hz₅
 show wpAny _ _ (Builtin.SmallTypes.ownedTupleHandOut (.ref z) (.ref h₅.objs.size) >>= _) _ _ _
 refine wpAny_bind ?_
 unfold Builtin.SmallTypes.ownedTupleHandOut
 have hz₆:IsZ (h₅.push { cls:=.type "tuple", data:=.seq #[v,u] }) z TI TO .ellipsis false:=Heap.get?_push_of_some _ hz₅
 refine wpAny_bind (wpAny_setField_rec hz₆ (by simp) fun h₇ hz₇ hs₇=>?_)
 replace hz₇:IsZ h₇ z TI TO (rawInt h₅.objs.size) false:=hz₇
 refine wpAny_setField_rec hz₇ (by simp) fun h₈ hz₈ hs₈=>?_
 replace hz₈:IsZ h₈ z TI TO (rawInt h₅.objs.size) false:=hz₈
 have up:∀ c o,c ≠ z->h₅.get? c=some o->h₈.get? c=some o:=fun c o c1 e=>hs₈.extBut _ _ c1 (hs₇.extBut _ _ c1 (Heap.get?_push_of_some _ e))
 have hT₈:IsPair h₈ h₅.objs.size v u:=hs₈.extBut _ _ (Nat.ne_of_gt hzlt) (hs₇.extBut _ _ (Nat.ne_of_gt hzlt) (Heap.get?_push_size _ rfl))
 have hz8:h₈.objs.size=h₅.objs.size + 1:=by rw [hs₈.1,hs₇.1,Heap.size_push]
 rw [hsz] at hz₈ hT₈ hz8
 refine wpAny_pure ⟨_,rfl,wpAny_pure ?_⟩
 show Q (some (.ref h₅.objs.size)) _
 rw [hsz]
 exact hQ h₈ hz₈ ⟨_,_,up _ _ D.TOz hTO₅⟩ (h1₅.at fun o e=>up _ o D.i1z e) (h2₅.at fun o e=>up _ o D.i2z e) hT₈ hz8 fun c o c1 c2 c3 c4 e=>up c o c1 (hk₅ c o c1 c2 c3 c4 e)
abbrev zH1 (h:Heap) (l:Addr):Heap:=h.push { cls:=.type "list_iterator", data:=.fields #[.ref l,.int 0 0] }
abbrev zH2 (h:Heap) (l m:Addr):Heap:=(zH1 h l).push { cls:=.type "list_iterator", data:=.fields #[.ref m,.int 0 0] }
abbrev zH3 (h:Heap) (l m:Addr):Heap:=(zH2 h l m).push { cls:=.type "tuple", data:=.seq #[.ref h.objs.size,.ref (zH1 h l).objs.size] }
abbrev zH4 (h:Heap) (l m:Addr):Heap:=(zH3 h l m).push { cls:=.type "tuple", data:=.seq #[.none,.none] }
abbrev zH5 (h:Heap) (l m:Addr):Heap:=(zH4 h l m).push { cls:=.type "zip", data:=.fields #[.none,.bool false,.bool false,.ref (zH2 h l m).objs.size,.ref (zH3 h l m).objs.size] }
theorem meets_new (l m:Addr) (xs ys:Array Value) :
  Meets (Builtin.«zip.__new__» ⟨[.type "zip", .ref l,.ref m],[]⟩) (fun _ R s=>s.heap.IsList l xs/\s.heap.IsList m ys/\R (.ok (.ret (.ref (zH4 s.heap l m).objs.size))) { s with heap:=zH5 s.heap l m }) :=
 .of_wp fun prog w A R s h=>by
  obtain ⟨hp,g,d,tk,os⟩:=s; obtain ⟨hl1,hl2,h⟩:=h
  have hsub:=sub_zip
  have hL1:Heap.IsList (Shared.heap ⟨hp,g,d,tk,os⟩) l xs:=hl1
  have hL2:Heap.IsList (Shared.heap ⟨hp.push { cls:=.type "list_iterator", data:=.fields #[.ref l,.int 0 0] },g,d,tk,os⟩) m ys:=hl2.push _
  wp_walk using wpAny_pyIter_list hL1,wpAny_pyIter_list hL2
  exact ⟨_,rfl,h⟩
theorem call_zip {l m:Addr} {xs ys:Array Value} {Q:Value->Shared->Prop} (hl1:s.heap.IsList l xs) (hl2:s.heap.IsList m ys)
  (h:∀ h',IsZ h' (s.heap.objs.size + 4) (s.heap.objs.size + 2) (s.heap.objs.size + 3) .none false->IsPair h' (s.heap.objs.size + 2) (.ref s.heap.objs.size) (.ref (s.heap.objs.size + 1)) ->
   IsPair h' (s.heap.objs.size + 3) .none .none->h'.IsListIter s.heap.objs.size l 0->h'.IsListIter (s.heap.objs.size + 1) m 0->h'.objs.size=s.heap.objs.size + 5 ->
   (∀ c o,s.heap.get? c=some o->h'.get? c=some o)->Q (.ref (s.heap.objs.size + 4)) { s with heap:=h' }) :
  wpAny (model prog w) A (call (.type "zip") [.ref l,.ref m]) Q E s:=by
 refine callType_new F.called_zip (by decide) (F.typeCall_zip_2 _ _) (F.newCall_zip_2 _ _) (fun obj=>F.args_object_init_3 obj _ _) F.entry_zip_new (meets_new l m xs ys) ⟨hl1,hl2,?_⟩
 have z1:(zH1 s.heap l).objs.size=s.heap.objs.size + 1:=Heap.size_push ..
 have z2:(zH2 s.heap l m).objs.size=s.heap.objs.size + 2:=by rw [Heap.size_push,z1]
 have z3:(zH3 s.heap l m).objs.size=s.heap.objs.size + 3:=by rw [Heap.size_push,z2]
 have z4:(zH4 s.heap l m).objs.size=s.heap.objs.size + 4:=by rw [Heap.size_push,z3]
 have z5:(zH5 s.heap l m).objs.size=s.heap.objs.size + 5:=by rw [Heap.size_push,z4]
 have g5:(zH5 s.heap l m).get? (zH4 s.heap l m).objs.size=some _:=Heap.get?_push_size _ rfl
 have g4:(zH5 s.heap l m).get? (zH3 s.heap l m).objs.size=some _:=Heap.get?_push_of_some _ (Heap.get?_push_size _ rfl)
 have g3:(zH5 s.heap l m).get? (zH2 s.heap l m).objs.size=some _:=Heap.get?_push_of_some _ (Heap.get?_push_of_some _ (Heap.get?_push_size _ rfl))
 have g2:(zH5 s.heap l m).get? (zH1 s.heap l).objs.size=some _:=Heap.get?_push_of_some _ (Heap.get?_push_of_some _ (Heap.get?_push_of_some _ (Heap.get?_push_size _ rfl)))
 have g1:(zH5 s.heap l m).get? s.heap.objs.size=some _:=Heap.get?_push_of_some _ (Heap.get?_push_of_some _ (Heap.get?_push_of_some _ (Heap.get?_push_of_some _ (Heap.get?_push_size _ rfl))))
 show _/\_
 rw [z2,z3,z4] at g5
 rw [z1,z2] at g3
 rw [z3] at g4
 rw [z1] at g2
 rw [z4]
 exact ⟨⟨_,g5,rfl⟩,h _ g5 g3 g4 ⟨_,g1,rfl,rfl⟩ ⟨_,g2,rfl,rfl⟩ z5 fun c o x =>
  Heap.get?_push_of_some _ (Heap.get?_push_of_some _ (Heap.get?_push_of_some _ (Heap.get?_push_of_some _ (Heap.get?_push_of_some _ x))))⟩

end
structure ApartM (z TI TO i1 i2 l m d:Addr):Prop extends ApartD z TI TO i1 i2 l d where
 mz:m ≠ z
 mTO:m ≠ TO
 mi1:m ≠ i1
 mi2:m ≠ i2
 dm:d ≠ m
structure ZS (h:Heap) (z TI TO i1 i2 l d:Addr) (m:Addr) (xs ys:Array Value) (k:Nat):Prop where
 zf:(IsZ h z TI TO .none false/\∃ a b,IsPair h TO a b)\/∃ (T:Addr) (f1:Bool) (oT:Obj),IsZ h z TI TO (rawInt (T:Nat)) f1/\h.get? T=some oT/\T ≠ z/\T ≠ i1/\T ≠ i2/\T ≠ d
 ti:IsPair h TI (.ref i1) (.ref i2)
 a1:h.IsListIter i1 l k
 a2:h.IsListIter i2 m k
 li:h.IsList l xs
 mi:h.IsList m ys
section
variable {prog:Program} {w:World} {K:Type} [DecidableEq K] {knd:KeyKind prog w K} {A:Around} {R:Result->Shared->Prop}
theorem ZS.dict {h h':Heap} {z TI TO i1 i2 l d:Addr} {m:Addr} {xs ys:Array Value} {k:Nat} (D:ApartM z TI TO i1 i2 l m d) (Z:ZS h z TI TO i1 i2 l d m xs ys k) (hs:Heap.SameBut d h h'):ZS h' z TI TO i1 i2 l d m xs ys k:=by
 refine ⟨?_,hs.extBut _ _ D.dTI.symm Z.ti,Z.a1.extBut hs.extBut D.di1.symm,Z.a2.extBut hs.extBut D.di2.symm,Z.li.extBut hs.extBut D.dl.symm,Z.mi.extBut hs.extBut D.dm.symm⟩
 rcases Z.zf with ⟨hz,a,b,hTO⟩ | ⟨T,f1,oT,hz,hT,n1,n2,n3,n4⟩
 ·exact .inl ⟨hs.extBut _ _ D.dz.symm hz,a,b,hs.extBut _ _ D.dTO.symm hTO⟩
 ·exact .inr ⟨T,f1,oT,hs.extBut _ _ D.dz.symm hz,hs.extBut _ _ n4 hT,n1,n2,n3,n4⟩
end
end LY
namespace L2
open PySem PySem.Spec PyProof.Rows
noncomputable def Itzl (K:PySem.W.Frag) (a b:Addr):It :=
 ⟨fun i H=>(∃ xs x,SqL K H a xs/\xs[i]?=some x)/\∃ ys y,SqL K H b ys/\ys[i]?=some y,fun i H x H'=>∃ T v u,H T=none/\x=.ref T/\H'=upd H T (.tup [v,u])/\(∀ xs,SqL K H a xs->xs[i]?=some v)/\∀ ys,SqL K H b ys->ys[i]?=some u,fun i H=>∃ xs,SqL K H a xs/\xs.length<=i⟩
theorem turn_zipL {P:Program} {w:World} {K:PySem.W.Frag} {elts:List Expr} {k:Nat} {pos:Pos} (a bb z TI TO i1 i2:Addr) (D:LZ.Apart5 z TI TO i1 i2 a) (mz:bb ≠ z) (mTO:bb ≠ TO) (mi1:bb ≠ i1) (mi2:bb ≠ i2) :
  Turn P w K (.Tuple elts k pos) (Itzl K a bb) [z,TI,TO,i1,i2] z (fun i h=>LZ.IsZ h z TI TO .none false/\IsPair h TI (.ref i1) (.ref i2)/\(∃ u v,IsPair h TO u v)/\h.IsListIter i1 a i/\h.IsListIter i2 bb i) where
 mem:=by simp
 obj:=fun i h st b hb=>by
  obtain ⟨hz,hTI,⟨u,v,hTO⟩,⟨o1,g1,_,d1⟩,⟨o2,g2,_,d2⟩⟩:=st
  simp only [List.mem_cons,List.not_mem_nil,or_false] at hb
  rcases hb with rfl | rfl | rfl | rfl | rfl
  ·exact ⟨_,hz,fun v q=>by have q':Data.fields _=Data.cell v:=q; cases q'⟩
  ·exact ⟨_,hTI,fun v q=>by have q':Data.seq _ _=Data.cell v:=q; cases q'⟩
  ·exact ⟨_,hTO,fun v q=>by have q':Data.seq _ _=Data.cell v:=q; cases q'⟩
  ·exact ⟨o1,g1,fun v q=>by rw [d1] at q; cases q⟩
  ·exact ⟨o2,g2,fun v q=>by rw [d2] at q; cases q⟩
 keep:=fun i h h' st kk=>by
  obtain ⟨hz,hTI,⟨u,v,hTO⟩,⟨o1,g1,r1⟩,⟨o2,g2,r2⟩⟩:=st
  exact ⟨kk z (by simp) _ hz,kk TI (by simp) _ hTI,⟨u,v,kk TO (by simp) _ hTO⟩,⟨o1,kk i1 (by simp) _ g1,r1⟩,⟨o2,kk i2 (by simp) _ g2,r2⟩⟩
 item:=by
  intro X hP hw hK hc i pins s σ H E I hf st hg
  subst hP hw hK
  obtain ⟨⟨xs,y,hq,hx⟩,ys,y2,hq2,hx2⟩:=hg
  obtain ⟨its,rv,p,hsz⟩:=I.list hq
  obtain ⟨u,hu,ru⟩:=rv.get hx
  obtain ⟨its2,rv2,p2,hsz2⟩:=I.list hq2
  obtain ⟨u2,hu2,ru2⟩:=rv2.get hx2
  obtain ⟨hz,hTI,⟨a0,b0,hTO⟩,h1,h2⟩:=st
  refine LY.next_first D mz mTO mi1 mi2 hz hTI hTO h1 h2 p.isList p2.isList (v:=u) (u:=u2) (by simpa using hu) (by simpa using hu2) fun h' b1 b2 b3 b4 b5 b6 b7=>⟨_,rfl,?_⟩
  refine wpAny_letOwnedTupleGo_zip (T:=s.heap.objs.size) b1 fun h2' c1 c2=>?_
  have szT:∀ c ∈ [z,TI,TO,i1,i2],c ≠ s.heap.objs.size:=fun c hc=>by
   have:∃ o,s.heap.get? c=some o:=by
    simp only [List.mem_cons,List.not_mem_nil,or_false] at hc
    obtain ⟨o1,g1,_⟩:=h1
    obtain ⟨o2,g2,_⟩:=h2
    rcases hc with rfl | rfl | rfl | rfl | rfl
    ·exact ⟨_,hz⟩
    ·exact ⟨_,hTI⟩
    ·exact ⟨_,hTO⟩
    ·exact ⟨_,g1⟩
    ·exact ⟨_,g2⟩
   obtain ⟨o,e⟩:=this
   exact Nat.ne_of_lt (Heap.lt_size e)
  have zT:z ≠ s.heap.objs.size:=szT z (by simp)
  have keep2:∀ b o,b ∉ [z,TI,TO,i1,i2]->s.heap.get? b=some o->h2'.get? b=some o:=fun b o nb q=>by
   simp only [List.mem_cons,List.not_mem_nil,or_false,not_or] at nb
   exact c2.extBut b o nb.1 (b7 b o nb.1 nb.2.2.1 nb.2.2.2.1 nb.2.2.2.2 q)
  have kp:∀ {b o},b ≠ z->h'.get? b=some o->h2'.get? b=some o:=fun nb q=>c2.extBut _ _ nb q
  have tup2:h2'.get? s.heap.objs.size=some _:=kp (Ne.symm zT) b5
  have I2:Inv X pins σ (upd H s.heap.objs.size (.tup [y,y2])) { s with heap:=h2',toks:=s.toks } :=
   I.turnedL (ch:=[z,TI,TO,i1,i2]) keep2 hf (Nat.le_refl _) ⟨(by show 2<=sizeLine; decide),[u,u2],.cons ru (.cons ru2 .nil),⟨_,tup2,rfl,_,rfl⟩⟩
  obtain ⟨a1,b1',b2'⟩:=b2
  refine ⟨.ref s.heap.objs.size,_,I2,rfl,⟨s.heap.objs.size,y,y2,I.hok.fresh (Nat.le_refl _),rfl,rfl,fun ys hy=>by rw [I.list_inj hy hq]; exact hx,fun ys hy=>by rw [I.list_inj hy hq2]; exact hx2⟩,⟨c1,?_,⟨a1,b1',?_⟩,?_,?_⟩,fun b hb=>?_⟩
  ·exact kp D.TIz (b7 TI _ D.TIz D.TITO D.TIi1 D.TIi2 hTI)
  ·exact kp D.TOz b2'
  ·obtain ⟨o1,g1,r1⟩:=b3
   exact ⟨o1,kp D.i1z g1,r1⟩
  ·obtain ⟨o2,g2,r2⟩:=b4
   exact ⟨o2,kp D.i2z g2,r2⟩
  ·rw [upd_ne (szT b hb)]
   exact (hf b hb).1
 done:=by
  intro X hP hw hK hc i pins s σ H E I hf st hg
  subst hP hw hK
  obtain ⟨xs,hq,hx⟩:=hg
  obtain ⟨its,rv,p,hsz⟩:=I.list hq
  obtain ⟨hz,hTI,hTO,h1,h2⟩:=st
  have hlen:=rv.length
  refine LZ.next_end (a:=.none) (b:=.none) (I.ok.hd hc) D hz (.inl ⟨rfl,rfl,hTO⟩) hTI h1 p.isList (by simp; omega) fun h' eb=>⟨rfl,?_⟩
  exact I.turnedE (t':=s.toks) (ch:=[z,TI,TO,i1,i2]) (fun b o nb q=>by
   simp only [List.mem_cons,List.not_mem_nil,or_false,not_or] at nb
   exact eb b o nb.1 nb.2.2.2.1 q) hf
 self:=fun _ _ _ _ _ st h=>wpAny_pyIter_zip st.1 h
section
variable {X:Cx} {elts:List Expr} {k:Nat} {tpos:Pos}
theorem comp_zipL {K:PySem.W.Frag} {H1:Hp} {D:Addr} {σ0:St} {g:TG} {te:TE} {tt:TT} {QD:Hp->Prop} {a b:Addr} {xs us:List V} (hz:xs.length<=us.length) (Pv:Nat->Hp->List V->Prop) (h0:Pv 0 (upd H1 D (.lst [])) []) (hD:∀ i H ys,Pv i H ys->H D=some (.lst ys)/\SqL K H a xs/\SqL K H b us)
  (hs:∀ i x u H ys T,xs[i]?=some x->us[i]?=some u->Pv i H ys->H T=none->g (.ref T) σ0 (upd H T (.tup [x,u])) fun σ2 H2=>wk σ0 σ2/\tt σ2 H2 fun b H3=>if b=true then te σ2 H3 (NextC Pv xs.length D i ys) else ∃ m',m' < xs.length - i/\(m'=xs.length - (i + 1)/\i + 1<=xs.length/\Pv (i + 1) H3 ys))
  (hd:∀ H ys,Pv xs.length H ys->QD H) :
  ∃ W:Nat->Nat->Hp->List V->Prop,(∃ m,W 0 m (upd H1 D (.lst [])) [])/\∀ i m H ys,W i m H ys->H D=some (.lst ys)/\(((Itzl K a b).stop i H/\QD H)\/((Itzl K a b).go i H/\∀ x H',(Itzl K a b).yld i H x H'->g x σ0 H' fun σ2 H2=>wk σ0 σ2/\tt σ2 H2 fun b H3 =>
   if b=true then te σ2 H3 fun v H4=>H4 D=some (.lst ys)/\ys.length < sizeLine/\∃ m',m' < m/\W (i + 1) m' (upd H4 D (.lst (ys++[v]))) (ys++[v]) else ∃ m',m' < m/\W (i + 1) m' H3 ys)):=by
 refine ⟨fun i m H ys=>m=xs.length - i/\i<=xs.length/\Pv i H ys,⟨_,rfl,Nat.zero_le _,h0⟩,?_⟩
 rintro i m H ys ⟨rfl,hi,p⟩
 obtain ⟨h1,q,q2⟩:=hD i H ys p
 refine ⟨h1,?_⟩
 by_cases hlt:i < xs.length
 ·refine .inr ⟨⟨⟨xs,xs[i],q,by simp [hlt]⟩,us,us[i]'(by omega),q2,by rw [List.getElem?_eq_getElem]⟩,fun x H' y=>?_⟩
  obtain ⟨T,v,u,hT,ex,eH,y1,y2⟩:=y
  subst ex eH
  exact hs i v u H ys T (y1 xs q) (y2 us q2) p hT
 ·have e:i=xs.length:=by omega
  subst e
  exact .inl ⟨⟨xs,q,Nat.le_refl _⟩,hd H ys p⟩
end
section
variable {X:Cx}
noncomputable def tLRange (ta:TA):TE:=fun σ H Q=>ta σ H fun vs H1=>∃ (lo:Int) (n:Nat),vs=[.int lo,.int (lo + n)]/\-1000<=lo/\lo<=1000/\n<=1000/\∀ l,H1 l=none->Q (.ref l) (upd H1 l (.lst ((List.range n).map fun (i:Nat)=>V.int (lo + (i:Int)))))
theorem pe_lrange {a b:Expr} {ta:TA} {p1 p2 pos1 pos2:Pos} (hc:X.calm=true) (hg:Gl X "list") (hm:X.mg "list" = none) (hg2:Gl X "range") (hm2:X.mg "range" = none) (ha:PA X [a,b] ta)
  (hs:starEach [a,b] X.env=[(false,eval a X.env),(false,eval b X.env)]:=by rfl) (hs2:starEach [b] X.env=[(false,eval b X.env)]:=by rfl)
  (hs0:starEach [.Call (.Name "range" p2) [a,b] [] pos2] X.env=[(false,eval (.Call (.Name "range" p2) [a,b] [] pos2) X.env)]:=by rfl) :
  PE X (.Call (.Name "list" p1) [.Call (.Name "range" p2) [a,b] [] pos2] [] pos1) (tLRange ta):=by
 intro pins s σ H Q I h
 refine Call_ (ld_blt I hg hm PyProof.Rows.boot_list (PyProof.Rows.callWith_type1 ?_ hs0 rfl))
 rw [hs0]
 show wpAny _ _ (spliced [(false,eval (.Call (.Name "range" p2) [a,b] [] pos2) X.env)]) _ _ s
 refine Calls.spliced_cons ?_
 refine Call_ (ld_blt I hg2 hm2 boot_range (PyProof.Rows.callWith_type1 (thn (ha pos2 pins s σ H _ I h) fun ws s1 ⟨vs,H1,I1,r1,q1⟩=>?_) (by rw [hs,hs2]) (by rw [hs2]; rfl)))
 obtain ⟨lo,n,e,l1,l2,hn,q⟩:=q1
 subst e
 obtain ⟨u1,u2,e,⟨t,ru1⟩,⟨t',ru2⟩⟩:=vals2 r1
 subst e ru1 ru2
 refine call_range_2 ?_
 refine Calls.spliced_nil ?_
 have I2:Inv X pins σ H1 { s1 with heap:=s1.heap.push { cls:=.type "range", data:=.fields #[.int lo t,.int (lo + n) t',.int 1 s1.toks] },toks:=s1.toks + 1 }:=I1.kept fun b o e=>Heap.get?_push_of_some _ e
 have hr:IsRange (s1.heap.push { cls:=.type "range", data:=.fields #[.int lo t,.int (lo + n) t',.int 1 s1.toks] }) s1.heap.objs.size lo (lo + n) 1 t t' s1.toks:=IsRange.new ..
 refine call_list_range (n:=n) (I2.ok.hd hc) hr (small_one (by omega) (by omega) (by omega) (by omega)) (by rw [rangeSize_one]; split <;> omega) (by omega) fun h' tk acc' c' hk hS' hacc=>?_
 have r:Vals ((List.range n).map fun (i:Nat)=>V.int (lo + (i:Int))) acc'.toList:=by
  refine paired_get (by rw [List.length_map,List.length_range,Array.length_toList,hacc.1]) fun j x y e1 e2=>?_
  obtain ⟨t2,e3⟩:=hacc.2 j y (by simpa using e2)
  rw [List.getElem?_map] at e1
  cases e4:(List.range n)[j]? with
  | none=>rw [e4] at e1; cases e1
  | some j' =>
   rw [e4] at e1
   cases e1
   have:j'=j:=by
    have:=List.getElem?_eq_some_iff.mp e4
    obtain ⟨h1,h2⟩:=this
    rw [List.getElem_range] at h2; exact h2.symm
   subst this
   exact ⟨t2,by rw [e3]; simp⟩
 have big:1000 < sizeLine:=by decide
 exact ⟨.ref _,_,I2.laid (t':=tk) hk (Nat.le_refl _) (show ObjOk X.prog X.w _ h' _ (.lst _) from ⟨by rw [List.length_map,List.length_range]; omega,acc'.toList,c',r,by simpa using hS'⟩),rfl,q _ (I2.hok.fresh (Nat.le_refl _))⟩
theorem ints_of:∀ {xs:List Int} {its:List Value},Vals (xs.map V.int) its->IntsAre its xs
 | [],_,h=>by cases h; exact .nil
 | x :: xs,_,h=>by
  cases h with
  | cons a r=>obtain ⟨t,rfl⟩:=a; exact .cons _ _ (ints_of r)
end
end L2
namespace L2
open PySem PySem.Spec PyProof.Rows
theorem all_tt (n:Nat):((List.range n).all fun _=>true)=true:=List.all_eq_true.mpr fun _ _=>rfl
section
variable {K:PySem.W.Frag} {H:Hp} {Q:VK}
theorem i_eqL {a b:Addr} {xs ys:List V} (h1:SqL K H a xs) (h2:SqL K H b ys) (hl:xs.length=ys.length) (hi:∀ (j:Nat) x y,xs[j]?=some x->ys[j]?=some y->EqD K H 8 x y true) (q:Q (.bl true) H):rEqL K false (.ref a) (.ref b) H Q:=by
 refine ⟨a,b,xs,ys,fun _=>true,rfl,rfl,h1,h2,hi,?_⟩
 rw [all_tt,hl,beq_self_eq_true]; exact q
end
end L2
namespace LZ
open PySem
section
variable {prog:Program} {w:World} {A:Around} {E:Value->Shared->Prop} {s:Shared}
theorem list_getattr_none:typeLookup (.type "list") "__getattr__" = pure none:=by rw [typeLookup_type,builtinLookup_eq_fast]; kernel_rfl
theorem list_keys_none:typeLookup (.type "list") "keys" = pure none:=by rw [typeLookup_type,builtinLookup_eq_fast]; kernel_rfl
theorem entry_list_getattribute:entryFor table "list.__getattribute__" = some Builtin.«object.__getattribute__» :=
 entryFor_alias (id' := "object.__getattribute__") (by kernel_rfl) (by decide +kernel) (by decide +kernel) (by kernel_rfl)
theorem meets_miss_list (a:Addr) (xs:Array Value) (m:Nat) (sl:Array (Option Value)) (u:Tok) :
  Meets (Builtin.«object.__getattribute__» ⟨[.ref a,.str "keys" u],[]⟩) (fun A R s=>s.heap.get? a=some { cls:=.type "list", dict:=none,data:=.seq xs m,slots:=sl }/\raisesAttr (.ref a) "keys" A R s) :=
 Meets.of_wp fun prog w A R s hs=>by
  obtain ⟨hp,g,d,tk,os⟩:=s
  obtain ⟨hx,hs⟩:=hs
  have hT:(⟨hp,g,d,tk,os⟩:Shared).TypeIs (.ref a) "list" := ⟨_,hx,rfl⟩
  have hmiss:=list_keys_none
  have hname:(["__module__", "__name__", "__qualname__", "__doc__", "__annotations__"]:List Str).contains "keys" = false:=by decide +kernel
  unfold Builtin.«object.__getattribute__»
  repeat (any_goals (first | assumption | wp_step))
  try simp only [hname,Bool.false_eq_true,if_false]
  repeat (any_goals (first | assumption | wp_step))
  exact wpAny_raiseAttrError hs.1 hs.2 (attrMsg_fits (by decide +kernel) (by decide +kernel))
theorem keys_missL {a:Addr} {xs:Array Value} {m:Nat} {sl:Array (Option Value)} {Q:Option Value->Shared->Prop} (hx:s.heap.get? a=some { cls:=.type "list", dict:=none,data:=.seq xs m,slots:=sl }) (hA:A.handled=none)
  (h:∀ h' tk,(∀ c o,s.heap.get? c=some o->h'.get? c=some o)->Q none { s with heap:=h',toks:=tk }):wpAny (model prog w) A (getAttr? (.ref a) "keys") Q E s:=by
 obtain ⟨hp,g,d,tk,os⟩:=s
 have hT:∀ tk',(⟨hp,g,d,tk',os⟩:Shared).TypeIs (.ref a) "list" := fun _=>⟨_,hx,rfl⟩
 have f1:=sub_AttributeError
 have f3:=F.slot_list_getattribute.lookup
 have f4:=F.slot_list_getattribute.bind (.ref a)
 have f5:=list_getattr_none
 unfold getAttr? getAttrBy? getAttrBy
 repeat (any_goals (first | assumption | exact hT _ | ((with_reducible show wpAny _ _ (call (Value.builtin "list.__getattribute__") _ _) _ _ _); refine call_meets F.slot_list_getattribute (hT _) entry_list_getattribute (F.args_list_getattribute_2 _ _) (meets_miss_list a xs m sl _) ⟨hx,hA,fun h' tk' e hx'=>?_⟩) | wp_step))
 obtain ⟨t',u',he⟩:=hx'.there
 show wpAny _ _ (getattributeRaised _ _ _ _ _ _ _) _ _ _
 unfold getattributeRaised
 repeat (any_goals (first | assumption | wp_step))
 all_goals exact h _ _ hx'.keeps
end
section
variable {prog:Program} {w:World} {K:Type} [DecidableEq K] {knd:KeyKind prog w K} {A:Around} {R:Result->Shared->Prop}
noncomputable def PairsAt (h:Heap) (xs:Array Value) (ka va:Nat->Value) (it d:Addr):Prop:=∀ k,k < xs.size->∃ (T:Addr) (o:Obj) (n:Nat),xs[k]?=some (.ref T)/\h.get? T=some o/\o.cls=.type "tuple" /\ o.data=.seq #[ka k,va k] n/\T ≠ it/\T ≠ d
theorem PairsAt.keep {h h':Heap} {xs:Array Value} {ka va:Nat->Value} {it d:Addr} (p:PairsAt h xs ka va it d) (hk:∀ c o,c ≠ it->c ≠ d->h.get? c=some o->h'.get? c=some o):PairsAt h' xs ka va it d:=fun k hlt =>
 let ⟨T,o,n,e1,e2,e3,e4,e5,e6⟩:=p k hlt; ⟨T,o,n,e1,hk T o e5 e6 e2,e3,e4,e5,e6⟩
theorem dict_loopL {it l d:Addr} {xs:Array Value} {ka va:Nat->Value} (nid:d ≠ it) (nil:l ≠ it) (ndl:l ≠ d) (hh:A.handled=none) (ks:Nat->K) (hk:∀ k,k < xs.size->knd.is (ks k) (ka k)=true) (hsz:xs.size<=sizeLine) :
  ∀ (m k:Nat) (i:Int) (s:Shared) (kvs:List (K × Value)),xs.size - k=m->k<=xs.size->s.heap.IsListIter it l k->s.heap.IsList l xs->PairsAt s.heap xs ka va it d->s.heap.DictOf knd d kvs->kvs.length<=k ->
  (∀ h' tk,h'.DictOf knd d (storedAll kvs ((List.range (xs.size - k)).map fun j=>(ks (k + j),va (k + j))))->(∀ c o,c ≠ it->c ≠ d->s.heap.get? c=some o->h'.get? c=some o)->R (.ok (.ret .none)) { s with heap:=h',toks:=tk }) ->
  codeAny (model prog w) A (.builtin "dict.update.loop" ⟨[.ref d,.ref it,rawInt i,.none],[]⟩) R s:=by
 intro m
 induction m with
 | zero =>
  intro k i s kvs hm hkk hit hl hp hd hkl hR
  have hin:k=xs.size:=by exact om266 hm hkk
  refine codeAny_builtin entry_upd ?_
  rw [Around.under_plainId plain_upd _]
  show wpAny _ A.in1 (pyNext (.ref it) >>= _) _ _ s
  refine wpAny_bind (wpAny_pyNext_list_end (show A.in1.handled=none from hh) hit hl (by rw [hin]; simp) fun h' hkeep=>?_)
  show wpAny _ _ (Builtin.Dict.addKeywords d [] >>= _) _ _ _
  refine wpAny_bind (wpAny_pure (wpAny_pure ?_))
  have hd':h'.DictOf knd d kvs:=by
   obtain ⟨o,es,ep,e1,r⟩:=hd
   exact ⟨o,es,ep,hkeep d o nid e1,r⟩
  refine hR h' s.toks ?_ fun c o c1 _ e=>hkeep c o c1 e
  rw [hm]
  exact hd'
 | succ m ih =>
  intro k i s kvs hm hkk hit hl hp hd hkl hR
  have hlt:k < xs.size:=by exact om268 hm hkk
  obtain ⟨T,oT,n,hx,hT,hTc,hTd,nTi,nTd⟩:=hp k hlt
  refine codeAny_builtin entry_upd ?_
  rw [Around.under_plainId plain_upd _]
  show wpAny _ A.in1 (pyNext (.ref it) >>= _) _ _ s
  refine wpAny_bind (wpAny_pyNext_list_item hit hl hx fun h1 hit1 hs1=>?_)
  have k1:∀ c o,c ≠ it->s.heap.get? c=some o->h1.get? c=some o:=fun c o n1 e=>hs1.extBut c o n1 e
  have hd1:h1.DictOf knd d kvs:=by
   obtain ⟨o,es,ep,e1,r⟩:=hd
   exact ⟨o,es,ep,k1 d o nid e1,r⟩
  have hT1:=k1 T oT nTi hT
  refine wpAny_bind (wpAny_holding ?_)
  have hTy:(Shared.TypeIs { s with heap:=h1 } (.ref T) "tuple"):=⟨_,hT1,hTc⟩
  refine wpAny_bind (wpAny_tryCatch ?_)
  unfold Builtin.Dict.pairItems
  refine wpAny_bind (wpAny_typeOf hTy ?_)
  rw [if_pos (by decide)]
  refine wpAny_bind (wpAny_seqItems hT1 hTd (wpAny_pure ?_))
  show wpAny _ _ (holding [ka k,va k] (dictSet d (ka k) (va k))) _ _ _
  refine wpAny_holding (wpAny_dictSet_pairs (hk k hlt) hd1 (fun h2 hd2 hs2=>?_) (by exact om269 hsz hkl hlt))
  have k2:∀ c o,c ≠ it->c ≠ d->s.heap.get? c=some o->h2.get? c=some o:=fun c o n1 n2 e=>hs2.extBut c o n2 (k1 c o n1 e)
  refine wpAny_pure ⟨plainId_quiet plain_upd _,ih (k + 1) (i + 1) _ _ (by exact om270 hm hlt) (by exact om271 hlt) (hit1.extBut hs2.extBut (Ne.symm nid)) (hl.at fun o e=>k2 l o nil ndl e) (hp.keep k2) hd2 (Nat.le_trans (stored_len _ _ _) (by exact om45 hkl)) fun h3 tk hd3 hk3=>?_⟩
  refine hR h3 tk ?_ fun c o c1 c2 e=>hk3 c o c1 c2 (k2 c o c1 c2 e)
  rw [show xs.size - k=(xs.size - (k + 1)) + 1 from by exact om274 hm hlt,List.range_succ_eq_map,List.map_cons,List.map_map]
  have e:(List.range (xs.size - (k + 1))).map (fun j=>(ks (k + 1 + j),va (k + 1 + j)))=(List.range (xs.size - (k + 1))).map ((fun j=>(ks (k + j),va (k + j))) ∘ Nat.succ):=List.map_congr_left fun j _=>by simp [Function.comp,Nat.add_assoc,Nat.add_comm 1]
  rw [e] at hd3
  exact hd3
theorem call_dictL {E:Value->Shared->Prop} {s:Shared} {l:Addr} {xs:Array Value} {ka va:Nat->Value} {Q:Value->Shared->Prop} (hh:A.handled=none) (ks:Nat->K) (hk:∀ k,k < xs.size->knd.is (ks k) (ka k)=true) (hsz:xs.size<=sizeLine) (hl:PlainL s.heap l xs)
  (hp:∀ k,k < xs.size->∃ (T:Addr) (o:Obj) (n:Nat),xs[k]?=some (.ref T)/\s.heap.get? T=some o/\o.cls=.type "tuple" /\ o.data=.seq #[ka k,va k] n)
  (h:∀ h' tk,h'.DictOf knd s.heap.objs.size (storedAll [] ((List.range xs.size).map fun j=>(ks j,va j)))->(∀ c o,s.heap.get? c=some o->h'.get? c=some o)->Q (.ref s.heap.objs.size) { s with heap:=h',toks:=tk }) :
  wpAny (model prog w) A (call (.type "dict") [.ref l]) Q E s:=by
 refine callType_codes (Q₁:=fun obj s1=>obj=.ref s.heap.objs.size/\s1={ s with heap:=s.heap.push { cls:=.type "dict", data:=.dict #[] } }) called_dict (typeCall_dict_1 _) F.entry_dict_init (code_dict_new _ ⟨rfl,rfl⟩) ?_
 rintro obj s1 ⟨rfl,rfl⟩
 have up:∀ c o,s.heap.get? c=some o->(s.heap.push { cls:=.type "dict", data:=.dict #[] }).get? c=some o:=fun c o e=>Heap.get?_push_of_some _ e
 have hnew:(s.heap.push { cls:=.type "dict", data:=.dict #[] }).DictOf knd s.heap.objs.size []:=Heap.DictOf.new s.heap
 have lt:∀ {c o},s.heap.get? c=some o->s.heap.objs.size ≠ c:=fun e=>Nat.ne_of_gt (Heap.lt_size e)
 obtain ⟨⟨c0,d0,dt0,sl0⟩,n0,ho,hoc,hod,hos⟩:=hl
 have hoc:c0=.type "list" := hoc
 have hod:d0=none:=hod
 have hos:dt0=.seq xs n0:=hos
 subst hoc hod hos
 refine ⟨hnew.typeIs,F.args_dict_init_2 _ _,?_⟩
 unfold Builtin.«dict.__init__»
 refine wpAny_bind ?_
 unfold Builtin.Dict.selfAndRest
 refine wpAny_bind (wpAny_notOrdered_dict hnew.typeIs ?_)
 show wpAny _ _ (pure (s.heap.objs.size,[Value.ref l])) _ _ _
 refine wpAny_pure ?_
 show wpAny _ _ (Builtin.Dict.updateFrom "dict.__init__" s.heap.objs.size (.ref l) [] .none) _ _ _
 unfold Builtin.Dict.updateFrom
 have hzT:Shared.TypeIs { s with heap:=s.heap.push { cls:=.type "dict", data:=.dict #[] } } (.ref l) "list" := ⟨_,up _ _ ho,rfl⟩
 refine wpAny_bind (wpAny_typeOf hzT ?_)
 rw [if_pos (by decide)]
 refine wpAny_bind (keys_missL (up _ _ ho) (show A.in1.in1.handled=none from hh) fun h3 tk k3=>?_)
 simp only [Option.isNone_none,if_true]
 refine wpAny_bind (wpAny_rule ?_)
 have hL3:h3.IsList l xs:=⟨_,k3 _ _ (up _ _ ho),rfl,n0,rfl⟩
 have hd3:h3.DictOf knd s.heap.objs.size []:=by
  obtain ⟨o,es,ep,e1,r⟩:=hnew
  exact ⟨o,es,ep,k3 _ _ e1,r⟩
 obtain ⟨od,es,ep,hd3',r3⟩:=id hd3
 refine wpAny_bind (wpAny_pyIter_list hL3 ?_)
 refine wpAny_pure ⟨plainId_quiet plain_upd _,?_⟩
 have up4:∀ c o,h3.get? c=some o->(h3.push { cls:=.type "list_iterator", data:=.fields #[.ref l,.int 0 0] }).get? c=some o:=fun c o e=>Heap.get?_push_of_some _ e
 have lt3:∀ {c o},h3.get? c=some o->c ≠ h3.objs.size:=fun e=>Nat.ne_of_lt (Heap.lt_size e)
 refine dict_loopL (it:=h3.objs.size) (l:=l) (d:=s.heap.objs.size) (ka:=ka) (va:=va) (lt3 hd3') (lt3 (k3 _ _ (up _ _ ho))) (lt ho).symm (show A.in1.handled=none from hh) ks hk hsz xs.size 0 0 _ [] (by simp) (Nat.zero_le _) ⟨_,Heap.get?_push_size _ rfl,rfl,rfl⟩ (hL3.at fun o e=>up4 _ o e) (fun k hlt=>?_) ⟨od,es,ep,up4 _ _ hd3',r3⟩ (Nat.le_refl _) fun h5 tk5 hd5 hk5=>?_
 ·obtain ⟨T,o,n,e1,e2,e3,e4⟩:=hp k hlt
  exact ⟨T,o,n,e1,up4 _ _ (k3 _ _ (up _ _ e2)),e3,e4,lt3 (k3 _ _ (up _ _ e2)),(lt e2).symm⟩
 ·refine ⟨rfl,h h5 tk5 (by simpa using hd5) fun c o e=>hk5 c o (lt3 (k3 _ _ (up _ _ e))) (lt e).symm (up4 _ _ (k3 _ _ (up _ _ e)))⟩
end
end LZ
namespace L2
open PySem PySem.Spec PyProof.Rows
noncomputable def PrAt (H:Hp) (v:V) (p:Str × V):Prop:=∃ b,v=.ref b/\H b=some (.tup [.str p.1,p.2])
noncomputable def keyed (ps:List (Str × V)):List (Key × V):=ps.map fun p=>((Sum.inr p.1:Key),p.2)
section
variable {X:Cx} {a:Expr} {ta:TA} {p1 pos1:Pos}
noncomputable def tDpairs (K:PySem.W.Frag) (ta:TA):TE:=fun σ H Q=>ta σ H fun vs H1=>∃ l xs ps,vs=[.ref l]/\SqL K H1 l xs/\xs.length < 1000/\Paired (PrAt H1) xs ps/\∀ d,H1 d=none->Q (.ref d) (upd H1 d (.dK (putAll [] (keyed ps))))
theorem pr_at {H:Hp}:∀ {xs:List V} {ps:List (Str × V)},Paired (PrAt H) xs ps->∀ (j:Nat) x,xs[j]?=some x->∃ y,ps[j]?=some y/\PrAt H x y
 | _,_,.nil=>fun j x e=>by simp at e
 | _,_,.cons (a:=a) (b:=b) h t=>fun j x e=>by
  cases j with
  | zero=>simp at e; subst e; exact ⟨_,rfl,h⟩
  | succ j=>simp at e; obtain ⟨y,e',f⟩:=pr_at t j x e; exact ⟨y,by simpa using e',f⟩
theorem pr_len {H:Hp}:∀ {xs:List V} {ps:List (Str × V)},Paired (PrAt H) xs ps->xs.length=ps.length
 | _,_,.nil=>rfl
 | _,_,.cons h t=>by simp [pr_len t]
theorem pe_dpairs (hc:X.calm=true) (hg:Gl X "dict") (hm:X.mg "dict" = none) (ha:PA X [a] ta) (hs:starEach [a] X.env=[(false,eval a X.env)]:=by rfl):PE X (.Call (.Name "dict" p1) [a] [] pos1) (tDpairs X.K ta):=by
 intro pins s σ H Q I h
 refine Call_ (ld_blt I hg hm PyProof.Rows.boot_dict (PyProof.Rows.callWith_type1 (thn (ha pos1 pins s σ H _ I h) fun us s1 ⟨vs,H1,I1,r1,q1⟩=>?_) hs rfl))
 obtain ⟨l,xs,ps,e,hl,hsm,hpr,q⟩:=q1
 subst e
 obtain ⟨u1,e,ru1⟩:=vals1 r1
 subst e
 cases ru1
 obtain ⟨its,rv,pl,_⟩:=I1.list hl
 have hits:its.length=xs.length:=rv.length.symm
 have hps:=pr_len hpr
 have big:1000 < sizeLine:=by decide
 have each:∀ k,∃ g:Value × Value × Str,k < its.length->∃ (T:Addr) (o:Obj) (m:Nat) (v:V) (t:Tok),its[k]?=some (.ref T)/\s1.heap.get? T=some o/\o.cls=.type "tuple" /\ o.data=.seq #[g.1,g.2.1] m/\g.1=.str g.2.2 t/\ps[k]?=some (g.2.2,v)/\RelV v g.2.1:=fun k=>by
  by_cases hk:k < its.length
  ·have hx:xs[k]?=some (xs[k]'(by exact om3 hits hps hk)):=by simp
   obtain ⟨y,hy,b,eb,hb⟩:=pr_at hpr k _ hx
   obtain ⟨u,hu,ru⟩:=rv.get hx
   rw [eb] at ru
   cases ru
   obtain ⟨its2,rv2,⟨o,e1,e2,n,e3⟩,_⟩:=I1.tuple (SqT.of hb)
   obtain ⟨w1,w2,e4,r1,r2⟩:=vals2 rv2
   subst e4
   obtain ⟨t,et⟩:=r1
   subst et
   exact ⟨(.str y.1 t,w2,y.1),fun _=>⟨b,o,n,y.2,t,hu,e1,e2,e3,rfl,hy,r2⟩⟩
  ·exact ⟨(.none,.none,Str.empty),fun h=>absurd h hk⟩
 let g:=fun k=>Classical.choose (each k)
 have hg':∀ k,k < its.length->∃ (T:Addr) (o:Obj) (m:Nat) (v:V) (t:Tok),its[k]?=some (.ref T)/\s1.heap.get? T=some o/\o.cls=.type "tuple" /\ o.data=.seq #[(g k).1,(g k).2.1] m/\(g k).1=.str (g k).2.2 t/\ps[k]?=some ((g k).2.2,v)/\RelV v (g k).2.1:=fun k=>Classical.choose_spec (each k)
 refine LZ.call_dictL (knd:=mixKind X.prog X.w) (l:=l) (xs:=its.toArray) (ka:=fun k=>(g k).1) (va:=fun k=>(g k).2.1) (I1.ok.hd hc) (fun k=>(Sum.inr (g k).2.2:Key)) (fun k hk=>?_) (by rw [List.size_toArray,hits]; omega) pl (fun k hk=>?_) fun h3 tk hd3 kept=>?_
 ·rw [List.size_toArray] at hk
  obtain ⟨T,o,m,v,t,_,_,_,_,e5,_⟩:=hg' k hk
  show (mixKind X.prog X.w).is _ (g k).1=true
  rw [e5]
  exact mixKind_str _ _ _ _
 ·rw [List.size_toArray] at hk
  obtain ⟨T,o,m,v,t,e1,e2,e3,e4,_⟩:=hg' k hk
  exact ⟨T,o,m,by simpa using e1,e2,e3,e4⟩
 ·rw [List.size_toArray] at hd3
  have kv:KV (keyed ps) ((List.range its.length).map fun j=>((Sum.inr (g j).2.2:Key),(g j).2.1)):=by
   unfold keyed
   refine paired_get (by simp [hits,hps]) fun j x y e1 e2=>?_
   rw [List.getElem?_map] at e1 e2
   have hj:j < its.length:=by
    cases e:(List.range its.length)[j]? with
    | none=>rw [e] at e2; cases e2
    | some q=>have:=(List.getElem?_eq_some_iff.mp e).1; simpa using this
   obtain ⟨T,o,m,v,t,_,_,_,_,_,e6,e7⟩:=hg' j hj
   rw [e6] at e1
   rw [List.getElem?_range hj] at e2
   cases e1
   cases e2
   exact ⟨rfl,e7⟩
  have hnew:H1 s1.heap.objs.size=none:=I1.hok.fresh (Nat.le_refl _)
  have I3:Inv X pins σ (upd H1 s1.heap.objs.size (.dK (putAll [] (keyed ps)))) { s1 with heap:=h3,toks:=tk }:=I1.laid kept (Nat.le_refl _) ⟨by
    have:=length_putAll (keyed ps) []
    have e:(keyed ps).length=ps.length:=by unfold keyed; simp
    simp only [List.length_nil] at this
    omega,beq_eq_false_iff_ne.mpr (by
    have:@LT.lt Nat _ sysModules s1.heap.objs.size:=I1.big
    intro e
    have e':@Eq Nat s1.heap.objs.size sysModules:=e
    omega),_,kv_all kv .nil,hd3⟩
  exact ⟨.ref s1.heap.objs.size,_,I3,rfl,q _ hnew⟩
end
end L2
namespace LYT
open PySem LZ
section
variable {prog:Program} {w:World} {A:Around} {E:Value->Shared->Prop} {s:Shared}
theorem nextT_item {c t:Addr} {i:Nat} {its:Array Value} {x:Value} {Q:Value->Shared->Prop} (hc:s.heap.IsTupleIter c t i) (ht:s.heap.IsTuple t its) (hx:its[i]?=some x)
  (hQ:∀ h',h'.IsTupleIter c t (i + 1)->Heap.SameBut c s.heap h'->Q x { s with heap:=h' }):wpAny (model prog w) A (Builtin.SmallTypes.nextOf (.ref c)) Q E s:=by
 obtain ⟨o,ho,h1,h2⟩:=id hc
 obtain ⟨ot,hot,_,nt,hdt⟩:=ht
 unfold Builtin.SmallTypes.nextOf
 refine wpAny_bind (wpAny_callSpecial?_slot (name:=Str.ofString "__next__") hc.typeIs F.slot_tuple_iterator_next (wpAny_call_entry F.slot_tuple_iterator_next hc.typeIs F.entry_tuple_iterator_next ?_ (F.args_tuple_iterator_next_1 _)))
 show wpAny _ _ (field (.ref c) 0 >>= _) _ _ s
 refine wpAny_bind (wpAny_field ho h2 (x:=.ref t) rfl ?_)
 rw [if_neg (show ¬ ((Value.ref t == Value.none)=true) from Bool.false_ne_true)]
 show wpAny _ _ (field (.ref c) 1 >>= _) _ _ s
 refine wpAny_bind (wpAny_field ho h2 (x:=.int i 0) rfl ?_)
 show wpAny _ _ (seqItems? _ >>= _) _ _ _
 refine wpAny_bind (wpAny_seqItems hot hdt ?_)
 simp only [Int.toNat_natCast,hx]
 refine wpAny_bind (wpAny_setField ho h2 (by simp) (wpAny_pure ⟨x,rfl,wpAny_pure (hQ _ ⟨_,Heap.get?_update_self _ ho (Obj.isFreed_of_fields (Obj.data_mapFields h2 _)),(Obj.cls_mapFields ..).trans h1,?_⟩ (Heap.SameBut.update ..))⟩))
 rw [Obj.data_mapFields h2]
 simp [rawInt]
theorem nextT_end {c t:Addr} {i:Nat} {its:Array Value} {Q:Value->Shared->Prop} (hh:A.handled=none) (hc:s.heap.IsTupleIter c t i) (ht:s.heap.IsTuple t its) (hx:its[i]?=none)
  (hE:∀ h' e,Heap.ExtBut c s.heap h'->(∃ o,h'.get? e=some o/\o.cls=.type "StopIteration")->E (.ref e) { s with heap:=h' }):wpAny (model prog w) A (Builtin.SmallTypes.nextOf (.ref c)) Q E s:=by
 obtain ⟨o,ho,h1,h2⟩:=id hc
 obtain ⟨ot,hot,_,nt,hdt⟩:=ht
 unfold Builtin.SmallTypes.nextOf
 refine wpAny_bind (wpAny_callSpecial?_slot (name:=Str.ofString "__next__") hc.typeIs F.slot_tuple_iterator_next (wpAny_call_entry F.slot_tuple_iterator_next hc.typeIs F.entry_tuple_iterator_next ?_ (F.args_tuple_iterator_next_1 _)))
 show wpAny _ _ (field (.ref c) 0 >>= _) _ _ s
 refine wpAny_bind (wpAny_field ho h2 (x:=.ref t) rfl ?_)
 rw [if_neg (show ¬ ((Value.ref t == Value.none)=true) from Bool.false_ne_true)]
 show wpAny _ _ (field (.ref c) 1 >>= _) _ _ s
 refine wpAny_bind (wpAny_field ho h2 (x:=.int i 0) rfl ?_)
 show wpAny _ _ (seqItems? _ >>= _) _ _ _
 refine wpAny_bind (wpAny_seqItems hot hdt ?_)
 simp only [Int.toNat_natCast,hx]
 refine wpAny_bind (wpAny_rule (wpAny_bind (wpAny_setField ho h2 (by simp) ?_)))
 refine wpAny_bind (m:=newExc (.type "StopIteration") []) ?_
 simp only [newExc,newTuple]
 refine wpAny_bind (wpAny_newObj_type ?_ (by size_fits))
 refine wpAny_bind (m:=firstArgMember _ _) (wpAny_of_eq (a:=Value.none) rfl ?_)
 refine wpAny_newObj_type ?_ (by size_fits)
 simp only [raiseNew]
 refine wpAny_bind (wpAny_handled ?_)
 rw [show A.in1.handled=none from hh]
 exact wpAny_bind (wpAny_pure (wpAny_throw (hE _ _ (((Heap.SameBut.update ..).extBut.push _).push _) ⟨_,Heap.get?_push_size _ rfl,rfl⟩)))
theorem next_end {z TI TO i1 i2 l:Addr} {f0:Value} {f1:Bool} {k:Nat} {xs:Array Value} {a b:Value} {Q:Option Value->Shared->Prop} (hh:A.handled=none) (D:Apart5 z TI TO i1 i2 l)
  (hz:IsZ s.heap z TI TO f0 f1) (hf:(f0=.none/\f1=false/\∃ a b,IsPair s.heap TO a b)\/∃ (T:Addr) (oT:Obj),f0=rawInt (T:Nat)/\s.heap.get? T=some oT) (hTI:IsPair s.heap TI (.ref i1) (.ref i2)) (h1:s.heap.IsTupleIter i1 l k) (hl:s.heap.IsTuple l xs) (hv:xs[k]?=none)
  (hQ:∀ h',(∀ c o,c ≠ z->c ≠ i1->s.heap.get? c=some o->h'.get? c=some o)->Q none { s with heap:=h' }):wpAny (model prog w) A (pyNext (.ref z)) Q E s:=by
 have hTy:s.TypeIs (.ref z) "zip" := ⟨_,hz,rfl⟩
 unfold pyNext
 refine wpAny_bind (wpAny_attempt (wpAny_callSpecial?_slot (name:=Str.ofString "__next__") hTy F.slot_zip_next
  (wpAny_call_entry F.slot_zip_next hTy F.entry_zip_next ?_ (F.args_zip_next_1 _))))
 show wpAny _ _ (field (.ref z) 2 >>= _) _ _ _
 refine wpAny_bind (wpAny_field hz rfl (x:=.bool false) rfl ?_)
 show wpAny _ _ (field (.ref z) 3 >>= _) _ _ _
 refine wpAny_bind (wpAny_field hz rfl (x:=.ref TI) rfl ?_)
 refine wpAny_bind (wpAny_seqItems hTI rfl ?_)
 show wpAny _ _ (Builtin.SmallTypes.ownedTupleIsFree (.ref z) >>= _) _ _ _
 refine wpAny_bind ?_
 unfold Builtin.SmallTypes.ownedTupleIsFree
 refine wpAny_bind (wpAny_field hz rfl (x:=f0) rfl ?_)
 have fin:∀ h' e,(∀ c o,c ≠ z->c ≠ i1->s.heap.get? c=some o->h'.get? c=some o)->(∃ o,h'.get? e=some o/\o.cls=.type "StopIteration") ->
   wpAny (model prog w) A (do if <-isInstance (.ref e) (.type "StopIteration") then pure none else throw (.ref e)) Q E { s with heap:=h' }:=fun h' e hk ⟨o,ho,hc⟩ =>
  wpAny_bind (wpAny_isInstance (T := "StopIteration") (b:=true) ⟨o,ho,hc⟩ isSubtype_stop (wpAny_pure (hQ _ hk)))
 rcases hf with ⟨e1,e2,a,b,hTO⟩ | ⟨T,oT,e1,hT⟩
 ·subst e1 e2
  refine wpAny_pure ?_
  simp only [if_true]
  refine wpAny_bind (wpAny_rule ?_)
  refine wpAny_bind (wpAny_field hz rfl (x:=.ref TO) rfl ?_)
  refine wpAny_bind (wpAny_setField_rec hz (by simp) fun h₁ hz₁ hs₁=>?_)
  replace hz₁:IsZ h₁ z TI TO .ellipsis false:=hz₁
  refine wpAny_bind ?_
  simp only [List.zipIdx_cons,List.zipIdx_nil,List.forIn_cons,List.forIn_nil]
  refine wpAny_bind (wpAny_bind (wpAny_onRaise ?_))
  show wpAny _ _ (Builtin.SmallTypes.nextOf (.ref i1) >>= _) _ _ _
  refine wpAny_bind (nextT_end hh (h1.extBut hs₁.extBut D.i1z) (hl.extBut hs₁.extBut D.lz) hv fun h₂ e hs₂ he=>?_)
  obtain ⟨oe,hoe,hce⟩:=he
  have hz₂:IsZ h₂ z TI TO .ellipsis false:=hs₂ _ _ D.i1z.symm hz₁
  have hez:e ≠ z:=fun x=>by subst x; rw [hz₂] at hoe; cases hoe; simp at hce
  refine wpAny_setField_rec hz₂ (by simp) fun h₃ _ hs₃=>?_
  exact fin h₃ e (fun c o c1 c3 x=>hs₃.extBut _ _ c1 (hs₂ _ _ c3 (hs₁.extBut _ _ c1 x))) ⟨oe,hs₃.extBut _ _ hez hoe,hce⟩
 ·subst e1
  show wpAny _ _ (loadIfAlive ((T:Int).toNat) >>= _) _ _ _
  rw [Int.toNat_natCast]
  refine wpAny_bind (alive hT ?_)
  simp only [Option.isNone_some,Bool.false_eq_true,if_false]
  refine wpAny_bind (wpAny_field hz rfl (x:=.bool f1) rfl ?_)
  cases f1 with
  | false =>
   simp only [show (Value.bool false != Value.bool true)=true from rfl,if_true]
   refine wpAny_bind (wpAny_setField_rec hz (by simp) fun h₁ hz₁ hs₁=>wpAny_pure ?_)
   replace hz₁:IsZ h₁ z TI TO (rawInt T) true:=hz₁
   simp only [Bool.false_eq_true,if_false,List.forIn_toArray,List.forIn_cons,List.forIn_nil]
   refine wpAny_bind (wpAny_bind (wpAny_bind (wpAny_holding ?_)))
   show wpAny _ _ (Builtin.SmallTypes.nextOf (.ref i1) >>= _) _ _ _
   refine wpAny_bind (nextT_end hh (h1.extBut hs₁.extBut D.i1z) (hl.extBut hs₁.extBut D.lz) hv fun h₂ e hs₂ he=>?_)
   exact fin h₂ e (fun c o c1 c3 x=>hs₂ _ _ c3 (hs₁.extBut _ _ c1 x)) he
  | true =>
   simp only [show (Value.bool true != Value.bool true)=false from rfl,Bool.false_eq_true,if_false]
   refine wpAny_pure ?_
   simp only [Bool.false_eq_true,if_false,List.forIn_toArray,List.forIn_cons,List.forIn_nil]
   refine wpAny_bind (wpAny_bind (wpAny_bind (wpAny_holding ?_)))
   show wpAny _ _ (Builtin.SmallTypes.nextOf (.ref i1) >>= _) _ _ _
   refine wpAny_bind (nextT_end hh h1 hl hv fun h₂ e hs₂ he=>?_)
   exact fin h₂ e (fun c o c1 c3 x=>hs₂ _ _ c3 x) he

theorem next_first {z TI TO i1 i2 l:Addr} {m:Addr} {k:Nat} {xs ys:Array Value} {v u a b:Value} {Q:Option Value->Shared->Prop} (D:Apart5 z TI TO i1 i2 l) (mz:m ≠ z) (mTO:m ≠ TO) (mi1:m ≠ i1) (mi2:m ≠ i2)
  (hz:IsZ s.heap z TI TO .none false) (hTI:IsPair s.heap TI (.ref i1) (.ref i2)) (hTO:IsPair s.heap TO a b) (h1:s.heap.IsTupleIter i1 l k) (h2:s.heap.IsTupleIter i2 m k) (hl:s.heap.IsTuple l xs) (hm:s.heap.IsTuple m ys) (hv:xs[k]?=some v) (hc:ys[k]?=some u)
  (hQ:∀ h',IsZ h' z TI TO (rawInt s.heap.objs.size) false->(∃ a b,IsPair h' TO a b)->h'.IsTupleIter i1 l (k + 1)->h'.IsTupleIter i2 m (k + 1)->IsPair h' s.heap.objs.size v u->h'.objs.size=s.heap.objs.size + 1 ->
   (∀ c o,c ≠ z->c ≠ TO->c ≠ i1->c ≠ i2->s.heap.get? c=some o->h'.get? c=some o)->Q (some (.ref s.heap.objs.size)) { s with heap:=h' }) :
  wpAny (model prog w) A (pyNext (.ref z)) Q E s:=by
 have hT:s.TypeIs (.ref z) "zip" := ⟨_,hz,rfl⟩
 unfold pyNext
 refine wpAny_bind (wpAny_attempt (wpAny_callSpecial?_slot (name:=Str.ofString "__next__") hT F.slot_zip_next
  (wpAny_call_entry F.slot_zip_next hT F.entry_zip_next ?_ (F.args_zip_next_1 _))))
 show wpAny _ _ (field (.ref z) 2 >>= _) _ _ _
 refine wpAny_bind (wpAny_field hz rfl (x:=.bool false) rfl ?_)
 show wpAny _ _ (field (.ref z) 3 >>= _) _ _ _
 refine wpAny_bind (wpAny_field hz rfl (x:=.ref TI) rfl ?_)
 refine wpAny_bind (wpAny_seqItems hTI rfl ?_)
 show wpAny _ _ (Builtin.SmallTypes.ownedTupleIsFree (.ref z) >>= _) _ _ _
 refine wpAny_bind ?_
 unfold Builtin.SmallTypes.ownedTupleIsFree
 refine wpAny_bind (wpAny_field hz rfl (x:=.none) rfl (wpAny_pure ?_))
 simp only [if_true]
 refine wpAny_bind (wpAny_rule ?_)
 refine wpAny_bind (wpAny_field hz rfl (x:=.ref TO) rfl ?_)
 refine wpAny_bind (wpAny_setField_rec hz (by simp) fun h₁ hz₁ hs₁=>?_)
 replace hz₁:IsZ h₁ z TI TO .ellipsis false:=hz₁
 refine wpAny_bind ?_
 simp only [List.zipIdx_cons,List.zipIdx_nil,List.forIn_cons,List.forIn_nil]
 refine wpAny_bind (wpAny_bind (wpAny_onRaise ?_))
 show wpAny _ _ (Builtin.SmallTypes.nextOf (.ref i1) >>= _) _ _ _
 refine wpAny_bind (nextT_item (h1.extBut hs₁.extBut D.i1z) (hl.extBut hs₁.extBut D.lz) hv fun h₂ h1₂ hs₂=>wpAny_pure ?_)
 have hTO₂:IsPair h₂ TO a b:=hs₂.extBut _ _ D.TOi1 (hs₁.extBut _ _ D.TOz hTO)
 refine wpAny_bind (wpAny_seqItems hTO₂ rfl ?_)
 refine wpAny_bind (wpAny_updateSeq_pair hTO₂ fun h₃ hTO₃ hs₃=>?_)
 replace hTO₃:IsPair h₃ TO v b:=hTO₃
 refine wpAny_bind (wpAny_letGo (wpAny_pure ?_))
 refine wpAny_bind (wpAny_bind (wpAny_onRaise ?_))
 show wpAny _ _ (Builtin.SmallTypes.nextOf (.ref i2) >>= _) _ _ _
 have h2₃:h₃.IsTupleIter i2 m k:=((h2.extBut hs₁.extBut D.i2z).extBut hs₂.extBut D.i12.symm).extBut hs₃.extBut D.TOi2.symm
 refine wpAny_bind (nextT_item h2₃ (((hm.extBut hs₁.extBut mz).extBut hs₂.extBut mi1).extBut hs₃.extBut mTO) hc fun h₄ h2₄ hs₄=>wpAny_pure ?_)
 have hTO₄:IsPair h₄ TO v b:=hs₄.extBut _ _ D.TOi2 hTO₃
 refine wpAny_bind (wpAny_seqItems hTO₄ rfl ?_)
 refine wpAny_bind (wpAny_updateSeq_pair hTO₄ fun h₅ hTO₅ hs₅=>?_)
 replace hTO₅:IsPair h₅ TO v u:=hTO₅
 refine wpAny_bind (wpAny_letGo (wpAny_pure (wpAny_pure ?_)))
 refine wpAny_bind (wpAny_seqItems hTO₅ rfl ?_)
 refine wpAny_bind (wpAny_newTuple ?_)
 have hsz:h₅.objs.size=s.heap.objs.size:=by rw [hs₅.1,hs₄.1,hs₃.1,hs₂.1,hs₁.1]
 have hz₅:IsZ h₅ z TI TO .ellipsis false:=hs₅.extBut _ _ D.TOz.symm (hs₄.extBut _ _ D.i2z.symm (hs₃.extBut _ _ D.TOz.symm (hs₂.extBut _ _ D.i1z.symm hz₁)))
 have hk₅:∀ c o,c ≠ z->c ≠ TO->c ≠ i1->c ≠ i2->s.heap.get? c=some o->h₅.get? c=some o:=fun c o c1 c2 c3 c4 e =>
  hs₅.extBut _ _ c2 (hs₄.extBut _ _ c4 (hs₃.extBut _ _ c2 (hs₂.extBut _ _ c3 (hs₁.extBut _ _ c1 e))))
 have h1₅:h₅.IsTupleIter i1 l (k + 1):=((h1₂.extBut hs₃.extBut D.TOi1.symm).extBut hs₄.extBut D.i12).extBut hs₅.extBut D.TOi1.symm
 have h2₅:h₅.IsTupleIter i2 m (k + 1):=h2₄.extBut hs₅.extBut D.TOi2.symm
 have hzlt:z < h₅.objs.size:=Heap.lt_size hz₅
 show wpAny _ _ (Builtin.SmallTypes.ownedTupleHandOut (.ref z) (.ref h₅.objs.size) >>= _) _ _ _
 refine wpAny_bind ?_
 unfold Builtin.SmallTypes.ownedTupleHandOut
 have hz₆:IsZ (h₅.push { cls:=.type "tuple", data:=.seq #[v,u] }) z TI TO .ellipsis false:=Heap.get?_push_of_some _ hz₅
 refine wpAny_bind (wpAny_setField_rec hz₆ (by simp) fun h₇ hz₇ hs₇=>?_)
 replace hz₇:IsZ h₇ z TI TO (rawInt h₅.objs.size) false:=hz₇
 refine wpAny_setField_rec hz₇ (by simp) fun h₈ hz₈ hs₈=>?_
 replace hz₈:IsZ h₈ z TI TO (rawInt h₅.objs.size) false:=hz₈
 have up:∀ c o,c ≠ z->h₅.get? c=some o->h₈.get? c=some o:=fun c o c1 e=>hs₈.extBut _ _ c1 (hs₇.extBut _ _ c1 (Heap.get?_push_of_some _ e))
 have hT₈:IsPair h₈ h₅.objs.size v u:=hs₈.extBut _ _ (Nat.ne_of_gt hzlt) (hs₇.extBut _ _ (Nat.ne_of_gt hzlt) (Heap.get?_push_size _ rfl))
 have hz8:h₈.objs.size=h₅.objs.size + 1:=by rw [hs₈.1,hs₇.1,Heap.size_push]
 rw [hsz] at hz₈ hT₈ hz8
 refine wpAny_pure ⟨_,rfl,wpAny_pure ?_⟩
 show Q (some (.ref h₅.objs.size)) _
 rw [hsz]
 exact hQ h₈ hz₈ ⟨_,_,up _ _ D.TOz hTO₅⟩ (h1₅.at fun o e=>up _ o D.i1z e) (h2₅.at fun o e=>up _ o D.i2z e) hT₈ hz8 fun c o c1 c2 c3 c4 e=>up c o c1 (hk₅ c o c1 c2 c3 c4 e)
abbrev zH1 (h:Heap) (l:Addr):Heap:=h.push { cls:=.type "tuple_iterator", data:=.fields #[.ref l,.int 0 0] }
abbrev zH2 (h:Heap) (l m:Addr):Heap:=(zH1 h l).push { cls:=.type "tuple_iterator", data:=.fields #[.ref m,.int 0 0] }
abbrev zH3 (h:Heap) (l m:Addr):Heap:=(zH2 h l m).push { cls:=.type "tuple", data:=.seq #[.ref h.objs.size,.ref (zH1 h l).objs.size] }
abbrev zH4 (h:Heap) (l m:Addr):Heap:=(zH3 h l m).push { cls:=.type "tuple", data:=.seq #[.none,.none] }
abbrev zH5 (h:Heap) (l m:Addr):Heap:=(zH4 h l m).push { cls:=.type "zip", data:=.fields #[.none,.bool false,.bool false,.ref (zH2 h l m).objs.size,.ref (zH3 h l m).objs.size] }
theorem meets_new (l m:Addr) (xs ys:Array Value) :
  Meets (Builtin.«zip.__new__» ⟨[.type "zip", .ref l,.ref m],[]⟩) (fun _ R s=>s.heap.IsTuple l xs/\s.heap.IsTuple m ys/\R (.ok (.ret (.ref (zH4 s.heap l m).objs.size))) { s with heap:=zH5 s.heap l m }) :=
 .of_wp fun prog w A R s h=>by
  obtain ⟨hp,g,d,tk,os⟩:=s; obtain ⟨hl1,hl2,h⟩:=h
  have hsub:=sub_zip
  have hL1:Heap.IsTuple (Shared.heap ⟨hp,g,d,tk,os⟩) l xs:=hl1
  have hL2:Heap.IsTuple (Shared.heap ⟨hp.push { cls:=.type "tuple_iterator", data:=.fields #[.ref l,.int 0 0] },g,d,tk,os⟩) m ys:=hl2.push _
  wp_walk using wpAny_pyIter_tuple hL1,wpAny_pyIter_tuple hL2
  exact ⟨_,rfl,h⟩
theorem call_zip {l m:Addr} {xs ys:Array Value} {Q:Value->Shared->Prop} (hl1:s.heap.IsTuple l xs) (hl2:s.heap.IsTuple m ys)
  (h:∀ h',IsZ h' (s.heap.objs.size + 4) (s.heap.objs.size + 2) (s.heap.objs.size + 3) .none false->IsPair h' (s.heap.objs.size + 2) (.ref s.heap.objs.size) (.ref (s.heap.objs.size + 1)) ->
   IsPair h' (s.heap.objs.size + 3) .none .none->h'.IsTupleIter s.heap.objs.size l 0->h'.IsTupleIter (s.heap.objs.size + 1) m 0->h'.objs.size=s.heap.objs.size + 5 ->
   (∀ c o,s.heap.get? c=some o->h'.get? c=some o)->Q (.ref (s.heap.objs.size + 4)) { s with heap:=h' }) :
  wpAny (model prog w) A (call (.type "zip") [.ref l,.ref m]) Q E s:=by
 refine callType_new F.called_zip (by decide) (F.typeCall_zip_2 _ _) (F.newCall_zip_2 _ _) (fun obj=>F.args_object_init_3 obj _ _) F.entry_zip_new (meets_new l m xs ys) ⟨hl1,hl2,?_⟩
 have z1:(zH1 s.heap l).objs.size=s.heap.objs.size + 1:=Heap.size_push ..
 have z2:(zH2 s.heap l m).objs.size=s.heap.objs.size + 2:=by rw [Heap.size_push,z1]
 have z3:(zH3 s.heap l m).objs.size=s.heap.objs.size + 3:=by rw [Heap.size_push,z2]
 have z4:(zH4 s.heap l m).objs.size=s.heap.objs.size + 4:=by rw [Heap.size_push,z3]
 have z5:(zH5 s.heap l m).objs.size=s.heap.objs.size + 5:=by rw [Heap.size_push,z4]
 have g5:(zH5 s.heap l m).get? (zH4 s.heap l m).objs.size=some _:=Heap.get?_push_size _ rfl
 have g4:(zH5 s.heap l m).get? (zH3 s.heap l m).objs.size=some _:=Heap.get?_push_of_some _ (Heap.get?_push_size _ rfl)
 have g3:(zH5 s.heap l m).get? (zH2 s.heap l m).objs.size=some _:=Heap.get?_push_of_some _ (Heap.get?_push_of_some _ (Heap.get?_push_size _ rfl))
 have g2:(zH5 s.heap l m).get? (zH1 s.heap l).objs.size=some _:=Heap.get?_push_of_some _ (Heap.get?_push_of_some _ (Heap.get?_push_of_some _ (Heap.get?_push_size _ rfl)))
 have g1:(zH5 s.heap l m).get? s.heap.objs.size=some _:=Heap.get?_push_of_some _ (Heap.get?_push_of_some _ (Heap.get?_push_of_some _ (Heap.get?_push_of_some _ (Heap.get?_push_size _ rfl))))
 show _/\_
 rw [z2,z3,z4] at g5
 rw [z1,z2] at g3
 rw [z3] at g4
 rw [z1] at g2
 rw [z4]
 exact ⟨⟨_,g5,rfl⟩,h _ g5 g3 g4 ⟨_,g1,rfl,rfl⟩ ⟨_,g2,rfl,rfl⟩ z5 fun c o x =>
  Heap.get?_push_of_some _ (Heap.get?_push_of_some _ (Heap.get?_push_of_some _ (Heap.get?_push_of_some _ (Heap.get?_push_of_some _ x))))⟩

end
end LYT
namespace L2
open PySem PySem.Spec PyProof.Rows
noncomputable def Itzt (K:PySem.W.Frag) (a b:Addr):It :=
 ⟨fun i H=>(∃ xs x,SqT K H a xs/\xs[i]?=some x)/\∃ ys y,SqT K H b ys/\ys[i]?=some y,fun i H x H'=>∃ T v u,H T=none/\x=.ref T/\H'=upd H T (.tup [v,u])/\(∀ xs,SqT K H a xs->xs[i]?=some v)/\∀ ys,SqT K H b ys->ys[i]?=some u,fun i H=>∃ xs,SqT K H a xs/\xs.length<=i⟩
theorem turn_zipT {P:Program} {w:World} {K:PySem.W.Frag} {elts:List Expr} {k:Nat} {pos:Pos} (a bb z TI TO i1 i2:Addr) (D:LZ.Apart5 z TI TO i1 i2 a) (mz:bb ≠ z) (mTO:bb ≠ TO) (mi1:bb ≠ i1) (mi2:bb ≠ i2) :
  Turn P w K (.Tuple elts k pos) (Itzt K a bb) [z,TI,TO,i1,i2] z (fun i h=>LZ.IsZ h z TI TO .none false/\IsPair h TI (.ref i1) (.ref i2)/\(∃ u v,IsPair h TO u v)/\h.IsTupleIter i1 a i/\h.IsTupleIter i2 bb i) where
 mem:=by simp
 obj:=fun i h st b hb=>by
  obtain ⟨hz,hTI,⟨u,v,hTO⟩,⟨o1,g1,_,d1⟩,⟨o2,g2,_,d2⟩⟩:=st
  simp only [List.mem_cons,List.not_mem_nil,or_false] at hb
  rcases hb with rfl | rfl | rfl | rfl | rfl
  ·exact ⟨_,hz,fun v q=>by have q':Data.fields _=Data.cell v:=q; cases q'⟩
  ·exact ⟨_,hTI,fun v q=>by have q':Data.seq _ _=Data.cell v:=q; cases q'⟩
  ·exact ⟨_,hTO,fun v q=>by have q':Data.seq _ _=Data.cell v:=q; cases q'⟩
  ·exact ⟨o1,g1,fun v q=>by rw [d1] at q; cases q⟩
  ·exact ⟨o2,g2,fun v q=>by rw [d2] at q; cases q⟩
 keep:=fun i h h' st kk=>by
  obtain ⟨hz,hTI,⟨u,v,hTO⟩,⟨o1,g1,r1⟩,⟨o2,g2,r2⟩⟩:=st
  exact ⟨kk z (by simp) _ hz,kk TI (by simp) _ hTI,⟨u,v,kk TO (by simp) _ hTO⟩,⟨o1,kk i1 (by simp) _ g1,r1⟩,⟨o2,kk i2 (by simp) _ g2,r2⟩⟩
 item:=by
  intro X hP hw hK hc i pins s σ H E I hf st hg
  subst hP hw hK
  obtain ⟨⟨xs,y,hq,hx⟩,ys,y2,hq2,hx2⟩:=hg
  obtain ⟨its,rv,p,hsz⟩:=I.tuple hq
  obtain ⟨u,hu,ru⟩:=rv.get hx
  obtain ⟨its2,rv2,p2,hsz2⟩:=I.tuple hq2
  obtain ⟨u2,hu2,ru2⟩:=rv2.get hx2
  obtain ⟨hz,hTI,⟨a0,b0,hTO⟩,h1,h2⟩:=st
  refine LYT.next_first D mz mTO mi1 mi2 hz hTI hTO h1 h2 p p2 (v:=u) (u:=u2) (by simpa using hu) (by simpa using hu2) fun h' b1 b2 b3 b4 b5 b6 b7=>⟨_,rfl,?_⟩
  refine wpAny_letOwnedTupleGo_zip (T:=s.heap.objs.size) b1 fun h2' c1 c2=>?_
  have szT:∀ c ∈ [z,TI,TO,i1,i2],c ≠ s.heap.objs.size:=fun c hc=>by
   have:∃ o,s.heap.get? c=some o:=by
    simp only [List.mem_cons,List.not_mem_nil,or_false] at hc
    obtain ⟨o1,g1,_⟩:=h1
    obtain ⟨o2,g2,_⟩:=h2
    rcases hc with rfl | rfl | rfl | rfl | rfl
    ·exact ⟨_,hz⟩
    ·exact ⟨_,hTI⟩
    ·exact ⟨_,hTO⟩
    ·exact ⟨_,g1⟩
    ·exact ⟨_,g2⟩
   obtain ⟨o,e⟩:=this
   exact Nat.ne_of_lt (Heap.lt_size e)
  have zT:z ≠ s.heap.objs.size:=szT z (by simp)
  have keep2:∀ b o,b ∉ [z,TI,TO,i1,i2]->s.heap.get? b=some o->h2'.get? b=some o:=fun b o nb q=>by
   simp only [List.mem_cons,List.not_mem_nil,or_false,not_or] at nb
   exact c2.extBut b o nb.1 (b7 b o nb.1 nb.2.2.1 nb.2.2.2.1 nb.2.2.2.2 q)
  have kp:∀ {b o},b ≠ z->h'.get? b=some o->h2'.get? b=some o:=fun nb q=>c2.extBut _ _ nb q
  have tup2:h2'.get? s.heap.objs.size=some _:=kp (Ne.symm zT) b5
  have I2:Inv X pins σ (upd H s.heap.objs.size (.tup [y,y2])) { s with heap:=h2',toks:=s.toks } :=
   I.turnedL (ch:=[z,TI,TO,i1,i2]) keep2 hf (Nat.le_refl _) ⟨(by show 2<=sizeLine; decide),[u,u2],.cons ru (.cons ru2 .nil),⟨_,tup2,rfl,_,rfl⟩⟩
  obtain ⟨a1,b1',b2'⟩:=b2
  refine ⟨.ref s.heap.objs.size,_,I2,rfl,⟨s.heap.objs.size,y,y2,I.hok.fresh (Nat.le_refl _),rfl,rfl,fun ys hy=>by rw [I.tuple_inj hy hq]; exact hx,fun ys hy=>by rw [I.tuple_inj hy hq2]; exact hx2⟩,⟨c1,?_,⟨a1,b1',?_⟩,?_,?_⟩,fun b hb=>?_⟩
  ·exact kp D.TIz (b7 TI _ D.TIz D.TITO D.TIi1 D.TIi2 hTI)
  ·exact kp D.TOz b2'
  ·obtain ⟨o1,g1,r1⟩:=b3
   exact ⟨o1,kp D.i1z g1,r1⟩
  ·obtain ⟨o2,g2,r2⟩:=b4
   exact ⟨o2,kp D.i2z g2,r2⟩
  ·rw [upd_ne (szT b hb)]
   exact (hf b hb).1
 done:=by
  intro X hP hw hK hc i pins s σ H E I hf st hg
  subst hP hw hK
  obtain ⟨xs,hq,hx⟩:=hg
  obtain ⟨its,rv,p,hsz⟩:=I.tuple hq
  obtain ⟨hz,hTI,hTO,h1,h2⟩:=st
  have hlen:=rv.length
  refine LYT.next_end (a:=.none) (b:=.none) (I.ok.hd hc) D hz (.inl ⟨rfl,rfl,hTO⟩) hTI h1 p (by simp; omega) fun h' eb=>⟨rfl,?_⟩
  exact I.turnedE (t':=s.toks) (ch:=[z,TI,TO,i1,i2]) (fun b o nb q=>by
   simp only [List.mem_cons,List.not_mem_nil,or_false,not_or] at nb
   exact eb b o nb.1 nb.2.2.2.1 q) hf
 self:=fun _ _ _ _ _ st h=>wpAny_pyIter_zip st.1 h
section
variable {X:Cx} {elts:List Expr} {k:Nat} {tpos:Pos}
noncomputable def iZipX (K:PySem.W.Frag) (ta:TA):TI:=fun σ H R=>ta σ H fun vs H1=>∃ a b,vs=[.ref a,.ref b]/\(((∃ xs,SqL K H1 a xs)/\(∃ ys,SqL K H1 b ys)/\R (Itzl K a b) H1)\/((∃ xs,SqT K H1 a xs)/\(∃ ys,SqT K H1 b ys)/\R (Itzt K a b) H1))
theorem pi_zipX {a b:Expr} {ta:TA} {p pos:Pos} (hg:Gl X "zip") (hm:X.mg "zip" = none) (ha:PA X [a,b] ta) (hs:starEach [a,b] X.env=[(false,eval a X.env),(false,eval b X.env)]:=by rfl) (hs2:starEach [b] X.env=[(false,eval b X.env)]:=by rfl):PI X (.Tuple elts k tpos) (.Call (.Name "zip" p) [a,b] [] pos) (iZipX X.K ta):=by
 intro pins s σ H R I h
 refine Call_ (ld_blt I hg hm boot_zip (PyProof.Rows.callWith_type1 (thn (ha pos pins s σ H _ I h) fun us s1 ⟨vs,H1,I1,r1,q1⟩=>?_) (by rw [hs,hs2]) (by rw [hs2]; rfl)))
 obtain ⟨l,m,e,q⟩:=q1
 subst e
 obtain ⟨u1,u2,eu,r3,r2⟩:=vals2 r1
 subst eu
 cases (show u1=Value.ref l from r3)
 cases (show u2=Value.ref m from r2)
 have frs:∀ b ∈ [s1.heap.objs.size + 4,s1.heap.objs.size + 2,s1.heap.objs.size + 3,s1.heap.objs.size,s1.heap.objs.size + 1],s1.heap.objs.size<=b:=fun b hb=>by
  simp only [List.mem_cons,List.not_mem_nil,or_false] at hb
  rcases hb with rfl | rfl | rfl | rfl | rfl
  ·exact Nat.le_add_right _ _
  ·exact Nat.le_add_right _ _
  ·exact Nat.le_add_right _ _
  ·exact Nat.le_refl _
  ·exact Nat.le_add_right _ _
 rcases q with ⟨⟨xs,hq⟩,⟨ys,hq2⟩,q⟩ | ⟨⟨xs,hq⟩,⟨ys,hq2⟩,q⟩
 ·obtain ⟨its,rv,pl,hz⟩:=I1.list hq
  obtain ⟨its2,rv2,pl2,hz2⟩:=I1.list hq2
  refine LY.call_zip pl.isList pl2.isList fun h' b1 b2 b3 b4 b5 b6 b7=>?_
  refine wpAny_pyIter_zip b1 ?_
  have I2:Inv X pins σ H1 { s1 with heap:=h' }:=I1.kept (t':=s1.toks) b7
  have ll:@LT.lt Nat _ l s1.heap.objs.size:=by obtain ⟨o,ho,_⟩:=pl.isList; exact Heap.lt_size ho
  have lm:@LT.lt Nat _ m s1.heap.objs.size:=by obtain ⟨o,ho,_⟩:=pl2.isList; exact Heap.lt_size ho
  refine ⟨s1.heap.objs.size + 4,[s1.heap.objs.size + 4,s1.heap.objs.size + 2,s1.heap.objs.size + 3,s1.heap.objs.size,s1.heap.objs.size + 1],_,_,H1,rfl,I2,turn_zipL l m (s1.heap.objs.size + 4) (s1.heap.objs.size + 2) (s1.heap.objs.size + 3) s1.heap.objs.size (s1.heap.objs.size + 1) ?_ (by show @Ne Nat _ _; omega) (by show @Ne Nat _ _; omega) (by show @Ne Nat _ _; omega) (by show @Ne Nat _ _; omega),⟨b1,b2,⟨_,_,b3⟩,b4,b5⟩,fun b hb=>I1.fpOk (frs b hb) (I1.hok.fresh (frs b hb)),q⟩
  constructor <;> (show @Ne Nat _ _; omega)
 ·obtain ⟨its,rv,pl,hz⟩:=I1.tuple hq
  obtain ⟨its2,rv2,pl2,hz2⟩:=I1.tuple hq2
  refine LYT.call_zip pl pl2 fun h' b1 b2 b3 b4 b5 b6 b7=>?_
  refine wpAny_pyIter_zip b1 ?_
  have I2:Inv X pins σ H1 { s1 with heap:=h' }:=I1.kept (t':=s1.toks) b7
  have ll:@LT.lt Nat _ l s1.heap.objs.size:=by obtain ⟨o,ho,_⟩:=pl; exact Heap.lt_size ho
  have lm:@LT.lt Nat _ m s1.heap.objs.size:=by obtain ⟨o,ho,_⟩:=pl2; exact Heap.lt_size ho
  refine ⟨s1.heap.objs.size + 4,[s1.heap.objs.size + 4,s1.heap.objs.size + 2,s1.heap.objs.size + 3,s1.heap.objs.size,s1.heap.objs.size + 1],_,_,H1,rfl,I2,turn_zipT l m (s1.heap.objs.size + 4) (s1.heap.objs.size + 2) (s1.heap.objs.size + 3) s1.heap.objs.size (s1.heap.objs.size + 1) ?_ (by show @Ne Nat _ _; omega) (by show @Ne Nat _ _; omega) (by show @Ne Nat _ _; omega) (by show @Ne Nat _ _; omega),⟨b1,b2,⟨_,_,b3⟩,b4,b5⟩,fun b hb=>I1.fpOk (frs b hb) (I1.hok.fresh (frs b hb)),q⟩
  constructor <;> (show @Ne Nat _ _; omega)
theorem comp_zipT {K:PySem.W.Frag} {H1:Hp} {D:Addr} {σ0:St} {g:TG} {te:TE} {tt:TT} {QD:Hp->Prop} {a b:Addr} {xs us:List V} (hz:xs.length<=us.length) (Pv:Nat->Hp->List V->Prop) (h0:Pv 0 (upd H1 D (.lst [])) []) (hD:∀ i H ys,Pv i H ys->H D=some (.lst ys)/\SqT K H a xs/\SqT K H b us)
  (hs:∀ i x u H ys T,xs[i]?=some x->us[i]?=some u->Pv i H ys->H T=none->g (.ref T) σ0 (upd H T (.tup [x,u])) fun σ2 H2=>wk σ0 σ2/\tt σ2 H2 fun b H3=>if b=true then te σ2 H3 (NextC Pv xs.length D i ys) else ∃ m',m' < xs.length - i/\(m'=xs.length - (i + 1)/\i + 1<=xs.length/\Pv (i + 1) H3 ys))
  (hd:∀ H ys,Pv xs.length H ys->QD H) :
  ∃ W:Nat->Nat->Hp->List V->Prop,(∃ m,W 0 m (upd H1 D (.lst [])) [])/\∀ i m H ys,W i m H ys->H D=some (.lst ys)/\(((Itzt K a b).stop i H/\QD H)\/((Itzt K a b).go i H/\∀ x H',(Itzt K a b).yld i H x H'->g x σ0 H' fun σ2 H2=>wk σ0 σ2/\tt σ2 H2 fun b H3 =>
   if b=true then te σ2 H3 fun v H4=>H4 D=some (.lst ys)/\ys.length < sizeLine/\∃ m',m' < m/\W (i + 1) m' (upd H4 D (.lst (ys++[v]))) (ys++[v]) else ∃ m',m' < m/\W (i + 1) m' H3 ys)):=by
 refine ⟨fun i m H ys=>m=xs.length - i/\i<=xs.length/\Pv i H ys,⟨_,rfl,Nat.zero_le _,h0⟩,?_⟩
 rintro i m H ys ⟨rfl,hi,p⟩
 obtain ⟨h1,q,q2⟩:=hD i H ys p
 refine ⟨h1,?_⟩
 by_cases hlt:i < xs.length
 ·refine .inr ⟨⟨⟨xs,xs[i],q,by simp [hlt]⟩,us,us[i]'(by omega),q2,by rw [List.getElem?_eq_getElem]⟩,fun x H' y=>?_⟩
  obtain ⟨T,v,u,hT,ex,eH,y1,y2⟩:=y
  subst ex eH
  exact hs i v u H ys T (y1 xs q) (y2 us q2) p hT
 ·have e:i=xs.length:=by omega
  subst e
  exact .inl ⟨⟨xs,q,Nat.le_refl _⟩,hd H ys p⟩
end
section
variable {X:Cx}
noncomputable def rIsTT (K:PySem.W.Frag):List V->Hp->VK->Prop:=fun xs H Q=>∃ (x:V) (t:Addr) (Ts:List String) (ty:Value) (b:Bool),xs=[x,.ref t]/\H t=some (.tup (Ts.map V.ty))/\TyOf K H x ty/\PySem.W.kitAny K ty (Ts.map Value.type)=some b/\Q (.bl b) H
theorem vals_tys:∀ {Ts:List String} {us:List Value},Vals (Ts.map V.ty) us->us=Ts.map Value.type
 | [],_,r=>by
  rw [List.map_nil] at r; cases r; rfl
 | c :: cs,_,r=>by
  rw [List.map_cons] at r
  cases r with
  | cons r1 r2=>rw [vals_tys r2,List.map_cons]; cases (show _=Value.type c from r1); rfl
theorem call_isinstTT:CallR X (.builtin "isinstance") (rIsTT X.K):=by
 intro pins s σ H xs us Q I r h
 obtain ⟨x,t,Ts,ty,b,ex,ht,tt,kt,q⟩:=h
 subst ex
 obtain ⟨u1,u2,eu,r1,r2⟩:=vals2 r
 subst eu
 cases (show u2=Value.ref t from r2)
 obtain ⟨its,rv,it,_⟩:=I.tuple (SqT.of ht)
 obtain ⟨⟨_,_,_,_⟩,g,g2,n,g3⟩:=it
 dsimp only at g2 g3
 subst g2 g3
 rw [vals_tys rv] at g
 have fin:∀ tk,EP X pins σ Q (.bool b) { s with toks:=tk }:=fun tk=>⟨.bl b,H,I.tok tk,rfl,q⟩
 cases tt with
 | non=>cases (show u1=Value.none from r1); exact PySem.W.kia_tup PySem.W.kitx_none I.kIn True.intro g kt (fun z=>nomatch z) fin
 | bl y=>cases (show u1=Value.bool y from r1); exact PySem.W.kia_tup PySem.W.kitx_bool I.kIn True.intro g kt (fun z=>nomatch z) fin
 | int i=>obtain ⟨t,q⟩:=(show ∃ t,u1=Value.int i t from r1); cases q; exact PySem.W.kia_tup PySem.W.kitx_int I.kIn True.intro g kt (fun z=>nomatch z) fin
 | str y=>obtain ⟨t,q⟩:=(show ∃ t,u1=Value.str y t from r1); cases q; exact PySem.W.kia_tup PySem.W.kitx_str I.kIn True.intro g kt (fun z=>nomatch z) fin
 | flt y=>obtain ⟨t,q⟩:=(show ∃ t,u1=Value.float y t from r1); cases q; exact PySem.W.kia_tup PySem.W.kitx_float I.kIn True.intro g kt (fun z=>nomatch z) fin
 | @lst a xs ea =>
  cases (show u1=Value.ref a from r1)
  obtain ⟨_,_,n,_,h1⟩:=(show ObjOk X.prog X.w H s.heap a (.lst xs) from I.hok a _ ea)
  exact PySem.W.kia_tup PySem.W.kitx_list I.kIn ⟨_,h1,rfl⟩ g kt (fun z=>nomatch z) fin
 | @frz a ob xs ea =>
  cases (show u1=Value.ref a from r1)
  obtain ⟨_,_,_,n,_,h1⟩:=(show ObjOk X.prog X.w H s.heap a (.frz ob (.lst xs)) from I.hok a _ ea)
  exact PySem.W.kia_tup PySem.W.kitx_list I.kIn ⟨_,h1,rfl⟩ g kt (fun z=>nomatch z) fin
 | @tup a xs ea =>
  cases (show u1=Value.ref a from r1)
  obtain ⟨_,_,_,p⟩:=(show ObjOk X.prog X.w H s.heap a (.tup xs) from I.hok a _ ea)
  obtain ⟨o,h1,h2,_⟩:=p
  exact PySem.W.kia_tup PySem.W.kitx_tuple I.kIn ⟨o,h1,h2⟩ g kt (fun z=>nomatch z) fin
 | @dK a kvs ea =>
  cases (show u1=Value.ref a from r1)
  obtain ⟨_,_,vs,_,p⟩:=(show ObjOk X.prog X.w H s.heap a (.dK kvs) from I.hok a _ ea)
  obtain ⟨o,es,ep,h1,h2,_⟩:=p
  exact PySem.W.kia_tup PySem.W.kitx_dict I.kIn ⟨o,h1,h2.1⟩ g kt (fun z=>nomatch z) fin
 | @dT a kvs ea =>
  cases (show u1=Value.ref a from r1)
  obtain ⟨_,_,xs,_,o,es,ep,h1,h2,_⟩:=(show ObjOk X.prog X.w H s.heap a (.dT kvs) from I.hok a _ ea)
  exact PySem.W.kia_tup PySem.W.kitx_dict I.kIn ⟨o,h1,h2.1⟩ g kt (fun z=>nomatch z) fin
 | @ins a C dx fs ea cl ha hn htk hm =>
  cases (show u1=Value.ref a from r1)
  obtain ⟨mA,O,_⟩:=ins_get I.hok ea
  obtain ⟨od,J,_⟩:=O.look
  exact PySem.W.kia_tup (PySem.W.kitx_own (cl.get _) cl.hd ha hn htk hm) I.kIn J g kt (fun z=>nomatch z) fin
end
end L2
namespace L2
open PySem PySem.Spec PyProof.Rows
section
variable {X:Cx} {o e:Expr} {apos cpos:Pos} {ty:TE} {T:Addr}
end
end L2
namespace L2
open PySem PySem.Spec PyProof.Rows
section
variable {K:PySem.W.Frag} {g:TG} {te:TE} {σ0:St} {QD:Hp->Prop} {H1:Hp} {D:Addr}
theorem comp_tup {a:Addr} {xs:List V} (Pv:Nat->Hp->List V->Prop) (h0:Pv 0 (upd H1 D (.lst [])) []) (hD:∀ i H ys,Pv i H ys->H D=some (.lst ys)/\SqT K H a xs)
  (hs:∀ i x H ys,xs[i]?=some x->Pv i H ys->g x σ0 H fun σ2 H2=>wk σ0 σ2/\tYes σ2 H2 fun b H3=>if b=true then te σ2 H3 (NextC Pv xs.length D i ys) else ∃ m',m' < xs.length - i/\(m'=xs.length - (i + 1)/\i + 1<=xs.length/\Pv (i + 1) H3 ys)) (hd:∀ H ys,Pv xs.length H ys->QD H) :
  ∃ W:Nat->Nat->Hp->List V->Prop,(∃ m,W 0 m (upd H1 D (.lst [])) [])/\∀ i m H ys,W i m H ys->H D=some (.lst ys)/\(((Itt K a).stop i H/\QD H)\/((Itt K a).go i H/\∀ x H',(Itt K a).yld i H x H'->g x σ0 H' fun σ2 H2=>wk σ0 σ2/\tYes σ2 H2 fun b H3 =>
   if b=true then te σ2 H3 fun v H4=>H4 D=some (.lst ys)/\ys.length < sizeLine/\∃ m',m' < m/\W (i + 1) m' (upd H4 D (.lst (ys++[v]))) (ys++[v]) else ∃ m',m' < m/\W (i + 1) m' H3 ys)):=by
 refine ⟨fun i m H ys=>m=xs.length - i/\i<=xs.length/\Pv i H ys,⟨xs.length,by simp,Nat.zero_le _,h0⟩,?_⟩
 rintro i m H ys ⟨rfl,hi,p⟩
 obtain ⟨d1,d2⟩:=hD i H ys p
 refine ⟨d1,?_⟩
 by_cases hlt:i < xs.length
 ·refine .inr ⟨⟨xs,xs[i],d2,by simp [hlt]⟩,fun x H' y=>?_⟩
  obtain ⟨e,y⟩:=y
  subst e
  exact hs i x _ ys (y xs d2) p
 ·have e:i=xs.length:=by exact om0 hi hlt
  subst e
  exact .inl ⟨⟨xs,d2,Nat.le_refl _⟩,hd H ys p⟩
theorem s_tup {σ:St} {H:Hp} {tl:TE} {R:It->Hp->Prop} (q:tl σ H fun x H1=>∃ a,x=.ref a/\(∃ xs,SqT K H1 a xs)/\R (Itt K a) H1):iTup K tl σ H R:=q
end
end L2
namespace L2
open PySem PySem.Spec PyProof.Rows
section
variable {X:Cx}
end
section
variable {K:PySem.W.Frag} {g:TG} {te:TE} {tt:TT} {σ0:St} {QD:Hp->Prop} {H1:Hp} {D:Addr}
end
end L2
namespace L2
open PySem PySem.Spec PyProof.Rows
open AutoSeq1 (wpAny_loadPart')
section
variable {A:Around} {s:Shared} {l:Addr}
end
section
variable {X:Cx}
end
end L2
set_option maxHeartbeats 1000000
namespace Tm
open PySem PyProof.Rows
noncomputable def gallop':Bool->Keyed->Array Keyed->Nat->Nat->Nat->StateT SortSt Sem (Option Nat):=sortPriv% PySem.Builtin.gallop
noncomputable def mergeLo':Array Keyed->Array Keyed->StateT SortSt Sem (Array Keyed):=sortPriv% PySem.Builtin.mergeLo
noncomputable def mergeHi':Array Keyed->Array Keyed->StateT SortSt Sem (Array Keyed):=sortPriv% PySem.Builtin.mergeHi
noncomputable def LtOk (κ:KeyKind) (kd:SortKind) (prog:Program) (w:World) (A:Around) (s:Shared):Prop :=
 ∀ (E:Value->Shared->Prop) (x y:Value) (a b:κ.α) (Q:Bool->Shared->Prop),κ.keyOf x=some a->κ.keyOf y=some b->Q (κ.blt a b) s->wpAny (model prog w) A (keyLt' kd x y) Q E s
noncomputable def kv (κ:KeyKind) (p:Keyed):κ.α:=(κ.keyOf p.1).getD κ.dflt
noncomputable def Hk (κ:KeyKind) (p:Keyed):Prop:=∃ a,κ.keyOf p.1=some a
section
variable {prog:Program} {w:World} {A:Around} {E:Value->Shared->Prop} {s:Shared} {κ:KeyKind} {kd:SortKind}
theorem wpS_T {σ α:Type} {M:Model} {Q:α->σ->Prop} {st:σ} {c:Prop} [Decidable c] {t e:StateT σ Sem α} (h:c) (q:wpS M A E s t Q st):wpS M A E s (if c then t else e) Q st:=by rw [if_pos h]; exact q
theorem wpS_F {σ α:Type} {M:Model} {Q:α->σ->Prop} {st:σ} {c:Prop} [Decidable c] {t e:StateT σ Sem α} (h:¬ c) (q:wpS M A E s e Q st):wpS M A E s (if c then t else e) Q st:=by rw [if_neg h]; exact q
theorem bT {i j:Nat} (h:i=j):(i == j)=true:=by simp [h]
theorem bF {i j:Nat} (h:¬ i=j):¬ (i == j)=true:=by simpa using h
theorem wpS_lt (hL:LtOk κ kd prog w A s) {st:SortSt} {x y:Keyed} {Q:Option Bool->SortSt->Prop} (hk:kindOf st=kd) (hx:Hk κ x) (hy:Hk κ y) (h:Q (some (κ.blt (kv κ x) (kv κ y))) st):wpS (model prog w) A E s (lt' x y) Q st:=by
 obtain ⟨a,ha⟩:=hx
 obtain ⟨b,hb⟩:=hy
 rw [lt'_eq]
 refine wpS_bind (wpS_get ?_)
 rw [hk]
 refine wpS_bind (wpS_lift (wpAny_attempt (hL _ _ _ _ _ _ ha hb ⟨rfl,?_⟩)))
 unfold kv at h
 rw [ha,hb] at h
 exact wpS_pure h
theorem wpS_elem {arr:Array Keyed} {i:Nat} {p:Keyed} {st:SortSt} {Q:Keyed->SortSt->Prop} (h:arr[i]?=some p) (q:Q p st):wpS (model prog w) A E s (elem' arr i) Q st:=by
 rw [elem'_eq,h]
 exact wpS_pure q
noncomputable def bey (κ:KeyKind) (left:Bool) (key p:Keyed):Bool:=if left then κ.blt (kv κ p) (kv κ key) else !κ.blt (kv κ key) (kv κ p)
theorem wpS_beyond (hL:LtOk κ kd prog w A s) {st:SortSt} {left:Bool} {key:Keyed} {arr:Array Keyed} {j:Nat} {b:Bool} {Q:Option Bool->SortSt->Prop} (hk:kindOf st=kd) (hkey:Hk κ key)
  (hP:∃ p,arr[j]?=some p/\Hk κ p/\bey κ left key p=b) (h:Q (some b) st) :
  wpS (model prog w) A E s (elem' arr j >>= fun x=>if left=true then lt' x key else lt' key x >>= fun r=>pure (Option.map (fun z=>!z) r)) Q st:=by
 obtain ⟨p,hp,hkp,rfl⟩:=hP
 refine wpS_bind (wpS_elem hp ?_)
 unfold bey at h
 cases left with
 | true=>exact wpS_lt hL hk hkp hkey h
 | false=>exact wpS_bind (wpS_lt hL hk hkey hkp (wpS_pure h))
theorem wpS_gallop (hL:LtOk κ kd prog w A s) {st:SortSt} {left:Bool} {key:Keyed} {arr:Array Keyed} {base n hint:Nat} {Q:Option Nat->SortSt->Prop} (P:Nat->Bool) (hk:kindOf st=kd) (hkey:Hk κ key)
  (hP:∀ i,i < n->∃ p,arr[base + i]?=some p/\Hk κ p/\bey κ left key p=P i) (mono:∀ i j,i<=j->j < n->P j=true->P i=true) (hh:hint < n)
  (h:∀ k,k<=n->(∀ i,i < k->P i=true)->(∀ i,k<=i->i < n->P i=false)->Q (some k) st):wpS (model prog w) A E s (gallop' left key arr base n hint) Q st:=by
 have monoF:∀ i j,i<=j->j < n->P i=false->P j=false:=fun i j h1 h2 h3=>by
  cases e:P j with
  | false=>rfl
  | true=>rw [mono i j h1 h2 e] at h3; cases h3
 unfold gallop'
 refine wpS_bind (wpS_beyond hL hk hkey (hP hint hh) ?_)
 have fin:∀ (lo hi:Nat) (F:(Option (Option Nat) × Nat × Nat)->StateT SortSt Sem (Option Nat)) (body:Nat->(Option (Option Nat) × Nat × Nat)->StateT SortSt Sem (ForInStep (Option (Option Nat) × Nat × Nat))),lo<=hi->hi<=n->(∀ i,i < lo->P i=true)->(∀ i,hi<=i->i < n->P i=false) ->
   (∀ l k,F (none,l,k)=pure (some k))->(∀ x l k (R:ForInStep (Option (Option Nat) × Nat × Nat)->SortSt->Prop),l<=k->k<=n->(l=k->R (.done (none,l,k)) st)->(l < k->P (l + (k - l) / 2)=true->R (.yield (none,l + (k - l) / 2 + 1,k)) st)->(l < k->P (l + (k - l) / 2)=false->R (.yield (none,l,l + (k - l) / 2)) st)->wpS (model prog w) A E s (body x (none,l,k)) R st) ->
   wpS (model prog w) A E s (forIn [0:n] (none,lo,hi) body >>= F) Q st:=fun lo hi F body h1 h2 h3 h4 hF hb=>by
  refine wpS_bind (wpS_mono (wpS_forRange (I:=fun x c st'=>st'=st/\∃ l k,c=(none,l,k)/\l<=k/\k<=n/\k - l<=n - x/\(∀ i,i < l->P i=true)/\(∀ i,k<=i->i < n->P i=false))
   (Q:=fun c st'=>st'=st/\∃ k,c=(none,k,k)/\k<=n/\(∀ i,i < k->P i=true)/\(∀ i,k<=i->i < n->P i=false)) ?_ ?_ ⟨rfl,lo,hi,rfl,h1,h2,by exact om19 h1 h2,h3,h4⟩) ?_)
  ·rintro x c st' _ hx ⟨rfl,l,k,rfl,a1,a2,a3,a4,a5⟩
   refine hb x l k _ a1 a2 (fun e=>?_) (fun e p=>?_) (fun e p=>?_)
   ·subst e; exact ⟨rfl,l,rfl,a2,a4,a5⟩
   ·exact ⟨rfl,_,k,rfl,by exact om20 e,a2,om900 a3,fun i hi=>mono i _ (by exact om21 hi) (by exact om22 a2 e) p,a5⟩
   ·exact ⟨rfl,l,_,rfl,by exact om23,by exact om24 a2 e,om901 a3 e,a4,fun i h1 h2=>monoF _ i h1 h2 p⟩
  ·rintro c st' ⟨rfl,l,k,rfl,a1,a2,a3,a4,a5⟩
   have:l=k:=by exact om25 a1 a3
   subst this
   exact ⟨rfl,l,rfl,a2,a4,a5⟩
  ·rintro c st' ⟨rfl,k,rfl,a2,a4,a5⟩
   rw [hF]
   exact wpS_pure (h k a2 a4 a5)
 dsimp only
 cases hp:P hint with
 | true =>
  refine wpS_T rfl ?_
  refine wpS_bind (wpS_mono (wpS_forRange (I:=fun x c st'=>st'=st/\∃ l o,c=(none,l,o)/\l < o/\x + 1<=o/\hint + l < n/\P (hint + l)=true)
   (Q:=fun c st'=>st'=st/\∃ l o,c=(none,l,o)/\l < o/\hint + l < n/\P (hint + l)=true/\(o < n - hint->P (hint + o)=false)) ?_ ?_ ⟨rfl,0,1,rfl,by omega,by omega,by exact om26 hh,hp⟩) ?_)
  ·rintro x c st' _ hx ⟨rfl,l,o,rfl,a1,a2,a3,a4⟩
   dsimp only
   by_cases c1:o>=n - hint
   ·refine wpS_T c1 ?_
    exact wpS_pure ⟨rfl,l,o,rfl,a1,a3,a4,fun z=>by omega⟩
   ·refine wpS_F c1 ?_
    refine wpS_bind (wpS_beyond hL hk hkey (hP (hint + o) (by exact om27 hh c1)) ?_)
    dsimp only
    cases e:P (hint + o) with
    | true =>
     refine wpS_F Bool.false_ne_true ?_
     exact wpS_pure ⟨rfl,o,2 * o + 1,rfl,by exact om28,by omega,by exact om27 hh c1,e⟩
    | false =>
     refine wpS_T rfl ?_
     exact wpS_pure ⟨rfl,l,o,rfl,a1,a3,a4,fun _=>e⟩
  ·rintro c st' ⟨rfl,l,o,rfl,a1,a2,a3,a4⟩
   exact ⟨rfl,l,o,rfl,a1,a3,a4,fun z=>by omega⟩
  ·rintro c st' ⟨rfl,l,o,rfl,a1,a3,a4,a5⟩
   dsimp only
   refine fin _ _ _ _ (by exact om29 hh a1 a3) (by exact om30 hh) (fun i hi=>mono i (hint + l) (by exact om31 hi) a3 a4) (fun i h1 h2=>?_) (fun l k=>rfl) ?_
   ·by_cases z:o < n - hint
    ·exact monoF (hint + o) i (by exact om32 hh h1 z) h2 (a5 z)
    ·omega
   ·intro x l k R h1 h2 q1 q2 q3
    dsimp only
    by_cases c:l>=k
    ·refine wpS_T c ?_; exact wpS_pure (q1 (by exact om33 h1 c))
    ·refine wpS_F c ?_
     refine wpS_bind (wpS_beyond hL hk hkey (hP _ (by exact om34 h2 c)) ?_)
     dsimp only
     cases e:P (l + (k - l) / 2) with
     | true=>refine wpS_T rfl ?_; exact wpS_pure (q2 (by exact om35 c) e)
     | false=>refine wpS_F Bool.false_ne_true ?_; exact wpS_pure (q3 (by exact om35 c) e)
 | false =>
  refine wpS_F Bool.false_ne_true ?_
  refine wpS_bind (wpS_mono (wpS_forRange (I:=fun x c st'=>st'=st/\∃ l o,c=(none,l,o)/\l < o/\x + 1<=o/\l<=hint/\P (hint - l)=false)
   (Q:=fun c st'=>st'=st/\∃ l o,c=(none,l,o)/\l < o/\l<=hint/\P (hint - l)=false/\(o < hint + 1->P (hint - o)=true)) ?_ ?_ ⟨rfl,0,1,rfl,by omega,by omega,by exact om36,hp⟩) ?_)
  ·rintro x c st' _ hx ⟨rfl,l,o,rfl,a1,a2,a3,a4⟩
   dsimp only
   by_cases c1:o>=hint + 1
   ·refine wpS_T c1 ?_
    exact wpS_pure ⟨rfl,l,o,rfl,a1,a3,a4,fun z=>by omega⟩
   ·refine wpS_F c1 ?_
    refine wpS_bind (wpS_beyond hL hk hkey (hP (hint - o) (by exact om37 hh a1 c1)) ?_)
    dsimp only
    cases e:P (hint - o) with
    | true =>
     refine wpS_T rfl ?_
     exact wpS_pure ⟨rfl,l,o,rfl,a1,a3,a4,fun _=>e⟩
    | false =>
     refine wpS_F Bool.false_ne_true ?_
     exact wpS_pure ⟨rfl,o,2 * o + 1,rfl,by exact om28,by omega,by exact om38 c1,e⟩
  ·rintro c st' ⟨rfl,l,o,rfl,a1,a2,a3,a4⟩
   exact ⟨rfl,l,o,rfl,a1,a3,a4,fun z=>by omega⟩
  ·rintro c st' ⟨rfl,l,o,rfl,a1,a3,a4,a5⟩
   dsimp only
   refine fin _ _ _ _ (by exact om39 a1 a3) (by exact om40 hh a3) (fun i hi=>?_) (fun i h1 h2=>monoF (hint - l) i h1 h2 a4) (fun l k=>rfl) ?_
   ·by_cases z:o < hint + 1
    ·exact mono i (hint - o) (by exact om41 hi z) (by exact om42 hh a1 z) (a5 z)
    ·omega
   ·intro x l k R h1 h2 q1 q2 q3
    dsimp only
    by_cases c:l>=k
    ·refine wpS_T c ?_; exact wpS_pure (q1 (by exact om33 h1 c))
    ·refine wpS_F c ?_
     refine wpS_bind (wpS_beyond hL hk hkey (hP _ (by exact om34 h2 c)) ?_)
     dsimp only
     cases e:P (l + (k - l) / 2) with
     | true=>refine wpS_T rfl ?_; exact wpS_pure (q2 (by exact om35 c) e)
     | false=>refine wpS_F Bool.false_ne_true ?_; exact wpS_pure (q3 (by exact om35 c) e)
end
end Tm
namespace Tm
open PySem PyProof.Rows
section
variable {κ:KeyKind}
noncomputable def le (κ:KeyKind) (p q:Keyed):Prop:=κ.kle (kv κ p) (kv κ q)
structure MI (κ:KeyKind) (L o x y:List Keyed):Prop where
 perm:(o++(x++y)).Perm L
 so:o.Pairwise (le κ)
 sx:x.Pairwise (le κ)
 sy:y.Pairwise (le κ)
 ox:∀ p ∈ o,∀ q ∈ x,le κ p q
 oy:∀ p ∈ o,∀ q ∈ y,le κ p q
 last:∀ q ∈ y,∀ l,x.getLast?=some l->le κ q l
theorem MI.takeXs {L o x1 x2 y:List Keyed} (h:MI κ L o (x1++x2) y) (hq:∀ p ∈ x1,∀ q ∈ y,le κ p q):MI κ L (o++x1) x2 y:=by
 have sx:=List.pairwise_append.mp h.sx
 refine ⟨?_,List.pairwise_append.mpr ⟨h.so,sx.1,fun p hp q hq=>h.ox p hp q (List.mem_append.mpr (.inl hq))⟩,sx.2.1,h.sy,fun p hp q hq'=>?_,fun p hp q hq'=>?_,fun q hq' l hl=>?_⟩
 ·have:=h.perm
  rwa [List.append_assoc,<-List.append_assoc o] at this
 ·rcases List.mem_append.mp hp with a | a
  ·exact h.ox p a q (List.mem_append.mpr (.inr hq'))
  ·exact sx.2.2 p a q hq'
 ·rcases List.mem_append.mp hp with a | a
  ·exact h.oy p a q hq'
  ·exact hq p a q hq'
 ·refine h.last q hq' l ?_
  rw [List.getLast?_append,hl]; rfl
theorem MI.takeYs {L o x y1 y2:List Keyed} (h:MI κ L o x (y1++y2)) (hq:∀ q ∈ y1,∀ p ∈ x,le κ q p):MI κ L (o++y1) x y2:=by
 have sy:=List.pairwise_append.mp h.sy
 refine ⟨?_,List.pairwise_append.mpr ⟨h.so,sy.1,fun p hp q hq=>h.oy p hp q (List.mem_append.mpr (.inl hq))⟩,h.sx,sy.2.1,fun p hp q hq'=>?_,fun p hp q hq'=>?_,fun q hq' l hl=>?_⟩
 ·refine List.Perm.trans ?_ h.perm
  rw [List.append_assoc]
  refine List.Perm.append_left _ ?_
  rw [<-List.append_assoc,<-List.append_assoc]
  exact List.Perm.append_right _ List.perm_append_comm
 ·rcases List.mem_append.mp hp with a | a
  ·exact h.ox p a q hq'
  ·exact hq p a q hq'
 ·rcases List.mem_append.mp hp with a | a
  ·exact h.oy p a q (List.mem_append.mpr (.inr hq'))
  ·exact sy.2.2 p a q hq'
 ·exact h.last q (List.mem_append.mpr (.inr hq')) l hl
theorem le_trans {p q r:Keyed} (a:le κ p q) (b:le κ q r):le κ p r:=KeyOrd.kle_trans a b
theorem le_head {x:List Keyed} {p q r:Keyed} (s:(p :: x).Pairwise (le κ)) (h:le κ q p) (hr:r ∈ p :: x):le κ q r:=by
 rcases List.mem_cons.mp hr with e | e
 ·rw [e]; exact h
 ·exact le_trans h ((List.pairwise_cons.mp s).1 r e)
theorem MI.takeY {L o x y:List Keyed} {p q:Keyed} (h:MI κ L o (p :: x) (q :: y)) (c:le κ q p):MI κ L (o++[q]) (p :: x) y :=
 MI.takeYs (y1:=[q]) h fun r hr s hs=>by
  have e:r=q:=by simpa using hr
  subst e
  exact le_head h.sx c hs
theorem MI.takeX {L o x y:List Keyed} {p q:Keyed} (h:MI κ L o (p :: x) (q :: y)) (c:le κ p q):MI κ L (o++[p]) x (q :: y) :=
 MI.takeXs (x1:=[p]) h fun r hr s hs=>by
  have e:r=p:=by simpa using hr
  subst e
  exact le_head h.sy c hs
noncomputable def Srt (κ:KeyKind) (L r:List Keyed):Prop:=r.Perm L/\r.Pairwise (le κ)
theorem MI.endY {L o x:List Keyed} (h:MI κ L o x []):Srt κ L (o++x):=⟨by simpa using h.perm,List.pairwise_append.mpr ⟨h.so,h.sx,h.ox⟩⟩
theorem MI.endX {L o y:List Keyed} (h:MI κ L o [] y):Srt κ L (o++y):=⟨by simpa using h.perm,List.pairwise_append.mpr ⟨h.so,h.sy,h.oy⟩⟩
theorem MI.lastX {L o y:List Keyed} {l:Keyed} (h:MI κ L o [l] y):Srt κ L (o++y++[l]):=by
 refine ⟨List.Perm.trans ?_ h.perm,List.pairwise_append.mpr ⟨List.pairwise_append.mpr ⟨h.so,h.sy,h.oy⟩,by simp,fun p hp q hq=>?_⟩⟩
 ·rw [List.append_assoc]
  exact List.Perm.append_left _ List.perm_append_comm
 ·have e:q=l:=by simpa using hq
  subst e
  rcases List.mem_append.mp hp with a | a
  ·exact h.ox p a q (by simp)
  ·exact h.last p a q rfl
end
section
variable {prog:Program} {w:World} {A:Around} {E:Value->Shared->Prop} {s:Shared} {κ:KeyKind} {kd:SortKind}
structure Gs (st st':SortSt):Prop where
 kind:kindOf st'=kindOf st
 arr:arrOf st'=arrOf st
 pend:pendingOf st'=pendingOf st
 fail:failedOf st'=failedOf st
theorem Gs.refl (st:SortSt):Gs st st:=⟨rfl,rfl,rfl,rfl⟩
theorem Gs.trans {a b c:SortSt} (x:Gs a b) (y:Gs b c):Gs a c:=⟨y.kind.trans x.kind,y.arr.trans x.arr,y.pend.trans x.pend,y.fail.trans x.fail⟩
noncomputable def setMin':Nat->StateT SortSt Sem Unit:=sortPriv% PySem.Builtin.setMinGallop
theorem wpS_setMin {st:SortSt} {g:Nat} {Q:Unit->SortSt->Prop} (h:∀ st',Gs st st'->Q () st'):wpS (model prog w) A E s (setMin' g) Q st:=by
 unfold setMin'
 exact wpS_modify (h _ ⟨rfl,rfl,rfl,rfl⟩)
theorem ext_to (a:Array Keyed) (i:Nat):(a.extract i a.size).toList=a.toList.drop i:=by
 have:(a.toList.drop i).length<=a.size - i:=by simp
 simpa using List.take_of_length_le this
theorem ext_mid (a:Array Keyed) (i k:Nat):(a.extract i (i + k)).toList=(a.toList.drop i).take k:=by
 simp
theorem at_drop {a:Array Keyed} {i:Nat} (h:i < a.size):∃ p,a[i]?=some p/\a.toList.drop i=p :: a.toList.drop (i + 1)/\p ∈ a.toList :=
 ⟨a[i],Array.getElem?_eq_getElem h,by rw [List.drop_eq_getElem_cons (by simpa using h)]; simp,by simp⟩
structure LJ (κ:KeyKind) (a b:Array Keyed) (n:Nat) (out:Array Keyed) (ia ib:Nat):Prop where
 mi:MI κ (a.toList++b.toList) out.toList (a.toList.drop ia) (b.toList.drop ib)
 la:ia<=a.size
 lb:ib<=b.size
 lo:out.size=ia + ib
 n:n<=out.size
theorem LJ.less {a b:Array Keyed} {n m:Nat} {out:Array Keyed} {ia ib:Nat} (h:LJ κ a b n out ia ib) (hm:m<=n):LJ κ a b m out ia ib:=⟨h.mi,h.la,h.lb,h.lo,Nat.le_trans hm h.n⟩
theorem LJ.doneB {a b:Array Keyed} {n:Nat} {out:Array Keyed} {ia ib:Nat} (h:LJ κ a b n out ia ib) (e:ib=b.size):Srt κ (a.toList++b.toList) (out++a.extract ia a.size++b.extract ib b.size).toList:=by
 have m:=h.mi
 have d:b.toList.drop ib=[]:=by rw [e]; simp
 rw [d] at m
 rw [Array.toList_append,Array.toList_append,ext_to,ext_to,d,List.append_nil]
 exact m.endY
theorem LJ.doneA {a b:Array Keyed} {n:Nat} {out:Array Keyed} {ia ib:Nat} (h:LJ κ a b n out ia ib) (e:ia=a.size):Srt κ (a.toList++b.toList) (out++a.extract ia a.size++b.extract ib b.size).toList:=by
 have m:=h.mi
 have d:a.toList.drop ia=[]:=by rw [e]; simp
 rw [d] at m
 rw [Array.toList_append,Array.toList_append,ext_to,ext_to,d,List.append_nil]
 exact m.endX
theorem LJ.lastA {a b:Array Keyed} {n:Nat} {out:Array Keyed} {ia ib:Nat} (h:LJ κ a b n out ia ib) (e:ia + 1=a.size):Srt κ (a.toList++b.toList) (out++b.extract ib b.size++a.extract ia a.size).toList:=by
 have m:=h.mi
 obtain ⟨p,_,d,_⟩:=at_drop (a:=a) (i:=ia) (by exact om43 e)
 have d2:a.toList.drop (ia + 1)=[]:=by rw [e]; simp
 rw [d2] at d
 rw [d] at m
 rw [Array.toList_append,Array.toList_append,ext_to,ext_to,d]
 exact m.lastX
theorem LJ.pushB {a b:Array Keyed} {n:Nat} {out:Array Keyed} {ia ib:Nat} {p q:Keyed} (h:LJ κ a b n out ia ib) (ha:a[ia]?=some p) (hb:b[ib]?=some q) (c:le κ q p):LJ κ a b (n + 1) (out.push q) ia (ib + 1):=by
 have lb:=(Array.getElem?_eq_some_iff.mp hb).1
 have la:=(Array.getElem?_eq_some_iff.mp ha).1
 obtain ⟨p',e1,d1,_⟩:=at_drop la
 obtain ⟨q',e2,d2,_⟩:=at_drop lb
 rw [ha] at e1
 rw [hb] at e2
 cases e1
 cases e2
 have m:=h.mi
 rw [d1,d2] at m
 have m:=m.takeY c
 rw [<-d1] at m
 refine ⟨by rw [Array.toList_push]; exact m,h.la,lb,by rw [Array.size_push,h.lo]; exact om44,by rw [Array.size_push]; have:=h.n; exact om45 this⟩
theorem LJ.pushA {a b:Array Keyed} {n:Nat} {out:Array Keyed} {ia ib:Nat} {p q:Keyed} (h:LJ κ a b n out ia ib) (ha:a[ia]?=some p) (hb:b[ib]?=some q) (c:le κ p q):LJ κ a b (n + 1) (out.push p) (ia + 1) ib:=by
 have lb:=(Array.getElem?_eq_some_iff.mp hb).1
 have la:=(Array.getElem?_eq_some_iff.mp ha).1
 obtain ⟨p',e1,d1,_⟩:=at_drop la
 obtain ⟨q',e2,d2,_⟩:=at_drop lb
 rw [ha] at e1
 rw [hb] at e2
 cases e1
 cases e2
 have m:=h.mi
 rw [d1,d2] at m
 have m:=m.takeX c
 rw [<-d2] at m
 refine ⟨by rw [Array.toList_push]; exact m,la,h.lb,by rw [Array.size_push,h.lo]; exact om46,by rw [Array.size_push]; have:=h.n; exact om45 this⟩
theorem LJ.runA {a b:Array Keyed} {n:Nat} {out:Array Keyed} {ia ib k:Nat} {q:Keyed} (h:LJ κ a b n out ia ib) (hb:b[ib]?=some q) (hk:ia + k<=a.size) (c:∀ i,i < k->∀ p,a[ia + i]?=some p->le κ p q):LJ κ a b n (out++a.extract ia (ia + k)) (ia + k) ib:=by
 have lb:=(Array.getElem?_eq_some_iff.mp hb).1
 obtain ⟨q',e2,d2,_⟩:=at_drop lb
 rw [hb] at e2
 cases e2
 have m:=h.mi
 have sy:=m.sy
 rw [<-List.take_append_drop k (a.toList.drop ia)] at m
 have m:=m.takeXs fun p hp r hr=>by
  obtain ⟨i,hi,e⟩:=List.mem_iff_getElem.mp hp
  rw [List.length_take] at hi
  have e3:=List.getElem?_eq_getElem (l:=(a.toList.drop ia).take k) (i:=i) (by rw [List.length_take]; exact om47 hi)
  rw [e,List.getElem?_take,if_pos (by exact om48 hi),List.getElem?_drop,Array.getElem?_toList] at e3
  rw [d2] at hr sy
  exact le_head sy (c i (by exact om48 hi) p e3) hr
 rw [List.drop_drop] at m
 have sz:(a.extract ia (ia + k)).size=k:=by rw [Array.size_extract]; exact om49 hk
 refine ⟨by rw [Array.toList_append,ext_mid]; exact m,hk,h.lb,by rw [Array.size_append,sz,h.lo]; exact om50,by rw [Array.size_append]; have:=h.n; exact om51 sz this⟩
theorem LJ.runB {a b:Array Keyed} {n:Nat} {out:Array Keyed} {ia ib k:Nat} {p:Keyed} (h:LJ κ a b n out ia ib) (ha:a[ia]?=some p) (hk:ib + k<=b.size) (c:∀ i,i < k->∀ q,b[ib + i]?=some q->le κ q p):LJ κ a b n (out++b.extract ib (ib + k)) ia (ib + k):=by
 have la:=(Array.getElem?_eq_some_iff.mp ha).1
 obtain ⟨p',e2,d2,_⟩:=at_drop la
 rw [ha] at e2
 cases e2
 have m:=h.mi
 have sx:=m.sx
 rw [<-List.take_append_drop k (b.toList.drop ib)] at m
 have m:=m.takeYs fun q hq r hr=>by
  obtain ⟨i,hi,e⟩:=List.mem_iff_getElem.mp hq
  rw [List.length_take] at hi
  have e3:=List.getElem?_eq_getElem (l:=(b.toList.drop ib).take k) (i:=i) (by rw [List.length_take]; exact om47 hi)
  rw [e,List.getElem?_take,if_pos (by exact om48 hi),List.getElem?_drop,Array.getElem?_toList] at e3
  rw [d2] at hr sx
  exact le_head sx (c i (by exact om48 hi) q e3) hr
 rw [List.drop_drop] at m
 have sz:(b.extract ib (ib + k)).size=k:=by rw [Array.size_extract]; exact om49 hk
 refine ⟨by rw [Array.toList_append,ext_mid]; exact m,h.la,hk,by rw [Array.size_append,sz,h.lo]; exact om52,by rw [Array.size_append]; have:=h.n; exact om51 sz this⟩
theorem le_at {a:Array Keyed} (s:a.toList.Pairwise (le κ)) {i j:Nat} {p q:Keyed} (h:i<=j) (hi:a[i]?=some p) (hj:a[j]?=some q):le κ p q:=by
 by_cases e:i=j
 ·subst e
  rw [hi] at hj
  cases hj
  exact KeyOrd.kle_refl _
 ·have li:=(Array.getElem?_eq_some_iff.mp hi).1
  have lj:=(Array.getElem?_eq_some_iff.mp hj).1
  have:=(List.pairwise_iff_getElem.mp s) i j (by simpa using li) (by simpa using lj) (by exact om53 h e)
  rw [Array.getElem?_eq_getElem li] at hi
  rw [Array.getElem?_eq_getElem lj] at hj
  cases hi
  cases hj
  simpa using this
theorem wpS_gal (hL:LtOk κ kd prog w A s) {st:SortSt} {left:Bool} {key:Keyed} {a:Array Keyed} {base n hint:Nat} {Q:Option Nat->SortSt->Prop} (hk:kindOf st=kd) (hkey:Hk κ key) (ha:∀ p ∈ a.toList,Hk κ p) (hn:base + n<=a.size)
  (sa:∀ i j p q,base<=i->i<=j->j < base + n->a[i]?=some p->a[j]?=some q->le κ p q) (hh:hint < n)
  (h:∀ k,k<=n->(∀ i,i < k->∀ p,a[base + i]?=some p->bey κ left key p=true)->(∀ i,k<=i->i < n->∀ p,a[base + i]?=some p->bey κ left key p=false)->Q (some k) st):wpS (model prog w) A E s (gallop' left key a base n hint) Q st:=by
 refine wpS_gallop hL (fun i=>match a[base + i]? with | some p=>bey κ left key p | none=>false) hk hkey (fun i hi=>?_) (fun i j h1 h2 h3=>?_) hh (fun k h1 h2 h3=>h k h1 (fun i hi p e=>?_) (fun i hi hj p e=>?_))
 ·have:base + i < a.size:=by exact om54 hn hi
  obtain ⟨p,e,_,m⟩:=at_drop this
  exact ⟨p,e,ha p m,by rw [e]⟩
 ·obtain ⟨p,e,_⟩:=at_drop (a:=a) (i:=base + i) (by exact om55 hn h1 h2)
  obtain ⟨q,e2,_⟩:=at_drop (a:=a) (i:=base + j) (by exact om54 hn h2)
  have l:=sa _ _ p q (by exact om56) (show base + i<=base + j by exact om57 h1) (by exact om58 h2) e e2
  rw [e2] at h3
  rw [e]
  dsimp only at h3 ⊢
  unfold bey at h3 ⊢
  cases left with
  | true =>
   rw [if_pos rfl] at h3 ⊢
   exact KeyOrd.klt_of_kle_of_klt l h3
  | false =>
   rw [if_neg (by simp)] at h3 ⊢
   have h3:κ.kle (kv κ q) (kv κ key):=by simpa [KeyOrd.kle] using h3
   have:=KeyOrd.kle_trans l h3
   simpa [KeyOrd.kle] using this
 ·have:=h2 i hi
  rwa [e] at this
 ·have:=h3 i hi hj
  rwa [e] at this
theorem bey_le {key p:Keyed} (h:bey κ false key p=true):le κ p key:=by
 unfold bey at h
 rw [if_neg (by simp)] at h
 simpa [le,KeyOrd.kle] using h
theorem bey_lt {key p:Keyed} (h:bey κ true key p=true):le κ p key:=by
 unfold bey at h
 rw [if_pos rfl] at h
 exact KeyOrd.kle_of_klt h
theorem bey_gt {key p:Keyed} (h:bey κ false key p=false):le κ key p:=by
 unfold bey at h
 rw [if_neg (by simp)] at h
 exact KeyOrd.kle_of_klt (show κ.blt (kv κ key) (kv κ p)=true by simpa using h)
theorem bey_ge {key p:Keyed} (h:bey κ true key p=false):le κ key p:=by
 unfold bey at h
 rw [if_pos rfl] at h
 exact h
end
end Tm
namespace Tm
open PySem PyProof.Rows
section
variable {prog:Program} {w:World} {A:Around} {E:Value->Shared->Prop} {s:Shared} {κ:KeyKind} {kd:SortKind}
theorem wpS_jp {σ α β:Type} {M:Model} {Q:α->σ->Prop} {st:σ} {m:StateT σ Sem α} (f:β->StateT σ Sem α) (I:β->Prop) (J:∀ z,I z->wpS M A E s (f z) Q st) (h:(∀ z,I z->wpS M A E s (f z) Q st)->wpS M A E s m Q st):wpS M A E s m Q st:=h J
@[reducible] noncomputable def Lo0I (κ:KeyKind) (a b:Array Keyed) (st:SortSt) (x:Nat) (c:Option (Array Keyed) × Array Keyed × Nat × Nat × Nat) (st':SortSt):Prop:=Gs st st'/\∃ out ia ib mg,c=(none,out,ia,ib,mg)/\LJ κ a b (x + 1) out ia ib/\ia + 1 < a.size/\ib < b.size
@[reducible] noncomputable def Lo0Q (κ:KeyKind) (a b:Array Keyed) (st:SortSt)  (c:Option (Array Keyed) × Array Keyed × Nat × Nat × Nat) (st':SortSt):Prop:=Gs st st'/\∃ r rest,c=(some r,rest)/\Srt κ (a.toList++b.toList) r.toList
@[reducible] noncomputable def Lo1I (κ:KeyKind) (a b:Array Keyed) (st:SortSt) (x x':Nat) (c:Option (Array Keyed) × Array Keyed × Nat × Nat × Nat × Nat) (st':SortSt):Prop:=st'=st/\∃ out ia ib ac bc,c=(none,out,ia,ib,ac,bc)/\LJ κ a b (x + 1 + x') out ia ib/\ia + 1 < a.size/\ib < b.size
@[reducible] noncomputable def Lo1Q (κ:KeyKind) (a b:Array Keyed) (st:SortSt) (x:Nat) (c:Option (Array Keyed) × Array Keyed × Nat × Nat × Nat × Nat) (st':SortSt):Prop:=st'=st/\((∃ r rest,c=(some r,rest)/\Srt κ (a.toList++b.toList) r.toList)\/∃ out ia ib ac bc,c=(none,out,ia,ib,ac,bc)/\LJ κ a b (x + 1) out ia ib/\ia + 1 < a.size/\ib < b.size)
@[reducible] noncomputable def Lo2I (κ:KeyKind) (a b:Array Keyed) (st:SortSt) (x x':Nat) (c:Option (Array Keyed) × Array Keyed × Nat × Nat × Nat × Nat × Nat) (st':SortSt):Prop:=Gs st st'/\∃ out ia ib mg ac bc,c=(none,out,ia,ib,mg,ac,bc)/\LJ κ a b (x + 1 + x') out ia ib/\ia + 1 < a.size/\ib < b.size
@[reducible] noncomputable def Lo2Q (κ:KeyKind) (a b:Array Keyed) (st:SortSt) (x:Nat) (c:Option (Array Keyed) × Array Keyed × Nat × Nat × Nat × Nat × Nat) (st':SortSt):Prop:=Gs st st'/\((∃ r rest,c=(some r,rest)/\Srt κ (a.toList++b.toList) r.toList)\/∃ out ia ib mg ac bc,c=(none,out,ia,ib,mg,ac,bc)/\LJ κ a b (x + 2) out ia ib/\ia + 1 < a.size/\ib < b.size)
theorem wpS_mergeLo (hL:LtOk κ kd prog w A s) {st:SortSt} {a b:Array Keyed} {Q:Array Keyed->SortSt->Prop} (hk:kindOf st=kd) (ha:∀ p ∈ a.toList,Hk κ p) (hb:∀ p ∈ b.toList,Hk κ p)
  (na:1<=a.size) (nb:1<=b.size) (mi:MI κ (a.toList++b.toList) [] a.toList b.toList) (first:∀ p ∈ a.toList,∀ q,b[0]?=some q->le κ q p)
  (h:∀ r st',Gs st st'->Srt κ (a.toList++b.toList) r.toList->Q r st'):wpS (model prog w) A E s (mergeLo' a b) Q st:=by
 have sa:=mi.sx
 have sb:=mi.sy
 unfold mergeLo'
 refine wpS_bind (wpS_lift (wpAny_rule ⟨rfl,?_⟩))
 obtain ⟨q0,hq0,_⟩:=at_drop (a:=b) (i:=0) (by exact om59 nb)
 obtain ⟨p0,hp0,_,mp0⟩:=at_drop (a:=a) (i:=0) (by exact om59 na)
 have j0:LJ κ a b 0 #[] 0 0:=⟨by simpa using mi,by exact om60 na,by exact om60 nb,rfl,Nat.zero_le _⟩
 have j1:=j0.pushB hp0 hq0 (first p0 mp0 q0 hq0)
 have j1:LJ κ a b 1 #[q0] 0 1:=j1
 refine wpS_bind (wpS_elem hq0 ?_)
 refine wpS_mono (Q:=fun r st'=>Gs st st'/\Srt κ (a.toList++b.toList) r.toList) ?_ (fun r st' z=>h r st' z.1 z.2)
 clear h
 extract_lets out0
 by_cases c1:1=b.size
 ·refine wpS_T (bT c1) ?_
  exact wpS_pure ⟨.refl _,j1.doneB c1⟩
 refine wpS_F (bF c1) ?_
 by_cases c2:0 + 1=a.size
 ·refine wpS_T (bT c2) ?_
  exact wpS_pure ⟨.refl _,j1.lastA c2⟩
 refine wpS_F (bF c2) ?_
 refine wpS_bind (wpS_get ?_)
 extract_lets mg0
 refine wpS_bind (wpS_mono (wpS_forRange (I:=Lo0I κ a b st)
  (Q:=Lo0Q κ a b st) ?step ?fin ⟨.refl _,out0,0,1,mg0,rfl,j1,by exact om61 na c2,by exact om62 na nb c1 c2⟩) ?post)
 case post =>
  rintro c st' ⟨g,r,rest,rfl,hr⟩
  exact wpS_pure ⟨g,hr⟩
 case fin =>
  rintro c st' ⟨g,out,ia,ib,mg,rfl,j,l1,l2⟩
  have:=j.n
  have:=j.lo
  omega
 case step =>
  rintro x c st1 _ hx ⟨g,out,ia,ib,mg,rfl,j,l1,l2⟩
  refine wpS_bind (wpS_mono (wpS_forRange (I:=Lo1I κ a b st1 x)
   (Q:=Lo1Q κ a b st1 x) ?step1 ?fin1 ⟨rfl,out,ia,ib,0,0,rfl,j,l1,l2⟩) ?post1)
  case fin1 =>
   rintro c st' ⟨rfl,out,ia,ib,ac,bc,rfl,j,l1,l2⟩
   have:=j.n
   have:=j.lo
   omega
  case step1 =>
   clear j l1 l2
   rintro x' c st' _ hx' ⟨rfl,out,ia,ib,ac,bc,rfl,j,l1,l2⟩
   obtain ⟨p,hp,_,mp⟩:=at_drop (a:=a) (i:=ia) (by exact om63 l1)
   obtain ⟨q,hq,_,mq⟩:=at_drop (a:=b) (i:=ib) l2
   refine wpS_bind (wpS_elem hq (wpS_bind (wpS_elem hp (wpS_bind (wpS_lt hL (by rw [g.kind]; exact hk) (hb q mq) (ha p mp) ?_)))))
   dsimp only
   cases e:κ.blt (kv κ q) (kv κ p) with
   | true =>
    refine wpS_T rfl ?_
    refine wpS_bind (wpS_elem hq ?_)
    have j2:=j.pushB hp hq (KeyOrd.kle_of_klt e)
    by_cases d1:ib + 1=b.size
    ·refine wpS_T (bT d1) ?_
     exact wpS_pure ⟨rfl,.inl ⟨_,_,rfl,j2.doneB d1⟩⟩
    refine wpS_F (bF d1) ?_
    by_cases d2:bc + 1>=mg
    ·refine wpS_T d2 ?_
     exact wpS_pure ⟨rfl,.inr ⟨_,_,_,_,_,rfl,j2.less (by omega),l1,by exact om64 l2 d1⟩⟩
    ·refine wpS_F d2 ?_
     exact wpS_pure ⟨rfl,_,_,_,_,_,rfl,j2.less (by exact om65),l1,by exact om64 l2 d1⟩
   | false =>
    refine wpS_F Bool.false_ne_true ?_
    refine wpS_bind (wpS_elem hp ?_)
    have j2:=j.pushA hp hq e
    by_cases d1:ia + 1 + 1=a.size
    ·refine wpS_T (bT d1) ?_
     exact wpS_pure ⟨rfl,.inl ⟨_,_,rfl,j2.lastA d1⟩⟩
    refine wpS_F (bF d1) ?_
    by_cases d2:ac + 1>=mg
    ·refine wpS_T d2 ?_
     exact wpS_pure ⟨rfl,.inr ⟨_,_,_,_,_,rfl,j2.less (by omega),by exact om66 l1 d1,l2⟩⟩
    ·refine wpS_F d2 ?_
     exact wpS_pure ⟨rfl,_,_,_,_,_,rfl,j2.less (by exact om65),by exact om66 l1 d1,l2⟩
  case post1 =>
   clear j l1 l2
   rintro c st' ⟨rfl,⟨r,rest,rfl,hr⟩ | ⟨out,ia,ib,ac,bc,rfl,j,l1,l2⟩⟩
   ·exact wpS_pure ⟨g,r,_,rfl,hr⟩
   refine wpS_bind (wpS_lift (wpAny_rule ⟨rfl,?_⟩))
   refine wpS_bind (wpS_mono (wpS_forRange (I:=Lo2I κ a b st x)
    (Q:=Lo2Q κ a b st x) ?step2 ?fin2 ⟨g,out,ia,ib,_,ac,bc,rfl,j,l1,l2⟩) ?post2)
   case fin2 =>
    rintro c st' ⟨g,out,ia,ib,mg,ac,bc,rfl,j,l1,l2⟩
    have:=j.n
    have:=j.lo
    omega
   case post2 =>
    rintro c st' ⟨g,⟨r,rest,rfl,hr⟩ | ⟨out,ia,ib,mg,ac,bc,rfl,j,l1,l2⟩⟩
    ·exact wpS_pure ⟨g,r,_,rfl,hr⟩
    refine wpS_bind (wpS_setMin fun st2 g2=>?_)
    exact wpS_pure ⟨g.trans g2,_,_,_,_,rfl,j,l1,l2⟩
   case step2 =>
    clear j l1 l2 g
    rintro x' c st2 _ hx' ⟨g,out,ia,ib,mg,ac,bc,rfl,j,l1,l2⟩
    obtain ⟨p,hp,_,mp⟩:=at_drop (a:=a) (i:=ia) (by exact om63 l1)
    obtain ⟨q,hq,_,mq⟩:=at_drop (a:=b) (i:=ib) l2
    extract_lets s1 o1 s2 x1 s3 y1 s4 m1 s5 ac1 bc1 ib2 jp mgm
    refine wpS_jp (fun m=>jp () m) (fun _=>True) (fun m _=>?_) (fun J=>?_)
    ·refine wpS_bind (wpS_setMin fun st3 g3=>?_)
     have g4:=g.trans g3
     have hk3:kindOf st3=kd:=by rw [g4.kind]; exact hk
     refine wpS_bind (wpS_elem hq ?_)
     refine wpS_bind (wpS_gal (a:=a) (base:=ia) (n:=a.size - ia) hL hk3 (hb q mq) ha (by exact om67 l1) (fun i j p q _ h _ e1 e2=>le_at sa h e1 e2) (by exact om68 l1) fun k k1 k2 k3=>?_)
     dsimp -zeta only
     extract_lets ac2 jp2 o2 x2
     refine wpS_jp (fun z:Array Keyed × Nat=>jp2 () z.1 z.2) (fun z=>LJ κ a b (x + 1 + x') z.1 z.2 ib/\z.2 + 1 < a.size/\∀ p,a[z.2]?=some p->le κ q p) (fun z hz=>?_) (fun J2=>?_)
     ·obtain ⟨o3,x3⟩:=z
      obtain ⟨j3,l3,f3⟩:=hz
      dsimp only at j3 l3 f3
      obtain ⟨p3,hp3,_,mp3⟩:=at_drop (a:=a) (i:=x3) (by exact om63 l3)
      refine wpS_bind (wpS_elem hq ?_)
      have j4:=j3.pushB hp3 hq (f3 p3 hp3)
      by_cases d1:ib + 1=b.size
      ·refine wpS_T (bT d1) ?_
       exact wpS_pure ⟨g4,.inl ⟨_,_,rfl,j4.doneB d1⟩⟩
      refine wpS_F (bF d1) ?_
      refine wpS_bind (wpS_elem hp3 ?_)
      refine wpS_bind (wpS_gal (a:=b) (base:=ib + 1) (n:=b.size - (ib + 1)) hL hk3 (ha p3 mp3) hb (by exact om69 l2) (fun i j p q _ h _ e1 e2=>le_at sb h e1 e2) (by exact om70 l2 d1) fun k' k1' k2' k3'=>?_)
      dsimp -zeta only
      extract_lets bc2 ia2 jp3 o4 y4
      refine wpS_jp (fun z:Array Keyed × Nat=>jp3 () z.1 z.2) (fun z=>LJ κ a b (x + 1 + x' + 1) z.1 x3 z.2/\z.2 < b.size/\∀ q,b[z.2]?=some q->le κ p3 q) (fun z hz=>?_) (fun J3=>?_)
      ·obtain ⟨o5,y5⟩:=z
       obtain ⟨j5,l5,f5⟩:=hz
       dsimp only at j5 l5 f5
       obtain ⟨q5,hq5,_,mq5⟩:=at_drop (a:=b) (i:=y5) l5
       refine wpS_bind (wpS_elem hp3 ?_)
       have j6:=j5.pushA hp3 hq5 (f5 q5 hq5)
       by_cases d2:x3 + 1 + 1=a.size
       ·refine wpS_T (bT d2) ?_
        exact wpS_pure ⟨g4,.inl ⟨_,_,rfl,j6.lastA d2⟩⟩
       refine wpS_F (bF d2) ?_
       by_cases d3:(decide (ac2 < 7) && decide (bc2 < 7))=true
       ·refine wpS_T d3 ?_
        exact wpS_pure ⟨g4,.inr ⟨_,_,_,_,_,_,rfl,j6.less (by omega),by omega,l5⟩⟩
       ·refine wpS_F d3 ?_
        exact wpS_pure ⟨g4,_,_,_,_,_,_,rfl,j6.less (by exact om71),by omega,l5⟩
      by_cases d2:k' > 0
      ·refine wpS_T d2 ?_
       have j5:LJ κ a b (x + 1 + x' + 1) o4 x3 y4:=j4.runB hp3 (by exact om72 l2 k1') fun i hi p e=>bey_lt (k2' i hi p e)
       have e2:y4=ib + 1 + k':=rfl
       by_cases d3:y4=b.size
       ·refine wpS_T (bT d3) ?_
        exact wpS_pure ⟨g4,.inl ⟨_,_,rfl,j5.doneB d3⟩⟩
       refine wpS_F (bF d3) ?_
       exact J3 (o4,y4) ⟨j5,by dsimp only; omega,fun p e=>bey_ge (k3' k' (Nat.le_refl _) (by omega) p e)⟩
      ·refine wpS_F d2 ?_
       have:k'=0:=by exact om73 d2
       subst this
       exact J3 (_,ib + 1) ⟨j4,by dsimp only; exact om64 l2 d1,fun p e=>bey_ge (k3' 0 (Nat.le_refl _) (by exact om74 l2 d1 k1') p e)⟩
     by_cases d1:k > 0
     ·refine wpS_T d1 ?_
      have j3:LJ κ a b (x + 1 + x') o2 x2 ib:=j.runA hq (by exact om75 l1 k1) fun i hi p e=>bey_le (k2 i hi p e)
      have e2:x2=ia + k:=rfl
      by_cases d2:x2 + 1=a.size
      ·refine wpS_T (bT d2) ?_
       exact wpS_pure ⟨g4,.inl ⟨_,_,rfl,j3.lastA d2⟩⟩
      refine wpS_F (bF d2) ?_
      by_cases d3:x2=a.size
      ·refine wpS_T (bT d3) ?_
       exact wpS_pure ⟨g4,.inl ⟨_,_,rfl,j3.doneA d3⟩⟩
      refine wpS_F (bF d3) ?_
      exact J2 (o2,x2) ⟨j3,by dsimp only; omega,fun p e=>bey_gt (k3 k (Nat.le_refl _) (by omega) p e)⟩
     ·refine wpS_F d1 ?_
      have:k=0:=by exact om73 d1
      subst this
      exact J2 (o1,x1) ⟨j,l1,fun p e=>bey_gt (k3 0 (Nat.le_refl _) (by exact om76 l1 k1) p e)⟩
    by_cases d:m1 > 1
    ·refine wpS_T d ?_; exact J _ trivial
    ·refine wpS_F d ?_; exact J _ trivial
end
end Tm
namespace Tm
open PySem PyProof.Rows
noncomputable def dual (κ:KeyKind):KeyKind where
 α:=κ.α
 blt a b:=κ.blt b a
 irrefl a:=κ.irrefl a
 trans a b c h1 h2:=κ.trans c b a h2 h1
 negTrans a b c h:=(κ.negTrans c b a h).symm
 total a b h1 h2:=(κ.total a b h2 h1)
 keyOf:=κ.keyOf
 dflt:=κ.dflt
section
variable {κ:KeyKind}
theorem pw_rev {l:List Keyed} (h:l.Pairwise (le κ)):l.reverse.Pairwise (le (dual κ)):=List.pairwise_reverse.mpr h
theorem srt_rev {L r:List Keyed} (h:Srt (dual κ) L r):Srt κ L r.reverse:=⟨(List.reverse_perm r).trans h.1,List.pairwise_reverse.mpr h.2⟩
theorem take_rev {a:Array Keyed} {i:Nat} {p:Keyed} (hi:1<=i) (h:a[i - 1]?=some p):(a.toList.take i).reverse=p :: (a.toList.take (i - 1)).reverse:=by
 obtain ⟨j,rfl⟩:∃ j,i=j + 1:=⟨i - 1,by exact om77 hi⟩
 rw [Nat.add_sub_cancel] at h ⊢
 rw [List.take_succ,Array.getElem?_toList,h,List.reverse_append]
 rfl
structure HJ (κ:KeyKind) (a b:Array Keyed) (n:Nat) (out:Array Keyed) (na nb:Nat):Prop where
 mi:MI (dual κ) (a.toList++b.toList) out.toList (b.toList.take nb).reverse (a.toList.take na).reverse
 la:na<=a.size
 lb:nb<=b.size
 lo:out.size + na + nb=a.size + b.size
 n:n<=out.size
theorem HJ.less {a b:Array Keyed} {n m:Nat} {out:Array Keyed} {na nb:Nat} (h:HJ κ a b n out na nb) (hm:m<=n):HJ κ a b m out na nb:=⟨h.mi,h.la,h.lb,h.lo,Nat.le_trans hm h.n⟩
theorem ext_from (a:Array Keyed) (i:Nat):(a.extract 0 i).toList=a.toList.take i:=by simp
theorem HJ.doneA {a b:Array Keyed} {n:Nat} {out:Array Keyed} {na nb:Nat} (h:HJ κ a b n out na nb) (e:na=0):Srt κ (a.toList++b.toList) (a.extract 0 na++b.extract 0 nb++out.reverse).toList:=by
 subst e
 have:=srt_rev (MI.endY (by simpa using h.mi))
 rw [Array.toList_append,Array.toList_append,ext_from,ext_from,Array.toList_reverse]
 simpa using this
theorem HJ.doneB {a b:Array Keyed} {n:Nat} {out:Array Keyed} {na nb:Nat} (h:HJ κ a b n out na nb) (e:nb=0):Srt κ (a.toList++b.toList) (a.extract 0 na++b.extract 0 nb++out.reverse).toList:=by
 subst e
 have:=srt_rev (MI.endX (by simpa using h.mi))
 rw [Array.toList_append,Array.toList_append,ext_from,ext_from,Array.toList_reverse]
 simpa using this
theorem HJ.firstB {a b:Array Keyed} {n:Nat} {out:Array Keyed} {na nb:Nat} (h:HJ κ a b n out na nb) (e:nb=1):Srt κ (a.toList++b.toList) (b.extract 0 nb++a.extract 0 na++out.reverse).toList:=by
 subst e
 obtain ⟨q,hq,_⟩:=at_drop (a:=b) (i:=0) (by have:=h.lb; exact om59 this)
 have m:=h.mi
 have tr:=take_rev (a:=b) (i:=1) (Nat.le_refl _) hq
 rw [Nat.sub_self,List.take_zero,List.reverse_nil] at tr
 rw [tr] at m
 have:=srt_rev m.lastX
 have t1:b.toList.take 1=[q]:=by
  have:=congrArg List.reverse tr
  simpa using this
 rw [Array.toList_append,Array.toList_append,ext_from,ext_from,Array.toList_reverse,t1]
 simpa using this
theorem HJ.pushA {a b:Array Keyed} {n:Nat} {out:Array Keyed} {na nb:Nat} {p q:Keyed} (h:HJ κ a b n out na nb) (n1:1<=na) (n2:1<=nb) (ha:a[na - 1]?=some p) (hb:b[nb - 1]?=some q) (c:le κ q p):HJ κ a b (n + 1) (out.push p) (na - 1) nb:=by
 have m:=h.mi
 rw [take_rev n1 ha,take_rev n2 hb] at m
 have m:=m.takeY c
 rw [<-take_rev n2 hb] at m
 refine ⟨by rw [Array.toList_push]; exact m,by have:=h.la; exact om78 n1 this,h.lb,by rw [Array.size_push]; have:=h.lo; exact om79 n1 this,by rw [Array.size_push]; have:=h.n; exact om45 this⟩
theorem HJ.pushB {a b:Array Keyed} {n:Nat} {out:Array Keyed} {na nb:Nat} {p q:Keyed} (h:HJ κ a b n out na nb) (n1:1<=na) (n2:1<=nb) (ha:a[na - 1]?=some p) (hb:b[nb - 1]?=some q) (c:le κ p q):HJ κ a b (n + 1) (out.push q) na (nb - 1):=by
 have m:=h.mi
 rw [take_rev n1 ha,take_rev n2 hb] at m
 have m:=m.takeX c
 rw [<-take_rev n1 ha] at m
 refine ⟨by rw [Array.toList_push]; exact m,h.la,by have:=h.lb; exact om78 n2 this,by rw [Array.size_push]; have:=h.lo; exact om80 n2 this,by rw [Array.size_push]; have:=h.n; exact om45 this⟩
theorem take_cut (l:List Keyed) {i j:Nat} (h:i<=j):(l.take j).reverse=((l.take j).drop i).reverse++(l.take i).reverse:=by
 rw [<-List.reverse_append]
 congr 1
 have:=List.take_append_drop i (l.take j)
 rw [List.take_take,Nat.min_eq_left h] at this
 exact this.symm
theorem ext_cut (a:Array Keyed) {i j:Nat} (h:i<=j):(a.extract i j).reverse.toList=((a.toList.take j).drop i).reverse:=by
 simp [List.drop_take]
theorem mem_cut {a:Array Keyed} {i j:Nat} {p:Keyed} (h:p ∈ ((a.toList.take j).drop i).reverse):∃ k,i<=k/\k < j/\a[k]?=some p:=by
 rw [List.mem_reverse] at h
 obtain ⟨m,hm,e⟩:=List.mem_iff_getElem.mp h
 rw [List.length_drop,List.length_take] at hm
 have e3:=List.getElem?_eq_getElem (l:=(a.toList.take j).drop i) (i:=m) (by rw [List.length_drop,List.length_take]; exact om81 hm)
 rw [e,List.getElem?_drop,List.getElem?_take,if_pos (by exact om82 hm),Array.getElem?_toList] at e3
 exact ⟨i + m,by exact om56,by exact om82 hm,e3⟩
theorem HJ.runA {a b:Array Keyed} {n:Nat} {out:Array Keyed} {na nb k:Nat} {q:Keyed} (h:HJ κ a b n out na nb) (n2:1<=nb) (hb:b[nb - 1]?=some q) (hk:k<=na) (c:∀ i,k<=i->i < na->∀ p,a[i]?=some p->le κ q p):HJ κ a b n (out++(a.extract k na).reverse) k nb:=by
 have m:=h.mi
 have sx:=m.sx
 rw [take_cut _ hk] at m
 have m:=m.takeYs fun p hp r hr=>by
  obtain ⟨i,h1,h2,e⟩:=mem_cut hp
  rw [take_rev n2 hb] at hr sx
  exact le_head sx (c i h1 h2 p e) hr
 have sz:(a.extract k na).reverse.size=na - k:=by rw [Array.size_reverse,Array.size_extract]; have:=h.la; exact om83 hk this
 refine ⟨by rw [Array.toList_append,ext_cut _ hk]; exact m,by have:=h.la; exact om84 hk this,h.lb,by rw [Array.size_append,sz]; have:=h.lo; omega,by rw [Array.size_append]; have:=h.n; exact om85 sz this⟩
theorem HJ.runB {a b:Array Keyed} {n:Nat} {out:Array Keyed} {na nb k:Nat} {p:Keyed} (h:HJ κ a b n out na nb) (n1:1<=na) (ha:a[na - 1]?=some p) (hk:k<=nb) (c:∀ i,k<=i->i < nb->∀ q,b[i]?=some q->le κ p q):HJ κ a b n (out++(b.extract k nb).reverse) na k:=by
 have m:=h.mi
 have sy:=m.sy
 rw [take_cut _ hk] at m
 have m:=m.takeXs fun q hq r hr=>by
  obtain ⟨i,h1,h2,e⟩:=mem_cut hq
  rw [take_rev n1 ha] at hr sy
  exact le_head sy (c i h1 h2 q e) hr
 have sz:(b.extract k nb).reverse.size=nb - k:=by rw [Array.size_reverse,Array.size_extract]; have:=h.lb; exact om83 hk this
 refine ⟨by rw [Array.toList_append,ext_cut _ hk]; exact m,h.la,by have:=h.lb; exact om84 hk this,by rw [Array.size_append,sz]; have:=h.lo; omega,by rw [Array.size_append]; have:=h.n; exact om85 sz this⟩
end
section
variable {prog:Program} {w:World} {A:Around} {E:Value->Shared->Prop} {s:Shared} {κ:KeyKind} {kd:SortKind}
@[reducible] noncomputable def Hi0I (κ:KeyKind) (a b:Array Keyed) (st:SortSt) (x:Nat) (c:Option (Array Keyed) × Nat × Nat × Array Keyed × Nat) (st':SortSt):Prop:=Gs st st'/\∃ na nb out mg,c=(none,na,nb,out,mg)/\HJ κ a b (x + 1) out na nb/\1<=na/\2<=nb
@[reducible] noncomputable def Hi0Q (κ:KeyKind) (a b:Array Keyed) (st:SortSt)  (c:Option (Array Keyed) × Nat × Nat × Array Keyed × Nat) (st':SortSt):Prop:=Gs st st'/\∃ r rest,c=(some r,rest)/\Srt κ (a.toList++b.toList) r.toList
@[reducible] noncomputable def Hi1I (κ:KeyKind) (a b:Array Keyed) (st:SortSt) (x x':Nat) (c:Option (Array Keyed) × Nat × Nat × Array Keyed × Nat × Nat) (st':SortSt):Prop:=st'=st/\∃ na nb out ac bc,c=(none,na,nb,out,ac,bc)/\HJ κ a b (x + 1 + x') out na nb/\1<=na/\2<=nb
@[reducible] noncomputable def Hi1Q (κ:KeyKind) (a b:Array Keyed) (st:SortSt) (x:Nat) (c:Option (Array Keyed) × Nat × Nat × Array Keyed × Nat × Nat) (st':SortSt):Prop:=st'=st/\((∃ r rest,c=(some r,rest)/\Srt κ (a.toList++b.toList) r.toList)\/∃ na nb out ac bc,c=(none,na,nb,out,ac,bc)/\HJ κ a b (x + 1) out na nb/\1<=na/\2<=nb)
@[reducible] noncomputable def Hi2I (κ:KeyKind) (a b:Array Keyed) (st:SortSt) (x x':Nat) (c:Option (Array Keyed) × Nat × Nat × Array Keyed × Nat × Nat × Nat) (st':SortSt):Prop:=Gs st st'/\∃ na nb out mg ac bc,c=(none,na,nb,out,mg,ac,bc)/\HJ κ a b (x + 1 + x') out na nb/\1<=na/\2<=nb
@[reducible] noncomputable def Hi2Q (κ:KeyKind) (a b:Array Keyed) (st:SortSt) (x:Nat) (c:Option (Array Keyed) × Nat × Nat × Array Keyed × Nat × Nat × Nat) (st':SortSt):Prop:=Gs st st'/\((∃ r rest,c=(some r,rest)/\Srt κ (a.toList++b.toList) r.toList)\/∃ na nb out mg ac bc,c=(none,na,nb,out,mg,ac,bc)/\HJ κ a b (x + 2) out na nb/\1<=na/\2<=nb)
theorem wpS_mergeHi (hL:LtOk κ kd prog w A s) {st:SortSt} {a b:Array Keyed} {Q:Array Keyed->SortSt->Prop} (hk:kindOf st=kd) (ha:∀ p ∈ a.toList,Hk κ p) (hb:∀ p ∈ b.toList,Hk κ p)
  (na:1<=a.size) (nb:1<=b.size) (sa:a.toList.Pairwise (le κ)) (sb:b.toList.Pairwise (le κ)) (first:∀ p ∈ a.toList,∀ q,b[0]?=some q->le κ q p) (last:∀ q ∈ b.toList,∀ p,a[a.size - 1]?=some p->le κ q p)
  (h:∀ r st',Gs st st'->Srt κ (a.toList++b.toList) r.toList->Q r st'):wpS (model prog w) A E s (mergeHi' a b) Q st:=by
 unfold mergeHi'
 refine wpS_bind (wpS_lift (wpAny_rule ⟨rfl,?_⟩))
 obtain ⟨q0,hq0,_,mq0⟩:=at_drop (a:=b) (i:=b.size - 1) (by exact om86 nb)
 obtain ⟨qf,hqf,_,mqf⟩:=at_drop (a:=b) (i:=0) (by exact om59 nb)
 obtain ⟨p0,hp0,_,mp0⟩:=at_drop (a:=a) (i:=a.size - 1) (by exact om86 na)
 have j0:HJ κ a b 0 #[] a.size b.size:=by
  have e1:a.toList.take a.size=a.toList:=List.take_of_length_le (by simp)
  have e2:b.toList.take b.size=b.toList:=List.take_of_length_le (by simp)
  refine ⟨⟨?_,List.Pairwise.nil,by rw [e2]; exact pw_rev sb,by rw [e1]; exact pw_rev sa,fun p hp=>(nomatch hp),fun p hp=>(nomatch hp),fun q hq l hl=>?_⟩,Nat.le_refl _,Nat.le_refl _,by simp,Nat.zero_le _⟩
  ·rw [e1,e2]
   show ([]++(b.toList.reverse++a.toList.reverse)).Perm _
   rw [List.nil_append,<-List.reverse_append]
   exact List.reverse_perm _
  ·rw [e1,List.mem_reverse] at hq
   rw [e2,List.getLast?_reverse] at hl
   refine first q hq l ?_
   rw [<-Array.getElem?_toList,<-List.head?_eq_getElem?]
   exact hl
 have j1:=j0.pushA na nb hp0 hq0 (last q0 mq0 p0 hp0)
 have j1:HJ κ a b 1 #[p0] (a.size - 1) b.size:=j1
 extract_lets tot dn fb na0 nb0 z0
 refine wpS_bind (wpS_elem hp0 ?_)
 refine wpS_mono (Q:=fun r st'=>Gs st st'/\Srt κ (a.toList++b.toList) r.toList) ?_ (fun r st' z=>h r st' z.1 z.2)
 clear h
 extract_lets out0
 by_cases c1:na0=0
 ·refine wpS_T (bT c1) ?_
  exact wpS_pure ⟨.refl _,j1.doneA c1⟩
 refine wpS_F (bF c1) ?_
 by_cases c2:b.size=1
 ·refine wpS_T (bT c2) ?_
  exact wpS_pure ⟨.refl _,j1.firstB c2⟩
 refine wpS_F (bF c2) ?_
 refine wpS_bind (wpS_get ?_)
 extract_lets mg0
 have e0:na0=a.size - 1:=rfl
 refine wpS_bind (wpS_mono (wpS_forRange (I:=Hi0I κ a b st)
  (Q:=Hi0Q κ a b st) ?step ?fin ⟨.refl _,na0,nb0,out0,mg0,rfl,j1,by exact om87 na nb c1 c2,by omega⟩) ?post)
 case post =>
  rintro c st' ⟨g,r,rest,rfl,hr⟩
  exact wpS_pure ⟨g,hr⟩
 case fin =>
  rintro c st' ⟨g,na,nb,out,mg,rfl,j,l1,l2⟩
  have:=j.n
  have:=j.lo
  omega
 case step =>
  rintro x c st1 _ hx ⟨g,na,nb,out,mg,rfl,j,l1,l2⟩
  refine wpS_bind (wpS_mono (wpS_forRange (I:=Hi1I κ a b st1 x)
   (Q:=Hi1Q κ a b st1 x) ?step1 ?fin1 ⟨rfl,na,nb,out,0,0,rfl,j,l1,l2⟩) ?post1)
  case fin1 =>
   rintro c st' ⟨rfl,na,nb,out,ac,bc,rfl,j,l1,l2⟩
   have:=j.n
   have:=j.lo
   omega
  case step1 =>
   clear j l1 l2
   rintro x' c st' _ hx' ⟨rfl,na,nb,out,ac,bc,rfl,j,l1,l2⟩
   have la:=j.la
   have lb:=j.lb
   obtain ⟨p,hp,_,mp⟩:=at_drop (a:=a) (i:=na - 1) (by exact om88 l1 la)
   obtain ⟨q,hq,_,mq⟩:=at_drop (a:=b) (i:=nb - 1) (by exact om89 l2 lb)
   refine wpS_bind (wpS_elem hq (wpS_bind (wpS_elem hp (wpS_bind (wpS_lt hL (by rw [g.kind]; exact hk) (hb q mq) (ha p mp) ?_)))))
   dsimp -zeta only
   cases e:κ.blt (kv κ q) (kv κ p) with
   | true =>
    refine wpS_T rfl ?_
    refine wpS_bind (wpS_elem hp ?_)
    have j2:=j.pushA l1 (by exact om90 l2) hp hq (KeyOrd.kle_of_klt e)
    by_cases d1:na - 1=0
    ·refine wpS_T (bT d1) ?_
     exact wpS_pure ⟨rfl,.inl ⟨_,_,rfl,j2.doneA d1⟩⟩
    refine wpS_F (bF d1) ?_
    by_cases d2:ac + 1>=mg
    ·refine wpS_T d2 ?_
     exact wpS_pure ⟨rfl,.inr ⟨_,_,_,_,_,rfl,j2.less (by omega),by exact om91 l1 d1,l2⟩⟩
    ·refine wpS_F d2 ?_
     exact wpS_pure ⟨rfl,_,_,_,_,_,rfl,j2.less (by exact om65),by exact om91 l1 d1,l2⟩
   | false =>
    refine wpS_F Bool.false_ne_true ?_
    refine wpS_bind (wpS_elem hq ?_)
    have j2:=j.pushB l1 (by exact om90 l2) hp hq e
    by_cases d1:nb - 1=1
    ·refine wpS_T (bT d1) ?_
     exact wpS_pure ⟨rfl,.inl ⟨_,_,rfl,j2.firstB d1⟩⟩
    refine wpS_F (bF d1) ?_
    by_cases d2:bc + 1>=mg
    ·refine wpS_T d2 ?_
     exact wpS_pure ⟨rfl,.inr ⟨_,_,_,_,_,rfl,j2.less (by omega),l1,by exact om92 l2 d1⟩⟩
    ·refine wpS_F d2 ?_
     exact wpS_pure ⟨rfl,_,_,_,_,_,rfl,j2.less (by exact om65),l1,by exact om92 l2 d1⟩
  case post1 =>
   clear j l1 l2
   rintro c st' ⟨rfl,⟨r,rest,rfl,hr⟩ | ⟨na,nb,out,ac,bc,rfl,j,l1,l2⟩⟩
   ·exact wpS_pure ⟨g,r,_,rfl,hr⟩
   refine wpS_bind (wpS_lift (wpAny_rule ⟨rfl,?_⟩))
   refine wpS_bind (wpS_mono (wpS_forRange (I:=Hi2I κ a b st x)
    (Q:=Hi2Q κ a b st x) ?step2 ?fin2 ⟨g,na,nb,out,_,ac,bc,rfl,j,l1,l2⟩) ?post2)
   case fin2 =>
    rintro c st' ⟨g,na,nb,out,mg,ac,bc,rfl,j,l1,l2⟩
    have:=j.n
    have:=j.lo
    omega
   case post2 =>
    rintro c st' ⟨g,⟨r,rest,rfl,hr⟩ | ⟨na,nb,out,mg,ac,bc,rfl,j,l1,l2⟩⟩
    ·exact wpS_pure ⟨g,r,_,rfl,hr⟩
    refine wpS_bind (wpS_setMin fun st2 g2=>?_)
    exact wpS_pure ⟨g.trans g2,_,_,_,_,rfl,j,l1,l2⟩
   case step2 =>
    clear j l1 l2 g
    rintro x' c st2 _ hx' ⟨g,na,nb,out,mg,ac,bc,rfl,j,l1,l2⟩
    have la:=j.la
    have lb:=j.lb
    obtain ⟨p,hp,_,mp⟩:=at_drop (a:=a) (i:=na - 1) (by exact om88 l1 la)
    obtain ⟨q,hq,_,mq⟩:=at_drop (a:=b) (i:=nb - 1) (by exact om89 l2 lb)
    extract_lets s1 x1 s2 y1 s3 o1 s4 m1 s5 ac1 bc1 nb2 jp mgm
    refine wpS_jp (fun m=>jp () m) (fun _=>True) (fun m _=>?_) (fun J=>?_)
    ·refine wpS_bind (wpS_setMin fun st3 g3=>?_)
     have g4:=g.trans g3
     have hk3:kindOf st3=kd:=by rw [g4.kind]; exact hk
     refine wpS_bind (wpS_elem hq ?_)
     refine wpS_bind (wpS_gal (a:=a) (base:=0) (n:=na) (hint:=na - 1) hL hk3 (hb q mq) ha (by exact om93 la) (fun i j p q _ h _ e1 e2=>le_at sa h e1 e2) (by exact om86 l1) fun k k1 k2 k3=>?_)
     simp only [Nat.zero_add] at k2 k3
     dsimp -zeta only
     extract_lets kk ac2 jp2 o2 x2
     refine wpS_jp (fun z:Nat × Array Keyed=>jp2 () z.1 z.2) (fun z=>HJ κ a b (x + 1 + x') z.2 z.1 nb/\1<=z.1/\∀ p,a[z.1 - 1]?=some p->le κ p q) (fun z hz=>?_) (fun J2=>?_)
     ·obtain ⟨x3,o3⟩:=z
      obtain ⟨j3,l3,f3⟩:=hz
      dsimp only at j3 l3 f3
      have la3:=j3.la
      obtain ⟨p3,hp3,_,mp3⟩:=at_drop (a:=a) (i:=x3 - 1) (by exact om88 l3 la3)
      refine wpS_bind (wpS_elem hq ?_)
      have j4:=j3.pushB l3 (by exact om90 l2) hp3 hq (f3 p3 hp3)
      by_cases d1:nb - 1=1
      ·refine wpS_T (bT d1) ?_
       exact wpS_pure ⟨g4,.inl ⟨_,_,rfl,j4.firstB d1⟩⟩
      refine wpS_F (bF d1) ?_
      refine wpS_bind (wpS_elem hp3 ?_)
      refine wpS_bind (wpS_gal (a:=b) (base:=0) (n:=nb - 1) (hint:=nb - 1 - 1) hL hk3 (ha p3 mp3) hb (by exact om94 l2 lb) (fun i j p q _ h _ e1 e2=>le_at sb h e1 e2) (by exact om95 l2) fun k' k1' k2' k3'=>?_)
      simp only [Nat.zero_add] at k2' k3'
      dsimp -zeta only
      extract_lets kk' bc2 na4 jp3 o4 y4
      refine wpS_jp (fun z:Nat × Array Keyed=>jp3 () z.1 z.2) (fun z=>HJ κ a b (x + 1 + x' + 1) z.2 x3 z.1/\2<=z.1/\∀ q,b[z.1 - 1]?=some q->le κ q p3) (fun z hz=>?_) (fun J3=>?_)
      ·obtain ⟨y5,o5⟩:=z
       obtain ⟨j5,l5,f5⟩:=hz
       dsimp only at j5 l5 f5
       have lb5:=j5.lb
       obtain ⟨q5,hq5,_,mq5⟩:=at_drop (a:=b) (i:=y5 - 1) (by exact om89 l5 lb5)
       refine wpS_bind (wpS_elem hp3 ?_)
       have j6:=j5.pushA l3 (by exact om90 l5) hp3 hq5 (f5 q5 hq5)
       by_cases d2:x3 - 1=0
       ·refine wpS_T (bT d2) ?_
        exact wpS_pure ⟨g4,.inl ⟨_,_,rfl,j6.doneA d2⟩⟩
       refine wpS_F (bF d2) ?_
       by_cases d3:(decide (ac2 < 7) && decide (bc2 < 7))=true
       ·refine wpS_T d3 ?_
        exact wpS_pure ⟨g4,.inr ⟨_,_,_,_,_,_,rfl,j6.less (by omega),by omega,l5⟩⟩
       ·refine wpS_F d3 ?_
        exact wpS_pure ⟨g4,_,_,_,_,_,_,rfl,j6.less (by exact om71),by omega,l5⟩
      have ek':kk'=nb - 1 - k':=rfl
      by_cases d2:kk' > 0
      ·refine wpS_T d2 ?_
       have j5:HJ κ a b (x + 1 + x' + 1) o4 x3 y4:=j4.runB l3 hp3 (by exact om96 k1') fun i h1 h2 p e=>bey_ge (k3' i h1 h2 p e)
       have e2:y4=k':=rfl
       by_cases d3:y4=1
       ·refine wpS_T (bT d3) ?_
        exact wpS_pure ⟨g4,.inl ⟨_,_,rfl,j5.firstB d3⟩⟩
       refine wpS_F (bF d3) ?_
       by_cases d4:y4=0
       ·refine wpS_T (bT d4) ?_
        exact wpS_pure ⟨g4,.inl ⟨_,_,rfl,j5.doneB d4⟩⟩
       refine wpS_F (bF d4) ?_
       exact J3 (y4,o4) ⟨j5,by dsimp only; exact om97 d3 d4,fun q e=>bey_lt (k2' (y4 - 1) (by omega) q e)⟩
      ·refine wpS_F d2 ?_
       exact J3 (nb - 1,_) ⟨j4,om908 l2 d1,fun q e=>bey_lt (k2' (nb - 1 - 1) (by exact om98 l2 ek' d2) q e)⟩
     have ek:kk=na - k:=rfl
     by_cases d1:kk > 0
     ·refine wpS_T d1 ?_
      have j3:HJ κ a b (x + 1 + x') o2 x2 nb:=j.runA (by exact om90 l2) hq (by exact om99 k1) fun i h1 h2 p e=>bey_gt (k3 i h1 h2 p e)
      have e2:x2=k:=rfl
      by_cases d2:x2=0
      ·refine wpS_T (bT d2) ?_
       exact wpS_pure ⟨g4,.inl ⟨_,_,rfl,j3.doneA d2⟩⟩
      refine wpS_F (bF d2) ?_
      exact J2 (x2,o2) ⟨j3,by dsimp only; exact om100 d2,fun p e=>bey_le (k2 (x2 - 1) (by omega) p e)⟩
     ·refine wpS_F d1 ?_
      exact J2 (na,out) ⟨j,l1,fun p e=>bey_le (k2 (na - 1) (by exact om101 l1 ek d1) p e)⟩
    by_cases d:m1 > 1
    ·refine wpS_T d ?_; exact J _ trivial
    ·refine wpS_F d ?_; exact J _ trivial
end
end Tm
namespace Tm
open PySem PyProof.Rows
section
variable {prog:Program} {w:World} {A:Around} {E:Value->Shared->Prop} {s:Shared} {κ:KeyKind} {kd:SortKind}
structure Sg (lo:Nat) (st st':SortSt):Prop where
 kind:kindOf st'=kindOf st
 pend:pendingOf st'=pendingOf st
 fail:failedOf st'=failedOf st
 head:∀ i,i < lo->(arrOf st')[i]?=(arrOf st)[i]?
 perm:(arrOf st').Perm (arrOf st)
theorem Sg.refl (lo:Nat) (st:SortSt):Sg lo st st:=⟨rfl,rfl,rfl,fun _ _=>rfl,Array.Perm.refl _⟩
theorem Sg.trans {lo:Nat} {a b c:SortSt} (x:Sg lo a b) (y:Sg lo b c):Sg lo a c:=⟨y.kind.trans x.kind,y.pend.trans x.pend,y.fail.trans x.fail,fun i h=>(y.head i h).trans (x.head i h),y.perm.trans x.perm⟩
theorem Sg.size {lo:Nat} {a b:SortSt} (x:Sg lo a b):(arrOf b).size=(arrOf a).size:=x.perm.size_eq
theorem Sg.keys {lo:Nat} {a b:SortSt} (x:Sg lo a b) (h:∀ p ∈ (arrOf a).toList,Hk κ p):∀ p ∈ (arrOf b).toList,Hk κ p:=fun p hp=>h p ((Array.perm_iff_toList_perm.mp x.perm).mem_iff.mp hp)
theorem kk_at {xs:Array Keyed} {i:Nat} {p:Keyed} (h:xs[i]?=some p):KK κ xs i=kv κ p:=by unfold KK kv; rw [h]
theorem wpS_ltA (hL:LtOk κ kd prog w A s) {st:SortSt} {i j:Nat} {Q:Option Bool->SortSt->Prop} (hk:kindOf st=kd) (ha:∀ p ∈ (arrOf st).toList,Hk κ p) (hi:i < (arrOf st).size) (hj:j < (arrOf st).size)
  (h:Q (some (κ.blt (KK κ (arrOf st) i) (KK κ (arrOf st) j))) st):wpS (model prog w) A E s (ltAt' i j) Q st:=by
 obtain ⟨p,hp,_,mp⟩:=at_drop hi
 obtain ⟨q,hq,_,mq⟩:=at_drop hj
 rw [kk_at hp,kk_at hq] at h
 rw [ltAt'_eq]
 exact wpS_bind (wpS_get (wpS_bind (wpS_elem hp (wpS_bind (wpS_elem hq (wpS_lt hL hk (ha p mp) (ha q mq) h))))))
noncomputable def Up (κ:KeyKind) (xs:Array Keyed) (lo n:Nat):Prop:=∀ i j,i<=j->j < n->κ.kle (KK κ xs (lo + i)) (KK κ xs (lo + j))
noncomputable def Down (κ:KeyKind) (xs:Array Keyed) (lo n:Nat):Prop:=∀ i j,i<=j->j < n->κ.kle (KK κ xs (lo + j)) (KK κ xs (lo + i))
theorem Up.one {xs:Array Keyed} {lo:Nat}:Up κ xs lo 1:=fun i j h1 h2=>by
 have:i=j:=by exact om102 h1 h2
 subst this
 exact KeyOrd.kle_refl _
theorem Up.more {xs:Array Keyed} {lo n:Nat} (h:Up κ xs lo n) (h1:1<=n) (c:κ.kle (KK κ xs (lo + (n - 1))) (KK κ xs (lo + n))):Up κ xs lo (n + 1):=fun i j hij hj=>by
 by_cases e:j < n
 ·exact h i j hij e
 have:j=n:=by exact om103 hj e
 subst this
 by_cases e2:i=j
 ·subst e2; exact KeyOrd.kle_refl _
 exact KeyOrd.kle_trans (h i (j - 1) (by exact om104 hij h1 e2) (by exact om86 h1)) c
theorem Down.more {xs:Array Keyed} {lo n:Nat} (h:Down κ xs lo n) (h1:1<=n) (c:κ.kle (KK κ xs (lo + n)) (KK κ xs (lo + (n - 1)))):Down κ xs lo (n + 1):=fun i j hij hj=>by
 by_cases e:j < n
 ·exact h i j hij e
 have:j=n:=by exact om103 hj e
 subst this
 by_cases e2:i=j
 ·subst e2; exact KeyOrd.kle_refl _
 exact KeyOrd.kle_trans c (h i (j - 1) (by exact om104 hij h1 e2) (by exact om86 h1))
theorem wpS_asc {st:SortSt} {lo a nrem:Nat} {f:Nat->Option (Option Nat) × Nat->StateT SortSt Sem (ForInStep (Option (Option Nat) × Nat))} {Q:Option (Option Nat) × Nat->SortSt->Prop} (h1:1<=a) (h2:a<=nrem) (up:Up κ (arrOf st) lo a)
  (hf:∀ x n (R:ForInStep (Option (Option Nat) × Nat)->SortSt->Prop),1<=n->n < nrem->(κ.klt (KK κ (arrOf st) (lo + n)) (KK κ (arrOf st) (lo + (n - 1)))->R (.done (none,n)) st)->(κ.kle (KK κ (arrOf st) (lo + (n - 1))) (KK κ (arrOf st) (lo + n))->R (.yield (none,n + 1)) st)->wpS (model prog w) A E s (f x (none,n)) R st)
  (h:∀ n,a<=n->n<=nrem->Up κ (arrOf st) lo n->(n=nrem\/κ.klt (KK κ (arrOf st) (lo + n)) (KK κ (arrOf st) (lo + (n - 1))))->Q (none,n) st):wpS (model prog w) A E s (forIn [a:nrem] (none,a) f) Q st:=by
 refine wpS_forRange (I:=fun x c st'=>st'=st/\c=(none,x)/\Up κ (arrOf st) lo x) ?_ ?_ ⟨rfl,rfl,up⟩
 ·rintro x c st' hax hx ⟨rfl,rfl,u⟩
  exact hf x x _ (by exact om105 h1 hax) hx (fun e=>h x hax (by exact om106 hx) u (.inr e)) fun e=>⟨rfl,rfl,u.more (by exact om105 h1 hax) e⟩
 ·rintro c st' ⟨rfl,rfl,u⟩
  rw [show max a nrem=nrem by exact om107 h2] at u ⊢
  exact h nrem h2 (Nat.le_refl _) u (.inl rfl)
theorem wpS_rev {st:SortSt} {lo i j:Nat} {Q:Unit->SortSt->Prop} (hi:lo<=i) (hj:j<=(arrOf st).size) (h:∀ st',Sg lo st st'->(∀ k,KK κ (arrOf st') k=if i<=k/\k < j then KK κ (arrOf st) (i + j - 1 - k) else KK κ (arrOf st) k)->Q () st'):wpS (model prog w) A E s (reverseSlice' i j) Q st:=by
 rw [reverseSlice'_eq]
 refine wpS_modify (h _ ⟨rfl,rfl,rfl,fun k hk=>?_,mirror_perm _ _ _ _⟩ fun k=>KK_mirror hj k)
 show (mirror (arrOf st) i j ((j - i) / 2))[k]?=_
 rw [getElem?_mirror_all hj,if_neg (by exact om108 hi hk)]
theorem wpS_jpS {σ α β:Type} {M:Model} {Q:α->σ->Prop} {st:σ} {m:StateT σ Sem α} (f:β->StateT σ Sem α) (I:β->σ->Prop) (J:∀ z st',I z st'->wpS M A E s (f z) Q st') (h:(∀ z st',I z st'->wpS M A E s (f z) Q st')->wpS M A E s m Q st):wpS M A E s m Q st:=h J
noncomputable def countRunL:Nat->Nat->StateT SortSt Sem (Option Nat):=sortPriv% PySem.Builtin.countRun
theorem wpS_count (hL:LtOk κ kd prog w A s) {st:SortSt} {lo nrem:Nat} {Q:Option Nat->SortSt->Prop} (hk:kindOf st=kd) (ha:∀ p ∈ (arrOf st).toList,Hk κ p) (h1:1<=nrem) (hn:lo + nrem<=(arrOf st).size)
  (h:∀ m st',Sg lo st st'->1<=m->m<=nrem->Up κ (arrOf st') lo m->Q (some m) st'):wpS (model prog w) A E s (countRunL lo nrem) Q st:=by
 unfold countRunL
 refine wpS_bind (wpS_asc (κ:=κ) (lo:=lo) (Nat.le_refl 1) h1 Up.one (fun x n R a1 a2 r1 r2=>?_) fun n a1 a2 up stop=>?_)
 ·extract_lets
  refine wpS_bind (wpS_ltA hL hk ha (by omega) (by omega) ?_)
  rw [show lo + n - 1=lo + (n - 1) by exact om109 a1]
  dsimp -zeta only
  cases e:κ.blt (KK κ (arrOf st) (lo + n)) (KK κ (arrOf st) (lo + (n - 1))) with
  | true=>refine wpS_T rfl ?_; exact wpS_pure (r1 e)
  | false=>refine wpS_F Bool.false_ne_true ?_; exact wpS_pure (r2 e)
 show wpS _ _ _ _ (if (n == nrem)=true then pure (some n) else _) _ _
 by_cases hnn:n=nrem
 ·refine wpS_T (bT hnn) ?_
  exact wpS_pure (h n st (.refl _ _) a1 a2 up)
 refine wpS_F (bF hnn) ?_
 have lt0:=stop.resolve_left hnn
 extract_lets jn jq jp
 refine wpS_jpS (fun _:Unit=>jp ()) (fun _ st'=>Sg lo st st'/\Down κ (arrOf st') lo (n + 1)) (fun _ st1 hz=>?_) (fun J=>?_)
 ·obtain ⟨g1,dn⟩:=hz
  refine wpS_bind (wpS_lift (wpAny_rule ⟨rfl,?_⟩))
  refine wpS_bind (wpS_mono (wpS_forRange (I:=fun x c st'=>∃ neq,c=(none,x,neq)/\Sg lo st st'/\Down κ (arrOf st') lo x/\neq + 1<=x/\∀ i,x - (neq + 1)<=i->i < x->KK κ (arrOf st') (lo + i)=KK κ (arrOf st') (lo + (x - 1)))
   (Q:=fun c st'=>∃ x neq,c=(none,x,neq)/\Sg lo st st'/\x<=nrem/\Down κ (arrOf st') lo x/\neq + 1<=x/\∀ i,x - (neq + 1)<=i->i < x->KK κ (arrOf st') (lo + i)=KK κ (arrOf st') (lo + (x - 1))) ?step ?fin ⟨0,rfl,g1,dn,by omega,fun i i1 i2=>by rw [show i=n + 1 - 1 by omega]⟩) ?post)
  case fin =>
   rintro c st' ⟨neq,rfl,b1,b2,b3,b4⟩
   rw [show max (n + 1) nrem=nrem by exact om110 a2 hnn] at b2 b3 b4 ⊢
   exact ⟨nrem,neq,rfl,b1,Nat.le_refl _,b2,b3,b4⟩
  case step =>
   rintro x c st' hax hx ⟨neq,rfl,b1,b2,b3,b4⟩
   have sz:=b1.size
   have hk':kindOf st'=kd:=b1.kind.trans hk
   have ha':=b1.keys ha
   refine wpS_bind (wpS_ltA (i:=lo + x) (j:=lo + x - 1) hL hk' ha' (by exact om111 hn hx sz) (by omega) ?_)
   rw [show lo + x - 1=lo + (x - 1) by exact om112 b3]
   dsimp -zeta only
   extract_lets
   cases e:κ.blt (KK κ (arrOf st') (lo + x)) (KK κ (arrOf st') (lo + (x - 1))) with
   | true =>
    refine wpS_T rfl ?_
    have d1:=b2.more (by exact om113 b3) (KeyOrd.kle_of_klt e)
    by_cases c:neq > 0
    ·refine wpS_T c ?_
     refine wpS_bind (wpS_rev (κ:=κ) (lo:=lo) (by exact om114 b3) (by exact om115 hn hx sz) fun st2 g2 kk=>?_)
     have kk:∀ i,KK κ (arrOf st2) (lo + i)=KK κ (arrOf st') (lo + i):=fun i=>by
      rw [kk]
      split
      ·rename_i q
       obtain ⟨e1,e2,e3,e4,e5⟩:=om904 b3 q
       rw [e1,b4 _ e2 e3,b4 i e4 e5]
      ·rfl
     exact wpS_pure ⟨0,rfl,b1.trans g2,fun i j h1 h2=>by rw [kk,kk]; exact d1 i j h1 h2,by exact om116,fun i i1 i2=>by rw [show i=x + 1 - 1 by exact om117 i1 i2]⟩
    ·refine wpS_F c ?_
     exact wpS_pure ⟨0,rfl,b1,d1,by exact om116,fun i i1 i2=>by rw [show i=x + 1 - 1 by omega]⟩
   | false =>
    refine wpS_F Bool.false_ne_true ?_
    refine wpS_bind (wpS_ltA (i:=lo + (x - 1)) (j:=lo + x) hL hk' ha' (by omega) (by exact om111 hn hx sz) ?_)
    dsimp -zeta only
    cases e2:κ.blt (KK κ (arrOf st') (lo + (x - 1))) (KK κ (arrOf st') (lo + x)) with
    | true =>
     refine wpS_T rfl ?_
     exact wpS_pure ⟨x,neq,rfl,b1,by exact om106 hx,b2,b3,b4⟩
    | false =>
     refine wpS_F Bool.false_ne_true ?_
     have eq:KK κ (arrOf st') (lo + x)=KK κ (arrOf st') (lo + (x - 1)):=KeyOrd.kle_antisymm e2 e
     refine wpS_pure ⟨neq + 1,rfl,b1,b2.more (by exact om113 b3) (by rw [eq]; exact KeyOrd.kle_refl _),by exact om118 b3,fun i i1 i2=>?_⟩
     rw [show x + 1 - 1=x by exact om119]
     by_cases ix:i=x
     ·rw [ix]
     ·rw [b4 i (by omega) (by exact om120 i2 ix),eq]
  case post =>
   rintro c st2 ⟨x,neq,rfl,b1,b2,b3,b4,b5⟩
   extract_lets r2 s2 n2 q2 jp2
   have sz:=b1.size
   refine wpS_jpS (fun _:Unit=>jp2 ()) (fun _ st'=>Sg lo st st'/\Down κ (arrOf st') lo x) (fun _ st3 hz=>?_) (fun J2=>?_)
   ·obtain ⟨g3,dn3⟩:=hz
    have sz3:=g3.size
    refine wpS_bind (wpS_rev (κ:=κ) (lo:=lo) (Nat.le_refl _) (show lo + x<=_ by exact om121 hn b2 sz sz3) fun st4 g4 kk=>?_)
    have g5:=g3.trans g4
    have sz5:=g5.size
    refine wpS_bind (wpS_asc (κ:=κ) (lo:=lo) (show 1<=x by exact om113 b4) b2 (fun i j h1 h2=>?_) (fun y n R a1 a2 r1 r2=>?_) fun n a1 a2 up stop=>?_)
    ·have h2:j < x:=h2
     rw [kk,kk,if_pos (by exact om122 h1 h2),if_pos (by exact om123 h2),show lo + (lo + x) - 1 - (lo + i)=lo + (x - 1 - i) by exact om905 (Nat.lt_of_le_of_lt h1 h2),show lo + (lo + x) - 1 - (lo + j)=lo + (x - 1 - j) by exact om905 h2]
     exact dn3 _ _ (by exact om126 h1 h2) (by exact om127 h1 h2)
    ·refine wpS_bind (wpS_ltA hL (g5.kind.trans hk) (g5.keys ha) (by omega) (by omega) ?_)
     rw [show lo + n - 1=lo + (n - 1) by exact om109 a1]
     dsimp -zeta only
     cases e:κ.blt (KK κ (arrOf st4) (lo + n)) (KK κ (arrOf st4) (lo + (n - 1))) with
     | true=>refine wpS_T rfl ?_; exact wpS_pure (r1 e)
     | false=>refine wpS_F Bool.false_ne_true ?_; exact wpS_pure (r2 e)
    ·have a1:x<=n:=a1
     exact wpS_pure (h n st4 g5 (by exact om128 b4 a1) a2 up)
   by_cases c:neq > 0
   ·show wpS _ _ _ _ (if neq > 0 then _ else _) _ _
    refine wpS_T c ?_
    refine wpS_bind (wpS_rev (κ:=κ) (lo:=lo) (i:=lo + x - (neq + 1)) (j:=lo + x) (show lo<=lo + x - (neq + 1) by exact om114 b4) (show lo + x<=_ by exact om129 hn b2 sz) fun st3 g3 kk=>?_)
    have kk:∀ i,KK κ (arrOf st3) (lo + i)=KK κ (arrOf st2) (lo + i):=fun i=>by
     rw [kk]
     split
     ·rename_i q
      obtain ⟨e1,e2,e3,e4,e5⟩:=om904 b4 q
      rw [e1,b5 _ e2 e3,b5 i e4 e5]
     ·rfl
    exact J2 () st3 ⟨b1.trans g3,fun i j h1 h2=>by rw [kk,kk]; exact b3 i j h1 h2⟩
   ·show wpS _ _ _ _ (if neq > 0 then _ else _) _ _
    refine wpS_F c ?_
    exact J2 () st2 ⟨b1,b3⟩
 by_cases c:n > 1
 ·refine wpS_T c ?_
  refine wpS_bind (wpS_ltA hL hk ha (by exact om130 h1 hn) (by omega) ?_)
  rw [show lo + n - 1=lo + (n - 1) by exact om131 c]
  dsimp -zeta only
  cases e:κ.blt (KK κ (arrOf st) lo) (KK κ (arrOf st) (lo + (n - 1))) with
  | true =>
   refine wpS_T rfl ?_
   exact wpS_pure (h n st (.refl _ _) a1 a2 up)
  | false =>
   refine wpS_F Bool.false_ne_true ?_
   have all:∀ i,i < n->KK κ (arrOf st) (lo + i)=KK κ (arrOf st) (lo + (n - 1)):=fun i hi =>
    KeyOrd.kle_antisymm (up i (n - 1) (by exact om132 c hi) (by exact om133 c)) (KeyOrd.kle_trans e (by have:=up 0 i (by exact om36) hi; rwa [Nat.add_zero] at this))
   refine wpS_bind (wpS_rev (κ:=κ) (lo:=lo) (Nat.le_refl _) (show lo + n<=_ by exact om134 hn a2) fun st3 g3 kk=>?_)
   have kk:∀ i,KK κ (arrOf st3) (lo + i)=KK κ (arrOf st) (lo + i):=fun i=>by
    rw [kk]
    split
    ·rename_i q
     have l:=Nat.lt_of_add_lt_add_left q.2
     rw [om905 l,all _ (Nat.lt_of_le_of_lt (Nat.sub_le _ _) (Nat.sub_lt (Nat.lt_of_le_of_lt (Nat.zero_le _) l) Nat.zero_lt_one)),all i l]
    ·rfl
   refine J () st3 ⟨g3,Down.more (fun i j h1 h2=>?_) a1 ?_⟩
   ·rw [kk,kk,all i (by exact om135 h1 h2),all j h2]; exact KeyOrd.kle_refl _
   ·rw [kk,kk]; exact KeyOrd.kle_of_klt lt0
 ·refine wpS_F c ?_
  refine J () st ⟨.refl _ _,Down.more (fun i j h1 h2=>?_) a1 (KeyOrd.kle_of_klt lt0)⟩
  have:i=j:=by exact om136 a1 c h1 h2
  subst this
  exact KeyOrd.kle_refl _
end
end Tm
namespace Tm
open PySem PyProof.Rows
section
variable {prog:Program} {w:World} {A:Around} {E:Value->Shared->Prop} {s:Shared} {κ:KeyKind} {kd:SortKind}
noncomputable def binL:Nat->Nat->Nat->StateT SortSt Sem Bool:=sortPriv% PySem.Builtin.binarySort
theorem wpS_bin (hL:LtOk κ kd prog w A s) {st:SortSt} {lo n ok:Nat} {Q:Bool->SortSt->Prop} (hk:kindOf st=kd) (ha:∀ p ∈ (arrOf st).toList,Hk κ p) (h1:ok<=n) (hn:lo + n<=(arrOf st).size) (up:Up κ (arrOf st) lo ok)
  (h:∀ st',Sg lo st st'->Up κ (arrOf st') lo n->Q true st'):wpS (model prog w) A E s (binL lo n ok) Q st:=by
 unfold binL
 refine wpS_bind (wpS_mono (wpS_forRange (I:=fun k c st'=>c=(none,())/\Sg lo st st'/\Up κ (arrOf st') lo (min k n)) (Q:=fun c st'=>c=(none,())/\Sg lo st st'/\Up κ (arrOf st') lo n) ?step ?fin ?init) ?post)
 case post =>
  rintro c st' ⟨rfl,g,u⟩
  exact wpS_pure (h st' g u)
 case init =>
  refine ⟨rfl,.refl _ _,fun i j hij hj=>?_⟩
  by_cases e:ok=0
  ·have:i=j:=by exact om137 hij hj e
   subst this
   exact KeyOrd.kle_refl _
  ·exact up i j hij (by exact om138 h1 hj e)
 case fin =>
  rintro c st' ⟨rfl,g,u⟩
  rw [show min (max (max ok 1) n) n=n by exact om139] at u
  exact ⟨rfl,g,u⟩
 case step =>
  rintro k c st' k1 k2 ⟨rfl,g,u⟩
  rw [show min k n=k by exact om140 k2] at u
  have sz:=g.size
  refine wpS_bind (wpS_mono (wpS_forRange (I:=fun x c st2=>st2=st'/\∃ l r,c=(none,l,r)/\l<=r/\r<=k/\r - l<=k - x/\(∀ i,i < l->κ.kle (KK κ (arrOf st') (lo + i)) (KK κ (arrOf st') (lo + k)))/\(∀ i,r<=i->i < k->κ.kle (KK κ (arrOf st') (lo + k)) (KK κ (arrOf st') (lo + i))))
   (Q:=fun c st2=>st2=st'/\∃ l,c=(none,l,l)/\l<=k/\(∀ i,i < l->κ.kle (KK κ (arrOf st') (lo + i)) (KK κ (arrOf st') (lo + k)))/\(∀ i,l<=i->i < k->κ.kle (KK κ (arrOf st') (lo + k)) (KK κ (arrOf st') (lo + i)))) ?istep ?ifin ⟨rfl,0,k,rfl,by exact om36,by exact om141,by exact om142,fun i hi=>by omega,fun i a b=>by omega⟩) ?ipost)
  case ifin =>
   rintro c st2 ⟨rfl,l,r,rfl,a1,a2,a3,a4,a5⟩
   have:l=r:=by exact om25 a1 a3
   subst this
   exact ⟨rfl,l,rfl,a2,a4,a5⟩
  case istep =>
   rintro x c st2 _ hx ⟨rfl,l,r,rfl,a1,a2,a3,a4,a5⟩
   dsimp -zeta only
   extract_lets
   by_cases c:l>=r
   ·show wpS _ _ _ _ (if l>=r then _ else _) _ _
    refine wpS_T c ?_
    have:l=r:=by exact om33 a1 c
    subst this
    exact wpS_pure ⟨rfl,l,rfl,a2,a4,a5⟩
   ·show wpS _ _ _ _ (if l>=r then _ else _) _ _
    refine wpS_F c ?_
    refine wpS_bind (wpS_ltA (i:=lo + k) (j:=lo + (l + r) / 2) hL (g.kind.trans hk) (g.keys ha) (by exact om111 hn k2 sz) (by omega) ?_)
    dsimp -zeta only
    cases e:κ.blt (KK κ (arrOf st2) (lo + k)) (KK κ (arrOf st2) (lo + (l + r) / 2)) with
    | true =>
     refine wpS_T rfl ?_
     refine wpS_pure ⟨rfl,l,(l + r) / 2,rfl,by exact om143 c,by exact om144 a2 c,om903 a3 c,a4,fun i b1 b2=>?_⟩
     exact KeyOrd.kle_trans (KeyOrd.kle_of_klt e) (u _ _ b1 b2)
    | false =>
     refine wpS_F Bool.false_ne_true ?_
     refine wpS_pure ⟨rfl,(l + r) / 2 + 1,r,rfl,by exact om145 c,by exact om99 a2,om902 a3 c,fun i b1=>?_,a5⟩
     exact KeyOrd.kle_trans (u i ((l + r) / 2) (by exact om146 b1) (by exact om147 a2 c)) e
  case ipost =>
   rintro c st2 ⟨rfl,l,rfl,a2,a4,a5⟩
   show wpS _ _ _ _ (moveDown' (lo + k) (lo + l) >>= _) _ _
   rw [moveDown'_eq]
   have hks:lo + k < (arrOf st2).size:=by exact om111 hn k2 sz
   refine wpS_bind (wpS_modify (wpS_pure ⟨rfl,g.trans ⟨rfl,rfl,rfl,fun i hi=>?_,bubble_perm _ _ _⟩,fun i j hij hj=>?_⟩))
   ·show (bubble (arrOf st2) (lo + k) (lo + k - (lo + l)))[i]?=_
    rw [getElem?_bubble hks _ (by exact om148 a2 hi),if_neg (by exact om149 a2 hi),if_neg (by omega)]
   ·rw [show min (k + 1) n=k + 1 by exact om150 k2] at hj
    show κ.kle (KK κ (bubble (arrOf st2) (lo + k) (lo + k - (lo + l))) (lo + i)) (KK κ (bubble (arrOf st2) (lo + k) (lo + k - (lo + l))) (lo + j))
    rw [KK_bubble hks (by exact om151 a2),KK_bubble hks (by exact om151 a2),show lo + k - (lo + k - (lo + l))=lo + l by exact om152 a2]
    have sh:∀ i,l < i->lo + i - 1=lo + (i - 1):=fun i hi=>by exact om153 hi
    by_cases ci:i < l
    ·rw [if_neg (by exact om154 ci),if_neg (by exact om155 ci)]
     by_cases cj:j < l
     ·rw [if_neg (by exact om154 cj),if_neg (by exact om155 cj)]; exact u i j hij (by exact om156 a2 hj cj)
     by_cases cj2:j=l
     ·rw [if_pos (by exact om157 cj2)]; exact a4 i ci
     ·rw [if_neg (by exact om158 cj2),if_pos (by omega),sh j (by exact om159 cj cj2)]; exact u i (j - 1) (by exact om160 hij ci cj) (by exact om161 a2 hij hj ci)
    by_cases ci2:i=l
    ·rw [if_pos (by exact om157 ci2)]
     by_cases cj2:j=l
     ·rw [if_pos (by exact om162 ci2 cj2)]; exact KeyOrd.kle_refl _
     ·rw [if_neg (by exact om163 ci2 cj2),if_pos (by omega),sh j (by exact om164 hij ci2 cj2)]; exact a5 (j - 1) (by exact om165 hij ci2 cj2) (by exact om166 hij hj ci2 cj2)
    ·rw [if_neg (by exact om158 ci2),if_pos (by omega),if_neg (by exact om167 hij ci ci2),if_pos (by omega),sh i (by exact om159 ci ci2),sh j (by exact om168 hij ci ci2)]
     exact u (i - 1) (j - 1) (by exact om169 hij) (by exact om170 hij hj ci ci2)
end
end Tm
namespace Tm
open PySem PyProof.Rows
theorem put_list (o:Nat):∀ (M:List Keyed) (j:Nat) (arr:Array Keyed) (P S T:List Keyed),arr.toList=P++(S++T)->P.length=o + j->S.length=M.length->((M.zipIdx j).foldl (fun a (x:Keyed × Nat)=>a.setIfInBounds (o + x.2) x.1) arr).toList=P++(M++T)
 | [],j,arr,P,S,T,h,hp,hs=>by
  have:S=[]:=List.eq_nil_of_length_eq_zero hs
  subst this
  exact h
 | p :: M,j,arr,P,[],T,h,hp,hs=>by simp at hs
 | p :: M,j,arr,P,q :: S,T,h,hp,hs=>by
  rw [List.zipIdx_cons,List.foldl_cons]
  have e:(arr.setIfInBounds (o + j) p).toList=(P++[p])++(S++T):=by
   rw [Array.toList_setIfInBounds,h,List.set_append,if_neg (by exact om171 hp),show o + j - P.length=0 by exact om172 hp]
   simp
  have:=put_list o M (j + 1) (arr.setIfInBounds (o + j) p) (P++[p]) S T e (by rw [List.length_append]; simp; exact om173 hp) (by simpa using hs)
  rw [this]
  simp
noncomputable def offs:Nat->List (List Keyed)->List (Nat × Nat)
 | _,[]=>[]
 | b,r :: rs=>(b,r.length) :: offs (b + r.length) rs
theorem offs_app (u w:List (List Keyed)):∀ b,offs b (u++w)=offs b u++offs (b + u.flatten.length) w:=by
 induction u with
 | nil=>intro b; simp [offs]
 | cons r u ih =>
  intro b
  show (b,r.length) :: offs (b + r.length) (u++w)=_
  rw [ih]
  show _=(b,r.length) :: (offs (b + r.length) u++_)
  rw [List.flatten_cons,List.length_append,Nat.add_assoc]
theorem offs_len (u:List (List Keyed)):∀ b,(offs b u).length=u.length:=by
 induction u with
 | nil=>intro b; rfl
 | cons r u ih=>intro b; show (offs _ u).length + 1=_; rw [ih]; rfl
structure RI (κ:KeyKind) (kd:SortKind) (a₀:Array Keyed) (st:SortSt) (rs:List (List Keyed)) (rest:List Keyed):Prop where
 arr:(arrOf st).toList=rs.flatten++rest
 perm:(arrOf st).Perm a₀
 ok:∀ r ∈ rs,r ≠ []/\r.Pairwise (le κ)
 pend:(pendingOf st).toList.map (fun p=>(p.1,p.2.1))=offs 0 rs
 kind:kindOf st=kd
 fail:failedOf st=none
theorem pend_at {ps:Array (Nat × Nat × Nat)} {u v:List (List Keyed)} {X Y:List Keyed} (h:ps.toList.map (fun p=>(p.1,p.2.1))=offs 0 (u++X :: Y :: v)) :
  ∃ p1 p2,ps[u.length]?=some (u.flatten.length,X.length,p1)/\ps[u.length + 1]?=some (u.flatten.length + X.length,Y.length,p2) /\
   ((ps.setIfInBounds u.length (u.flatten.length,X.length + Y.length,p1)).eraseIdxIfInBounds (u.length + 1)).toList.map (fun p=>(p.1,p.2.1))=offs 0 u++(u.flatten.length,X.length + Y.length) :: offs (u.flatten.length + X.length + Y.length) v:=by
 rw [offs_app,Nat.zero_add] at h
 have h:ps.toList.map (fun p=>(p.1,p.2.1))=offs 0 u++(u.flatten.length,X.length) :: (u.flatten.length + X.length,Y.length) :: offs (u.flatten.length + X.length + Y.length) v:=h
 have lu:=offs_len u 0
 obtain ⟨l1,l2,e,e1,e2⟩:=List.map_eq_append_iff.mp h
 cases l2 with
 | nil=>simp at e2
 | cons a l2 =>
  cases l2 with
  | nil=>simp at e2
  | cons b l2 =>
   obtain ⟨a1,a2,a3⟩:=a
   obtain ⟨b1,b2,b3⟩:=b
   simp only [List.map_cons,List.cons.injEq,Prod.mk.injEq] at e2
   obtain ⟨⟨rfl,rfl⟩,⟨rfl,rfl⟩,e3⟩:=e2
   have l1l:l1.length=u.length:=by rw [<-lu,<-e1,List.length_map]
   have pe:ps=(l1++(u.flatten.length,X.length,a3) :: (u.flatten.length + X.length,Y.length,b3) :: l2).toArray:=by rw [<-e]
   subst pe
   refine ⟨a3,b3,?_,?_,?_⟩
   ·rw [<-l1l]; simp
   ·rw [<-l1l]; simp [List.getElem?_append_right]
   ·rw [<-l1l,<-e1,<-e3]
    simp [Array.eraseIdxIfInBounds,List.set_append,List.eraseIdx_append]
    rw [if_neg (by exact om174)]
    simp
section
variable {prog:Program} {w:World} {A:Around} {E:Value->Shared->Prop} {s:Shared} {κ:KeyKind} {kd:SortKind}
theorem wpS_set {σ:Type} {M:Model} {x:σ} {Q:PUnit->σ->Prop} {st:σ} (h:Q ⟨⟩ x):wpS M A E s (set x:StateT σ Sem PUnit) Q st:=by
 unfold wpS; rw [StateT.run_set]; exact wpAny_pure ⟨rfl,h⟩
theorem wpS_mergeAt (hL:LtOk κ kd prog w A s) {st:SortSt} {a₀:Array Keyed} {u v:List (List Keyed)} {X Y rest:List Keyed} {Q:Bool->SortSt->Prop} (ha:∀ p ∈ a₀.toList,Hk κ p) (I:RI κ kd a₀ st (u++X :: Y :: v) rest)
  (h:∀ Z st',Z.length=X.length + Y.length->RI κ kd a₀ st' (u++Z :: v) rest->Q true st'):wpS (model prog w) A E s (mergeAt' u.length) Q st:=by
 obtain ⟨earr,perm,ok,pend,kind,fail⟩:=I
 obtain ⟨p1,p2,e1,e2,e3⟩:=pend_at pend
 obtain ⟨xne,sx⟩:=ok X (by simp)
 obtain ⟨yne,sy⟩:=ok Y (by simp)
 have xl:1<=X.length:=Nat.pos_of_ne_zero fun z=>xne (List.eq_nil_of_length_eq_zero z)
 have yl:1<=Y.length:=Nat.pos_of_ne_zero fun z=>yne (List.eq_nil_of_length_eq_zero z)
 have ha':∀ p ∈ (arrOf st).toList,Hk κ p:=fun p hp=>ha p ((Array.perm_iff_toList_perm.mp perm).mem_iff.mp hp)
 have earr:(arrOf st).toList=u.flatten++(X++(Y++(v.flatten++rest))):=by rw [earr]; simp
 have sz:(arrOf st).size=u.flatten.length + (X.length + (Y.length + (v.flatten++rest).length)):=by rw [<-Array.length_toList,earr]; simp only [List.length_append]
 have atX:∀ i,i < X.length->(arrOf st)[u.flatten.length + i]?=X[i]?:=fun i hi=>by rw [<-Array.getElem?_toList,earr,List.getElem?_append_right (by exact om56),Nat.add_sub_cancel_left,List.getElem?_append_left hi]
 have atY:∀ i,i < Y.length->(arrOf st)[u.flatten.length + X.length + i]?=Y[i]?:=fun i hi=>by rw [<-Array.getElem?_toList,earr,List.getElem?_append_right (by exact om175 xl sz),List.getElem?_append_right (by exact om176 xl sz),show u.flatten.length + X.length + i - u.flatten.length - X.length=i by exact om177,List.getElem?_append_left hi]
 obtain ⟨y0,hy0⟩:∃ y0,Y[0]?=some y0:=⟨Y[0],by rw [List.getElem?_eq_getElem]⟩
 obtain ⟨xz,hxz⟩:∃ xz,X[X.length - 1]?=some xz:=⟨X[X.length - 1],by rw [List.getElem?_eq_getElem]⟩
 have key0:(arrOf st)[u.flatten.length + X.length]?=some y0:=by have:=atY 0 (by exact om59 yl); rw [Nat.add_zero] at this; rw [this,hy0]
 have pwi:∀ {L:List Keyed},L.Pairwise (le κ)->∀ {i j:Nat} {p q:Keyed},i<=j->L[i]?=some p->L[j]?=some q->le κ p q:=fun {L} sl {i j p q} hij hi hj=>by
  by_cases e:i=j
  ·subst e
   rw [hi] at hj
   cases hj
   exact KeyOrd.kle_refl _
  ·obtain ⟨li,ei⟩:=List.getElem?_eq_some_iff.mp hi
   obtain ⟨lj,ej⟩:=List.getElem?_eq_some_iff.mp hj
   have:=(List.pairwise_iff_getElem.mp sl) i j li lj (by exact om53 hij e)
   rwa [ei,ej] at this
 have leY:∀ q ∈ Y,le κ y0 q:=fun q hq=>by
  obtain ⟨j,hj,ej⟩:=List.mem_iff_getElem.mp hq
  exact pwi sy (Nat.zero_le j) hy0 (by rw [List.getElem?_eq_getElem hj,ej])
 have leX:∀ p ∈ X,le κ p xz:=fun p hp=>by
  obtain ⟨j,hj,ej⟩:=List.mem_iff_getElem.mp hp
  exact pwi sx (show j<=X.length - 1 by exact om178 xl sz hj) (by rw [List.getElem?_eq_getElem hj,ej]) hxz
 have same:∀ st',arrOf st'=arrOf st->kindOf st'=kindOf st->failedOf st'=failedOf st->(pendingOf st').toList.map (fun p=>(p.1,p.2.1))=offs 0 u++(u.flatten.length,X.length + Y.length) :: offs (u.flatten.length + X.length + Y.length) v->(∀ p ∈ X,∀ q ∈ Y,le κ p q)->Q true st':=fun st' h1 h2 h3 h4 h5=>by
  refine h (X++Y) st' (by simp) ⟨by rw [h1,earr]; simp,by rw [h1]; exact perm,fun r hr=>?_,?_,h2.trans kind,h3.trans fail⟩
  ·rcases List.mem_append.mp hr with e | e
   ·exact ok r (by simp [e])
   rcases List.mem_cons.mp e with e | e
   ·subst e
    exact ⟨by simp [xne],List.pairwise_append.mpr ⟨sx,sy,h5⟩⟩
   ·exact ok r (by simp [e])
  ·rw [h4,offs_app,Nat.zero_add]
   show _=_++(u.flatten.length,(X++Y).length) :: offs (u.flatten.length + (X++Y).length) v
   rw [List.length_append,Nat.add_assoc]
 unfold mergeAt'
 refine wpS_bind (wpS_get ?_)
 show wpS _ _ _ _ (match ((pendingOf st)[u.length]?,(pendingOf st)[u.length + 1]?) with | (some (sa,na,power),some (sb,nb,_))=>_ | x=>_) _ _
 rw [e1,e2]
 dsimp -zeta only
 refine wpS_bind (wpS_set ?_)
 refine wpS_bind (wpS_elem key0 ?_)
 have hk0:Hk κ y0:=ha' y0 (by rw [Array.mem_toList_iff]; exact Array.mem_of_getElem? key0)
 refine wpS_bind (wpS_gal (a:=arrOf st) (base:=u.flatten.length) (n:=X.length) (hint:=0) hL (by exact kind) hk0 ha' (by exact om179 yl sz) (fun i j p q b1 b2 b3 c1 c2=>?_) (by exact om180 xl sz) fun k k1 k2 k3=>?_)
 ·have f1:=atX (i - u.flatten.length) (by omega)
  have f2:=atX (j - u.flatten.length) (by omega)
  rw [show u.flatten.length + (i - u.flatten.length)=i by exact om181 b1,c1] at f1
  rw [show u.flatten.length + (j - u.flatten.length)=j by exact om182 b1 b2,c2] at f2
  exact pwi sx (show i - u.flatten.length<=j - u.flatten.length by exact om183 b1 b2) f1.symm f2.symm
 dsimp -zeta only
 have k2':∀ i,i < k->∀ p,X[i]?=some p->le κ p y0:=fun i hi p e=>bey_le (k2 i hi p (by rw [atX i (by exact om184 sz k1 hi)]; exact e))
 have k3':∀ i,k<=i->∀ p,X[i]?=some p->le κ y0 p:=fun i hi p e=>by
  have hl:=(List.getElem?_eq_some_iff.mp e).1
  exact bey_gt (k3 i hi hl p (by rw [atX i hl]; exact e))
 by_cases d1:X.length - k=0
 ·refine wpS_T (bT d1) ?_
  refine wpS_pure (same _ rfl rfl rfl e3 fun p hp q hq=>?_)
  obtain ⟨j,hj,ej⟩:=List.mem_iff_getElem.mp hp
  exact le_trans (k2' j (by omega) p (by rw [List.getElem?_eq_getElem hj,ej])) (leY q hq)
 refine wpS_F (bF d1) ?_
 have keyz:(arrOf st)[u.flatten.length + k + (X.length - k) - 1]?=some xz:=by
  rw [(om906 (f:=u.flatten.length) k1).resolve_right (fun z=>by rw [z] at xl; exact absurd xl (by decide)),atX _ (by exact om185 xl sz),hxz]
 refine wpS_bind (wpS_elem keyz ?_)
 have hkz:Hk κ xz:=ha' xz (by rw [Array.mem_toList_iff]; exact Array.mem_of_getElem? keyz)
 refine wpS_bind (wpS_gal (a:=arrOf st) (base:=u.flatten.length + X.length) (n:=Y.length) (hint:=Y.length - 1) hL (by exact kind) hkz ha' (by exact om186 sz) (fun i j p q b1 b2 b3 c1 c2=>?_) (by exact om86 yl) fun m m1 m2 m3=>?_)
 ·have f1:=atY (i - (u.flatten.length + X.length)) (by omega)
  have f2:=atY (j - (u.flatten.length + X.length)) (by omega)
  rw [show u.flatten.length + X.length + (i - (u.flatten.length + X.length))=i by omega,c1] at f1
  rw [show u.flatten.length + X.length + (j - (u.flatten.length + X.length))=j by omega,c2] at f2
  exact pwi sy (show i - (u.flatten.length + X.length)<=j - (u.flatten.length + X.length) by omega) f1.symm f2.symm
 dsimp -zeta only
 have m2':∀ i,i < m->∀ p,Y[i]?=some p->le κ p xz:=fun i hi p e=>bey_lt (m2 i hi p (by rw [atY i (by exact om187 m1 hi)]; exact e))
 have m3':∀ i,m<=i->∀ p,Y[i]?=some p->le κ xz p:=fun i hi p e=>by
  have hl:=(List.getElem?_eq_some_iff.mp e).1
  exact bey_ge (m3 i hi hl p (by rw [atY i hl]; exact e))
 by_cases d2:m=0
 ·refine wpS_T (bT d2) ?_
  refine wpS_pure (same _ rfl rfl rfl e3 fun p hp q hq=>?_)
  obtain ⟨j,hj,ej⟩:=List.mem_iff_getElem.mp hq
  exact le_trans (leX p hp) (m3' j (by exact om188 d2) q (by rw [List.getElem?_eq_getElem hj,ej]))
 refine wpS_F (bF d2) ?_
 extract_lets x y jp
 have ex:x.toList=X.drop k:=by
  show ((arrOf st).extract (u.flatten.length + k) (u.flatten.length + X.length)).toList=_
  rw [show u.flatten.length + X.length=(u.flatten.length + k) + (X.length - k) by omega,ext_mid,earr,<-List.drop_drop,List.drop_left,List.drop_append_of_le_length (by exact om99 k1),List.take_append_of_le_length (by rw [List.length_drop]; exact om1),List.take_of_length_le (by rw [List.length_drop]; exact om1)]
 have ey:y.toList=Y.take m:=by
  show ((arrOf st).extract (u.flatten.length + X.length) (u.flatten.length + X.length + m)).toList=_
  rw [ext_mid,earr,<-List.drop_drop,List.drop_left,List.drop_left,List.take_append_of_le_length m1]
 have zx:x.size=X.length - k:=by rw [<-Array.length_toList,ex,List.length_drop]
 have zy:y.size=m:=by rw [<-Array.length_toList,ey,List.length_take]; omega
 have atx:∀ {i p},x[i]?=some p->X[k + i]?=some p:=fun {i p} e=>by rw [<-Array.getElem?_toList,ex,List.getElem?_drop] at e; exact e
 have aty:∀ {i p},y[i]?=some p->Y[i]?=some p:=fun {i p} e=>by
  have hl:=(Array.getElem?_eq_some_iff.mp e).1
  rw [<-Array.getElem?_toList,ey,List.getElem?_take,if_pos (by exact om17 zy hl)] at e
  exact e
 have inX:∀ p ∈ x.toList,∃ i,k<=i/\X[i]?=some p:=fun p hp=>by
  obtain ⟨i,hi,ei⟩:=List.mem_iff_getElem.mp hp
  exact ⟨k + i,by exact om56,atx (by rw [<-Array.getElem?_toList,List.getElem?_eq_getElem hi,ei])⟩
 have inY:∀ p ∈ y.toList,∃ i,i < m/\Y[i]?=some p:=fun p hp=>by
  obtain ⟨i,hi,ei⟩:=List.mem_iff_getElem.mp hp
  rw [Array.length_toList] at hi
  exact ⟨i,by exact om17 zy hi,aty (by rw [<-Array.getElem?_toList,List.getElem?_eq_getElem (by rw [Array.length_toList]; exact hi),ei])⟩
 have mX:∀ {p i},X[i]?=some p->p ∈ X:=fun e=>List.mem_of_getElem? e
 have hx:∀ p ∈ x.toList,Hk κ p:=fun p hp=>by
  obtain ⟨i,_,e⟩:=inX p hp
  exact ha' p (by rw [earr]; simp [List.mem_of_getElem? e])
 have hy:∀ p ∈ y.toList,Hk κ p:=fun p hp=>by
  obtain ⟨i,_,e⟩:=inY p hp
  exact ha' p (by rw [earr]; simp [List.mem_of_getElem? e])
 have ssx:x.toList.Pairwise (le κ):=by rw [ex]; exact sx.sublist (List.drop_sublist _ _)
 have ssy:y.toList.Pairwise (le κ):=by rw [ey]; exact sy.sublist (List.take_sublist _ _)
 have first:∀ p ∈ x.toList,∀ q,y[0]?=some q->le κ q p:=fun p hp q hq=>by
  obtain ⟨i,hi,e⟩:=inX p hp
  have:=aty hq
  rw [hy0] at this
  cases this
  exact k3' i hi p e
 have last:∀ q ∈ y.toList,∀ p,x[x.size - 1]?=some p->le κ q p:=fun q hq p hp=>by
  obtain ⟨i,hi,e⟩:=inY q hq
  have:=atx hp
  rw [om907 k1 d1 zx,hxz] at this
  cases this
  exact m2' i hi q e
 refine wpS_jpS (fun z:Array Keyed=>jp z) (fun z st'=>Gs (setPending st (((pendingOf st).setIfInBounds u.length (u.flatten.length,X.length + Y.length,p1)).eraseIdxIfInBounds (u.length + 1))) st'/\Srt κ (x.toList++y.toList) z.toList) (fun z st1 hz=>?_) (fun J=>?_)
 ·obtain ⟨g,so⟩:=hz
  refine wpS_bind (wpS_modify ?_)
  refine wpS_bind (wpS_get ?_)
  have f1:failedOf st1=none:=g.fail.trans fail
  have lz:z.toList.length=(X.length - k) + m:=by rw [so.1.length_eq,List.length_append,Array.length_toList,Array.length_toList,zx,zy]
  have ar:(List.foldl (fun a (x:Keyed × Nat)=>a.setIfInBounds (u.flatten.length + k + x.snd) x.fst) (arrOf st1) z.toList.zipIdx).toList=u.flatten++((X.take k++(z.toList++Y.drop m))++(v.flatten++rest)):=by
   rw [put_list (u.flatten.length + k) z.toList 0 (arrOf st1) (u.flatten++X.take k) (X.drop k++Y.take m) (Y.drop m++(v.flatten++rest)) ?_ ?_ ?_]
   ·simp only [List.append_assoc]
   ·rw [show arrOf st1=arrOf st from g.arr,earr]
    conv=>lhs; rw [<-List.take_append_drop k X,<-List.take_append_drop m Y]
    simp only [List.append_assoc]
   ·rw [List.length_append,List.length_take]; exact om189 sz k1
   ·rw [lz,List.length_append,List.length_drop,List.length_take]; exact om190 m1 zy
  have pz:(X.take k++(z.toList++Y.drop m)).Perm (X++Y):=by
   conv=>rhs; rw [<-List.take_append_drop k X,<-List.take_append_drop m Y]
   rw [List.append_assoc]
   refine List.Perm.append_left _ ?_
   rw [<-List.append_assoc]
   refine List.Perm.append_right _ ?_
   rw [<-ex,<-ey]
   exact so.1
  have mz:∀ p ∈ z.toList,(∃ i,k<=i/\X[i]?=some p)\/∃ i,i < m/\Y[i]?=some p:=fun p hp=>by
   rcases List.mem_append.mp (so.1.mem_iff.mp hp) with e | e
   ·exact .inl (inX p e)
   ·exact .inr (inY p e)
  have tk:∀ p ∈ X.take k,∃ i,i < k/\X[i]?=some p:=fun p hp=>by
   obtain ⟨i,hi,ei⟩:=List.mem_iff_getElem.mp hp
   have:=List.getElem?_eq_getElem hi
   rw [ei,List.getElem?_take] at this
   rw [List.length_take] at hi
   rw [if_pos (by omega)] at this
   exact ⟨i,by omega,this⟩
  have dm:∀ p ∈ Y.drop m,∃ i,m<=i/\Y[i]?=some p:=fun p hp=>by
   obtain ⟨i,hi,ei⟩:=List.mem_iff_getElem.mp hp
   have:=List.getElem?_eq_getElem hi
   rw [ei,List.getElem?_drop] at this
   exact ⟨m + i,by exact om56,this⟩
  have sz':(X.take k++(z.toList++Y.drop m)).Pairwise (le κ):=by
   refine List.pairwise_append.mpr ⟨sx.sublist (List.take_sublist _ _),List.pairwise_append.mpr ⟨so.2,sy.sublist (List.drop_sublist _ _),fun p hp q hq=>?_⟩,fun p hp q hq=>?_⟩
   ·obtain ⟨j,hj,ej⟩:=dm q hq
    rcases mz p hp with ⟨i,hi,ei⟩ | ⟨i,hi,ei⟩
    ·exact le_trans (leX p (mX ei)) (m3' j hj q ej)
    ·exact pwi sy (by exact om191 zy hj hi) ei ej
   ·obtain ⟨i,hi,ei⟩:=tk p hp
    rcases List.mem_append.mp hq with e | e
    ·rcases mz q e with ⟨j,hj,ej⟩ | ⟨j,hj,ej⟩
     ·exact pwi sx (by exact om192 hi hj) ei ej
     ·exact le_trans (k2' i hi p ei) (leY q (List.mem_of_getElem? ej))
    ·obtain ⟨j,hj,ej⟩:=dm q e
     exact le_trans (k2' i hi p ei) (leY q (List.mem_of_getElem? ej))
  have fin:∀ st',arrOf st'=List.foldl (fun a (x:Keyed × Nat)=>a.setIfInBounds (u.flatten.length + k + x.snd) x.fst) (arrOf st1) z.toList.zipIdx->kindOf st'=kindOf st1->failedOf st'=failedOf st1->pendingOf st'=pendingOf st1->Q true st':=fun st' h1 h2 h3 h4=>by
   refine h (X.take k++(z.toList++Y.drop m)) st' (by rw [pz.length_eq,List.length_append]) ⟨?_,?_,fun r hr=>?_,?_,h2.trans (g.kind.trans kind),h3.trans f1⟩
   ·rw [h1,ar]; simp
   ·refine Array.Perm.trans ?_ perm
    rw [Array.perm_iff_toList_perm,h1,ar,earr]
    refine List.Perm.append_left _ ?_
    rw [<-List.append_assoc X]
    exact List.Perm.append_right _ pz
   ·rcases List.mem_append.mp hr with e | e
    ·exact ok r (by simp [e])
    rcases List.mem_cons.mp e with e | e
    ·subst e
     refine ⟨fun z0=>?_,sz'⟩
     have:=pz.length_eq
     rw [z0,List.length_append] at this
     simp at this
     omega
    ·exact ok r (by simp [e])
   ·rw [h4,show pendingOf st1=_ from g.pend]
    rw [offs_app,Nat.zero_add]
    show _=_++(u.flatten.length,(X.take k++(z.toList++Y.drop m)).length) :: offs (u.flatten.length + (X.take k++(z.toList++Y.drop m)).length) v
    rw [pz.length_eq,List.length_append,<-Nat.add_assoc]
    exact e3
  refine wpS_pure ?_
  show Q (failedOf st1).isNone (setArr st1 (List.foldl (fun a (x:Keyed × Nat)=>a.setIfInBounds (u.flatten.length + k + x.snd) x.fst) (arrOf st1) z.toList.zipIdx))
  rw [show (failedOf st1).isNone=true by rw [f1]; rfl]
  exact fin _ rfl rfl rfl rfl
 by_cases d3:X.length - k<=m
 ·refine wpS_T d3 ?_
  refine wpS_bind (wpS_mergeLo hL (by exact kind) hx hy (by omega) (by omega) ⟨by simp,List.Pairwise.nil,ssx,ssy,fun p hp=>(nomatch hp),fun p hp=>(nomatch hp),fun q hq l hl=>last q hq l ?_⟩ first fun r st' g so=>J r st' ⟨g,so⟩)
  rw [List.getLast?_eq_getElem?,Array.getElem?_toList,Array.length_toList] at hl
  exact hl
 ·refine wpS_F d3 ?_
  exact wpS_bind (wpS_mergeHi hL (by exact kind) hx hy (by omega) (by omega) ssx ssy first last fun r st' g so=>J r st' ⟨g,so⟩)
end
end Tm
namespace Tm
open PySem PyProof.Rows
section
variable {prog:Program} {w:World} {A:Around} {E:Value->Shared->Prop} {s:Shared} {κ:KeyKind} {kd:SortKind}
theorem up_list {xs:Array Keyed} {lo n:Nat} (h:Up κ xs lo n) (hn:lo + n<=xs.size):((xs.toList.drop lo).take n).Pairwise (le κ):=by
 rw [List.pairwise_iff_getElem]
 intro i j hi hj hij
 rw [List.length_take,List.length_drop,Array.length_toList] at hi hj
 have at_:∀ (m:Nat) (hm:m < ((xs.toList.drop lo).take n).length),kv κ ((xs.toList.drop lo).take n)[m]=KK κ xs (lo + m):=fun m hm=>by
  have e:=List.getElem?_eq_getElem hm
  rw [List.length_take,List.length_drop,Array.length_toList] at hm
  rw [List.getElem?_take,if_pos (by exact om193 hm),List.getElem?_drop,Array.getElem?_toList] at e
  exact (kk_at e).symm
 unfold le
 rw [at_,at_]
 exact h i j (by exact om106 hij) (by exact om193 hj)
theorem pend_len {a₀:Array Keyed} {st:SortSt} {rs:List (List Keyed)} {rest:List Keyed} (I:RI κ kd a₀ st rs rest):(pendingOf st).size=rs.length:=by
 have:=congrArg List.length I.pend
 rwa [List.length_map,offs_len,Array.length_toList] at this
theorem split2 {rs:List (List Keyed)} {i:Nat} (h:i + 1 < rs.length):∃ u X Y v,rs=u++X :: Y :: v/\u.length=i:=by
 refine ⟨rs.take i,rs[i],rs[i + 1],rs.drop (i + 2),?_,by rw [List.length_take]; exact om194 h⟩
 rw [<-List.drop_eq_getElem_cons,<-List.drop_eq_getElem_cons,List.take_append_drop]
theorem RI.seg {a₀:Array Keyed} {st st2:SortSt} {rs:List (List Keyed)} {rest:List Keyed} (I:RI κ kd a₀ st rs rest) (g:Sg rs.flatten.length st st2):RI κ kd a₀ st2 rs ((arrOf st2).toList.drop rs.flatten.length):=by
 refine ⟨?_,g.perm.trans I.perm,I.ok,by rw [g.pend]; exact I.pend,g.kind.trans I.kind,g.fail.trans I.fail⟩
 have:(arrOf st2).toList.take rs.flatten.length=rs.flatten:=by
  refine List.ext_getElem? fun i=>?_
  rw [List.getElem?_take]
  split
  ·rename_i hi
   rw [Array.getElem?_toList,g.head i hi,<-Array.getElem?_toList,I.arr,List.getElem?_append_left hi]
  ·rename_i hi
   rw [List.getElem?_eq_none (by exact om2 hi)]
 conv=>lhs; rw [<-List.take_append_drop rs.flatten.length (arrOf st2).toList]
 rw [this]
theorem RI.power {a₀:Array Keyed} {st:SortSt} {rs:List (List Keyed)} {rest:List Keyed} {ps:Array (Nat × Nat × Nat)} (I:RI κ kd a₀ st rs rest) (h:ps.toList.map (fun p=>(p.1,p.2.1))=(pendingOf st).toList.map (fun p=>(p.1,p.2.1))):RI κ kd a₀ (setPending st ps) rs rest :=
 ⟨I.arr,I.perm,I.ok,h.trans I.pend,I.kind,I.fail⟩
theorem modify_map {ps:Array (Nat × Nat × Nat)} {i pw:Nat}:(ps.modify i fun x=>match x with | (st,len,_)=>(st,len,pw)).toList.map (fun p=>(p.1,p.2.1))=ps.toList.map (fun p=>(p.1,p.2.1)):=by
 refine List.ext_getElem? fun j=>?_
 rw [List.getElem?_map,List.getElem?_map,Array.getElem?_toList,Array.getElem?_toList,Array.getElem?_modify]
 split
 ·cases ps[j]? with
  | none=>rfl
  | some p=>rfl
 ·rfl
theorem wpS_runs (hL:LtOk κ kd prog w A s) {st:SortSt} {a₀:Array Keyed} {Q:Unit->SortSt->Prop} (ha:∀ p ∈ a₀.toList,Hk κ p) (I:RI κ kd a₀ st [] a₀.toList)
  (h:∀ st',(arrOf st').Perm a₀->failedOf st'=none->(arrOf st').toList.Pairwise (le κ)->Q () st'):wpS (model prog w) A E s sortRuns' Q st:=by
 have ha2:∀ {st:SortSt} {rs:List (List Keyed)} {rest:List Keyed},RI κ kd a₀ st rs rest->∀ p ∈ (arrOf st).toList,Hk κ p:=fun I p hp=>ha p ((Array.perm_iff_toList_perm.mp I.perm).mem_iff.mp hp)
 have sz:∀ {st:SortSt} {rs:List (List Keyed)} {rest:List Keyed},RI κ kd a₀ st rs rest->(arrOf st).size=a₀.size/\a₀.size=rs.flatten.length + rest.length:=fun I=>by
  have:=I.perm.size_eq
  refine ⟨this,?_⟩
  rw [<-this,<-Array.length_toList,I.arr,List.length_append]
 unfold sortRuns'
 refine wpS_bind (wpS_get ?_)
 extract_lets szv mr lo0
 have ez:szv=a₀.size:=(sz I).1
 clear_value szv mr
 subst ez
 refine wpS_bind (wpS_mono (wpS_forRange (I:=fun x c st'=>∃ rs rest,c=(none,rs.flatten.length)/\RI κ kd a₀ st' rs rest/\(x<=rs.flatten.length\/rest=[])) (Q:=fun c st'=>∃ rs lo,c=(none,lo)/\RI κ kd a₀ st' rs []) ?step ?fin ⟨[],_,rfl,I,.inl (Nat.zero_le _)⟩) ?post)
 case fin =>
  rintro c st' ⟨rs,rest,rfl,J,o⟩
  have:=(sz J).2
  have e:rest=[]:=by
   rcases o with o | o
   ·exact List.eq_nil_of_length_eq_zero (by exact om195 this o)
   ·exact o
  subst e
  exact ⟨rs,_,rfl,J⟩
 case step =>
  rintro x c st' _ hx ⟨rs,rest,rfl,J,o⟩
  have zz:=(sz J).2
  have zs:=(sz J).1
  generalize hlo:rs.flatten.length=lo at *
  by_cases c1:lo>=a₀.size
  ·show wpS _ _ _ _ (if lo>=a₀.size then _ else _) _ _
   refine wpS_T c1 ?_
   have e:rest=[]:=List.eq_nil_of_length_eq_zero (by exact om196 zs zz c1)
   subst e
   exact wpS_pure ⟨rs,_,rfl,J⟩
  show wpS _ _ _ _ (if lo>=a₀.size then _ else _) _ _
  refine wpS_F c1 ?_
  have xlo:x<=lo:=by
   rcases o with o | o
   ·exact o
   ·subst o; simp at zz; exact om197 zs c1 zz
  refine wpS_bind (wpS_count (lo:=lo) (nrem:=a₀.size - lo) hL J.kind (ha2 J) (by exact om198 zs zz c1) (by exact om199 zs zz c1) fun m st1 g1 m1 m2 up=>?_)
  dsimp -zeta only
  extract_lets n jp
  refine wpS_jpS (fun z:Nat=>jp () z) (fun z st2=>Sg lo st' st2/\1<=z/\lo + z<=a₀.size/\Up κ (arrOf st2) lo z) (fun n st2 hz=>?_) (fun JJ=>?_)
  ·obtain ⟨g2,n1,n2,up2⟩:=hz
   have J2:=J.seg (by rw [hlo]; exact g2)
   rw [hlo] at J2
   have z2:=(sz J2).2
   have up3:=up_list up2 (by rw [(sz J2).1]; exact n2)
   generalize hr2:(arrOf st2).toList.drop lo=rest2 at J2 up3 z2
   rw [hlo] at z2
   refine wpS_bind (wpS_get ?_)
   extract_lets ln jp2
   refine wpS_jpS (fun _:Unit=>jp2 ()) (fun _ st3=>∃ rs3,RI κ kd a₀ st3 rs3 rest2/\rs3.flatten.length=lo) (fun _ st3 hz=>?_) (fun JP=>?_)
   ·obtain ⟨rs3,J3,l3⟩:=hz
    refine wpS_bind (wpS_modify ?_)
    refine wpS_pure ⟨rs3++[rest2.take n],rest2.drop n,?_,⟨?_,J3.perm,fun r hr=>?_,?_,J3.kind,J3.fail⟩,.inl ?_⟩
    ·have:(rs3++[rest2.take n]).flatten.length=lo + n:=by rw [List.flatten_append,List.length_append,l3]; simp; omega
     rw [this]
    ·rw [List.flatten_append]
     show (arrOf st3).toList=_
     rw [J3.arr]
     simp
    ·rcases List.mem_append.mp hr with e | e
     ·exact J3.ok r e
     ·have e:r=rest2.take n:=by simpa using e
      subst e
      refine ⟨fun z0=>?_,up3⟩
      have:=congrArg List.length z0
      rw [List.length_take,List.length_nil] at this
      omega
    ·show ((pendingOf st3).push (lo,n,0)).toList.map _=_
     rw [Array.toList_push,List.map_append,J3.pend,offs_app,Nat.zero_add,l3]
     show _=_++[(lo,(rest2.take n).length)]
     rw [List.length_take,show min n rest2.length=n by omega]
     rfl
    ·have:(rs3++[rest2.take n]).flatten.length=lo + n:=by rw [List.flatten_append,List.length_append,l3]; simp; omega
     exact om200 xlo n1 l3 this
   cases hb:(pendingOf st2).back? with
   | none=>exact JP () st2 ⟨rs,J2,hlo⟩
   | some p =>
    obtain ⟨s1,l1,pw1⟩:=p
    dsimp -zeta only
    extract_lets pw
    refine wpS_bind (wpS_mono (wpS_forRange (I:=fun _ c st3=>c=(none,())/\∃ rs3,RI κ kd a₀ st3 rs3 rest2/\rs3.flatten.length=lo) (Q:=fun c st3=>c=(none,())/\∃ rs3,RI κ kd a₀ st3 rs3 rest2/\rs3.flatten.length=lo) ?_ (fun _ _ z=>z) ⟨rfl,rs,J2,hlo⟩) ?_)
    ·rintro y c st3 _ _ ⟨rfl,rs3,J3,l3⟩
     have pl:=pend_len J3
     refine wpS_bind (wpS_get ?_)
     show wpS _ _ _ _ (match (if (pendingOf st3).size > 1 then (pendingOf st3)[(pendingOf st3).size - 2]? else none) with | some (_,_,older)=>_ | x=>_) _ _
     by_cases c2:(pendingOf st3).size > 1
     ·rw [if_pos c2]
      obtain ⟨q,hq⟩:∃ q,(pendingOf st3)[(pendingOf st3).size - 2]?=some q:=⟨(pendingOf st3)[(pendingOf st3).size - 2],by rw [Array.getElem?_eq_getElem]⟩
      rw [hq]
      obtain ⟨q1,q2,older⟩:=q
      dsimp -zeta only
      by_cases c3:older<=pw
      ·refine wpS_T c3 ?_
       exact wpS_pure ⟨rfl,rs3,J3,l3⟩
      ·refine wpS_F c3 ?_
       obtain ⟨u,X,Y,v,rfl,ul⟩:=split2 (rs:=rs3) (i:=(pendingOf st3).size - 2) (by exact om201 pl c2)
       rw [<-ul]
       refine wpS_bind (wpS_mergeAt hL ha J3 fun Z st4 lz J4=>?_)
       refine wpS_F Bool.false_ne_true ?_
       refine wpS_pure ⟨rfl,_,J4,?_⟩
       rw [<-l3]
       simp
       exact om202 lz
     ·rw [if_neg c2]
      exact wpS_pure ⟨rfl,rs3,J3,l3⟩
    ·rintro c st3 ⟨rfl,rs3,J3,l3⟩
     refine wpS_bind (wpS_modify ?_)
     exact JP () _ ⟨rs3,J3.power modify_map,l3⟩
  have z1:=g1.size
  by_cases c2:n < mr
  ·refine wpS_T c2 ?_
   refine wpS_bind (wpS_lift (wpAny_rule ⟨rfl,?_⟩))
   have en:n=m:=rfl
   refine wpS_bind (wpS_bin (lo:=lo) (n:=min (a₀.size - lo) mr) (ok:=m) hL (g1.kind.trans J.kind) (g1.keys (ha2 J)) (by omega) (by omega) up fun st2 g2 up2=>?_)
   refine wpS_F Bool.false_ne_true ?_
   exact JJ _ st2 ⟨g1.trans g2,by omega,by omega,up2⟩
  ·refine wpS_F c2 ?_
   exact JJ m st1 ⟨g1,m1,by omega,up⟩
 case post =>
  rintro c st1 ⟨rs,lo,rfl,J⟩
  have zz:=(sz J).2
  have short:∀ (rs:List (List Keyed)),(∀ r ∈ rs,r ≠ []/\r.Pairwise (le κ))->rs.length<=rs.flatten.length:=fun rs=>by
   induction rs with
   | nil=>intro _; simp
   | cons r rs ih =>
    intro hr
    have h1:=(hr r (by simp)).1
    have h2:=ih fun r' h'=>hr r' (by simp [h'])
    have:r.length ≠ 0:=fun e=>h1 (List.eq_nil_of_length_eq_zero e)
    rw [List.flatten_cons,List.length_append,List.length_cons]
    exact om203 h2 this
  have len0:=short rs J.ok
  simp only [List.length_nil,Nat.add_zero] at zz
  refine wpS_bind (wpS_mono (wpS_forRange (I:=fun x c st'=>c=(none,())/\∃ rs,RI κ kd a₀ st' rs []/\rs.length + x<=a₀.size + 1) (Q:=fun c st'=>c=(none,())/\∃ rs,RI κ kd a₀ st' rs []/\rs.length<=1) ?_ ?_ ⟨rfl,rs,J,by exact om204 zz len0⟩) ?_)
  ·rintro x c st' _ hx ⟨rfl,rs,J,l⟩
   have pl:=pend_len J
   refine wpS_bind (wpS_get ?_)
   show wpS _ _ _ _ (if (pendingOf st').size<=1 then _ else _) _ _
   by_cases c2:(pendingOf st').size<=1
   ·refine wpS_T c2 ?_
    exact wpS_pure ⟨rfl,rs,J,by exact om205 pl c2⟩
   ·refine wpS_F c2 ?_
    extract_lets i bf j
    have hj:j + 1 < rs.length:=by
     have h1:j=i - 1\/j=i:=by
      show (if _ then i - 1 else i)=i - 1\/(if _ then i - 1 else i)=i
      split
      ·exact .inl rfl
      ·exact .inr rfl
     exact om909 h1 c2 pl
    obtain ⟨u,X,Y,v,rfl,ul⟩:=split2 hj
    clear_value j
    subst ul
    refine wpS_bind (wpS_mergeAt hL ha J fun Z st4 lz J4=>?_)
    refine wpS_F Bool.false_ne_true ?_
    refine wpS_pure ⟨rfl,_,J4,?_⟩
    simp only [List.length_append,List.length_cons] at l ⊢
    omega
  ·rintro c st' ⟨rfl,rs,J,l⟩
   exact ⟨rfl,rs,J,by exact om206 zz l⟩
  ·rintro c st' ⟨rfl,rs,J,l⟩
   refine wpS_pure (h st' J.perm J.fail ?_)
   rw [J.arr,List.append_nil]
   match rs,l,J.ok with
   | [],_,_=>exact List.Pairwise.nil
   | [r],_,ok=>simpa using (ok r (by simp)).2
end
end Tm
namespace Tm
open PySem PySem.Spec PyProof.Rows
noncomputable def leV (κ:PyProof.Rows.KeyKind) (u v:Value):Prop:=le κ (u,u) (v,v)
theorem zip_self {vs:List Value} {p:Keyed} (h:p ∈ vs.zip vs):p.1=p.2/\p.1 ∈ vs:=by
 obtain ⟨i,hi,e⟩:=List.mem_iff_getElem.mp h
 rw [List.getElem_zip] at e
 subst e
 exact ⟨rfl,List.getElem_mem _⟩
theorem out_of {κ:PyProof.Rows.KeyKind} {vs:List Value} {xs:Array Keyed} (hp:xs.Perm (pairsOf vs)) (hs:xs.toList.Pairwise (le κ)):((xs.map (·.2)).toList).Perm vs/\((xs.map (·.2)).toList).Pairwise (leV κ):=by
 have hl:xs.toList.Perm (vs.zip vs):=by rw [<-pairsOf_toList]; exact Array.perm_iff_toList_perm.mp hp
 have self:∀ p ∈ xs.toList,p.1=p.2:=fun p h=>(zip_self (hl.mem_iff.mp h)).1
 have e:vs=(vs.zip vs).map (·.2):=by
  rw [List.map_snd_zip]
  exact Nat.le_refl _
 refine ⟨?_,?_⟩
 ·rw [Array.toList_map]
  conv=>rhs; rw [e]
  exact hl.map _
 ·rw [Array.toList_map,List.pairwise_map]
  refine hs.imp_of_mem fun {a b} ha hb h=>?_
  have h1:=self a ha
  have h2:=self b hb
  unfold leV le kv at *
  rw [<-h1,<-h2]
  exact h
section
variable {prog:Program} {w:World} {A:Around} {E:Value->Shared->Prop} {s:Shared}
structure Can (prog:Program) (w:World) (κ:PyProof.Rows.KeyKind) (kd:SortKind) (h:Heap) (a:Addr) (vs:List Value):Prop where
 key:∀ v ∈ vs,∃ x,κ.keyOf v=some x
 lt:∀ (A:Around) (s:Shared),(∀ b o,b ≠ a->h.get? b=some o->s.heap.get? b=some o)->LtOk κ kd prog w A s
 kind:2<=vs.length->∀ (A:Around) (E:Value->Shared->Prop) (s:Shared) (Q:SortKind->Shared->Prop),(∀ b o,b ≠ a->h.get? b=some o->s.heap.get? b=some o)->Q kd s->wpAny (model prog w) A (keyKind' vs.toArray) Q E s
theorem list_sortT {κ:PyProof.Rows.KeyKind} {kd:SortKind} {a:Addr} {vs:List Value} {n:Nat} {P:Fin->Shared->Prop} (ho:s.heap.get? a=some (seqObj "list" vs.toArray n)) (c:Can prog w κ kd s.heap a vs) (hn:vs.length<=100000)
  (h:∀ out:Array Value,out.toList.Perm vs->out.toList.Pairwise (leV κ)->P (.done (.ret .none)) { s with heap:=sortedHeap s.heap a vs out }):wpAny (model prog w) A (Builtin.«list.sort» ⟨[.ref a],[]⟩) P E s:=by
 rw [list_sort_plain]
 have ha:a < s.heap.objs.size:=Heap.lt_size ho
 refine wpAny_bind (listItems_at ho rfl (wpAny_bind (listUpdate_at ho rfl ?_)))
 obtain ⟨e1,ho1⟩:∃ e1,(s.heap.update a (Obj.mapSeq fun _=>#[])).get? a=some (seqObj "list" #[] e1):=⟨_,get?_update_seq ho (fun _=>#[])⟩
 refine wpAny_bind (seqEpoch_at ho1 rfl (wpAny_bind (wpAny_newTuple (wpAny_bind (wpAny_newList (wpAny_holding ?_))) (by rw [sizeLine_eq]; show vs.length<=_; exact om207 hn))))
 have keep:∀ b o,b ≠ a->s.heap.get? b=some o->(((s.heap.update a (Obj.mapSeq fun _=>#[])).push (seqObj "tuple" vs.toArray 0)).push (seqObj "list" #[] 0)).get? b=some o:=fun b o hb e =>
  Heap.get?_push_of_some _ (Heap.get?_push_of_some _ ((Heap.get?_update_other _ _ (Ne.symm hb)).trans e))
 have ho6:(((s.heap.update a (Obj.mapSeq fun _=>#[])).push (seqObj "tuple" vs.toArray 0)).push (seqObj "list" #[] 0)).get? a=some (seqObj "list" #[] e1):=Heap.get?_push_of_some _ (Heap.get?_push_of_some _ ho1)
 show wpAny (model prog w) A _ P E { s with heap:=((s.heap.update a (Obj.mapSeq fun _=>#[])).push (seqObj "tuple" vs.toArray 0)).push (seqObj "list" #[] 0) }
 dsimp only
 have zs:vs.toArray.size=vs.length:=by simp
 by_cases c2:vs.toArray.size < 2
 ·rw [if_pos c2,if_pos c2]
  refine wpAny_bind (wpAny_pure ?_)
  rw [StateT.run_pure]
  refine wpAny_bind (wpAny_pure (wpAny_bind (seqEpoch_at ho6 rfl (wpAny_bind (listUpdate_at ho6 rfl ?_ (hsz2:=by rw [Array.size_map]; show (pairsOf vs).size<=_; rw [pairsOf_size,sizeLine_eq]; exact om208 hn zs c2))))))
  simp only [bne_self_eq_false,Bool.false_eq_true,if_false]
  have sh:(pairsOf vs).toList.Pairwise (le κ):=by
   rw [pairsOf_toList]
   match vs,zs,c2 with
   | [],_,_=>exact List.Pairwise.nil
   | [v],_,_=>exact List.pairwise_singleton _ _
   | v :: u :: r,zs,c2=>exact absurd c2 (by simp)
  obtain ⟨p1,p2⟩:=out_of (Array.Perm.refl _) sh
  exact wpAny_pure (h _ p1 p2)
 ·rw [if_neg c2,if_neg c2]
  refine wpAny_bind (c.kind (by exact om209 hn zs c2) _ _ _ _ keep ?_)
  refine wpAny_bind (wpAny_mono (wpS_runs (κ:=κ) (kd:=kd) (a₀:=pairsOf vs) (st:=SortSt.mk' kd (vs.toArray.zip vs.toArray) #[] 7 none) (Q:=fun _ st'=>(arrOf st').Perm (pairsOf vs)/\failedOf st'=none/\(arrOf st').toList.Pairwise (le κ))
   (c.lt _ _ keep) (fun p hp=>?_) ⟨rfl,Array.Perm.refl _,fun r hr=>(nomatch hr),rfl,rfl,rfl⟩ fun st' a1 a2 a3=>⟨a1,a2,a3⟩) ?_ fun _ _ e=>e)
  ·rw [pairsOf_toList] at hp
   exact c.key _ (zip_self hp).2
  rintro ⟨⟨⟩,st'⟩ s' ⟨rfl,hp,hf,hs⟩
  dsimp only
  refine wpAny_bind (seqEpoch_at ho6 rfl (wpAny_bind (listUpdate_at ho6 rfl ?_ (hsz2:=by refine Nat.le_trans (Nat.le_of_eq ((Array.size_map ..).trans (hp.size_eq.trans (pairsOf_size _)))) ?_; rw [sizeLine_eq]; exact om210 hn zs c2))))
  rw [hf]
  simp only [bne_self_eq_false,Bool.false_eq_true,if_false]
  obtain ⟨p1,p2⟩:=out_of hp hs
  exact wpAny_pure (h _ p1 p2)
theorem sortedHeap_old {h:Heap} {a:Addr} {vs:List Value} {out:Array Value} {b:Addr} {o:Obj} (hb:b ≠ a) (e:h.get? b=some o):(sortedHeap h a vs out).get? b=some o:=by
 unfold sortedHeap
 exact (Heap.get?_update_other _ _ (Ne.symm hb)).trans (Heap.get?_push_of_some _ (Heap.get?_push_of_some _ ((Heap.get?_update_other _ _ (Ne.symm hb)).trans e)))
theorem sortedHeap_at {h:Heap} {a:Addr} {vs:List Value} {out:Array Value} {n:Nat} (e:h.get? a=some (seqObj "list" vs.toArray n)):∃ m,(sortedHeap h a vs out).get? a=some (seqObj "list" out m):=by
 unfold sortedHeap
 exact ⟨_,get?_update_seq (Heap.get?_push_of_some _ (Heap.get?_push_of_some _ (get?_update_seq e (fun _=>#[])))) (fun _=>out)⟩
theorem sorted_of {κ:PyProof.Rows.KeyKind} {kd:SortKind} {r:Value} {Q:Value->Shared->Prop} {G:Heap->List Value->Prop}
  (col:∀ (A:Around) (E:Value->Shared->Prop) (R:List Value->Shared->Prop),A.handled=none->(∀ h' tk vs,(∀ b o,s.heap.get? b=some o->h'.get? b=some o)->s.heap.objs.size<=h'.objs.size->G h' vs->R vs { s with heap:=h',toks:=tk })->wpAny (model prog w) A (collect r) R E s)
  (hh:A.handled=none) (can:∀ h' vs D,(∀ b o,s.heap.get? b=some o->h'.get? b=some o)->G h' vs->D=h'.objs.size->vs.length<=100000/\Can prog w κ kd (h'.push (seqObj "list" vs.toArray 0)) D vs)
  (h:∀ D h' tk vs h1 (out:Array Value) m,(∀ b o,s.heap.get? b=some o->h1.get? b=some o)->G h1 vs->(∀ b o,h1.get? b=some o->h'.get? b=some o)->s.heap.objs.size<=D->h1.objs.size<=D->h'.get? D=some (seqObj "list" out m)->out.toList.Perm vs->out.toList.Pairwise (leV κ)->Q (.ref D) { s with heap:=h',toks:=tk }) :
  wpAny (model prog w) A (call (.builtin "sorted") [r]) Q E s:=by
 refine Calls.call_function_entry kind_sorted plain_sorted entry_sorted (args_sorted1 _) ?_
 unfold Builtin.«sorted»
 refine wpAny_bind (m:=checkCount "sorted" 1 1 _) (wpAny_pure ?_)
 refine wpAny_bind (col A.in1 E _ hh fun h1 tk vs k1 z1 g1=>?_)
 obtain ⟨len,_⟩:=can h1 vs h1.objs.size k1 g1 rfl
 refine wpAny_bind (wpAny_newList ?_ (by rw [sizeLine_eq]; exact om207 len))
 obtain ⟨_,cn⟩:=can h1 vs h1.objs.size k1 g1 rfl
 have hoL:(h1.push (seqObj "list" vs.toArray 0)).get? h1.objs.size=some (seqObj "list" vs.toArray 0):=Heap.get?_push_size _ rfl
 refine wpAny_bind (wpAny_holding (wpAny_call_entry (s:={ s with heap:=h1.push (seqObj "list" vs.toArray 0),toks:=tk }) slot_list_sort ⟨_,hoL,rfl⟩ entry_list_sort (list_sortT hoL cn len fun out p1 p2=>⟨_,rfl,?_⟩) (args_list_sort _)))
 obtain ⟨m,at'⟩:=sortedHeap_at (vs:=vs) (out:=out) hoL
 exact wpAny_pure ⟨_,rfl,h _ _ _ vs h1 out m k1 g1 (fun b o e=>sortedHeap_old (Nat.ne_of_lt (Heap.lt_size e)) (Heap.get?_push_of_some _ e)) z1 (Nat.le_refl _) at' p1 p2⟩
theorem collectD {T:String} {r d:Addr} {n:Nat} {P:Nat->Value->Prop} {OK:Heap->Prop} {R:List Value->Shared->Prop} (K:PySem.W.KdlSrc prog w T r d n P OK) (hh:A.handled=none) (ok:OK s.heap) (hn:n<=sizeLine)
  (h:∀ (g:Heap) (tk:Nat) (acc:Array Value),(∀ b o,s.heap.get? b=some o->g.get? b=some o)->s.heap.objs.size<=g.objs.size->PySem.ItemsOf P acc n->R acc.toList { s with heap:=g,toks:=tk }):wpAny (model prog w) A (collect (.ref r)) R E s:=by
 obtain ⟨l1,l2⟩:=K.there _ ok
 unfold collect
 refine wpAny_bind (wpAny_runValue (codeAny_builtin entry_proto_collect' ?_))
 rw [Around.under_plainId PySem.F.plain_proto_collect _]
 refine wpAny_bind (wpAny_newObj_type (wpAny_pure ⟨plainId_quiet PySem.F.plain_list_iadd _,codeAny_builtin entry_list_iadd' ?_⟩))
 rw [Around.under_plainId PySem.F.plain_list_iadd _]
 refine wpAny_mono (PySem.W.kdl_extend (A:=A) (s:={ s with heap:=s.heap.push { cls:=.type "list", data:=.seq ([]:List Value).toArray } }) (R:=fun q s'=>∃ (g:Heap) (tk:Nat) (acc:Array Value) (c:Nat),q=.ok (.ret (.ref s.heap.objs.size))/\s'={ s with heap:=g,toks:=tk } /\
   (∀ b o,s.heap.get? b=some o->g.get? b=some o)/\g.get? s.heap.objs.size=some { cls:=.type "list", dict:=none,data:=.seq acc c,slots:=#[] }/\PySem.ItemsOf P acc n)
  K hh (K.keep _ _ ok fun b _ o e=>Heap.get?_push_of_some _ e) s.heap.objs.size (Nat.ne_of_gt l1) (Nat.ne_of_gt l2) (.ref s.heap.objs.size) 0 (Heap.get?_push_size _ rfl)
  (fun g tk acc c k at' it=>⟨g,tk,acc,c,rfl,rfl,fun b o e=>k b o (Nat.ne_of_lt (Heap.lt_size e)) (Heap.get?_push_of_some _ e),at',it⟩) hn) (fun fn s' x=>?_) fun e s' x=>?_
 ·cases fn with
  | done f =>
   obtain ⟨g,tk,acc,c,e,rfl,k,at',it⟩:=x
   cases e
   exact wpAny_bind (wpAny_load at' (wpAny_pure (h g tk acc k (Nat.le_of_lt (Heap.lt_size at')) it)))
  | again c1 =>
   refine ⟨x.1,codeAny_mono x.2 fun q s2 y=>?_⟩
   obtain ⟨g,tk,acc,c,rfl,rfl,k,at',it⟩:=y
   exact wpAny_bind (wpAny_load at' (wpAny_pure (h g tk acc k (Nat.le_of_lt (Heap.lt_size at')) it)))
 ·obtain ⟨_,_,_,_,z,_⟩:=x
  cases z
theorem can_strs {h:Heap} {a:Addr} {vs:List Value} {ss:List Str} (hS:StrsAre vs ss):Can prog w PyProof.Rows.strKind oneType' h a vs where
 key v hv:=by
  obtain ⟨x,t,e⟩:=hS.all v hv
  exact ⟨x.cps.toList,by rw [e]⟩
 lt A s _:=fun E x y a b Q ha hb hq=>by rw [keyLt'_oneType]; exact strKind_oneLt prog w A E s x y a b ha hb hq
 kind h2 A E s Q _ hq:=by
  match vs,hS,h2 with
  | v₁ :: v₂ :: rest,hS,_=>rw [keyKind_strs hS]; exact wpAny_pure hq
end
end Tm
set_option maxHeartbeats 4000000
namespace Tm
open PySem PyProof.Rows
@[reducible] noncomputable def intK:PyProof.Rows.KeyKind where
 α:=Int
 blt a b:=decide (a < b)
 irrefl a:=by simp
 trans a b c h1 h2:=by simp only [decide_eq_true_eq] at *; exact Int.lt_trans h1 h2
 negTrans a b c h:=by
  simp only [decide_eq_true_eq] at *
  by_cases hab:a < b
  ·exact .inl hab
  ·exact .inr (Int.lt_of_le_of_lt (Int.not_lt.mp hab) h)
 total a b h1 h2:=by simp only [decide_eq_false_iff_not] at *; exact Int.le_antisymm (Int.not_lt.mp h2) (Int.not_lt.mp h1)
 keyOf v:=match v with | .int x _=>some x | _=>none
 dflt:=0
theorem ints_all:∀ {vs:List Value} {ns:List Int},IntsAre vs ns->∀ v ∈ vs,∃ x t,v=.int x t
 | _,_,.nil,v,h=>nomatch h
 | _,_,.cons n t r,v,h=>by
  rcases List.mem_cons.mp h with e | h
  ·exact ⟨n,t,e⟩
  ·exact ints_all r v h
section
variable {prog:Program} {w:World}
theorem can_ints {h:Heap} {a:Addr} {vs:List Value} {ss:List Int} (hS:IntsAre vs ss):Can prog w intK oneType' h a vs where
 key v hv:=by
  obtain ⟨x,t,e⟩:=ints_all hS v hv
  exact ⟨x,by rw [e]⟩
 lt A s _:=fun E x y a b Q ha hb hq=>by
  rw [keyLt'_oneType]
  cases x <;> simp only [intK,reduceCtorEq,Option.some.injEq] at ha
  cases y <;> simp only [intK,reduceCtorEq,Option.some.injEq] at hb
  cases ha; cases hb
  exact oneLt_int hq
 kind h2 A E s Q _ hq:=by
  match vs,hS,h2 with
  | v₁ :: v₂ :: rest,hS,_=>rw [keyKind_ints hS]; exact wpAny_pure hq
end
end Tm
namespace L2
open PySem PySem.Spec PyProof.Rows
theorem sortI_one {xs ys:List Int} (hx:xs.Pairwise (·<=·)) (hy:ys.Pairwise (·<=·)) (p:xs.Perm ys):xs=ys:=List.Perm.eq_of_pairwise (fun a b _ _ h1 h2=>Int.le_antisymm h1 h2) hx hy p
theorem ints_len:∀ {vs:List Value} {ns:List Int},IntsAre vs ns->vs.length=ns.length
 | _,_,.nil=>rfl
 | _,_,.cons _ _ r=>congrArg (· + 1) (ints_len r)
noncomputable def intOf:Value->Int
 | .int a _=>a
 | _=>0
theorem ints_map:∀ (vs:List Value),(∀ v ∈ vs,∃ x t,v=.int x t)->IntsAre vs (vs.map intOf)
 | [],_=>.nil
 | v :: vs,h=>by
  obtain ⟨x,t,rfl⟩:=h v (by simp)
  exact .cons x t (ints_map vs fun u hu=>h u (List.mem_cons_of_mem _ hu))
theorem ints_eqm:∀ {vs:List Value} {ns:List Int},IntsAre vs ns->vs.map intOf=ns
 | _,_,.nil=>rfl
 | _,_,.cons n t r=>by rw [List.map_cons,ints_eqm r]; rfl
theorem sort_ints {ts:List Int} {out:List Value}:∀ {us:List Value},IntsAre us ts->out.Perm us->out.Pairwise (Tm.leV Tm.intK)->∃ ss,IntsAre out ss/\ss.Perm ts/\ss.Pairwise (·<=·):=fun {us} h p s=>by
 have all:∀ v ∈ out,∃ x t,v=.int x t:=fun v hv=>Tm.ints_all h v (p.mem_iff.mp hv)
 refine ⟨out.map intOf,ints_map out all,by rw [<-ints_eqm h]; exact p.map _,?_⟩
 rw [List.pairwise_map]
 refine s.imp_of_mem fun {a b} ha hb q=>?_
 obtain ⟨x,t,rfl⟩:=all a ha
 obtain ⟨y,u,rfl⟩:=all b hb
 have q:decide (y < x)=false:=q
 show x<=y
 simpa using q
theorem ints_back:∀ {ys:List Int} {us:List Value},IntsAre us ys->Vals (ys.map V.int) us
 | _,_,.nil=>.nil
 | _,_,.cons x t h=>.cons ⟨t,rfl⟩ (ints_back h)
theorem ints_at:∀ {as:List Value} {ss:List Int},as.length=ss.length->(∀ (j:Nat) v,as[j]?=some v->∃ x t,ss[j]?=some x/\v=.int x t)->IntsAre as ss
 | [],[],_,_=>.nil
 | [],_ :: _,h,_=>by simp at h
 | _ :: _,[],h,_=>by simp at h
 | a :: as,x :: ss,h,f=>by
  obtain ⟨y,t,e1,e2⟩:=f 0 a rfl
  cases e1
  subst e2
  exact .cons x t (ints_at (by simpa using h) fun j v e=>by obtain ⟨y,t,e1,e2⟩:=f (j + 1) v (by simpa using e); exact ⟨y,t,by simpa using e1,e2⟩)
section
variable {X:Cx}
noncomputable def SrcI (K:PySem.W.Frag) (H:Hp) (l:Addr) (ss:List Int):Prop:=SqL K H l (ss.map V.int)\/∃ kvs,Rd H l (.dK kvs)/\kvs.map (·.1)=ss.map Sum.inl
noncomputable def rSortI (K:PySem.W.Frag):List V->Hp->VK->Prop:=fun xs H Q=>∃ (l:Addr) (ss:List Int),xs=[.ref l]/\SrcI K H l ss/\ss.length<=100000/\∀ (p:Addr) (ss':List Int),H p=none->ss'.Perm ss->ss'.Pairwise (·<=·)->Q (.ref p) (upd H p (.lst (ss'.map V.int)))
theorem call_sortI (hc:X.calm=true):CallR X (.builtin "sorted") (rSortI X.K):=by
 intro pins s σ H xs us Q I r h
 obtain ⟨l,ss,rfl,src,hz,q⟩:=h
 obtain ⟨u,rfl,ru⟩:=vals1 r
 cases ru
 have fin:∀ (D:Addr) (h':Heap) (tk:Nat) (vs:List Value) (h1:Heap) (out:Array Value) (m:Nat),(∀ b o,s.heap.get? b=some o->h1.get? b=some o)->IntsAre vs ss->(∀ b o,h1.get? b=some o->h'.get? b=some o)->s.heap.objs.size<=D->h1.objs.size<=D->h'.get? D=some (seqObj "list" out m)->out.toList.Perm vs->out.toList.Pairwise (Tm.leV Tm.intK)->EP X pins σ Q (.ref D) { s with heap:=h',toks:=tk }:=fun D h' tk vs h1 out m k1 g1 k2 hle hD at' p1 p2=>by
  obtain ⟨ss',so,pm,st⟩:=sort_ints g1 p1 p2
  have lo:ss'.length=ss.length:=pm.length_eq
  exact ⟨.ref D,_,I.laid (o:=.lst (ss'.map V.int)) (t':=tk) (fun b o g=>k2 b o (k1 b o g)) hle ⟨by rw [List.length_map,sizeLine_eq]; exact om18 hz lo,out.toList,m,ints_back so,at'⟩,rfl,q _ ss' (I.hok.fresh hle) pm st⟩
 rcases src with hl | ⟨kvs,rd,ek⟩
 ·obtain ⟨its,rv,pl,_⟩:=I.list hl
  have sa:=ints_of rv
  have hlen:its.length=ss.length:=by rw [<-rv.length,List.length_map]
  refine Tm.sorted_of (s:=s) (κ:=Tm.intK) (kd:=oneType') (G:=fun _ vs=>IntsAre vs ss) (fun A E R _ hR=>collect_list pl.isList (hR _ _ its (fun b o e=>?_) (by rw [Heap.size_update,size_push']; exact Nat.le_succ _) sa) (by rw [sizeLine_eq]; exact om18 hz hlen)) (I.ok.hd hc) (fun h' vs D k g _=>⟨by rw [ints_len g]; exact hz,Tm.can_ints g⟩) fin
  exact (Heap.get?_update_other _ _ (Nat.ne_of_gt (Heap.lt_size e))).trans (Heap.get?_push_of_some _ e)
 ·obtain ⟨z,hm,vs,rel,dd⟩:=dk_rd I.hok rd
  obtain ⟨ep,da⟩:=dd.dictAt
  have kl:vs.length=ss.length:=by
   have:=congrArg List.length ek
   rw [List.length_map,List.length_map] at this
   rw [<-this]
   exact (KV.len rel).symm
  refine Tm.sorted_of (s:=s) (κ:=Tm.intK) (kd:=oneType') (G:=fun _ vs=>IntsAre vs ss) (fun A E R hA hR=>Tm.collectD (PySem.W.kdl_dict (knd:=mixKind X.prog X.w) (kvs:=vs) (ep:=ep) hm) hA da (by rw [sizeLine_eq]; exact om18 hz kl) fun h' tk acc k z it=>hR h' tk acc.toList k z ?_) (I.ok.hd hc) (fun h' vs D k g _=>⟨by rw [ints_len g]; exact hz,Tm.can_ints g⟩) fin
  have al:acc.toList.length=ss.length:=by rw [Array.length_toList,it.1,kl]
  have at_:∀ (j:Nat) v,acc.toList[j]?=some v->∃ x t,ss[j]?=some x/\v=.int x t:=fun j v e=>by
   obtain ⟨k,x,e1,e2⟩:=it.2 j v (by rw [<-Array.getElem?_toList]; exact e)
   obtain ⟨y,e3⟩:∃ y,kvs[j]?=some (k,y):=by
    have hj:j < kvs.length:=by rw [KV.len rel]; exact (List.getElem?_eq_some_iff.mp e1).1
    obtain ⟨u,hu,_⟩:=KV.get (i:=j) (k:=kvs[j].1) (v:=kvs[j].2) rel (by rw [List.getElem?_eq_getElem hj])
    rw [e1] at hu
    cases hu
    exact ⟨kvs[j].2,by rw [List.getElem?_eq_getElem hj]⟩
   have e4:=congrArg (·[j]?) ek
   simp only [List.getElem?_map,e3] at e4
   cases e5:ss[j]? with
   | none=>rw [e5] at e4; cases e4
   | some y' =>
    rw [e5] at e4
    have e6:k=Sum.inl y':=Option.some.inj e4
    subst e6
    obtain ⟨t,e7⟩:=is_kV e2
    exact ⟨y',t,rfl,e7⟩
  exact ints_at al at_
end
end L2
namespace L2
open PySem PySem.Spec PyProof.Rows
noncomputable def leT (a b:Str):Prop:=¬ (b.cps.toList < a.cps.toList)
theorem leT_anti {a b:Str} (h1:leT a b) (h2:leT b a):a=b:=by
 have e:=List.le_antisymm (List.not_lt.mp h1) (List.not_lt.mp h2)
 cases a; cases b
 exact congrArg Str.mk (Array.toList_inj.mp e)
theorem sort_one {xs ys:List Str} (hx:xs.Pairwise leT) (hy:ys.Pairwise leT) (p:xs.Perm ys):xs=ys:=List.Perm.eq_of_pairwise (fun a b _ _ h1 h2=>leT_anti h1 h2) hx hy p
theorem sort_texts {ts:List Str} {out:List Value}:∀ {us:List Value},StrsAre us ts->out.Perm us->out.Pairwise (Tm.leV PyProof.Rows.strKind)->∃ ss,StrsAre out ss/\ss.Perm ts/\ss.Pairwise leT:=fun {us} h p s=>by
 have all:∀ v ∈ out,∃ x t,v=.str x t:=fun v hv=>h.all v (p.mem_iff.mp hv)
 refine ⟨out.map strOf,strsAre_map out all,by rw [<-h.strs]; exact p.map _,?_⟩
 rw [List.pairwise_map]
 refine s.imp_of_mem fun {a b} ha hb q=>?_
 obtain ⟨x,t,rfl⟩:=all a ha
 obtain ⟨y,u,rfl⟩:=all b hb
 have q:decide (y.cps.toList < x.cps.toList)=false:=q
 show ¬ (y.cps.toList < x.cps.toList)
 simpa using q
theorem strs_backT:∀ {ys:List Str} {us:List Value},StrsAre us ys->Vals (ys.map V.str) us
 | _,_,.nil=>.nil
 | _,_,.cons x t h=>.cons ⟨t,rfl⟩ (strs_backT h)
theorem strs_at:∀ {as:List Value} {ss:List Str},as.length=ss.length->(∀ (j:Nat) v,as[j]?=some v->∃ x t,ss[j]?=some x/\v=.str x t)->StrsAre as ss
 | [],[],_,_=>.nil
 | [],_ :: _,h,_=>by simp at h
 | _ :: _,[],h,_=>by simp at h
 | a :: as,x :: ss,h,f=>by
  obtain ⟨y,t,e1,e2⟩:=f 0 a rfl
  cases e1
  subst e2
  exact .cons x t (strs_at (by simpa using h) fun j v e=>by obtain ⟨y,t,e1,e2⟩:=f (j + 1) v (by simpa using e); exact ⟨y,t,by simpa using e1,e2⟩)
section
variable {X:Cx}
noncomputable def SrcT (K:PySem.W.Frag) (H:Hp) (l:Addr) (ss:List Str):Prop:=SqL K H l (ss.map V.str)\/∃ kvs,Rd H l (.dK kvs)/\kvs.map (·.1)=ss.map Sum.inr
noncomputable def rSortT (K:PySem.W.Frag):List V->Hp->VK->Prop:=fun xs H Q=>∃ (l:Addr) (ss:List Str),xs=[.ref l]/\SrcT K H l ss/\ss.length<=100000/\∀ (p:Addr) (ss':List Str),H p=none->ss'.Perm ss->ss'.Pairwise leT->Q (.ref p) (upd H p (.lst (ss'.map V.str)))
theorem call_sortT (hc:X.calm=true):CallR X (.builtin "sorted") (rSortT X.K):=by
 intro pins s σ H xs us Q I r h
 obtain ⟨l,ss,rfl,src,hz,q⟩:=h
 obtain ⟨u,rfl,ru⟩:=vals1 r
 cases ru
 have fin:∀ (D:Addr) (h':Heap) (tk:Nat) (vs:List Value) (h1:Heap) (out:Array Value) (m:Nat),(∀ b o,s.heap.get? b=some o->h1.get? b=some o)->StrsAre vs ss->(∀ b o,h1.get? b=some o->h'.get? b=some o)->s.heap.objs.size<=D->h1.objs.size<=D->h'.get? D=some (seqObj "list" out m)->out.toList.Perm vs->out.toList.Pairwise (Tm.leV PyProof.Rows.strKind)->EP X pins σ Q (.ref D) { s with heap:=h',toks:=tk }:=fun D h' tk vs h1 out m k1 g1 k2 hle hD at' p1 p2=>by
  obtain ⟨ss',so,pm,st⟩:=sort_texts g1 p1 p2
  have lo:ss'.length=ss.length:=pm.length_eq
  exact ⟨.ref D,_,I.laid (o:=.lst (ss'.map V.str)) (t':=tk) (fun b o g=>k2 b o (k1 b o g)) hle ⟨by rw [List.length_map,sizeLine_eq]; exact om18 hz lo,out.toList,m,strs_backT so,at'⟩,rfl,q _ ss' (I.hok.fresh hle) pm st⟩
 rcases src with hl | ⟨kvs,rd,ek⟩
 ·obtain ⟨its,rv,pl,_⟩:=I.list hl
  have sa:=strsAre_of rv
  have hlen:its.length=ss.length:=by rw [<-rv.length,List.length_map]
  refine Tm.sorted_of (s:=s) (κ:=PyProof.Rows.strKind) (kd:=oneType') (G:=fun _ vs=>StrsAre vs ss) (fun A E R _ hR=>collect_list pl.isList (hR _ _ its (fun b o e=>?_) (by rw [Heap.size_update,size_push']; exact Nat.le_succ _) sa) (by rw [sizeLine_eq]; exact om18 hz hlen)) (I.ok.hd hc) (fun h' vs D k g _=>⟨by rw [g.length]; exact hz,Tm.can_strs g⟩) fin
  exact (Heap.get?_update_other _ _ (Nat.ne_of_gt (Heap.lt_size e))).trans (Heap.get?_push_of_some _ e)
 ·obtain ⟨z,hm,vs,rel,dd⟩:=dk_rd I.hok rd
  obtain ⟨ep,da⟩:=dd.dictAt
  have kl:vs.length=ss.length:=by
   have:=congrArg List.length ek
   rw [List.length_map,List.length_map] at this
   rw [<-this]
   exact (KV.len rel).symm
  refine Tm.sorted_of (s:=s) (κ:=PyProof.Rows.strKind) (kd:=oneType') (G:=fun _ vs=>StrsAre vs ss) (fun A E R hA hR=>Tm.collectD (PySem.W.kdl_dict (knd:=mixKind X.prog X.w) (kvs:=vs) (ep:=ep) hm) hA da (by rw [sizeLine_eq]; exact om18 hz kl) fun h' tk acc k z it=>hR h' tk acc.toList k z ?_) (I.ok.hd hc) (fun h' vs D k g _=>⟨by rw [g.length]; exact hz,Tm.can_strs g⟩) fin
  have al:acc.toList.length=ss.length:=by rw [Array.length_toList,it.1,kl]
  have at_:∀ (j:Nat) v,acc.toList[j]?=some v->∃ x t,ss[j]?=some x/\v=.str x t:=fun j v e=>by
   obtain ⟨k,x,e1,e2⟩:=it.2 j v (by rw [<-Array.getElem?_toList]; exact e)
   obtain ⟨y,e3⟩:∃ y,kvs[j]?=some (k,y):=by
    have hj:j < kvs.length:=by rw [KV.len rel]; exact (List.getElem?_eq_some_iff.mp e1).1
    obtain ⟨u,hu,_⟩:=KV.get (i:=j) (k:=kvs[j].1) (v:=kvs[j].2) rel (by rw [List.getElem?_eq_getElem hj])
    rw [e1] at hu
    cases hu
    exact ⟨kvs[j].2,by rw [List.getElem?_eq_getElem hj]⟩
   have e4:=congrArg (·[j]?) ek
   simp only [List.getElem?_map,e3] at e4
   cases e5:ss[j]? with
   | none=>rw [e5] at e4; cases e4
   | some y' =>
    rw [e5] at e4
    have e6:k=Sum.inr y':=Option.some.inj e4
    subst e6
    obtain ⟨t,e7⟩:=is_kV e2
    exact ⟨y',t,rfl,e7⟩
  exact strs_at al at_
end
end L2
namespace Tm
open PySem PyProof.Rows PySem.W
noncomputable def lexB (a b:List Nat × Int):Bool:=decide (a.1 < b.1) || (decide (a.1=b.1) && decide (a.2 < b.2))
theorem lexB_iff {a b:List Nat × Int}:lexB a b=true ↔ a.1 < b.1\/(a.1=b.1/\a.2 < b.2):=by simp [lexB]
theorem lexB_no {a b:List Nat × Int}:lexB a b=false ↔ ¬ (a.1 < b.1\/(a.1=b.1/\a.2 < b.2)):=by rw [<-lexB_iff]; simp
theorem lex_irr (a:List Nat × Int):lexB a a=false:=by
 rw [lexB_no]
 rintro (h | ⟨_,h⟩)
 ·exact List.lt_irrefl _ h
 ·exact Int.lt_irrefl _ h
noncomputable def itOf:List Value->Option (List Nat × Int)
 | [.str z _,.int i _]=>some (z.cps.toList,i)
 | _=>none
noncomputable def datOf:Data->Option (List Nat × Int)
 | .seq its _=>itOf its.toList
 | _=>none
noncomputable def pkOf (h:Heap):Value->Option (List Nat × Int)
 | .ref a=>(h.get? a).bind fun o=>datOf o.data
 | _=>none
theorem pk_of {h:Heap} {a:Addr} {o:Obj} {its:Array Value} {n:Nat} {z:Str} {t:Tok} {i:Int} {u:Tok} (g:h.get? a=some o) (d:o.data=.seq its n) (e:its.toList=[.str z t,.int i u]):pkOf h (.ref a)=some (z.cps.toList,i):=by
 show (h.get? a).bind (fun o=>datOf o.data)=_
 rw [g]
 show datOf o.data=_
 rw [d]
 show itOf its.toList=_
 rw [e]
 rfl
theorem it_open {l:List Value} {k:List Nat × Int} (e:itOf l=some k):∃ z t i u,l=[.str z t,.int i u]/\k=(z.cps.toList,i):=by
 unfold itOf at e
 split at e
 ·exact ⟨_,_,_,_,rfl,(Option.some.inj e).symm⟩
 ·cases e
theorem dat_open {d:Data} {k:List Nat × Int} (e:datOf d=some k):∃ its n,d=.seq its n/\itOf its.toList=some k:=by
 unfold datOf at e
 split at e
 ·exact ⟨_,_,rfl,e⟩
 ·cases e
noncomputable def pairK (h:Heap):PyProof.Rows.KeyKind where
 α:=List Nat × Int
 blt:=lexB
 irrefl a:=lex_irr a
 trans a b c h1 h2:=by
  rw [lexB_iff] at *
  rcases h1 with h1 | ⟨e1,h1⟩ <;> rcases h2 with h2 | ⟨e2,h2⟩
  ·exact .inl (List.lt_trans h1 h2)
  ·exact .inl (e2 ▸ h1)
  ·exact .inl (e1 ▸ h2)
  ·exact .inr ⟨e1.trans e2,Int.lt_trans h1 h2⟩
 negTrans a b c h:=by
  rw [lexB_iff] at *
  rw [lexB_iff]
  by_cases h1:a.1 < b.1
  ·exact .inl (.inl h1)
  by_cases h2:b.1 < c.1
  ·exact .inr (.inl h2)
  have l1:=List.not_lt.mp h1
  have l2:=List.not_lt.mp h2
  rcases h with h | ⟨e,h⟩
  ·exact absurd (List.lt_of_le_of_lt (List.le_trans l2 l1) h) (List.lt_irrefl _)
  ·have e1:a.1=b.1:=List.le_antisymm (e ▸ l2) l1
   by_cases h3:a.2 < b.2
   ·exact .inl (.inr ⟨e1,h3⟩)
   ·exact .inr (.inr ⟨e1 ▸ e,by omega⟩)
 total a b h1 h2:=by
  rw [lexB_no] at *
  have e:a.1=b.1:=List.le_antisymm (List.not_lt.mp fun z=>h2 (.inl z)) (List.not_lt.mp fun z=>h1 (.inl z))
  have:a.2=b.2:=by
   have x1:¬ a.2 < b.2:=fun z=>h1 (.inr ⟨e,z⟩)
   have x2:¬ b.2 < a.2:=fun z=>h2 (.inr ⟨e.symm,z⟩)
   omega
  exact Prod.ext e this
 keyOf:=pkOf h
 dflt:=([],0)
theorem pk_open {h:Heap} {v:Value} {k:List Nat × Int} (e:pkOf h v=some k):∃ (a:Addr) (o:Obj) (its:Array Value) (n:Nat) (z:Str) (t:Tok) (i:Int) (u:Tok),v=.ref a/\h.get? a=some o/\o.data=.seq its n/\its.toList=[.str z t,.int i u]/\k=(z.cps.toList,i):=by
 unfold pkOf at e
 split at e
 ·rename_i a
  cases g:h.get? a with
  | none=>rw [g] at e; cases e
  | some o =>
   rw [g] at e
   have e:datOf o.data=some k:=e
   obtain ⟨its,n,d,e⟩:=dat_open e
   obtain ⟨z,t,i,u,e1,e2⟩:=it_open e
   exact ⟨a,o,its,n,z,t,i,u,rfl,g,d,e1,e2⟩
 ·cases e
section
variable {prog:Program} {w:World}
theorem pair_lt {h:Heap} {A:Around} {s:Shared} (keep:∀ v k,pkOf h v=some k->pkOf s.heap v=some k):LtOk (pairK h) (tuples' true) prog w A s:=by
 intro E x y a b Q ha hb hq
 obtain ⟨ax,o1,is1,n1,z1,t1,i1,u1,rfl,g1,d1,l1,rfl⟩:=pk_open (keep _ _ ha)
 obtain ⟨ay,o2,is2,n2,z2,t2,i2,u2,rfl,g2,d2,l2,rfl⟩:=pk_open (keep _ _ hb)
 have hq:Q (lexB (z1.cps.toList,i1) (z2.cps.toList,i2)) s:=hq
 refine kat_lt g1 d1 g2 d2 ?_
 have ez:decide (is1.size < is2.size)=false:=by
  have x1:=congrArg List.length l1
  have x2:=congrArg List.length l2
  rw [Array.length_toList] at x1 x2
  rw [x1,x2]; rfl
 rw [ez,l1,l2]
 refine kat_cons (eqBool_str (kat_go (fun e=>kat_yes ?_) (fun e=>kat_no ?_)))
 ·have e:z1=z2:=by simpa using e
  subst e
  refine kat_cons (wpAny_eqBool_int (kat_go (fun e=>kat_yes (kat_nil ?_)) (fun e=>kat_no ?_)))
  ·have e:i1=i2:=by simpa using e
   subst e
   rw [lex_irr] at hq
   exact hq
  ·refine kat_one _ _ (lt_int ?_)
   have:lexB (z1.cps.toList,i1) (z1.cps.toList,i2)=decide (i1 < i2):=by
    rw [Bool.eq_iff_iff,lexB_iff,decide_eq_true_iff]
    exact ⟨fun h=>h.elim (fun h=>absurd h (List.lt_irrefl _)) (·.2),fun h=>.inr ⟨rfl,h⟩⟩
   rw [this] at hq
   exact hq
 ·have e:¬ z1=z2:=by simpa using e
  have ne:¬ z1.cps.toList=z2.cps.toList:=fun z=>e (by cases z1; cases z2; exact congrArg Str.mk (Array.toList_inj.mp z))
  refine oneLt_str ?_
  have:lexB (z1.cps.toList,i1) (z2.cps.toList,i2)=decide (z1.cps.toList < z2.cps.toList):=by
   rw [Bool.eq_iff_iff,lexB_iff,decide_eq_true_iff]
   exact ⟨fun h=>h.elim id (fun h=>absurd h.1 ne),fun h=>.inl h⟩
  rw [this] at hq
  exact hq
noncomputable def PrsAt (h:Heap) (bs:List Addr) (kf:Addr->Str × Int):Prop:=∀ b ∈ bs,∃ (o:Obj) (its:Array Value) (n:Nat) (t u:Tok),h.get? b=some o/\o.cls=.type "tuple" /\ o.data=.seq its n/\its.toList=[.str (kf b).1 t,.int (kf b).2 u]
theorem pk_at {h:Heap} {bs:List Addr} {kf:Addr->Str × Int} (p:PrsAt h bs kf) {b:Addr} (hb:b ∈ bs):pkOf h (.ref b)=some ((kf b).1.cps.toList,(kf b).2):=by
 obtain ⟨o,its,n,t,u,g,_,d,l⟩:=p b hb
 exact pk_of g d l
theorem tups_at {h:Heap} {kf:Addr->Str × Int}:∀ {bs:List Addr},PrsAt h bs kf->∃ fs:List Value,fs.length=bs.length/\KatTups h (bs.map Value.ref) fs/\∀ f ∈ fs,∃ z t,f=.str z t
 | [],_=>⟨[],rfl,.nil,fun f hf=>nomatch hf⟩
 | b :: bs,p=>by
  obtain ⟨fs,l,k,hf⟩:=tups_at (bs:=bs) fun c hc=>p c (List.mem_cons_of_mem _ hc)
  obtain ⟨o,its,n,t,u,g,hc,d,li⟩:=p b (by simp)
  refine ⟨.str (kf b).1 t :: fs,by rw [List.length_cons,l,List.length_cons],.cons g hc d (by rw [<-Array.getElem?_toList,li]; rfl) k,fun f h=>?_⟩
  rcases List.mem_cons.mp h with rfl | h
  ·exact ⟨_,_,rfl⟩
  ·exact hf f h
theorem can_pairs {h0 h:Heap} {a:Addr} {bs:List Addr} {kf:Addr->Str × Int} (k0:∀ b o,h0.get? b=some o->h.get? b=some o) (p:PrsAt h0 bs kf) (na:∀ b o,h0.get? b=some o->b ≠ a):Can prog w (pairK h0) (tuples' true) h a (bs.map Value.ref) where
 key v hv:=by
  obtain ⟨b,hb,rfl⟩:=List.mem_map.mp hv
  exact ⟨((kf b).1.cps.toList,(kf b).2),pk_at p hb⟩
 lt A s ks:=pair_lt fun v k e=>by
  obtain ⟨b,o,its,n,z,t,i,u,rfl,g,d,l,rfl⟩:=pk_open e
  exact pk_of (ks _ _ (na _ _ g) (k0 _ _ g)) d l
 kind h2 A E s Q ks hq:=by
  have p':PrsAt s.heap bs kf:=fun b hb=>by
   obtain ⟨o,its,n,t,u,g,hc,d,l⟩:=p b hb
   exact ⟨o,its,n,t,u,ks _ _ (na _ _ g) (k0 _ _ g),hc,d,l⟩
  obtain ⟨fs,l,kt,hf⟩:=tups_at p'
  rw [List.length_map] at h2
  refine kat_kind (T:=.type "str") kt (by omega) (fun f hf'=>?_) (by decide) hq
  obtain ⟨z,t,rfl⟩:=hf f hf'
  exact Looks.of_pure rfl
end
end Tm
namespace L2
open PySem PySem.Spec PyProof.Rows
section
variable {X:Cx}
noncomputable def rSortP (K:PySem.W.Frag):List V->Hp->VK->Prop:=fun xs H Q=>∃ (l:Addr) (bs:List Addr) (kf:Addr->Str × Int),xs=[.ref l]/\SqL K H l (bs.map V.ref)/\(∀ b ∈ bs,H b=some (.tup [.str (kf b).1,.int (kf b).2]))/\bs.length<=100000 /\
 ∀ (p:Addr) (bs':List Addr),H p=none->bs'.Perm bs->bs'.Pairwise (fun a b=>leT (kf a).1 (kf b).1)->Q (.ref p) (upd H p (.lst (bs'.map V.ref)))
theorem vals_refsP:∀ {cs:List Addr} {us:List Value},Vals (cs.map V.ref) us->us=cs.map Value.ref
 | [],_,r=>by
  rw [List.map_nil] at r; cases r; rfl
 | c :: cs,_,r=>by
  rw [List.map_cons] at r
  cases r with
  | cons r1 r2=>rw [vals_refsP r2,List.map_cons]; cases (show _=Value.ref c from r1); rfl
theorem refs_back:∀ (cs:List Addr),Vals (cs.map V.ref) (cs.map Value.ref)
 | []=>.nil
 | _ :: cs=>.cons rfl (refs_back cs)
theorem perm_refs:∀ {ys zs:List Value},ys.Perm zs->∀ l:List Addr,zs=l.map Value.ref->∃ l':List Addr,l'.Perm l/\ys=l'.map Value.ref:=by
 intro ys zs h
 induction h with
 | nil=>intro l e; cases l with
  | nil=>exact ⟨[],.refl _,rfl⟩
  | cons a l=>cases e
 | cons x _ ih=>intro l e; cases l with
  | nil=>cases e
  | cons a l =>
   rw [List.map_cons] at e
   cases e
   obtain ⟨l',h1,h2⟩:=ih l rfl
   exact ⟨a :: l',h1.cons a,by rw [h2]; rfl⟩
 | swap x y zs=>intro l e; match l,e with
  | a :: b :: l,e =>
   cases e
   exact ⟨b :: a :: l,.swap _ _ _,rfl⟩
 | trans _ _ ih1 ih2 =>
  intro l e
  obtain ⟨l2,h1,h2⟩:=ih2 l e
  obtain ⟨l3,h3,h4⟩:=ih1 l2 h2
  exact ⟨l3,h3.trans h1,h4⟩
theorem call_sortP (hc:X.calm=true):CallR X (.builtin "sorted") (rSortP X.K):=by
 intro pins s σ H xs us Q I r h
 obtain ⟨l,bs,kf,rfl,hl,prs,hz,q⟩:=h
 obtain ⟨u,rfl,ru⟩:=vals1 r
 cases ru
 obtain ⟨its,rv,pl,_⟩:=I.list hl
 have ei:=vals_refsP rv
 subst ei
 have pa:Tm.PrsAt s.heap bs kf:=fun b hb=>by
  obtain ⟨its,r2,⟨o,g,hc',n,hd⟩,_⟩:=I.tuple (SqT.of (prs b hb))
  cases r2 with
  | cons r3 r4 =>
   cases r4 with
   | cons r5 r6 =>
    cases r6
    obtain ⟨t,rfl⟩:=r3
    obtain ⟨u,rfl⟩:=r5
    exact ⟨o,_,n,t,u,g,hc',hd,rfl⟩
 have lb:(bs.map Value.ref).length=bs.length:=List.length_map ..
 refine Tm.sorted_of (s:=s) (κ:=Tm.pairK s.heap) (kd:=tuples' true) (G:=fun h' vs=>vs=bs.map Value.ref/\∀ b o,s.heap.get? b=some o->h'.get? b=some o) (fun A E R _ hR=>collect_list pl.isList (hR _ _ (bs.map Value.ref) (fun b o e=>?_) (by rw [Heap.size_update,size_push']; exact Nat.le_succ _) ⟨rfl,fun b o e=>?_⟩) (by rw [sizeLine_eq]; exact om18 hz lb)) (I.ok.hd hc)
  (fun h' vs D k g eD=>?_) fun D h' tk vs h1 out m k1 g1 k2 hle hD at' p1 p2=>?_
 ·exact (Heap.get?_update_other _ _ (Nat.ne_of_gt (Heap.lt_size e))).trans (Heap.get?_push_of_some _ e)
 ·exact (Heap.get?_update_other _ _ (Nat.ne_of_gt (Heap.lt_size e))).trans (Heap.get?_push_of_some _ e)
 ·obtain ⟨rfl,k0⟩:=g
  refine ⟨by rw [lb]; exact hz,Tm.can_pairs (fun b o e=>Heap.get?_push_of_some _ (k0 b o e)) pa fun b o e=>by rw [eD]; exact Nat.ne_of_lt (Heap.lt_size (k0 b o e))⟩
 ·obtain ⟨rfl,_⟩:=g1
  obtain ⟨bs',pm,eo⟩:=perm_refs p1 bs rfl
  have lo:bs'.length=bs.length:=pm.length_eq
  refine ⟨.ref D,_,I.laid (o:=.lst (bs'.map V.ref)) (t':=tk) (fun b o g=>k2 b o (k1 b o g)) hle ⟨by rw [List.length_map,sizeLine_eq]; exact om18 hz lo,out.toList,m,by rw [eo]; exact refs_back bs',at'⟩,rfl,q _ bs' (I.hok.fresh hle) pm ?_⟩
  rw [eo,List.pairwise_map] at p2
  refine p2.imp_of_mem fun {a b} ha hb h=>?_
  have h:Tm.lexB ((Tm.pkOf s.heap (.ref b)).getD ([],0)) ((Tm.pkOf s.heap (.ref a)).getD ([],0))=false:=h
  rw [Tm.pk_at pa (pm.mem_iff.mp ha),Tm.pk_at pa (pm.mem_iff.mp hb)] at h
  exact fun z=>(Tm.lexB_no.mp h) (.inl z)
end
end L2
namespace K2
open PySem L2
theorem i_dsetd {td ty tx:TE} {σ:St} {H:Hp} {Q:VK} (q:td σ H fun x H1=>∃ a,x=.ref a/\IsD H1 a/\ty σ H1 fun y H2=>tx σ H2 fun z H3=>∃ kvs k,H3 a=some (.dK kvs)/\y=kV k/\(∀ v,valV kvs k=some v->Q v H3)/\(valV kvs k=none->kvs.length < sizeLine/\Q z (upd H3 a (.dK (putK kvs k z))))):tDSetd td ty tx σ H Q:=q
theorem s_dput {td ty tv:TE} {D:Ends} {σ:St} {H:Hp} (q:tv σ H fun v H1=>td σ H1 fun x H2=>ty σ H2 fun y H3=>∃ a H4,x=.ref a/\DPut H3 a y v H4/\D.nx σ H4):sDPut td ty tv D σ H:=q
theorem i_din {td ty:TE} {σ:St} {H:Hp} {Q:VK} (q:ty σ H fun y H1=>td σ H1 fun x H2=>∃ a o,x=.ref a/\DGet H2 a y o/\Q (.bl o.isSome) H2):tDIn ty td σ H Q:=q
theorem i_dnotin {td ty:TE} {σ:St} {H:Hp} {Q:VK} (q:ty σ H fun y H1=>td σ H1 fun x H2=>∃ a o,x=.ref a/\DGet H2 a y o/\Q (.bl (!o.isSome)) H2):tDNotIn ty td σ H Q:=q
theorem i_dget1 {td ty:TE} {σ:St} {H:Hp} {Q:VK} (q:td σ H fun x H1=>∃ a,x=.ref a/\IsD H1 a/\ty σ H1 fun y H2=>∃ o,DGet H2 a y o/\Q (o.getD .non) H2):tDGet1 td ty σ H Q:=q
theorem s_frz {t:TS} {D:Ends} {σ:St} {H:Hp} {a:Addr} {u:HO} (r:Rd H a u) (f:Fz u) (q:∀ o,t (thawD D H a o u) σ (upd H a (.frz o u))):tFrz t D σ H:=⟨a,u,r,f,q⟩
theorem s_dictF {tl:TE} {σ:St} {H:Hp} {R:It->Hp->Prop} (q:tl σ H fun x H1=>∃ a o kvs,x=.ref a/\H1 a=some (.frz o (.dK kvs))/\R (Itd a o kvs) H1):iDictF tl σ H R:=q
theorem ix_listK {X:Cx} {K:PySem.W.Frag} (h:X.K=K):IxR X (rIxL K):=by subst h; exact ix_list
noncomputable def top (i:Nat):Stmt:=PySem.Challenge.pw_anydelay_k57_first_unsteady.main.body.getD i (.Pass ⟨0,0,0,0⟩)
structure Txt (K:PySem.W.Frag) (mg:Str->Option Value) (TT:Addr):Prop where
 n_len:mg "len" = none
 n_range:mg "range" = none
 n_max:mg "max" = none
 n_min:mg "min" = none
 n_int:mg "int" = none
 n_list:mg "list" = none
 n_str:mg "str" = none
 n_isinstance:mg "isinstance" = none
 n_all:mg "all" = none
 n_set:mg "set" = none
 n_dict:mg "dict" = none
 n_enumerate:mg "enumerate" = none
 n_sorted:mg "sorted" = none
 n_tuple:mg "tuple" = none
 n_bool:mg "bool" = none
 n_zip:mg "zip" = none
 n_reversed:mg "reversed" = none
 tURNED:mg "TURNED" = some (.ref TT)
 tab:tabAt K TT [("0", .flat (.str "1")),("1", .flat (.str "0"))]
structure Dk where
 d:Addr
 n:Nat
noncomputable def Dk.more (D:Dk) (k:Nat):Dk:=⟨D.d,D.n + k⟩
noncomputable def Dk.own (D:Dk) (b:Addr):Prop:=b=D.d
noncomputable def Dk.At (D:Dk) (H:Hp):Prop:=∃ a b c:Int,H D.d=some (.lst [.int a,.int b,.int c])/\0<=c/\c<=(D.n:Int)
structure Kp (D:Dk) (H H':Hp):Prop where
 old:∀ b o,H b=some o->¬ D.own b->H' b=some o
 dk:D.At H'
noncomputable def spDraw:Sp:=fun vs H Q _=>∃ (D:Dk) (m:Int),vs=[.ref D.d,.int m]/\D.At H/\D.n < 100000/\1<=m/\m<=100000/\∀ (r:Int) H',0<=r->r < m->Kp (D.more 1) H H'->Q (.int r) H'
theorem kp_mk {D:Dk} {H:Hp} {a b c:Int} (h0:0<=c) (h1:c<=(D.n:Int)):Kp D H (upd H D.d (.lst [.int a,.int b,.int c])):=⟨fun b o e nb=>by rw [upd_ne nb]; exact e,⟨_,_,_,upd_same,h0,h1⟩⟩
theorem small_mul {i:Int} (h1:0<=i) (h2:i < 100000000000) (j:Int):CMul i j:=.inl ⟨by omega,by omega⟩

noncomputable def KeepT (H H':Hp):Prop:=∀ b xs,H b=some (.tup xs)->H' b=some (.tup xs)
theorem Same.tups {H H':Hp} (S:Same H H'):KeepT H H':=fun b xs e=>S b _ e
theorem Dk.At.same {D:Dk} {H H':Hp} (S:Same H H') (h:D.At H):D.At H':=let ⟨a,b,c,e,l⟩:=h; ⟨a,b,c,S _ _ e,l⟩
theorem Kp.of {D:Dk} {H H':Hp} (h:D.At H) (S:Same H H'):Kp D H H':=⟨fun b o e _=>S b o e,h.same S⟩
theorem Kp.trans {D D':Dk} {H H1 H2:Hp} (a:Kp D H H1) (b:Kp D' H1 H2) (e:D.d=D'.d:=by rfl):Kp D' H H2:=⟨fun c o h n=>b.old c o (a.old c o h (by unfold Dk.own at n ⊢; rw [e]; exact n)) n,b.dk⟩
theorem Dk.At.le {D D':Dk} {H:Hp} (a:D.At H) (l:D.n<=D'.n) (e:D.d=D'.d:=by rfl):D'.At H:=by
 obtain ⟨x,y,z,h,h0,h1⟩:=a
 exact ⟨x,y,z,by rw [<-e]; exact h,h0,by omega⟩
theorem Kp.le {D D':Dk} {H H':Hp} (a:Kp D H H') (l:D.n<=D'.n) (e:D.d=D'.d:=by rfl):Kp D' H H':=⟨fun c o h n=>a.old c o h (by unfold Dk.own at n ⊢; rw [e]; exact n),a.dk.le l e⟩
theorem notOwn {D:Dk} {H:Hp} (DA:D.At H) {b:Addr} {o:HO} (h:H b=some o) (hi:∀ xs,o=.lst xs->∀ i:Int,V.int i ∉ xs):¬ D.own b:=by
 obtain ⟨x,y,z,e,_⟩:=DA
 intro q
 cases q
 rw [e] at h
 exact hi _ (Option.some.inj h).symm x (by simp)
theorem Kp.tups {D:Dk} {H H':Hp} (DA:D.At H) (k:Kp D H H'):KeepT H H':=fun b xs e=>k.old b _ e (notOwn DA e (fun _ z=>nomatch z))
theorem noint_strs (ns:List Str):∀ i:Int,V.int i ∉ ns.map V.str:=fun i h=>by
 obtain ⟨x,_,e⟩:=List.mem_map.mp h
 cases e
theorem Kp.strs {D:Dk} {H H':Hp} (DA:D.At H) (k:Kp D H H') {l:Addr} {ns:List Str} (h:H l=some (.lst (ns.map V.str))):H' l=some (.lst (ns.map V.str)) :=
 k.old l _ h (notOwn DA h (fun xs e=>by cases e; exact noint_strs ns))
theorem noint_refs {xs:List V} (h:∀ x ∈ xs,∃ a,x=V.ref a):∀ i:Int,V.int i ∉ xs:=fun i hi=>by
 obtain ⟨a,e⟩:=h _ hi
 cases e
theorem Kp.refs {D:Dk} {H H':Hp} (DA:D.At H) (k:Kp D H H') {l:Addr} {xs:List V} (h:H l=some (.lst xs)) (hr:∀ x ∈ xs,∃ a,x=V.ref a):H' l=some (.lst xs) :=
 k.old l _ h (notOwn DA h (fun ys e=>by cases e; exact noint_refs hr))
theorem Kp.fresh {D:Dk} {H H':Hp} {L:Addr} {o:HO} (DA:D.At H) (hL:H L=none) (k:Kp D H H'):Kp D H (upd H' L o):=by
 obtain ⟨a0,b0,c0,e0,_⟩:=DA
 obtain ⟨a,b,c,e,l⟩:=k.dk
 exact ⟨fun b u e nb=>by rw [upd_ne (ne_of_none e hL)]; exact k.old b u e nb,⟨a,b,c,by rw [upd_ne (ne_of_none e0 hL)]; exact e,l⟩⟩
theorem Kp.new {D:Dk} {H H':Hp} {p:Addr} {o:HO} (k:Kp D H H') (hp:H' p=none):Kp D H (upd H' p o):=k.trans (Kp.of k.dk (fresh_same hp))
theorem Kp.free {D:Dk} {H H':Hp} {l:Addr} (k:Kp D H H') (h:H' l=none):H l=none:=by
 cases e:H l with
 | none=>rfl
 | some o =>
  exfalso
  by_cases c:D.own l
  ·obtain ⟨a,b,z,q,_⟩:=k.dk
   cases c
   rw [q] at h
   cases h
  ·rw [k.old l o e c] at h
   cases h
theorem notOwn_fresh {D:Dk} {H:Hp} {p:Addr} (DA:D.At H) (hp:H p=none):¬ D.own p:=fun z=>by
 obtain ⟨a,b,c,e,_⟩:=DA
 cases z
 rw [e] at hp
 cases hp
structure StOk (n:Nat) (z:Str):Prop where
 len:z.cps.size=n
 signs:∀ c ∈ z.cps.toList,c=48\/c=49
theorem pg_tupK {X:Cx} {K:PySem.W.Frag} {es:List Expr} {k:Nat} {t:TGs} {n:Nat} {pos:Pos} (hK:X.K=K) (hc:X.calm=true) (h:PGs X es t)
  (hn:(assignEach es X.env).length=n:=by rfl) (hst:(assignEach es X.env).findIdx? (·.1)=none:=by rfl):PG X (.Tuple es k pos) (gTup K n t):=by subst hK; exact pg_tup hc h hn hst
theorem seq_join {A B:TS} {D:Ends} {σ:St} {H:Hp} (J:St->Hp->Prop) (h:∀ (R:St->Hp->Prop),(∀ σ H,J σ H->R σ H)->A { D with nx:=R } σ H) (hJ:∀ σ H,J σ H->B D σ H):tSeq A B D σ H:=h (B D) hJ
theorem se_tup {a:List Expr} {n:Nat} {p:Pos} {es:List Expr} {env:Env}:starEach (.Tuple a n p :: es) env=(false,eval (.Tuple a n p) env) :: starEach es env:=by rfl
theorem se_call {f:Expr} {a:List Expr} {k:List Keyword} {p:Pos} {es:List Expr} {env:Env}:starEach (.Call f a k p :: es) env=(false,eval (.Call f a k p) env) :: starEach es env:=by rfl
theorem se_con {c:Const} {n:Nat} {p:Pos} {es:List Expr} {env:Env}:starEach (.Constant c n p :: es) env=(false,eval (.Constant c n p) env) :: starEach es env:=by rfl
theorem se_name {x:Str} {p:Pos} {es:List Expr} {env:Env}:starEach (.Name x p :: es) env=(false,eval (.Name x p) env) :: starEach es env:=by rfl
theorem se_bin {a b:Expr} {o:Operator} {p:Pos} {es:List Expr} {env:Env}:starEach (.BinOp a o b p :: es) env=(false,eval (.BinOp a o b p) env) :: starEach es env:=by rfl
theorem se_lc {a:Expr} {g:List Comprehension} {sc:Scope} {p:Pos} {es:List Expr} {env:Env}:starEach (.ListComp a g sc p :: es) env=(false,eval (.ListComp a g sc p) env) :: starEach es env:=by rfl
theorem se_sub {a b:Expr} {p:Pos} {es:List Expr} {env:Env}:starEach (.Subscript a b p :: es) env=(false,eval (.Subscript a b p) env) :: starEach es env:=by rfl
theorem ne_of_none' {H:Hp} {a b:Addr} {o:HO} (h1:H a=some o) (h2:H b=none):b ≠ a:=fun z=>by rw [z,h1] at h2; cases h2
theorem paired_snoc {α β:Type} {F:α->β->Prop}:∀ {xs:List α} {ys:List β} {x:α} {y:β},Paired F xs ys->F x y->Paired F (xs++[x]) (ys++[y])
 | _,_,_,_,.nil,h=>.cons h .nil
 | _,_,_,_,.cons h t,g=>.cons h (paired_snoc t g)
theorem paired_mono {α β:Type} {F G:α->β->Prop} (h:∀ a b,F a b->G a b):∀ {xs:List α} {ys:List β},Paired F xs ys->Paired G xs ys
 | _,_,.nil=>.nil
 | _,_,.cons a t=>.cons (h _ _ a) (paired_mono h t)
theorem paired_get {α β:Type} {F:α->β->Prop}:∀ {xs:List α} {ys:List β} {i:Nat} {x:α},Paired F xs ys->xs[i]?=some x->∃ y,ys[i]?=some y/\F x y
 | _,_,_,_,.nil,e=>by simp at e
 | _,_,0,_,.cons r _,e=>by simp at e; subst e; exact ⟨_,rfl,r⟩
 | _,_,i + 1,x,.cons _ t,e=>by
  obtain ⟨u,h1,h2⟩:=paired_get (i:=i) (x:=x) t (by simpa using e)
  exact ⟨u,by simpa using h1,h2⟩
theorem paired_get' {α β:Type} {F:α->β->Prop}:∀ {xs:List α} {ys:List β} {i:Nat} {y:β},Paired F xs ys->ys[i]?=some y->∃ x,xs[i]?=some x/\F x y
 | _,_,_,_,.nil,e=>by simp at e
 | _,_,0,_,.cons r _,e=>by simp at e; subst e; exact ⟨_,rfl,r⟩
 | _,_,i + 1,y,.cons _ t,e=>by
  obtain ⟨u,h1,h2⟩:=paired_get' (i:=i) (y:=y) t (by simpa using e)
  exact ⟨u,by simpa using h1,h2⟩
theorem ifT {c:Bool} {A B:Prop} (hc:c=true) (h:A):if c=true then A else B:=by rw [if_pos hc]; exact h
theorem ifF {c:Bool} {A B:Prop} (hc:c=false) (h:B):if c=true then A else B:=by subst hc; exact iteF h
theorem same_upd {H H':Hp} {D:Addr} {o:HO} (S:Same H H') (hD:H D=none):Same H (upd H' D o):=fun b u e=>by rw [upd_ne (ne_of_none e hD)]; exact S b u e
theorem upd_pair {H H':Hp} {p:Addr} {o:HO} (h:H p=none) (e:upd H p o=H'):Same H H'/\H' p=some o:=by
 subst e
 exact ⟨fresh_same h,upd_same⟩
theorem paired_len {α β:Type} {F:α->β->Prop}:∀ {xs:List α} {ys:List β},Paired F xs ys->xs.length=ys.length
 | _,_,.nil=>rfl
 | _,_,.cons h t=>by simp [paired_len t]
end K2
namespace K2
open PySem L2
local macro_rules | `(tactic| walk_at "vc") => `(tactic| first
 | ((refine' (?zz : (?zA → ?zG) → ?zA → ?zG) ?zr ?_); (case zr => with_reducible exact s_seqT); (case zz => exact fun _ q => q); intro D') | ((refine' (?zz : (?zA → ?zG) → ?zA → ?zG) ?zr ?_); (case zr => with_reducible first | exact s_asg | exact s_drop | exact s_ret | exact s_if | exact s_sub | exact s_next | exact i_c | exact i_op | exact i_test | exact i_tB | exact i_and | exact i_or | exact i_not | exact i_andV | exact i_orV | exact i_notV | exact i_ifE | exact i_nil | exact i_cons | exact i_cb | exact i_tup | exact i_lst | exact i_bm | exact i_sl | exact i_nopart | exact i_part | exact s_for | exact s_rng1 | exact s_list | exact s_str | exact i_dget | exact i_yes | exact i_un); (case zz => exact fun _ q => q))   | (with_reducible refine s_name ?_)
 | ((with_reducible refine' i_var ?hv ?_); (case hv => exact rfl))   | (with_reducible first | refine i_rI0 ?_ | refine i_call ?_ | refine s_strI ?_ | refine iteF ?_ | refine iteT ?_ | refine i_rU ?_)
 | ((with_reducible show ∃ i, V.int _ = V.int i ∧ _); (refine ⟨_, rfl, ?_⟩)) | ((with_reducible show ∃ k, V.bl _ = V.bl k ∧ _); (refine ⟨_, rfl, ?_⟩)) | ((with_reducible show (∃ i, [V.bl _] = [V.int i] ∧ _) ∨ _); (refine Or.inr ⟨_, rfl, ?_⟩))
 | ((with_reducible refine' i_ixL ?ha ?hb ?_); (case ha => exact SqL.of (by assumption)); (case hb => exact rfl)) | ((with_reducible refine' i_ixT ?ha ?hb ?_); (case ha => assumption); (case hb => exact rfl))
 | ((with_reducible show ∃ p _, [V.ref _] = [V.ref p] ∧ (SqL _ _ _ _ ∨ SqT _ _ _ _) ∧ _); (refine' ⟨_, _, rfl, Or.inl (SqL.of ?ha), ?_⟩); (case ha => assumption)) | ((with_reducible refine' s_setL ?ha ?hb ?_); (case ha => assumption); (case hb => exact rfl))
 | ((with_reducible refine' i_eq ?ha ?_); (case ha => exact rfl)) | ((with_reducible refine' i_ne ?ha ?_); (case ha => exact rfl))
 | ((with_reducible show ∃ z, V.str _ = V.str z ∧ _); (refine ⟨_, rfl, ?_⟩))
 | ((with_reducible refine' i_rI ?hv ?_); (case hv => first | decide | (dsimp only; omega) | exact .inl ⟨by omega, by omega⟩ | exact .inr ⟨by omega, by omega⟩ | exact ⟨by decide, by decide⟩ | exact ⟨by decide, by decide, by decide⟩ | exact ⟨by omega, by omega⟩))
 | ((with_reducible show ∃ i, [V.int _] = [V.int i] ∧ _); (refine ⟨_, rfl, ?_⟩))
 | ((with_reducible show tyV _ "list" _ _ ∧ _); (refine' ⟨i_tyL ?ha, ?_⟩); (case ha => assumption)))

noncomputable def sg (b:Bool):V:=if b then .str "1" else .str "0"
theorem sign_sg {n:Nat} {z:Str} (st:StOk n z) {i:Nat} (hi:i < n):signV z i=sg (z.cps.getD i 0 == 49):=by
 have hl:=st.len
 have e:z.cps.getD i 0=z.cps[i]'(by omega):=by simp [Array.getD,hl,hi]
 have:z.cps.getD i 0=48\/z.cps.getD i 0=49:=by
  rw [e]
  exact st.signs _ (by simp)
 unfold signV
 rcases this with e | e
 ·rw [e]; decide +kernel
 ·rw [e]; decide +kernel
noncomputable def flipT (z:Str) (i:Nat):Str:=if (z.cps.getD i 0 == 49)=true then "0" else "1"
noncomputable def turnT (z:Str) (i:Nat):Str:=(Txt.slice z none (some (i:Int))++flipT z i)++Txt.slice z (some ((i:Int) + 1)) none
noncomputable def spTurned:Sp:=fun vs H Q _=>∃ (z:Str) (n i:Nat),vs=[.str z,.int (i:Int)]/\StOk n z/\i < n/\n<=11/\Q (.str (turnT z i)) H
section
variable {P:Program} {w:World} {K:PySem.W.Frag} {mg:Str->Option Value} {base:Heap} {TT:Addr}
theorem at_sign {n:Nat} {z:Str} (st:StOk n z) {i:Nat} (hi:i < n):atI z.cps.toList ((i:Nat):Int)=some (z.cps.getD i 0):=by
 have hl:=st.len
 refine atI_nat ?_
 simp [Array.getD,hl,hi]
theorem sc_turned_at:FnScope ["standing", "place"] ["standing", "place"] (defScope (top 2)):=⟨rfl,rfl,rfl,by decide +kernel,rfl,by decide +kernel,by decide +kernel⟩
theorem ok_turned {f:Addr} {fd:FuncData} (Fu:Fun K "turned_at" "turned_at" (top 2) f fd) (T:Txt K mg TT):FnOk P w K mg base CX0 1 f fd ["standing", "place"] spTurned:=by
 have S:=sc_turned_at
 refine Fu.ok S (fun vs H Q E h=>?_) (fun cdv A outer s H vs Q E hr h=>?_)
 ·obtain ⟨z,n,i,rfl,_⟩:=h
  rfl
 ·obtain ⟨z,n,i,rfl,st,hi,hn,k⟩:=h
  refine ⟨_,(pss_one (ps_ret (pe_op op_add_str (pe_op op_add_str (pe_slice sl_str (pv 0) po_none (po_some (pv 1))) (pe_ix (ix_turn T.tab) (pe_glob (v:=.ref TT) (by rfl) T.tURNED rfl) (pe_ix ix_str (pv 0) (pv 1) (fun _ _=>rfl)) (fun _ _=>rfl))) (pe_slice sl_str (pv 0) (po_some (pe_op op_add (pv 1) pe_int)) po_none)))),?_⟩
  try dsimp only [cxOf,Cx.nox,Cx.wish]
  rw [show L2.start ["standing", "place"] [V.str z,V.int (i:Int)]=[some (.str z),some (.int (i:Int))] from rfl]
  have hz:z.length=n:=st.len
  have big:1000 < sizeLine:=by decide
  repeat walk_at "vc"
  have s1:=Txt.slice_le z none (some (i:Int))
  have s2:=Txt.slice_le z (some ((i:Int) + 1)) none
  have fl:(flipT z i).length=1:=by
   unfold flipT
   split
   ·decide +kernel
   ·decide +kernel
  refine i_slS (by omega) ?_
  refine i_op (i_c ?_)
  refine i_op (i_var rfl (i_var rfl (i_ixS (by omega) (at_sign st hi) ?_)))
  have e:=sign_sg st hi
  unfold signV at e
  rw [e]
  have step:∀ (b:Bool) (G:VK),G (.str (if b=true then "0" else "1")) H->rIxTurn TT (.ref TT) (sg b) H G:=fun b G g=>by
   cases b
   ·exact ⟨rfl,.inl ⟨rfl,g⟩⟩
   ·exact ⟨rfl,.inr ⟨rfl,g⟩⟩
  refine step _ _ ?_
  show ∃ i_1 j,V.str _=V.str i_1/\V.str (flipT z i)=V.str j/\_
  have l1:(Txt.slice z none (some (i:Int))++flipT z i).length=(Txt.slice z none (some (i:Int))).length + (flipT z i).length:=Array.size_append
  refine ⟨_,_,rfl,rfl,by omega,?_⟩
  repeat walk_at "vc"
  refine i_slS (by omega) ?_
  exact ⟨_,_,rfl,rfl,by rw [l1]; omega,k⟩
theorem sc_law_turned:FnScope ["signs", "at"] ["signs", "at"] (defScope (top 18)):=⟨rfl,rfl,rfl,by decide +kernel,rfl,by decide +kernel,by decide +kernel⟩
theorem ok_flip {f:Addr} {fd:FuncData} (Fu:Fun K "_law_turned" "_law_turned" (top 18) f fd) (T:Txt K mg TT):FnOk P w K mg base CX0 1 f fd ["signs", "at"] spTurned:=by
 have S:=sc_law_turned
 refine Fu.ok S (fun vs H Q E h=>?_) (fun cdv A outer s H vs Q E hr h=>?_)
 ·obtain ⟨z,n,i,rfl,_⟩:=h
  rfl
 ·obtain ⟨z,n,i,rfl,st,hi,hn,k⟩:=h
  refine ⟨_,(pss_one (ps_ret (pe_op op_add_str (pe_op op_add_str (pe_slice sl_str (pv 0) po_none (po_some (pv 1))) (pe_ix ix_str pe_str (pe_callTy call_int_text (by rfl) T.n_int PyProof.Rows.boot_int (pa_cons (pe_ix ix_str (pv 0) (pv 1) (fun _ _=>rfl)) pa_nil)) (fun _ _=>rfl))) (pe_slice sl_str (pv 0) (po_some (pe_op op_add (pv 1) pe_int)) po_none)))),?_⟩
  try dsimp only [cxOf,Cx.nox,Cx.wish]
  rw [show L2.start ["signs", "at"] [V.str z,V.int (i:Int)]=[some (.str z),some (.int (i:Int))] from rfl]
  have hz:z.length=n:=st.len
  have big:1000 < sizeLine:=by decide
  repeat walk_at "vc"
  have s1:=Txt.slice_le z none (some (i:Int))
  have s2:=Txt.slice_le z (some ((i:Int) + 1)) none
  have fl:(flipT z i).length=1:=by
   unfold flipT
   split
   ·decide +kernel
   ·decide +kernel
  refine i_slS (by omega) ?_
  refine i_op (i_c ?_)
  refine i_cb (i_cons (i_op (i_var rfl (i_var rfl (i_ixS (by omega) (at_sign st hi) ?_)))))
  refine i_nil ?_
  have step:∀ (G:VK),G (.str (flipT z i)) H->(fun xs H Q=>∃ z n,xs=[V.str z]/\PySem.intText? z=some n/\z.length<=640/\Q (V.int n) H) [V.str ⟨#[z.cps.getD i 0]⟩] H (fun y H2=>rIxS (V.str "10") y H2 G):=fun G g=>by
   have sgns:z.cps.getD i 0=48\/z.cps.getD i 0=49:=by
    have hl:=st.len
    have e:z.cps.getD i 0=z.cps[i]'(by omega):=by simp [Array.getD,hl,hi]
    rw [e]
    exact st.signs _ (by simp)
   have ef:flipT z i=if (z.cps.getD i 0 == 49)=true then ("0" : Str) else ("1" : Str):=rfl
   rcases sgns with e | e
   ·rw [e]
    rw [e] at ef
    refine ⟨_,0,rfl,by decide +kernel,by decide,?_⟩
    refine ⟨"10", 0,49,rfl,rfl,by decide,by decide +kernel,?_⟩
    rw [show (⟨#[49]⟩:Str) = "1" by decide +kernel,show ("1" : Str)=flipT z i from by rw [ef]; rfl]
    exact g
   ·rw [e]
    rw [e] at ef
    refine ⟨_,1,rfl,by decide +kernel,by decide,?_⟩
    refine ⟨"10", 1,48,rfl,rfl,by decide,by decide +kernel,?_⟩
    rw [show (⟨#[48]⟩:Str) = "0" by decide +kernel,show ("0" : Str)=flipT z i from by rw [ef]; rfl]
    exact g
  refine step _ ?_
  have l1:(Txt.slice z none (some (i:Int))++flipT z i).length=(Txt.slice z none (some (i:Int))).length + (flipT z i).length:=Array.size_append
  refine ⟨_,_,rfl,rfl,by omega,?_⟩
  repeat walk_at "vc"
  refine i_slS (by omega) ?_
  exact ⟨_,_,rfl,rfl,by rw [l1]; omega,k⟩
end
theorem filt_range {xs:Array Nat}:∀ (j a:Nat),a + j<=xs.size->((List.range j).map fun k=>a + k).filterMap (xs[·]?)=(xs.toList.drop a).take j
 | 0,a,_=>by simp
 | j + 1,a,h=>by
  rw [List.range_succ,List.map_append,List.filterMap_append,filt_range j a (by omega),List.take_succ]
  have e:(xs.toList.drop a)[j]?=xs[a + j]?:=by rw [List.getElem?_drop]; simp
  rw [e]
  have q:xs[a + j]?=some (xs[a + j]'(by omega)):=by rw [Array.getElem?_eq_getElem]
  simp [q]
theorem slice_list {z:Str} {a b:Nat} {lo hi:Option Int} (hl:PySem.Builtin.Str.strSliceIndices lo hi 1 z.length=(List.range (b - a)).map fun k=>a + k) (hb:b<=z.cps.size) (hab:a<=b):(Txt.slice z lo hi).cps.toList=(z.cps.toList.drop a).take (b - a):=by
 unfold Txt.slice
 rw [hl]
 split
 ·rename_i h
  have h:b - a=z.length:=by simpa using h
  have h':z.length=z.cps.size:=rfl
  have a0:a=0:=by omega
  subst a0
  rw [List.drop_zero,List.take_of_length_le (by rw [Array.length_toList]; omega)]
 ·exact filt_range (b - a) a (by omega)
theorem slice_to {z:Str} {j:Nat} (h:j<=z.cps.size):(Txt.slice z none (some (j:Int))).cps.toList=z.cps.toList.take j:=by
 have h':z.length=z.cps.size:=rfl
 refine (slice_list (a:=0) (b:=j) ?_ h (Nat.zero_le _)).trans (by simp)
 unfold PySem.Builtin.Str.strSliceIndices sliceRange
 have e:max 0 (min (if (j:Int) < 0 then (j:Int) + z.length else (j:Int)) (z.length:Int))=(j:Int):=by
  rw [if_neg (Int.not_lt.mpr (Int.natCast_nonneg _)),Int.min_eq_left (show _<=(z.length:Int) from Int.ofNat_le.mpr h),Int.max_eq_right (Int.natCast_nonneg _)]
 simp only [show (1:Int) > 0 from by decide,if_true,e]
 have c:(if (0:Int) < (j:Int) then ((j:Int) - 0 + 1 - 1) / 1 else 0).toNat=j - 0:=by
  rw [Int.ediv_one,Int.add_sub_cancel,Int.sub_zero,Nat.sub_zero]
  split
  ·rfl
  ·omega
 rw [c]
 refine List.map_congr_left fun k _=>?_
 omega
theorem slice_from {z:Str} {a:Nat} (h:a<=z.cps.size):(Txt.slice z (some (a:Int)) none).cps.toList=z.cps.toList.drop a:=by
 have h':z.length=z.cps.size:=rfl
 refine (slice_list (a:=a) (b:=z.cps.size) ?_ (Nat.le_refl _) h).trans (by rw [List.take_of_length_le (by rw [List.length_drop,Array.length_toList]; omega)])
 unfold PySem.Builtin.Str.strSliceIndices sliceRange
 have e:max 0 (min (if (a:Int) < 0 then (a:Int) + z.length else (a:Int)) (z.length:Int))=(a:Int):=by
  rw [if_neg (Int.not_lt.mpr (Int.natCast_nonneg _)),Int.min_eq_left (show _<=(z.length:Int) from Int.ofNat_le.mpr h),Int.max_eq_right (Int.natCast_nonneg _)]
 simp only [show (1:Int) > 0 from by decide,if_true,e]
 have c:(if (a:Int) < (z.length:Int) then ((z.length:Int) - (a:Int) + 1 - 1) / 1 else 0).toNat=z.cps.size - a:=by
  rw [Int.ediv_one,Int.add_sub_cancel,h']
  split
  ·rw [<-Int.ofNat_sub h]; rfl
  ·omega
 rw [c]
 refine List.map_congr_left fun k _=>?_
 omega
theorem turn_ok {n:Nat} {z:Str} (st:StOk n z) {i:Nat} (hi:i < n):StOk n (turnT z i):=by
 have hl:=st.len
 have a:=slice_to (z:=z) (j:=i) (by omega)
 have b:=slice_from (z:=z) (a:=i + 1) (by omega)
 rw [show ((i + 1:Nat):Int)=(i:Int) + 1 from by omega] at b
 have f:(flipT z i).cps.toList=[48]\/(flipT z i).cps.toList=[49]:=by
  unfold flipT
  split
  ·exact .inl (by decide +kernel)
  ·exact .inr (by decide +kernel)
 have e:(turnT z i).cps.toList=(z.cps.toList.take i++(flipT z i).cps.toList)++z.cps.toList.drop (i + 1):=by
  unfold turnT
  show ((_++_)++_:Array Nat).toList=_
  rw [Array.toList_append,Array.toList_append,a,b]
 refine ⟨?_,fun c hc=>?_⟩
 ·rw [<-Array.length_toList,e,List.length_append,List.length_append,List.length_take,List.length_drop,Array.length_toList]
  have:(flipT z i).cps.toList.length=1:=by rcases f with f | f <;> rw [f] <;> rfl
  omega
 ·rw [e] at hc
  rcases List.mem_append.mp hc with h | h
  ·rcases List.mem_append.mp h with h | h
   ·exact st.signs c (List.mem_of_mem_take h)
   ·rcases f with f | f
    ·rw [f] at h; exact .inl (by simpa using h)
    ·rw [f] at h; exact .inr (by simpa using h)
  ·exact st.signs c (List.mem_of_mem_drop h)

noncomputable def StepsAt (H:Hp) (a:Addr) (sts:List (V × Key)):Prop:=∃ vs,H a=some (.lst vs)/\Paired (fun v (s:V × Key)=>∃ b,v=.ref b/\H b=some (.tup [s.1,kV s.2])) vs sts
theorem StepsAt.same {H H':Hp} {a:Addr} {sts:List (V × Key)} (S:Same H H') (h:StepsAt H a sts):StepsAt H' a sts:=by
 obtain ⟨vs,h1,h2⟩:=h
 exact ⟨vs,S _ _ h1,paired_mono (fun v s ⟨b,e,q⟩=>⟨b,e,S _ _ q⟩) h2⟩
noncomputable def Off3 (F W N:Addr) (H H':Hp):Prop:=∀ b o,H b=some o->b ≠ F->b ≠ W->b ≠ N->H' b=some o
noncomputable def fdK (xs:List Key) (as:List Addr):List (Key × V):=(xs.zip as).map fun p=>(p.1,V.ref p.2)
noncomputable def knK (xs:List Key):List (Key × V):=xs.map fun x=>(x,V.bl true)
theorem fdK_len {xs:List Key} {as:List Addr} (h:as.length<=xs.length):(fdK xs as).length=as.length:=by
 unfold fdK; rw [List.length_map,List.length_zip]; omega
theorem fdK_keys (xs:List Key) (as:List Addr):(fdK xs as).map (·.1)=xs.take as.length:=by
 unfold fdK
 rw [List.map_map]
 show (xs.zip as).map (fun p=>p.1)=_
 induction xs generalizing as with
 | nil=>simp
 | cons x xs ih =>
  cases as with
  | nil=>simp
  | cons a as=>simp [ih]
theorem fdK_snoc {xs:List Key} {as:List Addr} {x:Key} {a:Addr} (h:xs[as.length]?=some x):fdK xs (as++[a])=fdK xs as++[(x,V.ref a)]:=by
 unfold fdK
 induction xs generalizing as with
 | nil=>simp at h
 | cons y xs ih =>
  cases as with
  | nil=>simp at h; subst h; simp
  | cons b as=>simp at h; simp [ih h]
theorem fdK_more {xs ys:List Key} {as:List Addr} (h:as.length<=xs.length) (p:xs <+: ys):fdK ys as=fdK xs as:=by
 obtain ⟨t,rfl⟩:=p
 unfold fdK
 induction xs generalizing as with
 | nil =>
  have:as=[]:=by simpa using h
  subst this
  simp
 | cons y xs ih =>
  cases as with
  | nil=>simp
  | cons b as=>simp at h; simpa using ih h
theorem valV_keys {kvs:List (Key × V)} {k:Key}:valV kvs k=none ↔ k ∉ kvs.map (·.1):=by
 refine ⟨valV_not,fun h=>?_⟩
 cases e:valV kvs k with
 | none=>rfl
 | some v=>exact absurd (valV_in e) h
theorem knK_val {xs:List Key} {k:Key}:valV (knK xs) k=none ↔ k ∉ xs:=by
 rw [valV_keys]
 unfold knK
 rw [List.map_map]
 show k ∉ xs.map (fun x=>x) ↔ _
 rw [List.map_id']
noncomputable def nxK (steps:Key->List (V × Key)) (x:Key):List Key:=(steps x).map (·.2)
noncomputable def spFound (P:Program) (w:World) (K:PySem.W.Frag) (mg:Str->Option Value) (base:Heap) (k:Nat):Sp:=fun vs H Q _=>∃ (start:Key) (f:Addr) (l:Lm) (cl:List (Str × Addr)) (c:Addr) (r:V->Hp->VK->Prop) (steps:Key->List (V × Key)) (B:Nat),
 vs=[kV start,.ref f]/\H f=some (LamO f l cl c)/\Calls P w K mg base k f r/\B<=100000 /\
 (∀ x H1 (Q1:VK),Bf.Reach (nxK steps) start x->Same H H1->(∀ a H2,Same H1 H2->StepsAt H2 a (steps x)->Q1 (.ref a) H2)->r (kV x) H1 Q1) /\
 (∀ xs:List Key,xs.Nodup->(∀ x ∈ xs,Bf.Reach (nxK steps) start x)->xs.length<=B) /\
 ∀ (F:Addr) (as:List Addr) (n:Nat) (H':Hp),Same H H'->H F=none->(Bf.bfs (nxK steps) start n).length=n->as.length=n->H' F=some (.dK (fdK (Bf.bfs (nxK steps) start n) as)) ->
  (∀ (i:Nat) x a,(Bf.bfs (nxK steps) start n)[i]?=some x->as[i]?=some a->StepsAt H' a (steps x))->Q (.ref F) H'
theorem i_callV {P:Program} {w:World} {K:PySem.W.Frag} {mg:Str->Option Value} {base:Heap} {k i:Nat} {te:TE} {σ:St} {H:Hp} {Q:VK} {f c:Addr} {l:Lm} {cl:List (Str × Addr)} {r:V->Hp->VK->Prop} (hi:σ[i]?=some (some (.ref f))) (C:Calls P w K mg base k f r) (hf:H f=some (LamO f l cl c))
  (q:te σ H fun v H1=>H1 f=some (LamO f l cl c)/\r v H1 Q):tCallV P w K mg base k i te σ H Q:=⟨f,l,cl,c,r,hi,C,hf,q⟩
section
variable {P:Program} {w:World} {K:PySem.W.Frag} {mg:Str->Option Value} {base:Heap} {TT:Addr}
theorem sc_found_from:FnScope ["start", "steps_of", "found", "waiting", "known", "at", "here", "steps", "step"] ["start", "steps_of"] (defScope (top 4)):=⟨rfl,rfl,rfl,by decide +kernel,rfl,by decide +kernel,by decide +kernel⟩
theorem ok_found {kl:Nat} {f:Addr} {fd:FuncData} (Fu:Fun K "found_from" "found_from" (top 4) f fd) (T:Txt K mg TT):FnOk P w K mg base CX0 (kl + 1) f fd ["start", "steps_of"] (spFound P w K mg base kl):=by
 have S:=sc_found_from
 refine Fu.ok S (fun vs H Q E h=>?_) (fun cdv A outer s H vs Q E hr h=>?_)
 ·obtain ⟨start,fl,l,cl,c,r,steps,B,rfl,_⟩:=h
  rfl
 ·obtain ⟨start,fl,l,cl,c,r,steps,B,rfl,hfl,hC,hB,hst,hfew,k⟩:=h
  have hu:=hu_of hr
  refine' ⟨?_,?bb,?_⟩
  case bb =>
   refine' pss_cons ?s1 ?r1
   case s1 =>
    refine' ps_set (i:=2) ?n ?r ?l ?e ?s ?f
    case n=>exact S.nd
    case r=>rfl
    case l=>first | exact Or.inl rfl | exact Or.inr rfl
    case s=>rfl
    case f=>first | exact Or.inl rfl | exact Or.inr rfl
    case e=>exact pe_dnewK
   case r1 =>
    with_reducible refine' pss_cons ?s3 ?r3
    case s3 =>
     refine' ps_set (i:=3) ?n ?r ?l ?e ?s ?f
     case n=>exact S.nd
     case r=>rfl
     case l=>first | exact Or.inl rfl | exact Or.inr rfl
     case s=>rfl
     case f=>first | exact Or.inl rfl | exact Or.inr rfl
     case e=>exact (pe_lst (pa_cons (pv 0) pa_nil se_name))
    case r3 =>
     with_reducible refine' pss_cons ?s5 ?r5
     case s5 =>
      refine' ps_set (i:=4) ?n ?r ?l ?e ?s ?f
      case n=>exact S.nd
      case r=>rfl
      case l=>first | exact Or.inl rfl | exact Or.inr rfl
      case s=>rfl
      case f=>first | exact Or.inl rfl | exact Or.inr rfl
      case e=>exact (pe_disp (pps_cons (pv 0) pe_bl pps_nil) rfl rfl (by simp) (by decide))
     case r5 =>
      with_reducible refine' pss_cons ?s7 ?r7
      case s7 =>
       refine' ps_set (i:=5) ?n ?r ?l ?e ?s ?f
       case n=>exact S.nd
       case r=>rfl
       case l=>first | exact Or.inl rfl | exact Or.inr rfl
       case s=>rfl
       case f=>first | exact Or.inl rfl | exact Or.inr rfl
       case e=>exact pe_int
      case r7 =>
       with_reducible refine' pss_cons ?s9 ?r9
       case s9 =>
        refine' ps_while PassesOwn.never ?c10 ?b10
        case c10=>exact (pt_cmpR op_lt (pv 5) (pe_callB call_len_seq (by rfl) T.n_len PySem.boot_len (pa_cons (pv 3) pa_nil se_name)) (nomark _))
        case b10 =>
         with_reducible refine' pss_cons ?s11 ?r11
         case s11 =>
          refine' ps_set (i:=6) ?n ?r ?l ?e ?s ?f
          case n=>exact S.nd
          case r=>rfl
          case l=>first | exact Or.inl rfl | exact Or.inr rfl
          case s=>rfl
          case f=>first | exact Or.inl rfl | exact Or.inr rfl
          case e=>exact (pe_ix ix_list (pv 3) (pv 5) (fun _ _=>rfl))
         case r11 =>
          with_reducible refine' pss_cons ?s13 ?r13
          case s13 =>
           refine' ps_set (i:=7) ?n ?r ?l ?e ?s ?f
           case n=>exact S.nd
           case r=>rfl
           case l=>first | exact Or.inl rfl | exact Or.inr rfl
           case s=>rfl
           case f=>first | exact Or.inl rfl | exact Or.inr rfl
           case e=>exact (pe_callV (k:=kl) (i:=1) (hr.mono (by omega)) pass0 (pv 1) (pv 6))
          case r13 =>
           with_reducible refine' pss_cons ?s15 ?r15
           case s15 =>
            exact (ps_dput hu (pv 2) (pv 6) (pv 7) rfl)
           case r15 =>
            with_reducible refine' pss_cons ?s17 ?r17
            case s17 =>
             refine' ps_for PassesOwn.never rfl ?i18 ?g18 ?b18 ?h18
             case h18=>intro _; rfl
             case i18=>exact (pi_list (pv 7))
             case g18=>exact (pg_name (i:=8) S.nd rfl (by first | exact Or.inl rfl | exact Or.inr rfl))
             case b18 =>
              with_reducible refine' pss_one ?s19
              case s19 =>
               with_reducible refine' ps_if ?c20 ?a20 ?o20
               case c20=>exact (pt_cmp (pc_dnotin hu (pe_ix ix_tup (pv 8) pe_int (fun _ _=>rfl)) (pv 4)))
               case a20 =>
                with_reducible refine' pss_cons ?s21 ?r21
                case s21 =>
                 exact (ps_dput hu (pv 4) (pe_ix ix_tup (pv 8) pe_int (fun _ _=>rfl)) pe_bl rfl)
                case r21 =>
                 with_reducible refine' pss_one ?s23
                 case s23 =>
                  exact (ps_expr (pe_bm PySem.F.plainAttrs_list PySem.F.slot_list_append PySem.F.type_list_append mt_append (pv 3) (pa_cons (pe_ix ix_tup (pv 8) pe_int (fun _ _=>rfl)) pa_nil)))
               case o20 =>
                exact pss_nil
            case r17 =>
             with_reducible refine' pss_one ?s25
             case s25 =>
              exact (ps_aug (i:=5) S.nd rfl (by first | exact Or.inl rfl | exact Or.inr rfl) pe_int ip_add)
       case r9 =>
        with_reducible refine' pss_one ?s27
        case s27 =>
         exact (ps_ret (pv 2))
  try dsimp only [cxOf,Cx.nox,Cx.wish]
  rw [show L2.start ["start", "steps_of", "found", "waiting", "known", "at", "here", "steps", "step"] [kV start,V.ref fl]=[some (kV start),some (.ref fl),none,none,none,none,none,none,none] from rfl]
  have big:200000 < sizeLine:=by decide
  refine s_seq (s_asg ?_)
  intro F hF
  refine s_name ?_
  generalize hE:upd H F _=H1
  obtain ⟨S1,q1⟩:=upd_pair hF hE
  clear hE
  repeat walk_at "vc"
  refine ⟨by simp [sizeLine],fun W hW=>?_⟩
  generalize hE:upd H1 W _=H2
  obtain ⟨S2,q2⟩:=upd_pair hW hE
  clear hE
  repeat walk_at "vc"
  refine fun N hN=>?_
  refine ⟨_,rfl,?_⟩
  refine ⟨upd_same,[(start,.bl true)],rfl,by simp,?_⟩
  rw [upd_upd]
  refine s_name ?_
  generalize hE:upd H2 N _=H3
  obtain ⟨S3,q3⟩:=upd_pair hN hE
  clear hE
  repeat walk_at "vc"
  have S03:Same H H3:=S1.trans (S2.trans S3)
  have FW:F ≠ W:=ne_of_none q1 hW
  have FN:F ≠ N:=ne_of_none (S2 _ _ q1) hN
  have WN:W ≠ N:=ne_of_none q2 hN
  have W0:H W=none:=by
   cases e:H W with
   | none=>rfl
   | some o=>rw [S1 _ _ e] at hW; cases hW
  have N0:H N=none:=by
   cases e:H N with
   | none=>rfl
   | some o=>rw [(S1.trans S2) _ _ e] at hN; cases hN
  have off:∀ {Ha Hb:Hp},Same H Ha->Off3 F W N Ha Hb->Same H Hb:=fun sa o b u e=>o b u (sa b u e) (ne_of_none e hF) (ne_of_none e W0) (ne_of_none e N0)
  let nx:=nxK steps
  let bf:=Bf.bfs nx start
  have reach:∀ n x,x ∈ bf n->Bf.Reach nx start x:=fun n x h=>Bf.bfs_reach n x h
  have fewB:∀ n,(bf n).length<=B:=fun n=>hfew _ (Bf.bfs_nodup n) (reach n)
  refine ⟨fun m σ H'=>∃ (n:Nat) (as:List Addr) (x6 x7 x8:Option V),σ=[some (kV start),some (.ref fl),some (.ref F),some (.ref W),some (.ref N),some (.int (n:Int)),x6,x7,x8]/\m=B + 1 - n/\n<=(bf n).length/\Same H H'/\H' F=some (.dK (fdK (bf n) as))/\as.length=n /\
   H' W=some (.lst ((bf n).map kV))/\H' N=some (.dK (knK (bf n)))/\∀ (i:Nat) x a,(bf n)[i]?=some x->as[i]?=some a->StepsAt H' a (steps x),
   ⟨_,0,[],none,none,none,rfl,rfl,Nat.zero_le _,S03,S3 _ _ (S2 _ _ q1),rfl,S3 _ _ q2,q3,fun i x a _ e=>nomatch e⟩,?_⟩
  rintro m σ H' ⟨n,as,x6,x7,x8,rfl,rfl,hn,SH,hF',las,hW',hN',hsts⟩
  repeat walk_at "vc"
  rw [List.length_map]
  by_cases cn:n < (bf n).length
  case neg =>
   refine ifF (decide_eq_false (by omega)) ?_
   repeat walk_at "vc"
   have e:(bf n).length=n:=by omega
   exact k F as n H' SH hF e las hF' hsts
  refine ifT (decide_eq_true (by omega)) ?_
  refine ⟨fun σ' H''=>∃ (as:List Addr) (x6 x7 x8:Option V),σ'=[some (kV start),some (.ref fl),some (.ref F),some (.ref W),some (.ref N),some (.int ((n + 1:Nat):Int)),x6,x7,x8]/\n + 1<=(bf (n + 1)).length/\Same H H''/\H'' F=some (.dK (fdK (bf (n + 1)) as))/\as.length=n + 1 /\
   H'' W=some (.lst ((bf (n + 1)).map kV))/\H'' N=some (.dK (knK (bf (n + 1))))/\∀ (i:Nat) x a,(bf (n + 1))[i]?=some x->as[i]?=some a->StepsAt H'' a (steps x),fun σ' H'' h=>?_,?_⟩
  ·obtain ⟨as,x6,x7,x8,e1,e2,e3,e4,e5,e6,e7,e8⟩:=h
   exact ⟨B + 1 - (n + 1),by have:=fewB n; omega,n + 1,as,x6,x7,x8,e1,rfl,e2,e3,e4,e5,e6,e7,e8⟩
  obtain ⟨x,hx⟩:∃ x,(bf n)[n]?=some x:=⟨_,List.getElem?_eq_getElem cn⟩
  have hbs:bf (n + 1)=Bf.addNew (bf n) (nx x):=Bf.bfs_succ hx
  repeat walk_at "vc"
  refine i_ixL (v:=kV x) (SqL.of hW') (atI_nat (by rw [List.getElem?_map,hx]; rfl)) ?_
  repeat walk_at "vc"
  refine i_callV rfl hC (SH _ _ hfl) (i_var rfl ⟨SH _ _ hfl,hst x H' _ (reach n x (List.mem_of_getElem? hx)) SH fun a H4 S4 st4=>?_⟩)
  repeat walk_at "vc"
  refine s_dput (i_var rfl (i_var rfl (i_var rfl ?_)))
  refine ⟨F,_,rfl,DPut.k (k:=x) (S4 _ _ hF') (by rw [fdK_len (by omega)]; have:=fewB n; omega),?_⟩
  have pn:putK (fdK (bf n) as) x (V.ref a)=fdK (bf n) (as++[a]):=by
   rw [fdK_snoc (by rw [las]; exact hx)]
   refine putK_new _ (valV_keys.mpr ?_)
   rw [fdK_keys,las]
   intro hm
   obtain ⟨i,hi,e⟩:=List.mem_iff_getElem.mp hm
   rw [List.length_take] at hi
   rw [List.getElem_take] at e
   have e2:=(List.getElem?_eq_some_iff.mp hx).2
   have:=(List.getElem_inj (Bf.bfs_nodup (nx:=nx) (s:=start) n)).mp (e.trans e2.symm)
   omega
  rw [pn]
  -- what the steps' list is not
  obtain ⟨vs,ha,pr⟩:=id st4
  have neW:∀ {Hx:Hp} {ws:List Key},Hx W=some (.lst (ws.map kV))->ws ≠ []->∀ {b:Addr} {sts:List (V × Key)},StepsAt Hx b sts->b ≠ W:=fun {Hx ws} hw ne {b sts} ⟨us,hb,pu⟩ z=>by
   rw [z,hw] at hb
   cases hb
   cases ws with
   | nil=>exact ne rfl
   | cons y ws =>
    cases pu with
    | cons h _ =>
     obtain ⟨c,e,_⟩:=h
     cases y <;> cases e
  have neD:∀ {Hx:Hp} {D:Addr} {kvs:List (Key × V)},Hx D=some (.dK kvs)->∀ {b:Addr} {sts:List (V × Key)},StepsAt Hx b sts->b ≠ D:=fun {Hx D kvs} hd {b sts} ⟨us,hb,_⟩ z=>by
   rw [z,hd] at hb
   cases hb
  have keepS:∀ {Ha Hb:Hp} {ws:List Key} {k1 k2:List (Key × V)},Ha W=some (.lst (ws.map kV))->ws ≠ []->Ha F=some (.dK k1)->Ha N=some (.dK k2)->Off3 F W N Ha Hb->∀ {b:Addr} {sts:List (V × Key)},StepsAt Ha b sts->StepsAt Hb b sts:=fun {Ha Hb ws k1 k2} hw ne h1 h2 o {b sts} st=>by
   have n1:=neW hw ne st
   have n2:=neD h1 st
   have n3:=neD h2 st
   obtain ⟨us,hb,pu⟩:=st
   refine ⟨us,o b _ hb n2 n1 n3,paired_mono (fun v s ⟨c,e,q⟩=>⟨c,e,o c _ q (fun z=>?_) (fun z=>?_) fun z=>?_⟩) pu⟩
   ·rw [z,h1] at q; cases q
   ·rw [z,hw] at q; cases q
   ·rw [z,h2] at q; cases q
  have bne:bf n ≠ []:=fun z=>by rw [z] at cn; simp at cn
  have hF4:=S4 _ _ hF'
  have hW4:=S4 _ _ hW'
  have hN4:=S4 _ _ hN'
  have off4:Off3 F W N H4 (upd H4 F (.dK (fdK (bf n) (as++[a])))):=fun b o e h1 _ _=>by rw [upd_ne h1]; exact e
  have hF5:upd H4 F (.dK (fdK (bf n) (as++[a]))) F=some (.dK (fdK (bf n) (as++[a]))):=upd_same
  have hW5:upd H4 F (.dK (fdK (bf n) (as++[a]))) W=some (.lst ((bf n).map kV)):=by rw [upd_ne FW.symm]; exact hW4
  have hN5:upd H4 F (.dK (fdK (bf n) (as++[a]))) N=some (.dK (knK (bf n))):=by rw [upd_ne FN.symm]; exact hN4
  have st5:=keepS hW4 bne hF4 hN4 off4 st4
  have sts5:∀ (i:Nat) y b,(bf n)[i]?=some y->(as++[a])[i]?=some b->StepsAt (upd H4 F (.dK (fdK (bf n) (as++[a])))) b (steps y):=fun i y b e1 e2=>by
   by_cases ci:i < as.length
   ·rw [List.getElem?_append_left ci] at e2
    exact keepS hW4 bne hF4 hN4 off4 ((hsts i y b e1 e2).same S4)
   ·rw [List.getElem?_append_right (by omega)] at e2
    have:i=n:=by
     have:=(List.getElem?_eq_some_iff.mp e2).1
     simp at this
     omega
    subst this
    rw [hx] at e1
    cases e1
    rw [las,Nat.sub_self] at e2
    cases e2
    exact st5
  have SH5:Same H (upd H4 F (.dK (fdK (bf n) (as++[a])))):=off (SH.trans S4) off4
  generalize upd H4 F (.dK (fdK (bf n) (as++[a])))=H5 at *
  obtain ⟨vs5,ha5,pr5⟩:=id st5
  refine s_seq (s_for (s_list (i_var rfl ⟨a,rfl,⟨_,SqL.of ha5⟩,?_⟩)))
  refine for_list (xs:=vs5) (fun i σ' H'=>∃ x8,σ'=[some (kV start),some (.ref fl),some (.ref F),some (.ref W),some (.ref N),some (.int (n:Int)),some (kV x),some (.ref a),x8]/\Off3 F W N H5 H'/\H' F=some (.dK (fdK (bf n) (as++[a]))) /\
   H' W=some (.lst ((Bf.addNew (bf n) ((nx x).take i)).map kV))/\H' N=some (.dK (knK (Bf.addNew (bf n) ((nx x).take i))))) ⟨_,rfl,fun b o e _ _ _=>e,hF5,hW5,hN5⟩ (fun i σ' H' _ pv=>?_) (fun i v σ' H' hv pv=>?_) (fun σ' H' pv=>?_)
  ·obtain ⟨_,_,o,_⟩:=pv
   exact SqL.of (o a _ ha5 (neD hF5 st5) (neW hW5 bne st5) (neD hN5 st5))
  ·obtain ⟨x8,rfl,o,e1,e2,e3⟩:=pv
   obtain ⟨⟨nm,y⟩,hy,b,rfl,hb⟩:=paired_get pr5 hv
   have hb':H' b=some (.tup [nm,kV y]):=o b _ hb (fun z=>by rw [z,hF5] at hb; cases hb) (fun z=>by rw [z,hW5] at hb; cases hb) (fun z=>by rw [z,hN5] at hb; cases hb)
   have hny:(nx x)[i]?=some y:=by
    show ((steps x).map (·.2))[i]?=_
    rw [List.getElem?_map,hy]; rfl
   have ext:Bf.addNew (bf n) ((nx x).take (i + 1))=Bf.addNew (Bf.addNew (bf n) ((nx x).take i)) [y]:=by
    rw [List.take_succ,hny,Bf.addNew_append]; rfl
   have lenN:(Bf.addNew (bf n) ((nx x).take i)).length<=B:=hfew _ (Bf.addNew_nodup _ _ (Bf.bfs_nodup n)) fun z hz=>by
    rcases (Bf.addNew_mem _ _ _).mp hz with h | h
    ·exact reach n z h
    ·exact .step (reach n x (List.mem_of_getElem? hx)) (List.mem_of_mem_take h)
   repeat walk_at "vc"
   refine i_dnotin (i_op (i_var rfl (i_c (i_ixT hb' rfl (i_var rfl ?_)))))
   refine ⟨N,_,rfl,DGet.k (k:=y) e3,_,rfl,?_⟩
   by_cases cy:y ∈ Bf.addNew (bf n) ((nx x).take i)
   ·rw [Bf.addNew_old cy] at ext
    refine ifF ?_ ?_
    ·cases e:valV (knK (Bf.addNew (bf n) ((nx x).take i))) y with
     | none=>exact absurd cy (knK_val.mp e)
     | some v=>rfl
    repeat walk_at "vc"
    refine ⟨_,rfl,o,e1,?_,?_⟩
    ·rw [ext]; exact e2
    ·rw [ext]; exact e3
   ·rw [Bf.addNew_one cy] at ext
    have nn:=knK_val.mpr cy
    refine ifT (by rw [nn]; rfl) ?_
    repeat walk_at "vc"
    refine s_dput (i_c (i_var rfl (i_op (i_var rfl (i_c (i_ixT hb' rfl ?_))))))
    refine ⟨N,_,rfl,DPut.k (k:=y) e3 (by unfold knK; rw [List.length_map]; omega),?_⟩
    have e2':upd H' N (.dK (putK (knK (Bf.addNew (bf n) ((nx x).take i))) y (.bl true))) W=some (.lst ((Bf.addNew (bf n) ((nx x).take i)).map kV)):=by rw [upd_ne WN]; exact e2
    have hb'':upd H' N (.dK (putK (knK (Bf.addNew (bf n) ((nx x).take i))) y (.bl true))) b=some (.tup [nm,kV y]):=by rw [upd_ne (fun z=>by rw [z,e3] at hb'; cases hb')]; exact hb'
    refine s_drop (i_bm (i_var rfl ⟨i_tyL e2',?_⟩))
    refine i_cons (i_op (i_var rfl (i_c (i_ixT hb'' rfl (i_nil (i_app e2' (by rw [List.length_map]; omega) ?_))))))
    refine ⟨_,rfl,fun c u e h1 h2 h3=>by rw [upd_ne h2,upd_ne h3]; exact o c u e h1 h2 h3,by rw [upd_ne FW,upd_ne FN]; exact e1,?_,?_⟩
    ·rw [upd_same,ext,List.map_append]; rfl
    ·rw [upd_ne WN.symm,upd_same,putK_new _ nn,ext]
     unfold knK
     rw [List.map_append]; rfl
  ·obtain ⟨x8,rfl,o,e1,e2,e3⟩:=pv
   have lv:vs5.length=(nx x).length:=by
    show _=((steps x).map (·.2)).length
    rw [List.length_map]; exact paired_len pr5
   rw [lv,List.take_of_length_le (Nat.le_refl _),<-hbs] at e2 e3
   refine ⟨_,rfl,?_⟩
   refine i_c ⟨_,_,rfl,rfl,?_⟩
   have pre:bf n <+: bf (n + 1):=Bf.bfs_pre1 n
   have l1:n + 1<=(bf (n + 1)).length:=by
    have:=pre.length_le
    omega
   refine ⟨as++[a],_,_,_,by rw [show ((n + 1:Nat):Int)=(n:Int) + 1 from rfl]; rfl,l1,off SH5 o,?_,by rw [List.length_append,las]; rfl,e2,e3,fun i y b h1 h2=>?_⟩
   ·rw [fdK_more (by rw [List.length_append,las]; simp; omega) pre]; exact e1
   ·have hi:i < n + 1:=by
     have:=(List.getElem?_eq_some_iff.mp h2).1
     rw [List.length_append,las] at this
     simpa using this
    exact keepS hW5 bne hF5 hN5 o (sts5 i y b (Bf.pre_get' pre (by omega) h1) h2)
end

structure Sh where
 ins:List Str
 outs:List Str
 z:Str
 nodes:List (List (Str × Nat))
noncomputable def Sh.ws (s:Sh):List Str:=s.ins++s.outs
noncomputable def Sh.node (s:Sh) (i:Nat):List (Str × Nat):=s.nodes.getD i []
noncomputable def Sh.nx (s:Sh) (i:Nat):List Nat:=(s.node i).map (·.2)
abbrev Sh.R (s:Sh):Nat->Prop:=Bf.Reach s.nx 0
structure ShOk (s:Sh):Prop where
 nd:s.ws.Nodup
 w1:1<=s.ws.length
 w11:s.ws.length<=11
 st:StOk s.ws.length s.z
 n1:1<=s.nodes.length
 n100:s.nodes.length<=100
 names:∀ node ∈ s.nodes,∀ p ∈ node,p.1 ∈ s.ws
 tos:∀ node ∈ s.nodes,∀ p ∈ node,p.2 < s.nodes.length
 few:∀ node ∈ s.nodes,node.length<=100
noncomputable def Lab (s:Sh) (lam:Nat->Str):Prop:=lam 0=s.z/\∀ i,s.R i->∀ p ∈ s.node i,lam p.2=turnT (lam i) (s.ws.idxOf p.1)
noncomputable def nodeV (node:List (Str × Nat)):List (V × Key):=node.map fun p=>(V.str p.1,Sum.inl (p.2:Int))
structure ShAt (H:Hp) (a li lo ln:Addr) (nas:List Addr) (s:Sh):Prop where
 ha:H a=some (.tup [.ref li,.ref lo,.str s.z,.ref ln])
 hi:H li=some (.lst (s.ins.map V.str))
 ho:H lo=some (.lst (s.outs.map V.str))
 hn:H ln=some (.lst (nas.map V.ref))
 nodes:Paired (fun na node=>StepsAt H na (nodeV node)) nas s.nodes
theorem ShAt.mono {H H':Hp} {a li lo ln:Addr} {nas:List Addr} {s:Sh} (hl:∀ b xs,H b=some (.lst xs)->H' b=some (.lst xs)) (ht:∀ b xs,H b=some (.tup xs)->H' b=some (.tup xs)) (h:ShAt H a li lo ln nas s):ShAt H' a li lo ln nas s :=
 ⟨ht _ _ h.ha,hl _ _ h.hi,hl _ _ h.ho,hl _ _ h.hn,paired_mono (fun na node ⟨vs,h1,h2⟩=>⟨vs,hl _ _ h1,paired_mono (fun v st ⟨b,e,q⟩=>⟨b,e,ht _ _ q⟩) h2⟩) h.nodes⟩
theorem ShAt.same {H H':Hp} {a li lo ln:Addr} {nas:List Addr} {s:Sh} (S:Same H H') (h:ShAt H a li lo ln nas s):ShAt H' a li lo ln nas s:=h.mono (fun b xs e=>S b _ e) (fun b xs e=>S b _ e)
theorem Sh.node_of {s:Sh} {i:Nat} {node:List (Str × Nat)} (h:s.nodes[i]?=some node):s.node i=node:=by
 unfold Sh.node; rw [List.getD_eq_getElem?_getD,h]; rfl
theorem Sh.node_mem {s:Sh} {i:Nat} (h:i < s.nodes.length):s.node i ∈ s.nodes:=by
 unfold Sh.node; rw [List.getD_eq_getElem?_getD,List.getElem?_eq_getElem h]; exact List.getElem_mem h
theorem Sh.R_lt {s:Sh} (ok:ShOk s) {i:Nat} (r:s.R i):i < s.nodes.length:=by
 induction r with
 | start=>exact ok.n1
 | @step a b _ hb ih =>
  obtain ⟨p,hp,rfl⟩:=List.mem_map.mp hb
  exact ok.tos _ (Sh.node_mem ih) p hp
theorem idx_at {ws:List Str} {x:Str} (h:x ∈ ws):ws[ws.idxOf x]?=some x:=by
 have hi:=List.idxOf_lt_length_of_mem h
 rw [List.getElem?_eq_getElem hi]; exact congrArg some (List.getElem_idxOf hi)
theorem idx_first {ws:List Str} {x:Str}:∀ m,m < ws.idxOf x->ws[m]? ≠ some x:=fun m hm e=>by
 have h1:=List.not_of_lt_findIdx (xs:=ws) (p:=(· == x)) (i:=m) hm
 obtain ⟨h2,e2⟩:=List.getElem?_eq_some_iff.mp e
 rw [e2] at h1
 simp at h1
noncomputable def spBehind:Sp:=fun vs H Q _=>∃ (a li lo ln:Addr) (nas:List Addr) (s:Sh) (row nm:Str),vs=[.ref a,.str row,.str nm]/\ShAt H a li lo ln nas s/\ShOk s/\StOk s.ws.length row/\nm ∈ s.ws/\∀ H',Same H H'->Q (.str (turnT row (s.ws.idxOf nm))) H'
section
variable {P:Program} {w:World} {K:PySem.W.Frag} {mg:Str->Option Value} {base:Heap} {TT:Addr}
theorem sc_row_behind:FnScope ["sheet", "row", "name"] ["sheet", "row", "name"] (defScope (top 6)):=⟨rfl,rfl,rfl,by decide +kernel,rfl,by decide +kernel,by decide +kernel⟩
theorem ok_behind {f:Addr} {fd:FuncData} (Fu:Fun K "row_behind" "row_behind" (top 6) f fd) (T:Txt K mg TT) (f_turned_at:Fn P w K mg base "turned_at" ["standing", "place"] 1 spTurned):FnOk P w K mg base CX0 2 f fd ["sheet", "row", "name"] spBehind:=by
 have S:=sc_row_behind
 refine Fu.ok S (fun vs H Q E h=>?_) (fun cdv A outer s H vs Q E hr h=>?_)
 ·obtain ⟨a,li,lo,ln,nas,sh,row,nm,rfl,_⟩:=h
  rfl
 ·obtain ⟨a,li,lo,ln,nas,sh,row,nm,rfl,at_,ok,st,hnm,k⟩:=h
  refine ⟨_,(pss_one (ps_ret (pe_fn f_turned_at (hr.mono (by first | decide | omega)) (by rfl) (pa_cons (pv 1) (pa_cons (pe_bm PySem.F.plainAttrs_list PySem.F.slot_list_index PySem.F.type_list_index mt_index (pe_op op_cat (pe_ix ix_tup (pv 0) pe_int (fun _ _=>rfl)) (pe_ix ix_tup (pv 0) pe_int (fun _ _=>rfl))) (pa_cons (pv 2) pa_nil se_name)) pa_nil se_call) se_name)))),?_⟩
  try dsimp only [cxOf,Cx.nox,Cx.wish]
  rw [show L2.start ["sheet", "row", "name"] [V.ref a,V.str row,V.str nm]=[some (.ref a),some (.str row),some (.str nm)] from rfl]
  have big:1000 < sizeLine:=by decide
  have lw:(sh.ins.map V.str).length + (sh.outs.map V.str).length=sh.ws.length:=by rw [List.length_map,List.length_map]; unfold Sh.ws; rw [List.length_append]
  have ha:=at_.ha
  repeat walk_at "vc"
  refine i_cat at_.hi at_.ho (by rw [lw]; have:=ok.w11; omega) fun p hp=>?_
  rw [<-List.map_append]
  show tyV K "list" (.ref p) _/\_
  refine ⟨i_tyL upd_same,?_⟩
  repeat walk_at "vc"
  refine ⟨p,sh.ws,nm,sh.ws.idxOf nm,rfl,rfl,upd_same,idx_at hnm,idx_first,by have:=ok.w11; omega,?_⟩
  repeat walk_at "vc"
  exact ⟨row,_,_,rfl,st,List.idxOf_lt_length_of_mem hnm,ok.w11,k _ (fresh_same hp)⟩
end

noncomputable def spPool (K:PySem.W.Frag):Sp:=fun vs H Q _=>∃ (s:Addr) (ns:List Int) (k:Nat),vs=[.ref s,.int (k:Int)]/\SqL K H s (ns.map V.int)/\k<=100/\∀ (D:Dk) H',D.n=3700->Same H H'->H D.d=none->D.At H'->Q (.ref D.d) H'
theorem mark_in {x y:Int} (x0:0<=x) (x1:x < 9999999607) (y0:0<=y) (y1:y<=100000):0<=(x + 991) * (29 * y + 59) + 3517 * y * y/\(x + 991) * (29 * y + 59) + 3517 * y * y < 1000000000000000000:=by
 have a0:0<=(x + 991) * (29 * y + 59):=Int.mul_nonneg (by omega) (by omega)
 have a1:(x + 991) * (29 * y + 59)<=10000000598 * 2900059:=Int.mul_le_mul (by omega) (by omega) (by omega) (by omega)
 have b0:0<=3517 * y * y:=Int.mul_nonneg (by omega) y0
 have b1:3517 * y * y<=351700000 * 100000:=Int.mul_le_mul (by omega) y1 y0 (by omega)
 omega
section
variable {P:Program} {w:World} {K:PySem.W.Frag} {mg:Str->Option Value} {base:Heap} {TT:Addr}
theorem sc_law_pool:FnScope ["script", "k", "cell"] ["script", "k"] (defScope (top 14)):=⟨rfl,rfl,rfl,by decide +kernel,rfl,by decide +kernel,by decide +kernel⟩
theorem ok_pool {f:Addr} {fd:FuncData} (Fu:Fun K "_law_pool" "_law_pool" (top 14) f fd) (T:Txt K mg TT):FnOk P w K mg base CX0 1 f fd ["script", "k"] (spPool K):=by
 have S:=sc_law_pool
 refine Fu.ok S (fun vs H Q E h=>?_) (fun cdv A outer s H vs Q E hr h=>?_)
 ·obtain ⟨s,ns,k,rfl,_⟩:=h
  rfl
 ·obtain ⟨s,ns,k,rfl,hS,k100,q⟩:=h
  refine ⟨_,(pss_cons (ps_set (i:=2) S.nd rfl (by first | exact Or.inl rfl | exact Or.inr rfl) pe_int)
   (pss_cons (ps_if (pt_cmpR op_lt (pv 1) (pe_callB call_len_seq (by rfl) T.n_len PySem.boot_len (pa_cons (pv 0) pa_nil se_name)) (nomark _)) (pss_one (ps_set (i:=2) S.nd rfl (by first | exact Or.inl rfl | exact Or.inr rfl) (pe_ix ix_list (pv 0) (pv 1) (fun _ _=>rfl)))) pss_nil)
   (pss_cons (ps_if (pt_cmpR op_ge (pv 2) (pe_op op_pow pe_int pe_int) (nomark _)) (pss_one (ps_ret (pe_lst (pa_cons (pe_op op_sub (pv 2) (pe_op op_pow pe_int pe_int)) (pa_cons pe_int (pa_cons pe_int pa_nil se_con) se_con))))) pss_nil)
   (pss_one (ps_ret (pe_lst (pa_cons (pv 2) (pa_cons pe_int (pa_cons (pe_op op_mul pe_int (pv 1)) pa_nil) se_con) se_name))))))),?_⟩
  try dsimp only [cxOf,Cx.nox,Cx.wish]
  rw [show L2.start ["script", "k", "cell"] [V.ref s,V.int (k:Int)]=[some (.ref s),some (.int (k:Int)),none] from rfl]
  repeat walk_at "vc"
  refine ⟨_,_,rfl,Or.inl hS,?_⟩
  repeat walk_at "vc"
  rw [List.length_map]
  have J:∀ (a b:Int) p,0<=b->b<=3700->H p=none->∀ x,upd H p (.lst [.int a,.int x,.int b])=upd H p (.lst [.int a,.int x,.int b])->Q (.ref p) (upd H p (.lst [.int a,.int x,.int b])):=fun a b p b0 b1 hp x _ =>
   q ⟨p,3700⟩ _ rfl (fresh_same hp) hp ⟨_,_,_,upd_same,b0,b1⟩
  by_cases c:k < ns.length
  ·refine ifT (decide_eq_true (by omega)) ?_
   repeat walk_at "vc"
   refine i_ixL (v:=.int ns[k]) hS (atI_nat (by rw [List.getElem?_map,List.getElem?_eq_getElem c]; rfl)) ?_
   repeat walk_at "vc"
   first | refine i_rI ⟨by decide,by decide,by decide⟩ ?_ | skip
   repeat walk_at "vc"
   refine ite2 (fun _=>?_) (fun _=>?_)
   ·repeat walk_at "vc"
    first | refine i_rI ⟨by decide,by decide,by decide⟩ ?_ | skip
    repeat walk_at "vc"
    refine ⟨by simp [sizeLine],fun p hp=>?_⟩
    exact J _ _ p (by omega) (by omega) hp _ rfl
   ·repeat walk_at "vc"
    refine ⟨by simp [sizeLine],fun p hp=>?_⟩
    exact J _ _ p (by omega) (by omega) hp _ rfl
  ·refine ifF (decide_eq_false (by omega)) ?_
   repeat walk_at "vc"
   first | refine i_rI ⟨by decide,by decide,by decide⟩ ?_ | skip
   repeat walk_at "vc"
   refine ite2 (fun _=>?_) (fun _=>?_)
   ·repeat walk_at "vc"
    first | refine i_rI ⟨by decide,by decide,by decide⟩ ?_ | skip
    repeat walk_at "vc"
    refine ⟨by simp [sizeLine],fun p hp=>?_⟩
    exact J _ _ p (by omega) (by omega) hp _ rfl
   ·repeat walk_at "vc"
    refine ⟨by simp [sizeLine],fun p hp=>?_⟩
    exact J _ _ p (by omega) (by omega) hp _ rfl
theorem sc_law_take:FnScope ["pool", "many", "found", "step", "mark"] ["pool", "many"] (defScope (top 15)):=⟨rfl,rfl,rfl,by decide +kernel,rfl,by decide +kernel,by decide +kernel⟩
theorem ok_take {f:Addr} {fd:FuncData} (Fu:Fun K "_law_take" "_law_take" (top 15) f fd) (T:Txt K mg TT):FnOk P w K mg base CX0 1 f fd ["pool", "many"] spDraw:=by
 have S:=sc_law_take
 refine Fu.ok S (fun vs H Q E h=>?_) (fun cdv A outer s H vs Q E hr h=>?_)
 ·obtain ⟨D,m,rfl,_⟩:=h
  rfl
 ·obtain ⟨D,m,rfl,DA,n1,h1,h2,k⟩:=h
  refine ⟨_,(pss_cons (ps_if (pt_cmpR op_eq (pe_ix ix_list (pv 0) pe_int (fun _ _=>rfl)) pe_int (nomark _)) (pss_cons (ps_set (i:=2) S.nd rfl (by first | exact Or.inl rfl | exact Or.inr rfl) (pe_op op_mod (pe_ix ix_list (pv 0) pe_int (fun _ _=>rfl)) (pv 1)))
   (pss_cons (ps_asg (pe_op op_fdiv (pe_ix ix_list (pv 0) pe_int (fun _ _=>rfl)) (pv 1)) (pg_sub (pv 0) pe_int set_list))
   (pss_one (ps_ret (pv 2))))) pss_nil)
   (pss_cons (ps_asg (pe_op op_add (pe_ix ix_list (pv 0) pe_int (fun _ _=>rfl)) pe_int) (pg_sub (pv 0) pe_int set_list))
   (pss_cons (ps_set (i:=3) S.nd rfl (by first | exact Or.inl rfl | exact Or.inr rfl) (pe_ix ix_list (pv 0) pe_int (fun _ _=>rfl)))
   (pss_cons (ps_set (i:=4) S.nd rfl (by first | exact Or.inl rfl | exact Or.inr rfl) (pe_op op_mul (pe_op op_add (pe_op op_mod (pe_ix ix_list (pv 0) pe_int (fun _ _=>rfl)) pe_int) pe_int) (pe_op op_add (pe_op op_mul pe_int (pv 3)) pe_int)))
   (pss_cons (ps_set (i:=4) S.nd rfl (by first | exact Or.inl rfl | exact Or.inr rfl) (pe_op op_add (pv 4) (pe_op op_mul (pe_op op_mul pe_int (pv 3)) (pv 3))))
   (pss_cons (ps_set (i:=4) S.nd rfl (by first | exact Or.inl rfl | exact Or.inr rfl) (pe_op op_mod (pe_op op_mul (pv 4) (pv 4)) pe_int))
   (pss_one (ps_ret (pe_op op_mod (pe_op op_fdiv (pe_op op_mod (pe_op op_mul (pv 4) (pe_op op_add (pv 4) pe_int)) pe_int) pe_int) (pv 1)))))))))),?_⟩
  try dsimp only [cxOf,Cx.nox,Cx.wish]
  rw [show L2.start ["pool", "many", "found", "step", "mark"] [.ref D.d,.int m]=[some (.ref D.d),some (.int m),none,none,none] from rfl]
  obtain ⟨a,b,c,hd,c0,c1⟩:=id DA
  repeat walk_at "vc"
  refine ite2 (fun _=>?_) (fun _=>?_)
  ·repeat walk_at "vc"
   first | refine i_rI (show (0:Int) < m by omega) ?_ | skip
   repeat walk_at "vc"
   first | refine i_rI ⟨by omega,by omega⟩ ?_ | skip
   repeat walk_at "vc"
   exact k _ _ (Int.emod_nonneg _ (by omega)) (Int.emod_lt_of_pos _ (by omega)) ((kp_mk (D:=D) c0 c1).le (Nat.le_add_right _ _))
  ·repeat walk_at "vc"
   have hd2:upd H D.d (HO.lst ([V.int a,V.int b,V.int c].set (Int.toNat 2) (V.int (c + 1)))) D.d=some (.lst [.int a,.int b,.int (c + 1)]):=upd_same
   have kp:Kp (D.more 1) H (upd H D.d (HO.lst ([V.int a,V.int b,V.int c].set (Int.toNat 2) (V.int (c + 1))))):=kp_mk (D:=D.more 1) (by omega) (by show c + 1<=((D.n + 1:Nat):Int); omega)
   generalize upd H D.d (HO.lst ([V.int a,V.int b,V.int c].set (Int.toNat 2) (V.int (c + 1))))=H1 at *
   repeat walk_at "vc"
   obtain ⟨M0,M1⟩:=mark_in (x:=a % 9999999607) (y:=c + 1) (Int.emod_nonneg _ (by decide)) (Int.emod_lt_of_pos _ (by decide)) (by omega) (by omega)
   generalize (a % 9999999607 + 991) * (29 * (c + 1) + 59) + 3517 * (c + 1) * (c + 1)=M at *
   refine i_rI (.inl ⟨by omega,by omega⟩) ?_
   repeat walk_at "vc"
   have N0:=Int.emod_nonneg (M * M) (show (99999999647:Int) ≠ 0 by decide)
   have N1:=Int.emod_lt_of_pos (M * M) (show (0:Int) < 99999999647 by decide)
   generalize M * M % 99999999647=N at *
   first | refine i_rI (.inl ⟨by omega,by omega⟩) ?_ | skip
   repeat walk_at "vc"
   first | refine i_rI (show (0:Int) < m by omega) ?_ | skip
   exact k _ _ (Int.emod_nonneg _ (by omega)) (Int.emod_lt_of_pos _ (by omega)) kp
end

theorem letters_flat {T:List Nat}:∀ (zs:List Str),(∀ z ∈ zs,∃ c ∈ T,z=⟨#[c]⟩)->((zs.map (·.cps.toList)).flatten).length=zs.length/\(∀ c ∈ (zs.map (·.cps.toList)).flatten,c ∈ T)/\(zs.map (·.length)).sum=zs.length
 | [],_=>⟨rfl,fun c h=>(List.not_mem_nil h).elim,rfl⟩
 | z :: zs,h=>by
  obtain ⟨c,hc,rfl⟩:=h z (by simp)
  obtain ⟨e1,e2,e3⟩:=letters_flat zs fun z hz=>h z (List.mem_cons_of_mem _ hz)
  refine ⟨?_,fun d hd=>?_,?_⟩
  ·simp only [List.map_cons,List.flatten_cons,List.length_append,e1,List.length_cons]
   show (#[c]:Array Nat).toList.length + zs.length=_
   simp
   omega
  ·simp only [List.map_cons,List.flatten_cons,List.mem_append] at hd
   rcases hd with hd | hd
   ·have:d=c:=by simpa using hd
    rw [this]; exact hc
   ·exact e2 d hd
  ·simp only [List.map_cons,List.sum_cons,List.length_cons,e3]
   show (#[c]:Array Nat).size + zs.length=_
   simp
   omega
theorem join_size {T:List Nat} {zs:List Str} (h:∀ z ∈ zs,∃ c ∈ T,z=⟨#[c]⟩):(Txt.join Str.empty zs).cps.size=zs.length/\∀ c ∈ (Txt.join Str.empty zs).cps.toList,c ∈ T:=by
 obtain ⟨e1,e2,_⟩:=letters_flat zs h
 rw [<-Array.length_toList,glued_nil]
 exact ⟨e1,e2⟩
theorem atI_str {t:Str} {r:Int} (h0:0<=r) (h1:r < t.cps.size):∃ c,atI t.cps.toList r=some c/\c ∈ t.cps.toList:=by
 have hr:r.toNat < t.cps.toList.length:=by rw [Array.length_toList]; omega
 refine ⟨t.cps.toList[r.toNat],?_,List.getElem_mem hr⟩
 have e:r=((r.toNat:Nat):Int):=by omega
 have q:=atI_nat (xs:=t.cps.toList) (j:=r.toNat) (v:=t.cps.toList[r.toNat]) (List.getElem?_eq_getElem hr)
 rw [<-e] at q
 exact q
noncomputable def Lt:Str := "abcdefghijklmnopqrstuvwxyz"
noncomputable def Xn (t:Nat):Str:=Txt.mul ⟨#[Lt.cps.getD t 0]⟩ 8
theorem Xn_inj:∀ i,i < 26->∀ j,j < 26->Xn i=Xn j->i=j:=by decide +kernel
theorem Xn_len:∀ t,t < 26->(Xn t).length=8:=by decide +kernel
theorem mulok (c:Nat):MulOk ⟨#[c]⟩ 8:=by
 refine ⟨by decide,fun _ _=>?_,fun _ _=>?_⟩
 ·show ¬ ((1:Int) > (2 ^ 63 - 1) / 8)
  decide
 ·rfl
theorem pigeon:∀ (xs ys:List Str),xs.Nodup->(∀ x ∈ xs,x ∈ ys)->xs.length<=ys.length
 | [],ys,_,_=>Nat.zero_le _
 | x :: xs,ys,nd,h=>by
  rw [List.nodup_cons] at nd
  have hx:=h x (by simp)
  have:=pigeon xs (ys.erase x) nd.2 fun y hy=>(List.mem_erase_of_ne (fun z:y=x=>nd.1 (by rw [<-z]; exact hy))).mpr (h y (List.mem_cons_of_mem _ hy))
  rw [List.length_erase_of_mem hx] at this
  have:0 < ys.length:=List.length_pos_of_mem hx
  rw [List.length_cons]
  omega
theorem Xs_nodup:∀ t,t<=26->((List.range t).map Xn).Nodup
 | 0,_=>by simp
 | t + 1,h=>by
  rw [List.range_succ,List.map_append,List.nodup_append]
  refine ⟨Xs_nodup t (by omega),by simp,fun a ha b hb e=>?_⟩
  obtain ⟨i,hi,rfl⟩:=List.mem_map.mp ha
  rw [List.mem_range] at hi
  have:b=Xn t:=by simpa using hb
  subst this
  have:=Xn_inj i (by omega) t (by omega) e
  omega
theorem few_X {ns:List Str} {t:Nat} (ht:t<=26) (h:∀ j,j < t->Xn j ∈ ns):t<=ns.length:=by
 have:=pigeon ((List.range t).map Xn) ns (Xs_nodup t ht) fun x hx=>by
  obtain ⟨j,hj,rfl⟩:=List.mem_map.mp hx
  exact h j (List.mem_range.mp hj)
 simpa using this
structure NmOk (b:Nat) (z:Str):Prop where
 pos:1<=z.length
 lt:z.length < b
noncomputable def Bd (k:Nat):Nat:=9 * 2 ^ k
theorem Bd_succ (k:Nat):Bd (k + 1)=2 * Bd k:=by unfold Bd; rw [Nat.pow_succ]; omega
theorem Bd_ge:∀ k,9<=Bd k
 | 0=>by decide
 | k + 1=>by rw [Bd_succ]; have:=Bd_ge k; omega
theorem Bd_le:∀ k,k<=11->Bd k<=20000:=by decide
theorem at_last {ns:List Str} (h:ns ≠ []):∃ n ∈ ns,atI (ns.map V.str) (-1)=some (.str n):=by
 have hl:0 < ns.length:=List.length_pos_iff.mpr h
 refine ⟨ns[ns.length - 1],List.getElem_mem _,?_⟩
 have e:ixN (ns.map V.str).length (-1)=some (ns.length - 1):=by
  unfold ixN
  rw [List.length_map,if_neg (by decide),if_pos (by omega)]
  congr 1
  omega
 unfold atI
 rw [e]
 show (ns.map V.str)[ns.length - 1]?=_
 rw [List.getElem?_map,List.getElem?_eq_getElem (by omega)]
 rfl
theorem at_pick {ws:List Str} {r:Int} (h0:0<=r) (h1:r < ws.length):∃ n ∈ ws,atI (ws.map V.str) r=some (.str n):=by
 have hr:r.toNat < ws.length:=by omega
 refine ⟨ws[r.toNat],List.getElem_mem hr,?_⟩
 have e:r=((r.toNat:Nat):Int):=by omega
 have q:=atI_nat (xs:=ws.map V.str) (j:=r.toNat) (v:=.str ws[r.toNat]) (by rw [List.getElem?_map,List.getElem?_eq_getElem hr]; rfl)
 rw [<-e] at q
 exact q

theorem inV_str {nm:Str}:∀ {ns:List Str},inV (.str nm) (ns.map V.str)=true ↔ nm ∈ ns
 | []=>by simp [inV]
 | x :: ns=>by
  have ih:=inV_str (nm:=nm) (ns:=ns)
  unfold inV at ih ⊢
  rw [List.map_cons,List.any_cons,Bool.or_eq_true,ih,List.mem_cons]
  have:eqV (.str x) (.str nm)=true ↔ nm=x:=by
   show decide (x=nm)=true ↔ _
   rw [decide_eq_true_iff]
   exact ⟨fun h=>h.symm,fun h=>h.symm⟩
  rw [this]
theorem flat_strs (ns:List Str):(ns.map V.str).all flatV=true:=by
 rw [List.all_eq_true]
 intro x hx
 obtain ⟨y,_,rfl⟩:=List.mem_map.mp hx
 rfl
theorem lap (a b:Str):(a++b).length=a.length + b.length:=by show (a.cps++b.cps).size=_; rw [Array.size_append]; rfl

noncomputable def spNamesP:Sp:=fun vs H Q _=>∃ (D:Dk) (m:Nat),vs=[.ref D.d,.int (m:Int)]/\D.At H/\D.n < 50000/\1<=m/\m<=11 /\
 ∀ l (nm:List Str) H',Kp (D.more 200) H H'->H l=none->nm.length=m->nm.Nodup->H' l=some (.lst (nm.map V.str))->Q (.ref l) H'
theorem Kp.up {D:Dk} {c c':Nat} {H H1:Hp} (a:Kp (D.more c) H H1) (l:c<=c'):Kp (D.more c') H H1:=a.le (Nat.add_le_add_left l _)
theorem Kp.one {D:Dk} {c:Nat} {H H1 H2:Hp} (a:Kp (D.more c) H H1) (b:Kp ((D.more c).more 1) H1 H2):Kp (D.more (c + 1)) H H2:=(a.trans b).le (Nat.le_of_eq (Nat.add_assoc _ _ _))
theorem i_take {D:Dk} {c:Nat} {m:Int} {H0 H:Hp} {Q:VK} {E:XK} (kp:Kp (D.more c) H0 H) (dn:D.n + c < 100000) (h1:1<=m) (h2:m<=100000)
  (q:∀ (r:Int) H',0<=r->r < m->(∀ b o,H b=some o->¬ D.own b->H' b=some o)->Kp (D.more (c + 1)) H0 H'->Q (.int r) H'):spDraw [.ref D.d,.int m] H Q E :=
 ⟨D.more c,m,rfl,kp.dk,dn,h1,h2,fun r H' r0 r1 k=>q r H' r0 r1 k.old (kp.one k)⟩
theorem at_let {r:Int} (h0:0<=r) (h1:r < 26):∃ c ∈ Lt.cps.toList,atI Lt.cps.toList r=some c:=by
 have z26:((Lt.cps.size:Nat):Int)=26:=by decide +kernel
 obtain ⟨c,e,hc⟩:=atI_str (t:=Lt) (r:=r) h0 (by rw [z26]; exact h1)
 exact ⟨c,hc,e⟩
noncomputable def NJp (D:Dk) (m:Nat) (l:Addr) (stem:Str) (H:Hp) (i:Nat) (ns:List Str) (c:Nat):St->Hp->Prop:=fun σ H'=>∃ (way:Int) (nm:Str) (x8 x9:Option V),σ=[some (.ref D.d),some (.int (m:Int)),some (.str Lt),some (.str stem),some (.ref l),some (.int (0 + i)),some (.str nm),some (.int way),x8,x9]/\NmOk (Bd (i + 1)) nm/\H' l=some (.lst (ns.map V.str))/\Kp (D.more c) H H'
section
variable {P:Program} {w:World} {K:PySem.W.Frag} {mg:Str->Option Value} {base:Heap} {TT:Addr}
theorem sc_law_names:FnScope ["pool", "many", "letters", "stem", "found", "k", "name", "way", "at", "turn"] ["pool", "many"] (defScope (top 16)):=⟨rfl,rfl,rfl,by decide +kernel,rfl,by decide +kernel,by decide +kernel⟩
theorem ok_namesP {f:Addr} {fd:FuncData} (Fu:Fun K "_law_names" "_law_names" (top 16) f fd) (T:Txt K mg TT) (f_law_take:Fn P w K mg base "_law_take" ["pool", "many"] 1 spDraw):FnOk P w K mg base CX0 2 f fd ["pool", "many"] spNamesP:=by
 have S:=sc_law_names
 refine Fu.ok S (fun vs H Q E h=>?_) (fun cdv A outer s H vs Q E hr h=>?_)
 ·obtain ⟨D,m,rfl,_⟩:=h
  rfl
 ·obtain ⟨D,m,rfl,DA,dn,m1,m11,k⟩:=h
  refine' ⟨?_,(pss_cons ?h0 (pss_cons ?h1 (pss_cons ?h2 (pss_cons (ps_for PassesOwn.never rfl ?h3 ?h4 (pss_cons ?h5 (pss_cons ?h6 (pss_cons (ps_if ?h7 (pss_one ?h8) pss_nil) (pss_cons (ps_if ?h9 (pss_cons ?h10 (pss_one ?h11)) pss_nil) (pss_cons ?h12 (pss_cons (ps_while PassesOwn.never ?h13 (pss_cons ?h14 (pss_one ?h15))) (pss_one ?h16)))))))) (pss_one ?h17))))),?_⟩
  case h0 =>
   refine' ps_set (i:=2) ?n ?r ?l ?e ?s ?f
   case n=>exact S.nd
   case r=>rfl
   case l=>first | exact Or.inl rfl | exact Or.inr rfl
   case s=>rfl
   case f=>first | exact Or.inl rfl | exact Or.inr rfl
   case e=>exact pe_str
  case h1 =>
   refine' ps_set (i:=3) ?n ?r ?l ?e ?s ?f
   case n=>exact S.nd
   case r=>rfl
   case l=>first | exact Or.inl rfl | exact Or.inr rfl
   case s=>rfl
   case f=>first | exact Or.inl rfl | exact Or.inr rfl
   case e =>
    with_reducible refine' pe_ix ?r1 ?v1 ?b1 ?p1
    case r1=>exact ix_list
    case p1=>exact (fun _ _=>rfl)
    case v1 =>
     with_reducible refine' pe_lst ?a2
     case a2 =>
      with_reducible refine' pa_cons ?e3 ?s3 se_con
      case e3 =>
       exact pe_str
      case s3 =>
       with_reducible refine' pa_cons ?e5 ?s5 se_con
       case e5 =>
        exact pe_str
       case s5 =>
        with_reducible refine' pa_cons ?e7 ?s7 se_con
        case e7 =>
         exact pe_str
        case s7 =>
         with_reducible refine' pa_cons ?e9 ?s9 se_con
         case e9 =>
          exact pe_str
         case s9 =>
          exact pa_nil
    case b1 =>
     refine' pe_fn f_law_take (hr.mono (by first | decide | omega)) (by rfl) ?a11
     case a11 =>
      with_reducible refine' pa_cons ?e12 ?s12 se_name
      case e12 =>
       exact (pv 0)
      case s12 =>
       with_reducible refine' pa_cons ?e14 ?s14 se_con
       case e14 =>
        exact pe_int
       case s14 =>
        exact pa_nil
  case h2 =>
   refine' ps_set (i:=4) ?n ?r ?l ?e ?s ?f
   case n=>exact S.nd
   case r=>rfl
   case l=>first | exact Or.inl rfl | exact Or.inr rfl
   case s=>rfl
   case f=>first | exact Or.inl rfl | exact Or.inr rfl
   case e=>exact (pe_lst pa_nil)
  case h3=>exact (pi_range1 (by rfl) T.n_range (pa_cons (pv 1) pa_nil se_name))
  case h4=>exact (pg_name (i:=5) S.nd rfl (by first | exact Or.inl rfl | exact Or.inr rfl))
  case h5 =>
   refine' ps_set (i:=6) ?n ?r ?l ?e ?s ?f
   case n=>exact S.nd
   case r=>rfl
   case l=>first | exact Or.inl rfl | exact Or.inr rfl
   case s=>rfl
   case f=>first | exact Or.inl rfl | exact Or.inr rfl
   case e=>exact (pe_op op_add_str (pe_slice sl_str (pv 3) po_none (po_some (pe_fn f_law_take (hr.mono (by first | decide | omega)) (by rfl) (pa_cons (pv 0) (pa_cons pe_int pa_nil se_con) se_name)))) (pe_ix ix_str (pv 2) (pe_fn f_law_take (hr.mono (by first | decide | omega)) (by rfl) (pa_cons (pv 0) (pa_cons pe_int pa_nil se_con) se_name)) (fun _ _=>rfl)))
  case h6 =>
   refine' ps_set (i:=7) ?n ?r ?l ?e ?s ?f
   case n=>exact S.nd
   case r=>rfl
   case l=>first | exact Or.inl rfl | exact Or.inr rfl
   case s=>rfl
   case f=>first | exact Or.inl rfl | exact Or.inr rfl
   case e=>exact (pe_fn f_law_take (hr.mono (by first | decide | omega)) (by rfl) (pa_cons (pv 0) (pa_cons pe_int pa_nil se_con) se_name))
  case h7=>exact (pt_cmpR op_eq (pv 7) pe_int (nomark _))
  case h8 =>
   refine' ps_set (i:=6) ?n ?r ?l ?e ?s ?f
   case n=>exact S.nd
   case r=>rfl
   case l=>first | exact Or.inl rfl | exact Or.inr rfl
   case s=>rfl
   case f=>first | exact Or.inl rfl | exact Or.inr rfl
   case e=>exact (pe_bm PySem.F.plainAttrs_str PySem.F.slot_str_join PySem.F.type_str_join mt_join pe_str (pa_cons (pe_lc (tgs:=["turn"]) (cap:=[("letters", 2),("pool", 0)]) rfl ⟨rfl,rfl,rfl,rfl,rfl,rfl⟩ (pi_range1 (by rfl) T.n_range (pa_cons (pe_op op_add pe_int (pe_fn f_law_take (hr.mono (by first | decide | omega)) (by rfl) (pa_cons (pv 0) (pa_cons pe_int pa_nil se_con) se_name))) pa_nil)) (fun _ _ _ _=>(pg_name (i:=0) (show List.Nodup [("turn" : Str),("letters" : Str),("pool" : Str)] by decide +kernel) rfl (by first | exact Or.inl rfl | exact Or.inr rfl))) (fun _ _ _ _=>pifs_nil) (fun _ _ _ _=>(pe_ix ix_str (pv 1) (pe_fn f_law_take (hr.mono (by first | decide | omega)) (by rfl) (pa_cons (pv 2) (pa_cons pe_int pa_nil se_con) se_name)) (fun _ _=>rfl)))) pa_nil))
  case h9=>exact (PW.pt (pw_and (pt_cmpR op_eq (pv 7) pe_int (nomark _)) (pw_and1 (pt_cmpR (op_neL hr.units) (pv 4) (pe_lst pa_nil) (nomark _)))))
  case h10 =>
   refine' ps_set (i:=8) ?n ?r ?l ?e ?s ?f
   case n=>exact S.nd
   case r=>rfl
   case l=>first | exact Or.inl rfl | exact Or.inr rfl
   case s=>rfl
   case f=>first | exact Or.inl rfl | exact Or.inr rfl
   case e=>exact (pe_fn f_law_take (hr.mono (by first | decide | omega)) (by rfl) (pa_cons (pv 0) (pa_cons (pe_callB call_len_str (by rfl) T.n_len PySem.boot_len (pa_cons (pe_ix ix_list (pv 4) (pe_un un_neg pe_int) (fun _ _=>rfl)) pa_nil)) pa_nil se_call) se_name))
  case h11 =>
   refine' ps_set (i:=6) ?n ?r ?l ?e ?s ?f
   case n=>exact S.nd
   case r=>rfl
   case l=>first | exact Or.inl rfl | exact Or.inr rfl
   case s=>rfl
   case f=>first | exact Or.inl rfl | exact Or.inr rfl
   case e=>exact (pe_op op_add_str (pe_op op_add_str (pe_slice sl_str (pe_ix ix_list (pv 4) (pe_un un_neg pe_int) (fun _ _=>rfl)) po_none (po_some (pv 8))) (pe_ix ix_str (pv 2) (pe_fn f_law_take (hr.mono (by first | decide | omega)) (by rfl) (pa_cons (pv 0) (pa_cons pe_int pa_nil se_con) se_name)) (fun _ _=>rfl))) (pe_slice sl_str (pe_ix ix_list (pv 4) (pe_un un_neg pe_int) (fun _ _=>rfl)) (po_some (pe_op op_add (pv 8) pe_int)) po_none))
  case h12 =>
   refine' ps_set (i:=9) ?n ?r ?l ?e ?s ?f
   case n=>exact S.nd
   case r=>rfl
   case l=>first | exact Or.inl rfl | exact Or.inr rfl
   case s=>rfl
   case f=>first | exact Or.inl rfl | exact Or.inr rfl
   case e=>exact pe_int
  case h13=>exact (pt_cmpR op_in_seq (pv 6) (pv 4) rfl)
  case h14 =>
   refine' ps_set (i:=6) ?n ?r ?l ?e ?s ?f
   case n=>exact S.nd
   case r=>rfl
   case l=>first | exact Or.inl rfl | exact Or.inr rfl
   case s=>rfl
   case f=>first | exact Or.inl rfl | exact Or.inr rfl
   case e=>exact (pe_op op_mul_str (pe_ix ix_str (pv 2) (pv 9) (fun _ _=>rfl)) pe_int)
  case h15 =>
   refine' ps_set (i:=9) ?n ?r ?l ?e ?s ?f
   case n=>exact S.nd
   case r=>rfl
   case l=>first | exact Or.inl rfl | exact Or.inr rfl
   case s=>rfl
   case f=>first | exact Or.inl rfl | exact Or.inr rfl
   case e=>exact (pe_op op_add (pv 9) pe_int)
  case h16=>exact (ps_expr (pe_bm PySem.F.plainAttrs_list PySem.F.slot_list_append PySem.F.type_list_append mt_append (pv 4) (pa_cons (pv 6) pa_nil se_name)))
  case h17=>exact (ps_ret (pv 4))
  try dsimp only [cxOf,Cx.nox,Cx.wish]
  rw [show L2.start ["pool", "many", "letters", "stem", "found", "k", "name", "way", "at", "turn"] [V.ref D.d,V.int (m:Int)]=[some (.ref D.d),some (.int (m:Int)),none,none,none,none,none,none,none,none] from rfl]
  have big:100000 < sizeLine:=by decide
  repeat walk_at "vc"
  refine ⟨by decide +kernel,fun p hp=>?_⟩
  generalize hE:upd H p _=H1
  obtain ⟨S1,q1⟩:=upd_pair hp hE
  clear hE
  have q1':H1 p=some (.lst ((["abcdefg", "placeof", "zyxwvut", "kjqrshn"]:List Str).map V.str)):=q1
  have kp1:Kp (D.more 0) H H1:=Kp.of DA S1
  repeat walk_at "vc"
  refine i_take kp1 (by omega) (by decide) (by decide) fun r H2 r0 r1 o2 kp2=>?_
  have np:¬ D.own p:=notOwn_fresh DA hp
  have q2:=o2 _ _ q1' np
  obtain ⟨stem,hst,est⟩:=at_pick (ws:=["abcdefg", "placeof", "zyxwvut", "kjqrshn"]) (r:=r) r0 r1
  have hstl:stem.length=7:=(by decide +kernel:∀ z ∈ (["abcdefg", "placeof", "zyxwvut", "kjqrshn"]:List Str),z.length=7) stem hst
  refine i_ixL (SqL.of q2) est ?_
  clear q2 q1 q1' S1 kp1
  repeat walk_at "vc"
  refine ⟨by decide,fun l hl=>?_⟩
  have nl:¬ D.own l:=notOwn_fresh (D:=D.more 1) kp2.dk hl
  have HL:H l=none:=kp2.free hl
  generalize hE:upd H2 l _=H3
  obtain ⟨S3,q3⟩:=upd_pair hl hE
  clear hE
  have q3':H3 l=some (.lst (([]:List Str).map V.str)):=q3
  have kp3:Kp (D.more 1) H H3:=kp2.trans (Kp.of kp2.dk S3)
  clear q3 S3 hl
  repeat walk_at "vc"
  refine ⟨by omega,by omega,?_⟩
  rw [Int.toNat_natCast]
  refine for_range (n:=m) (fun i σ H'=>∃ x5 x6 x7 x8 x9 ns,σ=[some (.ref D.d),some (.int (m:Int)),some (.str Lt),some (.str stem),some (.ref l),x5,x6,x7,x8,x9]/\i<=11/\ns.length=i/\ns.Nodup/\(∀ n ∈ ns,NmOk (Bd i) n)/\H' l=some (.lst (ns.map V.str))/\Kp (D.more (1 + 14 * i)) H H')
   ⟨_,_,_,_,_,[],rfl,Nat.zero_le _,rfl,List.nodup_nil,(fun n h=>nomatch h),q3',kp3⟩ (fun i σ H' hi pv=>?_) (fun σ H' pv=>?_)
  ·obtain ⟨x5,x6,x7,x8,x9,ns,rfl,_,hn,nd,good,hl',kp⟩:=pv
   have bge:=Bd_ge i
   have ble:=Bd_le i (by omega)
   have bsu:=Bd_succ i
   have l1:∀ c,(⟨#[c]⟩:Str).length=1:=fun _=>rfl
   refine s_name ?_
   repeat walk_at "vc"
   refine i_take kp (by omega) (by decide) (by decide) fun r2 Ha r20 r21 oa kpa=>?_
   repeat walk_at "vc"
   have sl:=Txt.slice_le stem none (some r2)
   refine i_slS (by omega) ?_
   repeat walk_at "vc"
   refine i_take kpa (by omega) (by decide) (by decide) fun r3 Hb r30 r31 ob kpb=>?_
   obtain ⟨c,hc,ec⟩:=at_let r30 r31
   refine i_ixS (by decide +kernel) ec ?_
   refine ⟨_,_,rfl,rfl,by rw [l1]; omega,?_⟩
   have hnm:NmOk (Bd (i + 1)) (Txt.slice stem none (some r2)++⟨#[c]⟩):=⟨by rw [lap,l1]; omega,by rw [lap,l1]; omega⟩
   generalize Txt.slice stem none (some r2)++⟨#[c]⟩=nm at *
   have hlb:=ob _ _ (oa _ _ hl' nl) nl
   clear oa ob kpa sl r20 r21
   refine s_name ?_
   repeat walk_at "vc"
   refine i_take kpb (by omega) (by decide) (by decide) fun way Hc w0 w1 oc kpc=>?_
   have hlc:=oc _ _ hlb nl
   clear oc kpb hlb
   refine s_name ?_
   with_reducible refine seq_join (NJp D m l stem H i ns (1 + 14 * i + 12)) (fun R hR=>?_) (fun σ6 H6 j6=>?_)
   ·repeat walk_at "vc"
    refine ite2 (fun _=>?_) (fun _=>hR _ _ ⟨way,nm,x8,x9,rfl,hnm,hlc,kpc.up (by omega)⟩)
    repeat walk_at "vc"
    refine ⟨rfl,?_⟩
    repeat walk_at "vc"
    refine i_comp ?_
    repeat walk_at "vc"
    refine i_take kpc (by omega) (by decide) (by decide) fun r4 Hd r40 r41 od kpd=>?_
    have hld:=od _ _ hlc nl
    repeat walk_at "vc"
    refine ⟨by omega,by omega,fun L hL=>?_⟩
    have nL:¬ D.own L:=notOwn_fresh (D:=D.more _) kpd.dk hL
    have HLn:H L=none:=kpd.free hL
    obtain ⟨n8,e8,a8,b8⟩:∃ n8:Nat,(1 + r4).toNat=n8/\1<=n8/\n8<=8:=⟨_,rfl,by omega,by omega⟩
    rw [e8]
    have nlL:l ≠ L:=ne_of_none hld hL
    refine comp_range (n:=n8) (fun n H' ys=>Kp (D.more (1 + 14 * i + 4 + n)) H H'/\H' L=some (.lst ys)/\H' l=some (.lst (ns.map V.str))/\∃ zs:List Str,ys=zs.map V.str/\zs.length=n/\∀ z ∈ zs,∃ c ∈ Lt.cps.toList,z=⟨#[c]⟩)
     ⟨(Kp.new kpd hL).up (by omega),upd_same,by rw [upd_ne nlL]; exact hld,[],rfl,rfl,fun z h=>nomatch h⟩ (fun n H' ys pv=>pv.2.1) (fun n H' ys hn8 pv=>?_) (fun H' ys pv=>?_)
    ·obtain ⟨kpx,hLx,hlx,zs,rfl,hz,hzs⟩:=pv
     refine s_name ⟨⟨rfl,rfl,trivial⟩,i_yes (iteT ?_)⟩
     show tOp _ _ _ [some (.int (0 + n)),some (.str Lt),some (.ref D.d)] _ _
     repeat walk_at "vc"
     refine i_take kpx (by omega) (by decide) (by decide) fun r5 Hy r50 r51 oy kpy=>?_
     obtain ⟨c5,hc5,ec5⟩:=at_let r50 r51
     refine i_ixS (by decide +kernel) ec5 ?_
     refine NextC.mk (oy _ _ hLx nL) hn8 (by rw [List.length_map]; omega) ⟨Kp.fresh (DA.le (Nat.le_add_right _ _)) HLn (kpy.up (by omega)),upd_same,by rw [upd_ne nlL]; exact oy _ _ hlx nl,zs++[⟨#[c5]⟩],by simp,by simp [hz],fun z hz'=>?_⟩
     rcases List.mem_append.mp hz' with h | h
     ·exact hzs z h
     ·rw [List.mem_singleton] at h
      exact ⟨c5,hc5,h⟩
    ·obtain ⟨kpx,hLx,hlx,zs,rfl,hz,hzs⟩:=pv
     obtain ⟨_,_,f3⟩:=letters_flat zs hzs
     obtain ⟨js,_⟩:=join_size hzs
     have e0:("" : Str)=Str.empty:=by decide +kernel
     have e00:("" : Str).length=0:=by decide +kernel
     refine i_nil ⟨"", L,zs,rfl,rfl,SqL.of hLx,by rw [f3,e00]; omega,?_⟩
     rw [e0]
     have js':(Txt.join Str.empty zs).length=zs.length:=js
     exact s_name (hR _ _ ⟨way,_,x8,x9,rfl,⟨by omega,by omega⟩,hlx,kpx.up (by omega)⟩)
   clear hnm hlc kpc
   with_reducible refine seq_join (NJp D m l stem H i ns (1 + 14 * i + 14)) (fun R hR=>?_) (fun σ7 H7 j7=>?_)
   ·obtain ⟨way,nm,x8,x9,rfl,hnm,hl6,kp6⟩:=j6
    have out:∀ H',Same H6 H'->R [some (.ref D.d),some (.int (m:Int)),some (.str Lt),some (.str stem),some (.ref l),some (.int (0 + i)),some (.str nm),some (.int way),x8,x9] H':=fun H' kq=>hR _ _ ⟨way,nm,x8,x9,rfl,hnm,kq _ _ hl6,(kp6.trans (Kp.of kp6.dk kq)).up (by omega)⟩
    repeat walk_at "vc"
    refine ite2 (fun _=>?_) (fun _=>?_)
    ·repeat walk_at "vc"
     refine ⟨by decide,fun p hp=>?_⟩
     have S7:=fresh_same (o:=.lst []) hp
     have hl7:=S7 _ _ hl6
     refine ⟨l,p,_,[],fun _=>true,rfl,rfl,SqL.of hl7,SqL.of upd_same,(fun j x y _ h=>by simp at h),⟨_,rfl,?_⟩⟩
     refine ite2 (fun hne=>?_) (fun _=>out _ S7)
     have nne:ns ≠ []:=fun z=>by subst z; simp at hne
     obtain ⟨la,hla,ela⟩:=at_last nne
     have gla:=good la hla
     have gp:=gla.pos
     have gl:=gla.lt
     have kp8:Kp (D.more (1 + 14 * i + 12)) H (upd H6 p (.lst [])):=kp6.trans (Kp.of kp6.dk S7)
     generalize upd H6 p (.lst [])=H8 at *
     repeat walk_at "vc"
     refine i_ixL (SqL.of hl7) ela ?_
     repeat walk_at "vc"
     refine ⟨_,rfl,by omega,?_⟩
     repeat walk_at "vc"
     refine i_take kp8 (by omega) (by omega) (by omega) fun at1 H9 t0 t1 o9 kp9=>?_
     have hl9:=o9 _ _ hl7 nl
     repeat walk_at "vc"
     refine i_ixL (SqL.of hl9) ela ?_
     repeat walk_at "vc"
     refine i_slS (by omega) ?_
     repeat walk_at "vc"
     refine i_take kp9 (by omega) (by decide) (by decide) fun r6 Hk r60 r61 ok kpk=>?_
     obtain ⟨c6,hc6,ec6⟩:=at_let r60 r61
     have hlk:=ok _ _ hl9 nl
     refine i_ixS (by decide +kernel) ec6 ?_
     have sl1:=Txt.slice_le la none (some at1)
     have sl2:=Txt.slice_le la (some (at1 + 1)) none
     refine ⟨_,_,rfl,rfl,by rw [l1]; omega,?_⟩
     repeat walk_at "vc"
     refine i_ixL (SqL.of hlk) ela ?_
     repeat walk_at "vc"
     refine i_slS (by omega) ?_
     refine ⟨_,_,rfl,rfl,by rw [lap,l1]; omega,?_⟩
     exact s_name (hR _ _ ⟨way,_,_,x9,rfl,⟨by rw [lap,lap,l1]; omega,by rw [lap,lap,l1]; omega⟩,hlk,kpk.up (by omega)⟩)
    ·first | exact out _ (Same.refl _) | exact iteF (out _ (Same.refl _))
   obtain ⟨way,nm,x8,x9,e,hnm,hl6,kp6⟩:=j7
   subst e
   with_reducible refine s_seq (s_asg (i_c (s_name ?_)))
   with_reducible refine seq_join (fun σ H'=>∃ (t:Int) (nm:Str),σ=[some (.ref D.d),some (.int (m:Int)),some (.str Lt),some (.str stem),some (.ref l),some (.int (0 + i)),some (.str nm),some (.int way),x8,some (.int t)]/\NmOk (Bd (i + 1)) nm/\nm ∉ ns/\H'=H7) (fun R hR=>?_) (fun σ9 H9 j9=>?_)
   ·refine ⟨fun n σ H'=>∃ (t:Nat) (nm:Str),n=26 - t/\t<=11/\σ=[some (.ref D.d),some (.int (m:Int)),some (.str Lt),some (.str stem),some (.ref l),some (.int (0 + i)),some (.str nm),some (.int way),x8,some (.int t)]/\NmOk (Bd (i + 1)) nm/\H'=H7/\(∀ j,j + 1 < t->Xn j ∈ ns)/\(1<=t->nm=Xn (t - 1)),⟨26,0,nm,rfl,by omega,rfl,hnm,rfl,(fun j h=>by omega),(fun h=>by omega)⟩,?_⟩
    rintro n σ H' ⟨t,nm,rfl,t11,rfl,hnm,rfl,q1,q2⟩
    have z26:((Lt.cps.size:Nat):Int)=26:=by decide +kernel
    repeat walk_at "vc"
    refine i_in (SqL.of hl6) rfl (flat_strs ns) ?_
    refine ⟨_,rfl,?_⟩
    refine ite2 (fun hin=>?_) (fun hin=>?_)
    ·have hmem:=inV_str.mp hin
     have hall:∀ j,j < t->Xn j ∈ ns:=fun j hj=>by
      by_cases z:j + 1 < t
      ·exact q1 j z
      ·have:j=t - 1:=by omega
       rw [this,<-q2 (by omega)]
       exact hmem
     have ht:=few_X (by omega) hall
     refine ⟨_,fun σ' H' w=>⟨26 - (t + 1),by omega,w⟩,?_⟩
     repeat walk_at "vc"
     have et:atI Lt.cps.toList ((t:Nat):Int)=some (Lt.cps.getD t 0):=by
      refine atI_nat ?_
      have:t < Lt.cps.size:=by omega
      simp [Array.getD,this]
     refine i_ixS (by decide +kernel) et ?_
     repeat walk_at "vc"
     refine ⟨_,_,rfl,rfl,mulok _,?_⟩
     repeat walk_at "vc"
     refine ⟨t + 1,Xn t,rfl,by omega,rfl,?_,rfl,(fun j hj=>hall j (by omega)),(fun _=>rfl)⟩
     have:=Xn_len t (by omega)
     exact ⟨by omega,by omega⟩
    ·exact hR _ _ ⟨t,nm,rfl,hnm,fun z=>hin (inV_str.mpr z),rfl⟩
   obtain ⟨t,nm,e,hnm,hnot,e9⟩:=j9
   subst e e9
   repeat walk_at "vc"
   refine i_app hl6 (by rw [List.length_map]; omega) ?_
   refine ⟨_,_,_,_,_,ns++[nm],rfl,by omega,by simp [hn],?_,fun n hn'=>?_,by rw [upd_same]; simp,Kp.fresh (DA.le (Nat.le_add_right _ _)) HL (kp6.up (by omega))⟩
   ·rw [List.nodup_append]
    exact ⟨nd,by simp,fun a ha b hb e=>hnot (by
     have hb':b=nm:=by simpa using hb
     rw [<-hb',<-e]; exact ha)⟩
   ·rcases List.mem_append.mp hn' with h | h
    ·have g:=good n h
     have g1:=g.pos
     have g2:=g.lt
     exact ⟨g1,by omega⟩
    ·have:n=nm:=by simpa using h
     rw [this]; exact hnm
  ·obtain ⟨x5,x6,x7,x8,x9,ns,rfl,_,hn,nd,good,hl',kp⟩:=pv
   refine s_ret (te:=tVar 4) (D:={ nx:=fun x H'=>Q V.non H',rt:=Q }) (i_var rfl ?_)
   exact k l ns H' (kp.up (by omega)) HL hn nd hl'
end

noncomputable def spOrder (K:PySem.W.Frag):Sp:=fun vs H Q _=>∃ (D:Dk) (a:Addr) (xs:List V),vs=[.ref D.d,.ref a]/\D.At H/\SqL K H a xs/\D.n < 50000/\xs.length<=100 /\
 ∀ l (ys:List V) H',Kp (D.more 100) H H'->H l=none->ys.Perm xs->H' l=some (.lst ys)->Q (.ref l) H'
noncomputable def spSize:Sp:=fun vs H Q _=>∃ (D:Dk),vs=[.ref D.d]/\D.At H/\D.n < 50000/\∀ (r:Int) H',1<=r->r<=40->Kp (D.more 4) H H'->Q (.int r) H'
theorem pick_perm:∀ {ls:List V} {k:Nat} {y:V},ls[k]?=some y->(y :: ls.eraseIdx k).Perm ls
 | [],_,_,h=>by simp at h
 | x :: r,0,y,h=>by simp at h; subst h; exact .refl _
 | x :: r,k + 1,y,h=>by
  have:=pick_perm (ls:=r) (k:=k) (y:=y) (by simpa using h)
  rw [List.eraseIdx_cons_succ]
  exact (List.Perm.swap _ _ _).trans (this.cons _)
section
variable {P:Program} {w:World} {K:PySem.W.Frag} {mg:Str->Option Value} {base:Heap} {TT:Addr}
theorem sc_law_order:FnScope ["pool", "things", "left", "found"] ["pool", "things"] (defScope (top 17)):=⟨rfl,rfl,rfl,by decide +kernel,rfl,by decide +kernel,by decide +kernel⟩
theorem ok_order {f:Addr} {fd:FuncData} (Fu:Fun K "_law_order" "_law_order" (top 17) f fd) (T:Txt K mg TT) (f_law_take:Fn P w K mg base "_law_take" ["pool", "many"] 1 spDraw):FnOk P w K mg base CX0 2 f fd ["pool", "things"] (spOrder K):=by
 have S:=sc_law_order
 refine Fu.ok S (fun vs H Q E h=>?_) (fun cdv A outer s H vs Q E hr h=>?_)
 ·obtain ⟨D,a,xs,rfl,_⟩:=h
  rfl
 ·obtain ⟨D,a,xs,rfl,DA,hx,dn,x100,k⟩:=h
  refine' ⟨?_,(pss_cons ?h0 (pss_cons ?h1 (pss_cons (ps_while PassesOwn.never ?h2 (pss_one ?h3)) (pss_one ?h4)))),?_⟩
  case h0 =>
   refine' ps_set (i:=2) ?n ?r ?l ?e ?s ?f
   case n=>exact S.nd
   case r=>rfl
   case l=>first | exact Or.inl rfl | exact Or.inr rfl
   case s=>rfl
   case f=>first | exact Or.inl rfl | exact Or.inr rfl
   case e=>exact (pe_callTy call_list_of (by rfl) T.n_list PyProof.Rows.boot_list (pa_cons (pv 1) pa_nil se_name))
  case h1 =>
   refine' ps_set (i:=3) ?n ?r ?l ?e ?s ?f
   case n=>exact S.nd
   case r=>rfl
   case l=>first | exact Or.inl rfl | exact Or.inr rfl
   case s=>rfl
   case f=>first | exact Or.inl rfl | exact Or.inr rfl
   case e=>exact (pe_lst pa_nil)
  case h2=>exact (pt_cmpR (op_neL hr.units) (pv 2) (pe_lst pa_nil) (nomark _))
  case h3=>exact (ps_expr (pe_bm PySem.F.plainAttrs_list PySem.F.slot_list_append PySem.F.type_list_append mt_append (pv 3) (pa_cons (pe_bm PySem.F.plainAttrs_list PySem.F.slot_list_pop PySem.F.type_list_pop mt_popAt (pv 2) (pa_cons (pe_fn f_law_take (hr.mono (by first | decide | omega)) (by rfl) (pa_cons (pv 0) (pa_cons (pe_callB call_len_seq (by rfl) T.n_len PySem.boot_len (pa_cons (pv 2) pa_nil se_name)) pa_nil se_call) se_name)) pa_nil se_call)) pa_nil se_call)))
  case h4=>exact (ps_ret (pv 3))
  try dsimp only [cxOf,Cx.nox,Cx.wish]
  rw [show L2.start ["pool", "things", "left", "found"] [V.ref D.d,V.ref a]=[some (.ref D.d),some (.ref a),none,none] from rfl]
  have big:100000 < sizeLine:=by decide
  repeat walk_at "vc"
  refine ⟨_,_,rfl,.inl hx,fun l hl=>?_⟩
  have nl:¬ D.own l:=notOwn_fresh DA hl
  generalize hE:upd H l _=H1
  obtain ⟨S1,q1⟩:=upd_pair hl hE
  clear hE
  have kp1:Kp (D.more 0) H H1:=Kp.of DA S1
  repeat walk_at "vc"
  refine ⟨by decide,fun p hp=>?_⟩
  have np:¬ D.own p:=notOwn_fresh (D:=D.more _) kp1.dk hp
  have nlp:l ≠ p:=ne_of_none q1 hp
  have HP:H p=none:=kp1.free hp
  generalize hE:upd H1 p _=H2
  obtain ⟨S2,q2⟩:=upd_pair hp hE
  clear hE
  have kp2:Kp (D.more 0) H H2:=kp1.trans (Kp.of kp1.dk S2)
  have q1':=S2 _ _ q1
  clear kp1 S1 S2 hp q1
  repeat walk_at "vc"
  refine ⟨fun n σ H'=>∃ (ls fs:List V),n=ls.length/\fs.length + ls.length=xs.length/\σ=[some (.ref D.d),some (.ref a),some (.ref l),some (.ref p)]/\(fs++ls).Perm xs/\H' l=some (.lst ls)/\H' p=some (.lst fs)/\Kp (D.more fs.length) H H',⟨_,xs,[],rfl,by simp,rfl,.refl _,q1',q2,kp2⟩,?_⟩
  rintro n σ H' ⟨ls,fs,rfl,hlen,rfl,pm,hl',hp',kp⟩
  repeat walk_at "vc"
  refine ⟨by decide,fun e he=>?_⟩
  have Se:=fresh_same (o:=.lst []) he
  have hle:=Se _ _ hl'
  have hpe:=Se _ _ hp'
  have kpe:Kp (D.more fs.length) H (upd H' e (.lst [])):=kp.trans (Kp.of kp.dk Se)
  refine ⟨l,e,_,[],fun _=>true,rfl,rfl,SqL.of hle,SqL.of upd_same,(fun j x y _ h=>by simp at h),⟨_,rfl,?_⟩⟩
  generalize upd H' e (.lst [])=H3 at *
  refine ite2 (fun hne=>?_) (fun hno=>?_)
  ·have nne:ls ≠ []:=fun z=>by subst z; simp at hne
   have lpos:0 < ls.length:=List.length_pos_iff.mpr nne
   refine ⟨_,fun σ' H' w=>⟨ls.length - 1,by omega,w⟩,?_⟩
   repeat walk_at "vc"
   refine i_take kpe (by omega) (by omega) (by omega) fun r H4 r0 r1 o4 kp4=>?_
   have hl4:=o4 _ _ hle nl
   have hp4:=o4 _ _ hpe np
   have hj:r.toNat < ls.length:=by omega
   have ez:ls[r.toNat]?=some ls[r.toNat]:=List.getElem?_eq_getElem hj
   refine i_nil ?_
   refine ⟨l,ls,r,r.toNat,_,rfl,rfl,hl4,by omega,by omega,?_,ez,?_⟩
   ·have:ixN ls.length r=some r.toNat:=by unfold ixN; rw [if_pos r0,if_pos r1]
    exact (ixN_seq this).1
   refine i_nil ?_
   have pz:=pick_perm ez
   generalize ls[r.toNat]=z at *
   have lz:(ls.eraseIdx r.toNat).length + 1=ls.length:=by rw [List.length_eraseIdx]; rw [if_pos hj]; omega
   refine i_app (xs:=fs) (by rw [upd_ne nlp.symm]; exact hp4) (by omega) ?_
   refine ⟨ls.eraseIdx r.toNat,fs++[z],by omega,by rw [List.length_append]; show fs.length + 1 + _=_; omega,rfl,?_,by rw [upd_ne nlp,upd_same],upd_same,?_⟩
   ·rw [List.append_assoc]
    exact (List.Perm.append_left fs pz).trans pm
   ·have:=Kp.fresh (o:=.lst (fs++[z])) (DA.le (Nat.le_add_right _ _)) HP (Kp.fresh (o:=.lst (ls.eraseIdx r.toNat)) (DA.le (Nat.le_add_right _ _)) hl kp4)
    rw [List.length_append]
    exact this
  ·have e0:ls=[]:=by
    cases ls with
    | nil=>rfl
    | cons x r=>exact absurd (by simp) hno
   subst e0
   repeat walk_at "vc"
   exact k p fs H3 (kpe.up (by simp at hlen; omega)) HP (by simpa using pm) hpe
theorem sc_law_size:FnScope ["pool"] ["pool"] (defScope (top 20)):=⟨rfl,rfl,rfl,by decide +kernel,rfl,by decide +kernel,by decide +kernel⟩
theorem ok_size {f:Addr} {fd:FuncData} (Fu:Fun K "_law_size" "_law_size" (top 20) f fd) (T:Txt K mg TT) (f_law_take:Fn P w K mg base "_law_take" ["pool", "many"] 1 spDraw):FnOk P w K mg base CX0 2 f fd ["pool"] spSize:=by
 have S:=sc_law_size
 refine Fu.ok S (fun vs H Q E h=>?_) (fun cdv A outer s H vs Q E hr h=>?_)
 ·obtain ⟨D,rfl,_⟩:=h
  rfl
 ·obtain ⟨D,rfl,DA,dn,k⟩:=h
  refine' ⟨?_,(pss_one ?h0),?_⟩
  case h0 =>
   with_reducible refine' ps_ret ?e
   case e =>
    with_reducible refine' pe_ix ?r1 ?v1 ?b1 ?p1
    case r1=>exact ix_list
    case p1=>exact (fun _ _=>rfl)
    case v1 =>
     with_reducible refine' pe_lst ?a2
     case a2 =>
      with_reducible refine' pa_cons ?e3 ?s3 se_bin
      case e3 =>
       exact (pe_op op_add pe_int (pe_fn f_law_take (hr.mono (by first | decide | omega)) (by rfl) (pa_cons (pv 0) (pa_cons pe_int pa_nil se_con) se_name)))
      case s3 =>
       with_reducible refine' pa_cons ?e5 ?s5 se_bin
       case e5 =>
        exact (pe_op op_add pe_int (pe_fn f_law_take (hr.mono (by first | decide | omega)) (by rfl) (pa_cons (pv 0) (pa_cons pe_int pa_nil se_con) se_name)))
       case s5 =>
        with_reducible refine' pa_cons ?e7 ?s7 se_bin
        case e7 =>
         exact (pe_op op_add pe_int (pe_fn f_law_take (hr.mono (by first | decide | omega)) (by rfl) (pa_cons (pv 0) (pa_cons pe_int pa_nil se_con) se_name)))
        case s7 =>
         exact pa_nil
    case b1 =>
     refine' pe_fn f_law_take (hr.mono (by first | decide | omega)) (by rfl) ?a9
     case a9 =>
      with_reducible refine' pa_cons ?e10 ?s10 se_name
      case e10 =>
       exact (pv 0)
      case s10 =>
       with_reducible refine' pa_cons ?e12 ?s12 se_con
       case e12 =>
        exact pe_int
       case s12 =>
        exact pa_nil
  try dsimp only [cxOf,Cx.nox,Cx.wish]
  rw [show L2.start ["pool"] [V.ref D.d]=[some (.ref D.d)] from rfl]
  have big:100000 < sizeLine:=by decide
  have kp0:Kp (D.more 0) H H:=Kp.of DA (Same.refl _)
  repeat walk_at "vc"
  refine i_take kp0 (by omega) (by decide) (by decide) fun r1 H1 a0 a1 o1 kp1=>?_
  repeat walk_at "vc"
  refine i_take kp1 (by omega) (by decide) (by decide) fun r2 H2 b0 b1 o2 kp2=>?_
  repeat walk_at "vc"
  refine i_take kp2 (by omega) (by decide) (by decide) fun r3 H3 c0 c1 o3 kp3=>?_
  repeat walk_at "vc"
  refine ⟨by simp [sizeLine],fun p hp=>?_⟩
  have np:¬ D.own p:=notOwn_fresh (D:=D.more _) kp3.dk hp
  generalize hE:upd H3 p _=H4
  obtain ⟨S4,q4⟩:=upd_pair hp hE
  clear hE
  have kp4:Kp (D.more 3) H H4:=kp3.trans (Kp.of kp3.dk S4)
  repeat walk_at "vc"
  refine i_take kp4 (by omega) (by decide) (by decide) fun r4 H5 d0 d1 o5 kp5=>?_
  have q5:=o5 _ _ q4 np
  obtain ⟨j,hj,rfl⟩:∃ j:Nat,j < 3/\r4=(j:Int):=⟨r4.toNat,by omega,by omega⟩
  match j,hj with
  | 0,_=>exact i_ixL (SqL.of q5) (atI_nat (j:=0) rfl) (k _ _ (by omega) (by omega) kp5)
  | 1,_=>exact i_ixL (SqL.of q5) (atI_nat (j:=1) rfl) (k _ _ (by omega) (by omega) kp5)
  | 2,_=>exact i_ixL (SqL.of q5) (atI_nat (j:=2) rfl) (k _ _ (by omega) (by omega) kp5)
end
structure Gw (ws rows:List Str) (nodes:List (List (Str × Nat))):Prop where
 len:nodes.length<=rows.length
 pos:1<=rows.length
 rok:∀ y ∈ rows,StOk ws.length y
 edge:∀ i p,p ∈ nodes.getD i []->p.1 ∈ ws/\p.2 < rows.length/\rows.getD p.2 "" = turnT (rows.getD i "") (ws.idxOf p.1)
 ndn:∀ node ∈ nodes,(node.map (·.1)).Nodup
 few:∀ node ∈ nodes,node.length<=11
structure Bld (D:Dk) (H:Hp) (Lm Lr Lq:Addr) (ws rows:List Str) (nas:List Addr) (nodes:List (List (Str × Nat))) (H':Hp):Prop where
 kp:Kp D H H'
 m0:H Lm=none
 r0:H Lr=none
 q0:H Lq=none
 f0:∀ b ∈ nas,H b=none
 hm:H' Lm=some (.lst (ws.map V.str))
 hr:H' Lr=some (.lst (rows.map V.str))
 hq:H' Lq=some (.lst (nas.map V.ref))
 nd:(Lm :: Lr :: Lq :: nas).Nodup
 nod:Paired (fun na node=>StepsAt H' na (nodeV node)) nas nodes
theorem steps_refs {H:Hp} {vs:List V} {sts:List (V × Key)} (p:Paired (fun v (s:V × Key)=>∃ b,v=.ref b/\H b=some (.tup [s.1,kV s.2])) vs sts):∀ x ∈ vs,∃ a,x=V.ref a:=by
 induction p with
 | nil=>exact fun x hx=>nomatch hx
 | cons h _ ih =>
  intro x hx
  rcases List.mem_cons.mp hx with e | hx
  ·obtain ⟨b,e',_⟩:=h; exact ⟨b,e.trans e'⟩
  ·exact ih x hx
theorem StepsAt.kp {D:Dk} {H H':Hp} {a:Addr} {sts:List (V × Key)} (DA:D.At H) (k:Kp D H H') (h:StepsAt H a sts):StepsAt H' a sts:=by
 obtain ⟨vs,h1,h2⟩:=h
 exact ⟨vs,k.refs DA h1 (steps_refs h2),paired_mono (fun v s ⟨b,e,q⟩=>⟨b,e,k.tups DA _ _ q⟩) h2⟩
theorem refs_map (nas:List Addr):∀ x ∈ nas.map V.ref,∃ a,x=V.ref a:=fun x hx=>by
 obtain ⟨a,_,e⟩:=List.mem_map.mp hx
 exact ⟨a,e.symm⟩
section
variable {D D':Dk} {H H' H'':Hp} {Lm Lr Lq:Addr} {ws rows:List Str} {nas:List Addr} {nodes:List (List (Str × Nat))}
theorem Kp.step {D D':Dk} {H H' H'':Hp} (o:∀ x y,H' x=some y->¬ D.own x->H'' x=some y) (kp:Kp D' H H'') (e:D.d=D'.d:=by rfl):Kp D' H' H'':=⟨fun x y h nx=>o x y h (by unfold Dk.own at nx ⊢; rw [e]; exact nx),kp.dk⟩
theorem Bld.draw (b:Bld D H Lm Lr Lq ws rows nas nodes H') (o:∀ x y,H' x=some y->¬ D.own x->H'' x=some y) (kp:Kp D' H H'') (l:D.n<=D'.n) (e:D.d=D'.d:=by rfl):Bld D' H Lm Lr Lq ws rows nas nodes H'' :=
 have k:Kp D' H' H'':=Kp.step o kp e
 have DA:D'.At H':=b.kp.dk.le l e
 ⟨kp,b.m0,b.r0,b.q0,b.f0,k.strs DA b.hm,k.strs DA b.hr,k.refs DA b.hq (refs_map _),b.nd,paired_mono (fun _ _ h=>h.kp DA k) b.nod⟩
theorem Bld.same (b:Bld D H Lm Lr Lq ws rows nas nodes H') (S:Same H' H''):Bld D H Lm Lr Lq ws rows nas nodes H'':=b.draw (fun x y h _=>S x y h) (b.kp.trans (Kp.of b.kp.dk S)) (Nat.le_refl _)
theorem Bld.up (b:Bld D H Lm Lr Lq ws rows nas nodes H') (l:D.n<=D'.n) (e:D.d=D'.d:=by rfl):Bld D' H Lm Lr Lq ws rows nas nodes H':=⟨b.kp.le l e,b.m0,b.r0,b.q0,b.f0,b.hm,b.hr,b.hq,b.nd,b.nod⟩
theorem Bld.lenN (b:Bld D H Lm Lr Lq ws rows nas nodes H'):nas.length=nodes.length:=paired_len b.nod
theorem Bld.neR (b:Bld D H Lm Lr Lq ws rows nas nodes H'):Lm ≠ Lr/\Lm ≠ Lq/\Lr ≠ Lq/\Lm ∉ nas/\Lr ∉ nas/\Lq ∉ nas/\nas.Nodup:=by
 have h:=b.nd
 simp only [List.nodup_cons,List.mem_cons,not_or] at h
 exact ⟨h.1.1,h.1.2.1,h.2.1.1,h.1.2.2,h.2.1.2,h.2.2.1,h.2.2.2⟩
theorem steps_off {b:Addr} {o:HO} {a:Addr} {sts:List (V × Key)} (hb:∃ xs,H' b=some (.lst xs)) (h:StepsAt H' a sts) (ne:a ≠ b):StepsAt (upd H' b o) a sts:=by
 obtain ⟨vs,h1,h2⟩:=h
 obtain ⟨xs,hb⟩:=hb
 exact ⟨vs,by rw [upd_ne ne]; exact h1,paired_mono (fun v s ⟨c,e,q⟩=>⟨c,e,by rw [upd_ne (fun z=>by rw [z,hb] at q; cases q)]; exact q⟩) h2⟩
theorem paired_mem {α β:Type} {F G:α->β->Prop}:∀ {xs:List α} {ys:List β},(∀ x ∈ xs,∀ y,F x y->G x y)->Paired F xs ys->Paired G xs ys
 | _,_,_,.nil=>.nil
 | _,_,h,.cons a t=>.cons (h _ List.mem_cons_self _ a) (paired_mem (fun x hx=>h x (List.mem_cons_of_mem _ hx)) t)
theorem Bld.addRow (b:Bld D H Lm Lr Lq ws rows nas nodes H') (DA:D.At H) (y:Str):Bld D H Lm Lr Lq ws (rows++[y]) nas nodes (upd H' Lr (.lst (rows.map V.str++[.str y]))):=by
 obtain ⟨n1,n2,n3,n4,n5,n6,n7⟩:=b.neR
 exact ⟨Kp.fresh DA b.r0 b.kp,b.m0,b.r0,b.q0,b.f0,by rw [upd_ne n1]; exact b.hm,by rw [upd_same,List.map_append]; rfl,by rw [upd_ne n3.symm]; exact b.hq,b.nd,
  paired_mem (fun na hn node h=>steps_off ⟨_,b.hr⟩ h (fun z=>n5 (z ▸ hn))) b.nod⟩
theorem Bld.addNode (b:Bld D H Lm Lr Lq ws rows nas nodes H') (DA:D.At H) {p:Addr} {node:List (Str × Nat)} (p0:H p=none) (pn:p ∉ Lm :: Lr :: Lq :: nas) (hp:StepsAt H' p (nodeV node)):Bld D H Lm Lr Lq ws rows (nas++[p]) (nodes++[node]) (upd H' Lq (.lst (nas.map V.ref++[.ref p]))):=by
 obtain ⟨n1,n2,n3,n4,n5,n6,n7⟩:=b.neR
 simp only [List.mem_cons,not_or] at pn
 obtain ⟨p1,p2,p3,p4⟩:=pn
 refine ⟨Kp.fresh DA b.q0 b.kp,b.m0,b.r0,b.q0,fun c hc=>?_,by rw [upd_ne n2]; exact b.hm,by rw [upd_ne n3]; exact b.hr,by rw [upd_same,List.map_append]; rfl,?_,paired_snoc (paired_mem (fun na hn node h=>steps_off ⟨_,b.hq⟩ h (fun z=>n6 (z ▸ hn))) b.nod) (steps_off ⟨_,b.hq⟩ hp p3)⟩
 ·rcases List.mem_append.mp hc with h | h
  ·exact b.f0 c h
  ·rw [List.mem_singleton] at h; subst h; exact p0
 ·have e:Lm :: Lr :: Lq :: (nas++[p])=(Lm :: Lr :: Lq :: nas)++[p]:=rfl
  rw [e,List.nodup_append]
  refine ⟨b.nd,by simp,fun x hx y hy z=>?_⟩
  rw [List.mem_singleton] at hy
  subst hy
  subst z
  simp only [List.mem_cons] at hx
  rcases hx with h | h | h | h
  ·exact p1 h
  ·exact p2 h
  ·exact p3 h
  ·exact p4 h
theorem Bld.new (b:Bld D H Lm Lr Lq ws rows nas nodes H') {p:Addr} (hp:H' p=none):p ∉ Lm :: Lr :: Lq :: nas:=fun h=>by
 simp only [List.mem_cons] at h
 rcases h with h | h | h | h
 ·rw [h,b.hm] at hp; cases hp
 ·rw [h,b.hr] at hp; cases hp
 ·rw [h,b.hq] at hp; cases hp
 ·obtain ⟨i,hi,e⟩:=List.mem_iff_getElem.mp h
  obtain ⟨node,_,vs,h1,_⟩:=paired_get b.nod (i:=i) (x:=p) (by rw [List.getElem?_eq_getElem hi,e])
  rw [hp] at h1; cases h1
end
theorem getD_app_lt {α:Type} {xs ys:List α} {i:Nat} {d:α} (h:i < xs.length):(xs++ys).getD i d=xs.getD i d:=by
 rw [List.getD_eq_getElem?_getD,List.getElem?_append_left h,List.getD_eq_getElem?_getD]
theorem getD_app_last {α:Type} {xs:List α} {y d:α}:(xs++[y]).getD xs.length d=y:=by
 rw [List.getD_eq_getElem?_getD,List.getElem?_append_right (Nat.le_refl _)]; simp
theorem getD_out {α:Type} {xs:List α} {i:Nat} {d:α} (h:xs.length<=i):xs.getD i d=d:=by
 rw [List.getD_eq_getElem?_getD,List.getElem?_eq_none h]; rfl
theorem getD_mem' {α:Type} {xs:List α} {i:Nat} {d x:α} (h:xs[i]?=some x):xs.getD i d=x:=by rw [List.getD_eq_getElem?_getD,h]; rfl
theorem Gw.addRow {ws rows:List Str} {nodes:List (List (Str × Nat))} (g:Gw ws rows nodes) {y:Str} (hy:StOk ws.length y):Gw ws (rows++[y]) nodes:=by
 refine ⟨by rw [List.length_append]; have:=g.len; omega,by rw [List.length_append]; have:=g.pos; omega,fun z hz=>?_,fun i p hp=>?_,g.ndn,g.few⟩
 ·rcases List.mem_append.mp hz with h | h
  ·exact g.rok z h
  ·rw [List.mem_singleton] at h; rw [h]; exact hy
 ·obtain ⟨e1,e2,e3⟩:=g.edge i p hp
  have hi:i < nodes.length:=by
   rcases Nat.lt_or_ge i nodes.length with h | h
   ·exact h
   ·rw [getD_out h] at hp; cases hp
  refine ⟨e1,by rw [List.length_append]; omega,?_⟩
  rw [getD_app_lt e2,getD_app_lt (Nat.lt_of_lt_of_le hi g.len)]
  exact e3
theorem Gw.addNode {ws rows:List Str} {nodes:List (List (Str × Nat))} (g:Gw ws rows nodes) {node:List (Str × Nat)} (l:nodes.length < rows.length) (hn:∀ p ∈ node,p.1 ∈ ws/\p.2 < rows.length/\rows.getD p.2 "" = turnT (rows.getD nodes.length "") (ws.idxOf p.1)) (nd:(node.map (·.1)).Nodup) (few:node.length<=11):Gw ws rows (nodes++[node]):=by
 refine ⟨by rw [List.length_append]; exact l,g.pos,g.rok,fun i p hp=>?_,fun x hx=>?_,fun x hx=>?_⟩
 ·rcases Nat.lt_trichotomy i nodes.length with h | h | h
  ·rw [getD_app_lt h] at hp; exact g.edge i p hp
  ·subst h; rw [getD_app_last] at hp; exact hn p hp
  ·rw [getD_out (by rw [List.length_append]; exact h)] at hp; cases hp
 ·rcases List.mem_append.mp hx with h | h
  ·exact g.ndn x h
  ·rw [List.mem_singleton] at h; rw [h]; exact nd
 ·rcases List.mem_append.mp hx with h | h
  ·exact g.few x h
  ·rw [List.mem_singleton] at h; rw [h]; exact few
theorem Gw.lab {ins outs:List Str} {rows:List Str} {nodes more:List (List (Str × Nat))} (g:Gw (ins++outs) rows nodes) (e:nodes.length=rows.length) {z:Str} (hz:rows.getD 0 "" = z) :
  Lab ⟨ins,outs,z,nodes++more⟩ (fun i=>rows.getD i ""):=by
 refine ⟨hz,fun i r p hp=>?_⟩
 have all:∀ j,Sh.R ⟨ins,outs,z,nodes++more⟩ j->j < nodes.length:=fun j rj=>by
  induction rj with
  | start=>rw [e]; exact g.pos
  | @step a b ra hb ih =>
   obtain ⟨q,hq,rfl⟩:=List.mem_map.mp hb
   have hq':q ∈ nodes.getD a []:=by
    have:(Sh.node ⟨ins,outs,z,nodes++more⟩ a)=nodes.getD a []:=getD_app_lt ih
    rw [this] at hq; exact hq
   rw [e]
   exact (g.edge a q hq').2.1
 have hi:=all i r
 have:(Sh.node ⟨ins,outs,z,nodes++more⟩ i)=nodes.getD i []:=getD_app_lt hi
 rw [this] at hp
 exact (g.edge i p hp).2.2
structure Ms (D:Dk) (H:Hp) (L Lr Lq:Addr) (ws:List Str) (m:Nat) (z0:Str) (c:Nat) (rows:List Str) (nas:List Addr) (nodes:List (List (Str × Nat))) (H':Hp):Prop where
 b:Bld (D.more c) H L Lr Lq ws rows nas nodes H'
 g:Gw ws rows nodes
 rm:rows.length<=m
 r0:rows.getD 0 "" = z0
structure Hr (H:Hp) (L Lr Lq:Addr) (ws:List Str) (row:Str) (rows:List Str) (nas:List Addr) (nodes:List (List (Str × Nat))) (he:Addr) (hs:List (Str × Nat)) (j:Nat) (H':Hp):Prop where
 lt:nodes.length < rows.length
 hrow:rows.getD nodes.length "" = row
 h0:H he=none
 new:he ∉ L :: Lr :: Lq :: nas
 at_:StepsAt H' he (nodeV hs)
 edge:∀ p ∈ hs,p.1 ∈ ws.take j/\p.2 < rows.length/\rows.getD p.2 "" = turnT row (ws.idxOf p.1)
 nd:(hs.map (·.1)).Nodup
 few:hs.length<=j
section
variable {H H' H'':Hp} {L Lr Lq:Addr} {ws rows:List Str} {row:Str} {nas:List Addr} {nodes:List (List (Str × Nat))} {he:Addr} {hs:List (Str × Nat)} {j:Nat} {D:Dk} {m c:Nat} {z0:Str}
theorem Hr.at' (h:Hr H L Lr Lq ws row rows nas nodes he hs j H') (q:StepsAt H'' he (nodeV hs)):Hr H L Lr Lq ws row rows nas nodes he hs j H'':=⟨h.lt,h.hrow,h.h0,h.new,q,h.edge,h.nd,h.few⟩
theorem Hr.same (h:Hr H L Lr Lq ws row rows nas nodes he hs j H') (S:Same H' H''):Hr H L Lr Lq ws row rows nas nodes he hs j H'':=h.at' (h.at_.same S)
theorem Ms.same (M:Ms D H L Lr Lq ws m z0 c rows nas nodes H') (S:Same H' H''):Ms D H L Lr Lq ws m z0 c rows nas nodes H'':=⟨M.b.same S,M.g,M.rm,M.r0⟩
theorem Ms.take (M:Ms D H L Lr Lq ws m z0 c rows nas nodes H') (o:∀ x y,H' x=some y->¬ D.own x->H'' x=some y) (kp:Kp (D.more (c + 1)) H H''):Ms D H L Lr Lq ws m z0 (c + 1) rows nas nodes H'':=⟨M.b.draw o kp (Nat.le_add_right _ 1),M.g,M.rm,M.r0⟩
theorem Ms.up {c':Nat} (M:Ms D H L Lr Lq ws m z0 c rows nas nodes H') (l:c<=c'):Ms D H L Lr Lq ws m z0 c' rows nas nodes H':=⟨M.b.up (Nat.add_le_add_left l _),M.g,M.rm,M.r0⟩
theorem mem_next {x:Str} (h:x ∈ ws.take j):x ∈ ws.take (j + 1):=by
 have e:ws.take j=(ws.take (j + 1)).take j:=by rw [List.take_take,Nat.min_eq_left (Nat.le_succ j)]
 rw [e] at h
 exact List.mem_of_mem_take h
theorem Hr.next (h:Hr H L Lr Lq ws row rows nas nodes he hs j H'):Hr H L Lr Lq ws row rows nas nodes he hs (j + 1) H' :=
 ⟨h.lt,h.hrow,h.h0,h.new,h.at_,fun p hp=>let ⟨a,b,c⟩:=h.edge p hp; ⟨mem_next a,b,c⟩,h.nd,Nat.le_succ_of_le h.few⟩
theorem Ms.addRow (M:Ms D H L Lr Lq ws m z0 c rows nas nodes H') (DA:D.At H) {y:Str} (hy:StOk ws.length y) (lt:rows.length < m):Ms D H L Lr Lq ws m z0 c (rows++[y]) nas nodes (upd H' Lr (.lst (rows.map V.str++[.str y]))) :=
 ⟨M.b.addRow (DA.le (Nat.le_add_right _ _)) y,M.g.addRow hy,by rw [List.length_append]; exact lt,by rw [getD_app_lt M.g.pos]; exact M.r0⟩
theorem Hr.addRow (h:Hr H L Lr Lq ws row rows nas nodes he hs j H') (hr:H' Lr=some (.lst (rows.map V.str))) (y:Str):Hr H L Lr Lq ws row (rows++[y]) nas nodes he hs j (upd H' Lr (.lst (rows.map V.str++[.str y]))):=by
 have n:=h.new
 simp only [List.mem_cons,not_or] at n
 refine ⟨by rw [List.length_append]; exact Nat.lt_succ_of_lt h.lt,by rw [getD_app_lt h.lt]; exact h.hrow,h.h0,h.new,steps_off ⟨_,hr⟩ h.at_ n.2.1,fun p hp=>?_,h.nd,h.few⟩
 obtain ⟨a,b,c⟩:=h.edge p hp
 exact ⟨a,by rw [List.length_append]; exact Nat.lt_succ_of_lt b,by rw [getD_app_lt b]; exact c⟩
theorem Hr.take (h:Hr H L Lr Lq ws row rows nas nodes he hs j H') (M:Ms D H L Lr Lq ws m z0 c rows nas nodes H') (o:∀ x y,H' x=some y->¬ D.own x->H'' x=some y) (kp:Kp (D.more (c + 1)) H H''):Hr H L Lr Lq ws row rows nas nodes he hs j H'' :=
 h.at' (h.at_.kp (M.b.kp.dk.le (Nat.le_add_right _ 1)) (Kp.step (D:=D.more c) o kp))
theorem Bld.off (b:Bld D H L Lr Lq ws rows nas nodes H') (DA:D.At H) (he0:H he=none) (hen:he ∉ L :: Lr :: Lq :: nas) (hv:∃ xs,H' he=some (.lst xs)) {o:HO}:Bld D H L Lr Lq ws rows nas nodes (upd H' he o):=by
 simp only [List.mem_cons,not_or] at hen
 obtain ⟨n1,n2,n3,n4⟩:=hen
 exact ⟨Kp.fresh DA he0 b.kp,b.m0,b.r0,b.q0,b.f0,by rw [upd_ne (Ne.symm n1)]; exact b.hm,by rw [upd_ne (Ne.symm n2)]; exact b.hr,by rw [upd_ne (Ne.symm n3)]; exact b.hq,b.nd,
  paired_mem (fun na hn node h=>steps_off hv h (fun z=>n4 (z ▸ hn))) b.nod⟩
theorem Ms.off (M:Ms D H L Lr Lq ws m z0 c rows nas nodes H') (DA:D.At H) (h:Hr H L Lr Lq ws row rows nas nodes he hs j H') {o:HO}:Ms D H L Lr Lq ws m z0 c rows nas nodes (upd H' he o) :=
 ⟨M.b.off (DA.le (Nat.le_add_right _ _)) h.h0 h.new (let ⟨vs,e,_⟩:=h.at_; ⟨vs,e⟩),M.g,M.rm,M.r0⟩
theorem Hr.turn (h:Hr H L Lr Lq ws row rows nas nodes he hs j H') {t:Addr} {nm:Str} {to:Nat} {vs:List V} (nd:ws.Nodup) (hv:H' he=some (.lst vs)) (ht:H' t=some (.tup [.str nm,.int (to:Int)])) (hw:ws[j]?=some nm) (l:to < rows.length) (e:rows.getD to "" = turnT row (ws.idxOf nm)) :
  Hr H L Lr Lq ws row rows nas nodes he (hs++[(nm,to)]) (j + 1) (upd H' he (.lst (vs++[.ref t]))):=by
 have hj:=(List.getElem?_eq_some_iff.mp hw).1
 have inn:nm ∈ ws.take (j + 1):=by
  rw [List.take_succ,hw]
  simp
 have out:nm ∉ ws.take j:=fun z=>by
  obtain ⟨i,hi,ei⟩:=List.mem_iff_getElem.mp z
  rw [List.getElem_take] at ei
  rw [List.length_take] at hi
  have hi':i < ws.length:=by omega
  have:i=j:=(List.getElem_inj (h₀:=hi') (h₁:=hj) nd).mp (ei.trans (List.getElem?_eq_some_iff.mp hw).2.symm)
  omega
 have nt:∀ {c xs},H' c=some (.tup xs)->c ≠ he:=fun q z=>by rw [z,hv] at q; cases q
 refine ⟨h.lt,h.hrow,h.h0,h.new,⟨vs++[.ref t],upd_same,?_⟩,fun p hp=>?_,?_,by rw [List.length_append]; exact Nat.succ_le_succ h.few⟩
 ·obtain ⟨vs',h1,h2⟩:=h.at_
  rw [hv] at h1
  cases h1
  unfold nodeV at h2 ⊢
  rw [List.map_append]
  exact paired_snoc (paired_mono (fun v s ⟨c,e,q⟩=>⟨c,e,by rw [upd_ne (nt q)]; exact q⟩) h2) ⟨t,rfl,by rw [upd_ne (nt ht)]; exact ht⟩
 ·rcases List.mem_append.mp hp with q | q
  ·obtain ⟨a,b,c⟩:=h.edge p q
   exact ⟨mem_next a,b,c⟩
  ·rw [List.mem_singleton] at q
   subst q
   exact ⟨inn,l,e⟩
 ·rw [List.map_append,List.nodup_append]
  refine ⟨h.nd,by simp,fun a ha b hb z=>?_⟩
  obtain ⟨p,hp,rfl⟩:=List.mem_map.mp ha
  have hb':b=nm:=by simpa using hb
  exact out (by rw [<-hb',<-z]; exact (h.edge p hp).1)
end
theorem paired_perm {α β:Type} {F:α->β->Prop} {ys vs:List α} (h:ys.Perm vs):∀ {zs:List β},Paired F vs zs->∃ zs',zs'.Perm zs/\Paired F ys zs':=by
 induction h with
 | nil=>intro zs p; cases p; exact ⟨[],.nil,.nil⟩
 | cons x h ih =>
  intro zs p
  cases p with
  | cons a t=>obtain ⟨z',e,q⟩:=ih t; exact ⟨_ :: z',e.cons _,.cons a q⟩
 | swap x y l =>
  intro zs p
  cases p with
  | cons a t =>
   cases t with
   | cons b t=>exact ⟨_ :: _ :: _,.swap _ _ _,.cons b (.cons a t)⟩
 | trans h1 h2 ih1 ih2 =>
  intro zs p
  obtain ⟨z1,e1,q1⟩:=ih2 p
  obtain ⟨z2,e2,q2⟩:=ih1 q1
  exact ⟨z2,e2.trans e1,q2⟩
theorem paired_ofmap {α β γ:Type} {F:α->γ->Prop} {f:β->γ}:∀ {vs:List α} {hs:List β},Paired F vs (hs.map f)->Paired (fun v p=>F v (f p)) vs hs
 | _,[],p=>by cases p; exact .nil
 | _,b :: hs,p=>by
  rw [List.map_cons] at p
  cases p with
  | cons a t=>exact .cons a (paired_ofmap t)
theorem paired_tomap {α β γ:Type} {F:α->γ->Prop} {f:β->γ}:∀ {vs:List α} {hs:List β},Paired (fun v p=>F v (f p)) vs hs->Paired F vs (hs.map f)
 | _,[],p=>by cases p; exact .nil
 | _,b :: hs,p=>by
  cases p with
  | cons a t=>exact .cons a (paired_tomap t)
theorem steps_perm {H:Hp} {he l:Addr} {hs:List (Str × Nat)} {vs ys:List V} (h:StepsAt H he (nodeV hs)) (hv:H he=some (.lst vs)) (pm:ys.Perm vs) (hl:H l=some (.lst ys)):∃ hs',hs'.Perm hs/\StepsAt H l (nodeV hs'):=by
 obtain ⟨vs',h1,h2⟩:=h
 rw [hv] at h1
 cases h1
 obtain ⟨hs',e,q⟩:=paired_perm pm (paired_ofmap h2)
 exact ⟨hs',e,ys,hl,paired_tomap q⟩
structure Xr (H:Hp) (L Lr Lq:Addr) (ws:List Str) (nas:List Addr) (tot:Nat) (he:Addr) (hs:List (Str × Nat)) (j:Nat) (H':Hp):Prop where
 h0:H he=none
 new:he ∉ L :: Lr :: Lq :: nas
 at_:StepsAt H' he (nodeV hs)
 edge:∀ p ∈ hs,p.1 ∈ ws.take j/\p.2 < tot
 nd:(hs.map (·.1)).Nodup
 few:hs.length<=j
section
variable {H H' H'':Hp} {L Lr Lq:Addr} {ws:List Str} {nas:List Addr} {tot:Nat} {he:Addr} {hs:List (Str × Nat)} {j:Nat}
theorem Xr.at' (h:Xr H L Lr Lq ws nas tot he hs j H') (q:StepsAt H'' he (nodeV hs)):Xr H L Lr Lq ws nas tot he hs j H'':=⟨h.h0,h.new,q,h.edge,h.nd,h.few⟩
theorem Xr.next (h:Xr H L Lr Lq ws nas tot he hs j H'):Xr H L Lr Lq ws nas tot he hs (j + 1) H':=⟨h.h0,h.new,h.at_,fun p hp=>let ⟨a,b⟩:=h.edge p hp; ⟨mem_next a,b⟩,h.nd,Nat.le_succ_of_le h.few⟩
theorem Xr.turn (h:Xr H L Lr Lq ws nas tot he hs j H') {t:Addr} {nm:Str} {to:Nat} {vs:List V} (nd:ws.Nodup) (hv:H' he=some (.lst vs)) (ht:H' t=some (.tup [.str nm,.int (to:Int)])) (hw:ws[j]?=some nm) (l:to < tot) :
  Xr H L Lr Lq ws nas tot he (hs++[(nm,to)]) (j + 1) (upd H' he (.lst (vs++[.ref t]))):=by
 have hj:=(List.getElem?_eq_some_iff.mp hw).1
 have inn:nm ∈ ws.take (j + 1):=by
  rw [List.take_succ,hw]
  simp
 have out:nm ∉ ws.take j:=fun z=>by
  obtain ⟨i,hi,ei⟩:=List.mem_iff_getElem.mp z
  rw [List.getElem_take] at ei
  rw [List.length_take] at hi
  have hi':i < ws.length:=by omega
  have:i=j:=(List.getElem_inj (h₀:=hi') (h₁:=hj) nd).mp (ei.trans (List.getElem?_eq_some_iff.mp hw).2.symm)
  omega
 have nt:∀ {c xs},H' c=some (.tup xs)->c ≠ he:=fun q z=>by rw [z,hv] at q; cases q
 refine ⟨h.h0,h.new,⟨vs++[.ref t],upd_same,?_⟩,fun p hp=>?_,?_,by rw [List.length_append]; exact Nat.succ_le_succ h.few⟩
 ·obtain ⟨vs',h1,h2⟩:=h.at_
  rw [hv] at h1
  cases h1
  unfold nodeV at h2 ⊢
  rw [List.map_append]
  exact paired_snoc (paired_mono (fun v s ⟨c,e,q⟩=>⟨c,e,by rw [upd_ne (nt q)]; exact q⟩) h2) ⟨t,rfl,by rw [upd_ne (nt ht)]; exact ht⟩
 ·rcases List.mem_append.mp hp with q | q
  ·obtain ⟨a,b⟩:=h.edge p q
   exact ⟨mem_next a,b⟩
  ·rw [List.mem_singleton] at q
   subst q
   exact ⟨inn,l⟩
 ·rw [List.map_append,List.nodup_append]
  refine ⟨h.nd,by simp,fun a ha b hb z=>?_⟩
  obtain ⟨p,hp,rfl⟩:=List.mem_map.mp ha
  have hb':b=nm:=by simpa using hb
  exact out (by rw [<-hb',<-z]; exact (h.edge p hp).1)
end

noncomputable def spSheetP:Sp:=fun vs H Q _=>∃ (D:Dk) (m:Nat),vs=[.ref D.d,.int (m:Int)]/\D.At H/\D.n < 10000/\1<=m/\m<=40 /\
 ∀ a li lo ln nas s H',Kp (D.more 20000) H H'->ShAt H' a li lo ln nas s->ShOk s->(∃ lam,Lab s lam)->(∀ node ∈ s.nodes,(node.map (·.1)).Nodup)->H a=none->H li=none->H lo=none->H ln=none->(∀ b ∈ nas,H b=none)->Q (.ref a) H'
section
variable {P:Program} {w:World} {K:PySem.W.Frag} {mg:Str->Option Value} {base:Heap} {TT:Addr}
theorem sc_law_sheet:FnScope ["pool", "most", "names", "low", "at", "rows", "nodes", "often", "here", "k", "name", "signs", "alike", "new", "total"] ["pool", "most"] (defScope (top 19)):=⟨rfl,rfl,rfl,by decide +kernel,rfl,by decide +kernel,by decide +kernel⟩
theorem ok_sheetP {f:Addr} {fd:FuncData} (Fu:Fun K "_law_sheet" "_law_sheet" (top 19) f fd) (T:Txt K mg TT) (f_law_take:Fn P w K mg base "_law_take" ["pool", "many"] 1 spDraw) (f_law_names:Fn P w K mg base "_law_names" ["pool", "many"] 2 spNamesP) (f_law_order:Fn P w K mg base "_law_order" ["pool", "things"] 2 (spOrder K)) (f_law_turned:Fn P w K mg base "_law_turned" ["signs", "at"] 1 spTurned):FnOk P w K mg base CX0 3 f fd ["pool", "most"] spSheetP:=by
 have S:=sc_law_sheet
 refine Fu.ok S (fun vs H Q E h=>?_) (fun cdv A outer s H vs Q E hr h=>?_)
 ·obtain ⟨D,m,rfl,_⟩:=h
  rfl
 ·obtain ⟨D,m,rfl,DA,dn,m1,m40,k⟩:=h
  refine' ⟨?_,(pss_cons ?h0 (pss_cons ?h1 (pss_cons ?h2 (pss_cons ?h3 (pss_cons ?h4 (pss_cons ?h5 (pss_cons (ps_while PassesOwn.never ?h6 (pss_cons ?h7 (pss_cons (ps_for PassesOwn.never rfl ?h8 ?h9 (pss_cons ?h10 (pss_cons ?h11 (pss_cons ?h12 (pss_cons (ps_if ?h13 (pss_one ?h14) pss_nil) (pss_one (ps_if ?h15 (pss_cons (ps_if ?h16 (pss_cons ?h17 (pss_one ?h18)) pss_nil) (pss_one ?h19)) pss_nil))))))) (pss_one ?h20)))) (pss_cons ?h21 (pss_cons (ps_while PassesOwn.never ?h22 (pss_one ?h23)) (pss_one ?h24)))))))))),?_⟩
  case h0 =>
   refine' ps_set (i:=2) ?n ?r ?l ?e ?s ?f
   case n=>exact S.nd
   case r=>rfl
   case l=>first | exact Or.inl rfl | exact Or.inr rfl
   case s=>rfl
   case f=>first | exact Or.inl rfl | exact Or.inr rfl
   case e =>
    refine' pe_fn f_law_names (hr.mono (by first | decide | omega)) (by rfl) ?a1
    case a1 =>
     with_reducible refine' pa_cons ?e2 ?s2 se_name
     case e2 =>
      exact (pv 0)
     case s2 =>
      with_reducible refine' pa_cons ?e4 ?s4 se_bin
      case e4 =>
       exact (pe_op op_add pe_int (pe_ix ix_list (pe_lst (pa_cons (pe_fn f_law_take (hr.mono (by first | decide | omega)) (by rfl) (pa_cons (pv 0) (pa_cons pe_int pa_nil se_con) se_name)) (pa_cons (pe_fn f_law_take (hr.mono (by first | decide | omega)) (by rfl) (pa_cons (pv 0) (pa_cons pe_int pa_nil se_con) se_name)) (pa_cons (pe_fn f_law_take (hr.mono (by first | decide | omega)) (by rfl) (pa_cons (pv 0) (pa_cons pe_int pa_nil se_con) se_name)) pa_nil se_call) se_call) se_call)) (pe_fn f_law_take (hr.mono (by first | decide | omega)) (by rfl) (pa_cons (pv 0) (pa_cons pe_int pa_nil se_con) se_name)) (fun _ _=>rfl)))
      case s4 =>
       exact pa_nil
  case h1 =>
   refine' ps_set (i:=3) ?n ?r ?l ?e ?s ?f
   case n=>exact S.nd
   case r=>rfl
   case l=>first | exact Or.inl rfl | exact Or.inr rfl
   case s=>rfl
   case f=>first | exact Or.inl rfl | exact Or.inr rfl
   case e=>exact (pe_callB (call_max2 rfl) (by rfl) T.n_max PyProof.Rows.boot_max (pa_cons pe_int (pa_cons (pe_op op_sub (pe_callB call_len_seq (by rfl) T.n_len PySem.boot_len (pa_cons (pv 2) pa_nil se_name)) pe_int) pa_nil) se_con))
  case h2 =>
   refine' ps_set (i:=4) ?n ?r ?l ?e ?s ?f
   case n=>exact S.nd
   case r=>rfl
   case l=>first | exact Or.inl rfl | exact Or.inr rfl
   case s=>rfl
   case f=>first | exact Or.inl rfl | exact Or.inr rfl
   case e=>exact (pe_op op_add (pv 3) (pe_fn f_law_take (hr.mono (by first | decide | omega)) (by rfl) (pa_cons (pv 0) (pa_cons (pe_op op_add (pe_op op_sub (pe_callB (call_min2 rfl) (by rfl) T.n_min PyProof.Rows.boot_min (pa_cons pe_int (pa_cons (pe_op op_sub (pe_callB call_len_seq (by rfl) T.n_len PySem.boot_len (pa_cons (pv 2) pa_nil se_name)) pe_int) pa_nil) se_con)) (pv 3)) pe_int) pa_nil) se_name)))
  case h3 =>
   refine' ps_set (i:=5) ?n ?r ?l ?e ?s ?f
   case n=>exact S.nd
   case r=>rfl
   case l=>first | exact Or.inl rfl | exact Or.inr rfl
   case s=>rfl
   case f=>first | exact Or.inl rfl | exact Or.inr rfl
   case e=>exact (pe_lst (pa_cons (pe_bm PySem.F.plainAttrs_str PySem.F.slot_str_join PySem.F.type_str_join mt_join pe_str (pa_cons (pe_lc (tgs:=["name"]) (cap:=[("pool", 0)]) rfl ⟨rfl,rfl,rfl,rfl,rfl,rfl⟩ (pi_list (pv 2)) (fun _ _ _ _=>(pg_name (i:=0) (show List.Nodup [("name" : Str),("pool" : Str)] by decide +kernel) rfl (by first | exact Or.inl rfl | exact Or.inr rfl))) (fun _ _ _ _=>pifs_nil) (fun _ _ _ _=>(pe_ix ix_str pe_str (pe_fn f_law_take (hr.mono (by first | decide | omega)) (by rfl) (pa_cons (pv 1) (pa_cons pe_int pa_nil se_con) se_name)) (fun _ _=>rfl)))) pa_nil)) pa_nil se_call))
  case h4 =>
   refine' ps_set (i:=6) ?n ?r ?l ?e ?s ?f
   case n=>exact S.nd
   case r=>rfl
   case l=>first | exact Or.inl rfl | exact Or.inr rfl
   case s=>rfl
   case f=>first | exact Or.inl rfl | exact Or.inr rfl
   case e=>exact (pe_lst pa_nil)
  case h5 =>
   refine' ps_set (i:=7) ?n ?r ?l ?e ?s ?f
   case n=>exact S.nd
   case r=>rfl
   case l=>first | exact Or.inl rfl | exact Or.inr rfl
   case s=>rfl
   case f=>first | exact Or.inl rfl | exact Or.inr rfl
   case e=>exact (pe_op op_add pe_int (pe_fn f_law_take (hr.mono (by first | decide | omega)) (by rfl) (pa_cons (pv 0) (pa_cons pe_int pa_nil se_con) se_name)))
  case h6=>exact (pt_cmpR op_lt (pe_callB call_len_seq (by rfl) T.n_len PySem.boot_len (pa_cons (pv 6) pa_nil se_name)) (pe_callB call_len_seq (by rfl) T.n_len PySem.boot_len (pa_cons (pv 5) pa_nil se_name)) (nomark _))
  case h7 =>
   refine' ps_set (i:=8) ?n ?r ?l ?e ?s ?f
   case n=>exact S.nd
   case r=>rfl
   case l=>first | exact Or.inl rfl | exact Or.inr rfl
   case s=>rfl
   case f=>first | exact Or.inl rfl | exact Or.inr rfl
   case e=>exact (pe_lst pa_nil)
  case h8=>exact (pi_enum (by rfl) T.n_enumerate (pa_cons (pv 2) pa_nil se_name))
  case h9=>exact (pg_tup rfl (pgs_cons (pg_name (i:=9) S.nd rfl (by first | exact Or.inl rfl | exact Or.inr rfl)) (pgs_cons (pg_name (i:=10) S.nd rfl (by first | exact Or.inl rfl | exact Or.inr rfl)) pgs_nil)))
  case h10 =>
   refine' ps_set (i:=11) ?n ?r ?l ?e ?s ?f
   case n=>exact S.nd
   case r=>rfl
   case l=>first | exact Or.inl rfl | exact Or.inr rfl
   case s=>rfl
   case f=>first | exact Or.inl rfl | exact Or.inr rfl
   case e=>exact (pe_fn f_law_turned (hr.mono (by first | decide | omega)) (by rfl) (pa_cons (pe_ix ix_list (pv 5) (pe_callB call_len_seq (by rfl) T.n_len PySem.boot_len (pa_cons (pv 6) pa_nil se_name)) (fun _ _=>rfl)) (pa_cons (pv 9) pa_nil se_name)))
  case h11=>exact (ps_lc (j:=12) S.nd rfl (by first | exact Or.inl rfl | exact Or.inr rfl) (tgs:=["to", "one"]) (cap:=[("signs", 11)]) rfl ⟨rfl,rfl,rfl,rfl,rfl,rfl⟩ (pi_enum (by rfl) T.n_enumerate (pa_cons (pv 5) pa_nil se_name)) (fun _ _ _ _=>(pg_tupK (K:=K) (n:=2) rfl rfl (pgs_cons (pg_name (i:=0) (show List.Nodup [("to" : Str),("one" : Str),("signs" : Str)] by decide +kernel) rfl (by first | exact Or.inl rfl | exact Or.inr rfl)) (pgs_cons (pg_name (i:=1) (show List.Nodup [("to" : Str),("one" : Str),("signs" : Str)] by decide +kernel) rfl (by first | exact Or.inl rfl | exact Or.inr rfl)) pgs_nil)))) (fun _ _ _ _=>(pifs_one (pt_cmpR op_eq (pv 1) (pv 2) (nomark _)))) (fun _ _ _ _=>(pv 0)))
  case h12 =>
   refine' ps_set (i:=13) ?n ?r ?l ?e ?s ?f
   case n=>exact S.nd
   case r=>rfl
   case l=>first | exact Or.inl rfl | exact Or.inr rfl
   case s=>rfl
   case f=>first | exact Or.inl rfl | exact Or.inr rfl
   case e =>
    exact (pe_or (pe_cmpR (op_eqL hr.units) (pv 12) (pe_lst pa_nil) (nomark _)) (pe_one (pe_cmpR op_eq (pe_fn f_law_take (hr.mono (by first | decide | omega)) (by rfl) (pa_cons (pv 0) (pa_cons pe_int pa_nil se_con) se_name)) pe_int (nomark _))))
  case h13=>exact (pt_cmpR op_ge (pe_callB call_len_seq (by rfl) T.n_len PySem.boot_len (pa_cons (pv 5) pa_nil se_name)) (pv 1) (nomark _))
  case h14 =>
   refine' ps_set (i:=13) ?n ?r ?l ?e ?s ?f
   case n=>exact S.nd
   case r=>rfl
   case l=>first | exact Or.inl rfl | exact Or.inr rfl
   case s=>rfl
   case f=>first | exact Or.inl rfl | exact Or.inr rfl
   case e=>exact pe_bl
  case h15=>exact (PW.pt (pw_and (pt_cmpR op_lt (pe_fn f_law_take (hr.mono (by first | decide | omega)) (by rfl) (pa_cons (pv 0) (pa_cons pe_int pa_nil se_con) se_name)) (pv 7) (nomark _)) (pw_and1 (PW.pt (pw_or (pt_val (pv 13)) (pw_or1 (pt_cmpR (op_neL hr.units) (pv 12) (pe_lst pa_nil) (nomark _))))))))
  case h16=>exact (pt_val (pv 13))
  case h17=>exact (ps_expr (pe_bm PySem.F.plainAttrs_list PySem.F.slot_list_append PySem.F.type_list_append mt_append (pv 5) (pa_cons (pv 11) pa_nil se_name)))
  case h18 =>
   refine' ps_set (i:=12) ?n ?r ?l ?e ?s ?f
   case n=>exact S.nd
   case r=>rfl
   case l=>first | exact Or.inl rfl | exact Or.inr rfl
   case s=>rfl
   case f=>first | exact Or.inl rfl | exact Or.inr rfl
   case e=>exact (pe_lst (pa_cons (pe_op op_sub (pe_callB call_len_seq (by rfl) T.n_len PySem.boot_len (pa_cons (pv 5) pa_nil se_name)) pe_int) pa_nil))
  case h19 =>
   refine' ps_expr ?e
   case e =>
    refine' pe_bm PySem.F.plainAttrs_list PySem.F.slot_list_append PySem.F.type_list_append mt_append (pv 8) ?a
    case a =>
     with_reducible refine' pa_cons ?e7 ?s7 se_tup
     case e7 =>
      with_reducible refine' pe_tup ?a8
      case a8 =>
       with_reducible refine' pa_cons ?e9 ?s9 se_name
       case e9 =>
        exact (pv 10)
       case s9 =>
        with_reducible refine' pa_cons ?e11 ?s11 se_sub
        case e11 =>
         with_reducible refine' pe_ix ?r12 ?v12 ?b12 ?p12
         case r12=>exact ix_list
         case p12=>exact (fun _ _=>rfl)
         case v12 =>
          exact (pv 12)
         case b12 =>
          refine' pe_fn f_law_take (hr.mono (by first | decide | omega)) (by rfl) ?a14
          case a14 =>
           with_reducible refine' pa_cons ?e15 ?s15 se_name
           case e15 =>
            exact (pv 0)
           case s15 =>
            with_reducible refine' pa_cons ?e17 ?s17 se_call
            case e17 =>
             exact (pe_callB call_len_seq (by rfl) T.n_len PySem.boot_len (pa_cons (pv 12) pa_nil se_name))
            case s17 =>
             exact pa_nil
        case s11 =>
         exact pa_nil
     case s7 =>
      exact pa_nil
  case h20=>exact (ps_expr (pe_bm PySem.F.plainAttrs_list PySem.F.slot_list_append PySem.F.type_list_append mt_append (pv 6) (pa_cons (pe_fn f_law_order (hr.mono (by first | decide | omega)) (by rfl) (pa_cons (pv 0) (pa_cons (pv 8) pa_nil se_name) se_name)) pa_nil se_call)))
  case h21 =>
   refine' ps_set (i:=14) ?n ?r ?l ?e ?s ?f
   case n=>exact S.nd
   case r=>rfl
   case l=>first | exact Or.inl rfl | exact Or.inr rfl
   case s=>rfl
   case f=>first | exact Or.inl rfl | exact Or.inr rfl
   case e=>exact (pe_op op_add (pe_callB call_len_seq (by rfl) T.n_len PySem.boot_len (pa_cons (pv 6) pa_nil se_name)) (pe_op op_mul (pe_fn f_law_take (hr.mono (by first | decide | omega)) (by rfl) (pa_cons (pv 0) (pa_cons pe_int pa_nil se_con) se_name)) (pe_fn f_law_take (hr.mono (by first | decide | omega)) (by rfl) (pa_cons (pv 0) (pa_cons (pe_callB (call_min2 rfl) (by rfl) T.n_min PyProof.Rows.boot_min (pa_cons pe_int (pa_cons (pe_op op_sub pe_int (pe_callB call_len_seq (by rfl) T.n_len PySem.boot_len (pa_cons (pv 6) pa_nil se_name))) pa_nil) se_con)) pa_nil se_call) se_name))))
  case h22=>exact (pt_cmpR op_lt (pe_callB call_len_seq (by rfl) T.n_len PySem.boot_len (pa_cons (pv 6) pa_nil se_name)) (pv 14) (nomark _))
  case h23 =>
   refine' ps_expr ?e
   case e =>
    refine' pe_bm PySem.F.plainAttrs_list PySem.F.slot_list_append PySem.F.type_list_append mt_append (pv 6) ?a
    case a =>
     with_reducible refine' pa_cons ?e19 ?s19 se_lc
     case e19 =>
      exact (pe_lc (tgs:=["name"]) (cap:=[("pool", 0),("total", 14)]) rfl ⟨rfl,rfl,rfl,rfl,rfl,rfl⟩ (pi_list (pv 2)) (fun _ _ _ _=>(pg_name (i:=0) (show List.Nodup [("name" : Str),("pool" : Str),("total" : Str)] by decide +kernel) rfl (by first | exact Or.inl rfl | exact Or.inr rfl))) (fun _ _ _ _=>(pifs_one (pt_cmpR op_eq (pe_fn f_law_take (hr.mono (by first | decide | omega)) (by rfl) (pa_cons (pv 1) (pa_cons pe_int pa_nil se_con) se_name)) pe_int (nomark _)))) (fun _ _ _ _=>(pe_tup (pa_cons (pv 0) (pa_cons (pe_fn f_law_take (hr.mono (by first | decide | omega)) (by rfl) (pa_cons (pv 1) (pa_cons (pv 2) pa_nil se_name) se_name)) pa_nil se_call) se_name))))
     case s19 =>
      exact pa_nil
  case h24 =>
   with_reducible refine' ps_ret ?e
   case e =>
    with_reducible refine' pe_tup ?a21
    case a21 =>
     with_reducible refine' pa_cons ?e22 ?s22 se_sub
     case e22 =>
      exact (pe_slice sl_list (pv 2) po_none (po_some (pv 4)))
     case s22 =>
      with_reducible refine' pa_cons ?e24 ?s24 se_sub
      case e24 =>
       exact (pe_slice sl_list (pv 2) (po_some (pv 4)) po_none)
      case s24 =>
       with_reducible refine' pa_cons ?e26 ?s26 se_sub
       case e26 =>
        with_reducible refine' pe_ix ?r27 ?v27 ?b27 ?p27
        case r27=>exact ix_list
        case p27=>exact (fun _ _=>rfl)
        case v27 =>
         exact (pv 5)
        case b27 =>
         exact pe_int
       case s26 =>
        with_reducible refine' pa_cons ?e30 ?s30 se_name
        case e30 =>
         exact (pv 6)
        case s30 =>
         exact pa_nil
  try dsimp only [cxOf,Cx.nox,Cx.wish]
  rw [show L2.start ["pool", "most", "names", "low", "at", "rows", "nodes", "often", "here", "k", "name", "signs", "alike", "new", "total"] [V.ref D.d,V.int (m:Int)]=[some (.ref D.d),some (.int (m:Int)),none,none,none,none,none,none,none,none,none,none,none,none,none] from rfl]
  have big:100000 < sizeLine:=by decide
  have kp0:Kp (D.more 0) H H:=Kp.of DA (Same.refl _)
  repeat walk_at "vc"
  refine i_take kp0 (by omega) (by decide) (by decide) fun r1 H1 a0 a1 o1 kp1=>?_
  repeat walk_at "vc"
  refine i_take kp1 (by omega) (by decide) (by decide) fun r2 H2 b0 b1 o2 kp2=>?_
  repeat walk_at "vc"
  refine i_take kp2 (by omega) (by decide) (by decide) fun r3 H3 c0 c1 o3 kp3=>?_
  repeat walk_at "vc"
  refine ⟨by simp [sizeLine],fun p hp=>?_⟩
  have np:¬ D.own p:=notOwn_fresh (D:=D.more _) kp3.dk hp
  generalize hE:upd H3 p _=H4
  obtain ⟨S4,q4⟩:=upd_pair hp hE
  clear hE
  have kp4:Kp (D.more 3) H H4:=kp3.trans (Kp.of kp3.dk S4)
  repeat walk_at "vc"
  refine i_take kp4 (by omega) (by decide) (by decide) fun r4 H5 d0 d1 o5 kp5=>?_
  have q5:=o5 _ _ q4 np
  obtain ⟨y,hy0,hy1,ey⟩:∃ y:Nat,1<=y/\y<=11/\atI [V.int r1,V.int r2,V.int r3] r4=some (.int ((y:Int) - 1)):=by
   obtain ⟨j,hj,rfl⟩:∃ j:Nat,j < 3/\r4=(j:Int):=⟨r4.toNat,by omega,by omega⟩
   match j,hj with
   | 0,_=>exact ⟨r1.toNat + 1,by omega,by omega,by rw [show ((r1.toNat + 1:Nat):Int) - 1=r1 by omega]; exact atI_nat (j:=0) rfl⟩
   | 1,_=>exact ⟨r2.toNat + 1,by omega,by omega,by rw [show ((r2.toNat + 1:Nat):Int) - 1=r2 by omega]; exact atI_nat (j:=1) rfl⟩
   | 2,_=>exact ⟨r3.toNat + 1,by omega,by omega,by rw [show ((r3.toNat + 1:Nat):Int) - 1=r3 by omega]; exact atI_nat (j:=2) rfl⟩
  refine i_ixL (SqL.of q5) ey ?_
  clear q5 ey o5 q4 S4 kp4 np o1 o2 o3 kp1 kp2 kp3 hp a0 a1 b0 b1 c0 c1 d0 d1
  repeat walk_at "vc"
  refine ⟨D.more 4,y,by rw [show (1:Int) + ((y:Int) - 1)=(y:Int) by omega]; rfl,kp5.dk,by show D.n + 4 < 50000; omega,hy0,hy1,fun L ws H6 k6 hL lw nd hL6=>?_⟩
  have kp6:Kp (D.more 204) H H6:=(kp5.trans k6).le (by show D.n + 4 + 200<=D.n + 204; omega)
  have nL:¬ D.own L:=notOwn_fresh (D:=D.more _) kp5.dk hL
  have HLn:H L=none:=kp5.free hL
  clear kp5 k6 hL
  repeat walk_at "vc"
  refine ⟨_,_,rfl,?_⟩
  rw [List.length_map,lw]
  obtain ⟨lo,elo,lo1,lo2⟩:∃ lo:Nat,(if (y:Int) - 7 > 0 then (y:Int) - 7 else 0)=(lo:Int)/\lo<=4/\lo + 1<=y:=by
   refine ⟨y - 7,?_,by omega,by omega⟩
   split <;> omega
  rw [elo]
  repeat walk_at "vc"
  refine ⟨_,_,rfl,?_⟩
  rw [List.length_map,lw]
  obtain ⟨mi,emi,mi1,mi2,mi3⟩:∃ mi:Nat,(if (y:Int) - 1 < 4 then (y:Int) - 1 else 4)=(mi:Int)/\mi<=4/\mi + 1<=y/\lo<=mi:=by
   refine ⟨min 4 (y - 1),?_,by omega,by omega,?_⟩
   ·split <;> omega
   ·have:(if (y:Int) - 7 > 0 then (y:Int) - 7 else 0)=(lo:Int):=elo
    split at this <;> omega
  rw [emi]
  repeat walk_at "vc"
  refine i_take kp6 (by omega) (by omega) (by omega) fun r7 H7 e0 e1 o7 kp7=>?_
  have hL7:=o7 _ _ hL6 nL
  obtain ⟨at',eat,at1⟩:∃ at':Nat,(lo:Int) + r7=(at':Int)/\at'<=mi:=⟨lo + r7.toNat,by omega,by omega⟩
  clear o7 hL6 kp6
  repeat walk_at "vc"
  rw [eat]
  clear eat e0 e1 elo emi lo1 lo2
  repeat walk_at "vc"
  refine ⟨i_tyS,?_⟩
  repeat walk_at "vc"
  refine i_comp (s_list (i_var rfl ⟨L,rfl,⟨_,SqL.of hL7⟩,fun L1 hL1=>?_⟩))
  have HL1:H L1=none:=kp7.free hL1
  have nL1:¬ D.own L1:=notOwn_fresh (D:=D.more _) kp7.dk hL1
  have LL1:L ≠ L1:=ne_of_none hL7 hL1
  refine comp_list (xs:=ws.map V.str) (fun n H' ys=>Kp (D.more (205 + n)) H H'/\H' L1=some (.lst ys)/\H' L=some (.lst (ws.map V.str))/\∃ zs:List Str,ys=zs.map V.str/\zs.length=n/\∀ z ∈ zs,∃ c ∈ [48,49],z=⟨#[c]⟩)
   ⟨(Kp.new kp7 hL1).up (by omega),upd_same,by rw [upd_ne LL1]; exact hL7,[],rfl,rfl,fun z h=>nomatch h⟩ (fun i H ys p=>⟨p.2.1,SqL.of p.2.2.1⟩) (fun i x H' ys hx p=>?_) (fun H8 ys p=>?_)
  ·obtain ⟨kp,hl,hw,zs,rfl,hz,hc⟩:=p
   refine s_name ⟨by repeat' (first | exact trivial | refine ⟨rfl,?_⟩),i_yes (iteT ?_)⟩
   refine i_op (i_c (i_call (i_cons (i_var rfl (i_cons (i_c (i_nil ?_)))))))
   have hi:i < (ws.map V.str).length:=(List.getElem?_eq_some_iff.mp hx).1
   rw [List.length_map] at hi
   refine i_take kp (by omega) (by decide) (by decide) fun r H'' r0 r2 o2 k2=>?_
   obtain ⟨c,hc',ec⟩:∃ c:Nat,c ∈ [48,49]/\atI ("01" : Str).cps.toList r=some c:=by
    have hr:r=0\/r=1:=by omega
    rcases hr with e | e
    ·subst e; exact ⟨48,by simp,by decide +kernel⟩
    ·subst e; exact ⟨49,by simp,by decide +kernel⟩
   refine ⟨"01", r,c,rfl,rfl,by decide,ec,?_⟩
   refine NextC.mk (o2 _ _ hl nL1) (by rw [List.length_map]; exact hi) (by rw [List.length_map]; omega) ⟨Kp.fresh (DA.le (Nat.le_add_right _ _)) HL1 (k2.up (by omega)),upd_same,by rw [upd_ne LL1]; exact o2 _ _ hw nL,zs++[⟨#[c]⟩],by simp,by simp [hz],fun z hz'=>?_⟩
   rcases List.mem_append.mp hz' with h | h
   ·exact hc z h
   ·rw [List.mem_singleton] at h
    exact ⟨c,hc',h⟩
  obtain ⟨kp8,hl8,hL8,zs,rfl,hz,hc⟩:=p
  rw [List.length_map] at hz
  obtain ⟨js,jc⟩:=join_size hc
  obtain ⟨_,_,jl⟩:=letters_flat zs hc
  refine i_nil (i_join hl8 (by rw [jl,show (Str.ofString "").length=0 from by decide]; omega) ?_)
  have st0:StOk ws.length (Txt.join "" zs):=⟨by rw [<-hz]; exact js,fun c hc'=>by
   have:=jc c hc'
   simpa using this⟩
  generalize Txt.join "" zs=z0 at *
  have kp8':Kp (D.more 220) H H8:=kp8.up (by rw [List.length_map]; omega)
  clear kp8 hl8 hL1 hL7 kp7 jl js jc hc hz
  repeat walk_at "vc"
  refine ⟨by simp [sizeLine],fun Lr hLr=>?_⟩
  generalize hE:upd H8 Lr _=H9
  obtain ⟨S9,hr9⟩:=upd_pair hLr hE
  clear hE
  have kp9:Kp (D.more 220) H H9:=kp8'.trans (Kp.of kp8'.dk S9)
  have Lr0:H Lr=none:=kp8'.free hLr
  have hm9:=S9 _ _ hL8
  have nLr:=ne_of_none hL8 hLr
  repeat walk_at "vc"
  refine ⟨by simp [sizeLine],fun Lq hLq=>?_⟩
  generalize hE:upd H9 Lq _=H10
  obtain ⟨S10,hq10⟩:=upd_pair hLq hE
  clear hE
  have kp10:Kp (D.more 220) H H10:=kp9.trans (Kp.of kp9.dk S10)
  have Lq0:H Lq=none:=kp9.free hLq
  have b0:Bld (D.more 220) H L Lr Lq ws [z0] [] [] H10:=⟨kp10,HLn,Lr0,Lq0,(fun b h=>nomatch h),S10 _ _ hm9,S10 _ _ hr9,hq10,by
   simp only [List.nodup_cons,List.mem_cons,List.not_mem_nil,or_false,not_or,not_false_eq_true,List.nodup_nil,and_true]
   exact ⟨⟨nLr,ne_of_none hm9 hLq⟩,ne_of_none hr9 hLq⟩,.nil⟩
  have g0:Gw ws [z0] []:=⟨Nat.zero_le _,Nat.le_refl _,(fun y h=>by rw [List.mem_singleton] at h; rw [h]; exact st0),(fun i p h=>by simp at h),(fun n h=>nomatch h),(fun n h=>nomatch h)⟩
  clear kp8' kp9 kp10 hLr hLq hL8 hm9 S9 S10 hr9 hq10
  repeat walk_at "vc"
  refine i_take b0.kp (by omega) (by decide) (by decide) fun of' H11 f0 f1 o11 kp11=>?_
  have b1:=b0.draw o11 kp11 (Nat.add_le_add_left (by decide) _)
  clear b0 o11 kp11
  repeat walk_at "vc"
  refine ⟨fun n σ H'=>∃ (rows:List Str) (nas:List Addr) (nodes:List (List (Str × Nat))) (x8 x9 x10 x11 x12 x13:Option V),n=41 - nodes.length/\σ=[some (.ref D.d),some (.int (m:Int)),some (.ref L),some (.int (lo:Int)),some (.int (at':Int)),some (.ref Lr),some (.ref Lq),some (.int (1 + of')),x8,x9,x10,x11,x12,x13,none]/\Ms D H L Lr Lq ws m z0 (221 + 150 * nodes.length) rows nas nodes H',
   ⟨_,[z0],[],[],_,_,_,_,_,_,rfl,rfl,⟨b1,g0,m1,rfl⟩⟩,?_⟩
  rintro n σ H' ⟨rows,nas,nodes,x8,x9,x10,x11,x12,x13,rfl,rfl,M⟩
  have hr':=M.b.hr
  have hq':=M.b.hq
  have ln:nas.length=nodes.length:=M.b.lenN
  have rm:=M.rm
  have gl:=M.g.len
  repeat walk_at "vc"
  rw [List.length_map,List.length_map,ln]
  refine ite2 (fun hlt=>?_) (fun hge=>?_)
  ·have hlt':nodes.length < rows.length:=by have:=of_decide_eq_true hlt; omega
   refine ⟨_,fun σ' H' w=>⟨41 - (nodes.length + 1),by omega,w⟩,?_⟩
   repeat walk_at "vc"
   refine ⟨by decide,fun he hhe=>?_⟩
   have he0:H he=none:=M.b.kp.free hhe
   have hen:=M.b.new hhe
   generalize hE:upd H' he _=Ha
   obtain ⟨Sa,qa⟩:=upd_pair hhe hE
   clear hE
   have Ma:Ms D H L Lr Lq ws m z0 (221 + 150 * nodes.length) rows nas nodes Ha:=⟨M.b.same Sa,M.g,M.rm,M.r0⟩
   have hm':=Ma.b.hm
   clear hr' hq' M hhe
   repeat walk_at "vc"
   unfold iEnum
   refine i_cons (i_var rfl (i_nil ⟨L,rfl,⟨_,SqL.of hm'⟩,?_⟩))
   refine for_enum (xs:=ws.map V.str) (fun j σ Hj=>∃ (rows':List Str) (hs:List (Str × Nat)) (x9 x10 x11 x12 x13:Option V),σ=[some (.ref D.d),some (.int (m:Int)),some (.ref L),some (.int (lo:Int)),some (.int (at':Int)),some (.ref Lr),some (.ref Lq),some (.int (1 + of')),some (.ref he),x9,x10,x11,x12,x13,none]/\Ms D H L Lr Lq ws m z0 (221 + 150 * nodes.length + 4 * j) rows' nas nodes Hj/\Hr H L Lr Lq ws (rows.getD nodes.length "") rows' nas nodes he hs j Hj)
    ⟨rows,[],_,_,_,_,_,rfl,Ma,⟨hlt',rfl,he0,hen,⟨[],qa,.nil⟩,(fun p h=>nomatch h),List.nodup_nil,Nat.zero_le _⟩⟩ (fun j σ Hj _ pv=>by obtain ⟨_,_,_,_,_,_,_,_,Mj,_⟩:=pv; exact SqL.of Mj.b.hm) (fun j x σ Hj t hx pv ht=>?_) (fun σ Hj pv=>?_)
   ·obtain ⟨rows',hs,x9,x10,x11,x12,x13,rfl,Mj,hj⟩:=pv
    rw [List.getElem?_map] at hx
    cases hw:ws[j]? with
    | none=>rw [hw] at hx; cases hx
    | some nm =>
     rw [hw] at hx
     cases hx
     have hjl:j < ws.length:=(List.getElem?_eq_some_iff.mp hw).1
     refine ⟨t,_,rfl,SqT.of upd_same,rfl,?_⟩
     refine ⟨_,_,rfl,s_name ⟨_,_,rfl,s_name ?_⟩⟩
     have St:=fresh_same (o:=.tup [.int (j:Nat),.str nm]) ht
     have Mt:=Mj.same St
     have ht':=hj.same St
     generalize upd Hj t (.tup [.int (j:Nat),.str nm])=Ht at *
     clear Mj hj St ht
     have hr':=Mt.b.hr
     have hq':=Mt.b.hq
     refine ⟨rfl,?_⟩
     repeat walk_at "vc"
     rw [List.length_map,ln]
     have hrow:rows'[nodes.length]?=some (rows.getD nodes.length ""):=by
      rw [<-ht'.hrow,List.getElem?_eq_getElem ht'.lt]
      exact congrArg some (getD_mem' (List.getElem?_eq_getElem ht'.lt)).symm
     refine i_ixL (v:=.str (rows.getD nodes.length "")) (SqL.of hr') (atI_nat (by rw [List.getElem?_map,hrow]; rfl)) ?_
     have srow:StOk ws.length (rows.getD nodes.length ""):=Mt.g.rok _ (List.mem_of_getElem? hrow)
     repeat walk_at "vc"
     refine ⟨_,ws.length,j,rfl,srow,hjl,by omega,?_⟩
     have ssg:StOk ws.length (turnT (rows.getD nodes.length "") j):=turn_ok srow hjl
     have esg:ws.idxOf nm=j:=by
      have hmem:nm ∈ ws:=List.mem_of_getElem? hw
      have h1:=idx_at hmem
      have h2:=List.idxOf_lt_length_of_mem hmem
      exact (List.getElem_inj (h₀:=h2) (h₁:=hjl) nd).mp (by rw [List.getElem_idxOf h2]; exact ((List.getElem?_eq_some_iff.mp hw).2).symm)
     repeat walk_at "vc"
     refine i_comp ?_
     refine i_cons (i_var rfl (i_nil ⟨Lr,rfl,⟨_,SqL.of hr'⟩,fun La hLa=>?_⟩))
     generalize hsg:turnT (rows.getD nodes.length "") j=sgn at *
     have La0:H La=none:=Mt.b.kp.free hLa
     have nLa:¬ D.own La:=notOwn_fresh (D:=D.more _) Mt.b.kp.dk hLa
     have rm':=Mt.rm
     have Lan:=Mt.b.new hLa
     refine comp_enumF (xs:=rows'.map V.str) (fun i Hc ys=>Same Ht Hc/\Hc La=some (.lst ys)/\∃ tos:List Nat,ys=tos.map (fun t:Nat=>V.int (t:Int))/\tos.length<=i/\∀ t ∈ tos,t < rows'.length/\rows'.getD t "" = sgn)
      ⟨fresh_same hLa,upd_same,[],rfl,Nat.zero_le _,fun t h=>nomatch h⟩ (fun i Hc ys p=>⟨p.2.1,SqL.of (p.1 _ _ hr')⟩) (fun i x Hc ys T hx p hT=>?_) (fun Hc ys p=>?_)
     ·obtain ⟨Sc,hLc,tos,rfl,ltos,htos⟩:=p
      rw [List.getElem?_map] at hx
      cases ho:rows'[i]? with
      | none=>rw [ho] at hx; cases hx
      | some one =>
       rw [ho] at hx
       cases hx
       have hil:i < rows'.length:=(List.getElem?_eq_some_iff.mp ho).1
       have ST:=fresh_same (o:=.tup [.int (i:Nat),.str one]) hT
       refine ⟨T,_,rfl,SqT.of upd_same,rfl,?_⟩
       refine ⟨_,_,rfl,s_name ⟨_,_,rfl,s_name ⟨rfl,?_⟩⟩⟩
       refine ⟨by repeat' (first | exact trivial | refine ⟨rfl,?_⟩),?_⟩
       have Sc':=Sc.trans ST
       have hLc':=ST _ _ hLc
       generalize upd Hc T (.tup [.int (i:Nat),.str one])=Hd at *
       repeat walk_at "vc"
       refine ite2 (fun heq=>?_) (fun hne=>?_)
       ·have e1:one=sgn:=V.str.inj (of_decide_eq_true heq)
        refine i_var rfl ?_
        refine NextC.mk hLc' (by rw [List.length_map]; exact hil) (by rw [List.length_map]; omega) ⟨same_upd Sc' hLa,upd_same,tos++[i],by simp,by rw [List.length_append]; show tos.length + 1<=i + 1; omega,fun t ht=>?_⟩
        rcases List.mem_append.mp ht with h | h
        ·exact htos t h
        ·rw [List.mem_singleton] at h
         subst h
         exact ⟨hil,by rw [getD_mem' ho]; exact e1⟩
       ·exact ⟨(rows'.map V.str).length - (i + 1),by rw [List.length_map]; omega,rfl,by rw [List.length_map]; omega,Sc',hLc',tos,rfl,by omega,htos⟩
     ·obtain ⟨Sc,hLc,tos,rfl,ltos,htos⟩:=p
      rw [List.length_map] at ltos
      have Mc:=Mt.same Sc
      have hc':=ht'.same Sc
      refine s_name ?_
      with_reducible refine seq_join (fun σ Hx=>∃ nb:Bool,σ=[some (.ref D.d),some (.int (m:Int)),some (.ref L),some (.int (lo:Int)),some (.int (at':Int)),some (.ref Lr),some (.ref Lq),some (.int (1 + of')),some (.ref he),some (.int (j:Int)),some (.str nm),some (.str sgn),some (.ref La),some (.bl nb),none]/\Ms D H L Lr Lq ws m z0 (221 + 150 * nodes.length + 4 * j + 1) rows' nas nodes Hx/\Hr H L Lr Lq ws (rows.getD nodes.length "") rows' nas nodes he hs j Hx/\Hx La=some (.lst (tos.map (fun t:Nat=>V.int (t:Int))))) (fun R hR=>?_) (fun σ6 H6 j6=>?_)
      ·repeat walk_at "vc"
       refine ⟨by decide,fun p hp=>?_⟩
       have S7:=fresh_same (o:=.lst []) hp
       have M7:=Mc.same S7
       have h7:=hc'.same S7
       have L7:=S7 _ _ hLc
       refine ⟨La,p,_,[],fun _=>true,rfl,rfl,SqL.of L7,SqL.of upd_same,(fun j x y _ h=>by simp at h),⟨_,rfl,?_⟩⟩
       generalize upd Hc p (.lst [])=H7 at *
       refine ite2 (fun _=>?_) (fun _=>?_)
       ·exact s_name (hR _ _ ⟨true,rfl,M7.up (by omega),h7,L7⟩)
       ·repeat walk_at "vc"
        refine i_take M7.b.kp (by omega) (by decide) (by decide) fun r8 H8 r80 r81 o8 kp8=>?_
        repeat walk_at "vc"
        exact hR _ _ ⟨_,rfl,M7.take o8 kp8,h7.take M7 o8 kp8,o8 _ _ L7 nLa⟩
      clear Mc hc' hLc Sc Mt ht' hr' hq'
      with_reducible refine seq_join (fun σ Hx=>∃ nb:Bool,σ=[some (.ref D.d),some (.int (m:Int)),some (.ref L),some (.int (lo:Int)),some (.int (at':Int)),some (.ref Lr),some (.ref Lq),some (.int (1 + of')),some (.ref he),some (.int (j:Int)),some (.str nm),some (.str sgn),some (.ref La),some (.bl nb),none]/\(nb=true->rows'.length < m)/\Ms D H L Lr Lq ws m z0 (221 + 150 * nodes.length + 4 * j + 1) rows' nas nodes Hx/\Hr H L Lr Lq ws (rows.getD nodes.length "") rows' nas nodes he hs j Hx/\Hx La=some (.lst (tos.map (fun t:Nat=>V.int (t:Int))))) (fun R hR=>?_) (fun σ7 H7 j7=>?_)
      ·obtain ⟨nb,rfl,M6,h6,L6⟩:=j6
       have hr6:=M6.b.hr
       repeat walk_at "vc"
       rw [List.length_map]
       refine ite2 (fun c=>?_) (fun c=>?_)
       ·repeat walk_at "vc"
        exact hR _ _ ⟨false,rfl,(fun z=>nomatch z),M6,h6,L6⟩
       ·refine hR _ _ ⟨nb,rfl,(fun _=>?_),M6,h6,L6⟩
        rcases Nat.lt_or_ge rows'.length m with h | h
        ·exact h
        ·exact absurd (decide_eq_true (by omega)) c
      obtain ⟨nb,rfl,hnb,M6,h6,L6⟩:=j7
      clear j6
      repeat walk_at "vc"
      refine i_take M6.b.kp (by omega) (by decide) (by decide) fun r8 H8 r80 r81 o8 kp8=>?_
      have M8:=M6.take o8 kp8
      have h8:=h6.take M6 o8 kp8
      have L8:=o8 _ _ L6 nLa
      clear M6 h6 L6 o8 kp8
      repeat walk_at "vc"
      refine ite2 (fun _=>?_) (fun _=>⟨rows',hs,_,_,_,_,_,rfl,M8.up (by omega),h8.next⟩)
      repeat walk_at "vc"
      cases nb with
      | true =>
       refine iteT (iteT ?_)
       have hr8:=M8.b.hr
       repeat walk_at "vc"
       refine i_app hr8 (by rw [List.length_map]; omega) ?_
       have M9:=M8.addRow DA ssg (hnb rfl)
       have h9:=h8.addRow hr8 sgn
       generalize upd H8 Lr (.lst (rows'.map V.str++[.str sgn]))=H9 at *
       have hr9:=M9.b.hr
       repeat walk_at "vc"
       refine ⟨by simp [sizeLine],fun Lb hLb=>?_⟩
       have nLb:¬ D.own Lb:=notOwn_fresh (D:=D.more _) M9.b.kp.dk hLb
       generalize hE:upd H9 Lb _=H10
       obtain ⟨S10,q10⟩:=upd_pair hLb hE
       clear hE
       have M10:=M9.same S10
       have h10:=h9.same S10
       clear M9 h9 M8 h8 hr8 hr9
       obtain ⟨vs10,hv10,_⟩:=id h10.at_
       repeat walk_at "vc"
       refine i_take (m:=1) M10.b.kp (by omega) (by decide) (by decide) fun r9 H11 r90 r91 o11 kp11=>?_
       have M11:=M10.take o11 kp11
       have h11:=h10.take M10 o11 kp11
       have q11:=o11 _ _ q10 nLb
       have e9:r9=0:=by omega
       subst e9
       refine i_ixL (SqL.of q11) (atI_nat (j:=0) rfl) ?_
       repeat walk_at "vc"
       rw [show (((rows'++[sgn]).map V.str).length:Int) - 1=((rows'.length:Nat):Int) by rw [List.length_map,List.length_append]; simp]
       refine ⟨by simp [sizeLine],fun tp htp=>?_⟩
       have Sp:=fresh_same (o:=.tup [.str nm,.int ((rows'.length:Nat):Int)]) htp
       have M12:=M11.same Sp
       have h12:=h11.same Sp
       have qtp:upd H11 tp (.tup [.str nm,.int ((rows'.length:Nat):Int)]) tp=some (.tup [.str nm,.int ((rows'.length:Nat):Int)]):=upd_same
       generalize upd H11 tp (.tup [.str nm,.int ((rows'.length:Nat):Int)])=H12 at *
       obtain ⟨vs12,hv12,pv12⟩:=id h12.at_
       have lv:=paired_len pv12
       unfold nodeV at lv
       rw [List.length_map] at lv
       have lf:=h12.few
       refine i_nil (i_app hv12 (by omega) ?_)
       exact ⟨rows'++[sgn],hs++[(nm,rows'.length)],_,_,_,_,_,rfl,(M12.off DA h12).up (by omega),h12.turn nd hv12 qtp hw (by rw [List.length_append]; exact Nat.lt_succ_self _) (by rw [getD_app_last,esg,hsg])⟩
      | false =>
       refine iteF ?_
       repeat walk_at "vc"
       refine ⟨by decide,fun p hp=>?_⟩
       have S9:=fresh_same (o:=.lst []) hp
       have M9:=M8.same S9
       have h9:=h8.same S9
       have L9:=S9 _ _ L8
       refine ⟨La,p,_,[],fun _=>true,rfl,rfl,SqL.of L9,SqL.of upd_same,(fun j x y _ h=>by simp at h),⟨_,rfl,?_⟩⟩
       generalize upd H8 p (.lst [])=H9 at *
       refine ite2 (fun hne=>?_) (fun _=>⟨rows',hs,_,_,_,_,_,rfl,M9.up (by omega),h9.next⟩)
       have tne:tos ≠ []:=fun z=>by subst z; simp at hne
       have tlen:0 < tos.length:=List.length_pos_iff.mpr tne
       obtain ⟨vs9,hv9,_⟩:=id h9.at_
       repeat walk_at "vc"
       refine i_take (m:=((tos.map (fun t:Nat=>V.int (t:Int))).length:Int)) M9.b.kp (by omega) (by rw [List.length_map]; omega) (by rw [List.length_map]; omega) fun r9 H10 r90 r91 o10 kp10=>?_
       have M10:=M9.take o10 kp10
       have h10:=h9.take M9 o10 kp10
       have L10:=o10 _ _ L9 nLa
       rw [List.length_map] at r91
       obtain ⟨ti,hti,rfl⟩:∃ ti:Nat,ti < tos.length/\r9=(ti:Int):=⟨r9.toNat,by omega,by omega⟩
       obtain ⟨tl,te⟩:=htos _ (List.getElem_mem hti)
       refine i_ixL (SqL.of L10) (atI_nat (j:=ti) (by rw [List.getElem?_map,List.getElem?_eq_getElem hti]; rfl)) ?_
       generalize tos[ti]=to at *
       repeat walk_at "vc"
       refine ⟨by simp [sizeLine],fun tp htp=>?_⟩
       have Sp:=fresh_same (o:=.tup [.str nm,.int (to:Int)]) htp
       have M12:=M10.same Sp
       have h12:=h10.same Sp
       have qtp:upd H10 tp (.tup [.str nm,.int (to:Int)]) tp=some (.tup [.str nm,.int (to:Int)]):=upd_same
       generalize upd H10 tp (.tup [.str nm,.int (to:Int)])=H12 at *
       obtain ⟨vs12,hv12,pv12⟩:=id h12.at_
       have lv:=paired_len pv12
       unfold nodeV at lv
       rw [List.length_map] at lv
       have lf:=h12.few
       refine i_nil (i_app hv12 (by omega) ?_)
       exact ⟨rows',hs++[(nm,to)],_,_,_,_,_,rfl,(M12.off DA h12).up (by omega),h12.turn nd hv12 qtp hw tl (by rw [esg,hsg]; exact te)⟩
   ·obtain ⟨rows',hs,x9,x10,x11,x12,x13,rfl,Mj,hj⟩:=pv
    rw [List.length_map] at Mj hj
    have hq':=Mj.b.hq
    obtain ⟨vs,hv,pv⟩:=id hj.at_
    have lv:=paired_len pv
    unfold nodeV at lv
    rw [List.length_map] at lv
    have lf:=hj.few
    repeat walk_at "vc"
    refine ⟨D.more (221 + 150 * nodes.length + 4 * ws.length),he,vs,rfl,Mj.b.kp.dk,SqL.of hv,by show D.n + (221 + 150 * nodes.length + 4 * ws.length) < 50000; omega,by omega,fun l2 ys H2 k2 hl2 pm hl2'=>?_⟩
    have kp2:Kp (D.more (221 + 150 * (nodes.length + 1))) H H2:=(Mj.b.kp.trans k2).le (by show D.n + (221 + 150 * nodes.length + 4 * ws.length) + 100<=D.n + (221 + 150 * (nodes.length + 1)); omega)
    have b2:=Mj.b.draw (D':=D.more (221 + 150 * (nodes.length + 1))) (fun x y e n=>k2.old x y e n) kp2 (by show D.n + (221 + 150 * nodes.length + 4 * ws.length)<=D.n + (221 + 150 * (nodes.length + 1)); omega)
    have at2:StepsAt H2 he (nodeV hs):=hj.at_.kp (Mj.b.kp.dk.le (Nat.le_add_right _ 100)) k2
    have hv2:H2 he=some (.lst vs):=k2.old _ _ hv (notOwn_fresh (D:=D) DA hj.h0)
    obtain ⟨node,np,st2⟩:=steps_perm at2 hv2 pm hl2'
    have hq2:=b2.hq
    refine i_nil (i_app hq2 (by rw [List.length_map]; omega) ?_)
    refine ⟨rows',nas++[l2],nodes++[node],_,_,_,_,_,_,by rw [List.length_append]; rfl,rfl,⟨?_,Mj.g.addNode hj.lt (fun p hp=>?_) ?_ ?_,Mj.rm,Mj.r0⟩⟩
    ·rw [List.length_append]
     exact b2.addNode (DA.le (Nat.le_add_right _ _)) (Mj.b.kp.free hl2) (Mj.b.new hl2) st2
    ·obtain ⟨a,b,c⟩:=hj.edge p (np.mem_iff.mp hp)
     exact ⟨List.mem_of_mem_take a,b,by rw [hj.hrow]; exact c⟩
    ·exact (np.map _).nodup_iff.mpr hj.nd
    ·rw [np.length_eq]; omega
  ·have eqn:nodes.length=rows.length:=by
    rcases Nat.lt_or_ge nodes.length rows.length with h | h
    ·exact absurd (decide_eq_true (by omega)) hge
    ·exact Nat.le_antisymm gl h
   have n40:nodes.length<=40:=by omega
   repeat walk_at "vc"
   refine i_take M.b.kp (by omega) (by decide) (by decide) fun ra Ha ra0 ra1 oa kpa=>?_
   have Ma:=M.take oa kpa
   have hqa:=Ma.b.hq
   repeat walk_at "vc"
   refine ⟨_,_,rfl,?_⟩
   rw [List.length_map,ln]
   obtain ⟨qm,eqm,qm1,qm2⟩:∃ qm:Nat,(if (41:Int) - (nodes.length:Int) < 6 then (41:Int) - (nodes.length:Int) else 6)=(qm:Int)/\1<=qm/\qm + nodes.length<=41:=by
    refine ⟨min 6 (41 - nodes.length),?_,by omega,by omega⟩
    split <;> omega
   rw [eqm]
   repeat walk_at "vc"
   refine i_take Ma.b.kp (by omega) (by omega) (by omega) fun rb Hb rb0 rb1 ob kpb=>?_
   have Mb:=Ma.take ob kpb
   refine i_rI (small_mul ra0 (by omega) _) ?_
   obtain ⟨tot,etot,tot0,tot1⟩:∃ tot:Nat,(nodes.length:Int) + ra * rb=(tot:Int)/\nodes.length<=tot/\tot<=40:=by
    have hra:ra=0\/ra=1:=by omega
    rcases hra with e | e
    ·subst e; exact ⟨nodes.length,by simp,by omega,by omega⟩
    ·subst e; exact ⟨nodes.length + rb.toNat,by rw [Int.one_mul]; omega,by omega,by omega⟩
   clear Ma M oa ob kpa kpb hqa hr' hq' b1
   repeat walk_at "vc"
   rw [etot]
   refine ⟨fun n σ Hx=>∃ (nas':List Addr) (more:List (List (Str × Nat))) (x8 x9 x10 x11 x12 x13:Option V),n=41 - more.length/\σ=[some (.ref D.d),some (.int (m:Int)),some (.ref L),some (.int (lo:Int)),some (.int (at':Int)),some (.ref Lr),some (.ref Lq),some (.int (1 + of')),x8,x9,x10,x11,x12,x13,some (.int (tot:Int))]/\Bld (D.more (8000 + 30 * more.length)) H L Lr Lq ws rows nas' (nodes++more) Hx/\nodes.length + more.length<=tot/\∀ node ∈ more,(∀ p ∈ node,p.1 ∈ ws/\p.2 < tot)/\(node.map (·.1)).Nodup/\node.length<=11,
    ⟨_,nas,[],_,_,_,_,_,_,rfl,rfl,by rw [List.append_nil]; exact Mb.b.up (by show D.n + (221 + 150 * nodes.length + 1 + 1)<=D.n + (8000 + 30 * 0); omega),tot0,fun n h=>nomatch h⟩,?_⟩
   have Gf:=Mb.g
   have R0:=Mb.r0
   clear Mb
   rintro n σ Hx ⟨nas',more,x8,x9,x10,x11,x12,x13,rfl,rfl,B,lt,hmo⟩
   have hqx:=B.hq
   have lnx:=B.lenN
   rw [List.length_append] at lnx
   repeat walk_at "vc"
   rw [List.length_map,lnx]
   refine ite2 (fun hlt=>?_) (fun hge=>?_)
   ·have hlt':nodes.length + more.length < tot:=by have:=of_decide_eq_true hlt; omega
    refine ⟨_,fun σ' H' w=>⟨41 - (more.length + 1),by omega,w⟩,?_⟩
    have hmx:=B.hm
    repeat walk_at "vc"
    refine i_comp (s_list (i_var rfl ⟨L,rfl,⟨_,SqL.of hmx⟩,fun Ln hLn=>?_⟩))
    have Ln0:H Ln=none:=B.kp.free hLn
    have Lnn:=B.new hLn
    have nLn:¬ D.own Ln:=notOwn_fresh (D:=D.more _) B.kp.dk hLn
    refine comp_listF (xs:=ws.map V.str) (fun i Hc ys=>∃ hs:List (Str × Nat),Bld (D.more (8000 + 30 * more.length + 2 * i)) H L Lr Lq ws rows nas' (nodes++more) Hc/\Xr H L Lr Lq ws nas' tot Ln hs i Hc/\Hc Ln=some (.lst ys))
     ⟨[],B.same (fresh_same hLn),⟨Ln0,Lnn,⟨[],upd_same,.nil⟩,(fun p h=>nomatch h),List.nodup_nil,Nat.le_refl _⟩,upd_same⟩ (fun i Hc ys p=>by obtain ⟨_,Bc,_,hLc⟩:=p; exact ⟨hLc,SqL.of Bc.hm⟩) (fun i v Hc ys e p=>?_) (fun Hc ys p=>?_)
    ·obtain ⟨hs,Bc,Xc,hLc⟩:=p
     rw [List.getElem?_map] at e
     cases hw:ws[i]? with
     | none=>rw [hw] at e; cases e
     | some nm =>
      rw [hw] at e
      cases e
      have hil:i < ws.length:=(List.getElem?_eq_some_iff.mp hw).1
      refine s_name ⟨by repeat' (first | exact trivial | refine ⟨rfl,?_⟩),?_⟩
      repeat walk_at "vc"
      refine i_take Bc.kp (by omega) (by decide) (by decide) fun r2 H2 r20 r21 o2 kp2=>?_
      have B2:=Bc.draw o2 kp2 (Nat.le_succ _)
      have X2:=Xc.at' (Xc.at_.kp (Bc.kp.dk.le (Nat.le_succ _)) (Kp.step (D:=D.more _) o2 kp2))
      have L2':=o2 _ _ hLc nLn
      repeat walk_at "vc"
      refine ite2 (fun _=>?_) (fun _=>?_)
      ·repeat walk_at "vc"
       refine i_take B2.kp (by omega) (by omega) (by omega) fun r3 H3 r30 r31 o3 kp3=>?_
       have B3:=B2.draw o3 kp3 (Nat.le_succ _)
       have X3:=X2.at' (X2.at_.kp (B2.kp.dk.le (Nat.le_succ _)) (Kp.step (D:=D.more _) o3 kp3))
       have L3':=o3 _ _ L2' nLn
       obtain ⟨to,rfl⟩:=Int.eq_ofNat_of_zero_le r30
       repeat walk_at "vc"
       refine ⟨by simp [sizeLine],fun tp htp=>?_⟩
       have Sp:=fresh_same (o:=.tup [.str nm,.int (to:Int)]) htp
       have B4:=B3.same Sp
       have X4:=X3.at' (X3.at_.same Sp)
       have L4':=Sp _ _ L3'
       have qtp:upd H3 tp (.tup [.str nm,.int (to:Int)]) tp=some (.tup [.str nm,.int (to:Int)]):=upd_same
       generalize upd H3 tp (.tup [.str nm,.int (to:Int)])=H4 at *
       obtain ⟨vs4,hv4,pv4⟩:=id X4.at_
       have lv:=paired_len pv4
       unfold nodeV at lv
       rw [List.length_map] at lv
       have lf:=X4.few
       have ev:vs4=ys:=by rw [L4'] at hv4; cases hv4; rfl
       subst ev
       exact NextC.mk L4' (by rw [List.length_map]; exact hil) (by omega) ⟨hs++[(nm,to)],(B4.off (DA.le (Nat.le_add_right _ _)) X4.h0 X4.new ⟨_,L4'⟩).up (by show D.n + (8000 + 30 * more.length + 2 * i + 1 + 1)<=D.n + (8000 + 30 * more.length + 2 * (i + 1)); omega),X4.turn nd L4' qtp hw (by omega),upd_same⟩
      ·exact ⟨(ws.map V.str).length - (i + 1),by rw [List.length_map]; omega,rfl,by rw [List.length_map]; omega,hs,B2.up (by show D.n + (8000 + 30 * more.length + 2 * i + 1)<=D.n + (8000 + 30 * more.length + 2 * (i + 1)); omega),X2.next,L2'⟩
    ·obtain ⟨hs,Bc,Xc,hLc⟩:=p
     rw [List.length_map] at Bc Xc
     have hqc:=Bc.hq
     refine i_nil (i_app hqc (by rw [List.length_map]; omega) ?_)
     refine ⟨nas'++[Ln],more++[hs],_,_,_,_,_,_,by rw [List.length_append]; rfl,rfl,?_,by rw [List.length_append]; show nodes.length + (more.length + 1)<=tot; omega,fun node hn=>?_⟩
     ·rw [<-List.append_assoc,List.length_append]
      exact (Bc.addNode (DA.le (Nat.le_add_right _ _)) Ln0 Lnn Xc.at_).up (by show D.n + (8000 + 30 * more.length + 2 * ws.length)<=D.n + (8000 + 30 * (more.length + 1)); omega)
     ·rcases List.mem_append.mp hn with h | h
      ·exact hmo node h
      ·rw [List.mem_singleton] at h
       subst h
       exact ⟨fun p hp=>let ⟨a,b⟩:=Xc.edge p hp; ⟨List.mem_of_mem_take a,b⟩,Xc.nd,by have:=Xc.few; omega⟩
   ·have eqt:nodes.length + more.length=tot:=by
     rcases Nat.lt_or_ge (nodes.length + more.length) tot with h | h
     ·exact absurd (decide_eq_true (by omega)) hge
     ·exact Nat.le_antisymm lt h
    have hmx:=B.hm
    repeat walk_at "vc"
    refine i_slL (SqL.of hmx) fun li hli=>?_
    generalize hE:upd _ li _=Hd
    obtain ⟨Sd,hlid⟩:=upd_pair hli hE
    clear hE
    have li0:=B.kp.free hli
    have lis:at'<=(ws.map V.str).length:=by rw [List.length_map]; omega
    rw [cut_to lis,<-List.map_take] at hlid
    have Bd:=B.same Sd
    have hmd:=Bd.hm
    repeat walk_at "vc"
    refine i_slL (SqL.of hmd) fun lq hlq=>?_
    generalize hE:upd _ lq _=He
    obtain ⟨Se,hloe⟩:=upd_pair hlq hE
    clear hE
    have lq0:=Bd.kp.free hlq
    rw [cut_from lis,<-List.map_drop] at hloe
    have Be:=Bd.same Se
    have hre:=Be.hr
    have row0:rows[0]?=some z0:=by
     rw [List.getElem?_eq_getElem Gf.pos]
     exact congrArg some ((getD_mem' (List.getElem?_eq_getElem Gf.pos)).symm.trans R0)
    repeat walk_at "vc"
    refine i_ixL (v:=.str z0) (SqL.of hre) (atI_nat (j:=0) (by rw [List.getElem?_map,row0]; rfl)) ?_
    repeat walk_at "vc"
    refine ⟨by simp [sizeLine],fun a ha=>?_⟩
    generalize hE:upd He a _=Hz
    obtain ⟨Sz,haz⟩:=upd_pair ha hE
    clear hE
    have a0:=Be.kp.free ha
    have Bz:=Be.same Sz
    have ews:Sh.ws ⟨ws.take at',ws.drop at',z0,nodes++more⟩=ws:=List.take_append_drop _ _
    have tl:(nodes++more).length=tot:=by rw [List.length_append]; exact eqt
    have each:∀ node ∈ nodes++more,(∀ p ∈ node,p.1 ∈ ws/\p.2 < tot)/\(node.map (·.1)).Nodup/\node.length<=11:=fun node hn=>by
     rcases List.mem_append.mp hn with h | h
     ·obtain ⟨i,hi,e⟩:=List.mem_iff_getElem.mp h
      refine ⟨fun p hp=>?_,Gf.ndn node h,Gf.few node h⟩
      obtain ⟨u,v,_⟩:=Gf.edge i p (by rw [getD_mem' (List.getElem?_eq_getElem hi),e]; exact hp)
      exact ⟨u,by omega⟩
     ·exact hmo node h
    refine k a li lq Lq nas' ⟨ws.take at',ws.drop at',z0,nodes++more⟩ Hz (Bz.kp.up (by omega)) ⟨haz,Sz _ _ (Se _ _ hlid),Sz _ _ hloe,Bz.hq,Bz.nod⟩ ⟨by rw [ews]; exact nd,by rw [ews]; omega,by rw [ews]; omega,by rw [ews]; exact Gf.rok _ (List.mem_of_getElem? row0),?_,?_,fun node hn p hp=>by rw [ews]; exact ((each node hn).1 p hp).1,fun node hn p hp=>?_,fun node hn=>Nat.le_trans (each node hn).2.2 (by decide)⟩ ⟨_,Gw.lab (by rw [List.take_append_drop]; exact Gf) eqn R0⟩ (fun node hn=>(each node hn).2.1) a0 li0 lq0 Bz.q0 Bz.f0
    ·show 1<=(nodes++more).length
     rw [tl]
     have:=Gf.pos
     omega
    ·show (nodes++more).length<=100
     rw [tl]
     omega
    ·show p.2 < (nodes++more).length
     rw [tl]
     exact ((each node hn).1 p hp).2
end

structure Ord (n:Nat) (o:List Nat):Prop where
 perm:o.Perm (List.range n)
 zero:o[0]?=some 0
section
variable {n:Nat} {o:List Nat}
theorem Ord.nd (h:Ord n o):o.Nodup:=h.perm.nodup_iff.mpr List.nodup_range
theorem Ord.mem (h:Ord n o) {x:Nat}:x ∈ o ↔ x < n:=by rw [h.perm.mem_iff,List.mem_range]
theorem Ord.len (h:Ord n o):o.length=n:=by rw [h.perm.length_eq,List.length_range]
theorem Ord.at (h:Ord n o) {x:Nat} (hx:x < n):o[o.idxOf x]?=some x:=by
 have hi:=List.idxOf_lt_length_of_mem (h.mem.mpr hx)
 rw [List.getElem?_eq_getElem hi]; exact congrArg some (List.getElem_idxOf hi)
theorem Ord.lt (h:Ord n o) {x:Nat} (hx:x < n):o.idxOf x < n:=by rw [<-h.len]; exact List.idxOf_lt_length_of_mem (h.mem.mpr hx)
theorem Ord.idx (h:Ord n o) {j x:Nat} (e:o[j]?=some x):o.idxOf x=j:=by
 obtain ⟨hj,e⟩:=List.getElem?_eq_some_iff.mp e
 rw [<-e]; exact h.nd.idxOf_getElem j hj
theorem Ord.small (h:Ord n o) {j x:Nat} (e:o[j]?=some x):x < n:=h.mem.mp (List.mem_of_getElem? e)
end
theorem perm_map_of {α β:Type} {f:α->β}:∀ {ys zs:List β},ys.Perm zs->∀ l:List α,zs=l.map f->∃ l':List α,l'.Perm l/\ys=l'.map f:=by
 intro ys zs h
 induction h with
 | nil=>intro l e; cases l with
  | nil=>exact ⟨[],.refl _,rfl⟩
  | cons a l=>cases e
 | cons x _ ih=>intro l e; cases l with
  | nil=>cases e
  | cons a l =>
   rw [List.map_cons] at e
   cases e
   obtain ⟨l',h1,h2⟩:=ih l rfl
   exact ⟨a :: l',h1.cons a,by rw [h2]; rfl⟩
 | swap x y zs=>intro l e; match l,e with
  | a :: b :: l,e =>
   cases e
   exact ⟨b :: a :: l,.swap _ _ _,rfl⟩
 | trans _ _ ih1 ih2 =>
  intro l e
  obtain ⟨l2,h1,h2⟩:=ih2 l e
  obtain ⟨l3,h3,h4⟩:=ih1 l2 h2
  exact ⟨l3,h3.trans h1,h4⟩
theorem steps_get {H:Hp} {vs:List V} {node:List (Str × Nat)} (pr:Paired (fun v (s:V × Key)=>∃ b,v=.ref b/\H b=some (.tup [s.1,kV s.2])) vs (nodeV node)) {i:Nat} {v:V} (e:vs[i]?=some v):∃ (p:Str × Nat) (b:Addr),node[i]?=some p/\v=.ref b/\H b=some (.tup [.str p.1,.int (p.2:Int)]):=by
 obtain ⟨st,hst,b,rfl,hb⟩:=paired_get pr e
 unfold nodeV at hst
 rw [List.getElem?_map] at hst
 cases hp:node[i]? with
 | none=>rw [hp] at hst; cases hst
 | some p =>
  rw [hp] at hst
  cases hst
  exact ⟨p,b,rfl,rfl,hb⟩
theorem steps_len {H:Hp} {vs:List V} {node:List (Str × Nat)} (pr:Paired (fun v (s:V × Key)=>∃ b,v=.ref b/\H b=some (.tup [s.1,kV s.2])) vs (nodeV node)):vs.length=node.length:=by
 have:=paired_len pr
 unfold nodeV at this
 rwa [List.length_map] at this
theorem paired_of {α β:Type} {F:α->β->Prop}:∀ {xs:List α} {ys:List β},xs.length=ys.length->(∀ (i:Nat) x y,xs[i]?=some x->ys[i]?=some y->F x y)->Paired F xs ys
 | [],[],_,_=>.nil
 | [],_ :: _,h,_=>by simp at h
 | _ :: _,[],h,_=>by simp at h
 | x :: xs,y :: ys,h,f=>.cons (f 0 x y rfl rfl) (paired_of (by simpa using h) fun i a b e1 e2=>f (i + 1) a b (by simpa using e1) (by simpa using e2))
theorem i_lrange {ta:TA} {σ:St} {H:Hp} {Q:VK} (q:ta σ H fun vs H1=>∃ (lo:Int) (n:Nat),vs=[.int lo,.int (lo + n)]/\-1000<=lo/\lo<=1000/\n<=1000/\∀ l,H1 l=none->Q (.ref l) (upd H1 l (.lst ((List.range n).map fun (i:Nat)=>V.int (lo + (i:Int)))))):tLRange ta σ H Q:=q

abbrev natV (x:Nat):V:=.int (x:Int)
theorem ShAt.kp {D:Dk} {H H':Hp} {a li lo ln:Addr} {nas:List Addr} {s:Sh} (DA:D.At H) (k:Kp D H H') (h:ShAt H a li lo ln nas s):ShAt H' a li lo ln nas s :=
 ⟨k.tups DA _ _ h.ha,k.strs DA h.hi,k.strs DA h.ho,k.refs DA h.hn (refs_map _),paired_mono (fun _ _ st=>st.kp DA k) h.nodes⟩
noncomputable def numd (s:Sh) (o:List Nat):Sh:={ s with nodes:=(List.range s.nodes.length).map fun k=>(s.node (o.idxOf k)).map fun p=>(p.1,o.getD p.2 0) }
section
variable {s:Sh} {o:List Nat}
theorem Ord.get (h:Ord s.nodes.length o) {x:Nat} (hx:x < s.nodes.length):o[x]?=some (o.getD x 0):=by
 have hl:x < o.length:=by rw [h.len]; exact hx
 rw [List.getD_eq_getElem?_getD,List.getElem?_eq_getElem hl]; rfl
theorem numd_len:(numd s o).nodes.length=s.nodes.length:=by unfold numd; simp
theorem numd_node {k:Nat} (hk:k < s.nodes.length):(numd s o).node k=(s.node (o.idxOf k)).map fun p=>(p.1,o.getD p.2 0):=by
 refine Sh.node_of ?_
 unfold numd
 rw [List.getElem?_map,List.getElem?_range hk]; rfl
theorem numd_mem {node:List (Str × Nat)} (ok:ShOk s) (h:Ord s.nodes.length o) (hn:node ∈ (numd s o).nodes):∃ node0 ∈ s.nodes,node=node0.map fun p=>(p.1,o.getD p.2 0):=by
 obtain ⟨k,hk,rfl⟩:=List.mem_map.mp hn
 exact ⟨_,Sh.node_mem (h.lt (List.mem_range.mp hk)),rfl⟩
theorem numd_ok (ok:ShOk s) (h:Ord s.nodes.length o):ShOk (numd s o):=by
 refine ⟨ok.nd,ok.w1,ok.w11,ok.st,by rw [numd_len]; exact ok.n1,by rw [numd_len]; exact ok.n100,fun node hn p hp=>?_,fun node hn p hp=>?_,fun node hn=>?_⟩
 ·obtain ⟨n0,h0,rfl⟩:=numd_mem ok h hn
  obtain ⟨q,hq,rfl⟩:=List.mem_map.mp hp
  exact ok.names n0 h0 q hq
 ·obtain ⟨n0,h0,rfl⟩:=numd_mem ok h hn
  obtain ⟨q,hq,rfl⟩:=List.mem_map.mp hp
  rw [numd_len]
  exact h.small (h.get (ok.tos n0 h0 q hq))
 ·obtain ⟨n0,h0,rfl⟩:=numd_mem ok h hn
  rw [List.length_map]; exact ok.few n0 h0
theorem numd_nd (ok:ShOk s) (h:Ord s.nodes.length o) (nd:∀ node ∈ s.nodes,(node.map (·.1)).Nodup):∀ node ∈ (numd s o).nodes,(node.map (·.1)).Nodup:=fun node hn=>by
 obtain ⟨n0,h0,rfl⟩:=numd_mem ok h hn
 rw [List.map_map]; exact nd n0 h0
theorem numd_R (ok:ShOk s) (h:Ord s.nodes.length o) {k:Nat} (r:(numd s o).R k):k < s.nodes.length/\s.R (o.idxOf k):=by
 induction r with
 | start=>exact ⟨ok.n1,by rw [h.idx h.zero]; exact .start⟩
 | @step a b ra hb ih =>
  obtain ⟨p,hp,rfl⟩:=List.mem_map.mp hb
  rw [numd_node ih.1] at hp
  obtain ⟨q,hq,rfl⟩:=List.mem_map.mp hp
  have hl:=ok.tos _ (Sh.node_mem (h.lt ih.1)) q hq
  refine ⟨h.small (h.get hl),?_⟩
  show s.R (o.idxOf (o.getD q.2 0))
  rw [h.idx (h.get hl)]
  exact .step ih.2 (List.mem_map.mpr ⟨q,hq,rfl⟩)
theorem numd_lab (ok:ShOk s) (h:Ord s.nodes.length o) {lam:Nat->Str} (l:Lab s lam):Lab (numd s o) (fun k=>lam (o.idxOf k)):=by
 refine ⟨by show lam (o.idxOf 0)=s.z; rw [h.idx h.zero]; exact l.1,fun k r p hp=>?_⟩
 obtain ⟨hk,rk⟩:=numd_R ok h r
 rw [numd_node hk] at hp
 obtain ⟨q,hq,rfl⟩:=List.mem_map.mp hp
 have hl:=ok.tos _ (Sh.node_mem (h.lt hk)) q hq
 show lam (o.idxOf (o.getD q.2 0))=_
 rw [h.idx (h.get hl)]
 exact l.2 _ rk q hq
end
structure GoodS (s:Sh):Prop where
 ok:ShOk s
 lab:∃ lam,Lab s lam
 nd:∀ node ∈ s.nodes,(node.map (·.1)).Nodup
noncomputable def spNumbP:Sp:=fun vs H Q _=>∃ (D:Dk) (a li lo ln:Addr) (nas:List Addr) (s:Sh),vs=[.ref D.d,.ref a]/\D.At H/\D.n < 40000/\ShAt H a li lo ln nas s/\GoodS s /\
 ∀ a' li' lo' ln' nas' s' H',Kp (D.more 200) H H'->ShAt H' a' li' lo' ln' nas' s'->GoodS s'->Q (.ref a') H'
section
variable {P:Program} {w:World} {K:PySem.W.Frag} {mg:Str->Option Value} {base:Heap} {TT:Addr}
theorem sc_law_numbered:FnScope ["pool", "sheet", "numbers", "nodes", "old", "new"] ["pool", "sheet"] (defScope (top 21)):=⟨rfl,rfl,rfl,by decide +kernel,rfl,by decide +kernel,by decide +kernel⟩
theorem ok_numbP {f:Addr} {fd:FuncData} (Fu:Fun K "_law_numbered" "_law_numbered" (top 21) f fd) (T:Txt K mg TT) (f_law_take:Fn P w K mg base "_law_take" ["pool", "many"] 1 spDraw) (f_law_order:Fn P w K mg base "_law_order" ["pool", "things"] 2 (spOrder K)):FnOk P w K mg base CX0 3 f fd ["pool", "sheet"] spNumbP:=by
 have S:=sc_law_numbered
 refine Fu.ok S (fun vs H Q E h=>?_) (fun cdv A outer s H vs Q E hr h=>?_)
 ·obtain ⟨D,a,li,lo,ln,nas,sh,rfl,_⟩:=h
  rfl
 ·obtain ⟨D,a,li,lo,ln,nas,sh,rfl,DA,dn,at_,gd,k⟩:=h
  have ok:=gd.ok
  refine' ⟨?_,?bb,?_⟩
  case bb =>
   refine' pss_cons ?s1 ?r1
   case s1 =>
    with_reducible refine' ps_if ?c2 ?a2 ?o2
    case c2=>exact (pt_cmpR op_eq (pe_fn f_law_take (hr.mono (by first | decide | omega)) (by rfl) (pa_cons (pv 0) (pa_cons pe_int pa_nil se_con) se_name)) pe_int (nomark _))
    case a2 =>
     with_reducible refine' pss_one ?s3
     case s3 =>
      exact (ps_ret (pv 1))
    case o2 =>
     exact pss_nil
   case r1 =>
    with_reducible refine' pss_cons ?s5 ?r5
    case s5 =>
     refine' ps_set (i:=2) ?n ?r ?l ?e ?s ?f
     case n=>exact S.nd
     case r=>rfl
     case l=>first | exact Or.inl rfl | exact Or.inr rfl
     case s=>rfl
     case f=>first | exact Or.inl rfl | exact Or.inr rfl
     case e =>
      with_reducible refine' pe_op op_cat ?l7 ?q7
      case l7 =>
       with_reducible refine' pe_lst ?a8
       case a8 =>
        with_reducible refine' pa_cons ?e9 ?s9 se_con
        case e9 =>
         exact pe_int
        case s9 =>
         exact pa_nil
      case q7 =>
       refine' pe_fn f_law_order (hr.mono (by first | decide | omega)) (by rfl) ?a11
       case a11 =>
        with_reducible refine' pa_cons ?e12 ?s12 se_name
        case e12 =>
         exact (pv 0)
        case s12 =>
         with_reducible refine' pa_cons ?e14 ?s14 se_call
         case e14 =>
          exact (pe_lrange rfl (by rfl) T.n_list (by rfl) T.n_range (pa_cons pe_int (pa_cons (pe_callB call_len_seq (by rfl) T.n_len PySem.boot_len (pa_cons (pe_ix ix_tup (pv 1) pe_int (fun _ _=>rfl)) pa_nil)) pa_nil se_call) se_con))
         case s14 =>
          exact pa_nil
    case r5 =>
     with_reducible refine' pss_cons ?s16 ?r16
     case s16 =>
      exact (ps_lc (j:=3) S.nd rfl (by first | exact Or.inl rfl | exact Or.inr rfl) (tgs:=["node"]) (cap:=[]) rfl ⟨rfl,rfl,rfl,rfl,rfl,rfl⟩ (pi_list (pe_ix ix_tup (pv 1) pe_int (fun _ _=>rfl))) (fun _ _ _ _=>(pg_name (i:=0) (show List.Nodup [("node" : Str)] by decide +kernel) rfl (by first | exact Or.inl rfl | exact Or.inr rfl))) (fun _ _ _ _=>pifs_nil) (fun _ _ _ _=>(pe_lst pa_nil)))
     case r16 =>
      with_reducible refine' pss_cons ?s18 ?r18
      case s18 =>
       refine' ps_for PassesOwn.never rfl ?i19 ?g19 ?b19 ?h19
       case h19=>intro _; rfl
       case i19=>exact (pi_enum (by rfl) T.n_enumerate (pa_cons (pv 2) pa_nil se_name))
       case g19=>exact (pg_tup rfl (pgs_cons (pg_name (i:=4) S.nd rfl (by first | exact Or.inl rfl | exact Or.inr rfl)) (pgs_cons (pg_name (i:=5) S.nd rfl (by first | exact Or.inl rfl | exact Or.inr rfl)) pgs_nil)))
       case b19 =>
        with_reducible refine' pss_one ?s20
        case s20 =>
         exact (ps_asg (pe_lc (tgs:=["name", "to"]) (cap:=[("numbers", 2)]) rfl ⟨rfl,rfl,rfl,rfl,rfl,rfl⟩ (pi_list (pe_ix ix_list (pe_ix ix_tup (pv 1) pe_int (fun _ _=>rfl)) (pv 4) (fun _ _=>rfl))) (fun _ _ _ _=>(pg_tupK (K:=K) (n:=2) rfl rfl (pgs_cons (pg_name (i:=0) (show List.Nodup [("name" : Str),("to" : Str),("numbers" : Str)] by decide +kernel) rfl (by first | exact Or.inl rfl | exact Or.inr rfl)) (pgs_cons (pg_name (i:=1) (show List.Nodup [("name" : Str),("to" : Str),("numbers" : Str)] by decide +kernel) rfl (by first | exact Or.inl rfl | exact Or.inr rfl)) pgs_nil)))) (fun _ _ _ _=>pifs_nil) (fun _ _ _ _=>(pe_tup (pa_cons (pv 0) (pa_cons (pe_ix (ix_listK (K:=K) rfl) (pv 2) (pv 1) (fun _ _=>rfl)) pa_nil) se_name)))) (pg_sub (pv 3) (pv 5) set_list))
      case r18 =>
       with_reducible refine' pss_one ?s22
       case s22 =>
        with_reducible refine' ps_ret ?e
        case e =>
         with_reducible refine' pe_tup ?a24
         case a24 =>
          with_reducible refine' pa_cons ?e25 ?s25 se_sub
          case e25 =>
           exact (pe_ix ix_tup (pv 1) pe_int (fun _ _=>rfl))
          case s25 =>
           with_reducible refine' pa_cons ?e27 ?s27 se_sub
           case e27 =>
            exact (pe_ix ix_tup (pv 1) pe_int (fun _ _=>rfl))
           case s27 =>
            with_reducible refine' pa_cons ?e29 ?s29 se_sub
            case e29 =>
             exact (pe_ix ix_tup (pv 1) pe_int (fun _ _=>rfl))
            case s29 =>
             with_reducible refine' pa_cons ?e31 ?s31 se_name
             case e31 =>
              exact (pv 3)
             case s31 =>
              exact pa_nil
  try dsimp only [cxOf,Cx.nox,Cx.wish]
  rw [show L2.start ["pool", "sheet", "numbers", "nodes", "old", "new"] [V.ref D.d,V.ref a]=[some (.ref D.d),some (.ref a),none,none,none,none] from rfl]
  have big:100000 < sizeLine:=by decide
  have n1:=ok.n1
  have n100:=ok.n100
  have kp0:Kp (D.more 0) H H:=Kp.of DA (Same.refl _)
  repeat walk_at "vc"
  refine i_take kp0 (by omega) (by decide) (by decide) fun r H1 r0 r1 o1 kp1=>?_
  have at1:=at_.kp (DA.le (Nat.le_add_right _ _):(D.more 1).At H) kp1
  have ha1:=at1.ha
  have hn1:=at1.hn
  have lnas:=paired_len at_.nodes
  repeat walk_at "vc"
  refine ite2 (fun _=>?_) (fun _=>?_)
  ·repeat walk_at "vc"
   exact k a li lo ln nas sh H1 (kp1.up (by omega)) at1 gd
  repeat walk_at "vc"
  refine ⟨by simp [sizeLine],fun p0 hp0=>?_⟩
  generalize hE:upd H1 p0 _=H2
  obtain ⟨S2,q2⟩:=upd_pair hp0 hE
  clear hE
  have kp2:Kp (D.more 1) H H2:=kp1.trans (Kp.of kp1.dk S2)
  have np0:¬ D.own p0:=notOwn_fresh (D:=D.more 1) kp1.dk hp0
  have ha2:=S2 _ _ ha1
  have hn2:=S2 _ _ hn1
  repeat walk_at "vc"
  refine i_lrange ?_
  repeat walk_at "vc"
  refine ⟨1,sh.nodes.length - 1,by rw [List.length_map,lnas]; congr 3; omega,by decide,by decide,by omega,fun p2 hp2=>?_⟩
  generalize hE:upd H2 p2 _=H3
  obtain ⟨S3,q3⟩:=upd_pair hp2 hE
  clear hE
  have kp3:Kp (D.more 1) H H3:=kp2.trans (Kp.of kp2.dk S3)
  repeat walk_at "vc"
  refine ⟨D.more 1,p2,_,rfl,kp3.dk,SqL.of q3,(by show D.n + 1 < 50000; omega),by rw [List.length_map,List.length_range]; omega,fun p3 ys H4 k4 hp3 pm q4=>?_⟩
  have kp4:Kp (D.more 101) H H4:=(kp3.trans k4).le (by show D.n + 1 + 100<=D.n + 101; omega)
  have q24:H4 p0=some (.lst [.int 0]):=k4.old _ _ (S3 _ _ q2) np0
  obtain ⟨xs,pmx,rfl⟩:=perm_map_of pm (f:=fun (i:Nat)=>V.int (1 + (i:Int))) _ rfl
  have lxs:xs.length=sh.nodes.length - 1:=by rw [pmx.length_eq,List.length_range]
  obtain ⟨ord,hord⟩:∃ ord:List Nat,ord=0 :: xs.map (1 + ·):=⟨_,rfl⟩
  have ordV:([V.int 0]++xs.map fun (i:Nat)=>V.int (1 + (i:Int)))=ord.map natV:=by
   rw [hord,List.map_cons,List.map_map]
   show _ :: _=_ :: _
   congr 1
  have od:Ord sh.nodes.length ord:=by
   refine ⟨?_,by rw [hord]; rfl⟩
   have e:List.range sh.nodes.length=0 :: (List.range (sh.nodes.length - 1)).map (1 + ·):=by
    obtain ⟨m,hm⟩:∃ m,sh.nodes.length=m + 1:=⟨sh.nodes.length - 1,by omega⟩
    rw [hm,List.range_succ_eq_map]
    simp only [Nat.add_sub_cancel]
    congr 1
    refine List.map_congr_left fun i _=>?_
    omega
   rw [hord,e]
   exact (pmx.map _).cons 0
  refine i_cat q24 q4 (by simp; omega) fun o ho=>?_
  rw [ordV]
  generalize hE:upd H4 o _=H5
  obtain ⟨S5,q5⟩:=upd_pair ho hE
  clear hE
  have kp5:Kp (D.more 101) H H5:=kp4.trans (Kp.of kp4.dk S5)
  have at5:=at_.kp (DA.le (Nat.le_add_right _ _):(D.more 101).At H) kp5
  have ha5:=at5.ha
  have hn5:=at5.hn
  have lord:=od.len
  repeat walk_at "vc"
  refine i_comp ?_
  repeat walk_at "vc"
  refine ⟨ln,rfl,⟨_,SqL.of hn5⟩,fun N hN=>?_⟩
  refine comp_list (xs:=nas.map V.ref) (fun n H' ys=>Same H5 H'/\H' N=some (.lst ys)/\∃ bs:List Addr,ys=bs.map V.ref/\bs.length=n) ⟨fresh_same hN,upd_same,[],rfl,rfl⟩ (fun n H' ys p=>⟨p.2.1,SqL.of (p.1 _ _ hn5)⟩) (fun n v H' ys e p=>?_) (fun H6 ys p=>?_)
  ·obtain ⟨Sm,hd,bs,rfl,lb⟩:=p
   have hn:n < (nas.map V.ref).length:=(List.getElem?_eq_some_iff.mp e).1
   refine s_name ⟨trivial,i_yes (iteT ?_)⟩
   refine i_lst (i_nil ⟨by simp [sizeLine],fun p hp=>?_⟩)
   refine NextC.mk (fresh_same hp _ _ hd) hn (by rw [List.length_map] at hn ⊢; omega) ⟨same_upd (Sm.trans (fresh_same hp)) hN,upd_same,bs++[p],by rw [List.map_append]; rfl,by rw [List.length_append,lb]; rfl⟩
  obtain ⟨S6,q6,bs0,rfl,lb0⟩:=p
  rw [List.length_map,lnas] at lb0
  have N0:H5 N=none:=hN
  have offN:∀ {b u},H5 b=some u->b ≠ N:=fun e=>ne_of_none e hN
  refine s_name ?_
  with_reducible refine s_seq ?_
  refine s_for (i_cons (i_var rfl (i_nil ⟨o,rfl,⟨_,SqL.of (S6 _ _ q5)⟩,?_⟩)))
  refine for_enum (xs:=ord.map natV) (fun i σ' H'=>∃ (bs:List Addr) (x4 x5:Option V),σ'=[some (.ref D.d),some (.ref a),some (.ref o),some (.ref N),x4,x5]/\H' N=some (.lst (bs.map V.ref))/\bs.length=sh.nodes.length/\Same H5 H'/\∀ j,j < i->∃ b,bs[ord.getD j 0]?=some b/\b ≠ N/\StepsAt H' b (nodeV ((sh.node j).map fun p=>(p.1,ord.getD p.2 0))))
   ⟨bs0,_,_,rfl,q6,lb0,S6,fun j h=>absurd h (Nat.not_lt_zero _)⟩ (fun i σ' H' _ pv=>by obtain ⟨_,_,_,_,_,_,Sm,_⟩:=pv; exact SqL.of (Sm _ _ q5)) (fun i v σ' H' t hv pv ht=>?_) (fun σ' H' pv=>?_)
  ·obtain ⟨bs,x4,x5,rfl,hN',lb,Sm,pr⟩:=pv
   rw [List.getElem?_map] at hv
   cases ex:ord[i]? with
   | none=>rw [ex] at hv; cases hv
   | some x =>
    rw [ex] at hv
    cases hv
    have hx:=od.small ex
    have hi:i < sh.nodes.length:=by rw [<-lord]; exact (List.getElem?_eq_some_iff.mp ex).1
    refine ⟨t,_,rfl,SqT.of upd_same,rfl,?_⟩
    refine ⟨_,_,rfl,s_name ⟨_,_,rfl,s_name ?_⟩⟩
    have St:=fresh_same (o:=.tup [.int (i:Nat),natV x]) ht
    have Smt:=Sm.trans St
    have hNt:=St _ _ hN'
    have prt:∀ j,j < i->∃ b,bs[ord.getD j 0]?=some b/\b ≠ N/\StepsAt (upd H' t (.tup [.int (i:Nat),natV x])) b (nodeV ((sh.node j).map fun p=>(p.1,ord.getD p.2 0))):=fun j hj=>by
     obtain ⟨b,e1,e2,e3⟩:=pr j hj
     exact ⟨b,e1,e2,e3.same St⟩
    generalize upd H' t (.tup [.int (i:Nat),natV x])=Ht at *
    clear pr hN' Sm St ht
    have at':=at5.same Smt
    have ha':=at'.ha
    have hn':=at'.hn
    have ho':=Smt _ _ q5
    obtain ⟨na,hna,hst⟩:=paired_get' at'.nodes (List.getElem?_eq_getElem hi)
    rw [<-Sh.node_of (List.getElem?_eq_getElem hi)] at hst
    obtain ⟨vs,hvs,pvs⟩:=hst
    have lvs:vs.length=(sh.node i).length:=steps_len pvs
    have few:=ok.few _ (Sh.node_mem hi)
    refine ⟨rfl,?_⟩
    refine s_asg (i_comp (s_list (i_op (i_op (i_var rfl (i_c (i_ixT ha' rfl (i_var rfl (i_ixL (v:=.ref na) (SqL.of hn') (atI_nat (by rw [List.getElem?_map,hna]; rfl)) ⟨na,rfl,⟨_,SqL.of hvs⟩,fun L hL=>?_⟩)))))))))
    have LN:L ≠ N:=(ne_of_none hNt hL).symm
    refine comp_list (xs:=vs) (fun n H'' ys=>Same Ht H''/\H'' L=some (.lst ys)/\Paired (fun v (st:V × Key)=>∃ b,v=.ref b/\H'' b=some (.tup [st.1,kV st.2])) ys (nodeV (((sh.node i).take n).map fun p=>(p.1,ord.getD p.2 0)))) ⟨fresh_same hL,upd_same,.nil⟩ (fun n H'' ys p=>⟨p.2.1,SqL.of (p.1 _ _ hvs)⟩) (fun n y H'' ys e p=>?_) (fun H6 ys p=>?_)
    ·obtain ⟨Sm,hd,prd⟩:=p
     obtain ⟨p,b,hpn,rfl,hb⟩:=steps_get pvs e
     have hn:n < vs.length:=(List.getElem?_eq_some_iff.mp e).1
     have hpm:=List.mem_of_getElem? hpn
     have hp2:=ok.tos _ (Sh.node_mem hi) p hpm
     have lys:ys.length=n:=by
      have:=paired_len prd
      unfold nodeV at this
      rw [List.length_map,List.length_map,List.length_take] at this
      omega
     refine ⟨b,_,rfl,SqT.of (Sm _ _ hb),rfl,_,_,rfl,s_name ⟨_,_,rfl,s_name ⟨rfl,by repeat' (first | exact trivial | refine ⟨rfl,?_⟩),i_yes (iteT ?_)⟩⟩⟩
     have ho'':=Sm _ _ ho'
     refine i_tup (i_cons (i_var rfl (i_cons (i_op (i_var rfl (i_var rfl (i_ixL (v:=natV (ord.getD p.2 0)) (SqL.of ho'') (atI_nat (by rw [List.getElem?_map,od.get hp2]; rfl)) (i_nil ⟨by simp [sizeLine],fun t ht=>?_⟩)))))))) 
     refine NextC.mk (fresh_same ht _ _ hd) hn (by omega) ⟨same_upd (Sm.trans (fresh_same ht)) hL,upd_same,?_⟩
     have tL:t ≠ L:=ne_of_none' hd ht
     have e2:nodeV (((sh.node i).take (n + 1)).map fun p=>(p.1,ord.getD p.2 0))=nodeV (((sh.node i).take n).map fun p=>(p.1,ord.getD p.2 0))++[(V.str p.1,Sum.inl (ord.getD p.2 0:Int))]:=by
      rw [List.take_succ,hpn]; unfold nodeV; rw [List.map_append,List.map_append]; rfl
     rw [e2]
     refine paired_snoc (paired_mono (fun v st ⟨b,e,q⟩=>⟨b,e,by rw [upd_ne (fun z=>by rw [z,hd] at q; cases q)]; exact fresh_same ht _ _ q⟩) prd) ⟨t,rfl,by rw [upd_ne tL]; exact upd_same⟩
    obtain ⟨S6,hd,prd⟩:=p
    rw [lvs,List.take_of_length_le (Nat.le_refl _)] at prd
    have hN6:=S6 _ _ hNt
    have xl:x < bs.length:=by rw [lb]; exact hx
    refine s_sub (i_var rfl (i_var rfl (s_setL (j:=x) hN6 (by unfold ixN; rw [if_pos (Int.natCast_nonneg _),List.length_map,if_pos (Int.ofNat_lt.mpr xl)]; rfl) ?_)))
    refine ⟨bs.set x L,_,_,rfl,by rw [upd_same,List.map_set],by rw [List.length_set]; exact lb,fun b u e=>by rw [upd_ne (offN e)]; exact S6 _ _ (Smt _ _ e),fun j hj=>?_⟩
    by_cases c:j=i
    ·subst c
     refine ⟨L,?_,LN,steps_off ⟨_,hN6⟩ ⟨_,hd,prd⟩ LN⟩
     rw [show ord.getD j 0=x from getD_mem' ex,List.getElem?_set_self xl]
    ·obtain ⟨b,e1,e2,e3⟩:=prt j (by omega)
     refine ⟨b,?_,e2,steps_off ⟨_,hN6⟩ (e3.same S6) e2⟩
     have hj':j < sh.nodes.length:=by omega
     have ne:x ≠ ord.getD j 0:=fun z=>c (by rw [<-od.idx ex,z,od.idx (od.get hj')])
     rw [List.getElem?_set_ne ne]; exact e1
  ·obtain ⟨bs,x4,x5,rfl,hN',lb,Sm,pr⟩:=pv
   rw [List.length_map,lord] at pr
   have kp':Kp (D.more 101) H H':=kp5.trans (Kp.of kp5.dk Sm)
   have at':=at5.same Sm
   have ha':=at'.ha
   repeat walk_at "vc"
   refine ⟨by simp [sizeLine],fun a' ha2=>?_⟩
   have S7:=fresh_same (o:=.tup [.ref li,.ref lo,.str sh.z,.ref N]) ha2
   obtain ⟨lam,hl⟩:=gd.lab
   refine k a' li lo N bs (numd sh ord) _ ((kp'.trans (Kp.of kp'.dk S7)).up (by omega)) ⟨upd_same,S7 _ _ at'.hi,S7 _ _ at'.ho,S7 _ _ hN',?_⟩ ⟨numd_ok ok od,⟨_,numd_lab ok od hl⟩,numd_nd ok od gd.nd⟩
   refine paired_of (by rw [numd_len,lb]) fun k b node e1 e2=>?_
   have hk:k < sh.nodes.length:=by rw [<-lb]; exact (List.getElem?_eq_some_iff.mp e1).1
   obtain ⟨b',f1,_,f3⟩:=pr _ (od.lt hk)
   have g1:ord.getD (ord.idxOf k) 0=k:=getD_mem' (od.at hk)
   rw [g1,e1] at f1
   cases f1
   rw [<-Sh.node_of e2,numd_node hk]
   exact f3.same S7
end

noncomputable def lmRows:Lm:=match defBody (top 7) with
 | _ :: .Assign _ (.Call _ [_,.Lambda p b sc pos] _ _) _ :: _=>⟨("rows_found" ++ ".<locals>.") ++ "<lambda>", p,b,sc,pos⟩
 | _=>⟨"", { posonlyargs:=[],args:=[],vararg:=none,kwonlyargs:=[],kw_defaults:=[],kwarg:=none,defaults:=[] },.Constant .none 0 ⟨0,0,0,0⟩,defScope (top 0),⟨0,0,0,0⟩⟩
theorem only1 {x y z:Str} (h:([(x,NameKind.local),(y,NameKind.free)]:List (Str × NameKind)).lookup z=some .free):z=y:=by
 rw [List.lookup_cons] at h
 by_cases e:(z == x)=true
 ·rw [e] at h; cases h
 ·have e:(z == x)=false:=by simpa using e
  rw [e] at h
  simp only at h
  rw [List.lookup_cons] at h
  by_cases e2:(z == y)=true
  ·exact eq_of_beq e2
  ·have e2:(z == y)=false:=by simpa using e2
   rw [e2] at h; cases h
theorem lm_scope:LmScope "node" "sheet" lmRows.scope:=⟨rfl,rfl,rfl,rfl,rfl,by decide,by decide +kernel,fun z h=>only1 h⟩
structure Tk (T:Addr) (H H':Hp):Prop where
 old:∀ b o,H b=some o->b ≠ T->H' b=some o
 tab:TbAt T lmRows H'
theorem tb_T {T:Addr} {H:Hp} {l:Lm} (t:TbAt T l H):∃ ps,H T=some (.tbl ps):=by rcases t with e | ⟨c,e,_⟩ <;> exact ⟨_,e⟩
theorem tb_ne {T b:Addr} {H:Hp} {l:Lm} {o:HO} (t:TbAt T l H) (h:H b=some o) (n:∀ ps,o ≠ .tbl ps):b ≠ T:=fun z=>by
 obtain ⟨ps,e⟩:=tb_T t
 rw [z,e] at h
 exact n ps (Option.some.inj h).symm
theorem tb_keep {T:Addr} {H H':Hp} {l:Lm} (t:TbAt T l H) (S:Same H H'):TbAt T l H':=by
 rcases t with e | ⟨c,e,q⟩
 ·exact .inl (S _ _ e)
 ·exact .inr ⟨c,S _ _ e,S _ _ q⟩
theorem Tk.lst {T:Addr} {H H':Hp} (t:TbAt T lmRows H) (k:Tk T H H'):∀ b xs,H b=some (.lst xs)->H' b=some (.lst xs):=fun b xs e=>k.old b _ e (tb_ne t e fun _ z=>nomatch z)
theorem Tk.tup {T:Addr} {H H':Hp} (t:TbAt T lmRows H) (k:Tk T H H'):∀ b xs,H b=some (.tup xs)->H' b=some (.tup xs):=fun b xs e=>k.old b _ e (tb_ne t e fun _ z=>nomatch z)
theorem Tk.dK {T:Addr} {H H':Hp} (t:TbAt T lmRows H) (k:Tk T H H'):∀ b xs,H b=some (.dK xs)->H' b=some (.dK xs):=fun b xs e=>k.old b _ e (tb_ne t e fun _ z=>nomatch z)
theorem Tk.of {T:Addr} {H H':Hp} (t:TbAt T lmRows H) (S:Same H H'):Tk T H H':=⟨fun b o e _=>S b o e,tb_keep t S⟩
theorem Tk.trans {T:Addr} {H H1 H2:Hp} (a:Tk T H H1) (b:Tk T H1 H2):Tk T H H2:=⟨fun c o e n=>b.old c o (a.old c o e n) n,b.tab⟩
noncomputable def stK (s:Sh):Key->List (V × Key)
 | .inl i=>nodeV (s.node i.toNat)
 | .inr _=>[]
theorem stK_nat (s:Sh) (i:Nat):stK s (Sum.inl (i:Int))=nodeV (s.node i):=by show nodeV (s.node (i:Int).toNat)=_; rw [Int.toNat_natCast]
theorem nxK_mem {s:Sh} {i:Nat} {y:Key}:y ∈ nxK (stK s) (Sum.inl (i:Int)) ↔ ∃ p ∈ s.node i,y=Sum.inl (p.2:Int):=by
 unfold nxK
 rw [stK_nat]
 unfold nodeV
 rw [List.map_map]
 constructor
 ·intro h
  obtain ⟨p,hp,e⟩:=List.mem_map.mp h
  exact ⟨p,hp,e.symm⟩
 ·rintro ⟨p,hp,rfl⟩
  exact List.mem_map.mpr ⟨p,hp,rfl⟩
theorem reach_key {s:Sh} {x:Key} (r:Bf.Reach (nxK (stK s)) (Sum.inl 0) x):∃ i:Nat,x=Sum.inl (i:Int)/\s.R i:=by
 induction r with
 | start=>exact ⟨0,rfl,.start⟩
 | @step a b _ hb ih =>
  obtain ⟨i,rfl,ri⟩:=ih
  obtain ⟨p,hp,rfl⟩:=nxK_mem.mp hb
  exact ⟨p.2,rfl,.step ri (List.mem_map.mpr ⟨p,hp,rfl⟩)⟩
theorem key_reach {s:Sh} {i:Nat} (r:s.R i):Bf.Reach (nxK (stK s)) (Sum.inl 0) (Sum.inl (i:Int)):=by
 induction r with
 | start=>exact .start
 | @step a b _ hb ih =>
  obtain ⟨p,hp,rfl⟩:=List.mem_map.mp hb
  exact .step ih (nxK_mem.mpr ⟨p,hp,rfl⟩)
theorem keys_few {s:Sh} (ok:ShOk s) {xs:List Key} (nd:xs.Nodup) (h:∀ x ∈ xs,∃ i:Nat,x=Sum.inl (i:Int)/\s.R i):xs.length<=s.nodes.length:=by
 have:=Bf.pigeon xs ((List.range s.nodes.length).map fun (i:Nat)=>(Sum.inl (i:Int):Key)) nd fun x hx=>by
  obtain ⟨i,rfl,ri⟩:=h x hx
  exact List.mem_map.mpr ⟨i,List.mem_range.mpr (Sh.R_lt ok ri),rfl⟩
 rwa [List.length_map,List.length_range] at this
structure RInv (s:Sh) (kvs:List (Key × V)):Prop where
 sound:∀ k v,valV kvs k=some v->∃ (i:Nat) (y:Str),k=Sum.inl (i:Int)/\v=.str y/\s.R i/\StOk s.ws.length y/\∀ lam,Lab s lam->lam i=y
 zero:valV kvs (Sum.inl 0)=some (.str s.z)
 nd:(kvs.map (·.1)).Nodup
theorem RInv.at {s:Sh} {kvs:List (Key × V)} (h:RInv s kvs) {i:Nat} (n:valV kvs (Sum.inl (i:Int)) ≠ none):∃ y,valV kvs (Sum.inl (i:Int))=some (.str y)/\StOk s.ws.length y/\∀ lam,Lab s lam->lam i=y:=by
 cases e:valV kvs (Sum.inl (i:Int)) with
 | none=>exact absurd e n
 | some v =>
  obtain ⟨j,y,ej,rfl,_,st,l⟩:=h.sound _ _ e
  cases ej
  exact ⟨y,rfl,st,l⟩
theorem RInv.first {s:Sh} (ok:ShOk s):RInv s [(Sum.inl 0,.str s.z)] where
 sound:=fun k v e=>by
  by_cases c:(Sum.inl 0:Key)=k
  ·rw [valV_pos (p:=(Sum.inl 0,V.str s.z)) c] at e
   cases e
   subst c
   exact ⟨0,s.z,rfl,rfl,.start,ok.st,fun lam l=>l.1⟩
  ·rw [valV_neg (p:=(Sum.inl 0,V.str s.z)) c] at e
   cases e
 zero:=valV_pos (p:=(Sum.inl 0,V.str s.z)) rfl
 nd:=by simp
theorem RInv.few {s:Sh} {kvs:List (Key × V)} (ok:ShOk s) (h:RInv s kvs):kvs.length<=s.nodes.length:=by
 have:=keys_few ok h.nd fun x hx=>by
  cases e:valV kvs x with
  | none=>exact absurd hx (valV_not e)
  | some v =>
   obtain ⟨i,y,rfl,_,r,_⟩:=h.sound _ _ e
   exact ⟨i,rfl,r⟩
 rwa [List.length_map] at this
theorem RInv.put {s:Sh} {kvs:List (Key × V)} (ok:ShOk s) (h:RInv s kvs) {i:Nat} {y:Str} {p:Str × Nat} (r:s.R i) (hp:p ∈ s.node i) (hy:valV kvs (Sum.inl (i:Int))=some (.str y)) (n:valV kvs (Sum.inl (p.2:Int))=none):RInv s (putK kvs (Sum.inl (p.2:Int)) (.str (turnT y (s.ws.idxOf p.1)))) where
 sound:=fun k v e=>by
  rw [valV_put] at e
  by_cases c:k=Sum.inl (p.2:Int)
  ·rw [if_pos c] at e
   cases e
   obtain ⟨j,y',ej,ey,_,st,l⟩:=h.sound _ _ hy
   cases ej
   cases ey
   exact ⟨p.2,_,c,rfl,.step r (List.mem_map.mpr ⟨p,hp,rfl⟩),turn_ok st (List.idxOf_lt_length_of_mem (ok.names _ (Sh.node_mem (Sh.R_lt ok r)) p hp)),fun lam L=>by rw [L.2 i r p hp,l lam L]⟩
  ·rw [if_neg c] at e
   exact h.sound k v e
 zero:=by
  rw [valV_put]
  by_cases c:(Sum.inl 0:Key)=Sum.inl (p.2:Int)
  ·rw [<-c,h.zero] at n; cases n
  ·rw [if_neg c]; exact h.zero
 nd:=by
  rw [putK_new _ n,List.map_append,List.nodup_append]
  refine ⟨h.nd,by simp,fun a ha b hb=>?_⟩
  have:b=Sum.inl (p.2:Int):=by simpa using hb
  subst this
  intro e
  subst e
  exact valV_not n ha
theorem put_keeps {kvs:List (Key × V)} {k j:Key} {v:V} (h:valV kvs j ≠ none):valV (putK kvs k v) j ≠ none:=by
 rw [valV_put]
 split
 ·exact fun z=>nomatch z
 ·exact h
structure RowsOk (s:Sh) (kvs:List (Key × V)):Prop where
 inv:RInv s kvs
 all:∀ i,s.R i->valV kvs (Sum.inl (i:Int)) ≠ none
noncomputable def spRows (TL:Addr):Sp:=fun vs H Q _=>∃ (a li lo ln:Addr) (nas:List Addr) (s:Sh),vs=[.ref a]/\ShAt H a li lo ln nas s/\ShOk s/\TbAt TL lmRows H/\∀ (R:Addr) (kvs:List (Key × V)) H',Tk TL H H'->H R=none->H' R=some (.dK kvs)->RowsOk s kvs->Q (.ref R) H'
theorem valV_of_get {kvs:List (Key × V)} (nd:(kvs.map (·.1)).Nodup):∀ {i:Nat} {k:Key} {v:V},kvs[i]?=some (k,v)->valV kvs k=some v:=by
 induction kvs with
 | nil=>intro i k v e; simp at e
 | cons p r ih =>
  intro i k v e
  rw [List.map_cons,List.nodup_cons] at nd
  cases i with
  | zero =>
   simp at e
   subst e
   exact valV_pos (p:=(k,v)) rfl
  | succ i =>
   simp at e
   rw [valV_neg (fun z:p.1=k=>nd.1 (by rw [z]; exact List.mem_map.mpr ⟨(k,v),List.mem_of_getElem? e,rfl⟩))]
   exact ih nd.2 e
theorem upd_drop {H:Hp} {c:Addr} {o:HO} (h:H c=some o):upd (dropH H c) c o=H:=by
 funext b
 by_cases e:b=c
 ·subst e; rw [upd_same,h]
 ·rw [upd_ne e,drop_ne e]
section
variable {P:Program} {w:World} {K:PySem.W.Frag} {mg:Str->Option Value} {base:Heap} {TT:Addr}
theorem calls_rows {f c cell:Addr}:Calls P w K mg base 1 f (rLam f lmRows "sheet" cell c (tOp (rIxL K) (tOp (rIxT K) (tVar 1) (tC (.int 3))) (tVar 0))) :=
 calls_lam (k:=0) lm_scope (fun pm ctv u=>rfl) fun A outer s H hr=>pe_ix ix_list (pe_ix ix_tup (pv 1) pe_int (fun _ _=>rfl)) (pv 0) (fun _ _=>rfl)
theorem sc_rows_found:FnScope ["sheet", "rows", "found", "node", "name", "to"] ["sheet"] (defScope (top 7)):=⟨rfl,rfl,rfl,by decide +kernel,rfl,by decide +kernel,by decide +kernel⟩
theorem ok_rows {TL cc:Addr} {f:Addr} {fd:FuncData} (Fu:FunC K "rows_found" "rows_found" (top 7) f fd cc) (T:Txt K mg TT) (CT:PySem.W.CodeHd base cc TL) (BM:BMain base mg) (f_found_from:Fn P w K mg base "found_from" ["start", "steps_of"] 2 (spFound P w K mg base 1)) (f_row_behind:Fn P w K mg base "row_behind" ["sheet", "row", "name"] 2 spBehind) :
  FnOk P w K mg base CX0 3 f fd ["sheet"] (spRows TL):=by
 have S:=sc_rows_found
 refine Fu.ok S (fun vs H Q E h=>?_) (fun A outer s H vs Q E hr h=>?_)
 ·obtain ⟨a,li,lo,ln,nas,sh,rfl,_⟩:=h
  rfl
 ·obtain ⟨a,li,lo,ln,nas,sh,rfl,at_,ok,tb,k⟩:=h
  have hu:=hu_of hr
  have HCL:PySem.closureFor lmRows.scope (PyProof.Rows.envOfC "rows_found" (defScope (top 7)) s.heap.objs.size f (.ref cc))=pure [(("sheet" : Str),(s.heap.objs.size + 1:Addr))]:=by rfl
  refine' ⟨?_,?bb,?_⟩
  case bb =>
   refine' pss_cons ?s1 ?r1
   case s1 =>
    refine' ps_set (i:=1) ?n ?r ?l ?e ?s ?f
    case n=>exact S.nd
    case r=>rfl
    case l=>first | exact Or.inl rfl | exact Or.inr rfl
    case s=>rfl
    case f=>first | exact Or.inl rfl | exact Or.inr rfl
    case e=>exact (pe_disp (pps_cons pe_int (pe_ix ix_tup (pv 0) pe_int (fun _ _=>rfl)) pps_nil) rfl rfl (by simp) (by decide))
   case r1 =>
    with_reducible refine' pss_cons ?s3 ?r3
    case s3 =>
     refine' ps_set (i:=2) ?n ?r ?l ?e ?s ?f
     case n=>exact S.nd
     case r=>rfl
     case l=>first | exact Or.inl rfl | exact Or.inr rfl
     case s=>rfl
     case f=>first | exact Or.inl rfl | exact Or.inr rfl
     case e=>exact (pe_fnC (i:=0) f_found_from (hr.mono (by first | decide | omega)) (by rfl) (pa_cons pe_int (pa_cons (pe_lam (T:=TL) (cl:=[(("sheet" : Str),(s.heap.objs.size + 1:Addr))]) rfl CT BM HCL) pa_nil) se_con) rfl rfl (Or.inr (Or.inl rfl)) rfl rfl)
    case r3 =>
     with_reducible refine' pss_cons ?s5 ?r5
     case s5 =>
      refine' ps_frz ?z6
      case z6 =>
       refine' ps_for PassesOwn.never rfl ?i6 ?g6 ?b6 ?h6
       case h6=>intro _; rfl
       case i6=>exact (pi_dictF (pv 2))
       case g6=>exact (pg_name (i:=3) S.nd rfl (by first | exact Or.inl rfl | exact Or.inr rfl))
       case b6 =>
        with_reducible refine' pss_one ?s7
        case s7 =>
         refine' ps_for PassesOwn.never rfl ?i8 ?g8 ?b8 ?h8
         case h8=>intro _; rfl
         case i8=>exact (pi_list (pe_dget hu (pv 2) (pv 3) (fun _ _=>rfl)))
         case g8=>exact (pg_tup rfl (pgs_cons (pg_name (i:=4) S.nd rfl (by first | exact Or.inl rfl | exact Or.inr rfl)) (pgs_cons (pg_name (i:=5) S.nd rfl (by first | exact Or.inl rfl | exact Or.inr rfl)) pgs_nil)))
         case b8 =>
          with_reducible refine' pss_one ?s9
          case s9 =>
           exact (ps_expr (pe_dsetd (pv 1) (pv 5) (pe_fn f_row_behind (hr.mono (by first | decide | omega)) (by rfl) (pa_cons (pv 0) (pa_cons (pe_dget hu (pv 1) (pv 3) (fun _ _=>rfl)) (pa_cons (pv 4) pa_nil se_name)) se_name)) ⟨rfl,rfl,rfl,rfl⟩))
     case r5 =>
      with_reducible refine' pss_one ?s11
      case s11 =>
       exact (ps_ret (pv 1))
  try dsimp only [cxOf,Cx.nox,Cx.wish]
  rw [show L2.start ["sheet", "rows", "found", "node", "name", "to"] [V.ref a]=[some (.ref a),none,none,none,none,none] from rfl]
  have big:100000 < sizeLine:=by decide
  generalize hcell:s.heap.objs.size + 1=cell
  refine s_seq (s_asg ?_)
  refine fun R hR=>?_
  have aR:a ≠ R:=ne_of_none at_.ha hR
  have haR:upd H R (.dK []) a=some (.tup [.ref li,.ref lo,.str sh.z,.ref ln]):=by rw [upd_ne aR]; exact at_.ha
  show tOp (rIxT K) (tVar 0) (tC (V.int 2)) [some (.ref a),none,none,none,none,none] (upd H R (.dK [])) _
  refine i_op (i_var rfl (i_c (i_ixT haR rfl ?_)))
  refine ⟨upd_same,[(Sum.inl 0,.str sh.z)],rfl,by simp,?_⟩
  rw [upd_upd]
  refine s_name ?_
  generalize hE:upd H R _=H1
  obtain ⟨S1,q1⟩:=upd_pair hR hE
  clear hE
  have q1:H1 R=some (.dK [(Sum.inl 0,.str sh.z)]):=q1
  have tb1:TbAt TL lmRows H1:=tb_keep tb S1
  with_reducible refine s_seq ?_
  with_reducible refine s_asg ?_
  show tCons (tC (V.int 0)) (tCons (tLam TL lmRows [("sheet", cell)]) tNil) _ _ _
  refine i_cons (i_c (i_cons ⟨tb1,fun fl c H2 md=>i_nil ⟨_,rfl,fun o uy hd ru hc=>?_⟩⟩))
  have md:Made TL lmRows [("sheet", cell)] H1 fl c H2:=md
  obtain rfl:uy=Value.ref a:=ru
  -- at the call
  have at2:ShAt H2 a li lo ln nas sh:=(at_.same S1).mono (fun b xs e=>md.old b _ e (tb_ne tb1 e fun _ z=>nomatch z)) (fun b xs e=>md.old b _ e (tb_ne tb1 e fun _ z=>nomatch z))
  have S2c:Same H2 (upd H2 cell (AsIs o)):=fresh_same hc
  have hf2:upd H2 cell (AsIs o) fl=some (LamO fl lmRows [("sheet", cell)] c):=S2c _ _ md.fn
  have hcc2:upd H2 cell (AsIs o) c=some (CodeO c lmRows.qual):=S2c _ _ md.code
  have hcl2:upd H2 cell (AsIs o) cell=some (AsIs o):=upd_same
  have at2c:ShAt (upd H2 cell (AsIs o)) a li lo ln nas sh:=at2.same S2c
  have k12:∀ b u,H b=some u->b ≠ TL->upd H2 cell (AsIs o) b=some u:=fun b u e n=>S2c _ _ (md.old b u (S1 _ _ e) n)
  have tb2:TbAt TL lmRows (upd H2 cell (AsIs o)):=.inr ⟨c,S2c _ _ md.tab,hcc2⟩
  have hR2:upd H2 cell (AsIs o) R=some (.dK [(Sum.inl 0,.str sh.z)]):=S2c _ _ (md.old _ _ q1 (tb_ne tb1 q1 fun _ z=>nomatch z))
  have nocell:∀ {b u},H2 b=some u->b ≠ cell:=fun e z=>by rw [z,hc] at e; cases e
  have H2R:∀ {b u},H b=some u->b ≠ TL->b ≠ cell:=fun {b u} e n=>nocell (md.old b u (S1 _ _ e) n)
  have acell:a ≠ cell:=nocell at2.ha
  have lncell:ln ≠ cell:=nocell at2.hn
  have Rcell:R ≠ cell:=nocell (md.old _ _ q1 (tb_ne tb1 q1 fun _ z=>nomatch z))
  have Tcell:TL ≠ cell:=nocell md.tab
  have ccell:c ≠ cell:=nocell md.code
  generalize upd H2 cell (AsIs o)=H2c at *
  refine ⟨Sum.inl 0,fl,lmRows,[("sheet", cell)],c,_,stK sh,sh.nodes.length,rfl,hf2,calls_rows (c:=c) (cell:=cell),by have:=ok.n100; omega,fun x H4 Q1 rx S4 q4=>?_,fun xs nd h=>keys_few ok nd fun x hx=>reach_key (h x hx),fun F as n H3 S3 hF ln3 las hF3 sts=>?_⟩
  ·obtain ⟨i,rfl,ri⟩:=reach_key rx
   have hi:=Sh.R_lt ok ri
   have at4:=at2c.same S4
   have hcl4:=S4 _ _ hcl2
   obtain ⟨na,hna,hst⟩:=paired_get' at4.nodes (List.getElem?_eq_getElem hi)
   refine ⟨o,Value.ref a,.ref a,S4 _ _ hf2,S4 _ _ hcc2,hcl4,hd,rfl,?_⟩
   have ha4:dropH H4 cell a=some (.tup [.ref li,.ref lo,.str sh.z,.ref ln]):=by rw [drop_ne acell]; exact at4.ha
   have hn4:dropH H4 cell ln=some (.lst (nas.map V.ref)):=by rw [drop_ne lncell]; exact at4.hn
   refine i_op (i_op (i_var rfl (i_c (i_ixT ha4 rfl (i_var rfl ?_)))))
   refine (i_ixL (v:=.ref na) (SqL.of hn4) (atI_nat (by rw [List.getElem?_map,hna]; rfl)) ?_:rIxL K _ (.int (i:Int)) _ _)
   rw [upd_drop hcl4]
   refine q4 na H4 (fun _ _ e=>e) ?_
   rw [stK_nat,Sh.node_of (List.getElem?_eq_getElem hi)]
   exact hst
  show gName 2 (V.ref F) _ (dropH H3 cell) _
  have hcl3:=S3 _ _ hcl2
  have d3:∀ {b u},H3 b=some u->b ≠ cell->dropH H3 cell b=some u:=fun e n=>by rw [drop_ne n]; exact e
  have Fcell:F ≠ cell:=fun z=>by rw [z,hcl2] at hF; cases hF
  have FR:F ≠ R:=fun z=>by rw [z,hR2] at hF; cases hF
  have tb3:TbAt TL lmRows (dropH H3 cell):=by
   rcases tb2 with e | ⟨c',e,q⟩
   ·exact .inl (d3 (S3 _ _ e) Tcell)
   ·have c'cell:c' ≠ cell:=fun z=>by rw [z,hcl2] at q; cases q
    exact .inr ⟨c',d3 (S3 _ _ e) Tcell,d3 (S3 _ _ q) c'cell⟩
  have k13:∀ b u,H b=some u->b ≠ TL->dropH H3 cell b=some u/\b ≠ F:=fun b u e n=>⟨d3 (S3 _ _ (k12 b u e n)) (H2R e n),fun z=>by rw [<-z,k12 b u e n] at hF; cases hF⟩
  have hF3d:dropH H3 cell F=some (.dK (fdK (Bf.bfs (nxK (stK sh)) (Sum.inl 0) n) as)):=d3 hF3 Fcell
  have hR3:dropH H3 cell R=some (.dK [(Sum.inl 0,.str sh.z)]):=d3 (S3 _ _ hR2) Rcell
  have at3:ShAt (dropH H3 cell) a li lo ln nas sh:=at_.mono (fun b xs e=>(k13 b _ e (tb_ne tb e fun _ z=>nomatch z)).1) (fun b xs e=>(k13 b _ e (tb_ne tb e fun _ z=>nomatch z)).1)
  have sts3:∀ (i:Nat) x b,(Bf.bfs (nxK (stK sh)) (Sum.inl 0) n)[i]?=some x->as[i]?=some b->StepsAt (dropH H3 cell) b (stK sh x):=fun i x b e1 e2=>by
   obtain ⟨vs,h1,h2⟩:=sts i x b e1 e2
   refine ⟨vs,d3 h1 (fun z=>by rw [z,hcl3] at h1; cases h1),paired_mono (fun v st ⟨b,e,q⟩=>⟨b,e,d3 q (fun z=>by rw [z,hcl3] at q; cases q)⟩) h2⟩
  have HT3:Tk TL H (dropH H3 cell):=⟨fun b u e n=>(k13 b u e n).1,tb3⟩
  clear d3
  generalize dropH H3 cell=H3d at *
  generalize hO:Bf.bfs (nxK (stK sh)) (Sum.inl 0) n=order at *
  refine s_name ?_
  with_reducible refine s_seq ?_
  refine (s_frz (a:=F) (u:=.dK (fdK order as)) (.inl hF3d) trivial fun ob=>?_)
  have h4:∀ b,b ≠ F->upd H3d F (.frz ob (.dK (fdK order as))) b=H3d b:=fun b n=>upd_ne n
  have hF4:upd H3d F (.frz ob (.dK (fdK order as))) F=some (.frz ob (.dK (fdK order as))):=upd_same
  generalize upd H3d F (.frz ob (.dK (fdK order as)))=H4 at *
  have l4:∀ b xs,H3d b=some (.lst xs)->H4 b=some (.lst xs):=fun b xs e=>by rw [h4 b (fun z=>by rw [z,hF3d] at e; cases e)]; exact e
  have t4:∀ b xs,H3d b=some (.tup xs)->H4 b=some (.tup xs):=fun b xs e=>by rw [h4 b (fun z=>by rw [z,hF3d] at e; cases e)]; exact e
  have at4:ShAt H4 a li lo ln nas sh:=at3.mono l4 t4
  have hR4:H4 R=some (.dK [(Sum.inl 0,.str sh.z)]):=by rw [h4 R FR.symm]; exact hR3
  have sts4:∀ (i:Nat) x b,order[i]?=some x->as[i]?=some b->StepsAt H4 b (stK sh x):=fun i x b e1 e2=>by
   obtain ⟨vs,h1,h2⟩:=sts3 i x b e1 e2
   exact ⟨vs,l4 _ _ h1,paired_mono (fun v st ⟨b,e,q⟩=>⟨b,e,t4 _ _ q⟩) h2⟩
  have oreach:∀ x ∈ order,∃ i:Nat,x=Sum.inl (i:Int)/\sh.R i:=fun x hx=>reach_key (Bf.bfs_reach n x (hO ▸ hx))
  have lfd:(fdK order as).length=n:=by rw [fdK_len (by omega)]; exact las
  -- each has a row when it is gone along
  have has:∀ (kvs:List (Key × V)) (j:Nat),RInv sh kvs->(∀ j',j' < j->∀ x,order[j']?=some x->∀ y ∈ nxK (stK sh) x,valV kvs y ≠ none)->∀ x,order[j]?=some x->valV kvs x ≠ none:=fun kvs j inv hp x hx=>by
   cases j with
   | zero =>
    have:=Bf.bfs_zero (nx:=nxK (stK sh)) (s:=(Sum.inl 0:Key)) n
    rw [hO,hx] at this
    cases this
    rw [inv.zero]; exact fun z=>nomatch z
   | succ j =>
    obtain ⟨i,y,h1,_,h3,h4⟩:=Bf.bfs_pred n (j + 1) x (by omega) (by rw [hO]; exact hx)
    rw [hO] at h3
    exact hp i h1 y h3 x h4
  refine s_for (s_dictF (i_var rfl ⟨F,ob,_,rfl,hF4,?_⟩))
  refine for_dict (fun j σ' H'=>∃ (kvs:List (Key × V)) (x3 x4 x5:Option V),σ'=[some (.ref a),some (.ref R),some (.ref F),x3,x4,x5]/\(∀ b u,H4 b=some u->b ≠ R->H' b=some u)/\H' R=some (.dK kvs)/\RInv sh kvs/\∀ j',j' < j->∀ x,order[j']?=some x->∀ y ∈ nxK (stK sh) x,valV kvs y ≠ none)
   ⟨_,_,_,_,rfl,fun b u e _=>e,hR4,RInv.first ok,fun j' h=>absurd h (Nat.not_lt_zero _)⟩ (fun j σ' H' _ pv=>?_) (fun j ky vl σ' H' hj pv=>?_) (fun σ' H' pv=>?_)
  ·obtain ⟨_,_,_,_,_,o4,_⟩:=pv
   exact o4 F _ hF4 FR
  ·obtain ⟨kvs,x3,x4,x5,rfl,o4,hR',inv,hp⟩:=pv
   obtain ⟨x,b,hx,hb,e1,e2⟩:∃ x b,order[j]?=some x/\as[j]?=some b/\ky=x/\vl=V.ref b:=by
    have hj2:=hj
    unfold fdK at hj2
    rw [List.getElem?_map] at hj2
    cases q:(order.zip as)[j]? with
    | none=>rw [q] at hj2; cases hj2
    | some p =>
     rw [q] at hj2
     cases hj2
     have:=List.getElem?_zip_eq_some.mp q
     exact ⟨p.1,p.2,this.1,this.2,rfl,rfl⟩
   subst e1 e2
   obtain ⟨i,rfl,ri⟩:=oreach ky (List.mem_of_getElem? hx)
   obtain ⟨vs,hvs,prs⟩:=sts4 j _ b hx hb
   have bR:b ≠ R:=fun z=>by rw [z,hR4] at hvs; cases hvs
   have dg:DGet H' F (kV (Sum.inl (i:Int))) (some (.ref b)):=by
    refine .inl ⟨fdK order as,Sum.inl (i:Int),.inr ⟨ob,o4 F _ hF4 FR⟩,rfl,?_⟩
    refine (valV_of_get ?_ hj).symm
    rw [fdK_keys]
    exact (List.take_sublist _ _).nodup (hO ▸ Bf.bfs_nodup n)
   refine s_name ?_
   refine s_for (s_list (i_dget (i_var rfl (i_var rfl ⟨F,_,rfl,dg,b,rfl,⟨_,SqL.of (o4 _ _ hvs bR)⟩,?_⟩))))
   have lvs:vs.length=(sh.node i).length:=by
    have:=paired_len prs
    rw [stK_nat] at this
    unfold nodeV at this
    rwa [List.length_map] at this
   refine for_list (xs:=vs) (fun i' σ' H'=>∃ (kvs:List (Key × V)) (x4 x5:Option V),σ'=[some (.ref a),some (.ref R),some (.ref F),some (.int (i:Int)),x4,x5]/\(∀ b u,H4 b=some u->b ≠ R->H' b=some u)/\H' R=some (.dK kvs)/\RInv sh kvs/\(∀ j',j' < j->∀ x,order[j']?=some x->∀ y ∈ nxK (stK sh) x,valV kvs y ≠ none)/\∀ q ∈ (sh.node i).take i',valV kvs (Sum.inl (q.2:Int)) ≠ none)
    ⟨_,_,_,rfl,o4,hR',inv,hp,fun q hq=>by simp at hq⟩ (fun i' σ' H' _ pv=>?_) (fun i' v σ' H' hv pv=>?_) (fun σ' H' pv=>?_)
   ·obtain ⟨_,_,_,_,o5,_⟩:=pv
    exact SqL.of (o5 _ _ hvs bR)
   ·obtain ⟨kvs,x4,x5,rfl,o5,hR5,inv5,hp5,hq5⟩:=pv
    obtain ⟨st,hst,tp,rfl,htp⟩:=paired_get prs hv
    rw [stK_nat] at hst
    unfold nodeV at hst
    rw [List.getElem?_map] at hst
    cases hpq:(sh.node i)[i']? with
    | none=>rw [hpq] at hst; cases hst
    | some q =>
     rw [hpq] at hst
     cases hst
     have hqm:q ∈ sh.node i:=List.mem_of_getElem? hpq
     have htp':H' tp=some (.tup [.str q.1,.int (q.2:Int)]):=o5 _ _ htp (fun z=>by rw [z,hR4] at htp; cases htp)
     refine ⟨tp,_,rfl,SqT.of htp',rfl,_,_,rfl,s_name ⟨_,_,rfl,s_name ⟨rfl,?_⟩⟩⟩
     have hrow:=has kvs j inv5 hp5 _ hx
     obtain ⟨y,hy,sty,_⟩:=inv5.at hrow
     refine s_drop (i_dsetd (i_var rfl ⟨R,rfl,.inl ⟨_,.inl hR5⟩,i_var rfl ?_⟩))
     refine i_call (i_cons (i_var rfl (i_cons (i_dget (i_var rfl (i_var rfl ⟨R,_,rfl,by have:=DGet.k (k:=Sum.inl (i:Int)) hR5; rw [hy] at this; exact this,i_cons (i_var rfl (i_nil ?_))⟩))))))
     have at5:ShAt H' a li lo ln nas sh:=at4.mono (fun b xs e=>o5 b _ e (fun z=>by rw [z,hR4] at e; cases e)) (fun b xs e=>o5 b _ e (fun z=>by rw [z,hR4] at e; cases e))
     refine ⟨a,li,lo,ln,nas,sh,y,q.1,rfl,at5,ok,sty,ok.names _ (Sh.node_mem (Sh.R_lt ok ri)) q hqm,fun H6 S6=>?_⟩
     have nextq:∀ {kv:List (Key × V)},(∀ q' ∈ (sh.node i).take i',valV kv (Sum.inl (q'.2:Int)) ≠ none)->valV kv (Sum.inl (q.2:Int)) ≠ none->∀ q' ∈ (sh.node i).take (i' + 1),valV kv (Sum.inl (q'.2:Int)) ≠ none:=fun h1 h2 q' hq'=>by
      rw [List.take_succ,hpq] at hq'
      rcases List.mem_append.mp hq' with h | h
      ·exact h1 q' h
      ·have:q'=q:=by simpa using h
       subst this; exact h2
     refine ⟨kvs,Sum.inl (q.2:Int),S6 _ _ hR5,rfl,fun v hv=>?_,fun hn=>⟨by have:=inv5.few ok; have:=ok.n100; omega,?_⟩⟩
     ·exact ⟨kvs,_,_,rfl,fun b u e n=>S6 _ _ (o5 b u e n),S6 _ _ hR5,inv5,hp5,nextq hq5 (by rw [hv]; exact fun z=>nomatch z)⟩
     ·refine ⟨_,_,_,rfl,fun b u e n=>by rw [upd_ne n]; exact S6 _ _ (o5 b u e n),upd_same,inv5.put ok ri hqm hy hn,fun j' h x hx' y hy'=>put_keeps (hp5 j' h x hx' y hy'),nextq (fun q' h=>put_keeps (hq5 q' h)) ?_⟩
      rw [valV_put,if_pos rfl]; exact fun z=>nomatch z
   ·obtain ⟨kvs,x4,x5,rfl,o5,hR5,inv5,hp5,hq5⟩:=pv
    refine ⟨kvs,_,_,_,rfl,o5,hR5,inv5,fun j' h x hx' y hy'=>?_⟩
    by_cases c:j' < j
    ·exact hp5 j' c x hx' y hy'
    ·have:j'=j:=by omega
     subst this
     rw [hx] at hx'
     cases hx'
     obtain ⟨q,hq,rfl⟩:=nxK_mem.mp hy'
     exact hq5 q (by rw [lvs,List.take_of_length_le (Nat.le_refl _)]; exact hq)
  ·obtain ⟨kvs,x3,x4,x5,rfl,o4,hR',inv,hp⟩:=pv
   rw [lfd] at hp
   refine ⟨o4 F _ hF4 FR,?_⟩
   refine s_ret (i_var rfl ?_)
   refine k R kvs _ ⟨fun b u e nT=>?_,?_⟩ hR (by rw [back_ne FR.symm]; exact hR') ⟨inv,fun i ri=>?_⟩
   ·obtain ⟨e3,nF⟩:=k13 b u e nT
    rw [back_ne nF]
    exact o4 b u (by rw [h4 b nF]; exact e3) (ne_of_none e hR)
   ·have bk:∀ {b u},H3d b=some u->b ≠ F->b ≠ R->back H3d F H' b=some u:=fun {b u} e n1 n2=>by rw [back_ne n1]; exact o4 b u (by rw [h4 b n1]; exact e) n2
    rcases tb3 with e | ⟨c',e,q⟩
    ·exact .inl (bk e (fun z=>by rw [z,hF3d] at e; cases e) (fun z=>by rw [z,hR3] at e; cases e))
    ·exact .inr ⟨c',bk e (fun z=>by rw [z,hF3d] at e; cases e) (fun z=>by rw [z,hR3] at e; cases e),bk q (fun z=>by rw [z,hF3d] at q; cases q) (fun z=>by rw [z,hR3] at q; cases q)⟩
   ·have hm:(Sum.inl (i:Int):Key) ∈ order:=hO ▸ (Bf.bfs_all (by rw [hO]; omega) _).mpr (key_reach ri)
    obtain ⟨j,hj,e⟩:=List.mem_iff_getElem.mp hm
    exact has kvs j inv (fun j' h=>hp j' (by omega)) _ (by rw [List.getElem?_eq_getElem hj,e])
end

structure SgsOk (s:Sh) (vs:List V):Prop where
 len:vs.length=s.nodes.length
 row:∀ i,s.R i->∃ y,vs[i]?=some (.str y)/\StOk s.ws.length y/\∀ lam,Lab s lam->lam i=y
 none:∀ i,i < s.nodes.length->¬ s.R i->vs[i]?=some .non
noncomputable def spSigns (TL:Addr):Sp:=fun vs H Q _=>∃ (a li lo ln:Addr) (nas:List Addr) (s:Sh),vs=[.ref a]/\ShAt H a li lo ln nas s/\ShOk s/\TbAt TL lmRows H/\∀ (L:Addr) (us:List V) H',Tk TL H H'->H L=none->H' L=some (.lst us)->SgsOk s us->Q (.ref L) H'
section
variable {P:Program} {w:World} {K:PySem.W.Frag} {mg:Str->Option Value} {base:Heap} {TT:Addr}
theorem sc_signs_of:FnScope ["sheet", "rows"] ["sheet"] (defScope (top 8)):=⟨rfl,rfl,rfl,by decide +kernel,rfl,by decide +kernel,by decide +kernel⟩
theorem ok_signs {TL:Addr} {f:Addr} {fd:FuncData} (Fu:Fun K "signs_of" "signs_of" (top 8) f fd) (T:Txt K mg TT) (f_rows_found:Fn P w K mg base "rows_found" ["sheet"] 3 (spRows TL)):FnOk P w K mg base CX0 4 f fd ["sheet"] (spSigns TL):=by
 have S:=sc_signs_of
 refine Fu.ok S (fun vs H Q E h=>?_) (fun cdv A outer s H vs Q E hr h=>?_)
 ·obtain ⟨a,li,lo,ln,nas,sh,rfl,_⟩:=h
  rfl
 ·obtain ⟨a,li,lo,ln,nas,sh,rfl,at_,ok,tb,k⟩:=h
  have hu:=hu_of hr
  refine ⟨_,(pss_cons (ps_set (i:=1) S.nd rfl (by first | exact Or.inl rfl | exact Or.inr rfl) (pe_fn f_rows_found (hr.mono (by first | decide | omega)) (by rfl) (pa_cons (pv 0) pa_nil se_name)))
   (pss_one (ps_ret (pe_lc (tgs:=["node"]) (cap:=[("rows", 1)]) rfl ⟨rfl,rfl,rfl,rfl,rfl,rfl⟩ (pi_range1 (by rfl) T.n_range (pa_cons (pe_callB call_len_seq (by rfl) T.n_len PySem.boot_len (pa_cons (pe_ix ix_tup (pv 0) pe_int (fun _ _=>rfl)) pa_nil)) pa_nil se_call)) (fun _ _ _ _=>(pg_name (i:=0) (show List.Nodup [("node" : Str),("rows" : Str)] by decide +kernel) rfl (by first | exact Or.inl rfl | exact Or.inr rfl))) (fun _ _ _ _=>pifs_nil) (fun _ _ _ _=>(pe_dget1 hu (pv 1) (pv 0) ⟨rfl,rfl,rfl,rfl⟩)))))),?_⟩
  try dsimp only [cxOf,Cx.nox,Cx.wish]
  rw [show L2.start ["sheet", "rows"] [V.ref a]=[some (.ref a),none] from rfl]
  have big:1000 < sizeLine:=by decide
  repeat walk_at "vc"
  refine ⟨a,li,lo,ln,nas,sh,rfl,at_,ok,tb,fun R kvs H1 t1 hR hR1 rok=>?_⟩
  have at1:ShAt H1 a li lo ln nas sh:=at_.mono (t1.lst tb) (t1.tup tb)
  have ha1:=at1.ha
  have lnas:nas.length=sh.nodes.length:=paired_len at1.nodes
  have n100:=ok.n100
  repeat walk_at "vc"
  refine i_comp ?_
  repeat walk_at "vc"
  refine ⟨_,_,rfl,Or.inl (SqL.of at1.hn),?_⟩
  repeat walk_at "vc"
  refine ⟨by rw [List.length_map]; omega,by rw [List.length_map]; omega,fun L hL=>?_⟩
  rw [Int.toNat_natCast,List.length_map,lnas]
  have HL:H L=none:=by
   cases e:H L with
   | none=>rfl
   | some o =>
    by_cases c:L=TL
    ·obtain ⟨ps,e2⟩:=tb_T t1.tab
     rw [c,e2] at hL; cases hL
    ·rw [t1.old _ _ e c] at hL; cases hL
  refine comp_range (n:=sh.nodes.length) (fun n H' ys=>Same H1 H'/\H' L=some (.lst ys)/\ys=(List.range n).map fun (i:Nat)=>(valV kvs (Sum.inl (i:Int))).getD .non) ⟨fresh_same hL,upd_same,rfl⟩ (fun i H' ys pv=>pv.2.1) (fun i H' ys hi pv=>?_) (fun H' ys pv=>?_)
  ·obtain ⟨S2,hl,rfl⟩:=pv
   rw [Int.zero_add]
   refine s_name ⟨by repeat' (first | exact trivial | refine ⟨rfl,?_⟩),i_yes (iteT ?_)⟩
   refine i_dget1 (i_var rfl ⟨R,rfl,.inl ⟨_,.inl (S2 _ _ hR1)⟩,i_var rfl ⟨_,DGet.k (k:=Sum.inl (i:Int)) (S2 _ _ hR1),?_⟩⟩)
   refine NextC.mk hl hi (by rw [List.length_map,List.length_range]; omega) ⟨same_upd S2 hL,upd_same,?_⟩
   rw [List.range_succ,List.map_append]; rfl
  ·obtain ⟨S2,hl,rfl⟩:=pv
   refine k L _ H' (t1.trans (Tk.of t1.tab S2)) HL hl ⟨by rw [List.length_map,List.length_range],fun i ri=>?_,fun i hi nr=>?_⟩
   ·obtain ⟨y,hy,st,l⟩:=rok.inv.at (rok.all i ri)
    refine ⟨y,?_,st,l⟩
    rw [List.getElem?_map,List.getElem?_range (Sh.R_lt ok ri)]
    show some ((valV kvs (Sum.inl (i:Int))).getD .non)=_
    rw [hy]; rfl
   ·rw [List.getElem?_map,List.getElem?_range hi]
    show some ((valV kvs (Sum.inl (i:Int))).getD .non)=_
    cases e:valV kvs (Sum.inl (i:Int)) with
    | none=>rfl
    | some v =>
     obtain ⟨j,y,ej,_,r,_⟩:=rok.inv.sound _ _ e
     cases ej
     exact absurd r nr
end

theorem nn_same {H Ha:Hp} {b:Addr} (sa:Same H Ha) (h:Ha b=none):H b=none:=by
 cases e:H b with
 | none=>rfl
 | some o=>rw [sa _ _ e] at h; cases h
noncomputable def inK (i:Nat):Key:=Sum.inl (i:Int)
theorem inK_inj {i j:Nat} (h:inK i=inK j):i=j:=by
 have:(i:Int)=(j:Int):=Sum.inl.inj h
 omega
theorem val_mem {kvs:List (Key × V)} {k:Key} (h:valV kvs k ≠ none):k ∈ kvs.map (·.1):=by
 cases e:valV kvs k with
 | none=>exact absurd e h
 | some v=>exact valV_in e
structure KI (s:Sh) (kvs:List (Key × V)) (ls:List Nat):Prop where
 inv:RInv s kvs
 keys:kvs.map (·.1)=ls.map inK
theorem KI.mem {s:Sh} {kvs:List (Key × V)} {ls:List Nat} (h:KI s kvs ls) {i:Nat}:i ∈ ls ↔ valV kvs (inK i) ≠ none:=by
 constructor
 ·intro hi z
  refine valV_not z ?_
  rw [h.keys]
  exact List.mem_map.mpr ⟨i,hi,rfl⟩
 ·intro hv
  have:=val_mem hv
  rw [h.keys] at this
  obtain ⟨j,hj,e⟩:=List.mem_map.mp this
  rw [<-inK_inj e]; exact hj
theorem KI.nd {s:Sh} {kvs:List (Key × V)} {ls:List Nat} (h:KI s kvs ls):ls.Nodup:=by
 have:=h.inv.nd
 rw [h.keys] at this
 exact List.Pairwise.of_map inK (fun a b h z=>h (by rw [z])) this
theorem KI.reach {s:Sh} {kvs:List (Key × V)} {ls:List Nat} (h:KI s kvs ls) {i:Nat} (hi:i ∈ ls):s.R i:=by
 cases e:valV kvs (inK i) with
 | none=>exact absurd e (h.mem.mp hi)
 | some v =>
  obtain ⟨j,y,ej,_,r,_⟩:=h.inv.sound _ _ e
  rw [inK_inj ej]; exact r
theorem KI.len {s:Sh} {kvs:List (Key × V)} {ls:List Nat} (h:KI s kvs ls):kvs.length=ls.length:=by
 have:=congrArg List.length h.keys
 rwa [List.length_map,List.length_map] at this
theorem KI.few {s:Sh} {kvs:List (Key × V)} {ls:List Nat} (ok:ShOk s) (h:KI s kvs ls):ls.length<=s.nodes.length:=by rw [<-h.len]; exact h.inv.few ok
theorem KI.first {s:Sh} (ok:ShOk s):KI s [(Sum.inl 0,.str s.z)] [0]:=⟨RInv.first ok,rfl⟩
theorem KI.put {s:Sh} {kvs:List (Key × V)} {ls:List Nat} (ok:ShOk s) (h:KI s kvs ls) {i:Nat} {y:Str} {p:Str × Nat} (hi:i ∈ ls) (hp:p ∈ s.node i) (hy:valV kvs (inK i)=some (.str y)) (n:valV kvs (inK p.2)=none):KI s (putK kvs (inK p.2) (.str (turnT y (s.ws.idxOf p.1)))) (ls++[p.2]) :=
 ⟨h.inv.put ok (h.reach hi) hp hy n,by rw [putK_new _ n,List.map_append,List.map_append,h.keys]; rfl⟩
theorem KI.done {s:Sh} {kvs:List (Key × V)} {ls:List Nat} (ok:ShOk s) (h:KI s kvs ls) (cl:∀ i ∈ ls,∀ p ∈ s.node i,p.2 ∈ ls):RowsOk s kvs:=by
 refine ⟨h.inv,fun i r=>h.mem.mp ?_⟩
 induction r with
 | start=>exact h.mem.mpr (by show valV kvs (Sum.inl 0) ≠ none; rw [h.inv.zero]; exact fun z=>nomatch z)
 | @step a b ra hb ih =>
  obtain ⟨p,hp,rfl⟩:=List.mem_map.mp hb
  exact cl a ih p hp
noncomputable def spLSig:Sp:=fun vs H Q _=>∃ (a li lo ln:Addr) (nas:List Addr) (s:Sh),vs=[.ref a]/\ShAt H a li lo ln nas s/\ShOk s/\∀ (R:Addr) (kvs:List (Key × V)) (ls:List Nat) H',Same H H'->H R=none->H' R=some (.dK kvs)->KI s kvs ls->RowsOk s kvs->Q (.ref R) H'
section
variable {P:Program} {w:World} {K:PySem.W.Frag} {mg:Str->Option Value} {base:Heap} {TT:Addr}
theorem sc_law_signs:FnScope ["sheet", "wires", "found", "row", "k", "node", "name", "to", "at"] ["sheet"] (defScope (top 22)):=⟨rfl,rfl,rfl,by decide +kernel,rfl,by decide +kernel,by decide +kernel⟩
theorem ok_lsig {f:Addr} {fd:FuncData} (Fu:Fun K "_law_signs" "_law_signs" (top 22) f fd) (T:Txt K mg TT) (f_law_turned:Fn P w K mg base "_law_turned" ["signs", "at"] 1 spTurned):FnOk P w K mg base CX0 2 f fd ["sheet"] spLSig:=by
 have S:=sc_law_signs
 refine Fu.ok S (fun vs H Q E h=>?_) (fun cdv A outer s H vs Q E hr h=>?_)
 ·obtain ⟨a,li,lo,ln,nas,sh,rfl,_⟩:=h
  rfl
 ·obtain ⟨a,li,lo,ln,nas,sh,rfl,at_,ok,kL⟩:=h
  have hu:=hu_of hr
  refine' ⟨?_,?bb,?_⟩
  case bb =>
   refine' pss_cons ?s1 ?r1
   case s1 =>
    refine' ps_set (i:=1) ?n ?r ?l ?e ?s ?f
    case n=>exact S.nd
    case r=>rfl
    case l=>first | exact Or.inl rfl | exact Or.inr rfl
    case s=>rfl
    case f=>first | exact Or.inl rfl | exact Or.inr rfl
    case e=>exact (pe_op op_cat (pe_ix ix_tup (pv 0) pe_int (fun _ _=>rfl)) (pe_ix ix_tup (pv 0) pe_int (fun _ _=>rfl)))
   case r1 =>
    with_reducible refine' pss_cons ?s3 ?r3
    case s3 =>
     refine' ps_set (i:=2) ?n ?r ?l ?e ?s ?f
     case n=>exact S.nd
     case r=>rfl
     case l=>first | exact Or.inl rfl | exact Or.inr rfl
     case s=>rfl
     case f=>first | exact Or.inl rfl | exact Or.inr rfl
     case e=>exact (pe_disp (pps_cons pe_int (pe_ix ix_tup (pv 0) pe_int (fun _ _=>rfl)) pps_nil) rfl rfl (by simp) (by decide))
    case r3 =>
     with_reducible refine' pss_cons ?s5 ?r5
     case s5 =>
      refine' ps_set (i:=3) ?n ?r ?l ?e ?s ?f
      case n=>exact S.nd
      case r=>rfl
      case l=>first | exact Or.inl rfl | exact Or.inr rfl
      case s=>rfl
      case f=>first | exact Or.inl rfl | exact Or.inr rfl
      case e=>exact (pe_lst (pa_cons pe_int pa_nil se_con))
     case r5 =>
      with_reducible refine' pss_cons ?s7 ?r7
      case s7 =>
       refine' ps_set (i:=4) ?n ?r ?l ?e ?s ?f
       case n=>exact S.nd
       case r=>rfl
       case l=>first | exact Or.inl rfl | exact Or.inr rfl
       case s=>rfl
       case f=>first | exact Or.inl rfl | exact Or.inr rfl
       case e=>exact pe_int
      case r7 =>
       with_reducible refine' pss_cons ?s9 ?r9
       case s9 =>
        refine' ps_while PassesOwn.never ?c10 ?b10
        case c10=>exact (pt_cmpR op_lt (pv 4) (pe_callB call_len_seq (by rfl) T.n_len PySem.boot_len (pa_cons (pv 3) pa_nil se_name)) (nomark _))
        case b10 =>
         with_reducible refine' pss_cons ?s11 ?r11
         case s11 =>
          refine' ps_set (i:=5) ?n ?r ?l ?e ?s ?f
          case n=>exact S.nd
          case r=>rfl
          case l=>first | exact Or.inl rfl | exact Or.inr rfl
          case s=>rfl
          case f=>first | exact Or.inl rfl | exact Or.inr rfl
          case e=>exact (pe_ix ix_list (pv 3) (pv 4) (fun _ _=>rfl))
         case r11 =>
          with_reducible refine' pss_cons ?s13 ?r13
          case s13 =>
           refine' ps_for PassesOwn.never rfl ?i14 ?g14 ?b14 ?h14
           case h14=>intro _; rfl
           case i14=>exact (pi_list (pe_ix ix_list (pe_ix ix_tup (pv 0) pe_int (fun _ _=>rfl)) (pv 5) (fun _ _=>rfl)))
           case g14=>exact (pg_tup rfl (pgs_cons (pg_name (i:=6) S.nd rfl (by first | exact Or.inl rfl | exact Or.inr rfl)) (pgs_cons (pg_name (i:=7) S.nd rfl (by first | exact Or.inl rfl | exact Or.inr rfl)) pgs_nil)))
           case b14 =>
            with_reducible refine' pss_cons ?s15 ?r15
            case s15 =>
             refine' ps_set (i:=8) ?n ?r ?l ?e ?s ?f
             case n=>exact S.nd
             case r=>rfl
             case l=>first | exact Or.inl rfl | exact Or.inr rfl
             case s=>rfl
             case f=>first | exact Or.inl rfl | exact Or.inr rfl
             case e=>exact (pe_bm PySem.F.plainAttrs_list PySem.F.slot_list_index PySem.F.type_list_index mt_index (pv 1) (pa_cons (pv 6) pa_nil se_name))
            case r15 =>
             with_reducible refine' pss_one ?s17
             case s17 =>
              with_reducible refine' ps_if ?c18 ?a18 ?o18
              case c18=>exact (pt_cmp (pc_dnotin hu (pv 7) (pv 2)))
              case a18 =>
               with_reducible refine' pss_cons ?s19 ?r19
               case s19 =>
                exact (ps_dput hu (pv 2) (pv 7) (pe_fn f_law_turned (hr.mono (by first | decide | omega)) (by rfl) (pa_cons (pe_dget hu (pv 2) (pv 5) (fun _ _=>rfl)) (pa_cons (pv 8) pa_nil se_name))) rfl)
               case r19 =>
                with_reducible refine' pss_one ?s21
                case s21 =>
                 exact (ps_expr (pe_bm PySem.F.plainAttrs_list PySem.F.slot_list_append PySem.F.type_list_append mt_append (pv 3) (pa_cons (pv 7) pa_nil se_name)))
              case o18 =>
               exact pss_nil
          case r13 =>
           with_reducible refine' pss_one ?s23
           case s23 =>
            refine' ps_set (i:=4) ?n ?r ?l ?e ?s ?f
            case n=>exact S.nd
            case r=>rfl
            case l=>first | exact Or.inl rfl | exact Or.inr rfl
            case s=>rfl
            case f=>first | exact Or.inl rfl | exact Or.inr rfl
            case e=>exact (pe_op op_add (pv 4) pe_int)
       case r9 =>
        with_reducible refine' pss_one ?s25
        case s25 =>
         exact (ps_ret (pv 2))
  try dsimp only [cxOf,Cx.nox,Cx.wish]
  rw [show L2.start ["sheet", "wires", "found", "row", "k", "node", "name", "to", "at"] [V.ref a]=[some (.ref a),none,none,none,none,none,none,none,none] from rfl]
  have big:100000 < sizeLine:=by decide
  have n100:=ok.n100
  have n1:=ok.n1
  have w11:=ok.w11
  have ha:=at_.ha
  have lw:(sh.ins.map V.str).length + (sh.outs.map V.str).length=sh.ws.length:=by rw [List.length_map,List.length_map]; unfold Sh.ws; rw [List.length_append]
  repeat walk_at "vc"
  refine i_cat at_.hi at_.ho (by omega) fun Lm hLm=>?_
  rw [<-List.map_append]
  generalize hE:upd H Lm _=H1
  obtain ⟨S1,q1⟩:=upd_pair hLm hE
  clear hE
  have ha1:=S1 _ _ ha
  repeat walk_at "vc"
  refine fun R hR=>?_
  have haR:=fresh_same (o:=.dK []) hR _ _ ha1
  show tOp (rIxT K) (tVar 0) (tC (V.int 2)) _ (upd H1 R (.dK [])) _
  refine i_op (i_var rfl (i_c (i_ixT haR rfl ?_)))
  refine ⟨upd_same,[(Sum.inl 0,.str sh.z)],rfl,by simp,?_⟩
  rw [upd_upd]
  refine s_name ?_
  generalize hE:upd H1 R _=H2
  obtain ⟨S2,q2⟩:=upd_pair hR hE
  clear hE
  have q2:H2 R=some (.dK [(Sum.inl 0,.str sh.z)]):=q2
  have R0:H R=none:=nn_same S1 hR
  have LmR:Lm ≠ R:=ne_of_none q1 hR
  repeat walk_at "vc"
  refine ⟨by simp [sizeLine],fun Ll hLl=>?_⟩
  generalize hE:upd H2 Ll _=H3
  obtain ⟨S3,q3⟩:=upd_pair hLl hE
  clear hE
  have Ll0:H Ll=none:=nn_same (S1.trans S2) hLl
  have LmLl:Lm ≠ Ll:=ne_of_none (S2 _ _ q1) hLl
  have RLl:R ≠ Ll:=ne_of_none q2 hLl
  have q3':H3 Ll=some (.lst (([0]:List Nat).map natV)):=q3
  repeat walk_at "vc"
  refine ⟨fun m σ H'=>∃ (n:Nat) (kvs:List (Key × V)) (ls:List Nat) (x5 x6 x7 x8:Option V),σ=[some (.ref a),some (.ref Lm),some (.ref R),some (.ref Ll),some (.int (n:Int)),x5,x6,x7,x8]/\m=sh.nodes.length + 1 - n/\n<=ls.length/\Same H H'/\H' Lm=some (.lst (sh.ws.map V.str))/\H' R=some (.dK kvs)/\H' Ll=some (.lst (ls.map natV))/\KI sh kvs ls/\∀ j i,j < n->ls[j]?=some i->∀ p ∈ sh.node i,p.2 ∈ ls,
   ⟨_,0,_,[0],_,_,_,_,rfl,rfl,by simp,S1.trans (S2.trans S3),(S2.trans S3) _ _ q1,S3 _ _ q2,q3',KI.first ok,fun j i h=>absurd h (Nat.not_lt_zero _)⟩,?_⟩
  rintro m σ H' ⟨n,kvs,ls,x5,x6,x7,x8,rfl,rfl,hn,SH,hm',hf',hl',wi,cl⟩
  have few:=wi.few ok
  repeat walk_at "vc"
  rw [List.length_map]
  by_cases cn:n < ls.length
  case neg =>
   refine ifF (decide_eq_false (by omega)) ?_
   repeat walk_at "vc"
   exact kL R kvs ls H' SH R0 hf' wi (wi.done ok fun i hi=>by
    obtain ⟨j,hj,e⟩:=List.mem_iff_getElem.mp hi
    exact cl j i (by omega) (by rw [List.getElem?_eq_getElem hj,e]))
  refine ifT (decide_eq_true (by omega)) ?_
  obtain ⟨i,hi⟩:∃ i,ls[n]?=some i:=⟨_,List.getElem?_eq_getElem cn⟩
  have him:=List.mem_of_getElem? hi
  have ri:=wi.reach him
  have hil:=Sh.R_lt ok ri
  refine ⟨_,fun σ' H'' h=>⟨sh.nodes.length + 1 - (n + 1),by omega,h⟩,?_⟩
  repeat walk_at "vc"
  refine i_ixL (v:=.int (i:Int)) (SqL.of hl') (atI_nat (by rw [List.getElem?_map,hi]; rfl)) ?_
  have atn:=at_.same SH
  have han:=atn.ha
  have hnn:=atn.hn
  obtain ⟨na,hna,hst⟩:=paired_get' at_.nodes (List.getElem?_eq_getElem hil)
  rw [<-Sh.node_of (List.getElem?_eq_getElem hil)] at hst
  obtain ⟨vs,hvs,prs⟩:=hst
  have lvs:vs.length=(sh.node i).length:=steps_len prs
  repeat walk_at "vc"
  refine i_ixL (v:=.ref na) (SqL.of hnn) (atI_nat (by rw [List.getElem?_map,hna]; rfl)) ⟨na,rfl,⟨_,SqL.of (SH _ _ hvs)⟩,?_⟩
  refine for_list (xs:=vs) (fun i' σ' H'=>∃ (kvs:List (Key × V)) (ls':List Nat) (x6 x7 x8:Option V),σ'=[some (.ref a),some (.ref Lm),some (.ref R),some (.ref Ll),some (.int (n:Int)),some (.int (i:Int)),x6,x7,x8]/\ls <+: ls'/\Same H H'/\H' Lm=some (.lst (sh.ws.map V.str))/\H' R=some (.dK kvs)/\H' Ll=some (.lst (ls'.map natV))/\KI sh kvs ls'/\∀ p ∈ (sh.node i).take i',p.2 ∈ ls')
   ⟨kvs,ls,_,_,_,rfl,List.prefix_refl _,SH,hm',hf',hl',wi,fun p hp=>by simp at hp⟩ (fun i' σ' H' _ pv=>?_) (fun i' v σ' H' hv pv=>?_) (fun σ' H' pv=>?_)
  ·obtain ⟨_,_,_,_,_,_,_,S',_⟩:=pv
   exact SqL.of (S' _ _ hvs)
  ·obtain ⟨kvs',ls',y6,y7,y8,rfl,pre,S',hm2,hf2,hl2,wi2,fi⟩:=pv
   obtain ⟨q,tp,hpq,rfl,htp⟩:=steps_get prs hv
   have hqm:q ∈ sh.node i:=List.mem_of_getElem? hpq
   have htp':=S' _ _ htp
   have him':i ∈ ls':=pre.subset him
   obtain ⟨y,hy,sty,ly⟩:=wi2.inv.at (wi2.mem.mp him')
   have hnm:=ok.names _ (Sh.node_mem hil) q hqm
   have few2:=wi2.few ok
   have nextf:∀ {ls2:List Nat},(∀ p ∈ (sh.node i).take i',p.2 ∈ ls2)->q.2 ∈ ls2->∀ p ∈ (sh.node i).take (i' + 1),p.2 ∈ ls2:=fun h1 h2 p hp=>by
    rw [List.take_succ,hpq] at hp
    rcases List.mem_append.mp hp with h | h
    ·exact h1 p h
    ·have:p=q:=by simpa using h
     subst this
     exact h2
   refine ⟨tp,_,rfl,SqT.of htp',rfl,_,_,rfl,s_name ⟨_,_,rfl,s_name ⟨rfl,?_⟩⟩⟩
   repeat walk_at "vc"
   refine ⟨Lm,sh.ws,q.1,sh.ws.idxOf q.1,rfl,rfl,hm2,idx_at hnm,idx_first,by omega,?_⟩
   repeat walk_at "vc"
   refine i_dnotin (i_var rfl (i_var rfl ⟨R,_,rfl,DGet.k (k:=inK q.2) hf2,?_⟩))
   refine ⟨_,rfl,?_⟩
   cases ev:valV kvs' (inK q.2) with
   | some v0 =>
    refine iteF ?_
    repeat walk_at "vc"
    exact ⟨kvs',ls',_,_,_,rfl,pre,S',hm2,hf2,hl2,wi2,nextf fi (wi2.mem.mpr (by rw [ev]; exact fun z=>nomatch z))⟩
   | none =>
    refine iteT ?_
    refine s_seq (s_dput (i_call (i_cons (i_dget (i_var rfl (i_var rfl ⟨R,.str y,rfl,hy ▸ DGet.k (k:=inK i) hf2,?_⟩))))))
    refine i_cons (i_var rfl (i_nil ⟨y,_,_,rfl,sty,List.idxOf_lt_length_of_mem hnm,w11,?_⟩))
    refine i_var rfl (i_var rfl ⟨R,_,rfl,DPut.k (k:=inK q.2) hf2 (by have:=wi2.len; omega),?_⟩)
    have wi3:=wi2.put ok him' hqm hy ev
    generalize hE:upd H' R _=H6
    have S6:Same H H6:=by subst hE; exact same_upd S' R0
    have hf6:H6 R=some (.dK (putK kvs' (inK q.2) (.str (turnT y (sh.ws.idxOf q.1))))):=by subst hE; exact upd_same
    have hm6:H6 Lm=some (.lst (sh.ws.map V.str)):=by subst hE; rw [upd_ne LmR]; exact hm2
    have hl6:H6 Ll=some (.lst (ls'.map natV)):=by subst hE; rw [upd_ne RLl.symm]; exact hl2
    clear hE
    repeat walk_at "vc"
    refine i_app hl6 (by rw [List.length_map]; omega) ?_
    refine ⟨_,ls'++[q.2],_,_,_,rfl,pre.trans (List.prefix_append _ _),same_upd S6 Ll0,by rw [upd_ne LmLl]; exact hm6,by rw [upd_ne RLl]; exact hf6,by rw [upd_same,List.map_append]; rfl,wi3,nextf (fun p hp=>List.mem_append_left _ (fi p hp)) (List.mem_append_right _ (by simp))⟩
  ·obtain ⟨kvs',ls',y6,y7,y8,rfl,pre,S',hm2,hf2,hl2,wi2,fi⟩:=pv
   rw [lvs,List.take_of_length_le (Nat.le_refl _)] at fi
   have pl:=pre.length_le
   repeat walk_at "vc"
   refine ⟨n + 1,kvs',ls',_,_,_,_,by rw [show ((n + 1:Nat):Int)=(n:Int) + 1 from rfl]; rfl,rfl,by omega,S',hm2,hf2,hl2,wi2,fun j i0 hj hi0=>?_⟩
   by_cases c:j < n
   ·have hj2:j < ls.length:=by omega
    have e0:ls[j]?=some ls[j]:=List.getElem?_eq_getElem hj2
    have:=Bf.pre_get pre e0
    rw [this] at hi0
    cases hi0
    exact fun p hp=>pre.subset (cl j _ c e0 p hp)
   ·have:j=n:=by omega
    subst this
    have:=Bf.pre_get pre hi
    rw [this] at hi0
    cases hi0
    exact fi
end

inductive Tr where
 | non | bl (b:Bool) | int (i:Int) | str (z:Str) | lst (ts:List Tr) | tup (ts:List Tr)
inductive Is (D:Addr->Prop) (H:Hp):Nat->V->Tr->Prop where
 | non {n:Nat}:Is D H n .non .non
 | bl {n:Nat} {b:Bool}:Is D H n (.bl b) (.bl b)
 | int {n:Nat} {i:Int}:Is D H n (.int i) (.int i)
 | str {n:Nat} {z:Str}:Is D H n (.str z) (.str z)
 | lst {n:Nat} {a:Addr} {xs:List V} {ts:List Tr}:¬ D a->H a=some (.lst xs)->xs.length=ts.length->xs.length<=100000->(∀ (j:Nat) x t,xs[j]?=some x->ts[j]?=some t->Is D H n x t)->Is D H (n + 1) (.ref a) (.lst ts)
 | tup {n:Nat} {a:Addr} {xs:List V} {ts:List Tr}:¬ D a->H a=some (.tup xs)->xs.length=ts.length->xs.length<=100000->(∀ (j:Nat) x t,xs[j]?=some x->ts[j]?=some t->Is D H n x t)->Is D H (n + 1) (.ref a) (.tup ts)
noncomputable def KeepD (D:Addr->Prop) (H H':Hp):Prop:=∀ b o,H b=some o->¬ D b->H' b=some o
noncomputable def Al (D:Addr->Prop) (H:Hp):Prop:=∀ b,H b=none->¬ D b
noncomputable def mor (D:Addr->Prop) (L:Addr):Addr->Prop:=fun b=>D b\/b=L
theorem al_mor {D:Addr->Prop} {H H':Hp} {L:Addr} {o:HO} (DA:Al D H) (S:Same H H') (hd:H' L=some o):Al (mor D L) H':=fun b hb z=>by
 rcases z with z | z
 ·exact DA b (nn_same S hb) z
 ·rw [z,hd] at hb; cases hb
theorem KeepD.of {D:Addr->Prop} {H H':Hp} (S:Same H H'):KeepD D H H':=fun b o e _=>S b o e
theorem keep_mor {D:Addr->Prop} {H H':Hp} {L:Addr} {o:HO} (S:Same H H'):KeepD (mor D L) H (upd H' L o):=fun b u e n=>by
 rw [upd_ne (fun z=>n (.inr z))]; exact S b u e
theorem Is.keep {D:Addr->Prop} {H H':Hp} (k:KeepD D H H') {n:Nat} {v:V} {t:Tr} (h:Is D H n v t):Is D H' n v t:=by
 induction h with
 | non=>exact .non
 | bl=>exact .bl
 | int=>exact .int
 | str=>exact .str
 | lst no e l1 l2 _ ih=>exact .lst no (k _ _ e no) l1 l2 ih
 | tup no e l1 l2 _ ih=>exact .tup no (k _ _ e no) l1 l2 ih
theorem Is.same {D:Addr->Prop} {H H':Hp} (S:Same H H') {n:Nat} {v:V} {t:Tr} (h:Is D H n v t):Is D H' n v t:=h.keep (.of S)
theorem Is.more {D:Addr->Prop} {H:Hp} {L:Addr} (hL:H L=none) {n:Nat} {v:V} {t:Tr} (h:Is D H n v t):Is (mor D L) H n v t:=by
 induction h with
 | non=>exact .non
 | bl=>exact .bl
 | int=>exact .int
 | str=>exact .str
 | lst no e l1 l2 _ ih=>exact .lst (fun z=>z.elim no fun z=>by rw [z,hL] at e; cases e) e l1 l2 ih
 | tup no e l1 l2 _ ih=>exact .tup (fun z=>z.elim no fun z=>by rw [z,hL] at e; cases e) e l1 l2 ih
theorem Is.less {D D':Addr->Prop} {H:Hp} (l:∀ b,D' b->D b) {n:Nat} {v:V} {t:Tr} (h:Is D H n v t):Is D' H n v t:=by
 induction h with
 | non=>exact .non
 | bl=>exact .bl
 | int=>exact .int
 | str=>exact .str
 | lst no e l1 l2 _ ih=>exact .lst (fun z=>no (l _ z)) e l1 l2 ih
 | tup no e l1 l2 _ ih=>exact .tup (fun z=>no (l _ z)) e l1 l2 ih
noncomputable def Tr.kd:Tr->String
 | .non => "NoneType" | .bl _ => "bool" | .int _ => "int" | .str _ => "str" | .lst _ => "list" | .tup _ => "tuple"
noncomputable def Tr.isStr:Tr->Bool
 | .str _=>true | _=>false
noncomputable def Tr.isBl:Tr->Bool
 | .bl _=>true | _=>false
noncomputable def Tr.isLst:Tr->Bool
 | .lst _=>true | _=>false
noncomputable def Tr.isTup:Tr->Bool
 | .tup _=>true | _=>false
noncomputable def Tr.isSeq:Tr->Bool
 | .lst _=>true | .tup _=>true | _=>false
theorem Is.ty {K:PySem.W.Frag} {D:Addr->Prop} {H:Hp} {n:Nat} {v:V} {t:Tr} (h:Is D H n v t):TyOf K H v (.type t.kd):=by
 cases h with
 | non=>exact .non
 | bl=>exact .bl _
 | int=>exact .int _
 | str=>exact .str _
 | lst no e=>exact .lst e
 | tup no e=>exact .tup e
theorem kit_str {K:PySem.W.Frag} (t:Tr):PySem.W.kitOne K (.type t.kd) (.type "str")=some t.isStr:=by cases t <;> with_unfolding_all rfl
theorem kit_bl {K:PySem.W.Frag} (t:Tr):PySem.W.kitOne K (.type t.kd) (.type "bool")=some t.isBl:=by cases t <;> with_unfolding_all rfl
theorem kit_lst {K:PySem.W.Frag} (t:Tr):PySem.W.kitOne K (.type t.kd) (.type "list")=some t.isLst:=by cases t <;> with_unfolding_all rfl
theorem kit_tup {K:PySem.W.Frag} (t:Tr):PySem.W.kitOne K (.type t.kd) (.type "tuple")=some t.isTup:=by cases t <;> with_unfolding_all rfl
theorem kit_seq {K:PySem.W.Frag} (t:Tr):PySem.W.kitAny K (.type t.kd) [.type "list", .type "tuple"]=some t.isSeq:=by cases t <;> with_unfolding_all rfl
noncomputable def All2 (D:Addr->Prop) (H:Hp) (n:Nat) (xs:List V) (ts:List Tr):Prop:=xs.length=ts.length/\∀ (j:Nat) x t,xs[j]?=some x->ts[j]?=some t->Is D H n x t
theorem All2.get {D:Addr->Prop} {H:Hp} {n j:Nat} {xs:List V} {ts:List Tr} {x:V} (h:All2 D H n xs ts) (e:xs[j]?=some x):∃ t,ts[j]?=some t/\Is D H n x t:=by
 have hj:=(List.getElem?_eq_some_iff.mp e).1
 have hl:=h.1
 have e2:ts[j]?=some ts[j]:=List.getElem?_eq_getElem (by omega)
 exact ⟨_,e2,h.2 j x _ e e2⟩
theorem All2.keep {D:Addr->Prop} {H H':Hp} {n:Nat} {xs:List V} {ts:List Tr} (k:KeepD D H H') (h:All2 D H n xs ts):All2 D H' n xs ts:=⟨h.1,fun j x t e1 e2=>(h.2 j x t e1 e2).keep k⟩
theorem All2.snoc {D:Addr->Prop} {H:Hp} {n m:Nat} {ys:List V} {ts:List Tr} {u:V} {t:Tr} (h:All2 D H n ys (ts.take m)) (hm:ts[m]?=some t) (hu:Is D H n u t):All2 D H n (ys++[u]) (ts.take (m + 1)):=by
 have hl:=h.1
 have mt:m < ts.length:=(List.getElem?_eq_some_iff.mp hm).1
 rw [List.length_take] at hl
 refine ⟨by rw [List.length_append,List.length_take,hl]; simp; omega,fun j x t' e1 e2=>?_⟩
 rw [List.take_succ,hm] at e2
 by_cases c:j < ys.length
 ·rw [List.getElem?_append_left c] at e1
  rw [List.getElem?_append_left (by rw [List.length_take]; omega)] at e2
  exact h.2 j x t' e1 e2
 ·have lj:=(List.getElem?_eq_some_iff.mp e1).1
  rw [List.length_append,List.length_singleton] at lj
  rw [List.getElem?_append_right (by omega),show j - ys.length=0 by omega] at e1
  rw [List.getElem?_append_right (by rw [List.length_take]; omega),List.length_take,show j - min m ts.length=0 by omega] at e2
  cases e1
  cases e2
  exact hu
theorem fnok_false {k:Nat} {f:Addr} {fd:FuncData} {ps:List Str} {sp:Sp} (h:∀ vs H Q E,sp vs H Q E->False):FnOk P w K mg base CX0 k f fd ps sp :=
 ⟨fun vs H Q E q=>(h vs H Q E q).elim,fun _ _ _ _ _ _ vs Q E _ _ _ _ q=>(h _ _ _ _ q).elim⟩
noncomputable def spCopyT (k:Nat):Sp:=fun vs H Q _=>∃ (D:Addr->Prop) (n:Nat) (v:V) (t:Tr),vs=[v]/\n + 1<=k/\Al D H/\Is D H n v t/\∀ u H',Same H H'->Is D H' n u t->Q u H'
noncomputable def spSameT (k:Nat):Sp:=fun vs H Q _=>∃ (D:Addr->Prop) (n:Nat) (v u:V) (t:Tr),vs=[v,u]/\n + 1<=k/\Is D H n v t/\Is D H n u t/\∀ H',Same H H'->Q (.bl true) H'
section
variable {P:Program} {w:World} {K:PySem.W.Frag} {mg:Str->Option Value} {base:Heap} {TT:Addr}
theorem sc_law_copy:FnScope ["thing"] ["thing"] (defScope (top 23)):=⟨rfl,rfl,rfl,by decide +kernel,rfl,by decide +kernel,by decide +kernel⟩
theorem ok_copyT {f:Addr} {fd:FuncData} (Fu:Fun K "_law_copy" "_law_copy" (top 23) f fd) (T:Txt K mg TT) (hm:mg "_law_copy" = some (.ref f)) (hk:PySem.W.keepIn K (.ref f)=true) (hb:Binds K fd ["thing"] []):∀ d,FnOk P w K mg base CX0 d f fd ["thing"] (spCopyT d)
 | 0=>fnok_false fun vs H Q E ⟨D,n,v,t,_,h,_⟩=>by omega
 | k + 1=>by
  have S:=sc_law_copy
  have f_law_copy:Fn P w K mg base "_law_copy" ["thing"] k (spCopyT k):=⟨f,fd,ok_copyT Fu T hm hk hb k,hm,hk,hb⟩
  refine Fu.ok S (fun vs H Q E h=>?_) (fun cdv A outer s H vs Q E hr h=>?_)
  ·obtain ⟨D,n,v,t,rfl,_⟩:=h
   rfl
  ·obtain ⟨D,n,v,t,rfl,hk',DA,it,q⟩:=h
   have hu:=hu_of hr
   have big:100000 < sizeLine:=by decide
   refine ⟨_,(pss_cons (ps_if (pt_val (pe_callB call_isinst (by rfl) T.n_isinstance PyProof.Rows.boot_isinstance (pa_cons (pv 0) (pa_cons (pe_bltn (v:=.ty "list") (by rfl) T.n_list PyProof.Rows.boot_list rfl) pa_nil)))) (pss_one (ps_ret (pe_lc (tgs:=["one"]) (cap:=[]) rfl ⟨rfl,rfl,rfl,rfl,rfl,rfl⟩ (pi_list (pv 0)) (fun _ _ _ _=>(pg_name (i:=0) (show List.Nodup [("one" : Str)] by decide +kernel) rfl (by first | exact Or.inl rfl | exact Or.inr rfl))) (fun _ _ _ _=>pifs_nil) (fun _ _ _ _=>(pe_fn f_law_copy (hr.mono (by first | decide | omega)) (by rfl) (pa_cons (pv 0) pa_nil)))))) pss_nil)
   (pss_cons (ps_if (pt_val (pe_callB call_isinst (by rfl) T.n_isinstance PyProof.Rows.boot_isinstance (pa_cons (pv 0) (pa_cons (pe_bltn (v:=.ty "tuple") (by rfl) T.n_tuple PyProof.Rows.boot_tuple rfl) pa_nil)))) (pss_one (ps_ret (pe_callTy call_tuple_of (by rfl) T.n_tuple PyProof.Rows.boot_tuple (pa_cons (pe_lc (tgs:=["one"]) (cap:=[]) rfl ⟨rfl,rfl,rfl,rfl,rfl,rfl⟩ (pi_tup (pv 0)) (fun _ _ _ _=>(pg_name (i:=0) (show List.Nodup [("one" : Str)] by decide +kernel) rfl (by first | exact Or.inl rfl | exact Or.inr rfl))) (fun _ _ _ _=>pifs_nil) (fun _ _ _ _=>(pe_fn f_law_copy (hr.mono (by first | decide | omega)) (by rfl) (pa_cons (pv 0) pa_nil)))) pa_nil)))) pss_nil)
   (pss_one (ps_ret (pv 0))))),?_⟩
   try dsimp only [cxOf,Cx.nox,Cx.wish]
   rw [show L2.start ["thing"] [v]=[some v] from rfl]
   repeat walk_at "vc"
   refine ⟨_,_,_,_,rfl,it.ty,kit_lst _,?_⟩
   cases cl:t.isLst
   ·refine ⟨_,rfl,iteF ?_⟩
    repeat walk_at "vc"
    refine ⟨_,_,_,_,rfl,it.ty,kit_tup _,?_⟩
    cases id it with
    | @tup n a xs ts no e l1 l2 hi =>
     refine ⟨_,rfl,iteT ?_⟩
     have al:All2 D H n xs ts:=⟨l1,hi⟩
     repeat walk_at "vc"
     refine i_comp (s_tup ?_)
     repeat walk_at "vc"
     refine ⟨a,rfl,⟨_,SqT.of e⟩,fun L hL=>?_⟩
     refine comp_tup (xs:=xs) (fun m H' ys=>Same H H'/\H' L=some (.lst ys)/\All2 (mor D L) H' n ys (ts.take m)) ⟨fresh_same hL,upd_same,rfl,fun j x t h _=>by simp at h⟩ (fun m H' ys p=>⟨p.2.1,SqT.of (p.1 _ _ e)⟩) (fun m x H' ys ex p=>?_) (fun H' ys p=>?_)
     ·obtain ⟨Sm,hd,ay⟩:=p
      have hm':m < xs.length:=(List.getElem?_eq_some_iff.mp ex).1
      obtain ⟨t',et,it'⟩:=al.get ex
      have yl:=ay.1
      rw [List.length_take] at yl
      refine s_name ⟨trivial,i_yes (iteT ?_)⟩
      refine i_call (i_cons (i_var rfl (i_nil ⟨mor D L,n,x,t',rfl,by omega,al_mor DA Sm hd,(it'.more hL).same Sm,fun u H2 S2 iu=>?_⟩)))
      exact NextC.mk (S2 _ _ hd) hm' (by omega) ⟨same_upd (Sm.trans S2) hL,upd_same,(ay.keep (keep_mor S2)).snoc et (iu.keep (keep_mor (Same.refl H2)))⟩
     ·obtain ⟨Sm,hd,ay⟩:=p
      rw [List.take_of_length_le (by omega)] at ay
      have yl:=ay.1
      refine i_nil ⟨L,ys,rfl,.inl ⟨SqL.of hd,fun p4 hp4=>?_⟩⟩
      have S4:=fresh_same (o:=.tup ys) hp4
      exact q (.ref p4) _ (Sm.trans S4) (.tup (DA p4 (nn_same Sm hp4)) upd_same yl (by omega) fun j x t e1 e2=>((ay.2 j x t e1 e2).less fun b h=>.inl h).same S4)
    | lst=>cases cl
    | _=>exact ⟨_,rfl,iteF (s_next (s_ret (i_var rfl (q _ H (Same.refl H) it))))⟩
   ·cases id it with
    | @lst n a xs ts no e l1 l2 hi =>
     refine ⟨_,rfl,iteT ?_⟩
     have al:All2 D H n xs ts:=⟨l1,hi⟩
     repeat walk_at "vc"
     refine i_comp (s_list ?_)
     repeat walk_at "vc"
     refine ⟨a,rfl,⟨_,SqL.of e⟩,fun L hL=>?_⟩
     refine comp_list (xs:=xs) (fun m H' ys=>Same H H'/\H' L=some (.lst ys)/\All2 (mor D L) H' n ys (ts.take m)) ⟨fresh_same hL,upd_same,rfl,fun j x t h _=>by simp at h⟩ (fun m H' ys p=>⟨p.2.1,SqL.of (p.1 _ _ e)⟩) (fun m x H' ys ex p=>?_) (fun H' ys p=>?_)
     ·obtain ⟨Sm,hd,ay⟩:=p
      have hm':m < xs.length:=(List.getElem?_eq_some_iff.mp ex).1
      obtain ⟨t',et,it'⟩:=al.get ex
      have yl:=ay.1
      rw [List.length_take] at yl
      refine s_name ⟨trivial,i_yes (iteT ?_)⟩
      refine i_call (i_cons (i_var rfl (i_nil ⟨mor D L,n,x,t',rfl,by omega,al_mor DA Sm hd,(it'.more hL).same Sm,fun u H2 S2 iu=>?_⟩)))
      exact NextC.mk (S2 _ _ hd) hm' (by omega) ⟨same_upd (Sm.trans S2) hL,upd_same,(ay.keep (keep_mor S2)).snoc et (iu.keep (keep_mor (Same.refl H2)))⟩
     ·obtain ⟨Sm,hd,ay⟩:=p
      rw [List.take_of_length_le (by omega)] at ay
      have yl:=ay.1
      exact q (.ref L) H' Sm (.lst (DA L hL) hd yl (by omega) fun j x t e1 e2=>(ay.2 j x t e1 e2).less fun b h=>.inl h)
    | _=>cases cl
theorem sc_law_same:FnScope ["one", "other"] ["one", "other"] (defScope (top 24)):=⟨rfl,rfl,rfl,by decide +kernel,rfl,by decide +kernel,by decide +kernel⟩
theorem ok_sameT {f:Addr} {fd:FuncData} (Fu:Fun K "_law_same" "_law_same" (top 24) f fd) (T:Txt K mg TT) (hm:mg "_law_same" = some (.ref f)) (hk:PySem.W.keepIn K (.ref f)=true) (hb:Binds K fd ["one", "other"] []):∀ d,FnOk P w K mg base CX0 d f fd ["one", "other"] (spSameT d)
 | 0=>fnok_false fun vs H Q E ⟨D,n,v,u,t,_,h,_⟩=>by omega
 | k + 1=>by
  have S:=sc_law_same
  have f_law_same:Fn P w K mg base "_law_same" ["one", "other"] k (spSameT k):=⟨f,fd,ok_sameT Fu T hm hk hb k,hm,hk,hb⟩
  refine Fu.ok S (fun vs H Q E h=>?_) (fun cdv A outer s H vs Q E hr h=>?_)
  ·obtain ⟨D,n,v,u,t,rfl,_⟩:=h
   rfl
  ·obtain ⟨D,n,v,u,t,rfl,hk',it,iu,q⟩:=h
   have hu:=hu_of hr
   have big:100000 < sizeLine:=by decide
   refine' ⟨?_,(pss_cons (ps_if ?h0 (pss_one ?h1) pss_nil) (pss_cons (ps_if ?h2 (pss_one ?h3) pss_nil) (pss_one ?h4))),?_⟩
   case h0=>exact (PW.pt (pw_or (pt_cmpR op_ne (pe_callB call_isinst (by rfl) T.n_isinstance PyProof.Rows.boot_isinstance (pa_cons (pv 0) (pa_cons (pe_bltn (v:=.ty "bool") (by rfl) T.n_bool PyProof.Rows.boot_bool rfl) pa_nil))) (pe_callB call_isinst (by rfl) T.n_isinstance PyProof.Rows.boot_isinstance (pa_cons (pv 1) (pa_cons (pe_bltn (v:=.ty "bool") (by rfl) T.n_bool PyProof.Rows.boot_bool rfl) pa_nil))) (nomark _)) (pw_or1 (pt_cmpR op_ne (pe_callB call_isinst (by rfl) T.n_isinstance PyProof.Rows.boot_isinstance (pa_cons (pv 0) (pa_cons (pe_bltn (v:=.ty "tuple") (by rfl) T.n_tuple PyProof.Rows.boot_tuple rfl) pa_nil))) (pe_callB call_isinst (by rfl) T.n_isinstance PyProof.Rows.boot_isinstance (pa_cons (pv 1) (pa_cons (pe_bltn (v:=.ty "tuple") (by rfl) T.n_tuple PyProof.Rows.boot_tuple rfl) pa_nil))) (nomark _)))))
   case h1=>exact (ps_ret pe_bl)
   case h2=>exact (PW.pt (pw_and (pt_val (pe_callB call_isinstTT (by rfl) T.n_isinstance PyProof.Rows.boot_isinstance (pa_cons (pv 0) (pa_cons (pe_tup (pa_cons (pe_bltn (v:=.ty "list") (by rfl) T.n_list PyProof.Rows.boot_list rfl) (pa_cons (pe_bltn (v:=.ty "tuple") (by rfl) T.n_tuple PyProof.Rows.boot_tuple rfl) pa_nil))) pa_nil)))) (pw_and1 (pt_val (pe_callB call_isinstTT (by rfl) T.n_isinstance PyProof.Rows.boot_isinstance (pa_cons (pv 1) (pa_cons (pe_tup (pa_cons (pe_bltn (v:=.ty "list") (by rfl) T.n_list PyProof.Rows.boot_list rfl) (pa_cons (pe_bltn (v:=.ty "tuple") (by rfl) T.n_tuple PyProof.Rows.boot_tuple rfl) pa_nil))) pa_nil)))))))
   case h3=>exact (ps_ret (pe_and (pe_cmpR op_eq (pe_callB call_len_seq (by rfl) T.n_len PySem.boot_len (pa_cons (pv 0) pa_nil)) (pe_callB call_len_seq (by rfl) T.n_len PySem.boot_len (pa_cons (pv 1) pa_nil)) (nomark _)) (pe_one (pe_cmpR (op_eqL hr.units) (pe_lc (tgs:=["a", "b"]) (cap:=[]) rfl ⟨rfl,rfl,rfl,rfl,rfl,rfl⟩ (pi_zipX (by rfl) T.n_zip (pa_cons (pv 0) (pa_cons (pv 1) pa_nil))) (fun _ _ _ _=>(pg_tupK (K:=K) (n:=2) rfl rfl (pgs_cons (pg_name (i:=0) (show List.Nodup [("a" : Str),("b" : Str)] by decide +kernel) rfl (by first | exact Or.inl rfl | exact Or.inr rfl)) (pgs_cons (pg_name (i:=1) (show List.Nodup [("a" : Str),("b" : Str)] by decide +kernel) rfl (by first | exact Or.inl rfl | exact Or.inr rfl)) pgs_nil)))) (fun _ _ _ _=>(pifs_one (pt_not (pt_val (pe_fn f_law_same (hr.mono (by first | decide | omega)) (by rfl) (pa_cons (pv 0) (pa_cons (pv 1) pa_nil))))))) (fun _ _ _ _=>pe_int)) (pe_lst pa_nil) (nomark _)))))
   case h4=>exact (ps_ret (pe_and (pe_cmpR op_eq (pe_callB call_isinst (by rfl) T.n_isinstance PyProof.Rows.boot_isinstance (pa_cons (pv 0) (pa_cons (pe_bltn (v:=.ty "str") (by rfl) T.n_str PyProof.Rows.boot_str rfl) pa_nil))) (pe_callB call_isinst (by rfl) T.n_isinstance PyProof.Rows.boot_isinstance (pa_cons (pv 1) (pa_cons (pe_bltn (v:=.ty "str") (by rfl) T.n_str PyProof.Rows.boot_str rfl) pa_nil))) (nomark _)) (pe_one (pe_cmpR op_eq (pv 0) (pv 1) (nomark _)))))
   try dsimp only [cxOf,Cx.nox,Cx.wish]
   rw [show L2.start ["one", "other"] [v,u]=[some v,some u] from rfl]
   repeat walk_at "vc"
   refine ⟨_,_,_,_,rfl,it.ty,kit_bl _,?_⟩
   repeat walk_at "vc"
   refine ⟨_,_,_,_,rfl,iu.ty,kit_bl _,?_⟩
   refine i_ne rfl ⟨_,rfl,ifF (by simp) ?_⟩
   repeat walk_at "vc"
   refine ⟨_,_,_,_,rfl,it.ty,kit_tup _,?_⟩
   repeat walk_at "vc"
   refine ⟨_,_,_,_,rfl,iu.ty,kit_tup _,?_⟩
   refine i_ne rfl ⟨_,rfl,ifF (by simp) ?_⟩
   repeat walk_at "vc"
   refine ⟨by simp [sizeLine],fun p1 hp1=>?_⟩
   have S1:=fresh_same (o:=.tup [.ty "list", .ty "tuple"]) hp1
   have at1:upd H p1 (.tup [.ty "list", .ty "tuple"]) p1=some (.tup [.ty "list", .ty "tuple"]):=upd_same
   generalize upd H p1 (.tup [.ty "list", .ty "tuple"])=H1 at *
   refine i_nil ⟨_,p1,["list", "tuple"],_,_,rfl,at1,(it.same S1).ty,kit_seq t,?_⟩
   cases cs:t.isSeq
   ·refine ⟨_,rfl,iteF (iteF ?_)⟩
    have it1:=it.same S1
    have iu1:=iu.same S1
    repeat walk_at "vc"
    refine ⟨_,_,_,_,rfl,it1.ty,kit_str _,?_⟩
    repeat walk_at "vc"
    refine ⟨_,_,_,_,rfl,iu1.ty,kit_str _,?_⟩
    refine i_eq rfl ⟨_,rfl,ifT (by simp) ?_⟩
    have fin:∀ (x:V),x=v->scal x x=true->x=u->(tOp rEq (tVar 0) (tVar 1)) [some v,some u] H1 Q:=fun x e1 e2 e3=>by
     subst e1
     subst e3
     refine i_op (i_var rfl (i_var rfl (i_eq e2 ?_)))
     rw [decide_eq_true rfl]
     exact q _ S1
    cases it with
    | non=>cases iu; exact fin _ rfl rfl rfl
    | bl=>cases iu; exact fin _ rfl rfl rfl
    | int=>cases iu; exact fin _ rfl rfl rfl
    | str=>cases iu; exact fin _ rfl rfl rfl
    | lst=>cases cs
    | tup=>cases cs
   ·refine ⟨_,rfl,iteT ?_⟩
    repeat walk_at "vc"
    refine ⟨by simp [sizeLine],fun p2 hp2=>?_⟩
    have S2:=S1.trans (fresh_same (o:=.tup [.ty "list", .ty "tuple"]) hp2)
    have at2:upd H1 p2 (.tup [.ty "list", .ty "tuple"]) p2=some (.tup [.ty "list", .ty "tuple"]):=upd_same
    generalize upd H1 p2 (.tup [.ty "list", .ty "tuple"])=H2 at *
    have it2:=it.same S2
    have iu2:=iu.same S2
    refine i_nil ⟨_,p2,["list", "tuple"],_,_,rfl,at2,iu2.ty,kit_seq t,?_⟩
    rw [cs]
    refine ⟨_,rfl,iteT ?_⟩
    clear it iu
    cases it2 with
    | @lst n a xs ts no e l1 l2 hi =>
     cases iu2 with
     | @lst _ b ys _ no' e' l1' l2' hi' =>
      have lxy:xs.length=ys.length:=l1.trans l1'.symm
      repeat walk_at "vc"
      refine ifT (by rw [lxy]; simp) ?_
      refine i_op (i_comp (i_cons (i_var rfl (i_cons (i_var rfl (i_nil ⟨a,b,rfl,.inl ⟨⟨_,SqL.of e⟩,⟨_,SqL.of e'⟩,fun L hL=>?_⟩⟩))))))
      refine comp_zipL (xs:=xs) (us:=ys) (by omega) (fun m H' zs=>Same H2 H'/\H' L=some (.lst zs)/\zs=[]) ⟨fresh_same hL,upd_same,rfl⟩ (fun m H' zs p=>⟨p.2.1,SqL.of (p.1 _ _ e),SqL.of (p.1 _ _ e')⟩) (fun m x y H' zs T ex ey p hT=>?_) (fun H' zs p=>?_)
      ·obtain ⟨Sm,hd,rfl⟩:=p
       have hm':m < xs.length:=(List.getElem?_eq_some_iff.mp ex).1
       have et:ts[m]?=some ts[m]:=List.getElem?_eq_getElem (by omega)
       have ST:=Sm.trans (fresh_same (o:=.tup [x,y]) hT)
       refine ⟨T,_,rfl,SqT.of upd_same,rfl,_,_,rfl,s_name ⟨_,_,rfl,s_name ⟨rfl,trivial,?_⟩⟩⟩
       refine i_not (i_tB (i_call (i_cons (i_var rfl (i_cons (i_var rfl (i_nil ⟨D,n,x,y,ts[m],rfl,by omega,(hi m x _ ex et).same ST,(hi' m y _ ey et).same ST,fun H3 S3=>?_⟩)))))))
       exact ⟨_,rfl,iteF ⟨_,Nat.sub_lt_sub_left hm' (Nat.lt_succ_self _),rfl,hm',ST.trans S3,S3 _ _ (fresh_same hT _ _ hd),rfl⟩⟩
      ·obtain ⟨Sm,hd,rfl⟩:=p
       refine i_lst (i_nil ⟨by simp [sizeLine],fun p hp=>?_⟩)
       exact i_eqL (SqL.of (fresh_same hp _ _ hd)) (SqL.of upd_same) rfl (fun j x y e _=>by simp at e) (q _ (S2.trans (Sm.trans (fresh_same hp))))
    | @tup n a xs ts no e l1 l2 hi =>
     cases iu2 with
     | @tup _ b ys _ no' e' l1' l2' hi' =>
      have lxy:xs.length=ys.length:=l1.trans l1'.symm
      repeat walk_at "vc"
      refine ⟨a,xs,rfl,.inr (SqT.of e),?_⟩
      repeat walk_at "vc"
      refine ⟨b,ys,rfl,.inr (SqT.of e'),?_⟩
      refine i_eq rfl ⟨_,rfl,ifT (by rw [lxy]; simp) ?_⟩
      refine i_op (i_comp (i_cons (i_var rfl (i_cons (i_var rfl (i_nil ⟨a,b,rfl,.inr ⟨⟨_,SqT.of e⟩,⟨_,SqT.of e'⟩,fun L hL=>?_⟩⟩))))))
      refine comp_zipT (xs:=xs) (us:=ys) (by omega) (fun m H' zs=>Same H2 H'/\H' L=some (.lst zs)/\zs=[]) ⟨fresh_same hL,upd_same,rfl⟩ (fun m H' zs p=>⟨p.2.1,SqT.of (p.1 _ _ e),SqT.of (p.1 _ _ e')⟩) (fun m x y H' zs T ex ey p hT=>?_) (fun H' zs p=>?_)
      ·obtain ⟨Sm,hd,rfl⟩:=p
       have hm':m < xs.length:=(List.getElem?_eq_some_iff.mp ex).1
       have et:ts[m]?=some ts[m]:=List.getElem?_eq_getElem (by omega)
       have ST:=Sm.trans (fresh_same (o:=.tup [x,y]) hT)
       refine ⟨T,_,rfl,SqT.of upd_same,rfl,_,_,rfl,s_name ⟨_,_,rfl,s_name ⟨rfl,trivial,?_⟩⟩⟩
       refine i_not (i_tB (i_call (i_cons (i_var rfl (i_cons (i_var rfl (i_nil ⟨D,n,x,y,ts[m],rfl,by omega,(hi m x _ ex et).same ST,(hi' m y _ ey et).same ST,fun H3 S3=>?_⟩)))))))
       exact ⟨_,rfl,iteF ⟨_,Nat.sub_lt_sub_left hm' (Nat.lt_succ_self _),rfl,hm',ST.trans S3,S3 _ _ (fresh_same hT _ _ hd),rfl⟩⟩
      ·obtain ⟨Sm,hd,rfl⟩:=p
       refine i_lst (i_nil ⟨by simp [sizeLine],fun p hp=>?_⟩)
       exact i_eqL (SqL.of (fresh_same hp _ _ hd)) (SqL.of upd_same) rfl (fun j x y e _=>by simp at e) (q _ (S2.trans (Sm.trans (fresh_same hp))))
    | non=>cases cs
    | bl=>cases cs
    | int=>cases cs
    | str=>cases cs
end

noncomputable def wantOf (s:Sh) (i:Nat):List Str:=s.outs.filter fun o=>decide (o ∈ (s.node i).map (·.1))
noncomputable def spWanted:Sp:=fun vs H Q _=>∃ (a li lo ln:Addr) (nas:List Addr) (s:Sh) (i:Nat),vs=[.ref a,.int (i:Int)]/\ShAt H a li lo ln nas s/\ShOk s/\i < s.nodes.length/\∀ l H',Same H H'->H l=none->H' l=some (.lst ((wantOf s i).map V.str))->Q (.ref l) H'
theorem putAll_some {k:Key}:∀ {qs kvs:List (Key × V)},(valV (putAll kvs qs) k).isSome=((valV kvs k).isSome || qs.any fun p=>decide (p.1=k))
 | [],kvs=>by simp [putAll]
 | q :: qs,kvs=>by
  show (valV (putAll (putK kvs q.1 q.2) qs) k).isSome=_
  rw [putAll_some (qs:=qs),valV_put]
  rw [List.any_cons]
  by_cases e:k=q.1
  ·rw [if_pos e,decide_eq_true e.symm]; simp
  ·rw [if_neg e,decide_eq_false (fun z=>e z.symm)]; simp
theorem node_ps {H:Hp} {vs:List V} {node:List (Str × Nat)} (h:Paired (fun v (s:V × Key)=>∃ b,v=.ref b/\H b=some (.tup [s.1,kV s.2])) vs (nodeV node)):Paired (PrAt H) vs (node.map fun p=>(p.1,V.int (p.2:Int))) :=
 paired_tomap (paired_mono (fun v p ⟨b,e,q⟩=>⟨b,e,q⟩) (paired_ofmap h))
section
variable {P:Program} {w:World} {K:PySem.W.Frag} {mg:Str->Option Value} {base:Heap} {TT:Addr}
theorem sc_outputs_wanted:FnScope ["sheet", "node", "turns"] ["sheet", "node"] (defScope (top 10)):=⟨rfl,rfl,rfl,by decide +kernel,rfl,by decide +kernel,by decide +kernel⟩
theorem ok_wanted {f:Addr} {fd:FuncData} (Fu:Fun K "outputs_wanted" "outputs_wanted" (top 10) f fd) (T:Txt K mg TT):FnOk P w K mg base CX0 1 f fd ["sheet", "node"] spWanted:=by
 have S:=sc_outputs_wanted
 refine Fu.ok S (fun vs H Q E h=>?_) (fun cdv A outer s H vs Q E hr h=>?_)
 ·obtain ⟨a,li,lo,ln,nas,sh,i,rfl,_⟩:=h
  rfl
 ·obtain ⟨a,li,lo,ln,nas,sh,i,rfl,at_,ok,hi,k⟩:=h
  have hu:=hu_of hr
  refine' ⟨?_,(pss_cons ?h0 (pss_one ?h1)),?_⟩
  case h0 =>
   refine' ps_set (i:=2) ?n ?r ?l ?e ?s ?f
   case n=>exact S.nd
   case r=>rfl
   case l=>first | exact Or.inl rfl | exact Or.inr rfl
   case s=>rfl
   case f=>first | exact Or.inl rfl | exact Or.inr rfl
   case e=>exact (pe_dpairs rfl (by rfl) T.n_dict (pa_cons (pe_ix ix_list (pe_ix ix_tup (pv 0) pe_int (fun _ _=>rfl)) (pv 1) (fun _ _=>rfl)) pa_nil))
  case h1=>exact (ps_ret (pe_lc (tgs:=["name"]) (cap:=[("turns", 2)]) rfl ⟨rfl,rfl,rfl,rfl,rfl,rfl⟩ (pi_list (pe_ix ix_tup (pv 0) pe_int (fun _ _=>rfl))) (fun _ _ _ _=>(pg_name (i:=0) (show List.Nodup [("name" : Str),("turns" : Str)] by decide +kernel) rfl (by first | exact Or.inl rfl | exact Or.inr rfl))) (fun _ _ _ _=>(pifs_one (pt_cmp (pc_din hu (pv 0) (pv 1))))) (fun _ _ _ _=>(pv 0))))
  try dsimp only [cxOf,Cx.nox,Cx.wish]
  rw [show L2.start ["sheet", "node", "turns"] [V.ref a,V.int (i:Int)]=[some (.ref a),some (.int (i:Int)),none] from rfl]
  have big:1000 < sizeLine:=by decide
  have ha:=at_.ha
  obtain ⟨na,hna,vs,hv,pv⟩:=paired_get' at_.nodes (List.getElem?_eq_getElem hi)
  have lv:=paired_len pv
  unfold nodeV at lv
  rw [List.length_map] at lv
  have few:=ok.few _ (List.getElem_mem hi)
  repeat walk_at "vc"
  unfold tDpairs
  repeat walk_at "vc"
  refine i_ixL (v:=.ref na) (SqL.of at_.hn) (atI_nat (by rw [List.getElem?_map,hna]; rfl)) ?_
  refine i_nil ⟨na,vs,_,rfl,SqL.of hv,by omega,node_ps pv,fun d hd=>?_⟩
  generalize hE:upd H d _=H1
  obtain ⟨S1,q1⟩:=upd_pair hd hE
  clear hE
  have ha1:=S1 _ _ ha
  have ho1:=S1 _ _ at_.ho
  repeat walk_at "vc"
  refine i_comp ?_
  repeat walk_at "vc"
  refine ⟨lo,rfl,⟨_,SqL.of ho1⟩,fun L hL=>?_⟩
  have hd1:H L=none:=by
   cases e:H L with
   | none=>rfl
   | some o=>rw [S1 _ _ e] at hL; cases hL
  have lo11:sh.outs.length<=11:=by
   have:=ok.w11
   unfold Sh.ws at this
   rw [List.length_append] at this
   omega
  refine comp_listF (xs:=sh.outs.map V.str) (fun j Hc ys=>Same H1 Hc/\Hc L=some (.lst ys)/\ys=((sh.outs.take j).filter fun o=>decide (o ∈ (sh.node i).map (·.1))).map V.str) ⟨fresh_same hL,upd_same,by simp⟩ (fun j Hc ys p=>⟨p.2.1,SqL.of (p.1 _ _ ho1)⟩) (fun j v Hc ys e p=>?_) (fun Hc ys p=>?_)
  ·obtain ⟨Sm,hdm,rfl⟩:=p
   rw [List.getElem?_map] at e
   cases ex:sh.outs[j]? with
   | none=>rw [ex] at e; cases e
   | some x =>
    rw [ex] at e
    cases e
    have hm:j < sh.outs.length:=(List.getElem?_eq_some_iff.mp ex).1
    refine s_name ⟨by repeat' (first | exact trivial | refine ⟨rfl,?_⟩),?_⟩
    repeat walk_at "vc"
    refine i_din (i_var rfl (i_var rfl ⟨d,_,rfl,.inl ⟨_,Sum.inr x,Rd.of (Sm _ _ q1),rfl,rfl⟩,?_⟩))
    have hb:(valV (putAll [] (keyed (sh.nodes[i].map fun p=>(p.1,V.int (p.2:Int))))) (Sum.inr x:Key)).isSome=decide (x ∈ (sh.node i).map (·.1)):=by
     rw [putAll_some,Sh.node_of (List.getElem?_eq_getElem hi)]
     rw [Bool.eq_iff_iff]
     simp [valV,keyed,List.any_eq_true]
    have tk:(sh.outs.take (j + 1)).filter (fun o=>decide (o ∈ (sh.node i).map (·.1)))=(sh.outs.take j).filter (fun o=>decide (o ∈ (sh.node i).map (·.1)))++[x].filter (fun o=>decide (o ∈ (sh.node i).map (·.1))):=by rw [List.take_succ,ex,List.filter_append]; rfl
    rw [hb]
    refine ⟨_,rfl,?_⟩
    have lfl:=List.length_filter_le (fun o=>decide (o ∈ (sh.node i).map (·.1))) (sh.outs.take j)
    rw [List.length_take] at lfl
    cases c:decide (x ∈ (sh.node i).map (·.1)) with
    | true =>
     refine iteT ?_
     refine i_var rfl (NextC.mk hdm (by rw [List.length_map]; exact hm) (by rw [List.length_map]; omega) ⟨same_upd Sm hL,upd_same,?_⟩)
     rw [tk,List.filter_cons_of_pos (by exact c),List.filter_nil,List.map_append]
     rfl
    | false =>
     refine iteF ?_
     refine ⟨(sh.outs.map V.str).length - (j + 1),by rw [List.length_map]; omega,rfl,by rw [List.length_map]; omega,Sm,hdm,?_⟩
     rw [tk,List.filter_cons_of_neg (by rw [c]; exact Bool.false_ne_true),List.filter_nil,List.append_nil]
  ·obtain ⟨Sm,hdm,rfl⟩:=p
   refine k L Hc (S1.trans Sm) hd1 ?_
   rw [hdm,List.length_map,List.take_length]
   rfl
end

noncomputable def PrI (H:Hp) (v:V) (p:Nat × Nat):Prop:=∃ b,v=.ref b/\H b=some (.tup [natV p.1,natV p.2])
noncomputable def PairsAt (H:Hp) (L:Addr) (ps:List (Nat × Nat)):Prop:=∃ vs,H L=some (.lst vs)/\Paired (PrI H) vs ps
noncomputable def clB (s:Sh) (lam:Nat->Str) (i j:Nat):Bool:=@decide (s.R i/\s.R j/\lam i=lam j/\wantOf s i ≠ wantOf s j) (Classical.propDecidable _)
theorem Tk.same {TL:Addr} {H H' H'':Hp} (t:Tk TL H H') (S:Same H' H''):Tk TL H H'':=⟨fun b o e n=>S _ _ (t.old b o e n),tb_keep t.tab S⟩
section
variable {P:Program} {w:World} {K:PySem.W.Frag} {mg:Str->Option Value} {base:Heap} {TT:Addr}
end
noncomputable def rB (s:Sh) (i:Nat):Bool:=@decide (s.R i) (Classical.propDecidable _)
theorem rB_T {s:Sh} {i:Nat} (h:s.R i):rB s i=true:=@decide_eq_true _ (Classical.propDecidable _) h
theorem rB_F {s:Sh} {i:Nat} (h:¬ s.R i):rB s i=false:=@decide_eq_false _ (Classical.propDecidable _) h
theorem rB_of {s:Sh} {i:Nat} (h:rB s i=true):s.R i:=@of_decide_eq_true _ (Classical.propDecidable _) h
noncomputable def reachL (s:Sh):List Nat:=(List.range s.nodes.length).filter (rB s)
theorem reachL_mem {s:Sh} (ok:ShOk s) {i:Nat}:i ∈ reachL s ↔ s.R i:=by
 unfold reachL
 rw [List.mem_filter,List.mem_range]
 exact ⟨fun h=>rB_of h.2,fun h=>⟨Sh.R_lt ok h,rB_T h⟩⟩
theorem cast_sorted {xs:List Nat} (h:xs.Pairwise (· < ·)):(xs.map fun (i:Nat)=>(i:Int)).Pairwise (·<=·):=by
 rw [List.pairwise_map]
 exact h.imp fun {a b} h=>by omega
theorem reachL_lt (s:Sh):(reachL s).Pairwise (· < ·):=List.Pairwise.filter _ List.pairwise_lt_range
theorem sorted_keys {s:Sh} {kvs:List (Key × V)} {ls:List Nat} (ok:ShOk s) (wi:KI s kvs ls) (ro:RowsOk s kvs) {ss:List Int} (pm:ss.Perm (ls.map fun (i:Nat)=>(i:Int))) (st:ss.Pairwise (·<=·)):ss=(reachL s).map fun (i:Nat)=>(i:Int):=by
 refine sortI_one st (cast_sorted (reachL_lt s)) (pm.trans (List.Perm.map _ ?_))
 refine (List.perm_ext_iff_of_nodup wi.nd ((reachL_lt s).imp fun h=>Nat.ne_of_lt h)).mpr fun i=>?_
 rw [reachL_mem ok]
 exact ⟨fun h=>wi.reach h,fun h=>wi.mem.mpr (ro.all i h)⟩
theorem natV_map (xs:List Nat):(xs.map fun (i:Nat)=>(i:Int)).map V.int=xs.map natV:=by rw [List.map_map]; rfl
noncomputable def leTb (a b:Str):Bool:=!decide (b.cps.toList < a.cps.toList)
noncomputable def srt (ws:List Str):List Str:=ws.mergeSort leTb
theorem srt_perm (ws:List Str):(srt ws).Perm ws:=List.mergeSort_perm _ _
theorem srt_le (ws:List Str):(srt ws).Pairwise leT:=by
 have h:=List.pairwise_mergeSort (le:=leTb) (fun a b c h1 h2=>?_) (fun a b=>?_) ws
 ·exact h.imp fun {a b} h=>by unfold leTb at h; unfold leT; simpa using h
 ·unfold leTb at *
  simp only [Bool.not_eq_true',decide_eq_false_iff_not] at *
  exact fun z=>h1 (List.lt_of_le_of_lt (List.not_lt.mp h2) z)
 ·unfold leTb
  rw [Bool.or_eq_true]
  simp only [Bool.not_eq_true',decide_eq_false_iff_not]
  by_cases c:b.cps.toList < a.cps.toList
  ·exact .inr fun z=>List.lt_irrefl _ (List.lt_trans c z)
  ·exact .inl c
theorem srt_eq {ws ss:List Str} (p:ss.Perm ws) (s:ss.Pairwise leT):ss=srt ws:=sort_one s (srt_le ws) (p.trans (srt_perm ws).symm)
section
variable {α β:Type} {f:α->Option β}
theorem fs_hit {xs:List α} {m:Nat} {x:α} {y:β} (h:(xs.take m).findSome? f=none) (e:xs[m]?=some x) (hf:f x=some y):xs.findSome? f=some y:=by
 have hm:=(List.getElem?_eq_some_iff.mp e).1
 have:xs=xs.take m++x :: xs.drop (m + 1):=by
  rw [<-(List.getElem?_eq_some_iff.mp e).2,List.getElem_cons_drop,List.take_append_drop]
 rw [this,List.findSome?_append,h,List.findSome?_cons,hf]
 rfl
theorem fs_step {xs:List α} {m:Nat} {x:α} (h:(xs.take m).findSome? f=none) (e:xs[m]?=some x) (hf:f x=none):(xs.take (m + 1)).findSome? f=none:=by
 rw [List.take_succ,e,List.findSome?_append,h]
 show [x].findSome? f=none
 rw [List.findSome?_cons,hf]
 rfl
theorem fs_filter {p:α->Bool} (h:∀ x,p x=false->f x=none):∀ (xs:List α),(xs.filter p).findSome? f=xs.findSome? f
 | []=>rfl
 | x :: xs=>by
  cases c:p x with
  | true=>rw [List.filter_cons_of_pos c,List.findSome?_cons,List.findSome?_cons,fs_filter h xs]
  | false=>rw [List.filter_cons_of_neg (by rw [c]; exact Bool.false_ne_true),List.findSome?_cons,h x c,fs_filter h xs]
end
theorem putAll_nd:∀ {qs kvs:List (Key × V)},((kvs++qs).map (·.1)).Nodup->putAll kvs qs=kvs++qs
 | [],kvs,_=>(List.append_nil _).symm
 | q :: qs,kvs,h=>by
  have n:valV kvs q.1=none:=by
   cases e:valV kvs q.1 with
   | none=>rfl
   | some v =>
    have:=valV_in e
    rw [List.map_append,List.nodup_append] at h
    exact absurd rfl (h.2.2 _ this q.1 (by simp))
  show putAll (putK kvs q.1 q.2) qs=_
  rw [putK_new _ n,putAll_nd (by rw [List.append_assoc]; exact h),List.append_assoc]
  rfl
noncomputable def kNode (node:List (Str × Nat)):List (Key × V):=keyed (node.map fun p=>(p.1,V.int (p.2:Int)))
theorem kNode_keys (node:List (Str × Nat)):(kNode node).map (·.1)=(node.map (·.1)).map Sum.inr:=by
 unfold kNode keyed
 rw [List.map_map,List.map_map,List.map_map]
 rfl
theorem dict_nd {node:List (Str × Nat)} (nd:(node.map (·.1)).Nodup):putAll [] (keyed (node.map fun p=>(p.1,V.int (p.2:Int))))=kNode node:=by
 refine putAll_nd ?_
 rw [List.nil_append]
 show ((kNode node).map (·.1)).Nodup
 rw [kNode_keys]
 exact List.Pairwise.map _ (fun a b h z=>h (Sum.inr.inj z)) nd
theorem kNode_val {node:List (Str × Nat)} (nd:(node.map (·.1)).Nodup) {p:Str × Nat} (hp:p ∈ node):valV (kNode node) (Sum.inr p.1:Key)=some (.int (p.2:Int)):=by
 obtain ⟨i,hi,e⟩:=List.mem_iff_getElem.mp hp
 refine valV_of_get (i:=i) (by rw [kNode_keys]; exact List.Pairwise.map _ (fun a b h z=>h (Sum.inr.inj z)) nd) ?_
 unfold kNode keyed
 rw [List.getElem?_map,List.getElem?_map,List.getElem?_eq_getElem hi,e]
 rfl
theorem kNode_some {node:List (Str × Nat)} {x:Str}:(valV (kNode node) (Sum.inr x:Key)).isSome=decide (x ∈ node.map (·.1)):=by
 rw [Bool.eq_iff_iff,decide_eq_true_iff]
 constructor
 ·intro h
  cases e:valV (kNode node) (Sum.inr x:Key) with
  | none=>rw [e] at h; cases h
  | some v =>
   have:=valV_in e
   rw [kNode_keys] at this
   obtain ⟨y,hy,e⟩:=List.mem_map.mp this
   rw [<-Sum.inr.inj e]; exact hy
 ·intro h
  cases e:valV (kNode node) (Sum.inr x:Key) with
  | none =>
   refine absurd ?_ (valV_not e)
   rw [kNode_keys]
   exact List.mem_map.mpr ⟨x,h,rfl⟩
  | some v=>rfl
noncomputable def nmsOf (s:Sh) (i:Nat):List Str:=(s.node i).map (·.1)
noncomputable def toOf (s:Sh) (i:Nat) (nm:Str):Nat:=match (s.node i).find? (fun p=>p.1 == nm) with
 | some p=>p.2
 | none=>0
theorem toOf_mem {s:Sh} {i:Nat} (nd:(nmsOf s i).Nodup) {p:Str × Nat} (hp:p ∈ s.node i):toOf s i p.1=p.2:=by
 unfold toOf
 have key:∀ {node:List (Str × Nat)},(node.map (·.1)).Nodup->p ∈ node->node.find? (fun q=>q.1 == p.1)=some p:=fun {node} nd hp=>by
  induction node with
  | nil=>cases hp
  | cons q r ih =>
   rw [List.map_cons,List.nodup_cons] at nd
   by_cases c:q.1=p.1
   ·rw [List.find?_cons_of_pos (by simpa using c)]
    rcases List.mem_cons.mp hp with e | h
    ·rw [e]
    ·exact absurd (List.mem_map.mpr ⟨p,h,c.symm⟩) nd.1
   ·rw [List.find?_cons_of_neg (by simpa using c)]
    rcases List.mem_cons.mp hp with e | h
    ·exact absurd (by rw [e]) c
    ·exact ih nd.2 h
 rw [key nd hp]
noncomputable def cnd (s:Sh) (i:Nat) (o nm:Str):Bool:=decide (o ∈ nmsOf s i) && (decide (nm ≠ o) && decide (o ∉ nmsOf s (toOf s i nm)))
noncomputable def hitN (s:Sh) (i:Nat) (o nm:Str):Option (Str × Str):=if cnd s i o nm=true then some (o,nm) else none
noncomputable def hitO (s:Sh) (i:Nat) (o:Str):Option (Str × Str):=(srt (nmsOf s i)).findSome? (hitN s i o)
noncomputable def mid (s:Sh) (i:Nat):Option (Str × Str):=s.outs.findSome? (hitO s i)
noncomputable def hitI (s:Sh) (i:Nat):Option (Nat × Str × Str):=(mid s i).map fun q=>(i,q.1,q.2)
noncomputable def unst (s:Sh):Option (Nat × Str × Str):=(reachL s).findSome? (hitI s)
theorem hitO_none {s:Sh} {i:Nat} {o:Str} (h:o ∉ nmsOf s i):hitO s i o=none:=by
 unfold hitO
 rw [List.findSome?_eq_none_iff]
 intro nm _
 unfold hitN cnd
 rw [decide_eq_false h]
 rfl
theorem mid_want (s:Sh) (i:Nat):(wantOf s i).findSome? (hitO s i)=mid s i:=by
 unfold wantOf mid
 exact fs_filter (fun o h=>hitO_none (of_decide_eq_false h)) _
theorem want_iff {s:Sh} {i:Nat} {o:Str} (h:o ∈ s.outs):o ∈ wantOf s i ↔ o ∈ nmsOf s i:=by
 unfold wantOf nmsOf
 rw [List.mem_filter,decide_eq_true_iff]
 exact ⟨fun h=>h.2,fun h2=>⟨h,h2⟩⟩
noncomputable def Opt2 (H:Hp) (v:V):Option (Str × Str)->Prop
 | none=>v=.non
 | some p=>∃ t,v=.ref t/\H t=some (.tup [.str p.1,.str p.2])
noncomputable def Opt3 (H:Hp) (v:V):Option (Nat × Str × Str)->Prop
 | none=>v=.non
 | some p=>∃ t,v=.ref t/\H t=some (.tup [.int (p.1:Int),.str p.2.1,.str p.2.2])
noncomputable def turnTr (p:Str × Nat):Tr:=.tup [.str p.1,.int (p.2:Int)]
noncomputable def nodeTr (node:List (Str × Nat)):Tr:=.lst (node.map turnTr)
noncomputable def shT (s:Sh):Tr:=.tup [.lst (s.ins.map Tr.str),.lst (s.outs.map Tr.str),.str s.z,.lst (s.nodes.map nodeTr)]
noncomputable def NoD:Addr->Prop:=fun _=>False
theorem al_no {H:Hp}:Al NoD H:=fun _ _ z=>z
theorem is_paired {D:Addr->Prop} {H:Hp} {n:Nat} {β:Type} {g:β->Tr} {F:V->β->Prop}:∀ {xs:List V} {bs:List β},Paired F xs bs->(∀ x b,F x b->Is D H n x (g b))->xs.length=(bs.map g).length/\∀ (j:Nat) x t,xs[j]?=some x->(bs.map g)[j]?=some t->Is D H n x t:=fun {xs bs} pr h=>by
 refine ⟨by rw [List.length_map]; exact paired_len pr,fun j x t e1 e2=>?_⟩
 obtain ⟨b,e3,fb⟩:=paired_get pr e1
 rw [List.getElem?_map,e3] at e2
 cases e2
 exact h x b fb
theorem is_tup2 {D:Addr->Prop} {H:Hp} {n:Nat} {a:Addr} {x y:V} {s t:Tr} (no:¬ D a) (h:H a=some (.tup [x,y])) (h1:Is D H n x s) (h2:Is D H n y t):Is D H (n + 1) (.ref a) (.tup [s,t]) :=
 .tup no h rfl (by simp) fun j u r e1 e2=>by
  match j,e1,e2 with
  | 0,e1,e2=>cases e1; cases e2; exact h1
  | 1,e1,e2=>cases e1; cases e2; exact h2
theorem is_strs {D:Addr->Prop} {H:Hp} {n:Nat} (zs:List Str):(zs.map V.str).length=(zs.map Tr.str).length/\∀ (j:Nat) x t,(zs.map V.str)[j]?=some x->(zs.map Tr.str)[j]?=some t->Is D H n x t:=by
 refine ⟨by rw [List.length_map,List.length_map],fun j x t e1 e2=>?_⟩
 rw [List.getElem?_map] at e1 e2
 cases e:zs[j]? with
 | none=>rw [e] at e1; cases e1
 | some z =>
  rw [e] at e1 e2
  cases e1
  cases e2
  exact .str
theorem node_is {H:Hp} {na:Addr} {node:List (Str × Nat)} (h:StepsAt H na (nodeV node)) (l:node.length<=100):Is NoD H 2 (.ref na) (nodeTr node):=by
 obtain ⟨vs,h1,h2⟩:=h
 obtain ⟨e1,e2⟩:=is_paired (D:=NoD) (H:=H) (n:=1) (g:=turnTr) (paired_ofmap h2) fun x p ⟨b,e,q⟩=>by rw [e]; exact is_tup2 (fun z=>z) q .str .int
 exact .lst (fun z=>z) h1 e1 (by rw [e1,List.length_map]; omega) e2
theorem sh_is {H:Hp} {a li lo ln:Addr} {nas:List Addr} {s:Sh} (ok:ShOk s) (h:ShAt H a li lo ln nas s):Is NoD H 4 (.ref a) (shT s):=by
 have w11:=ok.w11
 unfold Sh.ws at w11
 rw [List.length_append] at w11
 have n100:=ok.n100
 have i1:Is NoD H 3 (.ref li) (.lst (s.ins.map Tr.str)):=.lst (fun z=>z) h.hi (is_strs (D:=NoD) (H:=H) (n:=2) _).1 (by rw [List.length_map]; omega) (is_strs _).2
 have i2:Is NoD H 3 (.ref lo) (.lst (s.outs.map Tr.str)):=.lst (fun z=>z) h.ho (is_strs (D:=NoD) (H:=H) (n:=2) _).1 (by rw [List.length_map]; omega) (is_strs _).2
 have i4:Is NoD H 3 (.ref ln) (.lst (s.nodes.map nodeTr)):=by
  have lN:=paired_len h.nodes
  refine .lst (fun z=>z) h.hn (by rw [List.length_map,List.length_map]; exact lN) (by rw [List.length_map]; omega) fun j x t e1 e2=>?_
  rw [List.getElem?_map] at e2
  cases e:s.nodes[j]? with
  | none=>rw [e] at e2; cases e2
  | some node =>
   rw [e] at e2
   cases e2
   obtain ⟨na,f1,f2⟩:=paired_get' h.nodes e
   rw [List.getElem?_map,f1] at e1
   cases e1
   exact node_is f2 (ok.few _ (List.mem_of_getElem? e))
 exact .tup (fun z=>z) h.ha rfl (by simp) fun j u r e1 e2=>by
  match j,e1,e2 with
  | 0,e1,e2=>cases e1; cases e2; exact i1
  | 1,e1,e2=>cases e1; cases e2; exact i2
  | 2,e1,e2=>cases e1; cases e2; exact .str
  | 3,e1,e2=>cases e1; cases e2; exact i4
theorem strs_of_is {D:Addr->Prop} {H:Hp} {n:Nat}:∀ {zs:List Str} {xs:List V},xs.length=(zs.map Tr.str).length->(∀ (j:Nat) x t,xs[j]?=some x->(zs.map Tr.str)[j]?=some t->Is D H n x t)->xs=zs.map V.str
 | [],[],_,_=>rfl
 | [],_ :: _,h,_=>by simp at h
 | _ :: _,[],h,_=>by simp at h
 | z :: zs,x :: xs,h,f=>by
  have e:=f 0 x (.str z) rfl rfl
  cases e
  rw [List.map_cons,<-strs_of_is (zs:=zs) (xs:=xs) (by simpa using h) fun j x t e1 e2=>f (j + 1) x t (by simpa using e1) (by simpa using e2)]
theorem of_is {D:Addr->Prop} {H:Hp} {n:Nat} {β:Type} {g:β->Tr} {F:V->β->Prop} (hf:∀ x b,Is D H n x (g b)->F x b):∀ {bs:List β} {xs:List V},xs.length=(bs.map g).length->(∀ (j:Nat) x t,xs[j]?=some x->(bs.map g)[j]?=some t->Is D H n x t)->Paired F xs bs
 | [],[],_,_=>.nil
 | [],_ :: _,h,_=>by simp at h
 | _ :: _,[],h,_=>by simp at h
 | b :: bs,x :: xs,h,f=>.cons (hf x b (f 0 x _ rfl rfl)) (of_is hf (by simpa using h) fun j x t e1 e2=>f (j + 1) x t (by simpa using e1) (by simpa using e2))
theorem refs_of {F:Addr->List (Str × Nat)->Prop}:∀ {xs:List V} {nodes:List (List (Str × Nat))},Paired (fun x node=>∃ na,x=V.ref na/\F na node) xs nodes->∃ nas:List Addr,xs=nas.map V.ref/\Paired F nas nodes
 | _,_,.nil=>⟨[],rfl,.nil⟩
 | _,_,.cons ⟨na,e,h⟩ t=>by
  obtain ⟨nas,e2,p⟩:=refs_of t
  exact ⟨na :: nas,by rw [e,e2]; rfl,.cons h p⟩
theorem len4 {xs:List V} (h:xs.length=4):∃ a b c d,xs=[a,b,c,d]:=by
 match xs,h with
 | [a,b,c,d],_=>exact ⟨a,b,c,d,rfl⟩
theorem turn_of {D:Addr->Prop} {H:Hp} {n:Nat} {x:V} {p:Str × Nat} (h:Is D H n x (turnTr p)):∃ b,x=.ref b/\H b=some (.tup [V.str p.1,kV (Sum.inl (p.2:Int))]):=by
 unfold turnTr at h
 cases h with
 | @tup n a xs ts no e l1 l2 hi =>
  obtain ⟨y1,y2,rfl⟩:∃ y1 y2,xs=[y1,y2]:=by
   match xs,l1 with
   | [a,b],_=>exact ⟨a,b,rfl⟩
  have h1:=hi 0 y1 _ rfl rfl
  have h2:=hi 1 y2 _ rfl rfl
  cases h1
  cases h2
  exact ⟨a,rfl,e⟩
theorem node_of {D:Addr->Prop} {H:Hp} {n:Nat} {x:V} {node:List (Str × Nat)} (h:Is D H n x (nodeTr node)):∃ na,x=.ref na/\StepsAt H na (nodeV node):=by
 unfold nodeTr at h
 cases h with
 | @lst n a xs ts no e l1 l2 hi=>exact ⟨a,rfl,xs,e,paired_tomap (of_is (F:=fun v (p:Str × Nat)=>∃ b,v=V.ref b/\H b=some (.tup [V.str p.1,kV (Sum.inl (p.2:Int))])) (fun x p h=>turn_of h) l1 hi)⟩
theorem sh_of_is {D:Addr->Prop} {H:Hp} {n:Nat} {u:V} {s:Sh} (h:Is D H n u (shT s)):∃ a li lo ln nas,u=.ref a/\ShAt H a li lo ln nas s:=by
 unfold shT at h
 cases h with
 | @tup n a xs ts no e l1 l2 hi =>
  obtain ⟨y1,y2,y3,y4,rfl⟩:=len4 l1
  have h1:=hi 0 y1 _ rfl rfl
  have h2:=hi 1 y2 _ rfl rfl
  have h3:=hi 2 y3 _ rfl rfl
  have h4:=hi 3 y4 _ rfl rfl
  cases h3
  cases h1 with
  | @lst _ li xs1 _ _ e1 k1 _ g1 =>
   cases h2 with
   | @lst _ lo xs2 _ _ e2 k2 _ g2 =>
    cases h4 with
    | @lst _ ln xs4 _ _ e4 k4 _ g4 =>
     obtain ⟨nas,rfl,pn⟩:=refs_of (of_is (F:=fun x node=>∃ na,x=V.ref na/\StepsAt H na (nodeV node)) (fun x node h=>node_of h) k4 g4)
     rw [strs_of_is k1 g1] at e1
     rw [strs_of_is k2 g2] at e2
     exact ⟨a,li,lo,ln,nas,rfl,⟨e,e1,e2,e4,pn⟩⟩
theorem tb_kp {TL:Addr} {D D':Dk} {H H':Hp} (tb:TbAt TL lmRows H) (DA:D.At H) (k:Kp D' H H') (e:D.d=D'.d):TbAt TL lmRows H':=by
 have no:∀ {b o},H b=some o->(∀ xs,o ≠ .lst xs)->¬ D'.own b:=fun {b o} h n z=>notOwn DA h (fun xs q=>absurd q (n xs)) (show b=D.d by rw [e]; exact z)
 rcases tb with h | ⟨c,h,q⟩
 ·exact .inl (k.old _ _ h (no h fun _ z=>nomatch z))
 ·exact .inr ⟨c,k.old _ _ h (no h fun _ z=>nomatch z),k.old _ _ q (no q fun _ z=>nomatch z)⟩
theorem Tk.write {TL L:Addr} {H H1:Hp} {xs:List V} {o:HO} (a:Tk TL H H1) (hL:H1 L=some (.lst xs)) (h0:H L=none):Tk TL H (upd H1 L o):=by
 refine ⟨fun b u e n=>by rw [upd_ne (ne_of_none e h0)]; exact a.old b u e n,?_⟩
 rcases a.tab with e | ⟨c,e,q⟩
 ·exact .inl (by rw [upd_ne (fun z=>by rw [z,hL] at e; cases e)]; exact e)
 ·exact .inr ⟨c,by rw [upd_ne (fun z=>by rw [z,hL] at e; cases e)]; exact e,by rw [upd_ne (fun z=>by rw [z,hL] at q; cases q)]; exact q⟩
theorem Is.tk {TL:Addr} {H H':Hp} {n:Nat} {v:V} {t:Tr} (tb:TbAt TL lmRows H) (k:Tk TL H H') (h:Is NoD H n v t):Is NoD H' n v t:=by
 induction h with
 | non=>exact .non
 | bl=>exact .bl
 | int=>exact .int
 | str=>exact .str
 | lst no e l1 l2 _ ih=>exact .lst no (k.lst tb _ _ e) l1 l2 ih
 | tup no e l1 l2 _ ih=>exact .tup no (k.tup tb _ _ e) l1 l2 ih
theorem ShAt.tk {TL:Addr} {H H':Hp} {a li lo ln:Addr} {nas:List Addr} {s:Sh} (tb:TbAt TL lmRows H) (k:Tk TL H H') (h:ShAt H a li lo ln nas s):ShAt H' a li lo ln nas s:=h.mono (k.lst tb) (k.tup tb)
theorem PairsAt.tk {TL:Addr} {H H':Hp} {L:Addr} {ps:List (Nat × Nat)} (tb:TbAt TL lmRows H) (k:Tk TL H H') (h:PairsAt H L ps):PairsAt H' L ps:=by
 obtain ⟨vs,h1,h2⟩:=h
 exact ⟨vs,k.lst tb _ _ h1,paired_mono (fun v p ⟨b,e,q⟩=>⟨b,e,k.tup tb _ _ q⟩) h2⟩
theorem sql_old {K:PySem.W.Frag} {H H':Hp} {a:Addr} {xs:List V} (h:SqL K H a xs) (k:∀ o,H a=some o->H' a=some o):SqL K H' a xs:=by
 rcases h with h | h
 ·left
  rcases h with e | ⟨o,e⟩
  ·exact .inl (k _ e)
  ·exact .inr ⟨o,k _ e⟩
 ·exact .inr h
theorem sql_keep {K:PySem.W.Frag} {H H':Hp} {a T:Addr} {l:Lm} {xs:List V} (tb:TbAt T l H) (h:SqL K H a xs) (k:∀ o,H a=some o->a ≠ T->H' a=some o):SqL K H' a xs:=by
 rcases h with h | h
 ·left
  rcases h with e | ⟨o,e⟩
  ·exact .inl (k _ e (tb_ne tb e fun _ z=>nomatch z))
  ·exact .inr ⟨o,k _ e (tb_ne tb e fun _ z=>nomatch z)⟩
 ·exact .inr h

noncomputable def kfOf (H:Hp) (b:Addr):Str × Int:=match H b with
 | some (.tup [.str z,.int i])=>(z,i)
 | _=>("", 0)
theorem kf_at {H:Hp} {b:Addr} {z:Str} {i:Int} (h:H b=some (.tup [.str z,.int i])):kfOf H b=(z,i):=by unfold kfOf; rw [h]
theorem node_refs {H:Hp}:∀ {vs:List V} {node:List (Str × Nat)},Paired (fun v (p:Str × Nat)=>∃ b,v=V.ref b/\H b=some (.tup [.str p.1,.int (p.2:Int)])) vs node ->
  ∃ bs:List Addr,vs=bs.map V.ref/\(∀ b ∈ bs,H b=some (.tup [.str (kfOf H b).1,.int (kfOf H b).2]))/\bs.map (kfOf H)=node.map fun p=>(p.1,(p.2:Int))
 | _,_,.nil=>⟨[],rfl,(fun b h=>nomatch h),rfl⟩
 | _,_,.cons ⟨b,e,h⟩ t=>by
  obtain ⟨bs,e2,h2,h3⟩:=node_refs t
  have k:=kf_at h
  refine ⟨b :: bs,by rw [e,e2]; rfl,fun c hc=>?_,by rw [List.map_cons,List.map_cons,h3,k]⟩
  rcases List.mem_cons.mp hc with rfl | hc
  ·rw [k]; exact h
  ·exact h2 c hc
noncomputable def spUnst:Sp:=fun vs H Q _=>∃ (a li lo ln:Addr) (nas:List Addr) (s:Sh) (i:Nat),vs=[.ref a,.int (i:Int)]/\ShAt H a li lo ln nas s/\ShOk s/\(∀ node ∈ s.nodes,(node.map (·.1)).Nodup)/\i < s.nodes.length/\∀ v H',Same H H'->Opt2 H' v (mid s i)->Q v H'
noncomputable def spFirst (TL:Addr):Sp:=fun vs H Q _=>∃ (a li lo ln:Addr) (nas:List Addr) (s:Sh),vs=[.ref a]/\ShAt H a li lo ln nas s/\ShOk s/\(∀ node ∈ s.nodes,(node.map (·.1)).Nodup)/\TbAt TL lmRows H/\∀ v H',Tk TL H H'->Opt3 H' v (unst s)->Q v H'
theorem filter_fs {α β:Type} {f:α->Option β} {p:α->Bool}:∀ (xs:List α),(xs.filter p).findSome? f=xs.findSome? fun x=>if p x=true then f x else none
 | []=>rfl
 | x :: xs=>by
  cases c:p x with
  | true=>rw [List.filter_cons_of_pos c,List.findSome?_cons,List.findSome?_cons,filter_fs xs,if_pos c]
  | false=>rw [List.filter_cons_of_neg (by rw [c]; exact Bool.false_ne_true),List.findSome?_cons,if_neg (by rw [c]; exact Bool.false_ne_true),filter_fs xs]
noncomputable def hitR (s:Sh) (i:Nat):Option (Nat × Str × Str):=if rB s i=true then hitI s i else none
theorem unst_R (s:Sh):unst s=(List.range s.nodes.length).findSome? (hitR s):=filter_fs _
section
variable {P:Program} {w:World} {K:PySem.W.Frag} {mg:Str->Option Value} {base:Heap} {TT:Addr}
theorem sc_unsteady_at:FnScope ["sheet", "node", "output", "name", "to"] ["sheet", "node"] (defScope (top 11)):=⟨rfl,rfl,rfl,by decide +kernel,rfl,by decide +kernel,by decide +kernel⟩
theorem ok_unst {f:Addr} {fd:FuncData} (Fu:Fun K "unsteady_at" "unsteady_at" (top 11) f fd) (T:Txt K mg TT) (f_outputs_wanted:Fn P w K mg base "outputs_wanted" ["sheet", "node"] 1 spWanted):FnOk P w K mg base CX0 2 f fd ["sheet", "node"] spUnst:=by
 have S:=sc_unsteady_at
 refine Fu.ok S (fun vs H Q E h=>?_) (fun cdv A outer s H vs Q E hr h=>?_)
 ·obtain ⟨a,li,lo,ln,nas,sh,i,rfl,_⟩:=h
  rfl
 ·obtain ⟨a,li,lo,ln,nas,sh,i,rfl,at_,ok,nd,hi,k⟩:=h
  have hu:=hu_of hr
  refine' ⟨?_,?bb,?_⟩
  case bb =>
   refine' pss_cons ?s1 ?r1
   case s1 =>
    refine' ps_for PassesOwn.never rfl ?i2 ?g2 ?b2 ?h2
    case h2=>intro _; rfl
    case i2=>exact (pi_list (pe_fn f_outputs_wanted (hr.mono (by first | decide | omega)) (by rfl) (pa_cons (pv 0) (pa_cons (pv 1) pa_nil se_name) se_name)))
    case g2=>exact (pg_name (i:=2) S.nd rfl (by first | exact Or.inl rfl | exact Or.inr rfl))
    case b2 =>
     with_reducible refine' pss_one ?s3
     case s3 =>
      refine' ps_for PassesOwn.never rfl ?i4 ?g4 ?b4 ?h4
      case h4=>intro _; rfl
      case i4=>exact (pi_list (pe_callB (call_sortP rfl) (by rfl) T.n_sorted PyProof.Rows.boot_sorted (pa_cons (pe_ix ix_list (pe_ix ix_tup (pv 0) pe_int (fun _ _=>rfl)) (pv 1) (fun _ _=>rfl)) pa_nil)))
      case g4=>exact (pg_tup rfl (pgs_cons (pg_name (i:=3) S.nd rfl (by first | exact Or.inl rfl | exact Or.inr rfl)) (pgs_cons (pg_name (i:=4) S.nd rfl (by first | exact Or.inl rfl | exact Or.inr rfl)) pgs_nil)))
      case b4 =>
       with_reducible refine' pss_one ?s5
       case s5 =>
        with_reducible refine' ps_if ?c6 ?a6 ?o6
        case c6=>exact (PW.pt (pw_and (pt_cmpR op_ne (pv 3) (pv 2) (nomark _)) (pw_and1 (pt_cmpR op_notIn_seq (pv 2) (pe_fn f_outputs_wanted (hr.mono (by first | decide | omega)) (by rfl) (pa_cons (pv 0) (pa_cons (pv 4) pa_nil se_name) se_name)) rfl))))
        case a6 =>
         with_reducible refine' pss_one ?s7
         case s7 =>
          exact (ps_ret (pe_tup (pa_cons (pv 2) (pa_cons (pv 3) pa_nil se_name) se_name)))
        case o6 =>
         exact pss_nil
   case r1 =>
    with_reducible refine' pss_one ?s9
    case s9 =>
     exact (ps_ret pe_non)
  try dsimp only [cxOf,Cx.nox,Cx.wish]
  rw [show L2.start ["sheet", "node", "output", "name", "to"] [V.ref a,V.int (i:Int)]=[some (.ref a),some (.int (i:Int)),none,none,none] from rfl]
  have big:100000 < sizeLine:=by decide
  have ndi:(nmsOf sh i).Nodup:=nd _ (Sh.node_mem hi)
  refine s_seq (s_for (s_list (i_call (i_cons (i_var rfl (i_cons (i_var rfl (i_nil ⟨a,li,lo,ln,nas,sh,i,rfl,at_,ok,hi,fun Lw H1 S1 _ q1=>⟨Lw,rfl,⟨_,SqL.of q1⟩,?_⟩⟩))))))))
  refine for_list (xs:=(wantOf sh i).map V.str) (fun m σ' H'=>∃ x2 x3 x4:Option V,σ'=[some (.ref a),some (.int (i:Int)),x2,x3,x4]/\Same H1 H'/\((wantOf sh i).take m).findSome? (hitO sh i)=none)
   ⟨_,_,_,rfl,Same.refl _,rfl⟩ (fun m σ' H' _ pv=>by obtain ⟨_,_,_,_,Sm,_⟩:=pv; exact SqL.of (Sm _ _ q1)) (fun m v σ' H' hv pv=>?_) (fun σ' H' pv=>?_)
  ·obtain ⟨x2,x3,x4,rfl,Sm,pre⟩:=pv
   rw [List.getElem?_map] at hv
   cases eo:(wantOf sh i)[m]? with
   | none=>rw [eo] at hv; cases hv
   | some o =>
    rw [eo] at hv
    cases hv
    have hom:=List.mem_of_getElem? eo
    have hoo:o ∈ sh.outs:=(List.mem_filter.mp hom).1
    have hon:o ∈ nmsOf sh i:=(want_iff hoo).mp hom
    have SH:=S1.trans Sm
    have at1:=at_.same SH
    have ha1:=at1.ha
    have hn1:=at1.hn
    obtain ⟨na,hna,hst⟩:=paired_get' at1.nodes (List.getElem?_eq_getElem hi)
    rw [<-Sh.node_of (List.getElem?_eq_getElem hi)] at hst
    obtain ⟨vs,hvs,pvs⟩:=hst
    obtain ⟨bs,rfl,hbs,kbs⟩:=node_refs (paired_ofmap pvs)
    have few:=ok.few _ (Sh.node_mem hi)
    have lbs:=congrArg List.length kbs
    rw [List.length_map,List.length_map] at lbs
    refine s_name ?_
    refine s_for (s_list ?_)
    repeat walk_at "vc"
    refine i_ixL (v:=.ref na) (SqL.of hn1) (atI_nat (by rw [List.getElem?_map,hna]; rfl)) ?_
    refine i_nil ⟨na,bs,kfOf H',rfl,SqL.of hvs,hbs,by omega,fun p bs' hp pm st=>?_⟩
    have nsE:bs'.map (fun b=>(kfOf H' b).1)=srt (nmsOf sh i):=by
     refine srt_eq ?_ (by rw [List.pairwise_map]; exact st)
     refine (pm.map _).trans (.of_eq ?_)
     have e:=congrArg (List.map (·.1)) kbs
     rw [List.map_map,List.map_map] at e
     exact e
    have kp:∀ b ∈ bs',∃ q ∈ sh.node i,kfOf H' b=(q.1,(q.2:Int)):=fun b hb=>by
     have:kfOf H' b ∈ bs.map (kfOf H'):=List.mem_map.mpr ⟨b,pm.mem_iff.mp hb,rfl⟩
     rw [kbs] at this
     obtain ⟨q,hq,e⟩:=List.mem_map.mp this
     exact ⟨q,hq,e.symm⟩
    have hb2:∀ b ∈ bs',H' b=some (.tup [.str (kfOf H' b).1,.int (kfOf H' b).2]):=fun b hb=>hbs b (pm.mem_iff.mp hb)
    generalize hE:upd H' p _=H2
    obtain ⟨S2,q2⟩:=upd_pair hp hE
    clear hE
    refine ⟨p,rfl,⟨_,SqL.of q2⟩,?_⟩
    refine for_list (xs:=bs'.map V.ref) (fun m' σ' H''=>∃ x3 x4:Option V,σ'=[some (.ref a),some (.int (i:Int)),some (.str o),x3,x4]/\Same H2 H''/\((srt (nmsOf sh i)).take m').findSome? (hitN sh i o)=none)
     ⟨_,_,rfl,Same.refl _,rfl⟩ (fun m' σ' H'' _ pv=>by obtain ⟨_,_,_,Sm,_⟩:=pv; exact SqL.of (Sm _ _ q2)) (fun m' v σ' H'' hv pv=>?_) (fun σ' H'' pv=>?_)
    ·obtain ⟨x3,x4,rfl,Sm2,pre2⟩:=pv
     rw [List.getElem?_map] at hv
     cases eb:bs'[m']? with
     | none=>rw [eb] at hv; cases hv
     | some b =>
      rw [eb] at hv
      cases hv
      have hbm:=List.mem_of_getElem? eb
      obtain ⟨q,hq,kq⟩:=kp b hbm
      have en:(srt (nmsOf sh i))[m']?=some q.1:=by rw [<-nsE,List.getElem?_map,eb]; show some (kfOf H' b).1=_; rw [kq]
      have hb':=hb2 b hbm
      rw [kq] at hb'
      have tq:=toOf_mem ndi hq
      have hto:=ok.tos _ (Sh.node_mem hi) q hq
      have S3:=S2.trans Sm2
      have fail:cnd sh i o q.1=false->∀ H3,Same H'' H3->∃ x3 x4:Option V,[some (.ref a),some (.int (i:Int)),some (.str o),some (.str q.1),some (.int (q.2:Int))]=[some (.ref a),some (.int (i:Int)),some (.str o),x3,x4]/\Same H2 H3/\((srt (nmsOf sh i)).take (m' + 1)).findSome? (hitN sh i o)=none:=fun c H3 Sq =>
       ⟨_,_,rfl,Sm2.trans Sq,fs_step pre2 en (by unfold hitN; rw [c]; rfl)⟩
      refine ⟨b,_,rfl,SqT.of (S3 _ _ hb'),rfl,_,_,rfl,s_name ⟨_,_,rfl,s_name ⟨rfl,?_⟩⟩⟩
      repeat walk_at "vc"
      by_cases c1:q.1=o
      ·refine ifF (by rw [decide_eq_true (by rw [c1])]; rfl) ?_
       repeat walk_at "vc"
       exact fail (by unfold cnd; rw [decide_eq_false (fun z:q.1 ≠ o=>z c1)]; simp) H'' (Same.refl _)
      ·refine ifT (by rw [decide_eq_false (fun z=>c1 (V.str.inj z))]; rfl) ?_
       repeat walk_at "vc"
       refine ⟨a,li,lo,ln,nas,sh,q.2,rfl,at1.same S3,ok,hto,fun Lz H3 S4 _ q4=>?_⟩
       refine ⟨Lz,_,rfl,.inl (SqL.of q4),rfl,flat_strs _,?_⟩
       refine ⟨_,rfl,?_⟩
       by_cases c2:o ∈ nmsOf sh q.2
       ·refine ifF (by rw [inV_str.mpr ((want_iff hoo).mpr c2)]; rfl) ?_
        repeat walk_at "vc"
        exact fail (by unfold cnd; rw [tq,decide_eq_false (fun z:o ∉ nmsOf sh q.2=>z c2)]; simp) H3 S4
       ·have nin:inV (.str o) ((wantOf sh q.2).map V.str)=false:=by
         cases c:inV (.str o) ((wantOf sh q.2).map V.str) with
         | false=>rfl
         | true=>exact absurd ((want_iff hoo).mp (inV_str.mp c)) c2
        refine ifT (by rw [nin]; rfl) ?_
        repeat walk_at "vc"
        refine ⟨by simp [sizeLine],fun t ht=>?_⟩
        have cT:cnd sh i o q.1=true:=by
         unfold cnd
         rw [tq,decide_eq_true hon,decide_eq_true (show q.1 ≠ o from c1),decide_eq_true (show o ∉ nmsOf sh q.2 from c2)]
         rfl
        refine k _ _ (SH.trans (S3.trans (S4.trans (fresh_same ht)))) ?_
        rw [<-mid_want,fs_hit pre eo (fs_hit pre2 en (show hitN sh i o q.1=some (o,q.1) by unfold hitN; rw [cT]; rfl))]
        exact ⟨t,rfl,upd_same⟩
    ·obtain ⟨x3,x4,rfl,Sm2,pre2⟩:=pv
     refine ⟨_,_,_,rfl,Sm.trans (S2.trans Sm2),fs_step pre eo ?_⟩
     rw [List.length_map,show bs'.length=(srt (nmsOf sh i)).length by rw [<-nsE,List.length_map],List.take_length] at pre2
     exact pre2
  ·obtain ⟨x2,x3,x4,rfl,Sm,pre⟩:=pv
   rw [List.length_map,List.take_length,mid_want] at pre
   repeat walk_at "vc"
   refine k _ _ (S1.trans Sm) ?_
   rw [pre]
   rfl
theorem sc_first_unsteady:FnScope ["sheet", "node", "row", "pair"] ["sheet"] (defScope (top 12)):=⟨rfl,rfl,rfl,by decide +kernel,rfl,by decide +kernel,by decide +kernel⟩
theorem ok_first {TL:Addr} {f:Addr} {fd:FuncData} (Fu:Fun K "first_unsteady" "first_unsteady" (top 12) f fd) (T:Txt K mg TT) (f_signs_of:Fn P w K mg base "signs_of" ["sheet"] 4 (spSigns TL)) (f_unsteady_at:Fn P w K mg base "unsteady_at" ["sheet", "node"] 2 spUnst):FnOk P w K mg base CX0 5 f fd ["sheet"] (spFirst TL):=by
 have S:=sc_first_unsteady
 refine Fu.ok S (fun vs H Q E h=>?_) (fun cdv A outer s H vs Q E hr h=>?_)
 ·obtain ⟨a,li,lo,ln,nas,sh,rfl,_⟩:=h
  rfl
 ·obtain ⟨a,li,lo,ln,nas,sh,rfl,at_,ok,nd,tb,k⟩:=h
  have hu:=hu_of hr
  refine' ⟨?_,?bb,?_⟩
  case bb =>
   refine' pss_cons ?s1 ?r1
   case s1 =>
    refine' ps_for PassesOwn.never rfl ?i2 ?g2 ?b2 ?h2
    case h2=>intro _; rfl
    case i2=>exact (pi_enum (by rfl) T.n_enumerate (pa_cons (pe_fn f_signs_of (hr.mono (by first | decide | omega)) (by rfl) (pa_cons (pv 0) pa_nil se_name)) pa_nil se_call))
    case g2=>exact (pg_tup rfl (pgs_cons (pg_name (i:=1) S.nd rfl (by first | exact Or.inl rfl | exact Or.inr rfl)) (pgs_cons (pg_name (i:=2) S.nd rfl (by first | exact Or.inl rfl | exact Or.inr rfl)) pgs_nil)))
    case b2 =>
     with_reducible refine' pss_cons ?s3 ?r3
     case s3 =>
      refine' ps_set (i:=3) ?n ?r ?l ?e ?s ?f
      case n=>exact S.nd
      case r=>rfl
      case l=>first | exact Or.inl rfl | exact Or.inr rfl
      case s=>rfl
      case f=>first | exact Or.inl rfl | exact Or.inr rfl
      case e=>exact (pe_ifExp (pt_cmpR op_isN (pv 2) pe_non rfl) pe_non (pe_fn f_unsteady_at (hr.mono (by first | decide | omega)) (by rfl) (pa_cons (pv 0) (pa_cons (pv 1) pa_nil se_name) se_name)))
     case r3 =>
      with_reducible refine' pss_one ?s5
      case s5 =>
       with_reducible refine' ps_if ?c6 ?a6 ?o6
       case c6=>exact (pt_cmpR op_notN (pv 3) pe_non rfl)
       case a6 =>
        with_reducible refine' pss_one ?s7
        case s7 =>
         exact (ps_ret (pe_tup (pa_cons (pv 1) (pa_cons (pe_ix ix_tup (pv 3) pe_int (fun _ _=>rfl)) (pa_cons (pe_ix ix_tup (pv 3) pe_int (fun _ _=>rfl)) pa_nil)) se_name)))
       case o6 =>
        exact pss_nil
   case r1 =>
    with_reducible refine' pss_one ?s9
    case s9 =>
     exact (ps_ret pe_non)
  try dsimp only [cxOf,Cx.nox,Cx.wish]
  rw [show L2.start ["sheet", "node", "row", "pair"] [V.ref a]=[some (.ref a),none,none,none] from rfl]
  refine s_seq (s_for (i_cons (i_call (i_cons (i_var rfl (i_nil ⟨a,li,lo,ln,nas,sh,rfl,at_,ok,tb,fun Lr us H1 tk1 Lr0 q1 so=>i_nil ⟨Lr,rfl,⟨_,SqL.of q1⟩,?_⟩⟩))))))
  have lus:=so.len
  have at1:=at_.tk tb tk1
  refine for_enum (xs:=us) (fun m σ' H'=>∃ x1 x2 x3:Option V,σ'=[some (.ref a),x1,x2,x3]/\Same H1 H'/\((List.range sh.nodes.length).take m).findSome? (hitR sh)=none)
   ⟨_,_,_,rfl,Same.refl _,rfl⟩ (fun m σ' H' _ pv=>by obtain ⟨_,_,_,_,Sm,_⟩:=pv; exact SqL.of (Sm _ _ q1)) (fun i v σ' H' t hv pv ht=>?_) (fun σ' H' pv=>?_)
  ·obtain ⟨x1,x2,x3,rfl,Sm,pre⟩:=pv
   have hi:i < sh.nodes.length:=by rw [<-lus]; exact (List.getElem?_eq_some_iff.mp hv).1
   have er:(List.range sh.nodes.length)[i]?=some i:=List.getElem?_range hi
   refine ⟨t,_,rfl,SqT.of upd_same,rfl,?_⟩
   refine ⟨_,_,rfl,s_name ⟨_,_,rfl,s_name ⟨rfl,?_⟩⟩⟩
   have St:=fresh_same (o:=.tup [.int (i:Nat),v]) ht
   have Smt:=Sm.trans St
   generalize upd H' t (.tup [.int (i:Nat),v])=Ht at *
   repeat walk_at "vc"
   refine ⟨rfl,_,rfl,?_⟩
   by_cases ri:sh.R i
   ·obtain ⟨y,e1,_,_⟩:=so.row i ri
    rw [e1] at hv
    cases hv
    refine ifF (decide_eq_false (fun z=>nomatch z)) ?_
    repeat walk_at "vc"
    refine ⟨a,li,lo,ln,nas,sh,i,rfl,at1.same Smt,ok,nd,hi,fun v H2 S2 ov=>?_⟩
    repeat walk_at "vc"
    refine ⟨rfl,_,rfl,?_⟩
    cases em:mid sh i with
    | none =>
     rw [em] at ov
     cases ov
     refine ifF (by rw [decide_eq_true rfl]; rfl) ?_
     repeat walk_at "vc"
     exact ⟨_,_,_,rfl,Smt.trans S2,fs_step pre er (by unfold hitR hitI; rw [if_pos (rB_T ri),em]; rfl)⟩
    | some q =>
     rw [em] at ov
     obtain ⟨t2,rfl,q2⟩:=ov
     refine ifT (by rw [decide_eq_false (fun z=>nomatch z)]; rfl) ?_
     repeat walk_at "vc"
     refine ⟨by simp [sizeLine],fun t3 ht3=>?_⟩
     refine k _ _ (tk1.same (Smt.trans (S2.trans (fresh_same ht3)))) ?_
     rw [unst_R,fs_hit pre er (show hitR sh i=some (i,q.1,q.2) by unfold hitR hitI; rw [if_pos (rB_T ri),em]; rfl)]
     exact ⟨t3,rfl,upd_same⟩
   ·rw [so.none i hi ri] at hv
    cases hv
    refine ifT (decide_eq_true rfl) ?_
    repeat walk_at "vc"
    refine ⟨rfl,_,rfl,?_⟩
    refine ifF (by rw [decide_eq_true rfl]; rfl) ?_
    repeat walk_at "vc"
    exact ⟨_,_,_,rfl,Smt,fs_step pre er (by unfold hitR; rw [if_neg (by rw [rB_F ri]; exact Bool.false_ne_true)])⟩
  ·obtain ⟨x1,x2,x3,rfl,Sm,pre⟩:=pv
   rw [lus,List.take_of_length_le (by rw [List.length_range]; exact Nat.le_refl _),<-unst_R] at pre
   repeat walk_at "vc"
   refine k _ _ (tk1.same Sm) ?_
   rw [pre]
   rfl
end

theorem i_dpairs {K:PySem.W.Frag} {ta:TA} {σ:St} {H:Hp} {Q:VK} (q:ta σ H fun vs H1=>∃ l xs ps,vs=[.ref l]/\SqL K H1 l xs/\xs.length < 1000/\Paired (PrAt H1) xs ps/\∀ d,H1 d=none->Q (.ref d) (upd H1 d (.dK (putAll [] (keyed ps))))):tDpairs K ta σ H Q:=q
noncomputable def spDueU:Sp:=fun vs H Q _=>∃ (a li lo ln:Addr) (nas:List Addr) (s:Sh),vs=[.ref a]/\ShAt H a li lo ln nas s/\ShOk s/\(∀ node ∈ s.nodes,(node.map (·.1)).Nodup)/\∀ v H',Same H H'->Opt3 H' v (unst s)->Q v H'
section
variable {P:Program} {w:World} {K:PySem.W.Frag} {mg:Str->Option Value} {base:Heap} {TT:Addr}
theorem sc_law_due:FnScope ["sheet", "node", "turns", "output", "name"] ["sheet"] (defScope (top 25)):=⟨rfl,rfl,rfl,by decide +kernel,rfl,by decide +kernel,by decide +kernel⟩
theorem ok_dueU {f:Addr} {fd:FuncData} (Fu:Fun K "_law_due" "_law_due" (top 25) f fd) (T:Txt K mg TT) (f_law_signs:Fn P w K mg base "_law_signs" ["sheet"] 2 spLSig):FnOk P w K mg base CX0 3 f fd ["sheet"] spDueU:=by
 have S:=sc_law_due
 refine Fu.ok S (fun vs H Q E h=>?_) (fun cdv A outer s H vs Q E hr h=>?_)
 ·obtain ⟨a,li,lo,ln,nas,sh,rfl,_⟩:=h
  rfl
 ·obtain ⟨a,li,lo,ln,nas,sh,rfl,at_,ok,nd,k⟩:=h
  have hu:=hu_of hr
  refine' ⟨?_,?bb,?_⟩
  case bb =>
   refine' pss_cons ?s1 ?r1
   case s1 =>
    refine' ps_for PassesOwn.never rfl ?i2 ?g2 ?b2 ?h2
    case h2=>intro _; rfl
    case i2=>exact (pi_list (pe_callB (call_sortI rfl) (by rfl) T.n_sorted PyProof.Rows.boot_sorted (pa_cons (pe_fn f_law_signs (hr.mono (by first | decide | omega)) (by rfl) (pa_cons (pv 0) pa_nil se_name)) pa_nil se_call)))
    case g2=>exact (pg_name (i:=1) S.nd rfl (by first | exact Or.inl rfl | exact Or.inr rfl))
    case b2 =>
     with_reducible refine' pss_cons ?s3 ?r3
     case s3 =>
      refine' ps_set (i:=2) ?n ?r ?l ?e ?s ?f
      case n=>exact S.nd
      case r=>rfl
      case l=>first | exact Or.inl rfl | exact Or.inr rfl
      case s=>rfl
      case f=>first | exact Or.inl rfl | exact Or.inr rfl
      case e=>exact (pe_dpairs rfl (by rfl) T.n_dict (pa_cons (pe_ix ix_list (pe_ix ix_tup (pv 0) pe_int (fun _ _=>rfl)) (pv 1) (fun _ _=>rfl)) pa_nil))
     case r3 =>
      with_reducible refine' pss_one ?s5
      case s5 =>
       refine' ps_for PassesOwn.never rfl ?i6 ?g6 ?b6 ?h6
       case h6=>intro _; rfl
       case i6=>exact (pi_list (pe_ix ix_tup (pv 0) pe_int (fun _ _=>rfl)))
       case g6=>exact (pg_name (i:=3) S.nd rfl (by first | exact Or.inl rfl | exact Or.inr rfl))
       case b6 =>
        with_reducible refine' pss_one ?s7
        case s7 =>
         refine' ps_for PassesOwn.never rfl ?i8 ?g8 ?b8 ?h8
         case h8=>intro _; rfl
         case i8=>exact (pi_list (pe_callB (call_sortT rfl) (by rfl) T.n_sorted PyProof.Rows.boot_sorted (pa_cons (pv 2) pa_nil se_name)))
         case g8=>exact (pg_name (i:=4) S.nd rfl (by first | exact Or.inl rfl | exact Or.inr rfl))
         case b8 =>
          with_reducible refine' pss_one ?s9
          case s9 =>
           with_reducible refine' ps_if ?c10 ?a10 ?o10
           case c10=>exact (PW.pt (pw_and (pt_cmp (pc_din hu (pv 3) (pv 2))) (pw_and (pt_cmpR op_ne (pv 4) (pv 3) (nomark _)) (pw_and1 (pt_cmp (pc_dnotin hu (pv 3) (pe_dpairs rfl (by rfl) T.n_dict (pa_cons (pe_ix ix_list (pe_ix ix_tup (pv 0) pe_int (fun _ _=>rfl)) (pe_dget hu (pv 2) (pv 4) (fun _ _=>rfl)) (fun _ _=>rfl)) pa_nil))))))))
           case a10 =>
            with_reducible refine' pss_one ?s11
            case s11 =>
             exact (ps_ret (pe_tup (pa_cons (pv 1) (pa_cons (pv 3) (pa_cons (pv 4) pa_nil se_name) se_name) se_name)))
           case o10 =>
            exact pss_nil
   case r1 =>
    with_reducible refine' pss_one ?s13
    case s13 =>
     exact (ps_ret pe_non)
  try dsimp only [cxOf,Cx.nox,Cx.wish]
  rw [show L2.start ["sheet", "node", "turns", "output", "name"] [V.ref a]=[some (.ref a),none,none,none,none] from rfl]
  have big:100000 < sizeLine:=by decide
  have n100:=ok.n100
  refine s_seq (s_for (s_list ?_))
  repeat walk_at "vc"
  refine ⟨a,li,lo,ln,nas,sh,rfl,at_,ok,fun R kvs ls H1 S1 R0 q1 wi ro=>?_⟩
  have few:=wi.few ok
  have keysE:kvs.map (·.1)=(ls.map fun (i:Nat)=>(i:Int)).map Sum.inl:=by rw [wi.keys,List.map_map]; rfl
  refine i_nil ⟨R,_,rfl,.inr ⟨kvs,Rd.of q1,keysE⟩,by rw [List.length_map]; omega,fun p ss hp pm st=>?_⟩
  rw [sorted_keys ok wi ro pm st,natV_map]
  generalize hE:upd H1 p _=H2
  obtain ⟨S2,q2⟩:=upd_pair hp hE
  clear hE
  have S02:=S1.trans S2
  refine ⟨p,rfl,⟨_,SqL.of q2⟩,?_⟩
  refine for_list (xs:=(reachL sh).map natV) (fun m σ' H'=>∃ x1 x2 x3 x4:Option V,σ'=[some (.ref a),x1,x2,x3,x4]/\Same H2 H'/\((reachL sh).take m).findSome? (hitI sh)=none)
   ⟨_,_,_,_,rfl,Same.refl _,rfl⟩ (fun m σ' H' _ pv=>by obtain ⟨_,_,_,_,_,Sm,_⟩:=pv; exact SqL.of (Sm _ _ q2)) (fun m v σ' H' hv pv=>?_) (fun σ' H' pv=>?_)
  ·obtain ⟨x1,x2,x3,x4,rfl,Sm,pre⟩:=pv
   rw [List.getElem?_map] at hv
   cases ei:(reachL sh)[m]? with
   | none=>rw [ei] at hv; cases hv
   | some i =>
    rw [ei] at hv
    cases hv
    have ri:=(reachL_mem ok).mp (List.mem_of_getElem? ei)
    have hi:=Sh.R_lt ok ri
    have ndi:(nmsOf sh i).Nodup:=nd _ (Sh.node_mem hi)
    have SH:=S02.trans Sm
    have at1:=at_.same SH
    have ha1:=at1.ha
    obtain ⟨n1',hn1',vs1,hv1,pv1⟩:=paired_get' at1.nodes (List.getElem?_eq_getElem hi)
    have few1:=ok.few _ (List.getElem_mem hi)
    have lv1:=steps_len pv1
    refine s_name ?_
    refine s_seq (s_asg (i_dpairs ?_))
    repeat walk_at "vc"
    refine i_ixL (v:=.ref n1') (SqL.of at1.hn) (atI_nat (by rw [List.getElem?_map,hn1']; rfl)) ?_
    refine i_nil ⟨n1',vs1,_,rfl,SqL.of hv1,by omega,node_ps pv1,fun d hd=>?_⟩
    have nde:(sh.nodes[i].map (·.1)).Nodup:=nd _ (List.getElem_mem hi)
    rw [dict_nd nde]
    generalize hE:upd H' d _=H3
    obtain ⟨S3,q3⟩:=upd_pair hd hE
    clear hE
    have eN:sh.node i=sh.nodes[i]:=Sh.node_of (List.getElem?_eq_getElem hi)
    rw [<-eN] at q3 nde
    have at3:=at1.same S3
    have ha3:=at3.ha
    refine s_name ?_
    refine s_for (s_list (i_op (i_var rfl (i_c (i_ixT ha3 rfl ⟨lo,rfl,⟨_,SqL.of at3.ho⟩,?_⟩)))))
    refine for_list (xs:=sh.outs.map V.str) (fun m' σ' H''=>∃ x3 x4:Option V,σ'=[some (.ref a),some (natV i),some (.ref d),x3,x4]/\Same H3 H''/\(sh.outs.take m').findSome? (hitO sh i)=none)
     ⟨_,_,rfl,Same.refl _,rfl⟩ (fun m' σ' H'' _ pv=>by obtain ⟨_,_,_,Sq,_⟩:=pv; exact SqL.of (Sq _ _ at3.ho)) (fun m' v σ' H'' hv pv=>?_) (fun σ' H'' pv=>?_)
    ·obtain ⟨y3,y4,rfl,Sm3,pre3⟩:=pv
     rw [List.getElem?_map] at hv
     cases eo:sh.outs[m']? with
     | none=>rw [eo] at hv; cases hv
     | some o =>
      rw [eo] at hv
      cases hv
      have qd:=Sm3 _ _ q3
      refine s_name ?_
      refine s_for (s_list ?_)
      repeat walk_at "vc"
      refine ⟨d,(sh.node i).map (·.1),rfl,.inr ⟨_,Rd.of qd,kNode_keys _⟩,by rw [List.length_map,eN]; omega,fun p4 ss4 hp4 pm4 st4=>?_⟩
      rw [srt_eq pm4 st4]
      generalize hE:upd H'' p4 _=H4
      obtain ⟨S4,q4⟩:=upd_pair hp4 hE
      clear hE
      have q4:H4 p4=some (.lst ((srt (nmsOf sh i)).map V.str)):=q4
      refine ⟨p4,rfl,⟨_,SqL.of q4⟩,?_⟩
      refine for_list (xs:=(srt (nmsOf sh i)).map V.str) (fun m5 σ' H5=>∃ x4:Option V,σ'=[some (.ref a),some (natV i),some (.ref d),some (.str o),x4]/\Same H4 H5/\((srt (nmsOf sh i)).take m5).findSome? (hitN sh i o)=none)
       ⟨_,rfl,Same.refl _,rfl⟩ (fun m5 σ' H5 _ pv=>by obtain ⟨_,_,Sq,_⟩:=pv; exact SqL.of (Sq _ _ q4)) (fun m5 v σ' H5 hv pv=>?_) (fun σ' H5 pv=>?_)
      ·obtain ⟨z4,rfl,Sm5,pre5⟩:=pv
       rw [List.getElem?_map] at hv
       cases en:(srt (nmsOf sh i))[m5]? with
       | none=>rw [en] at hv; cases hv
       | some nm =>
        rw [en] at hv
        cases hv
        have hnm:nm ∈ nmsOf sh i:=(srt_perm _).mem_iff.mp (List.mem_of_getElem? en)
        obtain ⟨q,hq,eq⟩:=List.mem_map.mp hnm
        have tq:=toOf_mem ndi hq
        rw [eq] at tq
        have hto:=ok.tos _ (Sh.node_mem hi) q hq
        have S35:=Sm3.trans (S4.trans Sm5)
        have qd5:=S35 _ _ q3
        have at5:=at3.same S35
        have ha5:=at5.ha
        have fail:cnd sh i o nm=false->∀ H6,Same H5 H6->∃ x4:Option V,[some (.ref a),some (natV i),some (.ref d),some (.str o),some (.str nm)]=[some (.ref a),some (natV i),some (.ref d),some (.str o),x4]/\Same H4 H6/\((srt (nmsOf sh i)).take (m5 + 1)).findSome? (hitN sh i o)=none:=fun c H6 Sq =>
         ⟨_,rfl,Sm5.trans Sq,fs_step pre5 en (by unfold hitN; rw [c]; rfl)⟩
        refine s_name ?_
        refine s_if (i_and ?_)
        refine i_tB (i_din (i_var rfl (i_var rfl ⟨d,_,rfl,.inl ⟨_,Sum.inr o,Rd.of qd5,rfl,rfl⟩,_,rfl,?_⟩)))
        rw [kNode_some]
        by_cases c0:o ∈ nmsOf sh i
        case neg =>
         refine ifF (decide_eq_false c0) ?_
         refine iteF ?_
         repeat walk_at "vc"
         exact fail (by unfold cnd; rw [decide_eq_false c0]; rfl) H5 (Same.refl _)
        refine ifT (decide_eq_true c0) ?_
        repeat walk_at "vc"
        by_cases c1:nm=o
        ·refine ifF (by rw [decide_eq_true (by rw [c1])]; rfl) ?_
         repeat walk_at "vc"
         exact fail (by unfold cnd; rw [decide_eq_false (fun z:nm ≠ o=>z c1)]; simp) H5 (Same.refl _)
        refine ifT (by rw [decide_eq_false (fun z=>c1 (V.str.inj z))]; rfl) ?_
        obtain ⟨n2',hn2',vs2,hv2,pv2⟩:=paired_get' at5.nodes (List.getElem?_eq_getElem hto)
        have few2:=ok.few _ (List.getElem_mem hto)
        have lv2:=steps_len pv2
        have kv:=kNode_val nde hq
        rw [eq] at kv
        refine i_tB (i_dnotin (i_var rfl (i_dpairs (i_cons (i_op (i_op (i_var rfl (i_c (i_ixT ha5 rfl ?_)))))))))
        refine i_dget (i_var rfl (i_var rfl ⟨d,.int (q.2:Int),rfl,kv ▸ DGet.k (k:=Sum.inr nm) qd5,?_⟩))
        refine i_ixL (v:=.ref n2') (SqL.of at5.hn) (atI_nat (by rw [List.getElem?_map,hn2']; rfl)) ?_
        refine i_nil ⟨n2',vs2,_,rfl,SqL.of hv2,by omega,node_ps pv2,fun d2 hd2=>?_⟩
        rw [dict_nd (nd _ (List.getElem_mem hto)),<-Sh.node_of (List.getElem?_eq_getElem hto)]
        refine ⟨d2,_,rfl,.inl ⟨_,Sum.inr o,Rd.of upd_same,rfl,rfl⟩,_,rfl,?_⟩
        rw [kNode_some]
        by_cases c2:o ∈ nmsOf sh q.2
        ·refine ifF (by rw [decide_eq_true (show o ∈ (sh.node q.2).map (·.1) from c2)]; rfl) ?_
         repeat walk_at "vc"
         exact fail (by unfold cnd; rw [tq,decide_eq_false (fun z:o ∉ nmsOf sh q.2=>z c2)]; simp) _ (fresh_same hd2)
        ·refine ifT (by rw [decide_eq_false (show o ∉ (sh.node q.2).map (·.1) from c2)]; rfl) ?_
         repeat walk_at "vc"
         refine ⟨by simp [sizeLine],fun t ht=>?_⟩
         have cT:cnd sh i o nm=true:=by
          unfold cnd
          rw [tq,decide_eq_true c0,decide_eq_true (show nm ≠ o from c1),decide_eq_true (show o ∉ nmsOf sh q.2 from c2)]
          rfl
         have hm:mid sh i=some (o,nm):=fs_hit pre3 eo (fs_hit pre5 en (show hitN sh i o nm=some (o,nm) by unfold hitN; rw [cT]; rfl))
         refine k _ _ (SH.trans (S3.trans (S35.trans ((fresh_same hd2).trans (fresh_same ht))))) ?_
         unfold unst
         rw [fs_hit pre ei (show hitI sh i=some (i,o,nm) by unfold hitI; rw [hm]; rfl)]
         exact ⟨t,rfl,upd_same⟩
      ·obtain ⟨z4,rfl,Sm5,pre5⟩:=pv
       rw [List.length_map,List.take_length] at pre5
       exact ⟨_,_,rfl,Sm3.trans (S4.trans Sm5),fs_step pre3 eo pre5⟩
    ·obtain ⟨y3,y4,rfl,Sm3,pre3⟩:=pv
     rw [List.length_map,List.take_length] at pre3
     refine ⟨_,_,_,_,rfl,Sm.trans (S3.trans Sm3),fs_step pre ei ?_⟩
     unfold hitI
     rw [show mid sh i=none from pre3]
     rfl
  ·obtain ⟨x1,x2,x3,x4,rfl,Sm,pre⟩:=pv
   rw [List.length_map,List.take_length] at pre
   repeat walk_at "vc"
   refine k _ _ (S02.trans Sm) ?_
   rw [show unst sh=none from pre]
   rfl
end

noncomputable def optTr:Option (Nat × Str × Str)->Tr
 | none=>.non
 | some p=>.tup [.int (p.1:Int),.str p.2.1,.str p.2.2]
theorem opt_is {H:Hp} {v:V}:∀ {o:Option (Nat × Str × Str)},Opt3 H v o->Is NoD H 1 v (optTr o)
 | none,h=>by rw [show v=.non from h]; exact .non
 | some p,h=>by
  obtain ⟨t,rfl,e⟩:=h
  exact .tup (fun z=>z) e rfl (by simp) fun j u r e1 e2=>by
   match j,e1,e2 with
   | 0,e1,e2=>cases e1; cases e2; exact .int
   | 1,e1,e2=>cases e1; cases e2; exact .str
   | 2,e1,e2=>cases e1; cases e2; exact .str
theorem opt_non {H:Hp} {v:V}:∀ {o:Option (Nat × Str × Str)},Opt3 H v o->decide (v=.non)=o.isNone
 | none,h=>by rw [show v=.non from h]; rfl
 | some p,h=>by
  obtain ⟨t,rfl,_⟩:=h
  rfl
theorem Opt3.same {H H':Hp} {v:V} (S:Same H H'):∀ {o:Option (Nat × Str × Str)},Opt3 H v o->Opt3 H' v o
 | none,h=>h
 | some p,h=>by
  obtain ⟨t,rfl,e⟩:=h
  exact ⟨t,rfl,S _ _ e⟩
noncomputable def spLaw (K:PySem.W.Frag) (TL:Addr):Sp:=fun vs H Q _=>∃ (a:Addr) (ns:List Int),vs=[.ref a]/\SqL K H a (ns.map V.int)/\ns.length<=63/\TbAt TL lmRows H/\∀ H',Q (.bl true) H'
section
variable {P:Program} {w:World} {K:PySem.W.Frag} {mg:Str->Option Value} {base:Heap} {TT:Addr}
theorem sc_law:FnScope ["script", "k", "pool", "sheet", "due", "handed", "again", "found"] ["script"] (defScope (top 26)):=⟨rfl,rfl,rfl,by decide +kernel,rfl,by decide +kernel,by decide +kernel⟩
theorem ok_law57 {TL:Addr} {f:Addr} {fd:FuncData} (Fu:Fun K "law" "law" (top 26) f fd) (T:Txt K mg TT) (f_law_pool:Fn P w K mg base "_law_pool" ["script", "k"] 1 (spPool K)) (f_law_size:Fn P w K mg base "_law_size" ["pool"] 2 spSize) (f_law_sheet:Fn P w K mg base "_law_sheet" ["pool", "most"] 3 spSheetP) (f_law_numbered:Fn P w K mg base "_law_numbered" ["pool", "sheet"] 3 spNumbP) (f_law_due:Fn P w K mg base "_law_due" ["sheet"] 3 spDueU) (f_law_copy:Fn P w K mg base "_law_copy" ["thing"] 5 (spCopyT 5)) (f_law_same:Fn P w K mg base "_law_same" ["one", "other"] 5 (spSameT 5)) (f_first_unsteady:Fn P w K mg base "first_unsteady" ["sheet"] 5 (spFirst TL)):FnOk P w K mg base CX0 6 f fd ["script"] (spLaw K TL):=by
 have S:=sc_law
 refine Fu.ok S (fun vs H Q E h=>?_) (fun cdv A outer s H vs Q E hr h=>?_)
 ·obtain ⟨a,ns,rfl,_⟩:=h
  rfl
 ·obtain ⟨sc,cells,rfl,hS,hlen,tb,k⟩:=h
  refine' ⟨?_,?bb,?_⟩
  case bb =>
   refine' pss_cons ?s1 ?r1
   case s1 =>
    refine' ps_for PassesOwn.never rfl ?i2 ?g2 ?b2 ?h2
    case h2=>intro _; rfl
    case i2=>exact (pi_range1 (by rfl) T.n_range (pa_cons (pe_callB (call_max2 rfl) (by rfl) T.n_max PyProof.Rows.boot_max (pa_cons pe_int (pa_cons (pe_callB (call_min2 rfl) (by rfl) T.n_min PyProof.Rows.boot_min (pa_cons pe_int (pa_cons (pe_callB call_len_seq (by rfl) T.n_len PySem.boot_len (pa_cons (pv 0) pa_nil se_name)) pa_nil se_call) se_con)) pa_nil se_call) se_con)) pa_nil se_call))
    case g2=>exact (pg_name (i:=1) S.nd rfl (by first | exact Or.inl rfl | exact Or.inr rfl))
    case b2 =>
     with_reducible refine' pss_cons ?s3 ?r3
     case s3 =>
      refine' ps_set (i:=2) ?n ?r ?l ?e ?s ?f
      case n=>exact S.nd
      case r=>rfl
      case l=>first | exact Or.inl rfl | exact Or.inr rfl
      case s=>rfl
      case f=>first | exact Or.inl rfl | exact Or.inr rfl
      case e=>exact (pe_fn f_law_pool (hr.mono (by first | decide | omega)) (by rfl) (pa_cons (pv 0) (pa_cons (pv 1) pa_nil se_name) se_name))
     case r3 =>
      with_reducible refine' pss_cons ?s5 ?r5
      case s5 =>
       refine' ps_set (i:=3) ?n ?r ?l ?e ?s ?f
       case n=>exact S.nd
       case r=>rfl
       case l=>first | exact Or.inl rfl | exact Or.inr rfl
       case s=>rfl
       case f=>first | exact Or.inl rfl | exact Or.inr rfl
       case e=>exact (pe_fn f_law_numbered (hr.mono (by first | decide | omega)) (by rfl) (pa_cons (pv 2) (pa_cons (pe_fn f_law_sheet (hr.mono (by first | decide | omega)) (by rfl) (pa_cons (pv 2) (pa_cons (pe_fn f_law_size (hr.mono (by first | decide | omega)) (by rfl) (pa_cons (pv 2) pa_nil se_name)) pa_nil se_call) se_name)) pa_nil se_call) se_name))
      case r5 =>
       with_reducible refine' pss_cons ?s7 ?r7
       case s7 =>
        refine' ps_set (i:=4) ?n ?r ?l ?e ?s ?f
        case n=>exact S.nd
        case r=>rfl
        case l=>first | exact Or.inl rfl | exact Or.inr rfl
        case s=>rfl
        case f=>first | exact Or.inl rfl | exact Or.inr rfl
        case e=>exact (pe_fn f_law_due (hr.mono (by first | decide | omega)) (by rfl) (pa_cons (pv 3) pa_nil se_name))
       case r7 =>
        with_reducible refine' pss_cons ?s9 ?r9
        case s9 =>
         refine' ps_set (i:=5) ?n ?r ?l ?e ?s ?f
         case n=>exact S.nd
         case r=>rfl
         case l=>first | exact Or.inl rfl | exact Or.inr rfl
         case s=>rfl
         case f=>first | exact Or.inl rfl | exact Or.inr rfl
         case e=>exact (pe_fn f_law_copy (hr.mono (by first | decide | omega)) (by rfl) (pa_cons (pv 3) pa_nil se_name))
        case r9 =>
         with_reducible refine' pss_one ?s11
         case s11 =>
          refine' ps_for PassesOwn.never rfl ?i12 ?g12 ?b12 ?h12
          case h12=>intro _; rfl
          case i12=>exact (pi_range1 (by rfl) T.n_range (pa_cons pe_int pa_nil se_con))
          case g12=>exact (pg_name (i:=6) S.nd rfl (by first | exact Or.inl rfl | exact Or.inr rfl))
          case b12 =>
           with_reducible refine' pss_cons ?s13 ?r13
           case s13 =>
            refine' ps_set (i:=7) ?n ?r ?l ?e ?s ?f
            case n=>exact S.nd
            case r=>rfl
            case l=>first | exact Or.inl rfl | exact Or.inr rfl
            case s=>rfl
            case f=>first | exact Or.inl rfl | exact Or.inr rfl
            case e=>exact (pe_fn f_first_unsteady (hr.mono (by first | decide | omega)) (by rfl) (pa_cons (pv 5) pa_nil se_name))
           case r13 =>
            with_reducible refine' pss_cons ?s15 ?r15
            case s15 =>
             with_reducible refine' ps_if ?c16 ?a16 ?o16
             case c16=>exact (PW.pt (pw_or (pt_cmpR op_ne (pe_cmpR op_isN (pv 7) pe_non rfl) (pe_cmpR op_isN (pv 4) pe_non rfl) (nomark _)) (pw_or1 (pt_not (pt_val (pe_fn f_law_same (hr.mono (by first | decide | omega)) (by rfl) (pa_cons (pv 7) (pa_cons (pv 4) pa_nil se_name) se_name)))))))
             case a16 =>
              with_reducible refine' pss_one ?s17
              case s17 =>
               exact (ps_ret pe_bl)
             case o16 =>
              exact pss_nil
            case r15 =>
             with_reducible refine' pss_one ?s19
             case s19 =>
              with_reducible refine' ps_if ?c20 ?a20 ?o20
              case c20=>exact (pt_not (pt_val (pe_fn f_law_same (hr.mono (by first | decide | omega)) (by rfl) (pa_cons (pv 5) (pa_cons (pv 3) pa_nil se_name) se_name))))
              case a20 =>
               with_reducible refine' pss_one ?s21
               case s21 =>
                exact (ps_ret pe_bl)
              case o20 =>
               exact pss_nil
   case r1 =>
    with_reducible refine' pss_one ?s23
    case s23 =>
     exact (ps_ret pe_bl)
  try dsimp only [cxOf,Cx.nox,Cx.wish]
  rw [show L2.start ["script", "k", "pool", "sheet", "due", "handed", "again", "found"] [V.ref sc]=[some (.ref sc),none,none,none,none,none,none,none] from rfl]
  have big:100000 < sizeLine:=by decide
  repeat walk_at "vc"
  refine ⟨_,_,rfl,Or.inl hS,?_⟩
  repeat walk_at "vc"
  refine ⟨_,_,rfl,?_⟩
  repeat walk_at "vc"
  refine ⟨_,_,rfl,?_⟩
  rw [List.length_map]
  obtain ⟨N,hN,N8⟩:∃ N:Nat,(if (if (cells.length:Int) < 10 then (cells.length:Int) else 10) > 1 then (if (cells.length:Int) < 10 then (cells.length:Int) else 10) else 1)=(N:Int)/\N<=10:=by
   by_cases h2:(cells.length:Int) < 10
   ·rw [if_pos h2]
    by_cases h1:(cells.length:Int) > 1
    ·rw [if_pos h1]; exact ⟨cells.length,rfl,by omega⟩
    ·rw [if_neg h1]; exact ⟨1,rfl,by omega⟩
   ·rw [if_neg h2,if_pos (by decide)]; exact ⟨10,rfl,by omega⟩
  rw [hN]
  repeat walk_at "vc"
  refine ⟨by omega,by omega,?_⟩
  rw [Int.toNat_natCast]
  refine for_range (n:=N) (fun i σ H'=>(∃ x1 x2 x3 x4 x5 x6 x7,σ=[some (.ref sc),x1,x2,x3,x4,x5,x6,x7])/\SqL K H' sc (cells.map V.int)/\TbAt TL lmRows H') ⟨⟨_,_,_,_,_,_,_,rfl⟩,hS,tb⟩ (fun i σ H0 hi pv=>?_) (fun σ H' pv=>?_)
  ·clear tb hS
   obtain ⟨⟨x1,x2,x3,x4,x5,x6,x7,rfl⟩,hS,tb⟩:=pv
   refine s_name ?_
   repeat walk_at "vc"
   refine ⟨sc,cells,i,by rw [Int.zero_add],hS,by omega,fun D H1 dn S1 D0 DA1=>?_⟩
   have tb1:=tb_keep tb S1
   repeat walk_at "vc"
   refine ⟨D,rfl,DA1,by omega,fun r H2 r1 r40 k2=>?_⟩
   obtain ⟨m,rfl⟩:∃ m:Nat,r=(m:Int):=⟨r.toNat,by omega⟩
   repeat walk_at "vc"
   refine ⟨D.more 4,m,rfl,k2.dk,(by show D.n + 4 < 10000; omega),by omega,by omega,fun a0 li0 lo0 ln0 nas0 s0 H3 k3 at3 ok3 lab3 nd3 _ _ _ _ _=>?_⟩
   repeat walk_at "vc"
   refine ⟨(D.more 4).more 20000,a0,li0,lo0,ln0,nas0,s0,rfl,k3.dk,(by show D.n + 4 + 20000 < 40000; omega),at3,⟨ok3,lab3,nd3⟩,fun a li lo ln nas sh H4 k4 at4 gd=>?_⟩
   have k14:=(k2.trans k3).trans k4
   have tb4:TbAt TL lmRows H4:=tb_kp tb1 DA1 k14 rfl
   have hS4:SqL K H4 sc (cells.map V.int):=sql_old hS fun o e=>k14.old _ _ (S1 _ _ e) (fun z=>ne_of_none e D0 z)
   have ok:=gd.ok
   obtain ⟨lam,lb⟩:=gd.lab
   clear k2 k3 k4 k14 at3 ok3 lab3 nd3 tb1 DA1 S1 hS tb
   repeat walk_at "vc"
   refine ⟨a,li,lo,ln,nas,sh,rfl,at4,ok,gd.nd,fun vd H5 S5 od=>?_⟩
   have at5:=at4.same S5
   repeat walk_at "vc"
   refine ⟨NoD,4,.ref a,shT sh,rfl,by decide,al_no,sh_is ok at5,fun u H6 S6 iu=>?_⟩
   obtain ⟨ah,lih,loh,lnh,nash,rfl,ath⟩:=sh_of_is iu
   have pd6:=opt_is (od.same S6)
   have dN:=opt_non od
   have is6:=sh_is ok (at5.same S6)
   have tb6:=tb_keep (tb_keep tb4 S5) S6
   have hS6:SqL K H6 sc (cells.map V.int):=sql_old hS4 fun o e=>S6 _ _ (S5 _ _ e)
   clear at4 at5 od hS4 tb4
   repeat walk_at "vc"
   refine ⟨by omega,by omega,?_⟩
   rw [show ((2:Int)).toNat=2 from rfl]
   refine for_range (n:=2) (fun j σ H'=>(∃ x6 x7,σ=[some (.ref sc),some (.int (0 + (i:Int))),some (.ref D.d),some (.ref a),some vd,some (.ref ah),x6,x7])/\Tk TL H6 H') ⟨⟨_,_,rfl⟩,Tk.of tb6 (Same.refl _)⟩ (fun j σ H' hj pv=>?_) (fun σ H' pv=>?_)
   ·obtain ⟨⟨x6,x7,rfl⟩,tk⟩:=pv
    refine s_name ?_
    repeat walk_at "vc"
    refine ⟨ah,lih,loh,lnh,nash,sh,rfl,ath.tk tb6 tk,ok,gd.nd,tk.tab,fun vf H7 tk7 ov=>?_⟩
    have tk67:=tk.trans tk7
    have isf:=opt_is ov
    have fN:=opt_non ov
    have isd:=pd6.tk tb6 tk67
    have ish:=iu.tk tb6 tk67
    have iss:=is6.tk tb6 tk67
    repeat walk_at "vc"
    refine ⟨rfl,?_⟩
    repeat walk_at "vc"
    refine ⟨rfl,?_⟩
    rw [dN,fN]
    refine i_ne rfl ⟨_,rfl,ifF (by simp) ?_⟩
    repeat walk_at "vc"
    refine ⟨NoD,1,_,_,_,rfl,by decide,isf,isd,fun H8 S8=>⟨_,rfl,iteF ?_⟩⟩
    repeat walk_at "vc"
    refine ⟨NoD,4,_,_,_,rfl,by decide,ish.same S8,iss.same S8,fun H9 S9=>⟨_,rfl,iteF ?_⟩⟩
    repeat walk_at "vc"
    exact ⟨⟨_,_,rfl⟩,tk67.same (S8.trans S9)⟩
   ·obtain ⟨⟨x6,x7,rfl⟩,tk⟩:=pv
    exact ⟨⟨_,_,_,_,_,_,_,rfl⟩,sql_keep tb6 hS6 fun o e n=>tk.old _ _ e n,tk.tab⟩
  ·obtain ⟨⟨x1,x2,x3,x4,x5,x6,x7,rfl⟩,_⟩:=pv
   repeat walk_at "vc"
   exact k H'
end
end K2
namespace K2
open PySem L2 PySem.Spec PyProof.Rows
theorem len_1 {A:Type} {us:List A} (h:us.length=1):∃ a0,us=[a0]:=by
 match us,h with
 | [a0],_=>exact ⟨_,rfl⟩
theorem len_2 {A:Type} {us:List A} (h:us.length=2):∃ a0 a1,us=[a0,a1]:=by
 match us,h with
 | [a0,a1],_=>exact ⟨_,_,rfl⟩
theorem len_3 {A:Type} {us:List A} (h:us.length=3):∃ a0 a1 a2,us=[a0,a1,a2]:=by
 match us,h with
 | [a0,a1,a2],_=>exact ⟨_,_,_,rfl⟩
theorem len_4 {A:Type} {us:List A} (h:us.length=4):∃ a0 a1 a2 a3,us=[a0,a1,a2,a3]:=by
 match us,h with
 | [a0,a1,a2,a3],_=>exact ⟨_,_,_,_,rfl⟩
theorem len_5 {A:Type} {us:List A} (h:us.length=5):∃ a0 a1 a2 a3 a4,us=[a0,a1,a2,a3,a4]:=by
 match us,h with
 | [a0,a1,a2,a3,a4],_=>exact ⟨_,_,_,_,_,rfl⟩
theorem len_6 {A:Type} {us:List A} (h:us.length=6):∃ a0 a1 a2 a3 a4 a5,us=[a0,a1,a2,a3,a4,a5]:=by
 match us,h with
 | [a0,a1,a2,a3,a4,a5],_=>exact ⟨_,_,_,_,_,_,rfl⟩
theorem all_mk {l:PySem.W.OpenLaw} {w:World} {K:PySem.W.Frag} {h:Heap} {mg:Str->Option Value} {fa TT TL0 f0 f1 f2 f3 f4 f5 f6 f7 f8 f9 f10 f11 f12 f13 f14 f15 f16 f17 f18 f19 f20:Addr} (X:K.In h) (G:h.Ns mainGlobals mg) (hfa:mg "law" = some (.ref fa))
  {od0 an0 od1 an1 od2 an2 od3 an3 od4 an4 od5 an5 od6 an6 od7 an7 od8 an8 od9 an9 od10 an10 od11 an11 od12 an12 od13 an13 od14 an14 od15 an15 od16 an16 od17 an17 od18 an18 od19 an19 od20 an20:Option Addr} {sl0 sl1 sl2 sl3 sl4 sl5 sl6 sl7 sl8 sl9 sl10 sl11 sl12 sl13 sl14 sl15 sl16 sl17 sl18 sl19 sl20:Array (Option Value)} {oc0 kV0 dc0 pm0 ct0 oc1 kV1 dc1 pm1 ct1 oc2 kV2 dc2 pm2 ct2 oc3 kV3 dc3 pm3 ct3 oc4 kV4 dc4 pm4 ct4 oc5 kV5 dc5 pm5 ct5 oc6 kV6 dc6 pm6 ct6 oc7 kV7 dc7 pm7 ct7 oc8 kV8 dc8 pm8 ct8 oc9 kV9 dc9 pm9 ct9 oc10 kV10 dc10 pm10 ct10 oc11 kV11 dc11 pm11 ct11 oc12 kV12 dc12 pm12 ct12 oc13 kV13 dc13 pm13 ct13 oc14 kV14 dc14 pm14 ct14 oc15 kV15 dc15 pm15 ct15 oc16 kV16 dc16 pm16 ct16 oc17 kV17 dc17 pm17 ct17 oc18 kV18 dc18 pm18 ct18 oc19 kV19 dc19 pm19 ct19 oc20 kV20 dc20 pm20 ct20:Value}
  {cd0:Value} {cd1:Value} {cd2:Value} {cc3:Addr} {cd4:Value} {cd5:Value} {cd6:Value} {cd7:Value} {cd8:Value} {cd9:Value} {cd10:Value} {cd11:Value} {cd12:Value} {cd13:Value} {cd14:Value} {cd15:Value} {cd16:Value} {cd17:Value} {cd18:Value} {cd19:Value} {cd20:Value}
  (aT:PySem.W.nsIn K mainGlobals "TURNED" = some (some (.ref TT))) (tab:tabAt K TT [("0", .flat (.str "1")),("1", .flat (.str "0"))])
  (a0:PySem.W.nsIn K mainGlobals "turned_at" = some (some (.ref f0))) (l0:K.lookup f0=some ⟨oc0,od0,.func (PySem.W.fnOf "turned_at" "turned_at" (defArgs (top 2)) (defBody (top 2)) (defScope (top 2)) .none kV0 dc0 pm0 an0 cd0 ct0),sl0⟩) (c0:PySem.W.codeIn K cd0 "turned_at" = true) (k0:PySem.W.keepIn K (.ref f0)=true)
  (a1:PySem.W.nsIn K mainGlobals "found_from" = some (some (.ref f1))) (l1:K.lookup f1=some ⟨oc1,od1,.func (PySem.W.fnOf "found_from" "found_from" (defArgs (top 4)) (defBody (top 4)) (defScope (top 4)) .none kV1 dc1 pm1 an1 cd1 ct1),sl1⟩) (c1:PySem.W.codeIn K cd1 "found_from" = true) (k1:PySem.W.keepIn K (.ref f1)=true)
  (a2:PySem.W.nsIn K mainGlobals "row_behind" = some (some (.ref f2))) (l2:K.lookup f2=some ⟨oc2,od2,.func (PySem.W.fnOf "row_behind" "row_behind" (defArgs (top 6)) (defBody (top 6)) (defScope (top 6)) .none kV2 dc2 pm2 an2 cd2 ct2),sl2⟩) (c2:PySem.W.codeIn K cd2 "row_behind" = true) (k2:PySem.W.keepIn K (.ref f2)=true)
  (a3:PySem.W.nsIn K mainGlobals "rows_found" = some (some (.ref f3))) (l3:K.lookup f3=some ⟨oc3,od3,.func (PySem.W.fnOf "rows_found" "rows_found" (defArgs (top 7)) (defBody (top 7)) (defScope (top 7)) .none kV3 dc3 pm3 an3 (.ref cc3) ct3),sl3⟩) (c3:PySem.W.codeIn K (.ref cc3) "rows_found" = true) (k3:PySem.W.keepIn K (.ref f3)=true)
  (h3:PySem.W.codeHdIn K cc3 TL0=true)
  (a4:PySem.W.nsIn K mainGlobals "signs_of" = some (some (.ref f4))) (l4:K.lookup f4=some ⟨oc4,od4,.func (PySem.W.fnOf "signs_of" "signs_of" (defArgs (top 8)) (defBody (top 8)) (defScope (top 8)) .none kV4 dc4 pm4 an4 cd4 ct4),sl4⟩) (c4:PySem.W.codeIn K cd4 "signs_of" = true) (k4:PySem.W.keepIn K (.ref f4)=true)
  (a5:PySem.W.nsIn K mainGlobals "outputs_wanted" = some (some (.ref f5))) (l5:K.lookup f5=some ⟨oc5,od5,.func (PySem.W.fnOf "outputs_wanted" "outputs_wanted" (defArgs (top 10)) (defBody (top 10)) (defScope (top 10)) .none kV5 dc5 pm5 an5 cd5 ct5),sl5⟩) (c5:PySem.W.codeIn K cd5 "outputs_wanted" = true) (k5:PySem.W.keepIn K (.ref f5)=true)
  (a6:PySem.W.nsIn K mainGlobals "unsteady_at" = some (some (.ref f6))) (l6:K.lookup f6=some ⟨oc6,od6,.func (PySem.W.fnOf "unsteady_at" "unsteady_at" (defArgs (top 11)) (defBody (top 11)) (defScope (top 11)) .none kV6 dc6 pm6 an6 cd6 ct6),sl6⟩) (c6:PySem.W.codeIn K cd6 "unsteady_at" = true) (k6:PySem.W.keepIn K (.ref f6)=true)
  (a7:PySem.W.nsIn K mainGlobals "first_unsteady" = some (some (.ref f7))) (l7:K.lookup f7=some ⟨oc7,od7,.func (PySem.W.fnOf "first_unsteady" "first_unsteady" (defArgs (top 12)) (defBody (top 12)) (defScope (top 12)) .none kV7 dc7 pm7 an7 cd7 ct7),sl7⟩) (c7:PySem.W.codeIn K cd7 "first_unsteady" = true) (k7:PySem.W.keepIn K (.ref f7)=true)
  (a8:PySem.W.nsIn K mainGlobals "_law_pool" = some (some (.ref f8))) (l8:K.lookup f8=some ⟨oc8,od8,.func (PySem.W.fnOf "_law_pool" "_law_pool" (defArgs (top 14)) (defBody (top 14)) (defScope (top 14)) .none kV8 dc8 pm8 an8 cd8 ct8),sl8⟩) (c8:PySem.W.codeIn K cd8 "_law_pool" = true) (k8:PySem.W.keepIn K (.ref f8)=true)
  (a9:PySem.W.nsIn K mainGlobals "_law_take" = some (some (.ref f9))) (l9:K.lookup f9=some ⟨oc9,od9,.func (PySem.W.fnOf "_law_take" "_law_take" (defArgs (top 15)) (defBody (top 15)) (defScope (top 15)) .none kV9 dc9 pm9 an9 cd9 ct9),sl9⟩) (c9:PySem.W.codeIn K cd9 "_law_take" = true) (k9:PySem.W.keepIn K (.ref f9)=true)
  (a10:PySem.W.nsIn K mainGlobals "_law_names" = some (some (.ref f10))) (l10:K.lookup f10=some ⟨oc10,od10,.func (PySem.W.fnOf "_law_names" "_law_names" (defArgs (top 16)) (defBody (top 16)) (defScope (top 16)) .none kV10 dc10 pm10 an10 cd10 ct10),sl10⟩) (c10:PySem.W.codeIn K cd10 "_law_names" = true) (k10:PySem.W.keepIn K (.ref f10)=true)
  (a11:PySem.W.nsIn K mainGlobals "_law_order" = some (some (.ref f11))) (l11:K.lookup f11=some ⟨oc11,od11,.func (PySem.W.fnOf "_law_order" "_law_order" (defArgs (top 17)) (defBody (top 17)) (defScope (top 17)) .none kV11 dc11 pm11 an11 cd11 ct11),sl11⟩) (c11:PySem.W.codeIn K cd11 "_law_order" = true) (k11:PySem.W.keepIn K (.ref f11)=true)
  (a12:PySem.W.nsIn K mainGlobals "_law_turned" = some (some (.ref f12))) (l12:K.lookup f12=some ⟨oc12,od12,.func (PySem.W.fnOf "_law_turned" "_law_turned" (defArgs (top 18)) (defBody (top 18)) (defScope (top 18)) .none kV12 dc12 pm12 an12 cd12 ct12),sl12⟩) (c12:PySem.W.codeIn K cd12 "_law_turned" = true) (k12:PySem.W.keepIn K (.ref f12)=true)
  (a13:PySem.W.nsIn K mainGlobals "_law_sheet" = some (some (.ref f13))) (l13:K.lookup f13=some ⟨oc13,od13,.func (PySem.W.fnOf "_law_sheet" "_law_sheet" (defArgs (top 19)) (defBody (top 19)) (defScope (top 19)) .none kV13 dc13 pm13 an13 cd13 ct13),sl13⟩) (c13:PySem.W.codeIn K cd13 "_law_sheet" = true) (k13:PySem.W.keepIn K (.ref f13)=true)
  (a14:PySem.W.nsIn K mainGlobals "_law_size" = some (some (.ref f14))) (l14:K.lookup f14=some ⟨oc14,od14,.func (PySem.W.fnOf "_law_size" "_law_size" (defArgs (top 20)) (defBody (top 20)) (defScope (top 20)) .none kV14 dc14 pm14 an14 cd14 ct14),sl14⟩) (c14:PySem.W.codeIn K cd14 "_law_size" = true) (k14:PySem.W.keepIn K (.ref f14)=true)
  (a15:PySem.W.nsIn K mainGlobals "_law_numbered" = some (some (.ref f15))) (l15:K.lookup f15=some ⟨oc15,od15,.func (PySem.W.fnOf "_law_numbered" "_law_numbered" (defArgs (top 21)) (defBody (top 21)) (defScope (top 21)) .none kV15 dc15 pm15 an15 cd15 ct15),sl15⟩) (c15:PySem.W.codeIn K cd15 "_law_numbered" = true) (k15:PySem.W.keepIn K (.ref f15)=true)
  (a16:PySem.W.nsIn K mainGlobals "_law_signs" = some (some (.ref f16))) (l16:K.lookup f16=some ⟨oc16,od16,.func (PySem.W.fnOf "_law_signs" "_law_signs" (defArgs (top 22)) (defBody (top 22)) (defScope (top 22)) .none kV16 dc16 pm16 an16 cd16 ct16),sl16⟩) (c16:PySem.W.codeIn K cd16 "_law_signs" = true) (k16:PySem.W.keepIn K (.ref f16)=true)
  (a17:PySem.W.nsIn K mainGlobals "_law_copy" = some (some (.ref f17))) (l17:K.lookup f17=some ⟨oc17,od17,.func (PySem.W.fnOf "_law_copy" "_law_copy" (defArgs (top 23)) (defBody (top 23)) (defScope (top 23)) .none kV17 dc17 pm17 an17 cd17 ct17),sl17⟩) (c17:PySem.W.codeIn K cd17 "_law_copy" = true) (k17:PySem.W.keepIn K (.ref f17)=true)
  (a18:PySem.W.nsIn K mainGlobals "_law_same" = some (some (.ref f18))) (l18:K.lookup f18=some ⟨oc18,od18,.func (PySem.W.fnOf "_law_same" "_law_same" (defArgs (top 24)) (defBody (top 24)) (defScope (top 24)) .none kV18 dc18 pm18 an18 cd18 ct18),sl18⟩) (c18:PySem.W.codeIn K cd18 "_law_same" = true) (k18:PySem.W.keepIn K (.ref f18)=true)
  (a19:PySem.W.nsIn K mainGlobals "_law_due" = some (some (.ref f19))) (l19:K.lookup f19=some ⟨oc19,od19,.func (PySem.W.fnOf "_law_due" "_law_due" (defArgs (top 25)) (defBody (top 25)) (defScope (top 25)) .none kV19 dc19 pm19 an19 cd19 ct19),sl19⟩) (c19:PySem.W.codeIn K cd19 "_law_due" = true) (k19:PySem.W.keepIn K (.ref f19)=true)
  (a20:PySem.W.nsIn K mainGlobals "law" = some (some (.ref f20))) (l20:K.lookup f20=some ⟨oc20,od20,.func (PySem.W.fnOf "law" "law" (defArgs (top 26)) (defBody (top 26)) (defScope (top 26)) .none kV20 dc20 pm20 an20 cd20 ct20),sl20⟩) (c20:PySem.W.codeIn K cd20 "law" = true) (k20:PySem.W.keepIn K (.ref f20)=true)
  (z0:PySem.W.nsIn K mainGlobals "len" = some none)
  (z1:PySem.W.nsIn K mainGlobals "range" = some none)
  (z2:PySem.W.nsIn K mainGlobals "max" = some none)
  (z3:PySem.W.nsIn K mainGlobals "min" = some none)
  (z4:PySem.W.nsIn K mainGlobals "int" = some none)
  (z5:PySem.W.nsIn K mainGlobals "list" = some none)
  (z6:PySem.W.nsIn K mainGlobals "str" = some none)
  (z7:PySem.W.nsIn K mainGlobals "isinstance" = some none)
  (z8:PySem.W.nsIn K mainGlobals "all" = some none)
  (z9:PySem.W.nsIn K mainGlobals "set" = some none)
  (z10:PySem.W.nsIn K mainGlobals "dict" = some none)
  (z11:PySem.W.nsIn K mainGlobals "enumerate" = some none)
  (z12:PySem.W.nsIn K mainGlobals "sorted" = some none)
  (z13:PySem.W.nsIn K mainGlobals "tuple" = some none)
  (z14:PySem.W.nsIn K mainGlobals "bool" = some none)
  (z15:PySem.W.nsIn K mainGlobals "zip" = some none)
  (z16:PySem.W.nsIn K mainGlobals "reversed" = some none)
  : ∃ fd:FuncData,(∀ (s:Shared) (v:Value),BindsTo s fd ⟨[v],[]⟩ [("script", v)])/\∀ base:Heap,K.In base->base.Ns mainGlobals mg->L2.BMain base mg->FnOk l.prog w K mg base CX0 6 fa fd ["script"] (spLaw K TL0):=by
 have e:=hfa.symm.trans (PySem.W.mg_of X G a20)
 cases e
 have T:Txt K mg TT:=⟨PySem.W.mg_none_of X G z0,PySem.W.mg_none_of X G z1,PySem.W.mg_none_of X G z2,PySem.W.mg_none_of X G z3,PySem.W.mg_none_of X G z4,PySem.W.mg_none_of X G z5,PySem.W.mg_none_of X G z6,PySem.W.mg_none_of X G z7,PySem.W.mg_none_of X G z8,PySem.W.mg_none_of X G z9,PySem.W.mg_none_of X G z10,PySem.W.mg_none_of X G z11,PySem.W.mg_none_of X G z12,PySem.W.mg_none_of X G z13,PySem.W.mg_none_of X G z14,PySem.W.mg_none_of X G z15,PySem.W.mg_none_of X G z16,PySem.W.mg_of X G aT,tab⟩
 have F0:=fun_mk (st:=top 2) l0 c0 k0
 have b0:=F0.binds (ps:=["standing", "place"]) fun _ _ _ _ _ _ us hl=>by obtain ⟨_,_,rfl⟩:=len_2 hl; rfl
 have m0:=PySem.W.mg_of X G a0
 have F1:=fun_mk (st:=top 4) l1 c1 k1
 have b1:=F1.binds (ps:=["start", "steps_of"]) fun _ _ _ _ _ _ us hl=>by obtain ⟨_,_,rfl⟩:=len_2 hl; rfl
 have m1:=PySem.W.mg_of X G a1
 have F2:=fun_mk (st:=top 6) l2 c2 k2
 have b2:=F2.binds (ps:=["sheet", "row", "name"]) fun _ _ _ _ _ _ us hl=>by obtain ⟨_,_,_,rfl⟩:=len_3 hl; rfl
 have m2:=PySem.W.mg_of X G a2
 have F3:=fun_mk (st:=top 7) l3 c3 k3
 have b3:=F3.binds (ps:=["sheet"]) fun _ _ _ _ _ _ us hl=>by obtain ⟨_,rfl⟩:=len_1 hl; rfl
 have m3:=PySem.W.mg_of X G a3
 have F4:=fun_mk (st:=top 8) l4 c4 k4
 have b4:=F4.binds (ps:=["sheet"]) fun _ _ _ _ _ _ us hl=>by obtain ⟨_,rfl⟩:=len_1 hl; rfl
 have m4:=PySem.W.mg_of X G a4
 have F5:=fun_mk (st:=top 10) l5 c5 k5
 have b5:=F5.binds (ps:=["sheet", "node"]) fun _ _ _ _ _ _ us hl=>by obtain ⟨_,_,rfl⟩:=len_2 hl; rfl
 have m5:=PySem.W.mg_of X G a5
 have F6:=fun_mk (st:=top 11) l6 c6 k6
 have b6:=F6.binds (ps:=["sheet", "node"]) fun _ _ _ _ _ _ us hl=>by obtain ⟨_,_,rfl⟩:=len_2 hl; rfl
 have m6:=PySem.W.mg_of X G a6
 have F7:=fun_mk (st:=top 12) l7 c7 k7
 have b7:=F7.binds (ps:=["sheet"]) fun _ _ _ _ _ _ us hl=>by obtain ⟨_,rfl⟩:=len_1 hl; rfl
 have m7:=PySem.W.mg_of X G a7
 have F8:=fun_mk (st:=top 14) l8 c8 k8
 have b8:=F8.binds (ps:=["script", "k"]) fun _ _ _ _ _ _ us hl=>by obtain ⟨_,_,rfl⟩:=len_2 hl; rfl
 have m8:=PySem.W.mg_of X G a8
 have F9:=fun_mk (st:=top 15) l9 c9 k9
 have b9:=F9.binds (ps:=["pool", "many"]) fun _ _ _ _ _ _ us hl=>by obtain ⟨_,_,rfl⟩:=len_2 hl; rfl
 have m9:=PySem.W.mg_of X G a9
 have F10:=fun_mk (st:=top 16) l10 c10 k10
 have b10:=F10.binds (ps:=["pool", "many"]) fun _ _ _ _ _ _ us hl=>by obtain ⟨_,_,rfl⟩:=len_2 hl; rfl
 have m10:=PySem.W.mg_of X G a10
 have F11:=fun_mk (st:=top 17) l11 c11 k11
 have b11:=F11.binds (ps:=["pool", "things"]) fun _ _ _ _ _ _ us hl=>by obtain ⟨_,_,rfl⟩:=len_2 hl; rfl
 have m11:=PySem.W.mg_of X G a11
 have F12:=fun_mk (st:=top 18) l12 c12 k12
 have b12:=F12.binds (ps:=["signs", "at"]) fun _ _ _ _ _ _ us hl=>by obtain ⟨_,_,rfl⟩:=len_2 hl; rfl
 have m12:=PySem.W.mg_of X G a12
 have F13:=fun_mk (st:=top 19) l13 c13 k13
 have b13:=F13.binds (ps:=["pool", "most"]) fun _ _ _ _ _ _ us hl=>by obtain ⟨_,_,rfl⟩:=len_2 hl; rfl
 have m13:=PySem.W.mg_of X G a13
 have F14:=fun_mk (st:=top 20) l14 c14 k14
 have b14:=F14.binds (ps:=["pool"]) fun _ _ _ _ _ _ us hl=>by obtain ⟨_,rfl⟩:=len_1 hl; rfl
 have m14:=PySem.W.mg_of X G a14
 have F15:=fun_mk (st:=top 21) l15 c15 k15
 have b15:=F15.binds (ps:=["pool", "sheet"]) fun _ _ _ _ _ _ us hl=>by obtain ⟨_,_,rfl⟩:=len_2 hl; rfl
 have m15:=PySem.W.mg_of X G a15
 have F16:=fun_mk (st:=top 22) l16 c16 k16
 have b16:=F16.binds (ps:=["sheet"]) fun _ _ _ _ _ _ us hl=>by obtain ⟨_,rfl⟩:=len_1 hl; rfl
 have m16:=PySem.W.mg_of X G a16
 have F17:=fun_mk (st:=top 23) l17 c17 k17
 have b17:=F17.binds (ps:=["thing"]) fun _ _ _ _ _ _ us hl=>by obtain ⟨_,rfl⟩:=len_1 hl; rfl
 have m17:=PySem.W.mg_of X G a17
 have F18:=fun_mk (st:=top 24) l18 c18 k18
 have b18:=F18.binds (ps:=["one", "other"]) fun _ _ _ _ _ _ us hl=>by obtain ⟨_,_,rfl⟩:=len_2 hl; rfl
 have m18:=PySem.W.mg_of X G a18
 have F19:=fun_mk (st:=top 25) l19 c19 k19
 have b19:=F19.binds (ps:=["sheet"]) fun _ _ _ _ _ _ us hl=>by obtain ⟨_,rfl⟩:=len_1 hl; rfl
 have m19:=PySem.W.mg_of X G a19
 have F20:=fun_mk (st:=top 26) l20 c20 k20
 have b20:=F20.binds (ps:=["script"]) fun _ _ _ _ _ _ us hl=>by obtain ⟨_,rfl⟩:=len_1 hl; rfl
 have m20:=PySem.W.mg_of X G a20
 refine ⟨PySem.W.fnOf "law" "law" (defArgs (top 26)) (defBody (top 26)) (defScope (top 26)) .none kV20 dc20 pm20 an20 cd20 ct20,fun s v=>.of_eq rfl,fun base KB _ BM=>?_⟩
 have CT0:=PySem.W.codeHd_of_K KB h3
 have FC3:FunC K "rows_found" "rows_found" (top 7) f3 _ cc3:=⟨_,_,_,_,_,_,_,_,rfl,l3,c3⟩
 have g8:Fn l.prog w K mg base "_law_pool" ["script", "k"] 1 (spPool K):=⟨f8,_,ok_pool F8 T,m8,k8,b8⟩
 have g9:Fn l.prog w K mg base "_law_take" ["pool", "many"] 1 spDraw:=⟨f9,_,ok_take F9 T,m9,k9,b9⟩
 have g14:Fn l.prog w K mg base "_law_size" ["pool"] 2 spSize:=⟨f14,_,ok_size F14 T g9,m14,k14,b14⟩
 have g10:Fn l.prog w K mg base "_law_names" ["pool", "many"] 2 spNamesP:=⟨f10,_,ok_namesP F10 T g9,m10,k10,b10⟩
 have g11:Fn l.prog w K mg base "_law_order" ["pool", "things"] 2 (spOrder K):=⟨f11,_,ok_order F11 T g9,m11,k11,b11⟩
 have g12:Fn l.prog w K mg base "_law_turned" ["signs", "at"] 1 spTurned:=⟨f12,_,ok_flip F12 T,m12,k12,b12⟩
 have g13:Fn l.prog w K mg base "_law_sheet" ["pool", "most"] 3 spSheetP:=⟨f13,_,ok_sheetP F13 T g9 g10 g11 g12,m13,k13,b13⟩
 have g15:Fn l.prog w K mg base "_law_numbered" ["pool", "sheet"] 3 spNumbP:=⟨f15,_,ok_numbP F15 T g9 g11,m15,k15,b15⟩
 have g16:Fn l.prog w K mg base "_law_signs" ["sheet"] 2 spLSig:=⟨f16,_,ok_lsig F16 T g12,m16,k16,b16⟩
 have g19:Fn l.prog w K mg base "_law_due" ["sheet"] 3 spDueU:=⟨f19,_,ok_dueU F19 T g16,m19,k19,b19⟩
 have g17:Fn l.prog w K mg base "_law_copy" ["thing"] 5 (spCopyT 5):=⟨f17,_,ok_copyT F17 T m17 k17 b17 5,m17,k17,b17⟩
 have g18:Fn l.prog w K mg base "_law_same" ["one", "other"] 5 (spSameT 5):=⟨f18,_,ok_sameT F18 T m18 k18 b18 5,m18,k18,b18⟩
 have g1:Fn l.prog w K mg base "found_from" ["start", "steps_of"] 2 (spFound l.prog w K mg base 1):=⟨f1,_,ok_found F1 T,m1,k1,b1⟩
 have g0:Fn l.prog w K mg base "turned_at" ["standing", "place"] 1 spTurned:=⟨f0,_,ok_turned F0 T,m0,k0,b0⟩
 have g2:Fn l.prog w K mg base "row_behind" ["sheet", "row", "name"] 2 spBehind:=⟨f2,_,ok_behind F2 T g0,m2,k2,b2⟩
 have g3:Fn l.prog w K mg base "rows_found" ["sheet"] 3 (spRows TL0):=⟨f3,_,ok_rows FC3 T CT0 BM g1 g2,m3,k3,b3⟩
 have g4:Fn l.prog w K mg base "signs_of" ["sheet"] 4 (spSigns TL0):=⟨f4,_,ok_signs F4 T g3,m4,k4,b4⟩
 have g5:Fn l.prog w K mg base "outputs_wanted" ["sheet", "node"] 1 spWanted:=⟨f5,_,ok_wanted F5 T,m5,k5,b5⟩
 have g6:Fn l.prog w K mg base "unsteady_at" ["sheet", "node"] 2 spUnst:=⟨f6,_,ok_unst F6 T g5,m6,k6,b6⟩
 have g7:Fn l.prog w K mg base "first_unsteady" ["sheet"] 5 (spFirst TL0):=⟨f7,_,ok_first F7 T g4 g6,m7,k7,b7⟩
 exact ok_law57 F20 T g8 g14 g13 g15 g19 g17 g18 g7
theorem walk {l:PySem.W.OpenLaw} {q:Program} {loose:List Str} {XP:(Str->Option Value)->Heap->Prop} {d:DefRec} {K:Params->PySem.W.Frag} {as:List Addr} {e:∀ P,as=(K P).map (·.1)} {TL0:Addr} (hn:l.most=some 63) (hdf:d.params.defaults=[]) (ok:∀ w:World,makersOk (K w.params) [TL0]=true)
  (F:∀ (w:World) (mg:Str->Option Value) (fa:Addr) (h:Heap),(K w.params).In h->h.Ns mainGlobals mg->mg d.name=some (.ref fa) ->
   ∃ fd:FuncData,(∀ (s:Shared) (u:Value),BindsTo s fd ⟨[u],[]⟩ [("script", u)])/\∀ base:Heap,(K w.params).In base->base.Ns mainGlobals mg->L2.BMain base mg->FnOk l.prog w (K w.params) mg base CX0 6 fa fd ["script"] (spLaw (K w.params) TL0)) :
  PySem.W.WalkO q loose XP (PySem.W.kmHook K as e [TL0]).says l.row.toRowW d [] (fun f vs=>PySem.call f vs) :=
 L2.walk_ofM (n:=63) (k:=6) (x := "script") (CX:=fun _=>CX0) (sp:=fun w=>spLaw (K w.params) TL0) hn (by decide) hdf ⟨rfl,by decide,by decide⟩ ok F (fun _ _ a ns hl hT hS=>⟨a,ns,rfl,hS,hl,(.inl (hT _ (by simp))),fun _=>rfl⟩) fun _ _ _ _ _ z=>z
end K2
open PySem PySem.W PyProof.Rows
set_option maxRecDepth 100000 in
set_option maxHeartbeats 0 in
theorem PySem.Challenge.cw_anydelay_k57_first_unsteady_holds : PySem.Challenge.rw_anydelay_k57_first_unsteady.Holds := by
 w_on; o_law; k_head; (case hw=>w_witness2)
 k_fill
 refine K2.walk (l:=PySem.Challenge.rw_anydelay_k57_first_unsteady) rfl rfl (fun w=>by kernel_rfl) ?F
 case F =>
  intro w mg fa h KX G hmg
  refine' K2.all_mk KX G hmg ?aT ?tab  ?a0 ?l0 ?c0 ?k0 ?a1 ?l1 ?c1 ?k1 ?a2 ?l2 ?c2 ?k2 ?a3 ?l3 ?c3 ?k3 ?h3 ?a4 ?l4 ?c4 ?k4 ?a5 ?l5 ?c5 ?k5 ?a6 ?l6 ?c6 ?k6 ?a7 ?l7 ?c7 ?k7 ?a8 ?l8 ?c8 ?k8 ?a9 ?l9 ?c9 ?k9 ?a10 ?l10 ?c10 ?k10 ?a11 ?l11 ?c11 ?k11 ?a12 ?l12 ?c12 ?k12 ?a13 ?l13 ?c13 ?k13 ?a14 ?l14 ?c14 ?k14 ?a15 ?l15 ?c15 ?k15 ?a16 ?l16 ?c16 ?k16 ?a17 ?l17 ?c17 ?k17 ?a18 ?l18 ?c18 ?k18 ?a19 ?l19 ?c19 ?k19 ?a20 ?l20 ?c20 ?k20 ?z0 ?z1 ?z2 ?z3 ?z4 ?z5 ?z6 ?z7 ?z8 ?z9 ?z10 ?z11 ?z12 ?z13 ?z14 ?z15 ?z16
  (case aT=>k_is)
  (case tab=>first | rfl | decide | decide +kernel)
  (case a0=>k_is); (case l0=>k_is); (case c0=>k_is); (case k0=>k_is)
  (case a1=>k_is); (case l1=>k_is); (case c1=>k_is); (case k1=>k_is)
  (case a2=>k_is); (case l2=>k_is); (case c2=>k_is); (case k2=>k_is)
  (case a3=>k_is); (case l3=>k_is); (case c3=>k_is); (case k3=>k_is)
  (case h3=>kernel_rfl)
  (case a4=>k_is); (case l4=>k_is); (case c4=>k_is); (case k4=>k_is)
  (case a5=>k_is); (case l5=>k_is); (case c5=>k_is); (case k5=>k_is)
  (case a6=>k_is); (case l6=>k_is); (case c6=>k_is); (case k6=>k_is)
  (case a7=>k_is); (case l7=>k_is); (case c7=>k_is); (case k7=>k_is)
  (case a8=>k_is); (case l8=>k_is); (case c8=>k_is); (case k8=>k_is)
  (case a9=>k_is); (case l9=>k_is); (case c9=>k_is); (case k9=>k_is)
  (case a10=>k_is); (case l10=>k_is); (case c10=>k_is); (case k10=>k_is)
  (case a11=>k_is); (case l11=>k_is); (case c11=>k_is); (case k11=>k_is)
  (case a12=>k_is); (case l12=>k_is); (case c12=>k_is); (case k12=>k_is)
  (case a13=>k_is); (case l13=>k_is); (case c13=>k_is); (case k13=>k_is)
  (case a14=>k_is); (case l14=>k_is); (case c14=>k_is); (case k14=>k_is)
  (case a15=>k_is); (case l15=>k_is); (case c15=>k_is); (case k15=>k_is)
  (case a16=>k_is); (case l16=>k_is); (case c16=>k_is); (case k16=>k_is)
  (case a17=>k_is); (case l17=>k_is); (case c17=>k_is); (case k17=>k_is)
  (case a18=>k_is); (case l18=>k_is); (case c18=>k_is); (case k18=>k_is)
  (case a19=>k_is); (case l19=>k_is); (case c19=>k_is); (case k19=>k_is)
  (case a20=>k_is); (case l20=>k_is); (case c20=>k_is); (case k20=>k_is)
  (case z0=>k_is)
  (case z1=>k_is)
  (case z2=>k_is)
  (case z3=>k_is)
  (case z4=>k_is)
  (case z5=>k_is)
  (case z6=>k_is)
  (case z7=>k_is)
  (case z8=>k_is)
  (case z9=>k_is)
  (case z10=>k_is)
  (case z11=>k_is)
  (case z12=>k_is)
  (case z13=>k_is)
  (case z14=>k_is)
  (case z15=>k_is)
  (case z16=>k_is)
