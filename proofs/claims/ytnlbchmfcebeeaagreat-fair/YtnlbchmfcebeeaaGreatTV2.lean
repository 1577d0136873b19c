import Derived.Test.YtnlbchmfcebeeaaGreatTG1
import Derived.Test.YtnlbchmfcebeeaaGreatTZr
set_option maxHeartbeats 12800000
set_option maxRecDepth 100000
namespace Go.Proofs.YtnlbchmfcebeeaaGreat
open Go.Proofs.Tryz Ch
open Go.RowKit
namespace Ch
def rU:ByteArray:=⟨#[40,82,40,65,58,97,64,98,49,35,107,62,66,41,40,66,41,41]⟩
def Dw:As:=rG ⟨#[82,65]⟩
def By:As:=⟨⟨#[82,66]⟩,⟨#[]⟩,⟨#[98,49]⟩,0,0,0⟩
def Nz:As:=rG ⟨#[82,66]⟩
theorem abx:(read rU).1=0/\(read rU).2.1=0:=⟨by kernel_rfl,by kernel_rfl⟩
theorem afE:jf rU=(Dw,⟨#[]⟩,0):=Ny (by kernel_rfl)
theorem afF:mz rU Dw ⟨#[97]⟩=(By,⟨#[107]⟩,0):=Ny (by kernel_rfl)
theorem headW:gV 3 rU By=(Nz,⟨#[]⟩,0):=Ny (by kernel_rfl)
theorem afG:(cI (read rU).2.2 3 (tick (mj rU By)) []).isSome=true:=by kernel_rfl
theorem aji:Dw.Sm:=⟨by decide,by decide,by decide⟩
theorem ajj:By.Sm:=⟨by decide,by decide,by decide⟩
end Ch
section
variable (w:World)
theorem tE:Calls prog 27 #[] w λx w'=>x= .returned (.bool true)/\Kp (λ_=>False) w w':=by
 obtain⟨da,dE,bq⟩:=fN;have E1:=AD w rU;rw[abx.1,abx.2]at E1;replace E1:=hid E1
 have E2:=λW=>jX W rU
 rw[afE]at E2
 have E3:=λW=>mV W rU Dw ⟨#[97]⟩ aji
 rw[afF]at E3
 have E4:=λW=>uA W 3 (by omega) rU By ajj (λ_=>afG)
 rw[headW]at E4;simp only at E2 E3 E4
 replace E2:=λW=>hid (E2 W)
 replace E3:=λW=>hid (E3 W)
 replace E4:=λW=>hid (E4 W)
 have EP1:∀W,Hid (Calls prog 23 #[.string ⟨#[82,65]⟩] W λx w'=>x= .returned (.agg (aN Dw))/\Kp (λ_=>False) W w'):=λW=>hid (Ew W ⟨#[82,65]⟩)
 have EP3:∀W,Hid (Calls prog 23 #[.string ⟨#[82,66]⟩] W λx w'=>x= .returned (.agg (aN Nz))/\Kp (λ_=>False) W w'):=λW=>hid (Ew W ⟨#[82,66]⟩)
 have HB:=hid (show prog.built 26 [(0,.string ⟨#[82,66]⟩),(2,.string ⟨#[98,49]⟩)]=some (aN By)by kernel_rfl)
 have ES1:=λW=>hid (gH W Dw)
 have rO1:=bZ Dw;have rI1:=fA Dw;have rS1:(aN Dw).size=6:=rfl;generalize aN Dw=A1 at*
 have ES2:=λW=>hid (gH W By)
 have rO2:=bZ By;have rI2:=fA By;have rS2:(aN By).size=6:=rfl;generalize aN By=A2 at*
 have ES3:=λW=>hid (gH W Nz)
 have rO3:=bZ Nz;have rI3:=fA Nz;have rS3:(aN Nz).size=6:=rfl;generalize aN Nz=A3 at*;unfold rU at E1 E2 E3 E4
 go_enter func27,ntmps27
 go_wp2_with fail
 refine hm E1 ?_;rintro x w1 ⟨rfl,K1⟩;clear E1
 go_wp2_with fail
 refine Calls.mono (Hid.out (E2 _)) ?_;rintro x w2 ⟨rfl,K2⟩;replace K2:=K1.trans K2;clear E2 K1;have hnew:=heap_alloc_new w2 (.cells aD 26);have h3s:=setRow_heap (w2.alloc (.cells aD 26)) w2.heap.size aD A1 26 (0,0) hnew;have K3:Kp (λ_=>False) w ((w2.alloc (.cells aD 26)).setRow w2.heap.size A1):=(K2.alloc _).setRow (λx=>by have:=K2.size;omega) _
 go_upto_region 4 with(refine wpList_store_row rfl 26 (.tmp 4) (.tmp 24) rfl w2.heap.size A1 rfl rfl 26 aD hnew rI1 (by rw[rS1];rfl) rO1 ?_)
 generalize (w2.alloc (.cells aD 26)).setRow w2.heap.size A1=w3 at*;generalize w2.heap.size=sb at*;clear hnew K2
 go_wp2_with (refine wpList_load_row rfl 26 (.tmp 4) rfl sb rfl 26 A1 (0,0) da h3s dE (by cases da<;>first|rfl|exact absurd bq (by simp[ak])) rI1 ?_)
 refine Calls.mono (Hid.out (E3 _)) ?_;rintro x w4 ⟨rfl,K4⟩;have h4s:=K4.at_ h3s (λx=>x);replace K4:=K3.trans K4;clear E3 K3 h3s;have hnew:=heap_alloc_new w4 (.cells aD 26);have h5t:=setRow_heap (w4.alloc (.cells aD 26)) w4.heap.size aD A2 26 (0,0) hnew;have K5:Kp (λ_=>False) w ((w4.alloc (.cells aD 26)).setRow w4.heap.size A2):=(K4.alloc _).setRow (λx=>by have:=K4.size;omega) _;have Wn:((w4.alloc (.cells aD 26)).setRow w4.heap.size A2).heap[sb]? =_:=(setRow_other _ _ _ _ (by have:=lt_of_block h4s;omega)).trans ((Below.heap_alloc _ _ _ (lt_of_block h4s)).trans h4s)
 go_upto_region 5 with(refine wpList_store_row rfl 26 (.tmp 7) (.tmp 31) rfl w4.heap.size A2 rfl rfl 26 aD hnew rI2 (by rw[rS2];rfl) rO2 ?_)
 generalize (w4.alloc (.cells aD 26)).setRow w4.heap.size A2=w5 at*;generalize w4.heap.size=tb at*;clear hnew K4;clear h4s
 go_wp2_with (refine wpList_load_row rfl 26 (.tmp 7) rfl tb rfl 26 A2 (0,0) da h5t dE (by cases da<;>first|rfl|exact absurd bq (by simp[ak])) rI2 ?_)
 refine Calls.mono (Hid.out (E4 _)) ?_;rintro x w6 ⟨rfl,K6⟩;have Mr:=K6.at_ Wn (λx=>x);have h6t:=K6.at_ h5t (λx=>x);replace K6:=K5.trans K6;clear E4 K5 Wn h5t;have hnew:=heap_alloc_new w6 (.cells aD 26);have h7u:=setRow_heap (w6.alloc (.cells aD 26)) w6.heap.size aD A3 26 (0,0) hnew;have K7:Kp (λ_=>False) w ((w6.alloc (.cells aD 26)).setRow w6.heap.size A3):=(K6.alloc _).setRow (λx=>by have:=K6.size;omega) _;have vC:((w6.alloc (.cells aD 26)).setRow w6.heap.size A3).heap[sb]? =_:=(setRow_other _ _ _ _ (by have:=lt_of_block Mr;omega)).trans ((Below.heap_alloc _ _ _ (lt_of_block Mr)).trans Mr);have h7t:((w6.alloc (.cells aD 26)).setRow w6.heap.size A3).heap[tb]? =_:=(setRow_other _ _ _ _ (by have:=lt_of_block h6t;omega)).trans ((Below.heap_alloc _ _ _ (lt_of_block h6t)).trans h6t)
 go_upto_region 6 with(refine wpList_store_row rfl 26 (.tmp 10) (.tmp 38) rfl w6.heap.size A3 rfl rfl 26 aD hnew rI3 (by rw[rS3];rfl) rO3 ?_)
 generalize (w6.alloc (.cells aD 26)).setRow w6.heap.size A3=w7 at*;generalize w6.heap.size=ub at*;clear hnew K6;clear Mr h6t
 go_upto_region 8 with(fail)
 refine az (λw'=>w'.heap[sb]? =some (.cells A1 26 (0,0))) (by kernel_rfl) ?_;refine dM 0 59 (.agg A1) rfl (λw' hS=>bu 26 (.tmp 4) rfl sb rfl 26 A1 (0,0) da hS dE (by cases da<;>first|rfl|exact absurd bq (by simp[ak])) rI1) vC ?_;refine jD 1 ?_;refine bS (some 60) rfl 23 #[.string ⟨#[82,65]⟩] (by simp[execOp,Act.eval,go_sem]) _ (λw'=>Kp (λ_=>False) w7.drew w') (EP1 _).out ?_;intro w8a Wo;have Wp:=Wo.at_ (show w7.drew.heap[sb]? =_ from vC) (λx=>x);refine⟨Wp,?_⟩;simp only[Act.put,pA,pB,pC];refine jD 2 ?_;refine bS (some 61) rfl 21 #[.agg A1,.agg A1] (by simp[execOp,Act.eval,go_sem]) _ (λw'=>Kp (λ_=>False) w8a w') (ES1 _).out ?_;intro w8b Wq;have Ws:=Wq.at_ Wp (λx=>x);refine⟨Ws,?_⟩;simp only[Act.put,pA,pB,pC];refine aU 3 13 (.bool true) Ws ?_;refine wpAnyH_done (by kernel_rfl) (NoPanic.normal ?_) _;have K8:=((K7.drew).trans Wo).trans Wq;have Ve:=Wq.at_ (Wo.at_ (show w7.drew.heap[tb]? =_ from h7t) (λx=>x)) (λx=>x);have h8u:=Wq.at_ (Wo.at_ (show w7.drew.heap[ub]? =_ from h7u) (λx=>x)) (λx=>x);clear K7 Wo Wq Wp Ws vC h7t h7u
 go_wp2_with (first|(refine bX rfl 26 #[(0,.const (.string ⟨#[82,66]⟩)),(2,.const (.string ⟨#[98,49]⟩))] rfl A2 [(0,.string ⟨#[82,66]⟩),(2,.string ⟨#[98,49]⟩)] ?_ HB.out ?_;rfl)|refine wpList_load_row rfl 26 (.tmp 7) rfl tb rfl 26 A2 (0,0) da Ve dE (by cases da<;>first|rfl|exact absurd bq (by simp[ak])) rI2 ?_)
 refine Calls.mono (Hid.out (ES2 _)) ?_;rintro x w9 ⟨rfl,K9⟩;have h9u:=K9.at_ h8u (λx=>x);replace K9:=K8.trans K9;clear K8 Ve h8u ES2
 go_upto_region 10 with(fail)
 refine az (λw'=>w'.heap[ub]? =some (.cells A3 26 (0,0))) (by kernel_rfl) ?_;refine dM 0 65 (.agg A3) rfl (λw' hS=>bu 26 (.tmp 10) rfl ub rfl 26 A3 (0,0) da hS dE (by cases da<;>first|rfl|exact absurd bq (by simp[ak])) rI3) h9u ?_;refine jD 1 ?_;refine bS (some 66) rfl 23 #[.string ⟨#[82,66]⟩] (by simp[execOp,Act.eval,go_sem]) _ (λw'=>Kp (λ_=>False) w9.drew w') (EP3 _).out ?_;intro ajp Wt;have NA:=Wt.at_ (show w9.drew.heap[ub]? =_ from h9u) (λx=>x);refine⟨NA,?_⟩;simp only[Act.put,pA,pB,pC];refine jD 2 ?_;refine bS (some 67) rfl 21 #[.agg A3,.agg A3] (by simp[execOp,Act.eval,go_sem]) _ (λw'=>Kp (λ_=>False) ajp w') (ES3 _).out ?_;intro aov Wu;have NB:=Wu.at_ NA (λx=>x);refine⟨NB,?_⟩;simp only[Act.put,pA,pB,pC];refine aU 3 15 (.bool true) NB ?_;refine wpAnyH_done (by kernel_rfl) (NoPanic.normal ?_) _;have tF:=((K9.drew).trans Wt).trans Wu;clear K9 Wt Wu NA NB h9u;go_wp2;go_ret;exact⟨rfl,tF⟩
end
namespace Ch
def JL(ss:List St)(s:Sd):Prop:=∀k:Nat,cX ss k=false->aR s k=0
theorem nN{ol:Ol}(h16:ol.ag.length<=16):kS ol (λs=>JL ol.ag s/\s.past.length=16):=by
 refine⟨λm a _ h=>?_,λm i v h=>h,λs left h=>?_⟩
 ·have:=(Bf m a).2
  refine⟨λk hk=>?_,by rw[this];exact h.2⟩;unfold aR;rw[this];exact h.1 k hk
 refine⟨λk hk=>?_,by show(mJ _ _ _ _ _ _).length=16;rw[wo];exact h.2⟩;show(mJ ol.ag s.act left (min ol.ag.length 16) 0 s.past).getD k 0=0;rw[Bh _ _ _ _ _ _ (by have:=h.2;omega)];rw[if_neg (by rintro⟨_,_,hr⟩;unfold ry at hr;rw[hk]at hr;simp at hr)];exact h.1 k hk
theorem ZV{l m:List Bool}(hl:l.length=16)(hm:m.length=16)(h:∀k,bit l k=bit m k):l=m:=by
 apply List.ext_getElem (by omega);intro k h1 h2;have:=h k;unfold bit at this;simpa[List.getD_eq_getElem?_getD,List.getElem?_eq_getElem h1,List.getElem?_eq_getElem h2]using this
theorem yV{p:Nat->Bool}:∀(l:List Nat),l.Nodup->(∃i∈l,p i=true)->(∀i∈l,∀j∈l,p i=true->p j=true->i=j)->l.countP p=1:=by
 intro l
 induction l with
 |nil=>rintro _ ⟨i,hi,_⟩;cases hi
 |cons a l ih=>?_
 intro hd hex hu;rw[List.nodup_cons]at hd;rw[List.countP_cons]
 cases q:p a with
 |true=>
  have:l.countP p=0:=by
   rw[List.countP_eq_zero];intro b hb hpb;have:=hu a (by simp) b (by simp[hb]) q hpb;subst this;exact hd.1 hb
  rw[this];rfl
 |false=>?_
 obtain⟨i,hi,hpi⟩:=hex
 rcases List.mem_cons.1 hi with rfl|hi
 ·rw[q]at hpi;cases hpi
 rw[ih hd.2 ⟨i,hi,hpi⟩ (λx hx y hy=>hu x (by simp[hx]) y (by simp[hy]))];rfl
theorem Wv{ss:List St}(h:sH ss){l:List Bool}(hC:Jp ss (bit l)):allFit ss l ss.length=true:=by
 unfold allFit;rw[List.all_eq_true];intro i hi
 have hil:i<ss.length:=by simpa using hi
 unfold fits;rw[cT]
 cases q:bit l i with
 |false=>
  simp only[Bool.false_eq_true,if_false]
  have:aw ss i≠ -1:=λe=>by have:=h.root i hil e;subst this;rw[hC.root]at q;cases q
  simpa using this
 |true=>?_
 simp only[if_true]
 have hp:((aw ss i != -1)&& !has l (aw ss i))=false:=by
  by_cases c:aw ss i= -1
  ·rw[c];rfl
  have a:=fH h.up i
  obtain⟨p,e⟩:∃p:Nat,aw ss i=p:=⟨(aw ss i).toNat,by omega⟩
  rw[e,cT,hC.Vc i p q e];simp
 rw[hp];simp only[Bool.false_eq_true,if_false]
 by_cases k2:aA ss i=2
 ·rw[k2]
  simp only[show((2:Int)==2)=true from rfl,if_true]
  have:e_ ss l i true=1:=by
   unfold e_ pJ;obtain⟨j,hj1,hj2⟩:=hC.Qp i q k2;refine yV _ List.nodup_range ⟨j,by simpa using(cA hj1).1,by unfold uS;rw[cT,hj1,hj2];rfl⟩ ?_;intro x _ y _ hx hy;unfold uS at hx hy;rw[cT]at hx hy;simp only[Bool.and_eq_true,beq_iff_eq]at hx hy;exact hC.one i x y k2 hx.2 hy.2 hx.1 hy.1
  rw[this];rfl
 by_cases k3:aA ss i=3
 ·rw[k3]
  simp only[show((3:Int)==2)=false from rfl,show((3:Int)==3)=true from rfl,Bool.false_eq_true,if_false,if_true]
  have:e_ ss l i false=0:=by
   unfold e_ pJ;rw[List.countP_eq_zero];intro x _ hx;unfold uS at hx;rw[cT]at hx;simp only[Bool.and_eq_true,beq_iff_eq]at hx;rw[hC.ZM i x q k3 hx.2]at hx;cases hx.1
  rw[this];rfl
 have k5:=hC.cX i q
 have e2:(aA ss i==2)=false:=by simpa using k2
 have e3:(aA ss i==3)=false:=by simpa using k3
 have e5:(aA ss i==5)=false:=by simpa using k5
 rw[e2,e3,e5];rfl
theorem ZW{ss:List St}{s:Sd}{t:ByteArray}(hP:mq ss s):∀(f k n:Nat) (l:List Int),k+f<=ss.length->k+f<=l.length->n+((List.range' k f).filter (cX ss)).length<=t.size->
 (∀(j i:Nat),((List.range' k f).filter (cX ss))[j]? =some i->af t (n+j)=aR s i)->
 ∃l',ur ss t f k n l=some (l',n+((List.range' k f).filter (cX ss)).length)/\l'.length=l.length/\∀j,l'.getD j 0=if k<=j/\j<k+f/\cX ss j=true then aR s j else l.getD j 0:=by
 intro f
 induction f with
 |zero=>intro k n l _ _ _ _;exact⟨l,rfl,rfl,λj=>by rw[if_neg (by omega)]⟩
 |succ f ih=>?_
 intro k n l hs hl ht hp;rw[List.range'_succ,List.filter_cons]at ht hp⊢;simp only[ur]
 cases q:cX ss k with
 |true=>
  rw[q]at ht hp;simp only[if_true,List.length_cons]at ht hp⊢;have h0:=hp 0 k rfl;rw[Nat.add_zero]at h0;have hok:=hP k (by omega) q;rw[h0,hok]
  have:(decide (t.size<=n)|| !true)=false:=by simp;omega
  rw[this];simp only[Bool.false_eq_true,if_false]
  obtain⟨l',e1,e2,e3⟩:=ih (k+1) (n+1) (l.set k (aR s k)) (by omega) (by simp;omega) (by omega) (λj i hj=>by
   have:=hp (j+1) i (by simpa using hj)
   rw[show n+1+j=n+(j+1)by omega];exact this)
  refine⟨l',by rw[e1];congr 2;omega,by simpa using e2,λj=>?_⟩;rw[e3 j]
  by_cases c:k=j
  ·subst c
   rw[if_neg (by omega),if_pos ⟨Nat.le_refl _,by omega,q⟩];simp only[List.getD_eq_getElem?_getD];rw[List.getElem?_set_self (by omega)];rfl
  have hset:(l.set k (aR s k)).getD j 0=l.getD j 0:=by
   simp only[List.getD_eq_getElem?_getD];rw[List.getElem?_set_ne c]
  rw[hset]
  by_cases c2:k+1<=j/\j<k+1+f/\cX ss j=true
  ·rw[if_pos c2,if_pos ⟨by omega,by omega,c2.2.2⟩]
  rw[if_neg c2,if_neg (by rintro⟨a,b,d⟩;exact c2 ⟨by omega,by omega,d⟩)]
 |false=>?_
 rw[q]at ht hp;simp only[Bool.false_eq_true,if_false]at ht hp⊢;obtain⟨l',e1,e2,e3⟩:=ih (k+1) n l (by omega) (by omega) ht hp;refine⟨l',e1,e2,λj=>?_⟩;rw[e3 j]
 by_cases c:k=j
 ·subst c;rw[if_neg (by omega),if_neg (by rintro⟨_,_,d⟩;rw[q]at d;cases d)]
 by_cases c2:k+1<=j/\j<k+1+f/\cX ss j=true
 ·rw[if_pos c2,if_pos ⟨by omega,by omega,c2.2.2⟩]
 rw[if_neg c2,if_neg (by rintro⟨a,b,d⟩;exact c2 ⟨by omega,by omega,d⟩)]
theorem ZX{t:ByteArray}(h:TL 49 (dW t))(h16:t.size<=16):j2 t=true:=by
 have hev:t.size % 2=0:=by rw[<-bz];exact TL.even _ (Nat.le_refl _) h
 rw[Qk];unfold pZ
 have h1:(decide (16<t.size)||t.size % 2==1)=false:=by simp;omega
 rw[h1];simp only[Bool.not_false,Bool.true_and,List.all_eq_true,List.mem_range];intro k hk;unfold mA
 rcases Nat.mod_two_eq_zero_or_one k with e|e
 ·have hd:=TL.drop2 (k/2) h
  rw[show 2*(k/2)=k by omega,g_ (by omega)]at hd;rw[e];exact hd.1.1
 have hd:=TL.drop2 (k/2) h;rw[show 2*(k/2)=k-1 by omega,g_ (by omega),show k-1+1=k by omega]at hd;rw[e];simp only[show((1:Nat)==0)=false from rfl,Bool.false_eq_true,if_false];unfold eI;simp;exact hd.1.2
theorem Ww{L:List RN}{ol:Ol}(mQ:L.map RN.st=ol.ag)(hO:Ah ol)(hB:∀k,k<ol.ag.length->0<=dN ol.ag k/\dN ol.ag k<256){s:Sd}(hI:Inv ol s)(hZ:JL ol.ag s)(hT:Dt 49 s)
 (hx: -99<=s.x/\s.x<=99) (hy: -99<=s.y/\s.y<=99) (hz: -99<=s.z/\s.z<=99):take ol.ag (dV ol.ag s) (dh ol.ag s) s.tm s.x s.y s.z=(true,s):=by
 have h16:=hO.le
 have hlen:ol.ag.length=L.length:=by rw[<-mQ];simp
 obtain⟨on,hsp,hso⟩:=Bm mQ hO hB hI.conf.lt hI.la
 have hA:bT ol.ag (dV ol.ag s)=(s.act,true):=by
  unfold gf at hsp
  rcases vx (L:=L) (t:=dV ol.ag s) (by omega) (dV ol.ag s).size 0 (-1) _ _ (Ql L.length) (by omega)with⟨e1,_⟩|⟨on',l',e1,e2,hs⟩
  ·rw[hsp]at e1;cases e1
  rw[hsp]at e1
  obtain rfl:on=on':=by simpa using e1
  have hl':l'=s.act:=ZV hs.2.1 hI.la (λk=>by rw[<-hs.2.2 k,hso.2.2 k]);subst hl';rw[mQ]at e2;unfold bT lG;rw[e2];simp only;rw[Wv hO.qg hI.conf];rfl
 have hpb:∀k,k<ol.ag.length->cX ol.ag k=true->0<=aR s k/\aR s k<256:=by
  intro k hk hh;have:=hI.past k hk hh;unfold gy at this
  split at this
  ·rename_i c;have:aR s k=45:=by simpa using c
   omega
  unfold aB at this
  cases q:lM ol.ag (place ol.ag (aR s k))with
  |none=>rw[q]at this;cases this
  |some x=>?_
  obtain⟨i,e,hi,hil⟩:=iz q
  rcases j8 (aR s k) ol.ag 0 with⟨e2,_⟩|⟨i2,s2,h1,h2,h3,_⟩
  ·unfold place at e;rw[e2]at e;omega
  have:dN ol.ag i2=aR s k:=by unfold dN;rw[h1];exact h2
  rw[<-this];exact hB i2 (List.getElem?_eq_some_iff.1 h1).1
 have hm:min ol.ag.length 16=ol.ag.length:=by omega
 have afI:dW (dh ol.ag s)=((List.range ol.ag.length).filter (cX ol.ag)).map (aR s):=by
  unfold dh ig;rw[hm];refine iO (λx hx=>?_);obtain⟨k,hk,rfl⟩:=List.mem_map.1 hx;have:=List.mem_filter.1 hk;exact hpb k (by simpa using this.1) this.2
 have hsz:(dh ol.ag s).size=((List.range ol.ag.length).filter (cX ol.ag)).length:=by rw[<-bz,afI];simp
 have hPp:bD ol.ag (dh ol.ag s)=(s.past,true):=by
  obtain⟨l',e1,e2,e3⟩:=ZW (t:=dh ol.ag s) hI.past ol.ag.length 0 0 (cR ol.ag) (by omega) (by rw[eN];omega)
   (by rw[hsz,List.range_eq_range'];omega)
   (λj i hj=>by
    rw[Nat.zero_add];rw[<-List.range_eq_range']at hj
    exact(lq afI (k:=j) (x:=aR s i) (by rw[List.getElem?_map,hj];rfl)).1)
  have hl':l'=s.past:=by
   apply List.ext_getElem (by rw[e2,eN,hI.lp]);intro k h1 h2;have hk:=e3 k
   have ha:l'.getD k 0=l'[k]:=by simp[List.getD_eq_getElem?_getD,List.getElem?_eq_getElem h1]
   have hb:aR s k=s.past[k]:=by unfold aR;simp[List.getD_eq_getElem?_getD,List.getElem?_eq_getElem h2]
   rw[ha]at hk;rw[hk,<-hb]
   split
   ·rfl
   rename_i c
   have hh:cX ol.ag k=false:=by
    cases q:cX ol.ag k with
    |false=>rfl
    |true=>?_
    exfalso
    have:k<ol.ag.length:=by
     unfold cX at q
     cases q2:ol.ag[k]? with
     |none=>rw[q2]at q;cases q
     |some x=>exact(List.getElem?_eq_some_iff.1 q2).1
    exact c ⟨by omega,by omega,q⟩
   rw[hZ k hh]
   have IQ:k<16:=by rw[hI.lp]at h2;exact h2
   show(gM ol.ag 16).getD k 0=0;unfold gM;simp[List.getD_eq_getElem?_getD,IQ,hh]
  unfold bD;rw[hm,e1];simp only;rw[<-List.range_eq_range',<-hsz,hl'];simp
 unfold take;rw[hA,hPp]
 have hxx:(j2 s.tm&&jU s.x&&jU s.y&&jU s.z)=true:=by
  rw[ZX hT.1 hT.2];unfold jU;simp;omega
 rw[hxx];rfl
/-! A chart at rest;an event that none waits for. -/
def pf(a b:Sd):Prop:=a.act=b.act/\a.x=b.x/\a.y=b.y/\a.z=b.z
theorem Wx{a b:Sd}(h:pf a b)(g:Gd):holds a g=holds b g:=by
 obtain⟨_,h1,h2,h3⟩:=h;unfold holds var;rw[h1,h2,h3]
theorem NC{a b:Sd}(h:pf a b)(st trg:Int):∀(l:List Tr) (k:Nat),dU a st trg l k=dU b st trg l k:=by
 intro l
 induction l with
 |nil=>intro k;rfl
 |cons t l ih=>intro k;simp only[dU];unfold nB;rw[Wx h,ih]
theorem GW{a b:Sd}(h:pf a b)(ol:Ol)(trg:Int):∀(f:Nat) (i:Int),bN ol a trg f i=bN ol b trg f i:=by
 intro f
 induction f with
 |zero=>intro i;rfl
 |succ f ih=>intro i;simp only[bN];unfold gQ;rw[NC h,ih]
theorem Wy{a b:Sd}(h:pf a b)(ol:Ol)(trg:Int):∀(f k:Nat) (fl:List Int),findF ol a trg f k fl=findF ol b trg f k fl:=by
 intro f
 induction f with
 |zero=>intro k fl;rfl
 |succ f ih=>?_
 intro k fl;simp only[findF]
 have:dw ol a trg fl k=dw ol b trg fl k:=by
  unfold dw cr;rw[h.1,GW h]
 rw[this,ih]
theorem Ex{a b:Sd}(h:pf a b)(ol:Ol)(t:Nat):leaves ol a t=leaves ol b t:=by unfold leaves;rw[h.1]
theorem SP{a b:Sd}(h:pf a b)(ol:Ol)(t:Nat):∀(l kept:List Int),eQ ol a t l kept=eQ ol b t l kept:=by
 intro l
 induction l with
 |nil=>intro kept;rfl
 |cons x l ih=>intro kept;simp only[eQ];rw[Ex h,Ex h,ih,ih]
theorem ND{a b:Sd}(h:pf a b)(ol:Ol):∀(l acc:List Int),dP ol a l acc=dP ol b l acc:=by
 intro l
 induction l with
 |nil=>intro acc;rfl
 |cons x l ih=>?_
 intro acc;simp only[dP]
 have:jN ol a acc x.toNat=jN ol b acc x.toNat:=by unfold jN;rw[SP h]
 rw[this,ih]
theorem SQ{a b:Sd}(h:pf a b)(ol:Ol)(trg:Int):choose ol a trg=choose ol b trg:=by
 unfold choose find;rw[Wy h,ND h]
def ZY(ol:Ol)(s:Sd):Prop:=choose ol s 46=[]
theorem ac2{ol:Ol}{m:Ma}(h:busy ol m=false):ZY ol m.s/\m.q=[]:=by
 unfold busy at h;simp only[Bool.or_eq_false_iff,decide_eq_false_iff_not]at h;exact⟨List.length_eq_zero_iff.1 (by omega),List.length_eq_zero_iff.1 (by omega)⟩
theorem vD{ol:Ol}{n:Nat}{m:Ma}(h:(finish ol n m).2.2=0):ZY ol (finish ol n m).1:=by
 unfold finish at h⊢
 cases q:busy ol (rounds ol n m)with
 |true=>rw[q]at h;simp at h
 |false=>simp only[Bool.false_eq_true,if_false];exact(ac2 q).1
theorem NF(s:Sd):pf (aZ s).2.2 s:=by
 unfold aZ;split<;>exact⟨rfl,rfl,rfl,rfl⟩
theorem ZY.av{ol:Ol}{a b:Sd}(h:ZY ol b)(e:pf a b):ZY ol a:=by unfold ZY;rw[SQ e];exact h
structure Good(ol:Ol)(s:Sd):Prop where
 inv:Inv ol s
 pz:JL ol.ag s
 tl:Dt 49 s
 ok:s.Ok
 stb:ZY ol s
structure qw(t:ByteArray)(ol:Ol):Prop where
 rd:read t=(0,0,ol)
 iP:Ah ol
 uX:pw ol
 YW:ZQ ol
theorem Wz{t:ByteArray}{ol:Ol}(h:read t=(0,0,ol))(hB:ZQ ol):qw t ol:=by
 have h0:(read t).1=0:=by rw[h]
 have e:(read t).2.2=ol:=by rw[h]
 exact⟨h,by rw[<-e];exact(wR h0).1,by rw[<-e];exact JD h0,hB⟩
section
variable {t:ByteArray} {ol:Ol}
theorem Good.take(hR:qw t ol){s:Sd}(g:Good ol s):takeA ol.ag (aH ol.ag s)=(true,s):=
 Ww (L:=ol.ag.map λx=>⟨x.name,x.kind,x.parent,x.pos,[],[],[]⟩) (by rw[List.map_map];exact List.map_id _) hR.iP (λk _=>hR.YW k) g.inv g.pz g.tl g.ok.2.1.1 g.ok.2.1.2.1 g.ok.2.1.2.2
theorem Good.lg(hR:qw t ol){s:Sd}(g:Good ol s):kP t (aH ol.ag s)=0/\mj t (aH ol.ag s)=s:=by
 have h:=g.take hR;have:=afD hR.rd (a:=aH ol.ag s) (by rw[h]);exact⟨this.1,by rw[this.2,h]⟩
theorem yW(hR:qw t ol){n:Nat}{m:Ma}(h:(finish ol n m).2.2=0)(hi:Inv ol m.s)(hp:JL ol.ag m.s/\m.s.past.length=16)(ht:Dt 49 m.s)(ho:m.s.Ok):Good ol (finish ol n m).1:=by
 have hs:=vD h;have hk:=uz ho n (ol:=ol)
 have e:(finish ol n m).1=(rounds ol n m).s:=by
  unfold finish at h⊢
  cases q:busy ol (rounds ol n m)with
  |true=>rw[q]at h;simp at h
  |false=>simp only[Bool.false_eq_true,if_false]
 refine⟨?_,?_,?_,hk,hs⟩
 ·rw[e];exact lj hR.iP n hi
 ·rw[e];exact((nN hR.iP.le).rounds hR.uX n hp).1
 rw[e];exact(gG (by omega) ol).rounds hR.uX n ht
theorem rH(hR:qw t ol)(h:(mstart ol).2.2=0):Good ol (mstart ol).1:=by
 unfold mstart at h⊢;refine yW hR h (yu hR.iP).2 ?_ ?_ (s_ (rC _) _)
 ·refine(nN hR.iP.le).c_ hR.uX _ _ _ _ (m:=⟨bM ol.ag,[],[]⟩) ⟨λk hk=>?_,eN _⟩
  show(cR ol.ag).getD k 0=0;unfold cR gM
  by_cases q:k<16
  ·simp[q,hk]
  simp[q]
 exact(gG (by omega) ol).c_ hR.uX _ _ _ _ (m:=⟨bM ol.ag,[],[]⟩) ⟨trivial,Nat.zero_le _⟩
theorem mX(hR:qw t ol){s:Sd}(g:Good ol s){ev:Int}(h:(aQ ol s ev).2.2=0):Good ol (aQ ol s ev).1:=by
 unfold aQ at h⊢;refine yW hR h (iC hR.iP (m:=⟨s,[],[]⟩) g.inv ev) ((nN hR.iP.le).cd hR.uX (m:=⟨s,[],[]⟩) ⟨g.pz,g.ok.1.2⟩ _) ((gG (by omega) ol).cd hR.uX (m:=⟨s,[],[]⟩) g.tl _) (nG (m:=⟨s,[],[]⟩) g.ok _)
end
theorem Bz{ol:Ol}{n:Nat}{m:Ma}:(finish ol n m).2.2=0\/(finish ol n m).2.2=9:=by
 unfold finish;split
 ·exact Or.inr rfl
 exact Or.inl rfl
theorem ly(ol:Ol):(mstart ol).2.2=0\/(mstart ol).2.2=9:=Bz
theorem qA(ol:Ol)(s:Sd)(ev:Int):(aQ ol s ev).2.2=0\/(aQ ol s ev).2.2=9:=Bz
theorem WA{t:ByteArray}:∀(f k:Nat),jx t f k=none->t.size<=k+2*f->TL 48 ((dW t).drop k)->TL 49 ((dW t).drop k):=by
 intro f
 induction f with
 |zero=>intro k _ h _;rw[List.drop_eq_nil_of_le (by rw[bz];omega)];trivial
 |succ f ih=>?_
 intro k h hz ht;simp only[jx]at h
 split at h
 ·rename_i c
  rw[g_ c]at ht⊢
  split at h
  ·cases h
  rename_i q
  have q':af t (k+1)≠48:=by simpa using q
  refine⟨⟨ht.1.1,?_,ht.1.2.2⟩,ih (k+2) h (by omega) ht.2⟩;have:=ht.1.2.1;omega
 rename_i c
 by_cases c2:k<t.size
 ·have hl:=TL.even _ (Nat.le_refl _) ht
  rw[List.length_drop,bz]at hl;omega
 rw[List.drop_eq_nil_of_le (by rw[bz];omega)];trivial
structure Mid(ol:Ol)(s:Sd):Prop where
 inv:Inv ol s
 pz:JL ol.ag s
 tl:Dt 48 s
 ok:s.Ok
 stb:ZY ol s
theorem Mid.due{ol:Ol}{s:Sd}(g:Mid ol s):Mid ol (aZ s).2.2:=by
 have hok:=nK g.ok;have hst:=g.stb.av (NF s);unfold aZ at hok hst⊢
 split
 ·rename_i k hk
  have ha:=wF _ _ _ _ hk
  have hw:No ol (aH ol.ag s) s:=⟨rfl,g.inv,g.ok,g.tl⟩
  rw[hk]at hok hst;have he:k % 2=0:=(uG _ _ _ _ hk rfl).1;exact⟨(hw.due he ha.2).inv,g.pz,(hw.due he ha.2).tl,hok,hst⟩
 exact g
theorem Good.mid{ol:Ol}{s:Sd}(g:Good ol s):Mid ol (tick s):=
 ⟨g.inv.same ⟨rfl,rfl⟩,g.pz,GR g.tl,wG g.ok,g.stb.av ⟨rfl,rfl,rfl,rfl⟩⟩
theorem Good.sm{ol:Ol}{s:Sd}(g:Good ol s):(aH ol.ag s).Sm:=by
 have h1:(dV ol.ag s).size<=16:=by unfold dV;rw[strOfNums_size];have:=pN ol.ag s (min ol.ag.length 16);omega
 have h2:(dh ol.ag s).size<=16:=by unfold dh;rw[strOfNums_size];have:=sY ol.ag s (min ol.ag.length 16);omega
 have h3:=g.tl.2;exact⟨Nat.le_trans h1 (by decide),Nat.le_trans h2 (by decide),Nat.le_trans h3 (by decide)⟩
section
variable {t:ByteArray} {ol:Ol}
theorem uH(hR:qw t ol):∀(n:Nat) {s:Sd} {l:List Int} {r:Sd×ByteArray},Mid ol s->cI ol n s l=some r->Good ol r.1:=by
 intro n
 induction n with
 |zero=>intro s l r _ h;simp[cI]at h
 |succ n ih=>?_
 intro s l r g h;have gd:=g.due;simp only[cI]at h
 split at h
 ·split at h
  ·rename_i c
   have c':(aQ ol (aZ s).2.2 (aZ s).1).2.2=0:=by simpa using c
   refine ih ?_ h;generalize (aZ s).2.2=s2 at*;generalize (aZ s).1=ev at*;have hs:=vD (by unfold aQ at c';exact c')
   have e:(aQ ol s2 ev).1=(rounds ol 29 (cd ol ⟨s2,[],[]⟩ (choose ol s2 ev))).s:=by
    unfold aQ finish at c'⊢
    cases q:busy ol (rounds ol 29 (cd ol ⟨s2,[],[]⟩ (choose ol s2 ev)))with
    |true=>rw[q]at c';simp at c'
    |false=>simp only[Bool.false_eq_true,if_false]
   refine⟨?_,?_,?_,lP gd.ok ev,hs⟩
   ·rw[e];exact lj hR.iP 29 (iC hR.iP (m:=⟨s2,[],[]⟩) gd.inv ev)
   ·rw[e];exact((nN hR.iP.le).rounds hR.uX 29 ((nN hR.iP.le).cd hR.uX (m:=⟨s2,[],[]⟩) ⟨gd.pz,gd.ok.1.2⟩ _)).1
   rw[e];exact(gG (by omega) ol).rounds hR.uX 29 ((gG (by omega) ol).cd hR.uX (m:=⟨s2,[],[]⟩) gd.tl _)
  exact ih gd h
 rename_i c;simp at h;subst h
 have hn:jx s.tm s.tm.size 0=none:=by
  unfold aZ at c
  cases q:jx s.tm s.tm.size 0 with
  |none=>rfl
  |some k=>rw[q]at c;simp at c
 have e:(aZ s).2.2=s:=by unfold aZ;rw[hn]
 simp only[e];have:=WA s.tm.size 0 hn (by omega) (by simpa using g.tl.1);exact⟨g.inv,g.pz,⟨by simpa using this,g.tl.2⟩,g.ok,g.stb⟩
end
end Ch
end Go.Proofs.YtnlbchmfcebeeaaGreat
