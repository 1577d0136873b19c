import Derived.Test.YtnlbchmfcebeeaaGreatTH1
import Derived.Test.YtnlbchmfcebeeaaGreatTHr
set_option maxHeartbeats 12800000
set_option maxRecDepth 100000
namespace Go.Proofs.YtnlbchmfcebeeaaGreat
open Go.Proofs.Tryz Ch
open Go.RowKit
section
variable (w:World)
theorem wZ(n:Nat)(hn:n<=1000)(t:ByteArray)(a:As)(b:Int)(ha:a.Sm)(hw:bR b=false->kP t a=0->(cI (Ch.read t).2.2 n (Ch.tick (mj t a)) []).isSome=true):
 Calls prog 30 #[.string t,.agg (aN a),.int .u8 b] w λx w'=>x= .returned (.tuple #[.agg (aN (Ch.goes n t a b).1),.string (Ch.goes n t a b).2.1,.int .i64 (Ch.goes n t a b).2.2])/\Kp (λ_=>False) w w':=by
 obtain⟨da,dE,bq⟩:=fN
 have hb1:((w.alloc (.cells (aN a) 26)).alloc (.cells aD 26)).heap[w.heap.size]? =some (.cells (aN a) 26):=by
  rw[Below.heap_alloc _ _ _ (by simp)];exact heap_alloc_new _ _
 have hr1:((w.alloc (.cells (aN a) 26)).alloc (.cells aD 26)).heap[w.heap.size+1]? =some (.cells aD 26):=heap_alloc2_new w _ _;have K1:Kp (λ_=>False) w ((w.alloc (.cells (aN a) 26)).alloc (.cells aD 26)):=((Kp.refl _ _).alloc _).alloc _;have aI:=fA a;have EW:=hid (λW h=>uA W n hn t a ha h);have EF:=hid (λW ev=>mV W t a ev ha);generalize kQ:aN a=AA at hb1 hr1 K1 aI EW EF⊢;clear kQ
 by_cases q:bR b=true
 ·rw[show Ch.goes n t a b=mz t a (strOfNums [b])by unfold Ch.goes;rw[if_pos q]]
  have q':=q;simp only[bR,Bool.and_eq_true,decide_eq_true_eq]at q';obtain⟨q1,q2⟩:=q'
  have E1:=λW=>hid (EF.out W (strOfNums [b]))
  clear EW EF hw;generalize hgf:mz t a (strOfNums [b])=r at*;clear hgf;obtain⟨ra,ro,re⟩:=r;have rO:=bZ ra;have rI:=fA ra;have rS:(aN ra).size=6:=rfl;simp only at E1⊢;generalize aN ra=RA at*
  go_enter func30,ntmps30
  go_upto_region 2 with(fail)
  generalize (w.alloc (.cells AA 26)).alloc (.cells aD 26)=w1 at*
  have oq:cD (w1.alloc (.cells #[.int .u8 b] 5)) 0 (.slice (some ⟨w1.heap.size,0,none⟩) 1 1) (ar [b]):=
   .inr ⟨w1.heap.size,0,1,#[.int .u8 b],rfl,Nat.zero_le _,heap_alloc_new _ _,by simp[ar],by simp,by intro j u hj;simpa[ar]using hj⟩
  have hcv:=jy oq;have hr2:(w1.alloc (.cells #[.int .u8 b] 5)).heap[w.heap.size+1]? =some (.cells aD 26):=(Below.heap_alloc _ _ _ (lt_of_block hr1)).trans hr1;have K2:=K1.alloc (.cells #[.int .u8 b] 5);clear oq hr1 K1
  go_wp2_with (refine wpList_load_row rfl 26 (.tmp 4) rfl w.heap.size rfl 26 AA (0,0) da hb1 dE (by cases da<;>first|rfl|exact absurd bq (by simp[ak])) aI ?_)
  refine Calls.mono (Hid.out (E1 _)) ?_;rintro x w3 ⟨rfl,K3⟩;have hr3:=K3.at_ hr2 (λx=>x);have KF:Kp (λ_=>False) w (w3.setRow (w.heap.size+1) RA):=(K2.trans K3).setRow (λx=>by omega) _;clear K2 K3 hr2 E1 hcv hb1
  go_wp2_with (refine wpList_store_row rfl 26 (.tmp 6) (.tmp 21) rfl (w.heap.size+1) RA rfl rfl 26 aD hr3 rI (by rw[rS];rfl) rO ?_)
  refine bodyPost_ret (aq rfl _ _ (w.heap.size+1) 26 RA (0,0) da rfl (setRow_heap _ _ _ _ _ _ hr3) dE bq rI) rfl ?_;exact⟨rfl,KF⟩
 rw[show Ch.goes n t a b=gV n t a by unfold Ch.goes;rw[if_neg q]]
 have E1:=λW=>hid (EW.out W (hw (by simpa using q)))
 have key:∀(Q:Prop),(97<=b->¬b<=122->Q)->(¬ 97<=b->Q)->Q:=by
  intro Q h1 h2
  by_cases h:97<=b
  ·exact h1 h (λh'=>q (by simp[bR,h,h']))
  exact h2 h
 clear hw EW EF;generalize hgw:gV n t a=r at*;clear hgw;obtain⟨ra,ro,re⟩:=r;have rO:=bZ ra;have rI:=fA ra;have rS:(aN ra).size=6:=rfl;simp only at E1⊢;generalize aN ra=RA at*;refine key _ (λh1 h2=>?_) (λh1=>?_)
 ·clear key q
  go_enter func30,ntmps30
  go_upto_region 3 with(fail)
  generalize (w.alloc (.cells AA 26)).alloc (.cells aD 26)=w1 at*
  go_wp2_with (refine wpList_load_row rfl 26 (.tmp 4) rfl w.heap.size rfl 26 AA (0,0) da hb1 dE (by cases da<;>first|rfl|exact absurd bq (by simp[ak])) aI ?_)
  refine Calls.mono (Hid.out (E1 w1)) ?_;rintro x w3 ⟨rfl,K3⟩;have hr3:=K3.at_ hr1 (λx=>x);have KF:Kp (λ_=>False) w (w3.setRow (w.heap.size+1) RA):=(K1.trans K3).setRow (λx=>by omega) _;clear K1 K3 hr1 E1 hb1
  go_wp2_with (refine wpList_store_row rfl 26 (.tmp 6) (.tmp 27) rfl (w.heap.size+1) RA rfl rfl 26 aD hr3 rI (by rw[rS];rfl) rO ?_)
  refine bodyPost_ret (aq rfl _ _ (w.heap.size+1) 26 RA (0,0) da rfl (setRow_heap _ _ _ _ _ _ hr3) dE bq rI) rfl ?_;exact⟨rfl,KF⟩
 clear key q
 go_enter func30,ntmps30
 go_upto_region 3 with(fail)
 generalize (w.alloc (.cells AA 26)).alloc (.cells aD 26)=w1 at*
 go_wp2_with (refine wpList_load_row rfl 26 (.tmp 4) rfl w.heap.size rfl 26 AA (0,0) da hb1 dE (by cases da<;>first|rfl|exact absurd bq (by simp[ak])) aI ?_)
 refine Calls.mono (Hid.out (E1 w1)) ?_;rintro x w3 ⟨rfl,K3⟩;have hr3:=K3.at_ hr1 (λx=>x);have KF:Kp (λ_=>False) w (w3.setRow (w.heap.size+1) RA):=(K1.trans K3).setRow (λx=>by omega) _;clear K1 K3 hr1 E1 hb1
 go_wp2_with (refine wpList_store_row rfl 26 (.tmp 6) (.tmp 27) rfl (w.heap.size+1) RA rfl rfl 26 aD hr3 rI (by rw[rS];rfl) rO ?_)
 refine bodyPost_ret (aq rfl _ _ (w.heap.size+1) 26 RA (0,0) da rfl (setRow_heap _ _ _ _ _ _ hr3) dE bq rI) rfl ?_;exact⟨rfl,KF⟩
end
namespace Ch
theorem BE(b:Int)(h1:0<=b)(h2:b<256):af (strOfNums [b]) 0=b:=by
 have hs:(strOfNums [b]).size=1:=strOfNums_size [b];unfold af;rw[dif_pos (by omega)];have e:(strOfNums [b])[0]'(by omega)=UInt8.ofNat b.toNat:=rfl;rw[e];simp;omega
end Ch
section
variable {w:World} {b:Nat} {a:As}
theorem jQ.fz(h:jQ w b a)(i:Nat):w.frozen? ⟨b,i,none⟩=false:=by unfold jQ at h;simp[World.frozen?,h]
theorem jQ.set0(h:jQ w b a)(v:ByteArray):jQ (w.setCell ⟨b,0,none⟩ (.string v)) b {a with act:=v}:=by
 unfold jQ at*;rw[heap_setCell_same _ _ _ _ _ _ h];rfl
end
section
variable {w:World} {b:Nat} {s:J3}
theorem Dv.fz(h:Dv w b s)(i:Nat):w.frozen? ⟨b,i,none⟩=false:=by unfold Dv at h;simp[World.frozen?,h]
theorem Dv.set0(h:Dv w b s)(v:Bool):Dv (w.setCell ⟨b,0,none⟩ (.bool v)) b ⟨v,s.b,s.c⟩:=by unfold Dv at*;rw[heap_setCell_same _ _ _ _ _ _ h];rfl
end
namespace Ch
theorem NI{ol:Ol}{m:Ma}(h:busy ol m=false):∀n,rounds ol n m=m:=by
 intro n
 cases n with
 |zero=>rfl
 |succ n=>simp only[rounds];rw[h];rfl
theorem NJ{ol:Ol}{s:Sd}{trg:Int}(hno:∀x∈ol.bG,x.kr≠trg):∀(f k:Nat),findF ol s trg f k []=[]:=by
 have hin:∀st,gQ ol s st trg= -2:=by
  intro st;unfold gQ
  have:∀(l:List Tr) (k:Nat),(∀x∈l,x.kr≠trg)->dU s st trg l k= -2:=by
   intro l
   induction l with
   |nil=>intro k _;rfl
   |cons x l ih=>?_
   intro k h;simp only[dU];have hx:=h x (by simp)
   have:nB s st trg x=false:=by
    unfold nB
    have:(x.kr==trg)=false:=by simpa using hx
    rw[this];simp
   rw[this];simp only[Bool.false_eq_true,if_false];exact ih (k+1) (λy hy=>h y (by simp[hy]))
  exact this ol.bG 0 hno
 have hfr:∀(f:Nat) (i:Int),bN ol s trg f i= -2:=by
  intro f
  induction f with
  |zero=>intro i;rfl
  |succ f ih=>?_
  intro i;simp only[bN]
  split
  ·rfl
  rw[hin];simp only[bne_self_eq_false,Bool.false_eq_true,if_false];exact ih _
 intro f
 induction f with
 |zero=>intro k;rfl
 |succ f ih=>?_
 intro k;simp only[findF]
 have:dw ol s trg [] k=[]:=by
  unfold dw cr;rw[hfr];simp
 rw[this];exact ih (k+1)
theorem NK{ol:Ol}(hO:Ah ol){s:Sd}(hI:Inv ol s)(hS:ZY ol s){ev:Int}(hno:∀x∈ol.bG,x.kr≠ev):aQ ol s ev=(s,strOfNums [],0):=by
 have hc:choose ol s ev=[]:=by unfold choose find;rw[NJ hno];rfl
 have hb:busy ol ⟨s,[],[]⟩=false:=by unfold busy;rw[show choose ol s 46=[]from hS];rfl
 unfold aQ;rw[hc,Er hO (m:=⟨s,[],[]⟩) hI];unfold finish;rw[NI hb,hb];rfl
section
variable {t:ByteArray} {ol:Ol}
theorem yY(hR:qw t ol):(∃s o,jf t=(aH ol.ag s,o,0)/\Good ol s)\/∃o,jf t=(dX,o,9):=by
 unfold jf;rw[hR.rd];simp only[bne_self_eq_false,Bool.false_eq_true,if_false]
 rcases ly ol with e|e
 ·left
  refine⟨(mstart ol).1,(mstart ol).2.1,?_,rH hR e⟩;rw[e];rfl
 right
 refine⟨⟨#[]⟩,?_⟩;rw[e];rfl
theorem mZ(hR:qw t ol){s:Sd}(g:Good ol s){b:Int}(h0:0<=b)(h1:b<256):((∃s' o,goes 17 t (aH ol.ag s) b=(aH ol.ag s',o,0)/\Good ol s')\/∃o,goes 17 t (aH ol.ag s) b=(dX,o,9))/\
 (cI (read t).2.2 17 (tick (mj t (aH ol.ag s))) []).isSome=true:=by
 obtain⟨e1,e2⟩:=g.lg hR;have hw:=yv e1;refine⟨?_,hw⟩;unfold goes
 split
 ·rename_i q
  unfold mz;rw[e1,e2,hR.rd,BE b h0 h1,q];rw[show decide ((strOfNums [b]).size=1)=true from by rw[strOfNums_size];rfl];simp only[bne_self_eq_false,Bool.false_eq_true,if_false,Bool.and_self,if_true]
  rcases qA ol s b with e|e
  ·left
   refine⟨(aQ ol s b).1,(aQ ol s b).2.1,?_,mX hR g e⟩;rw[e];rfl
  right
  refine⟨⟨#[]⟩,?_⟩;rw[e];rfl
 left
 unfold gV;rw[e1];rw[hR.rd]at hw;rw[e2]at hw⊢;rw[hR.rd];simp only[bne_self_eq_false,Bool.false_eq_true,if_false];obtain⟨r,hr⟩:=Option.isSome_iff_exists.1 hw;simp only at hr;rw[hr];exact⟨r.1,r.2,rfl,uH hR 17 g.mid hr⟩
theorem SW(hR:qw t ol){s:Sd}(g:Good ol s){b:Int}(hb:bR b=true)(h0:0<=b)(h1:b<256)(hno:∀x∈ol.bG,x.kr≠b):mz t (aH ol.ag s) (strOfNums [b])=(aH ol.ag s,⟨#[]⟩,0):=by
 obtain⟨e1,e2⟩:=g.lg hR;unfold mz;rw[e1,e2,hR.rd,BE b h0 h1,hb,NK hR.iP g.inv g.stb hno];rw[show decide ((strOfNums [b]).size=1)=true from by rw[strOfNums_size];rfl];rfl
end
theorem Z0{n:Nat}(hn:n<=16){c:Int}(h:Vd n c){r:Nat}(hr:r<21):c≠101+(r:Int):=by
 unfold Vd at h;omega
end Ch
section
variable (w:World)
theorem WC{lv:Value}{n:Nat}(hI:qs w w.heap.size lv n)(hn:n<=maxLen)(ev:ByteArray)(hsz:ev.size<=140737488351232)(what:Int)(hw1: -9223372036854775808<=what)(hw2:what<=9223372036854775807):
 Calls prog 13 #[lv,.string ev,.int .i64 what] w λx w'=>x= .returned (.bool true)/\Below w.heap.size w w':=by
 obtain⟨da,dE,bq⟩:=fN;have E0:=hid (nO w hI hn);clear hI hn
 go_enter func13,ntmps13
 go_wp2_with fail
 refine hm E0 ?_;rintro x w1 ⟨L,P,pv,rfl,_,B1,hP,hW,hL⟩;obtain⟨ol,hR,Z1⟩:=qB hP hW hL;have HN:=hid (show∀r:Nat,r<21->∀x∈ol.bG,x.kr≠101+(r:Int)from λr hr x hx=>Z0 hP.len (Z1.bG x hx) hr);have HR:=hid hR;generalize strOfNums L=T at HR;clear E0 hP hW hL hR Z1;have E1:=hid (tE w1)
 go_wp2_with fail
 refine hm E1 ?_;rintro x w2 ⟨rfl,K2⟩;have B2:=B1.trans (aG K2 B1.size);clear E1 K2 B1;have E2:=jX w2 T
 rcases yY HR.out with⟨s0,o0,hs,hg⟩|⟨o0,hs⟩
 rotate_left
 ·rw[hs]at E2
  simp only at E2;replace E2:=hid E2;have rO:=bZ dX;have rI:=fA dX;have rS:(aN dX).size=6:=rfl;generalize aN dX=A0 at*
  go_wp2_with fail
  refine hm E2 ?_;rintro x w3 ⟨rfl,K3⟩;have hnew:=heap_alloc_new w3 (.cells aD 26);have K4:Kp (λ_=>False) w3 ((w3.alloc (.cells aD 26)).setRow w3.heap.size A0):=((Kp.refl _ _).alloc _).setRow (λx=>by omega) _;have B4:=B2.trans (aG (K3.trans K4) B2.size);clear E2 K3 K4
  go_wp2_with (refine wpList_store_row rfl 26 (.tmp 10) (.tmp 30) rfl w3.heap.size A0 rfl rfl 26 aD hnew rI (by rw[rS];rfl) rO ?_)
  go_ret;exact⟨rfl,B4⟩
 rw[hs]at E2;simp only at E2;replace E2:=hid E2;have HG:=hid hg;clear hs hg;have rO:=bZ (aH ol.ag s0);have rI:=fA (aH ol.ag s0);have rS:(aN (aH ol.ag s0)).size=6:=rfl;generalize hA0:aN (aH ol.ag s0)=A0 at*;have Z2:=hid hA0;clear hA0
 go_wp2_with fail
 refine hm E2 ?_;rintro x w3 ⟨rfl,K3⟩;have hnew:=heap_alloc_new w3 (.cells aD 26);have h4s:=setRow_heap (w3.alloc (.cells aD 26)) w3.heap.size aD A0 26 (0,0) hnew;have K4:Kp (λ_=>False) w3 ((w3.alloc (.cells aD 26)).setRow w3.heap.size A0):=((Kp.refl _ _).alloc _).setRow (λx=>by omega) _;have B4:=B2.trans (aG (K3.trans K4) B2.size)
 have hsb:w.heap.size<=w3.heap.size:=by have:=B2.size;have:=K3.size;omega
 clear E2 K3 K4 B2
 go_upto_region 8 with(refine wpList_store_row rfl 26 (.tmp 10) (.tmp 30) rfl w3.heap.size A0 rfl rfl 26 aD hnew rI (by rw[rS];rfl) rO ?_)
 generalize (w3.alloc (.cells aD 26)).setRow w3.heap.size A0=w4 at*;generalize w3.heap.size=sb at*;clear hnew rO rI rS;have E3:=hid (yx w4 what hw1 hw2 21 (by omega) (by omega));have hr:=Bt what (n:=21) (by omega);generalize Ev what 21=r at hr E3
 go_wp2_with fail
 refine hm E3 ?_;rintro x w5 ⟨rfl,rfl⟩;have hcv:=qq w5 (101+(r:Int));have hw8:IntKind.wrap .u8 (101+(r:Int))=101+(r:Int):=wrap_u8 (by omega) (by omega);have K5:Kp (λ_=>False) w5 (w5.alloc (.cells #[.int .u8 (101+(r:Int))] 5)):=(Kp.refl _ _).alloc _
 have Wn:jQ (w5.alloc (.cells #[.int .u8 (101+(r:Int))] 5)) sb (aH ol.ag s0):=by unfold jQ;rw[Z2.out];exact K5.at_ h4s (λx=>x)
 have B5:=B4.trans (aG K5 B4.size);clear E3 K5 h4s B4 Z2
 go_wp2_with fail
 generalize w5.alloc (.cells #[.int .u8 (101+(r:Int))] 5)=w6 at*
 have hbe:bR (101+(r:Int))=true:=by unfold bR;simp;omega
 have HE:=hid (ae hbe (HN.out r hr));clear hcv hw8 hbe HN
 have hr0:0<=101+(r:Int):=by omega
 have hr1:101+(r:Int)<256:=by omega
 generalize 101+(r:Int)=b at*;have HS:=hid Wn;clear Wn
 go_loopw [14] (λi wr=>∃(k:Nat) (s:Sd),i= .int .i64 k/\k<=ev.size+1/\Hid (Ch.Good ol s/\jQ wr sb (aH ol.ag s)/\Below w.heap.size w wr)) (λi _=>ev.size+1-(intOf i).toNat)
 case atStart=>exact⟨0,s0,rfl,Nat.zero_le _,hid ⟨HG.out,HS.out,B5⟩⟩
 case round=>
  obtain⟨k,s,rfl,hk,HH⟩:=hrel;clear HS HG B5;obtain⟨g,xK,BR⟩:=HH.out;clear HH
  by_cases hkl:k<=ev.size
  ·have hkl':(k:Int)<=(ev.size:Int):=by omega
   have E4:=mV wr T (aH ol.ag s) (strOfNums [b]) g.sm;rw[SW HR.out g HE.out.1 hr0 hr1 HE.out.2]at E4;simp only at E4;replace E4:=hid E4
   have ES:=λW=>hid (gH W (aH ol.ag s))
   have EG:=λ(W:World) (y:Int) (h0:0<=y) (h1:y<256)=>hid (wZ W 17 (by omega) T (aH ol.ag s) y g.sm (λ_ _=>(mZ HR.out g h0 h1).2))
   have hgo:=λ(y:Int) (h0:0<=y) (h1:y<256)=>(mZ HR.out g h0 h1).1
   have WD:=hid hgo;have HG:=hid g;clear hgo g;have rO:=bZ (aH ol.ag s);have rI:=fA (aH ol.ag s);have rS:(aN (aH ol.ag s)).size=6:=rfl;unfold jQ at xK;generalize hA:aN (aH ol.ag s)=A at*;have HA:=hid hA;clear hA
   go_wp2_with (refine wpList_load_row rfl 26 (.tmp 10) rfl sb rfl 26 A (0,0) da xK dE (by cases da<;>first|rfl|exact absurd bq (by simp[ak])) rI ?_)
   refine hm E4 ?_;rintro x w7 ⟨rfl,K7⟩;have vC:=K7.at_ xK (λx=>x);have hlt:=lt_of_block vC;have hnew:=heap_alloc_new w7 (.cells aD 26);have Ve:=setRow_heap (w7.alloc (.cells aD 26)) w7.heap.size aD A 26 (0,0) hnew;have K8:Kp (λ_=>False) w7 ((w7.alloc (.cells aD 26)).setRow w7.heap.size A):=((Kp.refl _ _).alloc _).setRow (λx=>by omega) _;have WE:=K8.at_ vC (λx=>x);have B8:=BR.trans (aG (K7.trans K8) BR.size);clear E4 K7 K8 xK vC BR
   go_upto_region 13 with(refine wpList_store_row rfl 26 (.tmp 15) (.tmp 54) rfl w7.heap.size A rfl rfl 26 aD hnew rI (by rw[rS];rfl) rO ?_)
   have hne:w7.heap.size≠sb:=by omega
   have htb:w.heap.size<=w7.heap.size:=by omega
   generalize (w7.alloc (.cells aD 26)).setRow w7.heap.size A=w8 at*;generalize w7.heap.size=tb at*;clear hnew
   go_wp2_with (first|refine wpList_load_row rfl 26 (.tmp 10) rfl sb rfl 26 A (0,0) da WE dE (by cases da<;>first|rfl|exact absurd bq (by simp[ak])) rI ?_|refine wpList_load_row rfl 26 (.tmp 15) rfl tb rfl 26 A (0,0) da Ve dE (by cases da<;>first|rfl|exact absurd bq (by simp[ak])) rI ?_)
   refine Calls.mono (Hid.out (ES _)) ?_;rintro x w9 ⟨rfl,K9⟩;have Ez:=K9.at_ WE (λx=>x);have SX:=K9.at_ Ve (λx=>x);have B9:=B8.trans (aG K9 B8.size);clear ES K9 WE Ve B8
   by_cases WG:k<ev.size
   ·have abA:(k:Int)<(ev.size:Int):=by omega
    have hy0:(0:Int)<=(((ev[k]'WG).toNat:Nat):Int):=by omega
    have hy1:(((ev[k]'WG).toNat:Nat):Int)<256:=by have:=(ev[k]'WG).toNat_lt;omega
    have Mt:=EG w9.drew _ hy0 hy1;have Z3:=hid (WD.out _ hy0 hy1);clear EG WD
    go_upto_region 17 with(fail)
    generalize hb:(((ev[k]'WG).toNat:Nat):Int)=y at*
    have hS0:w9.drew.heap[sb]? =some (.cells A 26 (0,0))/\w9.drew.heap[tb]? =some (.cells A 26 (0,0)):=⟨Ez,SX⟩
    refine az (λw'=>w'.heap[sb]? =some (.cells A 26 (0,0))/\∃X,w'.heap[tb]? =some (.cells X 26 (0,0))/\X.size=6) (by kernel_rfl) ?_
    have hS1:w9.drew.heap[sb]? =some (.cells A 26 (0,0))/\∃X,w9.drew.heap[tb]? =some (.cells X 26 (0,0))/\X.size=6:=⟨hS0.1,A,hS0.2,rS⟩
    refine aU 0 75 (.string T) hS1 ?_;refine dM 1 76 (.agg A) rfl (λw' hS=>bu 26 (.tmp 10) rfl sb rfl 26 A (0,0) da hS.1 dE (by cases da<;>first|rfl|exact absurd bq (by simp[ak])) rI) hS1 ?_;refine aU 2 77 (.string ev) hS1 ?_;refine aU 3 78 (.int .i64 (k:Int)) hS1 ?_;refine dM 4 79 (.int .u8 y) rfl (λw' _=>by simp[execOp,Act.eval,go_sem,abA,hb]) hS1 ?_;generalize hgr:Ch.goes 17 T (aH ol.ag s) y=r3 at Mt Z3;obtain⟨ra,ro,re⟩:=r3;simp only at Mt;have qO:=bZ ra;have qI:=fA ra;have qS:(aN ra).size=6:=rfl;generalize rJ:aN ra=RA at*;have Da:=hid rJ;clear rJ hgr;refine jD 5 ?_;refine bS (some 80) rfl 30 #[.string T,.agg A,.int .u8 y] (by simp[execOp,Act.eval,go_sem]) _ (λw'=>Kp (λ_=>False) w9.drew w') Mt.out ?_;intro pe tF;have SY:=tF.at_ hS0.1 (λx=>x);have SZ:=tF.at_ hS0.2 (λx=>x)
    have hS2:pe.heap[sb]? =some (.cells A 26 (0,0))/\∃X,pe.heap[tb]? =some (.cells X 26 (0,0))/\X.size=6:=⟨SY,A,SZ,rS⟩
    refine⟨hS2,?_⟩;simp only[Act.put,pA,pB,pC];refine aU 6 74 (.tuple #[.agg RA,.string ro,.int .i64 re]) hS2 ?_;refine aU 7 81 (.agg RA) hS2 ?_;refine aU 8 82 (.string ro) hS2 ?_;refine aU 9 83 (.int .i64 re) hS2 ?_;have Z4:(pe.setRow tb RA).heap[sb]? =some (.cells A 26 (0,0)):=(setRow_other _ _ _ _ hne.symm).trans SY;have afO:(pe.setRow tb RA).heap[tb]? =some (.cells RA 26 (0,0)):=setRow_heap _ _ _ _ _ _ SZ
    have yS:(pe.setRow tb RA).heap[sb]? =some (.cells A 26 (0,0))/\∃X,(pe.setRow tb RA).heap[tb]? =some (.cells X 26 (0,0))/\X.size=6:=⟨Z4,RA,afO,qS⟩
    refine bF 10 (by kernel_rfl) rfl rfl 26 (.tmp 15) (.tmp 81) rfl rfl tb RA (by simp[Act.eval]) (by simp[Act.eval]) 26 A SZ qI (by rw[rS,qS]) qO yS ?_;refine aU 11 17 (.int .i64 re) yS ?_;refine wpAnyH_done (by kernel_rfl) (NoPanic.normal ?_) _;have B10:=B9.trans (aG (((Kp.refl (λ_=>False) w9).drew).trans tF) B9.size);have B11:=B10.trans (((Kp.refl (λk=>k=tb) pe).setRow (λ_=>rfl) RA).below B10.size (λi x=>by omega));have B12:Below w.heap.size w ((pe.setRow tb RA).setRow sb RA):=B11.trans (((Kp.refl (λk=>k=sb) (pe.setRow tb RA)).setRow (λ_=>rfl) RA).below B11.size (λi x=>by omega));have WH:((pe.setRow tb RA).setRow sb RA).heap[sb]? =some (.cells RA 26 (0,0)):=setRow_heap _ _ _ _ _ _ Z4;generalize pe.setRow tb RA=JJ at*;clear tF SY SZ hS0 hS1 hS2 yS Mt Ez SX B9 B10
    rcases Z3.out with⟨s',o',hgo,hg'⟩|⟨o',hgo⟩
    ·simp only[Prod.mk.injEq]at hgo
     obtain⟨rfl,rfl,rfl⟩:=hgo;have HG':=hid hg';clear hg'
     go_wp2_with (first|refine wpList_load_row rfl 26 (.tmp 15) rfl tb rfl 26 RA (0,0) da afO dE (by cases da<;>first|rfl|exact absurd bq (by simp[ak])) qI ?_|refine wpList_store_row rfl 26 (.tmp 10) (.tmp 86) rfl sb RA rfl rfl 26 A Z4 qI (by rw[rS,qS]) qO ?_)
     go_roundw
     case rel=>exact⟨k+1,s',by go_num,by omega,hid ⟨HG'.out,by unfold jQ;rw[Da.out];exact WH,B12⟩⟩
     case measure=>simp[intOf];omega
    simp only[Prod.mk.injEq]at hgo;obtain⟨rfl,rfl,rfl⟩:=hgo
    go_wp2_with fail
    go_roundw
    case rel=>exact⟨k+1,s,by go_num,by omega,hid ⟨HG.out,by unfold jQ;rw[HA.out];exact Z4,B11⟩⟩
    case measure=>simp[intOf];omega
   have abA:¬(k:Int)<(ev.size:Int):=by omega
   clear EG WD
   go_wp2_with fail
   go_roundw
   case rel=>exact⟨k+1,s,by go_num,by omega,hid ⟨HG.out,by unfold jQ;rw[HA.out];exact Ez,B9⟩⟩
   case measure=>simp[intOf];omega
  have hkl':¬(k:Int)<=(ev.size:Int):=by omega
  go_wp2;go_ret;exact⟨rfl,BR⟩
end
end Go.Proofs.YtnlbchmfcebeeaaGreat
