import Derived.Test.YtnlbchmfcebeeaaGreatTE7
import Derived.Lib.AppendStr
import Derived.Test.YtnlbchmfcebeeaaGreatRows
import Derived.ProofKit
import Derived.OpenShut
import Derived.ShutString
import Derived.ChangeOld
import Derived.Below
import Derived.Deep.Slices
set_option maxHeartbeats 12800000
set_option maxRecDepth 100000
namespace Go.Proofs.YtnlbchmfcebeeaaGreat
open Go.Proofs.Tryz Ch
open Go.RowKit
open Value(int slice bool pointer string agg tuple)
open IntKind(i64)
open Obj(cells)
open Ending(returned)
open Operand(tmp)
open Or(inl inr)
namespace Ch
theorem rounds_succ ol n m:rounds ol (n+1) m=if busy ol m then rounds ol n (round ol m)else m:=rfl
theorem Im{ol m}(h:busy ol m=false):∀n,rounds ol n m=m:=by
 intro n;cases n with
 |zero=>rfl
 |succ n=>grind[rounds_succ]
end Ch
theorem BM w B mb ob po ol m(n:Nat)(hn:n<=30)(hp:Pl w ob po ol)(aa:ol.Ok)(hm:Mm w B mb ob po m)(hs:m.s.Ok)(hB:B<=w.heap.size)(hz:m.Sz 500000000):
 Calls prog 72 #[pointer (some ⟨mb,0,none⟩),int i64 n] w λx w'=>
  x=returned (tuple #[agg (aN (Ch.finish ol n m).1).toArray,string (Ch.finish ol n m).2.1,int i64 (Ch.finish ol n m).2.2])/\Kp (km B mb w) w w':=by
 have⟨ds,hds,iT⟩:=g7;have aI:=ak w (cells cB 95);have K1:=kG w (cells cB 95);have ab:=hm.still K1;have ao:=hp.aB K1 (λ_ _ _ _ _ x=>x);have a1:=hm.lt;go_in;go_wp;generalize w.alloc (cells cB 95)=w1 at*;generalize a5:w.heap.size=I at*;go_loopw [7] (λi wr=>∃(k:Nat) (D:Ma),i= int i64 k/\k<=n/\Hid (Ch.rounds ol n m=Ch.rounds ol (n-k) D)/\Mm wr B mb ob po D/\D.s.Ok/\D.Sz (500000000+3900000*k)/\Kp (km B mb w1) w1 wr) (λi _=>n-(intOf i).toNat)
 case atStart=>exact⟨0,m,rfl,aA _,ag rfl,ab,hs,hz,Kp.refl _ _⟩
 case round=>
  obtain⟨k,D,rfl,hk,HE,J,F,am,Z⟩:=hrel;have Q:=ab.pl Z ao;have R:=ab.at_ Z aI aV aV;have a2:B<=wr.heap.size:=by have:=Z.size;have:=K1.size;omega
  have E1:=ag (Ij wr B mb ob po ol D Q aa J F);have HX:=fM J Q R Z;by_cases a4:k<n
  ·have a0:(k:Int)<(n:Int):=oQ;have ef:n-k=(n-(k+1))+1:=oQ;cases q:Ch.busy ol D with
   |true=>
    rw[q]at E1;have HF:=ag (HE.out.trans (show _=Ch.rounds ol (n-(k+1)) (Ch.round ol D)by rw[ef,Ch.rounds_succ,q];rfl));have aO:=Ig (ol:=ol) F;have aS:=Ih aa am;go_wp;refine b9 E1 ?_;intro w2 Y;have⟨J,Q,R,Z⟩:=HX.out;have M2:=J.still Y;have aj:=Q.aB Y (λ_ _ _ _ _ x=>x);have E2:=ag (Pp w2 B mb ob po ol D aj aa M2 F (by have:=Y.size;omega) (am.le oQ));have K3:=Km.trans Z (Kp.km Y);go_wp21;refine fu E2 ?_;rintro x G ⟨rfl,M3,K4⟩;have K5:=Km.trans K3 K4;go_wp2;exact⟨⟨k+1,_,eb,oQ,HF,M3,aO,aS.le oQ,K5⟩,ew⟩
   |false=>?_
   rw[q]at E1;have HF:=ag (show Ch.finish ol n m=(D.s,strOfNums D.out,0)by
    have e:=HE.out.trans (Im q _);unfold Ch.finish;rw[e,q];rfl)
   go_wp;refine b9 E1 ?_;intro w2 Y;have⟨J,Q,R,Z⟩:=HX.out;have M2:=J.still Y;have aj:=Q.aB Y (λ_ _ _ _ _ x=>x);have X:=Y.at_ R (λx=>x);have E2:=ag (Ij w2 B mb ob po ol D aj aa M2 F);rw[q]at E2;have K3:=Km.trans Z (Kp.km Y);have HY:=c_ M2 X K3;go_wp21;refine fu E2 ?_;rintro x G ⟨rfl,K4⟩;have⟨M2,X,K3⟩:=HY.out;have M3:=M2.still K4;have O:=K4.at_ X (λx=>x);have K5:=Km.trans K3 (Kp.km K4);have⟨qv,ov,hmb,oq,oo,ap⟩:=id M3;go_upto_region 7 with fail;refine aY (λw'=>j4 w' mb ob po D.s qv ov/\dW w' B ov (aF D.out)) bZ ?_;have E:j4 G.drew mb ob po D.s qv ov/\dW G.drew B ov (aF D.out):=⟨hmb,oo⟩
   have Pn:(prog.info? 95).map (·.size)=some (aN D.s).length:=by rw[dp F.1];exact dh
   have ad:mb≠I:=by
    intro e;have h1:G.heap[mb]? =some (cells _ 149 (0,0)):=hmb;rw[e,O]at h1;simp at h1
   have U:j4 (G.drew.setRow I (aN D.s).toArray) mb ob po D.s qv ov/\dW (G.drew.setRow I (aN D.s).toArray) B ov (aF D.out):=by
    have n1:=oo.ne O aV;have KR:Kp _ _ (G.drew.setRow I (aN D.s).toArray):=Kp.setRow (S:=λk=>k=I) (Kp.refl _ _) (g:=I) (λ_=>rfl) _;exact⟨fq.aB (w:=G.drew) hmb KR ad,dW.aB (w:=G.drew) oo KR (λi hi x=>by subst x;exact n1 hi)⟩
   have KF:Kp _ _ (G.drew.setRow I (aN D.s).toArray):=((Km.trans (Kp.km K1) K5).drewN 1).setRow (λx=>oQ) _;refine iU 0 22 (pointer (some ⟨mb,0,none⟩)) rfl (λw' _=>by rfl) E ?_;refine iU 1 23 (pointer (some ⟨mb,0,none⟩)) rfl sr E ?_;refine iU 2 24 (pointer (some ⟨mb,1,none⟩)) rfl sr E ?_;refine iU 3 25 (agg (aN D.s).toArray) rfl (λw' hS=>eT 95 (tmp 24) rfl mb 1 rM (aN D.s) ds hS.1.stand hds iT Pn) E ?_;refine iU 4 26 (pointer (some ⟨mb,0,none⟩)) rfl sr E ?_;refine iU 5 27 (pointer (some ⟨mb,0,none⟩)) rfl sr E ?_;refine iU 6 28 (pointer (some ⟨mb,38,none⟩)) rfl sr E ?_;refine tk 7 29 ov rfl bZ rfl rfl (λw' hS=>by have c:=hS.1.out F.1;simp[execOp,Act.eval,Act.put,go_sem,c]) E ?_;refine iU 8 30 (string (strOfNums D.out)) rfl (λw' hS=>pY 47 9 (tmp 29) rfl ov _ rM (mL hS.2)) E ?_;refine cQ 9 bZ rfl rfl 95 (tmp 4) (tmp 25) rfl rfl I (aN D.s).toArray rM rM 95 cB (by exact O) (iD F.1) (by rw[jc F.1];rfl) (mK _) U ?_;refine iU 10 5 (string (strOfNums D.out)) rfl sr U ?_;refine iU 11 6 (int i64 0) rfl (λw' _=>by rfl) U ?_;refine bG bZ (bH ?_) _;simp only[Act.put,pA,pB,pC];go_wp2;refine aJ (az rfl _ _ I 95 (aN D.s).toArray (0,0) ds rfl (an G.drew _ _ _ _ _ (by exact O)) hds iT (iD F.1)) rfl ?_;rw[HF.out];exact⟨rfl,KF⟩
  have a3:¬(k:Int)<(n:Int):=oQ;have ek:n-k=0:=oQ;cases q:Ch.busy ol D with
  |true=>
   rw[q]at E1;have HF:=ag (show Ch.finish ol n m=(l8,ByteArray.empty,9)by
    have e:Ch.rounds ol n m=D:=HE.out.trans (by rw[ek];rfl);unfold Ch.finish;rw[e,q];rfl)
   go_wp;refine b9 E1 ?_;intro w2 Y;have⟨J,Q,R,Z⟩:=HX.out;have X:=Y.at_ R (λx=>x);have K3:=Km.trans (Kp.km K1) (Km.trans Z (Kp.km Y));have KF:Kp _ _ (w2.setRow I cB):=K3.setRow (λx=>oQ) _;go_wp2_with (refine bJ cB X dh rfl xu ?_);refine aJ (az rfl _ _ I 95 cB (0,0) ds rfl (an _ _ _ _ _ _ X) hds iT dh) rfl ?_;rw[HF.out];exact⟨rfl,KF⟩
  |false=>?_
  rw[q]at E1;have HF:=ag (show Ch.finish ol n m=(D.s,strOfNums D.out,0)by
   have e:Ch.rounds ol n m=D:=HE.out.trans (by rw[ek];rfl);unfold Ch.finish;rw[e,q];rfl)
  go_wp;refine b9 E1 ?_;intro G K4;have⟨J,Q,R,Z⟩:=HX.out;have M3:=J.still K4;have O:=K4.at_ R (λx=>x);have K5:=Km.trans Z (Kp.km K4);have⟨qv,ov,hmb,oq,oo,ap⟩:=id M3;go_upto_region 7 with fail;refine aY (λw'=>j4 w' mb ob po D.s qv ov/\dW w' B ov (aF D.out)) bZ ?_;have E:j4 G.drew mb ob po D.s qv ov/\dW G.drew B ov (aF D.out):=⟨hmb,oo⟩
  have Pn:(prog.info? 95).map (·.size)=some (aN D.s).length:=by rw[dp F.1];exact dh
  have ad:mb≠I:=by
   intro e;have h1:G.heap[mb]? =some (cells _ 149 (0,0)):=hmb;rw[e,O]at h1;simp at h1
  have U:j4 (G.drew.setRow I (aN D.s).toArray) mb ob po D.s qv ov/\dW (G.drew.setRow I (aN D.s).toArray) B ov (aF D.out):=by
   have n1:=oo.ne O aV;have KR:Kp _ _ (G.drew.setRow I (aN D.s).toArray):=Kp.setRow (S:=λk=>k=I) (Kp.refl _ _) (g:=I) (λ_=>rfl) _;exact⟨fq.aB (w:=G.drew) hmb KR ad,dW.aB (w:=G.drew) oo KR (λi hi x=>by subst x;exact n1 hi)⟩
  have KF:Kp _ _ (G.drew.setRow I (aN D.s).toArray):=((Km.trans (Kp.km K1) K5).drewN 1).setRow (λx=>oQ) _;refine iU 0 22 (pointer (some ⟨mb,0,none⟩)) rfl (λw' _=>by rfl) E ?_;refine iU 1 23 (pointer (some ⟨mb,0,none⟩)) rfl sr E ?_;refine iU 2 24 (pointer (some ⟨mb,1,none⟩)) rfl sr E ?_;refine iU 3 25 (agg (aN D.s).toArray) rfl (λw' hS=>eT 95 (tmp 24) rfl mb 1 rM (aN D.s) ds hS.1.stand hds iT Pn) E ?_;refine iU 4 26 (pointer (some ⟨mb,0,none⟩)) rfl sr E ?_;refine iU 5 27 (pointer (some ⟨mb,0,none⟩)) rfl sr E ?_;refine iU 6 28 (pointer (some ⟨mb,38,none⟩)) rfl sr E ?_;refine tk 7 29 ov rfl bZ rfl rfl (λw' hS=>by have c:=hS.1.out F.1;simp[execOp,Act.eval,Act.put,go_sem,c]) E ?_;refine iU 8 30 (string (strOfNums D.out)) rfl (λw' hS=>pY 47 9 (tmp 29) rfl ov _ rM (mL hS.2)) E ?_;refine cQ 9 bZ rfl rfl 95 (tmp 4) (tmp 25) rfl rfl I (aN D.s).toArray rM rM 95 cB (by exact O) (iD F.1) (by rw[jc F.1];rfl) (mK _) U ?_;refine iU 10 5 (string (strOfNums D.out)) rfl sr U ?_;refine iU 11 6 (int i64 0) rfl (λw' _=>by rfl) U ?_;refine bG bZ (bH ?_) _;simp only[Act.put,pA,pB,pC];go_wp2;refine aJ (az rfl _ _ I 95 (aN D.s).toArray (0,0) ds rfl (an G.drew _ _ _ _ _ (by exact O)) hds iT (iD F.1)) rfl ?_;rw[HF];exact⟨rfl,KF⟩
theorem FZ{B mb D w w'}(E:Kp bA D w)(k:Kp (km B mb w) w w')(hB:D.heap.size<=B)(hm:D.heap.size<=mb):Kp bA D w':=
 E.trans' k (λi hi x=>by rcases x with x|⟨x,_⟩<;>omega)
theorem Mm.new{w B mb D E s}(h:w.heap[mb]? =some (cells (RK (some ⟨D,E,none⟩) s) 149 (0,0))):Mm w B mb D E ⟨s,[],[]⟩:=
 ⟨slice none 0 0,slice none 0 0,j4.ofRow h,inl ⟨rfl,rfl⟩,inl ⟨rfl,rfl⟩,λi hi=>by simp[Value.ownBlock]at hi⟩
theorem V1 ol:Ae ol []:=by intro n D;simp at D
namespace Ch
theorem Pq{ol}:∀ n {m},m.s.Ok->(rounds ol n m).s.Ok:=by
 intro n;induction n with
 |zero=>intro m h;exact h
 |succ n D=>?_
 grind[rounds_succ,Ig]
theorem F0:l8.Ok:=⟨nH,by simp[l8],by simp[l8]⟩
theorem wC{ol m}(h:m.s.Ok)n:(finish ol n m).1.Ok:=by
 grind[finish,F0,Pq]
theorem Ea{ol m}(h:m.s.Ok)n:(finish ol n m).1.Wf:=(wC h n).1
end Ch
theorem BN w D E ol(hp:Pl w D E ol)(I:ol.Ok):
 Calls prog 43 #[pointer (some ⟨D,E,none⟩)] w λx w'=>
  x=returned (tuple #[agg (aN (cR ol).1).toArray,string (cR ol).2.1,int i64 (cR ol).2.2])/\Kp bA w w':=by
 have⟨ds,hds,iT⟩:=g7;have Q:=qV ol.ah;have fW:=uz ol.ah;have HB:=ag (BJ (some ⟨D,E,none⟩) (dL ol.ah) Q);have ap:=ak w (cells cB 95);have K1:=kG w (cells cB 95);have Z:=hp.aB K1 (λ_ _ _ _ _ x=>x);have E0:=ag (OW D E (w.alloc (cells cB 95)) ol.ah Z.str);have HU:=ag (show cR ol=Ch.finish ol 30 (Ch.enter ol ⟨dL ol.ah,[],[]⟩ [])from rfl);have mI:=Ik (some ⟨D,E,none⟩) Q;have mS:=BK (some ⟨D,E,none⟩) Q;have mO:=NM (some ⟨D,E,none⟩) (dL ol.ah);go_in;go_wp;refine b9 E0 ?_;intro R K2;have aa:=K2.at_ ap (λx=>x);have ao:=Z.aB K2 (λ_ _ _ _ _ x=>x);have KA:=K1.trans K2;have aO:=aR aa;have G:=ak R (cells Dn 149);have am:=an (R.alloc (cells Dn 149)) R.heap.size Dn (RK (some ⟨D,E,none⟩) (dL ol.ah)) 149 (0,0) G;have K3:=rQ R (cells Dn 149) (RK (some ⟨D,E,none⟩) (dL ol.ah));have U:=Mm.new (B:=w.heap.size) am;have F:=ao.aB K3 (λ_ _ _ _ _ x=>x);have J:=K3.at_ aa (λx=>x);have KB:=KA.trans K3;generalize (aN (dL ol.ah)).toArray=BL at*;generalize RK (some ⟨D,E,none⟩) (dL ol.ah)=MA at*;go_wp2_with (first|(refine fJ rfl 149 #[(0,.tmp 6),(1,.tmp 8)] rfl MA [(0,pointer (some ⟨D,E,none⟩)),(1,agg BL)] ?_ HB ?_;rfl)|refine bJ MA G mI (by rw[mS];rfl) mO ?_);generalize (R.alloc (cells Dn 149)).setRow R.heap.size MA=w3 at*;generalize R.heap.size=mb at*;have ad:=KB.size;have E1:=ag (D9 w3 w.heap.size mb D E ol ⟨dL ol.ah,[],[]⟩ (slice none 0 0) [] ⟨0,cd _ _ _ _⟩ (V1 ol) dy F I U fW ad ⟨dy,dy⟩);have X:=vA (ol:=ol) (m:=⟨dL ol.ah,[],[]⟩) fW [];have aI:=yk I (m:=⟨dL ol.ah,[],[]⟩) (n:=0) ⟨dy,dy⟩ [];have HX:=fM U F J KB;go_wp;refine b9 E1 ?_;rintro w4 ⟨M4,K4⟩;have⟨U,F,J,KB⟩:=HX;have A9:=U.pl K4 F;have O:=U.at_ K4 J aV aV;have KC:=FZ KB K4 (aC _) oQ;generalize aj:Ch.enter ol ⟨dL ol.ah,[],[]⟩ []=m4 at*;have ab:=ag aj;have E2:=ag (BM w4 w.heap.size mb D E ol m4 30 oQ A9 I M4 X KC.size (aI.le oQ));have HY:=c_ M4 O KC;go_wp21;refine fu E2 ?_;rintro x w5 ⟨rfl,K5⟩;have⟨M4,O,KC⟩:=HY;have lM:=M4.at_ K5 O aV aV;have KD:=FZ KC K5 (aC _) oQ;generalize hf:Ch.finish ol 30 m4=fr at*;have⟨fs,ft,fe⟩:=fr;have Y:fs.Wf:=by
  have:(Ch.finish ol 30 m4).1=fs:=by rw[hf]
  rw[<-this];exact Ea X _
 have HF:=ag hf;have fI:=iD Y;have fS:=jc Y;have fO:=mK fs;have KF:Kp _ _ (w5.setRow w.heap.size (aN fs).toArray):=KD.setRow (λx=>oQ) _;simp only;generalize Io:(aN fs).toArray=FA at*;have HA:=ag Io;go_wp2_with (refine bJ FA lM fI (by rw[fS];rfl) fO ?_);refine aJ (az rfl _ _ w.heap.size 95 FA (0,0) ds rfl (an _ _ _ _ _ _ lM) hds iT fI) rfl ?_;first|rw[HU,ab,HF,<-HA]|rw[HU,HF,<-HA]|rw[HU,<-HA]
 exact⟨rfl,by rw[HA];exact KF⟩
theorem zy w G I ol s ev(fW:s.Ok)(hp:Pl w G I ol)(D:ol.Ok):
 Calls prog 57 #[pointer (some ⟨G,I,none⟩),agg (aN s).toArray,int .u8 ev] w λx w'=>
  x=returned (tuple #[agg (aN (bY ol s ev).1).toArray,string (bY ol s ev).2.1,int i64 (bY ol s ev).2.2])/\Kp bA w w':=by
 have⟨ds,hds,iT⟩:=g7;have F:=fW.1;have HB:=ag (BJ (some ⟨G,I,none⟩) s F);have HU:=ag (show bY ol s ev=Ch.finish ol 29 (eh ol ⟨s,[],[]⟩ (Ch.choose ol s ev))from rfl);have mI:=Ik (some ⟨G,I,none⟩) F;have mS:=BK (some ⟨G,I,none⟩) F;have mO:=NM (some ⟨G,I,none⟩) s;have sI:=iD F;have ao:((w.alloc (cells (aN s).toArray 95)).alloc (cells cB 95)).heap[w.heap.size]? =some (cells (aN s).toArray 95):=by
  rw[cE _ _ _ dy];exact ak _ _
 have a0:((w.alloc (cells (aN s).toArray 95)).alloc (cells cB 95)).heap[w.heap.size+1]? =_:=jM w _ _;have K1:Kp bA w ((w.alloc (cells (aN s).toArray 95)).alloc (cells cB 95)):=((Kp.refl _ _).alloc _).alloc _;have a2:w.heap.size+1<((w.alloc (cells (aN s).toArray 95)).alloc (cells cB 95)).heap.size:=dy;have aS:=hp.aB K1 (λ_ _ _ _ _ x=>x);have⟨hin,h16⟩:=mP ol s ev;have wT:=D.ah;generalize Pr:(aN s).toArray=SA at*;generalize am:RK (some ⟨G,I,none⟩) s=MA at*;have aj:=ag am;go_in;go_upto_region 1 with fail;generalize (w.alloc (cells SA 95)).alloc (cells cB 95)=R at*;have O:=ak R (cells Dn 149);have aO:=an (R.alloc (cells Dn 149)) R.heap.size Dn MA 149 (0,0) O;have K3:=rQ R (cells Dn 149) MA;have Y:Mm _ w.heap.size _ _ _ _:=Mm.new (by rw[aj];exact aO);have E:=aS.aB K3 (λ_ _ _ _ _ x=>x);have J:=K3.at_ a0 (λx=>x);have KB:=K1.trans K3;have HX:=fM Y E J KB;go_wp2_with (first|refine gV ao hds iT sI ?_|(refine fJ rfl 149 #[(0,.tmp 11),(1,.tmp 12)] rfl MA [(0,pointer (some ⟨G,I,none⟩)),(1,agg SA)] ?_ HB ?_;rfl)|refine bJ MA O mI (by rw[mS];rfl) mO ?_);generalize (R.alloc (cells Dn 149)).setRow R.heap.size MA=w3 at*;generalize R.heap.size=mb at*;have⟨Y,E,J,KB⟩:=HX;have⟨qv,ov,hmm,_⟩:=id Y;have E0:=ag (qY w3 mb G I s qv ov ol ev hmm F E D);go_wp;refine fu E0 ?_;rintro x w4 ⟨v4,rfl,h4,K4⟩;have⟨Y,E,J,KB⟩:=HX;have Z:=Y.still K4;have A9:=E.aB K4 (λ_ _ _ _ _ x=>x);have Q:=K4.at_ J (λx=>x);have KC:=KB.trans K4;generalize ap:Ch.choose ol s ev=list at*;have ad:=ag ap;have E1:=ag (tD w4 w.heap.size mb G I ol ⟨s,[],[]⟩ v4 list h4 hin oQ A9 D Z fW KC.size ⟨dy,dy⟩);have aa:=vB (ol:=ol) (m:=⟨s,[],[]⟩) fW list;have a1:=tB D (m:=⟨s,[],[]⟩) (n:=0) ⟨dy,dy⟩ (list:=list) oQ;have HY:=fM Z A9 Q KC;go_wp21;refine fu E1 ?_;rintro x w5 ⟨rfl,M5,K5⟩;have⟨Z,A9,Q,KC⟩:=HY;have LC:=Z.pl K5 A9;have lM:=Z.at_ K5 Q aV aV;have KD:=FZ KC K5 (aC _) oQ;generalize aI:eh ol ⟨s,[],[]⟩ list=m4 at*;have X:=ag aI;have E2:=ag (BM w5 w.heap.size mb G I ol m4 29 oQ LC D M5 aa KD.size (a1.le oQ));have HZ:=c_ M5 lM KD;go_wp21;refine fu E2 ?_;rintro x w6 ⟨rfl,K6⟩;have⟨M5,lM,KD⟩:=HZ;have pe:=M5.at_ K6 lM aV aV;have KE:=FZ KD K6 (aC _) oQ;generalize hf:Ch.finish ol 29 m4=fr at*;have⟨fs,ft,fe⟩:=fr;have ab:fs.Wf:=by
  have:(Ch.finish ol 29 m4).1=fs:=by rw[hf]
  rw[<-this];exact Ea aa _
 have HF:=ag hf;have fI:=iD ab;have fS:=jc ab;have fO:=mK fs;have KF:Kp _ _ (w6.setRow (w.heap.size+1) (aN fs).toArray):=KE.setRow (λx=>oQ) _;simp only;generalize Io:(aN fs).toArray=FA at*;have U:=ag Io;go_wp2_with (refine bJ FA pe fI (by rw[fS];rfl) fO ?_);refine aJ (az rfl _ _ (w.heap.size+1) 95 FA (0,0) ds rfl (an _ _ _ _ _ _ pe) hds iT fI) rfl ?_;first|rw[HU,ad,X,HF,<-U]|rw[HU,X,HF,<-U]|rw[HU,HF,<-U]|rw[HU,<-U]
 exact⟨rfl,by rw[U];exact KF⟩
namespace Ch
def vC(t:ByteArray):List Int:=t.data.toList.map λb=>(b.toNat:Int)
theorem yo t:(vC t).length=t.size:=by simp[vC]
def eP(ol:Ol):Nat->Sd->List Int->Option (Sd×ByteArray)
 |0,_,_=>none
 |f+1,s,l=>if(cC s).2.1 then(if(bY ol (cC s).2.2 (cC s).1).2.2==0 then eP ol f (bY ol (cC s).2.2 (cC s).1).1 (l++vC (bY ol (cC s).2.2 (cC s).1).2.1)
  else eP ol f (cC s).2.2 l)else some ((cC s).2.2,strOfNums l)
theorem Eb{ol}(D:ol.Ok):∀ n {m} {k},m.Sz k->(rounds ol n m).Sz (k+3900000*n):=by
 intro n;induction n with
 |zero=>intro m k h;exact h
 |succ n E=>?_
 intro m k h;rw[rounds_succ];split
 ·exact(E (Ih D h)).le oQ
 exact h.le oQ
theorem wRs{ol}(D:ol.Ok):∀ n m,(rounds ol n m).out.length<=m.out.length+11520*n:=by
 intro n;induction n with
 |zero=>intro m;exact aC _
 |succ n E=>?_
 intro m;rw[rounds_succ];split
 ·have:=E (round ol m);have:=wRo D m;omega
 omega
theorem mq{ol}(D:ol.Ok)s ev:(bY ol s ev).2.1.size<=345600:=by
 have E:=wEh D ⟨s,[],[]⟩ (mQ D s ev);have F:=wRs D 29 (eh ol ⟨s,[],[]⟩ (choose ol s ev));unfold bY finish;split
 ·simp
 show(strOfNums _).size<=_;rw[dC];simp only[List.length_nil]at E;omega
theorem rh{ol s}(h:s.Ok)ev:(bY ol s ev).1.Ok:=wC (vB (m:=⟨s,[],[]⟩) h _) _
theorem F7 t:∀ f k j,mn t f k=some j->k<=j/\j+1<t.size:=by
 intro f;induction f with
 |zero=>grind[mn]
 |succ f D=>?_
 grind[mn]
theorem xw{s}(h:s.Ok):(cC s).2.2.Ok:=by
 unfold cC;split
 ·rename_i k hk;have⟨h0,h1,h2⟩:=h;refine⟨h0,h1,?_⟩;simp_all<;>omega
 omega
theorem SN t:∀ f k acc,acc.length<=k->k<=t.size->(vu t f k acc).length<=t.size:=by
 intro f;induction f with
 |zero=>grind[vu]
 |succ f D=>?_
 grind[vu]
theorem yp{s}(h:s.Ok):(tick s).Ok:=by
 have⟨h0,h1,h2⟩:=h;refine⟨h0,h1,?_⟩;show(strOfNums (vu s.tm s.tm.size 0 [])).size<=17;rw[dC];grind[SN]
end Ch
theorem Dy t:Go.Lib.strCells t=aF (vC t):=by
 simp[Go.Lib.strCells,aF,vC]
theorem fq.vD{w b s T}(h:fq w b [] s [] T):w.heap[b]? =some (cells (aN s).toArray T (0,0)):=by
 grind[fq,lE,aN]
theorem fq.vE{w b s T}(h:w.heap[b]? =some (cells (aN s).toArray T (0,0))):fq w b [] s [] T:=by
 unfold fq lE;simpa[aN]using h
theorem Ec w ob po ol s n r(hr:eP ol n (Ch.tick s) []=some r)(hn:n<=1000)(a2:∀k,k<s.tm.size->1<=af s.tm k)(fW:s.Ok)(hp:Pl w ob po ol)(ap:ol.Ok):
 Calls prog 77 #[pointer (some ⟨ob,po,none⟩),agg (aN s).toArray] w λx w'=>
  x=returned (tuple #[agg (aN r.1).toArray,string r.2])/\Kp bA w w':=by
 have⟨ds,hds,iT⟩:=g7;have⟨i0,hi,hz0,hz1,hz2⟩:=cr vq;have ad:=fW.1;have sI:=iD ad;have sS:=jc ad;have sO:=mK s;have aS:((w.alloc (cells (aN s).toArray 95)).alloc (cells cB 95)).heap[w.heap.size]? =some (cells (aN s).toArray 95):=by
  rw[cE _ _ _ dy];exact ak _ _
 have a4:((w.alloc (cells (aN s).toArray 95)).alloc (cells cB 95)).heap[w.heap.size+1]? =_:=jM w _ _;have K1:Kp bA w ((w.alloc (cells (aN s).toArray 95)).alloc (cells cB 95)):=((Kp.refl _ _).alloc _).alloc _;have ba:w.heap.size+1<((w.alloc (cells (aN s).toArray 95)).alloc (cells cB 95)).heap.size:=dy;have a3:=hp.aB K1 (λ_ _ _ _ _ x=>x);generalize Pr:(aN s).toArray=SA at*;have Vm:=ag Pr;have HR:=ag hr;go_in;go_upto_region 1 with fail;generalize (w.alloc (cells SA 95)).alloc (cells cB 95)=w2 at*;have D:=ak w2 (cells cB 95);have a0:=an (w2.alloc (cells cB 95)) w2.heap.size cB SA 95 (0,0) D;have K3:=rQ w2 (cells cB 95) SA;have oM:=fq.vE (by rw[Vm];exact a0);have J:=a3.aB K3 (λ_ _ _ _ _ x=>x);have Q:=K3.at_ a4 (λx=>x);have KB:=K1.trans K3;have HX:=fM oM J Q KB;go_wp2_with (first|refine gV aS hds iT sI ?_|refine bJ SA D sI (by rw[sS];rfl) sO ?_);generalize (w2.alloc (cells cB 95)).setRow w2.heap.size SA=w3 at*;generalize w2.heap.size=nb at*;have⟨oM,J,Q,KB⟩:=HX;have E0:=ag (Sp w3 nb 0 [] s [] 95 oM ad rfl (by have:=fW.2.2;omega) a2);go_wp;refine b9 E0 ?_;rintro w4 ⟨h4,K4⟩;have⟨oM,J,Q,KB⟩:=HX;have A9:=J.aB K4 (λi G T hi hT x=>by subst x;rw[fq.vD oM]at hi;simp at hi;obtain⟨_,rfl⟩:=hi;revert hT;unfold Vl oT;decide);have a5:=K4.at_ Q (λx=>oQ);have KC:=KB.trans' K4 (λi hi x=>oQ);have a8:=h4.lt;have ao:=yp fW;generalize Ch.tick s=s1 at*;have am:∀G T,w4.heap[nb]? =some (cells G T (0,0))->T=95:=by
  intro G T h;rw[fq.vD h4]at h;simp at h;exact h.2.symm
 go_wp21;go_loopg [7] n (λgk ov wr=>∃(s':Sd) (l:List Int),Hid (eP ol n s1 []=eP ol gk s' l)/\fq wr nb [] s' [] 95/\s'.Ok/\wr.ownsRow w4.heap.size 5 1 ov l.length (aF l)/\gk<=n/\l.length<=345600*(n-gk)/\Kp (λk=>k=nb) w4 wr)
 case atStart=>exact⟨s1,[],ag rfl,h4,ao,cd _ _ _ _,aC _,dy,Kp.refl _ _⟩
 case round=>
  have⟨s',l,HE,hn',hs',hfo,hgn,hll,KW⟩:=hrel;obtain⟨k,rfl⟩:∃k,gk=k+1:=by
   cases gk with
   |zero=>have:=HE.symm.trans HR;simp[eP]at this
   |succ k=>exact⟨k,rfl⟩
  have O:=A9.aB KW (λi G T hi hT x=>by subst x;have:=am _ _ hi;subst this;revert hT;unfold Vl oT;decide);have I:=KW.at_ a5 (λx=>oQ);have E1:=ag (Ht wr nb 0 [] s' [] 95 hn' hs'.1 rfl (by have:=hs'.2.2;omega));have E:=xw hs'
  have step:eP ol (k+1) s' l=if(cC s').2.1 then(if(bY ol (cC s').2.2 (cC s').1).2.2==0 then eP ol k (bY ol (cC s').2.2 (cC s').1).1 (l++vC (bY ol (cC s').2.2 (cC s').1).2.1)
   else eP ol k (cC s').2.2 l)else some ((cC s').2.2,strOfNums l):=rfl
  have HX:=fM O I KW hfo;have HN:=ag hn';generalize cC s'=td at*;have⟨ev,ok,s2⟩:=td;simp only at E step E1;cases ok with
  |false=>
   have HF:=ag (show r=(s2,strOfNums l)by
    have e:=HR.symm.trans (HE.trans step);simpa using e)
   go_wp;refine b9 E1 ?_;rintro F ⟨X,R⟩;have⟨O,I,KW,hfo⟩:=HX;have lM:=R.at_ I (λx=>oQ);have tF:=R.owns hfo (λi hi x=>by have:=(hfo.lt i hi).1;omega);have KD:=KW.trans R;have ab:=dW.ofRow tF (aC _);go_upto_region 6 with fail;have Pn:=iD E.1;have n1:=ab.ne lM aV;have a1:nb≠w.heap.size+1:=oQ;have Y:fq F.drew nb [] s2 [] 95/\dW F.drew w4.heap.size u7 (aF l):=⟨X,ab⟩
   have KR:Kp _ _ (F.drew.setRow (w.heap.size+1) (aN s2).toArray):=Kp.setRow (S:=λk=>k=w.heap.size+1) (Kp.refl _ _) (g:=w.heap.size+1) (λ_=>rfl) _;have aj:fq (F.drew.setRow (w.heap.size+1) (aN s2).toArray) nb [] s2 [] 95/\dW (F.drew.setRow (w.heap.size+1) (aN s2).toArray) w4.heap.size u7 (aF l):=
    ⟨fq.aB (w:=F.drew) X KR a1,dW.aB (w:=F.drew) ab KR (λi hi x=>by subst x;exact n1 hi)⟩
   have KF:Kp _ _ (F.drew.setRow (w.heap.size+1) (aN s2).toArray):=((KC.trans' KD (λi hi x=>oQ)).drewN 1).setRow (λx=>oQ) _;refine aY (λw'=>fq w' nb [] s2 [] 95/\dW w' w4.heap.size u7 (aF l)) bZ ?_;refine iU 0 21 (agg (aN s2).toArray) rfl (λw' hS=>dR 95 (tmp 6) rfl nb nQ 95 _ (0,0) ds hS.1.vD hds iT Pn) Y ?_;refine tk 1 22 u7 rfl bZ rfl rfl sr Y ?_;refine iU 2 23 (string (strOfNums l)) rfl (λw' hS=>pY 47 9 (tmp 22) rfl u7 _ rM (mL hS.2)) Y ?_;refine cQ 3 bZ rfl rfl 95 (tmp 4) (tmp 21) rfl rfl (w.heap.size+1) (aN s2).toArray rM rM 95 cB (by exact lM) Pn (by rw[jc E.1];rfl) (mK _) aj ?_;refine iU 4 5 (string (strOfNums l)) rfl sr aj ?_;refine bG bZ (bH ?_) _;simp only[Act.put,pA,pB,pC];go_wp2;refine kH (an F.drew _ _ _ _ _ (by exact lM)) hds iT Pn ?_;rw[HF];exact⟨rfl,KF⟩
  |true=>?_
  have sD:=rh (ol:=ol) E ev;have aO:=mq ap s2 ev;have sI:=iD E.1;simp only[aQ]at step;have HS:=ag (HE.trans step);go_wp;refine b9 E1 ?_;rintro F ⟨X,R⟩;have⟨O,I,KW,hfo⟩:=HX;have LC:Pl F ob po ol:=O.aB R (λi G T hi hT x=>by subst x;have h9:=am;have hb:=KW;exact(by
   have a6:=HN.out;rw[fq.vD a6]at hi;simp at hi;obtain⟨_,rfl⟩:=hi;revert hT;unfold Vl oT;decide))
  have lM:=R.at_ I (λx=>oQ);have tF:=R.owns hfo (λi hi x=>by have:=(hfo.lt i hi).1;omega);have KD:=KW.trans R;have uO:=fq.vD X;have E2:=ag (zy F ob po ol s2 ev E LC ap);have HY:=rP X LC lM tF KD;generalize a9:bY ol s2 ev=fr at*;have⟨fs,ft,fe⟩:=fr;simp only at sD aO HS E2;generalize (aN s2).toArray=SB at*;go_wp2_with (refine gV uO hds iT sI ?_);refine b9 E2 ?_;intro w6 K6;have⟨X,LC,lM,tF,KD⟩:=HY;have D:=ak w6 (cells cB 95);have fI:=iD sD.1;have fS:=jc sD.1;have fO:=mK fs;have SO:=an (w6.alloc (cells cB 95)) w6.heap.size cB (aN fs).toArray 95 (0,0) D;have K7:Kp _ _ ((w6.alloc (cells cB 95)).setRow w6.heap.size (aN fs).toArray):=(K6.alloc _).setRow (λx=>by have:=K6.size;omega) _;have h7:=fq.aB X K7 (λx=>x);have Z:=K7.owns tF (λ_ _ x=>x);have KE:=KD.trans' K7 (λi hi x=>x.elim);have Ps:=ag (show(aN fs).toArray=(aN fs).toArray from rfl);generalize Io:(aN fs).toArray=FA at*;have HA:=ag Io;cases q:fe==0 with
  |true=>
   have HF:=ag (show eP ol n s1 []=eP ol k fs (l++vC ft)by rw[HS,q];rfl);go_upto_region 8 with(refine bJ FA D fI (by rw[fS];rfl) fO ?_);generalize (w6.alloc (cells cB 95)).setRow w6.heap.size FA=w7 at*;have U:=fq.vD h7;have YK:=jc (s:=s2) E.1;have aI:=an w7 nb _ FA _ _ U;have K8:Kp _ _ (w7.setRow nb FA):=Kp.setRow (S:=λk=>k=nb) (Kp.refl _ _) (g:=nb) (λ_=>rfl) _;have h8:=fq.vE (by rw[HA];exact aI);have aa:=K8.owns Z (λi hi x=>by have:=(Z.lt i hi).1;omega);have KF:=KE.trans K8;generalize (aN s2).toArray=a7 at*;go_wp2_with (first|refine gV SO hds iT fI ?_|refine bJ FA U fI (by rw[fS,YK]) fO ?_|(at_builtin;refine Go.Lib.wpList_append_own_string _ rfl (tmp 35) (tmp 36) 47 9 rfl w4.heap.size 5 i0 underlying47 underlying9 hi hz0 hz1 hz2 u7 l.length (aF l) rfl aa ft rfl ?c1 ?c2 ?c3 ?_))
   case c1=>unfold maxLen;omega
   case c2=>omega
   case c3=>have:=KF.size;omega
   intro v9 w9 o9 g9 _;have K9:=KF.grown g9 (λi hi hlt=>by have:=(aa.lt i hi).1;omega);have h9:=fq.aB h8 ((Kp.refl (λi=>u7.ownBlock=some i) _).grown g9 (λi hi _=>hi)) (λx=>by have:=(aa.lt nb x).1;omega);go_wp2;go_roundg k
   case rel=>exact⟨fs,l++vC ft,HF,h9,sD,by rw[Dy]at o9;simpa[aF,yo]using o9,oQ,by rw[ix,yo,show n-k=(n-(k+1))+1 by omega];omega,K9⟩
   case measure=>omega
  |false=>?_
  have HF:=ag (show eP ol n s1 []=eP ol k s2 l by rw[HS,q];rfl);go_wp2_with (refine bJ FA D fI (by rw[fS];rfl) fO ?_);go_roundg k
  case rel=>exact⟨s2,l,HF,h7,E,Z,oQ,bz hll (Nat.mul_le_mul_left _ oQ),KE⟩
  case measure=>omega
namespace Ch
theorem Ed ol:(cR ol).1.Ok:=wC (vA (m:=⟨dL ol.ah,[],[]⟩) (uz ol.ah) []) _
structure As where
 act:ByteArray
 b_:ByteArray
 tm:ByteArray
 x:Int
 y:Int
 z:Int
def kJ:As:=⟨⟨#[]⟩,⟨#[]⟩,⟨#[]⟩,0,0,0⟩
def bX(ss:List St)(s:Sd):As:=⟨j1 ss s,jI ss s,s.tm,s.x,s.y,s.z⟩
def zA(t:ByteArray):As×ByteArray×Int:=
 if(read t).1 !=0 then(kJ,⟨#[]⟩,(read t).1)
 else if(cR (read t).2.2).2.2 !=0 then(kJ,⟨#[]⟩,(cR (read t).2.2).2.2)
 else(bX (read t).2.2.ah (cR (read t).2.2).1,(cR (read t).2.2).2.1,0)
end Ch
theorem eU{P o}{a:Act}{w}t parts(E:o.op= .build t parts)cells D(F:parts.toList.map (λp=>(p.1,a.eval p.2))=D)(hb:P.built t D=some cells):(execOp a.eval o).run P w= .ok (.value (agg cells)) w:=by
 have e:(parts.map λ(i,x)=>(i,a.eval x)).toList=D:=by rw[Array.toList_map];exact F
 unfold execOp;simp only[E,kQ,run_build w t _ cells (by rw[e];exact hb),kR,np]
def cM(a:As):Array Value:=#[string a.act,string a.b_,string a.tm,int i64 a.x,int i64 a.y,int i64 a.z]
theorem bF:(prog.info? 26).map (·.size)=some 6:=bZ
theorem kz:∃d,prog.underlying 26=some d/\ee d=true:=⟨_,underlying26,rfl⟩
theorem fK a:(cM a).all (λx=>x.oneCell')=true:=by
 apply gH.2;intro x D;simp only[cM,kP,dB,gJ,gK]at D;rcases D with rfl|rfl|rfl|rfl|rfl|rfl<;>rfl
theorem Bw.aw{w w' B o sv tv bv lt lb}(F:Bw w B o sv tv bv lt lb)(k:Kp bA w w'):Bw w' B o sv tv bv lt lb:=
 ⟨k.owns F.ah (λ_ _ x=>x),F.G8,k.owns F.dF (λ_ _ x=>x),λx hx=>k.owns (F.kZ x hx) (λ_ _ x=>x),F.Kj,k.owns F.fH (λ_ _ x=>x),λx hx=>k.owns (F.uo x hx) (λ_ _ x=>x)⟩
theorem Pl.ofRow{w D B ol e f sv tv bv lt lb}(h:w.heap[D]? =some (cells (wj e f sv tv bv) 87 (0,0)))(F:Bw w B ol sv tv bv lt lb):Pl w D 0 ol:=
 ⟨sv,tv,bv,lt,lb,B,_,_,⟨h,inl rfl,rfl,rfl,rfl⟩,F⟩
theorem LD w t:
 Calls prog 20 #[string t] w λx w'=>x=returned (tuple #[agg (cM (zA t).1),string (zA t).2.1,int i64 (zA t).2.2])/\Kp bA w w':=by
 have⟨ds,hds,iT⟩:=kz;have ad:=ak w (cells cG 26);have K1:=kG w (cells cG 26);have E0:=ag (vp t (w.alloc (cells cG 26)));have X:=ux t
 have HU:=ag (show zA t=if(Ch.read t).1 !=0 then(kJ,⟨#[]⟩,(Ch.read t).1)
  else if(cR (Ch.read t).2.2).2.2 !=0 then(kJ,⟨#[]⟩,(cR (Ch.read t).2.2).2.2)
  else(bX (Ch.read t).2.2.ah (cR (Ch.read t).2.2).1,(cR (Ch.read t).2.2).2.1,0)from rfl)
 go_in;go_wp;refine hm E0 ?_;rintro x O ⟨sv,tv,bv,lt,lb,rfl,F2,B2⟩;have K2:=s_ B2;have aj:=K2.at_ ad (λx=>x);have KA:=K1.trans K2;generalize ap:Ch.read t=rd at*;have⟨re,rf,ol⟩:=rd;simp only at X F2 HU;have Ds:=Hn (e:=re) (f:=rf) (gC F2.ah) (gC F2.dF) (gC F2.fH);have F:=ak O (cells Dp 87);have D:=an (O.alloc (cells Dp 87)) O.heap.size _ (wj re rf sv tv bv) 87 (0,0) F;have K3:=rQ O (cells Dp 87) (wj re rf sv tv bv);have G:=Pl.ofRow D (F2.aw K3);have E:=K3.at_ aj (λx=>x);have KB:=KA.trans K3;have HX:=fM G E KB D;go_upto_region 2 with(refine bJ (wj re rf sv tv bv) F xo rfl Ds ?_);generalize (O.alloc (cells Dp 87)).setRow O.heap.size (wj re rf sv tv bv)=I at*;have⟨G,E,KB,D⟩:=HX;have z0:I.cell? ⟨O.heap.size,0,none⟩=some (int i64 re):=dG D rfl;generalize O.heap.size=J at*;cases q1:re !=0 with
 |true=>
  have HF:=ag (HU.trans (show _=(kJ,(⟨#[]⟩:ByteArray),re)by rw[q1];rfl));go_upto_region 3 with fail;have⟨G,E,KB,D⟩:=HX;have r0:I.cell? ⟨w.heap.size,0,none⟩=some (string ⟨#[]⟩):=dG E rfl;have r1:I.cell? ⟨w.heap.size,1,none⟩=some (string ⟨#[]⟩):=dG E rfl;have r2:I.cell? ⟨w.heap.size,2,none⟩=some (string ⟨#[]⟩):=dG E rfl;have r3:I.cell? ⟨w.heap.size,3,none⟩=some (int i64 0):=dG E rfl;have r4:I.cell? ⟨w.heap.size,4,none⟩=some (int i64 0):=dG E rfl;have r5:I.cell? ⟨w.heap.size,5,none⟩=some (int i64 0):=dG E rfl;have R:I.drew.heap[J]? =some (cells (wj re rf sv tv bv) 87 (0,0)):=D;have ab:J≠w.heap.size:=by intro e;rw[e,E]at D;simp at D
  have U:(I.drew.setRow w.heap.size cG).heap[J]? =some (cells (wj re rf sv tv bv) 87 (0,0)):=by rw[cN _ _ _ _ ab];exact D
  have KF:Kp bA w (I.drew.setRow w.heap.size cG):=(KB.drewN 1).setRow (λx=>oQ) _;refine aY (λw'=>w'.heap[J]? =some (cells (wj re rf sv tv bv) 87 (0,0))) bZ ?_;refine iU 0 14 (agg cG) rfl (λw' _=>eU 26 #[] rfl cG [] rfl bZ) R ?_;refine iU 1 15 (pointer (some ⟨J,0,none⟩)) rfl sr R ?_;refine iU 2 16 (int i64 re) rfl (λw' hS=>by(have c:w'.cell? ⟨J,0,none⟩=some (int i64 re):=(by rw[World.cell?,hS];rfl);simp[execOp,Act.eval,Act.put,go_sem,c])) R ?_;refine cQ 3 bZ rfl rfl 26 (tmp 2) (tmp 14) rfl rfl w.heap.size cG rM rM 26 cG (by exact E) bF rfl (fK kJ) U ?_;refine iU 4 3 (string ⟨#[]⟩) rfl (λw' _=>by rfl) U ?_;refine iU 5 4 (int i64 re) rfl sr U ?_;refine bG bZ (bH ?_) _;simp only[Act.put,pA,pB,pC];go_wp2;refine aJ (az rfl _ _ w.heap.size 26 cG (0,0) ds rfl (an I.drew _ _ _ _ _ (by exact E)) hds iT bF) rfl ?_;rw[HF];exact⟨rfl,KF⟩
 |false=>?_
 have⟨G,E,KB,D⟩:=HX;have E1:=ag (BN I J 0 ol G X);have F9:=Ed ol;have HV:=ag (HU.trans (show _=if(cR ol).2.2 !=0 then(kJ,(⟨#[]⟩:ByteArray),(cR ol).2.2)else(bX ol.ah (cR ol).1,(cR ol).2.1,0)by rw[q1];rfl));generalize ao:cR ol=ms at*;have⟨fs,ft,fe⟩:=ms;simp only at F9 HV E1;have fI:=iD F9.1;have fS:=jc F9.1;have fO:=mK fs;go_wp;refine b9 E1 ?_;intro Q K4;have⟨G,E,KB,D⟩:=HX;have A9:=G.aB K4 (λ_ _ _ _ _ x=>x);have aa:=K4.at_ E (λx=>x);have KC:=KB.trans K4;have F:=ak Q (cells cB 95);have uO:=an (Q.alloc (cells cB 95)) Q.heap.size cB (aN fs).toArray 95 (0,0) F;have K5:=rQ Q (cells cB 95) (aN fs).toArray;have h5:=fq.vE uO;have LC:=A9.aB K5 (λ_ _ _ _ _ x=>x);have Y:=K5.at_ aa (λx=>x);have Z:=KC.trans K5;have am:w.heap.size<Q.heap.size:=aR aa;have HY:=fM h5 LC Y Z;generalize (aN fs).toArray=FA at*;go_upto_region 5 with(refine bJ FA F fI (by rw[fS];rfl) fO ?_);generalize (Q.alloc (cells cB 95)).setRow Q.heap.size FA=w5 at*;generalize Q.heap.size=fb at*;cases q2:fe !=0 with
 |true=>
  have⟨h5,LC,Y,Z⟩:=HY;have HF:=ag (HV.trans (show _=(kJ,(⟨#[]⟩:ByteArray),fe)by rw[q2];rfl));have KF:Kp bA w (w5.setRow w.heap.size cG):=Z.setRow (λx=>oQ) _;go_wp2_with (refine bJ cG Y bF rfl (fK kJ) ?_);refine aJ (az rfl _ _ w.heap.size 26 cG (0,0) ds rfl (an _ _ _ _ _ _ Y) hds iT bF) rfl ?_;rw[HF];exact⟨rfl,KF⟩
 |false=>?_
 have⟨h5,LC,Y,Z⟩:=HY;have E2:=ag (oK J 0 w5 ol.ah fb 0 [] fs [] 95 LC.str (by have:=X.ah;omega) h5 F9.1 rfl);have HF:=ag (HV.trans (show _=(bX ol.ah fs,ft,(0:Int))by rw[q2];rfl));go_wp;refine b9 E2 ?_;intro w6 K6;have⟨h5,LC,Y,Z⟩:=HY;have pe:=K6.at_ Y (λx=>x);have KF:Kp bA w (w6.setRow w.heap.size (cM (bX ol.ah fs))):=(Z.trans K6).setRow (λx=>oQ) _;go_wp2_with (refine bJ (cM (bX ol.ah fs)) pe bF rfl (fK _) ?_);refine aJ (az rfl _ _ w.heap.size 26 (cM (bX ol.ah fs)) (0,0) ds rfl (an _ _ _ _ _ _ pe) hds iT bF) rfl ?_;rw[HF];exact⟨rfl,KF⟩
structure xd where
 kind:Int
 t:ByteArray
 e:ByteArray
 s:As
 n:Int
 at_:Int
 rk:Int
 re:ByteArray
 ra:Int
def YL(o:xd):List Value:=[int i64 o.kind,string o.t,string o.e,string o.s.act,string o.s.b_,string o.s.tm,int i64 o.s.x,int i64 o.s.y,int i64 o.s.z,int i64 o.n,int i64 o.at_,int i64 o.rk,string o.re,int i64 o.ra]
def mr(o:xd):Array Value:=(YL o).toArray
theorem SP o:(mr o).size=14:=rfl
theorem LF:(prog.info? 81).map (·.size)=some 14:=bZ
theorem SR:∃d,prog.underlying 81=some d/\ee d=true:=⟨_,underlying81,rfl⟩
def Vn(w:World)(v:Value)(E:List xd):Prop:=((∃G D,v= slice G 0 D)/\E=[])\/
 ∃g F D,v= slice (some ⟨g,F,none⟩) E.length D/\∀ i o,E[i]? =some o->∀ j u,(YL o)[j]? =some u->w.cell? ⟨g,F+i*14+j,none⟩=some u
theorem Vn.len{w v E}(h:Vn w v E):∃F D,v= slice F E.length D:=by
 rcases h with⟨⟨F,D,rfl⟩,rfl⟩|⟨g,G,D,rfl,_⟩
 ·simp_all
 simp_all
theorem Vn.at_{w v E}(h:Vn w v E){i}{o}(I:E[i]? =some o):∃g D F,v= slice (some ⟨g,D,none⟩) E.length F/\∀ j u,(YL o)[j]? =some u->w.cell? ⟨g,D+i*14+j,none⟩=some u:=by
 rcases h with⟨_,rfl⟩|⟨g,D,F,J,G⟩
 ·simp_all
 grind
def KB(B:Nat)(w w':World):Prop:=Kp (λi=>B<=i) w w'
theorem Vn.aB{w w' v E}(h:Vn w v E)(k:KB w.heap.size w w'):Vn w' v E:=by
 rcases h with h|⟨g,D,F,J,I⟩
 ·exact inl h
 refine inr ⟨g,D,F,J,λi o ho j u hu=>?_⟩;have G:=I i o ho j u hu;have hb:g<w.heap.size:=oP w ⟨g,D+i*14+j,none⟩ G;rw[<-G];exact kO (k.block g hb oQ)
open Go.ChangeShapes Go.WideShapes Go.ChangeAt Go.RowKit Go.Deep
theorem SU{w w'}(k:Kp bA w w'):Below w.heap.size w w':=⟨k.os,k.tape,k.output,k.size,λi hi=>k.block i hi (λx=>x)⟩
theorem Pt:ownKnob prog.godebug=none:=bZ
theorem SW:laidOutB prog=true:=bZ
theorem zB:prog.cellsOf 3=1:=bZ
theorem zC:prog.cellsOf 9=1:=bZ
theorem Ip:prog.cellsOf 26=6:=bZ
theorem Iq:prog.cellsOf 79=3:=bZ
theorem Ir:prog.cellsOf 81=14:=bZ
theorem V2{H enc w base E F n G}{x:DataW H×List MemPlace}(h:DataW.trod enc prog w base E F n 26 G=some x):
 ∃a:As,G=[string a.act,string a.b_,string a.tm,int i64 a.x,int i64 a.y,int i64 a.z]/\a.act.size<=maxLen/\a.b_.size<=maxLen/\a.tm.size<=maxLen:=by
 have⟨Q,m,_,_,hl,hlen,D⟩:=DataW.trod_struct underlying26 h;rw[Ip]at hl;match G,hl,D with
 | [c0,c1,c2,c3,c4,c5],_,D=>
   match Q,hlen,D with
   | [x0,x1,R,U,X,Y],_,D=>
     have I:=D 0 _ rfl;have g1:=D 1 _ rfl;have g2:=D 2 _ rfl;have g3:=D 3 _ rfl;have J:=D 4 _ rfl;have O:=D 5 _ rfl;simp[zB,zC]at I g1 g2 g3 J O;have⟨s0,e0,_,b0⟩:=qA underlying9 I;have⟨s1,e1,_,b1⟩:=qA underlying9 g1;have⟨s2,e2,_,b2⟩:=qA underlying9 g2;have⟨s3,e3,_⟩:=mA underlying3 g3;have⟨s4,e4,_⟩:=mA underlying3 J;have⟨s5,e5,_⟩:=mA underlying3 O;simp only[List.cons.injEq,dV]at e0 e1 e2 e3 e4 e5;exact⟨⟨s0,s1,s2,s3,s4,s5⟩,by rw[e0,e1,e2,e3,e4,e5],b0,b1,b2⟩
theorem V3{H enc w base E F n G}{x:DataW H×List MemPlace}(h:DataW.trod enc prog w base E F n 79 G=some x):
 ∃(k:Int) (s:ByteArray) (a:Int),G=[int i64 k,string s,int i64 a]:=by
 have⟨J,m,_,_,hl,hlen,D⟩:=DataW.trod_struct underlying79 h;rw[Iq]at hl;match G,hl,D with
 | [c0,c1,c2],_,D=>
   match J,hlen,D with
   | [x0,x1,O],_,D=>
     have I:=D 0 _ rfl;have g1:=D 1 _ rfl;have g2:=D 2 _ rfl;simp[zB,zC]at I g1 g2;have⟨s0,e0,_⟩:=mA underlying3 I;have⟨s1,e1,_⟩:=qA underlying9 g1;have⟨s2,e2,_⟩:=mA underlying3 g2;simp_all
structure xd.Sm(o:xd):Prop where
 t:o.t.size<=maxLen
 e:o.e.size<=maxLen
 act:o.s.act.size<=maxLen
 b_:o.s.b_.size<=maxLen
 tm:o.s.tm.size<=maxLen
theorem V4{H enc w base E F n G}{x:DataW H×List MemPlace}(h:DataW.trod enc prog w base E F n 81 G=some x):∃o,G=YL o/\o.Sm:=by
 have⟨Z,m,_,_,hl,hlen,D⟩:=DataW.trod_struct underlying81 h;rw[Ir]at hl;match G,hl,D with
 | [c0,c1,c2,c3,c4,c5,c6,c7,c8,c9,R,U,X,Y],_,D=>
   match Z,hlen,D with
   | [x0,x1,x2,x3,x4,x5,x6],_,D=>
     have I:=D 0 _ rfl;have g1:=D 1 _ rfl;have g2:=D 2 _ rfl;have g3:=D 3 _ rfl;have J:=D 4 _ rfl;have O:=D 5 _ rfl;have Q:=D 6 _ rfl;simp[zB,zC,Ip,Iq]at I g1 g2 g3 J O Q;have⟨s0,e0,_⟩:=mA underlying3 I;have⟨s1,e1,_,b1⟩:=qA underlying9 g1;have⟨s2,e2,_,b2⟩:=qA underlying9 g2;have⟨a,e3,b3,b4,b5⟩:=V2 g3;have⟨s4,e4,_⟩:=mA underlying3 J;have⟨s5,e5,_⟩:=mA underlying3 O;have⟨rk,re,ra,e6⟩:=V3 Q;simp only[List.cons.injEq,dV]at e0 e1 e2 e3 e4 e5 e6;have⟨f0,f1,f2,f3,f4,f5⟩:=e3;have⟨h0,h1,h2⟩:=e6;exact⟨⟨s0,s1,s2,a,s4,s5,rk,re,ra⟩,by rw[e0,e1,e2,f0,f1,f2,f3,f4,f5,e4,e5,h0,h1,h2];rfl,⟨b1,b2,b3,b4,b5⟩⟩
theorem Is{H enc W base v}{d:DataW H}{p}(hv:Value.okWide prog W .any base 22 v)(h:DataW.Trod enc prog W 0 (λ_=>true) true 22 v d p):∃J,Vn W v J/\J.length<=maxLen/\∀o∈J,o.Sm:=by
 have⟨fuel,hf⟩:=h;obtain⟨a0,len,aa,rfl⟩:=okWide_slice underlying22 hv;rcases open_slice underlying22 hf with⟨E,_⟩|⟨a,Z,X,m,n,D,Pl,E,hb,hl,hm,Q,_,O⟩
 ·simp[Value.cells]at E;obtain⟨rfl,rfl,rfl⟩:=E;exact⟨[],inl ⟨⟨_,_,rfl⟩,rfl⟩,aA _,dy⟩
 simp[Value.cells]at E;obtain⟨rfl,rfl,rfl⟩:=E;simp only[aQ]at Q;subst Q;rw[Ir]at O;have R:∀i,i<len->∃o:xd,o.Sm/\∀j u,(YL o)[j]? =some u->W.cell? (a.add (i*14+j))=some u:=by
  intro i hi;have⟨cs',hc,ht⟩:=O i oQ;obtain⟨o,rfl,U⟩:=V4 ht;have⟨_,_,hcell⟩:=World.cells?_some hc;refine⟨o,U,λj u hu=>?_⟩;have hj:j<14:=by have:=(aM.1 hu).1;simpa[YL]using this
  rw[<-Go.Deep.add_add,hcell j hj];omega
 have:Inhabited xd:=⟨⟨0,⟨#[]⟩,⟨#[]⟩,⟨⟨#[]⟩,⟨#[]⟩,⟨#[]⟩,0,0,0⟩,0,0,0,⟨#[]⟩,0⟩⟩
 have⟨f,hf'⟩:=choose_lt R;by_cases hz:len=0
 ·subst hz;exact⟨[],inl ⟨⟨_,_,rfl⟩,rfl⟩,aA _,dy⟩
 have⟨b,off,spot⟩:=a;have I:spot=none:=by
  have:=(hf' 0 oQ).2 0 _ rfl;simpa[Addr.add]using World.cell?_spot this
 subst I;refine⟨(List.range len).map f,inr ⟨b,off,m,dy,λi o ho j u hu=>?_⟩,by simp;omega,λo ho=>?_⟩;rotate_left
 ·grind
 rw[bD,qB]at ho;obtain⟨Y,F,rfl⟩:=ho;have G:Y<len/\i=Y:=by
  have:=(aM.1 F).1;rw[List.getElem?_range (cX this)]at F;simp at F this;omega
 obtain⟨G,rfl⟩:=G;have:=(hf' i G).2 j u hu;rw[show off+i*14+j=off+(i*14+j)by omega];unfold Addr.add at this;split at this<;>simp_all
def pD(a:As):List Value:=[string a.act,string a.b_,string a.tm,int i64 a.x,int i64 a.y,int i64 a.z]
theorem qK{w:World}{F}{o}(h:w.heap[F]? =some (cells (mr o) 81)):∀j v,(pD o.s)[j]? =some v->w.cell? ⟨F,3+j,none⟩=some v:=by
 intro j v E;rw[World.cell?,h];have D:=(aM.1 E).1;have:j<6:=D;rcases(by omega:j=0\/j=1\/j=2\/j=3\/j=4\/j=5)with rfl|rfl|rfl|rfl|rfl|rfl<;>exact E
theorem oN w e:
 Calls prog 93 #[int i64 e] w λx w'=>x=returned (int i64 e)/\w'=w:=by
 go_in;exact we
theorem SX:∀ l k (a:Array Value),k+l.length<=a.size->
 ((l.zipIdx k).foldl (λcs p =>cs.setIfInBounds (0+p.2) p.1) a).toList=a.toList.take k++l++a.toList.drop (k+l.length):=by
 intro l;induction l with
 |nil=>simp_all
 |cons x l D=>?_
 intro k a h;simp only[e_]at h;simp only[List.zipIdx_cons,List.foldl_cons];rw[D (k+1) _ il];have hk:k<a.toList.length:=il;simp only[eG,Array.toList_setIfInBounds,e_];rw[List.take_set,List.drop_set_of_lt oQ,show k+1+l.length=k+(l.length+1)by omega];rw[vZ hk,nW _ _ il];simp[Nat.min_eq_left (Nat.le_of_lt (cX hk))]
theorem SY{n}base D(hb:base.size=n)(hs:D.size=n):Instr.fill (λi=>some (i*n,n)) base [(0,agg D)]=some D:=by
 unfold Instr.fill;have e:(Value.agg D).cells=D:=rfl;simp only[e,hs,hb,Nat.zero_mul,eG,ne_eq,not_true_eq_false,decide_false,Nat.lt_irrefl,gt_iff_lt,Bool.or_self,bu,bf];unfold Instr.fill;have h:=SX D.toList 0 base (by simp[hs,hb]);simp only[List.take_zero,kT,eG]at h;rw[dA (by simp[hs,hb]),iz]at h;congr 1;apply Array.toList_inj.1;rw[<-h];rw[<-Array.foldl_toList];simp
theorem ri{P}w t D i z(O:P.underlying t=some (.slice D))(hi:P.info? D=some i)(Q:i.zero=some z)(R:0<i.size)(I:i.size<=1000)E(hs:E.size=i.size):(Instr.buildSlice t 1 #[(0,agg E)]).run P w= .ok (slice (some ⟨w.heap.size,0,none⟩) 1 1) (w.alloc (cells E D)):=by
 have F:¬(i.size=0):=oQ;have G:¬(16777216<i.size):=oQ;have J:=SY ((Array.range i.size).map (λx=>z.cells[x % z.cells.size]!)) E (n:=i.size) dy hs;unfold Instr.buildSlice;simp[run_underlying O,sizeOf,typeInfo,hi,F,G,zeroValue,Q];rw[J];simp[newRow]
theorem gw{P o}{a:Act}{w}t x(I:o.op= .buildSlice t 1 #[(0,x)])D i z(J:P.underlying t=some (.slice D))(hi:P.info? D=some i)(Q:i.zero=some z)(G:0<i.size)(F:i.size<=1000)E(O:a.eval x= agg E)(hs:E.size=i.size):
 (execOp a.eval o).run P w= .ok (.value (slice (some ⟨w.heap.size,0,none⟩) 1 1)) (w.alloc (cells E D)):=by
 unfold execOp;have e:(#[((0:Nat),x)].map λ(p:Nat×Operand)=>(p.1,a.eval p.2))= #[(0,agg E)]:=by simp[O]
 simp only[I];have e2:(Instr.buildSlice t 1 (#[((0:Nat),x)].map λ(p:Nat×Operand)=>(p.1,a.eval p.2))).run P w= .ok (slice (some ⟨w.heap.size,0,none⟩) 1 1) (w.alloc (cells E D)):=by rw[e];exact ri w t D i z J hi Q G F E hs
 simp_all
theorem nT{P F rest o a w Q}(I:o.guard=none)t x(O:o.op= .buildSlice t 1 #[(0,x)])D i z(R:P.underlying t=some (.slice D))(hi:P.info? D=some i)(U:i.zero=some z)(J:0<i.size)(G:i.size<=1000)E(X:a.eval x= agg E)(hs:E.size=i.size)(h:wpList P F Q rest (a.put o.dst (slice (some ⟨w.heap.size,0,none⟩) 1 1)) (w.alloc (cells E D))):wpList P F Q (o::rest) a w:=
 wpList_plain I λK hK=>by
  unfold Oper.wp execOp;have e:(#[((0:Nat),x)].map λ(p:Nat×Operand)=>(p.1,a.eval p.2))= #[(0,agg E)]:=by simp_all
  simp only[O];have e2:(Instr.buildSlice t 1 (#[((0:Nat),x)].map λ(p:Nat×Operand)=>(p.1,a.eval p.2))).run P w= .ok (slice (some ⟨w.heap.size,0,none⟩) 1 1) (w.alloc (cells E D)):=by rw[e];exact ri w t D i z R hi U J G E hs
  simp only[kQ,e2,kR,np];exact hK _ _ h
namespace Ch
structure Vr where
 num:Nat
 now:Sd
 pins:Nat
structure Tk where
 kind:Int
 events:ByteArray
 at_:Int
 drawn:Bool
 cD:Nat
 ay:Nat
 now:Sd
 out:ByteArray
 steps:Nat
 pinned:Int
structure Sv where
 made:Nat
 kept:List Vr
 joined:Nat
 tail:ByteArray
 ai:List Tk
 bj:Nat
 turn:Nat
def xe(made:Nat)(v:Vr):Bool:=decide (0<v.pins)||decide (made<=v.num+4)
def nK(made:Nat)(l:List Vr):List Vr:=l.filter (xe made)
end Ch
def vrL(v:Vr):List Value:=int i64 v.num::(aN v.now++[int i64 v.pins])
def jr(l:List Vr):List Value:=l.flatMap vrL
theorem uA{v}(h:v.now.Wf):(vrL v).length=38:=by simp[vrL,dp h]
theorem uB l v:jr (l++[v])=jr l++vrL v:=by simp[jr]
theorem LG{l}(h:∀v∈l,v.now.Wf){k}{v}(hk:l[k]? =some v){j}(D:j<38):(jr l)[k*38+j]? =(vrL v)[j]?:=by
 induction l generalizing k with
 |nil=>simp_all
 |cons x l E=>?_
 have e:jr (x::l)=vrL x++jr l:=by simp[jr]
 grind[uA]
theorem tG s:∀u∈aN s,u.oneCell'=true:=by
 intro u hu;simp only[aN,dK,bP,cS,gY,dB,gJ,gK]at hu;rcases hu with⟨b,_,rfl⟩|⟨c,_,rfl⟩|rfl|rfl|rfl|rfl<;>rfl
theorem NN v:∀u∈vrL v,u.oneCell'=true:=by
 intro u hu;rcases dB.1 hu with rfl|hu
 ·rfl
 rcases cS.1 hu with hu|hu
 ·grind[tG]
 simp at hu;subst hu;rfl
theorem SZ:(prog.info? 261).map (λi=>(i.zero,i.size,i.bytes))=some (some (agg y7),38,88):=bZ
structure xQ(w:World)B(sb:Nat)(so:Nat)C T(made:Nat)kept kv:Prop where
 cj:w.heap[sb]? =some (cells C T (0,0))
 c0:C[so]? =some (int i64 made)
 c1:C[so+1]? =some kv
 row:w.ownsRow B 261 38 kv kept.length (jr kept)
 wf:∀v∈kept,v.now.Wf
 ne:T≠261
section
variable {w w':World} {B sb so:Nat} {C:Array Value} {T:TypeId} {made:Nat} {kept:List Vr} {kv:Value}
theorem xQ.x0(h:xQ w B sb so C T made kept kv):w.cell? ⟨sb,so,none⟩=some (int i64 made):=dG h.cj h.c0
theorem xQ.x1(h:xQ w B sb so C T made kept kv):w.cell? ⟨sb,so+1,none⟩=some kv:=dG h.cj h.c1
theorem xQ.free(h:xQ w B sb so C T made kept kv)i:w.frozen? ⟨sb,i,none⟩=false:=by simp[World.frozen?,h.cj]
theorem xQ.S0(h:xQ w B sb so C T made kept kv):kv.ownBlock≠some sb:=aZ h.row h.cj h.ne.symm
theorem xQ.aw(h:xQ w B sb so C T made kept kv)(k:Kp bA w w'):xQ w' B sb so C T made kept kv:=
 ⟨k.at_ h.cj (λx=>x),h.c0,h.c1,k.owns h.row (λ_ _ x=>x),h.wf,h.ne⟩
theorem xQ.cells(h:xQ w B sb so C T made kept kv){g}{D}(e:kv= slice (some ⟨g,0,none⟩) kept.length D){k}{v}(hk:kept[k]? =some v):∀j u,(vrL v)[j]? =some u->w.cell? ⟨g,k*38+j,none⟩=some u:=by
 intro j u G;have J:=h.wf v (aP hk);have E:=(aM.1 G).1;rw[uA J]at E;have I:=(aM.1 hk).1;have F:=h.row;rw[e]at F;rw[F.cellAt _ oQ,LG h.wf hk E];omega
theorem xQ.rowAt(h:xQ w B sb so C T made kept kv)(E:0<kept.length):∃g D,kv= slice (some ⟨g,0,none⟩) kept.length D:=by
 rcases h.row.2 with⟨_,e2⟩|⟨g,D,_,e1,_⟩
 ·omega
 simp_all
end
theorem wD b j:(⟨b,0,none⟩:Addr).add j=⟨b,j,none⟩:=by
 unfold Addr.add;split<;>simp_all
theorem ke{w:World}{b}{L:List Value}{T}(h:w.heap[b]? =some (cells L.toArray T (0,0)))j:w.cell? ⟨b,j,none⟩=L[j]?:=by
 rw[World.cell?,h];simp
theorem yq v:(vrL v)[0]? =some (int i64 v.num):=rfl
theorem BO{v}(h:v.now.Wf):(vrL v)[37]? =some (int i64 v.pins):=by
 grind[vrL,dp]
theorem S1{w:World}{B}{F}(hb:B<=F){e}{size}{v}{n}{G}(h:w.ownsRow F e size v n G):w.ownsRow B e size v n G:=by
 refine⟨h.1,?_⟩;rcases h.2 with x|⟨g,D,E,e1,e2,r⟩
 ·simp_all
 exact inr ⟨g,D,E,e1,oQ,r⟩
theorem S2:(prog.info? 261).map (·.size)=some 38:=bZ
theorem aa6:∃d,prog.underlying 261=some d/\ee d=true:=⟨_,underlying261,rfl⟩
def aa7(w w':World)(B sb so:Nat)(C:Array Value)(T:TypeId)(l:List Vr):Prop:=
 ∃D,w'.heap[sb]? =some (cells (C.setIfInBounds (so+1) D) T (0,0))/\w'.ownsRow B 261 38 D l.length (jr l)/\(∀k,D.ownBlock=some k->w.heap.size<=k)/\Kp (λk=>k=sb) w w'
theorem It w{B}{sb}{so}{C}{T}{made}{kept}{kv}(h:xQ w B sb so C T made kept kv)(hB:B<=w.heap.size)(hk:kept.length<=100000)(hm:made<=1000000000000000)(hn:∀v∈kept,v.num<=1000000000000000/\v.pins<=1000000000000000):
 Calls prog 226 #[pointer (some ⟨sb,so,none⟩)] w λx w'=>x=returned (tuple #[])/\aa7 w w' B sb so C T (nK made kept):=by
 have⟨i0,hi,hz0,hz1,hz2⟩:=cr SZ;have⟨dv,ab,AH⟩:=aa6;have HH:=ag h;have HN:=ag hn;go_in;go_wp;go_loopw [2,3] (λlv iv wr=>∃i:Nat,iv= int i64 i/\i<=kept.length/\wr.ownsRow w.heap.size 261 38 lv (nK made (kept.take i)).length (jr (nK made (kept.take i)))/\Kp bA w wr) (λ_ iv _=>kept.length-(intOf iv).toNat)
 case atStart=>exact⟨0,rfl,aA _,cd _ _ _ _,Kp.refl _ _⟩
 case round=>
  obtain⟨i,rfl,bc,ho,KW⟩:=hrel;have Q:=HH.aw KW;have x0:=Q.x0;have x1:=Q.x1;have⟨ao,cap,xx⟩:=bp Q.row;by_cases a7:i<kept.length
  ·have aI:(i:Int)<kept.length:=oQ;have⟨g,cap2,S3⟩:=Q.rowAt oQ;obtain⟨v,hv⟩:∃v,kept[i]? =some v:=⟨_,au a7⟩
   have a5:=Q.cells S3 hv;have a0:=HH.wf v (aP hv);have D:=uA a0;have XH:=NN v;have⟨hn1,hn2⟩:=HN v (aP hv);have aS:kept.take (i+1)=kept.take i++[v]:=by
    have⟨h1,e⟩:=aM.1 hv;rw[<-e,List.take_append_getElem h1]
   rw[S3]at x1;have X:=ak wr (cells y7 261);have h5:=an (wr.alloc (cells y7 261)) wr.heap.size y7 (vrL v).toArray 261 (0,0) X;have K5:=rQ wr (cells y7 261) (vrL v).toArray;have hI:(prog.info? 261).map (·.size)=some (vrL v).length:=by rw[D];exact S2
   have Y:(vrL v).toArray.size=38:=by simp[D]
   have E:(prog.info? 261).map (·.size)=some (vrL v).toArray.size:=by rw[Y];exact S2
   have R:(vrL v).toArray.all (λx=>x.oneCell')=true:=by
    apply gH.2;intro u hu;exact XH u (cX hu)
   go_upto_region 5 with(first|refine bS rfl 261 (tmp 19) rfl g (i*38) rfl (vrL v) dv a5 ab AH hI ?_|refine bJ (vrL v).toArray X E (by rw[Y];rfl) R ?_);have a8:=Q.aw K5;have tF:=K5.owns ho (λ_ _ x=>x);have K6:=KW.trans K5;have be:=KW.size;generalize (wr.alloc (cells y7 261)).setRow wr.heap.size (vrL v).toArray=F at*;generalize wr.heap.size=vb at*;have b0:=(ke h5 0).trans (yq v);have ba:=(ke h5 37).trans (BO a0);have y0:=a8.x0;generalize a3:(vrL v).toArray=O at*;have am:=ag a3;have U:=c_ tF K6 h5;have HZ:=fM hi hz0 hz1 hz2;have HV:=rP Y E R D XH;have HL:∀(G:xe made v=true),nK made (kept.take (i+1))=nK made (kept.take i)++[v]:=by
    intro G;rw[aS];unfold nK;rw[gZ];simp[G]
   have a1:∀(G:xe made v=false),nK made (kept.take (i+1))=nK made (kept.take i):=by
    intro G;rw[aS];unfold nK;rw[gZ];simp[G]
   have aj:=bw HL a1;have a9:(nK made (kept.take i)).length<=100000:=by
    unfold nK;exact bz (mB _ _) il
   cases G:xe made v with
   |true=>
    have HE:=ag (aj.1 G);have I:0<v.pins\/(¬ 0<v.pins/\made<=v.num+4):=by
     unfold xe at G;simp at G;omega
    by_cases hp:0<v.pins
    ·have aO:(0:Int)<v.pins:=oQ;simp only[Act.put];go_quiet (fail);rename_i nq;have KD:=(Kp.refl bA F).drewN nq;have KA:=KD.alloc (cells O 261);have Z:=KD.at_ U.2.2 (λx=>x);have Ko:=KA.owns U.1 (λ_ _ x=>x);have vh:=ak (F.drewN nq) (cells O 261);have aa:∀j u,(vrL v)[j]? =some u->((F.drewN nq).alloc (cells O 261)).cell? ((⟨(F.drewN nq).heap.size,0,none⟩:Addr).add j)=some u:=by
      intro j u hj;have e:(⟨(F.drewN nq).heap.size,0,none⟩:Addr).add j=_:=wD _ _;rw[e,World.cell?,vh];show O[j]? =some u;rw[<-am,gX];exact hj
     have K7:=U.2.1.trans KA;have ad:=K7.size;have⟨hi,hz0,hz1,hz2⟩:=HZ;have⟨Y,E,R,D,XH⟩:=HV;go_wp2_with (first|(at_builtin;refine jk _ rfl (tmp 34) (tmp 36) 129 rfl w.heap.size 261 i0 (agg y7) 38 88 underlying129 hi hz0 hz1 hz2 rfl aV _ _ _ rfl Ko ⟨(F.drewN nq).heap.size,0,none⟩ 1 1 (vrL v) rfl (by rw[D]) aa XH ?c3 ?c4 ?c5 ?_)|refine nT rfl 129 (tmp 35) rfl 261 i0 (agg y7) underlying129 hi hz0 oQ oQ O rfl (by rw[Y,hz1]) ?_|refine gV Z ab AH E ?_)
     case c3=>unfold maxLen;omega
     case c4=>omega
     case c5=>simpa using ad
     intro v8 w8 o8 g8 _;have K8:=K7.grown g8 (λk hk hl=>by have:=(Ko.lt k hk).1;omega);have J:=bw o8 K8;go_wp2;go_roundw
     case rel=>
      refine⟨i+1,eb,oQ,?_,J.2⟩;rw[HE,uB];simpa using J.1
     case measure=>exact ew
    have a6:made<=v.num+4:=oQ;have aO:¬(0:Int)<v.pins:=oQ;have ap:(made:Int)-4<=(v.num:Int):=oQ;simp only[Act.put];go_quiet (fail);rename_i nq;have KD:=(Kp.refl bA F).drewN nq;have KA:=KD.alloc (cells O 261);have Z:=KD.at_ U.2.2 (λx=>x);have Ko:=KA.owns U.1 (λ_ _ x=>x);have vh:=ak (F.drewN nq) (cells O 261);have aa:∀j u,(vrL v)[j]? =some u->((F.drewN nq).alloc (cells O 261)).cell? ((⟨(F.drewN nq).heap.size,0,none⟩:Addr).add j)=some u:=by
     intro j u hj;have e:(⟨(F.drewN nq).heap.size,0,none⟩:Addr).add j=_:=wD _ _;rw[e,World.cell?,vh];show O[j]? =some u;rw[<-am,gX];exact hj
    have K7:=U.2.1.trans KA;have ad:=K7.size;have⟨hi,hz0,hz1,hz2⟩:=HZ;have⟨Y,E,R,D,XH⟩:=HV;go_wp2_with (first|(at_builtin;refine jk _ rfl (tmp 34) (tmp 36) 129 rfl w.heap.size 261 i0 (agg y7) 38 88 underlying129 hi hz0 hz1 hz2 rfl aV _ _ _ rfl Ko ⟨(F.drewN nq).heap.size,0,none⟩ 1 1 (vrL v) rfl (by rw[D]) aa XH ?c3 ?c4 ?c5 ?_)|refine nT rfl 129 (tmp 35) rfl 261 i0 (agg y7) underlying129 hi hz0 oQ oQ O rfl (by rw[Y,hz1]) ?_|refine gV Z ab AH E ?_)
    case c3=>unfold maxLen;omega
    case c4=>omega
    case c5=>simpa using ad
    intro v8 w8 o8 g8 _;have K8:=K7.grown g8 (λk hk hl=>by have:=(Ko.lt k hk).1;omega);have J:=bw o8 K8;go_wp2;go_roundw
    case rel=>
     refine⟨i+1,eb,oQ,?_,J.2⟩;rw[HE,uB];simpa using J.1
    case measure=>exact ew
   |false=>?_
   have HE:=ag (aj.2 G);have I:¬ 0<v.pins/\¬made<=v.num+4:=by
    unfold xe at G;simp at G;omega
   have⟨hp,a6⟩:=I;have aO:¬(0:Int)<v.pins:=oQ;have ap:¬(made:Int)-4<=(v.num:Int):=oQ;simp only[Act.put];go_quiet (fail);rename_i nq;have HD:=bw ((Kp.refl bA F).drewN nq |>.owns U.1 (λ_ _ x=>x)) (U.2.1.drewN nq);go_wp2;exact⟨⟨i+1,eb,oQ,by rw[HE];exact HD.1,HD.2⟩,ew⟩
  have aI:¬(i:Int)<kept.length:=oQ;obtain rfl:i=kept.length:=oQ;rw[gL]at ho;obtain⟨RL,m2,AI,rfl⟩:=gu ho;have hf:=Q.free (so+1);have bb:=(aM.1 (show C.toList[so+1]? =some kv by simpa using HH.c1)).1;have KS:Kp _ _ (wr.setCell ⟨sb,so+1,none⟩ (slice RL m2 AI)):=(Kp.refl (λk=>k=sb) wr).setCell (p:=⟨sb,so+1,none⟩) (λ_=>rfl) _;have a4:(wr.setCell ⟨sb,so+1,none⟩ (slice RL m2 AI)).heap[sb]? =_:=ar _ Q.cj;have YM:=aZ ho Q.cj Q.ne.symm;have YN:=KS.owns ho (λk e x=>YM (by rw[<-x];exact e));have a2:=λk e=>(ho.lt k e).1;have K9:=(KW.mono gM).trans' KS (λi _ x=>x);have J:=fM a4 (S1 hB YN) a2 K9;go_wp2;go_end0
  exact⟨rfl,_,J.1,J.2.1,J.2.2.1,J.2.2.2⟩
theorem F_ m Z a1 a2 a3 a4 a5 a6 a7 a8 a9 Q R D U X Y p0 p1 p2 p3 p4 p5 p6 p7 p8 p9 G I J O E F tm x y z:
 prog.built 261 [(0,int i64 m),(1,agg #[bool Z,bool a1,bool a2,bool a3,bool a4,bool a5,bool a6,bool a7,bool a8,bool a9,bool Q,bool R,bool D,bool U,bool X,bool Y,int .u8 p0,int .u8 p1,int .u8 p2,int .u8 p3,int .u8 p4,int .u8 p5,int .u8 p6,int .u8 p7,int .u8 p8,int .u8 p9,int .u8 G,int .u8 I,int .u8 J,int .u8 O,int .u8 E,int .u8 F,string tm,int i64 x,int i64 y,int i64 z])]=some #[int i64 m,bool Z,bool a1,bool a2,bool a3,bool a4,bool a5,bool a6,bool a7,bool a8,bool a9,bool Q,bool R,bool D,bool U,bool X,bool Y,int .u8 p0,int .u8 p1,int .u8 p2,int .u8 p3,int .u8 p4,int .u8 p5,int .u8 p6,int .u8 p7,int .u8 p8,int .u8 p9,int .u8 G,int .u8 I,int .u8 J,int .u8 O,int .u8 E,int .u8 F,string tm,int i64 x,int i64 y,int i64 z,int i64 0]:=bZ
theorem S4(m:Nat)s(hw:s.Wf):prog.built 261 [(0,int i64 m),(1,agg (aN s).toArray)]=some (vrL ⟨m,s,0⟩).toArray:=by
 have⟨act,b_,tm,x,y,z⟩:=s;have⟨h1,h2⟩:=hw;simp only at h1 h2;obtain⟨Z,a1,a2,a3,a4,a5,a6,a7,a8,a9,Q,R,D,U,X,Y,rfl⟩:=ur act h1;obtain⟨p0,p1,p2,p3,p4,p5,p6,p7,p8,p9,G,I,J,O,E,F,rfl⟩:=ur b_ h2;exact F_ m Z a1 a2 a3 a4 a5 a6 a7 a8 a9 Q R D U X Y p0 p1 p2 p3 p4 p5 p6 p7 p8 p9 G I J O E F tm x y z
theorem Iu{v}(h:v.now.Wf):(vrL v).toArray.size=38:=by simp[uA h]
section
variable (w:World) {B sb so:Nat} {C:Array Value} {T:TypeId} {made:Nat} {kept:List Vr} {kv:Value}
theorem oB(h:xQ w B sb so C T made kept kv)(D:made<=1000000000000000):
 Calls prog 191 #[pointer (some ⟨sb,so,none⟩)] w λx w'=>x=returned (int i64 ((made:Int)-1))/\w'=w:=by
 have x0:=h.x0;go_in;exact we
def aed(w w':World)(B sb so:Nat)(C:Array Value)(T:TypeId)(made:Nat)(kv:Value)(l:List Vr):Prop:=
 ∃D,w'.heap[sb]? =some (cells ((C.setIfInBounds so (int i64 ((made+1:Nat):Int))).setIfInBounds (so+1) D) T (0,0))/\w'.ownsRow B 261 38 D l.length (jr l)/\(∀k,D.ownBlock=some k->w.heap.size<=k)/\Kp (λk=>k=sb\/kv.ownBlock=some k) w w'
theorem Pu(h:xQ w B sb so C T made kept kv)(hB:B<=w.heap.size)(hk:kept.length<=1000)(bt:made<=100000000000000)(hn:∀v∈kept,v.num<=1000000000000000/\v.pins<=1000000000000000)(a7:T≠95)s(hs:s.Wf):
 Calls prog 184 #[pointer (some ⟨sb,so,none⟩),agg (aN s).toArray] w λx w'=>x=returned (tuple #[])/\aed w w' B sb so C T made kv (nK (made+1) (kept++[⟨made,s,0⟩])):=by
 have⟨i0,hi,hz0,hz1,hz2⟩:=cr SZ;have⟨ds,hds,iT⟩:=g7;have aj:=ak w (cells (aN s).toArray 95);have K1:=kG w (cells (aN s).toArray 95);have G:=h.aw K1;have bg:(prog.info? 95).map (·.size)=some (aN s).toArray.size:=by rw[show(aN s).toArray.size=36 by simp[dp hs]];exact dh
 have a9:=S4 made s hs;have am:(⟨made,s,0⟩:Vr).now.Wf:=hs;have Vo:=Iu am;have bk:=uA am;have XH:=NN ⟨made,s,0⟩;have HH:=bw h hn;obtain⟨ao,mm,J,rfl⟩:=gu G.row;generalize Pr:(aN s).toArray=SA at*;generalize a8:(vrL ⟨made,s,0⟩).toArray=I at*;have aI:=ag a8;go_in;go_upto_region 1 with fail;have br:=K1.size;have ap:=ag K1;generalize w.alloc (cells SA 95)=F at*;have x0:F.drew.cell? _=_:=G.x0;have x1:F.drew.cell? _=_:=G.x1;have E:F.drew.cell? ⟨sb,so,none⟩=some (int i64 made)/\F.drew.heap[w.heap.size]? =some (cells SA 95 (0,0)):=⟨x0,aj⟩
 refine aY (λw'=>w'.cell? ⟨sb,so,none⟩=some (int i64 made)/\w'.heap[w.heap.size]? =some (cells SA 95 (0,0))) bZ ?_;refine bR 0 4 (pointer (some ⟨sb,so,none⟩)) E ?_;refine bR 1 5 (pointer (some ⟨sb,so,none⟩)) E ?_;refine bR 2 6 (pointer (some ⟨sb,so,none⟩)) E ?_;refine bR 3 7 (pointer (some ⟨sb,so+1,none⟩)) E ?_;refine bR 5 9 (pointer (some ⟨sb,so,none⟩)) E ?_;refine bR 6 10 (pointer (some ⟨sb,so,none⟩)) E ?_;refine bR 7 11 (pointer (some ⟨sb,so,none⟩)) E ?_;refine fh 8 12 (int i64 made) rfl (λw' hS=>by simp[execOp,Act.eval,go_sem,hS.1]) E ?_;refine fh 9 13 (agg SA) rfl (λw' hS=>dR 95 (tmp 3) rfl w.heap.size rfl 95 SA (0,0) ds hS.2 hds iT bg) E ?_;refine fh 10 14 (agg I) rfl (λw' _=>eU 261 #[(0,.tmp 12),(1,.tmp 13)] rfl I [(0,int i64 made),(1,agg SA)] rfl a9) E ?_;have KA:Kp bA _ (F.drew.alloc (cells I 261)):=(Kp.refl _ _).alloc _;have U:=KA.at_ G.cj (λx=>x);have ab:=KA.at_ aj (λx=>x);have y0:(F.drew.alloc (cells I 261)).cell? ⟨sb,so,none⟩=some (int i64 made):=dG U G.c0;have y1:(F.drew.alloc (cells I 261)).cell? ⟨sb,so+1,none⟩=some (slice ao mm J):=dG U G.c1;have bo:(F.alloc (cells I 261)).drew.cell? _=_:=y1
 refine D_ 4 11 8 15 (slice ao mm J) (slice (some ⟨F.drew.heap.size,0,none⟩) 1 1) (F.drew.alloc (cells I 261)) aV bZ bZ bZ rfl rfl rfl rfl rfl rfl (by simp[execOp,Act.eval,go_sem,x1])
  (gw 129 (tmp 14) rfl 261 i0 (agg y7) underlying129 hi hz0 oQ oQ I rfl (by rw[Vo,hz1]))
  (gw 129 (tmp 14) rfl 261 i0 (agg y7) underlying129 hi hz0 oQ oQ I rfl (by rw[Vo,hz1]))
  (by simp[execOp,Act.eval,go_sem,bo]) E ⟨y0,ab⟩ ?_
 simp only[Act.put,pA,pB,pC];have Ko:=KA.owns (show F.drew.ownsRow B 261 38 (slice ao mm J) kept.length (jr kept)from G.row) (λ_ _ x=>x);have vh:=ak F.drew (cells I 261);have ba:∀j u,(vrL ⟨made,s,0⟩)[j]? =some u->(F.drew.alloc (cells I 261)).cell? ((⟨F.drew.heap.size,0,none⟩:Addr).add j)=some u:=by
  intro j u hj;rw[wD,World.cell?,vh];show I[j]? =some u;rw[<-aI,gX];exact hj
 have be:B<=(F.drew.alloc (cells I 261)).heap.size:=by have:=KA.size;have e:F.drew.heap.size=F.heap.size:=rfl;omega
 refine pf 12 ?_;refine wp_append_own _ (tmp 8) (tmp 15) 129 rfl B 261 i0 (agg y7) 38 88 underlying129 hi hz0 hz1 hz2 rfl aV _ _ _ rfl Ko ⟨F.drew.heap.size,0,none⟩ 1 1 (vrL ⟨made,s,0⟩) rfl (by rw[bk]) ba XH ?c3 ?c4 ?c5 ?_
 case c3=>unfold maxLen;omega
 case c4=>omega
 case c5=>exact be
 intro v8 R o8 g8 _;have bc:=aZ Ko U G.ne.symm;have aS:=aZ Ko ab aV;have KG:Kp (λk=>(Value.slice ao mm J).ownBlock=some k) _ _:=(Kp.refl _ _).grown g8 (λk hk _=>hk);have Y:=KG.at_ U bc;have O:R.cell? ⟨sb,so,none⟩=some (int i64 made)/\R.heap[w.heap.size]? =some (cells SA 95 (0,0)):=⟨by rw[World.cell?,Y];exact G.c0,KG.at_ ab aS⟩
 refine⟨O,?_⟩;refine iU 13 17 (pointer (some ⟨sb,so,none⟩)) rfl (λw' _=>by simp[execOp,Act.eval,go_sem,Act.put]) O ?_;refine iU 14 18 (pointer (some ⟨sb,so+1,none⟩)) rfl (λw' _=>by simp[execOp,Act.eval,go_sem,Act.put]) O ?_;obtain⟨Z,m2,D,rfl⟩:=gu o8;have bm:R.cell? ⟨sb,so+1,none⟩=some (slice ao mm J):=dG Y G.c1;have bb:R.frozen? ⟨sb,so+1,none⟩=false:=by simp[World.frozen?,Y]
 have a0:sb≠w.heap.size:=by intro e;rw[e,O.2]at Y;simp only[bE,eH]at Y;exact a7 Y.2.1.symm
 have KS:Kp _ _ (R.setCell ⟨sb,so+1,none⟩ (slice Z m2 D)):=(Kp.refl (λk=>k=sb) R).setCell (p:=⟨sb,so+1,none⟩) (λ_=>rfl) _;have X:(R.setCell ⟨sb,so+1,none⟩ (slice Z m2 D)).heap[sb]? =_:=ar _ Y;have bi:so+1<C.size:=by
  have:=G.c1;exact(Array.getElem?_eq_some_iff.1 this).1
 have a5:(C.setIfInBounds (so+1) (slice Z m2 D))[so]? =some (int i64 made):=by rw[n5 oQ];exact G.c0
 have Kq:(R.setCell ⟨sb,so+1,none⟩ (slice Z m2 D)).cell? ⟨sb,so,none⟩=some (int i64 made)/\(R.setCell ⟨sb,so+1,none⟩ (slice Z m2 D)).heap[w.heap.size]? =some (cells SA 95 (0,0)):=⟨by rw[World.cell?,X];exact a5,KS.at_ O.2 a0.symm⟩
 refine pf 15 ?_;unfold Oper.wp;simp only[execOp,Act.eval,Act.put];simp[go_sem,bm,bb];refine⟨⟨O.1,Kq.2⟩,?_⟩;refine bG bZ (bH ?_) _;have K8:Kp (λk=>k=sb\/(Value.slice ao mm J).ownBlock=some k) w R:=(((ap.drew).trans KA).mono gM).trans' KG (λi _ x=>inr x);have K9:=K8.trans' KS (λi _ x=>inl x);have YM:=aZ o8 Y G.ne.symm;have YN:=KS.owns o8 (λk e x=>YM (by rw[<-x];exact e));generalize aa:C.setIfInBounds (so+1) (slice Z m2 D)=C9 at*;generalize R.setCell ⟨sb,so+1,none⟩ (slice Z m2 D)=w9 at*;have z0:=Kq.1;have zf:w9.frozen? ⟨sb,so,none⟩=false:=by simp[World.frozen?,X]
 have KT:Kp _ _ (w9.setCell ⟨sb,so,none⟩ (int i64 ((made:Int)+1))):=(Kp.refl (λk=>k=sb) w9).setCell (p:=⟨sb,so,none⟩) (λ_=>rfl) _;have a1:(w9.setCell ⟨sb,so,none⟩ (int i64 ((made:Int)+1))).heap[sb]? =_:=ar _ X;have aO:=aZ YN X G.ne.symm;have a2:=KT.owns YN (λk e x=>aO (by rw[<-x];exact e));have RM:=K9.trans' KT (λi _ x=>inl x);have ad:((made+1:Nat):Int)=(made:Int)+1:=oQ;have a3:C9.size=C.size:=by rw[<-aa];simp
 have a6:xQ (w9.setCell ⟨sb,so,none⟩ (int i64 ((made:Int)+1))) B sb so (C9.setIfInBounds so (int i64 ((made:Int)+1))) T (made+1) (kept++[⟨made,s,0⟩]) (slice Z m2 D):=by
  refine⟨a1,?_,?_,?_,?_,G.ne⟩
  ·rw[qC oQ,ad]
  ·rw[n5 oQ,<-aa,qC bi]
  ·rw[uB];simpa using a2
  intro v Q;rcases cS.1 Q with Q|Q
  ·exact G.wf v Q
  simp at Q;subst Q;exact hs
 have a4:B<=(w9.setCell ⟨sb,so,none⟩ (int i64 ((made:Int)+1))).heap.size:=by have:=RM.size;omega
 have ET:=ag (It _ a6 a4 il oQ (by
  intro v Q;rcases cS.1 Q with Q|Q
  ·exact HH.2 v Q
  simp at Q;subst Q;simp;omega))
 have HK:=c_ RM aa a3;go_wp;refine b9 ET ?_;rintro bx ⟨rj,q1,q2,q3,q4⟩;have HF:=fM q1 q2 q3 q4;go_wp2;go_end0
 have⟨q1,q2,q3,q4⟩:=HF;refine⟨rfl,rj,?_,q2,λk e=>bz (by have:=HK.1.size;omega) (q3 k e),HK.1.trans' q4 (λi _ x=>inl x)⟩;rw[q1,<-HK.2.1,ad];congr 2;apply Array.ext_getElem?;intro j;simp only[Array.getElem?_setIfInBounds,Array.size_setIfInBounds];by_cases e1:so+1=j
 ·simp[e1]
 by_cases e2:so=j
 ·simp[e2]
 simp[e1,e2]
