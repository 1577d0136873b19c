import Derived.Test.YtnlbchmfcebeeaaGreatTRc
set_option maxHeartbeats 12800000
set_option maxRecDepth 100000
namespace Go.Proofs.YtnlbchmfcebeeaaGreat
open Go.Proofs.Tryz Ch
open Go.RowKit
open Value(int slice bool pointer string agg tuple)
open IntKind(i64)
open Obj(cells)
open Ending(returned)
open Operand(tmp)
open Or(inl inr)
namespace Ch
theorem SI.asks{ol x all log}(h:SI ol x all log)u r:SI ol (rK x u r).1 all log/\(rK x u r).1.bj=x.bj:=by
 unfold rK;split
 ·simp_all
 rename_i k hk;have hu:x.ai[u.toNat]? =some k:=by
  grind[ub]
 split
 ·simp_all
 rename_i c;split
 ·rename_i D;exact⟨h.ask hu (cX c) D,rfl⟩
 simp_all
end Ch
theorem Kf{w:World}{E}{o}(h:w.heap[E]? =some (cells (mr o) 81 (0,0))):∀j v,([int i64 o.rk,string o.re,int i64 o.ra]:List Value)[j]? =some v->w.cell? ⟨E,11+j,none⟩=some v:=by
 intro j v D;rw[World.cell?,h];have:j<3:=(aM.1 D).1;rcases(by omega:j=0\/j=1\/j=2)with rfl|rfl|rfl<;>exact D
def Ay(k:Int)(n:Nat):Nat:=if k<0\/(n:Int)<=k then 0 else k.toNat
theorem RC w k(n:Nat):
 Calls prog 103 #[int i64 k,int i64 n] w λx w'=>x=returned (int i64 (Ay k n))/\w'=w:=by
 by_cases q:k<0
 ·have H:=ag (show Ay k n=0 from aq (inl q));go_in;exact iN H
 by_cases D:(n:Int)<=k
 ·have H:=ag (show Ay k n=0 from aq (inr D));go_in;exact iN H
 have H:=ag (show((Ay k n:Nat):Int)=k by unfold Ay;rw[ax oQ];omega);go_in;exact iN H
theorem Vd{k n}(h:0<n):Ay k n<n:=by unfold Ay;split<;>omega
theorem lI.aw{w w' D p ol av x' all log}(q:lI w w' p ol av x' all log)(K:Kp bA w' D):lI w D p ol av x' all log:=by
 have⟨z9,h',n',K'⟩:=q;exact⟨z9,h'.aw K,n',K'.trans' K gM⟩
theorem Nu w{B}{wb}{nv}{qv}{N}{M}{Ss}{sv}{iv}{mv}{es}{k}(h:xm w B wb nv qv N M Ss sv iv mv es k)o(hN:N<=910000000000)(hM:M<=910000000000):
 Calls prog 66 #[pointer (some ⟨wb,0,none⟩),agg (mr o)] w λy w'=>y=returned (bool true)/\(∃Yl OI OF mv' ap k',xm w' B wb nv qv (N+1) (M+1) Yl OI OF mv' ap k')/\Kp (λi=>B<=i) w w':=by
 have⟨d,hd,iT⟩:=SR;have⟨dq,SC,DS⟩:=Oz;have⟨dr,hdr,fX⟩:=o0;have ad:=ak w (cells (mr o) 81);have K1:=kG w (cells (mr o) 81);have h1:=h.aw K1;have bi:=bz h.sl hN;have aI:_=some (mr o).size:=LF;go_in;go_upto_region 1 with fail;have a3:∀{i:Nat} {s:Sx},Ss[i]? =some s->∀q,Nt s q->q<w.heap.size:=λhi q hq=>(h.sb _ _ hi).low hq;generalize w.alloc (cells (mr o) 81)=w1 at*;generalize w.heap.size=Q at*;have c0:w1.cell? ⟨Q,0,none⟩=some (int i64 o.kind):=dG ad rfl;have bc:w1.cell? ⟨Q,10,none⟩=some (int i64 o.at_):=dG ad rfl;by_cases q7:o.kind=7
 ·have E:=ag (Vc w1 h1 o hN);rw[q7]at c0;have HK:=ag K1;generalize mr o=OA at*;go_wp2_with (refine gV ad hd iT aI ?_);refine b9 E ?_;rintro X ⟨⟨Yl,OI,L2⟩,K2⟩;have HZ:=bw L2 ((HK.out.mono (S':=λi=>B<=i) gM).trans K2);go_wp2;go_ret;exact⟨rfl,⟨_,_,_,_,_,_,HZ.out.1⟩,HZ.out.2⟩
 have bm:(o.kind==7)=false:=cX q7;have⟨ao,cap,hsv⟩:=bp h1.Hg;have x0:_=some sv:=h1.cell 0;rw[hsv]at x0;by_cases hz:Ss.length=0
 ·rw[hz]at x0;have HZ:=bw (h1.up (cT N) (cT M)) (K1.mono (S':=λi=>B<=i) gM);go_wp2;go_ret;exact⟨rfl,⟨_,_,_,_,_,_,HZ.out.1⟩,HZ.out.2⟩
 have bk:((Ss.length:Int)==0)=false:=by rw[sY];omega
 have EP:=ag (λW=>RC W o.at_ Ss.length);have aS:=Vd (k:=o.at_) (n:=Ss.length) oQ;generalize Ay o.at_ Ss.length=i at*;have a9:(i:Int)<(Ss.length:Int):=oQ;obtain⟨s,hi⟩:∃s,Ss[i]? =some s:=⟨_,au aS⟩
 have⟨g,cp,hg,_⟩:=cO h1.Hg oQ;rw[hsv]at hg;simp only[aH,cA]at hg;obtain⟨rfl,-⟩:=hg;have xg:w1.cell? ⟨g,i,none⟩=some (pointer (some ⟨s.b,0,none⟩)):=by
  have:=h1.Hg;rw[hsv]at this;exact(bK this i (cX aS)).trans (by rw[bD,hi];rfl)
 have HX:=fM h1 K1 hi (λq hq=>a3 hi q hq);go_upto_region 5 with fail;go_cut [5]from 27 to 40 (λv wx=>v= pointer (some ⟨s.b,0,none⟩)/\Kp bA w1 wx)
 case first=>
  go_quiet ((go_at_call 103;exact j7 (fA EP _)));go_wp2;go_meet;exact⟨rfl,(Kp.refl _ _).drewN _⟩
 case rest=>
  obtain⟨rfl,K2⟩:=hcut;have h2:=HX.1.aw K2;have hs:=h2.sb i s HX.2.2.1;have wm:=K2.at_ ad (λx=>x);have U:=hs.pair;have KX:=HX.2.1.trans K2;have aO:=HX.2.2.2;have am:=K2.bN c0;generalize wc=X at*;have hi:=HX.2.2.1;have⟨b1,b2,b3⟩:=h2.bd i s hi;have a1:=h2.size;have be:=hs.sv.low;have OG:=λq hq=>aO q (inr (inl hq));have Fu:=λq hq=>aO q (inr (inr hq));have a0:=hs.rv.rf.ok;by_cases q8:o.kind=8
  ·rw[q8]at am;have E1:=ag (UT X.drew (hs.sv.aw ((Kp.refl _ _).drewN 1)) o.n ⟨o.rk,o.re,o.ra⟩);have HS:=ag (hs.si.asks o.n ⟨o.rk,o.re,o.ra⟩);have HX:=c_ h2 hs KX;generalize a5:rK s.x o.n ⟨o.rk,o.re,o.ra⟩=AS at*;have a2:=ag a5;go_upto_region 8 with fail;have D:X.drew.heap[Q]? =some (cells (mr o) 81 (0,0))/\X.drew.heap[s.b]? =some (cells #[pointer (some ⟨s.xb,0,none⟩),pointer (some ⟨s.p.yb,0,none⟩)] 181 (0,0)):=⟨wm,U⟩
   refine aY (λw'=>w'.heap[Q]? =some (cells (mr o) 81 (0,0))/\w'.heap[s.b]? =some (cells #[pointer (some ⟨s.xb,0,none⟩),pointer (some ⟨s.p.yb,0,none⟩)] 181 (0,0))) bZ ?_;refine bR 0 45 (pointer (some ⟨s.b,0,none⟩)) D ?_;refine bR 1 46 (pointer (some ⟨s.b,0,none⟩)) D ?_;refine bR 2 47 (pointer (some ⟨s.b,0,none⟩)) D ?_;refine fh 3 48 (pointer (some ⟨s.xb,0,none⟩)) rfl (λw' hS=>by simp[execOp,Act.eval,go_sem,show w'.cell? ⟨s.b,0,none⟩=some (pointer (some ⟨s.xb,0,none⟩))by rw[World.cell?,hS.2];rfl]) D ?_;refine bR 4 49 (pointer (some ⟨Q,9,none⟩)) D ?_;refine fh 5 50 (int i64 o.n) rfl (λw' hS=>by simp[execOp,Act.eval,go_sem,show w'.cell? ⟨Q,9,none⟩=some (int i64 o.n)by rw[World.cell?,hS.1];rfl]) D ?_;refine bR 6 51 (pointer (some ⟨Q,11,none⟩)) D ?_;refine fh 7 52 (agg (vk ⟨o.rk,o.re,o.ra⟩)) rfl (λw' hS=>eT 79 (tmp 51) rfl Q 11 rfl [int i64 o.rk,string o.re,int i64 o.ra] dq (Kf hS.1) SC DS Nb) D ?_;refine pf 8 ?_;refine er (some 53) rfl 60 #[pointer (some ⟨s.xb,0,none⟩),int i64 o.n,agg (vk ⟨o.rk,o.re,o.ra⟩)] wX (int i64 AS.2) _ (E1).out ?_;intro J O;have G:J.heap[Q]? =some (cells (mr o) 81 (0,0)):=by have⟨_,_,_,K5⟩:=O;exact K5.at_ wm (λx=>by have:=OG _ x;omega)
   have Yn:=jh.trans ((Kp.refl _ _).drewN 1) (λ_ e=>inl e) O;have Y:=hs.Aj (Yn.choose_spec.2.2);have I:=Y.2;refine⟨⟨G,I⟩,?_⟩;simp only[Act.put,pA,pB,pC];refine tk 9 6 (int i64 AS.2) rfl bZ rfl rfl yX ⟨G,I⟩ ?_;simp only[Act.put,pA,pB,pC];refine bG bZ (bH ?_) _;have E2:=ag (U4 J.drew (Y.1.aw ((Kp.refl _ _).drewN 1)) o.n ⟨o.rk,o.re,o.ra⟩);rw[a2]at E2;have HQ:=bw Yn Y;replace wm:=G;replace U:=I;generalize J=w6 at*;go_upto_region 9 with fail;have D:w6.drew.heap[Q]? =some (cells (mr o) 81 (0,0))/\w6.drew.heap[s.b]? =some (cells #[pointer (some ⟨s.xb,0,none⟩),pointer (some ⟨s.p.yb,0,none⟩)] 181 (0,0)):=⟨wm,U⟩
   refine aY (λw'=>w'.heap[Q]? =some (cells (mr o) 81 (0,0))/\w'.heap[s.b]? =some (cells #[pointer (some ⟨s.xb,0,none⟩),pointer (some ⟨s.p.yb,0,none⟩)] 181 (0,0))) bZ ?_;refine bR 0 54 (pointer (some ⟨s.b,0,none⟩)) D ?_;refine bR 1 55 (pointer (some ⟨s.b,0,none⟩)) D ?_;refine bR 2 56 (pointer (some ⟨s.b,1,none⟩)) D ?_;refine fh 3 57 (pointer (some ⟨s.p.yb,0,none⟩)) rfl (λw' hS=>by simp[execOp,Act.eval,go_sem,show w'.cell? ⟨s.b,1,none⟩=some (pointer (some ⟨s.p.yb,0,none⟩))by rw[World.cell?,hS.2];rfl]) D ?_;refine bR 4 58 (pointer (some ⟨Q,9,none⟩)) D ?_;refine fh 5 59 (int i64 o.n) rfl (λw' hS=>by simp[execOp,Act.eval,go_sem,show w'.cell? ⟨Q,9,none⟩=some (int i64 o.n)by rw[World.cell?,hS.1];rfl]) D ?_;refine bR 6 60 (pointer (some ⟨Q,11,none⟩)) D ?_;refine fh 7 61 (agg (vk ⟨o.rk,o.re,o.ra⟩)) rfl (λw' hS=>eT 79 (tmp 60) rfl Q 11 rfl [int i64 o.rk,string o.re,int i64 o.ra] dq (Kf hS.1) SC DS Nb) D ?_;refine pf 8 ?_;refine er (some 62) rfl 104 #[pointer (some ⟨s.p.yb,0,none⟩),int i64 o.n,agg (vk ⟨o.rk,o.re,o.ra⟩)] wX (int i64 AS.2) _ (E2).out ?_;intro J O;have G:J.heap[Q]? =some (cells (mr o) 81 (0,0)):=by have⟨_,_,_,K5⟩:=O;exact K5.at_ wm (λx=>by have:=Fu _ x;omega)
   have ab:=lI.trans ((Kp.refl _ _).drewN 1) (λ_ e=>inl e) O;have SQ:=HX.2.1.step HQ.1 ab HS.1;have I:J.heap[s.b]? =some (cells #[pointer (some ⟨s.xb,0,none⟩),pointer (some ⟨s.p.yb,0,none⟩)] 181 (0,0)):=by have⟨_,_,h5,_⟩:=SQ;exact h5.pair
   refine⟨⟨G,I⟩,?_⟩;simp only[Act.put,pA,pB,pC];refine tk 9 7 (int i64 AS.2) rfl bZ rfl rfl yX ⟨G,I⟩ ?_;simp only[Act.put,pA,pB,pC];refine bG bZ (bH ?_) _;have⟨⟨Yl,L5⟩,K5⟩:=HX.1.served hi SQ a1.1 (cT _) (Nat.le_add_right _ _) (by rw[HS.2];exact cT _);have HZ:=bw (L5.up (aC _) (cT M)) ((HX.2.2.mono (S':=λi=>B<=i) gM).trans K5);have EN:=ag (oN J AS.2);generalize AS.2=e at*;go_wp;refine b9 EN ?_;intro w7 e7;rw[e7];go_wp21;refine b9 EN ?_;intro w7 e7;rw[e7];go_wp2;go_ret;exact⟨dy,⟨_,_,_,_,_,_,HZ.1⟩,HZ.2⟩
  have bo:(o.kind==8)=false:=cX q8;by_cases q9:o.kind=9
  ·rw[q9]at am;have bb:=aR wm;have aj:s.log.size<=5500000000000000000:=by
    have:=Nat.mul_le_mul_left 6000000 hN;refine bz b2 (bz (Nat.add_le_add_left this _) aV)
   have a6:=hs.si.bd oQ aj oQ;have E1:∀W,Kp bA X W->Hid (Calls prog 38 #[pointer (some ⟨s.xb,0,none⟩),int i64 o.n] W λr w'=>r=returned (tuple #[agg (bU (cW s.ol s.x o.n).2.1),bool (cW s.ol s.x o.n).2.2.1,int i64 (cW s.ol s.x o.n).2.2.2])/\jh W w' s.xb s.tb 138 s.pc s.ol s.kv (cW s.ol s.x o.n).1):=λW K=>ag (Rh W (hs.sv.aw K) a6 a0 o.n (λt ht=>by
    have hu:s.x.ai[o.n.toNat]? =some t:=by
     unfold ub at ht;split at ht
     ·exact ht
     cases ht
    exact hs.si.Yf hs.rd a0 hu))
   have E2:∀W,kL W s.p s.ol s.x s.all s.log s.av->Hid (Calls prog 105 #[pointer (some ⟨s.p.yb,0,none⟩),int i64 o.n] W λr w'=>r=returned (tuple #[agg (bU (cW s.ol s.x o.n).2.1),bool (cW s.ol s.x o.n).2.2.1,int i64 (cW s.ol s.x o.n).2.2.2])/\∃F log',lI W w' s.p s.ol s.av (cW s.ol s.x o.n).1 F log'/\SI s.ol (cW s.ol s.x o.n).1 F log'/\F.length<=s.all.length+1/\log'.size<=s.log.size+6000000/\(cW s.ol s.x o.n).1.bj<=s.x.bj+1):=λW hW=>ag ((Ry W hW hs.si hs.rd o.n oQ aj oQ).mono (λy w' hy=>by
    have⟨F,log',e1,e2,e3,e4,e5,e6⟩:=hy;exact⟨e1,F,log',e2,e3,e4,e5,e6⟩))
   have HX:=bw h2 KX;generalize cW s.ol s.x o.n=R at*;have⟨x',rp,d,ec⟩:=R;simp only at E1 E2;go_upto_region 12 with fail;go_cut [8,9,10]from 70 to 80 (λp a b wx=>∃rb,p= pointer (some ⟨rb,0,none⟩)/\a= bool d/\b= int i64 ec/\wx.heap[rb]? =some (cells (bU rp) 64 (0,0))/\wx.heap[Q]? =some (cells (mr o) 81 (0,0))/\jh X wx s.xb s.tb 138 s.pc s.ol s.kv x'/\X.heap.size<=rb)
   case first=>
    have D:X.drew.heap[Q]? =some (cells (mr o) 81 (0,0))/\X.drew.heap[s.b]? =some (cells #[pointer (some ⟨s.xb,0,none⟩),pointer (some ⟨s.p.yb,0,none⟩)] 181 (0,0)):=⟨wm,U⟩
    refine aY (λw'=>w'.heap[Q]? =some (cells (mr o) 81 (0,0))/\w'.heap[s.b]? =some (cells #[pointer (some ⟨s.xb,0,none⟩),pointer (some ⟨s.p.yb,0,none⟩)] 181 (0,0))) bZ ?_;refine bR 0 71 (pointer (some ⟨s.b,0,none⟩)) D ?_;refine bR 1 72 (pointer (some ⟨s.b,0,none⟩)) D ?_;refine bR 2 73 (pointer (some ⟨s.b,0,none⟩)) D ?_;refine fh 3 74 (pointer (some ⟨s.xb,0,none⟩)) rfl (λw' hS=>by simp[execOp,Act.eval,go_sem,show w'.cell? ⟨s.b,0,none⟩=some (pointer (some ⟨s.xb,0,none⟩))by rw[World.cell?,hS.2];rfl]) D ?_;refine bR 4 75 (pointer (some ⟨Q,9,none⟩)) D ?_;refine fh 5 76 (int i64 o.n) rfl (λw' hS=>by simp[execOp,Act.eval,go_sem,show w'.cell? ⟨Q,9,none⟩=some (int i64 o.n)by rw[World.cell?,hS.1];rfl]) D ?_;refine qZ 6 11 bZ rfl rfl rfl rfl ?_ ?_
    ·refine er (some 77) rfl 38 #[pointer (some ⟨s.xb,0,none⟩),int i64 o.n] wX (tuple #[agg (bU rp),bool d,int i64 ec]) _ (E1 X.drew ((Kp.refl _ _).drewN 1)).out ?_;intro J O;have G:=O.at_ OG wm;have Yn:=jh.trans ((Kp.refl _ _).drewN 1) (λ_ e=>inl e) O;have I:=(hs.Aj Yn.choose_spec.2.2).2;have vh:=ak J (cells aU 64);have Z:=rQ J (cells aU 64) (bU rp);have J5:=kG J (cells aU 64);refine⟨⟨G,I⟩,?_⟩;simp only[Act.put,pA,pB,pC];refine tk 7 70 (tuple #[agg (bU rp),bool d,int i64 ec]) rfl bZ rfl rfl yX ⟨G,I⟩ ?_;simp only[Act.put,pA,pB,pC];refine tk 8 78 (agg (bU rp)) rfl bZ rfl rfl yX ⟨G,I⟩ ?_;simp only[Act.put,pA,pB,pC];refine tk 9 79 (bool d) rfl bZ rfl rfl yX ⟨G,I⟩ ?_;simp only[Act.put,pA,pB,pC];refine tk 10 80 (int i64 ec) rfl bZ rfl rfl yX ⟨G,I⟩ ?_;simp only[Act.put,pA,pB,pC];refine pf 11 ?_;refine gA (some 8) rfl (pointer (some ⟨J.heap.size,0,none⟩)) (J.alloc (cells aU 64)) Fv ?_;simp only[Act.put,pA,pB,pC];refine⟨⟨J5.at_ G (λx=>x),J5.at_ I (λx=>x)⟩,?_⟩;refine cQ 12 bZ rfl rfl 64 (tmp 8) (tmp 78) rfl rfl J.heap.size (bU rp) nQ nQ 64 aU vh bh rfl (du _) ⟨Z.at_ G (λx=>x),Z.at_ I (λx=>x)⟩ ?_;refine tk 13 9 (bool d) rfl bZ rfl rfl yX ⟨Z.at_ G (λx=>x),Z.at_ I (λx=>x)⟩ ?_;simp only[Act.put,pA,pB,pC];refine tk 14 10 (int i64 ec) rfl bZ rfl rfl yX ⟨Z.at_ G (λx=>x),Z.at_ I (λx=>x)⟩ ?_;simp only[Act.put,pA,pB,pC];refine bG bZ (bH ?_) _;go_wp2;go_meet;exact⟨J.heap.size,rfl,rfl,rfl,an _ _ _ _ _ _ vh,Z.at_ G (λx=>x),Yn.aw Z,Yn.choose_spec.2.2.size⟩
    refine gA (some 8) rfl (pointer (some ⟨X.heap.size,0,none⟩)) (X.drew.alloc (cells aU 64)) Fv ?_;simp only[Act.put,pA,pB,pC];have J4:Kp bA X (X.drew.alloc (cells aU 64)):=((Kp.refl _ _).drewN 1).alloc _;have vU:=ak X.drew (cells aU 64);have Ve:=J4.at_ wm (λx=>x);have Z5:=J4.at_ U (λx=>x);refine⟨⟨Ve,Z5⟩,?_⟩;refine pf 6 ?_;refine er (some 77) rfl 38 #[pointer (some ⟨s.xb,0,none⟩),int i64 o.n] wX (tuple #[agg (bU rp),bool d,int i64 ec]) _ (E1 _ J4).out ?_;intro J O;have G:=O.at_ OG Ve;have Yn:=jh.trans (J4.mono gM) (λ_ e=>inl e) O;have I:=(hs.Aj Yn.choose_spec.2.2).2;have rW:J.heap[X.heap.size]? =_:=O.at_ (λq hq=>by have:=OG q hq;omega) vU;refine⟨⟨G,I⟩,?_⟩;simp only[Act.put,pA,pB,pC];refine tk 7 70 (tuple #[agg (bU rp),bool d,int i64 ec]) rfl bZ rfl rfl yX ⟨G,I⟩ ?_;simp only[Act.put,pA,pB,pC];refine tk 8 78 (agg (bU rp)) rfl bZ rfl rfl yX ⟨G,I⟩ ?_;simp only[Act.put,pA,pB,pC];refine tk 9 79 (bool d) rfl bZ rfl rfl yX ⟨G,I⟩ ?_;simp only[Act.put,pA,pB,pC];refine tk 10 80 (int i64 ec) rfl bZ rfl rfl yX ⟨G,I⟩ ?_;simp only[Act.put,pA,pB,pC];have J7:=(Kp.refl (λi=>i=X.heap.size) J).setRow (g:=X.heap.size) (λ_=>rfl) (bU rp);have Kg:=J7.at_ G oQ;have Nv:=J7.at_ I (by have:=aR U;omega);refine cQ 12 bZ rfl rfl 64 (tmp 8) (tmp 78) rfl rfl X.heap.size (bU rp) nQ nQ 64 aU rW bh rfl (du _) ⟨Kg,Nv⟩ ?_;refine tk 13 9 (bool d) rfl bZ rfl rfl yX ⟨Kg,Nv⟩ ?_;simp only[Act.put,pA,pB,pC];refine tk 14 10 (int i64 ec) rfl bZ rfl rfl yX ⟨Kg,Nv⟩ ?_;simp only[Act.put,pA,pB,pC];refine bG bZ (bH ?_) _;go_wp2;go_meet;exact⟨X.heap.size,rfl,rfl,rfl,an _ _ _ _ _ _ rW,Kg,jh.eV (J4.mono gM) O rW (bU rp),aC _⟩
   case rest=>
    obtain⟨rb,rfl,rfl,rfl,a7,QQ,Q3,bg⟩:=hcut;have Y:=hs.Aj Q3.choose_spec.2.2;have a4:=Y.2;have E3:∀W,Kp bA wc W->_:=λW K=>E2 W (Y.1.aw K);generalize wc=w3 at*;replace wm:=QQ;replace U:=a4;have ba:=aR wm;go_upto_region 13 with fail;go_cut [11,12,13]from 81 to 91 (λp a b wx=>∃rc,p= pointer (some ⟨rc,0,none⟩)/\a= bool d/\b= int i64 ec/\wx.heap[rc]? =some (cells (bU rp) 64 (0,0))/\∃F log',lI w3 wx s.p s.ol s.av x' F log'/\SI s.ol x' F log'/\F.length<=s.all.length+1/\log'.size<=s.log.size+6000000/\x'.bj<=s.x.bj+1)
    case first=>
     have D:w3.drew.heap[Q]? =some (cells (mr o) 81 (0,0))/\w3.drew.heap[s.b]? =some (cells #[pointer (some ⟨s.xb,0,none⟩),pointer (some ⟨s.p.yb,0,none⟩)] 181 (0,0)):=⟨wm,U⟩
     refine aY (λw'=>w'.heap[Q]? =some (cells (mr o) 81 (0,0))/\w'.heap[s.b]? =some (cells #[pointer (some ⟨s.xb,0,none⟩),pointer (some ⟨s.p.yb,0,none⟩)] 181 (0,0))) bZ ?_;refine bR 0 82 (pointer (some ⟨s.b,0,none⟩)) D ?_;refine bR 1 83 (pointer (some ⟨s.b,0,none⟩)) D ?_;refine bR 2 84 (pointer (some ⟨s.b,1,none⟩)) D ?_;refine fh 3 85 (pointer (some ⟨s.p.yb,0,none⟩)) rfl (λw' hS=>by simp[execOp,Act.eval,go_sem,show w'.cell? ⟨s.b,1,none⟩=some (pointer (some ⟨s.p.yb,0,none⟩))by rw[World.cell?,hS.2];rfl]) D ?_;refine bR 4 86 (pointer (some ⟨Q,9,none⟩)) D ?_;refine fh 5 87 (int i64 o.n) rfl (λw' hS=>by simp[execOp,Act.eval,go_sem,show w'.cell? ⟨Q,9,none⟩=some (int i64 o.n)by rw[World.cell?,hS.1];rfl]) D ?_;refine qZ 6 11 bZ rfl rfl rfl rfl ?_ ?_
     ·refine er (some 88) rfl 105 #[pointer (some ⟨s.p.yb,0,none⟩),int i64 o.n] wX (tuple #[agg (bU rp),bool d,int i64 ec]) _ (E3 w3.drew ((Kp.refl _ _).drewN 1)).out ?_;intro J O;have⟨F,log',O,aa,c1,c2,c3⟩:=O;have G:=O.zero Fu wm;have ab:=lI.trans ((Kp.refl _ _).drewN 1) (λ_ e=>inl e) O;have I:J.heap[s.b]? =some (cells #[pointer (some ⟨s.xb,0,none⟩),pointer (some ⟨s.p.yb,0,none⟩)] 181 (0,0)):=by have⟨_,_,h5,_⟩:=hs.step Q3 ab aa;exact h5.pair
      have vh:=ak J (cells aU 64);have Z:=rQ J (cells aU 64) (bU rp);have J5:=kG J (cells aU 64);refine⟨⟨G,I⟩,?_⟩;simp only[Act.put,pA,pB,pC];refine tk 7 81 (tuple #[agg (bU rp),bool d,int i64 ec]) rfl bZ rfl rfl yX ⟨G,I⟩ ?_;simp only[Act.put,pA,pB,pC];refine tk 8 89 (agg (bU rp)) rfl bZ rfl rfl yX ⟨G,I⟩ ?_;simp only[Act.put,pA,pB,pC];refine tk 9 90 (bool d) rfl bZ rfl rfl yX ⟨G,I⟩ ?_;simp only[Act.put,pA,pB,pC];refine tk 10 91 (int i64 ec) rfl bZ rfl rfl yX ⟨G,I⟩ ?_;simp only[Act.put,pA,pB,pC];refine pf 11 ?_;refine gA (some 11) rfl (pointer (some ⟨J.heap.size,0,none⟩)) (J.alloc (cells aU 64)) Fv ?_;simp only[Act.put,pA,pB,pC];refine⟨⟨J5.at_ G (λx=>x),J5.at_ I (λx=>x)⟩,?_⟩;refine cQ 12 bZ rfl rfl 64 (tmp 11) (tmp 89) rfl rfl J.heap.size (bU rp) nQ nQ 64 aU vh bh rfl (du _) ⟨Z.at_ G (λx=>x),Z.at_ I (λx=>x)⟩ ?_;refine tk 13 12 (bool d) rfl bZ rfl rfl yX ⟨Z.at_ G (λx=>x),Z.at_ I (λx=>x)⟩ ?_;simp only[Act.put,pA,pB,pC];refine tk 14 13 (int i64 ec) rfl bZ rfl rfl yX ⟨Z.at_ G (λx=>x),Z.at_ I (λx=>x)⟩ ?_;simp only[Act.put,pA,pB,pC];refine bG bZ (bH ?_) _;go_wp2;go_meet;exact⟨J.heap.size,rfl,rfl,rfl,an _ _ _ _ _ _ vh,F,log',ab.aw Z,aa,c1,c2,c3⟩
     refine gA (some 11) rfl (pointer (some ⟨w3.heap.size,0,none⟩)) (w3.drew.alloc (cells aU 64)) Fv ?_;simp only[Act.put,pA,pB,pC];have J4:Kp bA w3 (w3.drew.alloc (cells aU 64)):=((Kp.refl _ _).drewN 1).alloc _;have vU:=ak w3.drew (cells aU 64);have Ve:=J4.at_ wm (λx=>x);have Z5:=J4.at_ U (λx=>x);refine⟨⟨Ve,Z5⟩,?_⟩;refine pf 6 ?_;refine er (some 88) rfl 105 #[pointer (some ⟨s.p.yb,0,none⟩),int i64 o.n] wX (tuple #[agg (bU rp),bool d,int i64 ec]) _ (E3 _ J4).out ?_;intro J O;have⟨F,log',O,aa,c1,c2,c3⟩:=O;have G:=O.zero Fu Ve;have ab:=lI.trans (J4.mono gM) (λ_ e=>inl e) O;have I:J.heap[s.b]? =some (cells #[pointer (some ⟨s.xb,0,none⟩),pointer (some ⟨s.p.yb,0,none⟩)] 181 (0,0)):=by have⟨_,_,h5,_⟩:=hs.step Q3 ab aa;exact h5.pair
     have rW:J.heap[w3.heap.size]? =_:=O.zero (λq hq=>by have:=Fu q hq;omega) vU;refine⟨⟨G,I⟩,?_⟩;simp only[Act.put,pA,pB,pC];refine tk 7 81 (tuple #[agg (bU rp),bool d,int i64 ec]) rfl bZ rfl rfl yX ⟨G,I⟩ ?_;simp only[Act.put,pA,pB,pC];refine tk 8 89 (agg (bU rp)) rfl bZ rfl rfl yX ⟨G,I⟩ ?_;simp only[Act.put,pA,pB,pC];refine tk 9 90 (bool d) rfl bZ rfl rfl yX ⟨G,I⟩ ?_;simp only[Act.put,pA,pB,pC];refine tk 10 91 (int i64 ec) rfl bZ rfl rfl yX ⟨G,I⟩ ?_;simp only[Act.put,pA,pB,pC];have J7:=(Kp.refl (λi=>i=w3.heap.size) J).setRow (g:=w3.heap.size) (λ_=>rfl) (bU rp);have Kg:=J7.at_ G oQ;have Nv:=J7.at_ I (by have:=aR U;omega);refine cQ 12 bZ rfl rfl 64 (tmp 11) (tmp 89) rfl rfl w3.heap.size (bU rp) nQ nQ 64 aU rW bh rfl (du _) ⟨Kg,Nv⟩ ?_;refine tk 13 12 (bool d) rfl bZ rfl rfl yX ⟨Kg,Nv⟩ ?_;simp only[Act.put,pA,pB,pC];refine tk 14 13 (int i64 ec) rfl bZ rfl rfl yX ⟨Kg,Nv⟩ ?_;simp only[Act.put,pA,pB,pC];refine bG bZ (bH ?_) _;go_wp2;go_meet;exact⟨w3.heap.size,rfl,rfl,rfl,an _ _ _ _ _ _ rW,F,log',lI.eV J4 (λq hq=>by have:=Fu q hq;omega) O rW (bU rp),aa,c1,c2,c3⟩
    case rest=>
     obtain⟨rc,rfl,rfl,rfl,a8,F,log',Q4,aa,c1,c2,c3⟩:=hcut;have Ju:=Q4.zero (λq hq=>by have:=Fu q hq;omega) a7;have⟨⟨Yl,L5⟩,K5⟩:=HX.1.served hi (hs.step Q3 Q4 aa) a1.1 c1 c2 c3;have HZ:=bw (L5.up (aC _) (cT M)) ((HX.2.mono (S':=λi=>B<=i) gM).trans K5);have ES:=ag (DV wc rp);go_wp2_with (first|refine gV Ju hdr fX bh ?_|refine gV a8 hdr fX bh ?_);refine b9 ES ?_;intro w7 K7;have EN:=ag (oN w7 ec);have HF:=bw (HZ.1.aw K7) (HZ.2.trans' K7 gM);go_wp21;refine b9 EN ?_;intro w8 e8;rw[e8];go_wp21;refine b9 EN ?_;intro w8 e8;rw[e8];go_wp2;go_ret;exact⟨dy,⟨_,_,_,_,_,_,HF.1⟩,HF.2⟩
  have br:(o.kind==9)=false:=cX q9;have EK:=ag (Ft X h2 hi hN (bz hM (Nat.le_add_left _ _)));have HK:=ag KX;go_wp;refine b9 EK ?_;rintro w3 ⟨⟨OF,mv',ap,k',L3⟩,K3⟩;have HZ:=bw (L3.up (cT N) (aC _)) ((HK.mono (S':=λi=>B<=i) gM).trans K3);go_wp2;go_ret;exact⟨rfl,⟨_,_,_,_,_,_,HZ.1⟩,HZ.2⟩
theorem Nw w v D lo hi(J:Nat->World->Prop)(WE:World->Prop)(hs:Vn w v D)(hl:D.length<=maxLen)(G:∀k W,J k W->J (k+1) W)(h0:J 0 (w.alloc (cells #[slice none 0 0,slice none 0 0,slice none 0 0,slice none 0 0,slice none 0 0,int i64 0] 77)))(I:∀ k W o,k<D.length->o∈D->lo<=o.kind->o.kind<=hi->J k W->KB w.heap.size w W->Calls prog 39 #[pointer (some ⟨w.heap.size,0,none⟩),agg (mr o)] W λx W'=>x=returned (bool true)/\J (k+1) W'/\KB w.heap.size W W')(Yo:∀W,J D.length W->KB w.heap.size w W->Calls prog 40 #[pointer (some ⟨w.heap.size,0,none⟩)] W λx W'=>x=returned (bool true)/\WE W'/\KB w.heap.size W W')(Yp:∀W,WE W->KB w.heap.size w W->Calls prog 41 #[pointer (some ⟨w.heap.size,0,none⟩)] W λx W'=>x=returned (bool true)/\KB w.heap.size W W'):
 Calls prog 19 #[v,int i64 lo,int i64 hi] w λx w'=>x=returned (bool true)/\Kp bA w w':=by
 unfold maxLen at hl;have⟨d,hd,iT⟩:=SR;obtain⟨ao,aI,rfl⟩:=hs.len;have K0:KB w.heap.size w (w.alloc (cells #[slice none 0 0,slice none 0 0,slice none 0 0,slice none 0 0,slice none 0 0,int i64 0] 77)):=(Kp.refl _ _).alloc _;have ab:=ag I;have O:=ag G;have Y:=ag Yo;have Z:=ag Yp;have aa:=ag hs;clear I Yo Yp hs G;go_in;go_upto_region 3 with fail;generalize w.alloc (cells #[slice none 0 0,slice none 0 0,slice none 0 0,slice none 0 0,slice none 0 0,int i64 0] 77)=w1 at*;go_loopw [8] (λi wr=>∃k:Nat,i= int i64 k/\k<=D.length/\Hid (J k wr/\KB w.heap.size w wr)) (λi _=>D.length-(intOf i).toNat)
 case atStart=>exact⟨0,rfl,aA _,ag ⟨h0,K0⟩⟩
 case round=>
  obtain⟨k,rfl,hk,F⟩:=hrel;by_cases Q:k<D.length
  ·have ap:(k:Int)<D.length:=oQ;obtain⟨o,ho⟩:∃o,D[k]? =some o:=⟨_,au Q⟩
   have⟨g,off,cap',hv,hc⟩:=(aa.aB F.2).at_ ho;simp only[aH,cA]at hv;obtain⟨rfl,rfl⟩:=hv;have z0:wr.cell? ⟨g,off+k*14,none⟩=_:=hc 0 _ rfl;by_cases am:lo<=o.kind
   ·by_cases aj:o.kind<=hi
    ·have E:=ag (ab k wr o Q (aP ho) am aj F.1 F.2);go_wp2_with (refine bS rfl 81 (tmp 38) rfl g (off+k*14) rfl (YL o) d hc hd iT LF ?_);refine b9 E ?_;rintro X ⟨U,R⟩;have ad:=ag (show J (k+1) X/\KB w.heap.size w X from⟨U,Kp.trans F.2 R⟩);clear E U R;go_wp2;exact⟨⟨k+1,eb,oQ,ad⟩,ew⟩
    go_wp2;exact⟨⟨k+1,eb,oQ,ag ⟨O _ _ F.1,F.2⟩⟩,ew⟩
   go_wp2;exact⟨⟨k+1,eb,oQ,ag ⟨O _ _ F.1,F.2⟩⟩,ew⟩
  have aO:¬(k:Int)<D.length:=oQ;obtain rfl:k=D.length:=oQ;have E1:=ag (Y wr F.1 F.2);go_wp;refine b9 E1 ?_;rintro X ⟨U,R⟩;have K3:KB _ _ _:=Kp.trans F.2 R;have E2:=ag (Z X U K3);go_wp21;refine b9 E2 ?_;intro w3 K4;go_wp2;go_ret;exact⟨rfl,(show KB w.heap.size w w3 from Kp.trans K3 K4).mono (λi hi x=>oQ)⟩
theorem XA ss:(Hf ss).length=ss.length*3:=by
 unfold Hf;induction ss with
 |nil=>rfl
 |cons a l D=>rw[qw,ix,D];grind[ndA]
theorem Z6{ss i s}(h:ss[i]? =some s):(Hf ss)[i*3]? =some (string (strOfNums [s.name]))/\(Hf ss)[i*3+1]? =some (int i64 s.kind)/\(Hf ss)[i*3+2]? =some (int i64 s.parent):=by
 have D:=(aM.1 h).1;have e:Hf ss=Hf (ss.take i)++([string (strOfNums [s.name]),int i64 s.kind,int i64 s.parent]++Hf (ss.drop (i+1))):=by
  rw[<-jL,<-J_ h];unfold Hf;rw[<-qF,od]
 grind[Hf,XA]
theorem Ab.nil w:Ab w (slice none 0 0) []:=⟨none,0,rfl,λi s h=>by simp at h⟩
theorem Ab.ofRow{w B u ss}(h:w.ownsRow B 111 3 u ss.length (Hf ss)):Ab w u ss:=by
 obtain⟨D,c,rfl⟩:=bp h;refine⟨D,c,rfl,λi s hs=>?_⟩;have E:=(aM.1 hs).1;have⟨g,c',hv,_⟩:=cO h oQ;simp only[aH]at hv;obtain⟨rfl,-,-⟩:=hv;have⟨h0,h1,h2⟩:=Z6 hs;exact⟨g,rfl,(bK h (i*3) oQ).trans h0,(bK h (i*3+1) oQ).trans h1,(bK h (i*3+2) oQ).trans h2⟩
theorem Ab.acQ{w g ss}(h:RX w g ss.length ss.length ss):Ab w (slice (some ⟨g,0,none⟩) ss.length ss.length) ss:=by
 have⟨C,hC,_,hx⟩:=h;refine⟨_,_,rfl,λi s hs=>⟨g,rfl,?_,?_,?_⟩⟩
 ·rw[World.cell?,hC];exact hx i s (aM.1 hs).1 hs 0 oQ
 ·rw[World.cell?,hC];exact hx i s (aM.1 hs).1 hs 1 oQ
 rw[World.cell?,hC];exact hx i s (aM.1 hs).1 hs 2 oQ
theorem Z7{w B g ss}(h:RX w g ss.length ss.length ss)(hB:B<=g)(E:ss.length<=16):∃D,w.ownsRow B 111 3 (slice (some ⟨g,0,none⟩) ss.length ss.length) ss.length D:=by
 have⟨C,hC,hs,_⟩:=h;exact⟨C.toList,by simp[hs],inr ⟨g,_,C,rfl,hB,hC,aC _,by unfold maxLen;omega,hs,by rw[sX (by simp[hs])]⟩⟩
theorem Ab.aB{w w' v ss}(h:Ab w v ss)(k:Kp bA w w'):Ab w' v ss:=by
 have⟨ao,c,hv,hx⟩:=h;refine⟨ao,c,hv,λi s hs=>?_⟩;have⟨g,h1,h2,h3,h4⟩:=hx i s hs;exact⟨g,h1,k.bN h2,k.bN h3,k.bN h4⟩
theorem Nx{J:World}{E}{t}{v}(Q:(Ch.read t).1≠0->v= slice none 0 0)(R:(Ch.read t).1=0->∃g,v= slice (some ⟨g,0,none⟩) (Ch.read t).2.2.ah.length (Ch.read t).2.2.ah.length/\J.heap.size<=g/\RX E g (Ch.read t).2.2.ah.length (Ch.read t).2.2.ah.length (Ch.read t).2.2.ah):
 ∃ss F,ss.length<=16/\Ab E v ss/\E.ownsRow J.heap.size 111 3 v ss.length F/\(∀O c,v= slice O ss.length c->c=ss.length)/\ss=if(Ch.read t).1=0 then(Ch.read t).2.2.ah else[]:=by
 by_cases D:(Ch.read t).1=0
 ·obtain⟨g,rfl,U,G⟩:=R D;have I:=(yF D).1.le;have⟨F,hx⟩:=Z7 G U I;exact⟨_,F,I,.acQ G,hx,λ_ _ e=>by injection e with _ _ e;exact e.symm,by rw[aq D]⟩
 obtain rfl:=Q D;exact⟨[],[],dy,.nil _,cd _ _ _ _,λ_ _ e=>by injection e with _ _ e;exact e.symm,by rw[ax D]⟩
theorem xm.acR{W F W' B wb nv qv N M Ss sv iv mv es en k}(R:xm F B wb nv qv N M Ss sv iv mv es k)(O:Kp bA F W)(d0:NzB F B nv qv mv es en)(Y:en.length<=4*M){v}{n}{D}(G:W.ownsRow F.heap.size 111 3 v n D)(Z:n<=1000)(q:Z1 W W' wb B sv iv mv nv qv v k n (en.map (·.1)) (en.map λe=>int i64 e.2.2)):(∃I J,xm W' B wb I J N (M+1) Ss sv iv mv es (k+1))/\Kp (λi=>B<=i) W W':=by
 have h:=R.aw O;have d:=d0.aB (W':=W) λo _=>O.owns o (λ_ _ x=>x);have⟨I,J,g1,g2,g3,r1,r2,r3,r4,r5,r6,r7,r8,r9⟩:=q;have Q:∀b,(b=wb\/nv.ownBlock=some b\/qv.ownBlock=some b\/v.ownBlock=some b)->∃c T,W.heap[b]? =some (cells c T (0,0))/\(T=77\/T=107\/T=3\/T=111):=by
  rintro b (rfl|e|e|e)
  ·exact⟨_,_,h.cj,.inl rfl⟩
  ·have⟨c,hc⟩:=bC d.nor e;exact⟨_,_,hc,.inr (.inl rfl)⟩
  ·have⟨c,hc⟩:=bC d.RB e;exact⟨_,_,hc,.inr (.inr (.inl rfl))⟩
  have⟨c,hc⟩:=bC G e;exact⟨_,_,hc,.inr (.inr (.inr rfl))⟩
 have own:∀{e:TypeId} {sz:Nat} {v:Value} {n:Nat} {D:List Value} {b:Nat},W.ownsRow b e sz v n D->¬(e=77\/e=107\/e=3\/e=111)->W'.ownsRow b e sz v n D:=λho he=>r8.owns ho (λq hq hS=>by
  have⟨c,hc⟩:=bC ho hq;have⟨c',T',e1,e2⟩:=Q q hS;have:=uV hc e1;subst this;exact he e2)
 have E:∀{u:Value} {n:Nat} {D:List Value},W.ownsRow B 3 1 u n D->(∀b,qv.ownBlock=some b->u.ownBlock≠some b)->W'.ownsRow B 3 1 u n D:=λho hq=>r8.owns ho (λb hb hS=>by
  rcases hS with e|e|e|e
  ·exact aZ ho h.cj aV (by rw[hb,e])
  ·exact cJ ho d.nor aV b hb e
  ·exact hq b e hb
  exact cJ ho G aV b hb e)
 refine⟨⟨I,J,r1,own h.Hg aV,λi s hs=>(h.sb i s hs).pO r8 (λb hb c T hc=>?_),h.Xu,h.lo,h.bd,h.sl,own h.inr aV,E h.KI (λb hb=>(d.nm b hb).1),λe he=>⟨E (h.ph e he).1 (λb hb=>(d.nm b hb).2 e he),(h.ph e he).2⟩,by have:=h.k0;omega,by have:=h.kM;omega,by have:=h.eM;omega,h.hB,
  en++[(v,n,-(k+1)),(g1,n+1,-(k+1)),(g2,n+2,-(k+1)),(g3,n+3,-(k+1))],by simp;omega,by simpa using r2,by simpa using r3,λe he=>?_,λb hb=>?_⟩,r8.mono (λb _ hs=>?_)⟩
 ·have⟨c',T',e1,e2⟩:=Q b hb;have:=uV hc e1;subst this;unfold G6 G7 Fp He;rcases e2 with rfl|rfl|rfl|rfl<;>decide
 ·rcases cS.1 he with he|he
  ·have o:=(d.Xt e he).1;refine⟨r8.owns o (λq hq S=>?_),(d.Xt e he).2⟩;rcases S with S|S|S|S
   ·exact aZ o h.cj aV (by rw[hq,S])
   ·exact cJ o d.nor aV q hq S
   ·exact cJ o d.RB aV q hq S
   have U:=((d0.Xt e he).1.lt q hq).2;have X:=(G.lt q S).1;omega
  simp only[dB,gJ,gK]at he;rcases he with rfl|rfl|rfl|rfl
  ·exact⟨r4,by simp only;omega⟩
  ·exact⟨r5,by simp only;omega⟩
  ·exact⟨r6,by simp only;omega⟩
  exact⟨r7,by simp only;omega⟩
 ·rcases r9 b hb with e|e
  ·exact d.nm b e
  exact⟨λx=>by have:=(h.KI.lt b x).2;omega,λe' he x=>by have:=((h.ph e' he).1.lt b x).2;omega⟩
 have:=R.size.1;rcases hs with e|e|e|e
 ·have:=h.hB;omega
 ·exact(d.nor.lt b e).1
 ·exact(d.RB.lt b e).1
 have:=(G.lt b e).1;omega
theorem DX w{B}{wb}{nv}{qv}{N}{M}{Ss}{sv}{iv}{mv}{es}{k}(hI:xm w B wb nv qv N M Ss sv iv mv es k)o(hk:o.kind=2)(hM:M<=910000000000):
 Calls prog 64 #[pointer (some ⟨wb,0,none⟩),agg (mr o)] w λx w'=>x=returned (bool true)/\(∃VE VY k',xm w' B wb VE VY N (M+1) Ss sv iv mv es k')/\Kp (λi=>B<=i) w w':=by
 have O:=ak w (cells (mr o) 81);have K1:=kG w (cells (mr o) 81);have Z:=ag hI;clear hI;go_in;go_upto_region 1 with(fail);generalize w.alloc (cells (mr o) 81)=w1 at*;generalize wm:w.heap.size=ob at*;have c0:w1.cell? ⟨ob,0,none⟩=some (int i64 2):=by rw[World.cell?,O,<-hk];rfl
 have c1:w1.cell? ⟨ob,1,none⟩=some (string o.t):=dG O rfl;have E1:=ag (QP w1 o.t);go_wp2_with fail;refine hm E1 ?_;rintro x w2 ⟨v,rfl,X,Y,K2⟩;have c2:=K2.bN c1;have E2:=ag (Rz w2 o.t);have⟨ss,xs,hss,hNv,hov,hcap,D⟩:=Nx X Y;obtain⟨ao,ac,rfl⟩:=bp hov;have F:=fM hNv hov hcap D;clear X Y E1 c0 c1 hNv hov hcap D;go_wp2_with fail;refine hm E2 ?_;rintro x w3 ⟨u,rfl,R,U,K3⟩;have J:Ab w3 u ss:=by
  have D:=F.2.2.2;by_cases h0:(Ch.read o.t).1=0
  ·rw[aq h0]at D;subst D;exact .ofRow (U h0)
  rw[ax h0]at D;subst D;rw[R h0];exact .nil _
 have E3:=ag (DW w3 _ u ss (F.1.aB K3) J oQ);have KA:=(K1.trans K2).trans K3;have HA:=c_ KA K2 K3;clear E2 c2 R U J K3 KA;generalize (Ch.read o.t).1=re at*;go_wp2_with fail;refine b9 E3 ?_;intro w4 K4;have⟨en,l,d⟩:=Z.nd;have G:=HA.1.trans K4;have aa:=K1.size;have Z8:=cH ((HA.2.2.trans K4).owns F.2.1 (λ_ _ x=>x)) (show w.heap.size<=w1.heap.size by omega);have h4:=Z.aw G;have d4:=d.aB (W':=w4) λo _=>G.owns o (λ_ _ x=>x);have hz:=Z.size.1;have ab:=h4.kM;have ad:=G.size;have E4:=ag (G4 w4 wb B sv iv mv nv qv (slice ao ss.length ac) k ss.length xs (en.map (·.1)) (en.map λe=>int i64 e.2.2) h4.cj h4.k0 oQ (cH Z8 hz) F.2.2.1 oQ (cX d4.nor) (cX d4.RB) il il oQ);have E:=fM G d Z8 l;clear E3 K4 Z8 h4 d4 d G HA F l;go_wp2_with fail;refine b9 E4 ?_;intro w5 Q;have⟨⟨VE,VY,hN⟩,KN⟩:=Z.acR E.1 E.2.1 E.2.2.2 E.2.2.1 oQ Q;have HT:=bw hN ((E.1.mono (S':=λi=>B<=i) gM).trans KN);have E6:=ag (oN w5 re);clear E4 Q hN KN E;go_wp2_with fail;refine b9 E6 ?_;intro w7 I;rw[I];clear I w7;go_wp2_with fail;refine b9 E6 ?_;intro w7 I;rw[I];clear I w7;go_wp2;go_ret;exact⟨rfl,⟨_,_,_,HT.1⟩,HT.2⟩
theorem Vf w wb o{R:World->Prop}(h1:1<=o.kind)(F:o.kind<=10)(X:o.kind<=2->Calls prog 64 #[pointer (some ⟨wb,0,none⟩),agg (mr o)] (w.alloc (cells (mr o) 81)) λx w'=>x=returned (bool true)/\R w')(Y:3<=o.kind->o.kind<=6->Calls prog 65 #[agg (mr o)] (w.alloc (cells (mr o) 81)) λx w'=>x=returned (bool true)/\R w')(U:7<=o.kind->Calls prog 66 #[pointer (some ⟨wb,0,none⟩),agg (mr o)] (w.alloc (cells (mr o) 81)) λx w'=>x=returned (bool true)/\R w'):
 Calls prog 39 #[pointer (some ⟨wb,0,none⟩),agg (mr o)] w λx w'=>x=returned (bool true)/\R w':=by
 have⟨d,hd,iT⟩:=SR;have D:=ak w (cells (mr o) 81);have E:(mr o)[0]? =some (int i64 o.kind):=rfl;have iL:=SP o;have I:=ag X;have J:=ag Y;have G:=ag U;clear X Y U;generalize mr o=O at*;have aI:(prog.info? 81).map (·.size)=some O.size:=by rw[iL];exact LF
 rcases(by omega:o.kind=1\/o.kind=2\/o.kind=3\/o.kind=4\/o.kind=5\/o.kind=6\/o.kind=7\/o.kind=8\/o.kind=9\/o.kind=10)with h|h|h|h|h|h|h|h|h|h
 all_goals
  rw[h]at E I J G;clear h h1 F;go_in;go_upto_region 1 with(fail);generalize w.alloc (cells O 81)=w1 at*;generalize w.heap.size=ob at*;have c0:w1.cell? ⟨ob,0,none⟩=some _:=(by rw[World.cell?,D];exact E)
  go_wp2_with (refine gV D hd iT aI ?_);first|refine bI (I oQ) ?_|refine bI (J oQ oQ) ?_|refine bI (G oQ) ?_
  rintro x w2 ⟨rfl,Q⟩;have Z:=ag Q;clear Q;go_wp2;go_ret;exact⟨rfl,Z⟩
theorem Da w o(hk:o.kind=5)(Z:o.Sm):
 Calls prog 65 #[agg (mr o)] w λx w'=>x=returned (bool true)/\Kp bA w w':=by
 have D:=ak w (cells (mr o) 81);have K1:=kG w (cells (mr o) 81);have⟨da,jx,dQ⟩:=kz;have Jy:=Z.as;go_in;go_upto_region 1 with fail;generalize w.alloc (cells (mr o) 81)=Q at*;generalize w.heap.size=G at*;have c0:Q.cell? ⟨G,0,none⟩=some (int i64 5):=by rw[World.cell?,D,<-hk];rfl
 have c1:Q.cell? ⟨G,1,none⟩=some (string o.t):=dG D rfl;have c2:Q.cell? ⟨G,2,none⟩=some (string o.e):=dG D rfl;have iL:(prog.info? 26).map (·.size)=some (pD o.s).length:=bF;have U:=qK D;have E1:=ag (QO Q o.t o.s o.e Jy);go_wp2_with (refine bS rfl 26 (tmp 82) rfl G 3 rfl (pD o.s) da U jx dQ iL ?_);refine b9 E1 ?_;intro I K2;have Y:=K2.at_ D (λx=>x);have aO:=fK (tT o.t o.s o.e).1;have O:(prog.info? 26).map (·.size)=some (cM (tT o.t o.s o.e).1).size:=bF;have aS:(cM (tT o.t o.s o.e).1).size=6:=rfl;rw[Uz];have ES:=λW=>ag (uK W (tT o.t o.s o.e).1);have E2:=λW=>ag (QS W o.t o.s o.e Jy);generalize tR:cM (tT o.t o.s o.e).1=E at*;generalize (tT o.t o.s o.e).2.1=so at*;generalize (tT o.t o.s o.e).2.2=se at*;have n2:=ak I (cells cG 26);have K3:=rQ I (cells cG 26) E;have r3:=an (I.alloc (cells cG 26)) I.heap.size cG E 26 (0,0) n2;have F:=K3.at_ Y (λx=>x);have HK:=ag ((K1.trans K2).trans K3);go_upto_region 13 with(refine bJ E n2 O aS.symm aO ?_);generalize (I.alloc (cells cG 26)).setRow I.heap.size E=w3 at*;generalize I.heap.size=b5 at*;have c1:w3.cell? ⟨G,1,none⟩=some (string o.t):=dG F rfl;have c2:w3.cell? ⟨G,2,none⟩=some (string o.e):=dG F rfl;have U:=qK F;have E3:=E2 w3;go_wp2_with (refine bS rfl 26 (tmp 93) rfl G 3 rfl (pD o.s) da U jx dQ iL ?_);refine b9 E3 ?_;intro J K4;have r4:=K4.at_ r3 (λx=>x);have n4:=ak J (cells cG 26);have K5:=rQ J (cells cG 26) E;have q5:=an (J.alloc (cells cG 26)) J.heap.size cG E 26 (0,0) n4;have r5:=K5.at_ r4 (λx=>x);have DL:=ag ((HK.trans K4).trans K5);go_upto_region 14 with(refine bJ E n4 O aS.symm aO ?_);generalize (J.alloc (cells cG 26)).setRow J.heap.size E=w5 at*;generalize J.heap.size=b8 at*;have E5:=ES w5;go_wp2_with (first|refine gV r5 jx dQ O ?_|refine gV q5 jx dQ O ?_);refine b9 E5 ?_;intro w6 K6;have R:=ag (DL.trans K6);have E6:=ag (oN w6 se);go_wp21;refine b9 E6 ?_;intro w7 X;rw[X];go_wp21;refine b9 E6 ?_;intro w7 X;rw[X];exact iN R
theorem Db w o(hk:o.kind=6)(Z:o.Sm):
 Calls prog 65 #[agg (mr o)] w λx w'=>x=returned (bool true)/\Kp bA w w':=by
 have D:=ak w (cells (mr o) 81);have K1:=kG w (cells (mr o) 81);have⟨da,jx,dQ⟩:=kz;have Jy:=Z.as;go_in;go_upto_region 1 with fail;generalize w.alloc (cells (mr o) 81)=Q at*;generalize w.heap.size=G at*;have c0:Q.cell? ⟨G,0,none⟩=some (int i64 6):=by rw[World.cell?,D,<-hk];rfl
 have c1:Q.cell? ⟨G,1,none⟩=some (string o.t):=dG D rfl;have c2:Q.cell? ⟨G,2,none⟩=some (string o.e):=dG D rfl;have iL:(prog.info? 26).map (·.size)=some (pD o.s).length:=bF;have U:=qK D;have E1:=ag (QN Q 17 oQ o.t o.s Jy (λh=>MR h));go_wp2_with (refine bS rfl 26 (tmp 120) rfl G 3 rfl (pD o.s) da U jx dQ iL ?_);refine b9 E1 ?_;intro I K2;have Y:=K2.at_ D (λx=>x);have aO:=fK (mX 17 o.t o.s).1;have O:(prog.info? 26).map (·.size)=some (cM (mX 17 o.t o.s).1).size:=bF;have aS:(cM (mX 17 o.t o.s).1).size=6:=rfl;have ES:=λW=>ag (uK W (mX 17 o.t o.s).1);have E2:=λW=>ag (QY W o.t o.s Jy);generalize tR:cM (mX 17 o.t o.s).1=E at*;generalize (mX 17 o.t o.s).2.1=so at*;generalize (mX 17 o.t o.s).2.2=se at*;have n2:=ak I (cells cG 26);have K3:=rQ I (cells cG 26) E;have r3:=an (I.alloc (cells cG 26)) I.heap.size cG E 26 (0,0) n2;have F:=K3.at_ Y (λx=>x);have HK:=ag ((K1.trans K2).trans K3);go_upto_region 17 with(refine bJ E n2 O aS.symm aO ?_);generalize (I.alloc (cells cG 26)).setRow I.heap.size E=w3 at*;generalize I.heap.size=b5 at*;have c1:w3.cell? ⟨G,1,none⟩=some (string o.t):=dG F rfl;have c2:w3.cell? ⟨G,2,none⟩=some (string o.e):=dG F rfl;have U:=qK F;have E3:=E2 w3;go_wp2_with (refine bS rfl 26 (tmp 129) rfl G 3 rfl (pD o.s) da U jx dQ iL ?_);refine b9 E3 ?_;intro J K4;have r4:=K4.at_ r3 (λx=>x);have n4:=ak J (cells cG 26);have K5:=rQ J (cells cG 26) E;have q5:=an (J.alloc (cells cG 26)) J.heap.size cG E 26 (0,0) n4;have r5:=K5.at_ r4 (λx=>x);have DL:=ag ((HK.trans K4).trans K5);go_upto_region 18 with(refine bJ E n4 O aS.symm aO ?_);generalize (J.alloc (cells cG 26)).setRow J.heap.size E=w5 at*;generalize J.heap.size=b8 at*;have E5:=ES w5;go_wp2_with (first|refine gV r5 jx dQ O ?_|refine gV q5 jx dQ O ?_);refine b9 E5 ?_;intro w6 K6;have R:=ag (DL.trans K6);have E6:=ag (oN w6 se);go_wp21;refine b9 E6 ?_;intro w7 X;rw[X];go_wp21;refine b9 E6 ?_;intro w7 X;rw[X];exact iN R
def RZ(wb B K M:Nat)(W:World):Prop:=∃nv qv Ss sv iv mv es k,xm W B wb nv qv K M Ss sv iv mv es k
theorem RZ.up{wb B K M D E W}(h:RZ wb B K M W)(F:K<=D)(G:M<=E):RZ wb B D E W:=by
 have⟨nv,qv,Ss,sv,iv,mv,es,k,h⟩:=h;exact⟨nv,qv,Ss,sv,iv,mv,es,k,h.up F G⟩
theorem RD w wb B o K(J:1<=o.kind)(G:o.kind<=10)(E:o.Sm)(O:RZ wb B K K w)(Q:K<=900000000000):
 Calls prog 39 #[pointer (some ⟨wb,0,none⟩),agg (mr o)] w λx w'=>x=returned (bool true)/\RZ wb B (K+1) (K+1) w'/\KB B w w':=by
 have⟨nv,qv,Ss,sv,iv,mv,es,k,hL⟩:=O;have I:=kG w (cells (mr o) 81);have F:=hL.aw I;have D:∀{w':World},Kp (λi=>B<=i) (w.alloc (cells (mr o) 81)) w'->KB B w w':=λk=>(I.mono (S':=λi=>B<=i) gM).trans k;have fin:∀(x:Ending) (w':World),x=returned (bool true)/\Kp bA (w.alloc (cells (mr o) 81)) w'->x=returned (bool true)/\RZ wb B (K+1) (K+1) w'/\KB B w w':=λx w' ⟨hx,hk⟩=>⟨hx,⟨_,_,_,_,_,_,_,_,(F.aw hk).up (cT _) (cT _)⟩,D (hk.mono λ_ _ x=>x.elim)⟩
 refine Vf w wb o J G (λh2=>?_) (λh3 h6=>?_) (λh7=>?_)
 ·by_cases h:o.kind=1
  ·exact(CL _ wb o h).mono fin
  exact(DX _ F o oQ oQ).mono λx w' ⟨hx,⟨VE,VY,k',L⟩,hk⟩=>⟨hx,⟨_,_,_,_,_,_,_,_,L.up (cT _) (aC _)⟩,D hk⟩
 ·rcases(by omega:o.kind=3\/o.kind=4\/o.kind=5\/o.kind=6)with h|h|h|h
  ·exact(AT _ o h E).mono fin
  ·exact(AU _ o h).mono fin
  ·exact(Da _ o h E).mono fin
  exact(Db _ o h E).mono fin
 exact(Nu _ F o oQ oQ).mono λx w' ⟨hx,⟨_,_,_,_,_,_,L⟩,hk⟩=>⟨hx,⟨_,_,_,_,_,_,_,_,L⟩,D hk⟩
theorem RE w wb B K(U:RZ wb B K K w)(hK:K<=900000000000):
 Calls prog 40 #[pointer (some ⟨wb,0,none⟩)] w λx w'=>x=returned (bool true)/\RZ wb B K (2*K) w'/\KB B w w':=by
 have⟨nv,qv,Ss,sv,iv,mv,es,k,hL⟩:=U;have Y:=hL.sl;have⟨ao,cap,hsv⟩:=bp hL.Hg;subst hsv;have R:=ag hL;clear hL;go_in;go_wp2_with fail;go_loopw [3] (λi wr=>∃j:Nat,i= int i64 j/\j<=Ss.length/\Hid ((∃iv mv es k,xm wr B wb nv qv K (K+j) Ss (slice ao Ss.length cap) iv mv es k)/\KB B w wr)) (λi _=>Ss.length-(intOf i).toNat)
 case atStart=>exact⟨0,rfl,aA _,ag ⟨⟨_,_,_,_,R⟩,Kp.refl _ _⟩⟩
 case round=>
  obtain⟨j,rfl,hj,G⟩:=hrel;have⟨⟨OF,mv',es',k',hR⟩,KW⟩:=G;have x0:wr.cell? ⟨wb,0,none⟩=some (slice ao Ss.length cap):=hR.cell 0;by_cases D:j<Ss.length
  ·have O:(j:Int)<Ss.length:=oQ;obtain⟨s,hs⟩:∃s,Ss[j]? =some s:=⟨_,au D⟩
   have⟨g,cp,hg,_⟩:=cO hR.Hg oQ;simp only[aH,cA]at hg;obtain⟨rfl,-⟩:=hg;have xg:wr.cell? ⟨g,j,none⟩=some (pointer (some ⟨s.b,0,none⟩)):=(bK hR.Hg j (cX D)).trans (by rw[bD,hs];rfl);have E:=ag (Ft wr hR hs oQ oQ);have Q:=ag KW;clear hR KW G;go_wp2_with fail;refine fu E ?_;rintro x Z ⟨rfl,J,I⟩;have F:=bw J (show KB B w Z from Kp.trans Q I);clear E J I;go_wp2;go_roundw
   case rel=>exact⟨j+1,eb,oQ,F⟩
   case measure=>exact ew
  have X:¬(j:Int)<Ss.length:=oQ;have F:=ag (show RZ wb B K (2*K) wr/\KB B w wr from⟨⟨_,_,_,_,_,_,_,_,hR.up (aC _) oQ⟩,KW⟩);clear hR KW G;go_wp2;go_ret;exact⟨rfl,F⟩
theorem Ny w wb B K M(hI:RZ wb B K M w)(hM:M<=2000000000000):
 Calls prog 41 #[pointer (some ⟨wb,0,none⟩)] w λx w'=>x=returned (bool true)/\Kp bA w w':=by
 have⟨nv,qv,Ss,sv,iv,mv,es,k,hL⟩:=hI;have⟨en,hln,hd⟩:=hL.nd;obtain⟨na,nc,rfl⟩:=bp hL.inr;obtain⟨ma,mc,rfl⟩:=bp hL.KI;obtain⟨pa,pc,rfl⟩:=bp hd.nor;obtain⟨qa,qc,rfl⟩:=bp hd.RB;have aj:=hL.eM;have x1:w.cell? ⟨wb,1,none⟩=some (slice na es.length nc):=hL.cell 1;have Q:w.cell? ⟨wb,2,none⟩=some (slice pa en.length pc):=hL.cell 2;have x3:w.cell? ⟨wb,3,none⟩=some (slice ma es.length mc):=hL.cell 3;have O:=bw hd (show w.cell? ⟨wb,4,none⟩=some (slice qa en.length qc)from hL.cell 4);clear hd;have R:=ag hL;clear hL;go_in;go_wp2_with fail;go_loopw [3] (λi wr=>∃j:Nat,i= int i64 j/\j<=es.length/\Kp bA w wr) (λi _=>es.length-(intOf i).toNat)
 case atStart=>exact⟨0,rfl,aA _,Kp.refl _ _⟩
 case round=>
  obtain⟨j,rfl,hj,E⟩:=hrel;have y1:=E.bN x1;have y2:=E.bN Q;have y3:=E.bN x3;by_cases F:j<es.length
  ·have X:(j:Int)<es.length:=oQ;obtain⟨e,he⟩:∃e,es[j]? =some e:=⟨_,au F⟩
   have⟨v,n,m⟩:=e;have G:=R.ph _ (aP he);have⟨ev,en,hev⟩:=bp G.1;have am:n<=2000:=G.2.1;simp only at hev;have⟨g,cp,hg,_⟩:=cO R.inr oQ;simp only[aH,cA]at hg;obtain⟨rfl,-⟩:=hg;have⟨g',cp',hg',_⟩:=cO R.KI oQ;simp only[aH,cA]at hg';obtain⟨rfl,-⟩:=hg';have a1:w.cell? ⟨g,j,none⟩=some (slice ev n en):=(bK R.inr j (cX F)).trans (by rw[bD,he];exact iw some hev);have a3:w.cell? ⟨g',j,none⟩=some (int i64 m):=(bK R.KI j (cX F)).trans (by rw[bD,he];rfl);have J:=ag (show w.ownsRow B 3 1 (slice ev n en) n (List.replicate n (int i64 m))by rw[<-hev];exact G.1);have b1:=E.bN a1;have Z:=fM x1 x3 a1 a3;clear G hev he y2 x1 x3 a1 a3;go_wp2_with fail;go_loopw [4] (λi wq=>∃q:Nat,i= int i64 q/\q<=n/\Kp bA w wq) (λi _=>n-(intOf i).toNat)
   case atStart=>exact⟨0,rfl,aA _,E⟩
   case round=>
    obtain⟨q,rfl,hq,D⟩:=hrel;have z1:=D.bN Z.1;have z3:=D.bN Z.2.1;have u1:=D.bN Z.2.2.1;have u3:=D.bN Z.2.2.2;by_cases Y:q<n
    ·have aa:(q:Int)<n:=oQ;have⟨gl,cl,hgl,_⟩:=cO J oQ;simp only[aH,cA]at hgl;obtain⟨rfl,-⟩:=hgl;have t1:=D.bN ((bK J q (cX Y)).trans (by rw[List.getElem?_replicate,aq Y]));go_upto_region 7 with(fail);go_quiet (fail);go_wp2;go_roundw
     case rel=>exact⟨q+1,eb,oQ,D.drewN _⟩
     case measure=>exact ew
    have aa:¬(q:Int)<n:=oQ;go_wp2;go_roundw
    case rel=>exact⟨j+1,eb,oQ,D⟩
    case measure=>exact ew
  have U:¬(j:Int)<es.length:=oQ;clear y2 y3 x1 x3;have HX:=ag Q;have y2:=E.bN Q;clear Q;go_wp2;go_loopw [5] (λiv wq=>∃i:Nat,iv= int i64 i/\i<=en.length/\Kp bA w wq) (λiv _=>en.length-(intOf iv).toNat)
  case atStart=>exact⟨0,rfl,aA _,E⟩
  case round=>
   clear E y2 y1;obtain⟨i,rfl,hi,E⟩:=hrel;have d2:=E.bN HX;by_cases F:i<en.length
   ·have X:(i:Int)<en.length:=oQ;obtain⟨e,he⟩:∃e,en[i]? =some e:=⟨_,au F⟩
    have G:=O.1.Xt e (aP he);have⟨v,n,m⟩:=e;have⟨va,vc,hva⟩:=bp G.1;simp only at hva;subst hva;have hn:=G.2;simp only at hn;have⟨gn,cn',hn',_⟩:=cO O.1.nor oQ;simp only[aH]at hn';obtain⟨rfl,-,-⟩:=hn';have⟨gm,cm',hm',_⟩:=cO O.1.RB oQ;simp only[aH]at hm';obtain⟨rfl,-,-⟩:=hm';have z0:w.cell? ⟨gn,i,none⟩=some (slice va n vc):=by
     rw[bK O.1.nor i oQ,bD,he];rfl
    have y0:w.cell? ⟨gm,i,none⟩=some (int i64 m):=by
     rw[bK O.1.RB i oQ,bD,he];rfl
    have J:=ag (show w.ownsRow 0 111 3 (slice va n vc) n (wQ n m)from G.1);clear G he;go_wp2_with fail;go_loopw [6] (λkv wq=>∃j:Nat,kv= int i64 j/\j<=n/\Kp bA w wq) (λkv _=>n-(intOf kv).toNat)
    case atStart=>exact⟨0,rfl,aA _,E⟩
    case round=>
     clear d2;obtain⟨j,rfl,hj,D⟩:=hrel;have d2:=D.bN HX;have z1:=D.bN z0;by_cases ab:j<n
     ·have ad:(j:Int)<n:=oQ;have⟨gv,cv',hv',_⟩:=cO J oQ;simp only[aH]at hv';obtain⟨rfl,-,-⟩:=hv';have⟨m0,m1,m2⟩:=Z2 (m:=m) ab;have x0:=D.bN ((bK J (j*3) oQ).trans m0);have x1:=D.bN ((bK J (j*3+1) oQ).trans m1);have Q:=D.bN ((bK J (j*3+2) oQ).trans m2);have KN:Kp bA w (wr.alloc (cells #[string ⟨#[]⟩,int i64 m,int i64 m] 111)):=D.alloc _;have I:=ak wr (cells #[string ⟨#[]⟩,int i64 m,int i64 m] 111);clear m0 m1 m2;go_upto_region 16 with(fail);generalize wr.alloc (cells #[string ⟨#[]⟩,int i64 m,int i64 m] 111)=wn at*;have a0:wn.cell? ⟨wr.heap.size,0,none⟩=some (string ⟨#[]⟩):=dG I rfl;have a1:wn.cell? ⟨wr.heap.size,1,none⟩=some (int i64 m):=dG I rfl;have a2:wn.cell? ⟨wr.heap.size,2,none⟩=some (int i64 m):=dG I rfl;have d4:=KN.bN O.2;have y1:=KN.bN y0;clear I d2 z1 x0 x1 Q D;go_quiet (fail);go_wp2;go_roundw
      case rel=>exact⟨j+1,eb,oQ,KN.drewN _⟩
      case measure=>exact ew
     have U:¬(j:Int)<n:=oQ;go_wp2;go_roundw
     case rel=>exact⟨i+1,eb,oQ,D⟩
     case measure=>exact ew
   have U:¬(i:Int)<en.length:=oQ;go_wp2;go_ret;exact⟨rfl,E⟩
theorem XB w v D(hs:Vn w v D)(G:D.length<=900000000000)(F:∀o∈D,o.Sm):
 Calls prog 18 #[v] w λx w'=>x=returned (bool true)/\Kp bA w w':=by
 have E:=ag (Nw w v D 1 10 (λK W=>RZ w.heap.size w.heap.size K K W) (RZ w.heap.size w.heap.size D.length (2*D.length)) hs wY (λ_ _ h=>h.up (cT _) (cT _))
  ⟨_,_,[],slice none 0 0,slice none 0 0,slice none 0 0,[],0,ak w _,cd _ _ _ _,λ_ _ h=>by simp at h,λ_ _ _ _ h=>by simp at h,λ_ _ h=>by simp at h,λ_ _ h=>by simp at h,aC _,cd _ _ _ _,cd _ _ _ _,dy,Int.le_refl _,Int.le_refl _,aC _,aC _,[],aC _,cd _ _ _ _,cd _ _ _ _,dy,λ_ h=>by simp[Value.ownBlock]at h⟩
  (λK W o hk ho h1 h2 hW _=>RD W w.heap.size w.heap.size o K h1 h2 (F o ho) hW oQ)
  (λW hW _=>RE W w.heap.size w.heap.size D.length hW oQ)
  (λW hW _=>(Ny W w.heap.size w.heap.size D.length (2*D.length) hW oQ).mono (λx W' ⟨hx,hk⟩=>⟨hx,hk.mono gM⟩)))
 go_in;go_wp2_with fail;refine fu E ?_;rintro x I ⟨rfl,K⟩;go_wp2;go_ret;exact⟨rfl,K⟩
