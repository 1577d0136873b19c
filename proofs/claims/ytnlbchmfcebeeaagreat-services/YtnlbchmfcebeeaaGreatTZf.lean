import Derived.Test.YtnlbchmfcebeeaaGreatTZa
set_option maxHeartbeats 12800000
set_option maxRecDepth 100000
namespace Go.Proofs.YtnlbchmfcebeeaaGreat
open Go.Proofs.Tryz Ch
open Go.RowKit
open Value(int slice bool pointer string agg tuple)
open IntKind(i64)
open Obj(cells)
open Ending(returned)
open Operand(tmp)
open Or(inl inr)
theorem Qr B xb cb g pv m l v ol on(am:iI l.length on m.s.act)(J:Rf l ol):∀ N w i,l.length<=i+N->i<l.length->jD w xb cb g l.length pv m->lB w g on->ku w B cb l v->
 Calls prog 264 #[pointer (some ⟨xb,0,none⟩),int i64 i] w λy w'=>y=returned (bool (Ch.atEnd ol.ah m.s.act i))/\Kp bA w w':=by
 intro N;induction N with
 |zero=>intro w i h1 h2;omega
 |succ N ih=>
 intro w i hN hi h aj hF;have a6:=J.le;have eK:=Mi J.lD.tP m.s.act i;rw[I5,<-sh J]at eK;have a0:=lA (Ch.mk l) (i:Int);have Cj:=λj (h:j∈dZ (Ch.mk l) (i:Int))=>(show i<j/\j<l.length from by
  rw[sh J]at h;have:=sM J.lD.tP (cY.1 h);rw[J.len]at this;exact this)
 rw[eu]at a0;have E0:=ag (kq w B cb l v (i:Int) hF oQ);generalize dZ (Ch.mk l) (i:Int)=ks at*;obtain⟨ao,a3,rfl⟩:=hF.2.1.len;obtain⟨y,hy⟩:∃y,l[i]? =some y:=⟨_,au hi⟩
 rw[J.kind hy]at eK;have a5:(i:Int)<l.length:=oQ;have HL:=ag Cj;have aO:=ag eK;have Vs:=ag ih;have U:=c_ h hF aj;clear h hF aj Cj eK ih;have aS:w.cell? _=some (pointer (some ⟨cb,0,none⟩)):=U.1.cell 0;go_in;go_wp;refine hm E0 ?_;rintro z w2 ⟨u,rfl,hu,Z⟩;obtain⟨ua,uc,rfl⟩:=bp hu;have Y:=rP hu Z (U.1.aB Z (λx=>x):jD w2 xb cb g l.length pv m) (U.2.1.aw Z) (Z.at_ U.2.2 (λx=>x):lB w2 g on);clear hu Z E0 U aS;go_wp21;go_loopw [6,7,8] (λfv av kv wr=>∃k:Nat,kv= int i64 k/\k<=ks.length/\fv= bool ((ks.take k).any λj=>bn ol.ah j==4&&Ch.bit m.s.act j)/\av= bool (if y.n.kind==3 then(ks.take k).all (λj=>Ch.atEnd ol.ah m.s.act j)else true)/\Kp bA w2 wr) (λ_ _ kv _=>ks.length-(intOf kv).toNat)
 case atStart=>exact⟨0,rfl,aA _,rfl,by cases y.n.kind==3<;>rfl,Kp.refl _ _⟩
 case round=>
  obtain⟨k,rfl,hk,rfl,rfl,I⟩:=hrel;have hr:=Y.2.2.1.aB I (λx=>x);have R:=Y.2.2.2.1.aw I;have lO:lB _ _ _:=I.at_ Y.2.2.2.2 (λx=>x);have G:=I.owns Y.1 (λ_ _ x=>x);have c0:wr.cell? _=some (pointer (some ⟨cb,0,none⟩)):=hr.cell 0;have c1:wr.cell? _=some (slice (some ⟨g,0,none⟩) l.length l.length):=hr.cell 1;have zc:=R.cell;have⟨g1,GB,hv,_,hcell,_⟩:=R.2.1.form hy;simp only[aH]at hv;obtain⟨rfl,-,rfl⟩:=hv;have zi:_=some _:=hcell 1 oQ;by_cases a1:k<ks.length
  ·have a2:(k:Int)<ks.length:=oQ;obtain⟨j,hj⟩:∃j,ks[k]? =some j:=⟨_,au a1⟩
   have ad:=HL j (aP hj);have Lg:(j:Int)<l.length:=oQ;obtain⟨yj,ap⟩:∃yj,l[j]? =some yj:=⟨_,au ad.2⟩
   have⟨g3,AI,hv3,_,pE,_⟩:=R.2.1.form ap;simp only[aH,bE,ei,cA,dV]at hv3;obtain⟨rfl,rfl⟩:=hv3;have zj:_=some _:=pE 1 oQ;have⟨g2,cap2,hv2,_⟩:=cO G oQ;simp only[aH]at hv2;obtain⟨rfl,-,rfl⟩:=hv2;have zk:wr.cell? ⟨g2,k,none⟩=some (int i64 j):=by
    rw[bK G k oQ];simp[bO,j2,hj]
   have DC:=lO.cell (k:=j) (by have:=am.1;omega);have O:=xh (p:=λj=>bn ol.ah j==4&&Ch.bit m.s.act j) hj;have aa:(ks.take (k+1)).all (λj=>Ch.atEnd ol.ah m.s.act j)=((ks.take k).all (λj=>Ch.atEnd ol.ah m.s.act j)&&Ch.atEnd ol.ah m.s.act j):=by
    rw[iA,hj,List.all_append];simp
   simp only[J.kind ap,<-am.2.2 j]at O;have E:=ag (λnn=>Vs (wr.drewN nn) j oQ ad.2 (hr.aB ((Kp.refl bA _).drewN nn) (λx=>x)) (((Kp.refl bA _).drewN nn).at_ lO (λx=>x)) (R.aw ((Kp.refl _ _).drewN nn)));have F:=ag O;have aI:=ag aa;have Q:=ag I;generalize (ks.take k).any (λj=>bn ol.ah j==4&&Ch.bit m.s.act j)=fb at*;generalize (ks.take k).all (λj=>Ch.atEnd ol.ah m.s.act j)=ab at*;generalize Ch.atEnd ol.ah m.s.act j=ej at*;generalize jC on j=oj at*;clear hr R lO G I hcell pE O aa;cases q3:y.n.kind==3 with
   |false=>
    cases q4:yj.n.kind==4<;>cases oj<;>rw[q4]at F<;>
    (go_upto_region 7 with fail
     go_quiet (fail);go_wp2;go_roundw
     case rel=>exact⟨k+1,eb,oQ,by rw[F];cases fb<;>rfl,by rfl,Q.drewN _⟩
     case measure=>simp[intOf];omega)
   |true=>?_
   cases q4:yj.n.kind==4<;>cases oj<;>rw[q4]at F<;>
   (go_upto_region 7 with fail
    go_quiet (fail);go_wp;refine b9 (fA E _) ?_;intro w5 K5;have DL:=ag ((Q.drewN nq).trans K5);clear K5;cases ab<;>cases ej<;>
    (go_wp2
     go_roundw
     case rel=>exact⟨k+1,eb,oQ,by rw[F];cases fb<;>rfl,by simp[aI.out],DL⟩
     case measure=>simp[intOf];omega))
  have a4:¬(k:Int)<ks.length:=oQ;obtain rfl:k=ks.length:=oQ;rw[gL];have D:=aO.out;have Q:=ag (Y.2.1.trans I);clear hr R lO G I hcell;cases q2:y.n.kind==2 with
  |true=>
   have e2:y.n.kind=2:=cX q2;rw[q2]at D;have X:=ag (D.trans (aq rfl));rw[e2]at zi;clear D;rw[e2];exact qR X Q
  |false=>?_
  rw[q2]at D;cases q3:y.n.kind==3 with
  |true=>
   have e3:y.n.kind=3:=cX q3;rw[q3]at D;have X:=ag (D.trans rfl);rw[e3]at zi;clear D;go_wp2;go_ret;rw[X];exact⟨dy,Q⟩
  |false=>?_
  rw[q3]at D;have X:=ag (D.trans rfl);clear D;go_wp2;go_ret;rw[X];exact⟨dy,Q⟩
namespace Ch
theorem MD:∀(l:List Nat) a b,l.Pairwise (· < ·)->(∀x∈l,a<=x/\x<b)->l.length<=b-a:=by
 intro l;induction l with
 |nil=>simp_all
 |cons x l E=>?_
 intro a b D hm;rw[List.pairwise_cons]at D;have F:=hm x dy;have:=E (x+1) b D.2 (λy hy=>⟨D.1 y hy,(hm y (by simp[hy])).2⟩);grind
theorem Jh{ss}(h:vi ss)S goals{i}(hi:i<ss.length):(eJ ss S goals ss.length i).length<=ss.length:=by
 have⟨_,_,h3,_,h5⟩:=rC h S goals ss.length i hi oQ;have:=MD _ 0 ss.length h5 (λx hx=>⟨aA _,(h3 x hx).1⟩);omega
theorem CB p c{l:List Nat}{k}{j}(h:l[k]? =some j):kD p c (l.take (k+1))=if p j then j else kD p c (l.take k):=by
 unfold kD;rw[iA,h,qG];rfl
theorem E_ p{c}{l:List Nat}(D:c∈l)k:kD p c (l.take k)∈l:=by
 grind[oY]
def AQ(ss:List St)(k:Nat)(g:Int):Bool:=decide (0<=g)&&(g==(k:Int)||aG ss k g)
theorem Ud ss goals k:rB ss goals k=goals.any (AQ ss k):=rfl
end Ch
theorem Ue B xb cb g pv m l v ol on(bk:iI l.length on m.s.act)(Q:Rf l ol)(goals:List Int)gv B3(cs:goals.length<=16)(b4:∀x∈goals,x<l.length):∀ N w i,l.length<=i+N->i<l.length->jD w xb cb g l.length pv m->lB w g on->ku w B cb l v->w.ownsRow B3 3 1 gv goals.length (bO goals)->
 Calls prog 239 #[pointer (some ⟨xb,0,none⟩),int i64 i,gv] w λy w'=>∃u,y=returned u/\w'.ownsRow w.heap.size 3 1 u (eJ ol.ah (Ch.bit m.s.act) goals ol.ah.length i).length (bO (j2 (eJ ol.ah (Ch.bit m.s.act) goals ol.ah.length i)))/\Kp bA w w':=by
 have⟨i0,hi0,hz0,hz1,hz2⟩:=cr nI;intro N;induction N with
 |zero=>intro w i h1 h2;omega
 |succ N ih=>
 intro w i hN hi h a7 hF hg;have cu:=Q.le;have a5:i<ol.ah.length:=by rw[Q.len];exact hi
 have eK:=zQ Q.lD.tP (Ch.bit m.s.act) goals a5;have F:=bz (Jh Q.lD.tP (Ch.bit m.s.act) goals a5) Q.lD.le;have b6:=lA (Ch.mk l) (i:Int);have Cj:=λj (h:j∈dZ (Ch.mk l) (i:Int))=>(show i<j/\j<l.length from by
  rw[sh Q]at h;have:=sM Q.lD.tP (cY.1 h);rw[Q.len]at this;exact this)
 have O:bn ol.ah i=2->dZ (Ch.mk l) (i:Int)≠[]:=λhk=>by
  have⟨j,_,hj⟩:=Q.lD.tP.Gp i a5 (inl hk);rw[sh Q];intro hz;have:=cY.2 hj;rw[hz]at this;cases this
 unfold pP at eK;rw[<-sh Q]at eK;rw[eu]at b6;obtain⟨ao,b0,rfl⟩:=hF.2.1.len;obtain⟨y,hy⟩:∃y,l[i]? =some y:=⟨_,au hi⟩
 rw[Q.kind hy]at eK O;have ct:(i:Int)<(l.length:Int):=oQ;have ba:=ak w (cells #[int i64 i] 3);have K1:=kG w (cells #[int i64 i] 3);have bg:(w.alloc (cells #[int i64 i] 3)).ownsRow w.heap.size 3 1 (slice (some ⟨w.heap.size,0,none⟩) 1 1) 1 (bO (j2 [i])):=⟨rfl,inr ⟨w.heap.size,1,_,rfl,aC _,ba,aC _,by unfold maxLen;omega,rfl,rfl⟩⟩
 have a1:=hF.aw K1;have ca:=Nat.ne_of_lt (aR h);have b5:=Nat.ne_of_lt (aR a7);have bo:=λk hk=>Nat.ne_of_lt (hg.lt k hk).2;have cw:(w.alloc (cells #[int i64 i] 3)).heap.size=w.heap.size+1:=by simp only[World.alloc,Array.size_push]
 have E0:=ag (kq _ B cb l _ (i:Int) a1 oQ);generalize dZ (Ch.mk l) (i:Int)=ks at*;have HL:=ag Cj;have Z:=c_ eK F O;have Vs:=ag ih;have HH:=rP (h.aB K1 (λx=>x):jD _ xb cb g l.length pv m) a1 (K1.at_ a7 (λx=>x):lB _ g on) (K1.owns hg (λ_ _ x=>x)) bg;clear h hF a7 Cj eK ih F O a1 hg bg;go_in;go_upto_region 2 with fail;generalize w.alloc (cells #[int i64 i] 3)=w1 at*;generalize wm:w.heap.size=ob at*;have c0:w1.cell? _=some (pointer (some ⟨cb,0,none⟩)):=HH.out.1.cell 0;go_wp;refine fu E0 ?_;rintro z w2 ⟨u,rfl,hu,K2⟩;obtain⟨ua,uc,rfl⟩:=bp hu;have R:=xn hu (K1.trans K2) (HH.out.1.aB K2 (λx=>x):jD w2 xb cb g l.length pv m) (HH.out.2.1.aw K2) (K2.at_ HH.out.2.2.1 (λx=>x):lB w2 g on) (K2.owns HH.out.2.2.2.1 (λ_ _ x=>x)) (K2.owns HH.out.2.2.2.2 (λ_ _ x=>x));have b8:∀k,(Value.slice ua ks.length uc).ownBlock=some k->k≠ob:=λk hk=>by have:=(hu.lt k hk).1;omega
 have Wb:=K2.at_ ba (λx=>x);have⟨ga,gc,hgv⟩:=bp R.out.2.2.2.2.2.1;subst hgv;have cg:=R.out.2.1.size;clear hu K2 K1 E0 HH c0
 have ad:=ag (λ(W:World) (X:Kp (λk=>k=ob) w2 W)=>show jD W xb cb g l.length pv m/\lB W g on/\ku W B cb l (slice ao l.length b0)/\W.ownsRow B3 3 1 (slice ga goals.length gc) goals.length (bO goals)/\W.ownsRow w1.heap.size 3 1 (slice ua ks.length uc) ks.length (bO (j2 ks))from
  ⟨R.out.2.2.1.aB X ca,X.at_ R.out.2.2.2.2.1 b5,R.out.2.2.2.1.pO X (λi cur T hi _ hT e=>by
   subst e;rw[Wb]at hi;simp only[bE,eH]at hi;rcases hT with h|h|h|h<;>rw[h]at hi<;>exact absurd hi.2.1 aV),X.owns R.out.2.2.2.2.2.1 bo,X.owns R.out.1 b8⟩)
 have a2:=R.out.2.2.2.1;have c0:w2.cell? _=some (pointer (some ⟨cb,0,none⟩)):=R.out.2.2.1.cell 0;have zc:=a2.cell;have⟨g1,GB,hv,_,hcell,_⟩:=a2.2.1.form hy;simp only[aH]at hv;obtain⟨rfl,-,rfl⟩:=hv;have zi:_=some _:=hcell 1 oQ;clear a2 hcell;cases q2:y.n.kind==2 with
 |true=>
  have e2:y.n.kind=2:=cX q2;have q3:(y.n.kind==3)=false:=by rw[e2];rfl
  have eK:=Z.out.1;rw[q2]at eK;simp only[aQ]at eK;obtain⟨k0,kt,aa⟩:∃k0 kt,ks=k0::kt:=by
   have:=Z.out.2.2 e2;cases ks with
   |nil=>exact absurd rfl this
   |cons a b=>exact⟨a,b,rfl⟩
  have bc:ks.headD 0=k0:=by rw[aa];rfl
  have br:k0∈ks:=by rw[aa];simp
  have cc:0<ks.length:=by rw[aa];simp
  have b7:(0:Int)<(ks.length:Int):=oQ;rw[bc]at eK;have⟨g2,cap2,hv2,_⟩:=cO R.out.1 oQ;simp only[aH]at hv2;obtain⟨rfl,-,rfl⟩:=hv2;have z0:w2.cell? ⟨g2,0,none⟩=some (int i64 k0):=by
   rw[bK R.out.1 0 oQ,aa];rfl
  have HS:=ag eK;clear eK aa bc;go_wp21;go_loopw [9,10] (λcv kv wr=>∃k:Nat,kv= int i64 k/\k<=ks.length/\cv= int i64 (kD (rB ol.ah goals) k0 (ks.take k):Nat)/\Kp bA w2 wr) (λ_ kv _=>ks.length-(intOf kv).toNat)
  case atStart=>exact⟨0,rfl,aA _,rfl,Kp.refl _ _⟩
  case round=>
   obtain⟨k,rfl,hk,rfl,X⟩:=hrel;by_cases I:k<ks.length
   ·have aO:(k:Int)<(ks.length:Int):=oQ;obtain⟨G,U⟩:∃G,ks[k]? =some G:=⟨_,au I⟩
    have bt:=HL.out G (aP U);have a0:=ag (CB (rB ol.ah goals) k0 U);generalize kD (rB ol.ah goals) k0 (ks.take k)=ck at*;go_wp;go_loopw [9,11] (λcv jv wq=>∃j:Nat,jv= int i64 j/\j<=goals.length/\cv= int i64 ((if(goals.take j).any (AQ ol.ah G)then G else ck:Nat):Int)/\Kp bA w2 wq) (λ_ jv _=>goals.length-(intOf jv).toNat)
    case atStart=>exact⟨0,rfl,aA _,rfl,X⟩
    case round=>
     obtain⟨j,rfl,hj,rfl,KQ⟩:=hrel;have am:Kp (λk=>k=ob) _ _:=KQ.mono gM;have⟨hr,lO,iq,hgr,hur⟩:=ad.out wr am;have c0:wr.cell? _=some (pointer (some ⟨cb,0,none⟩)):=hr.cell 0;have zk:wr.cell? ⟨g2,k,none⟩=some (int i64 G):=by
      rw[bK hur k oQ];simp[bO,j2,U]
     by_cases ap:j<goals.length
     ·have Lg:(j:Int)<(goals.length:Int):=oQ;obtain⟨gj,a4⟩:∃gj,goals[j]? =some gj:=⟨_,au ap⟩
      have ci:=b4 gj (aP a4);have⟨g3,AI,hv3,_⟩:=cO hgr oQ;simp only[aH]at hv3;obtain⟨rfl,-,rfl⟩:=hv3;have zg:wr.cell? ⟨g3,j,none⟩=some (int i64 gj):=by
       rw[bK hgr j oQ];simp[bO,a4]
      have J:(goals.take (j+1)).any (AQ ol.ah G)=((goals.take j).any (AQ ol.ah G)||AQ ol.ah G gj):=by
       rw[iA,a4,List.any_append];simp
      generalize (goals.take j).any (AQ ol.ah G)=aj at*;by_cases bb:0<=gj
      ·obtain⟨gn,rfl⟩:∃gn:Nat,gj=gn:=⟨gj.toNat,oQ⟩
       have E:=ag (λnn=>rH (wr.drewN nn) B cb l _ G gn (iq.aw ((Kp.refl _ _).drewN nn)) oQ Q.up oQ);have hh:AQ ol.ah G gn=((gn:Int)==(G:Int)||aG (Ch.ah l) G gn):=by unfold AQ;rw[gf bb,fC,Q.ah]
       rw[hh]at J;generalize aG (Ch.ah l) G gn=ab at*;clear hr lO iq hgr hur hh;cases qe:(gn:Int)==(G:Int)with
       |true=>
        have HN:=ag (show(goals.take (j+1)).any (AQ ol.ah G)=true by rw[J,qe];simp);clear J;go_upto_region 11 with fail;go_quiet ((go_at_call 243;exact j7 (fA E _)));go_wp2;exact⟨⟨j+1,eb,oQ,by rw[HN.out];rfl,KQ.drewN _⟩,ew⟩
       |false=>?_
       have HN:=ag (show(goals.take (j+1)).any (AQ ol.ah G)=(aj||ab)by rw[J,qe];simp);clear J;cases ab<;>
       (go_upto_region 11 with fail
        go_quiet ((go_at_call 243;exact j7 (fA E _)));go_wp2;go_roundw
        case rel=>exact⟨j+1,eb,oQ,by rw[HN];cases aj<;>rfl,KQ.drewN _⟩
        case measure=>simp[intOf];omega)
      have cq:gj<0:=oQ;have HN:=ag (show(goals.take (j+1)).any (AQ ol.ah G)=aj by rw[J];unfold AQ;rw[fB bb];simp);clear hr lO iq hgr hur J;go_upto_region 11 with fail;go_quiet (fail);go_wp2;exact⟨⟨j+1,eb,oQ,by rw[HN],KQ.drewN _⟩,ew⟩
     have a3:¬(j:Int)<goals.length:=oQ;obtain rfl:j=goals.length:=oQ;rw[gL];have HN:=ag a0;clear hr lO iq hgr hur;go_wp2;exact⟨⟨k+1,eb,oQ,by rw[HN,Ud],KQ⟩,ew⟩
   have a3:¬(k:Int)<ks.length:=oQ;obtain rfl:k=ks.length:=oQ;rw[gL];have b1:kD (rB ol.ah goals) k0 ks∈ks:=by have:=E_ (rB ol.ah goals) br ks.length;rwa[gL]at this
   generalize kD (rB ol.ah goals) k0 ks=c1 at*;go_wp;go_loopw [9,12] (λcv kv wr=>∃k:Nat,kv= int i64 k/\k<=ks.length/\cv= int i64 (kD (Ch.bit m.s.act) c1 (ks.take k):Nat)/\Kp bA w2 wr) (λ_ kv _=>ks.length-(intOf kv).toNat)
   case atStart=>exact⟨0,rfl,aA _,rfl,X⟩
   case round=>
    obtain⟨k,rfl,hk,rfl,KQ⟩:=hrel;have am:Kp (λk=>k=ob) _ _:=KQ.mono gM;have⟨hr,lO,iq,hgr,hur⟩:=ad wr am;by_cases I:k<ks.length
    ·have aO:(k:Int)<ks.length:=oQ;obtain⟨G,U⟩:∃G,ks[k]? =some G:=⟨_,au I⟩
     have bt:=HL G (aP U);have cm:(G:Int)<l.length:=oQ;have cp:wr.cell? _=some (slice (some ⟨g,0,none⟩) l.length l.length):=hr.cell 1;have zk:wr.cell? ⟨g2,k,none⟩=some (int i64 G):=by
      rw[bK hur k oQ];simp[bO,j2,U]
     have DC:=lO.cell (k:=G) (by have:=bk.1;omega);have a6:=CB (Ch.bit m.s.act) c1 U;rw[<-bk.2.2 G]at a6;have a0:=ag a6;generalize kD (Ch.bit m.s.act) c1 (ks.take k)=ck at*;generalize jC on G=ok at*;clear hr lO iq hgr hur a6;cases ok<;>
     (go_upto_region 16 with fail
      go_quiet (fail);go_wp2;go_roundw
      case rel=>exact⟨k+1,eb,oQ,by rw[a0];rfl,KQ.drewN _⟩
      case measure=>simp[intOf];omega)
    have a3:¬(k:Int)<ks.length:=oQ;obtain rfl:k=ks.length:=oQ;rw[gL];have eK:=HS.out;have b2:kD (Ch.bit m.s.act) c1 ks∈ks:=by have:=E_ (Ch.bit m.s.act) b1 ks.length;rwa[gL]at this
    generalize kD (Ch.bit m.s.act) c1 ks=c2 at*;have a9:=HL c2 b2;have E:=ag (Vs wr c2 oQ a9.2 hr lO iq hgr);have F:=Z.2.1;rw[eK]at F;simp only[e_]at F;have O:0<(eJ ol.ah (Ch.bit m.s.act) goals ol.ah.length c2).length:=by
     rw[zQ Q.lD.tP _ _ (by rw[Q.len];exact a9.2)];simp
    generalize eJ ol.ah (Ch.bit m.s.act) goals ol.ah.length c2=Y at*;have HN:=ag eK;have ho:=KQ.owns R.2.2.2.2.2.2 (λ_ _ x=>x);have HX:=bw ho am;clear hr lO iq hgr hur eK ho;go_wp;refine fu E ?_;rintro z w5 ⟨u5,rfl,Ku,K5⟩;have⟨g5,cap5,hv5,_⟩:=cO Ku O;subst hv5;have tF:=K5.owns HX.1 (λ_ _ x=>x);have Uf:=HX.2.trans' K5 gM;have bm:=Uf.size;have bx:=aR Wb;have D:∀e u,(bO (j2 Y))[e]? =some u->w5.cell? ((⟨g5,0,none⟩:Addr).add e)=some u:=by
     intro e u he;have I:=(aM.1 he).1;have be:e<Y.length:=by simpa[bO,j2]using I
     have:=bK Ku e oQ;rw[he]at this;by_cases c:e=0
     ·subst c;simpa[Addr.add]using this
     simpa[Addr.add,c]using this
    go_wp2_with (at_builtin;refine lN (P:=prog) rfl (tmp 110) (tmp 111) 38 rfl ob 3 i0 (int i64 0) 1 8 underlying38 hi0 hz0 hz1 hz2 rfl aV (slice (some ⟨ob,0,none⟩) 1 1) 1 (bO (j2 [i])) rfl (by exact tF) ⟨g5,0,none⟩ Y.length cap5 (bO (j2 Y)) rfl (by simp[bO,j2]) D (by intro u hu;simp[bO,j2]at hu;obtain⟨_,_,rfl⟩:=hu;rfl) O wY oQ oQ ?_);intro g9 c9 w9 o9 Vt aI;have K9:=Uf.grown (by exact Vt) (λe he I=>by simpa[Value.ownBlock]using he.symm);have⟨G_,_,hF9,_,_⟩:=ad w9 K9;have cn:w9.cell? _=some (pointer (some ⟨cb,0,none⟩)):=G_.cell 0;have cV:=hF9.cell;have⟨g1',Ji,hv',_,hcell',_⟩:=hF9.2.1.form hy;simp only[aH,bE,ei,cA,dV]at hv';obtain⟨rfl,rfl⟩:=hv';have cZ:_=some _:=hcell' 1 oQ;have Qs:=bw o9 (R.2.1.trans' K9 (λi hi e=>oQ));clear o9 Vt K9 tF Uf Ku K5 D aI G_ hF9 hcell';go_wp2;go_ret;rw[HN];refine⟨_,rfl,?_,Qs.2⟩;have:=Qs.1;simp[bO,j2]at this⊢;rw[show Y.length+1=1+Y.length by omega];first|exact this|(rw[wm];exact this)
 |false=>?_
 cases q3:y.n.kind==3 with
 |true=>
  have e3:y.n.kind=3:=cX q3;have eK:=Z.1;rw[q2,q3]at eK;simp only[bu,bf,aQ]at eK;have F:=Z.2.1;rw[eK]at F;simp only[e_]at F;have aS:∀k,(i::(ks.take k).flatMap (eJ ol.ah (Ch.bit m.s.act) goals ol.ah.length)).length<=16:=λk=>by
   have ce:((ks.take k).flatMap (eJ ol.ah (Ch.bit m.s.act) goals ol.ah.length)).length<=(ks.flatMap (eJ ol.ah (Ch.bit m.s.act) goals ol.ah.length)).length:=by
    rw[<-od k ks,qF,ix,od];omega
   simp only[e_];omega
  have HS:=ag eK;have HP:=ag aS;clear eK F aS;go_wp21;go_loopw [7,14] (λov kv wr=>∃k:Nat,kv= int i64 k/\k<=ks.length/\wr.ownsRow ob 3 1 ov (i::(ks.take k).flatMap (eJ ol.ah (Ch.bit m.s.act) goals ol.ah.length)).length (bO (j2 (i::(ks.take k).flatMap (eJ ol.ah (Ch.bit m.s.act) goals ol.ah.length))))/\Hid (∀e,ov.ownBlock=some e->e=ob\/w2.heap.size<=e)/\Kp (λk=>k=ob) w2 wr) (λ_ kv _=>ks.length-(intOf kv).toNat)
  case atStart=>exact⟨0,rfl,aA _,R.2.2.2.2.2.2,ag (λe he=>inl (by simpa[Value.ownBlock]using he.symm)),Kp.refl _ _⟩
  case round=>
   obtain⟨k,rfl,hk,ho,a8,X⟩:=hrel;by_cases I:k<ks.length
   ·have aO:(k:Int)<ks.length:=oQ;have⟨hr,lO,iq,hgr,hur⟩:=ad wr X;obtain⟨j,hj⟩:∃j,ks[k]? =some j:=⟨_,au I⟩
    have ap:=HL j (aP hj);have⟨g2,cap2,hv2,_⟩:=cO hur oQ;simp only[aH]at hv2;obtain⟨rfl,-,rfl⟩:=hv2;have zk:wr.cell? ⟨g2,k,none⟩=some (int i64 j):=by
     rw[bK hur k oQ];simp[bO,j2,hj]
    have E:=ag (Vs wr j oQ ap.2 hr lO iq hgr);have J:(ks.take (k+1)).flatMap (eJ ol.ah (Ch.bit m.s.act) goals ol.ah.length)=(ks.take k).flatMap (eJ ol.ah (Ch.bit m.s.act) goals ol.ah.length)++eJ ol.ah (Ch.bit m.s.act) goals ol.ah.length j:=by
     rw[iA,hj,qF];simp
    have bi:=HP (k+1);have O:0<(eJ ol.ah (Ch.bit m.s.act) goals ol.ah.length j).length:=by
     rw[zQ Q.lD.tP _ _ (by rw[Q.len];exact ap.2)];simp
    rw[J]at bi;simp only[e_,ix]at bi;generalize eJ ol.ah (Ch.bit m.s.act) goals ol.ah.length j=Y at*;generalize (ks.take k).flatMap (eJ ol.ah (Ch.bit m.s.act) goals ol.ah.length)=fk at*;have Ha:=ag J;have HX:=bw ho X;have⟨oa,oc,hov⟩:=bp ho;subst hov;clear hr lO iq hgr hur J ho X;go_wp;refine fu E ?_;rintro z w5 ⟨u5,rfl,Ku,K5⟩;have⟨g5,cap5,hv5,_⟩:=cO Ku O;subst hv5;have tF:=K5.owns HX.1 (λ_ _ x=>x);have Uf:=HX.2.trans' K5 gM;have bm:=Uf.size;have bx:=aR Wb;have D:∀e u,(bO (j2 Y))[e]? =some u->w5.cell? ((⟨g5,0,none⟩:Addr).add e)=some u:=by
     intro e u he;have I:=(aM.1 he).1;have be:e<Y.length:=by simpa[bO,j2]using I
     have:=bK Ku e oQ;rw[he]at this;by_cases c:e=0
     ·subst c;simpa[Addr.add]using this
     simpa[Addr.add,c]using this
    go_wp2_with (at_builtin;refine lN (P:=prog) rfl (tmp 138) (tmp 139) 38 rfl ob 3 i0 (int i64 0) 1 8 underlying38 hi0 hz0 hz1 hz2 rfl aV (slice oa (i::fk).length oc) (i::fk).length (bO (j2 (i::fk))) rfl (by exact tF) ⟨g5,0,none⟩ Y.length cap5 (bO (j2 Y)) rfl (by simp[bO,j2]) D (by intro u hu;simp[bO,j2]at hu;obtain⟨_,_,rfl⟩:=hu;rfl) O (by unfold maxLen;simp only[e_];omega) (by simp only[e_];omega) oQ ?_);intro g9 c9 w9 o9 Vt aI;have K9:Kp (λk=>k=ob) w2 w9:=Uf.grown (by exact Vt) (λe he I=>by
     rcases a8 e (by simpa[Value.ownBlock]using he)with h|h
     ·exact h
     omega)
    have Qs:=c_ o9 K9 (show∀e,(Value.slice (some ⟨g9,0,none⟩) ((i::fk).length+Y.length) c9).ownBlock=some e->e=ob\/w2.heap.size<=e from λe he=>by
     have b3:g9=e:=by simpa[Value.ownBlock]using he
     subst b3;rcases aI with h|h
     ·exact a8 _ (by simpa[Value.ownBlock]using h)
     exact inr oQ)
    clear o9 Vt K9 tF Uf Ku K5 D aI;go_wp2;go_roundw
    case rel=>
     refine⟨k+1,eb,oQ,?_,ag (by first|exact Qs.2.2|(have:=Qs.2.2;simpa using this)),Qs.2.1⟩;rw[Ha];have:=Qs.1;simp[bO,j2]at this⊢;rw[show fk.length+Y.length+1=fk.length+1+Y.length by omega];exact this
    case measure=>exact ew
   have a3:¬(k:Int)<ks.length:=oQ;obtain rfl:k=ks.length:=oQ;rw[gL]at ho;have HX:=bw ho (R.2.1.trans' X (λi hi e=>oQ));clear ho X;go_wp2;go_ret;rw[HS];exact⟨_,rfl,by first|exact HX.1|(rw[wm];exact HX.1),HX.2⟩
 |false=>?_
 have eK:=Z.1;rw[q2,q3]at eK;have HS:=ag (eK.trans (show _=[i]from rfl));clear eK;go_wp2;go_ret;rw[HS];exact⟨_,rfl,by rw[wm];exact R.2.2.2.2.2.2,R.2.1⟩
namespace Ch
theorem Ug j:∀ l n t x,l[t]? =some x->sE j x=true->∃k:Nat,(DJ j l n)[k]? =some (n+t):=by
 intro l;induction l with
 |nil=>simp_all
 |cons a l E=>?_
 intro n t x h D;simp only[DJ];cases t with
 |zero=>simp at h;subst h;rw[D];exact⟨0,dy⟩
 |succ t=>?_
 have⟨k,hk⟩:=E (n+1) t x (cX h) D;rw[show n+1+t=n+(t+1)by omega]at hk;cases sE j a with
 |true=>exact⟨k+1,by simpa using hk⟩
 |false=>grind
theorem Qt{ol}(F:Co ol){t}(D:t<ol.dF.length):∃a:Nat,iG ol t=a/\TH ol t a (G9 ol t):=by
 have E:=au D;have⟨a,ha,_⟩:=F.src _ (List.getElem_mem D);have⟨k,hk⟩:=Ug a ol.dF 0 t _ E (by unfold sE;rw[ha];simp);rw[eG]at hk;have hm:=XO hk;refine⟨a,hm.st,?_⟩;rw[hm.rk];exact hm
end Ch
theorem Rf.mv{l ol}(h:Rf l ol){t}(D:t<ol.dF.length):∃(a:Nat) (nd:NV) (rt:RT) (x:Tr),iG ol t=a/\a<l.length/\MvR l ol t a (G9 ol t) nd rt x:=by
 have⟨a,ha,hm⟩:=Qt h.lD D;have⟨nd,rt,x,h1,h2,h3,h4,h5,h6⟩:=h.move hm;exact⟨a,nd,rt,x,ha,(aM.1 h1).1,⟨h1,h2,h3,h4,h5,h6⟩⟩
theorem sk w B xb cb g pv m l v ol trg on(h:jD w xb cb g l.length pv m)(a1:lB w g on)(a3:iI l.length on m.s.act)(hI:Ch.Inv ol m.s)(hF:ku w B cb l v)(X:Rf l ol):
 Calls prog 205 #[pointer (some ⟨xb,0,none⟩),int .u8 trg] w λy w'=>∃u,y=returned u/\w'.ownsRow w.heap.size 301 2 u (Ch.choose ol m.s trg).length (iJ ol (Ch.choose ol m.s trg))/\Kp bA w w':=by
 have⟨i0,hi0,hz0,hz1,hz2⟩:=cr Uc;have⟨d,hd,iT⟩:=Cz;have E0:=ag (Mz w B xb cb g pv m l v ol trg on h a1 a3 hI hF X);have Z:=A4 ol m.s trg;have b5:=bz Z.2 X.lD.le;have a9:Ch.choose ol m.s trg=gD ol m.s _ []:=rfl;obtain⟨ao,b3,rfl⟩:=hF.2.1.len;have b6:=X.le;rw[a9];generalize Ch.find ol m.s trg=D at*;have a6:=ag Z.1;have HH:=c_ h hF a1;go_in;go_wp;refine fu E0 ?_;rintro y w2 ⟨u,rfl,hu,K2⟩;obtain⟨ua,uc,rfl⟩:=bp hu;have HU:=rP hu K2 (HH.out.1.aB K2 (λx=>x):jD w2 xb cb g l.length pv m) (HH.out.2.1.aw K2) (K2.at_ HH.out.2.2 (λx=>x):lB w2 g on);have br:=K2.size;go_wp21;go_loopw [5,7] (λlv kv wr=>∃(k:Nat) (acc:List Int),kv= int i64 k/\k<=D.length/\acc.length<=k/\Hid (Ae ol acc)/\wr.ownsRow w.heap.size 301 2 lv acc.length (iJ ol acc)/\Hid (gD ol m.s D []=gD ol m.s (D.drop k) acc)/\Kp bA w2 wr) (λ_ kv _=>D.length-(intOf kv).toNat)
 case atStart=>exact⟨0,[],rfl,aA _,aC _,ag (by intro n hn;cases hn),cd _ _ _ _,ag rfl,Kp.refl _ _⟩
 case round=>
  obtain⟨k,acc,rfl,hk,b4,aO,ho,HC,KW⟩:=hrel;by_cases J:k<D.length
  ·have bo:(k:Int)<(D.length:Int):=oQ;have aI:=KW.owns HU.out.1 (λ_ _ x=>x);obtain⟨ti,ap⟩:∃ti,D[k]? =some ti:=⟨_,au J⟩
   have bx:=a6.out ti (aP ap);obtain⟨t,rfl⟩:∃t:Nat,ti=t:=⟨ti.toNat,oQ⟩
   have a4:t<ol.dF.length:=oQ;have⟨a,nd,rt,x,hsa,WG,hmr⟩:=X.mv a4;have⟨g2,cap2,hv2,_⟩:=cO aI oQ;simp only[aH]at hv2;obtain⟨rfl,-,rfl⟩:=hv2;have⟨q0,q1⟩:=oF ol D k t ap;rw[dE]at q0 q1;rw[hsa]at q0;have z0:=(bK aI (k*2) oQ).trans q0;have z1:=(bK aI (k*2+1) oQ).trans q1;have ba:D.drop k=(t:Int)::D.drop (k+1):=by
    rw[eR J];congr 1;exact(aM.1 ap).2
   have ab:gD ol m.s D []=gD ol m.s (D.drop (k+1)) (nR ol m.s acc t):=by rw[HC.out,ba];rfl
   have Qu:=BH (s:=m.s) a4 aO.out;have E:nR ol m.s acc t=if acc.all (λx=>!(Ch.meets (Ch.leaves ol m.s t) (Ch.leaves ol m.s x.toNat))||Ch.within ol t x.toNat)then acc.filter (λx=>!(Ch.meets (Ch.leaves ol m.s t) (Ch.leaves ol m.s x.toNat)))++[(t:Int)]else acc:=by
    unfold nR;rw[Qa];cases acc.all (λx=>!(Ch.meets (Ch.leaves ol m.s t) (Ch.leaves ol m.s x.toNat))||Ch.within ol t x.toNat)<;>simp
   generalize ad:G9 ol t=mk at*;have a8:=ak wr (cells #[int i64 a,int i64 mk] 301);have K4:=kG wr (cells #[int i64 a,int i64 mk] 301);have a0:=K4.owns ho (λ_ _ x=>x);have Dj:=KW.trans K4;have a5:=c_ ab Qu E;have HO:=bw ho KW;go_upto_region 7 with fail;generalize wr.alloc (cells #[int i64 a,int i64 mk] 301)=w4 at*;generalize wm:wr.heap.size=ob at*;have HZ:=c_ a8 a0 Dj;have⟨la,lc,hlv⟩:=bp a0;subst hlv;have bt:=Dj.size;go_wp;go_loopw [9,10,11] (λwv jo jv wq=>∃j:Nat,jv= int i64 j/\j<=acc.length/\jo= bool ((acc.take j).all (λx=>!(Ch.meets (Ch.leaves ol m.s t) (Ch.leaves ol m.s x.toNat))||Ch.within ol t x.toNat))/\wq.ownsRow w4.heap.size 301 2 wv ((acc.take j).filter (λx=>!(Ch.meets (Ch.leaves ol m.s t) (Ch.leaves ol m.s x.toNat)))).length (iJ ol ((acc.take j).filter (λx=>!(Ch.meets (Ch.leaves ol m.s t) (Ch.leaves ol m.s x.toNat)))))/\Kp bA w4 wq) (λ_ _ jv _=>acc.length-(intOf jv).toNat)
   case atStart=>exact⟨0,rfl,aA _,rfl,cd _ _ _ _,Kp.refl _ _⟩
   case round=>
    obtain⟨j,rfl,hj,rfl,F,R⟩:=hrel;by_cases bc:j<acc.length
    ·have Lg:(j:Int)<(acc.length:Int):=oQ;have aa:=HZ.out.2.2.trans R;have hq:=HU.out.2.2.1.aB aa (λx=>x);have AL:=HU.out.2.2.2.1.aw aa;have WM:lB _ _ _:=aa.at_ HU.out.2.2.2.2 (λx=>x);have G:=R.at_ HZ.out.1 (λx=>x);have am:=R.owns HZ.out.2.1 (λ_ _ x=>x);obtain⟨oi,O⟩:∃oi,acc[j]? =some oi:=⟨_,au bc⟩
     have b1:=aO.out oi (aP O);obtain⟨o,rfl⟩:∃o:Nat,oi=o:=⟨oi.toNat,oQ⟩
     have⟨a2,nd2,rt2,x2,Zk,ai0,aeU⟩:=X.mv (t:=o) oQ;have⟨g3,AI,hv3,_⟩:=cO am oQ;simp only[aH]at hv3;obtain⟨rfl,-,rfl⟩:=hv3;have⟨q0,q1⟩:=oF ol acc j o O;rw[dE]at q0 q1;rw[Zk]at q0;have y0:=(bK am (j*2) oQ).trans q0;have y1:=(bK am (j*2+1) oQ).trans q1;have t0:wr.cell? ⟨ob,0,none⟩=some (int i64 a):=dG G rfl;have t1:wr.cell? ⟨ob,1,none⟩=some (int i64 mk):=dG G rfl;have KD:Kp bA wr _:=(Kp.refl _ _).drew;rw[<-ad]at hmr;have E1:=ag (Qp wr.drew B xb cb g pv m l _ ol t a _ o a2 _ nd nd2 rt rt2 x x2 on (hq.aB KD (λx=>x)) (KD.at_ WM (λx=>x)) a3 (AL.aw KD) X hmr aeU);have XD:Ch.within ol t o=aG (Ch.ah l) a2 a:=by unfold Ch.within;rw[hsa,Zk,X.ah]
     have Y:(acc.take (j+1)).all (λx=>!(Ch.meets (Ch.leaves ol m.s t) (Ch.leaves ol m.s x.toNat))||Ch.within ol t x.toNat)=((acc.take j).all (λx=>!(Ch.meets (Ch.leaves ol m.s t) (Ch.leaves ol m.s x.toNat))||Ch.within ol t x.toNat)&&(!(Ch.meets (Ch.leaves ol m.s t) (Ch.leaves ol m.s o))||Ch.within ol t o)):=by
      rw[iA,O,List.all_append];simp
     have aS:(acc.take (j+1)).filter (λx=>!(Ch.meets (Ch.leaves ol m.s t) (Ch.leaves ol m.s x.toNat)))=(acc.take j).filter (λx=>!(Ch.meets (Ch.leaves ol m.s t) (Ch.leaves ol m.s x.toNat)))++(if Ch.meets (Ch.leaves ol m.s t) (Ch.leaves ol m.s o)then[]else[(o:Int)]):=by
      rw[iA,O,gZ];congr 1;cases be:Ch.meets (Ch.leaves ol m.s t) (Ch.leaves ol m.s o)<;>simp[be]
     rw[ad]at E1;rw[XD]at Y;have bm:=X.up;generalize bg:G9 ol o=mo at*;have HL:=bw Y aS;have a7:((acc.take j).filter (λx=>!(Ch.meets (Ch.leaves ol m.s t) (Ch.leaves ol m.s x.toNat)))).length<=16:=by
      have h1:=mB (λx=>!(Ch.meets (Ch.leaves ol m.s t) (Ch.leaves ol m.s x.toNat))) (acc.take j);have h2:(acc.take j).length<=j:=il;omega
     have Oj:=uF ol ((acc.take j).filter (λx=>!(Ch.meets (Ch.leaves ol m.s t) (Ch.leaves ol m.s x.toNat)))) (o:Int);have bk:Al ol (o:Int)=[int i64 a2,int i64 mo]:=by unfold Al;rw[dE,Zk,bg]
     have Ha:=bw Oj bk;generalize (acc.take j).filter (λx=>!(Ch.meets (Ch.leaves ol m.s t) (Ch.leaves ol m.s x.toNat)))=U at*;generalize (acc.take j).all (λx=>!(Ch.meets (Ch.leaves ol m.s t) (Ch.leaves ol m.s x.toNat))||Ch.within ol t x.toNat)=aj at*;generalize Ch.meets (Ch.leaves ol m.s t) (Ch.leaves ol m.s o)=mt at*;have HQ:=rP hq AL F R KD;have⟨wa,wc,hwv⟩:=bp F;subst hwv;go_upto_region 12 with fail;go_region_held3 (λw'=>w'.cell? ⟨ob,0,none⟩=some (int i64 a)/\w'.cell? ⟨ob,1,none⟩=some (int i64 mk)/\w'.cell? ⟨g3,j*2,none⟩=some (int i64 a2)/\w'.cell? ⟨g3,j*2+1,none⟩=some (int i64 mo)) (first|exact⟨t0,t1,y0,y1⟩|exact HS.out) ((go_at_call 242;refine b9 E1 ?_;intro w5 K5;have H:=ag K5;have HS:=fM (K5.bN t0) (K5.bN t1) (K5.bN y0) (K5.bN y1)))
     have⟨s0,s1,r0,r1⟩:=HS.out;have I:=HQ.out.2.2.2.2.trans H.out;have XL:=HQ.out.2.1.aw I;have h5:=HQ.out.1.aB I (λx=>x);have b2:w5.cell? _=some (pointer (some ⟨cb,0,none⟩)):=h5.cell 0;have E2:=ag (λnn=>rH (w5.drewN nn) B cb l _ a2 a (XL.aw ((Kp.refl _ _).drewN nn)) WG bm oQ);generalize aG (Ch.ah l) a2 a=wi at*;have tF:=I.owns HQ.out.2.2.1 (λ_ _ x=>x);have Uf:=HQ.out.2.2.2.1.trans I;go_upto_region 13 with fail;go_quiet ((go_at_call 243;exact j7 (fA E2 _)));have Ko:=((Kp.refl bA w5).drewN nq).owns tF (λ_ _ x=>x);have YF:=Uf.drewN nq;have b0:=YF.size;cases mt with
     |true=>
      have HX:=bw Ko YF;cases wi
      ·go_wp2;exact⟨⟨j+1,eb,oQ,by rw[HL.1];cases aj<;>rfl,by rw[HL.2];simpa using HX.1,HX.2⟩,ew⟩
      go_wp2;exact⟨⟨j+1,eb,oQ,by rw[HL.1];cases aj<;>rfl,by rw[HL.2];simpa using HX.1,HX.2⟩,ew⟩
     |false=>?_
     have b8:(w5.drewN nq).cell? _=_:=r0;have ca:(w5.drewN nq).cell? _=_:=r1;generalize w5.drewN nq=w6 at*;go_wp2_with (at_builtin;refine jk (P:=prog) _ rfl (tmp 59) (tmp 64) 276 rfl w4.heap.size 301 i0 (agg #[int i64 0,int i64 0]) 2 16 underlying276 hi0 hz0 hz1 hz2 rfl aV (slice wa U.length wc) U.length (iJ ol U) rfl (by exact Ko.alloc _) ⟨w6.heap.size,0,none⟩ 1 1 [int i64 a2,int i64 mo] rfl rfl (by exact ox _ _ _ _) (by intro u hu;simp at hu;rcases hu with rfl|rfl<;>rfl) wY oQ il ?_);intro v' w9 o9 g9 _;have K9:=(YF.alloc (cells #[int i64 a2,int i64 mo] 301)).grown (by exact g9) (λj hj J=>by have:=(Ko.lt j hj).1;omega);have Qs:=bw o9 K9;go_wp2;go_roundw
     case rel=>
      refine⟨j+1,eb,oQ,by rw[HL.1];cases aj<;>rfl,?_,Qs.2⟩;rw[HL.2];simp only[bu,bf];rw[Ha.1,Ha.2];have:=Qs.1;simpa using this
     case measure=>exact ew
    have bb:¬(j:Int)<acc.length:=oQ;obtain rfl:j=acc.length:=oQ;rw[gL]at F⊢;have ab:=a5.out;have G:=R.at_ HZ.1 (λx=>x);have KF:=HZ.2.2.trans R;have t0:wr.cell? ⟨ob,0,none⟩=some (int i64 a):=dG G rfl;have t1:wr.cell? ⟨ob,1,none⟩=some (int i64 mk):=dG G rfl;have Cd:Al ol (t:Int)=[int i64 a,int i64 mk]:=by unfold Al;rw[dE,hsa,ad]
    have a7:=mB (λx=>!(Ch.meets (Ch.leaves ol m.s t) (Ch.leaves ol m.s x.toNat))) acc;have Oj:=uF ol (acc.filter (λx=>!(Ch.meets (Ch.leaves ol m.s t) (Ch.leaves ol m.s x.toNat)))) (t:Int);rw[Cd]at Oj;have iL:=KF.size;have b7:=R.size;generalize acc.filter (λx=>!(Ch.meets (Ch.leaves ol m.s t) (Ch.leaves ol m.s x.toNat)))=U at*;generalize acc.all (λx=>!(Ch.meets (Ch.leaves ol m.s t) (Ch.leaves ol m.s x.toNat))||Ch.within ol t x.toNat)=aj at*;have⟨hc1,Qu,E⟩:=ab;cases aj with
    |false=>
     simp only[bu,bf]at E;rw[E]at hc1 Qu;have Q:=bw hc1 Qu;have bi:=R.owns HZ.2.1 (λ_ _ x=>x);have HX:=bw bi KF;go_wp2;exact⟨⟨k+1,acc,eb,oQ,oQ,ag Q.2.1,HX.1,ag Q.1,HX.2⟩,ew⟩
    |true=>?_
    simp only[aQ]at E;rw[E]at hc1 Qu;have Q:=c_ hc1 Qu Oj;have⟨wa,wc,hwv⟩:=bp F;subst hwv;go_wp2_with (at_builtin;refine jk (P:=prog) _ rfl (tmp 67) (tmp 69) 276 rfl w4.heap.size 301 i0 (agg #[int i64 0,int i64 0]) 2 16 underlying276 hi0 hz0 hz1 hz2 rfl aV (slice wa U.length wc) U.length (iJ ol U) rfl (by exact F.alloc _) ⟨wr.heap.size,0,none⟩ 1 1 [int i64 a,int i64 mk] rfl rfl (by exact ox _ _ _ _) (by intro u hu;simp at hu;rcases hu with rfl|rfl<;>rfl) wY oQ il ?_);intro v' w9 o9 g9 _;have K9:=(KF.alloc (cells #[int i64 a,int i64 mk] 301)).grown (by exact g9) (λj hj J=>by have:=(F.lt j hj).1;omega);have Qs:=bw (cH o9 (show w.heap.size<=w4.heap.size by omega)) K9;go_wp2;go_roundw
    case rel=>
     refine⟨k+1,U++[(t:Int)],eb,oQ,by simp;omega,ag Q.2.1.1,?_,ag Q.1,Qs.2⟩;rw[Q.2.2];have:=Qs.1;simpa using this
    case measure=>exact ew
  have bb:¬(k:Int)<D.length:=oQ;obtain rfl:k=D.length:=oQ;have Q:=ag (HC.trans (show _=acc by rw[List.drop_length];rfl));go_wp2;go_ret;rw[Q];exact⟨_,rfl,ho,HU.2.1.trans KW⟩
namespace Ch
theorem Om{l ol}(h:Rf l ol):d_ (mk l)=(List.range ol.ah.length).filter (fZ ol.ah):=by
 unfold d_;rw[h.len,eu];apply qI;intro i hi;rw[<-h.ah];exact(yB (L:=mk l) (by rw[eu];simpa using hi)).symm
theorem yJ{l ol}(h:Rf l ol)s:lG ol.ah s=(d_ (mk l)).map (cf s):=by unfold lG;rw[Om h]
theorem Qv{L i}(hi:i<L.length)(hk:(eE L i).kind=5):i∈d_ L:=by
 grind[d_]
theorem ME{ss s}{g:Nat}(h:(bn ss g !=5)=true):l5 ss s g=g:=by
 unfold l5;rw[h];simp
theorem Qw{ss s}{g:Nat}(D:g<16)(h:(bn ss g !=5)=false):l5 ss s g=if cf s g==45 then fj ss (aW ss g)else place ss (cf s g):=by
 grind[l5]
end Ch
def gr(w:World)(base:Nat)(v:Value)(n:Nat)(G:List Value):Prop:=
 G.length=n/\((v= slice none 0 0/\n=0)\/∃g E D F,v= slice (some ⟨g,0,none⟩) n E/\base<=g/\w.heap[g]? =some (cells D 5 F)/\(F=(0,0)\/D.size<=F.1)/\n<=D.size/\D.toList.take n=G)
section
variable {w w':World} {base g cap:Nat} {v:Value} {n:Nat} {xs:List Value}
theorem gr.of(h:w.ownsRow base 5 1 v n xs):gr w base v n xs:=by
 refine⟨by simpa using h.1,?_⟩;rcases h.2 with E|⟨g,cap,D,O,hb,J,F,_,G,I⟩
 ·simp_all
 grind
theorem gr.aB{S}(h:gr w base v n xs)(k:Kp S w w')(hs:∀i,v.ownBlock=some i->¬S i):gr w' base v n xs:=by
 refine⟨h.1,?_⟩;rcases h.2 with G|⟨g,cap,D,E,rfl,hb,F,r⟩
 ·simp_all
 exact inr ⟨g,cap,D,E,rfl,hb,k.at_ F (hs g rfl),r⟩
theorem gr.block(h:gr w base v n xs){k}(hk:v.ownBlock=some k):base<=k/\∃D E,w.heap[k]? =some (cells D 5 E):=by
 rcases h.2 with⟨rfl,_⟩|⟨g,cap,D,E,rfl,hb,F,_⟩
 ·simp[Value.ownBlock]at hk
 simp[Value.ownBlock]at hk;simp_all
theorem gr.ne(h:gr w base v n xs){b}{c}{T}{f}(hb:w.heap[b]? =some (cells c T f))(D:5≠T):v.ownBlock≠some b:=λhk=>by
 have⟨_,cur,fr,hg⟩:=h.block hk;rw[hb]at hg;simp only[bE,eH]at hg;exact D hg.2.1.symm
theorem gr.lt(h:gr w base v n xs)k(hk:v.ownBlock=some k):base<=k/\k<w.heap.size:=by
 have⟨hb,_,_,hg⟩:=h.block hk;grind
theorem gr.len(h:gr w base v n xs):∃D cap,v= slice D n cap:=by
 rcases h.2 with⟨rfl,rfl⟩|⟨g,cap,E,F,rfl,_⟩
 ·simp_all
 simp_all
theorem gr.apart(h:gr w base v n xs){D}{e}{size}{u}{I}{E}(F:w.ownsRow D e size u I E)(G:e≠5)k(hk:u.ownBlock=some k):v.ownBlock≠some k:=λhv=>by
 have⟨_,_,_,hg⟩:=h.block hv;exact aZ F hg G hk
theorem gr.form(h:gr w base v n xs)(G:0<n):∃g cap,v= slice (some ⟨g,0,none⟩) n cap/\base<=g/\g<w.heap.size:=by
 rcases h.2 with⟨_,rfl⟩|⟨g,cap,D,E,rfl,hb,F,_⟩
 ·omega
 grind
theorem gr.cellAt(h:gr w base (slice (some ⟨g,0,none⟩) n cap) n xs)j(I:j<n):w.cell? ⟨g,j,none⟩=xs[j]?:=by
 rcases h.2 with⟨D,_⟩|⟨Q,E,F,O,D,_,G,_,_,J⟩
 ·omega
 simp only[aH,bE,ei,dV,cA]at D;obtain⟨rfl,rfl⟩:=D;rw[World.cell?,G,<-J,List.getElem?_take,aq I];simp
theorem gr.free(h:gr w base (slice (some ⟨g,0,none⟩) n cap) n xs)j(Q:j<n):w.frozen? ⟨g,j,none⟩=false:=by
 rcases h.2 with⟨D,_⟩|⟨J,E,F,G,D,_,I,O,R,_⟩
 ·omega
 simp only[aH,bE,ei,dV,cA]at D;obtain⟨rfl,rfl⟩:=D;have⟨lo,hi⟩:=G;simp only[World.frozen?,I];grind
theorem gr.stored(h:gr w base (slice (some ⟨g,0,none⟩) n cap) n xs)j u:gr (w.setCell ⟨g,j,none⟩ u) base (slice (some ⟨g,0,none⟩) n cap) n (xs.set j u):=by
 rcases h.2 with⟨D,_⟩|⟨R,E,F,G,D,hb,J,I,O,Q⟩
 ·simp_all
 simp only[aH,bE,ei,dV,cA]at D;obtain⟨rfl,rfl⟩:=D;refine⟨by rw[j_];exact h.1,inr ⟨g,cap,_,G,rfl,hb,ar _ J,by simpa using I,by simpa using O,?_⟩⟩;rw[<-Q];simp[List.take_set]
theorem gr.text{l}(h:gr w base v l.length (aF l)):(convert 47 9 v).run prog w= .ok (string (strOfNums l)) w:=by
 rcases h.2 with⟨rfl,E⟩|⟨g,cap,D,F,rfl,r⟩
 ·have:=sV E;subst this;exact run_convert_bytes_nil w 47 5 underlying47 underlying5 0 0 9 underlying9
 refine lU w 47 5 underlying47 underlying5 g 0 l.length cap l rfl ?_ 9 underlying9;intro i hi;rw[eG,h.cellAt i oQ];grind[aF]
end
def On(w:World)(B:Nat)(ol:Ol)(s:Sd)(pv:Value):Prop:=gr w B pv (lG ol.ah s).length (aF (lG ol.ah s))
theorem Qx w B B2 xb cb g pv m l v ol t a k nd rt x(h:jD w xb cb g l.length pv m)(a5:On w B2 ol m.s pv)(hI:Ch.Inv ol m.s)(hF:ku w B cb l v)(I:Rf l ol)(hm:MvR l ol t a k nd rt x):
 Calls prog 248 #[pointer (some ⟨xb,0,none⟩),agg #[int i64 a,int i64 k]] w λy w'=>y=returned (int i64 (lF ol m.s t))/\Kp bA w w':=by
 have F:lF ol m.s t=if x.target==45 then-1 else l5 ol.ah m.s (Ch.place ol.ah x.target):=by unfold lF;rw[dE,hm.Dk]
 have bg:=I.le;obtain⟨ao,ba,rfl⟩:=hF.2.1.len;have ap:=ak w (cells #[int i64 a,int i64 k] 301);have K1:=kG w (cells #[int i64 a,int i64 k] 301);have am:=hF.aw K1;have h1:jD _ xb cb g l.length pv m:=h.aB K1 (λx=>x);have aS:On _ B2 ol m.s pv:=gr.aB a5 K1 (λ_ _ x=>x);have E1:=ag (Ak _ B xb cb g l.length pv m l _ a k nd rt x h1 am bg hm.nP hm.Cd hm.fW hm.iL);have HH:=fM h1 am aS F;clear h hF h1 am a5 aS F;go_in;go_upto_region 1 with fail;generalize w.alloc (cells #[int i64 a,int i64 k] 301)=w1 at*;generalize w.heap.size=ob at*;have m0:w1.cell? ⟨ob,0,none⟩=some (int i64 a):=dG ap rfl;have m1:w1.cell? ⟨ob,1,none⟩=some (int i64 k):=dG ap rfl;go_wp;refine b9 E1 ?_;intro w2 K2;have Y:=HH.out.1.aB K2 (λx=>x);have Q:=HH.out.2.1.aw K2;have Zl:On _ _ _ _ _:=gr.aB HH.out.2.2.1 K2 (λ_ _ x=>x);have c0:w2.cell? _=some (pointer (some ⟨cb,0,none⟩)):=Y.cell 0;have zc:=Q.cell;have F:=HH.out.2.2.2;have Oh:=K1.trans K2;clear E1 HH m0 m1 ap K1 K2;obtain⟨gt,R⟩:∃gt,ie (Ch.mk l) x.target=gt:=⟨_,rfl⟩
 rw[R];by_cases aa:x.target=45
 ·have hn:=I.Og;rw[<-aa,R]at hn;subst hn;rw[aa]at F;have HR:=ag (F.trans (show _= -1 from rfl));clear F R;exact qR HR Oh
 obtain⟨G,Jf,bb,bc⟩:∃G:Nat,G<l.length/\gt=G/\Ch.place ol.ah x.target=G:=by
  rcases I.named x.target with⟨_,Y⟩|⟨i,hi,h1,Y⟩
  ·have⟨g',hg',_⟩:=I.lD.tgt x (aP hm.Dk) aa;omega
  exact⟨i,hi,by rw[<-R];exact h1,Y⟩
 subst bb;have ht:(x.target==45)=false:=cX aa;rw[ht,bc]at F;simp only[bu,bf]at F;have bk:(G:Int)<(l.length:Int):=oQ;obtain⟨y,hy⟩:∃y,l[G]? =some y:=⟨_,au Jf⟩
 have⟨g1,GB,hv,_,hcell,_⟩:=Q.2.1.form hy;simp only[aH]at hv;obtain⟨rfl,-,rfl⟩:=hv;have zk:_=some _:=hcell 1 oQ;have ab:=I.kind hy;cases q5:y.n.kind !=5 with
 |true=>
  have HR:=ag (F.trans (ME (by rw[ab];exact q5)));clear F R hcell Y Q Zl;exact qR HR Oh
 |false=>?_
 have D:=F.trans (Qw oQ (by rw[ab];exact q5));rw[I.DD hy]at D;have E2:=ag (wI w2 B cb l _ Q oQ);have HX:=rP Y Q Zl D Oh;clear F R hcell Y Q Zl D Oh;go_wp21;refine fu E2 ?_;rintro z w3 ⟨u,rfl,hu,K3⟩;obtain⟨ua,uc,rfl⟩:=bp hu;have aj:=Qv (by rw[eu];exact Jf) (by rw[kB hy];simpa using q5);have a2:=yJ I m.s;have be:=vL (Ch.mk l);rw[eu]at be;have a4:=hI.b_ G (by rw[I.len];exact Jf) (by rw[wK (by rw[I.len];exact Jf),ab];simpa using q5);generalize d_ (Ch.mk l)=hs at*;have h3:=HX.out.1.aB K3 (λx=>x);have L7:=HX.out.2.1.aw K3;have Uh:On _ _ _ _ _:=gr.aB HX.out.2.2.1 K3 (λ_ _ x=>x);unfold On at Uh;rw[a2]at Uh;have⟨pa,pc,hpv⟩:=Uh.len;subst hpv;have HY:=xn hu h3 L7 Uh HX.out.2.2.2.1 (HX.out.2.2.2.2.trans K3) aj;have a8:=ag a4;simp only[fN]at*;clear hu h3 L7 Uh K3 E2 aj a2 a4 HX c0 zc zk;go_wp;go_loopw [7] (λkv wr=>∃e:Nat,kv= int i64 e/\e<=hs.length/\Hid (∀j,j<e->hs[j]? =some G->cf m.s G=45)/\Kp bA w3 wr) (λkv _=>hs.length-(intOf kv).toNat)
 case atStart=>exact⟨0,rfl,aA _,ag (λj h=>absurd h oQ),Kp.refl _ _⟩
 case round=>
  obtain⟨e,rfl,he,HB,Z⟩:=hrel;have hr:=HY.out.2.1.aB Z (λx=>x);have iq:=HY.out.2.2.1.aw Z;have X:=Z.owns HY.out.1 (λ_ _ x=>x);have U:=HY.out.2.2.2.1.aB Z (λ_ _ x=>x);have KF:=HY.out.2.2.2.2.2.1.trans Z;have c0:wr.cell? _=some (pointer (some ⟨cb,0,none⟩)):=hr.cell 0;have c2:wr.cell? _=some (slice pa hs.length pc):=hr.cell 2;have zc:=iq.cell;by_cases bi:e<hs.length
  ·have bm:(e:Int)<(hs.length:Int):=oQ;obtain⟨J,Ui⟩:∃J,hs[e]? =some J:=⟨_,au bi⟩
   have⟨g2,cap2,hv2,_⟩:=cO X oQ;simp only[aH]at hv2;obtain⟨rfl,-,rfl⟩:=hv2;have zh:wr.cell? ⟨g2,e,none⟩=some (int i64 J):=by
    rw[bK X e oQ];simp[bO,j2,Ui]
   have⟨g3,AI,hv3,_⟩:=U.form oQ;simp only[aH]at hv3;obtain⟨rfl,-,rfl⟩:=hv3;have zp:wr.cell? ⟨g3,e,none⟩=some (int .u8 (cf m.s J)):=by
    rw[U.cellAt e oQ];simp[aF,Ui]
   have Es:=ag (λ(hh:J=G->cf m.s G=45)=>show∀j,j<e+1->hs[j]? =some G->cf m.s G=45 from λj hj' hs'=>by
    rcases lX (lY hj')with h'|h'
    ·exact HB.out j h' hs'
    subst h';rw[Ui]at hs';exact hh (cX hs'))
   have Er:=bw Z KF;by_cases aO:J=G
   ·subst aO;cases qp:cf m.s J !=45 with
    |false=>
     have HN:=ag (Es.out (λ_=>by simpa using qp));clear hr iq X U Z KF Es HB Ui;go_wp2;exact⟨⟨e+1,eb,oQ,ag HN.out,Er.out.1⟩,ew⟩
    |true=>?_
    have a1:(cf m.s J==45)=false:=cX qp;have D:=HY.out.2.2.2.2.1;rw[a1]at D;simp only[bu,bf]at D;have a3:ie (Ch.mk l) (cf m.s J)=Ch.place ol.ah (cf m.s J):=by
     have hp:=a8.out;unfold jz at hp;rw[a1]at hp;simp only[bu,bf]at hp;rcases I.named (cf m.s J)with⟨_,Y⟩|⟨i,_,h1,Y⟩
     ·rw[Y]at hp;cases hp
     rw[h1,Y]
    have HN:=ag (D.trans a3.symm);have E:=ag (λnn=>xD (wr.drewN nn) B cb l _ (cf m.s J) (iq.aw ((Kp.refl _ _).drewN nn)) oQ);clear hr iq X U Z KF Es HB Ui D a3;go_upto_region 9 with fail;go_quiet ((go_at_call 236;exact j7 (fA E _)));exact qR HN (Er.2.drewN _)
   have bo:((J:Int)==(G:Int))=false:=il;have HN:=ag (Es (λh=>absurd h aO));clear hr iq X U Z KF Es HB Ui aO;go_wp2;exact⟨⟨e+1,eb,oQ,ag HN,Er.1⟩,ew⟩
  have br:¬(e:Int)<hs.length:=oQ;obtain rfl:e=hs.length:=oQ;have a9:cf m.s G=45:=by
   have⟨j,J⟩:=jl HY.2.2.2.2.2.2;exact HB j (aM.1 J).1 J
  have D:=HY.2.2.2.2.1;rw[a9]at D;have ad:=I.lD.tP.hs G (by rw[I.len];exact Jf) (inl (by rw[ab];simpa using q5));have⟨p,zD,abz⟩:=I.lD.tP.DD ad.1 (by rw[I.len];exact Jf);have a6:y.n.parent=p:=by rw[<-I.DD hy];exact zD
  rw[a6]at D;have O:fT ol.ah p≠[]:=by
   rw[zD]at ad;have⟨j,_,J⟩:=I.lD.tP.Gp p (by rw[I.len];omega) (inl ad.2);intro hz;have:=cY.2 J;rw[hz]at this;cases this
  have aI:=xE O;rw[<-sh I]at aI O;have a0:lF ol m.s t=((dZ (Ch.mk l) (p:Int)).headD 0:Nat):=by rw[D];simpa using aI
  have⟨g1',Ji,hv',_,hcell',_⟩:=iq.2.1.form hy;simp only[aH,bE,ei,cA,dV]at hv';obtain⟨rfl,rfl⟩:=hv';have zp:wr.cell? ⟨g1,G*7+2,none⟩=some (int i64 p):=by rw[<-a6];exact hcell' 2 oQ
  have E:=ag (kq wr.drew B cb l _ (p:Int) (iq.aw (Kp.refl _ _).drew) oQ);generalize dZ (Ch.mk l) (p:Int)=ks at*;have HN:=ag a0;have a7:=ag O;clear hr iq X U D aI a0 O hcell' ad HB;go_upto_region 10 with fail;go_region_held3 (λw'=>w'.cell? ⟨xb,0,none⟩=some (pointer (some ⟨cb,0,none⟩))/\w'.cell? ⟨cb,0,none⟩=some (slice (some ⟨g1,0,none⟩) l.length ba)/\w'.cell? ⟨g1,G*7+2,none⟩=some (int i64 p)) (first|exact⟨c0,zc,zp⟩|exact HS) ((go_at_call 234;refine fu E ?_;rintro z w5 ⟨u5,rfl,Ku,K5⟩;have H:=bw Ku K5;have HS:=c_ (K5.bN c0) (K5.bN zc) (K5.bN zp);clear E Ku K5))
  have⟨Ku,K5⟩:=H;clear H HS;cases ks with
  |nil=>exact absurd rfl a7
  |cons k0 kt=>?_
  have⟨g5,cap5,hv5,_⟩:=cO Ku dy;subst hv5;have z5:w5.cell? ⟨g5,0,none⟩=some (int i64 k0):=by
   rw[bK Ku 0 dy];simp[bO,j2]
  have DL:=ag (KF.drew.trans K5);have bt:(0:Int)<((k0::kt).length:Int):=dy;generalize (k0::kt).length=kl at*;clear Ku K5 KF Z;exact qR HN DL
structure pj w B B2 xb cb g pv v(l:List NV)ol m:Prop where
 nb:jD w xb cb g l.length pv m
 on:∃on,lB w g on/\iI l.length on m.s.act
 ps:On w B2 ol m.s pv
 ch:ku w B cb l v
def nS(xb g:Nat)(pv:Value)(k:Nat):Prop:=k=xb\/k=g\/pv.ownBlock=some k
section
variable {w w':World} {B B2 xb cb g:Nat} {pv v:Value} {l:List NV} {ol:Ol} {m:Ma}
theorem pj.xg(h:pj w B B2 xb cb g pv v l ol m):xb≠g:=λe=>by
 have⟨on,ho,_⟩:=h.on;have D:=h.nb;unfold jD at D;unfold lB at ho;rw[e,ho]at D;simp only[bE,eH]at D;exact absurd D.2.1 aV
theorem pj.px(h:pj w B B2 xb cb g pv v l ol m):pv.ownBlock≠some xb:=gr.ne h.ps h.nb aV
theorem pj.pg(h:pj w B B2 xb cb g pv v l ol m):pv.ownBlock≠some g:=by
 have⟨on,ho,_⟩:=h.on;exact gr.ne h.ps ho aV
theorem pj.aw(h:pj w B B2 xb cb g pv v l ol m)(k:Kp bA w w'):pj w' B B2 xb cb g pv v l ol m:=by
 have⟨on,ho,hs⟩:=h.on;exact⟨h.nb.aB k (λx=>x),⟨on,k.at_ ho (λx=>x),hs⟩,gr.aB h.ps k (λ_ _ x=>x),h.ch.aw k⟩
theorem pj.chart(h:pj w B B2 xb cb g pv v l ol m)(k:Kp (nS xb g pv) w w'):ku w' B cb l v:=
 h.ch.pO k (λi cur T hi _ hT e=>by
  have⟨on,ho,_⟩:=h.on;rcases e with e|e|e
  ·subst e;have E:=h.nb;unfold jD at E;rw[E]at hi;simp only[bE,eH]at hi;rcases hT with h|h|h|h<;>rw[h]at hi<;>exact absurd hi.2.1 aV
  ·subst e;unfold lB at ho;rw[ho]at hi;simp only[bE,eH]at hi;rcases hT with h|h|h|h<;>rw[h]at hi<;>exact absurd hi.2.1 aV
  rcases hT with D|D|D|D<;>subst D<;>exact gr.ne h.ps hi aV e)
theorem pj.bM{D}(h:pj w B B2 xb cb g pv v l ol m)(k:Kp (λk=>k=xb) w w')(F:jD w' xb cb g l.length pv D)(E:mw D.s m.s):pj w' B B2 xb cb g pv v l ol D:=by
 have⟨on,ho,hs⟩:=h.on;refine⟨F,⟨on,k.at_ ho (λe=>h.xg e.symm),by rw[E.1];exact hs⟩,?_,h.chart (k.mono (λ_ _ e=>inl e))⟩;have:On _ _ _ _ _:=gr.aB h.ps k (λj hj e=>h.px (by rw[hj,e]));unfold On lG at this⊢;have G:cf D.s=cf m.s:=by funext j;unfold cf;rw[E.2]
 simp_all
theorem pj.push(h:pj w B B2 xb cb g pv v l ol m)c:pj (((w.alloc (cells #[int .u8 c] 5)).setCell ⟨xb,7,none⟩ (string (strOfNums m.q++strOfNums [c]))).drew) B B2 xb cb g pv v l ol {m with q:=m.q++[c]}/\Kp (λk=>k=xb) w (((w.alloc (cells #[int .u8 c] 5)).setCell ⟨xb,7,none⟩ (string (strOfNums m.q++strOfNums [c]))).drew):=by
 have K:Kp (λk=>k=xb) w (((w.alloc (cells #[int .u8 c] 5)).setCell ⟨xb,7,none⟩ (string (strOfNums m.q++strOfNums [c]))).drew):=(((Kp.refl _ _).alloc _).setCell jF _).drew;refine⟨h.bM K ?_ (mw.refl _),K⟩;have E:jD (w.alloc (cells #[int .u8 c] 5)) _ _ _ _ _ _:=h.nb.aB ((Kp.refl bA _).alloc _) (λx=>x);have D:=E.Ll (m.q++[c]);rw[lj]at D;exact D.aB ((Kp.refl bA _).drew) (λx=>x)
end
namespace Ch
def pQ(bs:List Bl)(m:Ma):Ma:=bs.foldl (λm b=>eD b.bM m) m
theorem Fc(k:Nat)sg:∀ l m,fa k sg l m=pQ (l.filter (ru k sg)) m:=by
 intro l;induction l with
 |nil=>intro m;rfl
 |cons b l D=>?_
 intro m;simp only[fa];rw[D,j9];have:((b.state==(k:Int))&&(b.sign==sg))=ru k sg b:=rfl;rw[this];cases ru k sg b<;>rfl
theorem CC{bs:List Bl}{k}{b}(h:bs[k]? =some b)m:pQ (bs.take (k+1)) m=eD b.bM (pQ (bs.take k) m):=by
 unfold pQ;rw[iA,h,qG];rfl
structure sQ(m:Ma)N:Prop where
 ok:m.s.Ok
 tm:Gv 48 m.s
 sz:m.Sz N
theorem sQ.bM{m N}(h:sQ m N){D}(F:∀a∈D,xS a)(E:D.length<=240):sQ (eD D m) (N+480):=
 ⟨tz D h.ok,(kf oQ ⟨[],[],[]⟩).bM D h.tm F,wy h.sz E⟩
theorem sQ.le{m N M}(h:sQ m N)(D:N<=M):sQ m M:=⟨h.ok,h.tm,h.sz.le D⟩
theorem sQ.all:∀ bs {m} {N},sQ m N->(∀b∈bs,(∀a∈b.bM,xS a)/\b.bM.length<=240)->sQ (pQ bs m) (N+480*bs.length):=by
 intro bs;induction bs with
 |nil=>intro m N h _;exact h
 |cons b l E=>?_
 intro m N h hb;have D:=h.bM (hb b dy).1 (hb b dy).2;have:=E D (λc hc=>hb c (by simp[hc]));exact this.le il
theorem Jj{s D}(h:gW s=enc D)(E:D.length<=240):s.size<=1000:=by
 rw[<-cL,h];have:∀l:List Ac,(enc l).length<=3*l.length:=by
  intro l;induction l with
  |nil=>simp[enc]
  |cons a l F=>?_
  grind[Cy,ys]
 grind
end Ch
theorem Fe{l}{k:Nat}{t}(h:l[k]? =some t):(nL l)[k]? =some (string t):=by simp[nL,h]
theorem Jk w B B2 xb cb g pv v l ol m i N(h:pj w B B2 xb cb g pv v l ol m)(Q:Rf l ol)(hM:sQ m N)(hN:N<=900000000)(hi:i<l.length):
 Calls prog 240 #[pointer (some ⟨xb,0,none⟩),int i64 i] w λy w'=>y=returned (tuple #[])/\pj w' B B2 xb cb g pv v l ol (dT ol m i)/\Kp (nS xb g pv) w w':=by
 have dj:=Q.le;obtain⟨ao,ba,rfl⟩:=h.ch.2.1.len;have eA:(i:Int)<(l.length:Int):=oQ;obtain⟨on,a3,ce⟩:=h.on;have c1:w.cell? _=some (slice (some ⟨g,0,none⟩) l.length l.length):=h.nb.cell 1;have DC:=a3.cell (k:=i) (by have:=ce.1;omega);have da:=a3.free i;have zJ:=a3.set i true;have K1:Kp (λk=>k=g) w (w.setCell ⟨g,i,none⟩ (bool true)):=(Kp.refl _ _).setCell jF _;have bx:pj (w.setCell ⟨g,i,none⟩ (bool true)) B B2 xb cb g pv (slice ao l.length ba) l ol (eO m i true):=by
  refine⟨h.nb.aB K1 h.xg,⟨on.set i true,zJ,ce.set hi dj⟩,?_,h.chart (K1.mono (λ_ _ e=>inr (inl e)))⟩;exact gr.aB h.ps K1 (λj hj e=>h.pg (by rw[hj,e]))
 have bt:sQ (eO m i true) N:=⟨qJ hM.ok _ _,hM.tm,hM.sz⟩
 have HX:=c_ bx bt (K1.mono (S':=nS xb g pv) (λ_ _ e=>inr (inl e)));clear bx bt K1 zJ a3 h;go_in;go_upto_region 1 with(fail);generalize w.setCell ⟨g,i,none⟩ (bool true)=w1 at*;obtain⟨x,hx⟩:∃x,l[i]? =some x:=⟨_,au hi⟩
 have X:=HX.out.1.ch;have c0:w1.cell? _=some (pointer (some ⟨cb,0,none⟩)):=HX.out.1.nb.cell 0;have zc:=X.cell;obtain⟨g1,dQ,hv,eq,G,de⟩:=X.2.1.form hx;simp only[aH]at hv;obtain⟨rfl,-,rfl⟩:=hv;have a4:=aP hx;have z0:w1.cell? ⟨g1,i*7,none⟩=some _:=G 0 oQ;have z1:_=some _:=G 1 oQ;have z2:_=some _:=G 2 oQ;have z3:_=some _:=G 3 oQ;have z4:_=some _:=G 4 oQ;have z5:_=some _:=G 5 oQ;have z6:_=some _:=G 6 oQ;obtain⟨ea,ec,b5⟩:=bp (X.2.1.ph x a4);obtain⟨la,lc,b6⟩:=bp (X.2.1.uC x a4);obtain⟨ta,tc,PI⟩:=bp (X.2.1.kZ x a4);have aj:=X.2.1.ph x a4;rw[b5]at z4 aj;rw[b6]at z5;rw[PI]at z6;have K3:=kG w1 (cells #[int .u8 x.n.name,int i64 x.n.kind,int i64 x.n.parent,int i64 x.n.pos,slice ea x.n.enter.length ec,slice la x.n.cU.length lc,slice ta x.n.trans.length tc] 223);have a0:=ak w1 (cells #[int .u8 x.n.name,int i64 x.n.kind,int i64 x.n.parent,int i64 x.n.pos,slice ea x.n.enter.length ec,slice la x.n.cU.length lc,slice ta x.n.trans.length tc] 223);have am:=Q.ph i x hx;have cm:=ag am.len;have b2:∀b∈ol.fH.filter (ru i 94),(∀a∈b.bM,xS a)/\b.bM.length<=240:=λb hb=>by
  obtain⟨_,_,fW⟩:=am.right hb;exact⟨fW.ac,(Q.ok.uo b (fR.1 hb).1).1⟩
 have dd:(ol.fH.filter (ru i 94)).length<=240:=bz (mB _ _) Q.ok.fH;have eg:x.n.enter.length<=240:=by rw[am.len];exact dd
 have b4:fa i _ ol.fH (eO m i true)=_:=Fc i 94 _ _;have I:dT ol m i=if x.n.kind==4 then iX ol.ah (pQ (ol.fH.filter (ru i 94)) (eO m i true)) x.n.parent else pQ (ol.fH.filter (ru i 94)) (eO m i true):=by
  unfold dT;rw[b4,Q.kind hx,Q.DD hx]
 have b0:=HX.out.1.aw K3;have HQ:=xn b0 HX.out.2.1 (HX.out.2.2.trans' K3 gM) (K3.owns aj (λ_ _ x=>x)) am b2 I;clear X G de aj b0 am b2 b4 I HX c1 DC da;go_upto_region 2 with(fail);generalize w1.alloc (cells #[int .u8 x.n.name,int i64 x.n.kind,int i64 x.n.parent,int i64 x.n.pos,slice ea x.n.enter.length ec,slice la x.n.cU.length lc,slice ta x.n.trans.length tc] 223)=w2 at*;generalize w1.heap.size=nb at*;generalize ol.fH.filter (ru i 94)=fl at*;clear z0 z1 z2 z3 z4 z5 z6 zc c0 b5 b6 PI K3;have Vu:¬nS xb g pv nb:=λe=>by
  have Y:=HQ.out.1;rcases e with e|e|e
  ·have U:=Y.nb;unfold jD at U;rw[<-e,a0]at U;simp only[bE,eH]at U;exact absurd U.2.1 aV
  ·obtain⟨dt,O,_⟩:=Y.on;unfold lB at O;rw[<-e,a0]at O;simp only[bE,eH]at O;exact absurd O.2.1 aV
  exact gr.ne Y.ps a0 aV e
 go_wp2_with fail;go_loopw [5] (λkv wr=>∃k:Nat,kv= int i64 k/\k<=x.n.enter.length/\Hid (pj wr B B2 xb cb g pv (slice (some ⟨g1,0,none⟩) l.length ba) l ol (pQ (fl.take k) (eO m i true)))/\Hid (sQ (pQ (fl.take k) (eO m i true)) (N+480*k))/\Kp (nS xb g pv) w2 wr) (λkv _=>x.n.enter.length-(intOf kv).toNat)
 case atStart=>exact⟨0,rfl,aA _,ag HQ.out.1,ag HQ.out.2.1,Kp.refl _ _⟩
 case round=>
  obtain⟨k,rfl,hk,Jl,Kv,KW⟩:=hrel;have ab:=KW.at_ a0 Vu;have n1:wr.cell? ⟨nb,1,none⟩=some (int i64 x.n.kind):=dG ab rfl;have n2:wr.cell? ⟨nb,2,none⟩=some (int i64 x.n.parent):=dG ab rfl;have n4:wr.cell? ⟨nb,4,none⟩=some (slice ea x.n.enter.length ec):=dG ab rfl;by_cases dk:k<x.n.enter.length
  ·have ed:(k:Int)<(x.n.enter.length:Int):=oQ;obtain⟨t,ht⟩:∃t,x.n.enter[k]? =some t:=⟨_,au dk⟩
   obtain⟨b,hb,fW⟩:=HQ.out.2.2.2.2.1.Y8 ht;have a2:=HQ.out.2.2.2.2.2.1 b (aP hb);have bb:wr.ownsRow B 9 1 (slice ea x.n.enter.length ec) x.n.enter.length (nL x.n.enter):=KW.owns HQ.out.2.2.2.1 (λj hj e=>by
    have Y:=HQ.out.1;obtain⟨g9,WN,Uj,dg,_,Zm,_⟩:∃g9 WN Uj,(Value.slice ea x.n.enter.length ec)= slice (some ⟨g9,0,none⟩) x.n.enter.length WN/\B<=g9/\w2.heap[g9]? =some (cells Uj 9 (0,0))/\True:=by
     rcases HQ.out.2.2.2.1.2 with⟨_,h0⟩|⟨g9,WN,Uj,U,h2,h3,_⟩
     ·omega
     exact⟨g9,WN,Uj,U,h2,h3,trivial⟩
    have di:j=g9:=by rw[dg]at hj;simpa[Value.ownBlock]using hj.symm
    subst di;rcases e with e|e|e
    ·have U:=Y.nb;unfold jD at U;rw[<-e,Zm]at U;simp only[bE,eH]at U;exact absurd U.2.1 aV
    ·obtain⟨dt,O,_⟩:=Y.on;unfold lB at O;rw[<-e,Zm]at O;simp only[bE,eH]at O;exact absurd O.2.1 aV
    exact gr.ne Y.ps Zm aV e)
   obtain⟨g3,AI,ci,_⟩:=cO bb oQ;simp only[aH]at ci;obtain⟨rfl,-,rfl⟩:=ci;have zt:=(bK bb k oQ).trans (Fe ht);have E:=ag (zS wr xb cb g l.length pv _ b.bM t Jl.out.nb fW.Vp a2.1 Kv.out.ok Kv.out.tm ⟨by have:=Kv.out.sz.1;omega,by have:=Kv.out.sz.2;omega⟩ oQ (Jj fW.Vp a2.2));have Ha:=ag (CC hb (eO m i true));have ck:=ag (tN b.bM (pQ (fl.take k) (eO m i true)));have Qy:=ag (Kv.out.bM a2.1 a2.2);clear bb ab;go_wp2_with fail;refine b9 E ?_;rintro w5 ⟨N5,K5⟩;have X5:=ag (Jl.out.bM K5 N5 ck.out);have Uf:=KW.trans' K5 (λ_ _ e=>inl e);clear E N5 K5 n1 n2 n4 zt;go_wp2;go_roundw
   case rel=>exact⟨k+1,eb,oQ,ag (by rw[Ha.out];exact X5.out),ag (by rw[Ha.out];exact Qy.out.le oQ),Uf⟩
   case measure=>exact ew
  have ex:¬(k:Int)<(x.n.enter.length:Int):=oQ;obtain rfl:k=x.n.enter.length:=oQ;have Hc:=Jl.out;have aS:=Kv.out;have I:=HQ.out.2.2.2.2.2.2;rw[cm.out,gL]at Hc aS;have KF:=HQ.out.2.2.1.trans KW;generalize pQ fl (eO m i true)=ma at*;cases q4:x.n.kind !=4 with
  |true=>
   have dO:(x.n.kind==4)=false:=cX q4;rw[dO]at I;have J:=c_ (I.trans rfl) Hc KF;clear Hc aS I KF ab Jl Kv;go_wp2;refine aJ (nk rfl _ _ _) rfl ?_;rw[J.out.1];exact⟨rfl,J.out.2.1,J.out.2.2⟩
  |false=>?_
  have e4:x.n.kind=4:=cX q4;rw[e4]at I;replace I:=I.trans rfl;have ds:=Q.lD.tP.hs i (by rw[Q.len];exact hi) (inr (by rw[Q.kind hx];exact e4));obtain⟨p,zD,ej⟩:=Q.lD.tP.DD ds.1 (by rw[Q.len];exact hi);rw[Q.DD hx]at zD;have b8:p<l.length:=oQ;have ef:(p:Int)<(l.length:Int):=oQ;obtain⟨y,hy⟩:∃y,l[p]? =some y:=⟨_,au b8⟩
  have bc:=aP hy;rw[zD]at I n2;rw[e4]at n1;have iq:=Hc.ch;have c0:wr.cell? _=some (pointer (some ⟨cb,0,none⟩)):=Hc.nb.cell 0;have zc:=iq.cell;obtain⟨br,Ji,R,_,D,_⟩:=iq.2.1.form hy;simp only[aH,bE,ei,cA,dV]at R;obtain⟨rfl,rfl⟩:=R;have y0:wr.cell? ⟨g1,p*7,none⟩=some _:=D 0 oQ;have y1:_=some _:=D 1 oQ;have y2:_=some _:=D 2 oQ;have y3:_=some _:=D 3 oQ;have y4:_=some _:=D 4 oQ;have y5:_=some _:=D 5 oQ;have y6:_=some _:=D 6 oQ;obtain⟨aI,aO,c8⟩:=bp (iq.2.1.ph y bc);obtain⟨a5,a6,b7⟩:=bp (iq.2.1.uC y bc);obtain⟨a7,a8,Wi⟩:=bp (iq.2.1.kZ y bc);rw[c8]at y4;rw[b7]at y5;rw[Wi]at y6;have K3:=kG wr (cells #[int .u8 y.n.name,int i64 y.n.kind,int i64 y.n.parent,int i64 y.n.pos,slice aI y.n.enter.length aO,slice a5 y.n.cU.length a6,slice a7 y.n.trans.length a8] 223);have b1:=ak wr (cells #[int .u8 y.n.name,int i64 y.n.kind,int i64 y.n.parent,int i64 y.n.pos,slice aI y.n.enter.length aO,slice a5 y.n.cU.length a6,slice a7 y.n.trans.length a8] 223);have XU:=Hc.aw K3;have be:Kp (nS xb g pv) w _:=KF.trans' K3 gM;have HZ:=fM XU aS I be;clear Hc aS I KF ab Jl Kv iq D XU be K3;go_upto_region 7 with(fail);have c9:=λo=>((Kp.refl bA wr).alloc o).bN n2;have bi:=λo=>((Kp.refl bA wr).alloc o).bN c0;have bk:=λo=>((Kp.refl bA wr).alloc o).bN zc;have cn:=λo=>((Kp.refl bA wr).alloc o).bN y0;have cp:=λo=>((Kp.refl bA wr).alloc o).bN y1;have cq:=λo=>((Kp.refl bA wr).alloc o).bN y2;have cs:=λo=>((Kp.refl bA wr).alloc o).bN y3;have ct:=λo=>((Kp.refl bA wr).alloc o).bN y4;have cu:=λo=>((Kp.refl bA wr).alloc o).bN y5;have cv:=λo=>((Kp.refl bA wr).alloc o).bN y6;go_region;have Vv:=fM (HZ.out.1.aw (Kp.refl _ _).drew) HZ.out.2.1 HZ.out.2.2.1 HZ.out.2.2.2.drew;have a1:(wr.alloc (cells #[int .u8 y.n.name,int i64 y.n.kind,int i64 y.n.parent,int i64 y.n.pos,slice aI y.n.enter.length aO,slice a5 y.n.cU.length a6,slice a7 y.n.trans.length a8] 223)).drew.heap[wr.heap.size]? =_:=b1;clear c9 bi bk cn cp cq cs ct cu cv n1 n2 n4 y0 y1 y2 y3 y4 y5 y6 c0 zc b1 HZ;go_upto_region 8 with(fail);generalize (wr.alloc (cells #[int .u8 y.n.name,int i64 y.n.kind,int i64 y.n.parent,int i64 y.n.pos,slice aI y.n.enter.length aO,slice a5 y.n.cU.length a6,slice a7 y.n.trans.length a8] 223)).drew=w4 at*;generalize wr.heap.size=pb at*;have ca:=Vv.out.2.1.sz.1;have p0:w4.cell? ⟨pb,0,none⟩=some (int .u8 y.n.name):=dG a1 rfl;have c7:w4.cell? _=some (string (strOfNums ma.q)):=Vv.out.1.nb.cell 7;have f7:=Vv.out.1.nb.free 7;have cw:=λo=>((Kp.refl bA w4).alloc o).bN p0;have bm:=λo=>((Kp.refl bA w4).alloc o).bN c7;have bo:=λo=>jD.free (Vv.out.1.nb.aB ((Kp.refl bA w4).alloc o) (λx=>x)) 7;have b3:=lU (P:=prog) ((w4.alloc (cells #[int .u8 y.n.name] 5)).drew) 47 5 underlying47 underlying5 w4.heap.size 0 1 1 [y.n.name] rfl (by
   intro i hi;match i,hi with
   |0,_=>simp) 9 underlying9
  have a9:=λw'=>my (P:=prog) w' (strOfNums ma.q) (strOfNums [y.n.name]) (by rw[dC,dC];simp;omega);go_region;obtain⟨Qz,K5⟩:=Vv.out.1.push y.n.name;have dl:¬pb=xb:=λe=>by
   have U:=Vv.out.1.nb;unfold jD at U;rw[<-e,a1]at U;simp only[bE,eH]at U;exact absurd U.2.1 aV
  have ad:=K5.at_ a1 dl;have aa:=Vv.out.2.2.2.trans' K5 (λ_ _ e=>inl e);have F:=Vv.out.2.2.1;have cg:=Vv.out.2.1;have cV:hJ ol.ah p=y.n.name:=by rw[<-Q.ah];unfold Ch.ah;rw[wL (by rw[eu];exact b8),kB hy]
  unfold iX at F;rw[show((p:Int)== -1)=false by simp,Q.DD hy,dE,cV]at F;simp only[bu,bf]at F;clear b3 a9 cw bm bo p0 c7 f7 a1 Vv ca;generalize ((w4.alloc (cells #[int .u8 y.n.name] 5)).setCell ⟨xb,7,none⟩ (string (strOfNums ma.q++strOfNums [y.n.name]))).drew=w5 at*;have d2:w5.cell? ⟨pb,2,none⟩=some (int i64 y.n.parent):=dG ad rfl;have c0:w5.cell? _=some (pointer (some ⟨cb,0,none⟩)):=Qz.nb.cell 0;have zc:=Qz.ch.cell;have dq:=Q.up p ⟨y.n.name,y.n.pos,y.n.kind,y.n.parent⟩ (by unfold Ch.ah Ch.mk;rw[bD,bD,hy];rfl);simp only at dq;by_cases e5:y.n.parent<0
  ·have dn:y.n.parent= -1:=oQ;rw[dn]at F;have J:=c_ (F.trans rfl) Qz aa;clear F Qz aa ad K5;go_upto_region 9 with(fail);go_quiet (fail);go_wp2;refine aJ (nk rfl _ _ _) rfl ?_;rw[J.out.1];exact⟨rfl,J.out.2.1.aw ((Kp.refl _ _).drewN _),J.out.2.2.drewN _⟩
  obtain⟨q,hq⟩:∃q:Nat,y.n.parent=q:=⟨y.n.parent.toNat,oQ⟩
  rw[hq]at F d2;have YH:q<l.length:=oQ;have ek:(q:Int)<(l.length:Int):=oQ;obtain⟨z,hz⟩:∃z,l[q]? =some z:=⟨_,au YH⟩
  have iq:=Qz.ch;obtain⟨br,Ji,R,_,D,_⟩:=iq.2.1.form hz;simp only[aH,bE,ei,cA,dV]at R;obtain⟨rfl,rfl⟩:=R;have v0:w5.cell? ⟨g1,q*7,none⟩=some _:=D 0 oQ;have v1:_=some _:=D 1 oQ;rw[Q.kind hz]at F;have cZ:hJ ol.ah q=z.n.name:=by rw[<-Q.ah];unfold Ch.ah;rw[wL (by rw[eu];exact YH),kB hz]
  rw[dE,cZ]at F;cases q3:z.n.kind !=3 with
  |true=>
   have dw:(z.n.kind==3)=false:=cX q3;rw[dw]at F;have J:=c_ (F.trans rfl) Qz aa;clear F Qz aa ad K5 iq D;go_upto_region 9 with(fail);go_quiet (fail);go_wp2;refine aJ (nk rfl _ _ _) rfl ?_;rw[J.out.1];exact⟨rfl,J.out.2.1.aw ((Kp.refl _ _).drewN _),J.out.2.2.drewN _⟩
  |false=>?_
  have e3:z.n.kind=3:=cX q3;rw[e3]at F v1;have Z:=fM Qz aa ad F;clear F Qz aa ad K5 iq D c0 zc;have c0:w5.cell? _=some (pointer (some ⟨cb,0,none⟩)):=Z.out.1.nb.cell 0;have zc:=Z.out.1.ch.cell;go_upto_region 9 with(fail);go_quiet (fail);have XV:=Z.out.1.aw ((Kp.refl bA w5).drewN nq);have bg:=Z.out.2.1.drewN nq;have Vw:(w5.drewN nq).heap[pb]? =_:=Z.out.2.2.1;have F:=Z.out.2.2.2;clear Z c0 zc v0 v1 d2;generalize w5.drewN nq=w6 at*;obtain⟨dv,Ko,cc⟩:=XV.on;have E:=ag (Qr B xb cb g pv {ma with q:=ma.q++[y.n.name]} l (slice (some ⟨g1,0,none⟩) l.length ba) ol dv cc Q l.length w6 q oQ YH XV.nb Ko XV.ch);have d2:w6.cell? ⟨pb,2,none⟩=some (int i64 q):=by rw[World.cell?,Vw,<-hq];rfl
  have Z:=fM XV bg Vw F;clear XV bg Vw F Ko cc;go_wp2_with fail;refine b9 E ?_;intro w7 K7;have Vx:=Z.out.1.aw K7;have ap:=Z.out.2.1.trans' K7 gM;have BP:=K7.at_ Z.out.2.2.1 (λx=>x);have F:=Z.out.2.2.2;clear E Z d2 K7;cases qe:Ch.atEnd ol.ah ma.s.act q with
  |false=>
   rw[qe]at F;have J:=c_ (F.trans rfl) Vx ap;clear F Vx ap BP;go_wp2;go_end0
   rw[J.out.1];exact⟨rfl,J.out.2.1,J.out.2.2⟩
  |true=>?_
  rw[qe]at F;have J:=c_ (F.trans rfl) Vx ap;have d2:w7.cell? ⟨pb,2,none⟩=some (int i64 q):=by rw[World.cell?,BP,<-hq];rfl
  have c0:w7.cell? _=some (pointer (some ⟨cb,0,none⟩)):=Vx.nb.cell 0;have zc:=Vx.ch.cell;have c7:w7.cell? _=some (string (strOfNums (ma.q++[y.n.name]))):=Vx.nb.cell 7;have f7:=Vx.nb.free 7;obtain⟨br,Ji,R,_,D,_⟩:=Vx.ch.2.1.form hz;simp only[aH,bE,ei,cA,dV]at R;obtain⟨rfl,rfl⟩:=R;have v0:w7.cell? ⟨g1,q*7,none⟩=some _:=D 0 oQ;have ca:=cg.sz.1;have em:=λo=>((Kp.refl bA w7).alloc o).bN d2;have bi:=λo=>((Kp.refl bA w7).alloc o).bN c0;have bk:=λo=>((Kp.refl bA w7).alloc o).bN zc;have bm:=λo=>((Kp.refl bA w7).alloc o).bN c7;have ep:=λo=>((Kp.refl bA w7).alloc o).bN v0;have bo:=λo=>jD.free (Vx.nb.aB ((Kp.refl bA w7).alloc o) (λx=>x)) 7;have b3:=lU (P:=prog) ((w7.alloc (cells #[int .u8 z.n.name] 5)).drew) 47 5 underlying47 underlying5 w7.heap.size 0 1 1 [z.n.name] rfl (by
   intro i hi;match i,hi with
   |0,_=>simp) 9 underlying9
  have a9:=λw'=>my (P:=prog) w' (strOfNums (ma.q++[y.n.name])) (strOfNums [z.n.name]) (by rw[dC,dC];simp;omega);clear F Vx ap BP D;go_upto_region 12 with(fail);go_region;go_wp2;go_end0
  rw[J.out.1];obtain⟨dc,K8⟩:=J.out.2.1.push z.n.name;refine⟨rfl,?_,J.out.2.2.trans' K8 (λ_ _ e=>inl e)⟩;exact dc
namespace Ch
theorem Jm ol:∀ a b m,qm ol (a++b) m=qm ol b (qm ol a m):=by
 intro a;induction a with
 |nil=>intro b m;rfl
 |cons x a D=>intro b m;exact D b _
theorem QA ol{l:List Nat}{k}{j}(h:l[k]? =some j)m:qm ol (l.take (k+1)) m=if bit (qm ol (l.take k) m).s.act j then qm ol (l.take k) m else dT ol (qm ol (l.take k) m) j:=by
 rw[iA,h,Jm];rfl
theorem sQ.enter{ol}(D:ol.Ok)(E:xV ol){m}{N}(h:sQ m N)i:sQ (dT ol m i) (N+115202):=
 ⟨xr h.ok i,(kf oQ ol).dT E h.tm i,xt D h.sz i⟩
end Ch
theorem xi w B B2 xb cb g pv v l ol m N B3(goals:List Int)gv(h:pj w B B2 xb cb g pv v l ol m)(D:Rf l ol)(hM:sQ m N)(hN:N<=890000000)(aa:goals.length<=16)(ab:∀x∈goals,x<l.length)(hg:w.ownsRow B3 3 1 gv goals.length (bO goals)):
 Calls prog 202 #[pointer (some ⟨xb,0,none⟩),gv] w λy w'=>y=returned (tuple #[])/\pj w' B B2 xb cb g pv v l ol (qm ol (eJ ol.ah (Ch.bit m.s.act) goals ol.ah.length 0) m)/\Kp (nS xb g pv) w w':=by
 have a0:=D.le;have Z:=D.lD.tP.ne;rw[D.len]at Z;have⟨on,hon,hso⟩:=h.on;have E0:=ag (Ue B xb cb g pv m l v ol on hso D goals gv B3 aa ab l.length w 0 oQ Z h.nb hon h.ch hg);have⟨_,_,hmem,_,_⟩:=rC D.lD.tP (Ch.bit m.s.act) goals ol.ah.length 0 D.lD.tP.ne oQ;have aI:=bz (Jh D.lD.tP (Ch.bit m.s.act) goals D.lD.tP.ne) D.lD.le;have Cj:∀j∈eJ ol.ah (Ch.bit m.s.act) goals ol.ah.length 0,j<l.length:=λj Y=>by rw[<-D.len];exact(hmem j Y).1
 generalize eJ ol.ah (Ch.bit m.s.act) goals ol.ah.length 0=F at*;have HL:=ag Cj;have HX:=bw h hM;clear h hg hon hso hmem Cj hM;go_in;go_wp;refine hm E0 ?_;rintro z w2 ⟨u,rfl,hu,K2⟩;obtain⟨ua,uc,rfl⟩:=bp hu;have G:=HX.1.aw K2;have ao:∀k,(Value.slice ua F.length uc).ownBlock=some k->¬nS xb g pv k:=λk hk e=>by
  have⟨on',ho',_⟩:=G.on;rcases e with e|e|e
  ·exact aZ hu G.nb aV (by rw[hk,e])
  ·exact aZ hu ho' aV (by rw[hk,e])
  rcases hu.2 with⟨h0,_⟩|⟨g9,c9,Uj,h1,_,h3,_⟩
  ·rw[h0]at hk;simp[Value.ownBlock]at hk
  rw[h1]at hk;have aj:k=g9:=by simpa[Value.ownBlock]using hk.symm
  subst aj;exact gr.ne G.ps h3 aV e
 have HU:=fM hu K2 G HX.2;clear hu K2 E0 G HX;go_wp21;go_loopw [5] (λkv wr=>∃k:Nat,kv= int i64 k/\k<=F.length/\Hid (pj wr B B2 xb cb g pv v l ol (qm ol (F.take k) m))/\Hid (sQ (qm ol (F.take k) m) (N+115202*k))/\Kp (nS xb g pv) w2 wr) (λkv _=>F.length-(intOf kv).toNat)
 case atStart=>exact⟨0,rfl,aA _,ag HU.2.2.1,ag HU.2.2.2,Kp.refl _ _⟩
 case round=>
  obtain⟨k,rfl,hk,O,Kv,U⟩:=hrel;by_cases am:k<F.length
  ·have aO:(k:Int)<F.length:=oQ;obtain⟨j,Y⟩:∃j,F[k]? =some j:=⟨_,au am⟩
   have ad:=HL j (aP Y);have Lg:(j:Int)<l.length:=oQ;have J:=U.owns HU.1 ao;have⟨g2,cap2,hv2,_⟩:=cO J oQ;simp only[aH]at hv2;obtain⟨rfl,-,rfl⟩:=hv2;have zk:wr.cell? ⟨g2,k,none⟩=some (int i64 j):=by
    rw[bK J k oQ];simp[bO,j2,Y]
   have⟨onr,lO,Zn⟩:=O.on;have c1:wr.cell? _=some (slice (some ⟨g,0,none⟩) l.length l.length):=O.nb.cell 1;have DC:=lO.cell (k:=j) (by have:=Zn.1;omega);have I:=QA ol Y m;have X:=Zn.2.2 j;have E:=ag (λnn=>Jk (wr.drewN nn) B B2 xb cb g pv v l ol (qm ol (F.take k) m) j (N+115202*k) (O.aw ((Kp.refl _ _).drewN nn)) D Kv oQ ad);have Qy:=ag (Kv.enter D.ok D.Dl j);generalize qm ol (F.take k) m=mk at*;rw[<-X]at I;generalize jC onr j=oj at*;have Ha:=ag I;have Er:=ag U;clear J lO Zn I X U;cases oj with
   |true=>
    have Q:=ag (Ha.trans (aq rfl));clear Ha;go_wp;go_quiet (fail);go_wp2;exact⟨⟨k+1,eb,oQ,ag (by rw[Q];exact O.aw ((Kp.refl _ _).drewN _)),ag (by rw[Q];exact Kv.le oQ),Er.drewN _⟩,ew⟩
   |false=>?_
   have Q:=ag (Ha.trans (ax dy));clear Ha;go_wp;go_quiet (fail);have ap:(wr.drewN nq).cell? _=_:=zk;go_wp;refine b9 (fA E _) ?_;rintro w5 ⟨X5,K5⟩;have R:=bw X5 ((Er.drewN nq).trans K5);clear E X5 K5 zk ap c1 DC;go_wp2;exact⟨⟨k+1,eb,oQ,ag (by rw[Q];exact R.1),ag (by rw[Q];exact Qy.le oQ),R.2⟩,ew⟩
  have aS:¬(k:Int)<F.length:=oQ;obtain rfl:k=F.length:=oQ;have Hc:=O.out;rw[gL]at Hc;have HN:=bw Hc ((HU.2.1.mono (S':=nS xb g pv) gM).trans U);clear Hc U O Kv;go_wp2;go_end0
  exact⟨rfl,HN.1,HN.2⟩
