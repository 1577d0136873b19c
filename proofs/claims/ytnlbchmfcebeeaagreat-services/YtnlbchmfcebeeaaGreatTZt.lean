import Derived.Test.YtnlbchmfcebeeaaGreatTIc
set_option maxHeartbeats 12800000
set_option maxRecDepth 100000
namespace Go.Proofs.YtnlbchmfcebeeaaGreat
open Go.Proofs.Tryz Ch
open Go.RowKit
open Value(int slice bool pointer string agg tuple)
open IntKind(i64)
open Obj(cells)
open Ending(returned)
open Operand(tmp)
open Or(inl inr)
namespace Ch
structure SnF(ol:Ol)(x:Sv)(all:List Sd)(log:ByteArray)(u:Nat)(k:Tk)(s:Sd):Prop where
 JS:Good ol s
 lt:k.ay<k.events.size
 le:k.events.size<=4
 now:0<k.ay->k.now=s
 last:k.ay=0->gB all=s
 out:k.out.size<=1500000
 bad:(dx ol s (af k.events k.ay)).1=false->cW ol x (u:Int)=(mZ x u,{eY with err:=9,mY:=(all.length:Int)-1,idx:=(k.ay:Int)},true,0)/\SI ol (mZ x u) all log
 go:(dx ol s (af k.events k.ay)).1=true->k.ay+1<k.events.size->cW ol x (u:Int)=(aD x u {k with ay:=k.ay+1,now:=(bY ol s (af k.events k.ay)).1,out:=k.out++(dx ol s (af k.events k.ay)).2.2},eY,false,0)/\SI ol (aD x u {k with ay:=k.ay+1,now:=(bY ol s (af k.events k.ay)).1,out:=k.out++(dx ol s (af k.events k.ay)).2.2}) all log
 fin:(dx ol s (af k.events k.ay)).1=true->k.ay+1=k.events.size->cW ol x (u:Int)=(lQ (mZ x u) (bY ol s (af k.events k.ay)).1 (k.out++(dx ol s (af k.events k.ay)).2.2),{eY with mY:=(all.length:Int),idx:=(k.events.size:Int),text:=k.out++(dx ol s (af k.events k.ay)).2.2},true,0)/\SI ol (lQ (mZ x u) (bY ol s (af k.events k.ay)).1 (k.out++(dx ol s (af k.events k.ay)).2.2)) (all++[(bY ol s (af k.events k.ay)).1]) (log++(k.out++(dx ol s (af k.events k.ay)).2.2))
theorem SI.send{t ol x all log u k}(h:SI ol x all log)(G:Fj t ol)(F:ol.Ok)(hu:x.ai[u]? =some k)(hk:k.kind=1)(I:k.drawn=true)(O:k.cD=x.turn)(Q:0<k.ay\/k.at_<0\/k.at_=(all.length:Int)-1):∃s,SnF ol x all log u k s:=by
 have D:=h.tk u k hu;have⟨s,o,hf,hlt,hc⟩:=h.acw G hu hk I O Q;have E:k.events.size<=4:=(wP (D.rq (by rw[hk];decide)) hk).2.1;have iL:=Av F _ _ _ hf;have R:k.out=o:=by
  rcases j8 k.ay with e|e
  ·rw[D.GV e];grind[jS]
  have:=(D.wk e).2.2.2.2.2;simp_all
 have J:jS ol (gB all) k.events (k.ay+1)=if(bY ol s (af k.events k.ay)).2.2==0 then some ((bY ol s (af k.events k.ay)).1,o++(bY ol s (af k.events k.ay)).2.1)else none:=by
  grind[jS]
 have fW:∀{q:Bool},(dx ol s (af k.events k.ay)).1=q->jS ol (gB all) k.events (k.ay+1)=if q then some ((bY ol s (af k.events k.ay)).1,k.out++(dx ol s (af k.events k.ay)).2.2)else none:=by
  grind[tU,JC]
 refine⟨s,vY G h.JU _ _ hf,hlt,E,λe=>?_,λe=>?_,?_,λq=>?_,λq hn=>?_,λq hn=>?_⟩
 ·have:=(D.wk e).2.2.2.2.2;simp_all
 ·grind[jS]
 ·grind
 ·simp_all
 ·grind
 grind
end Ch
theorem Kp.Yj{S w w'}(k:Kp S w w'){b}{i}{v}(h:w.cell? ⟨b,i,none⟩=some v)(D:¬S b):w'.cell? ⟨b,i,none⟩=some v:=by
 rw[<-h];exact kO (k.block b (oP w ⟨b,i,none⟩ h) D)
theorem C7 ol l:gG ol l=(l.map (jH ol)).flatMap id:=by simp[gG,List.flatMap_map]
theorem Ax w{p}{ol}{x}{all}{log}{av}(h:kL w p ol x all log av)(J:SI ol x all log){u:Nat}{k}(hu:x.ai[u]? =some k)(hk:k.kind=1)(hd:k.drawn=false\/k.cD≠x.turn)(ht:x.bj<=1000000000000):
 Calls prog 153 #[pointer (some ⟨p.yb,0,none⟩),int i64 u] w λy w'=>Dm w w' p ol av x all log u y:=by
 have⟨dr,hdr,fX⟩:=o0;have D:=h.low;have U:=kG w (cells aU 64);have G:=ak w (cells aU 64);have O:=h.aw U;obtain⟨X,e,Q,e1,e2,E⟩:∃X,cW ol x (u:Int)=(X,eY,false,0)/\SI ol X all log/\X.bj<=x.bj+1/\X.ai.length=x.ai.length/\Hid (Calls prog 209 #[pointer (some ⟨p.yb,0,none⟩),int i64 u] (w.alloc (cells aU 64)) λy w'=>y=returned (bool false)/\lI (w.alloc (cells aU 64)) w' p ol av X all log):=by
  cases q:k.drawn with
  |false=>
   have hf:k.ay=0:=by
    rcases j8 k.ay with e|e
    ·exact e
    have:=((J.tk u k hu).wk e).2.1;rw[q]at this;cases this
   have⟨e1,e2⟩:=J.Yg hu (inl hk) q;exact⟨_,e1,e2,aC _,by simp[pU,aD],ag (C5 _ O hu (inl hk) q hf ht)⟩
  |true=>?_
  have Y:k.cD≠x.turn:=by rcases hd with e|e;rw[q]at e;cases e;exact e
  refine⟨x,SI.waits hu (inl hk) q Y,J,cT _,rfl,ag ((uI _ O J hu q).mono (λy w' hy=>⟨by rw[hy.1,fB Y],lI.of (O.aw hy.2) (hy.2.mono gM)⟩))⟩
 have R:=bw e Q;go_in;go_upto_region 1 with fail;generalize w.alloc (cells aU 64)=w1 at*;go_wp;refine b9 E ?_;intro w2 Z;have F:=Z.zero D G;have QF:=ag (Z.eV U D F (bU eY));have I:=an w2 w.heap.size aU (bU eY) 64 (0,0) F;go_wp2_with (refine bJ (bU eY) F bh rfl (du _) ?_);refine kH I hdr fX bh ?_;exact Dm.of R.1 rfl QF R.2 rfl rfl oQ oQ e1 (h7:=e2)
theorem J0 w{p}{ol}{x}{all}{log}{av}(h:kL w p ol x all log av)(hS:SI ol x all log){u:Nat}{k}(hu:x.ai[u]? =some k)(hk:k.kind=1)(hd:k.drawn=true)(Np:k.cD=x.turn)(hf:k.ay=0)(ha:0<=k.at_)(hv:k.at_≠(all.length:Int)-1)(hl:all.length<=950000000000):
 Calls prog 153 #[pointer (some ⟨p.yb,0,none⟩),int i64 u] w λy w'=>Dm w w' p ol av x all log u y:=by
 have⟨dr,hdr,fX⟩:=o0;have⟨da,jx,dQ⟩:=kz;have⟨dw,ad,GZ⟩:=JW;have O:=h.low;have h6:=hS.len;have a0:=(aM.1 hu).1;have a3:(u:Int)<x.ai.length:=oQ;have K1:=kG w (cells aU 64);have aj:=ak w (cells aU 64);have h1:=h.aw K1;have E:=ag (uI _ h1 hS hu hd);rw[gf Np]at E;have e4:kK k=k.ay+1:=by unfold kK;rw[ax oQ,hd];rfl
 go_in;go_upto_region 1 with fail;generalize w.alloc (cells aU 64)=w1 at*;go_wp;refine b9 E ?_;intro I Y;have h2:=h1.aw Y;have R:=Y.at_ aj (λx=>x);have KA:=K1.trans Y;have x3:I.cell? _=some (slice (some ⟨p.gb,0,none⟩) x.ai.length x.ai.length):=h2.cell 3;have hc:=h2.C4 hu;have D:=ak I (cells nw 236);have F:=an (I.alloc (cells nw 236)) I.heap.size nw (jH ol k).toArray 236 (0,0) D;have Z:=rQ I (cells nw 236) (jH ol k).toArray;have Q:(jH ol k).toArray.all (λx=>x.oneCell')=_:=gH.2 (λu hu=>uH ol k u (cX hu));have a1:=aR R;go_upto_region 5 with(first|refine bS rfl 236 (tmp 25) rfl p.gb (u*14) rfl (jH ol k) dw hc ad GZ pJ ?_|refine bJ (jH ol k).toArray D pJ rfl Q ?_);have h3:=h2.aw Z;have am:=Z.at_ R (λx=>x);have KB:=KA.trans Z;generalize (I.alloc (cells nw 236)).setRow I.heap.size (jH ol k).toArray=G at*;generalize I.heap.size=nb at*;have d4:G.cell? ⟨nb,4,none⟩=some (int i64 ((k.ay:Int)+1)):=by rw[World.cell?,F,<-show((kK k:Nat):Int)=(k.ay:Int)+1 by rw[e4];rfl];rfl
 have aO:∀j v,(pD (ud ol k))[j]? =some v->G.cell? ⟨nb,7+j,none⟩=some v:=by
  intro j v hj;rw[ke F];have:j<6:=(aM.1 hj).1;rcases(by omega:j=0\/j=1\/j=2\/j=3\/j=4\/j=5)with rfl|rfl|rfl|rfl|rfl|rfl<;>exact hj
 have sL:_=some (pD (ud ol k)).length:=bF;have D:=ak G (cells cG 26);have aI:=an (G.alloc (cells cG 26)) G.heap.size cG (cM (ud ol k)) 26 (0,0) D;have U:=rQ G (cells cG 26) (cM (ud ol k));simp only[Act.put];go_upto_region 7 with(first|refine bS rfl 26 (tmp 30) rfl nb 7 rfl (pD (ud ol k)) da aO jx dQ sL ?_|refine bJ (cM (ud ol k)) D bF rfl (fK _) ?_);have X:=h3.aw U;have ap:=U.at_ am (λx=>x);have ab:=U.at_ F (λx=>x);have KC:=KB.trans U;have a2:=aR F;generalize (G.alloc (cells cG 26)).setRow G.heap.size (cM (ud ol k))=w4 at*;generalize G.heap.size=fb at*;have d3:w4.cell? ⟨nb,3,none⟩=some (int i64 k.at_):=dG ab rfl;have c1:_=some av:=X.cell 1;simp only[Act.put];obtain⟨ao,aS,rfl⟩:=bp X.row;have HS:=ag (hS.xl hu hk hd Np hf ha hv);have g1:((k.ay:Int)==0)=true:=by rw[hf];rfl
 have g2:(k.at_==(all.length:Int)-1)=false:=cX hv;have EB:=ag (λn=>yT (w4.drewN n) (X.aw ((Kp.refl _ _).drewN n)) 14 oQ);have HX:=bw X KC;go_upto_region 8 with fail;go_quiet (fail);go_wp;refine b9 (EB _) ?_;intro J K5;have rW:=ak J (cells aU 64);have aa:=an (J.alloc (cells aU 64)) J.heap.size aU (bU (Aw all.length 14)) 64 (0,0) rW;have K6:Kp _ _ ((J.alloc (cells aU 64)).setRow J.heap.size (bU (Aw all.length 14))):=(((Kp.refl bA w4).drewN _).trans K5).trans (((Kp.refl _ _).alloc _).setRow (λx=>oQ) _);have pe:=K6.at_ ap (λx=>x);go_upto_region 10 with(refine bJ (bU (Aw all.length 14)) rW bh rfl (du _) ?_);generalize (J.alloc (cells aU 64)).setRow J.heap.size (bU (Aw all.length 14))=w6 at*;have QF:=ag (lI.eV HX.2 O (lI.of (HX.1.aw K6) (K6.mono gM)) pe (bU (Aw all.length 14)));have JZ:=an w6 w.heap.size aU (bU (Aw all.length 14)) 64 (0,0) pe;go_wp2_with (first|refine gV aa hdr fX bh ?_|refine bJ (bU (Aw all.length 14)) pe bh rfl (du _) ?_);refine kH JZ hdr fX bh ?_;exact Dm.of HS.1 rfl QF HS.2 rfl rfl oQ oQ (cT _)
theorem J8 w{p}{ol}{x}{all}{log}{av}{t}(h:kL w p ol x all log av)(J:SI ol x all log)(hR:Fj t ol){u:Nat}{k}(hu:x.ai[u]? =some k)(hk:k.kind=1)(hd:k.drawn=true)(Np:k.cD=x.turn)(hv:0<k.ay\/k.at_<0\/k.at_=(all.length:Int)-1)(hl:all.length<=950000000000)(Nm:log.size<=5500000000000000000):
 Calls prog 153 #[pointer (some ⟨p.yb,0,none⟩),int i64 u] w λy w'=>Dm w w' p ol av x all log u y:=by
 have ad:=h.rf;have⟨s,hs⟩:=J.send hR h.rf.ok hu hk hd Np hv;have dk:=J.pos;have RU:k.ay<=4:=by have:=hs.lt;have:=hs.le;omega
 have⟨dr,hdr,fX⟩:=o0;have⟨da,jx,dQ⟩:=kz;have⟨dw,cu,GZ⟩:=JW;have F:=h.low;have h6:=J.len;have cV:=(aM.1 hu).1;have dc:(u:Int)<(x.ai.length:Int):=oQ;have K1:=kG w (cells aU 64);have b6:=ak w (cells aU 64);have h1:=h.aw K1;have E:=ag (uI _ h1 J hu hd);rw[gf Np]at E;have e4:kK k=k.ay+1:=by unfold kK;rw[ax oQ,hd];rfl
 clear h;go_in;go_upto_region 1 with fail;generalize w.alloc (cells aU 64)=w1 at*;go_wp;refine b9 E ?_;intro w2 K2;have h2:=h1.aw K2;have be:=K2.at_ b6 (λx=>x);have KA:=K1.trans K2;have x3:w2.cell? _=some (slice (some ⟨p.gb,0,none⟩) x.ai.length x.ai.length):=h2.cell 3;have hc:=h2.C4 hu;have G:=ak w2 (cells nw 236);have U:=an (w2.alloc (cells nw 236)) w2.heap.size nw (jH ol k).toArray 236 (0,0) G;have K3:=rQ w2 (cells nw 236) (jH ol k).toArray;have a5:(jH ol k).toArray.all (λx=>x.oneCell')=_:=gH.2 (λu hu=>uH ol k u (cX hu));have cZ:=aR be;clear E K1 K2 h1 b6;go_upto_region 5 with(first|refine bS rfl 236 (tmp 25) rfl p.gb (u*14) rfl (jH ol k) dw hc cu GZ pJ ?_|refine bJ (jH ol k).toArray G pJ rfl a5 ?_);have h3:=h2.aw K3;have b7:=K3.at_ be (λx=>x);have KB:=KA.trans K3;clear hc G a5 K3 h2 x3 be KA;generalize (w2.alloc (cells nw 236)).setRow w2.heap.size (jH ol k).toArray=w3 at*;generalize w2.heap.size=nb at*;clear w2 w1;have d4:w3.cell? ⟨nb,4,none⟩=some (int i64 ((k.ay:Int)+1)):=by rw[World.cell?,U,<-show((kK k:Nat):Int)=(k.ay:Int)+1 by rw[e4];rfl];rfl
 have cc:∀j v,(pD (ud ol k))[j]? =some v->w3.cell? ⟨nb,7+j,none⟩=some v:=by
  intro j v hj;rw[ke U];have:j<6:=(aM.1 hj).1;rcases(by omega:j=0\/j=1\/j=2\/j=3\/j=4\/j=5)with rfl|rfl|rfl|rfl|rfl|rfl<;>exact hj
 have sL:_=some (pD (ud ol k)).length:=bF;have G:=ak w3 (cells cG 26);have O:=an (w3.alloc (cells cG 26)) w3.heap.size cG (cM (ud ol k)) 26 (0,0) G;have K4:=rQ w3 (cells cG 26) (cM (ud ol k));simp only[Act.put];go_upto_region 7 with(first|refine bS rfl 26 (tmp 30) rfl nb 7 rfl (pD (ud ol k)) da cc jx dQ sL ?_|refine bJ (cM (ud ol k)) G bF rfl (fK _) ?_);have h4:=h3.aw K4;have b8:=K4.at_ b7 (λx=>x);have ba:=K4.at_ U (λx=>x);have KC:=KB.trans K4;have dq:=aR U;clear G K4 h3 b7 cc sL KB U d4;generalize (w3.alloc (cells cG 26)).setRow w3.heap.size (cM (ud ol k))=w4 at*;generalize w3.heap.size=fb at*;clear w3;have d3:w4.cell? ⟨nb,3,none⟩=some (int i64 k.at_):=dG ba rfl;have c1:_=some av:=h4.cell 1;simp only[Act.put];obtain⟨s1,ca⟩:∃s,all[all.length-1]? =some s:=⟨_,au oQ⟩
 have b3:gB all=s1:=by unfold gB;rw[iO,ca];rfl
 obtain⟨g,R,rfl,xc⟩:=h4.Nl ca;have dn:=F g (inr (inr rfl));have dl:=hs.le;have cs:=hs.lt;have HX:=fM h4 KC hs b3;clear h4 KC J hs b3;go_upto_if 33 with(fail)
 go_cut [33]from 34 to 64 (λ_ wx=>wx.heap[fb]? =some (cells (cM (bX ol.ah s)) 26 (0,0))/\Kp (λk=>k=fb) w4 wx)
 case first=>
  by_cases q0:k.ay=0
  ·have c8:s1=s:=by rw[<-HX.out.2.2.2];exact HX.out.2.2.1.last q0
   subst c8;have g1:((k.ay:Int)==0)=true:=by rw[q0];rfl
   have HV:=ag hv;clear q0 hv;go_upto_region 8 with fail;go_cut [33,49]from 34 to 49 (λ_ v wx=>v= bool false/\Kp bA w4 wx)
   case first=>
    by_cases qa:k.at_<0
    ·have di:¬ 0<=k.at_:=oQ;go_quiet (fail);go_wp2;go_meet;exact⟨rfl,(Kp.refl _ _).drewN _⟩
    have qb:(k.at_==(all.length:Int)-1)=true:=by
     have:=HX.out.2.2.1.last;rcases HV.out with e|e|e
     ·simp at g1;omega
     ·omega
     simpa using e
    have di:0<=k.at_:=oQ;have HQ:=ag qb;go_quiet (fail);go_wp2;go_meet;exact⟨by first|rfl|exact iw Value.bool (by rw[bne,HQ.out];rfl),(Kp.refl _ _).drewN _⟩
   case rest=>
    obtain⟨rfl,X⟩:=hcut;have aI:=X.at_ O (λx=>x);have D:wc.drew.cell? ⟨p.yb,1,none⟩=some (slice (some ⟨g,0,none⟩) all.length R)/\(∀j u,(pD (bX ol.ah s1))[j]? =some u->wc.drew.cell? ⟨g,((all.length:Int)-1).toNat*6+j,none⟩=some u):=by
     refine⟨X.bN c1,?_⟩;rw[show((all.length:Int)-1).toNat=all.length-1 by omega];exact λj u hj=>X.bN (xc j u hj)
    have Z:(wc.drew.setRow fb (cM (bX ol.ah s1))).cell? ⟨p.yb,1,none⟩=some (slice (some ⟨g,0,none⟩) all.length R)/\(∀j u,(pD (bX ol.ah s1))[j]? =some u->(wc.drew.setRow fb (cM (bX ol.ah s1))).cell? ⟨g,((all.length:Int)-1).toNat*6+j,none⟩=some u):=
     have ab:∀{b i:Nat} {v:Value},b≠fb->wc.drew.cell? ⟨b,i,none⟩=some v->(wc.drew.setRow fb (cM (bX ol.ah s1))).cell? ⟨b,i,none⟩=some v:=λhb hv=>by rw[<-hv];exact kO (cN _ _ _ _ hb)
     ⟨ab (by have:=F _ (inl rfl);omega) D.1,λj u hj=>ab oQ (D.2 j u hj)⟩
    have hw:IntKind.i64.wrap ((all.length:Int)-1)=(all.length:Int)-1:=by rw[nX];omega
    have cn:(1:Int)<=(all.length:Int):=oQ;have cp:¬(all.length:Int)<=(all.length:Int)-1:=oQ;have sL:_=some (pD (bX ol.ah s1)).length:=bF;have HK:=ag X;clear X;go_upto_region 11 with fail;refine aY (λw'=>w'.cell? ⟨p.yb,1,none⟩=some (slice (some ⟨g,0,none⟩) all.length R)/\(∀j u,(pD (bX ol.ah s1))[j]? =some u->w'.cell? ⟨g,((all.length:Int)-1).toNat*6+j,none⟩=some u)) bZ ?_;refine bR 0 53 (pointer (some ⟨p.yb,0,none⟩)) D ?_;refine bR 1 54 (pointer (some ⟨p.yb,0,none⟩)) D ?_;refine bR 2 55 (pointer (some ⟨p.yb,1,none⟩)) D ?_;refine fh 3 56 (slice (some ⟨g,0,none⟩) all.length R) rfl (λw' J=>by simp[execOp,Act.eval,go_sem,J.1]) D ?_;refine bR 4 57 (pointer (some ⟨p.yb,0,none⟩)) D ?_;refine bR 5 58 (pointer (some ⟨p.yb,0,none⟩)) D ?_;refine bR 6 59 (pointer (some ⟨p.yb,1,none⟩)) D ?_;refine fh 7 60 (slice (some ⟨g,0,none⟩) all.length R) rfl (λw' J=>by simp[execOp,Act.eval,go_sem,J.1]) D ?_;refine bR 8 61 (int i64 all.length) D ?_;refine fh 9 62 (int i64 ((all.length:Int)-1)) rfl (λw' _=>by simp[execOp,Act.eval,go_sem,hw]) D ?_;refine fh 10 63 (pointer (some ⟨g,((all.length:Int)-1).toNat*6,none⟩)) rfl (λw' _=>by simp[execOp,Act.eval,go_sem,cn,cp]) D ?_;refine fh 11 64 (agg (cM (bX ol.ah s1))) rfl (λw' J=>eT 26 (tmp 63) rfl g (((all.length:Int)-1).toNat*6) rfl (pD (bX ol.ah s1)) da J.2 jx dQ sL) D ?_;refine cQ 12 bZ rfl rfl 26 (tmp 9) (tmp 64) rfl rfl fb (cM (bX ol.ah s1)) nQ nQ 26 (cM (ud ol k)) aI bF rfl (fK _) Z ?_;refine bG bZ (bH ?_) _;go_wp2;go_meet;exact⟨an _ _ _ _ _ _ aI,(Kp.drew (HK.out.mono (S':=λk=>k=fb) gM)).setRow (λ_=>rfl) _⟩
  have g1:((k.ay:Int)==0)=false:=il;have HW:=ag (show ud ol k=bX ol.ah s by unfold ud;rw[aq oQ,HX.out.2.2.1.now oQ]);clear q0;go_wp2;go_meet;exact⟨by rw[<-HW.out];exact O,Kp.refl _ _⟩
 case rest=>
  have⟨aI,X⟩:=hcut;have dg:∀k,C3 p (slice (some ⟨g,0,none⟩) all.length R) k->¬k=fb:=λk s e=>by have:=F k s;omega
  have h5:=HX.out.1.aB X dg (λi cur T hi hT e=>by subst e;rw[O]at hi;simp only[bE,eH]at hi;rw[<-hi.2.1]at hT;revert hT;unfold He;decide);have KD:Kp bA w wc:=(HX.out.2.1.mono (S':=λk=>w.heap.size<=k) gM).trans' X (λi _ e=>oQ) |>.mono (λi hi x=>oQ)
  have ZZ:=X.at_ ba oQ;have lM:=X.at_ b8 oQ;have SF:=ag HX.out.2.2.1;have aO:=HX.out.2.2.1.JS;obtain⟨c,hc⟩:∃c,c=af k.events k.ay:=⟨_,rfl⟩
  have⟨on,ZD⟩:=aO.wtr.tk (L:=Ch.mk p.l) (by have:=ad.ah;unfold Ch.ah at this;exact this) ad.lD ad.WR;have EF:=λW K=>ag (xI W p.B p.cb p.l p.v ol (bX ol.ah s) c s on (h5.aw K).ch ad (aO.wtr.sm ad.lD) ZD aO.inv aO.ok);have c0:wc.cell? _=some (pointer (some ⟨p.cb,0,none⟩)):=h5.cell 0;have d2:wc.cell? ⟨nb,2,none⟩=some (string k.events):=dG ZZ rfl;have cv:(k.ay:Int)<(k.events.size:Int):=oQ;have cw:((k.events[k.ay]'cs).toNat:Int)=c:=by rw[hc];simp[af,cs]
  have HC:=ag hc;have HY:=bw h5 KD;clear HX h5 KD ZD aO X c1 xc O ba b8 ad hc;generalize wc=wq at*;clear wc;generalize XW:dx ol s c=fd at*;have⟨fe,fs,ft⟩:=fd;have Um:=ag XW;clear XW;simp only at EF;go_upto_region 12 with fail;go_cut [11,12,13]from 65 to 79 (λq e f wx=>∃qb,q= pointer (some ⟨qb,0,none⟩)/\e= string ft/\f= bool fe/\wx.heap[qb]? =some (cells (cM fs) 26 (0,0))/\Kp bA wq wx)
  case first=>
   have D:Kp bA wq _:=(Kp.refl _ _).drew;refine aY (λw'=>Kp bA wq w') bZ ?_;refine bR 0 66 (pointer (some ⟨p.yb,0,none⟩)) D ?_;refine bR 1 67 (pointer (some ⟨p.yb,0,none⟩)) D ?_;refine bR 2 68 (pointer (some ⟨p.yb,0,none⟩)) D ?_;refine fh 3 69 (pointer (some ⟨p.cb,0,none⟩)) rfl (λw' J=>by simp[execOp,Act.eval,go_sem,J.bN c0]) D ?_;refine fh 4 70 (agg (cM (bX ol.ah s))) rfl (λw' J=>dR 26 (tmp 9) rfl fb nQ 26 (cM (bX ol.ah s)) (0,0) da (J.at_ aI (λx=>x)) jx dQ bF) D ?_;refine bR 5 71 (pointer (some ⟨nb,1,none⟩)) D ?_;refine bR 6 72 (pointer (some ⟨nb,2,none⟩)) D ?_;refine fh 7 73 (string k.events) rfl (λw' J=>by simp[execOp,Act.eval,go_sem,J.bN d2]) D ?_;refine bR 8 74 (int i64 k.ay) D ?_;refine fh 9 75 (int .u8 c) rfl (λw' _=>by simp[execOp,Act.eval,go_sem,cv,cw]) D ?_;refine qZ 10 15 bZ rfl rfl rfl rfl ?_ ?_
   ·refine er (some 76) rfl 146 #[pointer (some ⟨p.cb,0,none⟩),agg (cM (bX ol.ah s)),int .u8 c] wX _ (λw'=>Kp bA wq.drew w') (EF wq.drew D).out ?_;intro w5 X;have I:=D.trans X;have CO:=I.alloc (cells cG 26);have G:=ak w5 (cells cG 26);have Z:=CO.setRow (g:=w5.heap.size) (λx=>by have:=I.size;omega) (cM fs);refine⟨I,?_⟩;simp only[Act.put,pA,pB,pC];refine bR 11 65 (tuple #[agg (cM fs),string ft,bool fe]) I ?_;refine bR 12 77 (agg (cM fs)) I ?_;refine bR 13 78 (string ft) I ?_;refine bR 14 79 (bool fe) I ?_;refine pf 15 ?_;refine gA (some 11) rfl (pointer (some ⟨w5.heap.size,0,none⟩)) (w5.alloc (cells cG 26)) Fv ?_;simp only[Act.put,pA,pB,pC];refine⟨CO,?_⟩;refine cQ 16 bZ rfl rfl 26 (tmp 11) (tmp 77) rfl rfl w5.heap.size (cM fs) nQ nQ 26 cG G bF rfl (fK _) Z ?_;refine bR 17 12 (string ft) Z ?_;refine bR 18 13 (bool fe) Z ?_;refine bG bZ (bH ?_) _;go_wp2;go_meet;exact⟨w5.heap.size,rfl,rfl,rfl,an _ _ _ _ _ _ G,Z⟩
   refine gA (some 11) rfl (pointer (some ⟨wq.heap.size,0,none⟩)) (wq.drew.alloc (cells cG 26)) Fv ?_;simp only[Act.put,pA,pB,pC];have G:=ak wq.drew (cells cG 26);have Dd:=D.alloc (cells cG 26);refine⟨Dd,?_⟩;refine pf 10 ?_;refine er (some 76) rfl 146 #[pointer (some ⟨p.cb,0,none⟩),agg (cM (bX ol.ah s)),int .u8 c] wX _ (λw'=>Kp bA (wq.drew.alloc (cells cG 26)) w') (EF _ Dd).out ?_;intro w5 X;have I:=Dd.trans X;have kE:=X.at_ (k:=wq.heap.size) (by exact G) (λx=>x);have Z:=I.setRow (g:=wq.heap.size) (λx=>oQ) (cM fs);refine⟨I,?_⟩;simp only[Act.put,pA,pB,pC];refine bR 11 65 (tuple #[agg (cM fs),string ft,bool fe]) I ?_;refine bR 12 77 (agg (cM fs)) I ?_;refine bR 13 78 (string ft) I ?_;refine bR 14 79 (bool fe) I ?_;refine cQ 16 bZ rfl rfl 26 (tmp 11) (tmp 77) rfl rfl wq.heap.size (cM fs) nQ nQ 26 cG kE bF rfl (fK _) Z ?_;refine bR 17 12 (string ft) Z ?_;refine bR 18 13 (bool fe) Z ?_;refine bG bZ (bH ?_) _;go_wp2;go_meet;exact⟨wq.heap.size,rfl,rfl,rfl,an _ _ _ _ _ _ kE,Z⟩
  case rest=>
   obtain⟨qb,rfl,rfl,rfl,a4,K6⟩:=hcut;have h6:=HY.out.1.aw K6;have KE:=HY.out.2.trans K6;have pe:=K6.at_ lM (λx=>x);have vh:=K6.at_ ZZ (λx=>x);have c1:wc.cell? _=some (slice (some ⟨g,0,none⟩) all.length R):=h6.cell 1;have bt:wc.cell? ⟨nb,2,none⟩=some (string k.events):=dG vh rfl;have d13:wc.cell? ⟨nb,13,none⟩=some (string k.out):=dG vh rfl;have ds:=SF.out.out;have dt:ft.size<=345600:=by
    cases q:fe with
    |true=>
     have:=tU (ol:=ol) (s:=s) (ev:=c) (by rw[Um.out,q]);rw[Um.out]at this;have e:_=ft:=this.2.1;rw[<-e];exact mq h6.rf.ok s c
    |false=>?_
    have:=Um.out;unfold dx at this;split at this
    ·simp only[mD]at this;rw[q]at this;cases this.1
    simp only[mD]at this;rw[<-this.2.2];exact aA _
   have Q:=bw h6 KE;clear K6 HY h6 KE c0 d2 EF lM ZZ aI;cases fe with
   |false=>
    have HS:=ag (SF.out.bad (by rw[<-HC.out,Um.out]));have QF:=ag (lI.eV Q.out.2 F (lI.of Q.out.1 (Kp.refl _ _)) pe (bU {eY with err:=9,mY:=(all.length:Int)-1,idx:=(k.ay:Int)}));have JZ:=an wc w.heap.size aU (bU {eY with err:=9,mY:=(all.length:Int)-1,idx:=(k.ay:Int)}) 64 (0,0) pe;clear SF Um HC Q;go_wp2_with (refine bJ (bU {eY with err:=9,mY:=(all.length:Int)-1,idx:=(k.ay:Int)}) pe bh rfl (du _) ?_);refine kH JZ hdr fX bh ?_;exact Dm.of HS.out.1 rfl QF.out HS.out.2 rfl rfl oQ oQ (cT _)
   |true=>?_
   have fW:=tU (ol:=ol) (s:=s) (ev:=c) (by rw[Um.out]);have ck:fs=bX ol.ah (bY ol s c).1:=by rw[<-fW.2.2,Um.out]
   generalize b4:(bY ol s c).1=s' at*;subst ck;have HM:=ag (show(bY ol s (af k.events k.ay)).1=s' by rw[<-HC.out];exact b4);have HT:=ag (show(dx ol s (af k.events k.ay))=(true,bX ol.ah s',ft)by rw[<-HC.out];exact Um.out);clear fW b4 Um HC;by_cases hn:k.ay+1=k.events.size
   ·have HS:=ag (SF.out.fin (by rw[HT.out]) hn);rw[HT.out,HM.out]at HS;have g1:((k.ay:Int)==(k.events.size:Int)-1)=true:=il;have EJ:=ag (C6 wc Q.out.1 s' (k.out++ft) oQ oQ (by rw[jN];omega));have HN:=ag hn;clear SF HT HM hn;go_wp2_with (refine gV a4 jx dQ (UE _) ?_);refine b9 EJ ?_;intro w7 Q7;have ZS:=Q7.zero F pe;have b5:=Q7.zero (λk s=>mH (F k s) cZ) vh;have⟨av7,h7,n7,K7⟩:=Q7;have QF:=ag (lI.eV Q.out.2 F ⟨av7,h7.aw (Kp.refl _ _).drew,n7,K7.drew⟩ ZS (bU {eY with mY:=(all.length:Int),idx:=(k.events.size:Int),text:=k.out++ft}));have SO:=an w7.drew w.heap.size aU (bU {eY with mY:=(all.length:Int),idx:=(k.events.size:Int),text:=k.out++ft}) 64 (0,0) ZS;have y1:w7.drew.cell? _=some av7:=h7.cell 1;obtain⟨a0,Xn,rfl⟩:=bp h7.row;rw[ix,List.length_singleton]at y1;have aS:w7.drew.cell? ⟨nb,13,none⟩=some (string k.out):=by show w7.cell? _=_;rw[World.cell?,b5];rfl
    have ab:∀{b i:Nat} {v:Value},b≠w.heap.size->w7.drew.cell? ⟨b,i,none⟩=some v->(w7.drew.setRow w.heap.size (bU {eY with mY:=(all.length:Int),idx:=(k.events.size:Int),text:=k.out++ft})).cell? ⟨b,i,none⟩=some v:=λhb hv=>by rw[<-hv];exact kO (cN _ _ _ _ hb)
    have D:w7.drew.cell? ⟨p.yb,1,none⟩=some (slice a0 (all.length+1) Xn)/\w7.drew.cell? ⟨nb,13,none⟩=some (string k.out):=⟨y1,aS⟩
    have Z:(w7.drew.setRow w.heap.size (bU {eY with mY:=(all.length:Int),idx:=(k.events.size:Int),text:=k.out++ft})).cell? ⟨p.yb,1,none⟩=some (slice a0 (all.length+1) Xn)/\(w7.drew.setRow w.heap.size (bU {eY with mY:=(all.length:Int),idx:=(k.events.size:Int),text:=k.out++ft})).cell? ⟨nb,13,none⟩=some (string k.out):=⟨ab (by have:=F _ (inl rfl);omega) y1,ab oQ aS⟩
    have a7:k.out.size+ft.size<=9223372036854775807:=oQ;have dd:IntKind.i64.wrap (all.length:Int)=(all.length:Int):=by rw[nX];omega
    have de:IntKind.i64.wrap ((k.ay:Int)+1)=(k.ay:Int)+1:=by rw[nX];omega
    clear EJ pe vh a4 h7 K7 n7 Q c1 d13 bt ab b5 y1 aS;go_upto_region 17 with fail;refine aY (λw'=>w'.cell? ⟨p.yb,1,none⟩=some (slice a0 (all.length+1) Xn)/\w'.cell? ⟨nb,13,none⟩=some (string k.out)) bZ ?_;refine bR 0 104 (pointer (some ⟨p.yb,0,none⟩)) D ?_;refine bR 1 105 (pointer (some ⟨p.yb,0,none⟩)) D ?_;refine bR 2 106 (pointer (some ⟨p.yb,1,none⟩)) D ?_;refine fh 3 107 (slice a0 (all.length+1) Xn) rfl (λw' J=>by simp[execOp,Act.eval,go_sem,J.1]) D ?_;refine bR 4 108 (int i64 ((all.length+1:Nat):Int)) D ?_;refine fh 5 109 (int i64 all.length) rfl (λw' _=>by simp[execOp,Act.eval,go_sem,dd]) D ?_;refine bR 6 110 (int i64 k.ay) D ?_;refine fh 7 111 (int i64 ((k.ay:Int)+1)) rfl (λw' _=>by simp[execOp,Act.eval,go_sem,de]) D ?_;refine bR 8 112 (pointer (some ⟨nb,13,none⟩)) D ?_;refine fh 9 113 (string k.out) rfl (λw' J=>by simp[execOp,Act.eval,go_sem,J.2]) D ?_;refine bR 10 114 (string ft) D ?_;refine fh 11 115 (string (k.out++ft)) rfl (λw' _=>by simp[execOp,Act.eval,go_sem,a7]) D ?_;refine fh 12 116 (agg (bU {eY with mY:=(all.length:Int),idx:=(k.events.size:Int),text:=k.out++ft})) rfl (λw' _=>eU 64 #[(1,.tmp 109),(2,.tmp 111),(5,.tmp 115)] rfl (bU {eY with mY:=(all.length:Int),idx:=(k.events.size:Int),text:=k.out++ft}) [(1,int i64 all.length),(2,int i64 ((k.ay:Int)+1)),(5,string (k.out++ft))] nQ (by rw[<-HN.out];kernel_rfl)) D ?_;refine cQ 13 bZ rfl rfl 64 (tmp 4) (tmp 116) rfl rfl w.heap.size (bU {eY with mY:=(all.length:Int),idx:=(k.events.size:Int),text:=k.out++ft}) nQ nQ 64 aU ZS bh rfl (du _) Z ?_;refine bR 14 5 (bool true) Z ?_;refine bG bZ (bH ?_) _;go_wp;refine kH SO hdr fX bh ?_;exact Dm.of HS.out.1 rfl QF.out HS.out.2 rfl rfl dy (by rw[jN,jN];omega) (cT _)
   have HS:=ag (SF.out.go (by rw[HT.out]) oQ);rw[HT.out,HM.out]at HS;have g1:((k.ay:Int)==(k.events.size:Int)-1)=false:=il;clear SF HT HM hn;have hL:∀a∈x.ai.map (jH ol),(id a).length=14:=by
    intro a ha;obtain⟨t,_,rfl⟩:=gY.1 ha;exact mh _ _
   have cq:(x.ai.map (jH ol))[u]? =some (jH ol k):=by rw[bD,hu];rfl
   have x3:wc.cell? _=some (slice (some ⟨p.gb,0,none⟩) x.ai.length x.ai.length):=Q.out.1.cell 3;have z4:wc.cell? ⟨p.gb,u*14+4,none⟩=some (int i64 ((k.ay:Int)+1)):=(Q.out.1.fG hu oQ).trans (by show some (Value.int i64 (kK k:Nat))=_;rw[e4];rfl);have f4:=Q.out.1.sn (u*14+4);obtain⟨b1,ap⟩:∃b,b=(jH ol k).set 4 (int i64 ((k.ay:Int)+1+1)):=⟨_,rfl⟩
   obtain⟨Y,aa⟩:∃l,l=(x.ai.map (jH ol)).set u b1:=⟨_,rfl⟩
   have bm:u<(x.ai.map (jH ol)).length:=cX cV;have a6:∀{l:List (List Value)} {b:List Value},(∀a∈l,(id a).length=14)->b.length=14->∀a∈l.set u b,(id a).length=14:=λh hb a ha=>by
    rcases s6 ha with ha|rfl
    ·exact h a ha
    exact hb
   have a8:∀a∈Y,(id a).length=14:=by rw[aa];exact a6 hL (by rw[ap];rfl)
   have cm:Y[u]? =some b1:=by rw[aa,jO bm]
   have bb:(wc.setCell ⟨p.gb,u*14+4,none⟩ (int i64 ((k.ay:Int)+1+1))).heap[p.gb]? =some (cells (Y.flatMap id).toArray 236 (0,0)):=by
    rw[ar _ Q.out.1.JV,C7,List.setIfInBounds_toArray,tW id 14 _ u (jH ol k) b1 4 (int i64 ((k.ay:Int)+1+1)) hL cq oQ ap,aa]
   obtain⟨b2,a2⟩:∃b,b=b1.take 7++pD (bX ol.ah s')++b1.drop 13:=⟨_,rfl⟩
   obtain⟨L2,a1⟩:∃l,l=Y.set u b2:=⟨_,rfl⟩
   have ct:b2.length=14:=by rw[a2,ap];rfl
   have bo:∀a∈L2,(id a).length=14:=by rw[a1];exact a6 a8 ct
   have c9:u<Y.length:=by rw[aa,j_];exact bm
   have br:L2[u]? =some b2:=by rw[a1,jO c9]
   have aj:Kp _ _ (wc.setCell ⟨p.gb,u*14+4,none⟩ (int i64 ((k.ay:Int)+1+1))):=(Kp.refl (λi=>i=p.gb) wc).setCell (p:=⟨p.gb,u*14+4,none⟩) (λ_=>rfl) _;have iL:(Y.flatMap id).length=x.ai.length*14:=by rw[tV id 14 Y a8,aa,j_,fN]
   have b0:qb≠p.gb:=by
    intro e;have h:=Q.out.1.JV;rw[<-e,a4]at h;simp only[bE,eH]at h;exact absurd h.2.1 aV
   have bi:=aj.Yj x3 Q.out.1.ne.1;have bc:=aj.at_ a4 b0;have ce:=aj.at_ vh (by have:=F _ (inr (inl rfl));omega);go_upto_region 19 with fail;clear x3 z4 f4 d13 c1 bt;generalize wc.setCell ⟨p.gb,u*14+4,none⟩ (int i64 ((k.ay:Int)+1+1))=wa at*;have D:wa.drew.cell? ⟨p.yb,3,none⟩=some (slice (some ⟨p.gb,0,none⟩) x.ai.length x.ai.length)/\wa.drew.heap[qb]? =some (cells (cM (bX ol.ah s')) 26 (0,0)):=⟨bi,bc⟩
   refine aY (λw'=>w'.cell? ⟨p.yb,3,none⟩=some (slice (some ⟨p.gb,0,none⟩) x.ai.length x.ai.length)/\w'.heap[qb]? =some (cells (cM (bX ol.ah s')) 26 (0,0))) bZ ?_;refine bR 0 128 (pointer (some ⟨p.yb,0,none⟩)) D ?_;refine bR 1 129 (pointer (some ⟨p.yb,0,none⟩)) D ?_;refine bR 2 130 (pointer (some ⟨p.yb,3,none⟩)) D ?_;refine fh 3 131 (slice (some ⟨p.gb,0,none⟩) x.ai.length x.ai.length) rfl (λw' J=>by simp[execOp,Act.eval,go_sem,J.1]) D ?_;refine bR 4 132 (int i64 u) D ?_;refine fh 5 133 (agg (cM (bX ol.ah s'))) rfl (λw' J=>dR 26 (tmp 11) rfl qb nQ 26 (cM (bX ol.ah s')) (0,0) da J.2 jx dQ bF) D ?_;refine fh 6 134 (pointer (some ⟨p.gb,u*14,none⟩)) rfl (λw' _=>by simp[execOp,Act.eval,go_sem,dc]) D ?_;refine bR 7 135 (pointer (some ⟨p.gb,u*14+7,none⟩)) D ?_;have a3:(wa.drew.setRow p.gb (putAt (Y.flatMap id).toArray (u*14+7) (pD (bX ol.ah s')))).heap[p.gb]? =some (cells (L2.flatMap id).toArray 236 (0,0)):=by
    rw[an wa.drew p.gb _ _ 236 (0,0) bb,zW id 14 Y u b1 b2 7 (pD (bX ol.ah s')) a8 cm (show 7+6<=14 by decide) a2,a1]
   have am:Kp _ _ (wa.drew.setRow p.gb (putAt (Y.flatMap id).toArray (u*14+7) (pD (bX ol.ah s')))):=(Kp.refl (λi=>i=p.gb) wa).drew.setRow (λ_=>rfl) _;have a9:(wa.drew.setRow p.gb (putAt (Y.flatMap id).toArray (u*14+7) (pD (bX ol.ah s')))).cell? ⟨p.yb,3,none⟩=some (slice (some ⟨p.gb,0,none⟩) x.ai.length x.ai.length)/\(wa.drew.setRow p.gb (putAt (Y.flatMap id).toArray (u*14+7) (pD (bX ol.ah s')))).heap[qb]? =some (cells (cM (bX ol.ah s')) 26 (0,0)):=⟨am.Yj bi Q.out.1.ne.1,am.at_ bc b0⟩
   refine ym 8 bZ rfl rfl (oO 26 (tmp 135) (tmp 133) rfl p.gb (u*14+7) (pD (bX ol.ah s')) rfl rfl 236 (Y.flatMap id).toArray bb bF (by rw[List.size_toArray,iL];show u*14+7+6<=_;omega) (by intro u hu;simp[pD]at hu;rcases hu with rfl|rfl|rfl|rfl|rfl|rfl<;>rfl) ⟨a9,?_⟩);refine bG bZ (bH ?_) _;simp only[Act.put];have cg:=am.at_ ce (by have:=F _ (inr (inl rfl));omega);have bk:=aj.trans am;clear D bb aj am bi bc ce;generalize wa.drew.setRow p.gb (putAt (Y.flatMap id).toArray (u*14+7) (pD (bX ol.ah s')))=wb at*;have y3:=a9.1;have aS:wb.cell? ⟨nb,13,none⟩=some (string k.out):=dG cg rfl;have dj:wb.cell? ⟨p.gb,u*14+13,none⟩=some (string k.out):=by
    rw[ke a3,kg id 14 L2 u b2 13 bo br oQ,a2,ap];rfl
   have f13:wb.frozen? ⟨p.gb,u*14+13,none⟩=false:=by simp[World.frozen?,a3]
   have a7:¬(9223372036854775807<k.out.size+ft.size):=oQ;go_upto_region 20 with fail;go_region
   all_goals
    have ao:Kp _ _ (wb.setCell ⟨p.gb,u*14+13,none⟩ (string (k.out++ft))).drew:=(bk.setCell (p:=⟨p.gb,u*14+13,none⟩) (λ_=>rfl) _).drew;have bx:(wb.setCell ⟨p.gb,u*14+13,none⟩ (string (k.out++ft))).drew.heap[p.gb]? =some (cells (gG ol (aD x u {k with ay:=k.ay+1,now:=s',out:=k.out++ft}).ai).toArray 236 (0,0)):=by
     show(wb.setCell ⟨p.gb,u*14+13,none⟩ (string (k.out++ft))).heap[p.gb]? =_;have e3:jH ol {k with ay:=k.ay+1,now:=s',out:=k.out++ft}=b2.set 13 (string (k.out++ft)):=by
      have e5:kK {k with ay:=k.ay+1,now:=s',out:=k.out++ft}=k.ay+1+1:=by unfold kK;simp[hk,hd]
      have e6:ud ol {k with ay:=k.ay+1,now:=s',out:=k.out++ft}=bX ol.ah s':=by unfold ud;simp
      rw[a2,ap];unfold jH;rw[e5,e6];rfl
     rw[ar _ a3,List.setIfInBounds_toArray,tW id 14 L2 u b2 (b2.set 13 (string (k.out++ft))) 13 (string (k.out++ft)) bo br oQ rfl,C7,a1,aa,List.set_set,List.set_set,<-e3];show _=some (Obj.cells (List.flatMap id (List.map (jH ol) (x.ai.set u {k with ay:=k.ay+1,now:=s',out:=k.out++ft}))).toArray _ _);rw[List.map_set]
    have hF:=Q.out.1.turn ao (λ_=>inr) (x':=aD x u {k with ay:=k.ay+1,now:=s',out:=k.out++ft}) (log':=log) (by rw[ao.at_ Q.out.1.cj Q.out.1.ne.1];simp[KH,aD]) bx;have bg:=ao.at_ pe (by have:=F _ (inr (inl rfl));omega);have KZ:=ao.mono (S':=C3 p (slice (some ⟨g,0,none⟩) all.length R)) (λ_ _ e=>inr (inl e));have QF:=ag (lI.eV Q.out.2 F (lI.of hF KZ) bg (bU eY));clear bx hF KZ ao a3 bk y3 aS dj f13 a9 cg;generalize (wb.setCell ⟨p.gb,u*14+13,none⟩ (string (k.out++ft))).drew=wz at*;have ci:=an wz w.heap.size aU (bU eY) 64 (0,0) bg;go_wp2_with (refine bJ (bU eY) bg bh rfl (du _) ?_);refine kH ci hdr fX bh ?_;exact Dm.of HS.out.1 rfl QF.out HS.out.2 rfl rfl oQ oQ (cT _)
def Yk(w w':World)(p:Rl)(ol:Ol)(av:Value)(x:Sv)(all:List Sd)(log:ByteArray)(R:Sv×Rp×Bool×Int)(y:Ending):Prop:=∃D log',y=returned (tuple #[agg (bU R.2.1),bool R.2.2.1,int i64 R.2.2.2])/\lI w w' p ol av R.1 D log'/\SI ol R.1 D log'/\D.length<=all.length+1/\log'.size<=log.size+6000000/\R.1.bj<=x.bj+1
theorem lI.eqv{w w' p ol av X x' all log}(q:lI w w' p ol av X all log)(D:x'.ai=X.ai)(E:x'.bj=X.bj):lI w w' p ol av x' all log:=by
 have⟨z9,h',n',K'⟩:=q;exact⟨z9,h'.eqv D E,n',K'⟩
theorem U6 w{p}{ol}{x}{all}{log}{av}{t}(h:kL w p ol x all log av)(E:SI ol x all log)(O:Fj t ol){u:Nat}{k}(hu:x.ai[u]? =some k)(hk:k.kind=1)(G:all.length<=950000000000)(J:log.size<=5500000000000000000)(Q:x.bj<=1000000000000):
 Calls prog 153 #[pointer (some ⟨p.yb,0,none⟩),int i64 u] w λy w'=>Dm w w' p ol av x all log u y:=by
 cases F:k.drawn with
 |false=>grind[Ax]
 |true=>?_
 by_cases D:k.cD=x.turn
 ·by_cases I:0<k.ay\/k.at_<0\/k.at_=(all.length:Int)-1
  ·grind[J8]
  exact J0 w h E hu hk F D oQ oQ (λe=>I (inr (inr e))) G
 grind[Ax]
theorem Ry w{p}{ol}{x}{all}{log}{av}{t}(h:kL w p ol x all log av)(hS:SI ol x all log)(hR:Fj t ol)u(hl:all.length<=950000000000)(Nm:log.size<=5500000000000000000)(ht:x.bj<=1000000000000):
 Calls prog 105 #[pointer (some ⟨p.yb,0,none⟩),int i64 u] w λy w'=>Yk w w' p ol av x all log (cW ol x u) y:=by
 have⟨dr,hdr,fX⟩:=o0;have D:=h.low;have K1:=kG w (cells aU 64);have Y:=ak w (cells aU 64);have h1:=h.aw K1;have KS:=K1.mono (S':=C3 p av) gM;have x3:(w.alloc (cells aU 64)).cell? _=some (slice (some ⟨p.gb,0,none⟩) x.ai.length x.ai.length):=h1.cell 3;have err:∀c:Int,cW ol x u=(x,eY,false,c)->Hid (Yk w ((w.alloc (cells aU 64)).setRow w.heap.size (bU eY)) p ol av x all log (cW ol x u) (returned (tuple #[agg (bU eY),bool false,int i64 c]))):=λc e=>ag (by
  rw[e];exact⟨all,log,rfl,lI.eV K1 D (lI.of h1 (Kp.refl _ _)) Y _,hS,oQ,oQ,cT _⟩)
 have OD:=an (w.alloc (cells aU 64)) w.heap.size aU (bU eY) 64 (0,0) Y;by_cases hc:0<=u/\u<(x.ai.length:Int)
 ·obtain⟨n,rfl⟩:∃n:Nat,u=(n:Int):=⟨u.toNat,oQ⟩
  have a3:=hc.2;obtain⟨k,hu⟩:∃t,x.ai[n]? =some t:=⟨_,au oQ⟩
  have d0:(w.alloc (cells aU 64)).cell? ⟨p.gb,n*14,none⟩=some _:=h1.fG hu (j:=0) oQ;by_cases q:k.kind=0
  ·have HE:=err 13 (Ni hu q);rw[q]at d0;clear h h1 hS err hc K1 KS;generalize Yk w=SQ at*;go_in;go_upto_region 1 with fail;generalize w.alloc (cells aU 64)=O at*;go_wp2_with (refine bJ (bU eY) Y bh rfl (du _) ?_);refine aJ (az rfl _ _ w.heap.size 64 (bU eY) (0,0) dr rfl OD hdr fX bh) rfl ?_;exact HE
  have g0:(k.kind !=0)=true:=cX q;rw[g0]at d0;have a0:=hS.kinds hu q;have h6:=hS.len;clear err hc OD;go_in;go_upto_region 1 with fail;generalize w.alloc (cells aU 64)=O at*;go_upto_region 6 with fail;have aa:=aR Y;have KW:=kG O (cells aU 64);have aj:=ak O (cells aU 64);have ad:=KW.at_ Y (λx=>x);have ha:=h1.aw KW;have e3:(O.alloc (cells aU 64)).cell? _=some (slice (some ⟨p.gb,0,none⟩) x.ai.length x.ai.length):=ha.cell 3;have dk:(O.alloc (cells aU 64)).cell? ⟨p.gb,n*14+1,none⟩=some _:=ha.fG hu oQ;have ab:(O.alloc (cells aU 64)).cell? ⟨p.gb,n*14+3,none⟩=some _:=ha.fG hu oQ;clear d0 x3 h h1 Y KS;generalize O.alloc (cells aU 64)=wa at*;rcases a0 with e|e|e|e
  case' inl=>
   have E:=ag (U6 wa ha hS hR hu e hl Nm ht);rw[e]at dk;go_wp;refine hm E ?_;rintro y w2 ⟨X,U,log',rfl,e0,Q2,F,t1,t2,b2,b3,b4,b5,b6⟩;generalize eK:cW ol x (n:Int)=R at*;have⟨x',I,d,e1⟩:=R;simp only at e0 t1 t2 b4 b5 F;subst e0;have C8:=Q2.zero D ad;have Q:=Q2.zero (λk s=>mH (D k s) aa) aj;have Q3:=lI.eV KW (λk s=>mH (D k s) aa) Q2 Q (bU I);have J9:=an w2 O.heap.size aU (bU I) 64 (0,0) Q;have yV:(w2.setRow O.heap.size (bU I)).heap[w.heap.size]? =_:=(cN _ _ _ _ oQ).trans C8;have Z:=ag eK;have G:=xn F t1 t2 b2 b3 b4 b6;clear E Q2 C8 F t1 t2 b2 b3 b4 b6 dk ab e3 eK;go_upto_region 15 with(refine bJ (bU I) Q bh rfl (du _) ?_);generalize w2.setRow O.heap.size (bU I)=w3 at*;clear Q;cases d with
   |false=>
    have QF:=ag (lI.eV K1 D Q3 yV (bU eY));have J:=an w3 w.heap.size aU (bU eY) 64 (0,0) yV;obtain rfl:=b5 rfl;clear Q3 J9;go_wp2_with (refine bJ (bU eY) yV bh rfl (du _) ?_);refine aJ (az rfl _ _ w.heap.size 64 (bU eY) (0,0) dr rfl J hdr fX bh) rfl ?_;show Yk w _ p ol av x all log (cW ol x (n:Int)) _;rw[Z];exact⟨U,log',rfl,QF.eqv G.2.2.1 G.2.1,G.1,G.2.2.2.1,G.2.2.2.2.1,G.2.2.2.2.2.1⟩
   |true=>?_
  case' inr.inl=>
   have E:=ag (No wa ha hS hR hu e hl Nm ht);rw[e]at dk;go_wp;refine hm E ?_;rintro y w2 ⟨X,U,log',rfl,e0,Q2,F,t1,t2,b2,b3,b4,b5,b6⟩;generalize eK:cW ol x (n:Int)=R at*;have⟨x',I,d,e1⟩:=R;simp only at e0 t1 t2 b4 b5 F;subst e0;have C8:=Q2.zero D ad;have Q:=Q2.zero (λk s=>mH (D k s) aa) aj;have Q3:=lI.eV KW (λk s=>mH (D k s) aa) Q2 Q (bU I);have J9:=an w2 O.heap.size aU (bU I) 64 (0,0) Q;have yV:(w2.setRow O.heap.size (bU I)).heap[w.heap.size]? =_:=(cN _ _ _ _ oQ).trans C8;have Z:=ag eK;have G:=xn F t1 t2 b2 b3 b4 b6;clear E Q2 C8 F t1 t2 b2 b3 b4 b6 dk ab e3 eK;go_upto_region 15 with(refine bJ (bU I) Q bh rfl (du _) ?_);generalize w2.setRow O.heap.size (bU I)=w3 at*;clear Q;cases d with
   |false=>
    have QF:=ag (lI.eV K1 D Q3 yV (bU eY));have J:=an w3 w.heap.size aU (bU eY) 64 (0,0) yV;obtain rfl:=b5 rfl;clear Q3 J9;go_wp2_with (refine bJ (bU eY) yV bh rfl (du _) ?_);refine aJ (az rfl _ _ w.heap.size 64 (bU eY) (0,0) dr rfl J hdr fX bh) rfl ?_;show Yk w _ p ol av x all log (cW ol x (n:Int)) _;rw[Z];exact⟨U,log',rfl,QF.eqv G.2.2.1 G.2.1,G.1,G.2.2.2.1,G.2.2.2.2.1,G.2.2.2.2.2.1⟩
   |true=>?_
  case' inr.inr.inl=>
   have E:=ag (Nq wa ha hS hu e hl);rw[e]at dk;go_wp;refine hm E ?_;rintro y w2 ⟨X,U,log',rfl,e0,Q2,F,t1,t2,b2,b3,b4,b5,b6⟩;generalize eK:cW ol x (n:Int)=R at*;have⟨x',I,d,e1⟩:=R;simp only at e0 t1 t2 b4 b5 F;subst e0;have C8:=Q2.zero D ad;have Q:=Q2.zero (λk s=>mH (D k s) aa) aj;have Q3:=lI.eV KW (λk s=>mH (D k s) aa) Q2 Q (bU I);have J9:=an w2 O.heap.size aU (bU I) 64 (0,0) Q;have yV:(w2.setRow O.heap.size (bU I)).heap[w.heap.size]? =_:=(cN _ _ _ _ oQ).trans C8;have Z:=ag eK;have G:=xn F t1 t2 b2 b3 b4 b6;clear E Q2 C8 F t1 t2 b2 b3 b4 b6 dk ab e3 eK;go_upto_region 15 with(refine bJ (bU I) Q bh rfl (du _) ?_);generalize w2.setRow O.heap.size (bU I)=w3 at*;clear Q;cases d with
   |false=>
    have QF:=ag (lI.eV K1 D Q3 yV (bU eY));have J:=an w3 w.heap.size aU (bU eY) 64 (0,0) yV;obtain rfl:=b5 rfl;clear Q3 J9;go_wp2_with (refine bJ (bU eY) yV bh rfl (du _) ?_);refine aJ (az rfl _ _ w.heap.size 64 (bU eY) (0,0) dr rfl J hdr fX bh) rfl ?_;show Yk w _ p ol av x all log (cW ol x (n:Int)) _;rw[Z];exact⟨U,log',rfl,QF.eqv G.2.2.1 G.2.1,G.1,G.2.2.2.1,G.2.2.2.2.1,G.2.2.2.2.2.1⟩
   |true=>?_
  case' inr.inr.inr=>
   have⟨eK,F⟩:=hS.afJ hu e;have am:0<=k.at_:=by
    have h:=(hS.tk n k hu).rq q;unfold pG at h;simp[e]at h;exact h.2
   obtain⟨a,am⟩:∃a:Nat,k.at_=(a:Int):=⟨k.at_.toNat,oQ⟩
   rw[am]at ab eK;have E:=ag (Nn wa ha hS a oQ oQ);rw[e]at dk;generalize pR x (a:Int)=I at*;clear am;go_wp;refine b9 E ?_;intro w2 K2;have C8:=K2.at_ ad (λx=>x);have Q:=K2.at_ aj (λx=>x);have Q3:=lI.eV KW (λk s=>mH (D k s) aa) (lI.of (ha.aw K2) (K2.mono gM)) Q (bU I);have J9:=an w2 O.heap.size aU (bU I) 64 (0,0) Q;have yV:(w2.setRow O.heap.size (bU I)).heap[w.heap.size]? =_:=(cN _ _ _ _ oQ).trans C8;obtain⟨x',ao⟩:∃x',x'=aD x n iC:=⟨_,rfl⟩
   obtain⟨X,hX⟩:∃X,X=x:=⟨_,rfl⟩
   have G:=ag (show SI ol x' all log/\x'.bj=X.bj/\x'.ai=(if true then X.ai.set n iC else X.ai)/\all.length<=all.length+1/\log.size<=log.size+6000000/\x'.bj<=x.bj+1/\X.ai.length=x.ai.length by rw[ao,hX];exact⟨F,rfl,rfl,oQ,oQ,cT _,rfl⟩);rw[<-hX]at Q3;rw[<-ao]at eK;have Z:=ag eK;clear E K2 C8 F dk ab e3 eK ao hX;go_upto_region 15 with(refine bJ (bU I) Q bh rfl (du _) ?_);generalize w2.setRow O.heap.size (bU I)=w3 at*;clear Q
  all_goals
   have⟨av3,h3,n3,K3⟩:=Q3;have aO:n<X.ai.length:=by have:=G.2.2.2.2.2.2;omega
   have a2:(n:Int)<X.ai.length:=oQ;obtain⟨tX,aS⟩:∃t,X.ai[n]? =some t:=⟨_,au aO⟩
   have x3:w3.cell? _=some (slice (some ⟨p.gb,0,none⟩) X.ai.length X.ai.length):=h3.cell 3;have ap:=h3.JV;have a1:n*14+(jH ol iC).length<=(gG ol X.ai).toArray.size:=by rw[kL.Yi,mh];omega
   have h4:=h3.acC (t':=iC) aS 0 (jH ol iC) (aC _) (by rw[List.take_zero,kT,dA (by rw[mh,mh];exact aC _),iz]);have K4:=(Kp.refl (λk=>k=p.gb) w3).setRow (g:=p.gb) (λ_=>rfl) (putAt (gG ol X.ai).toArray (n*14+0) (jH ol iC));have Z0:=K4.at_ yV (by have:=D _ (.inr (.inl rfl));omega);have aI:=K4.at_ J9 (by have:=D _ (.inr (.inl rfl));omega);have Q4:lI O _ p ol av _ _ _:=⟨av3,h4,n3,K3.trans' K4 (λ_ _ e=>.inr (.inl e))⟩
   have QF:=ag ((lI.eV K1 D Q4 Z0 (bU I)).eqv G.2.2.1 G.2.1);clear h4 K4 Q4 h3 n3 K3;go_upto_region 18 with(refine jw rfl 236 (tmp 84) (tmp 83) rfl p.gb (n*14) (jH ol iC) rfl rfl 236 (gG ol X.ai).toArray ap pJ a1 (uH _ _) ?_);generalize w3.setRow p.gb (putAt (gG ol X.ai).toArray (n*14) (jH ol iC))=w4 at*;have J:=an w4 w.heap.size aU (bU I) 64 (0,0) Z0;clear x3 ap J9 yV;go_wp2_with (first|refine gV aI hdr fX bh ?_|refine bJ (bU I) Z0 bh rfl (du _) ?_);refine aJ (az rfl _ _ w.heap.size 64 (bU I) (0,0) dr rfl J hdr fX bh) rfl ?_;show Yk w _ p ol av x all log (cW ol x (n:Int)) _;rw[Z];exact⟨_,_,rfl,QF,G.1,G.2.2.2.1,G.2.2.2.2.1,G.2.2.2.2.2.1⟩
 have HE:=err 10 (by
  have Ev:ub x u=none:=by
   unfold ub;split
   ·rw[List.getElem?_eq_none_iff];omega
   rfl
  unfold cW;rw[Ev])
 clear h h1 hS err K1 KS;generalize Yk w=SQ at*;go_in;go_upto_region 1 with fail;generalize w.alloc (cells aU 64)=O at*;by_cases q:u<0
 ·go_wp2_with (refine bJ (bU eY) Y bh rfl (du _) ?_);refine aJ (az rfl _ _ w.heap.size 64 (bU eY) (0,0) dr rfl OD hdr fX bh) rfl ?_;exact HE
 have q2:(x.ai.length:Int)<=u:=oQ;go_wp2_with (refine bJ (bU eY) Y bh rfl (du _) ?_);refine aJ (az rfl _ _ w.heap.size 64 (bU eY) (0,0) dr rfl OD hdr fX bh) rfl ?_;exact HE
namespace Ch
theorem U7{ol}(h:(iK ol).1=true):(cR ol).2.2=0/\(cR ol).2.1=(iK ol).2.2/\(iK ol).2.1=bX ol.ah (cR ol).1:=by
 grind[CH,iK]
theorem U8{ol}(h:(iK ol).1=false):(cR ol).2.2=9:=by rw[CH,h];rfl
end Ch
theorem Xo ol n:madeCells nw (n*14)=(gG ol (List.replicate n iC)).toArray:=by
 rw[<-ws0 ol];have J:(jH ol iC).length=14:=rfl;have D:∀a∈List.replicate n iC,(jH ol a).length=14:=λa _=>rfl;have G:=tV (jH ol) 14 (List.replicate n iC) D;rw[List.length_replicate]at G;apply Array.ext_getElem?;intro i;unfold madeCells gG;have e1:((List.replicate n iC).flatMap (jH ol)).toArray[i]? =((List.replicate n iC).flatMap (jH ol))[i]?:=dy;rw[e1];by_cases hi:i<n*14
 ·have E:i/14<n:=oQ;have F:i % 14<14:=oQ;have I:i % 14<(jH ol iC).length:=oQ;have:=kg (jH ol) 14 (List.replicate n iC) (i/14) iC (i % 14) D (by rw[List.getElem?_replicate,aq E]) F;grind
 simp_all
def RnQ(w w':World)(t:ByteArray)(n:Int)(v:Value):Prop:=
 (pH t n≠0->v= pointer none)/\(pH t n=0->∃p av,v= pointer (some ⟨p.yb,0,none⟩)/\kL w' p (Ch.read t).2.2 (sR (Ch.read t).2.2 n.toNat) [(cR (Ch.read t).2.2).1] (cR (Ch.read t).2.2).2.1 av/\∀k,C3 p av k->w.heap.size<=k)/\Kp bA w w'
theorem U9 w t n:
 Calls prog 148 #[string t,int i64 n] w λy w'=>∃v,y=returned (tuple #[v,int i64 (pH t n)])/\RnQ w w' t n v:=by
 have⟨da,jx,dQ⟩:=kz;have⟨i0,hi0,hz0,hz1,hz2⟩:=cr ZY;have⟨ia,hia,hya,hyb,hyc⟩:=cr U1;have E:=ag (oE w t);have bad:∀{w':World},pH t n≠0->Kp bA w w'->Hid (RnQ w w' t n (pointer none)):=λh K=>ag ⟨λ_=>rfl,λe=>absurd e h,K⟩;have HU:=ag (show pH t n=if(Ch.read t).1 !=0 then(Ch.read t).1 else if n<1\/6<n then 10 else(cR (Ch.read t).2.2).2.2 from rfl);by_cases h0:(Ch.read t).1=0
 ·have HV:=ag (HU.trans (ax (by rw[(by rw[h0];rfl:((Ch.read t).1 !=0)=false)];simp)));rw[h0]at E;generalize aI:pH t n=NE at*;by_cases hc:n<1\/6<n
  ·have HW:=HV.trans (aq hc);subst HW;go_in;go_wp;refine hm E ?_;rintro y w1 ⟨v,rfl,Q⟩;have Y:=bad aV Q.2.2;obtain⟨cv,a0⟩:∃c,c=v:=⟨_,rfl⟩
   rcases hc with hc|hc
   ·go_wp2;go_ret2;exact⟨_,rfl,Y⟩
   have aO:¬n<1:=oQ;go_wp2;go_ret2;exact⟨_,rfl,Y⟩
  obtain⟨k,rfl⟩:∃k:Nat,n=(k:Int):=⟨n.toNat,oQ⟩
  have a1:¬(k:Int)<1:=oQ;have a2:¬(6:Int)<k:=oQ;have HW:=ag (HV.trans (ax hc));go_in;go_wp;refine hm E ?_;rintro y w1 ⟨v,rfl,Q⟩;obtain⟨cb,l,v,rfl,hF,hN,_,hT⟩:=Q.2.1 h0;have ad:=yK h0 hN hT;have EB:=ag (CI w1 w.heap.size cb l v _ hF ad);obtain⟨ol,am⟩:∃o,o=(Ch.read t).2.2:=⟨_,rfl⟩
  rw[<-am]at ad EB HW;generalize ap:iK ol=br at*;have⟨be,bs,ot⟩:=br;have aa:=ag ap;simp only at EB;go_wp21;refine b9 EB ?_;intro w3 K3;have Z:=ak w3 (cells cG 26);have ao:=an (w3.alloc (cells cG 26)) w3.heap.size cG (cM bs) 26 (0,0) Z;have K5:=K3.trans (rQ w3 (cells cG 26) (cM bs));have KT:=Q.2.2.trans K5;go_upto_region 7 with(refine bJ (cM bs) Z bF rfl (fK _) ?_);generalize (w3.alloc (cells cG 26)).setRow w3.heap.size (cM bs)=D at*;generalize w3.heap.size=sb at*;cases be with
  |false=>
   have e9:=HW.trans (U8 (by rw[aa]));subst e9;go_wp2;go_ret2;exact⟨_,rfl,(bad aV KT)⟩
  |true=>?_
  have⟨e1,e2,e3⟩:=U7 (ol:=ol) (by rw[aa]);rw[aa]at e2 e3;simp only at e2 e3;have e0:=HW.trans e1;subst e0;have aj:∀W:World,(Instr.makeSlice 232 (int i64 (k:Int)) (int i64 (k:Int))).run prog W= .ok (slice (some ⟨W.heap.size,0,none⟩) k k) (W.alloc (cells (gG ol (List.replicate k iC)).toArray 236)):=by
   intro W;have:=run_makeSlice (P:=prog) W 232 236 i0 (agg nw) underlying232 hi0 hz0 i64 i64 (k:Int) (k:Int) oQ (Int.le_refl _) (by rw[hz1];omega) (by rw[hz2];omega) oQ;rw[this,hz1];simp only[(oQ:((k:Int)).toNat=k)];rw[<-Xo ol k];rfl
  have Y:∀gb F:Nat,prog.built 234 [(0,pointer (some ⟨cb,0,none⟩)),(1,slice (some ⟨F,0,none⟩) 1 1),(2,string ot),(3,slice (some ⟨gb,0,none⟩) k k)]=some (KH ⟨0,gb,cb,w.heap.size,l,v⟩ k (slice (some ⟨F,0,none⟩) 1 1) ot 0):=λgb F=>by kernel_rfl
  have aS:∀gb F:Nat,(KH ⟨0,gb,cb,w.heap.size,l,v⟩ k (slice (some ⟨F,0,none⟩) 1 1) ot 0).size=5:=λ_ _=>rfl;have fin:∀(gb F:Nat) (O:World),O.heap[D.heap.size+2]? =some (cells (KH ⟨0,gb,cb,w.heap.size,l,v⟩ k (slice (some ⟨F,0,none⟩) 1 1) ot 0) 234 (0,0))->O.heap[gb]? =some (cells (gG ol (List.replicate k iC)).toArray 236 (0,0))->O.heap[F]? =some (cells (cM bs) 26 (0,0))->D.heap.size<=gb->D.heap.size<=F->Kp bA D O->Hid (∃u,Ending.returned (Value.tuple #[pointer (some ⟨D.heap.size+2,0,none⟩),int i64 0])=returned (tuple #[u,int i64 0])/\RnQ w O t (k:Int) u):=by
   intro gb F O hx hg hv l1 l2 K;refine ag ⟨_,rfl,λh=>absurd (ag aI) h,λ_=>⟨⟨D.heap.size+2,gb,cb,w.heap.size,l,v⟩,slice (some ⟨F,0,none⟩) 1 1,rfl,?_,?_⟩,KT.trans K⟩
   ·rw[<-(ag am)];refine⟨?_,?_,?_,(hF.aw K5).aw K,ad⟩
    ·rw[hx,e2];simp[KH,sR,lQ]
    ·refine⟨rfl,inr ⟨F,1,cM bs,rfl,aA _,hv,aC _,by unfold maxLen;omega,rfl,?_⟩⟩;rw[e3];rfl
    rw[hg];rfl
   have:=KT.size;rintro i (e|e|e)
   ·have e':i=D.heap.size+2:=e;omega
   ·have e':i=gb:=e;omega
   obtain rfl:F=i:=by simpa[Value.ownBlock]using e
   omega
  have An:Kp bA D D.drew:=(Kp.refl _ _).drewN 1;have X:D.drew.heap[sb]? =_:=ao;generalize (gG ol (List.replicate k iC)).toArray=I at*;have sA:_=some (cM bs).size:=bF;have sF:(cM bs).size=6:=rfl;generalize cM bs=G at*;go_upto_region 9 with fail;generalize ab:(λgb F=>KH ⟨0,gb,cb,w.heap.size,l,v⟩ k (slice (some ⟨F,0,none⟩) 1 1) ot 0)=J at*;replace Y:∀gb F:Nat,prog.built 234 [(0,pointer (some ⟨cb,0,none⟩)),(1,slice (some ⟨F,0,none⟩) 1 1),(2,string ot),(3,slice (some ⟨gb,0,none⟩) k k)]=some (J gb F):=by rw[<-ab];exact Y
  replace aS:∀gb F:Nat,(J gb F).size=5:=by rw[<-ab];exact aS
  replace fin:∀(gb F:Nat) (O:World),O.heap[D.heap.size+2]? =some (cells (J gb F) 234 (0,0))->O.heap[gb]? =some (cells I 236 (0,0))->O.heap[F]? =some (cells G 26 (0,0))->D.heap.size<=gb->D.heap.size<=F->Kp bA D O->Hid (∃u,Ending.returned (Value.tuple #[pointer (some ⟨D.heap.size+2,0,none⟩),int i64 0])=returned (tuple #[u,int i64 0])/\RnQ w O t (k:Int) u):=by rw[<-ab];exact fin
  refine aY (λw'=>w'.heap[sb]? =some (cells G 26 (0,0))) bZ ?_;refine bR 0 35 (pointer (some ⟨cb,0,none⟩)) X ?_;refine fh 1 36 (agg G) rfl (λw' hS=>dR 26 (tmp 9) rfl sb nQ 26 G (0,0) da hS jx dQ sA) X ?_;refine bR 3 38 (string ot) X ?_;refine bR 4 39 (int i64 k) X ?_;refine qZ 2 5 bZ rfl rfl rfl rfl ?_ ?_
  ·refine gA (some 37) rfl (slice (some ⟨D.heap.size,0,none⟩) 1 1) (D.drew.alloc (cells G 26)) (gw 67 (tmp 36) rfl 26 ia (agg cG) underlying67 hia hya oQ oQ G nQ (by rw[hyb,sF])) ?_;have J1:=An.alloc (cells G 26);have J2:=J1.alloc (cells I 236);have U:=ak (D.drew.alloc (cells G 26)) (cells I 236);rw[(dy:(D.drew.alloc (cells G 26)).heap.size=D.heap.size+1)]at U;refine⟨J1.at_ X (λx=>x),?_⟩;refine pf 5 ?_;refine gA (some 40) rfl (slice (some ⟨D.heap.size+1,0,none⟩) k k) ((D.drew.alloc (cells G 26)).alloc (cells I 236)) (by simp[execOp,Act.eval,Act.put,go_sem,aj]) ?_;have R:=J2.at_ X (λx=>x);refine⟨R,?_⟩;refine iU 6 41 (agg (J (D.heap.size+1) (D.heap.size))) rfl (λw' _=>eU 234 #[(0,.tmp 35),(1,.tmp 37),(2,.tmp 38),(3,.tmp 40)] rfl (J (D.heap.size+1) (D.heap.size)) [(0,pointer (some ⟨cb,0,none⟩)),(1,slice (some ⟨D.heap.size,0,none⟩) 1 1),(2,string ot),(3,slice (some ⟨D.heap.size+1,0,none⟩) k k)] rM (Y _ _)) R ?_;have J3:=J2.alloc (cells (J (D.heap.size+1) (D.heap.size)) 234);have Z:=ak ((D.drew.alloc (cells G 26)).alloc (cells I 236)) (cells (J (D.heap.size+1) (D.heap.size)) 234);rw[(dy:((D.drew.alloc (cells G 26)).alloc (cells I 236)).heap.size=D.heap.size+2)]at Z;have RJ:=J3.at_ X (λx=>x);refine pf 7 ?_;refine gA (some 42) rfl (pointer (some ⟨D.heap.size+2,0,none⟩)) (((D.drew.alloc (cells G 26)).alloc (cells I 236)).alloc (cells (J (D.heap.size+1) (D.heap.size)) 234)) Yq ?_;refine⟨RJ,?_⟩;refine iU 8 4 (pointer (some ⟨D.heap.size+2,0,none⟩)) rfl sr RJ ?_;refine iU 9 5 (int i64 0) rfl yX RJ ?_;refine bG bZ (bH ?_) _;simp only[Act.put,pA,pB,pC];have hv:(((D.drew.alloc (cells G 26)).alloc (cells I 236)).alloc (cells (J (D.heap.size+1) (D.heap.size)) 234)).heap[D.heap.size]? =_:=(cE _ _ _ (by simp<;>omega)).trans ((cE _ _ _ (by simp<;>omega)).trans (ak D.drew (cells G 26)));have HF:=fin (D.heap.size+1) (D.heap.size) _ Z ((cE _ _ _ (by simp<;>omega)).trans U) hv oQ oQ J3;go_wp2;go_ret2;have⟨u,hu,hq⟩:=HF;exact⟨u,hu,hq⟩
  refine gA (some 40) rfl (slice (some ⟨D.heap.size,0,none⟩) k k) (D.drew.alloc (cells I 236)) (by simp[execOp,Act.eval,go_sem,aj]) ?_;have J1:=An.alloc (cells I 236);have J2:=J1.alloc (cells G 26);have U:=ak (D.drew.alloc (cells I 236)) (cells G 26);have es:(D.drew.alloc (cells I 236)).heap.size=D.heap.size+1:=dy;rw[es]at U;refine⟨J1.at_ X (λx=>x),?_⟩;refine pf 2 ?_;refine gA (some 37) rfl (slice (some ⟨D.heap.size+1,0,none⟩) 1 1) ((D.drew.alloc (cells I 236)).alloc (cells G 26)) (by rw[<-es];exact gw 67 (tmp 36) rfl 26 ia (agg cG) underlying67 hia hya oQ oQ G rM (by rw[hyb,sF])) ?_;have R:=J2.at_ X (λx=>x);refine⟨R,?_⟩;refine iU 6 41 (agg (J (D.heap.size) (D.heap.size+1))) rfl (λw' _=>eU 234 #[(0,.tmp 35),(1,.tmp 37),(2,.tmp 38),(3,.tmp 40)] rfl (J (D.heap.size) (D.heap.size+1)) [(0,pointer (some ⟨cb,0,none⟩)),(1,slice (some ⟨D.heap.size+1,0,none⟩) 1 1),(2,string ot),(3,slice (some ⟨D.heap.size,0,none⟩) k k)] rM (Y _ _)) R ?_;have J3:=J2.alloc (cells (J (D.heap.size) (D.heap.size+1)) 234);have Z:=ak ((D.drew.alloc (cells I 236)).alloc (cells G 26)) (cells (J (D.heap.size) (D.heap.size+1)) 234);rw[(dy:((D.drew.alloc (cells I 236)).alloc (cells G 26)).heap.size=D.heap.size+2)]at Z;have RJ:=J3.at_ X (λx=>x);refine pf 7 ?_;refine gA (some 42) rfl (pointer (some ⟨D.heap.size+2,0,none⟩)) (((D.drew.alloc (cells I 236)).alloc (cells G 26)).alloc (cells (J (D.heap.size) (D.heap.size+1)) 234)) Yq ?_;refine⟨RJ,?_⟩;refine iU 8 4 (pointer (some ⟨D.heap.size+2,0,none⟩)) rfl sr RJ ?_;refine iU 9 5 (int i64 0) rfl yX RJ ?_;refine bG bZ (bH ?_) _;simp only[Act.put,pA,pB,pC];have hg:(((D.drew.alloc (cells I 236)).alloc (cells G 26)).alloc (cells (J (D.heap.size) (D.heap.size+1)) 234)).heap[D.heap.size]? =_:=(cE _ _ _ (by simp<;>omega)).trans ((cE _ _ _ (by simp<;>omega)).trans (ak D.drew (cells I 236)));have HF:=fin (D.heap.size) (D.heap.size+1) _ Z hg ((cE _ _ _ (by simp<;>omega)).trans U) oQ oQ J3;go_wp2;go_ret2;have⟨u,hu,hq⟩:=HF;exact⟨u,hu,hq⟩
 have HV:=HU.trans (aq (cX h0));have HN:=bw HV h0;generalize pH t n=NE at*;subst HV;go_in;go_wp;refine hm E ?_;rintro y w1 ⟨v,rfl,Q⟩;have Y:=bad (by exact HN.2) Q.2.2;go_wp2;go_ret2;exact⟨_,rfl,Y⟩
theorem uK w a:
 Calls prog 99 #[agg (cM a),agg (cM a)] w λx w'=>x=returned (bool true)/\Kp bA w w':=by
 have I:Kp bA w ((w.alloc (cells (cM a) 26)).alloc (cells (cM a) 26)):=((Kp.refl _ _).alloc _).alloc _;have D:((w.alloc (cells (cM a) 26)).alloc (cells (cM a) 26)).heap[w.heap.size]? =some (cells (cM a) 26):=by rw[cE _ _ _ dy];exact ak _ _
 have E:((w.alloc (cells (cM a) 26)).alloc (cells (cM a) 26)).heap[w.heap.size+1]? =some (cells (cM a) 26):=by
  have:=ak (w.alloc (cells (cM a) 26)) (cells (cM a) 26);simpa using this
 go_in;go_upto_region 1 with fail;generalize (w.alloc (cells (cM a) 26)).alloc (cells (cM a) 26)=G at*;generalize w.heap.size=F at*;have c0:G.cell? ⟨F,0,none⟩=some (string a.act):=dG D rfl;have d0:G.cell? ⟨F+1,0,none⟩=some (string a.act):=dG E rfl;have c1:G.cell? ⟨F,1,none⟩=some (string a.b_):=dG D rfl;have d1:G.cell? ⟨F+1,1,none⟩=some (string a.b_):=dG E rfl;have c2:G.cell? ⟨F,2,none⟩=some (string a.tm):=dG D rfl;have d2:G.cell? ⟨F+1,2,none⟩=some (string a.tm):=dG E rfl;have c3:G.cell? ⟨F,3,none⟩=some (int i64 a.x):=dG D rfl;have d3:G.cell? ⟨F+1,3,none⟩=some (int i64 a.x):=dG E rfl;have c4:G.cell? ⟨F,4,none⟩=some (int i64 a.y):=dG D rfl;have d4:G.cell? ⟨F+1,4,none⟩=some (int i64 a.y):=dG E rfl;have c5:G.cell? ⟨F,5,none⟩=some (int i64 a.z):=dG D rfl;have d5:G.cell? ⟨F+1,5,none⟩=some (int i64 a.z):=dG E rfl;exact iN I
theorem AU w o(hk:o.kind=4):
 Calls prog 65 #[agg (mr o)] w λx w'=>x=returned (bool true)/\Kp bA w w':=by
 have E:=ak w (cells (mr o) 81);have K1:=kG w (cells (mr o) 81);go_in;go_upto_region 1 with fail;generalize w.alloc (cells (mr o) 81)=X at*;generalize w.heap.size=U at*;have c0:X.cell? ⟨U,0,none⟩=some (int i64 4):=by rw[World.cell?,E,<-hk];rfl
 have c1:X.cell? ⟨U,1,none⟩=some (string o.t):=dG E rfl;have E1:=ag (LD X o.t);go_wp;refine b9 E1 ?_;intro F Z;have Q:=Z.at_ E (λx=>x);have aO:=fK (oG o.t).1;have I:(prog.info? 26).map (·.size)=some (cM (oG o.t).1).size:=bF;have aS:(cM (oG o.t).1).size=6:=rfl;have⟨da,jx,dQ⟩:=kz;rw[QL];have ES:=λW=>ag (uK W (oG o.t).1);have E2:=λW=>ag (MK W o.t);generalize tR:cM (oG o.t).1=D at*;generalize (oG o.t).2.1=so at*;generalize (oG o.t).2.2=se at*;have n2:=ak F (cells cG 26);have K3:=rQ F (cells cG 26) D;have r3:=an (F.alloc (cells cG 26)) F.heap.size cG D 26 (0,0) n2;have R:=K3.at_ Q (λx=>x);have HK:=ag ((K1.trans Z).trans K3);go_upto_region 8 with(refine bJ D n2 I aS.symm aO ?_);generalize (F.alloc (cells cG 26)).setRow F.heap.size D=w3 at*;generalize F.heap.size=b5 at*;have c1:w3.cell? ⟨U,1,none⟩=some (string o.t):=dG R rfl;have E3:=E2 w3;go_wp;refine b9 E3 ?_;intro G K4;have r4:=K4.at_ r3 (λx=>x);have n4:=ak G (cells cG 26);have K5:=rQ G (cells cG 26) D;have q5:=an (G.alloc (cells cG 26)) G.heap.size cG D 26 (0,0) n4;have r5:=K5.at_ r4 (λx=>x);have DL:=ag ((HK.trans K4).trans K5);go_upto_region 9 with(refine bJ D n4 I aS.symm aO ?_);generalize (G.alloc (cells cG 26)).setRow G.heap.size D=w5 at*;generalize G.heap.size=b8 at*;have E5:=ES w5;go_wp2_with (first|refine gV r5 jx dQ I ?_|refine gV q5 jx dQ I ?_);refine b9 E5 ?_;intro w6 K6;have J:=ag (DL.trans K6);have Y:=ag (oN w6 se);go_wp21;refine b9 Y ?_;intro w7 O;rw[O];go_wp21;refine b9 Y ?_;intro w7 O;rw[O];exact iN J
def G1(w:World)(v:Value)(l:List Nat):Prop:=∃E D,v= slice E l.length D/\∀(i n:Nat),l[i]? =some n->∃g,E=some ⟨g,0,none⟩/\w.cell? ⟨g,i,none⟩=some (int i64 n)
theorem G1.ofRow{w B v l}(h:w.ownsRow B 3 1 v l.length (l.map λk:Nat=>int i64 (k:Int))):G1 w v l:=by
 obtain⟨D,c,rfl⟩:=bp h;refine⟨D,c,rfl,λi n hn=>?_⟩;have E:=(aM.1 hn).1;have⟨g,c',hv,_⟩:=cO h oQ;simp only[aH]at hv;obtain⟨rfl,-,-⟩:=hv;exact⟨g,rfl,(bK h i oQ).trans (by rw[bD,hn];rfl)⟩
theorem G1.aB{w w' v l}(h:G1 w v l)(k:Kp bA w w'):G1 w' v l:=by
 have⟨ao,c,hv,hx⟩:=h;refine⟨ao,c,hv,λi n hn=>?_⟩;have⟨g,h1,h2⟩:=hx i n hn;exact⟨g,h1,k.bN h2⟩
theorem G2 w a b l(E:G1 w a l)(hb:G1 w b l)(hl:l.length<=1000):
 Calls prog 108 #[a,b] w λx w'=>x=returned (bool true)/\Kp bA w w':=by
 obtain⟨X,ac,rfl,E⟩:=E;obtain⟨Z,Y,rfl,hb⟩:=hb;have J:=ag E;have O:=ag hb;go_in;go_wp;go_loopw [5] (λi wr=>∃k:Nat,i= int i64 k/\k<=l.length/\Kp bA w wr) (λi _=>l.length-(intOf i).toNat)
 case atStart=>exact⟨0,rfl,aA _,Kp.refl _ _⟩
 case round=>
  obtain⟨k,rfl,hk,D⟩:=hrel;by_cases F:k<l.length
  ·have G:(k:Int)<l.length:=oQ;obtain⟨n,I⟩:∃n,l[k]? =some n:=⟨_,au F⟩
   obtain⟨g,rfl,Q⟩:=J k n I;obtain⟨g',rfl,R⟩:=O k n I;have c0:=D.bN Q;have d0:=D.bN R;go_upto_region 6 with fail;go_quiet (fail);go_wp2;exact⟨⟨k+1,eb,oQ,D.drewN _⟩,ew⟩
  have U:¬(k:Int)<l.length:=oQ;exact iN D
theorem DV w r:
 Calls prog 106 #[agg (bU r),agg (bU r)] w λx w'=>x=returned (bool true)/\Kp bA w w':=by
 have⟨da,jx,dQ⟩:=kz;have Y:Kp bA w ((w.alloc (cells (bU r) 64)).alloc (cells (bU r) 64)):=((Kp.refl _ _).alloc _).alloc _;have I:((w.alloc (cells (bU r) 64)).alloc (cells (bU r) 64)).heap[w.heap.size]? =some (cells (bU r) 64):=by rw[cE _ _ _ dy];exact ak _ _
 have J:((w.alloc (cells (bU r) 64)).alloc (cells (bU r) 64)).heap[w.heap.size+1]? =some (cells (bU r) 64):=by
  have:=ak (w.alloc (cells (bU r) 64)) (cells (bU r) 64);simpa using this
 have U:=ag (λW=>oN W r.err);have R:_=some (pD r.st).length:=bF;go_in;go_upto_region 1 with fail;generalize (w.alloc (cells (bU r) 64)).alloc (cells (bU r) 64)=Q at*;generalize w.heap.size=D at*;have eK:∀{b:Nat},Q.heap[b]? =some (cells (bU r) 64)->∀j v,(pD r.st)[j]? =some v->Q.cell? ⟨b,4+j,none⟩=some v:=λ {b} hb j v hj=>by
  rw[World.cell?,hb];have:j<6:=(aM.1 hj).1;rcases(by omega:j=0\/j=1\/j=2\/j=3\/j=4\/j=5)with rfl|rfl|rfl|rfl|rfl|rfl<;>exact hj
 have s1:=eK I;have s2:=eK J;have X:=ag (uK Q r.st);go_wp2_with (first|refine bS rfl 26 (tmp 6) rfl D 4 rfl (pD r.st) da s1 jx dQ R ?_|refine bS rfl 26 (tmp 8) rfl (D+1) 4 rfl (pD r.st) da s2 jx dQ R ?_);refine b9 X ?_;intro G O;have E:=O.at_ I (λx=>x);have F:=O.at_ J (λx=>x);have Z:=Y.trans O;have c0:G.cell? ⟨D,0,none⟩=some (int i64 r.err):=dG E rfl;have d0:G.cell? ⟨D+1,0,none⟩=some (int i64 r.err):=dG F rfl;have c1:G.cell? ⟨D,1,none⟩=some (int i64 r.mY):=dG E rfl;have d1:G.cell? ⟨D+1,1,none⟩=some (int i64 r.mY):=dG F rfl;have c2:G.cell? ⟨D,2,none⟩=some (int i64 r.idx):=dG E rfl;have d2:G.cell? ⟨D+1,2,none⟩=some (int i64 r.idx):=dG F rfl;have c3:G.cell? ⟨D,3,none⟩=some (int i64 r.next):=dG E rfl;have d3:G.cell? ⟨D+1,3,none⟩=some (int i64 r.next):=dG F rfl;have aa:G.cell? ⟨D,10,none⟩=some (string r.text):=dG E rfl;have d10:G.cell? ⟨D+1,10,none⟩=some (string r.text):=dG F rfl;go_upto_region 2 with fail;go_quiet ((go_at_call 93;exact j7 (fA U _)));exact iN (Z.drewN _)
def Hf(ss:List St):List Value:=ss.flatMap λs=>(ndA s).toList
theorem J_{ss:List St}{k}{s}(h:ss[k]? =some s):Hf (ss.take (k+1))=Hf (ss.take k)++[string (strOfNums [s.name]),int i64 s.kind,int i64 s.parent]:=by
 unfold Hf;rw[iA,h,qF];rfl
def TrQ(w w':World)(t:ByteArray)(u:Value):Prop:=((Ch.read t).1≠0->u= slice none 0 0)/\((Ch.read t).1=0->w'.ownsRow w.heap.size 111 3 u (Ch.read t).2.2.ah.length (Hf (Ch.read t).2.2.ah))/\Kp bA w w'
theorem Rz w t:
 Calls prog 94 #[string t] w λx w'=>∃u,x=returned (tuple #[u,int i64 (Ch.read t).1])/\TrQ w w' t u:=by
 have⟨i0,hi,hz0,hz1,hz2⟩:=cr CK;have E0:=ag (oE w t);go_in;go_wp;refine hm E0 ?_;rintro x F ⟨p,rfl,ad,U,Y⟩;cases q1:(Ch.read t).1 !=0 with
 |true=>
  have ab:(Ch.read t).1≠0:=cX q1;have HQ:=ag (show TrQ w F t (slice none 0 0)from⟨λ_=>rfl,λh=>absurd h ab,Y⟩);clear ad U E0 Y ab;generalize E:(Ch.read t).1=re;rw[E]at q1;have Yb:=ag E;clear E;generalize (Ch.read t).2.1=rp;go_wp2;go_ret2;exact⟨_,by rw[Yb];rfl,HQ⟩
 |false=>?_
 have h0:(Ch.read t).1=0:=cX q1;obtain⟨cb,l,v,rfl,hF,hN,aO,hT⟩:=U h0;have hR:=yK h0 hN hT;have a0:=hR.le;have am:Ch.ah l=(Ch.read t).2.2.ah:=hR.ah;obtain⟨ao,R,rfl⟩:=hF.2.1.len;have Q:=c_ hF am Y;have H0:=ag h0;have ap:=Y.size;clear ad U E0 hN aO hT hR hF am Y h0;generalize E:(Ch.read t).1=re;rw[E]at q1;clear E;generalize (Ch.read t).2.1=rp;go_wp21;go_loopw [7,8] (λfv kv wr=>∃k:Nat,kv= int i64 k/\k<=l.length/\Hid (wr.ownsRow F.heap.size 111 3 fv k (Hf ((Ch.ah l).take k)))/\Kp bA F wr) (λ_ kv _=>l.length-(intOf kv).toNat)
 case atStart=>exact⟨0,rfl,aA _,ag (cd _ _ _ _),Kp.refl _ _⟩
 case round=>
  obtain⟨k,rfl,hk,X,Z⟩:=hrel;have zd:=(Q.1.aw Z).cell;by_cases aa:k<l.length
  ·have I:(k:Int)<l.length:=oQ;obtain⟨x,hx⟩:∃x,l[k]? =some x:=⟨_,au aa⟩
   have zc:=Q.1.cell;have⟨g1,GB,hv,_,hcell,_⟩:=Q.1.2.1.form hx;simp only[aH]at hv;obtain⟨rfl,-,rfl⟩:=hv;have v0:F.cell? ⟨g1,k*7,none⟩=some (int .u8 x.n.name):=hcell 0 oQ;have v1:F.cell? ⟨g1,k*7+1,none⟩=some (int i64 x.n.kind):=hcell 1 oQ;have v2:F.cell? ⟨g1,k*7+2,none⟩=some (int i64 x.n.parent):=hcell 2 oQ;have aj:=J_ (ss:=Ch.ah l) (k:=k) (s:=x.n.st) (by unfold Ch.ah Ch.mk;rw[bD,bD,hx];rfl);have O:=lU (P:=prog) ((wr.alloc (cells #[int .u8 x.n.name] 5)).drew) 47 5 underlying47 underlying5 wr.heap.size 0 1 1 [x.n.name] rfl (by
    intro i hi;match i,hi with
    |0,_=>simp) 9 underlying9
   replace O:Sem.run prog (convert 47 9 (slice (some ⟨wr.heap.size,0,none⟩) 1 1)) (wr.drew.alloc (cells #[int .u8 x.n.name] 5))= .ok (string (strOfNums [x.n.name])) (wr.drew.alloc (cells #[int .u8 x.n.name] 5)):=O;have D:Kp bA F wr.drew:=Z.drew;have G:Kp bA F (wr.drew.alloc (cells #[int .u8 x.n.name] 5)):=D.alloc _;have J:Kp bA F ((wr.drew.alloc (cells #[int .u8 x.n.name] 5)).alloc (cells #[string (strOfNums [x.n.name]),int i64 x.n.kind,int i64 x.n.parent] 111)):=G.alloc _;have⟨g9,c9,w9,G_,o9,Vt,_⟩:=dJ (P:=prog) ((wr.drew.alloc (cells #[int .u8 x.n.name] 5)).alloc (cells #[string (strOfNums [x.n.name]),int i64 x.n.kind,int i64 x.n.parent] 111)) F.heap.size 107 107 111 i0 (agg #[string ⟨#[]⟩,int i64 0,int i64 0]) 3 32 underlying107 hi hz0 hz1 hz2 rfl aV u7 k (Hf ((Ch.ah l).take k)) (by exact(X.alloc _).alloc _) ⟨(wr.drew.alloc (cells #[int .u8 x.n.name] 5)).heap.size,0,none⟩ 1 1 [string (strOfNums [x.n.name]),int i64 x.n.kind,int i64 x.n.parent] rfl (by exact Bs _ _ _ _ _) (by intro u hu;simp at hu;rcases hu with rfl|rfl|rfl<;>rfl) aV wY oQ J.size;rw[show(wr.drew.alloc (cells #[int .u8 x.n.name] 5)).heap.size=wr.heap.size+1 by simp]at G_;have Kq:Kp bA F w9:=J.grown (by exact Vt) (λj hj aa=>by have:=(X.lt j hj).1;omega);have HZ:=ag (show w9.ownsRow F.heap.size 111 3 (slice (some ⟨g9,0,none⟩) (k+1) c9) (k+1) (Hf ((Ch.ah l).take (k+1)))by rw[aj];exact o9);clear aj o9 Vt X Z hcell hx;go_upto_region 8 with fail;refine aY (λw'=>Kp bA F w') bZ ?_;refine bR 0 27 (u7) D ?_;refine bR 1 28 (pointer (some ⟨cb,0,none⟩)) D ?_;refine bR 2 29 (pointer (some ⟨cb,0,none⟩)) D ?_;refine bR 3 30 (pointer (some ⟨cb,0,none⟩)) D ?_;refine fh 4 31 (slice (some ⟨g1,0,none⟩) l.length R) rfl (λw' hS=>by have:=hS.bN zc;simp[execOp,Act.eval,go_sem,this]) D ?_;refine bR 5 32 (int i64 (k:Int)) D ?_;refine fh 6 33 (pointer (some ⟨g1,k*7,none⟩)) rfl (λw' _=>by simp[execOp,Act.eval,go_sem,I]) D ?_;refine bR 7 34 (pointer (some ⟨g1,k*7,none⟩)) D ?_;refine fh 8 35 (int .u8 x.n.name) rfl (λw' hS=>by have:=hS.bN v0;simp[execOp,Act.eval,go_sem,this]) D ?_;refine bR 11 38 (pointer (some ⟨cb,0,none⟩)) D ?_;refine bR 12 39 (pointer (some ⟨cb,0,none⟩)) D ?_;refine bR 13 40 (pointer (some ⟨cb,0,none⟩)) D ?_;refine fh 14 41 (slice (some ⟨g1,0,none⟩) l.length R) rfl (λw' hS=>by have:=hS.bN zc;simp[execOp,Act.eval,go_sem,this]) D ?_;refine bR 15 42 (int i64 (k:Int)) D ?_;refine fh 16 43 (pointer (some ⟨g1,k*7,none⟩)) rfl (λw' _=>by simp[execOp,Act.eval,go_sem,I]) D ?_;refine bR 17 44 (pointer (some ⟨g1,k*7+1,none⟩)) D ?_;refine fh 18 45 (int i64 x.n.kind) rfl (λw' hS=>by have:=hS.bN v1;simp[execOp,Act.eval,go_sem,this]) D ?_;refine bR 19 46 (pointer (some ⟨cb,0,none⟩)) D ?_;refine bR 20 47 (pointer (some ⟨cb,0,none⟩)) D ?_;refine bR 21 48 (pointer (some ⟨cb,0,none⟩)) D ?_;refine fh 22 49 (slice (some ⟨g1,0,none⟩) l.length R) rfl (λw' hS=>by have:=hS.bN zc;simp[execOp,Act.eval,go_sem,this]) D ?_;refine bR 23 50 (int i64 (k:Int)) D ?_;refine fh 24 51 (pointer (some ⟨g1,k*7,none⟩)) rfl (λw' _=>by simp[execOp,Act.eval,go_sem,I]) D ?_;refine bR 25 52 (pointer (some ⟨g1,k*7+2,none⟩)) D ?_;refine fh 26 53 (int i64 x.n.parent) rfl (λw' hS=>by have:=hS.bN v2;simp[execOp,Act.eval,go_sem,this]) D ?_;refine pf 9 ?_;refine Kl (some 36) rfl (slice (some ⟨wr.heap.size,0,none⟩) 1 1) (wr.drew.alloc (cells #[int .u8 x.n.name] 5)) wX ?_;simp only[Act.put,pA,pB,pC];refine⟨G,?_⟩;refine pf 10 ?_;refine Kl (some 37) rfl (string (strOfNums [x.n.name])) (wr.drew.alloc (cells #[int .u8 x.n.name] 5)) (by simp[execOp,Act.eval,O]) ?_;simp only[Act.put,pA,pB,pC];refine⟨G,?_⟩;refine fh 27 54 (agg #[string (strOfNums [x.n.name]),int i64 x.n.kind,int i64 x.n.parent]) rfl (λw' _=>eU 111 _ rfl _ [(0,string (strOfNums [x.n.name])),(1,int i64 x.n.kind),(2,int i64 x.n.parent)] nQ (Uw _ _ _)) G ?_;refine pf 28 ?_;refine Kl (some 55) rfl (slice (some ⟨(wr.drew.alloc (cells #[int .u8 x.n.name] 5)).heap.size,0,none⟩) 1 1) ((wr.drew.alloc (cells #[int .u8 x.n.name] 5)).alloc (cells #[string (strOfNums [x.n.name]),int i64 x.n.kind,int i64 x.n.parent] 111)) wX ?_;simp only[Act.put,pA,pB,pC];refine⟨J,?_⟩;refine pf 29 ?_;refine Kl (some 56) rfl (slice (some ⟨g9,0,none⟩) (k+1) c9) w9 (by simp[execOp,resolve,invoke,builtin,Act.eval,G_]) ?_;simp only[Act.put,pA,pB,pC];refine⟨Kq,?_⟩;refine bR 30 7 (slice (some ⟨g9,0,none⟩) (k+1) c9) Kq ?_;refine bG bZ (bH ?_) _;clear D G J O G_ v0 v1 v2 zc zd;go_wp2;exact⟨⟨k+1,eb,oQ,HZ,Kq⟩,ew⟩
  have aS:¬(k:Int)<l.length:=oQ;obtain rfl:k=l.length:=oQ;have HQ:=ag (show TrQ w wr t u7 from⟨λh=>absurd H0 h,λ_=>by
   have:=X;rw[sX (by rw[Gx];exact aC _),Q.2.1]at this;rw[<-Q.2.1,Gx,Q.2.1];exact cH this ap,Q.2.2.trans Z⟩)
  have aI:Hid ((Ch.read t).1=0):=H0;clear X Z Q;go_wp2;go_ret2;exact⟨_,by rw[aI];rfl,HQ⟩
