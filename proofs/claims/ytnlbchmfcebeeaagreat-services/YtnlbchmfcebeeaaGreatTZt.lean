import Derived.Test.YtnlbchmfcebeeaaGreatTIc
set_option maxHeartbeats 12800000
set_option maxRecDepth 100000
namespace Go.Proofs.YtnlbchmfcebeeaaGreat
open Go.Proofs.Tryz Ch
open Go.RowKit
namespace Ch
structure SnF(ol:Ol)(x:Sv)(all:List Sd)(log:ByteArray)(u:Nat)(k:Tk)(s:Sd):Prop where
 FG:Good ol s
 lt:k.aw<k.events.size
 le:k.events.size<=4
 now:0<k.aw->k.now=s
 last:k.aw=0->eU all=s
 out:k.out.size<=500000000
 bad:(eu ol s (ag k.events k.aw)).1=false->b8 ol x (u:Int)=(k6 x u,{dT with err:=9,kZ:=(all.length:Int)-1,idx:=(k.aw:Int)},true,0)/\SI ol (k6 x u) all log
 go:(eu ol s (ag k.events k.aw)).1=true->k.aw+1<k.events.size->b8 ol x (u:Int)=(aA x u {k with aw:=k.aw+1,now:=(b_ ol s (ag k.events k.aw)).1,out:=k.out++(eu ol s (ag k.events k.aw)).2.2},dT,false,0)/\SI ol (aA x u {k with aw:=k.aw+1,now:=(b_ ol s (ag k.events k.aw)).1,out:=k.out++(eu ol s (ag k.events k.aw)).2.2}) all log
 fin:(eu ol s (ag k.events k.aw)).1=true->k.aw+1=k.events.size->b8 ol x (u:Int)=(kj (k6 x u) (b_ ol s (ag k.events k.aw)).1 (k.out++(eu ol s (ag k.events k.aw)).2.2),{dT with kZ:=(all.length:Int),idx:=(k.events.size:Int),text:=k.out++(eu ol s (ag k.events k.aw)).2.2},true,0)/\SI ol (kj (k6 x u) (b_ ol s (ag k.events k.aw)).1 (k.out++(eu ol s (ag k.events k.aw)).2.2)) (all++[(b_ ol s (ag k.events k.aw)).1]) (log++(k.out++(eu ol s (ag k.events k.aw)).2.2))
theorem SI.send{t:ByteArray}{ol:Ol}{x:Sv}{all:List Sd}{log:ByteArray}{u:Nat}{k:Tk}(h:SI ol x all log)(I:BJ t ol)(G:ol.Ok)(hu:x.ah[u]? =some k)(hk:k.kind=1)(O:k.drawn=true)(X:k.bR=x.turn)(Y:0<k.aw\/k.at_<0\/k.at_=(all.length:Int)-1):∃s,SnF ol x all log u k s:=by
 have D:=h.tk u k hu;obtain⟨s,o,J,F,Z⟩:=h.Yz I hu hk O X Y;have E:k.events.size<=4:=(tU (D.rq (by rw[hk];decide)) hk).2.1;have iG:=xt G _ _ _ J
 have ho:k.out=o:=by
  rcases jH k.aw with e|e
  ·rw[D.C8 e];grind[iO]
  have:=(D.wk e).2.2.2.2.2;simp_all
 have U:iO ol (eU all) k.events (k.aw+1)=if(b_ ol s (ag k.events k.aw)).2.2==0 then some ((b_ ol s (ag k.events k.aw)).1,o++(b_ ol s (ag k.events k.aw)).2.1)else none:=by
  grind[iO]
 have eD:∀{q:Bool},(eu ol s (ag k.events k.aw)).1=q->iO ol (eU all) k.events (k.aw+1)=if q then some ((b_ ol s (ag k.events k.aw)).1,k.out++(eu ol s (ag k.events k.aw)).2.2)else none:=by
  grind[qE,Fm]
 refine⟨s,tn I h.FI _ _ J,F,E,λe=>?_,λe=>?_,?_,λq=>?_,λq hn=>?_,λq hn=>?_⟩
 ·have:=(D.wk e).2.2.2.2.2
  simp_all
 ·grind[iO]
 ·grind
 ·simp_all
 ·grind
 grind
end Ch
theorem Kp.Uq{S:Nat->Prop}{w w':World}(k:Kp S w w'){b i:Nat}{v:Value}(h:w.cell? ⟨b,i,none⟩=some v)(D:¬S b):w'.cell? ⟨b,i,none⟩=some v:=by
 rw[<-h];exact jC (k.block b (nE w ⟨b,i,none⟩ h) D)
theorem zS(ol:Ol)(l:List Tk):eY ol l=(l.map (iE ol)).flatMap id:=by simp[eY,List.flatMap_map]
section
variable (w:World) {p:Rl} {ol:Ol} {x:Sv} {all:List Sd} {log:ByteArray} {av:Value}
theorem xv(h:jz w p ol x all log av)(G:SI ol x all log){u:Nat}{k:Tk}(hu:x.ah[u]? =some k)(hk:k.kind=1)(hd:k.drawn=false\/k.bR≠x.turn)(ht:x.aU<=1000000000000):
 Calls prog 153 #[.pointer (some ⟨p.yb,0,none⟩),.int .i64 u] w λy w'=>Ab w w' p ol av x all log u y:=by
 obtain⟨dr,Z,eJ⟩:=mz;have D:=h.low;have K1:Kp (λ_=>False) w (w.alloc (.cells aH 64)):=(Kp.refl _ _).alloc _;have J:=an w (.cells aH 64);have U:=h.au K1
 obtain⟨X,e,I,e1,e2,E⟩:∃X,b8 ol x (u:Int)=(X,dT,false,0)/\SI ol X all log/\X.aU<=x.aU+1/\X.ah.length=x.ah.length/\Hid (Calls prog 209 #[.pointer (some ⟨p.yb,0,none⟩),.int .i64 u] (w.alloc (.cells aH 64)) λy w'=>y= .returned (.bool false)/\j8 (w.alloc (.cells aH 64)) w' p ol av X all log):=by
  cases q:k.drawn with
  |false=>
   have hf:k.aw=0:=by
    rcases jH k.aw with e|e
    ·exact e
    have:=((G.tk u k hu).wk e).2.1;rw[q]at this;cases this
   obtain⟨e1,e2⟩:=G.Um hu (.inl hk) q;exact⟨_,e1,e2,aC _,by simp[nh,aA],af (zQ _ U hu (.inl hk) q hf ht)⟩
  |true=>?_
  have IW:k.bR≠x.turn:=by rcases hd with e|e;rw[q]at e;cases e;exact e
  refine⟨x,SI.waits hu (.inl hk) q IW,G,cJ _,rfl,af ((rD _ U G hu q).mono (λy w' hy=>⟨by rw[hy.1,e_ IW],j8.of (U.au hy.2) (hy.2.mono (λ_ _ x=>x.elim))⟩))⟩
 have HS:=af (ae e I);clear h U G e I
 go_enter func153,ntmps153
 go_upto_region 1 with(fail)
 generalize w.alloc (.cells aH 64)=w1 at*
 go_wp2_with fail
 refine hm E ?_;rintro y w2 ⟨rfl,Y⟩;have F:=Y.zero D J;have QF:=af (Y.dR K1 D F (bJ dT));have O:=ax w2 w.heap.size aH (bJ dT) 64 (0,0) F;clear E Y
 go_wp2_with (refine cj (bJ dT) F aQ rfl (cE _) ?_)
 refine oR O Z eJ aQ ?_;exact Ab.of HS.out.1 rfl QF.out HS.out.2 rfl rfl (by omega) (by omega) e1 (h7:=e2)
theorem FQ(h:jz w p ol x all log av)(hS:SI ol x all log){u:Nat}{k:Tk}(hu:x.ah[u]? =some k)(hk:k.kind=1)(hd:k.drawn=true)(IW:k.bR=x.turn)(hf:k.aw=0)(ha:0<=k.at_)(hv:k.at_≠(all.length:Int)-1)(hl:all.length<=100000000000):
 Calls prog 153 #[.pointer (some ⟨p.yb,0,none⟩),.int .i64 u] w λy w'=>Ab w w' p ol av x all log u y:=by
 obtain⟨dr,Z,eJ⟩:=mz;obtain⟨da,sZ,jY⟩:=sN;obtain⟨dw,aO,Dc⟩:=FK;have aa:=h.low;have h6:=hS.len;have a0:=(aJ.1 hu).1
 have ZR:(u:Int)<(x.ah.length:Int):=by omega
 have K1:Kp (λ_=>False) w (w.alloc (.cells aH 64)):=(Kp.refl _ _).alloc _;have ad:=an w (.cells aH 64);have h1:=h.au K1;have E:=af (rD _ h1 hS hu hd);rw[gz IW]at E
 have e4:jy k=k.aw+1:=by unfold jy;rw[ay (by omega),hd];rfl
 clear h
 go_enter func153,ntmps153
 go_upto_region 1 with(fail)
 generalize w.alloc (.cells aH 64)=w1 at*
 go_wp2_with fail
 refine hm E ?_;rintro y I ⟨rfl,K2⟩;have h2:=h1.au K2;have O:=K2.at_ ad (λx=>x);have KA:=K1.trans K2;have x3:I.cell? _=some (.slice (some ⟨p.gb,0,none⟩) x.ah.length x.ah.length):=h2.cell 3;have hc:=h2.zP hu;have D:=an I (.cells lj 236);have F:=ax (I.alloc (.cells lj 236)) I.heap.size lj (iE ol k).toArray 236 (0,0) D;have K3:Kp (λ_=>False) I ((I.alloc (.cells lj 236)).setRow I.heap.size (iE ol k).toArray):=((Kp.refl _ _).alloc _).setRow (λx=>by omega) _;have J:(iE ol k).toArray.all (λx=>x.oneCell')=_:=gN.2 (λu hu=>rC ol k u (by simpa using hu));have a1:=aR O;clear E K1 K2 h1 ad
 go_upto_region 5 with(first|refine cH rfl 236 (.tmp 25) rfl p.gb (u*14) rfl (iE ol k) dw hc aO Dc mM ?_|refine cj (iE ol k).toArray D mM rfl J ?_)
 have h3:=h2.au K3;have aj:=K3.at_ O (λx=>x);have KB:=KA.trans K3;clear hc D J K3 h2 x3 O KA;generalize (I.alloc (.cells lj 236)).setRow I.heap.size (iE ol k).toArray=G at*;generalize I.heap.size=nb at*;clear I w1
 have d4:G.cell? ⟨nb,4,none⟩=some (.int .i64 ((k.aw:Int)+1)):=by rw[World.cell?,F,<-show((jy k:Nat):Int)=(k.aw:Int)+1 by rw[e4];rfl];rfl
 have am:∀j v,(pO (qL ol k))[j]? =some v->G.cell? ⟨nb,7+j,none⟩=some v:=by
  intro j v hj;rw[jf F];have:j<6:=(aJ.1 hj).1
  rcases(by omega:j=0\/j=1\/j=2\/j=3\/j=4\/j=5)with rfl|rfl|rfl|rfl|rfl|rfl<;>exact hj
 have sL:_=some (pO (qL ol k)).length:=eC;have D:=an G (.cells ig 26);have U:=ax (G.alloc (.cells ig 26)) G.heap.size ig (dX (qL ol k)) 26 (0,0) D;have Y:Kp (λ_=>False) G ((G.alloc (.cells ig 26)).setRow G.heap.size (dX (qL ol k))):=((Kp.refl _ _).alloc _).setRow (λx=>by omega) _;simp only[Act.put]
 go_upto_region 7 with(first|refine cH rfl 26 (.tmp 30) rfl nb 7 rfl (pO (qL ol k)) da am sZ jY sL ?_|refine cj (dX (qL ol k)) D eC rfl (mU _) ?_)
 have h4:=h3.au Y;have aS:=Y.at_ aj (λx=>x);have aI:=Y.at_ F (λx=>x);have KC:=KB.trans Y;have a2:=aR F;clear D Y h3 aj am sL KB F d4;generalize (G.alloc (.cells ig 26)).setRow G.heap.size (dX (qL ol k))=w4 at*;generalize G.heap.size=fb at*;clear G
 have d3:w4.cell? ⟨nb,3,none⟩=some (.int .i64 k.at_):=by rw[World.cell?,aI];rfl
 have c1:_=some av:=h4.cell 1;simp only[Act.put];obtain⟨ao,cap,rfl⟩:=bn h4.row;have HS:=af (hS.um hu hk hd IW hf ha hv)
 have g1:((k.aw:Int)==0)=true:=by rw[hf];rfl
 have g2:(k.at_==(all.length:Int)-1)=false:=by simpa using hv
 have EB:=af (λn=>vQ (w4.drewN n) (h4.au ((Kp.refl _ _).drewN n)) 14 (by omega));have HX:=af (ae h4 KC);clear U hS hv
 go_upto_region 8 with(fail)
 go_quiet (fail)
 go_wp2_with fail
 refine(EB.out _).mono ?_;rintro y X ⟨rfl,K5⟩;have rX:=an X (.cells aH 64);have ap:=ax (X.alloc (.cells aH 64)) X.heap.size aH (bJ (xu all.length 14)) 64 (0,0) rX;have K6:Kp _ _ ((X.alloc (.cells aH 64)).setRow X.heap.size (bJ (xu all.length 14))):=(((Kp.refl (λ_=>False) w4).drewN _).trans K5).trans (((Kp.refl _ _).alloc _).setRow (λx=>by omega) _);have vV:=K6.at_ aS (λx=>x);clear EB K5 c1 d3
 go_upto_region 10 with(refine cj (bJ (xu all.length 14)) rX aQ rfl (cE _) ?_)
 generalize (X.alloc (.cells aH 64)).setRow X.heap.size (bJ (xu all.length 14))=w6 at*;have QF:=af (j8.dR HX.out.2 aa (j8.of (HX.out.1.au K6) (K6.mono (λ_ _ x=>x.elim))) vV (bJ (xu all.length 14)));have FP:=ax w6 w.heap.size aH (bJ (xu all.length 14)) 64 (0,0) vV
 go_wp2_with (first|refine jO ap Z eJ aQ ?_|refine cj (bJ (xu all.length 14)) vV aQ rfl (cE _) ?_)
 refine oR FP Z eJ aQ ?_;exact Ab.of HS.out.1 rfl QF.out HS.out.2 rfl rfl (by omega) (by omega) (cJ _)
theorem FR{t:ByteArray}(h:jz w p ol x all log av)(O:SI ol x all log)(hR:BJ t ol){u:Nat}{k:Tk}(hu:x.ah[u]? =some k)(hk:k.kind=1)(hd:k.drawn=true)(IW:k.bR=x.turn)(hv:0<k.aw\/k.at_<0\/k.at_=(all.length:Int)-1)(hl:all.length<=100000000000)(IT:log.size<=100000000000000000):
 Calls prog 153 #[.pointer (some ⟨p.yb,0,none⟩),.int .i64 u] w λy w'=>Ab w w' p ol av x all log u y:=by
 have aj:=h.rf;obtain⟨s,hs⟩:=O.send hR h.rf.ok hu hk hd IW hv;have cv:=O.pos
 have Gf:k.aw<=4:=by have:=hs.lt;have:=hs.le;omega
 obtain⟨dr,a5,eJ⟩:=mz;obtain⟨da,sZ,jY⟩:=sN;obtain⟨dw,ce,Dc⟩:=FK;have F:=h.low;have h6:=O.len;have ck:=(aJ.1 hu).1
 have ZR:(u:Int)<(x.ah.length:Int):=by omega
 have K1:Kp (λ_=>False) w (w.alloc (.cells aH 64)):=(Kp.refl _ _).alloc _;have bm:=an w (.cells aH 64);have h1:=h.au K1;have E:=af (rD _ h1 O hu hd);rw[gz IW]at E
 have e4:jy k=k.aw+1:=by unfold jy;rw[ay (by omega),hd];rfl
 clear h
 go_enter func153,ntmps153
 go_upto_region 1 with(fail)
 generalize w.alloc (.cells aH 64)=w1 at*
 go_wp2_with fail
 refine hm E ?_;rintro y w2 ⟨rfl,K2⟩;have h2:=h1.au K2;have a7:=K2.at_ bm (λx=>x);have KA:=K1.trans K2;have x3:w2.cell? _=some (.slice (some ⟨p.gb,0,none⟩) x.ah.length x.ah.length):=h2.cell 3;have hc:=h2.zP hu;have G:=an w2 (.cells lj 236);have Y:=ax (w2.alloc (.cells lj 236)) w2.heap.size lj (iE ol k).toArray 236 (0,0) G;have K3:Kp (λ_=>False) w2 ((w2.alloc (.cells lj 236)).setRow w2.heap.size (iE ol k).toArray):=((Kp.refl _ _).alloc _).setRow (λx=>by omega) _;have a0:(iE ol k).toArray.all (λx=>x.oneCell')=_:=gN.2 (λu hu=>rC ol k u (by simpa using hu));have cm:=aR a7;clear E K1 K2 h1 bm
 go_upto_region 5 with(first|refine cH rfl 236 (.tmp 25) rfl p.gb (u*14) rfl (iE ol k) dw hc ce Dc mM ?_|refine cj (iE ol k).toArray G mM rfl a0 ?_)
 have h3:=h2.au K3;have bo:=K3.at_ a7 (λx=>x);have KB:=KA.trans K3;clear hc G a0 K3 h2 x3 a7 KA;generalize (w2.alloc (.cells lj 236)).setRow w2.heap.size (iE ol k).toArray=w3 at*;generalize w2.heap.size=nb at*;clear w2 w1
 have d4:w3.cell? ⟨nb,4,none⟩=some (.int .i64 ((k.aw:Int)+1)):=by rw[World.cell?,Y,<-show((jy k:Nat):Int)=(k.aw:Int)+1 by rw[e4];rfl];rfl
 have bx:∀j v,(pO (qL ol k))[j]? =some v->w3.cell? ⟨nb,7+j,none⟩=some v:=by
  intro j v hj;rw[jf Y];have:j<6:=(aJ.1 hj).1
  rcases(by omega:j=0\/j=1\/j=2\/j=3\/j=4\/j=5)with rfl|rfl|rfl|rfl|rfl|rfl<;>exact hj
 have sL:_=some (pO (qL ol k)).length:=eC;have G:=an w3 (.cells ig 26);have U:=ax (w3.alloc (.cells ig 26)) w3.heap.size ig (dX (qL ol k)) 26 (0,0) G;have K4:Kp (λ_=>False) w3 ((w3.alloc (.cells ig 26)).setRow w3.heap.size (dX (qL ol k))):=((Kp.refl _ _).alloc _).setRow (λx=>by omega) _;simp only[Act.put]
 go_upto_region 7 with(first|refine cH rfl 26 (.tmp 30) rfl nb 7 rfl (pO (qL ol k)) da bx sZ jY sL ?_|refine cj (dX (qL ol k)) G eC rfl (mU _) ?_)
 have h4:=h3.au K4;have br:=K4.at_ bo (λx=>x);have a4:=K4.at_ Y (λx=>x);have KC:=KB.trans K4;have c8:=aR Y;clear G K4 h3 bo bx sL KB Y d4;generalize (w3.alloc (.cells ig 26)).setRow w3.heap.size (dX (qL ol k))=w4 at*;generalize w3.heap.size=fb at*;clear w3
 have d3:w4.cell? ⟨nb,3,none⟩=some (.int .i64 k.at_):=by rw[World.cell?,a4];rfl
 have c1:_=some av:=h4.cell 1;simp only[Act.put]
 obtain⟨s1,bt⟩:∃s,all[all.length-1]? =some s:=⟨_,ar (by omega)⟩
 have bk:eU all=s1:=by unfold eU;rw[lL,bt];rfl
 obtain⟨g,cap,rfl,xc⟩:=h4.IS bt;have cV:=F g (.inr (.inr rfl));have cw:=hs.le;have ca:=hs.lt;have HX:=af (ae h4 (ae KC (ae hs bk)));clear h4 KC O hs bk
 go_upto_if 33 with(fail)
 go_cut [33]from 34 to 64 (λ_ wx=>wx.heap[fb]? =some (.cells (dX (bV ol.ai s)) 26 (0,0))/\Kp (λk=>k=fb) w4 wx)
 case first=>
  by_cases q0:k.aw=0
  ·have cn:s1=s:=by rw[<-HX.out.2.2.2];exact HX.out.2.2.1.last q0
   subst cn
   have g1:((k.aw:Int)==0)=true:=by rw[q0];rfl
   have HV:=af hv;clear q0 hv
   go_upto_region 8 with(fail)
   go_cut [33,49]from 34 to 49 (λ_ v wx=>v= .bool false/\Kp (λ_=>False) w4 wx)
   case first=>
    by_cases qa:k.at_<0
    ·have ct:¬ 0<=k.at_:=by omega
     go_quiet (fail)
     go_wp2
     go_meet
     exact⟨rfl,(Kp.refl _ _).drewN _⟩
    have qb:(k.at_==(all.length:Int)-1)=true:=by
     have:=HX.out.2.2.1.last
     rcases HV.out with e|e|e
     ·simp at g1;omega
     ·omega
     simpa using e
    have ct:0<=k.at_:=by omega
    have HQ:=af qb
    go_quiet (fail)
    go_wp2
    go_meet
    exact⟨by first|rfl|exact gr Value.bool (by rw[bne,HQ.out];rfl),(Kp.refl _ _).drewN _⟩
   case rest=>
    obtain⟨rfl,Z⟩:=hcut;have YH:=Z.at_ U (λx=>x)
    have D:wc.drew.cell? ⟨p.yb,1,none⟩=some (.slice (some ⟨g,0,none⟩) all.length cap)/\(∀j u,(pO (bV ol.ai s1))[j]? =some u->wc.drew.cell? ⟨g,((all.length:Int)-1).toNat*6+j,none⟩=some u):=by
     refine⟨Z.bX c1,?_⟩;rw[show((all.length:Int)-1).toNat=all.length-1 by omega]
     exact λj u hj=>Z.bX (xc j u hj)
    have ub:(wc.drew.setRow fb (dX (bV ol.ai s1))).cell? ⟨p.yb,1,none⟩=some (.slice (some ⟨g,0,none⟩) all.length cap)/\(∀j u,(pO (bV ol.ai s1))[j]? =some u->(wc.drew.setRow fb (dX (bV ol.ai s1))).cell? ⟨g,((all.length:Int)-1).toNat*6+j,none⟩=some u):=
     have ad:∀{b i:Nat} {v:Value},b≠fb->wc.drew.cell? ⟨b,i,none⟩=some v->(wc.drew.setRow fb (dX (bV ol.ai s1))).cell? ⟨b,i,none⟩=some v:=λhb hv=>by rw[<-hv];exact jC (cG _ _ _ _ hb)
     ⟨ad (by have:=F _ (.inl rfl);omega) D.1,λj u hj=>ad (by omega) (D.2 j u hj)⟩
    have hw:IntKind.i64.wrap ((all.length:Int)-1)=(all.length:Int)-1:=by rw[nW];omega
    have b6:(1:Int)<=(all.length:Int):=by omega
    have Ya:¬(all.length:Int)<=(all.length:Int)-1:=by omega
    have sL:_=some (pO (bV ol.ai s1)).length:=eC;have HK:=af Z;clear Z
    go_upto_region 11 with(fail)
    refine bf (λw'=>w'.cell? ⟨p.yb,1,none⟩=some (.slice (some ⟨g,0,none⟩) all.length cap)/\(∀j u,(pO (bV ol.ai s1))[j]? =some u->w'.cell? ⟨g,((all.length:Int)-1).toNat*6+j,none⟩=some u)) (by kernel_rfl) ?_;refine bM 0 53 (.pointer (some ⟨p.yb,0,none⟩)) D ?_;refine bM 1 54 (.pointer (some ⟨p.yb,0,none⟩)) D ?_;refine bM 2 55 (.pointer (some ⟨p.yb,1,none⟩)) D ?_;refine eG 3 56 (.slice (some ⟨g,0,none⟩) all.length cap) rfl (λw' O=>by simp[execOp,Act.eval,go_sem,O.1]) D ?_;refine bM 4 57 (.pointer (some ⟨p.yb,0,none⟩)) D ?_;refine bM 5 58 (.pointer (some ⟨p.yb,0,none⟩)) D ?_;refine bM 6 59 (.pointer (some ⟨p.yb,1,none⟩)) D ?_;refine eG 7 60 (.slice (some ⟨g,0,none⟩) all.length cap) rfl (λw' O=>by simp[execOp,Act.eval,go_sem,O.1]) D ?_;refine bM 8 61 (.int .i64 all.length) D ?_;refine eG 9 62 (.int .i64 ((all.length:Int)-1)) rfl (λw' _=>by simp[execOp,Act.eval,go_sem,hw]) D ?_;refine eG 10 63 (.pointer (some ⟨g,((all.length:Int)-1).toNat*6,none⟩)) rfl (λw' _=>by simp[execOp,Act.eval,go_sem,b6,Ya]) D ?_;refine eG 11 64 (.agg (dX (bV ol.ai s1))) rfl (λw' O=>eo 26 (.tmp 63) rfl g (((all.length:Int)-1).toNat*6) rfl (pO (bV ol.ai s1)) da O.2 sZ jY sL) D ?_
    refine cK 12 (by kernel_rfl) rfl rfl 26 (.tmp 9) (.tmp 64) rfl rfl fb (dX (bV ol.ai s1)) (by simp[Act.eval]) (by simp[Act.eval]) 26 (dX (qL ol k)) YH eC rfl (mU _) ub ?_;refine bF (by kernel_rfl) (bG ?_) _;go_wp2
    go_meet
    exact⟨ax _ _ _ _ _ _ YH,(Kp.drew (HK.out.mono (S':=λk=>k=fb) (λ_ _ x=>x.elim))).setRow (λ_=>rfl) _⟩
  have g1:((k.aw:Int)==0)=false:=by simp;omega
  have HW:=af (show qL ol k=bV ol.ai s by unfold qL;rw[aq (by omega),HX.out.2.2.1.now (by omega)]);clear q0;go_wp2
  go_meet
  exact⟨by rw[<-HW.out];exact U,Kp.refl _ _⟩
 case rest=>
  obtain⟨YH,Z⟩:=hcut
  have cs:∀k,zO p (.slice (some ⟨g,0,none⟩) all.length cap) k->¬k=fb:=λk s e=>by have:=F k s;omega
  have h5:=HX.out.1.az Z cs (λi cur T hi hT e=>by subst e;rw[U]at hi;simp only[bq,dI]at hi;rw[<-hi.2.1]at hT;revert hT;unfold FM;decide)
  have KD:Kp (λ_=>False) w wc:=(HX.out.2.1.mono (S':=λk=>w.heap.size<=k) (λ_ _ x=>x.elim)).trans' Z (λi _ e=>by omega) |>.mono (λi hi x=>by omega)
  have V4:=Z.at_ a4 (by omega);have oW:=Z.at_ br (by omega);have SF:=af HX.out.2.2.1;have ao:=HX.out.2.2.1.FG
  obtain⟨c,hc⟩:∃c,c=ag k.events k.aw:=⟨_,rfl⟩
  obtain⟨on,XW⟩:=ao.wtr.tk (L:=Ch.mk p.l) (by have:=aj.ai;unfold Ch.ai at this;exact this) aj.kg aj.SC
  have EF:=λW K=>af (zA W p.B p.cb p.l p.v ol (bV ol.ai s) c s on (h5.au K).ch aj (ao.wtr.sm aj.kg) XW ao.inv ao.ok)
  have c0:wc.cell? _=some (.pointer (some ⟨p.cb,0,none⟩)):=h5.cell 0
  have d2:wc.cell? ⟨nb,2,none⟩=some (.string k.events):=by rw[World.cell?,V4];rfl
  have cg:(k.aw:Int)<(k.events.size:Int):=by omega
  have ci:((k.events[k.aw]'ca).toNat:Int)=c:=by rw[hc];simp[ag,ca]
  have HC:=af hc;have HY:=af (ae h5 KD);clear HX h5 KD XW ao Z c1 xc U a4 br aj hc;generalize wc=wq at*;clear wc;generalize T_:eu ol s c=fd at*;obtain⟨fe,fs,I⟩:=fd;have PB:=af T_;clear T_;simp only at EF
  go_upto_region 12 with(fail)
  go_cut [11,12,13]from 65 to 79 (λq e f wx=>∃qb,q= .pointer (some ⟨qb,0,none⟩)/\e= .string I/\f= .bool fe/\wx.heap[qb]? =some (.cells (dX fs) 26 (0,0))/\Kp (λ_=>False) wq wx)
  case first=>
   have D:Kp (λ_=>False) wq _:=(Kp.refl _ _).drew;refine bf (λw'=>Kp (λ_=>False) wq w') (by kernel_rfl) ?_;refine bM 0 66 (.pointer (some ⟨p.yb,0,none⟩)) D ?_;refine bM 1 67 (.pointer (some ⟨p.yb,0,none⟩)) D ?_;refine bM 2 68 (.pointer (some ⟨p.yb,0,none⟩)) D ?_;refine eG 3 69 (.pointer (some ⟨p.cb,0,none⟩)) rfl (λw' O=>by simp[execOp,Act.eval,go_sem,O.bX c0]) D ?_;refine eG 4 70 (.agg (dX (bV ol.ai s))) rfl (λw' O=>du 26 (.tmp 9) rfl fb (by simp[Act.eval]) 26 (dX (bV ol.ai s)) (0,0) da (O.at_ YH (λx=>x)) sZ jY eC) D ?_;refine bM 5 71 (.pointer (some ⟨nb,1,none⟩)) D ?_;refine bM 6 72 (.pointer (some ⟨nb,2,none⟩)) D ?_;refine eG 7 73 (.string k.events) rfl (λw' O=>by simp[execOp,Act.eval,go_sem,O.bX d2]) D ?_;refine bM 8 74 (.int .i64 k.aw) D ?_;refine eG 9 75 (.int .u8 c) rfl (λw' _=>by simp[execOp,Act.eval,go_sem,cg,ci]) D ?_;refine rh 10 15 (by kernel_rfl) rfl rfl rfl rfl ?_ ?_
   ·refine dW (some 76) rfl 146 #[.pointer (some ⟨p.cb,0,none⟩),.agg (dX (bV ol.ai s)),.int .u8 c] (by simp[execOp,Act.eval,go_sem]) _ (λw'=>Kp (λ_=>False) wq.drew w') (EF wq.drew D).out ?_
    intro w5 Z;have J:=D.trans Z;have xI:=J.alloc (.cells ig 26);have G:=an w5 (.cells ig 26);have ub:=xI.setRow (g:=w5.heap.size) (λx=>by have:=J.size;omega) (dX fs);refine⟨J,?_⟩;simp only[Act.put,pA,pB,pC];refine bM 11 65 (.tuple #[.agg (dX fs),.string I,.bool fe]) J ?_;refine bM 12 77 (.agg (dX fs)) J ?_;refine bM 13 78 (.string I) J ?_;refine bM 14 79 (.bool fe) J ?_;refine oX 15 ?_;refine gI (some 11) rfl (.pointer (some ⟨w5.heap.size,0,none⟩)) (w5.alloc (.cells ig 26)) (by simp[execOp,go_sem]) ?_;simp only[Act.put,pA,pB,pC];refine⟨xI,?_⟩;refine cK 16 (by kernel_rfl) rfl rfl 26 (.tmp 11) (.tmp 77) rfl rfl w5.heap.size (dX fs) (by simp[Act.eval]) (by simp[Act.eval]) 26 ig G eC rfl (mU _) ub ?_;refine bM 17 12 (.string I) ub ?_;refine bM 18 13 (.bool fe) ub ?_;refine bF (by kernel_rfl) (bG ?_) _;go_wp2
    go_meet
    exact⟨w5.heap.size,rfl,rfl,rfl,ax _ _ _ _ _ _ G,ub⟩
   refine gI (some 11) rfl (.pointer (some ⟨wq.heap.size,0,none⟩)) (wq.drew.alloc (.cells ig 26)) (by simp[execOp,go_sem]) ?_;simp only[Act.put,pA,pB,pC];have G:=an wq.drew (.cells ig 26);have K_:=D.alloc (.cells ig 26);refine⟨K_,?_⟩;refine oX 10 ?_;refine dW (some 76) rfl 146 #[.pointer (some ⟨p.cb,0,none⟩),.agg (dX (bV ol.ai s)),.int .u8 c] (by simp[execOp,Act.eval,go_sem]) _ (λw'=>Kp (λ_=>False) (wq.drew.alloc (.cells ig 26)) w') (EF _ K_).out ?_;intro w5 Z;have J:=K_.trans Z;have lH:=Z.at_ (k:=wq.heap.size) (by exact G) (λx=>x);have ub:=J.setRow (g:=wq.heap.size) (λx=>by omega) (dX fs);refine⟨J,?_⟩;simp only[Act.put,pA,pB,pC];refine bM 11 65 (.tuple #[.agg (dX fs),.string I,.bool fe]) J ?_;refine bM 12 77 (.agg (dX fs)) J ?_;refine bM 13 78 (.string I) J ?_;refine bM 14 79 (.bool fe) J ?_;refine cK 16 (by kernel_rfl) rfl rfl 26 (.tmp 11) (.tmp 77) rfl rfl wq.heap.size (dX fs) (by simp[Act.eval]) (by simp[Act.eval]) 26 ig lH eC rfl (mU _) ub ?_;refine bM 17 12 (.string I) ub ?_;refine bM 18 13 (.bool fe) ub ?_;refine bF (by kernel_rfl) (bG ?_) _;go_wp2
   go_meet
   exact⟨wq.heap.size,rfl,rfl,rfl,ax _ _ _ _ _ _ lH,ub⟩
  case rest=>
   obtain⟨qb,rfl,rfl,rfl,ZS,K6⟩:=hcut;have h6:=HY.out.1.au K6;have KE:=HY.out.2.trans K6;have vV:=K6.at_ oW (λx=>x);have pP:=K6.at_ V4 (λx=>x);have c1:wc.cell? _=some (.slice (some ⟨g,0,none⟩) all.length cap):=h6.cell 1
   have bc:wc.cell? ⟨nb,2,none⟩=some (.string k.events):=by rw[World.cell?,pP];rfl
   have d13:wc.cell? ⟨nb,13,none⟩=some (.string k.out):=by rw[World.cell?,pP];rfl
   have c9:=SF.out.out
   have dc:I.size<=117000000:=by
    cases q:fe with
    |true=>
     have:=qE (ol:=ol) (s:=s) (ev:=c) (by rw[PB.out,q]);rw[PB.out]at this;have e:_=I:=this.2.1;rw[<-e];exact kL h6.rf.ok s c
    |false=>?_
    have:=PB.out;unfold eu at this
    split at this
    ·simp only[l9]at this;rw[q]at this;cases this.1
    simp only[l9]at this;rw[<-this.2.2];exact aG _
   have X:=af (ae h6 KE);clear K6 HY h6 KE c0 d2 EF oW V4 YH
   cases fe with
   |false=>
    have HS:=af (SF.out.bad (by rw[<-HC.out,PB.out]));have QF:=af (j8.dR X.out.2 F (j8.of X.out.1 (Kp.refl _ _)) vV (bJ {dT with err:=9,kZ:=(all.length:Int)-1,idx:=(k.aw:Int)}));have FP:=ax wc w.heap.size aH (bJ {dT with err:=9,kZ:=(all.length:Int)-1,idx:=(k.aw:Int)}) 64 (0,0) vV;clear SF PB HC X
    go_wp2_with (refine cj (bJ {dT with err:=9,kZ:=(all.length:Int)-1,idx:=(k.aw:Int)}) vV aQ rfl (cE _) ?_)
    refine oR FP a5 eJ aQ ?_;exact Ab.of HS.out.1 rfl QF.out HS.out.2 rfl rfl (by omega) (by omega) (cJ _)
   |true=>?_
   have eD:=qE (ol:=ol) (s:=s) (ev:=c) (by rw[PB.out])
   have b4:fs=bV ol.ai (b_ ol s c).1:=by rw[<-eD.2.2,PB.out]
   generalize ZN:(b_ ol s c).1=s' at*;subst b4;have HM:=af (show(b_ ol s (ag k.events k.aw)).1=s' by rw[<-HC.out];exact ZN);have HT:=af (show(eu ol s (ag k.events k.aw))=(true,bV ol.ai s',I)by rw[<-HC.out];exact PB.out);clear eD ZN PB HC
   by_cases hn:k.aw+1=k.events.size
   ·have HS:=af (SF.out.fin (by rw[HT.out]) hn)
    rw[HT.out,HM.out]at HS
    have g1:((k.aw:Int)==(k.events.size:Int)-1)=true:=by simp;omega
    have EJ:=af (zR wc X.out.1 s' (k.out++I) (by omega) (by omega) (by rw[iJ];omega));have HN:=af hn;clear SF HT HM hn
    go_wp2_with (refine jO ZS sZ jY (PR _) ?_)
    refine hm EJ ?_;rintro y w7 ⟨rfl,Q7⟩;have VW:=Q7.zero F vV;have Ui:=Q7.zero (λk s=>l_ (F k s) cm) pP;obtain⟨bb,h7,n7,K7⟩:=Q7;have QF:=af (j8.dR X.out.2 F ⟨bb,h7.au (Kp.refl _ _).drew,n7,K7.drew⟩ VW (bJ {dT with kZ:=(all.length:Int),idx:=(k.events.size:Int),text:=k.out++I}));have Jq:=ax w7.drew w.heap.size aH (bJ {dT with kZ:=(all.length:Int),idx:=(k.events.size:Int),text:=k.out++I}) 64 (0,0) VW;have y1:w7.drew.cell? _=some bb:=h7.cell 1;obtain⟨ZT,Tf,rfl⟩:=bn h7.row;rw[gu,List.length_singleton]at y1
    have ap:w7.drew.cell? ⟨nb,13,none⟩=some (.string k.out):=by show w7.cell? _=_;rw[World.cell?,Ui];rfl
    have ad:∀{b i:Nat} {v:Value},b≠w.heap.size->w7.drew.cell? ⟨b,i,none⟩=some v->(w7.drew.setRow w.heap.size (bJ {dT with kZ:=(all.length:Int),idx:=(k.events.size:Int),text:=k.out++I})).cell? ⟨b,i,none⟩=some v:=λhb hv=>by rw[<-hv];exact jC (cG _ _ _ _ hb)
    have D:w7.drew.cell? ⟨p.yb,1,none⟩=some (.slice ZT (all.length+1) Tf)/\w7.drew.cell? ⟨nb,13,none⟩=some (.string k.out):=⟨y1,ap⟩
    have ub:(w7.drew.setRow w.heap.size (bJ {dT with kZ:=(all.length:Int),idx:=(k.events.size:Int),text:=k.out++I})).cell? ⟨p.yb,1,none⟩=some (.slice ZT (all.length+1) Tf)/\(w7.drew.setRow w.heap.size (bJ {dT with kZ:=(all.length:Int),idx:=(k.events.size:Int),text:=k.out++I})).cell? ⟨nb,13,none⟩=some (.string k.out):=⟨ad (by have:=F _ (.inl rfl);omega) y1,ad (by omega) ap⟩
    have a2:k.out.size+I.size<=9223372036854775807:=by omega
    have cq:IntKind.i64.wrap (all.length:Int)=(all.length:Int):=by rw[nW];omega
    have cr:IntKind.i64.wrap ((k.aw:Int)+1)=(k.aw:Int)+1:=by rw[nW];omega
    clear EJ vV pP ZS h7 K7 n7 X c1 d13 bc ad Ui y1 ap
    go_upto_region 17 with(fail)
    refine bf (λw'=>w'.cell? ⟨p.yb,1,none⟩=some (.slice ZT (all.length+1) Tf)/\w'.cell? ⟨nb,13,none⟩=some (.string k.out)) (by kernel_rfl) ?_;refine bM 0 104 (.pointer (some ⟨p.yb,0,none⟩)) D ?_;refine bM 1 105 (.pointer (some ⟨p.yb,0,none⟩)) D ?_;refine bM 2 106 (.pointer (some ⟨p.yb,1,none⟩)) D ?_;refine eG 3 107 (.slice ZT (all.length+1) Tf) rfl (λw' O=>by simp[execOp,Act.eval,go_sem,O.1]) D ?_;refine bM 4 108 (.int .i64 ((all.length+1:Nat):Int)) D ?_;refine eG 5 109 (.int .i64 all.length) rfl (λw' _=>by simp[execOp,Act.eval,go_sem,cq]) D ?_;refine bM 6 110 (.int .i64 k.aw) D ?_;refine eG 7 111 (.int .i64 ((k.aw:Int)+1)) rfl (λw' _=>by simp[execOp,Act.eval,go_sem,cr]) D ?_;refine bM 8 112 (.pointer (some ⟨nb,13,none⟩)) D ?_;refine eG 9 113 (.string k.out) rfl (λw' O=>by simp[execOp,Act.eval,go_sem,O.2]) D ?_;refine bM 10 114 (.string I) D ?_;refine eG 11 115 (.string (k.out++I)) rfl (λw' _=>by simp[execOp,Act.eval,go_sem,a2]) D ?_
    refine eG 12 116 (.agg (bJ {dT with kZ:=(all.length:Int),idx:=(k.events.size:Int),text:=k.out++I})) rfl (λw' _=>fA 64 #[(1,.tmp 109),(2,.tmp 111),(5,.tmp 115)] rfl (bJ {dT with kZ:=(all.length:Int),idx:=(k.events.size:Int),text:=k.out++I}) [(1,.int .i64 all.length),(2,.int .i64 ((k.aw:Int)+1)),(5,.string (k.out++I))] (by simp[Act.eval]) (by rw[<-HN.out];kernel_rfl)) D ?_;refine cK 13 (by kernel_rfl) rfl rfl 64 (.tmp 4) (.tmp 116) rfl rfl w.heap.size (bJ {dT with kZ:=(all.length:Int),idx:=(k.events.size:Int),text:=k.out++I}) (by simp[Act.eval]) (by simp[Act.eval]) 64 aH VW aQ rfl (cE _) ub ?_;refine bM 14 5 (.bool true) ub ?_;refine bF (by kernel_rfl) (bG ?_) _
    go_wp2_with fail
    refine oR Jq a5 eJ aQ ?_;exact Ab.of HS.out.1 rfl QF.out HS.out.2 rfl rfl (by simp) (by rw[iJ,iJ];omega) (cJ _)
   have HS:=af (SF.out.go (by rw[HT.out]) (by omega));rw[HT.out,HM.out]at HS
   have g1:((k.aw:Int)==(k.events.size:Int)-1)=false:=by simp;omega
   clear SF HT HM hn
   have hL:∀a∈x.ah.map (iE ol),(id a).length=14:=by
    intro a ha;obtain⟨t,_,rfl⟩:=ib.1 ha;exact kI _ _
   have b7:(x.ah.map (iE ol))[u]? =some (iE ol k):=by rw[bw,hu];rfl
   have x3:wc.cell? _=some (.slice (some ⟨p.gb,0,none⟩) x.ah.length x.ah.length):=X.out.1.cell 3;have z4:wc.cell? ⟨p.gb,u*14+4,none⟩=some (.int .i64 ((k.aw:Int)+1)):=(X.out.1.ew hu (by omega)).trans (by show some (Value.int .i64 (jy k:Nat))=_;rw[e4];rfl);have f4:=X.out.1.pf (u*14+4)
   obtain⟨b1,am⟩:∃b,b=(iE ol k).set 4 (.int .i64 ((k.aw:Int)+1+1)):=⟨_,rfl⟩
   obtain⟨L1,aa⟩:∃l,l=(x.ah.map (iE ol)).set u b1:=⟨_,rfl⟩
   have YI:u<(x.ah.map (iE ol)).length:=by simpa using ck
   have a1:∀{l:List (List Value)} {b:List Value},(∀a∈l,(id a).length=14)->b.length=14->∀a∈l.set u b,(id a).length=14:=λh hb a ha=>by
    rcases pX ha with ha|rfl
    ·exact h a ha
    exact hb
   have VT:∀a∈L1,(id a).length=14:=by rw[aa];exact a1 hL (by rw[am];rfl)
   have b5:L1[u]? =some b1:=by rw[aa,jF YI]
   have a6:(wc.setCell ⟨p.gb,u*14+4,none⟩ (.int .i64 ((k.aw:Int)+1+1))).heap[p.gb]? =some (.cells (L1.flatMap id).toArray 236 (0,0)):=by
    rw[ak _ X.out.1.FJ,zS,List.setIfInBounds_toArray,qG id 14 _ u (iE ol k) b1 4 (.int .i64 ((k.aw:Int)+1+1)) hL b7 (by omega) am,aa]
   obtain⟨b2,aO⟩:∃b,b=b1.take 7++pO (bV ol.ai s')++b1.drop 13:=⟨_,rfl⟩
   obtain⟨L2,aI⟩:∃l,l=L1.set u b2:=⟨_,rfl⟩
   have cc:b2.length=14:=by rw[aO,am];rfl
   have YJ:∀a∈L2,(id a).length=14:=by rw[aI];exact a1 VT cc
   have cp:u<L1.length:=by rw[aa,jb];exact YI
   have YK:L2[u]? =some b2:=by rw[aI,jF cp]
   have YL:Kp _ _ (wc.setCell ⟨p.gb,u*14+4,none⟩ (.int .i64 ((k.aw:Int)+1+1))):=(Kp.refl (λi=>i=p.gb) wc).setCell (p:=⟨p.gb,u*14+4,none⟩) (λ_=>rfl) _
   have iG:(L1.flatMap id).length=x.ah.length*14:=by rw[qF id 14 L1 VT,aa,jb,gx]
   have bi:qb≠p.gb:=by
    intro e;have h:=X.out.1.FJ;rw[<-e,ZS]at h;simp only[bq,dI]at h;exact absurd h.2.1 (by decide)
   have a9:=YL.Uq x3 X.out.1.ne.1;have WX:=YL.at_ ZS bi;have b0:=YL.at_ pP (by have:=F _ (.inr (.inl rfl));omega)
   go_upto_region 19 with(fail)
   clear x3 z4 f4 d13 c1 bc;generalize wc.setCell ⟨p.gb,u*14+4,none⟩ (.int .i64 ((k.aw:Int)+1+1))=wa at*
   have D:wa.drew.cell? ⟨p.yb,3,none⟩=some (.slice (some ⟨p.gb,0,none⟩) x.ah.length x.ah.length)/\wa.drew.heap[qb]? =some (.cells (dX (bV ol.ai s')) 26 (0,0)):=⟨a9,WX⟩
   refine bf (λw'=>w'.cell? ⟨p.yb,3,none⟩=some (.slice (some ⟨p.gb,0,none⟩) x.ah.length x.ah.length)/\w'.heap[qb]? =some (.cells (dX (bV ol.ai s')) 26 (0,0))) (by kernel_rfl) ?_;refine bM 0 128 (.pointer (some ⟨p.yb,0,none⟩)) D ?_;refine bM 1 129 (.pointer (some ⟨p.yb,0,none⟩)) D ?_;refine bM 2 130 (.pointer (some ⟨p.yb,3,none⟩)) D ?_;refine eG 3 131 (.slice (some ⟨p.gb,0,none⟩) x.ah.length x.ah.length) rfl (λw' O=>by simp[execOp,Act.eval,go_sem,O.1]) D ?_;refine bM 4 132 (.int .i64 u) D ?_;refine eG 5 133 (.agg (dX (bV ol.ai s'))) rfl (λw' O=>du 26 (.tmp 11) rfl qb (by simp[Act.eval]) 26 (dX (bV ol.ai s')) (0,0) da O.2 sZ jY eC) D ?_;refine eG 6 134 (.pointer (some ⟨p.gb,u*14,none⟩)) rfl (λw' _=>by simp[execOp,Act.eval,go_sem,ZR]) D ?_;refine bM 7 135 (.pointer (some ⟨p.gb,u*14+7,none⟩)) D ?_
   have aS:(wa.drew.setRow p.gb (putAt (L1.flatMap id).toArray (u*14+7) (pO (bV ol.ai s')))).heap[p.gb]? =some (.cells (L2.flatMap id).toArray 236 (0,0)):=by
    rw[ax wa.drew p.gb _ _ 236 (0,0) a6,wR id 14 L1 u b1 b2 7 (pO (bV ol.ai s')) VT b5 (show 7+6<=14 by decide) aO,aI]
   have YM:Kp _ _ (wa.drew.setRow p.gb (putAt (L1.flatMap id).toArray (u*14+7) (pO (bV ol.ai s')))):=(Kp.refl (λi=>i=p.gb) wa).drew.setRow (λ_=>rfl) _
   have a3:(wa.drew.setRow p.gb (putAt (L1.flatMap id).toArray (u*14+7) (pO (bV ol.ai s')))).cell? ⟨p.yb,3,none⟩=some (.slice (some ⟨p.gb,0,none⟩) x.ah.length x.ah.length)/\(wa.drew.setRow p.gb (putAt (L1.flatMap id).toArray (u*14+7) (pO (bV ol.ai s')))).heap[qb]? =some (.cells (dX (bV ol.ai s')) 26 (0,0)):=⟨YM.Uq a9 X.out.1.ne.1,YM.at_ WX bi⟩
   refine vn 8 (by kernel_rfl) rfl rfl (lY 26 (.tmp 135) (.tmp 133) rfl p.gb (u*14+7) (pO (bV ol.ai s')) rfl rfl 236 (L1.flatMap id).toArray a6 eC (by rw[List.size_toArray,iG];show u*14+7+6<=_;omega) (by intro u hu;simp[pO]at hu;rcases hu with rfl|rfl|rfl|rfl|rfl|rfl<;>rfl) ⟨a3,?_⟩);refine bF (by kernel_rfl) (bG ?_) _;simp only[Act.put];have b3:=YM.at_ b0 (by have:=F _ (.inr (.inl rfl));omega);have ba:=YL.trans YM;clear D a6 YL YM a9 WX b0;generalize wa.drew.setRow p.gb (putAt (L1.flatMap id).toArray (u*14+7) (pO (bV ol.ai s')))=wb at*;have y3:=a3.1
   have ap:wb.cell? ⟨nb,13,none⟩=some (.string k.out):=by rw[World.cell?,b3];rfl
   have cu:wb.cell? ⟨p.gb,u*14+13,none⟩=some (.string k.out):=by
    rw[jf aS,jh id 14 L2 u b2 13 YJ YK (by omega),aO,am];rfl
   have f13:wb.frozen? ⟨p.gb,u*14+13,none⟩=false:=by simp[World.frozen?,aS]
   have a2:¬(9223372036854775807<k.out.size+I.size):=by omega
   go_upto_region 20 with(fail)
   go_region
   all_goals
    have YN:Kp _ _ (wb.setCell ⟨p.gb,u*14+13,none⟩ (.string (k.out++I))).drew:=(ba.setCell (p:=⟨p.gb,u*14+13,none⟩) (λ_=>rfl) _).drew
    have be:(wb.setCell ⟨p.gb,u*14+13,none⟩ (.string (k.out++I))).drew.heap[p.gb]? =some (.cells (eY ol (aA x u {k with aw:=k.aw+1,now:=s',out:=k.out++I}).ah).toArray 236 (0,0)):=by
     show(wb.setCell ⟨p.gb,u*14+13,none⟩ (.string (k.out++I))).heap[p.gb]? =_
     have e3:iE ol {k with aw:=k.aw+1,now:=s',out:=k.out++I}=b2.set 13 (.string (k.out++I)):=by
      have e5:jy {k with aw:=k.aw+1,now:=s',out:=k.out++I}=k.aw+1+1:=by unfold jy;simp[hk,hd]
      have e6:qL ol {k with aw:=k.aw+1,now:=s',out:=k.out++I}=bV ol.ai s':=by unfold qL;simp
      rw[aO,am];unfold iE;rw[e5,e6];rfl
     rw[ak _ aS,List.setIfInBounds_toArray,qG id 14 L2 u b2 (b2.set 13 (.string (k.out++I))) 13 (.string (k.out++I)) YJ YK (by omega) rfl,zS,aI,aa,List.set_set,List.set_set,<-e3];show _=some (Obj.cells (List.flatMap id (List.map (iE ol) (x.ah.set u {k with aw:=k.aw+1,now:=s',out:=k.out++I}))).toArray _ _);rw[List.map_set]
    have hF:=X.out.1.turn YN (λ_=>.inr) (x':=aA x u {k with aw:=k.aw+1,now:=s',out:=k.out++I}) (log':=log) (by rw[YN.at_ X.out.1.bO X.out.1.ne.1];simp[Gm,aA]) be;have a8:=YN.at_ vV (by have:=F _ (.inr (.inl rfl));omega);have KZ:=YN.mono (S':=zO p (.slice (some ⟨g,0,none⟩) all.length cap)) (λ_ _ e=>.inr (.inl e));have QF:=af (j8.dR X.out.2 F (j8.of hF KZ) a8 (bJ dT));clear be hF KZ YN aS ba y3 ap cu f13 a3 b3;generalize (wb.setCell ⟨p.gb,u*14+13,none⟩ (.string (k.out++I))).drew=wz at*;have YO:=ax wz w.heap.size aH (bJ dT) 64 (0,0) a8
    go_wp2_with (refine cj (bJ dT) a8 aQ rfl (cE _) ?_)
    refine oR YO a5 eJ aQ ?_;exact Ab.of HS.out.1 rfl QF.out HS.out.2 rfl rfl (by omega) (by omega) (cJ _)
end
def Ur(w w':World)(p:Rl)(ol:Ol)(av:Value)(x:Sv)(all:List Sd)(log:ByteArray)(R:Sv×Rp×Bool×Int)(y:Ending):Prop:=∃all' log',y= .returned (.tuple #[.agg (bJ R.2.1),.bool R.2.2.1,.int .i64 R.2.2.2])/\j8 w w' p ol av R.1 all' log'/\SI ol R.1 all' log'/\all'.length<=all.length+1/\log'.size<=log.size+2000000000/\R.1.aU<=x.aU+1
theorem j8.eqv{w w':World}{p:Rl}{ol:Ol}{av:Value}{X x':Sv}{all:List Sd}{log:ByteArray}(q:j8 w w' p ol av X all log)(F:x'.ah=X.ah)(G:x'.aU=X.aU):j8 w w' p ol av x' all log:=by
 obtain⟨J,E,I,D⟩:=q;exact⟨J,E.eqv F G,I,D⟩
section
variable (w:World) {p:Rl} {ol:Ol} {x:Sv} {all:List Sd} {log:ByteArray} {av:Value}
theorem Qk{t:ByteArray}(h:jz w p ol x all log av)(E:SI ol x all log)(O:BJ t ol){u:Nat}{k:Tk}(hu:x.ah[u]? =some k)(hk:k.kind=1)(G:all.length<=100000000000)(J:log.size<=100000000000000000)(U:x.aU<=1000000000000):
 Calls prog 153 #[.pointer (some ⟨p.yb,0,none⟩),.int .i64 u] w λy w'=>Ab w w' p ol av x all log u y:=by
 cases F:k.drawn with
 |false=>grind[xv]
 |true=>?_
 by_cases D:k.bR=x.turn
 ·by_cases I:0<k.aw\/k.at_<0\/k.at_=(all.length:Int)-1
  ·grind[FR]
  exact FQ w h E hu hk F D (by omega) (by omega) (λe=>I (.inr (.inr e))) G
 grind[xv]
theorem Nf{t:ByteArray}(h:jz w p ol x all log av)(hS:SI ol x all log)(hR:BJ t ol)(u:Int)(hl:all.length<=100000000000)(IT:log.size<=100000000000000000)(ht:x.aU<=1000000000000):
 Calls prog 105 #[.pointer (some ⟨p.yb,0,none⟩),.int .i64 u] w λy w'=>Ur w w' p ol av x all log (b8 ol x u) y:=by
 obtain⟨dr,Y,eJ⟩:=mz;have D:=h.low;have K1:Kp (λ_=>False) w (w.alloc (.cells aH 64)):=(Kp.refl _ _).alloc _;have Z:=an w (.cells aH 64);have h1:=h.au K1;have KS:=K1.mono (S':=zO p av) (λ_ _ x=>x.elim);have x3:(w.alloc (.cells aH 64)).cell? _=some (.slice (some ⟨p.gb,0,none⟩) x.ah.length x.ah.length):=h1.cell 3
 have err:∀c:Int,b8 ol x u=(x,dT,false,c)->Hid (Ur w ((w.alloc (.cells aH 64)).setRow w.heap.size (bJ dT)) p ol av x all log (b8 ol x u) (.returned (.tuple #[.agg (bJ dT),.bool false,.int .i64 c]))):=λc e=>af (by
  rw[e]
  exact⟨all,log,rfl,j8.dR K1 D (j8.of h1 (Kp.refl _ _)) Z _,hS,by omega,by omega,cJ _⟩)
 have JV:=ax (w.alloc (.cells aH 64)) w.heap.size aH (bJ dT) 64 (0,0) Z
 by_cases hc:0<=u/\u<(x.ah.length:Int)
 ·obtain⟨n,rfl⟩:∃n:Nat,u=(n:Int):=⟨u.toNat,by omega⟩
  have a6:=hc.2
  obtain⟨k,hu⟩:∃t,x.ah[n]? =some t:=⟨_,ar (by omega)⟩
  have d0:(w.alloc (.cells aH 64)).cell? ⟨p.gb,n*14,none⟩=some _:=h1.ew hu (j:=0) (by omega)
  by_cases q:k.kind=0
  ·have HE:=err 13 (IN hu q)
   rw[q]at d0;clear h h1 hS err hc K1 KS;generalize Ur w=SQ at*
   go_enter func105,ntmps105
   go_upto_region 1 with(fail)
   generalize w.alloc (.cells aH 64)=O at*
   go_wp2_with (refine cj (bJ dT) Z aQ rfl (cE _) ?_)
   refine bg (bB rfl _ _ w.heap.size 64 (bJ dT) (0,0) dr rfl JV Y eJ aQ) rfl ?_;exact HE.out
  have g0:(k.kind !=0)=true:=by simpa using q
  rw[g0]at d0;have a3:=hS.kinds hu q;have h6:=hS.len;clear err hc JV
  go_enter func105,ntmps105
  go_upto_region 1 with(fail)
  generalize w.alloc (.cells aH 64)=O at*
  go_upto_region 6 with(fail)
  have ad:=aR Z;have KW:Kp (λ_=>False) O (O.alloc (.cells aH 64)):=(Kp.refl _ _).alloc _;have ao:=an O (.cells aH 64);have am:=KW.at_ Z (λx=>x);have ha:=h1.au KW;have e3:(O.alloc (.cells aH 64)).cell? _=some (.slice (some ⟨p.gb,0,none⟩) x.ah.length x.ah.length):=ha.cell 3;have dk:(O.alloc (.cells aH 64)).cell? ⟨p.gb,n*14+1,none⟩=some _:=ha.ew hu (by omega);have aj:(O.alloc (.cells aH 64)).cell? ⟨p.gb,n*14+3,none⟩=some _:=ha.ew hu (by omega);clear d0 x3 h h1 Z KS;generalize O.alloc (.cells aH 64)=wa at*
  rcases a3 with e|e|e|e
  case' inl=>
   have E:=af (Qk wa ha hS hR hu e hl IT ht);rw[e]at dk
   go_wp2_with fail
   refine hm E ?_;rintro y w2 ⟨X,all',log',rfl,e0,Q2,F,t1,t2,b2,b3,b4,b5,b6⟩;generalize dE:b8 ol x (n:Int)=R at*;obtain⟨x',I,d,e1⟩:=R;simp only at e0 t1 t2 b4 b5 F;subst e0;have zT:=Q2.zero D am;have U:=Q2.zero (λk s=>l_ (D k s) ad) ao;have Q3:=j8.dR KW (λk s=>l_ (D k s) ad) Q2 U (bJ I);have FU:=ax w2 O.heap.size aH (bJ I) 64 (0,0) U;have vT:(w2.setRow O.heap.size (bJ I)).heap[w.heap.size]? =_:=(cG _ _ _ _ (by omega)).trans zT;have aa:=af dE;have G:=af (ae F (ae t1 (ae t2 (ae b2 (ae b3 (ae b4 b6))))));clear E Q2 zT F t1 t2 b2 b3 b4 b6 dk aj e3 dE
   go_upto_region 15 with(refine cj (bJ I) U aQ rfl (cE _) ?_)
   generalize w2.setRow O.heap.size (bJ I)=w3 at*;clear U
   cases d with
   |false=>
    have QF:=af (j8.dR K1 D Q3 vT (bJ dT));have J:=ax w3 w.heap.size aH (bJ dT) 64 (0,0) vT;obtain rfl:=b5 rfl;clear Q3 FU
    go_wp2_with (refine cj (bJ dT) vT aQ rfl (cE _) ?_)
    refine bg (bB rfl _ _ w.heap.size 64 (bJ dT) (0,0) dr rfl J Y eJ aQ) rfl ?_;show Ur w _ p ol av x all log (b8 ol x (n:Int)) _;rw[aa.out];exact⟨all',log',rfl,QF.out.eqv G.out.2.2.1 G.out.2.1,G.out.1,G.out.2.2.2.1,G.out.2.2.2.2.1,G.out.2.2.2.2.2.1⟩
   |true=>?_
  case' inr.inl=>
   have E:=af (IV wa ha hS hR hu e hl IT ht);rw[e]at dk
   go_wp2_with fail
   refine hm E ?_;rintro y w2 ⟨X,all',log',rfl,e0,Q2,F,t1,t2,b2,b3,b4,b5,b6⟩;generalize dE:b8 ol x (n:Int)=R at*;obtain⟨x',I,d,e1⟩:=R;simp only at e0 t1 t2 b4 b5 F;subst e0;have zT:=Q2.zero D am;have U:=Q2.zero (λk s=>l_ (D k s) ad) ao;have Q3:=j8.dR KW (λk s=>l_ (D k s) ad) Q2 U (bJ I);have FU:=ax w2 O.heap.size aH (bJ I) 64 (0,0) U;have vT:(w2.setRow O.heap.size (bJ I)).heap[w.heap.size]? =_:=(cG _ _ _ _ (by omega)).trans zT;have aa:=af dE;have G:=af (ae F (ae t1 (ae t2 (ae b2 (ae b3 (ae b4 b6))))));clear E Q2 zT F t1 t2 b2 b3 b4 b6 dk aj e3 dE
   go_upto_region 15 with(refine cj (bJ I) U aQ rfl (cE _) ?_)
   generalize w2.setRow O.heap.size (bJ I)=w3 at*;clear U
   cases d with
   |false=>
    have QF:=af (j8.dR K1 D Q3 vT (bJ dT));have J:=ax w3 w.heap.size aH (bJ dT) 64 (0,0) vT;obtain rfl:=b5 rfl;clear Q3 FU
    go_wp2_with (refine cj (bJ dT) vT aQ rfl (cE _) ?_)
    refine bg (bB rfl _ _ w.heap.size 64 (bJ dT) (0,0) dr rfl J Y eJ aQ) rfl ?_;show Ur w _ p ol av x all log (b8 ol x (n:Int)) _;rw[aa.out];exact⟨all',log',rfl,QF.out.eqv G.out.2.2.1 G.out.2.1,G.out.1,G.out.2.2.2.1,G.out.2.2.2.2.1,G.out.2.2.2.2.2.1⟩
   |true=>?_
  case' inr.inr.inl=>
   have E:=af (IX wa ha hS hu e hl);rw[e]at dk
   go_wp2_with fail
   refine hm E ?_;rintro y w2 ⟨X,all',log',rfl,e0,Q2,F,t1,t2,b2,b3,b4,b5,b6⟩;generalize dE:b8 ol x (n:Int)=R at*;obtain⟨x',I,d,e1⟩:=R;simp only at e0 t1 t2 b4 b5 F;subst e0;have zT:=Q2.zero D am;have U:=Q2.zero (λk s=>l_ (D k s) ad) ao;have Q3:=j8.dR KW (λk s=>l_ (D k s) ad) Q2 U (bJ I);have FU:=ax w2 O.heap.size aH (bJ I) 64 (0,0) U;have vT:(w2.setRow O.heap.size (bJ I)).heap[w.heap.size]? =_:=(cG _ _ _ _ (by omega)).trans zT;have aa:=af dE;have G:=af (ae F (ae t1 (ae t2 (ae b2 (ae b3 (ae b4 b6))))));clear E Q2 zT F t1 t2 b2 b3 b4 b6 dk aj e3 dE
   go_upto_region 15 with(refine cj (bJ I) U aQ rfl (cE _) ?_)
   generalize w2.setRow O.heap.size (bJ I)=w3 at*;clear U
   cases d with
   |false=>
    have QF:=af (j8.dR K1 D Q3 vT (bJ dT));have J:=ax w3 w.heap.size aH (bJ dT) 64 (0,0) vT;obtain rfl:=b5 rfl;clear Q3 FU
    go_wp2_with (refine cj (bJ dT) vT aQ rfl (cE _) ?_)
    refine bg (bB rfl _ _ w.heap.size 64 (bJ dT) (0,0) dr rfl J Y eJ aQ) rfl ?_;show Ur w _ p ol av x all log (b8 ol x (n:Int)) _;rw[aa.out];exact⟨all',log',rfl,QF.out.eqv G.out.2.2.1 G.out.2.1,G.out.1,G.out.2.2.2.1,G.out.2.2.2.2.1,G.out.2.2.2.2.2.1⟩
   |true=>?_
  case' inr.inr.inr=>
   obtain⟨dE,F⟩:=hS.abI hu e
   have ap:0<=k.at_:=by
    have h:=(hS.tk n k hu).rq q;unfold mJ at h;simp[e]at h;exact h.2
   obtain⟨a,ap⟩:∃a:Nat,k.at_=(a:Int):=⟨k.at_.toNat,by omega⟩
   rw[ap]at aj dE;have E:=af (IU wa ha hS a (by omega) (by omega));rw[e]at dk;generalize mY x (a:Int)=I at*;clear ap
   go_wp2_with fail
   refine hm E ?_;rintro y w2 ⟨rfl,K2⟩;have zT:=K2.at_ am (λx=>x);have U:=K2.at_ ao (λx=>x);have Q3:=j8.dR KW (λk s=>l_ (D k s) ad) (j8.of (ha.au K2) (K2.mono (λ_ _ x=>x.elim))) U (bJ I);have FU:=ax w2 O.heap.size aH (bJ I) 64 (0,0) U;have vT:(w2.setRow O.heap.size (bJ I)).heap[w.heap.size]? =_:=(cG _ _ _ _ (by omega)).trans zT
   obtain⟨x',aI⟩:∃x',x'=aA x n gC:=⟨_,rfl⟩
   obtain⟨X,hX⟩:∃X,X=x:=⟨_,rfl⟩
   have G:=af (show SI ol x' all log/\x'.aU=X.aU/\x'.ah=(if true then X.ah.set n gC else X.ah)/\all.length<=all.length+1/\log.size<=log.size+2000000000/\x'.aU<=x.aU+1/\X.ah.length=x.ah.length by rw[aI,hX];exact⟨F,rfl,rfl,by omega,by omega,cJ _,rfl⟩);rw[<-hX]at Q3;rw[<-aI]at dE;have aa:=af dE;clear E K2 zT F dk aj e3 dE aI hX
   go_upto_region 15 with(refine cj (bJ I) U aQ rfl (cE _) ?_)
   generalize w2.setRow O.heap.size (bJ I)=w3 at*;clear U
  all_goals
   obtain⟨a0,h3,n3,K3⟩:=Q3
   have a1:n<X.ah.length:=by have:=G.out.2.2.2.2.2.2;omega
   have a5:(n:Int)<(X.ah.length:Int):=by omega
   obtain⟨tX,a2⟩:∃t,X.ah[n]? =some t:=⟨_,ar a1⟩
   have x3:w3.cell? _=some (.slice (some ⟨p.gb,0,none⟩) X.ah.length X.ah.length):=h3.cell 3;have aO:=h3.FJ
   have a4:n*14+(iE ol gC).length<=(eY ol X.ah).toArray.size:=by rw[jz.Uo,kI];omega
   have h4:=h3.YF (t':=gC) a2 0 (iE ol gC) (aC _) (by rw[List.take_zero,jG,c_ (by rw[kI,kI];exact aC _),i_]);have K4:=(Kp.refl (λk=>k=p.gb) w3).setRow (g:=p.gb) (λ_=>rfl) (putAt (eY ol X.ah).toArray (n*14+0) (iE ol gC));have V5:=K4.at_ vT (by have:=D _ (.inr (.inl rfl));omega);have aS:=K4.at_ FU (by have:=D _ (.inr (.inl rfl));omega)
   have Q4:j8 O _ p ol av _ _ _:=⟨a0,h4,n3,K3.trans' K4 (λ_ _ e=>.inr (.inl e))⟩
   have QF:=af ((j8.dR K1 D Q4 V5 (bJ I)).eqv G.out.2.2.1 G.out.2.1);clear h4 K4 Q4 h3 n3 K3
   go_upto_region 18 with(refine iu rfl 236 (.tmp 84) (.tmp 83) rfl p.gb (n*14) (iE ol gC) rfl rfl 236 (eY ol X.ah).toArray aO mM a4 (rC _ _) ?_)
   generalize w3.setRow p.gb (putAt (eY ol X.ah).toArray (n*14) (iE ol gC))=w4 at*;have J:=ax w4 w.heap.size aH (bJ I) 64 (0,0) V5;clear x3 aO FU vT
   go_wp2_with (first|refine jO aS Y eJ aQ ?_|refine cj (bJ I) V5 aQ rfl (cE _) ?_)
   refine bg (bB rfl _ _ w.heap.size 64 (bJ I) (0,0) dr rfl J Y eJ aQ) rfl ?_;show Ur w _ p ol av x all log (b8 ol x (n:Int)) _;rw[aa.out];exact⟨_,_,rfl,QF.out,G.out.1,G.out.2.2.2.1,G.out.2.2.2.2.1,G.out.2.2.2.2.2.1⟩
 have HE:=err 10 (by
  have xh:qK x u=none:=by
   unfold qK
   split
   ·rw[List.getElem?_eq_none_iff];omega
   rfl
  unfold b8;rw[xh])
 clear h h1 hS err K1 KS;generalize Ur w=SQ at*
 go_enter func105,ntmps105
 go_upto_region 1 with(fail)
 generalize w.alloc (.cells aH 64)=O at*
 by_cases q:u<0
 ·go_wp2_with (refine cj (bJ dT) Z aQ rfl (cE _) ?_)
  refine bg (bB rfl _ _ w.heap.size 64 (bJ dT) (0,0) dr rfl JV Y eJ aQ) rfl ?_;exact HE.out
 have q2:(x.ah.length:Int)<=u:=by omega
 go_wp2_with (refine cj (bJ dT) Z aQ rfl (cE _) ?_)
 refine bg (bB rfl _ _ w.heap.size 64 (bJ dT) (0,0) dr rfl JV Y eJ aQ) rfl ?_;exact HE.out
end
namespace Ch
theorem Ql{ol:Ol}(h:(lV ol).1=true):(df ol).2.2=0/\(df ol).2.1=(lV ol).2.2/\(lV ol).2.1=bV ol.ai (df ol).1:=by
 grind[Fi,lV]
theorem Qm{ol:Ol}(h:(lV ol).1=false):(df ol).2.2=9:=by rw[Fi,h];rfl
end Ch
theorem Tg(ol:Ol)(n:Nat):madeCells lj (n*14)=(eY ol (List.replicate n gC)).toArray:=by
 rw[<-ws0 ol];have J:(iE ol gC).length=14:=rfl
 have D:∀a∈List.replicate n gC,(iE ol a).length=14:=λa _=>rfl
 have G:=qF (iE ol) 14 (List.replicate n gC) D;rw[List.length_replicate]at G;apply Array.ext_getElem?;intro i;unfold madeCells eY
 have e1:((List.replicate n gC).flatMap (iE ol)).toArray[i]? =((List.replicate n gC).flatMap (iE ol))[i]?:=by simp
 rw[e1]
 by_cases hi:i<n*14
 ·have E:i/14<n:=by omega
  have F:i % 14<14:=by omega
  have I:i % 14<(iE ol gC).length:=by omega
  have:=jh (iE ol) 14 (List.replicate n gC) (i/14) gC (i % 14) D (by rw[List.getElem?_replicate,aq E]) F;grind
 simp_all
def ZU(w w':World)(t:ByteArray)(n:Int)(v:Value):Prop:=
 (mK t n≠0->v= .pointer none)/\(mK t n=0->∃p av,v= .pointer (some ⟨p.yb,0,none⟩)/\jz w' p (Ch.read t).2.2 (pN (Ch.read t).2.2 n.toNat) [(df (Ch.read t).2.2).1] (df (Ch.read t).2.2).2.1 av/\∀k,zO p av k->w.heap.size<=k)/\Kp (λ_=>False) w w'
section
variable (w:World)
theorem Qn(t:ByteArray)(n:Int):
 Calls prog 148 #[.string t,.int .i64 n] w λy w'=>∃v,y= .returned (.tuple #[v,.int .i64 (mK t n)])/\ZU w w' t n v:=by
 obtain⟨da,sZ,jY⟩:=sN;obtain⟨i0,a4,a5,a3,a6⟩:=bY V2;obtain⟨ia,aI,a1,a2,bb⟩:=bY Qf;have E:=af (Mh w t)
 have bad:∀{w':World},mK t n≠0->Kp (λ_=>False) w w'->Hid (ZU w w' t n (.pointer none)):=λh K=>af ⟨λ_=>rfl,λe=>absurd e h,K⟩
 have HU:=af (show mK t n=if(Ch.read t).1 !=0 then(Ch.read t).1 else if n<1\/6<n then 10 else(df (Ch.read t).2.2).2.2 from rfl)
 by_cases h0:(Ch.read t).1=0
 ·have q0:((Ch.read t).1 !=0)=false:=by rw[h0];rfl
  have HV:=af (HU.out.trans (ay (by rw[q0];simp)));rw[h0]at E;generalize a0:mK t n=NE at*;have Th:=af a0;clear HU q0 a0
  by_cases hc:n<1\/6<n
  ·have HW:=HV.out.trans (aq hc)
   subst HW
   go_enter func148,ntmps148
   go_wp2_with fail
   refine hm E ?_;rintro y w1 ⟨v,rfl,Q⟩;have Y:=bad (by decide) Q.2.2;clear E HV bad Q
   obtain⟨cv,a8⟩:∃c,c=v:=⟨_,rfl⟩
   rcases hc with hc|hc
   ·go_wp2
    go_ret2;exact⟨_,rfl,Y.out⟩
   have a7:¬n<1:=by omega
   go_wp2;go_ret2;exact⟨_,rfl,Y.out⟩
  obtain⟨k,rfl⟩:∃k:Nat,n=(k:Int):=⟨n.toNat,by omega⟩
  have a9:¬(k:Int)<1:=by omega
  have ba:¬(6:Int)<(k:Int):=by omega
  have HW:=af (HV.out.trans (ay hc));clear HV hc
  go_enter func148,ntmps148
  go_wp2_with fail
  refine hm E ?_;rintro y w1 ⟨v,rfl,Q⟩;obtain⟨cb,l,v,rfl,hF,hN,_,hT⟩:=Q.2.1 h0;have am:=SG h0 hN hT;have K1:=Q.2.2;clear Q E;have EB:=af (Ip w1 w.heap.size cb l v _ hF am)
  obtain⟨ol,aj⟩:∃o,o=(Ch.read t).2.2:=⟨_,rfl⟩
  rw[<-aj]at am EB HW;have ao:=af aj;clear aj;generalize ap:lV ol=br at*;obtain⟨be,bs,ot⟩:=br;have YP:=af ap;clear ap;simp only at EB
  go_wp2_with fail
  refine hm EB ?_;rintro y w3 ⟨rfl,K3⟩;have lC:=an w3 (.cells ig 26);have ad:=ax (w3.alloc (.cells ig 26)) w3.heap.size ig (dX bs) 26 (0,0) lC;have K4:Kp (λ_=>False) w3 ((w3.alloc (.cells ig 26)).setRow w3.heap.size (dX bs)):=((Kp.refl _ _).alloc _).setRow (λx=>by omega) _;have K5:=K3.trans K4;have Ny:=hF.au K5;have KT:=K1.trans K5;clear EB K3 K4 hF K1 K5
  go_upto_region 7 with(refine cj (dX bs) lC eC rfl (mU _) ?_)
  generalize (w3.alloc (.cells ig 26)).setRow w3.heap.size (dX bs)=D at*;clear lC;generalize w3.heap.size=sb at*
  cases be with
  |false=>
   have e9:=HW.out.trans (Qm (by rw[YP.out]));subst e9;have Y:=bad (by decide) KT;clear bad HW YP Ny ad KT;go_wp2;go_ret2;exact⟨_,rfl,Y.out⟩
  |true=>?_
  obtain⟨e1,e2,e3⟩:=Ql (ol:=ol) (by rw[YP.out]);rw[YP.out]at e2 e3;simp only at e2 e3;have e0:=HW.out.trans e1;subst e0
  have S5:((k:Int)).toNat=k:=by omega
  have aO:∀W:World,(Instr.makeSlice 232 (.int .i64 (k:Int)) (.int .i64 (k:Int))).run prog W= .ok (.slice (some ⟨W.heap.size,0,none⟩) k k) (W.alloc (.cells (eY ol (List.replicate k gC)).toArray 236)):=by
   intro W;have:=run_makeSlice (P:=prog) W 232 236 i0 (.agg lj) underlying232 a4 a5 .i64 .i64 (k:Int) (k:Int) (by omega) (Int.le_refl _) (by rw[a3];omega) (by rw[a6];omega) (by omega);rw[this,a3];simp only[S5];rw[<-Tg ol k];rfl
  have Y:∀gb G:Nat,prog.built 234 [(0,.pointer (some ⟨cb,0,none⟩)),(1,.slice (some ⟨G,0,none⟩) 1 1),(2,.string ot),(3,.slice (some ⟨gb,0,none⟩) k k)]=some (Gm ⟨0,gb,cb,w.heap.size,l,v⟩ k (.slice (some ⟨G,0,none⟩) 1 1) ot 0):=λgb G=>by kernel_rfl
  have aS:∀gb G:Nat,(Gm ⟨0,gb,cb,w.heap.size,l,v⟩ k (.slice (some ⟨G,0,none⟩) 1 1) ot 0).size=5:=λ_ _=>rfl
  have fin:∀(gb G:Nat) (X:World),X.heap[D.heap.size+2]? =some (.cells (Gm ⟨0,gb,cb,w.heap.size,l,v⟩ k (.slice (some ⟨G,0,none⟩) 1 1) ot 0) 234 (0,0))->X.heap[gb]? =some (.cells (eY ol (List.replicate k gC)).toArray 236 (0,0))->X.heap[G]? =some (.cells (dX bs) 26 (0,0))->D.heap.size<=gb->D.heap.size<=G->Kp (λ_=>False) D X->Hid (∃u,Ending.returned (Value.tuple #[.pointer (some ⟨D.heap.size+2,0,none⟩),.int .i64 0])= .returned (.tuple #[u,.int .i64 0])/\ZU w X t (k:Int) u):=by
   intro gb G X hx hg hv l1 l2 K;refine af ⟨_,rfl,λh=>absurd Th.out h,λ_=>⟨⟨D.heap.size+2,gb,cb,w.heap.size,l,v⟩,.slice (some ⟨G,0,none⟩) 1 1,rfl,?_,?_⟩,KT.trans K⟩
   ·rw[<-ao.out]
    refine⟨?_,?_,?_,Ny.au K,am⟩
    ·rw[hx,e2];simp[Gm,pN,kj]
    ·refine⟨rfl,.inr ⟨G,1,dX bs,rfl,aG _,hv,aC _,by unfold maxLen;omega,rfl,?_⟩⟩
     rw[e3];rfl
    rw[hg];rfl
   have:=KT.size;rintro i (e|e|e)
   ·have e':i=D.heap.size+2:=e
    omega
   ·have e':i=gb:=e
    omega
   obtain rfl:G=i:=by simpa[Value.ownBlock]using e
   omega
  have AI:Kp (λ_=>False) D D.drew:=(Kp.refl _ _).drewN 1;have ri:D.drew.heap[sb]? =_:=ad;clear HW YP bad Ny KT e1 e2 e3 ao;generalize (eY ol (List.replicate k gC)).toArray=I at*;have sA:_=some (dX bs).size:=eC;have sF:(dX bs).size=6:=rfl;generalize dX bs=F at*
  go_upto_region 9 with(fail)
  generalize Yt:(λgb G=>Gm ⟨0,gb,cb,w.heap.size,l,v⟩ k (.slice (some ⟨G,0,none⟩) 1 1) ot 0)=J at*
  replace Y:∀gb G:Nat,prog.built 234 [(0,.pointer (some ⟨cb,0,none⟩)),(1,.slice (some ⟨G,0,none⟩) 1 1),(2,.string ot),(3,.slice (some ⟨gb,0,none⟩) k k)]=some (J gb G):=by rw[<-Yt];exact Y
  replace aS:∀gb G:Nat,(J gb G).size=5:=by rw[<-Yt];exact aS
  replace fin:∀(gb G:Nat) (X:World),X.heap[D.heap.size+2]? =some (.cells (J gb G) 234 (0,0))->X.heap[gb]? =some (.cells I 236 (0,0))->X.heap[G]? =some (.cells F 26 (0,0))->D.heap.size<=gb->D.heap.size<=G->Kp (λ_=>False) D X->Hid (∃u,Ending.returned (Value.tuple #[.pointer (some ⟨D.heap.size+2,0,none⟩),.int .i64 0])= .returned (.tuple #[u,.int .i64 0])/\ZU w X t (k:Int) u):=by rw[<-Yt];exact fin
  clear Yt;refine bf (λw'=>w'.heap[sb]? =some (.cells F 26 (0,0))) (by kernel_rfl) ?_;refine bM 0 35 (.pointer (some ⟨cb,0,none⟩)) ri ?_;refine eG 1 36 (.agg F) rfl (λw' hS=>du 26 (.tmp 9) rfl sb (by simp[Act.eval]) 26 F (0,0) da hS sZ jY sA) ri ?_;refine bM 3 38 (.string ot) ri ?_;refine bM 4 39 (.int .i64 k) ri ?_;refine rh 2 5 (by kernel_rfl) rfl rfl rfl rfl ?_ ?_
  ·refine gI (some 37) rfl (.slice (some ⟨D.heap.size,0,none⟩) 1 1) (D.drew.alloc (.cells F 26)) (eQ 67 (.tmp 36) rfl 26 ia (.agg ig) underlying67 aI a1 (by omega) (by omega) F (by simp[Act.eval]) (by rw[a2,sF])) ?_
   have aa:=an D.drew (.cells F 26);have J1:=AI.alloc (.cells F 26);have J2:=J1.alloc (.cells I 236);have U:=an (D.drew.alloc (.cells F 26)) (.cells I 236)
   have es:(D.drew.alloc (.cells F 26)).heap.size=D.heap.size+1:=by simp
   rw[es]at U;refine⟨J1.at_ ri (λx=>x),?_⟩;refine oX 5 ?_;refine gI (some 40) rfl (.slice (some ⟨D.heap.size+1,0,none⟩) k k) ((D.drew.alloc (.cells F 26)).alloc (.cells I 236)) (by simp[execOp,Act.eval,Act.put,go_sem,aO]) ?_;have O:=J2.at_ ri (λx=>x);refine⟨O,?_⟩;refine kE 6 41 (.agg (J (D.heap.size+1) (D.heap.size))) rfl (λw' _=>fA 234 #[(0,.tmp 35),(1,.tmp 37),(2,.tmp 38),(3,.tmp 40)] rfl (J (D.heap.size+1) (D.heap.size)) [(0,.pointer (some ⟨cb,0,none⟩)),(1,.slice (some ⟨D.heap.size,0,none⟩) 1 1),(2,.string ot),(3,.slice (some ⟨D.heap.size+1,0,none⟩) k k)] (by simp[Act.eval,Act.put]) (Y _ _)) O ?_;have J3:=J2.alloc (.cells (J (D.heap.size+1) (D.heap.size)) 234);have lC:=an ((D.drew.alloc (.cells F 26)).alloc (.cells I 236)) (.cells (J (D.heap.size+1) (D.heap.size)) 234)
   have Z:((D.drew.alloc (.cells F 26)).alloc (.cells I 236)).heap.size=D.heap.size+2:=by simp
   rw[Z]at lC;have Cn:=J3.at_ ri (λx=>x);refine oX 7 ?_;refine gI (some 42) rfl (.pointer (some ⟨D.heap.size+2,0,none⟩)) (((D.drew.alloc (.cells F 26)).alloc (.cells I 236)).alloc (.cells (J (D.heap.size+1) (D.heap.size)) 234)) (by simp[execOp,Act.eval,Act.put,go_sem]) ?_;refine⟨Cn,?_⟩;refine kE 8 4 (.pointer (some ⟨D.heap.size+2,0,none⟩)) rfl (λw' _=>by simp[execOp,Act.eval,Act.put,go_sem]) Cn ?_;refine kE 9 5 (.int .i64 0) rfl (λw' _=>by simp[execOp,Act.eval,go_sem]) Cn ?_;refine bF (by kernel_rfl) (bG ?_) _;simp only[Act.put,pA,pB,pC];have hg:(((D.drew.alloc (.cells F 26)).alloc (.cells I 236)).alloc (.cells (J (D.heap.size+1) (D.heap.size)) 234)).heap[D.heap.size+1]? =_:=(cQ _ _ _ (by simp<;>omega)).trans U;have hv:(((D.drew.alloc (.cells F 26)).alloc (.cells I 236)).alloc (.cells (J (D.heap.size+1) (D.heap.size)) 234)).heap[D.heap.size]? =_:=(cQ _ _ _ (by simp<;>omega)).trans ((cQ _ _ _ (by simp<;>omega)).trans aa);have HF:=fin (D.heap.size+1) (D.heap.size) _ lC hg hv (by omega) (by omega) J3;clear aa U lC hg hv O Cn J1 J2 J3 es Z;go_wp2;go_ret2;obtain⟨u,hu,hq⟩:=HF.out;exact⟨u,hu,hq⟩
  refine gI (some 40) rfl (.slice (some ⟨D.heap.size,0,none⟩) k k) (D.drew.alloc (.cells I 236)) (by simp[execOp,Act.eval,go_sem,aO]) ?_;have aa:=an D.drew (.cells I 236);have J1:=AI.alloc (.cells I 236);have J2:=J1.alloc (.cells F 26);have U:=an (D.drew.alloc (.cells I 236)) (.cells F 26)
  have es:(D.drew.alloc (.cells I 236)).heap.size=D.heap.size+1:=by simp
  rw[es]at U;refine⟨J1.at_ ri (λx=>x),?_⟩;refine oX 2 ?_;refine gI (some 37) rfl (.slice (some ⟨D.heap.size+1,0,none⟩) 1 1) ((D.drew.alloc (.cells I 236)).alloc (.cells F 26)) (by rw[<-es];exact eQ 67 (.tmp 36) rfl 26 ia (.agg ig) underlying67 aI a1 (by omega) (by omega) F (by simp[Act.eval,Act.put]) (by rw[a2,sF])) ?_;have O:=J2.at_ ri (λx=>x);refine⟨O,?_⟩;refine kE 6 41 (.agg (J (D.heap.size) (D.heap.size+1))) rfl (λw' _=>fA 234 #[(0,.tmp 35),(1,.tmp 37),(2,.tmp 38),(3,.tmp 40)] rfl (J (D.heap.size) (D.heap.size+1)) [(0,.pointer (some ⟨cb,0,none⟩)),(1,.slice (some ⟨D.heap.size+1,0,none⟩) 1 1),(2,.string ot),(3,.slice (some ⟨D.heap.size,0,none⟩) k k)] (by simp[Act.eval,Act.put]) (Y _ _)) O ?_;have J3:=J2.alloc (.cells (J (D.heap.size) (D.heap.size+1)) 234);have lC:=an ((D.drew.alloc (.cells I 236)).alloc (.cells F 26)) (.cells (J (D.heap.size) (D.heap.size+1)) 234)
  have Z:((D.drew.alloc (.cells I 236)).alloc (.cells F 26)).heap.size=D.heap.size+2:=by simp
  rw[Z]at lC;have Cn:=J3.at_ ri (λx=>x);refine oX 7 ?_;refine gI (some 42) rfl (.pointer (some ⟨D.heap.size+2,0,none⟩)) (((D.drew.alloc (.cells I 236)).alloc (.cells F 26)).alloc (.cells (J (D.heap.size) (D.heap.size+1)) 234)) (by simp[execOp,Act.eval,Act.put,go_sem]) ?_;refine⟨Cn,?_⟩;refine kE 8 4 (.pointer (some ⟨D.heap.size+2,0,none⟩)) rfl (λw' _=>by simp[execOp,Act.eval,Act.put,go_sem]) Cn ?_;refine kE 9 5 (.int .i64 0) rfl (λw' _=>by simp[execOp,Act.eval,go_sem]) Cn ?_;refine bF (by kernel_rfl) (bG ?_) _;simp only[Act.put,pA,pB,pC];have hg:(((D.drew.alloc (.cells I 236)).alloc (.cells F 26)).alloc (.cells (J (D.heap.size) (D.heap.size+1)) 234)).heap[D.heap.size]? =_:=(cQ _ _ _ (by simp<;>omega)).trans ((cQ _ _ _ (by simp<;>omega)).trans aa);have hv:(((D.drew.alloc (.cells I 236)).alloc (.cells F 26)).alloc (.cells (J (D.heap.size) (D.heap.size+1)) 234)).heap[D.heap.size+1]? =_:=(cQ _ _ _ (by simp<;>omega)).trans U;have HF:=fin (D.heap.size) (D.heap.size+1) _ lC hg hv (by omega) (by omega) J3;clear aa U lC hg hv O Cn J1 J2 J3 es Z;go_wp2;go_ret2;obtain⟨u,hu,hq⟩:=HF.out;exact⟨u,hu,hq⟩
 have q0:((Ch.read t).1 !=0)=true:=by simpa using h0
 have HV:=HU.out.trans (aq q0);have HN:=af (ae HV h0);generalize mK t n=NE at*;subst HV
 go_enter func148,ntmps148
 go_wp2_with fail
 refine hm E ?_;rintro y w1 ⟨v,rfl,Q⟩;have Y:=bad (by exact HN.out.2) Q.2.2;clear E bad HN HU Q;go_wp2;go_ret2;exact⟨_,rfl,Y.out⟩
end
section
variable (w:World) (wb:Nat)
theorem IY(a:As):
 Calls prog 99 #[.agg (dX a),.agg (dX a)] w λx w'=>x= .returned (.bool true)/\Kp (λ_=>False) w w':=by
 have G:Kp (λ_=>False) w ((w.alloc (.cells (dX a) 26)).alloc (.cells (dX a) 26)):=((Kp.refl _ _).alloc _).alloc _
 have D:((w.alloc (.cells (dX a) 26)).alloc (.cells (dX a) 26)).heap[w.heap.size]? =some (.cells (dX a) 26):=by rw[cQ _ _ _ (by simp)];exact an _ _
 have E:((w.alloc (.cells (dX a) 26)).alloc (.cells (dX a) 26)).heap[w.heap.size+1]? =some (.cells (dX a) 26):=by
  have:=an (w.alloc (.cells (dX a) 26)) (.cells (dX a) 26);simpa using this
 go_enter func99,ntmps99
 go_upto_region 1 with(fail)
 generalize (w.alloc (.cells (dX a) 26)).alloc (.cells (dX a) 26)=F at*;generalize w.heap.size=ob at*
 have c0:F.cell? ⟨ob,0,none⟩=some (.string a.act):=by rw[World.cell?,D];rfl
 have d0:F.cell? ⟨ob+1,0,none⟩=some (.string a.act):=by rw[World.cell?,E];rfl
 have c1:F.cell? ⟨ob,1,none⟩=some (.string a.cd):=by rw[World.cell?,D];rfl
 have d1:F.cell? ⟨ob+1,1,none⟩=some (.string a.cd):=by rw[World.cell?,E];rfl
 have c2:F.cell? ⟨ob,2,none⟩=some (.string a.tm):=by rw[World.cell?,D];rfl
 have d2:F.cell? ⟨ob+1,2,none⟩=some (.string a.tm):=by rw[World.cell?,E];rfl
 have c3:F.cell? ⟨ob,3,none⟩=some (.int .i64 a.x):=by rw[World.cell?,D];rfl
 have d3:F.cell? ⟨ob+1,3,none⟩=some (.int .i64 a.x):=by rw[World.cell?,E];rfl
 have c4:F.cell? ⟨ob,4,none⟩=some (.int .i64 a.y):=by rw[World.cell?,D];rfl
 have d4:F.cell? ⟨ob+1,4,none⟩=some (.int .i64 a.y):=by rw[World.cell?,E];rfl
 have c5:F.cell? ⟨ob,5,none⟩=some (.int .i64 a.z):=by rw[World.cell?,D];rfl
 have d5:F.cell? ⟨ob+1,5,none⟩=some (.int .i64 a.z):=by rw[World.cell?,E];rfl
 clear D E;go_wp2;go_ret;exact⟨rfl,G⟩
end
def De(w:World)(v:Value)(l:List Nat):Prop:=∃D cap,v= .slice D l.length cap/\∀(i n:Nat),l[i]? =some n->∃g,D=some ⟨g,0,none⟩/\w.cell? ⟨g,i,none⟩=some (.int .i64 n)
theorem De.ofRow{w:World}{B:Nat}{v:Value}{l:List Nat}(h:w.ownsRow B 3 1 v l.length (l.map λk:Nat=>.int .i64 (k:Int))):De w v l:=by
 obtain⟨E,c,rfl⟩:=bn h;refine⟨E,c,rfl,λi n hn=>?_⟩;have F:=(aJ.1 hn).1;obtain⟨g,G,D,_⟩:=cR h (by omega);simp only[aK]at D;obtain⟨rfl,-,-⟩:=D;exact⟨g,rfl,(bP h i (by omega)).trans (by rw[bw,hn];rfl)⟩
theorem De.az{w w':World}{v:Value}{l:List Nat}(h:De w v l)(k:Kp (λ_=>False) w w'):De w' v l:=by
 obtain⟨D,c,G,I⟩:=h;refine⟨D,c,G,λi n hn=>?_⟩;obtain⟨g,E,F⟩:=I i n hn;exact⟨g,E,k.bX F⟩
section
variable (w:World)
theorem Df(a b:Value)(l:List Nat)(E:De w a l)(hb:De w b l)(hl:l.length<=1000):
 Calls prog 108 #[a,b] w λx w'=>x= .returned (.bool true)/\Kp (λ_=>False) w w':=by
 obtain⟨Z,ac,rfl,E⟩:=E;obtain⟨bo,bc,rfl,hb⟩:=hb;have U:=af E;have X:=af hb;clear E hb
 go_enter func108,ntmps108
 go_wp2_with fail
 go_loopw [5] (λi wr=>∃k:Nat,i= .int .i64 k/\k<=l.length/\Kp (λ_=>False) w wr) (λi _=>l.length-(intOf i).toNat)
 case atStart=>exact⟨0,rfl,aG _,Kp.refl _ _⟩
 case round=>
  obtain⟨k,rfl,hk,D⟩:=hrel
  by_cases F:k<l.length
  ·have J:(k:Int)<(l.length:Int):=by omega
   obtain⟨n,O⟩:∃n,l[k]? =some n:=⟨_,ar F⟩
   obtain⟨g,rfl,G⟩:=U.out k n O;obtain⟨g',rfl,I⟩:=X.out k n O;have c0:=D.bX G;have d0:=D.bX I;clear G I
   go_upto_region 6 with(fail)
   go_quiet (fail)
   go_wp2
   go_roundw
   case rel=>exact⟨k+1,by go_num,by omega,D.drewN _⟩
   case measure=>simp[intOf];omega
  have Y:¬(k:Int)<(l.length:Int):=by omega
  go_wp2;go_ret;exact⟨rfl,D⟩
theorem AO(r:Rp):
 Calls prog 106 #[.agg (bJ r),.agg (bJ r)] w λx w'=>x= .returned (.bool true)/\Kp (λ_=>False) w w':=by
 obtain⟨Y,sZ,Z⟩:=sN;have X:Kp (λ_=>False) w ((w.alloc (.cells (bJ r) 64)).alloc (.cells (bJ r) 64)):=((Kp.refl _ _).alloc _).alloc _
 have G:((w.alloc (.cells (bJ r) 64)).alloc (.cells (bJ r) 64)).heap[w.heap.size]? =some (.cells (bJ r) 64):=by rw[cQ _ _ _ (by simp)];exact an _ _
 have I:((w.alloc (.cells (bJ r) 64)).alloc (.cells (bJ r) 64)).heap[w.heap.size+1]? =some (.cells (bJ r) 64):=by
  have:=an (w.alloc (.cells (bJ r) 64)) (.cells (bJ r) 64);simpa using this
 have EN:=af (λW=>xQ W r.err);have sA:_=some (pO r.st).length:=eC
 go_enter func106,ntmps106
 go_upto_region 1 with(fail)
 generalize (w.alloc (.cells (bJ r) 64)).alloc (.cells (bJ r) 64)=O at*;generalize w.heap.size=ob at*
 have dE:∀{b:Nat},O.heap[b]? =some (.cells (bJ r) 64)->∀j v,(pO r.st)[j]? =some v->O.cell? ⟨b,4+j,none⟩=some v:=λ {b} hb j v hj=>by
  rw[World.cell?,hb];have:j<6:=(aJ.1 hj).1
  rcases(by omega:j=0\/j=1\/j=2\/j=3\/j=4\/j=5)with rfl|rfl|rfl|rfl|rfl|rfl<;>exact hj
 have s1:=dE G;have s2:=dE I;have U:=af (IY O r.st);clear dE
 go_wp2_with (first|refine cH rfl 26 (.tmp 6) rfl ob 4 rfl (pO r.st) Y s1 sZ Z sA ?_|refine cH rfl 26 (.tmp 8) rfl (ob+1) 4 rfl (pO r.st) Y s2 sZ Z sA ?_)
 refine hm U ?_;rintro x F ⟨rfl,J⟩;have D:=J.at_ G (λx=>x);have E:=J.at_ I (λx=>x);have KX:=X.trans J;clear U s1 s2 G I X J
 have c0:F.cell? ⟨ob,0,none⟩=some (.int .i64 r.err):=by rw[World.cell?,D];rfl
 have d0:F.cell? ⟨ob+1,0,none⟩=some (.int .i64 r.err):=by rw[World.cell?,E];rfl
 have c1:F.cell? ⟨ob,1,none⟩=some (.int .i64 r.kZ):=by rw[World.cell?,D];rfl
 have d1:F.cell? ⟨ob+1,1,none⟩=some (.int .i64 r.kZ):=by rw[World.cell?,E];rfl
 have c2:F.cell? ⟨ob,2,none⟩=some (.int .i64 r.idx):=by rw[World.cell?,D];rfl
 have d2:F.cell? ⟨ob+1,2,none⟩=some (.int .i64 r.idx):=by rw[World.cell?,E];rfl
 have c3:F.cell? ⟨ob,3,none⟩=some (.int .i64 r.next):=by rw[World.cell?,D];rfl
 have d3:F.cell? ⟨ob+1,3,none⟩=some (.int .i64 r.next):=by rw[World.cell?,E];rfl
 have aa:F.cell? ⟨ob,10,none⟩=some (.string r.text):=by rw[World.cell?,D];rfl
 have d10:F.cell? ⟨ob+1,10,none⟩=some (.string r.text):=by rw[World.cell?,E];rfl
 clear D E
 go_upto_region 2 with(fail)
 go_quiet ((go_at_call 93;exact iZ (eE EN _)))
 go_wp2;go_ret;exact⟨rfl,KX.drewN _⟩
end
structure Sx where
 b:Nat
 xb:Nat
 tb:Nat
 pc:Pc
 ol:Ol
 x:Sv
 kv:Value
 p:Rl
 av:Value
 all:List Sd
 log:ByteArray
 t:ByteArray
def IZ(s:Sx)(k:Nat):Prop:=k=s.b\/xo s.xb s.tb s.kv k\/zO s.p s.av k
structure zU(W:World)(s:Sx):Prop where
 pair:W.heap[s.b]? =some (.cells #[.pointer (some ⟨s.xb,0,none⟩),.pointer (some ⟨s.p.yb,0,none⟩)] 181 (0,0))
 sv:eX W s.xb s.tb 138 s.pc s.ol s.x s.kv
 rv:jz W s.p s.ol s.x s.all s.log s.av
 si:SI s.ol s.x s.all s.log
 rd:BJ s.t s.ol
def FV(T:TypeId):Prop:=T=138\/T=173\/T=261
def FW(T:TypeId):Prop:=T=234\/T=236\/T=26
theorem xw{W:World}{i:Nat}{c D:Array Value}{T T':TypeId}(h:W.heap[i]? =some (.cells c T (0,0)))(E:W.heap[i]? =some (.cells D T' (0,0))):T=T':=by
 simp_all
section
variable {W W1 W2:World} {s:Sx}
theorem eX.kd{xb tb:Nat}{pc:Pc}{ol:Ol}{x:Sv}{kv:Value}(h:eX W xb tb 138 pc ol x kv){k:Nat}(hk:xo xb tb kv k):∃c T,W.heap[k]? =some (.cells c T (0,0))/\FV T:=by
 rcases hk with rfl|rfl|e
 ·exact⟨_,_,h.bO,.inl rfl⟩
 ·exact⟨_,_,h.rN,.inr (.inl rfl)⟩
 obtain⟨c,D⟩:=bz h.row e;exact⟨_,_,D,.inr (.inr rfl)⟩
theorem jz.kd{p:Rl}{ol:Ol}{x:Sv}{all:List Sd}{log:ByteArray}{av:Value}(h:jz W p ol x all log av){k:Nat}(hk:zO p av k):∃c T,W.heap[k]? =some (.cells c T (0,0))/\FW T:=by
 rcases hk with rfl|rfl|e
 ·exact⟨_,_,h.bO,.inl rfl⟩
 ·exact⟨_,_,h.FJ,.inr (.inl rfl)⟩
 obtain⟨c,D⟩:=bz h.row e;exact⟨_,_,D,.inr (.inr rfl)⟩
theorem zU.kd(h:zU W s){k:Nat}(hk:IZ s k):∃c T,W.heap[k]? =some (.cells c T (0,0))/\(T=181\/FV T\/FW T):=by
 rcases hk with rfl|e|e
 ·exact⟨_,_,h.pair,.inl rfl⟩
 ·obtain⟨c,T,D,E⟩:=h.sv.kd e
  grind
 obtain⟨c,T,D,E⟩:=h.rv.kd e;grind
theorem zU.low(h:zU W s){k:Nat}(hk:IZ s k):k<W.heap.size:=by
 obtain⟨c,T,D,_⟩:=h.kd hk;grind
theorem zU.apart(h:zU W s){i:Nat}{c:Array Value}{T:TypeId}(hi:W.heap[i]? =some (.cells c T (0,0)))(F:C2 T\/FM T):¬IZ s i:=λhk=>by
 obtain⟨G,T',D,E⟩:=h.kd hk;have:=xw hi D;subst this
 revert F E;unfold C2 FM FV FW
 rintro((rfl|rfl|rfl|rfl)|(rfl|rfl|rfl|rfl))<;>decide
theorem zU.az{S:Nat->Prop}(h:zU W s)(K:Kp S W W1)(D:∀k,IZ s k->¬S k)(E:∀i c T,W.heap[i]? =some (.cells c T (0,0))->C2 T\/FM T->¬S i):zU W1 s:=
 ⟨K.at_ h.pair (D _ (.inl rfl)),h.sv.az K (D _ (.inr (.inl (.inl rfl)))) (D _ (.inr (.inl (.inr (.inl rfl))))) (λk e=>D k (.inr (.inl (.inr (.inr e))))) (λi c T hi hT=>E i c T hi (.inl hT)),
  h.rv.az K (λk e=>D k (.inr (.inr e))) (λi c T hi hT=>E i c T hi (.inr hT)),h.si,h.rd⟩
theorem zU.au(h:zU W s)(K:Kp (λ_=>False) W W1):zU W1 s:=h.az K (λ_ _ x=>x) (λ_ _ _ _ _ x=>x)
theorem zU.oD{S:Nat->Prop}(h:zU W s)(K:Kp S W W1)(D:∀k,S k->∀c T,W.heap[k]? =some (.cells c T (0,0))->¬(T=181\/FV T\/FW T)/\¬(C2 T\/FM T)):zU W1 s:=
 h.az K (λk hk hs=>by obtain⟨c,T,E,F⟩:=h.kd hk;exact(D k hs c T E).1 F) (λi c T hi hT hs=>(D i hs c T hi).2 hT)
theorem zU.xf(h:zU W s)(K:Kp (xo s.xb s.tb s.kv) W W1):jz W1 s.p s.ol s.x s.all s.log s.av/\W1.heap[s.b]? =some (.cells #[.pointer (some ⟨s.xb,0,none⟩),.pointer (some ⟨s.p.yb,0,none⟩)] 181 (0,0)):=by
 have D:∀{i:Nat} {c:Array Value} {T:TypeId},W.heap[i]? =some (.cells c T (0,0))->T=181\/FW T\/FM T->¬xo s.xb s.tb s.kv i:=λ {i c T} hi hT hk=>by
  obtain⟨G,T',E,F⟩:=h.sv.kd hk;grind[xw,FV,FW,FM]
 exact⟨h.rv.az K (λk hk=>by obtain⟨c,T,E,F⟩:=h.rv.kd hk;exact D E (.inr (.inl F))) (λi c T hi hT=>D hi (.inr (.inr hT))),K.at_ h.pair (D h.pair (.inl rfl))⟩
def SxQ(W W2:World)(s:Sx)(x':Sv)(all':List Sd)(log':ByteArray):Prop:=∃D E,zU W2 {s with x:=x',kv:=D,av:=E,all:=all',log:=log'}/\(∀k,IZ {s with x:=x',kv:=D,av:=E,all:=all',log:=log'} k->IZ s k\/W.heap.size<=k)/\Kp (IZ s) W W2
theorem zU.step(h:zU W s){x':Sv}{all':List Sd}{log':ByteArray}(q1:g_ W W1 s.xb s.tb 138 s.pc s.ol s.kv x')(q2:j8 W1 W2 s.p s.ol s.av x' all' log')(X:SI s.ol x' all' log'):SxQ W W2 s x' all' log':=by
 obtain⟨J,I,Y,F⟩:=q1;obtain⟨r1,O⟩:=h.xf F;obtain⟨wV,U,Z,G⟩:=q2
 have E:∀{i:Nat} {c:Array Value} {T:TypeId},W1.heap[i]? =some (.cells c T (0,0))->T=181\/FV T\/C2 T->¬zO s.p s.av i:=λ {i c T} hi hT hk=>by
  obtain⟨c',T',e1,e2⟩:=r1.kd hk;grind[xw,FV,FW,C2]
 have D:∀k,xo s.xb s.tb J k->¬zO s.p s.av k:=λk hk=>by obtain⟨c,T,e1,e2⟩:=I.kd hk;exact E e1 (.inr (.inl e2))
 refine⟨J,wV,⟨G.at_ O (E O (.inl rfl)),I.az G (D _ (.inl rfl)) (D _ (.inr (.inl rfl))) (λk e=>D k (.inr (.inr e))) (λi c T hi hT=>E hi (.inr (.inr hT))),U,X,h.rd⟩,?_,?_⟩
 ·rintro k (e|(e|e|e)|(e|e|e))
  ·exact .inl (.inl e)
  ·exact .inl (.inr (.inl (.inl e)))
  ·exact .inl (.inr (.inl (.inr (.inl e))))
  ·exact(Y k e).imp (λe=>.inr (.inl (.inr (.inr e)))) id
  ·exact .inl (.inr (.inr (.inl e)))
  ·exact .inl (.inr (.inr (.inr (.inl e))))
  exact(Z k e).imp (λe=>.inr (.inr (.inr (.inr e)))) (bA F.size)
 exact(F.mono (S':=IZ s) (λ_ _ e=>.inr (.inl e))).trans' G (λ_ _ e=>.inr (.inr e))
end
def LiE(W:World)(B:Nat)(mv:Value)(e:Value×Nat×Int):Prop:=W.ownsRow B 3 1 e.1 e.2.1 (List.replicate e.2.1 (.int .i64 e.2.2))/\e.2.1<=2000/\∀b,e.1.ownBlock=some b->mv.ownBlock≠some b
def Ti(sv iv nv mv qv:Value)(k:Int):Array Value:=#[sv,iv,nv,mv,qv,.int .i64 k]
structure wX(W:World)(B wb:Nat)(nv qv:Value)(N M:Nat)(Ss:List Sx)(sv iv mv:Value)(es:List (Value×Nat×Int))(k:Int):Prop where
 bO:W.heap[wb]? =some (.cells (Ti sv iv nv mv qv k) 77 (0,0))
 FX:W.ownsRow B 140 1 sv Ss.length (Ss.map λs=>.pointer (some ⟨s.b,0,none⟩))
 sb:∀(i:Nat) (s:Sx),Ss[i]? =some s->zU W s
 Ut:∀(i j:Nat) (a b:Sx),Ss[i]? =some a->Ss[j]? =some b->i≠j->∀k,IZ a k->¬IZ b k
 lo:∀(i:Nat) (s:Sx),Ss[i]? =some s->∀k,IZ s k->B<=k
 bd:∀(i:Nat) (s:Sx),Ss[i]? =some s->s.all.length<=N+1/\s.log.size<=10000000000+2000000000*N/\s.x.aU<=N
 sl:Ss.length<=N
 inr:W.ownsRow B 38 1 iv es.length (es.map (·.1))
 JW:W.ownsRow B 3 1 mv es.length (es.map λe=>.int .i64 e.2.2)
 nR:∀e∈es,LiE W B mv e
 k0:0<=k
 kM:k<=M
 eM:es.length<=4*M
 hB:B<=wb
section
variable {W W1:World} {B wb:Nat} {nv qv:Value} {N M:Nat} {Ss:List Sx} {sv iv mv:Value} {es:List (Value×Nat×Int)} {k:Int}
theorem wX.au(h:wX W B wb nv qv N M Ss sv iv mv es k)(K:Kp (λ_=>False) W W1):wX W1 B wb nv qv N M Ss sv iv mv es k:=
 ⟨K.at_ h.bO (λx=>x),K.owns h.FX (λ_ _ x=>x),λi s hs=>(h.sb i s hs).au K,h.Ut,h.lo,h.bd,h.sl,K.owns h.inr (λ_ _ x=>x),K.owns h.JW (λ_ _ x=>x),λe he=>⟨K.owns (h.nR e he).1 (λ_ _ x=>x),(h.nR e he).2⟩,h.k0,h.kM,h.eM,h.hB⟩
theorem wX.up(h:wX W B wb nv qv N M Ss sv iv mv es k){E D:Nat}(F:N<=E)(G:M<=D):wX W B wb nv qv E D Ss sv iv mv es k:=
 ⟨h.bO,h.FX,h.sb,h.Ut,h.lo,λi s hs=>by obtain⟨a,b,c⟩:=h.bd i s hs;have:=Nat.mul_le_mul_left 2000000000 F;exact⟨by omega,by omega,by omega⟩,bA h.sl F,h.inr,h.JW,h.nR,h.k0,by have:=h.kM;omega,by have:=h.eM;omega,h.hB⟩
theorem wX.cell(h:wX W B wb nv qv N M Ss sv iv mv es k)(j:Nat):W.cell? ⟨wb,j,none⟩=(Ti sv iv nv mv qv k)[j]?:=by rw[World.cell?,h.bO];rfl
theorem wX.served(h:wX W B wb nv qv N M Ss sv iv mv es k){i:Nat}{s:Sx}(hi:Ss[i]? =some s){x':Sv}{all':List Sd}{log':ByteArray}(q:SxQ W W1 s x' all' log')(hb:B<=W.heap.size)(b1:all'.length<=s.all.length+1)(b2:log'.size<=s.log.size+2000000000)(b3:x'.aU<=s.x.aU+1):
 (∃Uu,wX W1 B wb nv qv (N+1) M Uu sv iv mv es k)/\Kp (λk=>B<=k) W W1:=by
 obtain⟨Y,Z,h1,U,O⟩:=q;have hS:=h.sb i s hi;have aa:=(aJ.1 hi).1
 have J:∀{b:Nat} {c:Array Value} {T:TypeId},W.heap[b]? =some (.cells c T (0,0))->¬(T=181\/FV T\/FW T)->¬IZ s b:=λ {b c T} hb hT hk=>by
  obtain⟨c',T',e1,e2⟩:=hS.kd hk;simp_all
 have own:∀{e:TypeId} {sz:Nat} {v:Value} {n:Nat} {xs:List Value} {b:Nat},W.ownsRow b e sz v n xs->¬(e=181\/FV e\/FW e)->W1.ownsRow b e sz v n xs:=λho he=>O.owns ho (λq F=>by obtain⟨c,hc⟩:=bz ho F;exact J hc he)
 have get:∀{j:Nat} {a:Sx},(Ss.set i {s with x:=x',kv:=Y,av:=Z,all:=all',log:=log'})[j]? =some a->(j=i/\a={s with x:=x',kv:=Y,av:=Z,all:=all',log:=log'})\/(j≠i/\Ss[j]? =some a):=λ {j a} D=>by
  grind
 refine⟨⟨Ss.set i {s with x:=x',kv:=Y,av:=Z,all:=all',log:=log'},?_⟩,O.mono (λk _ e=>h.lo i s hi k e)⟩;refine⟨O.at_ h.bO (J h.bO (by unfold FV FW;decide)),?_,?_,?_,?_,?_,by rw[jb];have:=h.sl;omega,own h.inr (by unfold FV FW;decide),own h.JW (by unfold FV FW;decide),λe he=>⟨own (h.nR e he).1 (by unfold FV FW;decide),(h.nR e he).2⟩,h.k0,h.kM,h.eM,h.hB⟩
 ·have:=own h.FX (by unfold FV FW;decide)
  rw[jb,List.map_set]
  have e:(Ss.map λs=>Value.pointer (some ⟨s.b,0,none⟩)).set i (.pointer (some ⟨s.b,0,none⟩))=Ss.map λs=>Value.pointer (some ⟨s.b,0,none⟩):=by
   apply eL;grind
  simp_all
 ·intro j a D
  rcases get D with⟨rfl,rfl⟩|⟨ne,D⟩
  ·omega
  exact(h.sb j a D).az O (h.Ut j i a s D hi ne) (λi c T hi hT=>hS.apart hi hT)
 ·intro j l a c D hl ne q F E
  rcases get D with⟨ej,ea⟩|⟨X,I⟩
  ·rcases get hl with⟨el,_⟩|⟨nl,G⟩
   ·omega
   rw[ea]at F
   rcases U q F with e|e
   ·exact h.Ut i l s c hi G (λx=>nl x.symm) q e E
   have:=(h.sb l c G).low E;omega
  rcases get hl with⟨el,ec⟩|⟨nl,G⟩
  ·rw[ec]at E
   rcases U q E with e|e
   ·exact h.Ut j i a s I hi X q F e
   have:=(h.sb j a I).low F;omega
  exact h.Ut j l a c I G ne q F E
 ·intro j a D q F
  rcases get D with⟨rfl,rfl⟩|⟨X,D⟩
  ·rcases U q F with e|e
   ·exact h.lo j s hi q e
   omega
  exact h.lo j a D q F
 intro j a D;rw[Nat.mul_succ]
 rcases get D with⟨rfl,rfl⟩|⟨X,D⟩
 ·obtain⟨a1,a2,a3⟩:=h.bd j s hi
  grind
 obtain⟨a1,a2,a3⟩:=h.bd j a D;omega
end
def JX(ss:List St):List Value:=ss.flatMap λs=>(ndA s).toList
theorem Qo{ss:List St}{k:Nat}{s:St}(h:ss[k]? =some s):JX (ss.take (k+1))=JX (ss.take k)++[.string (strOfNums [s.name]),.int .i64 s.kind,.int .i64 s.parent]:=by
 unfold JX;rw[gO,h,nL];rfl
