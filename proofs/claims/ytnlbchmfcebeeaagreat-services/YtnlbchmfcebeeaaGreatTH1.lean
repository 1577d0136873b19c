import Derived.Test.YtnlbchmfcebeeaaGreatTZf
set_option maxHeartbeats 12800000
set_option maxRecDepth 100000
namespace Go.Proofs.YtnlbchmfcebeeaaGreat
open Go.Proofs.Tryz Ch
open Go.RowKit
namespace Ch
def mH{α:Type}(n:Nat)(new:Nat->α)(E:Nat->α)(k:Nat)(D:α):List α:=(List.range n).map λe=>if e<k then new e else if e=k then D else E e
theorem E_{α:Type}(n:Nat)(new E:Nat->α)(k:Nat)(D:α):(mH n new E k D).length=n:=by simp[mH]
theorem JM{α:Type}{n:Nat}(new E:Nat->α){k:Nat}(D:α)(hk:k<n):(mH n new E k D)[k]? =some D:=by
 grind[mH]
theorem Fc{α:Type}{n:Nat}(new D:Nat->α){k:Nat}(E c:α):(mH n new D k E).set k c=mH n new D k c:=by
 apply eL;grind[mH]
theorem BI{α:Type}(n:Nat)(new D:Nat->α)(k:Nat):mH n new D k (new k)=mH n new D (k+1) (D (k+1)):=by
 grind[mH]
theorem zr{α:Type}(n:Nat)(new D:Nat->α):mH n new D 0 (D 0)=(List.range n).map D:=by
 unfold mH;simp_all
theorem Fe{α:Type}(n:Nat)(new D:Nat->α)(c:α):mH n new D n c=(List.range n).map new:=by
 unfold mH;simp_all
theorem Ff{α:Type}(l:List Nat)(f:Nat->α):(List.range l.length).map (λe=>f (l.getD e 0))=l.map f:=by
 apply eL;grind
theorem PA{α:Type}{l:List α}{k:Nat}{x:α}(h:l[k]? =some x)(p:α->Bool):(l.take (k+1)).any p=((l.take k).any p||p x):=by
 rw[gO,h,List.any_append];simp
theorem Mw{α β:Type}{l:List α}{k:Nat}{x:α}(h:l[k]? =some x)(f:β->α->β)(c:β):(l.take (k+1)).foldl f c=f ((l.take k).foldl f c) x:=by
 rw[gO,h,nM];rfl
theorem Mx{ol:Ol}{n:Nat}(E:ol.ai.length=n)(D:n<=16)(s:Sd)(list:List Int):iN n ((List.range n).map λj=>list.any λt=>lv ol s t j) (cT ol s list):=by
 refine⟨by simp,w_ _ _ _,λk=>?_⟩;grind[Ed,qA,lv,xW,pJ]
end Ch
section
variable {w w':World} {B B2 xb cb g:Nat} {pv v:Value} {l:List NV} {ol:Ol} {m:Ma}
theorem mD.aside(h:mD w B B2 xb cb g pv v l ol m){gb:Nat}{E:List Bool}(F:kG w gb E)(D:gb≠g)(k:Kp (λi=>i=gb) w w'):mD w' B B2 xb cb g pv v l ol m:=by
 obtain⟨on,G,hs⟩:=h.on
 have I:xb≠gb:=λe=>by
  have J:=h.nb;grind[iA,kG]
 refine⟨h.nb.az k I,⟨on,k.at_ G (λe=>D e.symm),hs⟩,eO.az h.ps k (λj hj e=>eO.ne h.ps F (by decide) (by rw[hj,e])),h.ch.oD k (λi cur T hi _ hT e=>?_)⟩;grind[kG]
theorem Ch.iN.put{n i:Nat}{on l:List Bool}(h:iN n on l)(hi:i<n)(G:n<=16)(b:Bool):iN n (on.set i b) (sq l (i:Int) b):=by
 obtain⟨D,E,F⟩:=h;refine⟨by simp[D],by show(l.set i b).length=16;simp[E],λk=>?_⟩;show(on.set i b).getD k false=(l.set i b).getD k false;have:=F k;grind[qA,Ch.bit]
theorem mD.turn(h:mD w B B2 xb cb g pv v l ol m){i:Nat}(hi:i<l.length)(E:l.length<=16)(b:Bool):mD (w.setCell ⟨g,i,none⟩ (.bool b)) B B2 xb cb g pv v l ol (dN m i b)/\Kp (nS xb g pv) w (w.setCell ⟨g,i,none⟩ (.bool b)):=by
 obtain⟨on,F,G⟩:=h.on;have D:Kp (λk=>k=g) w (w.setCell ⟨g,i,none⟩ (.bool b)):=(Kp.refl _ _).setCell (by intro _;rfl) _;have I:=D.mono (S':=nS xb g pv) (λ_ _ e=>.inr (.inl e));exact⟨⟨h.nb.az D h.xg,⟨on.set i b,F.set i b,G.put hi E b⟩,eO.az h.ps D (λj hj e=>h.pg (by rw[hj,e])),h.chart I⟩,I⟩
theorem mD.gne(h:mD w B B2 xb cb g pv v l ol m):w.heap.size≠g:=λe=>by
 obtain⟨on,D,_⟩:=h.on;unfold kG at D;rw[<-e]at D;simp at D
end
section
variable (w:World) (B B2 xb cb g:Nat) (pv v:Value) (l:List NV) (ol:Ol) (m:Ma)
theorem CT(N B3:Nat)(list:List Int)(lw:Value)(h:mD w B B2 xb cb g pv v l ol m)(U:Rf l ol)(hI:Ch.Inv ol m.s)(hM:pM m N)(hN:N<=880000000)(fo:list.length<=16)(cm:wZ ol list)(QI:w.ownsRow B3 301 2 lw list.length (gJ ol list)):
 Calls prog 244 #[.pointer (some ⟨xb,0,none⟩),lw] w λy w'=>y= .returned (.tuple #[])/\mD w' B B2 xb cb g pv v l ol (cM ol (cT ol m.s list) ol.ai.length {m with s:=Ch.rem ol.ai m.s (cT ol m.s list)})/\Kp (nS xb g pv) w w':=by
 obtain⟨left,aa⟩:∃x,x=cT ol m.s list:=⟨_,rfl⟩
 rw[<-aa]
 obtain⟨m1,bk⟩:∃x:Ma,x={m with s:=Ch.rem ol.ai m.s left}:=⟨_,rfl⟩
 rw[<-bk];have dl:=af aa;have bt:=af bk;clear aa bk;obtain⟨i0,ea,ek,em,en⟩:=bY yR;obtain⟨d,hd,kJ⟩:=ze;have be:=U.le;obtain⟨ao,cap,rfl⟩:=h.ch.2.1.len;obtain⟨la,lc,rfl⟩:=bn QI;have c0:w.cell? _=some (.pointer (some ⟨cb,0,none⟩)):=h.nb.cell 0;have zc:=h.ch.cell;have Vq:=h.gne;have Wn:=af cm;have HX:=af (ae h (ae hM QI));clear h hM QI cm
 go_enter func244,ntmps244
 go_wp2_with (at_make;refine wpList_make_full w rfl (.tmp 22) (.tmp 22) 68 rfl w.heap.size 4 i0 (.bool false) 1 underlying68 ea ek em .i64 .i64 l.length l.length l.length rfl rfl rfl rfl ?c1 ?c2 (aC _) ?_)
 case c1=>rw[en];omega
 case c2=>unfold maxLen;omega
 intro w4 o4 g4;have K4:Kp (λ_=>False) w w4:=(Kp.refl _ _).grown g4 (λi hi _=>by simp at hi);have XK:=kG.made o4;have TY:=HX.out.1.au K4;have HW:=af (ae TY (ae XK (ae (K4.owns HX.out.2.2 (λ_ _ x=>x)) (ae K4 HX.out.2.1))));clear c0 zc HX o4 g4 TY XK K4;generalize fe:w.heap.size=gb at*
 go_wp2_with fail
 go_loopw [5] (λiv wr=>∃i:Nat,iv= .int .i64 i/\i<=l.length/\Hid (kG wr gb (mH l.length (λj=>list.any λt=>Ch.lv ol m.s t j) (λ_=>false) i false))/\Kp (λk=>k=gb) w4 wr) (λiv _=>l.length-(intOf iv).toNat)
 case atStart=>exact⟨0,rfl,aG _,af (by rw[zr l.length (λj=>list.any λt=>Ch.lv ol m.s t j) (λ_=>false),List.map_const'];simpa using HW.out.2.1),Kp.refl _ _⟩
 case round=>
  obtain⟨i,rfl,hi,HG,KW⟩:=hrel;have Dl:=HW.out.1.aside HW.out.2.1 Vq KW;have c0:wr.cell? _=some (.pointer (some ⟨cb,0,none⟩)):=Dl.nb.cell 0;have zc:=Dl.ch.cell
  by_cases bi:i<l.length
  ·have ep:(i:Int)<(l.length:Int):=by omega
   clear Dl
   go_wp2_with fail
   go_loopw [6] (λkv wq=>∃k:Nat,kv= .int .i64 k/\k<=list.length/\Hid (kG wq gb (mH l.length (λj=>list.any λt=>Ch.lv ol m.s t j) (λ_=>false) i ((list.take k).any λt=>Ch.lv ol m.s t i)))/\Kp (λk=>k=gb) w4 wq) (λkv _=>list.length-(intOf kv).toNat)
   case atStart=>exact⟨0,rfl,aG _,af HG.out,KW⟩
   case round=>
    obtain⟨k,rfl,hk,ZB,O⟩:=hrel
    by_cases aj:k<list.length
    ·have cn:(k:Int)<(list.length:Int):=by omega
     have ZC:=HW.out.1.aside HW.out.2.1 Vq O;have a5:=O.owns HW.out.2.2.1 (λj hj e=>aZ HW.out.2.2.1 HW.out.2.1 (by decide) (by rw[hj,e]))
     obtain⟨ti,bo⟩:∃ti,list[k]? =some ti:=⟨_,ar aj⟩
     have XB:=Wn.out ti (aM bo)
     obtain⟨t,rfl⟩:∃t:Nat,ti=t:=⟨ti.toNat,by omega⟩
     obtain⟨a,nd,rt,x,ej,Sk,cp⟩:=U.mv (t:=t) (by omega);obtain⟨g2,b6,a1,_⟩:=cR a5 (by omega);simp only[aK]at a1;obtain⟨rfl,-,rfl⟩:=a1;obtain⟨q0,q1⟩:=lU ol list k t bo;rw[db]at q0 q1;rw[ej]at q0;have z0:=(bP a5 (k*2) (by omega)).trans q0;have z1:=(bP a5 (k*2+1) (by omega)).trans q1;obtain⟨on,J,Y⟩:=ZC.on;have E:=af (wP wr B xb cb g pv m l _ ol t a _ i nd rt x on ZC.nb J Y ZC.ch U cp bi);have Dk:=af (PA bo (λt=>Ch.lv ol m.s t i));have Zk:=af O;clear ZC a5 q0 q1 J Y cp O
     go_wp2_with fail
     refine hm E ?_;rintro y w5 ⟨rfl,K5⟩;have a4:kG w5 gb _:=K5.at_ ZB.out (λx=>x);have zg:=a4.cell (k:=i) (by rw[E_];exact bi);have fg:=a4.free i
     have cr:qA (mH l.length (λj=>list.any λt=>Ch.lv ol m.s t j) (λ_=>false) i ((list.take k).any λt=>Ch.lv ol m.s t i)) i=(list.take k).any λt=>Ch.lv ol m.s t i:=by
      unfold qA;rw[lL,JM _ _ _ bi];rfl
     rw[cr]at zg
     have ui:=af (λb=>by
      have:=a4.set i b;rw[Fc]at this
      exact this)
     have Gi:=af (λb=>(Zk.out.trans' K5 (λ_ _ x=>x.elim)).setCell (p:=⟨gb,i,none⟩) (λ_=>rfl) (.bool b));clear E K5 a4 cr Zk ZB z0 z1;generalize Ch.lv ol m.s (t:Int) i=v1 at*;generalize (list.take k).any (λt=>Ch.lv ol m.s t i)=v2 at*
     cases v2
     ·go_wp2
      go_roundw
      case rel=>exact⟨k+1,by go_num,by omega,af (by rw[Dk.out];exact ui.out _),Gi.out _⟩
      case measure=>simp[intOf];omega
     go_wp2
     go_roundw
     case rel=>exact⟨k+1,by go_num,by omega,af (by rw[Dk.out];exact ui.out _),Gi.out _⟩
     case measure=>simp[intOf];omega
    have dw:¬(k:Int)<(list.length:Int):=by omega
    obtain rfl:k=list.length:=by omega
    have HN:=af (show kG wr gb _ by
     have:=ZB.out;rw[fD,BI l.length (λj=>list.any λt=>Ch.lv ol m.s t j) (λ_=>false) i]at this
     exact this)
    clear ZB HG;go_wp2
    go_roundw
    case rel=>exact⟨i+1,by go_num,by omega,HN,O⟩
    case measure=>simp[intOf];omega
  have dw:¬(i:Int)<(l.length:Int):=by omega
  obtain rfl:i=l.length:=by omega
  have bm:=Mx U.len be m.s list;rw[<-dl.out]at bm;have hG:=HG.out;rw[Fe]at hG;have KF:=HW.out.2.2.2.1.trans' KW (λi hi e=>by omega);have E1:=af (wF wr B cb l _ Dl.ch (by omega))
  have cv:=λ(k p:Nat) (hk:k<ol.ai.length)=>O1 U.kg hI left (k:=k) (p:=p) hk
  have ca:=HW.out.2.2.2.2;generalize (List.range l.length).map (λj=>list.any λt=>Ch.lv ol m.s t j)=gn at*;have HA:=af (ae Dl (ae hG (ae KF (ae bm (ae cv ca)))));clear Dl hG KF bm cv ca HW KW HG
  go_wp2_with fail
  refine hm E1 ?_;rintro z w5 ⟨u,rfl,hu,K5⟩;obtain⟨ua,uc,rfl⟩:=bn hu;have Mu:=HA.out.1.au K5;have I:=Mu.ps;unfold JL at I;rw[vH U m.s]at I;have cu:=vH U (Ch.rem ol.ai m.s left);have dO:=xe (Ch.mk l);rw[eI]at dO
  have G:∀h∈mw (Ch.mk l),h<ol.ai.length/\gY ol.ai h=true:=λh hh=>by
   rw[JK U,gP]at hh;exact⟨by simpa using hh.1,hh.2⟩
  generalize mw (Ch.mk l)=hs at*;rw[gx]at I;obtain⟨Z,pc,eg⟩:=I.len;subst eg
  obtain⟨new,aO⟩:∃f:Nat->Int,f=λe=>bN (Ch.rem ol.ai m.s left) (hs.getD e 0):=⟨_,rfl⟩
  obtain⟨D,aS⟩:∃f:Nat->Int,f=λe=>bN m.s (hs.getD e 0):=⟨_,rfl⟩
  have cs:eO w5 B2 (.slice Z hs.length pc) hs.length (aD (mH hs.length new D 0 (D 0))):=by
   rw[zr,aS,Ff hs (bN m.s)];exact I
  have ct:mH hs.length new D hs.length (D hs.length)=kD ol.ai (Ch.rem ol.ai m.s left):=by
   rw[Fe,aO,Ff hs (bN (Ch.rem ol.ai m.s left)),cu]
  have X:=af (ae Mu (ae (K5.at_ HA.out.2.1 (λx=>x):kG w5 gb gn) (ae hu (ae (HA.out.2.2.1.trans K5) (ae ct (ae G (ae aO aS)))))));have ZD:=af HA.out.2.2.2.1;have b0:=af HA.out.2.2.2.2.1;have ZE:=af HA.out.2.2.2.2.2;have bx:=af cs;clear Mu hu K5 ct G aO aS cs I cu HA E1 c0 zc
  go_wp2_with fail
  go_loopw [9] (λkv wr=>∃k:Nat,kv= .int .i64 k/\k<=hs.length/\Hid (eO wr B2 (.slice Z hs.length pc) hs.length (aD (mH hs.length new D k (D k))))/\Kp (λi=>(Value.slice Z hs.length pc).ownBlock=some i) w5 wr) (λkv _=>hs.length-(intOf kv).toNat)
  case atStart=>exact⟨0,rfl,aG _,af bx.out,Kp.refl _ _⟩
  case round=>
   obtain⟨k,rfl,hk,ZF,KR⟩:=hrel;have My:=X.out.1.nb.az KR X.out.1.px;have fW:=X.out.1.chart (KR.mono (λ_ _ e=>.inr (.inr e)));have Gc:kG _ _ _:=KR.at_ X.out.2.1 (eO.ne X.out.1.ps X.out.2.1 (by decide))
   have kh:∃on,kG wr g on/\iN l.length on m.s.act:=by
    obtain⟨on,ho,hs⟩:=X.out.1.on;exact⟨on,KR.at_ ho X.out.1.pg,hs⟩
   have c0:wr.cell? _=some (.pointer (some ⟨cb,0,none⟩)):=My.cell 0;have zc:=fW.cell
   by_cases aj:k<hs.length
   ·have cn:(k:Int)<(hs.length:Int):=by omega
    have br:=KR.owns X.out.2.2.1 (eO.apart X.out.1.ps X.out.2.2.1 (by decide))
    obtain⟨hj,Px⟩:∃hj,hs[k]? =some hj:=⟨_,ar aj⟩
    have G:=X.out.2.2.2.2.2.1 hj (aM Px)
    have ed:hj<l.length:=by rw[<-U.len];exact G.1
    have Sq:(hj:Int)<(l.length:Int):=by omega
    obtain⟨y,hy⟩:∃y,l[hj]? =some y:=⟨_,ar ed⟩
    have ba:=G.2;rw[tP G.1]at ba;have c8:=U.kg.qM.hs hj G.1 (.inl (by simpa using ba));obtain⟨p,wC,XD⟩:=U.kg.qM.Aw c8.1 G.1
    have dd:y.n.parent=p:=by rw[<-U.Aw hy];exact wC
    have ef:p<l.length:=by omega
    have eq:(p:Int)<(l.length:Int):=by omega
    obtain⟨g2,b6,a1,_⟩:=cR br (by omega);simp only[aK]at a1;obtain⟨rfl,-,rfl⟩:=a1
    have zh:wr.cell? ⟨g2,k,none⟩=some (.int .i64 hj):=by
     rw[bP br k (by omega)];simp[bI,jx,Px]
    obtain⟨g1,EE,a0,_,F,_⟩:=fW.2.1.form hy;simp only[aK]at a0;obtain⟨rfl,-,rfl⟩:=a0
    have zp:wr.cell? ⟨g1,hj*7+2,none⟩=some (.int .i64 p):=by rw[<-dd];exact F 2 (by omega)
    have E2:=af (λnn=>nT (wr.drewN nn) B cb l _ (p:Int) (fW.au ((Kp.refl _ _).drewN nn)) (by omega))
    have a6:new k=(eF ol.ai p).foldl (λc j=>if Ch.bit left p&&Ch.bit m.s.act j then gD ol.ai j else c) (D k):=by
     have:=b0.out hj p G.1 G.2 wC;rw[X.out.2.2.2.2.2.2.1,X.out.2.2.2.2.2.2.2];simp only[lL,Px,Option.getD_some];exact this
    rw[<-pd U]at a6
    obtain⟨fd,T_⟩:∃f:Int->Nat->Int,f=λc j=>if Ch.bit left p&&Ch.bit m.s.act j then gD ol.ai j else c:=⟨_,rfl⟩
    rw[<-T_]at a6;have PB:=af T_;have dq:=af a6;clear T_;have HC:=af (ae My (ae fW (ae Gc (ae kh (ae ZF.out KR)))));clear My fW Gc kh ZF KR br G ba c8 a6 F Px dd wC
    go_wp2_with fail
    go_quiet (fail)
    have dv:(wr.drewN nq).cell? _=_:=c0;clear c0 zc zh zp
    go_wp2_with fail
    refine bu (eE E2 _) ?_;rintro z w7 ⟨u7,rfl,Vs,K7⟩;obtain⟨ka,kc,rfl⟩:=bn Vs;have KD:=((Kp.refl _ _).drewN nq).trans K7
    have a9:(fq (Ch.mk l) (p:Int)).length<=16/\∀j∈fq (Ch.mk l) (p:Int),j<l.length:=by
     refine⟨bA (tN (Ch.mk l) _) (by rw[eI];exact be),λj hj=>?_⟩;have:=OL hj;rw[eI]at this;exact this
    generalize fq (Ch.mk l) (p:Int)=ks at*;obtain⟨on,J,Y⟩:=HC.out.2.2.2.1;have HD:=af (ae (HC.out.1.az KD (λx=>x):iA w7 xb cb g l.length (.slice Z hs.length pc) m) (ae (HC.out.2.1.au KD) (ae (KD.at_ HC.out.2.2.1 (λx=>x):kG w7 gb gn) (ae (KD.at_ J (λx=>x):kG w7 g on) (ae (HC.out.2.2.2.2.1.az KD (λ_ _ x=>x)) (ae (HC.out.2.2.2.2.2.trans' KD (λ_ _ x=>x.elim)) Vs))))));have b3:=af Y;have eA:=a9.1;have dj:=af a9.2;clear Vs K7 KD a9 J Y HC dv E2
    go_wp2_with fail
    go_loopw [12] (λjv wq=>∃j:Nat,jv= .int .i64 j/\j<=ks.length/\Hid (eO wq B2 (.slice Z hs.length pc) hs.length (aD (mH hs.length new D k ((ks.take j).foldl fd (D k)))))/\Kp (λi=>(Value.slice Z hs.length pc).ownBlock=some i) w7 wq) (λjv _=>ks.length-(intOf jv).toNat)
    case atStart=>exact⟨0,rfl,aG _,af HD.out.2.2.2.2.1,Kp.refl _ _⟩
    case round=>
     obtain⟨j,rfl,fk,ZG,O⟩:=hrel
     by_cases ec:j<ks.length
     ·have eJ:(j:Int)<(ks.length:Int):=by omega
      have Mz:=HD.out.2.2.2.2.1;have a7:=HD.out.1.az O (Mz.ne HD.out.1 (by decide))
      have yQ:jW wr B cb l _:=HD.out.2.1.oD O (λi cur T hi _ hT e=>by
       rcases hT with h'|h'|h'|h'<;>subst h'<;>exact Mz.ne hi (by decide) e)
      have b7:kG _ _ _:=O.at_ HD.out.2.2.1 (Mz.ne HD.out.2.2.1 (by decide));have Pv:kG _ _ _:=O.at_ HD.out.2.2.2.1 (Mz.ne HD.out.2.2.2.1 (by decide));have bc:=O.owns HD.out.2.2.2.2.2.2 (Mz.apart HD.out.2.2.2.2.2.2 (by decide))
      obtain⟨CG,mu⟩:∃CG,ks[j]? =some CG:=⟨_,ar ec⟩
      have bb:=dj.out CG (aM mu)
      have eP:(CG:Int)<(l.length:Int):=by omega
      obtain⟨x,hx⟩:∃x,l[CG]? =some x:=⟨_,ar bb⟩
      have cq:gD ol.ai CG=x.n.name:=by rw[<-U.ai];unfold Ch.ai;rw[tQ (by rw[eI];exact bb),lz hx]
      obtain⟨g3,yy,a2,_⟩:=cR bc (by omega);simp only[aK]at a2;obtain⟨rfl,-,rfl⟩:=a2
      have zk:wr.cell? ⟨g3,j,none⟩=some (.int .i64 CG):=by
       rw[bP bc j (by omega)];simp[bI,jx,mu]
      have c0:wr.cell? _=some (.pointer (some ⟨cb,0,none⟩)):=a7.cell 0;have c1:wr.cell? _=some (.slice (some ⟨g,0,none⟩) l.length l.length):=a7.cell 1;have c2:wr.cell? _=some (.slice Z hs.length pc):=a7.cell 2;have zc:=yQ.cell;obtain⟨fb,EX,XL,_,ad,_⟩:=yQ.2.1.form hx;simp only[aK,bq,dH,bS,dx]at XL;obtain⟨rfl,rfl⟩:=XL;have z0:wr.cell? ⟨g1,CG*7,none⟩=some _:=ad 0 (by omega);have zg:=b7.cell (k:=p) (by rw[ZD.out.1];exact ef);have zo:=Pv.cell (k:=CG) (by rw[b3.out.1];exact bb);rw[ZD.out.2.2 p]at zg;rw[b3.out.2.2 CG]at zo
      have ff:(p:Int)<(l.length:Int):=by omega
      have dE:(ks.take (j+1)).foldl fd (D k)=if Ch.bit left p&&Ch.bit m.s.act CG then x.n.name else(ks.take j).foldl fd (D k):=by
       rw[Mw mu fd (D k),<-cq];rw[PB.out]
      have Wp:=af (ae ZG.out O);clear a7 yQ b7 Pv bc Mz ad ZG O mu cq;generalize Ch.bit left p=b1 at*;generalize Ch.bit m.s.act CG=b2 at*
      cases b1 with
      |false=>
       have am:=af (show(ks.take (j+1)).foldl fd (D k)=(ks.take j).foldl fd (D k)from dE);clear dE
       go_upto_region 18 with(fail)
       go_quiet (fail)
       go_wp2
       go_roundw
       case rel=>exact⟨j+1,by go_num,by omega,af (by rw[am.out];exact Wp.out.1),Wp.out.2.drewN _⟩
       case measure=>simp[intOf];omega
      |true=>?_
      cases b2 with
      |false=>
       have am:=af (show(ks.take (j+1)).foldl fd (D k)=(ks.take j).foldl fd (D k)from dE);clear dE
       go_upto_region 18 with(fail)
       go_quiet (fail)
       go_wp2
       go_roundw
       case rel=>exact⟨j+1,by go_num,by omega,af (by rw[am.out];exact Wp.out.1),Wp.out.2.drewN _⟩
       case measure=>simp[intOf];omega
      |true=>?_
      have am:=af (show(ks.take (j+1)).foldl fd (D k)=x.n.name from dE);clear dE
      go_upto_region 18 with(fail)
      go_quiet (fail)
      go_upto_region 19 with(fail)
      obtain⟨a8,O⟩:=Wp.out;obtain⟨gp,e4,c9,_⟩:=a8.form (by omega);simp only[aK]at c9;obtain⟨rfl,-,rfl⟩:=c9;have ZH:eO (wr.drewN nq) B2 (.slice (some ⟨gp,0,none⟩) hs.length pc) hs.length _:=a8;have d0:(wr.drewN nq).cell? _=_:=c0;have d2:(wr.drewN nq).cell? _=_:=c2;have dc:(wr.drewN nq).cell? _=_:=zc;have dk:(wr.drewN nq).cell? _=_:=zk;have dn:(wr.drewN nq).cell? _=_:=z0;have b5:=O.drewN nq;clear c0 c1 c2 zc zk z0 zg zo a8 O Wp;generalize wr.drewN nq=w6 at*;have fp:=ZH.free k aj;have dg:=ZH.cellAt k aj;rw[show(aD (mH hs.length new D k ((ks.take j).foldl fd (D k))))[k]? =some (.int .u8 ((ks.take j).foldl fd (D k)))by simp[aD,JM _ _ _ aj]]at dg;have Vt:=ZH.stored k (.int .u8 x.n.name)
      have cV:(aD (mH hs.length new D k ((ks.take j).foldl fd (D k)))).set k (.int .u8 x.n.name)=aD (mH hs.length new D k x.n.name):=by
       rw[<-Fc new D ((ks.take j).foldl fd (D k)) x.n.name];simp[aD,List.map_set]
      rw[cV]at Vt;have HZ:=af (ae Vt (b5.setCell (p:=⟨gp,k,none⟩) (λ_=>rfl) (.int .u8 x.n.name)));clear ZH b5 Vt cV
      go_region
      have b4:=af (ae HZ.out.1 HZ.out.2.drew);clear HZ fp dg d0 d2 dc dk dn;go_wp2
      go_roundw
      case rel=>exact⟨j+1,by go_num,by omega,af (by rw[am.out];exact b4.out.1),b4.out.2⟩
      case measure=>simp[intOf];omega
     have e5:¬(j:Int)<(ks.length:Int):=by omega
     obtain rfl:j=ks.length:=by omega
     have HN:=af (show eO wr B2 (.slice Z hs.length pc) hs.length (aD (mH hs.length new D (k+1) (D (k+1))))by
      have:=ZG.out;rw[fD,<-dq.out,BI]at this
      exact this)
     have HK:=af (HD.out.2.2.2.2.2.1.trans O);clear ZG O HD;go_wp2
     go_roundw
     case rel=>exact⟨k+1,by go_num,by omega,af HN.out,HK.out⟩
     case measure=>simp[intOf];omega
   have ex:¬(k:Int)<(hs.length:Int):=by omega
   obtain rfl:k=hs.length:=by omega
   have I:JL wr B2 ol (Ch.rem ol.ai m.s left) (.slice Z hs.length pc):=by
    have:=ZF.out;have hq:=X.out.2.2.2.2.1;unfold JL;rw[<-hq,E_];exact this
   have TZ:mD wr B B2 xb cb g (.slice Z hs.length pc) (.slice ao l.length cap) l ol m1:=by rw[bt.out];exact⟨My,kh,I,fW⟩
   have cc:pM m1 N:=by rw[bt.out];exact⟨Cm _ ZE.out.ok,ZE.out.tm,ZE.out.sz⟩
   have Nz:¬nS xb g (.slice Z hs.length pc) gb:=λe=>by
    rcases e with e|e|e
    ·subst e
     have h1:=My;unfold iA at h1;unfold kG at Gc;rw[Gc]at h1;simp only[bq,dI]at h1;exact absurd h1.2.1 (by decide)
    ·exact Vq e
    exact eO.ne I Gc (by decide) e
   have XJ:=(X.out.2.2.2.1.mono (S':=nS xb g (.slice Z hs.length pc)) (λ_ _ x=>x.elim)).trans' KR (λ_ _ e=>.inr (.inr e));have HQ:=af (ae TZ (ae cc (ae Gc XJ)));have ds:=af Nz;clear TZ cc Gc XJ Nz I My fW kh KR ZF X b0 ZE bx
   go_wp2_with fail
   generalize fr:wr=w6 at*
   go_loopw [13] (λiv wr=>∃(k:Nat) (m':Ma),iv= .int .i64 ((k:Int)-1)/\k<=l.length/\Hid (cM ol left ol.ai.length m1=cM ol left k m')/\Hid (mD wr B B2 xb cb g (.slice Z hs.length pc) (.slice ao l.length cap) l ol m')/\Hid (pM m' (N+115200*(l.length-k)))/\Kp (nS xb g (.slice Z hs.length pc)) w6 wr) (λiv _=>(intOf iv+1).toNat)
   case atStart=>exact⟨l.length,m1,by go_num,aC _,af (by rw[U.len]),af HQ.out.1,af (HQ.out.2.1.le (by omega)),Kp.refl _ _⟩
   case round=>
    obtain⟨k,m',rfl,fn,HE,E8,Gk,KR⟩:=hrel
    cases k with
    |zero=>
     have HF:=af (HE.out.trans (show _=m' from rfl));clear HE c0 zc;go_wp2
     go_end0
     rw[HF.out];exact⟨rfl,E8.out,HQ.out.2.2.2.trans KR⟩
    |succ k=>?_
    have e1:((k+1:Nat):Int)-1=k:=by omega
    rw[e1]
    have e6:(0:Int)<=(k:Int):=by omega
    have e7:(k:Int)<(l.length:Int):=by omega
    have Gc:kG _ _ _:=KR.at_ HQ.out.2.2.1 ds.out;have zg:=Gc.cell (k:=k) (by rw[ZD.out.1];omega);rw[ZD.out.2.2 k]at zg
    cases q1:Ch.bit left k with
    |false=>
     rw[q1]at zg;have HF:=af (HE.out.trans (show _=cM ol left k m' by simp only[cM];rw[fC,q1];rfl));clear HE c0 zc e1 Gc q1;go_wp2
     go_roundw
     case rel=>exact⟨k,m',by go_num,by omega,HF,E8,af (Gk.out.le (by omega)),KR⟩
     case measure=>simp[intOf]
    |true=>?_
    rw[q1]at zg
    obtain⟨x,hx⟩:∃x,l[k]? =some x:=⟨_,ar (by omega)⟩
    have da:=aM hx;have a3:=U.rJ k x hx;have HF:=af (HE.out.trans (show _=cM ol left k (dN (mX (ol.eR.filter (oC k 36)) m') k false)by rw[<-BG];simp only[cM];rw[fC,q1];rfl))
    have ci:∀b∈ol.eR.filter (oC k 36),(∀a∈b.bD,uW a)/\b.bD.length<=240:=λb hb=>by
     obtain⟨_,_,eD⟩:=a3.right hb;exact⟨eD.ac,(U.ok.rY b (gP.1 hb).1).1⟩
    have ck:(ol.eR.filter (oC k 36)).length<=240:=bA (l8 _ _) U.ok.eR
    have fc:x.n.cA.length<=240:=by rw[a3.len];exact ck
    generalize ol.eR.filter (oC k 36)=fl at*;obtain⟨ra,rc,cw⟩:=bn (E8.out.ch.2.1.rJ x da);have HL:=af (ae a3 (ae ci cw));clear HE c0 zc e1 Gc q1 a3 ci ck cw
    go_wp2_with fail
    generalize fs:wr=w7 at*
    go_loopw [14] (λev wr=>∃e:Nat,ev= .int .i64 e/\e<=x.n.cA.length/\Hid (mD wr B B2 xb cb g (.slice Z hs.length pc) (.slice ao l.length cap) l ol (mX (fl.take e) m'))/\Hid (pM (mX (fl.take e) m') (N+115200*(l.length-(k+1))+480*e))/\Kp (nS xb g (.slice Z hs.length pc)) w7 wr) (λev _=>x.n.cA.length-(intOf ev).toNat)
    case atStart=>exact⟨0,rfl,aG _,E8,Gk,Kp.refl _ _⟩
    case round=>
     obtain⟨e,rfl,he,Ua,Vu,KE⟩:=hrel;have c0:wr.cell? _=some (.pointer (some ⟨cb,0,none⟩)):=Ua.out.nb.cell 0;have zc:=Ua.out.ch.cell;obtain⟨g1,EE,a0,_,F,_⟩:=Ua.out.ch.2.1.form hx;simp only[aK]at a0;obtain⟨rfl,-,rfl⟩:=a0;have z5:_=some _:=F 5 (by omega);rw[HL.out.2.2]at z5;have PC:=Ua.out.ch.2.1.rJ x da;rw[HL.out.2.2]at PC;clear F
     by_cases XE:e<x.n.cA.length
     ·have er:(e:Int)<(x.n.cA.length:Int):=by omega
      obtain⟨t,ht⟩:∃t,x.n.cA[e]? =some t:=⟨_,ar XE⟩
      obtain⟨b,hb,eD⟩:=HL.out.1.Va ht;have aI:=HL.out.2.1 b (aM hb);obtain⟨g3,yy,a2,_⟩:=cR PC (by omega);simp only[aK]at a2;obtain⟨rfl,-,rfl⟩:=a2;have zt:=(bP PC e (by omega)).trans (BH ht);have E:=af (wO wr xb cb g l.length _ _ b.bD t Ua.out.nb eD.Qy aI.1 Vu.out.ok Vu.out.tm ⟨by have:=Vu.out.sz.1;omega,by have:=Vu.out.sz.2;omega⟩ (by omega) (EY eD.Qy aI.2));have Dk:=af (zq hb m');have di:=af (qB b.bD (mX (fl.take e) m'));have Mt:=af (Vu.out.bD aI.1 aI.2);clear PC hb eD aI ht
      go_wp2_with fail
      refine hm E ?_;rintro z w8 ⟨rfl,N8,K8⟩;have X8:=af (Ua.out.bD K8 N8 di.out);have dt:=KE.trans' K8 (λ_ _ e=>.inl e);clear E N8 K8 c0 zc z5 zt;go_wp2
      go_roundw
      case rel=>exact⟨e+1,by go_num,by omega,af (by rw[Dk.out];exact X8.out),af (by rw[Dk.out];exact Mt.out.le (by omega)),dt⟩
      case measure=>simp[intOf];omega
     have e8:¬(e:Int)<(x.n.cA.length:Int):=by omega
     obtain rfl:e=x.n.cA.length:=by omega
     have XM:=Ua.out;have ap:=Vu.out;rw[HL.out.1.len,fD]at XM ap;obtain⟨cg,K9⟩:=XM.turn (i:=k) (by omega) be false;have ce:pM _ (N+115200*(l.length-k)):=(show pM _ _ from⟨nP ap.ok _ _,ap.tm,ap.sz⟩:pM (dN (mX fl m') k false) _).le (by have:=HL.out.1.len;omega);have c1:wr.cell? _=some (.slice (some ⟨g,0,none⟩) l.length l.length):=XM.nb.cell 1;obtain⟨on,J,Y⟩:=XM.on;have Gh:=J.cell (k:=k) (by rw[Y.1];omega);have e9:=J.free k;have HN:=af (ae cg (ae ce ((KR.trans KE).trans K9)));clear cg K9 ce XM ap J Y PC Ua Vu;go_wp2
     go_roundw
     case rel=>exact⟨k,_,by go_num,by omega,HF,af HN.out.1,af HN.out.2.1,HN.out.2.2⟩
     case measure=>simp[intOf]
end
namespace Ch
theorem Fg(ss:List St)(c:Int):place ss c<ss.length:=by
 grind[place,El]
theorem Su{ss:List St}(s:Sd){g:Int}(h:g<ss.length):kA ss s g<ss.length:=by
 unfold kA
 split
 ·omega
 split
 ·grind[dZ,qy,aN]
 exact Fg _ _
theorem PD(ol:Ol)(s:Sd)(t:Int):j6 ol s t<ol.ai.length:=by
 unfold j6
 split
 ·split
  ·omega
  simp_all[Su,Fg]
 omega
theorem zu{ol:Ol}{s s':Sd}(e:s'.cd=s.cd)(t:Int):j6 ol s' t=j6 ol s t:=by
 unfold j6 kA bN;rw[e]
theorem CU(ol:Ol):∀(a b:List Int) (m:Ma),fh ol (a++b) m=fh ol b (fh ol a m):=by
 intro a
 induction a with
 |nil=>intro b m;rfl
 |cons x a D=>intro b m;exact D b _
theorem Im(ol:Ol){l:List Int}{k:Nat}{t:Int}(h:l[k]? =some t)(m:Ma):fh ol (l.take (k+1)) m=dF (sE ol t.toNat) (fh ol (l.take k) m):=by
 rw[gO,h,CU];rfl
theorem pM.cA{ol:Ol}(D:ol.Ok)(E:uZ ol){m:Ma}{N:Nat}(h:pM m N)(left:List Bool)(k:Nat):pM (cM ol left k m) (N+115200*k):=
 ⟨wo _ _ _ h.ok,(jg (by omega) ol).cM E left k h.tm,wu D left k h.sz⟩
theorem pM.rem{ol:Ol}{m:Ma}{N:Nat}(h:pM m N)(left:List Bool):pM {m with s:=Ch.rem ol.ai m.s left} N:=⟨Cm _ h.ok,h.tm,h.sz⟩
end Ch
theorem mD.sM{w:World}{B B2 xb cb g:Nat}{pv v:Value}{l:List NV}{ol:Ol}{m:Ma}(h:mD w B B2 xb cb g pv v l ol m){base:Nat}{T:TypeId}{sz:Nat}{u:Value}{n:Nat}{xs:List Value}(hu:w.ownsRow base T sz u n xs)(D:T≠274)(E:T≠4)(F:T≠5):∀k,u.ownBlock=some k->¬nS xb g pv k:=λk hk e=>by
 obtain⟨on,G,_⟩:=h.on
 rcases e with e|e|e
 ·exact aZ hu h.nb D (by rw[hk,e])
 ·exact aZ hu G E (by rw[hk,e])
 exact eO.apart h.ps hu F k hk e
theorem mD.beside{w w':World}{B B2 xb cb g:Nat}{pv v:Value}{l:List NV}{ol:Ol}{m:Ma}(h:mD w B B2 xb cb g pv v l ol m){base sz:Nat}{u:Value}{n:Nat}{xs:List Value}(hu:w.ownsRow base 3 sz u n xs)(k:Kp (λi=>u.ownBlock=some i) w w'):mD w' B B2 xb cb g pv v l ol m:=by
 obtain⟨on,E,hs⟩:=h.on
 exact⟨h.nb.az k (aZ hu h.nb (by decide)),⟨on,k.at_ E (aZ hu E (by decide)),hs⟩,eO.az h.ps k (λj hj e=>eO.apart h.ps hu (by decide) j e hj),h.ch.oD k (λi cur T hi _ hT e=>by
  rcases hT with D|D|D|D<;>subst D<;>exact aZ hu hi (by decide) e)⟩
section
variable (w:World) (B B2 xb cb g:Nat) (pv v:Value) (l:List NV) (ol:Ol) (m:Ma)
theorem uL(N B3:Nat)(list:List Int)(lw:Value)(h:mD w B B2 xb cb g pv v l ol m)(G:Rf l ol)(X:Ch.Inv ol m.s)(hM:pM m N)(hN:N<=880000000)(a9:list.length<=16)(Z:wZ ol list)(O:∀t∈list,Ch.Src ol m.s t)(ap:Ch.Clear ol m.s list)(QI:w.ownsRow B3 301 2 lw list.length (gJ ol list)):
 Calls prog 206 #[.pointer (some ⟨xb,0,none⟩),lw] w λy w'=>y= .returned (.tuple #[])/\mD w' B B2 xb cb g pv v l ol (dC ol m list)/\Kp (nS xb g pv) w w':=by
 obtain⟨i0,bk,bx,b0,b1⟩:=bY lX;obtain⟨d,hd,kJ⟩:=ze;have bo:=G.le;obtain⟨la,lc,rfl⟩:=bn QI
 by_cases bm:list.length=0
 ·obtain rfl:list=[]:=List.length_eq_zero_iff.1 bm
  rw[LQ G.kg X];have HX:=af h;clear h hM QI O ap Z X
  go_enter func206,ntmps206
  go_wp2;refine bg (k9 rfl _ _ _) rfl ?_;exact⟨rfl,HX.out,Kp.refl _ _⟩
 have b4:((list.length:Int)==0)=false:=by rw[pV];omega
 have E0:=af (CT w B B2 xb cb g pv v l ol m N B3 list _ h G X hM hN a9 Z QI);have XN:=(wJ G.kg X O ap).1;have aa:xf ol m list=fh ol list _:=rfl;have am:=(hM.rem (ol:=ol) (cT ol m.s list)).cA G.ok G.z_ (cT ol m.s list) ol.ai.length;obtain⟨_,aO,bt⟩:=yW ol (cT ol m.s list) ol.ai.length {m with s:=Ch.rem ol.ai m.s (cT ol m.s list)} (by show ol.ai.length<=m.s.act.length;rw[X.la,G.len];exact bo);have bb:=(Eh G.kg X.cd X.lp (cT ol m.s list)).same aO
 have ba:(cM ol (cT ol m.s list) ol.ai.length {m with s:=Ch.rem ol.ai m.s (cT ol m.s list)}).s.cd.length=16:=by
  rw[aO];show(Ch.rem ol.ai m.s _).cd.length=16;unfold Ch.rem;rw[vg];exact X.lp
 rw[XN,aa];rw[<-Hu (λk=>L0 _ k list)];generalize cM ol (cT ol m.s list) ol.ai.length {m with s:=Ch.rem ol.ai m.s (cT ol m.s list)}=D at*;rw[G.len]at am;have I:=vD ol list D;have a6:list.map (j6 ol (fh ol list D).s)=_:=nF (λt _=>zu I.2 t);rw[a6];have Wn:=af Z;have HL:=af (ae QI (h.sM QI (by decide) (by decide) (by decide)));have HP:=af (ae bb (ae ba (ae am X)));clear h hM QI O ap Z X XN aa I a6 aO bt bb ba am
 go_enter func206,ntmps206
 go_wp2_with fail
 refine hm E0 ?_;rintro z w2 ⟨rfl,X2,K2⟩;have uq:=af (ae X2 (ae (K2.owns HL.out.1 HL.out.2) K2));clear E0 X2 K2
 go_wp2_with fail
 go_loopw [4,5] (λgv kv wr=>∃k:Nat,kv= .int .i64 k/\k<=list.length/\wr.ownsRow w2.heap.size 3 1 gv k (bI ((list.take k).map (j6 ol D.s)))/\Hid (mD wr B B2 xb cb g pv v l ol (fh ol (list.take k) D))/\Hid (pM (fh ol (list.take k) D) (N+115200*l.length+480*k))/\Kp (nS xb g pv) w2 wr) (λ_ kv _=>list.length-(intOf kv).toNat)
 case atStart=>exact⟨0,rfl,aG _,bT _ _ _ _,af uq.out.1,af HP.out.2.2.1,Kp.refl _ _⟩
 case round=>
  obtain⟨k,rfl,hk,J,Wq,Ub,KW⟩:=hrel
  by_cases br:k<list.length
  ·have b5:(k:Int)<(list.length:Int):=by omega
   obtain⟨ti,U⟩:∃ti,list[k]? =some ti:=⟨_,ar br⟩
   have XB:=Wn.out ti (aM U)
   obtain⟨t,rfl⟩:∃t:Nat,ti=t:=⟨ti.toNat,by omega⟩
   obtain⟨a,nd,rt,x,bc,Sk,F⟩:=G.mv (t:=t) (by omega);have E:=KW.owns uq.out.2.1 HL.out.2;obtain⟨g2,b3,be,_⟩:=cR E (by omega);simp only[aK]at be;obtain⟨rfl,-,rfl⟩:=be;obtain⟨q0,q1⟩:=lU ol list k t U;rw[db]at q0 q1;rw[bc]at q0;have z0:=(bP E (k*2) (by omega)).trans q0;have z1:=(bP E (k*2+1) (by omega)).trans q1;have E1:=af (BE wr B xb cb g l.length pv _ l v a _ nd rt Wq.out.nb Wq.out.ch F.lG F.xF)
   have a5:sE ol t=x.bD:=by unfold sE;rw[F.zY]
   have aS:=Im ol U D;rw[db,a5]at aS
   have a8:(list.take (k+1)).map (j6 ol D.s)=(list.take k).map (j6 ol D.s)++[j6 ol D.s t]:=by rw[gO,U,nG];rfl
   have a4:(∀a∈x.bD,uW a)/\x.bD.length<=240:=⟨F.eD.ac,(G.ok.j_ x (aM F.zY)).1⟩
   have I:=vD ol (list.take k) D;have Y:=af (ae aS (ae a8 (ae a4 (ae I (ae J KW)))));clear E q0 q1 a5 aS a8 a4 I J KW
   go_wp2_with fail
   refine hm E1 ?_;rintro y w3 ⟨rfl,K3⟩;have E2:=af (Mf w3 rt x F.eD (by have:=F.iG;omega));have Gb:=af (ae (Wq.out.au K3) (Y.out.2.2.2.2.2.trans' K3 (λ_ _ x=>x.elim)));have ad:=af (K3.owns Y.out.2.2.2.2.1 (λ_ _ x=>x));clear E1 K3 z0 z1
   go_wp2_with fail
   refine hm E2 ?_;rintro y b2 ⟨s,rfl,hs,rfl⟩;have E3:=af (wO b2 xb cb g l.length pv _ x.bD s Gb.out.1.nb hs.1 Y.out.2.2.1.1 Ub.out.ok Ub.out.tm ⟨by have:=Ub.out.sz.1;omega,by have:=Ub.out.sz.2;omega⟩ (by have:=Y.out.2.2.1.2;omega) hs.2);clear E2 hs
   go_wp2_with fail
   refine hm E3 ?_;rintro y w4 ⟨rfl,N4,K4⟩;have X4:=Gb.out.1.bD K4 N4 (qB _ _);have uS:=Gb.out.2.trans' K4 (λ_ _ e=>.inl e);have a2:=K4.owns ad.out (λj hj e=>aZ ad.out Gb.out.1.nb (by decide) (by rw[hj,e]));have M4:=Ub.out.bD Y.out.2.2.1.1 Y.out.2.2.1.2;rw[<-Y.out.1]at X4 M4;have E:=uS.owns uq.out.2.1 HL.out.2;obtain⟨q0,q1⟩:=lU ol list k t U;rw[db]at q0 q1;rw[bc]at q0;have z0:=(bP E (k*2) (by omega)).trans q0;have z1:=(bP E (k*2+1) (by omega)).trans q1;have Sw:=vD ol (list.take (k+1)) D
   have a3:Ch.Inv ol {(fh ol (list.take (k+1)) D).s with act:=m.s.act}:=⟨HP.out.2.2.2.yY,HP.out.1.same Sw.2,HP.out.2.2.2.la,by show(fh ol (list.take (k+1)) D).s.cd.length=16;rw[Sw.2];exact HP.out.2.1⟩
   have E5:=af (Ms w4 B B2 xb cb g pv {(fh ol (list.take (k+1)) D)with s:={(fh ol (list.take (k+1)) D).s with act:=m.s.act}} l v ol t a _ nd rt x X4.nb X4.ps a3 X4.ch G F);have aI:j6 ol {(fh ol (list.take (k+1)) D).s with act:=m.s.act} t=_:=zu Sw.2 t;rw[aI]at E5;have Uc:=af (ae X4 (ae M4 (ae uS a2)));clear E3 N4 K4 X4 uS a2 M4 E q0 q1 Sw a3 aI Gb ad Wq Ub
   go_wp2_with fail
   refine hm E5 ?_;rintro y w5 ⟨rfl,K5⟩;have ZI:=K5.owns Uc.out.2.2.2 (λ_ _ x=>x);have Vv:=Uc.out.2.2.1.trans' K5 (λ_ _ x=>x.elim);have X5:=Uc.out.1.au K5;have b6:=Vv.size;have Vp:=af (ae X5 (ae Vv Uc.out.2.1));have bi:=af Y.out.2.1;clear E5 K5 X5 Vv Uc Y z0 z1
   go_wp2_with (at_builtin;refine hJ (P:=prog) _ rfl (.tmp 36) (.tmp 38) 38 rfl w2.heap.size 3 i0 (.int .i64 0) 1 8 underlying38 bk bx b0 b1 rfl (by decide) u4 k (bI ((list.take k).map (j6 ol D.s))) rfl (by exact World.ownsRow.alloc ZI _) ⟨w5.heap.size,0,none⟩ 1 1 [.int .i64 (j6 ol D.s t)] rfl rfl (by exact fy _ _ _) (by intro u hu;simp at hu;subst hu;rfl) (by unfold maxLen;omega) (by omega) (by simp;omega) ?_)
   intro v' w9 o9 g9 _;have K9:=((Kp.refl (λi=>u4.ownBlock=some i) w5).alloc (.cells #[.int .i64 (j6 ol D.s t)] 3)).grown (by exact g9) (λj hj _=>hj);have X9:=Vp.out.1.beside ZI K9;have a1:=Vp.out.2.1.trans' K9 (λi hi e=>by have:=(World.ownsRow.lt ZI i e).1;omega);have HO:=af (ae o9 (ae X9 (ae a1 Vp.out.2.2)));clear o9 g9 K9 X9 a1 ZI Vp;go_wp2
   go_roundw
   case rel=>
    refine⟨k+1,by go_num,by omega,?_,af HO.out.2.1,af (HO.out.2.2.2.le (by omega)),HO.out.2.2.1⟩;rw[bi.out];have:=HO.out.1;simpa[bI]using this
   case measure=>simp[intOf];omega
  have aI:¬(k:Int)<(list.length:Int):=by omega
  obtain rfl:k=list.length:=by omega
  have ao:=Wq.out;have aj:=Ub.out;rw[fD]at ao aj J
  have a7:∀x∈list.map (j6 ol D.s),x<(l.length:Int):=λx hx=>by
   obtain⟨t,_,rfl⟩:=ib.1 hx;rw[<-G.len];exact PD _ _ _
  have E6:=af (uh wr B B2 xb cb g pv v l ol _ (N+115200*l.length+480*list.length) w2.heap.size (list.map (j6 ol D.s)) u4 ao G aj (by omega) (by simpa using a9) a7 (by rw[gx];exact J));have HK:=af (uq.out.2.2.trans KW);clear ao aj J a7 Wq Ub KW
  go_wp2_with fail
  refine hm E6 ?_;rintro y w7 ⟨rfl,X7,K7⟩;have a0:=af (ae X7 (HK.out.trans K7));clear E6 X7 K7 HK;go_wp2
  go_end0
  exact⟨rfl,a0.out.1,a0.out.2⟩
end
namespace Ch
def QB(m:Ma):Prop:=∀a∈m.q,0<=a/\a<256
theorem QB.push{m:Ma}(h:QB m){c:Int}(E:0<=c)(F:c<256):QB {m with q:=m.q++[c]}:=by
 intro a D
 rcases cB.1 D with D|D
 ·exact h a D
 simp_all
theorem QB.act{m:Ma}(h:QB m){a:Ac}(D:uW a):QB (bW m a).2:=by
 unfold bW
 split
 ·exact h.push (by have:=D.byte;omega) (by have:=D.byte;omega)
 split
 ·exact h
 split
 ·exact h
 split
 ·exact h
 exact h
theorem QB.bD:∀(l:List Ac) {m:Ma},QB m->(∀a∈l,uW a)->QB (dF l m):=by
 intro l
 induction l with
 |nil=>intro m D _;exact D
 |cons a l G=>?_
 intro m D F;simp only[dF];have E:=D.act (F a (by simp))
 split
 ·simp_all
 exact E.push (by omega) (by omega)
theorem QB.eR{k:Nat}{sg:Int}(E:sg=94\/sg=36):∀(l:List Bl) {m:Ma},(∀b∈l,∀k:Nat,∀sg:Int,b.state=k->b.sign=sg->(sg=94\/sg=36)->∀a∈b.bD,uW a)->QB m->QB (d_ k sg l m):=by
 intro l
 induction l with
 |nil=>intro m _ D;exact D
 |cons b l G=>?_
 intro m F D;simp only[d_];refine G (λb hb=>F b (by simp[hb])) ?_
 split
 ·rename_i c
  simp only[gy,beq_iff_eq]at c;exact D.bD _ (F b (by simp) k sg c.1 c.2 E)
 omega
def Sy(ol:Ol):Prop:=∀k,0<=gD ol.ai k/\gD ol.ai k<256
theorem QB.dA{ol:Ol}(D:Sy ol)(F:uZ ol){m:Ma}(G:QB m)(k:Nat):QB (dA ol m k):=by
 have E:QB (d_ k 94 ol.eR (dN m k true)):=QB.eR (k:=k) (.inl rfl) ol.eR F.bl G;unfold Ch.dA
 split
 ·unfold gU
  split
  ·exact E
  split
  ·exact(E.push (D _).1 (D _).2).push (D _).1 (D _).2
  exact E.push (D _).1 (D _).2
 exact E
theorem QB.oH{ol:Ol}(F:Sy ol)(E:uZ ol):∀(l:List Nat) {m:Ma},QB m->QB (oH ol l m):=by
 intro l
 induction l with
 |nil=>intro m D;exact D
 |cons a l G=>?_
 intro m D;simp only[Ch.oH];refine G ?_
 split
 ·exact D
 exact D.dA F E a
theorem QB.eB{ol:Ol}(G:Sy ol)(F:uZ ol)(st:List Bool)(E:List Int):∀(f k:Nat) {m:Ma},QB m->QB (eB ol st E f k m):=by
 intro f
 induction f with
 |zero=>intro k m D;exact D
 |succ f I=>?_
 intro k m D;simp only[Ch.eB];refine I _ ?_
 split
 ·exact D.dA G F k
 exact D
theorem QB.cM{ol:Ol}(E:uZ ol)(left:List Bool):∀(k:Nat) {m:Ma},QB m->QB (cM ol left k m):=by
 intro k
 induction k with
 |zero=>intro m D;exact D
 |succ k F=>?_
 intro m D;simp only[Ch.cM];refine F ?_
 split
 ·exact(QB.eR (k:=k) (.inr rfl) ol.eR E.bl D:QB (d_ k 36 ol.eR m))
 exact D
theorem QB.fh{ol:Ol}(E:uZ ol):∀(l:List Int) {m:Ma},QB m->QB (fh ol l m):=by
 intro l
 induction l with
 |nil=>intro m D;exact D
 |cons x l G=>?_
 intro m D;simp only[Ch.fh];refine G (D.bD _ ?_);unfold sE
 split
 ·rename_i y F;exact E.tr y (aM F)
 simp
theorem QB.dC{ol:Ol}(E:Sy ol)(D:uZ ol){m:Ma}(F:QB m)(l:List Int):QB (dC ol m l):=
 QB.eB E D _ _ _ _ (QB.fh D l (QB.cM D _ _ (m:={m with s:=Ch.rem ol.ai m.s (cT ol m.s l)}) F))
theorem pM.dC{ol:Ol}(D:ol.Ok)(E:uZ ol){m:Ma}{N:Nat}(h:pM m N){l:List Int}(F:l.length<=16):pM (dC ol m l) (N+3900000):=
 ⟨sJ h.ok l,(jg (by omega) ol).dC E h.tm l,qq D h.sz F⟩
theorem PE{a:Int}{q:List Int}(D:0<=a)(E:a<256):ag (strOfNums (a::q)) 0=a:=by
 have hs:(strOfNums (a::q)).size=q.length+1:=by rw[cC];rfl
 unfold ag;rw[dif_pos (by omega)];show((UInt8.ofNat a.toNat).toNat:Int)=a;simp_all<;>omega
theorem PF(a:Int)(q:List Int):(strOfNums (a::q)).extract 1 (strOfNums (a::q)).size=strOfNums q:=by
 apply ky;rw[cC];simp[strOfNums,ByteArray.data_extract];exact List.take_of_length_le (by simp)
theorem PG(a:Int)(q:List Int):strOfNums (a::q)≠⟨#[]⟩:=λe=>by
 have:=gr ByteArray.size e;rw[cC]at this;simp[ByteArray.size]at this
theorem PH{ol:Ol}{m:Ma}(D:(choose ol m.s 46).length=0)(E:m.q=[]):busy ol m=false:=by unfold busy;rw[D,E];rfl
theorem Vw{ol:Ol}{m:Ma}{a:Int}{q:List Int}(D:m.q=a::q):busy ol m=true:=by unfold busy;rw[D];simp
theorem Vx{ol:Ol}{m:Ma}(D:(choose ol m.s 46).length≠0):busy ol m=true:=by unfold busy;simp;omega
theorem xl{ol:Ol}{m:Ma}(h:busy ol m=false)(n:Nat):cI ol n m=(true,m):=by
 cases n with
 |zero=>grind[cI]
 |succ n=>grind[cI]
theorem CV{ol:Ol}{m:Ma}(h:busy ol m=true):cI ol 0 m=(false,m):=by simp only[cI,h];rfl
theorem MD{ol:Ol}{m:Ma}{a:Int}{q:List Int}(D:(choose ol m.s 46).length=0)(E:m.q=a::q)(n:Nat):cI ol (n+1) m=cI ol n (dC ol {m with q:=q} (choose ol m.s a)):=by
 grind[cI,Vw,round]
theorem ME{ol:Ol}{m:Ma}(D:(choose ol m.s 46).length≠0)(n:Nat):cI ol (n+1) m=cI ol n (dC ol m (choose ol m.s 46)):=by
 grind[cI,Vx,round,choose]
end Ch
theorem Rf.SC{l:List NV}{ol:Ol}(h:Rf l ol):Sy ol:=λk=>by
 by_cases hk:k<l.length
 ·obtain⟨x,E⟩:∃x,l[k]? =some x:=⟨_,ar hk⟩
  have D:gD ol.ai k=x.n.name:=by rw[<-h.ai];grind[Ch.ai,tQ,eI,lz]
  have:=h.nm k x E;omega
 unfold gD;rw[List.getElem?_eq_none (by rw[h.len];omega)];simp
section
variable (B B2 xb cb g:Nat) (pv v:Value) (l:List NV) (ol:Ol)
theorem zv(G:Rf l ol):∀(n:Nat) (w:World) (m:Ma) (N:Nat),mD w B B2 xb cb g pv v l ol m->Ch.Inv ol m.s->pM m N->QB m->N+3900000*n<=880000000->
 Calls prog 203 #[.pointer (some ⟨xb,0,none⟩),.int .i64 n] w λy w'=>y= .returned (.bool (cI ol n m).1)/\mD w' B B2 xb cb g pv v l ol (cI ol n m).2/\Kp (nS xb g pv) w w':=by
 intro n
 induction n with
 |zero=>
  intro w m N h hI Z hQ hN;obtain⟨on,I,J⟩:=h.on;have Y:=af (pe w B xb cb g pv m l v ol 46 on h.nb I J hI h.ch G);have F:=kT G.ok m.s 46;have c7:w.cell? _=some (.string (strOfNums m.q)):=h.nb.cell 7;have O:=af h
  cases qb:Ch.busy ol m with
  |false=>
   have E:(Ch.choose ol m.s 46).length=0:=by unfold Ch.busy at qb;simp at qb;simp[qb.1]
   have X:m.q=[]:=by unfold Ch.busy at qb;simp at qb;exact qb.2
   have HN:=af (xl qb 0);rw[X]at c7;replace c7:w.cell? ⟨xb,7,none⟩=some (.string ⟨#[]⟩):=c7;rw[E]at Y;clear h hI Z hQ I J X F E qb
   go_enter func203,ntmps203
   go_wp2_with fail
   refine hm Y ?_;rintro y w2 ⟨u,rfl,hu,D⟩;obtain⟨ua,uc,rfl⟩:=bn hu;have d7:=D.bX c7;have uq:=af (ae (O.out.au D) D);clear Y hu D c7 O;go_wp2;go_ret;rw[HN.out];exact⟨rfl,uq.out.1,uq.out.2.mono (λ_ _ x=>x.elim)⟩
  |true=>?_
  have HN:=af (CV qb)
  have aO:(Ch.choose ol m.s 46).length≠0\/strOfNums m.q≠⟨#[]⟩:=by
   cases X:m.q with
   |nil=>left;unfold Ch.busy at qb;rw[X]at qb;simp at qb;omega
   |cons a q=>right;exact PG a q
  generalize strOfNums m.q=S at*;generalize (Ch.choose ol m.s 46).length=cl at*;have a2:=Y.out;generalize gJ ol (Ch.choose ol m.s 46)=mc at*;have E1:=af a2;clear h hI Z hQ I J qb Y a2
  have bi:(cl:Int)<=16:=by omega
  by_cases c:cl=0
  ·subst c
   have hS:S≠⟨#[]⟩:=by rcases aO with h|h;exact absurd rfl h;exact h
   have bb:S.toList.isEmpty=false:=by rw[<-decide_eq_emptyBytes];exact e_ hS
   clear aO F
   go_enter func203,ntmps203
   go_wp2_with fail
   refine hm E1 ?_;rintro y w2 ⟨u,rfl,hu,D⟩;obtain⟨ua,uc,rfl⟩:=bn hu;have d7:=D.bX c7;have uq:=af (ae (O.out.au D) D);clear E1 hu D c7 O;go_wp2;go_ret;rw[HN.out];exact⟨rfl,uq.out.1,uq.out.2.mono (λ_ _ x=>x.elim)⟩
  have c':((cl:Int)==0)=false:=by rw[pV];omega
  clear aO
  go_enter func203,ntmps203
  go_wp2_with fail
  refine hm E1 ?_;rintro y w2 ⟨u,rfl,hu,D⟩;obtain⟨ua,uc,rfl⟩:=bn hu;have d7:=D.bX c7;have uq:=af (ae (O.out.au D) D);clear E1 hu D c7 O;go_wp2;go_ret;rw[HN.out];exact⟨rfl,uq.out.1,uq.out.2.mono (λ_ _ x=>x.elim)⟩
 |succ n ih=>?_
 intro w m N h hI Z hQ hN;obtain⟨on,I,J⟩:=h.on;have Y:=af (pe w B xb cb g pv m l v ol 46 on h.nb I J hI h.ch G);have F:=kT G.ok m.s 46;have c7:w.cell? _=some (.string (strOfNums m.q)):=h.nb.cell 7
 obtain⟨nn,a5⟩:∃x:Int,x=((n+1:Nat):Int):=⟨_,rfl⟩
 rw[<-a5]
 have am:nn-1=n:=by omega
 have bo:(nn==0)=false:=by rw[pV];omega
 have br:1<=nn:=by omega
 have bt:nn<=1000:=by omega
 clear a5
 by_cases E:(Ch.choose ol m.s 46).length=0
 ·cases X:m.q with
  |nil=>
   have HN:=af (xl (PH E X) (n+1));rw[X]at c7;replace c7:w.cell? ⟨xb,7,none⟩=some (.string ⟨#[]⟩):=c7;have O:=af h;rw[E]at Y;clear h hI Z hQ I J X F ih E
   go_enter func203,ntmps203
   go_wp2_with fail
   refine hm Y ?_;rintro y w2 ⟨u,rfl,hu,D⟩;obtain⟨ua,uc,rfl⟩:=bn hu;have d7:=D.bX c7;have uq:=af (ae (O.out.au D) D);clear Y hu D c7 O;go_wp2;go_ret;rw[HN.out];exact⟨rfl,uq.out.1,uq.out.2.mono (λ_ _ x=>x.elim)⟩
  |cons a q=>
   have aI:=hQ a (by rw[X];simp);have Ud:=kT G.ok m.s a;have HN:=af (MD E X n)
   have ap:pM {m with q:=q} N:=⟨Z.ok,Z.tm,⟨by have:=Z.sz.1;rw[X]at this;show q.length<=N;simp at this;omega,Z.sz.2⟩⟩
   have a3:QB {m with q:=q}:=λx hx=>hQ x (by rw[X];exact pU _ hx)
   have aj:Ch.Inv ol ({m with q:=q}:Ma).s:=hI;have aa:=qD G.kg aj a;have ad:=(kS ol m.s a).1;have Mt:=af (ae (ap.dC G.ok G.z_ Ud) (ae (a3.dC G.SC G.z_ (Ch.choose ol m.s a)) (j5 G.kg aj a)));rw[X]at c7
   have ba:0<(strOfNums (a::q)).size:=by rw[cC];simp
   have Cn:(strOfNums (a::q)).size<=880000001:=by
    have:=Z.sz.1;rw[X]at this;rw[cC];omega
   have bb:(strOfNums (a::q)).toList.isEmpty=false:=by rw[<-decide_eq_emptyBytes];exact e_ (PG a q)
   have a6:(((strOfNums (a::q))[0]'ba).toNat:Int)=a:=by
    have:=PE (q:=q) aI.1 aI.2;unfold ag at this;rw[dif_pos ba]at this;exact this
   have a7:=PF a q;have O:=af (ae h (ae ap aj));have Vy:=af (ae aa ad);have QE:=af ih;rw[E]at Y;generalize strOfNums (a::q)=S at*
   have bm:(0:Int)<(S.size:Int):=by omega
   have bk:(1:Int)<=(S.size:Int):=by omega
   have a9:=af a7;have a8:=af a6;have XO:=af hN;have ao:=af am;clear h hI Z hQ I J X F ih E ap a3 aj aa ad a7 a6 hN am aI
   go_enter func203,ntmps203
   go_wp2_with fail
   refine hm Y ?_;rintro y w2 ⟨u,rfl,hu,D⟩;obtain⟨ua,uc,rfl⟩:=bn hu;have d7:=D.bX c7;have U:=O.out.1.au D;have f7:=U.nb.free 7;have K3:Kp (λk=>k=xb) w2 (w2.setCell ⟨xb,7,none⟩ (.string (strOfNums q))):=(Kp.refl _ _).setCell (by intro _;rfl) _;have a4:=U.bD K3 (U.nb.GI q) (kO.refl _);have Gb:=af (ae a4 ((D.mono (S':=nS xb g pv) (λ_ _ x=>x.elim)).trans' K3 (λ_ _ e=>.inl e)));clear Y hu D c7 U a4 K3
   go_wp2_with fail
   rw[a9.out,a8.out];generalize w2.setCell ⟨xb,7,none⟩ (.string (strOfNums q))=w3 at*;obtain⟨bc,XP,XQ⟩:=Gb.out.1.on;have E1:=af (pe w3 B xb cb g pv _ l v ol a bc Gb.out.1.nb XP XQ O.out.2.2 Gb.out.1.ch G);clear XP XQ d7 f7;replace E1:Hid (Calls prog 205 #[.pointer (some ⟨xb,0,none⟩),.int .u8 a] w3 λy w'=>∃u,y= .returned u/\w'.ownsRow w3.heap.size 301 2 u (Ch.choose ol m.s a).length (gJ ol (Ch.choose ol m.s a))/\Kp (λ_=>False) w3 w'):=E1;generalize Ch.choose ol m.s a=cs at*;refine hm E1 ?_;rintro y w4 ⟨u4,rfl,Vz,K4⟩;obtain⟨bx,b0,rfl⟩:=bn Vz;have TY:=Gb.out.1.au K4;have E2:=af (uL w4 B B2 xb cb g pv v l ol _ N _ cs _ TY G O.out.2.2 O.out.2.1 (by have:=XO.out;omega) Ud Vy.out.2 Vy.out.1.2 Vy.out.1.1 Vz);have XR:=af (Gb.out.2.trans' K4 (λ_ _ x=>x.elim));clear E1 Vz K4 O TY Gb
   go_wp2_with fail
   refine hm E2 ?_;rintro y w5 ⟨rfl,X5,K5⟩;have E3:=af (QE.out w5 _ _ X5 Mt.out.2.2 Mt.out.1 Mt.out.2.1 (by have:=XO.out;omega));have Gi:=af (XR.out.trans K5);clear E2 X5 K5 XR QE;rw[<-HN.out]at E3
   go_wp2_with fail
   rw[ao.out];refine hm E3 ?_;rintro y w6 ⟨rfl,X6,K6⟩;have a1:=af (ae X6 (Gi.out.trans K6));clear E3 X6 K6 Gi;go_wp2;go_ret;exact⟨rfl,a1.out.1,a1.out.2⟩
 have be:(((Ch.choose ol m.s 46).length:Int)==0)=false:=by rw[pV];omega
 have HN:=af (ME E n);have aa:=qD G.kg hI 46;have ad:=(kS ol m.s 46).1;have Mt:=af (ae (Z.dC G.ok G.z_ F) (ae (hQ.dC G.SC G.z_ (Ch.choose ol m.s 46)) (j5 G.kg hI 46)));have HH:=af (ae h (ae hI Z));have Vy:=af (ae aa ad);have QE:=af ih;generalize Ch.choose ol m.s 46=cs at*;generalize strOfNums m.q=S at c7;have XO:=af hN;have ao:=af am;clear hN am;clear h hI Z hQ I J ih aa ad E
 go_enter func203,ntmps203
 go_wp2_with fail
 refine hm Y ?_;rintro y w2 ⟨u,rfl,hu,D⟩;obtain⟨ua,uc,rfl⟩:=bn hu;have d7:=D.bX c7;have U:=HH.out.1.au D;have E1:=af (uL w2 B B2 xb cb g pv v l ol m N _ cs _ U G HH.out.2.1 HH.out.2.2 (by have:=XO.out;omega) F Vy.out.2 Vy.out.1.2 Vy.out.1.1 hu);have aS:=af D;clear Y hu D c7 HH U
 go_wp2_with fail
 refine hm E1 ?_;rintro y w3 ⟨rfl,X3,K3⟩;have E2:=af (QE.out w3 _ _ X3 Mt.out.2.2 Mt.out.1 Mt.out.2.1 (by have:=XO.out;omega));have a0:=af ((aS.out.mono (S':=nS xb g pv) (λ_ _ x=>x.elim)).trans K3);clear E1 X3 K3 d7 aS QE;rw[<-HN.out]at E2
 go_wp2_with fail
 rw[ao.out];refine hm E2 ?_;rintro y w4 ⟨rfl,X4,K4⟩;have Uc:=af (ae X4 (a0.out.trans K4));clear E2 X4 K4 a0;go_wp2;go_ret;exact⟨rfl,Uc.out.1,Uc.out.2⟩
end
section
variable {P:Program} {a:Act} {w:World} {Q:Exit->Act->World->Prop}
theorem Fh(l:Array Bool)(i j:Nat):(l.setIfInBounds j true).setIfInBounds i true=(l.setIfInBounds i true).setIfInBounds j true:=by
 grind
theorem MG(a:Act){x y:Tmp}(u v:Value)(h:x≠y):(a.put (some y) u).put (some x) v=(a.put (some x) v).put (some y) u:=
 (Act.put_comm a (x:=some x) (y:=some y) v u (λ_ hd hd'=>h ((Option.some.inj hd).trans (Option.some.inj hd').symm))).symm
theorem VB{S:World->Prop}{E:Array Oper}(i j c:Nat){J U O:Oper}{F:Nat}{D:Array Bool}(I G X:Tmp)(v u x:Value)(w':World)(ap:I≠G)(am:I≠X)
 (hr:Region.ready .any E D=[i,j]) (aO:Region.ready .any E (D.setIfInBounds i true)=[j]) (aS:Region.ready .any E (D.setIfInBounds j true)=[i,c]) (a0:Region.ready .any E ((D.setIfInBounds i true).setIfInBounds j true)=[c]) (a1:Region.ready .any E ((D.setIfInBounds j true).setIfInBounds c true)=[i])
 (hi:E[i]? =some J) (hj:E[j]? =some U) (hc:E[c]? =some O) (Y:J.guard=none) (Z:U.guard=none) (aI:O.guard=none) (ao:J.dst=some I) (aa:U.dst=some G) (ad:O.dst=some X)
 (r1:(execOp a.eval J).run P w= .ok (.value v) w) (r2:(execOp (a.put (some I) v).eval U).run P w= .ok (.value u) w') (r3:(execOp a.eval U).run P w= .ok (.value u) w') (r4:(execOp (a.put (some G) u).eval J).run P w'= .ok (.value v) w')
 (r5:(execOp ((a.put (some I) v).put (some G) u).eval O).run P w'= .ok (.value x) w') (r6:(execOp (a.put (some G) u).eval O).run P w'= .ok (.value x) w') (r7:(execOp ((a.put (some G) u).put (some X) x).eval J).run P w'= .ok (.value v) w')
 (hS:S w) (aj:S w') (h:wpAnyH P .any E (NoPanic Q) S F (((D.setIfInBounds i true).setIfInBounds j true).setIfInBounds c true) (((a.put (some I) v).put (some G) u).put (some X) x) w'):wpAnyH P .any E (NoPanic Q) S (F+1+1+1) D a w:=by
 refine Co i j hr hi hj Y Z ?_ ?_
 ·grind[Nt,vn]
 grind[Nt,Co,Fh,MG,vn]
end
section
variable (w:World) (B B2 xb cb g:Nat) (pv v:Value) (l:List NV) (ol:Ol) (m:Ma)
theorem zw(h:mD w B B2 xb cb g pv v l ol m)(hR:Rf l ol)(_hI:Ch.Inv ol m.s):
 Calls prog 204 #[.pointer (some ⟨xb,0,none⟩)] w λy w'=>y= .returned (.agg (dX (bV ol.ai m.s)))/\Kp (λ_=>False) w w':=by
 have ba:=hR.le;obtain⟨ao,cap,rfl⟩:=h.ch.2.1.len;obtain⟨pa,pc,a3⟩:=eO.len h.ps;have K1:Kp (λ_=>False) w (w.alloc (.cells ig 26)):=(Kp.refl _ _).alloc _;have a5:=an w (.cells ig 26);have I:=h.au K1;clear h
 go_enter func204,ntmps204
 go_upto_region 1 with(fail)
 generalize w.alloc (.cells ig 26)=E at*;generalize sr:w.heap.size=ob at*;have c2:_=some pv:=I.nb.cell 2;have c3:E.cell? _=some (.string m.s.tm):=I.nb.cell 3;have c4:E.cell? _=some (.int .i64 m.s.x):=I.nb.cell 4;have c5:E.cell? _=some (.int .i64 m.s.y):=I.nb.cell 5;have c6:E.cell? _=some (.int .i64 m.s.z):=I.nb.cell 6;rw[a3]at c2
 have O:=λ(w':World) (F:Kp (λ_=>False) E w')=>eO.text (show eO w' B2 (.slice pa (kD ol.ai m.s).length pc) (kD ol.ai m.s).length (aD (kD ol.ai m.s))by
  have:=I.ps;unfold JL at this;rw[a3]at this
  exact this.az F (λ_ _ x=>x))
 have HX:=af I;clear I;generalize (kD ol.ai m.s).length=pn at*;generalize a2:strOfNums (kD ol.ai m.s)=Y at*;have a4:=af a2;clear a2;have D:Kp (λ_=>False) E _:=(Kp.refl _ _).drew;have G:Kp _ _ (E.drew.alloc (.cells ig 26)):=D.alloc _;have U:Kp _ _ ((E.drew.alloc (.cells ig 26)).setRow E.heap.size #[.string ⟨#[]⟩,.string Y,.string m.s.tm,.int .i64 m.s.x,.int .i64 m.s.y,.int .i64 m.s.z]):=G.setRow (λx=>absurd x (by omega)) _;refine bf (λw'=>Kp (λ_=>False) E w') (by kernel_rfl) ?_;refine bM 0 5 (.pointer (some ⟨xb,0,none⟩)) D ?_;refine bM 1 6 (.pointer (some ⟨xb,0,none⟩)) D ?_;refine bM 2 7 (.pointer (some ⟨xb,2,none⟩)) D ?_;refine eG 3 8 (.slice pa pn pc) rfl (λw' F=>by have:=F.bX c2;simp[execOp,Act.eval,go_sem,this]) D ?_;refine eG 4 9 (.string Y) rfl (λw' F=>nu 47 9 (.tmp 8) rfl (.slice pa pn pc) (.string Y) (by simp[Act.eval]) (O w' F)) D ?_;refine bM 5 10 (.pointer (some ⟨xb,0,none⟩)) D ?_;refine bM 6 11 (.pointer (some ⟨xb,0,none⟩)) D ?_;refine bM 7 12 (.pointer (some ⟨xb,3,none⟩)) D ?_;refine eG 8 13 (.string m.s.tm) rfl (λw' F=>by have:=F.bX c3;simp[execOp,Act.eval,go_sem,this]) D ?_;refine bM 9 14 (.pointer (some ⟨xb,0,none⟩)) D ?_;refine bM 10 15 (.pointer (some ⟨xb,0,none⟩)) D ?_;refine bM 11 16 (.pointer (some ⟨xb,4,none⟩)) D ?_;refine bM 12 17 (.pointer (some ⟨xb,4,none⟩)) D ?_;refine eG 13 18 (.int .i64 m.s.x) rfl (λw' F=>by have:=F.bX c4;simp[execOp,Act.eval,go_sem,this]) D ?_;refine bM 14 19 (.pointer (some ⟨xb,0,none⟩)) D ?_;refine bM 15 20 (.pointer (some ⟨xb,0,none⟩)) D ?_;refine bM 16 21 (.pointer (some ⟨xb,4,none⟩)) D ?_;refine bM 17 22 (.pointer (some ⟨xb,5,none⟩)) D ?_;refine eG 18 23 (.int .i64 m.s.y) rfl (λw' F=>by have:=F.bX c5;simp[execOp,Act.eval,go_sem,this]) D ?_;refine bM 19 24 (.pointer (some ⟨xb,0,none⟩)) D ?_;refine bM 20 25 (.pointer (some ⟨xb,0,none⟩)) D ?_;refine bM 21 26 (.pointer (some ⟨xb,4,none⟩)) D ?_;refine bM 22 27 (.pointer (some ⟨xb,6,none⟩)) D ?_;refine eG 23 28 (.int .i64 m.s.z) rfl (λw' F=>by have:=F.bX c6;simp[execOp,Act.eval,go_sem,this]) D ?_
 refine eG 24 29 (.agg #[.string ⟨#[]⟩,.string Y,.string m.s.tm,.int .i64 m.s.x,.int .i64 m.s.y,.int .i64 m.s.z]) rfl (λw' _=>fA 26 _ rfl #[.string ⟨#[]⟩,.string Y,.string m.s.tm,.int .i64 m.s.x,.int .i64 m.s.y,.int .i64 m.s.z] [(1,.string Y),(2,.string m.s.tm),(3,.int .i64 m.s.x),(4,.int .i64 m.s.y),(5,.int .i64 m.s.z)] (by simp[Act.eval]) (by kernel_rfl)) D ?_;refine oX 25 ?_;refine Nt (some 3) rfl (.pointer (some ⟨E.heap.size,0,none⟩)) (E.drew.alloc (.cells ig 26)) (by simp[execOp,go_sem]) ?_;simp only[Act.put,pA,pB,pC];refine⟨G,?_⟩;refine cK 26 (by kernel_rfl) rfl rfl 26 (.tmp 3) (.tmp 29) rfl rfl E.heap.size #[.string ⟨#[]⟩,.string Y,.string m.s.tm,.int .i64 m.s.x,.int .i64 m.s.y,.int .i64 m.s.z] (by simp[Act.eval]) (by simp[Act.eval]) 26 ig (an E.drew _) eC rfl (mU ⟨⟨#[]⟩,Y,m.s.tm,m.s.x,m.s.y,m.s.z⟩) U ?_;refine bF (by kernel_rfl) (bG ?_) _;have am:=af (ae (ax (E.drew.alloc (.cells ig 26)) E.heap.size ig #[.string ⟨#[]⟩,.string Y,.string m.s.tm,.int .i64 m.s.x,.int .i64 m.s.y,.int .i64 m.s.z] 26 (0,0) (an E.drew _)) U);clear O c2 c3 c4 c5 c6 D G U;generalize (E.drew.alloc (.cells ig 26)).setRow E.heap.size #[.string ⟨#[]⟩,.string Y,.string m.s.tm,.int .i64 m.s.x,.int .i64 m.s.y,.int .i64 m.s.z]=w2 at*;generalize bb:E.heap.size=sb at*
 go_wp2_with fail
 go_loopw [4] (λkv wr=>∃k:Nat,kv= .int .i64 k/\k<=l.length/\Hid (wr.heap[sb]? =some (.cells #[.string (strOfNums (iU ol.ai m.s k)),.string Y,.string m.s.tm,.int .i64 m.s.x,.int .i64 m.s.y,.int .i64 m.s.z] 26))/\Kp (λ_=>False) E wr) (λkv _=>l.length-(intOf kv).toNat)
 case atStart=>exact⟨0,rfl,aG _,af am.out.1,am.out.2⟩
 case round=>
  obtain⟨k,rfl,hk,HB,KW⟩:=hrel;have hX:=HX.out.au KW;obtain⟨on,ad,aa⟩:=hX.on;have d0:wr.cell? _=some (.pointer (some ⟨cb,0,none⟩)):=hX.nb.cell 0;have d1:wr.cell? _=some (.slice (some ⟨g,0,none⟩) l.length l.length):=hX.nb.cell 1;have zd:=hX.ch.cell
  by_cases a0:k<l.length
  ·have a1:(k:Int)<(l.length:Int):=by omega
   have Gh:=ad.cell (k:=k) (by have:=aa.1;omega);have J:=A0 ol.ai m.s k;rw[fC,<-aa.2.2 k]at J;have a8:=vf ol.ai m.s k
   cases qo:qA on k with
   |false=>
    rw[qo]at Gh J;have HA:=af (show iU ol.ai m.s (k+1)=iU ol.ai m.s k by rw[J];simp);clear hX ad aa J;go_wp2
    go_roundw
    case rel=>exact⟨k+1,by go_num,by omega,af (by rw[HA.out];exact HB.out),KW⟩
    case measure=>simp[intOf];omega
   |true=>?_
   rw[qo]at Gh J
   obtain⟨y,hy⟩:∃y,l[k]? =some y:=⟨_,ar a0⟩
   have a6:gD ol.ai k=y.n.name:=by rw[<-hR.ai];unfold Ch.ai;rw[tQ (by rw[eI];exact a0),lz hy]
   rw[a6]at J;have I:=HX.out;have c0:E.cell? _=some (.pointer (some ⟨cb,0,none⟩)):=I.nb.cell 0;have zc:=I.ch.cell;obtain⟨g1,EE,hv,_,Z,_⟩:=I.ch.2.1.form hy;simp only[aK]at hv;obtain⟨rfl,-,rfl⟩:=hv;have v0:E.cell? ⟨g1,k*7,none⟩=some _:=Z 0 (by omega);have X:=HB.out
   have s0:wr.cell? ⟨sb,0,none⟩=some (.string (strOfNums (iU ol.ai m.s k))):=by rw[World.cell?,X];rfl
   have dE:∀o (u:ByteArray),(((wr.drew.alloc o).setCell ⟨sb,0,none⟩ (.string u))).heap[sb]? =some (.cells #[.string u,.string Y,.string m.s.tm,.int .i64 m.s.x,.int .i64 m.s.y,.int .i64 m.s.z] 26):=λo u=>by
    have I:=(((Kp.refl (λ_=>False) wr).drew).alloc o).at_ X (λx=>x);rw[ak _ I];rfl
   have SD:=λo=>((Kp.refl (λ_=>False) wr).alloc o).bX s0
   have XS:∀o,(wr.alloc o).frozen? ⟨sb,0,none⟩=false:=λo=>by
    have I:=((Kp.refl (λ_=>False) wr).alloc o).at_ X (λx=>x);simp[World.frozen?,I]
   have HA:=af (show strOfNums (iU ol.ai m.s (k+1))=strOfNums (iU ol.ai m.s k)++strOfNums [y.n.name]by rw[J,<-jX];simp)
   have a7:(strOfNums (iU ol.ai m.s k)).size<=16:=by rw[cC];omega
   generalize strOfNums (iU ol.ai m.s k)=A at*
   have O:=ld (P:=prog) ((wr.alloc (.cells #[.int .u8 y.n.name] 5)).drew) 47 5 underlying47 underlying5 wr.heap.size 0 1 1 [y.n.name] rfl (by
    intro i hi
    match i,hi with
    |0,_=>simp) 9 underlying9
   replace O:Sem.run prog (convert 47 9 (.slice (some ⟨wr.heap.size,0,none⟩) 1 1)) (wr.drew.alloc (.cells #[.int .u8 y.n.name] 5))= .ok (.string (strOfNums [y.n.name])) (wr.drew.alloc (.cells #[.int .u8 y.n.name] 5)):=O
   have aj:=λw'=>lf (P:=prog) w' A (strOfNums [y.n.name]) (by rw[cC];simp;omega)
   have ap:=af dE;have D:=KW.drew;have G:Kp _ _ (wr.drew.alloc (.cells #[.int .u8 y.n.name] 5)):=D.alloc _;have U:Kp _ _ ((wr.drew.alloc (.cells #[.int .u8 y.n.name] 5)).setCell ⟨sb,0,none⟩ (.string (A++strOfNums [y.n.name]))):=G.setCell (p:=⟨sb,0,none⟩) (λx=>absurd x (by show¬sb<_;omega)) _;clear hX ad aa J X Z dE KW I
   go_upto_region 6 with(fail)
   refine bf (λw'=>Kp (λ_=>False) E w') (by kernel_rfl) ?_;refine bM 0 49 (.pointer (some ⟨sb,0,none⟩)) D ?_;refine bM 2 51 (.pointer (some ⟨xb,0,none⟩)) D ?_;refine bM 3 52 (.pointer (some ⟨xb,0,none⟩)) D ?_;refine bM 4 53 (.pointer (some ⟨xb,0,none⟩)) D ?_;refine eG 5 54 (.pointer (some ⟨cb,0,none⟩)) rfl (λw' F=>by have:=F.bX c0;simp[execOp,Act.eval,go_sem,this]) D ?_;refine bM 6 55 (.pointer (some ⟨cb,0,none⟩)) D ?_;refine bM 7 56 (.pointer (some ⟨cb,0,none⟩)) D ?_;refine eG 8 57 (.slice (some ⟨g1,0,none⟩) l.length cap) rfl (λw' F=>by have:=F.bX zc;simp[execOp,Act.eval,go_sem,this]) D ?_;refine bM 9 58 (.int .i64 (k:Int)) D ?_;refine eG 10 59 (.pointer (some ⟨g1,k*7,none⟩)) rfl (λw' _=>by simp[execOp,Act.eval,go_sem,a1]) D ?_;refine bM 11 60 (.pointer (some ⟨g1,k*7,none⟩)) D ?_;refine eG 12 61 (.int .u8 y.n.name) rfl (λw' F=>by have:=F.bX v0;simp[execOp,Act.eval,go_sem,this]) D ?_
   refine VB 1 13 14 50 62 63 (.string A) (.slice (some ⟨wr.heap.size,0,none⟩) 1 1) (.string (strOfNums [y.n.name])) (wr.drew.alloc (.cells #[.int .u8 y.n.name] 5)) (by decide) (by decide) (by kernel_rfl) (by kernel_rfl) (by kernel_rfl) (by kernel_rfl) (by kernel_rfl) rfl rfl rfl rfl rfl rfl rfl rfl rfl (by simp[execOp,Act.eval,go_sem,s0]) (by simp[execOp,Act.eval,Act.put,go_sem]) (by simp[execOp,Act.eval,go_sem]) (by simp[execOp,Act.eval,Act.put,go_sem,SD]) (by simp[execOp,Act.eval,Act.put,O]) (by simp[execOp,Act.eval,Act.put,O]) (by simp[execOp,Act.eval,Act.put,go_sem,SD]) D G ?_;simp only[Act.put,pA,pB,pC];refine eG 15 64 (.string (A++strOfNums [y.n.name])) rfl (λw' _=>by simp[execOp,Act.eval,go_sem,aj]) G ?_;refine bM 16 65 (.pointer (some ⟨sb,0,none⟩)) G ?_;refine oX 17 ?_;unfold Oper.wp;simp[execOp,Act.eval,go_sem,SD,XS];refine⟨U,bF (by kernel_rfl) (bG ?_) _⟩;have HZ:=af (show(((wr.alloc (.cells #[.int .u8 y.n.name] 5)).setCell ⟨sb,0,none⟩ (.string (A++strOfNums [y.n.name]))).drew).heap[sb]? =_/\Kp (λ_=>False) E ((wr.alloc (.cells #[.int .u8 y.n.name] 5)).setCell ⟨sb,0,none⟩ (.string (A++strOfNums [y.n.name]))).drew from ae (ap.out (.cells #[.int .u8 y.n.name] 5) (A++strOfNums [y.n.name])) U);generalize ((wr.alloc (.cells #[.int .u8 y.n.name] 5)).setCell ⟨sb,0,none⟩ (.string (A++strOfNums [y.n.name]))).drew=wz at*;clear D G U SD XS O aj s0 v0 c0 zc d0 d1 zd Gh ap;go_wp2
   go_roundw
   case rel=>exact⟨k+1,by go_num,by omega,af (by rw[HA.out];exact HZ.out.1),HZ.out.2⟩
   case measure=>simp[intOf];omega
  have a9:¬(k:Int)<(l.length:Int):=by omega
  obtain rfl:k=l.length:=by omega
  obtain⟨da,sZ,jY⟩:=sN
  have X:wr.heap[sb]? =some (.cells (dX (bV ol.ai m.s)) 26 (0,0)):=by
   rw[HB.out,<-a4.out];show _=some (Obj.cells #[.string (strOfNums (iU ol.ai m.s (min ol.ai.length 16))),.string (strOfNums (jR ol.ai m.s (min ol.ai.length 16))),.string m.s.tm,.int .i64 m.s.x,.int .i64 m.s.y,.int .i64 m.s.z] 26 (0,0));rw[show min ol.ai.length 16=ol.ai.length by have:=hR.len;omega,hR.len]
   have:kD ol.ai m.s=jR ol.ai m.s l.length:=by rw[<-hR.len];rfl
   rw[this]
  have RE:=KW.at_ a5 (λx=>x);have D7:=af (K1.trans KW);have aO:=mU (bV ol.ai m.s);have aI:_=some (dX (bV ol.ai m.s)).size:=eC;have aS:(dX (bV ol.ai m.s)).size=6:=rfl;have KF:Kp _ _ (wr.setRow ob (dX (bV ol.ai m.s))):=D7.out.setRow (λx=>absurd x (by rw[sr];omega)) _;clear hX ad aa HB HX am;generalize xk:dX (bV ol.ai m.s)=AA at*;have QJ:=af xk;clear xk
  go_wp2_with (first|refine jO X sZ jY aI ?_|refine cj AA RE aI aS.symm aO ?_)
  refine uu (ax _ _ _ _ _ _ RE) sZ jY aI ?_;exact⟨by rw[QJ.out],KF⟩
end
namespace Ch
def m0(ol:Ol):Ma:=⟨cS ol.ai,[],[]⟩
theorem Ue(ol:Ol):pM (m0 ol) 0:=⟨q_ _,⟨by show TL 48 (f_ ByteArray.empty);simp[f_,TL],by show ByteArray.empty.size<=16;decide⟩,⟨aC _,aC _⟩⟩
theorem XT(ol:Ol):QB (m0 ol):=λa h=>by simp[m0]at h
theorem pM.VC{ol:Ol}(D:ol.Ok)(E:uZ ol){m:Ma}{N:Nat}(h:pM m N)(l:List Int):pM (Ch.enter ol m l) (N+1900000):=
 ⟨sG h.ok l,(jg (by omega) ol).eB E _ _ _ _ h.tm,vl D h.sz l⟩
theorem Io{ss:List St}(h:ss.length<=16):kD ss (cS ss)=List.replicate (kD ss (cS ss)).length 45:=by
 refine List.eq_replicate_iff.2 ⟨rfl,λx hx=>?_⟩;unfold kD at hx;obtain⟨k,hk,rfl⟩:=ib.1 hx;obtain⟨D,E⟩:=gP.1 hk
 have D:k<ss.length:=by simpa using D
 show(ix ss).getD k 0=45;grind[ix,iS]
def lV(ol:Ol):Bool×As×ByteArray:=
 if(cI ol 30 (enter ol (m0 ol) [])).1 then(true,bV ol.ai (cI ol 30 (enter ol (m0 ol) [])).2.s,strOfNums (cI ol 30 (enter ol (m0 ol) [])).2.out)else(false,TC,⟨#[]⟩)
theorem Fi(ol:Ol):df ol=if(lV ol).1 then((cI ol 30 (enter ol (m0 ol) [])).2.s,(lV ol).2.2,0)else(wh,ByteArray.empty,9):=by
 unfold df finish lV;grind[oK,busy,rounds,enter,m0]
end Ch
theorem iA.abh{w:World}{xb cb g n:Nat}{pv:Value}{m:Ma}(h:iA w xb cb g n pv m)(u:Value):iA (w.setCell ⟨xb,2,none⟩ u) xb cb g n u m:=by unfold iA at*;rw[ak _ h];rfl
def BgI(w wr:World)(xb cb g n:Nat)(pv:Value)(m:Ma)(k:Nat):Prop:=iA wr xb cb g n pv m/\kG wr g (List.replicate n false)/\wr.ownsRow w.heap.size 5 1 pv k (aD (List.replicate k 45))/\Kp (λ_=>False) w wr
section
variable (w:World) (B cb:Nat) (l:List NV) (v:Value) (ol:Ol)
theorem Ip(hF:jW w B cb l v)(F:Rf l ol):
 Calls prog 145 #[.pointer (some ⟨cb,0,none⟩)] w λy w'=>y= .returned (.tuple #[.agg (dX (lV ol).2.1),.string (lV ol).2.2,.bool (lV ol).1])/\Kp (λ_=>False) w w':=by
 obtain⟨i0,hi,a9,ba,bb⟩:=bY yR;obtain⟨j0,hj,a6,a7,a8⟩:=bY su;obtain⟨da,sZ,jY⟩:=sN;have a4:=F.le;obtain⟨ao,cap,rfl⟩:=hF.2.1.len;have K0:Kp (λ_=>False) w (w.alloc (.cells ig 26)):=(Kp.refl _ _).alloc _;have am:=an w (.cells ig 26);have VD:=hF.au K0;have zc:=VD.cell;have be:=aR am;have HF:=af (ae VD (ae am K0));clear hF VD K0 am
 go_enter func145,ntmps145
 go_upto_region 1 with(fail)
 generalize w.alloc (.cells ig 26)=G at*
 go_wp2_with (at_make;refine wpList_make_full G rfl (.tmp 15) (.tmp 15) 68 rfl G.heap.size 4 i0 (.bool false) 1 underlying68 hi a9 ba .i64 .i64 l.length l.length l.length rfl rfl rfl rfl ?c1 ?c2 (aC _) ?_)
 case c1=>rw[bb];omega
 case c2=>unfold maxLen;omega
 intro w4 o4 g4;have K4:Kp (λ_=>False) _ _:=(Kp.refl _ _).grown g4 (λi hi _=>by simp at hi);have LF:=kG.made o4;have HQ:=af (ae LF K4);clear zc o4 g4 LF K4;generalize hg:G.heap.size=g at*;generalize PI:(#[.pointer (some ⟨cb,0,none⟩),.slice (some ⟨g,0,none⟩) l.length l.length,.slice none 0 0,.string ⟨#[]⟩,.int .i64 0,.int .i64 0,.int .i64 0,.string ⟨#[]⟩,.string ⟨#[]⟩]:Array Value)=NW
 have a1:iA (w4.alloc (.cells NW 274)) w4.heap.size cb g l.length (.slice none 0 0) (Ch.m0 ol):=by
  unfold iA;rw[<-PI];exact an _ _
 have K5:Kp _ _ (w4.alloc (.cells NW 274)):=HQ.out.2.alloc _;have Ny:=HF.out.1.au K5;have XU:=((Kp.refl (λ_=>False) w4).alloc (.cells NW 274)).at_ HQ.out.1 (λx=>x);have E1:=af (wF (w4.alloc (.cells NW 274)) B cb l _ Ny (by omega));have bo:=HQ.out.2.size
 have J:(kD ol.ai (Ch.m0 ol).s).length=(mw (Ch.mk l)).length:=by rw[vH F];simp
 have H5:=af (ae XU (ae a1 K5));clear Ny XU a1 K5 HQ
 go_upto_region 2 with(fail)
 clear PI;generalize w4.alloc (.cells NW 274)=w5 at*;generalize w4.heap.size=xb at*
 go_wp2_with fail
 refine hm E1 ?_;rintro y w6 ⟨u,rfl,hu,K6⟩;obtain⟨ua,uc,rfl⟩:=bn hu
 have bi:(mw (Ch.mk l)).length<=16:=by
  rw[<-J];unfold kD;have:=l8 (gY ol.ai) (List.range ol.ai.length);have:=F.len;simp at*;omega
 have H6:=af (show BgI G w6 xb cb g l.length (.slice none 0 0) (Ch.m0 ol) 0 from⟨H5.out.2.1.az K6 (λx=>x),K6.at_ H5.out.1 (λx=>x),bT _ _ _ _,H5.out.2.2.trans K6⟩);have HL:=af J;clear E1 H5 hu K6 J;generalize (mw (Ch.mk l)).length=H at*
 go_wp2_with fail
 go_loopw [7] (λkv wr=>∃(k:Nat) (pv:Value),kv= .int .i64 k/\k<=H/\Hid (BgI G wr xb cb g l.length pv (Ch.m0 ol) k)) (λkv _=>H-(intOf kv).toNat)
 case atStart=>exact⟨0,_,rfl,aG _,H6⟩
 case round=>
  obtain⟨k,pv,rfl,hk,HI⟩:=hrel;obtain⟨hn,ho,hp,Z⟩:=HI.out
  by_cases bm:k<H
  ·have bc:(k:Int)<(H:Int):=by omega
   have c2:_=some pv:=hn.cell 2;have iG:=Z.size;clear Z ho
   go_wp2_with (at_builtin;refine kf (P:=prog) rfl (.tmp 31) (.tmp 32) 47 rfl G.heap.size 5 j0 (.int .u8 0) 1 1 underlying47 hj a6 a7 a8 rfl (by decide) pv k (aD (List.replicate k 45)) rfl (by exact hp.alloc _) ⟨wr.heap.size,0,none⟩ 1 1 [.int .u8 45] rfl rfl (by exact fy _ _ _) (by intro u hu;simp at hu;subst hu;rfl) (by decide) (by unfold maxLen;omega) (by omega) (by simp;omega) ?_)
   intro g9 c9 D o9 TW _;obtain⟨_,ho,_,Z⟩:=HI.out;have X:=((Kp.refl _ _).alloc (.cells #[.int .u8 45] 5)).grown (by exact TW) (λi hi _=>hi);have Ws:=hn.az X (aZ hp hn (by decide));have Qx:kG D g _:=X.at_ ho (aZ hp ho (by decide));have d2:_=some pv:=Ws.cell 2;have f2:=Ws.free 2
   have a0:g≠xb:=λe=>by
    have h1:=Ws;have h2:=Qx;unfold iA at h1;unfold kG at h2;rw[e,h1]at h2;simp only[bq,dI]at h2;exact absurd h2.2.1 (by decide)
   have Kz:Kp (λi=>i=xb) D (D.setCell ⟨xb,2,none⟩ (.slice (some ⟨g9,0,none⟩) (k+1) c9)):=(Kp.refl _ _).setCell (by intro _;rfl) _;have oz:=Kz.owns o9 (λi hi e=>aZ o9 Ws (by decide) (e▸hi));have HZ:=af (show BgI G (D.setCell ⟨xb,2,none⟩ (.slice (some ⟨g9,0,none⟩) (k+1) c9)) xb cb g l.length (.slice (some ⟨g9,0,none⟩) (k+1) c9) (Ch.m0 ol) (k+1)from⟨Ws.abh _,Kz.at_ Qx a0,by rw[List.replicate_succ',eN,hg];exact oz,(Z.trans' X (λi hi e=>by have:=(hp.lt i e).1;omega)).trans' Kz (λi hi e=>by omega)⟩);clear Ws Qx a0 Kz oz X o9 TW Z ho hp hn c2 HI;go_wp2;generalize D.setCell ⟨xb,2,none⟩ (.slice (some ⟨g9,0,none⟩) (k+1) c9)=wz at*
   go_roundw
   case rel=>exact⟨k+1,_,by go_num,by omega,HZ⟩
   case measure=>simp[intOf];omega
  have bk:¬(k:Int)<(H:Int):=by omega
  obtain rfl:k=H:=by omega
  have hN:mD wr B G.heap.size xb cb g pv (.slice ao l.length cap) l ol (Ch.m0 ol):=⟨hn,⟨_,ho,TJ _⟩,by
   unfold JL;have e:=Io (ss:=ol.ai) (by rw[F.len];exact a4);replace e:kD ol.ai (Ch.m0 ol).s=List.replicate (kD ol.ai (Ch.m0 ol).s).length 45:=e;rw[e,HL.out]
   simpa using eO.of hp,HF.out.1.au Z⟩
  have a2:Ch.enter ol (Ch.m0 ol) []=oH ol (dM ol.ai (Ch.bit (Ch.m0 ol).s.act) [] ol.ai.length 0) (Ch.m0 ol):=(wK F.kg).1;have E2:=af (uh wr B G.heap.size xb cb g pv _ l ol (Ch.m0 ol) 0 0 [] (.slice none 0 0) hN F (Ue ol) (by omega) (by simp) (by simp) (bT _ _ _ _));have HM:=af (ae ((Ue ol).VC F.ok F.z_ []) (ae (QB.eB F.SC F.z_ _ _ _ _ (XT ol):QB (Ch.enter ol (Ch.m0 ol) [])) (wK F.kg).2));replace HM:Hid (pM (Ch.enter ol (Ch.m0 ol) []) (0+1900000)/\QB (Ch.enter ol (Ch.m0 ol) [])/\Ch.Inv ol (Ch.enter ol (Ch.m0 ol) []).s):=HM;have SE:=af (show lV ol=if(cI ol 30 (Ch.enter ol (Ch.m0 ol) [])).1 then(true,bV ol.ai (cI ol 30 (Ch.enter ol (Ch.m0 ol) [])).2.s,strOfNums (cI ol 30 (Ch.enter ol (Ch.m0 ol) [])).2.out)else(false,TC,⟨#[]⟩)from rfl);rw[<-a2]at E2;have HP:=af (ae hp Z);clear a2 hN hn ho hp Z HI H6 HL;generalize Ch.enter ol (Ch.m0 ol) []=ms at*
  go_wp2_with fail
  refine hm E2 ?_;rintro y w7 ⟨rfl,X7,K7⟩;have E3:=af (zv B G.heap.size xb cb g pv _ l ol F 30 w7 ms _ X7 HM.out.2.2 HM.out.1 HM.out.2.1 (by omega));replace E3:Hid (Calls prog 203 #[.pointer (some ⟨xb,0,none⟩),.int .i64 30] w7 λy w'=>y= .returned (.bool (cI ol 30 ms).1)/\mD w' B G.heap.size xb cb g pv (.slice ao l.length cap) l ol (cI ol 30 ms).2/\Kp (nS xb g pv) w7 w'):=E3;have VE:=af (show Ch.Inv ol (cI ol 30 ms).2.s by rw[oK];exact oM F.kg 30 HM.out.2.2);have ap:=af K7;clear E2 X7 K7 HM
  go_wp2_with fail
  refine hm E3 ?_;rintro y w8 ⟨rfl,X8,K8⟩
  have Nz:∀i,i<G.heap.size->nS xb g pv i->False:=λi hi e=>by
   rcases e with e|e|e
   ·omega
   ·omega
   have:=(HP.out.1.lt i e).1;omega
  have KA:=(HP.out.2.trans' ap.out Nz).trans' K8 Nz;have Y:=KA.at_ HF.out.2.1 (λx=>x);have HA:=af (ae X8 (HF.out.2.2.trans KA));clear E3 X8 K8 ap HP Nz KA;generalize cI ol 30 ms=rr at*;obtain⟨ok,U⟩:=rr
  cases ok with
  |false=>
   have ad:=af (SE.out.trans (ay (by simp)));have KF:Kp _ _ (w8.setRow w.heap.size ig):=HA.out.2.setRow (λx=>by omega) _;clear SE VE HF HA
   go_wp2_with (refine cj ig Y eC rfl (mU TC) ?_)
   refine bg (bB rfl _ _ w.heap.size 26 ig (0,0) da rfl (ax _ _ _ _ _ _ Y) sZ jY eC) rfl ?_;rw[ad.out];exact⟨rfl,KF⟩
  |true=>?_
  have ad:=af (SE.out.trans (aq rfl));have E4:=af (zw w8 B G.heap.size xb cb g pv _ l ol U HA.out.1 F VE.out);clear SE VE HF
  go_wp2_with fail
  refine hm E4 ?_;rintro y D ⟨rfl,X⟩;have CW:=X.at_ Y (λx=>x);have X9:=HA.out.1.au X;have O:=an D (.cells ig 26);have aO:=mU (bV ol.ai U.s);have aI:_=some (dX (bV ol.ai U.s)).size:=eC;have aS:(dX (bV ol.ai U.s)).size=6:=rfl;generalize xk:dX (bV ol.ai U.s)=E at*;have QJ:=af xk;have Ge:Kp (λ_=>False) D ((D.alloc (.cells ig 26)).setRow D.heap.size E):=((Kp.refl _ _).alloc _).setRow (λx=>by omega) _;have aa:=ax (D.alloc (.cells ig 26)) D.heap.size ig E 26 (0,0) O;have Fj:=Ge.at_ CW (λx=>x);have c8:((D.alloc (.cells ig 26)).setRow D.heap.size E).cell? _=some (.string (strOfNums U.out)):=(X9.au Ge).nb.cell 8
  have a5:D.heap.size≠w.heap.size:=by have:=aR CW;omega
  have HK:=af ((HA.out.2.trans X).trans Ge)
  have a3:xb≠w.heap.size:=λe=>by
   have h1:=X9.nb;unfold iA at h1;rw[e,CW]at h1;simp only[bq,dI]at h1;exact absurd h1.2.1 (by decide)
  clear xk E4 X Ge X9 HA Y CW
  go_upto_region 12 with(refine cj E O aI aS.symm aO ?_)
  generalize (D.alloc (.cells ig 26)).setRow D.heap.size E=Iq at*;clear O;generalize D.heap.size=sb at*
  have I:Iq.drew.heap[sb]? =some (.cells E 26 (0,0))/\Iq.drew.cell? ⟨xb,8,none⟩=some (.string (strOfNums U.out)):=⟨aa,c8⟩
  have aj:(Iq.drew.setRow w.heap.size E).heap[sb]? =some (.cells E 26 (0,0))/\(Iq.drew.setRow w.heap.size E).cell? ⟨xb,8,none⟩=some (.string (strOfNums U.out)):=⟨by rw[cG _ _ _ _ a5];exact aa,by rw[jC (cG Iq.drew _ _ _ a3)];exact c8⟩
  have KF:Kp _ _ (Iq.drew.setRow w.heap.size E):=HK.out.drew.setRow (λx=>by omega) _;refine bf (λw'=>w'.heap[sb]? =some (.cells E 26 (0,0))/\w'.cell? ⟨xb,8,none⟩=some (.string (strOfNums U.out))) (by kernel_rfl) ?_;refine eG 0 45 (.agg E) rfl (λw' hS=>du 26 (.tmp 9) rfl sb (by simp[Act.eval,Act.put]) 26 E (0,0) da hS.1 sZ jY aI) I ?_;refine bM 1 46 (.pointer (some ⟨xb,0,none⟩)) I ?_;refine bM 2 47 (.pointer (some ⟨xb,0,none⟩)) I ?_;refine bM 3 48 (.pointer (some ⟨xb,8,none⟩)) I ?_;refine eG 4 49 (.string (strOfNums U.out)) rfl (λw' hS=>by have:=hS.2;simp[execOp,Act.eval,go_sem,this]) I ?_;refine cK 5 (by kernel_rfl) rfl rfl 26 (.tmp 2) (.tmp 45) rfl rfl w.heap.size E (by simp[Act.eval]) (by simp[Act.eval]) 26 ig (by exact Fj) aI aS.symm aO aj ?_;refine bM 6 3 (.string (strOfNums U.out)) aj ?_;refine eG 7 4 (.bool true) rfl (λw' _=>by rfl) aj ?_;refine bF (by kernel_rfl) (bG ?_) _;go_wp2;refine bg (bB rfl _ _ w.heap.size 26 E (0,0) da rfl (ax Iq.drew _ _ _ _ _ (by exact Fj)) sZ jY aI) rfl ?_;rw[ad.out];exact⟨by rw[<-QJ.out];rfl,KF⟩
end
theorem SG{t:ByteArray}{l:List NV}(F:(Ch.read t).1=0)(D:NR (Ch.mk l) (chart t).2)(I:TB (Ch.mk l)):Rf l (Ch.read t).2.2:=by
 obtain⟨E,e,_,_⟩:=y8 F;have G:=Pe D (y7 t);have eD:=Jo t;rw[e]at E eD⊢
 have at_:∀(k:Nat) (x:NV),l[k]? =some x->(Ch.mk l)[k]? =some x.n:=λk x hx=>by unfold Ch.mk;rw[bw,hx];rfl
 refine⟨D.ai,λk x hx=>D.cW k _ (at_ k x hx),λk x hx=>D.nR k _ (at_ k x hx),λk x hx=>D.rJ k _ (at_ k x hx),E,G,eD,λk x hx=>?_,λx hx rt hr=>?_,λk x hx=>?_⟩
 ·have:=(D.wf k _ (at_ k x hx)).2.2.1
  grind[dS]
 ·obtain⟨k,hk⟩:=ie hx
  exact(I x.n (aM (at_ k x hk)) rt hr).1
 have:=D.wf k _ (at_ k x hx);omega
namespace Ch
def xm(ss:List St)(a:As):Bool×Sd:=take ss a.act a.cd a.tm a.x a.y a.z
def SH(t:ByteArray)(a:As):Int:=if(read t).1 !=0 then(read t).1 else if(xm (read t).2.2.ai a).1 then 0 else 7
def VF(t:ByteArray)(a:As):Sd:=if(read t).1 !=0 then wh else if(xm (read t).2.2.ai a).1 then(xm (read t).2.2.ai a).2 else wh
theorem SJ(t:ByteArray)(h:(read t).1=0):(read t).2.1=0:=by
 grind[read]
structure As.Sm(a:As):Prop where
 act:a.act.size<=9223372036854775807
 cd:a.cd.size<=9223372036854775807
 tm:a.tm.size<=9223372036854775807
theorem PJ{ol:Ol}:∀{n:Nat} {s:Sd} {l:List Int} {r:Sd×ByteArray},s.Ok->eb ol n s l=some r->r.1.Ok:=by
 intro n
 induction n with
 |zero=>grind[eb]
 |succ n D=>?_
 grind[eb,qw,uB]
theorem SK{ss:List St}{a p t:ByteArray}{x y z:Int}(h:(take ss a p t x y z).1=true):wY (take ss a p t x y z).2.tm=true:=by
 grind[take]
end Ch
def ndA(s:St):Array Value:=#[.string (strOfNums [s.name]),.int .i64 s.kind,.int .i64 s.parent]
def XV(w:World)(g n k:Nat)(ss:List St):Prop:=∃C,w.heap[g]? =some (.cells C 111 (0,0))/\C.size=n*3/\∀i s,i<k->ss[i]? =some s->∀j,j<3->C[i*3+j]? =(ndA s)[j]?
theorem XV.set{w:World}{g n k:Nat}{ss:List St}{s:St}(h:XV w g n k ss)(hs:ss[k]? =some s)(hk:k<n):
 XV (((w.setCell ⟨g,k*3,none⟩ (.string (strOfNums [s.name]))).setCell ⟨g,k*3+1,none⟩ (.int .i64 s.kind)).setCell ⟨g,k*3+2,none⟩ (.int .i64 s.parent)) g n (k+1) ss:=by
 obtain⟨C,E,iG,G⟩:=h;have e1:=heap_setCell_same w g (k*3) C 111 (.string (strOfNums [s.name])) E;have e2:=heap_setCell_same _ g (k*3+1) _ 111 (.int .i64 s.kind) e1;have e3:=heap_setCell_same _ g (k*3+2) _ 111 (.int .i64 s.parent) e2;refine⟨_,e3,by simp[iG],?_⟩;intro i u hi hu j F
 rcases nY (lI hi)with h|h
 ·grind
 subst h;rw[hs]at hu;simp at hu;subst hu
 have D:j=0\/j=1\/j=2:=by omega
 rcases D with rfl|rfl|rfl
 ·rw[nK (by omega),nK (by omega),l5,pS (by omega)]
  rfl
 ·rw[nK (by omega),pS (by simp;omega)]
  rfl
 rw[pS (by simp;omega)];rfl
theorem XV.cells{w:World}{g n k:Nat}{ss:List St}(h:XV w g n k ss){i:Nat}(hi:i<n):
 (∃u,w.cell? ⟨g,i*3,none⟩=some u)/\(∃u,w.cell? ⟨g,i*3+1,none⟩=some u)/\(∃u,w.cell? ⟨g,i*3+2,none⟩=some u)/\∀o,w.frozen? ⟨g,o,none⟩=false:=by
 obtain⟨C,D,iG,_⟩:=h;refine⟨⟨C[i*3]'(by omega),?_⟩,⟨C[i*3+1]'(by omega),?_⟩,⟨C[i*3+2]'(by omega),?_⟩,λo=>by simp[World.frozen?,D]⟩
 ·rw[lh w g _ C _ _ D];simp_all
 ·rw[lh w g _ C _ _ D];simp_all
 rw[lh w g _ C _ _ D];simp_all
