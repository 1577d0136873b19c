import Derived.Test.YtnlbchmfcebeeaaGreatTZf
set_option maxHeartbeats 12800000
set_option maxRecDepth 100000
namespace Go.Proofs.YtnlbchmfcebeeaaGreat
open Go.Proofs.Tryz Ch
open Go.RowKit
open Value(int slice bool pointer string agg tuple)
open IntKind(i64)
open Obj(cells)
open Ending(returned)
open Operand(tmp)
open Or(inl inr)
namespace Ch
def pF{α:Type}(n:Nat)(new:Nat->α)(E:Nat->α)(k:Nat)(D:α):List α:=(List.range n).map λe=>if e<k then new e else if e=k then D else E e
theorem Jn{α}n new E k(D:α):(pF n new E k D).length=n:=by simp[pF]
theorem Oo{α n}new E{k}(D:α)(hk:k<n):(pF n new E k D)[k]? =some D:=by
 grind[pF]
theorem Jo{α n}new D{k}E(c:α):(pF n new D k E).set k c=pF n new D k c:=by
 apply f_;grind[pF]
theorem Ff{α}n new(D:Nat->α)k:pF n new D k (new k)=pF n new D (k+1) (D (k+1)):=by
 grind[pF]
theorem CD{α}n new(D:Nat->α):pF n new D 0 (D 0)=(List.range n).map D:=by
 unfold pF;simp_all
theorem Jp{α}n new D(c:α):pF n new D n c=(List.range n).map new:=by
 unfold pF;simp_all
theorem Jq{α:Type}(l:List Nat)(f:Nat->α):(List.range l.length).map (λe=>f (l.getD e 0))=l.map f:=by
 apply f_;grind
theorem Uk{α:Type}{l:List α}{k}{x}(h:l[k]? =some x)p:(l.take (k+1)).any p=((l.take k).any p||p x):=by
 rw[iA,h,List.any_append];simp
theorem QD{α β:Type}{l:List α}{k}{x}(h:l[k]? =some x)f(c:β):(l.take (k+1)).foldl f c=f ((l.take k).foldl f c) x:=by
 rw[iA,h,qG];rfl
theorem QE{ol n}(E:ol.ah.length=n)(D:n<=16)s list:iI n ((List.range n).map λj=>list.any λt=>lv ol s t j) (dM ol s list):=by
 refine⟨dy,Af _ _ _,λk=>?_⟩;grind[IT,jC,lv,Bh,sN]
end Ch
section
variable {w w':World} {B B2 xb cb g:Nat} {pv v:Value} {l:List NV} {ol:Ol} {m:Ma}
theorem pj.aside(h:pj w B B2 xb cb g pv v l ol m){gb}{E}(F:lB w gb E)(D:gb≠g)(k:Kp (λi=>i=gb) w w'):pj w' B B2 xb cb g pv v l ol m:=by
 have⟨on,ho,hs⟩:=h.on;have G:xb≠gb:=λe=>by
  have I:=h.nb;grind[jD,lB]
 refine⟨h.nb.aB k G,⟨on,k.at_ ho (λe=>D e.symm),hs⟩,gr.aB h.ps k (λj hj e=>gr.ne h.ps F aV (by rw[hj,e])),h.ch.pO k (λi cur T hi _ hT e=>?_)⟩;grind[lB]
theorem Ch.iI.put{n i on l}(h:iI n on l)(hi:i<n)(D:n<=16)b:iI n (on.set i b) (tf l (i:Int) b):=by
 have⟨h1,h2,h3⟩:=h;refine⟨by simp[h1],by show(l.set i b).length=16;simp[h2],λk=>?_⟩;show(on.set i b).getD k false=(l.set i b).getD k false;have:=h3 k;grind[jC,Ch.bit]
theorem pj.turn(h:pj w B B2 xb cb g pv v l ol m){i}(hi:i<l.length)(E:l.length<=16)b:pj (w.setCell ⟨g,i,none⟩ (bool b)) B B2 xb cb g pv v l ol (eO m i b)/\Kp (nS xb g pv) w (w.setCell ⟨g,i,none⟩ (bool b)):=by
 have⟨on,hon,hso⟩:=h.on;have D:Kp (λk=>k=g) w (w.setCell ⟨g,i,none⟩ (bool b)):=(Kp.refl _ _).setCell jF _;have F:=D.mono (S':=nS xb g pv) (λ_ _ e=>inr (inl e));exact⟨⟨h.nb.aB D h.xg,⟨on.set i b,hon.set i b,hso.put hi E b⟩,gr.aB h.ps D (λj hj e=>h.pg (by rw[hj,e])),h.chart F⟩,F⟩
theorem pj.gne(h:pj w B B2 xb cb g pv v l ol m):w.heap.size≠g:=λe=>by
 have⟨on,ho,_⟩:=h.on;unfold lB at ho;rw[<-e]at ho;simp at ho
end
theorem GF w B B2 xb cb g pv v l ol m N B3 list lw(h:pj w B B2 xb cb g pv v l ol m)(J:Rf l ol)(hI:Ch.Inv ol m.s)(hM:sQ m N)(hN:N<=880000000)(fb:list.length<=16)(cp:Ae ol list)(Ul:w.ownsRow B3 301 2 lw list.length (iJ ol list)):
 Calls prog 244 #[pointer (some ⟨xb,0,none⟩),lw] w λy w'=>y=returned (tuple #[])/\pj w' B B2 xb cb g pv v l ol (dD ol (dM ol m.s list) ol.ah.length {m with s:=Ch.rem ol.ah m.s (dM ol m.s list)})/\Kp (nS xb g pv) w w':=by
 obtain⟨left,Q⟩:∃x,x=dM ol m.s list:=⟨_,rfl⟩
 rw[<-Q];obtain⟨m1,bm⟩:∃x:Ma,x={m with s:=Ch.rem ol.ah m.s left}:=⟨_,rfl⟩
 rw[<-bm];have di:=ag Q;have b3:=ag bm;clear Q bm;have⟨i0,hi0,hz0,hz1,hz2⟩:=cr Ci;have⟨d,hd,iT⟩:=Cz;have bi:=J.le;obtain⟨ao,ba,rfl⟩:=h.ch.2.1.len;obtain⟨la,lc,rfl⟩:=bp Ul;have c0:w.cell? _=some (pointer (some ⟨cb,0,none⟩)):=h.nb.cell 0;have zc:=h.ch.cell;have Zo:=h.gne;have de:=ag cp;have HX:=c_ h hM Ul;clear h hM Ul cp;go_in;go_wp2_with (at_make;refine wpList_make_full w rfl (tmp 22) (tmp 22) 68 rfl w.heap.size 4 i0 (bool false) 1 underlying68 hi0 hz0 hz1 i64 i64 l.length l.length l.length rfl rfl rfl rfl ?c1 ?c2 (aC _) ?_)
 case c1=>rw[hz2];omega
 case c2=>unfold maxLen;omega
 intro w4 o4 g4;have K4:Kp bA w w4:=(Kp.refl _ _).grown g4 (λi hi _=>by simp at hi);have cc:=lB.made o4;have XU:=HX.1.aw K4;have HW:=rP XU cc (K4.owns HX.2.2 (λ_ _ x=>x)) K4 HX.2.1;clear c0 zc HX o4 g4 XU cc K4;generalize e6:w.heap.size=gb at*;go_wp;go_loopw [5] (λiv wr=>∃i:Nat,iv= int i64 i/\i<=l.length/\Hid (lB wr gb (pF l.length (λj=>list.any λt=>Ch.lv ol m.s t j) (λ_=>false) i false))/\Kp (λk=>k=gb) w4 wr) (λiv _=>l.length-(intOf iv).toNat)
 case atStart=>exact⟨0,rfl,aA _,ag (by rw[CD l.length (λj=>list.any λt=>Ch.lv ol m.s t j) (λ_=>false),List.map_const'];simpa using HW.2.1),Kp.refl _ _⟩
 case round=>
  obtain⟨i,rfl,hi,HG,KW⟩:=hrel;have Hc:=HW.1.aside HW.2.1 Zo KW;have c0:wr.cell? _=some (pointer (some ⟨cb,0,none⟩)):=Hc.nb.cell 0;have zc:=Hc.ch.cell;by_cases bk:i<l.length
  ·have ea:(i:Int)<l.length:=oQ;clear Hc;go_wp;go_loopw [6] (λkv wq=>∃k:Nat,kv= int i64 k/\k<=list.length/\Hid (lB wq gb (pF l.length (λj=>list.any λt=>Ch.lv ol m.s t j) (λ_=>false) i ((list.take k).any λt=>Ch.lv ol m.s t i)))/\Kp (λk=>k=gb) w4 wq) (λkv _=>list.length-(intOf kv).toNat)
   case atStart=>exact⟨0,rfl,aA _,ag HG,KW⟩
   case round=>
    obtain⟨k,rfl,hk,aO,I⟩:=hrel;by_cases aa:k<list.length
    ·have cq:(k:Int)<list.length:=oQ;have a4:=HW.1.aside HW.2.1 Zo I;have a7:=I.owns HW.2.2.1 (λj U e=>aZ HW.2.2.1 HW.2.1 aV (by rw[U,e]));obtain⟨ti,br⟩:∃ti,list[k]? =some ti:=⟨_,au aa⟩
     have ef:=de ti (aP br);obtain⟨t,rfl⟩:∃t:Nat,ti=t:=⟨ti.toNat,oQ⟩
     have⟨a,nd,rt,x,hsa,WG,hmr⟩:=J.mv (t:=t) oQ;have⟨g2,cap2,hv2,_⟩:=cO a7 oQ;simp only[aH]at hv2;obtain⟨rfl,-,rfl⟩:=hv2;have⟨q0,q1⟩:=oF ol list k t br;rw[dE]at q0 q1;rw[hsa]at q0;have z0:=(bK a7 (k*2) oQ).trans q0;have z1:=(bK a7 (k*2+1) oQ).trans q1;have⟨on,hon,hso⟩:=a4.on;have E:=ag (zT wr B xb cb g pv m l _ ol t a _ i nd rt x on a4.nb hon hso a4.ch J hmr bk);have Ha:=ag (Uk br (λt=>Ch.lv ol m.s t i));have b0:=ag I;clear a4 a7 q0 q1 hon hso hmr I;go_wp;refine b9 E ?_;intro w5 K5;have a6:lB w5 gb _:=K5.at_ aO (λx=>x);have zg:=a6.cell (k:=i) (by rw[Jn];exact bk);have fg:=a6.free i;have ct:jC (pF l.length (λj=>list.any λt=>Ch.lv ol m.s t j) (λ_=>false) i ((list.take k).any λt=>Ch.lv ol m.s t i)) i=(list.take k).any λt=>Ch.lv ol m.s t i:=by
      unfold jC;rw[iO,Oo _ _ _ bk];rfl
     rw[ct]at zg;have qM:=ag (λb=>by
      have:=a6.set i b;rw[Jo]at this;exact this)
     have DL:=ag (λb=>(b0.trans' K5 gM).setCell (p:=⟨gb,i,none⟩) (λ_=>rfl) (bool b));clear E K5 a6 ct b0 aO z0 z1;generalize Ch.lv ol m.s (t:Int) i=v1 at*;generalize (list.take k).any (λt=>Ch.lv ol m.s t i)=v2 at*;cases v2
     ·go_wp2;exact⟨⟨k+1,eb,oQ,ag (by rw[Ha];exact qM _),DL _⟩,ew⟩
     go_wp2;exact⟨⟨k+1,eb,oQ,ag (by rw[Ha];exact qM _),DL _⟩,ew⟩
    have dv:¬(k:Int)<list.length:=oQ;obtain rfl:k=list.length:=oQ;have HN:=ag (show lB wr gb _ by
     have:=aO;rw[gL,Ff l.length (λj=>list.any λt=>Ch.lv ol m.s t j) (λ_=>false) i]at this;exact this)
    clear aO HG;go_wp2;exact⟨⟨i+1,eb,oQ,HN,I⟩,ew⟩
  have dv:¬(i:Int)<l.length:=oQ;obtain rfl:i=l.length:=oQ;have bo:=QE J.len bi m.s list;rw[<-di]at bo;have hG:=HG.out;rw[Jp]at hG;have KF:=HW.2.2.2.1.trans' KW (λi hi e=>oQ);have E1:=ag (wI wr B cb l _ Hc.ch oQ);have cV:=λ(k p:Nat) (hk:k<ol.ah.length)=>TI J.lD hI left (k:=k) (p:=p) hk;have cg:=HW.2.2.2.2;generalize (List.range l.length).map (λj=>list.any λt=>Ch.lv ol m.s t j)=gn at*;have HA:=Hi Hc hG KF bo cV cg;clear Hc hG KF bo cV cg HW KW HG;go_wp;refine hm E1 ?_;rintro z w5 ⟨u,rfl,hu,K5⟩;obtain⟨ua,uc,rfl⟩:=bp hu;have Qz:=HA.1.aw K5;have G:=Qz.ps;unfold On at G;rw[yJ J m.s]at G;have cw:=yJ J (Ch.rem ol.ah m.s left);have dw:=vL (Ch.mk l);rw[eu]at dw;have F:∀h∈d_ (Ch.mk l),h<ol.ah.length/\fZ ol.ah h=true:=λh hh=>by
   rw[Om J,fR]at hh;exact⟨by simpa using hh.1,hh.2⟩
  generalize d_ (Ch.mk l)=hs at*;rw[fN]at G;have⟨pa,pc,hpv⟩:=G.len;subst hpv;obtain⟨new,ap⟩:∃f:Nat->Int,f=λe=>cf (Ch.rem ol.ah m.s left) (hs.getD e 0):=⟨_,rfl⟩
  obtain⟨D,aI⟩:∃f:Nat->Int,f=λe=>cf m.s (hs.getD e 0):=⟨_,rfl⟩
  have cu:gr w5 B2 (slice pa hs.length pc) hs.length (aF (pF hs.length new D 0 (D 0))):=by
   rw[CD,aI,Jq hs (cf m.s)];exact G
  have cv:pF hs.length new D hs.length (D hs.length)=lG ol.ah (Ch.rem ol.ah m.s left):=by
   rw[Jp,ap,Jq hs (cf (Ch.rem ol.ah m.s left)),cw]
  have O:=xn Qz (K5.at_ HA.2.1 (λx=>x):lB w5 gb gn) hu (HA.2.2.1.trans K5) cv F (ae ap aI);have a2:=ag HA.2.2.2.1;have b5:=ag HA.2.2.2.2.1;have aS:=ag HA.2.2.2.2.2;have b4:=ag cu;clear Qz hu K5 cv F ap aI cu G cw HA E1 c0 zc;go_wp21;go_loopw [9] (λkv wr=>∃k:Nat,kv= int i64 k/\k<=hs.length/\Hid (gr wr B2 (slice pa hs.length pc) hs.length (aF (pF hs.length new D k (D k))))/\Kp (λi=>(Value.slice pa hs.length pc).ownBlock=some i) w5 wr) (λkv _=>hs.length-(intOf kv).toNat)
  case atStart=>exact⟨0,rfl,aA _,ag b4,Kp.refl _ _⟩
  case round=>
   obtain⟨k,rfl,hk,a1,R⟩:=hrel;have QG:=O.1.nb.aB R O.1.px;have iq:=O.1.chart (R.mono (λ_ _ e=>inr (inr e)));have Po:lB _ _ _:=R.at_ O.2.1 (gr.ne O.1.ps O.2.1 aV);have lO:∃on,lB wr g on/\iI l.length on m.s.act:=by
    have⟨on,ho,hs⟩:=O.1.on;exact⟨on,R.at_ ho O.1.pg,hs⟩
   have c0:wr.cell? _=some (pointer (some ⟨cb,0,none⟩)):=QG.cell 0;have zc:=iq.cell;by_cases aa:k<hs.length
   ·have cq:(k:Int)<hs.length:=oQ;have bx:=R.owns O.2.2.1 (gr.apart O.1.ps O.2.2.1 aV);obtain⟨U,Ui⟩:∃U,hs[k]? =some U:=⟨_,au aa⟩
    have F:=O.2.2.2.2.2.1 U (aP Ui);have dQ:U<l.length:=by rw[<-J.len];exact F.1
    have Lg:(U:Int)<l.length:=oQ;obtain⟨y,hy⟩:∃y,l[U]? =some y:=⟨_,au dQ⟩
    have bc:=F.2;rw[wK F.1]at bc;have c8:=J.lD.tP.hs U F.1 (inl (cX bc));have⟨p,zD,abz⟩:=J.lD.tP.DD c8.1 F.1;have da:y.n.parent=p:=by rw[<-J.DD hy];exact zD
    have ec:(p:Int)<l.length:=oQ;have⟨g2,cap2,hv2,_⟩:=cO bx oQ;simp only[aH]at hv2;obtain⟨rfl,-,rfl⟩:=hv2;have zh:wr.cell? ⟨g2,k,none⟩=some (int i64 U):=by
     rw[bK bx k oQ];simp[bO,j2,Ui]
    have⟨g1,GB,hv1,_,hcell,_⟩:=iq.2.1.form hy;simp only[aH]at hv1;obtain⟨rfl,-,rfl⟩:=hv1;have zp:wr.cell? ⟨g1,U*7+2,none⟩=some (int i64 p):=by rw[<-da];exact hcell 2 oQ
    have E2:=ag (λnn=>kq (wr.drewN nn) B cb l _ (p:Int) (iq.aw ((Kp.refl _ _).drewN nn)) oQ);have a8:new k=(fT ol.ah p).foldl (λc j=>if Ch.bit left p&&Ch.bit m.s.act j then hJ ol.ah j else c) (D k):=by
     have:=b5 U p F.1 F.2 zD;rw[O.2.2.2.2.2.2.1,O.2.2.2.2.2.2.2];simp only[iO,Ui,Option.getD_some];exact this
    rw[<-sh J]at a8;obtain⟨Z,XW⟩:∃f:Int->Nat->Int,f=λc j=>if Ch.bit left p&&Ch.bit m.s.act j then hJ ol.ah j else c:=⟨_,rfl⟩
    rw[<-XW]at a8;have Um:=ag XW;have dj:=ag a8;clear XW;have HC:=Hi QG iq Po lO a1 R;clear QG iq Po lO a1 R bx F bc c8 a8 hcell Ui da zD;go_wp;go_quiet (fail);have dt:(wr.drewN nq).cell? _=_:=c0;clear c0 zc zh zp;go_wp;refine bI (fA E2 _) ?_;rintro z w7 ⟨u7,rfl,bt,K7⟩;obtain⟨ka,kc,rfl⟩:=bp bt;have KD:=((Kp.refl _ _).drewN nq).trans K7;have bb:(dZ (Ch.mk l) (p:Int)).length<=16/\∀j∈dZ (Ch.mk l) (p:Int),j<l.length:=by
     refine⟨bz (lA (Ch.mk l) _) (by rw[eu];exact bi),λj U=>?_⟩;have:=Cf U;rw[eu]at this;exact this
    generalize dZ (Ch.mk l) (p:Int)=ks at*;have⟨on,hon,hso⟩:=HC.2.2.2.1;have X:=xn (HC.1.aB KD (λx=>x):jD w7 xb cb g l.length (slice pa hs.length pc) m) (HC.2.1.aw KD) (KD.at_ HC.2.2.1 (λx=>x):lB w7 gb gn) (KD.at_ hon (λx=>x):lB w7 g on) (HC.2.2.2.2.1.aB KD (λ_ _ x=>x)) (HC.2.2.2.2.2.trans' KD gM) bt;have b6:=ag hso;have ej:=bb.1;have dg:=ag bb.2;clear bt K7 KD bb hon hso HC dt E2;go_wp21;go_loopw [12] (λjv wq=>∃j:Nat,jv= int i64 j/\j<=ks.length/\Hid (gr wq B2 (slice pa hs.length pc) hs.length (aF (pF hs.length new D k ((ks.take j).foldl Z (D k)))))/\Kp (λi=>(Value.slice pa hs.length pc).ownBlock=some i) w7 wq) (λjv _=>ks.length-(intOf jv).toNat)
    case atStart=>exact⟨0,rfl,aA _,ag X.2.2.2.2.1,Kp.refl _ _⟩
    case round=>
     obtain⟨j,rfl,e8,a0,I⟩:=hrel;by_cases dO:j<ks.length
     ·have ek:(j:Int)<ks.length:=oQ;have QH:=X.2.2.2.2.1;have a9:=X.1.aB I (QH.ne X.1 aV);have AL:ku wr B cb l _:=X.2.1.pO I (λi cur T hi _ hT e=>by
       rcases hT with h'|h'|h'|h'<;>subst h'<;>exact QH.ne hi aV e)
      have ce:lB _ _ _:=I.at_ X.2.2.1 (QH.ne X.2.2.1 aV);have WM:lB _ _ _:=I.at_ X.2.2.2.1 (QH.ne X.2.2.2.1 aV);have bg:=I.owns X.2.2.2.2.2.2 (QH.apart X.2.2.2.2.2.2 aV);obtain⟨Gp,oX⟩:∃Gp,ks[j]? =some Gp:=⟨_,au dO⟩
      have be:=dg Gp (aP oX);have em:(Gp:Int)<l.length:=oQ;obtain⟨x,hx⟩:∃x,l[Gp]? =some x:=⟨_,au be⟩
      have cs:hJ ol.ah Gp=x.n.name:=by rw[<-J.ah];unfold Ch.ah;rw[wL (by rw[eu];exact be),kB hx]
      have⟨g3,AI,hv3,_⟩:=cO bg oQ;simp only[aH]at hv3;obtain⟨rfl,-,rfl⟩:=hv3;have zk:wr.cell? ⟨g3,j,none⟩=some (int i64 Gp):=by
       rw[bK bg j oQ];simp[bO,j2,oX]
      have c0:wr.cell? _=some (pointer (some ⟨cb,0,none⟩)):=a9.cell 0;have c1:wr.cell? _=some (slice (some ⟨g,0,none⟩) l.length l.length):=a9.cell 1;have c2:wr.cell? _=some (slice pa hs.length pc):=a9.cell 2;have zc:=AL.cell;have⟨g1',Ji,abH,_,hcell',_⟩:=AL.2.1.form hx;simp only[aH,bE,ei,cA,dV]at abH;obtain⟨rfl,rfl⟩:=abH;have z0:wr.cell? ⟨g1,Gp*7,none⟩=some _:=hcell' 0 oQ;have zg:=ce.cell (k:=p) (by rw[a2.1];exact oQ);have zo:=WM.cell (k:=Gp) (by rw[b6.1];exact be);rw[a2.2.2 p]at zg;rw[b6.2.2 Gp]at zo;have e7:(p:Int)<l.length:=oQ;have eK:(ks.take (j+1)).foldl Z (D k)=if Ch.bit left p&&Ch.bit m.s.act Gp then x.n.name else(ks.take j).foldl Z (D k):=by
       rw[QD oX Z (D k),<-cs];rw[Um]
      have Y:=bw a0 I;clear a9 AL ce WM bg QH hcell' a0 I oX cs;generalize Ch.bit left p=b1 at*;generalize Ch.bit m.s.act Gp=b2 at*;cases b1 with
      |false=>
       have ab:=ag (show(ks.take (j+1)).foldl Z (D k)=(ks.take j).foldl Z (D k)from eK);clear eK;go_upto_region 18 with fail;go_quiet (fail);go_wp2;exact⟨⟨j+1,eb,oQ,ag (by rw[ab];exact Y.1),Y.2.drewN _⟩,ew⟩
      |true=>?_
      cases b2 with
      |false=>
       have ab:=ag (show(ks.take (j+1)).foldl Z (D k)=(ks.take j).foldl Z (D k)from eK);clear eK;go_upto_region 18 with fail;go_quiet (fail);go_wp2;exact⟨⟨j+1,eb,oQ,ag (by rw[ab];exact Y.1),Y.2.drewN _⟩,ew⟩
      |true=>?_
      have ab:=ag (show(ks.take (j+1)).foldl Z (D k)=x.n.name from eK);clear eK;go_upto_region 18 with fail;go_quiet (fail);go_upto_region 19 with fail;have⟨hPQ,I⟩:=Y;have⟨gp,ajn,hv4,_⟩:=hPQ.form oQ;simp only[aH]at hv4;obtain⟨rfl,-,rfl⟩:=hv4;have a3:gr (wr.drewN nq) B2 (slice (some ⟨gp,0,none⟩) hs.length pc) hs.length _:=hPQ;have d0:(wr.drewN nq).cell? _=_:=c0;have d2:(wr.drewN nq).cell? _=_:=c2;have dc:(wr.drewN nq).cell? _=_:=zc;have dk:(wr.drewN nq).cell? _=_:=zk;have dn:(wr.drewN nq).cell? _=_:=z0;have ca:=I.drewN nq;clear c0 c1 c2 zc zk z0 zg zo hPQ I Y;generalize wr.drewN nq=w6 at*;have fp:=a3.free k aa;have dd:=a3.cellAt k aa;rw[show(aF (pF hs.length new D k ((ks.take j).foldl Z (D k))))[k]? =some (int .u8 ((ks.take j).foldl Z (D k)))by simp[aF,Oo _ _ _ aa]]at dd;have Zp:=a3.stored k (int .u8 x.n.name);have cZ:(aF (pF hs.length new D k ((ks.take j).foldl Z (D k)))).set k (int .u8 x.n.name)=aF (pF hs.length new D k x.n.name):=by
       rw[<-Jo new D ((ks.take j).foldl Z (D k)) x.n.name];simp[aF,List.map_set]
      rw[cZ]at Zp;have HZ:=bw Zp (ca.setCell (p:=⟨gp,k,none⟩) (λ_=>rfl) (int .u8 x.n.name));clear a3 ca Zp cZ;go_region;have b7:=bw HZ.1 HZ.2.drew;clear HZ fp dd d0 d2 dc dk dn;go_wp2;exact⟨⟨j+1,eb,oQ,ag (by rw[ab];exact b7.1),b7.2⟩,ew⟩
     have ep:¬(j:Int)<ks.length:=oQ;obtain rfl:j=ks.length:=oQ;have HN:=ag (show gr wr B2 (slice pa hs.length pc) hs.length (aF (pF hs.length new D (k+1) (D (k+1))))by
      have:=a0;rw[gL,<-dj,Ff]at this;exact this)
     have HK:=ag (X.2.2.2.2.2.1.trans I);clear a0 I X;go_wp2;exact⟨⟨k+1,eb,oQ,ag HN,HK⟩,ew⟩
   have ed:¬(k:Int)<hs.length:=oQ;obtain rfl:k=hs.length:=oQ;have G:On wr B2 ol (Ch.rem ol.ah m.s left) (slice pa hs.length pc):=by
    have:=a1;unfold On;rw[<-O.2.2.2.2.1,Jn];exact this
   have XV:pj wr B B2 xb cb g (slice pa hs.length pc) (slice ao l.length ba) l ol m1:=by rw[b3];exact⟨QG,lO,G,iq⟩
   have ci:sQ m1 N:=by rw[b3];exact⟨FW _ aS.ok,aS.tm,aS.sz⟩
   have Vu:¬nS xb g (slice pa hs.length pc) gb:=λe=>by
    rcases e with e|e|e
    ·subst e;have h1:=QG;unfold jD at h1;unfold lB at Po;rw[Po]at h1;simp only[bE,eH]at h1;exact absurd h1.2.1 aV
    ·exact Zo e
    exact gr.ne G Po aV e
   have b8:=(O.2.2.2.1.mono (S':=nS xb g (slice pa hs.length pc)) gM).trans' R (λ_ _ e=>inr (inr e));have HQ:=fM XV ci Po b8;have dl:=ag Vu;clear XV ci Po b8 Vu G QG iq lO R a1 O b5 aS b4;go_wp;generalize fc:wr=w6 at*;go_loopw [13] (λiv wr=>∃(k:Nat) (m':Ma),iv= int i64 ((k:Int)-1)/\k<=l.length/\Hid (dD ol left ol.ah.length m1=dD ol left k m')/\Hid (pj wr B B2 xb cb g (slice pa hs.length pc) (slice ao l.length ba) l ol m')/\Hid (sQ m' (N+115200*(l.length-k)))/\Kp (nS xb g (slice pa hs.length pc)) w6 wr) (λiv _=>(intOf iv+1).toNat)
   case atStart=>exact⟨l.length,m1,eb,aC _,ag (by rw[J.len]),ag HQ.1,ag (HQ.2.1.le oQ),Kp.refl _ _⟩
   case round=>
    obtain⟨k,m',rfl,e9,HE,Jl,Kv,R⟩:=hrel;cases k with
    |zero=>
     have HF:=ag (HE.trans (show _=m' from rfl));clear HE c0 zc;go_wp2;go_end0
     rw[HF];exact⟨rfl,Jl,HQ.2.2.2.trans R⟩
    |succ k=>?_
    have e1:((k+1:Nat):Int)-1=k:=oQ;rw[e1];have eq:(0:Int)<=k:=oQ;have ex:(k:Int)<l.length:=oQ;have Po:lB _ _ _:=R.at_ HQ.2.2.1 dl;have zg:=Po.cell (k:=k) (by rw[a2.1];omega);rw[a2.2.2 k]at zg;cases q1:Ch.bit left k with
    |false=>
     rw[q1]at zg;have HF:=ag (HE.trans (show _=dD ol left k m' by simp only[dD];rw[eQ,q1];rfl));clear HE c0 zc e1 Po q1;go_wp2;exact⟨⟨k,m',eb,oQ,HF,Jl,ag (Kv.le oQ),R⟩,by simp[intOf]⟩
    |true=>?_
    rw[q1]at zg;obtain⟨x,hx⟩:∃x,l[k]? =some x:=⟨_,au oQ⟩
    have c9:=aP hx;have a5:=J.uC k x hx;have HF:=ag (HE.trans (show _=dD ol left k (eO (pQ (ol.fH.filter (ru k 36)) m') k false)by rw[<-Fc];simp only[dD];rw[eQ,q1];rfl));have cm:∀b∈ol.fH.filter (ru k 36),(∀a∈b.bM,xS a)/\b.bM.length<=240:=λb hb=>by
     have⟨_,_,fW⟩:=a5.right hb;exact⟨fW.ac,(J.ok.uo b (fR.1 hb).1).1⟩
    have cn:(ol.fH.filter (ru k 36)).length<=240:=bz (mB _ _) J.ok.fH;have e5:x.n.cU.length<=240:=by rw[a5.len];exact cn
    generalize ol.fH.filter (ru k 36)=fl at*;have⟨ra,rc,hrv⟩:=bp (Jl.ch.2.1.uC x c9);have HL:=c_ a5 cm hrv;clear HE c0 zc e1 Po q1 a5 cm cn hrv;go_wp;generalize fe:wr=w7 at*;go_loopw [14] (λev wr=>∃e:Nat,ev= int i64 e/\e<=x.n.cU.length/\Hid (pj wr B B2 xb cb g (slice pa hs.length pc) (slice ao l.length ba) l ol (pQ (fl.take e) m'))/\Hid (sQ (pQ (fl.take e) m') (N+115200*(l.length-(k+1))+480*e))/\Kp (nS xb g (slice pa hs.length pc)) w7 wr) (λev _=>x.n.cU.length-(intOf ev).toNat)
    case atStart=>exact⟨0,rfl,aA _,Jl,Kv,Kp.refl _ _⟩
    case round=>
     obtain⟨e,rfl,he,XY,Zq,KE⟩:=hrel;have c0:wr.cell? _=some (pointer (some ⟨cb,0,none⟩)):=XY.nb.cell 0;have zc:=XY.ch.cell;have⟨g1,GB,hv1,_,hcell,_⟩:=XY.ch.2.1.form hx;simp only[aH]at hv1;obtain⟨rfl,-,rfl⟩:=hv1;have z5:_=some _:=hcell 5 oQ;rw[HL.2.2]at z5;have Un:=XY.ch.2.1.uC x c9;rw[HL.2.2]at Un;clear hcell;by_cases ds:e<x.n.cU.length
     ·have eg:(e:Int)<x.n.cU.length:=oQ;obtain⟨t,ht⟩:∃t,x.n.cU[e]? =some t:=⟨_,au ds⟩
      have⟨b,hb,fW⟩:=HL.1.Y8 ht;have am:=HL.2.1 b (aP hb);have⟨g3,AI,hv3,_⟩:=cO Un oQ;simp only[aH]at hv3;obtain⟨rfl,-,rfl⟩:=hv3;have zt:=(bK Un e oQ).trans (Fe ht);have E:=ag (zS wr xb cb g l.length _ _ b.bM t XY.nb fW.Vp am.1 Zq.ok Zq.tm ⟨by have:=Zq.sz.1;omega,by have:=Zq.sz.2;omega⟩ oQ (Jj fW.Vp am.2));have Ha:=ag (CC hb m');have Qy:=ag (Zq.bM am.1 am.2);clear Un hb fW am ht;go_wp;refine b9 E ?_;rintro w8 ⟨N8,K8⟩;have X8:=ag (XY.bM K8 N8 (ag (tN b.bM (pQ (fl.take e) m'))));have dq:=KE.trans' K8 (λ_ _ e=>inl e);clear E N8 K8 c0 zc z5 zt;go_wp2;exact⟨⟨e+1,eb,oQ,ag (by rw[Ha];exact X8),ag (by rw[Ha];exact Qy.le oQ),dq⟩,ew⟩
     have eA:¬(e:Int)<x.n.cU.length:=oQ;obtain rfl:e=x.n.cU.length:=oQ;have aj:=XY.out;have ad:=Zq.out;rw[HL.1.len,gL]at aj ad;have⟨hX9,K9⟩:=aj.turn (i:=k) oQ bi false;have ck:sQ _ (N+115200*(l.length-k)):=(show sQ _ _ from⟨qJ ad.ok _ _,ad.tm,ad.sz⟩:sQ (eO (pQ fl m') k false) _).le (by have:=HL.1.len;omega);have c1:wr.cell? _=some (slice (some ⟨g,0,none⟩) l.length l.length):=aj.nb.cell 1;have⟨on,hon,hso⟩:=aj.on;have DC:=hon.cell (k:=k) (by rw[hso.1];omega);have e4:=hon.free k;have HN:=c_ hX9 ck ((R.trans KE).trans K9);clear hX9 K9 ck aj ad hon hso Un XY Zq;go_wp2;exact⟨⟨k,_,eb,oQ,HF,ag HN.1,ag HN.2.1,HN.2.2⟩,by simp[intOf]⟩
namespace Ch
theorem Jr ss c:place ss c<ss.length:=by
 grind[place,Cu]
theorem WO{ss}s{g}(h:g<ss.length):l5 ss s g<ss.length:=by
 unfold l5;split
 ·omega
 split
 ·grind[fj,tJ,aW]
 exact Jr _ _
theorem Uo ol s t:lF ol s t<ol.ah.length:=by
 unfold lF;split
 ·split
  ·omega
  simp_all[WO,Jr]
 omega
theorem CE{ol s s'}(e:s'.b_=s.b_)t:lF ol s' t=lF ol s t:=by
 unfold lF l5 cf;rw[e]
theorem GG ol:∀ a b m,gq ol (a++b) m=gq ol b (gq ol a m):=by
 intro a;induction a with
 |nil=>intro b m;rfl
 |cons x a D=>intro b m;exact D b _
theorem MG ol{l:List Int}{k}{t}(h:l[k]? =some t)m:gq ol (l.take (k+1)) m=eD (sC ol t.toNat) (gq ol (l.take k) m):=by
 rw[iA,h,GG];rfl
theorem sQ.cU{ol}(D:ol.Ok)(E:xV ol){m}{N}(h:sQ m N)left k:sQ (dD ol left k m) (N+115200*k):=
 ⟨zv _ _ _ h.ok,(kf oQ ol).dD E left k h.tm,zw D left k h.sz⟩
theorem sQ.rem{ol:Ol}{m}{N}(h:sQ m N)left:sQ {m with s:=Ch.rem ol.ah m.s left} N:=⟨FW _ h.ok,h.tm,h.sz⟩
end Ch
theorem pj.vD{w B B2 xb cb g pv v l ol m}(h:pj w B B2 xb cb g pv v l ol m){base}{T}{sz}{u}{n}{G}(hu:w.ownsRow base T sz u n G)(D:T≠274)(E:T≠4)(F:T≠5):∀k,u.ownBlock=some k->¬nS xb g pv k:=λk hk e=>by
 have⟨on,ho,_⟩:=h.on;rcases e with e|e|e
 ·exact aZ hu h.nb D (by rw[hk,e])
 ·exact aZ hu ho E (by rw[hk,e])
 exact gr.apart h.ps hu F k hk e
theorem pj.beside{w w' B B2 xb cb g pv v l ol m}(h:pj w B B2 xb cb g pv v l ol m){base}{sz}{u}{n}{E}(hu:w.ownsRow base 3 sz u n E)(k:Kp (λi=>u.ownBlock=some i) w w'):pj w' B B2 xb cb g pv v l ol m:=by
 have⟨on,ho,hs⟩:=h.on;exact⟨h.nb.aB k (aZ hu h.nb aV),⟨on,k.at_ ho (aZ hu ho aV),hs⟩,gr.aB h.ps k (λj hj e=>gr.apart h.ps hu aV j e hj),h.ch.pO k (λi cur T hi _ hT e=>by
  rcases hT with D|D|D|D<;>subst D<;>exact aZ hu hi aV e)⟩
theorem xG w B B2 xb cb g pv v l ol m N B3 list lw(h:pj w B B2 xb cb g pv v l ol m)(E:Rf l ol)(R:Ch.Inv ol m.s)(hM:sQ m N)(hN:N<=880000000)(aO:list.length<=16)(aI:Ae ol list)(a1:∀t∈list,Ch.Src ol m.s t)(ba:Ch.Clear ol m.s list)(Ul:w.ownsRow B3 301 2 lw list.length (iJ ol list)):
 Calls prog 206 #[pointer (some ⟨xb,0,none⟩),lw] w λy w'=>y=returned (tuple #[])/\pj w' B B2 xb cb g pv v l ol (eh ol m list)/\Kp (nS xb g pv) w w':=by
 have⟨i0,hi0,hz0,hz1,hz2⟩:=cr nI;have⟨d,hd,iT⟩:=Cz;have bi:=E.le;obtain⟨la,lc,rfl⟩:=bp Ul;by_cases bg:list.length=0
 ·obtain rfl:list=[]:=List.length_eq_zero_iff.1 bg;rw[P6 E.lD R];have HX:=ag h;go_in;go_wp2;refine aJ (nk rfl _ _ _) rfl ?_;exact⟨rfl,HX,Kp.refl _ _⟩
 have bt:((list.length:Int)==0)=false:=by rw[sY];omega
 have E0:=ag (GF w B B2 xb cb g pv v l ol m N B3 list _ h E R hM hN aO aI Ul);have a5:=(zN E.lD R a1 ba).1;have aS:Aj ol m list=gq ol list _:=rfl;have am:=(hM.rem (ol:=ol) (dM ol m.s list)).cU E.ok E.Dl (dM ol m.s list) ol.ah.length;have⟨_,hp1,hp2⟩:=Cp ol (dM ol m.s list) ol.ah.length {m with s:=Ch.rem ol.ah m.s (dM ol m.s list)} (by show ol.ah.length<=m.s.act.length;rw[R.la,E.len];exact bi);have bo:=(IX E.lD R.b_ R.lp (dM ol m.s list)).same hp1;have bk:(dD ol (dM ol m.s list) ol.ah.length {m with s:=Ch.rem ol.ah m.s (dM ol m.s list)}).s.b_.length=16:=by
  rw[hp1];show(Ch.rem ol.ah m.s _).b_.length=16;unfold Ch.rem;rw[yd];exact R.lp
 rw[a5,aS];rw[<-Mj (λk=>Qc _ k list)];generalize dD ol (dM ol m.s list) ol.ah.length {m with s:=Ch.rem ol.ah m.s (dM ol m.s list)}=D at*;rw[E.len]at am;have Y:=yE ol list D;have bb:list.map (lF ol (gq ol list D).s)=_:=qu (λt _=>CE Y.2 t);rw[bb];have a3:=ag aI;have HL:=bw Ul (h.vD Ul aV aV aV);have HP:=fM bo bk am R;go_in;go_wp2_with fail;refine b9 E0 ?_;rintro w2 ⟨X2,K2⟩;have DM:=c_ X2 (K2.owns HL.1 HL.2) K2;go_wp2_with fail;go_loopw [4,5] (λgv kv wr=>∃k:Nat,kv= int i64 k/\k<=list.length/\wr.ownsRow w2.heap.size 3 1 gv k (bO ((list.take k).map (lF ol D.s)))/\Hid (pj wr B B2 xb cb g pv v l ol (gq ol (list.take k) D))/\Hid (sQ (gq ol (list.take k) D) (N+115200*l.length+480*k))/\Kp (nS xb g pv) w2 wr) (λ_ kv _=>list.length-(intOf kv).toNat)
 case atStart=>exact⟨0,rfl,aA _,cd _ _ _ _,ag DM.1,ag HP.2.2.1,Kp.refl _ _⟩
 case round=>
  obtain⟨k,rfl,hk,Z,O,F,KW⟩:=hrel;by_cases bm:k<list.length
  ·have bx:(k:Int)<list.length:=oQ;obtain⟨ti,I⟩:∃ti,list[k]? =some ti:=⟨_,au bm⟩
   have b1:=a3 ti (aP I);obtain⟨t,rfl⟩:∃t:Nat,ti=t:=⟨ti.toNat,oQ⟩
   have⟨a,nd,rt,x,hsa,WG,hmr⟩:=E.mv (t:=t) oQ;have G:=KW.owns DM.2.1 HL.2;have⟨g2,cap2,hv2,_⟩:=cO G oQ;simp only[aH]at hv2;obtain⟨rfl,-,rfl⟩:=hv2;have⟨q0,q1⟩:=oF ol list k t I;rw[dE]at q0 q1;rw[hsa]at q0;have z0:=(bK G (k*2) oQ).trans q0;have z1:=(bK G (k*2+1) oQ).trans q1;have E1:=ag (E9 wr B xb cb g l.length pv _ l v a _ nd rt O.nb O.ch hmr.nP hmr.Cd);have a9:sC ol t=x.bM:=by unfold sC;rw[hmr.Dk]
   have a0:=MG ol I D;rw[dE,a9]at a0;have be:(list.take (k+1)).map (lF ol D.s)=(list.take k).map (lF ol D.s)++[lF ol D.s t]:=by rw[iA,I,nZ];rfl
   have a8:(∀a∈x.bM,xS a)/\x.bM.length<=240:=⟨hmr.fW.ac,(E.ok.kZ x (aP hmr.Dk)).1⟩
   have Y:=yE ol (list.take k) D;have Q:=Hi a0 be a8 Y Z KW;go_wp2_with fail;refine b9 E1 ?_;intro w3 K3;have E2:=ag (Qm w3 rt x hmr.fW (by have:=hmr.iL;omega));have AR:=bw (O.aw K3) (Q.2.2.2.2.2.trans' K3 gM);have aa:=ag (K3.owns Q.2.2.2.2.1 (λ_ _ x=>x));go_wp2_with fail;refine hm E2 ?_;rintro y br ⟨s,rfl,hs,rfl⟩;have E3:=ag (zS br xb cb g l.length pv _ x.bM s AR.1.nb hs.1 Q.2.2.1.1 F.ok F.tm ⟨by have:=F.sz.1;omega,by have:=F.sz.2;omega⟩ (by have:=Q.2.2.1.2;omega) hs.2);go_wp2_with fail;refine b9 E3 ?_;rintro w4 ⟨N4,K4⟩;have X4:=AR.1.bM K4 N4 (tN _ _);have Dj:=AR.2.trans' K4 (λ_ _ e=>inl e);have a6:=K4.owns aa (λj hj e=>aZ aa AR.1.nb aV (by rw[hj,e]));have M4:=F.bM Q.2.2.1.1 Q.2.2.1.2;rw[<-Q.1]at X4 M4;have G:=Dj.owns DM.2.1 HL.2;have⟨q0,q1⟩:=oF ol list k t I;rw[dE]at q0 q1;rw[hsa]at q0;have z0:=(bK G (k*2) oQ).trans q0;have z1:=(bK G (k*2+1) oQ).trans q1;have Zr:=yE ol (list.take (k+1)) D;have a7:Ch.Inv ol {(gq ol (list.take (k+1)) D).s with act:=m.s.act}:=⟨HP.2.2.2.Cr,HP.1.same Zr.2,HP.2.2.2.la,by show(gq ol (list.take (k+1)) D).s.b_.length=16;rw[Zr.2];exact HP.2.1⟩
   have E5:=ag (Qx w4 B B2 xb cb g pv {(gq ol (list.take (k+1)) D)with s:={(gq ol (list.take (k+1)) D).s with act:=m.s.act}} l v ol t a _ nd rt x X4.nb X4.ps a7 X4.ch E hmr);have ap:lF ol {(gq ol (list.take (k+1)) D).s with act:=m.s.act} t=_:=CE Zr.2 t;rw[ap]at E5;have J:=fM X4 M4 Dj a6;go_wp21;refine b9 E5 ?_;intro w5 K5;have X:=K5.owns J.2.2.2 (λ_ _ x=>x);have ad:=J.2.2.1.trans' K5 gM;have X5:=J.1.aw K5;have b0:=ad.size;have U:=c_ X5 ad J.2.1;have a2:=ag Q.2.1;go_wp2_with (at_builtin;refine jk (P:=prog) _ rfl (tmp 36) (tmp 38) 38 rfl w2.heap.size 3 i0 (int i64 0) 1 8 underlying38 hi0 hz0 hz1 hz2 rfl aV u4 k (bO ((list.take k).map (lF ol D.s))) rfl (by exact World.ownsRow.alloc X _) ⟨w5.heap.size,0,none⟩ 1 1 [int i64 (lF ol D.s t)] rfl rfl (by exact gT _ _ _) Ki wY oQ il ?_);intro v' w9 o9 g9 _;have K9:=((Kp.refl (λi=>u4.ownBlock=some i) w5).alloc (cells #[int i64 (lF ol D.s t)] 3)).grown (by exact g9) (λj hj _=>hj);have X9:=U.1.beside X K9;have a4:=U.2.1.trans' K9 (λi hi e=>by have:=(World.ownsRow.lt X i e).1;omega);have HO:=fM o9 X9 a4 U.2.2;go_wp2;go_roundw
   case rel=>
    refine⟨k+1,eb,oQ,?_,ag HO.2.1,ag (HO.2.2.2.le oQ),HO.2.2.1⟩;rw[a2];have:=HO.1;simpa[bO]using this
   case measure=>exact ew
  have ap:¬(k:Int)<list.length:=oQ;obtain rfl:k=list.length:=oQ;have ao:=O.out;have aj:=F.out;rw[gL]at ao aj Z;have bc:∀x∈list.map (lF ol D.s),x<(l.length:Int):=λx hx=>by
   obtain⟨t,_,rfl⟩:=gY.1 hx;rw[<-E.len];exact Uo _ _ _
  have E6:=ag (xi wr B B2 xb cb g pv v l ol _ (N+115200*l.length+480*list.length) w2.heap.size (list.map (lF ol D.s)) u4 ao E aj oQ (cX aO) bc (by rw[fN];exact Z));have HK:=ag (DM.2.2.trans KW);go_wp;refine b9 E6 ?_;rintro w7 ⟨X7,K7⟩;have ab:=bw X7 (HK.trans K7);go_wp2;go_end0
  exact⟨rfl,ab.1,ab.2⟩
namespace Ch
def QB(m:Ma):Prop:=∀a∈m.q,0<=a/\a<256
theorem QB.push{m}(h:QB m){c}(E:0<=c)(F:c<256):QB {m with q:=m.q++[c]}:=by
 intro a D;rcases cS.1 D with D|D
 ·exact h a D
 simp_all
theorem QB.act{m}(h:QB m){a}(D:xS a):QB (cP m a).2:=by
 unfold cP;split
 ·exact h.push (by have:=D.byte;omega) (by have:=D.byte;omega)
 split
 ·exact h
 split
 ·exact h
 split
 ·exact h
 exact h
theorem QB.bM:∀ l {m},QB m->(∀a∈l,xS a)->QB (eD l m):=by
 intro l;induction l with
 |nil=>intro m D _;exact D
 |cons a l G=>?_
 intro m D F;simp only[eD];have E:=D.act (F a dy);split
 ·simp_all
 exact E.push oQ oQ
theorem QB.fH{k:Nat}{sg}(E:sg=94\/sg=36):∀(l:List Bl) {m},(∀b∈l,∀k:Nat,∀sg,b.state=k->b.sign=sg->(sg=94\/sg=36)->∀a∈b.bM,xS a)->QB m->QB (fa k sg l m):=by
 intro l;induction l with
 |nil=>intro m _ D;exact D
 |cons b l G=>?_
 intro m F D;simp only[fa];refine G (λb hb=>F b (by simp[hb])) ?_;split
 ·rename_i c;simp only[fQ,beq_iff_eq]at c;exact D.bM _ (F b dy k sg c.1 c.2 E)
 omega
def WQ(ol:Ol):Prop:=∀k,0<=hJ ol.ah k/\hJ ol.ah k<256
theorem QB.dT{ol:Ol}(D:WQ ol)(F:xV ol){m:Ma}(G:QB m)(k:Nat):QB (dT ol m k):=by
 have E:QB (fa k 94 ol.fH (eO m k true)):=QB.fH (k:=k) (inl rfl) ol.fH F.bl G;unfold Ch.dT;split
 ·unfold iX;split
  ·exact E
  split
  ·exact(E.push (D _).1 (D _).2).push (D _).1 (D _).2
  exact E.push (D _).1 (D _).2
 exact E
theorem QB.qm{ol:Ol}(F:WQ ol)(E:xV ol):∀(l:List Nat) {m:Ma},QB m->QB (qm ol l m):=by
 intro l;induction l with
 |nil=>intro m D;exact D
 |cons a l G=>?_
 intro m D;simp only[Ch.qm];refine G ?_;split
 ·exact D
 exact D.dT F E a
theorem QB.fm{ol:Ol}(G:WQ ol)(F:xV ol)(st:List Bool)(E:List Int):∀(f k:Nat) {m:Ma},QB m->QB (fm ol st E f k m):=by
 intro f;induction f with
 |zero=>intro k m D;exact D
 |succ f I=>?_
 intro k m D;simp only[Ch.fm];refine I _ ?_;split
 ·exact D.dT G F k
 exact D
theorem QB.dD{ol:Ol}(E:xV ol)(left:List Bool):∀(k:Nat) {m:Ma},QB m->QB (dD ol left k m):=by
 intro k;induction k with
 |zero=>intro m D;exact D
 |succ k F=>?_
 intro m D;simp only[Ch.dD];refine F ?_;split
 ·exact(QB.fH (k:=k) (inr rfl) ol.fH E.bl D:QB (fa k 36 ol.fH m))
 exact D
theorem QB.gq{ol:Ol}(E:xV ol):∀(l:List Int) {m:Ma},QB m->QB (gq ol l m):=by
 intro l;induction l with
 |nil=>intro m D;exact D
 |cons x l G=>?_
 intro m D;simp only[Ch.gq];refine G (D.bM _ ?_);unfold sC;split
 ·rename_i y F;exact E.tr y (aP F)
 simp
theorem QB.eh{ol:Ol}(E:WQ ol)(D:xV ol){m:Ma}(F:QB m)(l:List Int):QB (eh ol m l):=
 QB.fm E D _ _ _ _ (QB.gq D l (QB.dD D _ _ (m:={m with s:=Ch.rem ol.ah m.s (dM ol m.s l)}) F))
theorem sQ.eh{ol:Ol}(D:ol.Ok)(E:xV ol){m:Ma}{N:Nat}(h:sQ m N){l:List Int}(F:l.length<=16):sQ (eh ol m l) (N+3900000):=
 ⟨vB h.ok l,(kf oQ ol).eh E h.tm l,tB D h.sz F⟩
theorem Uq{a q}(D:0<=a)(E:a<256):af (strOfNums (a::q)) 0=a:=by
 have hs:(strOfNums (a::q)).size=q.length+1:=by rw[dC];rfl
 unfold af;rw[dif_pos oQ];show((UInt8.ofNat a.toNat).toNat:Int)=a;simp_all<;>omega
theorem Ur a q:(strOfNums (a::q)).extract 1 (strOfNums (a::q)).size=strOfNums q:=by
 apply lZ;rw[dC];simp[strOfNums,ByteArray.data_extract];exact sX dy
theorem Ut a q:strOfNums (a::q)≠⟨#[]⟩:=λe=>by
 have:=iw ByteArray.size e;rw[dC]at this;simp[ByteArray.size]at this
theorem Uu{ol m}(D:(choose ol m.s 46).length=0)(E:m.q=[]):busy ol m=false:=by unfold busy;rw[D,E];rfl
theorem Zs{ol m a q}(D:m.q=a::q):busy ol m=true:=by unfold busy;rw[D];simp
theorem Zt{ol m}(D:(choose ol m.s 46).length≠0):busy ol m=true:=by unfold busy;simp;omega
theorem Am{ol m}(h:busy ol m=false)n:dz ol n m=(true,m):=by
 cases n with
 |zero=>grind[dz]
 |succ n=>grind[dz]
theorem GH{ol m}(h:busy ol m=true):dz ol 0 m=(false,m):=by simp only[dz,h];rfl
theorem QI{ol m a q}(D:(choose ol m.s 46).length=0)(E:m.q=a::q)n:dz ol (n+1) m=dz ol n (eh ol {m with q:=q} (choose ol m.s a)):=by
 grind[dz,Zs,round]
theorem QJ{ol m}(D:(choose ol m.s 46).length≠0)n:dz ol (n+1) m=dz ol n (eh ol m (choose ol m.s 46)):=by
 grind[dz,Zt,round,choose]
end Ch
theorem Rf.WR{l ol}(h:Rf l ol):WQ ol:=λk=>by
 by_cases hk:k<l.length
 ·obtain⟨x,E⟩:∃x,l[k]? =some x:=⟨_,au hk⟩
  have D:hJ ol.ah k=x.n.name:=by rw[<-h.ah];grind[Ch.ah,wL,eu,kB]
  have:=h.nm k x E;omega
 unfold hJ;rw[List.getElem?_eq_none (by rw[h.len];omega)];simp
theorem CF B B2 xb cb g pv v l ol(G:Rf l ol):∀ n w m N,pj w B B2 xb cb g pv v l ol m->Ch.Inv ol m.s->sQ m N->QB m->N+3900000*n<=880000000->
 Calls prog 203 #[pointer (some ⟨xb,0,none⟩),int i64 n] w λy w'=>y=returned (bool (dz ol n m).1)/\pj w' B B2 xb cb g pv v l ol (dz ol n m).2/\Kp (nS xb g pv) w w':=by
 intro n;induction n with
 |zero=>
  intro w m N h X R hQ hN;have⟨on,hon,hso⟩:=h.on;have Q:=ag (sk w B xb cb g pv m l v ol 46 on h.nb hon hso X h.ch G);have F:=mQ G.ok m.s 46;have c7:w.cell? _=some (string (strOfNums m.q)):=h.nb.cell 7;have I:=ag h;cases qb:Ch.busy ol m with
  |false=>
   have E:(Ch.choose ol m.s 46).length=0:=by unfold Ch.busy at qb;simp at qb;simp[qb.1]
   have O:m.q=[]:=by unfold Ch.busy at qb;simp at qb;exact qb.2
   have HN:=ag (Am qb 0);rw[O]at c7;replace c7:w.cell? ⟨xb,7,none⟩=some (string ⟨#[]⟩):=c7;rw[E]at Q;clear h X R hQ hon hso O F E qb;go_in;go_wp;refine hm Q ?_;rintro y w2 ⟨u,rfl,hu,D⟩;obtain⟨ua,uc,rfl⟩:=bp hu;have d7:=D.bN c7;have Y:=bw (I.aw D) D;clear Q hu D c7 I;go_wp2;go_ret;rw[HN];exact⟨rfl,Y.1,Y.2.mono gM⟩
  |true=>?_
  have HN:=ag (GH qb);have aI:(Ch.choose ol m.s 46).length≠0\/strOfNums m.q≠⟨#[]⟩:=by
   cases O:m.q with
   |nil=>left;unfold Ch.busy at qb;rw[O]at qb;simp at qb;omega
   |cons a q=>right;exact Ut a q
  generalize strOfNums m.q=S at*;generalize (Ch.choose ol m.s 46).length=cl at*;have a1:=Q.out;generalize iJ ol (Ch.choose ol m.s 46)=mc at*;have U:=ag a1;clear h X R hQ hon hso qb Q a1;have bg:(cl:Int)<=16:=oQ;by_cases c:cl=0
  ·subst c;have hS:S≠⟨#[]⟩:=by rcases aI with h|h;exact absurd rfl h;exact h
   have bc:S.toList.isEmpty=false:=by rw[<-decide_eq_emptyBytes];exact fB hS
   clear aI F;go_in;go_wp;refine hm U ?_;rintro y w2 ⟨u,rfl,hu,D⟩;obtain⟨ua,uc,rfl⟩:=bp hu;have d7:=D.bN c7;have Y:=bw (I.aw D) D;clear U hu D c7 I;go_wp2;go_ret;rw[HN];exact⟨rfl,Y.1,Y.2.mono gM⟩
  have c':((cl:Int)==0)=false:=by rw[sY];omega
  clear aI;go_in;go_wp;refine hm U ?_;rintro y w2 ⟨u,rfl,hu,D⟩;obtain⟨ua,uc,rfl⟩:=bp hu;have d7:=D.bN c7;have Y:=bw (I.aw D) D;clear U hu D c7 I;go_wp2;go_ret;rw[HN];exact⟨rfl,Y.1,Y.2.mono gM⟩
 |succ n ih=>?_
 intro w m N h X R hQ hN;have⟨on,hon,hso⟩:=h.on;have Q:=ag (sk w B xb cb g pv m l v ol 46 on h.nb hon hso X h.ch G);have F:=mQ G.ok m.s 46;have c7:w.cell? _=some (string (strOfNums m.q)):=h.nb.cell 7;obtain⟨nn,a4⟩:∃x:Int,x=((n+1:Nat):Int):=⟨_,rfl⟩
 rw[<-a4];have aj:nn-1=n:=oQ;have bm:(nn==0)=false:=by rw[sY];omega
 have bo:1<=nn:=oQ;have br:nn<=1000:=oQ;clear a4;by_cases E:(Ch.choose ol m.s 46).length=0
 ·cases O:m.q with
  |nil=>
   have HN:=ag (Am (Uu E O) (n+1));rw[O]at c7;replace c7:w.cell? ⟨xb,7,none⟩=some (string ⟨#[]⟩):=c7;have I:=ag h;rw[E]at Q;clear h X R hQ hon hso O F ih E;go_in;go_wp;refine hm Q ?_;rintro y w2 ⟨u,rfl,hu,D⟩;obtain⟨ua,uc,rfl⟩:=bp hu;have d7:=D.bN c7;have Y:=bw (I.aw D) D;clear Q hu D c7 I;go_wp2;go_ret;rw[HN];exact⟨rfl,Y.1,Y.2.mono gM⟩
  |cons a q=>
   have ap:=hQ a (by rw[O];simp);have XZ:=mQ G.ok m.s a;have HN:=ag (QI E O n);have ao:sQ {m with q:=q} N:=⟨R.ok,R.tm,⟨by have:=R.sz.1;rw[O]at this;show q.length<=N;simp at this;omega,R.sz.2⟩⟩
   have a2:QB {m with q:=q}:=λx hx=>hQ x (by rw[O];exact sW _ hx);have ad:Ch.Inv ol ({m with q:=q}:Ma).s:=X;have aa:=tQ G.lD ad a;have ab:=(mP ol m.s a).1;have Qy:=c_ (ao.eh G.ok G.Dl XZ) (a2.eh G.WR G.Dl (Ch.choose ol m.s a)) (lC G.lD ad a);rw[O]at c7;have bb:0<(strOfNums (a::q)).size:=by rw[dC];simp
   have RJ:(strOfNums (a::q)).size<=880000001:=by
    have:=R.sz.1;rw[O]at this;rw[dC];omega
   have bc:(strOfNums (a::q)).toList.isEmpty=false:=by rw[<-decide_eq_emptyBytes];exact fB (Ut a q)
   have a5:(((strOfNums (a::q))[0]'bb).toNat:Int)=a:=by
    have:=Uq (q:=q) ap.1 ap.2;unfold af at this;rw[dif_pos bb]at this;exact this
   have a6:=Ur a q;have I:=c_ h ao ad;have Zu:=bw aa ab;have Vs:=ag ih;rw[E]at Q;generalize strOfNums (a::q)=S at*;have bk:(0:Int)<S.size:=oQ;have bi:(1:Int)<=S.size:=oQ;have a8:=ag a6;have a7:=ag a5;have Z:=ag hN;have am:=ag aj;clear h X R hQ hon hso O F ih E ao a2 ad aa ab a6 a5 hN aj ap;go_in;go_wp;refine hm Q ?_;rintro y w2 ⟨u,rfl,hu,D⟩;obtain⟨ua,uc,rfl⟩:=bp hu;have d7:=D.bN c7;have J:=I.1.aw D;have f7:=J.nb.free 7;have K3:Kp (λk=>k=xb) w2 (w2.setCell ⟨xb,7,none⟩ (string (strOfNums q))):=(Kp.refl _ _).setCell jF _;have a3:=J.bM K3 (J.nb.Ll q) (mw.refl _);have AR:=bw a3 ((D.mono (S':=nS xb g pv) gM).trans' K3 (λ_ _ e=>inl e));clear Q hu D c7 J a3 K3;go_wp21;rw[a8,a7];generalize w2.setCell ⟨xb,7,none⟩ (string (strOfNums q))=w3 at*;have⟨on3,AO,abL⟩:=AR.1.on;have U:=ag (sk w3 B xb cb g pv _ l v ol a on3 AR.1.nb AO abL I.2.2 AR.1.ch G);clear AO abL d7 f7;replace U:Hid (Calls prog 205 #[pointer (some ⟨xb,0,none⟩),int .u8 a] w3 λy w'=>∃u,y=returned u/\w'.ownsRow w3.heap.size 301 2 u (Ch.choose ol m.s a).length (iJ ol (Ch.choose ol m.s a))/\Kp bA w3 w'):=U;generalize Ch.choose ol m.s a=cs at*;refine hm U ?_;rintro y w4 ⟨u4,rfl,aO,K4⟩;obtain⟨bt,bx,rfl⟩:=bp aO;have XU:=AR.1.aw K4;have E2:=ag (xG w4 B B2 xb cb g pv v l ol _ N _ cs _ XU G I.2.2 I.2.1 (by have:=Z.out;omega) XZ Zu.2 Zu.1.2 Zu.1.1 aO);have Zv:=ag (AR.2.trans' K4 gM);clear U aO K4 I XU AR;go_wp2_with fail;refine b9 E2 ?_;rintro w5 ⟨X5,K5⟩;have E3:=ag (Vs w5 _ _ X5 Qy.2.2 Qy.1 Qy.2.1 (by have:=Z.out;omega));have DL:=ag (Zv.trans K5);clear E2 X5 K5 Zv Vs;rw[<-HN]at E3;go_wp21;rw[am];refine b9 E3 ?_;rintro w6 ⟨X6,K6⟩;have ba:=bw X6 (DL.trans K6);clear E3 X6 K6 DL;exact iN ba
 have be:(((Ch.choose ol m.s 46).length:Int)==0)=false:=by rw[sY];omega
 have HN:=ag (QJ E n);have aa:=tQ G.lD X 46;have ab:=(mP ol m.s 46).1;have Qy:=c_ (R.eh G.ok G.Dl F) (hQ.eh G.WR G.Dl (Ch.choose ol m.s 46)) (lC G.lD X 46);have HH:=c_ h X R;have Zu:=bw aa ab;have Vs:=ag ih;generalize Ch.choose ol m.s 46=cs at*;generalize strOfNums m.q=S at c7;have Z:=ag hN;have am:=ag aj;clear hN aj;clear h X R hQ hon hso ih aa ab E;go_in;go_wp;refine hm Q ?_;rintro y w2 ⟨u,rfl,hu,D⟩;obtain⟨ua,uc,rfl⟩:=bp hu;have d7:=D.bN c7;have J:=HH.1.aw D;have U:=ag (xG w2 B B2 xb cb g pv v l ol m N _ cs _ J G HH.2.1 HH.2.2 (by have:=Z.out;omega) F Zu.2 Zu.1.2 Zu.1.1 hu);have aS:=ag D;clear Q hu D c7 HH J;go_wp21;refine b9 U ?_;rintro w3 ⟨X3,K3⟩;have E2:=ag (Vs w3 _ _ X3 Qy.2.2 Qy.1 Qy.2.1 (by have:=Z.out;omega));have a0:=ag ((aS.mono (S':=nS xb g pv) gM).trans K3);clear U X3 K3 d7 aS Vs;rw[<-HN]at E2;go_wp21;rw[am];refine b9 E2 ?_;rintro w4 ⟨X4,K4⟩;have a9:=bw X4 (a0.trans K4);clear E2 X4 K4 a0;exact iN a9
section
variable {P:Program} {a:Act} {w:World} {Q:Exit->Act->World->Prop}
theorem Js(l:Array Bool)i j:(l.setIfInBounds j true).setIfInBounds i true=(l.setIfInBounds i true).setIfInBounds j true:=by
 grind
theorem QK(a:Act){x}{y}u v(h:x≠y):(a.put (some y) u).put (some x) v=(a.put (some x) v).put (some y) u:=
 (Act.put_comm a (x:=some x) (y:=some y) v u (λ_ hd hd'=>h ((Option.some.inj hd).trans (Option.some.inj hd').symm))).symm
theorem Zw{S E}i j c{J}{R}{O}{F}{D}I G U v u x w'(am:I≠G)(ad:I≠U)(hr:Region.ready .any E D=[i,j])(ap:Region.ready .any E (D.setIfInBounds i true)=[j])(aI:Region.ready .any E (D.setIfInBounds j true)=[i,c])(aO:Region.ready .any E ((D.setIfInBounds i true).setIfInBounds j true)=[c])(aS:Region.ready .any E ((D.setIfInBounds j true).setIfInBounds c true)=[i])(hi:E[i]? =some J)(hj:E[j]? =some R)(hc:E[c]? =some O)(X:J.guard=none)(Y:R.guard=none)(ao:O.guard=none)(aj:J.dst=some I)(Z:R.dst=some G)(aa:O.dst=some U)(r1:(execOp a.eval J).run P w= .ok (.value v) w)(r2:(execOp (a.put (some I) v).eval R).run P w= .ok (.value u) w')(r3:(execOp a.eval R).run P w= .ok (.value u) w')(r4:(execOp (a.put (some G) u).eval J).run P w'= .ok (.value v) w')(r5:(execOp ((a.put (some I) v).put (some G) u).eval O).run P w'= .ok (.value x) w')(r6:(execOp (a.put (some G) u).eval O).run P w'= .ok (.value x) w')(r7:(execOp ((a.put (some G) u).put (some U) x).eval J).run P w'= .ok (.value v) w')(hS:S w)(ab:S w')(h:wpAnyH P .any E (NoPanic Q) S F (((D.setIfInBounds i true).setIfInBounds j true).setIfInBounds c true) (((a.put (some I) v).put (some G) u).put (some U) x) w'):wpAnyH P .any E (NoPanic Q) S (F+1+1+1) D a w:=by
 refine FY i j hr hi hj X Y ?_ ?_
 ·grind[Kl,ym]
 grind[Kl,FY,Js,QK,ym]
end
theorem CG w B B2 xb cb g pv v l ol m(h:pj w B B2 xb cb g pv v l ol m)(hR:Rf l ol)(_hI:Ch.Inv ol m.s):
 Calls prog 204 #[pointer (some ⟨xb,0,none⟩)] w λy w'=>y=returned (agg (cM (bX ol.ah m.s)))/\Kp bA w w':=by
 have a4:=hR.le;obtain⟨ao,ap,rfl⟩:=h.ch.2.1.len;have⟨pa,pc,hpv⟩:=gr.len h.ps;have K1:=kG w (cells cG 26);have a0:=ak w (cells cG 26);have Q:=h.aw K1;clear h;go_in;go_upto_region 1 with fail;generalize w.alloc (cells cG 26)=E at*;generalize wm:w.heap.size=ob at*;have c2:_=some pv:=Q.nb.cell 2;have c3:E.cell? _=some (string m.s.tm):=Q.nb.cell 3;have c4:E.cell? _=some (int i64 m.s.x):=Q.nb.cell 4;have c5:E.cell? _=some (int i64 m.s.y):=Q.nb.cell 5;have c6:E.cell? _=some (int i64 m.s.z):=Q.nb.cell 6;rw[hpv]at c2;have J:=λ(w':World) (F:Kp bA E w')=>gr.text (show gr w' B2 (slice pa (lG ol.ah m.s).length pc) (lG ol.ah m.s).length (aF (lG ol.ah m.s))by
  have:=Q.ps;unfold On at this;rw[hpv]at this;exact this.aB F (λ_ _ x=>x))
 have HX:=ag Q;clear Q;generalize (lG ol.ah m.s).length=pn at*;generalize aj:strOfNums (lG ol.ah m.s)=U at*;have am:=ag aj;clear aj;have D:Kp bA E _:=(Kp.refl _ _).drew;have G:Kp _ _ (E.drew.alloc (cells cG 26)):=D.alloc _;have O:Kp _ _ ((E.drew.alloc (cells cG 26)).setRow E.heap.size #[string ⟨#[]⟩,string U,string m.s.tm,int i64 m.s.x,int i64 m.s.y,int i64 m.s.z]):=G.setRow (λx=>absurd x oQ) _;refine aY (λw'=>Kp bA E w') bZ ?_;refine bR 0 5 (pointer (some ⟨xb,0,none⟩)) D ?_;refine bR 1 6 (pointer (some ⟨xb,0,none⟩)) D ?_;refine bR 2 7 (pointer (some ⟨xb,2,none⟩)) D ?_;refine fh 3 8 (slice pa pn pc) rfl (λw' F=>by have:=F.bN c2;simp[execOp,Act.eval,go_sem,this]) D ?_;refine fh 4 9 (string U) rfl (λw' F=>pY 47 9 (tmp 8) rfl (slice pa pn pc) (string U) nQ (J w' F)) D ?_;refine bR 5 10 (pointer (some ⟨xb,0,none⟩)) D ?_;refine bR 6 11 (pointer (some ⟨xb,0,none⟩)) D ?_;refine bR 7 12 (pointer (some ⟨xb,3,none⟩)) D ?_;refine fh 8 13 (string m.s.tm) rfl (λw' F=>by have:=F.bN c3;simp[execOp,Act.eval,go_sem,this]) D ?_;refine bR 9 14 (pointer (some ⟨xb,0,none⟩)) D ?_;refine bR 10 15 (pointer (some ⟨xb,0,none⟩)) D ?_;refine bR 11 16 (pointer (some ⟨xb,4,none⟩)) D ?_;refine bR 12 17 (pointer (some ⟨xb,4,none⟩)) D ?_;refine fh 13 18 (int i64 m.s.x) rfl (λw' F=>by have:=F.bN c4;simp[execOp,Act.eval,go_sem,this]) D ?_;refine bR 14 19 (pointer (some ⟨xb,0,none⟩)) D ?_;refine bR 15 20 (pointer (some ⟨xb,0,none⟩)) D ?_;refine bR 16 21 (pointer (some ⟨xb,4,none⟩)) D ?_;refine bR 17 22 (pointer (some ⟨xb,5,none⟩)) D ?_;refine fh 18 23 (int i64 m.s.y) rfl (λw' F=>by have:=F.bN c5;simp[execOp,Act.eval,go_sem,this]) D ?_;refine bR 19 24 (pointer (some ⟨xb,0,none⟩)) D ?_;refine bR 20 25 (pointer (some ⟨xb,0,none⟩)) D ?_;refine bR 21 26 (pointer (some ⟨xb,4,none⟩)) D ?_;refine bR 22 27 (pointer (some ⟨xb,6,none⟩)) D ?_;refine fh 23 28 (int i64 m.s.z) rfl (λw' F=>by have:=F.bN c6;simp[execOp,Act.eval,go_sem,this]) D ?_;refine fh 24 29 (agg #[string ⟨#[]⟩,string U,string m.s.tm,int i64 m.s.x,int i64 m.s.y,int i64 m.s.z]) rfl (λw' _=>eU 26 _ rfl #[string ⟨#[]⟩,string U,string m.s.tm,int i64 m.s.x,int i64 m.s.y,int i64 m.s.z] [(1,string U),(2,string m.s.tm),(3,int i64 m.s.x),(4,int i64 m.s.y),(5,int i64 m.s.z)] nQ bZ) D ?_;refine pf 25 ?_;refine Kl (some 3) rfl (pointer (some ⟨E.heap.size,0,none⟩)) (E.drew.alloc (cells cG 26)) Fv ?_;simp only[Act.put,pA,pB,pC];refine⟨G,?_⟩;refine cQ 26 bZ rfl rfl 26 (tmp 3) (tmp 29) rfl rfl E.heap.size #[string ⟨#[]⟩,string U,string m.s.tm,int i64 m.s.x,int i64 m.s.y,int i64 m.s.z] nQ nQ 26 cG (ak E.drew _) bF rfl (fK ⟨⟨#[]⟩,U,m.s.tm,m.s.x,m.s.y,m.s.z⟩) O ?_;refine bG bZ (bH ?_) _;have Y:=bw (an (E.drew.alloc (cells cG 26)) E.heap.size cG #[string ⟨#[]⟩,string U,string m.s.tm,int i64 m.s.x,int i64 m.s.y,int i64 m.s.z] 26 (0,0) (ak E.drew _)) O;clear J c2 c3 c4 c5 c6 D G O;generalize (E.drew.alloc (cells cG 26)).setRow E.heap.size #[string ⟨#[]⟩,string U,string m.s.tm,int i64 m.s.x,int i64 m.s.y,int i64 m.s.z]=w2 at*;generalize a5:E.heap.size=sb at*;go_wp;go_loopw [4] (λkv wr=>∃k:Nat,kv= int i64 k/\k<=l.length/\Hid (wr.heap[sb]? =some (cells #[string (strOfNums (jU ol.ah m.s k)),string U,string m.s.tm,int i64 m.s.x,int i64 m.s.y,int i64 m.s.z] 26))/\Kp bA E wr) (λkv _=>l.length-(intOf kv).toNat)
 case atStart=>exact⟨0,rfl,aA _,ag Y.1,Y.2⟩
 case round=>
  obtain⟨k,rfl,hk,HB,KW⟩:=hrel;have Z:=HX.aw KW;have⟨on,hon,hso⟩:=Z.on;have d0:wr.cell? _=some (pointer (some ⟨cb,0,none⟩)):=Z.nb.cell 0;have d1:wr.cell? _=some (slice (some ⟨g,0,none⟩) l.length l.length):=Z.nb.cell 1;have zd:=Z.ch.cell;by_cases ad:k<l.length
  ·have DC:=hon.cell (k:=k) (by have:=hso.1;omega);have I:=D3 ol.ah m.s k;rw[eQ,<-hso.2.2 k]at I;have a2:=yc ol.ah m.s k;cases qo:jC on k with
   |false=>
    rw[qo]at DC I;have HA:=ag (show jU ol.ah m.s (k+1)=jU ol.ah m.s k by rw[I];simp);clear Z hon hso I;go_wp2;exact⟨⟨k+1,eb,oQ,ag (by rw[HA];exact HB),KW⟩,ew⟩
   |true=>?_
   rw[qo]at DC I;obtain⟨y,hy⟩:∃y,l[k]? =some y:=⟨_,au ad⟩
   rw[(by rw[<-hR.ah];unfold Ch.ah;rw[wL (by rw[eu];exact ad),kB hy]:hJ ol.ah k=y.n.name)]at I;have Q:=HX.out;have c0:E.cell? _=some (pointer (some ⟨cb,0,none⟩)):=Q.nb.cell 0;have zc:=Q.ch.cell;have⟨g1,GB,hv,_,hcell,_⟩:=Q.ch.2.1.form hy;simp only[aH]at hv;obtain⟨rfl,-,rfl⟩:=hv;have v0:E.cell? ⟨g1,k*7,none⟩=some _:=hcell 0 oQ;have R:=HB.out;have s0:wr.cell? ⟨sb,0,none⟩=some (string (strOfNums (jU ol.ah m.s k))):=dG R rfl;have eK:∀o (u:ByteArray),(((wr.drew.alloc o).setCell ⟨sb,0,none⟩ (string u))).heap[sb]? =some (cells #[string u,string U,string m.s.tm,int i64 m.s.x,int i64 m.s.y,int i64 m.s.z] 26):=λo u=>by
    rw[ar _ ((((Kp.refl bA wr).drew).alloc o).at_ R (λx=>x))];rfl
   have WS:=λo=>((Kp.refl bA wr).alloc o).bN s0;have ab:∀o,(wr.alloc o).frozen? ⟨sb,0,none⟩=false:=λo=>by
    simp[World.frozen?,((Kp.refl bA wr).alloc o).at_ R (λx=>x)]
   have HA:=ag (show strOfNums (jU ol.ah m.s (k+1))=strOfNums (jU ol.ah m.s k)++strOfNums [y.n.name]by rw[I,<-lj];simp);have a1:(strOfNums (jU ol.ah m.s k)).size<=16:=by rw[dC];omega
   generalize strOfNums (jU ol.ah m.s k)=A at*;have J:=lU (P:=prog) ((wr.alloc (cells #[int .u8 y.n.name] 5)).drew) 47 5 underlying47 underlying5 wr.heap.size 0 1 1 [y.n.name] rfl (by
    intro i hi;match i,hi with
    |0,_=>simp) 9 underlying9
   replace J:Sem.run prog (convert 47 9 (slice (some ⟨wr.heap.size,0,none⟩) 1 1)) (wr.drew.alloc (cells #[int .u8 y.n.name] 5))= .ok (string (strOfNums [y.n.name])) (wr.drew.alloc (cells #[int .u8 y.n.name] 5)):=J;have X:=λw'=>my (P:=prog) w' A (strOfNums [y.n.name]) (by rw[dC];simp;omega);have aa:=ag eK;have D:=KW.drew;have G:Kp _ _ (wr.drew.alloc (cells #[int .u8 y.n.name] 5)):=D.alloc _;have O:Kp _ _ ((wr.drew.alloc (cells #[int .u8 y.n.name] 5)).setCell ⟨sb,0,none⟩ (string (A++strOfNums [y.n.name]))):=G.setCell (p:=⟨sb,0,none⟩) (λx=>absurd x (by show¬sb<_;omega)) _;clear Z hon hso I R hcell eK KW Q;go_upto_region 6 with fail;refine aY (λw'=>Kp bA E w') bZ ?_;refine bR 0 49 (pointer (some ⟨sb,0,none⟩)) D ?_;refine bR 2 51 (pointer (some ⟨xb,0,none⟩)) D ?_;refine bR 3 52 (pointer (some ⟨xb,0,none⟩)) D ?_;refine bR 4 53 (pointer (some ⟨xb,0,none⟩)) D ?_;refine fh 5 54 (pointer (some ⟨cb,0,none⟩)) rfl (λw' F=>by have:=F.bN c0;simp[execOp,Act.eval,go_sem,this]) D ?_;refine bR 6 55 (pointer (some ⟨cb,0,none⟩)) D ?_;refine bR 7 56 (pointer (some ⟨cb,0,none⟩)) D ?_;refine fh 8 57 (slice (some ⟨g1,0,none⟩) l.length ap) rfl (λw' F=>by have:=F.bN zc;simp[execOp,Act.eval,go_sem,this]) D ?_;refine bR 9 58 (int i64 (k:Int)) D ?_;refine fh 10 59 (pointer (some ⟨g1,k*7,none⟩)) rfl (λw' _=>by simp[execOp,Act.eval,go_sem,(oQ:(k:Int)<l.length)]) D ?_;refine bR 11 60 (pointer (some ⟨g1,k*7,none⟩)) D ?_;refine fh 12 61 (int .u8 y.n.name) rfl (λw' F=>by have:=F.bN v0;simp[execOp,Act.eval,go_sem,this]) D ?_;refine Zw 1 13 14 50 62 63 (string A) (slice (some ⟨wr.heap.size,0,none⟩) 1 1) (string (strOfNums [y.n.name])) (wr.drew.alloc (cells #[int .u8 y.n.name] 5)) aV aV bZ bZ bZ bZ bZ rfl rfl rfl rfl rfl rfl rfl rfl rfl (by simp[execOp,Act.eval,go_sem,s0]) Yq wX (by simp[execOp,Act.eval,Act.put,go_sem,WS]) (by simp[execOp,Act.eval,Act.put,J]) (by simp[execOp,Act.eval,Act.put,J]) (by simp[execOp,Act.eval,Act.put,go_sem,WS]) D G ?_;simp only[Act.put,pA,pB,pC];refine fh 15 64 (string (A++strOfNums [y.n.name])) rfl (λw' _=>by simp[execOp,Act.eval,go_sem,X]) G ?_;refine bR 16 65 (pointer (some ⟨sb,0,none⟩)) G ?_;refine pf 17 ?_;unfold Oper.wp;simp[execOp,Act.eval,go_sem,WS,ab];refine⟨O,bG bZ (bH ?_) _⟩;have HZ:=ag (show(((wr.alloc (cells #[int .u8 y.n.name] 5)).setCell ⟨sb,0,none⟩ (string (A++strOfNums [y.n.name]))).drew).heap[sb]? =_/\Kp bA E ((wr.alloc (cells #[int .u8 y.n.name] 5)).setCell ⟨sb,0,none⟩ (string (A++strOfNums [y.n.name]))).drew from ae (aa (cells #[int .u8 y.n.name] 5) (A++strOfNums [y.n.name])) O);generalize ((wr.alloc (cells #[int .u8 y.n.name] 5)).setCell ⟨sb,0,none⟩ (string (A++strOfNums [y.n.name]))).drew=wz at*;clear D G O WS ab J X s0 v0 c0 zc d0 d1 zd DC aa;go_wp2;exact⟨⟨k+1,eb,oQ,ag (by rw[HA];exact HZ.1),HZ.2⟩,ew⟩
  have a3:¬(k:Int)<l.length:=oQ;obtain rfl:k=l.length:=oQ;have⟨da,jx,dQ⟩:=kz;have R:wr.heap[sb]? =some (cells (cM (bX ol.ah m.s)) 26 (0,0)):=by
   rw[HB,<-am];show _=some (Obj.cells #[string (strOfNums (jU ol.ah m.s (min ol.ah.length 16))),string (strOfNums (kI ol.ah m.s (min ol.ah.length 16))),string m.s.tm,int i64 m.s.x,int i64 m.s.y,int i64 m.s.z] 26 (0,0));rw[show min ol.ah.length 16=ol.ah.length by have:=hR.len;omega,hR.len];have:lG ol.ah m.s=kI ol.ah m.s l.length:=by rw[<-hR.len];rfl
   rw[this]
  have Wb:=KW.at_ a0 (λx=>x);have aO:=fK (bX ol.ah m.s);have aI:_=some (cM (bX ol.ah m.s)).size:=bF;have aS:(cM (bX ol.ah m.s)).size=6:=rfl;have KF:Kp _ _ (wr.setRow ob (cM (bX ol.ah m.s))):=(ag (K1.trans KW)).out.setRow (λx=>absurd x (by rw[wm];omega)) _;clear Z hon hso HB HX Y;generalize tR:cM (bX ol.ah m.s)=AA at*;have Hd:=ag tR;clear tR;go_wp2_with (first|refine gV R jx dQ aI ?_|refine bJ AA Wb aI aS.symm aO ?_);refine uY (an _ _ _ _ _ _ Wb) jx dQ aI ?_;exact⟨by rw[Hd],KF⟩
namespace Ch
def m0(ol:Ol):Ma:=⟨dL ol.ah,[],[]⟩
theorem X0 ol:sQ (m0 ol) 0:=⟨uz _,⟨by show TL 48 (gW ByteArray.empty);simp[gW,TL],by show ByteArray.empty.size<=16;decide⟩,⟨aC _,aC _⟩⟩
theorem abN ol:QB (m0 ol):=λa h=>by simp[m0]at h
theorem sQ.Zx{ol}(D:ol.Ok)(E:xV ol){m}{N}(h:sQ m N)l:sQ (Ch.enter ol m l) (N+1900000):=
 ⟨vA h.ok l,(kf oQ ol).fm E _ _ _ _ h.tm,yk D h.sz l⟩
theorem MH{ss}(h:ss.length<=16):lG ss (dL ss)=List.replicate (lG ss (dL ss)).length 45:=by
 refine List.eq_replicate_iff.2 ⟨rfl,λx hx=>?_⟩;unfold lG at hx;obtain⟨k,hk,rfl⟩:=gY.1 hx;have⟨D,h2⟩:=fR.1 hk;have D:k<ss.length:=cX D;show(eN ss).getD k 0=45;grind[eN,jZ]
def iK(ol:Ol):Bool×As×ByteArray:=
 if(dz ol 30 (enter ol (m0 ol) [])).1 then(true,bX ol.ah (dz ol 30 (enter ol (m0 ol) [])).2.s,strOfNums (dz ol 30 (enter ol (m0 ol) [])).2.out)else(false,kJ,⟨#[]⟩)
theorem CH ol:cR ol=if(iK ol).1 then((dz ol 30 (enter ol (m0 ol) [])).2.s,(iK ol).2.2,0)else(l8,ByteArray.empty,9):=by
 unfold cR finish iK;grind[rE,busy,rounds,enter,m0]
def oG(t:ByteArray):As×ByteArray×Int:=
 if(read t).1 !=0 then(kJ,⟨#[]⟩,(read t).1)
 else if(iK (read t).2.2).1 then((iK (read t).2.2).2.1,(iK (read t).2.2).2.2,0)else(kJ,⟨#[]⟩,9)
theorem QL t:zA t=oG t:=by
 unfold zA oG;split
 ·rfl
 rw[CH];unfold iK;split<;>rfl
end Ch
theorem jD.afd{w xb cb g n pv m}(h:jD w xb cb g n pv m)u:jD (w.setCell ⟨xb,2,none⟩ u) xb cb g n u m:=by unfold jD at*;rw[ar _ h];rfl
def BgI(w wr:World)(xb cb g n:Nat)(pv:Value)(m:Ma)(k:Nat):Prop:=jD wr xb cb g n pv m/\lB wr g (List.replicate n false)/\wr.ownsRow w.heap.size 5 1 pv k (aF (List.replicate k 45))/\Kp bA w wr
theorem CI w B cb l v ol(hF:ku w B cb l v)(F:Rf l ol):
 Calls prog 145 #[pointer (some ⟨cb,0,none⟩)] w λy w'=>y=returned (tuple #[agg (cM (iK ol).2.1),string (iK ol).2.2,bool (iK ol).1])/\Kp bA w w':=by
 have⟨i0,hi,hz0,hz1,hz2⟩:=cr Ci;have⟨j0,hj,hy0,hy1,hy2⟩:=cr vq;have⟨da,jx,dQ⟩:=kz;have a5:=F.le;obtain⟨ao,aj,rfl⟩:=hF.2.1.len;have K0:=kG w (cells cG 26);have ap:=ak w (cells cG 26);have am:=hF.aw K0;have zc:=am.cell;have ba:=aR ap;have HF:=c_ am ap K0;go_in;go_upto_region 1 with fail;generalize w.alloc (cells cG 26)=G at*;go_wp2_with (at_make;refine wpList_make_full G rfl (tmp 15) (tmp 15) 68 rfl G.heap.size 4 i0 (bool false) 1 underlying68 hi hz0 hz1 i64 i64 l.length l.length l.length rfl rfl rfl rfl ?c1 ?c2 (aC _) ?_)
 case c1=>rw[hz2];omega
 case c2=>unfold maxLen;omega
 intro w4 o4 g4;have K4:Kp bA _ _:=(Kp.refl _ _).grown g4 (λi hi _=>by simp at hi);have Tl:=lB.made o4;have HQ:=bw Tl K4;generalize hg:G.heap.size=g at*;generalize Zy:(#[pointer (some ⟨cb,0,none⟩),slice (some ⟨g,0,none⟩) l.length l.length,slice none 0 0,string ⟨#[]⟩,int i64 0,int i64 0,int i64 0,string ⟨#[]⟩,string ⟨#[]⟩]:Array Value)=NW;have a6:jD (w4.alloc (cells NW 274)) w4.heap.size cb g l.length (slice none 0 0) (Ch.m0 ol):=by
  unfold jD;rw[<-Zy];exact ak _ _
 have K5:Kp _ _ (w4.alloc (cells NW 274)):=HQ.out.2.alloc _;have XL:=HF.out.1.aw K5;have a3:=((Kp.refl bA w4).alloc (cells NW 274)).at_ HQ.out.1 (λx=>x);have E1:=ag (wI (w4.alloc (cells NW 274)) B cb l _ XL oQ);have bg:=HQ.out.2.size;have Q:(lG ol.ah (Ch.m0 ol).s).length=(d_ (Ch.mk l)).length:=by rw[yJ F];simp
 have H5:=c_ a3 a6 K5;go_upto_region 2 with fail;generalize w4.alloc (cells NW 274)=w5 at*;generalize w4.heap.size=xb at*;go_wp;refine hm E1 ?_;rintro y w6 ⟨u,rfl,hu,K6⟩;obtain⟨ua,uc,rfl⟩:=bp hu;have bb:(d_ (Ch.mk l)).length<=16:=by
  rw[<-Q];unfold lG;have:=mB (fZ ol.ah) (List.range ol.ah.length);have:=F.len;simp at*;omega
 have H6:=ag (show BgI G w6 xb cb g l.length (slice none 0 0) (Ch.m0 ol) 0 from⟨H5.out.2.1.aB K6 (λx=>x),K6.at_ H5.out.1 (λx=>x),cd _ _ _ _,H5.out.2.2.trans K6⟩);have HL:=ag Q;generalize (d_ (Ch.mk l)).length=H at*;go_wp21;go_loopw [7] (λkv wr=>∃(k:Nat) (pv:Value),kv= int i64 k/\k<=H/\Hid (BgI G wr xb cb g l.length pv (Ch.m0 ol) k)) (λkv _=>H-(intOf kv).toNat)
 case atStart=>exact⟨0,_,rfl,aA _,H6⟩
 case round=>
  obtain⟨k,pv,rfl,hk,HI⟩:=hrel;have⟨hn,ho,hp,KW⟩:=HI.out;by_cases be:k<H
  ·have a9:(k:Int)<(H:Int):=oQ;have c2:_=some pv:=hn.cell 2;have iL:=KW.size;go_wp2_with (at_builtin;refine lN (P:=prog) rfl (tmp 31) (tmp 32) 47 rfl G.heap.size 5 j0 (int .u8 0) 1 1 underlying47 hj hy0 hy1 hy2 rfl aV pv k (aF (List.replicate k 45)) rfl (by exact hp.alloc _) ⟨wr.heap.size,0,none⟩ 1 1 [int .u8 45] rfl rfl (by exact gT _ _ _) Ki aV wY oQ il ?_);intro g9 c9 D o9 Vt _;have⟨_,ho,_,KW⟩:=HI.out;have Y:=((Kp.refl _ _).alloc (cells #[int .u8 45] 5)).grown (by exact Vt) (λi hi _=>hi);have J:=hn.aB Y (aZ hp hn aV);have YN:lB D g _:=Y.at_ ho (aZ hp ho aV);have d2:_=some pv:=J.cell 2;have f2:=J.free 2;have a4:g≠xb:=λe=>by
    have h1:=J;have h2:=YN;unfold jD at h1;unfold lB at h2;rw[e,h1]at h2;simp only[bE,eH]at h2;exact absurd h2.2.1 aV
   have Kz:Kp (λi=>i=xb) D (D.setCell ⟨xb,2,none⟩ (slice (some ⟨g9,0,none⟩) (k+1) c9)):=(Kp.refl _ _).setCell jF _;have oz:=Kz.owns o9 (λi hi e=>aZ o9 J aV (e▸hi));have HZ:=ag (show BgI G (D.setCell ⟨xb,2,none⟩ (slice (some ⟨g9,0,none⟩) (k+1) c9)) xb cb g l.length (slice (some ⟨g9,0,none⟩) (k+1) c9) (Ch.m0 ol) (k+1)from⟨J.afd _,Kz.at_ YN a4,by rw[List.replicate_succ',gh,hg];exact oz,(KW.trans' Y (λi hi e=>by have:=(hp.lt i e).1;omega)).trans' Kz (λi hi e=>oQ)⟩);go_wp2;generalize D.setCell ⟨xb,2,none⟩ (slice (some ⟨g9,0,none⟩) (k+1) c9)=wz at*;exact⟨⟨k+1,_,eb,oQ,HZ⟩,ew⟩
  have bc:¬(k:Int)<(H:Int):=oQ;obtain rfl:k=H:=oQ;have hN:pj wr B G.heap.size xb cb g pv (slice ao l.length aj) l ol (Ch.m0 ol):=⟨hn,⟨_,ho,N2 _⟩,by
   unfold On;have e:=MH (ss:=ol.ah) (by rw[F.len];exact a5);replace e:lG ol.ah (Ch.m0 ol).s=List.replicate (lG ol.ah (Ch.m0 ol).s).length 45:=e;rw[e,HL.out];simpa using gr.of hp,HF.out.1.aw KW⟩
  have a8:Ch.enter ol (Ch.m0 ol) []=qm ol (eJ ol.ah (Ch.bit (Ch.m0 ol).s.act) [] ol.ah.length 0) (Ch.m0 ol):=(zO F.lD).1;have E2:=ag (xi wr B G.heap.size xb cb g pv _ l ol (Ch.m0 ol) 0 0 [] (slice none 0 0) hN F (X0 ol) oQ dy dy (cd _ _ _ _));have HM:=c_ ((X0 ol).Zx F.ok F.Dl []) (QB.fm F.WR F.Dl _ _ _ _ (abN ol):QB (Ch.enter ol (Ch.m0 ol) [])) (zO F.lD).2;replace HM:Hid (sQ (Ch.enter ol (Ch.m0 ol) []) (0+1900000)/\QB (Ch.enter ol (Ch.m0 ol) [])/\Ch.Inv ol (Ch.enter ol (Ch.m0 ol) []).s):=HM;have ad:=ag (show iK ol=if(dz ol 30 (Ch.enter ol (Ch.m0 ol) [])).1 then(true,bX ol.ah (dz ol 30 (Ch.enter ol (Ch.m0 ol) [])).2.s,strOfNums (dz ol 30 (Ch.enter ol (Ch.m0 ol) [])).2.out)else(false,kJ,⟨#[]⟩)from rfl);rw[<-a8]at E2;have HP:=bw hp KW;generalize Ch.enter ol (Ch.m0 ol) []=ms at*;go_wp;refine b9 E2 ?_;rintro w7 ⟨X7,K7⟩;have E3:=ag (CF B G.heap.size xb cb g pv _ l ol F 30 w7 ms _ X7 HM.out.2.2 HM.out.1 HM.out.2.1 oQ);replace E3:Hid (Calls prog 203 #[pointer (some ⟨xb,0,none⟩),int i64 30] w7 λy w'=>y=returned (bool (dz ol 30 ms).1)/\pj w' B G.heap.size xb cb g pv (slice ao l.length aj) l ol (dz ol 30 ms).2/\Kp (nS xb g pv) w7 w'):=E3;have a1:=ag (show Ch.Inv ol (dz ol 30 ms).2.s by rw[rE];exact rF F.lD 30 HM.out.2.2);have a2:=ag K7;go_wp21;refine b9 E3 ?_;rintro w8 ⟨X8,K8⟩;have Vu:∀i,i<G.heap.size->nS xb g pv i->False:=λi hi e=>by
   rcases e with e|e|e
   ·omega
   ·omega
   have:=(HP.out.1.lt i e).1;omega
  have KA:=(HP.out.2.trans' a2.out Vu).trans' K8 Vu;have ab:=KA.at_ HF.out.2.1 (λx=>x);have HA:=bw X8 (HF.out.2.2.trans KA);generalize dz ol 30 ms=rr at*;obtain⟨ok,O⟩:=rr;cases ok with
  |false=>
   have X:=ag (ad.out.trans (ax dy));have KF:Kp _ _ (w8.setRow w.heap.size cG):=HA.out.2.setRow (λx=>oQ) _;go_wp2_with (refine bJ cG ab bF rfl (fK kJ) ?_);refine aJ (az rfl _ _ w.heap.size 26 cG (0,0) da rfl (an _ _ _ _ _ _ ab) jx dQ bF) rfl ?_;rw[X.out];exact⟨rfl,KF⟩
  |true=>?_
  have X:=ag (ad.out.trans (aq rfl));have E4:=ag (CG w8 B G.heap.size xb cb g pv _ l ol O HA.out.1 F a1.out);go_wp21;refine b9 E4 ?_;intro D Y;have MI:=Y.at_ ab (λx=>x);have X9:=HA.out.1.aw Y;have R:=ak D (cells cG 26);have aO:=fK (bX ol.ah O.s);have aI:_=some (cM (bX ol.ah O.s)).size:=bF;have aS:(cM (bX ol.ah O.s)).size=6:=rfl;generalize tR:cM (bX ol.ah O.s)=E at*;have Hd:=ag tR;have RM:=rQ D (cells cG 26) E;have U:=an (D.alloc (cells cG 26)) D.heap.size cG E 26 (0,0) R;have Jt:=RM.at_ MI (λx=>x);have c8:((D.alloc (cells cG 26)).setRow D.heap.size E).cell? _=some (string (strOfNums O.out)):=(X9.aw RM).nb.cell 8;have a7:D.heap.size≠w.heap.size:=by have:=aR MI;omega
  have HK:=ag ((HA.out.2.trans Y).trans RM);have a0:xb≠w.heap.size:=λe=>by
   have h1:=X9.nb;unfold jD at h1;rw[e,MI]at h1;simp only[bE,eH]at h1;exact absurd h1.2.1 aV
  go_upto_region 12 with(refine bJ E R aI aS.symm aO ?_);generalize (D.alloc (cells cG 26)).setRow D.heap.size E=Z at*;generalize D.heap.size=sb at*;have I:Z.drew.heap[sb]? =some (cells E 26 (0,0))/\Z.drew.cell? ⟨xb,8,none⟩=some (string (strOfNums O.out)):=⟨U,c8⟩
  have aa:(Z.drew.setRow w.heap.size E).heap[sb]? =some (cells E 26 (0,0))/\(Z.drew.setRow w.heap.size E).cell? ⟨xb,8,none⟩=some (string (strOfNums O.out)):=⟨by rw[cN _ _ _ _ a7];exact U,by rw[kO (cN Z.drew _ _ _ a0)];exact c8⟩
  have KF:Kp _ _ (Z.drew.setRow w.heap.size E):=HK.out.drew.setRow (λx=>oQ) _;refine aY (λw'=>w'.heap[sb]? =some (cells E 26 (0,0))/\w'.cell? ⟨xb,8,none⟩=some (string (strOfNums O.out))) bZ ?_;refine fh 0 45 (agg E) rfl (λw' hS=>dR 26 (tmp 9) rfl sb rM 26 E (0,0) da hS.1 jx dQ aI) I ?_;refine bR 1 46 (pointer (some ⟨xb,0,none⟩)) I ?_;refine bR 2 47 (pointer (some ⟨xb,0,none⟩)) I ?_;refine bR 3 48 (pointer (some ⟨xb,8,none⟩)) I ?_;refine fh 4 49 (string (strOfNums O.out)) rfl (λw' hS=>by have:=hS.2;simp[execOp,Act.eval,go_sem,this]) I ?_;refine cQ 5 bZ rfl rfl 26 (tmp 2) (tmp 45) rfl rfl w.heap.size E nQ nQ 26 cG (by exact Jt) aI aS.symm aO aa ?_;refine bR 6 3 (string (strOfNums O.out)) aa ?_;refine fh 7 4 (bool true) rfl (λw' _=>by rfl) aa ?_;refine bG bZ (bH ?_) _;go_wp2;refine aJ (az rfl _ _ w.heap.size 26 E (0,0) da rfl (an Z.drew _ _ _ _ _ (by exact Jt)) jx dQ aI) rfl ?_;rw[X];exact⟨by rw[<-Hd];rfl,KF⟩
theorem yK{t l}(E:(Ch.read t).1=0)(D:NR (Ch.mk l) (chart t).2)(G:TB (Ch.mk l)):Rf l (Ch.read t).2.2:=by
 have⟨hO,e,_,_⟩:=yF E;have F:=TQ D (Ct t);have fW:=ux t;rw[e]at hO fW⊢;have at_:∀(k:Nat) (x:NV),l[k]? =some x->(Ch.mk l)[k]? =some x.n:=λk x hx=>by unfold Ch.mk;rw[bD,hx];rfl
 refine⟨D.ah,λk x hx=>D.dF k _ (at_ k x hx),λk x hx=>D.ph k _ (at_ k x hx),λk x hx=>D.uC k _ (at_ k x hx),hO,F,fW,λk x hx=>?_,λx hx rt hr=>?_,λk x hx=>?_⟩
 ·have:=(D.wf k _ (at_ k x hx)).2.2.1;grind[eW]
 ·have⟨k,hk⟩:=jl hx;exact(G x.n (aP (at_ k x hk)) rt hr).1
 have:=D.wf k _ (at_ k x hx);omega
theorem MK w t:
 Calls prog 98 #[string t] w λx w'=>x=returned (tuple #[agg (cM (oG t).1),string (oG t).2.1,int i64 (oG t).2.2])/\Kp bA w w':=by
 have⟨ds,hds,iT⟩:=kz;have X:=ak w (cells cG 26);have K1:=kG w (cells cG 26);have E0:=ag (oE (w.alloc (cells cG 26)) t)
 have Z:=ag (show oG t=if(Ch.read t).1 !=0 then(kJ,⟨#[]⟩,(Ch.read t).1)
  else if(iK (Ch.read t).2.2).1 then((iK (Ch.read t).2.2).2.1,(iK (Ch.read t).2.2).2.2,0)else(kJ,⟨#[]⟩,9)from rfl)
 go_in;go_wp;refine hm E0 ?_;rintro x w2 ⟨p,rfl,U⟩;have D:=U.2.2.at_ X (λx=>x);have aa:=aR D;cases Y:(Ch.read t).1 !=0 with
 |true=>
  have I:=ag (Z.trans (show _=(kJ,(⟨#[]⟩:ByteArray),(Ch.read t).1)by rw[Y];rfl));have J:Kp bA w (w2.setRow w.heap.size cG):=(K1.trans U.2.2).setRow (λx=>oQ) _;generalize (Ch.read t).1=re at*;generalize (Ch.read t).2.1=rp at*;go_wp2_with (refine bJ cG D bF rfl (fK kJ) ?_);refine aJ (az rfl _ _ w.heap.size 26 cG (0,0) ds rfl (an _ _ _ _ _ _ D) hds iT bF) rfl ?_;rw[I];exact⟨rfl,J⟩
 |false=>?_
 have h0:(Ch.read t).1=0:=cX Y;obtain⟨cb,l,v,rfl,hF,hN,_,hT⟩:=U.2.1 h0;have hR:=yK h0 hN hT;have E1:=ag (CI w2 _ cb l v _ hF hR);have HV:=ag (Z.trans (show _=if(iK (Ch.read t).2.2).1 then((iK (Ch.read t).2.2).2.1,(iK (Ch.read t).2.2).2.2,0)else(kJ,(⟨#[]⟩:ByteArray),9)by rw[Y];rfl));have HK:=ag (K1.trans U.2.2);generalize iK (Ch.read t).2.2=bg at*;generalize (Ch.read t).1=re at*;generalize (Ch.read t).2.1=rp at*;have⟨ok,sa,so⟩:=bg;go_wp21;refine b9 E1 ?_;intro F K3;have xH:=K3.at_ D (λx=>x);have E:=ak F (cells cG 26);have aO:=fK sa;have R:(prog.info? 26).map (·.size)=some (cM sa).size:=bF;have aS:(cM sa).size=6:=rfl;have K4:=rQ F (cells cG 26) (cM sa);have O:=an (F.alloc (cells cG 26)) F.heap.size cG (cM sa) 26 (0,0) E;have Q:=K4.at_ xH (λx=>x);have Zv:=ag ((HK.trans K3).trans K4);generalize tR:cM sa=G at*;have Hd:=ag tR;go_upto_region 5 with(refine bJ G E R aS.symm aO ?_);generalize (F.alloc (cells cG 26)).setRow F.heap.size G=w4 at*;generalize F.heap.size=sb at*;cases ok with
 |false=>
  have I:=ag (HV.trans (ax dy));have J:Kp bA w (w4.setRow w.heap.size cG):=Zv.setRow (λx=>oQ) _;go_wp2_with (refine bJ cG Q bF rfl (fK kJ) ?_);refine aJ (az rfl _ _ w.heap.size 26 cG (0,0) ds rfl (an _ _ _ _ _ _ Q) hds iT bF) rfl ?_;rw[I];exact⟨rfl,J⟩
 |true=>?_
 have I:=ag (HV.trans (aq rfl));have J:Kp bA w (w4.setRow w.heap.size G):=Zv.setRow (λx=>oQ) _;go_wp2_with (first|refine gV O hds iT R ?_|refine bJ G Q R aS.symm aO ?_);refine aJ (az rfl _ _ w.heap.size 26 G (0,0) ds rfl (an _ _ _ _ _ _ Q) hds iT R) rfl ?_;rw[I];exact⟨by rw[<-Hd];rfl,J⟩
