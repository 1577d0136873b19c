import Derived.Test.YtnlbchmfcebeeaaGreatTXr
set_option maxHeartbeats 12800000
set_option maxRecDepth 100000
namespace Go.Proofs.YtnlbchmfcebeeaaGreat
open Go.Proofs.Tryz Ch
open Go.RowKit
open Value(int slice bool pointer string agg tuple)
open IntKind(i64)
open Obj(cells)
open Ending(returned)
open Operand(tmp)
open Or(inl inr)
def vN(l:List NV)(k:Nat):Prop:=l.length<=k/\∀x∈l,x.n.enter.length<=k/\x.n.cU.length<=k/\x.n.trans.length<=k
theorem vN.mono{l k j}(h:vN l k)(hk:k<=j):vN l j:=⟨by have:=h.1;omega,λx hx=>by have:=h.2 x hx;omega⟩
theorem vN.push{l k}(h:vN l k){n}(E:n.enter=[]/\n.cU=[]/\n.trans=[]){a}{b}{c}:vN (l++[⟨n,a,b,c⟩]) (k+1):=by
 refine⟨by have:=h.1;simp;omega,λx D=>?_⟩;rcases cS.1 D with D|D
 ·have:=h.2 x D;omega
 simp_all
theorem vN.set{l k j m}(h:vN l k)(hk:k<=j){y}(E:y.n.enter.length<=j/\y.n.cU.length<=j/\y.n.trans.length<=j):vN (l.set m y) j:=by
 refine⟨by have:=h.1;simp;omega,λx D=>?_⟩;rcases lf D with D|rfl
 ·have:=h.2 x D;omega
 omega
def aeB(t:ByteArray)(B:Nat)(D:List RN)(G wr:World)(E F:Value):Prop:=
 ∃(k:Nat) (up:Int) (l:List NV) (v:Value),E= int i64 up/\F= int i64 k/\ku wr B B l v/\js t k up (Ch.mk l) D/\vN l k/\Kp (λi=>B<=i) G wr/\k<=300
def aeC(w':World)(B cb:Nat)(D:List RN):Prop:=∃l v,ku w' B cb l v/\Ch.mk l=D/\vN l 300
theorem ku.behind{w E B cb l g I D}(h:ku w B cb l (slice (some ⟨g,0,none⟩) I D)){u}(K:Kp (λi=>u.ownBlock=some i) w E){e}{size}{n}{Q}(hu:w.ownsRow B e size u n Q)(he:e≠223)(G:e≠219){k}{x}(hk:l[k]? =some x):
 E.cell? ⟨cb,0,none⟩=some (slice (some ⟨g,0,none⟩) I D)/\(∀j,j<7->E.cell? ⟨g,k*7+j,none⟩=(oW x)[j]?)/\(∀o,E.frozen? ⟨g,o,none⟩=false):=by
 have O:=(aM.1 hk).1;have J:=K.at_ h.1 (aZ hu h.1 G);have F:=K.owns h.2.1.row (λi hi x=>cJ hu h.2.1.row he i x hi);obtain rfl:=yw F;refine⟨by rw[World.cell?,J];rfl,λj hj=>?_,λo=>F.frozenAt o⟩;rw[<-BZ l k x hk j hj];exact F.cellAt (k*7+j) oQ
def Of(B k:Nat)(up:Int)(l:List NV)(v:Value)(F E:World):Prop:=∃D,ku E B B D v/\Ch.mk D=jG (Ch.mk l) up/\vN D k/\D.length=l.length/\Kp (λi=>B<=i) F E
def EU(l:List NV)(up:Int):Bool:=match xR (Ch.mk l) up with|some n=>n.kind==1|none=>false
theorem E8 l{up}(h:up<0):EU l up=false:=by
 unfold EU;cases up with
 |ofNat k=>grind
 |negSucc k=>rfl
theorem Je{l}{m:Nat}{x}(D:l[m]? =some x):EU l (m:Int)=(x.n.kind==1):=by
 grind[xR,Ch.mk,EU]
theorem Ch.Qn L{up}(h:up<0):jG L up=L:=by
 unfold jG;cases up with
 |ofNat k=>grind
 |negSucc k=>rfl
theorem Ch.Ua{l}{m:Nat}{x}(D:l[m]? =some x):jG (Ch.mk l) (m:Int)=if x.n.kind==1 then Ch.mk (l.set m {x with n:={x.n with kind:=2}})else Ch.mk l:=by
 grind[xR,Ch.mk,jG,Gi]
theorem Ch.WA l n a b c:Ch.mk (l++[⟨n,a,b,c⟩])=Ch.mk l++[n]:=by simp[Ch.mk]
theorem vN.kind{l k m x}(h:vN l k)(D:l[m]? =some x)c:vN (l.set m {x with n:={x.n with kind:=c}}) k:=
 h.set (aC _) (h.2 x (aP D))
theorem Mv w t bi(ht:t.size<=240)(hR:js t 0 (-1) [] bi):
 Calls prog 194 #[string t] w λx w'=>x=returned (pointer (some ⟨w.heap.size,0,none⟩))/\aeC w' w.heap.size w.heap.size bi/\Kp bA w w':=by
 have hC:ku (w.alloc (cells #[slice none 0 0] 219)) w.heap.size w.heap.size [] (slice none 0 0):=
  ⟨ak w _,⟨cd _ _ _ _,dy,dy,dy,dy,dy,dy,dy⟩,aC _⟩
 have K0:=kG w (cells #[slice none 0 0] 219);go_in;go_upto_region 4 with(fail);generalize w.alloc (cells #[slice none 0 0] 219)=w1 at*;generalize hB:w.heap.size=B at*;go_loopw [4,5] (λu4 u5 wr=>Hid (aeB t B bi w1 wr u4 u5)) (λ_ i _=>300-(intOf i).toNat)
 case atStart=>exact ag ⟨0,-1,[],slice none 0 0,rfl,rfl,hC,hR,⟨aA _,dy⟩,Kp.refl _ _,oQ⟩
 case round=>
  obtain⟨k,up,l,v,rfl,rfl,hF,hN,F,Q,cp⟩:=hrel.out;clear hrel;have zc:=hF.cell;have fc:=hF.free 0;have cm:=F.1;by_cases a0:k<t.size
  ·have cn:(k:Int)<(t.size:Int):=oQ;obtain⟨c,hc⟩:∃c:Int,(t[k].toNat:Int)=c:=⟨_,rfl⟩
   have aj:=ag ((ry a0).trans hc);cases qo:et c with
   |true=>
    obtain⟨b5,aa,I⟩:=hN.open a0 (by rw[aj.out];exact qo);rw[aj.out,ry b5]at I;have E:=ag (ID wr c);have b2:(k:Int)+1<(t.size:Int):=oQ;obtain⟨kd,br,bo⟩:∃kd,fU c=kd/\((c=40/\kd=1)\/(c=91/\kd=3)\/(c=60/\kd=4)\/(c=42/\kd=5)):=by
     rcases pZ _ qo with rfl|rfl|rfl|rfl
     ·exact⟨1,rfl,inl ⟨rfl,rfl⟩⟩
     ·exact⟨3,rfl,inr (inl ⟨rfl,rfl⟩)⟩
     ·exact⟨4,rfl,inr (inr (inl ⟨rfl,rfl⟩))⟩
     exact⟨5,rfl,inr (inr (inr ⟨rfl,rfl⟩))⟩
    rw[br]at E I;have aO:=ag I;have O:=fM hF F Q aa;clear hF hN I F Q aa br;obtain⟨nm,bx⟩:∃nm:Int,((t[k+1]'b5).toNat:Int)=nm:=⟨_,rfl⟩
    have XQ:IntKind.i64.wrap ((k:Int)+1)=(k:Int)+1:=g_ oQ;have a4:((k:Int)+1).toNat=k+1:=oQ;have b3:(0:Int)<=(k:Int)+1:=oQ;have b1:=ag bo;have ca:=ag qo;clear bo qo;go_upto_region 7 with(fail);go_cut [20]from 20 to 21 (λb wx=>b= bool (c==40)/\wx=wr)
    case first=>
     go_wp2;go_meet;exact⟨rfl,rfl⟩
    case rest=>
    obtain⟨rfl,e2⟩:=hcut;rw[e2];clear e2;generalize b0:(c==40)=q0;have HQ:=ag b0;clear b0;go_upto_if 20 with(fail)
    go_cut [20,22]from 22 to 24 (λb _ wx=>b= bool true/\wx=wr)
    case first=>
     rcases pZ _ ca.out with rfl|rfl|rfl|rfl
     all_goals
      obtain rfl:=HQ.out;go_wp2;go_meet;exact⟨rfl,rfl⟩
    case rest=>
    obtain⟨rfl,e2⟩:=hcut;rw[e2];clear e2;go_wp2_with fail;refine fu E ?_;rintro y w2 ⟨rfl,e2⟩;rw[e2];clear E e2 w2;go_upto_region 12 with(fail);go_cut [41]from 29 to 40 (λb wx=>b= bool (EU l up)/\wx=wr)
    case first=>
     obtain⟨hF,F,Q,aa⟩:=O.out;by_cases U:up<0
     ·have b8:¬(0:Int)<=up:=oQ;have hM:=ag (E8 l U);clear hF F Q aa;go_wp2;go_meet;rw[hM.out];exact⟨rfl,rfl⟩
     obtain⟨n,hn⟩:=qE.1 (aa.resolve_left U);obtain⟨m,x,rfl,X,rfl,II⟩:=B_ hn;obtain⟨g,Y,rfl,ao,G,Z⟩:=hF.2.1.form X;have z1:_=some _:=G 1 oQ;have ad:(m:Int)<(l.length:Int):=oQ;have hM:=ag (Je X);clear hF F Q aa hn G Z U;go_wp2;go_meet;rw[hM.out];exact⟨rfl,rfl⟩
    case rest=>
    obtain⟨rfl,rfl⟩:=hcut;generalize bt:EU l up=nb;have bc:=ag bt;clear bt;go_upto_if 41 with(fail)
    go_cut [42]from 42 to 48 (λ_ wx=>Of B k up l v w1 wx)
    case first=>
     obtain⟨hF,F,Q,aa⟩:=O.out;by_cases U:up<0
     ·have hM:=ag (show Of B k up l v w1 wc from⟨l,hF,(Qn _ U).symm,F,rfl,Q⟩);obtain rfl:nb=false:=bc.out.symm.trans (E8 l U);clear hF F Q aa;go_wp2;go_meet;exact hM.out
     obtain⟨n,hn⟩:=qE.1 (aa.resolve_left U);obtain⟨m,x,rfl,X,rfl,II⟩:=B_ hn;obtain⟨g,Y,rfl,ao,G,Z⟩:=hF.2.1.form X;have z1:_=some _:=G 1 oQ;have f1:=Z (m*7+1);have ad:(m:Int)<(l.length:Int):=oQ;have aS:=Ua X;have hq:=Je X;cases qk:x.n.kind==1 with
     |true=>
      rw[qk]at aS hq;have hM:=ag (show Of B k (m:Int) l _ w1 (wc.setCell ⟨g,m*7+1,none⟩ (int i64 2))from⟨_,hF.Gh X 2,aS.symm,F.kind X 2,dy,Q.setCell (p:=⟨g,m*7+1,none⟩) (λ_=>ao) _⟩);obtain rfl:nb=true:=bc.out.symm.trans hq;clear hF F Q aa aS hn G Z U qk hq;go_wp2;go_meet;exact hM.out
     |false=>?_
     rw[qk]at aS hq;have hM:=ag (show Of B k (m:Int) l _ w1 wc from⟨l,hF,aS.symm,F,rfl,Q⟩);obtain rfl:nb=false:=bc.out.symm.trans hq;clear hF F Q aa aS hn G Z U qk hq;go_wp2;go_meet;exact hM.out
    case rest=>
     obtain⟨l1,am,a9,Zc,bg,bk⟩:=hcut;clear zc fc O;have zc:=am.cell;have ab:=(am.aw ((Kp.refl _ _).alloc (cells #[int .u8 nm,int i64 kd,int i64 up,int i64 ((k:Int)+1),slice none 0 0,slice none 0 0,slice none 0 0] 223))).cell;have bb:=am.low;have b7:=Zc.1;obtain⟨i0,hi,a1,a2,a3⟩:=cr Wd;obtain⟨g1,c1,w9,G_,o9,g9,Gz⟩:=dJ (P:=prog) (wc.drew.alloc (cells #[int .u8 nm,int i64 kd,int i64 up,int i64 ((k:Int)+1),slice none 0 0,slice none 0 0,slice none 0 0] 223)) B 217 217 223 i0 (agg #[int .u8 0,int i64 0,int i64 0,int i64 0,slice none 0 0,slice none 0 0,slice none 0 0]) 7 104 underlying217 hi a1 a2 a3 rfl aV v l1.length (ju l1) (by exact am.2.1.row.alloc _) ⟨wc.heap.size,0,none⟩ 1 1 [int .u8 nm,int i64 kd,int i64 up,int i64 ((k:Int)+1),slice none 0 0,slice none 0 0,slice none 0 0] rfl (by exact eZ _ _ _) (by intro u hu;simp at hu;rcases hu with rfl|rfl|rfl|rfl|rfl<;>rfl) aV wY oQ il;have K9:Kp _ wc _:=Kp.grown (by exact((Kp.refl _ _).alloc (cells #[int .u8 nm,int i64 kd,int i64 up,int i64 ((k:Int)+1),slice none 0 0,slice none 0 0,slice none 0 0] 223)).drew) g9 (λi hi _=>hi);have be:=K9.at_ am.1 am.ne;have y1:w9.cell? ⟨B,0,none⟩=some v:=dG be rfl;have yf:w9.frozen? ⟨B,0,none⟩=false:=by simp[World.frozen?,be]
     have DK:ku _ _ _ (l1++[⟨⟨nm,kd,up,(k:Int)+1,[],[],[]⟩,slice none 0 0,slice none 0 0,slice none 0 0⟩]) _:=ku.push (w:=(wc.alloc (cells #[int .u8 nm,int i64 kd,int i64 up,int i64 ((k:Int)+1),slice none 0 0,slice none 0 0,slice none 0 0] 223)).drew) (am.aw ((Kp.refl bA wc).alloc (cells #[int .u8 nm,int i64 kd,int i64 up,int i64 ((k:Int)+1),slice none 0 0,slice none 0 0,slice none 0 0] 223)).drew) (by exact g9) ⟨rfl,rfl,rfl⟩ o9;have KZ:Kp _ _ (w9.setCell ⟨B,0,none⟩ (slice (some ⟨g1,0,none⟩) (l1.length+1) c1)):=(bk.trans' K9 (λi _ hi=>(am.2.1.row.lt i hi).1)).setCell (p:=⟨B,0,none⟩) (λ_=>aC _) _;have H9:=rP DK KZ a9 (Zc.push (n:=⟨nm,kd,up,(k:Int)+1,[],[],[]⟩) ⟨rfl,rfl,rfl⟩ (a:=slice none 0 0) (b:=slice none 0 0) (c:=slice none 0 0)) bg;clear o9 g9 Gz K9 be DK KZ am a9 Zc bk;go_upto_region 14 with(fail);refine aY (λ_=>True) bZ ?_;refine bR 0 49 (pointer (some ⟨B,0,none⟩)) trivial ?_;refine bR 1 50 (pointer (some ⟨B,0,none⟩)) trivial ?_;refine bR 2 51 (pointer (some ⟨B,0,none⟩)) trivial ?_;refine bR 3 52 (pointer (some ⟨B,0,none⟩)) trivial ?_;refine bR 5 54 (string t) trivial ?_;refine bR 6 55 (int i64 (k:Int)) trivial ?_;refine fh 7 56 (int i64 ((k:Int)+1)) rfl (λw' _=>by simp[execOp,Act.eval,go_sem,XQ]) trivial ?_;refine fh 8 57 (int .u8 nm) rfl (λw' _=>by simp[execOp,Act.eval,go_sem,b2,b3,a4,bx]) trivial ?_;refine bR 9 58 (int i64 kd) trivial ?_;refine bR 10 59 (int i64 up) trivial ?_;refine bR 11 60 (int i64 (k:Int)) trivial ?_;refine fh 12 61 (int i64 ((k:Int)+1)) rfl (λw' _=>by simp[execOp,Act.eval,go_sem,XQ]) trivial ?_;refine bR 13 62 (agg #[int .u8 nm,int i64 kd,int i64 up,int i64 ((k:Int)+1),slice none 0 0,slice none 0 0,slice none 0 0]) trivial ?_;refine D_ 4 14 53 63 v (slice (some ⟨wc.heap.size,0,none⟩) 1 1) (wc.drew.alloc (cells #[int .u8 nm,int i64 kd,int i64 up,int i64 ((k:Int)+1),slice none 0 0,slice none 0 0,slice none 0 0] 223)) aV bZ bZ bZ rfl rfl rfl rfl rfl rfl (by simp[execOp,Act.eval,go_sem,zc]) Yq wX (by simp[execOp,Act.eval,Act.put,go_sem,ab]) trivial trivial ?_;simp only[Act.put,pA,pB,pC];refine pf 15 ?_;refine Kl (some 64) rfl (slice (some ⟨g1,0,none⟩) (l1.length+1) c1) w9 (by simp[execOp,resolve,invoke,builtin,Act.eval,G_]) ?_;simp only[Act.put,pA,pB,pC];refine⟨trivial,?_⟩;refine bR 16 65 (pointer (some ⟨B,0,none⟩)) trivial ?_;refine bR 17 66 (pointer (some ⟨B,0,none⟩)) trivial ?_;refine pf 18 ?_;unfold Oper.wp;simp[execOp,Act.eval,go_sem,y1,yf];refine bG bZ (bH ?_) _;generalize w9.setCell ⟨B,0,none⟩ (slice (some ⟨g1,0,none⟩) (l1.length+1) c1)=wz at*;have zz:=H9.out.1.cell;clear y1 yf G_ zc ab;rcases b1.out with⟨rfl,rfl⟩|⟨rfl,rfl⟩|⟨rfl,rfl⟩|⟨rfl,rfl⟩
     all_goals
      go_wp2;go_roundw
      case rel=>
       obtain⟨DK,KZ,a9,zD,bg⟩:=H9.out;have a5:=aO.out;have II:((Ch.mk l).length:Int)=(l1.length:Int):=by simp[Ch.mk,bg]
       rw[<-a9,II,bx]at a5;rw[<-WA l1 _ (slice none 0 0) (slice none 0 0) (slice none 0 0)]at a5
       first
        |exact ag ⟨k+1+1,(l1.length:Int),_,_,by first|rfl|go_num,eb,DK,a5,zD.mono oQ,KZ,oQ⟩
        |exact ag ⟨k+2+1,up,_,_,rfl,eb,DK,a5,zD.mono oQ,KZ,oQ⟩
        |exact ag ⟨k+1+1,up,_,_,rfl,eb,DK,a5,zD.mono oQ,KZ,oQ⟩
      case measure=>exact ew
   |false=>?_
   have cg:(c==40)=false/\(c==91)=false/\(c==60)=false/\(c==42)=false:=by
    simp only[et,Bool.or_eq_false_iff]at qo;exact⟨qo.1.1.1,qo.1.1.2,qo.1.2,qo.2⟩
   obtain⟨cu,cZ,cV,cw⟩:=cg;cases qc:(c==41||c==93)with
   |true=>
    obtain⟨n,hn,I⟩:=hN.close a0 (by rw[aj.out];exact qc);obtain⟨m,x,rfl,X,rfl,II⟩:=B_ hn;obtain⟨g,Y,rfl,ao,G,Z⟩:=hF.2.1.form X;have z2:_=some _:=G 2 oQ;have O:=fM hF I F Q;clear hF hN I F Q G Z qo hn;have ad:(m:Int)<(l.length:Int):=oQ;rcases(by simpa using qc:c=41\/c=93)with rfl|rfl
    all_goals
     clear qc;go_wp2;go_roundw
     case rel=>
      obtain⟨hF,I,F,Q⟩:=O.out;exact ag ⟨k+1,x.n.parent,l,_,rfl,eb,hF,I,F.mono oQ,Q,oQ⟩
     case measure=>exact ew
   |false=>?_
   have ce:(c==41)=false/\(c==93)=false:=cX qc;obtain⟨cv,c8⟩:=ce;cases RI:c==58 with
   |true=>
    obtain rfl:c=58:=cX RI;obtain⟨n,hn,b6,dd,_,I⟩:=hN.abb a0 aj.out;obtain⟨m,x,rfl,X,rfl,II⟩:=B_ hn;obtain⟨g,Y,rfl,ao,G,Z⟩:=hF.2.1.form X;have R:=aP X;have z6:_=some _:=G 6 oQ;have aO:=ag I;have E:=ag (Gj wr t (k+1) ht b6);have cq:k+1<=iV t (k+1)+1:=by assumption
    generalize iV t (k+1)=e at*;have ab:=λo=>(hF.aw ((Kp.refl _ _).alloc o)).cell;obtain⟨g',ba,aI,_,J,_⟩:=(hF.2.1.aw ((Kp.refl _ _).alloc (cells #[string (t.extract (k+1) (e+1)),int i64 ((k:Int)+1)] 292))).form X;simp only[aH,bE,ei,cA,dV]at aI;obtain⟨rfl,rfl⟩:=aI;have XR:_=some _:=J 6 oQ;have ad:(m:Int)<(l.length:Int):=oQ;have XQ:IntKind.i64.wrap ((k:Int)+1)=(k:Int)+1:=g_ oQ;have ck:IntKind.i64.wrap ((e:Int)+1)=(e:Int)+1:=g_ oQ;have a4:((k:Int)+1).toNat=k+1:=oQ;have ci:((e:Int)+1).toNat=e+1:=oQ;have a6:(e:Int)+1<=(t.size:Int):=oQ;have a8:(k:Int)+1<=(e:Int)+1:=oQ;have a7:(0:Int)<=(k:Int)+1:=oQ;have da:(0:Int)<=(e:Int)+1:=oQ;have bm:=(F.2 x R).2.2;have bb:=hF.low;have b4:g≠B:=λe=>hF.ne (by simp[Value.ownBlock,e]);have O:=c_ hF F Q;obtain⟨i0,hi,a1,a2,a3⟩:=cr We;clear hF hN I F Q G J Z qo qc hn RI;go_wp2_with fail;refine fu E ?_;rintro y w2 ⟨rfl,e2⟩;rw[e2];clear E e2 w2;go_upto_region 25 with(fail);have D:wr.drew.cell? _=_:=zc;have ap:(wr.drew.alloc (cells #[string (t.extract (k+1) (e+1)),int i64 ((k:Int)+1)] 292)).cell? _=_:=ab _;refine aY (λw'=>w'.cell? ⟨B,0,none⟩=some (slice (some ⟨g,0,none⟩) l.length Y)) bZ ?_;refine bR 0 98 (pointer (some ⟨B,0,none⟩)) D ?_;refine bR 1 99 (pointer (some ⟨B,0,none⟩)) D ?_;refine bR 2 100 (pointer (some ⟨B,0,none⟩)) D ?_;refine fh 3 101 (slice (some ⟨g,0,none⟩) l.length Y) rfl (λw' hS=>by simp[execOp,Act.eval,go_sem,hS]) D ?_;refine bR 4 102 (int i64 (m:Int)) D ?_;refine bR 5 103 (pointer (some ⟨B,0,none⟩)) D ?_;refine bR 6 104 (pointer (some ⟨B,0,none⟩)) D ?_;refine bR 7 105 (pointer (some ⟨B,0,none⟩)) D ?_;refine fh 8 106 (slice (some ⟨g,0,none⟩) l.length Y) rfl (λw' hS=>by simp[execOp,Act.eval,go_sem,hS]) D ?_;refine bR 9 107 (int i64 (m:Int)) D ?_;refine fh 10 108 (pointer (some ⟨g,m*7,none⟩)) rfl (λw' _=>by simp[execOp,Act.eval,go_sem,ad]) D ?_;refine bR 11 109 (pointer (some ⟨g,m*7+6,none⟩)) D ?_;refine bR 13 111 (string t) D ?_;refine bR 14 112 (int i64 (k:Int)) D ?_;refine fh 15 113 (int i64 ((k:Int)+1)) rfl (λw' _=>by simp[execOp,Act.eval,go_sem,XQ]) D ?_;refine bR 16 114 (int i64 (e:Int)) D ?_;refine fh 17 115 (int i64 ((e:Int)+1)) rfl (λw' _=>by simp[execOp,Act.eval,go_sem,ck]) D ?_;refine fh 18 116 (string (t.extract (k+1) (e+1))) rfl (λw' _=>by simp[execOp,Act.eval,go_sem,a6,a7,a8,a4,ci]) D ?_;refine bR 19 117 (int i64 (k:Int)) D ?_;refine fh 20 118 (int i64 ((k:Int)+1)) rfl (λw' _=>by simp[execOp,Act.eval,go_sem,XQ]) D ?_;refine bR 21 119 (agg #[string (t.extract (k+1) (e+1)),int i64 ((k:Int)+1)]) D ?_;obtain⟨g1,c1,w9,G_,o9,g9,Gz⟩:=dJ (P:=prog) (wr.drew.alloc (cells #[string (t.extract (k+1) (e+1)),int i64 ((k:Int)+1)] 292)) B 221 221 292 i0 (agg #[string ⟨#[]⟩,int i64 0]) 2 24 underlying221 hi a1 a2 a3 rfl aV x.tv x.n.trans.length (me x.n.trans) (by exact(O.out.1.2.1.kZ x R).alloc _) ⟨wr.heap.size,0,none⟩ 1 1 [string (t.extract (k+1) (e+1)),int i64 ((k:Int)+1)] rfl (by exact eZ _ _ _) (by intro u hu;simp at hu;rcases hu with rfl|rfl<;>rfl) aV wY oQ il;have K9:Kp _ wr _:=Kp.grown (by exact((Kp.refl _ _).alloc (cells #[string (t.extract (k+1) (e+1)),int i64 ((k:Int)+1)] 292)).drew) g9 (λi hi _=>hi);obtain⟨y1,y2,y3⟩:=O.out.1.behind K9 (O.out.1.2.1.kZ x R) aV aV X;have y6:_=some _:=y2 6 oQ;have yf:=y3 (m*7+6);have H9:=fM o9 g9 Gz K9;clear o9 g9 Gz K9 y2 y3;refine D_ 12 22 110 120 x.tv (slice (some ⟨wr.heap.size,0,none⟩) 1 1) (wr.drew.alloc (cells #[string (t.extract (k+1) (e+1)),int i64 ((k:Int)+1)] 292)) aV bZ bZ bZ rfl rfl rfl rfl rfl rfl (by simp[execOp,Act.eval,go_sem,z6]) Yq wX (by simp[execOp,Act.eval,Act.put,go_sem,XR]) D ap ?_;simp only[Act.put,pA,pB,pC];refine pf 23 ?_;refine Kl (some 121) rfl (slice (some ⟨g1,0,none⟩) (x.n.trans.length+1) c1) w9 (by simp[execOp,resolve,invoke,builtin,Act.eval,G_]) ?_;simp only[Act.put,pA,pB,pC];refine⟨y1,?_⟩;refine fh 24 122 (pointer (some ⟨g,m*7,none⟩)) rfl (λw' _=>by simp[execOp,Act.eval,go_sem,ad]) y1 ?_;refine bR 25 123 (pointer (some ⟨g,m*7+6,none⟩)) y1 ?_;refine pf 26 ?_;unfold Oper.wp;simp[execOp,Act.eval,go_sem,y6,yf];refine⟨y1,bG bZ (bH ?_) _⟩;obtain⟨o9,g9,Gz,K9⟩:=H9.out;have XS:=O.out.1.aw ((Kp.refl bA wr).alloc (cells #[string (t.extract (k+1) (e+1)),int i64 ((k:Int)+1)] 292)).drew;have DK:=ku.B0 XS X ⟨t.extract (k+1) (e+1),(k:Int)+1⟩ o9 (by exact g9) (by exact Gz);have KZ:Kp _ _ (w9.setCell ⟨g,m*7+6,none⟩ (slice (some ⟨g1,0,none⟩) (x.n.trans.length+1) c1)):=((O.out.2.2.trans' K9 (λi _ hi=>(((O.out.1.2.1.kZ x R).lt i hi).1))).setCell (p:=⟨g,m*7+6,none⟩) (λ_=>ao) _)
    generalize w9.setCell ⟨g,m*7+6,none⟩ (slice (some ⟨g1,0,none⟩) (x.n.trans.length+1) c1)=wz at*;have HZ:=bw DK KZ;clear D ap y1 y6 yf G_ o9 g9 Gz K9 XS DK KZ H9 zc ab z6 XR;go_wp2;go_roundw
    case rel=>
     obtain⟨hF,F,Q⟩:=O.out;obtain⟨DK,KZ⟩:=HZ.out;have hb:=F.2 x R;refine ag ⟨e+1,(m:Int),_,_,rfl,eb,DK,?_,F.set oQ ⟨by simp only;omega,by simp only;omega,by simp;omega⟩,KZ,oQ⟩;rw[Gi (f:=λn=>{n with trans:=n.trans++[⟨t.extract (k+1) (e+1),(k:Int)+1⟩]}) X rfl];exact aO.out
    case measure=>exact ew
   |false=>?_
   cases qb:(c==94||c==36)with
   |true=>
    obtain⟨n,hn,de,I⟩:=hN.cj a0 (by rw[aj.out];exact qb);obtain⟨m,x,rfl,X,rfl,II⟩:=B_ hn;obtain⟨g,Y,rfl,ao,G,Z⟩:=hF.2.1.form X;have R:=aP X;rw[aj.out]at I;have aO:=ag I;have E:=ag (xB wr t k 59 ht);have cs:=Ca t k 59;generalize jB t k 59=e at*;have ad:(m:Int)<(l.length:Int):=oQ;have XQ:IntKind.i64.wrap ((k:Int)+1)=(k:Int)+1:=g_ oQ;have a4:((k:Int)+1).toNat=k+1:=oQ;have a6:(e:Int)<=(t.size:Int):=oQ;have a8:(k:Int)+1<=(e:Int):=oQ;have a7:(0:Int)<=(k:Int)+1:=oQ;have bb:=hF.low;have b4:g≠B:=λe=>hF.ne (by simp[Value.ownBlock,e]);obtain⟨i0,hi,a1,a2,a3⟩:=cr Wg;rcases(by simpa using qb:c=94\/c=36)with rfl|rfl
    ·have z6:_=some _:=G 4 oQ;have ab:=λo=>(hF.aw ((Kp.refl _ _).alloc o)).cell;obtain⟨g',ba,aI,_,J,_⟩:=(hF.2.1.aw ((Kp.refl _ _).alloc (cells #[string (t.extract (k+1) e)] 9))).form X;simp only[aH,bE,ei,cA,dV]at aI;obtain⟨rfl,rfl⟩:=aI;have XR:_=some _:=J 4 oQ;have bm:=(F.2 x R)
     have O:=c_ hF F Q;clear hF hN I F Q G J Z qo qc hn qb;go_wp2_with fail;refine fu E ?_;rintro y w2 ⟨rfl,e2⟩;rw[e2];clear E e2 w2;go_upto_region 31 with(fail);have D:wr.drew.cell? _=_:=zc;have ap:(wr.drew.alloc (cells #[string (t.extract (k+1) e)] 9)).cell? _=_:=ab _;refine aY (λw'=>w'.cell? ⟨B,0,none⟩=some (slice (some ⟨g,0,none⟩) l.length Y)) bZ ?_;refine bR 0 135 (pointer (some ⟨B,0,none⟩)) D ?_;refine bR 1 136 (pointer (some ⟨B,0,none⟩)) D ?_;refine bR 2 137 (pointer (some ⟨B,0,none⟩)) D ?_;refine fh 3 138 (slice (some ⟨g,0,none⟩) l.length Y) rfl (λw' hS=>by simp[execOp,Act.eval,go_sem,hS]) D ?_;refine bR 4 139 (int i64 (m:Int)) D ?_;refine bR 5 140 (pointer (some ⟨B,0,none⟩)) D ?_;refine bR 6 141 (pointer (some ⟨B,0,none⟩)) D ?_;refine bR 7 142 (pointer (some ⟨B,0,none⟩)) D ?_;refine fh 8 143 (slice (some ⟨g,0,none⟩) l.length Y) rfl (λw' hS=>by simp[execOp,Act.eval,go_sem,hS]) D ?_;refine bR 9 144 (int i64 (m:Int)) D ?_;refine fh 10 145 (pointer (some ⟨g,m*7,none⟩)) rfl (λw' _=>by simp[execOp,Act.eval,go_sem,ad]) D ?_;refine bR 11 146 (pointer (some ⟨g,m*7+4,none⟩)) D ?_;refine bR 13 148 (string t) D ?_;refine bR 14 149 (int i64 (k:Int)) D ?_;refine fh 15 150 (int i64 ((k:Int)+1)) rfl (λw' _=>by simp[execOp,Act.eval,go_sem,XQ]) D ?_;refine bR 16 151 (int i64 (e:Int)) D ?_;refine fh 17 152 (string (t.extract (k+1) e)) rfl (λw' _=>by simp[execOp,Act.eval,go_sem,a6,a7,a8,a4]) D ?_;obtain⟨g1,c1,w9,G_,o9,g9,Gz⟩:=dJ (P:=prog) (wr.drew.alloc (cells #[string (t.extract (k+1) e)] 9)) B 220 220 9 i0 (string ⟨#[]⟩) 1 16 underlying220 hi a1 a2 a3 rfl aV x.ev x.n.enter.length (nL x.n.enter) (by exact(O.out.1.2.1.ph x R).alloc _) ⟨wr.heap.size,0,none⟩ 1 1 [string (t.extract (k+1) e)] rfl (by exact eZ _ _ _) Ki aV wY oQ il;have K9:Kp _ wr _:=Kp.grown (by exact((Kp.refl _ _).alloc (cells #[string (t.extract (k+1) e)] 9)).drew) g9 (λi hi _=>hi);obtain⟨y1,y2,y3⟩:=O.out.1.behind K9 (O.out.1.2.1.ph x R) aV aV X;have y6:_=some _:=y2 4 oQ;have yf:=y3 (m*7+4);have H9:=fM o9 g9 Gz K9;clear o9 g9 Gz K9 y2 y3;refine D_ 12 18 147 153 x.ev (slice (some ⟨wr.heap.size,0,none⟩) 1 1) (wr.drew.alloc (cells #[string (t.extract (k+1) e)] 9)) aV bZ bZ bZ rfl rfl rfl rfl rfl rfl (by simp[execOp,Act.eval,go_sem,z6]) Yq wX (by simp[execOp,Act.eval,Act.put,go_sem,XR]) D ap ?_;simp only[Act.put,pA,pB,pC];refine pf 19 ?_;refine Kl (some 154) rfl (slice (some ⟨g1,0,none⟩) (x.n.enter.length+1) c1) w9 (by simp[execOp,resolve,invoke,builtin,Act.eval,G_]) ?_;simp only[Act.put,pA,pB,pC];refine⟨y1,?_⟩;refine fh 20 155 (pointer (some ⟨g,m*7,none⟩)) rfl (λw' _=>by simp[execOp,Act.eval,go_sem,ad]) y1 ?_;refine bR 21 156 (pointer (some ⟨g,m*7+4,none⟩)) y1 ?_;refine pf 22 ?_;unfold Oper.wp;simp[execOp,Act.eval,go_sem,y6,yf];refine⟨y1,bG bZ (bH ?_) _⟩;obtain⟨o9,g9,Gz,K9⟩:=H9.out;have XS:=O.out.1.aw ((Kp.refl bA wr).alloc (cells #[string (t.extract (k+1) e)] 9)).drew;have DK:=ku.B7 XS X (t.extract (k+1) e) o9 (by exact g9) (by exact Gz);have KZ:Kp _ _ (w9.setCell ⟨g,m*7+4,none⟩ (slice (some ⟨g1,0,none⟩) (x.n.enter.length+1) c1)):=((O.out.2.2.trans' K9 (λi _ hi=>(((O.out.1.2.1.ph x R).lt i hi).1))).setCell (p:=⟨g,m*7+4,none⟩) (λ_=>ao) _)
     generalize w9.setCell ⟨g,m*7+4,none⟩ (slice (some ⟨g1,0,none⟩) (x.n.enter.length+1) c1)=wz at*;have HZ:=bw DK KZ;clear D ap y1 y6 yf G_ o9 g9 Gz K9 XS DK KZ H9 zc ab z6 XR;go_wp2;go_roundw
     case rel=>
      obtain⟨hF,F,Q⟩:=O.out;obtain⟨DK,KZ⟩:=HZ.out;have hb:=F.2 x R;refine ag ⟨e+1,(m:Int),_,_,rfl,eb,DK,?_,F.set oQ ⟨by simp;omega,by simp only;omega,by simp only;omega⟩,KZ,oQ⟩;rw[Gi (f:=λn=>if((94:Int)==94)=true then {n with enter:=n.enter++[t.extract (k+1) e]}else {n with cU:=n.cU++[t.extract (k+1) e]}) X rfl];exact aO.out
     case measure=>exact ew
    have z6:_=some _:=G 5 oQ;have ab:=λo=>(hF.aw ((Kp.refl _ _).alloc o)).cell;obtain⟨g',ba,aI,_,J,_⟩:=(hF.2.1.aw ((Kp.refl _ _).alloc (cells #[string (t.extract (k+1) e)] 9))).form X;simp only[aH,bE,ei,cA,dV]at aI;obtain⟨rfl,rfl⟩:=aI;have XR:_=some _:=J 5 oQ;have bm:=(F.2 x R)
    have O:=c_ hF F Q;clear hF hN I F Q G J Z qo qc hn qb;go_wp2_with fail;refine fu E ?_;rintro y w2 ⟨rfl,e2⟩;rw[e2];clear E e2 w2;go_upto_region 32 with(fail);have D:wr.drew.cell? _=_:=zc;have ap:(wr.drew.alloc (cells #[string (t.extract (k+1) e)] 9)).cell? _=_:=ab _;refine aY (λw'=>w'.cell? ⟨B,0,none⟩=some (slice (some ⟨g,0,none⟩) l.length Y)) bZ ?_;refine bR 0 157 (pointer (some ⟨B,0,none⟩)) D ?_;refine bR 1 158 (pointer (some ⟨B,0,none⟩)) D ?_;refine bR 2 159 (pointer (some ⟨B,0,none⟩)) D ?_;refine fh 3 160 (slice (some ⟨g,0,none⟩) l.length Y) rfl (λw' hS=>by simp[execOp,Act.eval,go_sem,hS]) D ?_;refine bR 4 161 (int i64 (m:Int)) D ?_;refine bR 5 162 (pointer (some ⟨B,0,none⟩)) D ?_;refine bR 6 163 (pointer (some ⟨B,0,none⟩)) D ?_;refine bR 7 164 (pointer (some ⟨B,0,none⟩)) D ?_;refine fh 8 165 (slice (some ⟨g,0,none⟩) l.length Y) rfl (λw' hS=>by simp[execOp,Act.eval,go_sem,hS]) D ?_;refine bR 9 166 (int i64 (m:Int)) D ?_;refine fh 10 167 (pointer (some ⟨g,m*7,none⟩)) rfl (λw' _=>by simp[execOp,Act.eval,go_sem,ad]) D ?_;refine bR 11 168 (pointer (some ⟨g,m*7+5,none⟩)) D ?_;refine bR 13 170 (string t) D ?_;refine bR 14 171 (int i64 (k:Int)) D ?_;refine fh 15 172 (int i64 ((k:Int)+1)) rfl (λw' _=>by simp[execOp,Act.eval,go_sem,XQ]) D ?_;refine bR 16 173 (int i64 (e:Int)) D ?_;refine fh 17 174 (string (t.extract (k+1) e)) rfl (λw' _=>by simp[execOp,Act.eval,go_sem,a6,a7,a8,a4]) D ?_;obtain⟨g1,c1,w9,G_,o9,g9,Gz⟩:=dJ (P:=prog) (wr.drew.alloc (cells #[string (t.extract (k+1) e)] 9)) B 220 220 9 i0 (string ⟨#[]⟩) 1 16 underlying220 hi a1 a2 a3 rfl aV x.lv x.n.cU.length (nL x.n.cU) (by exact(O.out.1.2.1.uC x R).alloc _) ⟨wr.heap.size,0,none⟩ 1 1 [string (t.extract (k+1) e)] rfl (by exact eZ _ _ _) Ki aV wY oQ il;have K9:Kp _ wr _:=Kp.grown (by exact((Kp.refl _ _).alloc (cells #[string (t.extract (k+1) e)] 9)).drew) g9 (λi hi _=>hi);obtain⟨y1,y2,y3⟩:=O.out.1.behind K9 (O.out.1.2.1.uC x R) aV aV X;have y6:_=some _:=y2 5 oQ;have yf:=y3 (m*7+5);have H9:=fM o9 g9 Gz K9;clear o9 g9 Gz K9 y2 y3;refine D_ 12 18 169 175 x.lv (slice (some ⟨wr.heap.size,0,none⟩) 1 1) (wr.drew.alloc (cells #[string (t.extract (k+1) e)] 9)) aV bZ bZ bZ rfl rfl rfl rfl rfl rfl (by simp[execOp,Act.eval,go_sem,z6]) Yq wX (by simp[execOp,Act.eval,Act.put,go_sem,XR]) D ap ?_;simp only[Act.put,pA,pB,pC];refine pf 19 ?_;refine Kl (some 176) rfl (slice (some ⟨g1,0,none⟩) (x.n.cU.length+1) c1) w9 (by simp[execOp,resolve,invoke,builtin,Act.eval,G_]) ?_;simp only[Act.put,pA,pB,pC];refine⟨y1,?_⟩;refine fh 20 177 (pointer (some ⟨g,m*7,none⟩)) rfl (λw' _=>by simp[execOp,Act.eval,go_sem,ad]) y1 ?_;refine bR 21 178 (pointer (some ⟨g,m*7+5,none⟩)) y1 ?_;refine pf 22 ?_;unfold Oper.wp;simp[execOp,Act.eval,go_sem,y6,yf];refine⟨y1,bG bZ (bH ?_) _⟩;obtain⟨o9,g9,Gz,K9⟩:=H9.out;have XS:=O.out.1.aw ((Kp.refl bA wr).alloc (cells #[string (t.extract (k+1) e)] 9)).drew;have DK:=ku.B9 XS X (t.extract (k+1) e) o9 (by exact g9) (by exact Gz);have KZ:Kp _ _ (w9.setCell ⟨g,m*7+5,none⟩ (slice (some ⟨g1,0,none⟩) (x.n.cU.length+1) c1)):=((O.out.2.2.trans' K9 (λi _ hi=>(((O.out.1.2.1.uC x R).lt i hi).1))).setCell (p:=⟨g,m*7+5,none⟩) (λ_=>ao) _)
    generalize w9.setCell ⟨g,m*7+5,none⟩ (slice (some ⟨g1,0,none⟩) (x.n.cU.length+1) c1)=wz at*;have HZ:=bw DK KZ;clear D ap y1 y6 yf G_ o9 g9 Gz K9 XS DK KZ H9 zc ab z6 XR;go_wp2;go_roundw
    case rel=>
     obtain⟨hF,F,Q⟩:=O.out;obtain⟨DK,KZ⟩:=HZ.out;have hb:=F.2 x R;refine ag ⟨e+1,(m:Int),_,_,rfl,eb,DK,?_,F.set oQ ⟨by simp only;omega,by simp;omega,by simp only;omega⟩,KZ,oQ⟩;rw[Gi (f:=λn=>if((36:Int)==94)=true then {n with enter:=n.enter++[t.extract (k+1) e]}else {n with cU:=n.cU++[t.extract (k+1) e]}) X rfl];exact aO.out
    case measure=>exact ew
   |false=>?_
   have I:=hN.other a0 (by rw[aj.out];exact qo) (by rw[aj.out];exact qc) (by rw[aj.out];exact RI) (by rw[aj.out];exact qb);have cc:(c==94)=false/\(c==36)=false:=cX qb;obtain⟨c9,ct⟩:=cc;have O:=fM hF I F Q;clear hF hN I F Q qo qc qb;go_wp2;go_roundw
   case rel=>
    obtain⟨hF,I,F,Q⟩:=O.out;exact ag ⟨k+1,up,l,_,rfl,eb,hF,I,F.mono oQ,Q,oQ⟩
   case measure=>exact ew
  have dc:¬(k:Int)<(t.size:Int):=oQ;have hE:=hN.end_ oQ;have O:=fM hF hE F Q;clear hF hN F Q hE;go_wp2;go_ret;obtain⟨hF,hE,F,Q⟩:=O.out;exact⟨rfl,⟨l,v,hF,hE.symm,F.mono oQ⟩,K0.trans' Q (λi hi x=>oQ)⟩
namespace Ch
def TB(L:List RN):Prop:=∀n∈L,∀rt∈n.trans,rt.text.size<=300/\rt.pos<=300
theorem TB.mod{L}(h:TB L){i}{f}(G:∀n,∀rt∈(f n).trans,rt∈n.trans\/(rt.text.size<=300/\rt.pos<=300)):TB (p_ L i f):=by
 intro n F rt D;cases i with
 |negSucc j=>exact h n F rt D
 |ofNat j=>?_
 have⟨k,hk⟩:=jl F;rw[show(p_ L (Int.ofNat j) f)[k]? =_ from jt (L:=L) (k:=j) (f:=f) k]at hk;split at hk
 ·rw[qB]at hk;obtain⟨m,hm,rfl⟩:=hk;rcases G m rt D with E|E
  ·exact h m (aP hm) rt E
  omega
 exact h n (aP hk) rt D
theorem TB.mark{L}(h:TB L)i:TB (jG L i):=by
 intro n D rt E;have⟨k,hk⟩:=jl D;have⟨m,hm,e,_⟩:=mT L i k n hk;exact h m (aP hm) rt (by rw[<-e];exact E)
theorem Ub(t:ByteArray)a b:(t.extract a b).size<=t.size:=il
theorem js.bd{t}(J:t.size<=240){i}{up}{L}{D}(h:js t i up L D):TB L->TB D:=by
 refine js.ind (M:=λ_ _ L D=>TB L->TB D) (λ_=>id) ?_ h;intro i j up up' L L' D hi eK I F;refine I ?_;unfold oU at eK;split at eK
 ·split at eK
  ·simp only[bE,mD]at eK;obtain⟨_,_,rfl⟩:=eK;intro n E rt G;rcases cS.1 E with E|E
   ·exact F.mark up n E rt G
   simp_all
  simp_all
 split at eK
 ·grind
 split at eK
 ·split at eK
  ·simp only[bE,mD]at eK;obtain⟨_,_,rfl⟩:=eK;refine F.mod (λn rt G=>?_);grind[Ub,iV]
  simp_all
 split at eK
 ·split at eK
  ·simp only[bE,mD]at eK;obtain⟨_,_,rfl⟩:=eK;refine F.mod (λn rt G=>inl ?_);grind
  simp_all
 simp_all
end Ch
theorem abr{l r}(h:NR (Ch.mk l) r)(hb:vN l 300)(I:TB (Ch.mk l)):XK l:=by
 have at_:∀(k:Nat) (x:NV),l[k]? =some x->(Ch.mk l)[k]? =some x.n:=λk x hx=>by unfold Ch.mk;rw[bD,hx];rfl
 refine⟨hb.1,λx hx=>?_,λk x hx hk=>?_,λx hx=>⟨(hb.2 x hx).2.2,λrt hr=>?_⟩⟩
 ·have⟨k,hk⟩:=jl hx;have:=V_ (h.wf k _ (at_ k x hk)).2.2.1;omega
 ·have hw:=h.wf k _ (at_ k x hx);have:=hw.2.2.2.1 hk;have G:=(aM.1 hx).1;exact⟨x.n.parent.toNat,oQ,oQ⟩
 have⟨k,hk⟩:=jl hx;have D:=h.dF k _ (at_ k x hk);have E:∃y,xz rt y:=by
  generalize List.filter (sE k) r.dF=m at D;generalize x.n.trans=q at D hr;induction D using u9.ind with
  |nil=>simp_all
  |cons F _ J=>?_
  grind
 have⟨y,hy⟩:=E;have:=hy.ends.1;have:=hy.pos;have:=I x.n (aP (at_ k x hk)) rt hr;omega
theorem ku.aeH{w B D cb l v}(h:ku w B cb l v)(hb:D<=B):ku w D cb l v:=
 ⟨h.1,⟨cH h.2.1.row hb,λx hx=>cH (h.2.1.ph x hx) hb,λx hx=>cH (h.2.1.uC x hx) hb,λx hx=>cH (h.2.1.kZ x hx) hb,h.2.1.aE,h.2.1.aL,h.2.1.aX,h.2.1.aT⟩,bz hb h.2.2⟩
def RdR(w':World)(B:Nat)(t:ByteArray)(p:Value):Prop:=∃cb l v,p= pointer (some ⟨cb,0,none⟩)/\ku w' B cb l v/\NR (Ch.mk l) (chart t).2/\vN l 300/\TB (Ch.mk l)
def RdQ(w w':World)(t:ByteArray)(p:Value):Prop:=((Ch.read t).1≠0->p= pointer none)/\((Ch.read t).1=0->RdR w' w.heap.size t p)/\Kp bA w w'
theorem oE w t:
 Calls prog 142 #[string t] w λx w'=>∃p,x=returned (tuple #[p,int i64 (Ch.read t).1,int i64 (Ch.read t).2.1])/\RdQ w w' t p:=by
 by_cases Z:240<t.size
 ·have aa:(240:Int)<t.size:=oQ;have E:=ag (show Ch.read t=(1,0,⟨[],[],[]⟩)by unfold Ch.read;rw[aq Z]);go_in;go_wp2;go_ret3;refine⟨pointer none,by rw[E];rfl,λ_=>rfl,λh=>absurd h (by rw[E];decide),Kp.refl _ _⟩
 have aa:¬(240:Int)<t.size:=oQ;have ht:t.size<=240:=oQ;have Q:=ag (LU w t ht);have D:=Pv t;cases q:(chart t).1 with
 |false=>
  rw[q]at D;simp only[bu,bf]at D;rw[D]at Q;have h0:(0:Int)<=((chart t).2.pos:Int):=oQ;have E:=ag (show Ch.read t=(2,((chart t).2.pos:Int),⟨[],[],[]⟩)by unfold Ch.read;rw[ax Z,q];rfl);clear D;generalize (chart t).2.pos=po at*;go_in;go_wp;refine b9 Q ?_;intro O J;go_wp2;go_ret3;refine⟨pointer none,by rw[E];rfl,λ_=>rfl,λh=>absurd h (by rw[E];simp only;decide),J⟩
 |true=>?_
 rw[q]at D;simp only[aQ]at D;rw[D]at Q;have⟨L,hrun,hNR⟩:=zE q;have G:=BY hNR;have R:=hrun.bd ht (by intro n hn;simp at hn);have HL:=c_ hrun hNR R;clear D hrun hNR R;go_in;go_wp21;refine fu Q ?_;rintro y O ⟨rfl,J⟩;have E2:=ag (Mv O t L ht HL.1);go_wp2_with fail;refine fu E2 ?_;rintro y w2 ⟨rfl,⟨l,v,hF,I,F⟩,K2⟩;have Y:=ag (show NR (Ch.mk l) (chart t).2/\TB (Ch.mk l)by rw[I];exact HL.2);have X:=ag (L6 w2 O.heap.size O.heap.size l v hF (abr Y.1 F Y.2));rw[<-I]at G;have hE:fE (Ch.mk l)=(gy (chart t).2.ah (chart t).2.dH).1:=by unfold fE;rw[G]
 have hP:fP (Ch.mk l)=(gy (chart t).2.ah (chart t).2.dH).2:=by unfold fP;rw[G]
 rw[hE,hP]at X;have iL:=J.size;have HF:=c_ hF F (J.trans K2);clear Q E2 hF I F K2 hE hP G HL;go_wp21;refine fu X ?_;rintro y w3 ⟨rfl,K3⟩;cases U:(gy (chart t).2.ah (chart t).2.dH).1==0 with
 |false=>
  have q3:((gy (chart t).2.ah (chart t).2.dH).1 !=0)=true:=cX U;have E:=ag (show(Ch.read t).1=(gy (chart t).2.ah (chart t).2.dH).1/\(Ch.read t).2.1=(gy (chart t).2.ah (chart t).2.dH).2 by unfold Ch.read;rw[ax Z,q,U];exact⟨rfl,rfl⟩);generalize gy (chart t).2.ah (chart t).2.dH=jd at*;clear X J;go_wp2;go_ret3;refine⟨pointer none,by rw[E.1,E.2];rfl,λ_=>rfl,λh=>absurd h (by rw[E.1];simpa using U),HF.2.2.trans K3⟩
 |true=>?_
 have q3:((gy (chart t).2.ah (chart t).2.dH).1 !=0)=false:=cX U;have E:=ag (show(Ch.read t).1=0/\(Ch.read t).2.1=0 by unfold Ch.read;rw[ax Z,q,U];exact⟨rfl,rfl⟩);generalize gy (chart t).2.ah (chart t).2.dH=jd at*;clear X J;go_wp2;go_ret3;have⟨hF,F,KK⟩:=HF;refine⟨pointer (some ⟨O.heap.size,0,none⟩),by rw[E.1,E.2];rfl,λh=>absurd E.1 h,λ_=>⟨O.heap.size,l,v,rfl,(hF.aw K3).aeH iL,Y.1,F,Y.2⟩,KK.trans K3⟩
structure Rf l(ol:Ol):Prop where
 ah:Ch.ah l=ol.ah
 dF:∀ k x,l[k]? =some x->u9 xz x.n.trans (ol.dF.filter (sE k))
 ph:∀ k x,l[k]? =some x->u9 S7 x.n.enter (ol.fH.filter (ru k 94))
 uC:∀ k x,l[k]? =some x->u9 S7 x.n.cU (ol.fH.filter (ru k 36))
 lD:Co ol
 Dl:xV ol
 ok:ol.Ok
 nm:∀(k:Nat) x,l[k]? =some x->65<=x.n.name/\x.n.name<=90
 tb:∀x∈l,∀rt∈x.n.trans,rt.text.size<=300
 kd:∀(k:Nat) x,l[k]? =some x->1<=x.n.kind/\x.n.kind<=5
theorem Rf.len{l ol}(h:Rf l ol):ol.ah.length=l.length:=by rw[<-h.ah,Gx]
theorem Rf.le{l ol}(h:Rf l ol):l.length<=16:=by rw[<-h.len];exact h.lD.le
theorem Rf.up{l ol}(h:Rf l ol):Up (Ch.ah l):=by rw[h.ah];exact h.lD.tP.up
theorem Rf.DD{l ol}(h:Rf l ol){k:Nat}{x}(D:l[k]? =some x):aW ol.ah k=x.n.parent:=by rw[<-h.ah];exact Gy D
theorem Rf.kind{l ol}(h:Rf l ol){k:Nat}{x}(D:l[k]? =some x):bn ol.ah k=x.n.kind:=by rw[<-h.ah];exact T_ D
theorem Rf.move{l ol}(h:Rf l ol){t}{a}{k}(hm:TH ol t a k):∃ nd rt x,l[a]? =some nd/\nd.n.trans[k]? =some rt/\ol.dF[t]? =some x/\x.state=a/\xz rt x/\rt.text.size<=300:=by
 have⟨x,h1,h2,h3⟩:=hm.tr;have⟨a',e,hal⟩:=h.lD.src x (aP h1);have:a'=a:=oQ;subst this;rw[h.len]at hal;have nP:=au hal;have⟨rt,hr1,hr2⟩:=(h.dF a' _ nP).get h3;exact⟨_,rt,x,nP,hr1,h1,h2,hr2,h.tb _ (aP nP) rt (aP hr1)⟩
theorem Rf.named{l ol}(h:Rf l ol)c:(ie (Ch.mk l) c= -1/\Ch.place ol.ah c= -2)\/∃i,i<l.length/\ie (Ch.mk l) c=i/\Ch.place ol.ah c=i:=by
 have:=lh (Ch.mk l) c;rw[show(Ch.mk l).map RN.st=ol.ah from h.ah,eu]at this;grind
theorem Rf.Og{l ol}(h:Rf l ol):ie (Ch.mk l) 45= -1:=by
 rcases lh (Ch.mk l) 45 with⟨a,_,_⟩|⟨i,hi,_,_,E⟩
 ·omega
 rw[eu]at hi;have D:=au hi;rw[kB D]at E;have:=h.nm i _ D;omega
theorem yI{l k x}(h:l[k]? =some x):(me l)[k*2]? =some (string x.text):=by
 induction l generalizing k with
 |nil=>simp_all
 |cons a l D=>?_
 grind[me]
theorem Cz:∃d,prog.underlying 301=some d/\ee d=true:=⟨_,underlying301,rfl⟩
theorem Mw:(prog.info? 301).map (·.size)=some 2:=bZ
theorem E9 w B xb cb g n pv m l v(a k:Nat)nd rt(h:jD w xb cb g n pv m)(hF:ku w B cb l v)(nP:l[a]? =some nd)(Cd:nd.n.trans[k]? =some rt):
 Calls prog 245 #[pointer (some ⟨xb,0,none⟩),agg #[int i64 a,int i64 k]] w λy w'=>y=returned (string rt.text)/\Kp bA w w':=by
 obtain⟨Y,Q,rfl⟩:=hF.2.1.len;have U:=(aM.1 nP).1;have I:(a:Int)<l.length:=oQ;have hk:=(aM.1 Cd).1;have E:=ak w (cells #[int i64 a,int i64 k] 301);have F:=kG w (cells #[int i64 a,int i64 k] 301);have D:=hF.aw F;have G:jD _ xb cb g n pv m:=h.aB F (λx=>x);have⟨g1,GB,hv,_,hcell,_⟩:=D.2.1.form nP;simp only[aH]at hv;obtain⟨rfl,-,rfl⟩:=hv;have Dk:=D.2.1.kZ nd (aP nP);have⟨g2,cap2,hv2,_⟩:=cO Dk oQ;have X:=hcell 6 oQ;rw[show(oW nd)[6]? =some nd.tv from rfl,hv2]at X;rw[hv2]at Dk;have zt:=(bK Dk (k*2) oQ).trans (yI Cd);have c0:World.cell? _ ⟨xb,0,none⟩=some (pointer (some ⟨cb,0,none⟩)):=G.cell 0;have zc:=D.cell;have R:(k:Int)<nd.n.trans.length:=oQ;clear D G hcell Dk h hF;go_in;go_upto_region 1 with fail;generalize w.alloc (cells #[int i64 a,int i64 k] 301)=O at*;generalize w.heap.size=J at*;have m0:O.cell? ⟨J,0,none⟩=some (int i64 a):=dG E rfl;have Z:O.cell? ⟨J,1,none⟩=some (int i64 k):=dG E rfl;clear E;go_quiet (fail);exact iN (F.drewN _)
theorem Ak w B xb cb g n pv m l v(a k:Nat)nd rt x(h:jD w xb cb g n pv m)(hF:ku w B cb l v)(hl:l.length<=16)(nP:l[a]? =some nd)(Cd:nd.n.trans[k]? =some rt)(Z:xz rt x)(iL:rt.text.size<=300):
 Calls prog 268 #[pointer (some ⟨xb,0,none⟩),agg #[int i64 a,int i64 k]] w λy w'=>y=returned (int i64 (ie (Ch.mk l) x.target))/\Kp bA w w':=by
 have⟨d,hd,iT⟩:=Cz;have⟨he1,_,he2⟩:=Z.ends;have E:=ak w (cells #[int i64 a,int i64 k] 301);have J:=kG w (cells #[int i64 a,int i64 k] 301);have D:=hF.aw J;have R:jD _ xb cb g n pv m:=h.aB J (λx=>x);have U:=ag (E9 _ B xb cb g n pv m l v a k nd rt R D nP Cd);obtain⟨q,hq⟩:∃q,rt.text.size=q+1:=⟨rt.text.size-1,oQ⟩
 have I:q<rt.text.size:=oQ;have aa:(rt.text.size:Int)=(q:Int)+1:=oQ;have G:((rt.text[q]'I).toNat:Int)=x.target:=by rw[<-he2,show rt.text.size-1=q by omega];simp[af,I]
 have aI:=Mw;have Q:=bw R D;clear h hF R D he2;go_in;go_upto_region 1 with fail;generalize w.alloc (cells #[int i64 a,int i64 k] 301)=w1 at*;generalize w.heap.size=ob at*;have m0:w1.cell? ⟨ob,0,none⟩=some (int i64 a):=dG E rfl;have m1:w1.cell? ⟨ob,1,none⟩=some (int i64 k):=dG E rfl;go_wp;refine b9 U ?_;intro w2 O;have F:=Q.out.2.aw O;have X:=Q.out.1.aB O (λx=>x);have c0:w2.cell? _=some (pointer (some ⟨cb,0,none⟩)):=X.cell 0;have E2:=ag (λnn=>xD (w2.drewN nn) B cb l v ((rt.text[q]'I).toNat:Int) (F.aw ((Kp.refl _ _).drewN nn)) oQ);have Y:(q:Int)<(q:Int)+1:=oQ;have HK:=ag (J.trans O);clear U F X Q m0 m1 E J O nP Cd Z;have HB:=ag G;clear G hq;generalize rt.text=s at*;go_upto_region 2 with fail;go_quiet ((go_at_call 236;exact j7 (fA E2 _)));go_wp2;go_ret;rw[<-HB];exact⟨rfl,HK.drewN _⟩
namespace Ch
theorem Qo{ss}(hu:Up ss)tg:∀ n f g d,-1<=d->(d+1).toNat<=n->(d+1).toNat<=f->(d+1).toNat<=g->uu ss tg f d=uu ss tg g d:=by
 intro n;induction n with
 |zero=>
  grind[vw]
 |succ n J=>?_
 intro f g d F G D E;cases q:(d != -1)&& !wU ss d tg with
 |false=>grind[vw]
 |true=>?_
 have I:d≠ -1:=by simp at q;exact q.1
 match f,g,D,E with
 |0,_,D,_=>omega
 |_+1,0,_,E=>omega
 |f+1,g+1,D,E=>
  simp only[uu];rw[aq q,aq q];have a:=iE hu d;have b:=jA hu (i:=d) oQ;grind
def dm(ss:List St)(tg d:Int):Int:=uu ss tg (d+1).toNat d
theorem Zd ss tg:dm ss tg (-1)= -1:=rfl
theorem Ze{ss tg d}(h:wU ss d tg=true):dm ss tg d=d:=vw ss tg _ (by rw[h];simp)
theorem WC{ss}(hu:Up ss){tg}{d}(E:0<=d)(h:wU ss d tg=false):dm ss tg d=dm ss tg (aW ss d):=by
 unfold dm;obtain⟨f,D⟩:∃f,(d+1).toNat=f+1:=⟨d.toNat,oQ⟩
 rw[D];simp only[uu];have:((d != -1)&& !wU ss d tg)=true:=by rw[h];simp;omega
 rw[aq this];have a:=iE hu d;have b:=jA hu (i:=d) oQ;exact Qo hu tg f f _ _ a oQ oQ (aC _)
end Ch
structure MvR(l:List NV)(ol:Ol)(t a k:Nat)nd rt x:Prop where
 nP:l[a]? =some nd
 Cd:nd.n.trans[k]? =some rt
 Dk:ol.dF[t]? =some x
 eK:x.state=a
 fW:xz rt x
 iL:rt.text.size<=300
theorem zT w B xb cb g pv m l v ol t a k i nd rt x on(h:jD w xb cb g l.length pv m)(aI:lB w g on)(aS:iI l.length on m.s.act)(hF:ku w B cb l v)(J:Rf l ol)(hm:MvR l ol t a k nd rt x)(hi:i<l.length):
 Calls prog 266 #[pointer (some ⟨xb,0,none⟩),agg #[int i64 a,int i64 k],int i64 i] w λy w'=>y=returned (bool (Ch.lv ol m.s t i))/\Kp bA w w':=by
 have⟨d,hd,iT⟩:=Cz;have D:=XM (s:=m.s) (t:=(t:Int)) (show ol.dF[((t:Int)).toNat]? =some x from hm.Dk) i;rw[hm.eK,gf (by rw[J.len];exact hi),fC,<-aS.2.2 i]at D;have aa:vg ol.ah a x.target=Ch.dm ol.ah (Ch.place ol.ah x.target) nd.n.parent:=by rw[<-J.DD hm.nP];rfl
 rw[aa]at D;have a3:=J.le;obtain⟨ao,a6,rfl⟩:=hF.2.1.len;have Z:=ak w (cells #[int i64 a,int i64 k] 301);have K1:=kG w (cells #[int i64 a,int i64 k] 301);have ab:=hF.aw K1;have h1:jD _ xb cb g l.length pv m:=h.aB K1 (λx=>x);have zJ:lB _ g on:=K1.at_ aI (λx=>x);have E1:=ag (Ak _ B xb cb g l.length pv m l _ a k nd rt x h1 ab a3 hm.nP hm.Cd hm.fW hm.iL);have HH:=fM h1 ab zJ D;clear h hF h1 ab aI zJ D aa;go_in;go_upto_region 1 with fail;generalize w.alloc (cells #[int i64 a,int i64 k] 301)=w1 at*;generalize w.heap.size=ob at*;have m0:w1.cell? ⟨ob,0,none⟩=some (int i64 a):=dG Z rfl;have m1:w1.cell? ⟨ob,1,none⟩=some (int i64 k):=dG Z rfl;go_wp;refine b9 E1 ?_;intro w2 K2;have am:=K2.at_ Z (λx=>x);have bc:w2.cell? ⟨ob,0,none⟩=some (int i64 a):=dG am rfl;have h2:=HH.1.aB K2 (λx=>x);have Y:=HH.2.1.aw K2;have WD:lB _ _ _:=K2.at_ HH.2.2.1 (λx=>x);have c0:w2.cell? _=some (pointer (some ⟨cb,0,none⟩)):=h2.cell 0;have c1:w2.cell? _=some (slice (some ⟨g,0,none⟩) l.length l.length):=h2.cell 1;have DC:=WD.cell (k:=i) (by have:=aS.1;omega);have D:=HH.2.2.2;have bb:(i:Int)<l.length:=oQ;have Oh:=K1.trans K2;clear E1 HH m0 m1 Z am K1 K2;obtain⟨gt,G⟩:∃gt,ie (Ch.mk l) x.target=gt:=⟨_,rfl⟩
 rw[G];by_cases X:x.target=45
 ·have hn:=J.Og;rw[<-X,G]at hn;subst hn;rw[X]at D;have HR:=ag (D.trans (show _=false from rfl));clear D G;exact qR HR Oh
 obtain⟨F,Jf,a1,a2⟩:∃F:Nat,F<l.length/\gt=F/\Ch.place ol.ah x.target=F:=by
  rcases J.named x.target with⟨_,h2⟩|⟨i,hi,h1,h2⟩
  ·have⟨g',hg',_⟩:=J.lD.tgt x (aP hm.Dk) X;omega
  exact⟨i,hi,by rw[<-G];exact h1,h2⟩
 subst a1;have ht:(x.target==45)=false:=cX X;rw[ht,a2]at D;simp only[mG,fC]at D;have a4:(F:Int)<l.length:=oQ;cases qo:jC on i with
 |false=>
  rw[qo]at DC D;have HR:=ag (D.trans (mF _));clear D G;exact qR HR Oh
 |true=>?_
 rw[qo]at DC D;rw[fC]at D;have a7:=(aM.1 hm.nP).1;have WG:(a:Int)<l.length:=oQ;have⟨g1,GB,hv,_,hcell,_⟩:=Y.2.1.form hm.nP;simp only[aH]at hv;obtain⟨rfl,-,rfl⟩:=hv;have zp:_=some _:=hcell 2 oQ;have zc:=Y.cell;have R:=J.up;have aO:=R a ⟨nd.n.name,nd.n.pos,nd.n.kind,nd.n.parent⟩ (by unfold Ch.ah Ch.mk;rw[bD,bD,hm.nP];rfl);simp only at aO;have HX:=fM D Y h2 Oh;clear D Y h2 hcell G WD Oh;go_wp21;go_quiet (fail);go_wp;go_loopw [8] (λdv wr=>∃U:Int,dv= int i64 U/\ -1<=U/\U<l.length/\Hid (Ch.lv ol m.s t i=aG ol.ah (Ch.dm ol.ah F U) i)/\Kp bA w2 wr) (λdv _=>(intOf dv+1).toNat)
 case atStart=>exact⟨nd.n.parent,rfl,aO.1,oQ,ag HX.1,(Kp.refl _ _).drewN _⟩
 case round=>
  obtain⟨U,rfl,a9,ba,HE,KW⟩:=hrel;have iq:=HX.2.1.aw KW;have hr:=HX.2.2.1.aB KW (λx=>x);have a5:wr.cell? _=some (pointer (some ⟨cb,0,none⟩)):=hr.cell 0;have be:=iq.cell;clear hr;by_cases a8:0<=U
  ·obtain⟨I,rfl⟩:∃I:Nat,U=I:=⟨U.toNat,oQ⟩
   have a0:I<l.length:=oQ;obtain⟨y,hy⟩:∃y,l[I]? =some y:=⟨_,au a0⟩
   have⟨g3,AI,hv3,_,pE,_⟩:=iq.2.1.form hy;simp only[aH,bE,ei,cA,dV]at hv3;obtain⟨rfl,rfl⟩:=hv3;have zk:_=some _:=pE 1 oQ;have bg:_=some _:=pE 2 oQ;have aj:=R I ⟨y.n.name,y.n.pos,y.n.kind,y.n.parent⟩ (by unfold Ch.ah Ch.mk;rw[bD,bD,hy];rfl);simp only at aj;have E:=ag (rH wr B cb l _ I F iq Jf R oQ);have E2:=ag (rH wr B cb l _ I i iq hi R oQ);have ap:wU ol.ah I F=(y.n.kind==2&&aG ol.ah I F):=by unfold wU;rw[J.kind hy]
   have Q:=λh=>HE.trans (by rw[Ze (ss:=ol.ah) (tg:=F) (d:=I) h]);have ad:=λh=>HE.trans (show _=aG ol.ah (Ch.dm ol.ah F y.n.parent) i by rw[WC J.lD.tP.up (tg:=F) (d:=I) oQ h,J.DD hy]);rw[ap]at Q ad;rw[J.ah]at E E2;have WH:=ag Q;have O:=ag ad;clear pE ap Q ad iq HE;generalize aG ol.ah I F=ov at*;cases ov with
   |false=>
    have HN:=ag (O dy);clear O WH;go_wp;refine b9 E ?_;intro w5 e5;rw[e5];go_wp2;exact⟨⟨y.n.parent,rfl,aj.1,oQ,ag HN,KW⟩,ew⟩
   |true=>?_
   cases q2:y.n.kind==2 with
   |false=>
    have HN:=ag (O (by rw[q2];rfl));clear O WH;go_wp;refine b9 E ?_;intro w5 e5;rw[e5];go_wp2;exact⟨⟨y.n.parent,rfl,aj.1,oQ,ag HN,KW⟩,ew⟩
   |true=>?_
   have HN:=ag (WH (by rw[q2];rfl));clear O WH;go_wp;refine fu E ?_;rintro z w5 ⟨rfl,e5⟩;rw[e5];go_wp21;refine fu E2 ?_;rintro z w6 ⟨rfl,e6⟩;rw[e6];exact qR HN (HX.2.2.2.trans KW)
  have XE:U= -1:=oQ;subst XE;have E2:=ag (rH wr B cb l _ (-1) i iq hi R oQ);rw[J.ah]at E2;have HN:=ag (HE.trans (by rw[Zd]));clear HE iq;go_wp;refine b9 E2 ?_;intro w6 e6;rw[e6];exact qR HN (HX.2.2.2.trans KW)
namespace Ch
theorem zl{ol}(D:ol.ah.length<=16)s a b:meets (leaves ol s a) (leaves ol s b)=(List.range ol.ah.length).any (λj=>lv ol s a j&&lv ol s b j):=by
 have h:=IU D (s:=s) (a:=(a:Int)) (b:=(b:Int));simp only[dE]at h;grind[lv,Bh,sN,meets,leaves]
theorem WJ{n k p}(hk:k<n)(h:p k=true):(List.range n).any p=true:=by
 grind
theorem Zf{n p}(h:∀k,k<n->p k=false):(List.range n).any p=false:=by
 simp_all
end Ch
theorem Qp w B xb cb g pv m l v ol t a k t2 D F nd aj rt am x x2 on(h:jD w xb cb g l.length pv m)(ab:lB w g on)(ad:iI l.length on m.s.act)(hF:ku w B cb l v)(Z:Rf l ol)(hm:MvR l ol t a k nd rt x)(aI:MvR l ol t2 D F aj am x2):
 Calls prog 242 #[pointer (some ⟨xb,0,none⟩),agg #[int i64 a,int i64 k],agg #[int i64 D,int i64 F]] w λy w'=>y=returned (bool (Ch.meets (Ch.leaves ol m.s t) (Ch.leaves ol m.s t2)))/\Kp bA w w':=by
 have hM:=Ch.zl Z.lD.le m.s t t2;rw[Z.len]at hM;obtain⟨ao,aS,rfl⟩:=hF.2.1.len;have a1:=Z.le;have aa:=ak w (cells #[int i64 a,int i64 k] 301);have J:=ak (w.alloc (cells #[int i64 a,int i64 k] 301)) (cells #[int i64 D,int i64 F] 301);have E:=((Kp.refl bA (w.alloc (cells #[int i64 a,int i64 k] 301))).alloc (cells #[int i64 D,int i64 F] 301)).at_ aa (λx=>x);rw[show(w.alloc (cells #[int i64 a,int i64 k] 301)).heap.size=w.heap.size+1 by simp only[World.alloc,Array.size_push]]at J;have U:Kp bA w ((w.alloc (cells #[int i64 a,int i64 k] 301)).alloc (cells #[int i64 D,int i64 F] 301)):=((Kp.refl _ _).alloc _).alloc _;have Y:=hF.aw U;have h1:jD _ xb cb g l.length pv m:=h.aB U (λx=>x);have zJ:lB _ g on:=U.at_ ab (λx=>x);have Q:=rP h1 Y zJ E J;have HM:=ag hM;clear h hF h1 Y ab zJ aa J E hM;go_in;go_upto_region 1 with fail;generalize (w.alloc (cells #[int i64 a,int i64 k] 301)).alloc (cells #[int i64 D,int i64 F] 301)=w1 at*;generalize w.heap.size=ob at*;go_wp;go_loopw [7] (λiv wr=>∃i:Nat,iv= int i64 i/\i<=l.length/\Hid (∀j,j<i->(Ch.lv ol m.s t j&&Ch.lv ol m.s t2 j)=false)/\Kp bA w1 wr) (λiv _=>l.length-(intOf iv).toNat)
 case atStart=>exact⟨0,rfl,aA _,ag (λj h=>absurd h oQ),Kp.refl _ _⟩
 case round=>
  obtain⟨i,rfl,hi,HB,I⟩:=hrel;have hr:=Q.1.aB I (λx=>x);have iq:=Q.2.1.aw I;have lO:lB _ _ _:=I.at_ Q.2.2.1 (λx=>x);have b1:=I.at_ Q.2.2.2.1 (λx=>x);have c0:wr.cell? _=some (pointer (some ⟨cb,0,none⟩)):=hr.cell 0;have zc:=iq.cell;have m0:wr.cell? ⟨ob,0,none⟩=some (int i64 a):=dG b1 rfl;have m1:wr.cell? ⟨ob,1,none⟩=some (int i64 k):=dG b1 rfl;by_cases O:i<l.length
  ·have aO:(i:Int)<l.length:=oQ;have E1:=ag (zT wr B xb cb g pv m l _ ol t a k i nd rt x on hr lO ad iq Z hm O);have R:=fM hr iq lO I;have ap:=ag (λh=>HM.trans (WJ O (p:=λj=>Ch.lv ol m.s t j&&Ch.lv ol m.s t2 j) h));have Es:=ag (λ(h:(Ch.lv ol m.s t i&&Ch.lv ol m.s t2 i)=false)=>show∀j,j<i+1->(Ch.lv ol m.s t j&&Ch.lv ol m.s t2 j)=false from λj hj=>by
    rcases lX (lY hj)with h'|h'
    ·exact HB j h'
    subst h';exact h)
   clear hr iq lO I b1 HB;go_wp;refine b9 E1 ?_;intro w2 X;have Zg:=R.2.2.2.trans X;have b2:=Zg.at_ Q.2.2.2.2 (λx=>x);have n0:w2.cell? ⟨ob+1,0,none⟩=some (int i64 D):=dG b2 rfl;have n1:w2.cell? ⟨ob+1,1,none⟩=some (int i64 F):=dG b2 rfl;have E2:=ag (zT w2 B xb cb g pv m l _ ol t2 D F i aj am x2 on (R.1.aB X (λx=>x)) (X.at_ R.2.2.1 (λx=>x)) ad (R.2.1.aw X) Z aI O);clear E1 X b2 R m0 m1 c0 zc;generalize Ch.lv ol m.s t i=v1 at*;generalize Ch.lv ol m.s t2 i=v2 at*;go_wp21;refine fu E2 ?_;rintro y w3 ⟨rfl,K3⟩;have HK:=ag (Zg.trans K3);clear E2 K3 Zg n0 n1;cases v1<;>cases v2
   ·go_wp2;exact⟨⟨i+1,eb,oQ,ag (Es rfl),HK⟩,ew⟩
   ·go_wp2;exact⟨⟨i+1,eb,oQ,ag (Es rfl),HK⟩,ew⟩
   ·go_wp2;exact⟨⟨i+1,eb,oQ,ag (Es rfl),HK⟩,ew⟩
   have G:=ag (ap rfl);exact qR G (U.trans HK)
  have a0:¬(i:Int)<l.length:=oQ;obtain rfl:i=l.length:=oQ;have G:=ag (HM.trans (Zf HB));clear hr iq lO b1;exact qR G (U.trans I)
namespace Ch
theorem CA{ol}(hu:Up ol.ah)s trg:∀ n f g i,-1<=i->(i+2).toNat<=n->(i+2).toNat<=f->(i+2).toNat<=g->dU ol s trg f i=dU ol s trg g i:=by
 intro n;induction n with
 |zero=>omega
 |succ n I=>?_
 intro f g i F G D E;match f,g,D,E with
 |0,_,D,_=>omega
 |_+1,0,_,E=>omega
 |f+1,g+1,D,E=>
  simp only[dU];by_cases c:i= -1
  ·simp_all
  have a:=iE hu i;have b:=jA hu (i:=i) oQ;grind
theorem GC ol s trg:dX ol s (-1) trg= -2:=rfl
theorem GD{ol s trg}{i t:Nat}(h:lL ol s i trg=t):dX ol s i trg=t:=by
 unfold dX;rw[show((i:Int)+2).toNat=i+1+1 by omega];grind[dU]
theorem Jg{ol}(hu:Up ol.ah){s}{trg}{i:Nat}(h:lL ol s i trg= -2):dX ol s i trg=dX ol s (aW ol.ah i) trg:=by
 have a:=iE hu i;have b:=jA hu (i:=(i:Int)) oQ;have e:dX ol s i trg=dU ol s trg (i+1) (aW ol.ah i):=by
  unfold dX;rw[show((i:Int)+2).toNat=i+1+1 by omega];grind[lL,dU,aW]
 rw[e];unfold dX;exact CA hu s trg (i+1) _ _ _ a oQ oQ (aC _)
def Zh(ol:Ol)(f:Int):Array Value:=if f== -2 then #[int i64 0,int i64 0]else #[int i64 (iG ol f.toNat),int i64 (G9 ol f.toNat)]
theorem Zj{ol t a k}(h:TH ol t a k):Zh ol t= #[int i64 a,int i64 k]:=by
 unfold Zh;have:((t:Int)== -2)=false:=dy;rw[this];simp only[bu,bf,dE];rw[h.st,h.rk]
end Ch
theorem MvW.set{w:World}{D}{a}{b}(h:w.heap[D]? =some (cells #[a,b] 301))x y:((w.setCell ⟨D,0,none⟩ (int i64 x)).setCell ⟨D,1,none⟩ (int i64 y)).heap[D]? =some (cells #[int i64 x,int i64 y] 301):=by
 rw[ar _ (ar _ h)];rfl
theorem Mx w B xb cb g pv m l v ol i trg(h:jD w xb cb g l.length pv m)(hF:ku w B cb l v)(U:Rf l ol)(hi:i<l.length):
 Calls prog 265 #[pointer (some ⟨xb,0,none⟩),int i64 i,int .u8 trg] w λy w'=>y=returned (tuple #[agg (Zh ol (dX ol m.s i trg)),bool (dX ol m.s i trg != -2)])/\Kp bA w w':=by
 have⟨d,hd,iT⟩:=Cz;obtain⟨ao,a5,rfl⟩:=hF.2.1.len;have a8:=U.le;have ad:=ak w (cells #[int i64 0,int i64 0] 301);have K1:=kG w (cells #[int i64 0,int i64 0] 301);have aa:=hF.aw K1;have h1:jD _ xb cb g l.length pv m:=h.aB K1 (λx=>x);have HH:=c_ h1 aa ad;clear h hF h1 aa ad;go_in;go_upto_region 1 with fail;generalize w.alloc (cells #[int i64 0,int i64 0] 301)=w1 at*;generalize wm:w.heap.size=G at*;go_wp;go_loopw [8] (λjv wr=>∃p:Int,jv= int i64 p/\ -1<=p/\p<l.length/\Hid (dX ol m.s i trg=dX ol m.s p trg)/\Kp bA w1 wr) (λjv _=>(intOf jv+1).toNat)
 case atStart=>exact⟨i,rfl,oQ,oQ,ag rfl,Kp.refl _ _⟩
 case round=>
  obtain⟨p,rfl,ba,bb,HE,KW⟩:=hrel;have hr:=HH.1.aB KW (λx=>x);have iq:=HH.2.1.aw KW;have D:=KW.at_ HH.2.2 (λx=>x);have c0:wr.cell? _=some (pointer (some ⟨cb,0,none⟩)):=hr.cell 0;have zc:=iq.cell;by_cases a9:0<=p
  ·obtain⟨j,rfl⟩:∃j:Nat,p=j:=⟨p.toNat,oQ⟩
   have hj:j<l.length:=oQ;have a7:(j:Int)<l.length:=oQ;obtain⟨nd,nP⟩:∃nd,l[j]? =some nd:=⟨_,au hj⟩
   have J:=U.dF j nd nP;have aI:=ag J.len;have bc:nd.n.trans.length<=240:=by rw[J.len];exact bz (mB _ _) U.ok.dF
   have aj:=U.up j ⟨nd.n.name,nd.n.pos,nd.n.kind,nd.n.parent⟩ (by unfold Ch.ah Ch.mk;rw[bD,bD,nP];rfl);simp only at aj;have Z:=rP hr iq D J KW;clear hr iq D J KW c0 zc;go_wp;go_loopw [9] (λkv wq=>∃k:Nat,kv= int i64 k/\k<=nd.n.trans.length/\Hid (∀(e:Nat) (y:Tr),e<k->(ol.dF.filter (sE j))[e]? =some y->yG m.s trg y=false)/\Kp bA wr wq) (λkv _=>nd.n.trans.length-(intOf kv).toNat)
   case atStart=>exact⟨0,rfl,aA _,ag (λe y h=>absurd h oQ),Kp.refl _ _⟩
   case round=>
    obtain⟨k,rfl,hk,Q,R⟩:=hrel;have hq:=Z.1.aB R (λx=>x);have AL:=Z.2.1.aw R;have X:=R.at_ Z.2.2.1 (λx=>x);have c0:wr.cell? _=some (pointer (some ⟨cb,0,none⟩)):=hq.cell 0;have zc:=AL.cell;have⟨g1,GB,hv,_,hcell,_⟩:=AL.2.1.form nP;simp only[aH]at hv;obtain⟨rfl,-,rfl⟩:=hv;have Dk:=AL.2.1.kZ nd (aP nP);have z6:=hcell 6 oQ;rw[show(oW nd)[6]? =some nd.tv from rfl]at z6;have zp:_=some _:=hcell 2 oQ;have⟨ta,tc,PI⟩:=bp Dk;rw[PI]at z6 Dk;have aS:=ag (K1.trans (Z.2.2.2.2.trans R));have aO:=ag (Z.2.2.2.2.trans R);by_cases a2:k<nd.n.trans.length
    ·have a4:(k:Int)<nd.n.trans.length:=oQ;obtain⟨rt,Cd⟩:∃rt,nd.n.trans[k]? =some rt:=⟨_,au a2⟩
     have⟨x,hx,fW⟩:=Z.2.2.2.1.Y8 Cd;have⟨g2,cap2,hv2,_⟩:=cO Dk oQ;simp only[aH]at hv2;obtain⟨rfl,-,rfl⟩:=hv2;have zt:=(bK Dk (k*2) oQ).trans (yI Cd);have iL:=U.tb nd (aP nP) rt (aP Cd);have he:=fW.ends;have a3:0<rt.text.size:=oQ;have ab:((rt.text[0]'a3).toNat:Int)=x.uh:=by rw[<-he.2.1];simp[af,a3]
     have E:=ag (Mu wr xb cb g l.length pv m rt x hq fW oQ);have O:yG m.s trg x=(((rt.text[0]'a3).toNat:Int)==trg&&Ch.holds m.s x.guard):=by unfold yG;rw[ab]
     have I:=ag (λ(hh:yG m.s trg x=true)=>Mh (ol:=ol) (s:=m.s) hx hh Q);have Es:=ag (λ(hh:yG m.s trg x=false)=>show∀(e:Nat) (y:Tr),e<k+1->(ol.dF.filter (sE j))[e]? =some y->yG m.s trg y=false from λe y he hy=>by
      rcases lX (lY he)with h'|h'
      ·exact Q e y h' hy
      subst h';rw[hx]at hy;obtain rfl:x=y:=cX hy;exact hh)
     have Y:=ag O;have ap:=ag X;clear AL hcell Dk Q fW O ab hq X he Cd;generalize rt.text=s at*;generalize Ch.holds m.s x.guard=ho at*;go_wp;refine b9 E ?_;intro w5 K5;have F:=K5.at_ ap (λx=>x);have r0:w5.cell? ⟨G,0,none⟩=some (int i64 0):=dG F rfl;have r1:w5.cell? ⟨G,1,none⟩=some (int i64 0):=dG F rfl;have a0:w5.frozen? ⟨G,0,none⟩=false:=by simp[World.frozen?,F]
     have a1:w5.frozen? ⟨G,1,none⟩=false:=by simp[World.frozen?,F]
     have am:=ag (MvW.set F j k);have DL:=bw (aS.trans K5) (R.trans K5);clear E F K5 c0 zc z6 zp zt R;cases ho with
     |false=>
      have HF:=ag (Es (by rw[Y,Bool.and_false]));clear Y Es I;go_wp2;exact⟨⟨k+1,eb,oQ,ag HF,DL.2⟩,ew⟩
     |true=>?_
     cases qt:((s[0]'a3).toNat:Int)==trg with
     |false=>
      have HF:=ag (Es (by rw[Y,qt];rfl));clear Y Es I;go_wp2;exact⟨⟨k+1,eb,oQ,ag HF,DL.2⟩,ew⟩
     |true=>?_
     have⟨t,hmv,hfi⟩:=I (by rw[Y,qt];rfl);have HN:=ag (HE.trans (GD hfi));have HM:=ag (Zj hmv);clear Y Es I hmv hfi;go_wp2;refine kH am hd iT Mw ?_;rw[HN,HM];refine⟨dy,?_⟩;exact DL.1.trans' (((Kp.refl (λk=>k=G) _).setCell jF _).setCell jF _) (λi hi e=>oQ)
    have a6:¬(k:Int)<nd.n.trans.length:=oQ;obtain rfl:k=nd.n.trans.length:=oQ;have HN:=ag (HE.trans (show _=dX ol m.s nd.n.parent trg by
     rw[Jg U.lD.tP.up (I3 (λx hx=>by
      have⟨e,hxe⟩:=jl hx;have:=(aM.1 hxe).1;have:=aI.out;exact Q.out e x oQ hxe)),U.DD nP]))
    clear AL hcell Dk Q HE hq X;go_wp2;exact⟨⟨nd.n.parent,rfl,aj.1,oQ,ag HN,aO⟩,ew⟩
  have hp:p= -1:=oQ;subst hp;have HN:=ag (HE.trans (GC ol m.s trg));have r0:wr.cell? ⟨G,0,none⟩=some (int i64 0):=dG D rfl;have r1:wr.cell? ⟨G,1,none⟩=some (int i64 0):=dG D rfl;have a0:wr.frozen? ⟨G,0,none⟩=false:=by simp[World.frozen?,D]
  have a1:wr.frozen? ⟨G,1,none⟩=false:=by simp[World.frozen?,D]
  have Q:=ag (MvW.set D 0 0);have HK:=bw K1 KW;clear HE hr iq D;go_wp2;refine kH Q hd iT Mw ?_;rw[HN];refine⟨rfl,?_⟩;exact HK.1.trans' (((HK.2.mono (S':=λk=>k=G) gM).setCell jF _).setCell jF _) (λi hi e=>oQ)
theorem Uc:(prog.info? 301).map (λi=>(i.zero,i.size,i.bytes))=some (some (agg #[int i64 0,int i64 0]),2,16):=bZ
def Al(ol:Ol)(t:Int):List Value:=[int i64 (iG ol t.toNat),int i64 (G9 ol t.toNat)]
def iJ(ol:Ol)(ts:List Int):List Value:=ts.flatMap (Al ol)
theorem uF ol ts t:iJ ol (ts++[t])=iJ ol ts++Al ol t:=by simp[iJ]
theorem oF ol ts k t(h:ts[k]? =some t):(iJ ol ts)[k*2]? =some (int i64 (iG ol t.toNat))/\(iJ ol ts)[k*2+1]? =some (int i64 (G9 ol t.toNat)):=by
 induction ts generalizing k with
 |nil=>simp_all
 |cons a l D=>?_
 grind[iJ,Al]
namespace Ch
theorem My ol s trg:∀ f k D,mN ol s trg (f+1) k D=ib ol s trg (mN ol s trg f k D) (k+f):=by
 intro f;induction f with
 |zero=>intro k D;rfl
 |succ f E=>?_
 grind[mN,ib]
def zU(ol:Ol)(s:Sd)(trg:Int)(k:Nat):List Int:=mN ol s trg k 0 []
theorem Qq ol s trg k:zU ol s trg (k+1)=ib ol s trg (zU ol s trg k) k:=by
 grind[zU,My]
theorem sh{l ol}(h:Rf l ol)(i:Nat):dZ (mk l) (i:Int)=fT ol.ah i:=by
 unfold dZ fT;rw[h.len,eu];apply qI;intro j D;rw[<-h.ah];exact(k_ (L:=mk l) (by rw[eu];simpa using D)).symm
theorem WK{l ol}(h:Rf l ol){s}(I:Inv ol s){k}(hk:k<l.length):vy ol.ah s.act k=(bit s.act k&&(dZ (mk l) (k:Int)).length==0):=by
 rw[sh h];unfold vy;rw[eQ];cases q:bit s.act k with
 |false=>rfl
 |true=>?_
 simp only[fC];have G:=au hk;have D:=h.kd k _ G;rw[<-h.kind G]at D;have R:=I.Cr.fZ k q;have E:k<ol.ah.length:=by rw[h.len];exact hk
 by_cases c:bn ol.ah k=2\/bn ol.ah k=3
 ·have⟨j,_,hj⟩:=h.lD.tP.Gp k E c;have hm:=cY.2 hj;grind
 have Q:fT ol.ah k=[]:=by
  cases O:fT ol.ah k with
  |nil=>rfl
  |cons a t=>?_
  exfalso;have hm:a∈fT ol.ah k:=by rw[O];simp
  have J:=cY.1 hm;have F:=sM h.lD.tP J;have:=h.lD.tP.pk a oQ F.2;grind[dY]
 grind
theorem WL{ol}(G:Co ol){e}{t}(he:e<ol.dF.length)(I:t<ol.dF.length):(iG ol e==iG ol t&&((G9 ol e:Int)==(G9 ol t:Int)))=((e:Int)==(t:Int)):=by
 have E:=au he;have F:=au I;have J:iG ol e=(ol.dF[e]).state:=by unfold iG;rw[E]
 have O:iG ol t=(ol.dF[t]).state:=by unfold iG;rw[F]
 rw[J,O];by_cases c:e=t
 ·simp_all
 have D:((e:Int)==(t:Int))=false:=il;rw[D];cases q:(ol.dF[e]).state==(ol.dF[t]).state with
 |false=>rfl
 |true=>?_
 have hs:(ol.dF[e]).state=(ol.dF[t]).state:=cX q;have⟨k,hk,_⟩:=G.src _ (List.getElem_mem he);grind[G9,Y7]
end Ch
theorem Mz w B xb cb g pv m l v ol trg on(h:jD w xb cb g l.length pv m)(bb:lB w g on)(am:iI l.length on m.s.act)(hI:Ch.Inv ol m.s)(hF:ku w B cb l v)(hR:Rf l ol):
 Calls prog 241 #[pointer (some ⟨xb,0,none⟩),int .u8 trg] w λy w'=>∃u,y=returned u/\w'.ownsRow w.heap.size 301 2 u (Ch.find ol m.s trg).length (iJ ol (Ch.find ol m.s trg))/\Kp bA w w':=by
 have⟨i0,hi0,hz0,hz1,hz2⟩:=cr Uc;have⟨d,hd,iT⟩:=Cz;obtain⟨ao,bo,rfl⟩:=hF.2.1.len;have bt:=hR.le;have HH:=c_ h hF bb;go_in;go_wp;go_loopw [5,6] (λfv iv wr=>∃k:Nat,iv= int i64 k/\k<=l.length/\wr.ownsRow w.heap.size 301 2 fv (zU ol m.s trg k).length (iJ ol (zU ol m.s trg k))/\Kp bA w wr) (λ_ iv _=>l.length-(intOf iv).toNat)
 case atStart=>exact⟨0,rfl,aA _,cd _ _ _ _,Kp.refl _ _⟩
 case round=>
  obtain⟨k,rfl,hk,ho,KW⟩:=hrel;have hr:=HH.1.aB KW (λx=>x);have iq:=HH.2.1.aw KW;have lO:lB _ _ _:=KW.at_ HH.2.2 (λx=>x);have c0:wr.cell? _=some (pointer (some ⟨cb,0,none⟩)):=hr.cell 0;have zc:=iq.cell;by_cases Y:k<l.length
  ·have bk:(k:Int)<l.length:=oQ;have E1:=ag (kq wr B cb l _ (k:Int) iq oQ);have aj:=WK hR hI Y;rw[<-am.2.2 k]at aj;have eK:=Qq ol m.s trg k;unfold ib at eK;rw[aj]at eK;have a8:=lA (Ch.mk l) (k:Int);rw[eu]at a8;generalize dZ (Ch.mk l) (k:Int)=ks at*;have X:=Ie (ol:=ol) (s:=m.s) (trg:=trg) k 0 [] (by intro n hn;cases hn);have R:=bw eK (show Ae ol (zU ol m.s trg k)from X.1);have br:(zU ol m.s trg k).length<=k:=by have:=X.2;unfold zU;simpa using this
   generalize zU ol m.s trg k=D at*;have HW:=rP hr iq lO ho KW;go_wp;refine fu E1 ?_;rintro y w2 ⟨u,rfl,hu,K2⟩;obtain⟨ua,uc,rfl⟩:=bp hu;have h2:=HW.1.aB K2 (λx=>x);have a2:=HW.2.1.aw K2;have WD:lB _ _ _:=K2.at_ HW.2.2.1 (λx=>x);have Z:=K2.owns HW.2.2.2.1 (λ_ _ x=>x);have Zg:=HW.2.2.2.2.trans K2;have c1:w2.cell? _=some (slice (some ⟨g,0,none⟩) l.length l.length):=h2.cell 1;have DC:=WD.cell (k:=k) (by have:=am.1;omega);cases qo:jC on k with
   |false=>
    have U:=ag (show zU ol m.s trg (k+1)=D by rw[R.1,qo];rfl);rw[qo]at DC;have Q:=bw Z Zg;go_wp2;exact⟨⟨k+1,eb,oQ,by rw[U];exact Q.1,Q.2⟩,ew⟩
   |true=>?_
   rw[qo]at DC;by_cases ad:ks.length=0
   ·have aO:¬(0:Int)<ks.length:=oQ;have eK:=R.1;rw[qo,show(ks.length==0)=true by simpa using ad]at eK;simp only[Bool.and_self,fC]at eK;have E2:=ag (Mx w2 B xb cb g pv m l _ ol k trg h2 a2 hR Y);have a3:=vz ol m.s trg ((k:Int)+2).toNat k;have Q:=fM eK R.2 Z Zg;generalize ab:dX ol m.s k trg=E at*;obtain⟨A,I,hA⟩:∃A I:Int,Zh ol E= #[int i64 A,int i64 I]:=by
     unfold Zh;split
     ·exact⟨_,_,rfl⟩
     exact⟨_,_,rfl⟩
    rw[hA]at E2;have HA:=ag hA;go_wp21;refine fu E2 ?_;rintro y w3 ⟨rfl,K3⟩;have K4:Kp _ _ (w3.alloc (cells #[int i64 A,int i64 I] 301)):=K3.alloc _;have a4:=ak w3 (cells #[int i64 A,int i64 I] 301);go_upto_region 8 with fail;generalize w3.alloc (cells #[int i64 A,int i64 I] 301)=w4 at*;generalize w3.heap.size=mb at*;have ba:=K4.owns Q.2.2.1 (λ_ _ x=>x);have Dj:=Q.2.2.2.trans K4;have aS:∀(e:Nat) (F:Int),D[e]? =some F->(if(iG ol F.toNat==A&&((G9 ol F.toNat:Nat):Int)==I)then false else(E != -2)&& !((D.take e).any (· ==E)))=((E != -2)&& !((D.take (e+1)).any (· ==E))):=by
     intro e F J;have bc:(D.take (e+1)).any (· ==E)=((D.take e).any (· ==E)||F==E):=by
      rw[iA,J,List.any_append];simp
     rw[bc];by_cases c:E= -2
     ·subst c;have:((-2:Int)!= -2)=false:=rfl;rw[this];simp
     rw[(cX c:(E != -2)=true)];obtain⟨t,ht,be⟩:∃t:Nat,E=t/\t<ol.dF.length:=by
      rcases a3 with e2|⟨t,e2,e3⟩
      ·exact absurd (ab▸e2) c
      exact⟨t,by rw[<-ab];exact e2,e3⟩
     have X:=Q.2.1 F (aP J);obtain⟨fn,a6⟩:∃fn:Nat,F=fn:=⟨F.toNat,oQ⟩
     have O:=HA.out;rw[ht]at O;unfold Zh at O;rw[show((t:Int)== -2)=false by simp]at O;simp only[bu,bf,dE]at O;have h0:iG ol t=A:=by
      have:=iw (λz=>z[0]?) O;simpa using this
     have h1:((G9 ol t:Nat):Int)=I:=by
      have:=iw (λz=>z[1]?) O;simpa using this
     rw[<-h0,<-h1,a6,dE,WL hR.lD oQ be,ht];cases((fn:Int)==(t:Int))<;>simp
    have HT:=ag aS;have HZ:=c_ a4 ba Dj;have⟨la,lc,Ku⟩:=bp HZ.2.1;subst Ku;go_wp;go_loopw [9,10] (λokv ev wq=>∃e:Nat,ev= int i64 e/\e<=D.length/\okv= bool ((E != -2)&& !((D.take e).any (· ==E)))/\Kp bA w4 wq) (λ_ ev _=>D.length-(intOf ev).toNat)
    case atStart=>exact⟨0,rfl,aA _,dy,Kp.refl _ _⟩
    case round=>
     obtain⟨e,rfl,he,rfl,KQ⟩:=hrel;have aa:=KQ.at_ HZ.1 (λx=>x);have G:=KQ.owns HZ.2.1 (λ_ _ x=>x);have m0:wr.cell? ⟨mb,0,none⟩=some (int i64 A):=dG aa rfl;have m1:wr.cell? ⟨mb,1,none⟩=some (int i64 I):=dG aa rfl;by_cases a5:e<D.length
     ·have bm:(e:Int)<D.length:=oQ;obtain⟨F,J⟩:∃F,D[e]? =some F:=⟨_,au a5⟩
      have⟨g2,cap2,hv2,_⟩:=cO G oQ;simp only[aH]at hv2;obtain⟨rfl,-,rfl⟩:=hv2;have⟨q0,q1⟩:=oF ol D e F J;have a0:=(bK G (e*2) oQ).trans q0;have a1:=(bK G (e*2+1) oQ).trans q1;have hN:=HT e F J;generalize ((E != -2)&& !((D.take e).any (· ==E)))=bx at*;generalize ((G9 ol F.toNat:Nat):Int)=bg at*;generalize iG ol F.toNat=bi at*;cases t1:bi==A<;>cases t2:bg==I<;>rw[t1,t2]at hN<;>
      (have HN:=ag hN
       go_wp;go_quiet (fail);go_wp2;go_roundw
       case rel=>exact⟨e+1,eb,oQ,by rw[<-HN];rfl,KQ.drewN _⟩
       case measure=>simp[intOf];omega)
     have a7:¬(e:Int)<D.length:=oQ;obtain rfl:e=D.length:=oQ;rw[gL];have eK:=Q.1;have KF:=HZ.2.2.trans KQ;have iL:=KF.size;cases qk:(E != -2)&& !(D.any (· ==E))with
     |false=>
      rw[qk]at eK;have U:=ag (eK.trans (ax dy));have HY:=bw G KF;go_wp2;exact⟨⟨k+1,eb,oQ,by rw[U];exact HY.1,HY.2⟩,ew⟩
     |true=>?_
     rw[qk]at eK;have U:=ag (eK.trans (aq rfl));have ap:=ag (show Al ol E=[int i64 A,int i64 I]by
      have a9:(E== -2)=false:=by
       have:=(fQ _ _▸qk).1;simpa using this
      have O:=HA.out;unfold Zh at O;rw[a9]at O;simp only[bu,bf]at O;have:=iw Array.toList O;exact this)
     go_wp2_with (at_builtin;refine jk (P:=prog) _ rfl (tmp 74) (tmp 76) 276 rfl w.heap.size 301 i0 (agg #[int i64 0,int i64 0]) 2 16 underlying276 hi0 hz0 hz1 hz2 rfl aV (slice la D.length lc) D.length (iJ ol D) rfl (by exact G.alloc _) ⟨wr.heap.size,0,none⟩ 1 1 [int i64 A,int i64 I] rfl rfl (by exact ox _ _ _ _) (by intro u hu;simp at hu;rcases hu with rfl|rfl<;>rfl) wY oQ il ?_);intro v' w9 o9 g9 _;have K9:=(KF.alloc (cells #[int i64 A,int i64 I] 301)).grown (by exact g9) (λj hj Y=>by have:=(G.lt j hj).1;omega);have HO:=bw o9 K9;go_wp2;go_roundw
     case rel=>
      refine⟨k+1,eb,oQ,?_,HO.2⟩;rw[U,uF,ap];have:=HO.1;simpa using this
     case measure=>exact ew
   have aO:(0:Int)<ks.length:=oQ;have U:=ag (show zU ol m.s trg (k+1)=D by rw[R.1,qo,show(ks.length==0)=false by simpa using ad];rfl);have Q:=bw Z Zg;go_wp2;exact⟨⟨k+1,eb,oQ,by rw[U];exact Q.1,Q.2⟩,ew⟩
  have a7:¬(k:Int)<l.length:=oQ;obtain rfl:k=l.length:=oQ;have aI:=ag (show Ch.find ol m.s trg=zU ol m.s trg l.length by unfold Ch.find zU;rw[hR.len]);go_wp2;go_ret;rw[aI];exact⟨_,rfl,ho,KW⟩
