import Derived.Test.YtnlbchmfcebeeaaGreatTX6
import Derived.Test.YtnlbchmfcebeeaaGreatTE7
import Derived.Deep.AppendLies
import Derived.Laws.OwnMore
import Derived.OwnWalk
set_option maxHeartbeats 12800000
set_option maxRecDepth 100000
namespace Go.Proofs.YtnlbchmfcebeeaaGreat
open Go.Proofs.Tryz Ch
open Go.RowKit
open Value(int slice bool pointer string agg tuple)
open IntKind(i64)
open Obj(cells)
open Ending(returned)
open Operand(tmp)
open Or(inl inr)
namespace Ch
def rZ(L:List RN)(i:Int)(k:Nat):List Nat:=(List.range k).filter (tH L i)
def j2(l:List Nat):List Int:=l.map λ(n:Nat)=>(n:Int)
theorem PG{L i k}(h:tH L i k=true):rZ L i (k+1)=rZ L i k++[k]:=by
 unfold rZ;rw[lT,gZ];simp[h]
theorem Cb{L i k}(h:tH L i k=false):rZ L i (k+1)=rZ L i k:=by
 unfold rZ;rw[lT,gZ];simp[h]
theorem PH L i k:(rZ L i k).length<=k:=by
 grind[rZ,tH]
theorem Ej l(k:Nat):j2 (l++[k])=j2 l++[(k:Int)]:=by simp[j2]
theorem Ta{l k x}(D:l[k]? =some x)i:tH (mk l) i k=(x.n.parent==i&&x.n.kind !=5):=by
 simp_all[tH,eC,mk]
theorem eu l:(mk l).length=l.length:=by simp[mk]
end Ch
theorem kq w B cb l v i(hF:ku w B cb l v)(hl:l.length<=1000):
 Calls prog 234 #[pointer (some ⟨cb,0,none⟩),int i64 i] w λx w'=>∃u,x=returned u/\w'.ownsRow w.heap.size 3 1 u (dZ (Ch.mk l) i).length (bO (j2 (dZ (Ch.mk l) i)))/\Kp bA w w':=by
 have⟨i0,hi,hz0,hz1,hz2⟩:=cr nI;obtain⟨ao,aa,rfl⟩:=hF.2.1.len;go_in;go_wp;go_loopw [5,6] (λfv j wr=>∃k:Nat,j= int i64 k/\k<=l.length/\wr.ownsRow w.heap.size 3 1 fv (rZ (Ch.mk l) i k).length (bO (j2 (rZ (Ch.mk l) i k)))/\Kp bA w wr) (λ_ j _=>l.length-(intOf j).toNat)
 case atStart=>exact⟨0,rfl,aA _,cd _ _ _ _,Kp.refl _ _⟩
 case round=>
  obtain⟨k,rfl,hk,F,E⟩:=hrel;have J:=hF.aw E;have zc:=J.cell;have ad:=PH (Ch.mk l) i k;by_cases I:k<l.length
  ·have X:(k:Int)<l.length:=oQ;obtain⟨x,Y⟩:∃x,l[k]? =some x:=⟨_,au I⟩
   have⟨g,cap',hv,hBg,hcell,hfr⟩:=J.2.1.form Y;simp only[aH]at hv;obtain⟨rfl,-,rfl⟩:=hv;have z2:_=some _:=hcell 2 oQ;have z1:_=some _:=hcell 1 oQ;have D:=Ta Y i;clear J hcell hfr;cases O:x.n.parent==i with
   |false=>
    rw[O]at D;have G:=ag (Cb D);clear D;go_wp2;exact⟨⟨k+1,eb,oQ,by rw[G];exact F,E⟩,ew⟩
   |true=>?_
   cases q2:x.n.kind !=5 with
   |false=>
    rw[O,q2]at D;have G:=ag (Cb D);clear D;go_wp2;exact⟨⟨k+1,eb,oQ,by rw[G];exact F,E⟩,ew⟩
   |true=>?_
   rw[O,q2]at D;have G:=ag (PG D);have iL:=E.size;clear D;go_wp2_with (at_builtin;refine jk (P:=prog) _ rfl (tmp 37) (tmp 39) 38 rfl w.heap.size 3 i0 (int i64 0) 1 8 underlying38 hi hz0 hz1 hz2 rfl aV u5 (rZ (Ch.mk l) i k).length (bO (j2 (rZ (Ch.mk l) i k))) rfl (by exact F.alloc _) ⟨wr.heap.size,0,none⟩ 1 1 [int i64 k] rfl rfl (by exact gT _ _ _) Ki wY oQ il ?_);intro v' w9 Z U _;have R:=(E.alloc (cells #[int i64 k] 3)).grown (by exact U) (λj hj I=>by have:=(F.lt j hj).1;omega);have Q:=bw Z R;clear Z U R F E zc z1 z2;go_wp2;go_roundw
   case rel=>
    refine⟨k+1,eb,oQ,?_,Q.2⟩;rw[G,Ej];have:=Q.1;simpa[bO]using this
   case measure=>exact ew
  have ab:¬(k:Int)<l.length:=oQ;obtain rfl:k=l.length:=oQ;have HR:=ag (show dZ (Ch.mk l) i=rZ (Ch.mk l) i l.length by unfold dZ rZ;rw[eu]);clear J;go_wp2;go_ret;rw[HR];exact⟨_,rfl,F,E⟩
namespace Ch
def abd(n:RN):Prop:=∀rt∈n.trans,1<=rt.text.size/\rt.text.size<=300/\0<=rt.pos/\rt.pos<=300
def YU(L:List RN):Int:=if 0<=sG L then 6 else 0
def YV(L:List RN):Int:=if 0<=sG L then sG L else 0
theorem Ek{L b c p}(h:nU c 65 90=false):iZ L b ⟨c,p⟩=b:=by
 unfold iZ;rw[show eW c=false from h];rfl
theorem El{L b c p}(h:pN L c=true):iZ L b ⟨c,p⟩=b:=by
 unfold iZ;simp only[h];simp
theorem Em{L b c p}(D:¬b<0)(E:¬p<b):iZ L b ⟨c,p⟩=b:=by
 unfold iZ;simp[D,E]
theorem wG{L b c p}(D:nU c 65 90=true)(E:pN L c=false)(F:b<0\/p<b):iZ L b ⟨c,p⟩=p:=by
 unfold iZ;rw[show eW c=true from D,E];simp_all
def tK(L:List RN)(k:Nat):Int:=((L.take k).flatMap λn=>n.trans.flatMap vJ).foldl (iZ L) (-1)
def vK(L:List RN)(n:RN)(b:Int)(k:Nat):Int:=((n.trans.take k).flatMap vJ).foldl (iZ L) b
theorem LW{L k n}(h:L[k]? =some n):tK L (k+1)=vK L n (tK L k) n.trans.length:=by
 unfold tK vK;have D:=(aM.1 h).1;have e:L[k]=n:=(aM.1 h).2;rw[vZ D,qF,qG,e,gL];simp
theorem LX{L n b k rt}(h:n.trans[k]? =some rt):vK L n b (k+1)=(vJ rt).foldl (iZ L) (vK L n b k):=by
 unfold vK;have D:=(aM.1 h).1;have e:n.trans[k]=rt:=(aM.1 h).2;rw[vZ D,qF,qG,e];simp
theorem Tb L:sG L=tK L L.length:=by grind[sG,tK,Iz]
theorem yz{L b u}(h:-1<=b/\b<=1000)(hu:0<=u.pos/\u.pos<=1000): -1<=iZ L b u/\iZ L b u<=1000:=by unfold iZ;split<;>omega
theorem Cc l k x(h:l[k]? =some x):(me l)[k*2]? =some (string x.text)/\(me l)[k*2+1]? =some (int i64 x.pos):=by
 induction l generalizing k with
 |nil=>simp_all
 |cons a l D=>?_
 grind[me]
end Ch
theorem Kp.bN{w w'}(k:Kp bA w w'){p}{v}(h:w.cell? p=some v):w'.cell? p=some v:=by
 have hb:=oP w p h;rw[<-h];exact kO (k.block _ hb (λx=>x))
def Kr(w:World)(sb:Nat)(f:Int->Bool):Prop:=∃C,w.heap[sb]? =some (cells C 294 (0,0))/\C.size=256/\∀n:Nat,n<256->C[n]? =some (bool (f n))
theorem Kr.cell{w sb f}(h:Kr w sb f)n(D:n<256):w.cell? ⟨sb,n,none⟩=some (bool (f n)):=by
 have⟨C,hC,_,hf⟩:=h;rw[nt w sb _ C _ _ hC];simp_all
theorem Kr.aw{w w' sb f}(h:Kr w sb f)(k:Kp bA w w'):Kr w' sb f:=by
 have⟨C,hC,r⟩:=h;exact⟨C,k.at_ hC (λx=>x),r⟩
theorem LY w B cb l v(Z:Array Value)(hF:ku w B cb l v)(hl:l.length<=300)(hT:∀x∈l,x.n.trans.length<=300/\abd x.n)(hs:Z.size=256)(hS:∀n:Nat,n<256->Z[n]? =some (bool (pN (Ch.mk l) n))):
 Calls prog 235 #[pointer (some ⟨cb,0,none⟩),agg Z] w λx w'=>x=returned (tuple #[int i64 (YU (Ch.mk l)),int i64 (YV (Ch.mk l))])/\Kp bA w w':=by
 have a3:Kr _ _ _:=⟨Z,ak w (cells Z 294),hs,hS⟩
 have K1:=kG w (cells Z 294);obtain⟨ao,bo,rfl⟩:=hF.2.1.len;go_in;go_upto_region 3 with fail;generalize w.alloc (cells Z 294)=w1 at*;go_loopw [6,7] (λb i wr=>∃k:Nat,i= int i64 k/\k<=l.length/\b= int i64 (tK (Ch.mk l) k)/\(-1<=tK (Ch.mk l) k/\tK (Ch.mk l) k<=1000)/\Kp bA w1 wr) (λ_ i _=>l.length-(intOf i).toNat)
 case atStart=>exact⟨0,rfl,aA _,rfl,by simp[tK],Kp.refl _ _⟩
 case round=>
  obtain⟨k,rfl,hk,rfl,a5,Y⟩:=hrel;have iq:=(hF.aw K1).aw Y;have zc:=iq.cell;by_cases a7:k<l.length
  ·have bb:(k:Int)<l.length:=oQ;obtain⟨x,hx⟩:∃x,l[k]? =some x:=⟨_,au a7⟩
   have ap:=aP hx;have⟨g,cap',hv,hBg,hcell,hfr⟩:=iq.2.1.form hx;simp only[aH]at hv;obtain⟨rfl,-,rfl⟩:=hv;have⟨RV,hTb⟩:=hT x ap;have HB:=ag (LW (by unfold Ch.mk;rw[bD,hx];rfl:(Ch.mk l)[k]? =some x.n));generalize bt:tK (Ch.mk l) k=bk at*;have zt:_=some _:=hcell 6 oQ;have F:=iq.2.1.kZ x ap;have⟨ta,YC,PI⟩:=bp F;have HX:=c_ F iq Y;have aj:∀j,-1<=vK (Ch.mk l) x.n bk j/\vK (Ch.mk l) x.n bk j<=1000:=by
    intro j;unfold vK;have:∀(m:List RT) (b:Int),(∀rt∈m,0<=rt.pos/\rt.pos<=300/\1<=rt.text.size/\rt.text.size<=300)-> -1<=b/\b<=1000-> -1<=(m.flatMap vJ).foldl (iZ (Ch.mk l)) b/\(m.flatMap vJ).foldl (iZ (Ch.mk l)) b<=1000:=by
     intro m;induction m with
     |nil=>intro b _ h;exact h
     |cons a m ih=>?_
     intro b hm hb;have ha:=hm a dy;rw[qw,qG];refine ih _ (λrt hr=>hm rt (by simp[hr])) ?_;simp only[vJ,List.foldl_cons,List.foldl_nil];exact yz (yz hb ⟨by simp only;omega,by simp only;omega⟩) ⟨by simp only;omega,by simp only;omega⟩
    exact this _ _ (λrt hr=>by have:=hTb rt (List.mem_of_mem_take hr);omega) a5
   go_wp;go_loopw [6,8] (λb j wq=>∃m:Nat,j= int i64 m/\m<=x.n.trans.length/\b= int i64 (vK (Ch.mk l) x.n bk m)/\Kp bA wr wq) (λ_ j _=>x.n.trans.length-(intOf j).toNat)
   case atStart=>exact⟨0,rfl,aA _,by simp[vK],Kp.refl _ _⟩
   case round=>
    obtain⟨m,rfl,hm,rfl,X⟩:=hrel;have⟨F,iq,Y⟩:=HX;have b3:=(iq.aw X).cell;have ba:=Kp.bN X zt;by_cases aO:m<x.n.trans.length
    ·have bg:(m:Int)<x.n.trans.length:=oQ;obtain⟨rt,Cd⟩:∃rt,x.n.trans[m]? =some rt:=⟨_,au aO⟩
     have b0:=hTb rt (aP Cd);have⟨tg,agx,Wi⟩:=jn F oQ;rw[Wi]at PI ba zt;simp only[aH]at PI;obtain⟨rfl,-,rfl⟩:=PI;have G:=X.owns F (λ_ _ x=>x);rw[Wi]at G;have a0:=(G.cellAt (m*2) oQ).trans (Cc _ m rt Cd).1;have a1:=(G.cellAt (m*2+1) oQ).trans (Cc _ m rt Cd).2;have a9:=((ag a3).aw (Y.trans X))
     have a6:=aj m;have aI:=ag (LX (L:=Ch.mk l) (b:=bk) Cd);generalize vK (Ch.mk l) x.n bk m=J at*;have K5:Kp bA wr ((wr.alloc (cells #[string rt.text,int i64 rt.pos] 292)).alloc (cells #[int i64 0,int i64 ((rt.text.size:Int)-1)] 3)):=((Kp.refl _ _).alloc _).alloc _;have ad:=(((Kp.refl bA _).alloc (cells #[int i64 0,int i64 ((rt.text.size:Int)-1)] 3)).at_ (ak wr (cells #[string rt.text,int i64 rt.pos] 292)) (λx=>x))
     have aa:=ak (wr.alloc (cells #[string rt.text,int i64 rt.pos] 292)) (cells #[int i64 0,int i64 ((rt.text.size:Int)-1)] 3);have am:=a9.aw K5;have iL:(wr.alloc (cells #[string rt.text,int i64 rt.pos] 292)).heap.size=wr.heap.size+1:=dy;rw[iL]at aa;go_upto_region 11 with fail;generalize (wr.alloc (cells #[string rt.text,int i64 rt.pos] 292)).alloc (cells #[int i64 0,int i64 ((rt.text.size:Int)-1)] 3)=w5 at*;have c0:w5.cell? ⟨wr.heap.size,0,none⟩=some (string rt.text):=dG ad rfl;have c1:w5.cell? ⟨wr.heap.size,1,none⟩=some (int i64 rt.pos):=dG ad rfl;have d0:w5.cell? ⟨wr.heap.size+1,0,none⟩=some (int i64 0):=dG aa rfl;have d1:w5.cell? ⟨wr.heap.size+1,1,none⟩=some (int i64 ((rt.text.size:Int)-1)):=dG aa rfl;generalize wr.heap.size=tb at*;have a4:=yz (L:=Ch.mk l) (b:=J) (u:=⟨af rt.text 0,rt.pos⟩) a6 ⟨by simp only;omega,by simp only;omega⟩;have br:=yz (L:=Ch.mk l) (u:=⟨af rt.text (rt.text.size-1),rt.pos+((rt.text.size:Int)-1)⟩) a4 ⟨by simp only;omega,by simp only;omega⟩;have HC:=ag (show(vJ rt).foldl (iZ (Ch.mk l)) J=iZ (Ch.mk l) (iZ (Ch.mk l) J ⟨af rt.text 0,rt.pos⟩) ⟨af rt.text (rt.text.size-1),rt.pos+((rt.text.size:Int)-1)⟩from rfl);have HY:=c_ Y X K5;have bc:=ag (show iZ (Ch.mk l) J ⟨af rt.text 0,rt.pos⟩=iZ (Ch.mk l) J ⟨af rt.text 0,rt.pos⟩from rfl);generalize aS:iZ (Ch.mk l) J ⟨af rt.text 0,rt.pos⟩=I at*;have O:=ag aS;have be:=ag (show iZ (Ch.mk l) I ⟨af rt.text (rt.text.size-1),rt.pos+((rt.text.size:Int)-1)⟩=iZ (Ch.mk l) I ⟨af rt.text (rt.text.size-1),rt.pos+((rt.text.size:Int)-1)⟩from rfl);generalize a2:iZ (Ch.mk l) I ⟨af rt.text (rt.text.size-1),rt.pos+((rt.text.size:Int)-1)⟩=b2 at*;have Q:=ag a2;go_loop [6,55] (λb i=>∃q:Nat,i= int i64 q/\q<=2/\b= int i64 (if q=0 then J else if q=1 then I else b2)) (λ_ i=>2-(intOf i).toNat)
     case atStart=>exact⟨0,rfl,oQ,rfl⟩
     case round=>
      obtain⟨q,rfl,hq,rfl⟩:=hrel;obtain rfl|rfl|rfl:q=0\/q=1\/q=2:=oQ
      ·simp only[aQ];have ab:0<rt.text.size:=oQ;obtain⟨n,hn⟩:∃n:Nat,(rt.text[0]'ab).toNat=n:=⟨_,rfl⟩
       have En:n<256:=by rw[<-hn];exact(rt.text[0]'ab).toNat_lt
       have a8:(n:Int)<256:=oQ;have zs:=am.cell n En;have hu:Hid (af rt.text (0)=(n:Int)):=ag (by rw[ry ab,hn]);have E:=ag (qg w5 (n:Int) 65 90);cases R:nU (n:Int) 65 90 with
       |false=>
        rw[R]at E;go_wp;refine b9 E ?_;intro U D;rw[D];go_wp2;exact⟨⟨1,rfl,oQ,by rw[(ag (show I=J by rw[<-O,hu];exact Ek R))];rfl⟩,by simp[intOf]⟩
       |true=>?_
       rw[R]at E;cases q2:pN (Ch.mk l) (n:Int)with
       |true=>
        go_wp;refine b9 E ?_;intro U D;rw[D];go_wp2;exact⟨⟨1,rfl,oQ,by rw[(ag (show I=J by rw[<-O,hu];exact El q2))];rfl⟩,by simp[intOf]⟩
       |false=>?_
       by_cases h3:J<0
       ·go_wp;refine b9 E ?_;intro U D;rw[D];go_wp2;exact⟨⟨1,rfl,oQ,by rw[(ag (show I=rt.pos by rw[<-O,hu];exact wG R q2 (inl h3)))];rfl⟩,by simp[intOf]⟩
       by_cases h4:rt.pos<J
       ·go_wp;refine b9 E ?_;intro U D;rw[D];go_wp2;exact⟨⟨1,rfl,oQ,by rw[(ag (show I=rt.pos by rw[<-O,hu];exact wG R q2 (inr h4))).out];rfl⟩,by simp[intOf]⟩
       have HV:=ag (show I=J by rw[<-O,hu];exact Em h3 h4);go_wp;refine b9 E ?_;intro U D;rw[D];go_wp2;exact⟨⟨1,rfl,oQ,by rw[HV];rfl⟩,by simp[intOf]⟩
      ·simp only[aQ,show((1:Nat)=0)=False by simp,bf];have ab:rt.text.size-1<rt.text.size:=oQ;obtain⟨n,hn⟩:∃n:Nat,(rt.text[rt.text.size-1]'ab).toNat=n:=⟨_,rfl⟩
       have En:n<256:=by rw[<-hn];exact(rt.text[rt.text.size-1]'ab).toNat_lt
       have a8:(n:Int)<256:=oQ;have zs:=am.cell n En;have hu:Hid (af rt.text (rt.text.size-1)=(n:Int)):=ag (by rw[ry ab,hn]);have E:=ag (qg w5 (n:Int) 65 90);cases R:nU (n:Int) 65 90 with
       |false=>
        rw[R]at E;go_wp;refine b9 E ?_;intro U D;rw[D];go_wp2;exact⟨⟨2,rfl,oQ,by rw[(ag (show b2=I by rw[<-Q,hu];exact Ek R))];rfl⟩,by simp[intOf]⟩
       |true=>?_
       rw[R]at E;cases q2:pN (Ch.mk l) (n:Int)with
       |true=>
        go_wp;refine b9 E ?_;intro U D;rw[D];go_wp2;exact⟨⟨2,rfl,oQ,by rw[(ag (show b2=I by rw[<-Q,hu];exact El q2))];rfl⟩,by simp[intOf]⟩
       |false=>?_
       by_cases h3:I<0
       ·go_wp;refine b9 E ?_;intro U D;rw[D];go_wp2;exact⟨⟨2,rfl,oQ,by rw[(ag (show b2=(rt.pos+((rt.text.size:Int)-1))by rw[<-Q,hu];exact wG R q2 (inl h3)))];rfl⟩,by simp[intOf]⟩
       by_cases h4:(rt.pos+((rt.text.size:Int)-1))<I
       ·go_wp;refine b9 E ?_;intro U D;rw[D];go_wp2;exact⟨⟨2,rfl,oQ,by rw[(ag (show b2=(rt.pos+((rt.text.size:Int)-1))by rw[<-Q,hu];exact wG R q2 (inr h4)))];rfl⟩,by simp[intOf]⟩
       have HV:=ag (show b2=I by rw[<-Q,hu];exact Em h3 h4);go_wp;refine b9 E ?_;intro U D;rw[D];go_wp2;exact⟨⟨2,rfl,oQ,by rw[HV];rfl⟩,by simp[intOf]⟩
      simp only[show((2:Nat)=0)=False by simp,show((2:Nat)=1)=False by simp,bf];go_wp2;go_roundw
      case rel=>
       have⟨Y,X,K5⟩:=HY;refine⟨m+1,eb,oQ,?_,X.trans K5⟩;rw[aI,HC]
      case measure=>exact ew
    have bi:¬(m:Int)<x.n.trans.length:=oQ;obtain rfl:m=x.n.trans.length:=oQ;go_wp2;exact⟨⟨k+1,eb,oQ,by rw[HB],by rw[HB];exact aj x.n.trans.length,HX.2.2.trans X⟩,ew⟩
  have bx:¬(k:Int)<l.length:=oQ;obtain rfl:k=l.length:=oQ;have hR:sG (Ch.mk l)=tK (Ch.mk l) l.length:=by rw[Tb,eu]
  have K2:=K1.trans Y;by_cases h0:0<=tK (Ch.mk l) l.length
  ·go_wp2;go_ret2;rw[(ag (show YU (Ch.mk l)=6 by unfold YU;rw[hR,aq h0])),(ag (show YV (Ch.mk l)=tK (Ch.mk l) l.length by unfold YV;rw[hR,aq h0]))];exact⟨rfl,K2⟩
  have e1:=ag (show YU (Ch.mk l)=0 by unfold YU;rw[hR,ax h0]);have e2:=ag (show YV (Ch.mk l)=0 by unfold YV;rw[hR,ax h0]);go_wp2;go_ret2;rw[e1,e2];exact⟨rfl,K2⟩
namespace Ch
def fE(L:List RN):Int:=(sJ L).1
def fP(L:List RN):Int:=(sJ L).2
theorem IF{n k q}(hk:k<n)(h:q k=true)(hb:∀j,j<k->q j=false):(List.range n).find? q=some k:=by
 simp_all
theorem PJ{n q}(hb:∀j,j<n->q j=false):(List.range n).find? q=none:=by
 simp_all
theorem IG{L}(h:16<L.length):fE L=3/\fP L=(eE L 16).pos:=by grind[fE,fP,sJ]
theorem Gk{L}(h:¬ 16<L.length){k}(hk:k<L.length)(D:u_ L k=true)(hb:∀j,j<k->u_ L j=false):fE L=4/\fP L=(eE L k).pos:=by
 unfold fE fP sJ;rw[ax h,IF hk D hb];simp_all
theorem Gl{L}(h:¬ 16<L.length)(E:∀j,j<L.length->u_ L j=false){k}(hk:k<L.length)(D:wV L k=true)(hb:∀j,j<k->wV L j=false):fE L=5/\fP L=(eE L k).pos:=by
 unfold fE fP sJ;rw[ax h,PJ E];simp only;rw[IF hk D hb];simp_all
theorem Gm{L}(h:¬ 16<L.length)(D:∀j,j<L.length->u_ L j=false)(hb:∀j,j<L.length->wV L j=false):fE L=YU L/\fP L=YV L:=by
 unfold fE fP sJ YU YV;grind
def uQ(L:List RN)(k:Nat)(b:Int):Bool:=(L.take k).any λm=>m.name==b
theorem Wj{L k n}(h:eE L k=n):wV L k=if n.kind==5||n.kind==4 then(eE L n.parent.toNat).kind==3 else(n.kind==3||n.kind==2)&&(dZ L (k:Int)).length==0:=by
 subst h;rfl
theorem PK L b:uQ L L.length b=pN L b:=by grind[uQ,pN]
theorem LZ{L n}(h:L.length=n)b:uQ L n b=pN L b:=by subst h;exact PK L b
theorem L0{L k n}(h:L[k]? =some n)b:uQ L (k+1) b=(uQ L k b||n.name==b):=by
 have D:=(aM.1 h).1;have e:L[k]=n:=(aM.1 h).2;unfold uQ;rw[vZ D,List.any_append,e];simp
theorem Tc{L k n}(h:L[k]? =some n):u_ L k=uQ L k n.name:=by unfold u_ uQ;rw[eC h]
end Ch
theorem Kr.set{w sb f f'}(h:Kr w sb f){n:Nat}(E:n<256)(D:∀m:Nat,m<256->f' m=(f m||(n:Int)==(m:Int))):Kr (w.setCell ⟨sb,n,none⟩ (bool true)) sb f':=by
 have⟨C,hC,hs,hg⟩:=h;refine⟨_,ar _ hC,by simp[hs],λm hm=>?_⟩;rw[D m hm];by_cases e:n=m
 ·subst e;rw[qC oQ];simp
 rw[n5 e,hg m hm];have:((n:Int)==(m:Int))=false:=il;rw[this,Bool.or_false]
theorem Kr.aB{S w w' sb f}(h:Kr w sb f)(k:Kp S w w')(hs:¬S sb):Kr w' sb f:=by
 have⟨C,hC,r⟩:=h;exact⟨C,k.at_ hC hs,r⟩
theorem Kr.free{w sb f}(h:Kr w sb f)o:w.frozen? ⟨sb,o,none⟩=false:=by
 have⟨C,hC,_⟩:=h;simp[World.frozen?,hC]
theorem Wl:(prog.info? 294).map (·.size)=some 256:=bZ
def YW:Array Value:=Array.replicate 256 (bool false)
theorem NX:YW=Array.replicate 256 (bool false):=by rfl
theorem abe(k:Nat)(hk:k<256):YW[k]? =some (bool false):=by
 grind[NX]
theorem PL:YW.size=256:=by rw[NX];simp
structure XK(l:List NV):Prop where
 len:l.length<=300
 nm:∀x∈l,0<=x.n.name/\x.n.name<=255
 up:∀(k:Nat) x,l[k]? =some x->(x.n.kind=4\/x.n.kind=5)->∃p:Nat,x.n.parent=p/\p<l.length
 tr:∀x∈l,x.n.trans.length<=300/\abd x.n
theorem L6 w B cb l v(hF:ku w B cb l v)(hO:XK l):
 Calls prog 195 #[pointer (some ⟨cb,0,none⟩)] w λx w'=>x=returned (tuple #[int i64 (fE (Ch.mk l)),int i64 (fP (Ch.mk l))])/\Kp bA w w':=by
 have be:=hO.len;obtain⟨ao,a7,rfl⟩:=hF.2.1.len;have zc:=hF.cell;have II:=eu l;by_cases a8:16<l.length
 ·have zb:(16:Int)<l.length:=oQ;obtain⟨x,X⟩:∃x,l[16]? =some x:=⟨_,au a8⟩
  have⟨g,cap',hv,hBg,hcell,hfr⟩:=hF.2.1.form X;simp only[aH]at hv;obtain⟨rfl,-,rfl⟩:=hv;have z3:_=some _:=hcell 3 oQ;have G:=ag (IG (L:=Ch.mk l) oQ);have U:eE (Ch.mk l) 16=x.n:=eC (by unfold Ch.mk;rw[bD,X];rfl);rw[U]at G;clear hcell hfr hF hO II;simp only[Nat.reduceMul,Nat.reduceAdd]at z3;go_in;go_wp2;go_quiet (fail);go_wp2;go_ret2;rw[G.1,G.2];exact⟨rfl,(Kp.refl _ _).drewN _⟩
 have zb:¬(16:Int)<l.length:=oQ;have aI:¬ 16<(Ch.mk l).length:=oQ;have HO:=ag hO;have HF:=ag hF;have bi:=aR hF.1;clear hO hF;go_in;go_upto_region 5 with fail;refine(λa6:∀w1:World,Kp bA w w1->Kr w1 w.heap.size (uQ (Ch.mk l) 0)->Code.wp _ _ _ _ w1=>a6 _ ((Kp.refl _ _).alloc _) ⟨_,ak w _,PL,λn hn=>abe n hn⟩) ?_;intro w1 K1 a1;have a9:=HF.aw K1;clear zc HF;generalize br:w.heap.size=sb at*;go_loopw [5] (λi wr=>∃k:Nat,i= int i64 k/\k<=l.length/\Hid (∀j,j<k->u_ (Ch.mk l) j=false)/\Kr wr sb (uQ (Ch.mk l) k)/\Kp (λi=>i=sb) w1 wr) (λi _=>l.length-(intOf i).toNat)
 case atStart=>exact⟨0,rfl,aA _,ag (λj h=>absurd h oQ),a1,Kp.refl _ _⟩
 case round=>
  obtain⟨k,rfl,hk,HD,hS,KW⟩:=hrel;have iq:ku wr B cb l (slice ao l.length a7):=a9.pO KW (λi cur T hi _ hT e=>by
   subst e;have⟨C,hC,_⟩:=a1;rw[hC]at hi;simp only[bE,eH]at hi;rcases hT with h|h|h|h<;>rw[h]at hi<;>exact absurd hi.2.1 aV)
  have zc:=iq.cell;by_cases ap:k<l.length
  ·have a3:(k:Int)<l.length:=oQ;obtain⟨x,X⟩:∃x,l[k]? =some x:=⟨_,au ap⟩
   have Y:(Ch.mk l)[k]? =some x.n:=by unfold Ch.mk;rw[bD,X];rfl
   have⟨g,cap',hv,hBg,hcell,hfr⟩:=iq.2.1.form X;simp only[aH]at hv;obtain⟨rfl,-,rfl⟩:=hv;have bo:=HO.nm x (aP X);obtain⟨n,hn⟩:∃n:Nat,x.n.name=n:=⟨x.n.name.toNat,oQ⟩
   have En:n<256:=oQ;have bm:(n:Int)<256:=oQ;have z0:wr.cell? ⟨g,k*7,none⟩=some (int .u8 n):=by rw[<-hn];exact hcell 0 oQ
   have z3:_=some _:=hcell 3 oQ;have zs:=hS.cell n En;have fs:=hS.free n;have I:=Tc Y;rw[hn]at I;have U:=eC Y;cases q:uQ (Ch.mk l) k (n:Int)with
   |true=>
    have G:=ag (Gk aI oQ (by rw[I];exact q) HD);rw[U]at G;have Z:=ag (K1.trans' KW (λi hi x=>oQ));rw[q]at zs;clear hcell hfr iq hS KW HD I hn;go_wp2;go_quiet (fail);go_wp2;go_ret2;rw[G.1,G.2];exact⟨rfl,Z.drewN _⟩
   |false=>?_
   have a5:=ag (show∀j,j<k+1->u_ (Ch.mk l) j=false from λj hj=>by
    rcases lX (lY hj)with h|h
    ·exact HD j h
    subst h;rw[I];exact q)
   have ba:=ag (hS.set En (f':=uQ (Ch.mk l) (k+1)) (λm _=>by rw[L0 Y,hn]));have Z:=ag (KW.setCell (p:=⟨sb,n,none⟩) (λ_=>rfl) (bool true));rw[q]at zs;clear hcell hfr iq hS KW HD I hn;go_wp2;exact⟨⟨k+1,eb,oQ,a5,ba,Z⟩,ew⟩
  have bk:¬(k:Int)<l.length:=oQ;obtain rfl:k=l.length:=oQ;have a0:=ag (show∀j,j<(Ch.mk l).length->u_ (Ch.mk l) j=false by rw[II];exact HD);clear HD;go_upto_region 11 with fail;have K2:=K1.trans' KW (λi hi x=>oQ);go_loopw [6] (λi wq=>∃k:Nat,i= int i64 k/\k<=l.length/\Hid (∀j,j<k->wV (Ch.mk l) j=false)/\Kp bA wr wq) (λi _=>l.length-(intOf i).toNat)
  case atStart=>exact⟨0,rfl,aA _,ag (λj h=>absurd h oQ),Kp.refl _ _⟩
  case round=>
   obtain⟨k,rfl,hk,HM,KQ⟩:=hrel;have AL:=iq.aw KQ;have bc:=AL.cell;by_cases ap:k<l.length
   ·have a3:(k:Int)<l.length:=oQ;obtain⟨x,X⟩:∃x,l[k]? =some x:=⟨_,au ap⟩
    have Y:(Ch.mk l)[k]? =some x.n:=by unfold Ch.mk;rw[bD,X];rfl
    have⟨g,cap',hv,hBg,hcell,hfr⟩:=AL.2.1.form X;simp only[aH]at hv;obtain⟨rfl,-,rfl⟩:=hv;have aS:=aP X;have z0:wr.cell? ⟨g,k*7,none⟩=some _:=hcell 0 oQ;have z1:_=some _:=hcell 1 oQ;have z2:_=some _:=hcell 2 oQ;have z3:_=some _:=hcell 3 oQ;have z4:_=some _:=hcell 4 oQ;have z5:_=some _:=hcell 5 oQ;have z6:_=some _:=hcell 6 oQ;have⟨ea,ec,hev⟩:=bp (AL.2.1.ph x aS);have⟨la,lc,hlv⟩:=bp (AL.2.1.uC x aS);have⟨ta,tc,PI⟩:=bp (AL.2.1.kZ x aS);rw[hev]at z4;rw[hlv]at z5;rw[PI]at z6;have HQ:=bw AL KQ;clear AL KQ hcell hfr zc;have K3:=kG wr (cells #[int .u8 x.n.name,int i64 x.n.kind,int i64 x.n.parent,int i64 x.n.pos,slice ea x.n.enter.length ec,slice la x.n.cU.length lc,slice ta x.n.trans.length tc] 223);have a2:=ak wr (cells #[int .u8 x.n.name,int i64 x.n.kind,int i64 x.n.parent,int i64 x.n.pos,slice ea x.n.enter.length ec,slice la x.n.cU.length lc,slice ta x.n.trans.length tc] 223);go_upto_region 14 with fail;generalize wr.alloc (cells #[int .u8 x.n.name,int i64 x.n.kind,int i64 x.n.parent,int i64 x.n.pos,slice ea x.n.enter.length ec,slice la x.n.cU.length lc,slice ta x.n.trans.length tc] 223)=w3 at*;have L7:=HQ.1.aw K3;have E:=ag (kq w3 B cb l _ (k:Int) L7 oQ);clear L7 z0 z1 z2 z3 z4 z5 z6 bc;go_wp;refine fu E ?_;rintro y w4 ⟨u,rfl,hu,K4⟩;obtain⟨ua,uc,rfl⟩:=bp hu;have Wm:=K3.trans K4;have aa:=K4.at_ a2 (λx=>x);generalize wr.heap.size=nb at*;have Ks:=HQ.1.aw Wm;have bt:=Ks.cell;have c1:w4.cell? ⟨nb,1,none⟩=some (int i64 x.n.kind):=dG aa rfl;have c2:w4.cell? ⟨nb,2,none⟩=some (int i64 x.n.parent):=dG aa rfl;have c3:w4.cell? ⟨nb,3,none⟩=some (int i64 x.n.pos):=dG aa rfl;have U:=eC Y;have Z:=ag (K2.trans (HQ.2.trans Wm));have KR:=ag (HQ.2.trans Wm);have D:=ag (λh=>Gl aI a0 (k:=k) oQ h HM);rw[U]at D;have F:=ag (show wV (Ch.mk l) k=false->∀j,j<k+1->wV (Ch.mk l) j=false from λq j hj=>by
     rcases lX (lY hj)with h|h
     ·exact HM j h
     subst h;exact q)
    have Q:=Wj U;have O:=HO.up k x X;clear E hu K3 K4 a2 aa HQ;by_cases am:x.n.kind=5
    ·have J:=am;have⟨p,hp,hpl⟩:=O oQ;obtain⟨y,hy⟩:∃y,l[p]? =some y:=⟨_,au hpl⟩
     have⟨g2,cap2,hv2,_,hcell2,_⟩:=Ks.2.1.form hy;simp only[aH,bE,ei,cA,dV]at hv2;obtain⟨rfl,rfl⟩:=hv2;have bb:_=some _:=hcell2 1 oQ;have a4:(p:Int)<l.length:=oQ;have aO:eE (Ch.mk l) p=y.n:=eC (by unfold Ch.mk;rw[bD,hy];rfl);rw[J,hp,dE,aO]at Q;rw[J]at c1;rw[hp]at c2;have R:=ag Q;clear Q hcell2 Ks O hp J am;cases q:y.n.kind==3 with
     |true=>
      have G:=ag (D (by rw[R];simpa using q));go_wp2;go_quiet (fail);go_wp2;go_quiet (fail);go_wp2;go_ret2;rw[G.1,G.2];exact⟨rfl,(Z.drewN _).drewN _⟩
     |false=>?_
     have hN:=ag (F (by rw[R];simpa using q));go_wp2;go_quiet (fail);go_wp2;exact⟨⟨k+1,eb,oQ,hN,KR.drewN _⟩,ew⟩
    by_cases aj:x.n.kind=4
    ·have J:=aj;have⟨p,hp,hpl⟩:=O oQ;obtain⟨y,hy⟩:∃y,l[p]? =some y:=⟨_,au hpl⟩
     have⟨g2,cap2,hv2,_,hcell2,_⟩:=Ks.2.1.form hy;simp only[aH,bE,ei,cA,dV]at hv2;obtain⟨rfl,rfl⟩:=hv2;have bb:_=some _:=hcell2 1 oQ;have a4:(p:Int)<l.length:=oQ;have aO:eE (Ch.mk l) p=y.n:=eC (by unfold Ch.mk;rw[bD,hy];rfl);rw[J,hp,dE,aO]at Q;rw[J]at c1;rw[hp]at c2;have R:=ag Q;clear Q hcell2 Ks O hp J aj;cases q:y.n.kind==3 with
     |true=>
      have G:=ag (D (by rw[R];simpa using q));go_wp2;go_quiet (fail);go_wp2;go_quiet (fail);go_wp2;go_ret2;rw[G.1,G.2];exact⟨rfl,(Z.drewN _).drewN _⟩
     |false=>?_
     have hN:=ag (F (by rw[R];simpa using q));go_wp2;go_quiet (fail);go_wp2;exact⟨⟨k+1,eb,oQ,hN,KR.drewN _⟩,ew⟩
    by_cases ad:x.n.kind=3
    ·rw[ad]at Q c1;have R:=ag Q;clear Q Ks O ad;by_cases q:(dZ (Ch.mk l) (k:Int)).length=0
     ·have q':((dZ (Ch.mk l) (k:Int)).length:Int)=0:=oQ;have G:=ag (D (by rw[R];simp[q]));clear q;go_wp2;go_quiet (fail);go_wp2;go_ret2;rw[G.1,G.2];exact⟨rfl,Z.drewN _⟩
     have q':(((dZ (Ch.mk l) (k:Int)).length:Int)==0)=false:=by simp;intro h;simp[h]at q
     have hN:=ag (F (by rw[R];simp at q⊢;exact q));clear q;go_wp2;exact⟨⟨k+1,eb,oQ,hN,KR⟩,ew⟩
    by_cases ab:x.n.kind=2
    ·rw[ab]at Q c1;have R:=ag Q;clear Q Ks O ab;by_cases q:(dZ (Ch.mk l) (k:Int)).length=0
     ·have q':((dZ (Ch.mk l) (k:Int)).length:Int)=0:=oQ;have G:=ag (D (by rw[R];simp[q]));clear q;go_wp2;go_quiet (fail);go_wp2;go_ret2;rw[G.1,G.2];exact⟨rfl,Z.drewN _⟩
     have q':(((dZ (Ch.mk l) (k:Int)).length:Int)==0)=false:=by simp;intro h;simp[h]at q
     have hN:=ag (F (by rw[R];simp at q⊢;exact q));clear q;go_wp2;exact⟨⟨k+1,eb,oQ,hN,KR⟩,ew⟩
    have b5:(x.n.kind==5)=false:=cX am;have b4:(x.n.kind==4)=false:=cX aj;have b3:(x.n.kind==3)=false:=cX ad;have b2:(x.n.kind==2)=false:=cX ab;rw[b5,b4,b3,b2]at Q;have R:=ag Q;have hN:=ag (F (by rw[R];rfl));clear Q Ks O am aj ad ab;go_wp2;exact⟨⟨k+1,eb,oQ,hN,KR⟩,ew⟩
   have bg:¬(k:Int)<l.length:=oQ;obtain rfl:k=l.length:=oQ;have G:=ag (Gm aI a0 (by rw[II];exact HM));have⟨C,hC,hCs,hCf⟩:=hS.aw KQ;have EN:=ag (LY wr B cb l _ C AL oQ HO.tr hCs (λn hn=>by rw[hCf n hn,LZ II]));have Z:=ag (K2.trans KQ);clear zc AL KQ hCf;go_wp2_with (refine ns rfl 294 (tmp 4) rfl sb rfl 294 C (0,0) _ hC underlying294 (by rfl) (by rw[hCs];exact Wl) ?_);refine b9 EN ?_;intro w4 K4;go_wp2;go_ret2;rw[G.1,G.2];exact⟨rfl,Z.trans K4⟩
namespace Ch
def ie(L:List RN)(b:Int):Int:=match(List.range L.length).find? (λi=>(eE L i).name==b)with|some i=>(i:Int)|none=>-1
def jC(on:List Bool)(k:Nat):Bool:=on.getD k false
def lz(L:List RN)(t:ByteArray):Nat->Nat->Int->List Bool->Option (List Bool)
 |0,_,_,on=>some on
 |f+1,k,last,on=>if ie L (af t k)<=last then none else lz L t f (k+1) (ie L (af t k)) (on.set (ie L (af t k)).toNat true)
def iY(L:List RN)(t:ByteArray):Option (List Bool):=lz L t t.size 0 (-1) (List.replicate L.length false)
def nM(L:List RN)(on:List Bool)(i:Nat):Nat:=(dZ L (i:Int)).countP (jC on)
def r_(L:List RN)(on:List Bool)(i:Nat):Bool:=
 if !jC on i then decide (0<=(eE L i).parent)
 else if(eE L i).kind==5||(decide (0<=(eE L i).parent)&& !jC on (eE L i).parent.toNat)then false
 else if(eE L i).kind==2 then nM L on i==1
 else if(eE L i).kind==3 then nM L on i==(dZ L (i:Int)).length
 else true
def d_(L:List RN):List Nat:=(List.range L.length).filter λi=>(eE L i).kind==5
def AM(L:List RN)(t:ByteArray)(h:Nat)(k:Nat):Bool:=af t k==45||(dZ L (eE L h).parent).any λj=>(eE L j).name==af t k
def AN(L:List RN)(t:ByteArray):Bool:=(d_ L).length==t.size&&(List.range (d_ L).length).all λk=>AM L t ((d_ L).getD k 0) k
def tL(t:ByteArray)(k:Nat):Bool:=if k % 2==0 then ez (af t k)else jy 49 (af t k)
def tM(t:ByteArray):Bool:=!(decide (16<t.size)||t.size % 2==1)&&(List.range t.size).all (tL t)
def rz(L:List RN)(a p tm:ByteArray)(x y z:Int):Bool:=
 match iY L a with
 |none=>false
 |some on=>(List.range L.length).all (r_ L on)&&(AN L p&&tM tm&&mj x&&mj y&&mj z)
theorem Gn{n:Nat}{q:Nat->Bool}(h:∀i,i<n->q i=false):(match(List.range n).find? q with|some i=>((i:Nat):Int)|none=>-1)= -1:=by
 grind
theorem lh L b:(ie L b= -1/\place (L.map RN.st) b= -2/\∀i,i<L.length->(eE L i).name≠b)\/∃i,i<L.length/\ie L b=i/\place (L.map RN.st) b=i/\(eE L i).name=b:=by
 unfold ie place;rcases mU b (L.map RN.st) 0 with⟨e,g⟩|⟨j,s,e1,e2,e3,I⟩
 ·left;have F:∀i,i<L.length->(eE L i).name≠b:=λi hi=>by
   rw[eC (au hi)];exact g _ (gY.2 ⟨L[i],List.getElem_mem hi,rfl⟩)
  refine⟨?_,e,F⟩;rw[Gn];intro i hi;have:=F i hi;simpa using this
 right;rw[bD,qB]at e1;obtain⟨m,hm,rfl⟩:=e1;have E:=(aM.1 hm).1;have hb:(List.range L.length).find? (λi=>(eE L i).name==b)=some j:=by
  rw[List.find?_range_eq_some];refine⟨by rw[eC hm];have G:m.name=b:=e2;simpa using G,by simpa using E,λk hk=>?_⟩;have D:k<L.length:=oQ;rw[eC (au D)];have:=I k (L[k]).st hk (by rw[bD,au D];rfl);have G:(L[k]).name≠b:=this;simpa using G
 rw[hb];exact⟨j,E,rfl,by rw[e3];simp,by rw[eC hm];exact e2⟩
def iI(n:Nat)(on l:List Bool):Prop:=on.length=n/\l.length=16/\∀k,jC on k=bit l k
theorem iI.set{n i on l}(h:iI n on l)(hi:i<n)(D:n<=16):iI n (on.set i true) (tf l (i:Int) true):=by
 have⟨h1,h2,h3⟩:=h;refine⟨by simp[h1],by show(l.set i true).length=16;simp[h2],λk=>?_⟩;show(on.set i true).getD k false=(l.set i true).getD k false;have:=h3 k;grind[jC,bit]
theorem xC{L t}(F:L.length<=16):∀ f k last on l,iI L.length on l-> -1<=last->
 (lz L t f k last on=none/\AF (L.map RN.st) t f k last l=none)\/∃D E,lz L t f k last on=some D/\AF (L.map RN.st) t f k last l=some E/\iI L.length D E:=by
 intro f;induction f with
 |zero=>intro k last on l h _;exact inr ⟨on,l,rfl,rfl,h⟩
 |succ f G=>?_
 intro k last on l h I;simp only[lz,AF];rcases lh L (af t k)with⟨e1,e2,_⟩|⟨i,hi,e1,e2,_⟩
 ·grind
 rw[e1,e2];by_cases c:(i:Int)<=last
 ·simp_all
 rw[ax c,ax c];exact G (k+1) i _ _ (h.set hi F) oQ
theorem zG{L}{i:Nat}(hi:i<L.length):bn (L.map RN.st) (i:Int)=(eE L i).kind:=by
 unfold bn;rw[iR,bD,au hi,eC (au hi)];rfl
theorem yA{L}{i:Nat}(hi:i<L.length):aW (L.map RN.st) (i:Int)=(eE L i).parent:=by
 unfold aW;rw[iR,bD,au hi,eC (au hi)];rfl
theorem Td{L on l}(h:iI L.length on l)(i:Nat):ij (L.map RN.st) l (i:Int) true=nM L on i:=by
 unfold ij th nM dZ;rw[List.countP_filter,fN];apply List.countP_congr;intro j E;have D:j<L.length:=cX E;unfold wS;rw[k_ D];have e:has l (j:Int)=jC on j:=(h.2.2 j).symm;rw[e];cases jC on j<;>cases tH L (i:Int) j<;>simp
theorem IJ(l:List Nat)p:l.countP p+l.countP (λj=>!p j)=l.length:=by
 induction l with
 |nil=>rfl
 |cons a l D=>simp only[List.countP_cons,e_];cases p a<;>simp<;>omega
theorem PN{L on l}(h:iI L.length on l)(i:Nat):ij (L.map RN.st) l (i:Int) false+nM L on i=(dZ L (i:Int)).length:=by
 rw[<-IJ (dZ L (i:Int)) (jC on),Nat.add_comm];unfold nM;congr 1;unfold ij th dZ;rw[List.countP_filter,fN];apply List.countP_congr;intro j E;have D:j<L.length:=cX E;unfold wS;rw[k_ D];have e:has l (j:Int)=jC on j:=(h.2.2 j).symm;rw[e];cases jC on j<;>cases tH L (i:Int) j<;>simp
theorem NY{L r}(G:NR L r){on}{l}(h:iI L.length on l){i}(hi:i<L.length):fits (L.map RN.st) l (i:Int)=r_ L on i:=by
 have hw:=G.wf i _ (au hi);rw[<-eC (au hi)]at hw;unfold fits r_;rw[zG hi,yA hi];have e:has l (i:Int)=jC on i:=(h.2.2 i).symm;rw[e,Td h];have E:=PN h i;generalize eE L i=n at*;have D:has l n.parent=(decide (0<=n.parent)&&jC on n.parent.toNat):=by
  by_cases c:0<=n.parent
  ·obtain⟨p,D⟩:∃p:Nat,n.parent=p:=⟨n.parent.toNat,oQ⟩
   rw[D];simp only[dE];have:has l (p:Int)=jC on p:=(h.2.2 p).symm;rw[this];simp
  have:n.parent= -1:=oQ;rw[this];rfl
 rw[D];have hm:(n.parent != -1)=decide (0<=n.parent):=by
  by_cases c:0<=n.parent
  ·rw[gf c];simp;omega
  rw[fB c];simp;omega
 rw[hm];cases J:jC on i with
 |false=>simp
 |true=>?_
 simp only[Bool.not_true,bu,bf,aQ];cases c1:decide (0<=n.parent)&& !jC on n.parent.toNat with
 |true=>
  have:(decide (0<=n.parent)&& !(decide (0<=n.parent)&&jC on n.parent.toNat))=true:=by
   simp at c1⊢;exact⟨c1.1,inr c1.2⟩
  rw[this];simp
 |false=>?_
 have:(decide (0<=n.parent)&& !(decide (0<=n.parent)&&jC on n.parent.toNat))=false:=by
  cases I:decide (0<=n.parent)with
  |false=>rfl
  |true=>rw[I]at c1;simpa using c1
 rw[this];simp only[bu,bf,Bool.or_false];cases c5:n.kind==5 with
 |true=>
  have F:n.kind=5:=cX c5;rw[F];rfl
 |false=>?_
 simp only[bu,bf];cases c2:n.kind==2 with
 |true=>simp only[aQ];rw[mE];simp;omega
 |false=>?_
 simp only[bu,bf];cases c3:n.kind==3 with
 |true=>
  simp only[aQ];rw[mE];simp;omega
 |false=>simp
def rA(ss:List St)(a m:Nat):Nat:=(List.range' a m).countP (fZ ss)
theorem wH ss a m:rA ss a (m+1)=(if fZ ss a then 1 else 0)+rA ss (a+1) m:=by
 unfold rA;rw[nu,List.countP_cons];omega
theorem Te ss t:∀ f k n l,
 (wo ss t f k n l=none/\∃j,k<=j/\j<k+f/\fZ ss j=true/\(t.size<=n+rA ss k (j-k)\/jz ss (j:Int) (af t (n+rA ss k (j-k)))=false))\/
 (∃F,wo ss t f k n l=some (F,n+rA ss k f)/\∀j,k<=j->j<k+f->fZ ss j=true->n+rA ss k (j-k)<t.size/\jz ss (j:Int) (af t (n+rA ss k (j-k)))=true):=by
 intro f;induction f with
 |zero=>intro k n l;exact inr ⟨l,by simp[wo,rA],λj G I=>oQ⟩
 |succ f Q=>?_
 intro k n l;simp only[wo];cases hk:fZ ss k with
 |false=>
  simp only[bu,bf];have E:∀j,k<j->rA ss k (j-k)=rA ss (k+1) (j-(k+1)):=by
   intro j U;rw[show j-k=(j-(k+1))+1 by omega,wH,hk];simp
  rcases Q (k+1) n l with⟨e,j,G,I,D,J⟩|⟨F,e,g⟩
  ·exact inl ⟨e,j,oQ,oQ,D,by rw[E j oQ];exact J⟩
  refine inr ⟨F,by rw[e,wH,hk];simp,λj G I D=>?_⟩;by_cases c:k=j
  ·subst c;rw[hk]at D;cases D
  rw[E j oQ];exact g j oQ oQ D
 |true=>?_
 simp only[aQ];have O:rA ss k (k-k)=0:=by simp[rA]
 have E:∀j,k<j->n+rA ss k (j-k)=(n+1)+rA ss (k+1) (j-(k+1)):=by
  intro j U;rw[show j-k=(j-(k+1))+1 by omega,wH,hk];simp;omega
 by_cases c:(decide (t.size<=n)|| !jz ss (k:Int) (af t n))=true
 ·rw[aq c];refine inl ⟨rfl,k,aC _,oQ,hk,?_⟩;rw[O,kS];simpa using c
 rw[ax c];have R:n<t.size/\jz ss (k:Int) (af t n)=true:=cX c;rcases Q (k+1) (n+1) (l.set k (af t n))with⟨e,j,G,I,D,J⟩|⟨F,e,g⟩
 ·exact inl ⟨e,j,oQ,oQ,D,by rw[E j oQ];exact J⟩
 refine inr ⟨F,by rw[e,wH,hk];simp;omega,λj G I D=>?_⟩;by_cases c2:k=j
 ·subst c2;rw[O,kS];exact R
 rw[E j oQ];exact g j oQ oQ D
theorem yB{L i}(hi:i<L.length):fZ (L.map RN.st) i=((eE L i).kind==5):=by
 unfold fZ;rw[bD,au hi,eC (au hi)];rfl
theorem PO L:(d_ L).length=rA (L.map RN.st) 0 L.length:=by
 unfold d_ rA;rw[<-List.countP_eq_length_filter,jm];apply List.countP_congr;intro i hi;rw[yB (by simp at hi;omega)]
theorem zH{L j}(D:j<L.length)(h:fZ (L.map RN.st) j=true):(d_ L)[rA (L.map RN.st) 0 j]? =some j:=by
 unfold d_;have e:List.range L.length=List.range j++(j::List.range' (j+1) (L.length-(j+1))):=by
  rw[jm,jm,show L.length=j+(L.length-j)by omega,<-List.range'_append_1,eG];rw[show j+(L.length-j)-(j+1)=L.length-j-1 by omega];rw[show L.length-j=(L.length-j-1)+1 by omega,nu];simp
 rw[e,gZ,j9];rw[yB D]at h;rw[aq h];have E:(List.filter (λi=>(eE L i).kind==5) (List.range j)).length=rA (L.map RN.st) 0 j:=by
  unfold rA;rw[<-List.countP_eq_length_filter,jm];apply List.countP_congr;intro i hi;rw[yB (by simp at hi;omega)]
 rw[<-E,iy (aC _),n_];rfl
def Tf(L:List RN):Prop:=∀i j,i<L.length->j<L.length->(eE L i).name=(eE L j).name->i=j
theorem NZ{L}(hu:Tf L){j}(Q:j<L.length)c:jz (L.map RN.st) (j:Int) c=(c==45||(dZ L (eE L j).parent).any λi=>(eE L i).name==c):=by
 unfold jz;rw[yA Q];cases R:c==45 with
 |true=>simp
 |false=>?_
 simp only[bu,bf,Bool.false_or];rcases lh L c with⟨_,e2,I⟩|⟨i,hi,_,e2,E⟩
 ·rw[e2];have O:bq (L.map RN.st) (-2) (eE L j).parent=false:=rfl;rw[O];symm;rw[List.any_eq_false];intro i hi;unfold dZ at hi;rw[fR]at hi;have:=I i (cX hi.1);simpa using this
 rw[e2,k_ hi];rw[mE,mC];constructor
 ·intro h;exact⟨i,by unfold dZ;rw[fR];exact⟨by simpa using hi,h⟩,by simpa using E⟩
 rintro⟨J,D,G⟩;unfold dZ at D;rw[fR]at D;have F:(eE L J).name=c:=cX G;have:=hu J i (cX D.1) hi (by rw[F,E]);subst this;exact D.2
theorem N0{L j}(D:j<L.length)(h:fZ (L.map RN.st) j=true):rA (L.map RN.st) 0 j<(d_ L).length:=
 (aM.1 (zH D h)).1
theorem YX{L}(hu:Tf L)(aa:L.length<=16)t:(cK (L.map RN.st) t).2=AN L t:=by
 unfold cK AN;rw[fN,show min L.length 16=L.length by omega];rcases Te (L.map RN.st) t L.length 0 0 (eN (L.map RN.st))with⟨e,j,_,O,Z,F⟩|⟨l',e,g⟩
 ·rw[e];simp only;symm;rw[eG]at O F;rw[Nat.sub_zero]at F;have X:=N0 O Z;by_cases c:(d_ L).length=t.size
  ·have I:((d_ L).length==t.size)=true:=cX c;rw[I,fC,List.all_eq_false];refine⟨rA (L.map RN.st) 0 j,by simpa using X,?_⟩;rcases F with F|F
   ·omega
   rw[NZ hu O]at F;unfold AM;rw[iO,zH O Z];simpa using F
  have I:((d_ L).length==t.size)=false:=cX c;rw[I,mF]
 rw[e];simp only[eG];rw[<-PO];by_cases c:(d_ L).length=t.size
 ·have Q:(((d_ L).length:Int)!=(t.size:Int))=false:=il;have I:((d_ L).length==t.size)=true:=cX c;rw[Q,I,fC];simp only[bu,bf];symm;rw[kU];intro k hk;have J:k<(d_ L).length:=cX hk;have R:(d_ L)[k]? =some (d_ L)[k]:=au J;have hm:(d_ L)[k]∈d_ L:=List.getElem_mem J;generalize (d_ L)[k]=j at hm R;have E:=hm;unfold d_ at E;rw[fR]at E;have D:j<L.length:=cX E.1;have G:fZ (L.map RN.st) j=true:=by rw[yB D];exact E.2
  have Y:=zH D G;have nP:(d_ L).Nodup:=by unfold d_;exact qH _ List.nodup_range
  have U:rA (L.map RN.st) 0 j=k:=(List.getElem?_inj (N0 D G) nP).1 (Y.trans R.symm);have:=(g j (aA _) oQ G).2;rw[Nat.sub_zero,U,eG,NZ hu D]at this;unfold AM;rw[iO,R];exact this
 have Q:(((d_ L).length:Int)!=(t.size:Int))=true:=il;have I:((d_ L).length==t.size)=false:=cX c;rw[Q,I,mF];simp
theorem Tg t:∀ f k,t.size<=k+f->k % 2=0->t.size % 2=0->Hs t f k=(List.range' k (t.size-k)).all (tL t):=by
 intro f;induction f using Nat.strongRecOn with
 |ind f D=>?_
 intro k E F G;match f,D with
 |0,_=>
  have:t.size-k=0:=oQ;rw[this];rfl
 |f+1,D=>
  simp only[Hs];by_cases c:k+1<t.size
  ·rw[aq c];have e:t.size-k=(t.size-(k+2))+1+1:=oQ;rw[e,nu,nu,List.all_cons,List.all_cons];grind[tL,ez,af,jy]
  grind
theorem N1 t:mJ t=tM t:=by
 grind[mJ,tM,hm,Tg]
theorem N2 n:iI n (List.replicate n false) eX:=by
 refine⟨dy,by simp[eX],λk=>?_⟩;grind[jC,bit,eX]
theorem Th{L r}(U:NR L r)(hu:Tf L)(D:L.length<=16)a p tm x y z:(take (L.map RN.st) a p tm x y z).1=rz L a p tm x y z:=by
 have Y:(db (L.map RN.st) a).2=match iY L a with|none=>false|some on=>(List.range L.length).all (r_ L on):=by
  unfold db oJ iY;rcases xC (t:=a) D a.size 0 (-1) _ _ (N2 L.length) oQ with⟨e1,e2⟩|⟨on,l,e1,e2,hs⟩
  ·rw[e1,e2]
  rw[e1,e2];simp only;have:allFit (L.map RN.st) l (L.map RN.st).length=(List.range L.length).all (r_ L on):=by
   unfold allFit;rw[fN,mE,kU,kU];constructor
   ·intro h i hi;rw[<-NY U hs (cX hi)];exact h i hi
   intro h i hi;rw[NY U hs (cX hi)];exact h i hi
  rw[this];cases(List.range L.length).all (r_ L on)<;>rfl
 unfold take rz;rw[Y,YX hu D,N1];cases iY L a with
 |none=>rfl
 |some on=>?_
 have R:∀(E F G I J O:Bool) (X Q:Sd),(if E=true then if F=true then if(G&&I&&J&&O)=true then(true,X)else(false,Q)else(false,Q)else(false,Q)).1=(E&&(F&&G&&I&&J&&O)):=by
  intro E F G I J O X Q;cases E<;>cases F<;>cases G<;>cases I<;>cases J<;>cases O<;>rfl
 exact R _ _ _ _ _ _ _ _
theorem Wn{L}(h:∀j,j<L.length->u_ L j=false):Tf L:=by
 have F:∀i j,i<j->j<L.length->(eE L i).name≠(eE L j).name:=by
  intro i j E D e;have:=h j D;unfold u_ at this;rw[List.any_eq_false]at this;have hi:i<L.length:=oQ;have:=this L[i] (by rw[List.mem_take_iff_getElem];exact⟨i,oQ,rfl⟩);rw[eC (au hi)]at e;simp_all
 intro i j hi D e;grind
theorem Ce{L r}(D:NR L r)(h:(gy r.ah r.dH).1=0):Tf L/\L.length<=16:=by
 rw[<-BY D]at h;grind[sJ,Wn,u_]
theorem L8{L b k}(hk:k<L.length)(h:((eE L k).name==b)=true)(hb:∀j,j<k->((eE L j).name==b)=false):ie L b=k:=by
 unfold ie;have:(List.range L.length).find? (λi=>(eE L i).name==b)=some k:=by
  simp_all
 grind
theorem IK{L b}(hb:∀j,j<L.length->((eE L j).name==b)=false):ie L b= -1:=by
 grind[ie,eE]
theorem kB{l k x}(D:l[k]? =some x):eE (mk l) k=x.n:=eC (by unfold mk;rw[bD,D];rfl)
def uR(L:List RN)(k:Nat):List Nat:=(List.range k).filter λi=>(eE L i).kind==5
theorem L9 L k:uR L (k+1)=if(eE L k).kind==5 then uR L k++[k]else uR L k:=by
 unfold uR;rw[lT,gZ,j9];grind
theorem PQ L k:(uR L k).length<=k:=by
 grind[uR,eE]
end Ch
theorem oC w v:
 Calls prog 200 #[int i64 v] w λx w'=>x=returned (bool (mj v))/\w'=w:=by
 unfold mj
 cases D:decide (-99<=v)<;>cases E:decide (v<=99)<;>
  (go_in
   exact we)
theorem xD w B cb l v b(hF:ku w B cb l v)(Z:l.length<=1000):
 Calls prog 236 #[pointer (some ⟨cb,0,none⟩),int .u8 b] w λx w'=>x=returned (int i64 (ie (Ch.mk l) b))/\w'=w:=by
 obtain⟨Y,U,rfl⟩:=hF.2.1.len;have zc:=hF.cell;have R:=eu l;have Q:=ag hF;go_in;go_wp;go_loop [5] (λi=>∃k:Nat,i= int i64 k/\k<=l.length/\Hid (∀j,j<k->((eE (Ch.mk l) j).name==b)=false)) (λi=>l.length-(intOf i).toNat)
 case atStart=>exact⟨0,rfl,aA _,ag (λj h=>absurd h oQ)⟩
 case round=>
  obtain⟨k,rfl,hk,E⟩:=hrel;by_cases I:k<l.length
  ·have J:(k:Int)<l.length:=oQ;obtain⟨x,O⟩:∃x,l[k]? =some x:=⟨_,au I⟩
   have⟨g,cap',hv,_,hcell,_⟩:=Q.2.1.form O;simp only[aH]at hv;obtain⟨rfl,-,rfl⟩:=hv;have z0:w.cell? ⟨g,k*7,none⟩=some _:=hcell 0 oQ;have D:=kB O;cases q:x.n.name==b with
   |true=>
    have G:=ag (L8 (L:=Ch.mk l) oQ (by rw[D];exact q) E);exact iN G
   |false=>?_
   have F:=ag (show∀j,j<k+1->((eE (Ch.mk l) j).name==b)=false from λj hj=>by
    rcases lX (lY hj)with h|h
    ·exact E j h
    subst h;rw[D];exact q)
   go_wp2;exact⟨⟨k+1,eb,oQ,F⟩,ew⟩
  have X:¬(k:Int)<l.length:=oQ;obtain rfl:k=l.length:=oQ;have G:=ag (IK (L:=Ch.mk l) (b:=b) (by rw[R];exact E));exact iN G
theorem wI w B cb l v(hF:ku w B cb l v)(hl:l.length<=1000):
 Calls prog 201 #[pointer (some ⟨cb,0,none⟩)] w λx w'=>∃u,x=returned u/\w'.ownsRow w.heap.size 3 1 u (d_ (Ch.mk l)).length (bO (j2 (d_ (Ch.mk l))))/\Kp bA w w':=by
 have⟨i0,hi,hz0,hz1,hz2⟩:=cr nI;obtain⟨ao,aa,rfl⟩:=hF.2.1.len;go_in;go_wp;go_loopw [3,4] (λfv j wr=>∃k:Nat,j= int i64 k/\k<=l.length/\wr.ownsRow w.heap.size 3 1 fv (uR (Ch.mk l) k).length (bO (j2 (uR (Ch.mk l) k)))/\Kp bA w wr) (λ_ j _=>l.length-(intOf j).toNat)
 case atStart=>exact⟨0,rfl,aA _,cd _ _ _ _,Kp.refl _ _⟩
 case round=>
  obtain⟨k,rfl,hk,G,E⟩:=hrel;have I:=hF.aw E;have zc:=I.cell;have ad:=PQ (Ch.mk l) k;by_cases F:k<l.length
  ·have U:(k:Int)<l.length:=oQ;obtain⟨x,X⟩:∃x,l[k]? =some x:=⟨_,au F⟩
   have⟨g,cap',hv,hBg,hcell,hfr⟩:=I.2.1.form X;simp only[aH]at hv;obtain⟨rfl,-,rfl⟩:=hv;have z1:_=some _:=hcell 1 oQ;have D:=L9 (Ch.mk l) k;rw[kB X]at D;clear I hcell hfr;cases Z:x.n.kind==5 with
   |false=>
    rw[Z]at D;have J:=ag D;clear D;go_wp2;exact⟨⟨k+1,eb,oQ,by rw[J];exact G,E⟩,ew⟩
   |true=>?_
   rw[Z]at D;have J:=ag (D.trans (aq rfl));have iL:=E.size;clear D;go_wp2_with (at_builtin;refine jk (P:=prog) _ rfl (tmp 23) (tmp 25) 38 rfl w.heap.size 3 i0 (int i64 0) 1 8 underlying38 hi hz0 hz1 hz2 rfl aV u3 (uR (Ch.mk l) k).length (bO (j2 (uR (Ch.mk l) k))) rfl (by exact G.alloc _) ⟨wr.heap.size,0,none⟩ 1 1 [int i64 k] rfl rfl (by exact gT _ _ _) Ki wY oQ il ?_);intro v' w9 Y R _;have Q:=(E.alloc (cells #[int i64 k] 3)).grown (by exact R) (λj hj F=>by have:=(G.lt j hj).1;omega);have O:=bw Y Q;clear Y R Q G E zc z1;go_wp2;go_roundw
   case rel=>
    refine⟨k+1,eb,oQ,?_,O.2⟩;rw[J,Ej];have:=O.1;simpa[bO]using this
   case measure=>exact ew
  have ab:¬(k:Int)<l.length:=oQ;obtain rfl:k=l.length:=oQ;have HR:=ag (show d_ (Ch.mk l)=uR (Ch.mk l) l.length by unfold d_ uR;rw[eu]);clear I;go_wp2;go_ret;rw[HR];exact⟨_,rfl,G,E⟩
namespace Ch
theorem Ti{t k}(hk:k<t.size)(h:tL t k=false):tM t=false:=by
 unfold tM;have:(List.range t.size).all (tL t)=false:=by
  rw[List.all_eq_false];exact⟨k,by simpa using hk,by simp[h]⟩
 rw[this];simp
theorem PR{t}(D:(decide (16<t.size)||t.size % 2==1)=false)(h:∀j,j<t.size->tL t j=true):tM t=true:=by
 unfold tM;rw[D];simp only[mG,fC,kU,List.mem_range];exact h
theorem Eo{t}(D:(decide (16<t.size)||t.size % 2==1)=true):tM t=false:=by
 unfold tM;rw[D];rfl
end Ch
theorem PS w t(ht:t.size<=9223372036854775807):
 Calls prog 199 #[string t] w λx w'=>x=returned (bool (tM t))/\w'=w:=by
 have hm:((t.size:Int).tmod 2)=((t.size % 2:Nat):Int):=(Int.ofNat_tmod t.size 2).symm;by_cases E:16<t.size
 ·have zb:(16:Int)<t.size:=oQ;have D:=ag (Eo (t:=t) (by simp[E]));go_in;exact iN D
 have zb:¬(16:Int)<t.size:=oQ;rcases Nat.mod_two_eq_zero_or_one t.size with G|G
 ·rw[G]at hm;have H1:=ag (show(decide (16<t.size)||t.size % 2==1)=false by simp[E,G]);go_in;go_wp;go_loop [3] (λi=>∃k:Nat,i= int i64 k/\k<=t.size/\Hid (∀j,j<k->tL t j=true)) (λi=>t.size-(intOf i).toNat)
  case atStart=>exact⟨0,rfl,aA _,ag (λj h=>absurd h oQ)⟩
  case round=>
   obtain⟨k,rfl,hk,Y⟩:=hrel;by_cases F:k<t.size
   ·have Z:(k:Int)<t.size:=oQ;have R:af t k=((t[k]'F).toNat:Int):=by simp[af,F]
    have Q:((k:Int).tmod 2)=((k % 2:Nat):Int):=(Int.ofNat_tmod k 2).symm;have U:=ag (qg w ((t[k]'F).toNat:Int) 97 122);have X:=ag (qg w ((t[k]'F).toNat:Int) 49 57);have I:=ag (show tL t k=if k % 2==0 then nU ((t[k]'F).toNat:Int) 97 122 else nU ((t[k]'F).toNat:Int) 49 57 by unfold tL;rw[R];rfl);have HN:=ag (λh:tL t k=false=>Ti F h);have HY:=ag (λ(h:tL t k=true)=>show∀j,j<k+1->tL t j=true from λj hj=>by
     rcases lX (lY hj)with O|O
     ·exact Y j O
     subst O;exact h)
    generalize nU ((t[k]'F).toNat:Int) 97 122=e1 at U I;generalize nU ((t[k]'F).toNat:Int) 49 57=e2 at X I;rcases Nat.mod_two_eq_zero_or_one k with J|J<;>rw[J]at Q<;>cases e1<;>cases e2<;>
    (go_wp
     refine cF U ?_;go_wp21;refine fu X ?_;rintro x w1 ⟨rfl,rfl⟩;go_wp2;first
     |(go_ret
       rw[HN (by rw[I,J];rfl)];exact⟨rfl,rfl⟩)
     |(go_round
       case rel=>exact⟨k+1,eb,oQ,ag (HY (by rw[I,J];rfl))⟩
       case measure=>simp[intOf];omega))
   have aa:¬(k:Int)<t.size:=oQ;obtain rfl:k=t.size:=oQ;have D:=ag (PR H1 Y);exact iN D
 rw[G]at hm;have D:=ag (Eo (t:=t) (by simp[G]));go_in;exact iN D
namespace Ch
theorem Cf{L i j}(h:j∈dZ L i):j<L.length:=by
 grind[dZ]
theorem lA L i:(dZ L i).length<=L.length:=by
 grind[dZ,tH]
theorem zI{l:List Nat}{p}{k}{j}(h:l[k]? =some j):(l.take (k+1)).countP p=(l.take k).countP p+if p j then 1 else 0:=by
 rw[iA,h,List.countP_append];simp[List.countP_cons]
end Ch
def lB(w:World)(g:Nat)(on:List Bool):Prop:=w.heap[g]? =some (cells (on.map Value.bool).toArray 4)
theorem lB.cell{w g on}(h:lB w g on){k}(hk:k<on.length):w.cell? ⟨g,k,none⟩=some (bool (jC on k)):=by
 unfold lB at h;simp[World.cell?,h,jC,hk]
theorem Cg w B cb l v(i:Nat)g on(hF:ku w B cb l v)(hl:l.length<=1000)(Q:lB w g on)(am:on.length=l.length):
 Calls prog 237 #[pointer (some ⟨cb,0,none⟩),int i64 i,slice (some ⟨g,0,none⟩) l.length l.length] w λx w'=>x=returned (int i64 (nM (Ch.mk l) on i))/\Kp bA w w':=by
 have E:=ag (kq w B cb l v (i:Int) hF hl);have J:=lA (Ch.mk l) (i:Int);rw[eu]at J;have D:=λj (h:j∈dZ (Ch.mk l) (i:Int))=>Cf h;rw[eu]at D;unfold nM;generalize dZ (Ch.mk l) (i:Int)=ks at E J D⊢;have HF:=ag hF;have HL:=ag D;go_in;go_wp;refine hm E ?_;rintro x Z ⟨u,rfl,ho,U⟩;have zJ:lB Z g on:=U.at_ Q (λx=>x);have G:=c_ ho zJ U;obtain⟨X,F,rfl⟩:∃X F,u= slice X ks.length F:=by
  rcases j8 ks.length with h|h
  ·rcases G.1.2 with⟨h1,h0⟩|⟨g,F,aa,I,_⟩
   ·exact⟨none,0,by rw[h1,h]⟩
   exact⟨_,_,I⟩
  have⟨g,F,I,_⟩:=cO G.1 h;exact⟨_,_,I⟩
 go_wp21;go_loop [7,9] (λn j=>∃k:Nat,j= int i64 k/\k<=ks.length/\n= int i64 ((ks.take k).countP (jC on):Nat)) (λ_ j=>ks.length-(intOf j).toNat)
 case atStart=>exact⟨0,rfl,aA _,rfl⟩
 case round=>
  obtain⟨k,rfl,hk,rfl⟩:=hrel;have ab:(ks.take k).countP (jC on)<=k:=bz sU il;by_cases D:k<ks.length
  ·have Y:(k:Int)<ks.length:=oQ;obtain⟨j,O⟩:∃j,ks[k]? =some j:=⟨_,au D⟩
   have aj:=HL j (aP O);have⟨g2,cap2,I,_⟩:=cO G.1 oQ;simp only[aH]at I;obtain⟨rfl,-,rfl⟩:=I;have z1:Z.cell? ⟨g2,k,none⟩=some (int i64 j):=by
    rw[bK G.1 k oQ];simp[bO,j2,O]
   have z2:=G.2.1.cell (k:=j) oQ;have R:=ag (zI (p:=jC on) O);have Lg:(j:Int)<l.length:=oQ;cases q:jC on j<;>rw[q]at z2 R<;>
   (go_wp2
    go_round
    case rel=>exact⟨k+1,eb,oQ,by rw[R];go_num⟩
    case measure=>simp[intOf];omega)
  have ad:¬(k:Int)<ks.length:=oQ;obtain rfl:k=ks.length:=oQ;exact iN G.2.2
namespace Ch
theorem Tj{L on i n}(h:eE L i=n):r_ L on i=if !jC on i then decide (0<=n.parent)
 else if n.kind==5||(decide (0<=n.parent)&& !jC on n.parent.toNat)then false
 else if n.kind==2 then nM L on i==1
 else if n.kind==3 then nM L on i==(dZ L (i:Int)).length
 else true:=by unfold r_;rw[h]
theorem Ep L on i:nM L on i<=L.length:=by
 unfold nM;exact bz sU (lA L i)
end Ch
theorem lB.free{w g on}(h:lB w g on)k:w.frozen? ⟨g,k,none⟩=false:=by unfold lB at h;simp[World.frozen?,h]
theorem lB.set{w g on}(h:lB w g on)k b:lB (w.setCell ⟨g,k,none⟩ (bool b)) g (on.set k b):=by
 unfold lB at*;rw[ar _ h];simp_all
theorem lB.made{w base g n}(h:w.ownsRow base 4 1 (slice (some ⟨g,0,none⟩) n n) n (madeCells #[Value.bool false] n).toList):lB w g (List.replicate n false):=by
 unfold lB;have hm:(madeCells #[Value.bool false] n).toList=(List.replicate n false).map Value.bool:=by
  apply f_;intro j;unfold madeCells;grind
 rcases h.2 with⟨e,_⟩|⟨I,E,D,e,_,F,J,_,iL,G⟩
 ·simp_all
 simp only[aH,bE,ei,dV,cA]at e;obtain⟨rfl,rfl⟩:=e;rw[F];have:D=((List.replicate n false).map Value.bool).toArray:=by
  grind
 rw[this]
theorem PU w B cb l v i g on(hF:ku w B cb l v)(hl:l.length<=1000)(am:lB w g on)(aj:on.length=l.length)(hi:i<l.length)(aI:∀x,l[i]? =some x-> -1<=x.n.parent/\x.n.parent<i):
 Calls prog 197 #[pointer (some ⟨cb,0,none⟩),int i64 i,slice (some ⟨g,0,none⟩) l.length l.length] w λx w'=>x=returned (bool (r_ (Ch.mk l) on i))/\Kp bA w w':=by
 obtain⟨ao,aS,rfl⟩:=hF.2.1.len;have zc:=hF.cell;have aO:(i:Int)<l.length:=oQ;obtain⟨x,hx⟩:∃x,l[i]? =some x:=⟨_,au hi⟩
 have⟨g1,cap',hv,hBg,hcell,hfr⟩:=hF.2.1.form hx;simp only[aH]at hv;obtain⟨rfl,-,rfl⟩:=hv;have ad:=aP hx;have z0:w.cell? ⟨g1,i*7,none⟩=some (int .u8 x.n.name):=hcell 0 oQ;have z1:w.cell? ⟨g1,i*7+1,none⟩=some (int i64 x.n.kind):=hcell 1 oQ;have z2:w.cell? ⟨g1,i*7+2,none⟩=some (int i64 x.n.parent):=hcell 2 oQ;have z3:w.cell? ⟨g1,i*7+3,none⟩=some (int i64 x.n.pos):=hcell 3 oQ;have z4:w.cell? ⟨g1,i*7+4,none⟩=some x.ev:=hcell 4 oQ;have z5:w.cell? ⟨g1,i*7+5,none⟩=some x.lv:=hcell 5 oQ;have z6:w.cell? ⟨g1,i*7+6,none⟩=some x.tv:=hcell 6 oQ;have⟨ea,ec,hev⟩:=bp (hF.2.1.ph x ad);have⟨la,lc,hlv⟩:=bp (hF.2.1.uC x ad);have⟨ta,tc,PI⟩:=bp (hF.2.1.kZ x ad);rw[hev]at z4;rw[hlv]at z5;rw[PI]at z6;have a2:=aI x hx;have E:=Tj (on:=on) (kB hx);have HQ:=c_ hF am E;clear hF am hcell hfr E;have R:=kG w (cells #[int .u8 x.n.name,int i64 x.n.kind,int i64 x.n.parent,int i64 x.n.pos,slice ea x.n.enter.length ec,slice la x.n.cU.length lc,slice ta x.n.trans.length tc] 223);have G:=ak w (cells #[int .u8 x.n.name,int i64 x.n.kind,int i64 x.n.parent,int i64 x.n.pos,slice ea x.n.enter.length ec,slice la x.n.cU.length lc,slice ta x.n.trans.length tc] 223);go_in;go_upto_region 2 with fail;generalize w.alloc (cells #[int .u8 x.n.name,int i64 x.n.kind,int i64 x.n.parent,int i64 x.n.pos,slice ea x.n.enter.length ec,slice la x.n.cU.length lc,slice ta x.n.trans.length tc] 223)=w3 at*;generalize w.heap.size=nb at*;have Y:=HQ.1.aw R;have U:lB w3 g on:=R.at_ HQ.2.1 (λx=>x);have E:=HQ.2.2;have DC:=U.cell (k:=i) oQ;have c1:w3.cell? ⟨nb,1,none⟩=some (int i64 x.n.kind):=dG G rfl;have c2:w3.cell? ⟨nb,2,none⟩=some (int i64 x.n.parent):=dG G rfl;clear z0 z1 z2 z3 z4 z5 z6 zc hev hlv PI HQ;cases qo:jC on i with
 |false=>
  rw[qo]at E DC;simp only[mG,aQ]at E;have I:=ag E;clear E Y U G;by_cases c:0<=x.n.parent
  ·go_wp2;go_ret;rw[I,gf c];exact⟨rfl,R⟩
  go_wp2;go_ret;rw[I,fB oQ];exact⟨rfl,R⟩
 |true=>?_
 rw[qo]at E DC;simp only[Bool.not_true,bu,bf]at E;cases q5:x.n.kind==5 with
 |true=>
  rw[q5]at E;simp only[Bool.true_or,aQ]at E;have I:=ag E;clear E Y U G;exact qR I R
 |false=>?_
 rw[q5]at E;by_cases c:0<=x.n.parent
 ·obtain⟨p,hp⟩:∃p:Nat,x.n.parent=p:=⟨x.n.parent.toNat,oQ⟩
  have a1:(p:Int)<l.length:=oQ;have zp:=U.cell (k:=p) oQ;rw[hp]at E c2;have ap:(0:Int)<=p:=oQ;rw[gf ap,dE]at E;cases qp:jC on p with
  |false=>
   rw[qp]at E zp;simp only[mG,Bool.and_self,Bool.or_true,aQ]at E;have I:=ag E;clear E Y U G;exact qR I R
  |true=>?_
  rw[qp]at E zp;simp only[Bool.not_true,Bool.and_false,Bool.or_self,bu,bf]at E;have E1:=ag (Cg w3 B cb l _ i g on Y hl U aj);have I:=c_ E Y G;clear E Y U G;go_wp;refine b9 E1 ?_;intro w4 X;have Wm:=R.trans X;have Ks:=I.2.1.aw X;have O:=X.at_ I.2.2 (λx=>x);have E2:=ag (kq w4 B cb l _ (i:Int) Ks hl);have fW:=Ep (Ch.mk l) on i;have ab:=lA (Ch.mk l) (i:Int);rw[eu]at fW ab;have D:=ag I.1;clear I E1 Ks c1 c2 DC R X;generalize nM (Ch.mk l) on i=J at*;generalize dZ (Ch.mk l) (i:Int)=ks at*;go_wp21;refine fu E2 ?_;rintro y w5 ⟨u,rfl,ho,Z⟩;obtain⟨ua,uc,rfl⟩:=bp ho;have Q:=Z.at_ O (λx=>x);have c1:w5.cell? ⟨nb,1,none⟩=some (int i64 x.n.kind):=dG Q rfl;have K:=Wm.trans Z;clear O Q ho E2 Wm Z;cases q2:x.n.kind==2 with
  |true=>
   rw[q2]at D;have e2:x.n.kind=2:=cX q2;rw[e2]at c1;by_cases F:J=1
   ·subst F;exact qR D K
   have aa:((J:Int)==1)=false:=il;go_wp2;go_ret;rw[D];refine⟨?_,K⟩;have:(J==1)=false:=cX F;simp[this]
  |false=>?_
  rw[q2]at D;cases q3:x.n.kind==3 with
  |true=>
   rw[q3]at D;have e3:x.n.kind=3:=cX q3;rw[e3]at c1;by_cases F:J=ks.length
   ·subst F;go_wp2;go_ret;rw[D];exact⟨dy,K⟩
   have aa:((J:Int)==(ks.length:Int))=false:=il;go_wp2;go_ret;rw[D];refine⟨?_,K⟩;have:(J==ks.length)=false:=cX F;simp[this]
  |false=>?_
  rw[q3]at D;go_wp2;go_ret;rw[D];exact⟨dy,K⟩
 rw[fB c]at E;simp only[mF,Bool.or_self,bu,bf]at E;have a0:x.n.parent<0:=oQ;have E1:=ag (Cg w3 B cb l _ i g on Y hl U aj);have I:=c_ E Y G;clear E Y U G;go_wp;refine b9 E1 ?_;intro w4 X;have Wm:=R.trans X;have Ks:=I.2.1.aw X;have O:=X.at_ I.2.2 (λx=>x);have E2:=ag (kq w4 B cb l _ (i:Int) Ks hl);have fW:=Ep (Ch.mk l) on i;have ab:=lA (Ch.mk l) (i:Int);rw[eu]at fW ab;have D:=ag I.1;clear I E1 Ks c1 c2 DC R X;generalize nM (Ch.mk l) on i=J at*;generalize dZ (Ch.mk l) (i:Int)=ks at*;go_wp21;refine fu E2 ?_;rintro y w5 ⟨u,rfl,ho,Z⟩;obtain⟨ua,uc,rfl⟩:=bp ho;have Q:=Z.at_ O (λx=>x);have c1:w5.cell? ⟨nb,1,none⟩=some (int i64 x.n.kind):=dG Q rfl;have K:=Wm.trans Z;clear O Q ho E2 Wm Z;cases q2:x.n.kind==2 with
 |true=>
  rw[q2]at D;have e2:x.n.kind=2:=cX q2;rw[e2]at c1;by_cases F:J=1
  ·subst F;exact qR D K
  have aa:((J:Int)==1)=false:=il;go_wp2;go_ret;rw[D];refine⟨?_,K⟩;have:(J==1)=false:=cX F;simp[this]
 |false=>?_
 rw[q2]at D;cases q3:x.n.kind==3 with
 |true=>
  rw[q3]at D;have e3:x.n.kind=3:=cX q3;rw[e3]at c1;by_cases F:J=ks.length
  ·subst F;go_wp2;go_ret;rw[D];exact⟨dy,K⟩
  have aa:((J:Int)==(ks.length:Int))=false:=il;go_wp2;go_ret;rw[D];refine⟨?_,K⟩;have:(J==ks.length)=false:=cX F;simp[this]
 |false=>?_
 rw[q3]at D;go_wp2;go_ret;rw[D];exact⟨dy,K⟩
theorem Ci:(prog.info? 4).map (λi=>(i.zero,i.size,i.bytes))=some (some (bool false),1,1):=bZ
namespace Ch
theorem L_{L t k last on}(hk:k<t.size)(h:ie L (af t k)<=last):lz L t (t.size-k) k last on=none:=by
 rw[show t.size-k=(t.size-(k+1))+1 by omega];grind[lz]
theorem Mb{L t k}{i:Nat}{last}{on}(hk:k<t.size)(hi:ie L (af t k)=i)(h:¬(i:Int)<=last):lz L t (t.size-k) k last on=lz L t (t.size-(k+1)) (k+1) i (on.set i true):=by
 rw[show t.size-k=(t.size-(k+1))+1 by omega];grind[lz]
theorem PV L b:ie L b= -1\/∃i:Nat,ie L b=i/\i<L.length:=by
 grind[lh]
end Ch
def SpQ(w w':World)(l:List NV)(s:ByteArray)(u:Value):Prop:=Kp bA w w'/\
 ∀on,iY (Ch.mk l) s=some on->u= slice (some ⟨w.heap.size,0,none⟩) l.length l.length/\lB w' w.heap.size on/\on.length=l.length
theorem Ai w B cb l v s(hF:ku w B cb l v)(hl:l.length<=1000)(hs:s.size<=maxLen):
 Calls prog 196 #[pointer (some ⟨cb,0,none⟩),string s] w λx w'=>∃u,x=returned (tuple #[u,bool (iY (Ch.mk l) s).isSome])/\SpQ w w' l s u:=by
 have⟨i0,hi,hz0,hz1,hz2⟩:=cr Ci;obtain⟨ao,aa,rfl⟩:=hF.2.1.len;have zc:=hF.cell;have aS:s.size<=9223372036854775807:=hs;have HF:=ag hF;go_in;go_wp2_with (at_make;refine wpList_make_full w rfl (tmp 14) (tmp 14) 68 rfl w.heap.size 4 i0 (bool false) 1 underlying68 hi hz0 hz1 i64 i64 l.length l.length l.length rfl rfl rfl rfl ?c1 ?c2 (aC _) ?_)
 case c1=>rw[hz2];omega
 case c2=>unfold maxLen;omega
 intro w4 o4 g4;have K4:Kp bA w w4:=(Kp.refl _ _).grown g4 (λi hi _=>by simp at hi);have Z:=lB.made o4;have Ks:=HF.aw K4;have HQ:=bw Ks K4;generalize hg:w.heap.size=g at*;go_wp;go_loopw [7,8] (λlv kv wr=>∃(k:Nat) (last:Int) (on:List Bool),lv= int i64 last/\kv= int i64 k/\k<=s.size/\ -1<=last/\last<l.length/\on.length=l.length/\lB wr g on/\Hid (iY (Ch.mk l) s=lz (Ch.mk l) s (s.size-k) k last on)/\Kp (λi=>i=g) w4 wr) (λ_ kv _=>s.size-(intOf kv).toNat)
 case atStart=>exact⟨0,-1,List.replicate l.length false,rfl,rfl,aA _,oQ,oQ,dy,Z,ag (by unfold iY;rw[eu];rfl),Kp.refl _ _⟩
 case round=>
  obtain⟨k,last,on,rfl,rfl,hk,aI,aO,Q,D,X,Y⟩:=hrel;have iq:ku wr B cb l (slice ao l.length aa):=HQ.1.pO Y (λi cur T hi _ hT e=>by
   subst e;unfold lB at Z;rw[Z]at hi;simp only[bE,eH]at hi;rcases hT with h|h|h|h<;>rw[h]at hi<;>exact absurd hi.2.1 aV)
  have KZ:=ag (HQ.2.trans' Y (λi hi x=>oQ));by_cases I:k<s.size
  ·have ad:(k:Int)<s.size:=oQ;have ab:af s k=((s[k]'I).toNat:Int):=by simp[af,I]
   have E:=ag (xD wr B cb l _ ((s[k]'I).toNat:Int) iq hl);have O:=λh=>L_ (L:=Ch.mk l) (on:=on) I (last:=last) h;have J:=λi hi h=>Mb (L:=Ch.mk l) (on:=on) (i:=i) I (last:=last) hi h;have G:=PV (Ch.mk l) (af s k);rw[ab]at O J G;rw[eu]at G;generalize ie (Ch.mk l) ((s[k]'I).toNat:Int)=nr at*;by_cases c:nr<=last
   ·have F:=ag (X.trans (O c));go_wp;refine b9 E ?_;intro w5 e5;rw[e5];go_wp2;go_ret2;exact⟨_,by rw[F];rfl,KZ,λR h=>by rw[F]at h;cases h⟩
   obtain⟨i,rfl,ap⟩:∃i:Nat,nr=i/\i<l.length:=by
    rcases G with h|h
    ·omega
    exact h
   have F:=ag (X.trans (J i rfl c));have aj:(i:Int)<l.length:=oQ;have c':last<(i:Int):=oQ;have zi:=D.cell (k:=i) oQ;have fi:=D.free i;have U:=ag (D.set i true);have Er:=ag (Y.setCell (p:=⟨g,i,none⟩) (λ_=>rfl) (bool true));go_wp;refine b9 E ?_;intro w5 e5;rw[e5];go_wp2;exact⟨⟨k+1,i,on.set i true,rfl,eb,oQ,oQ,oQ,by simp[Q],U,ag F,Er⟩,ew⟩
  have am:¬(k:Int)<s.size:=oQ;obtain rfl:k=s.size:=oQ;have F:=ag (show iY (Ch.mk l) s=some on by rw[X,n_];rfl);go_wp2;go_ret2;exact⟨_,by rw[F];rfl,KZ,λR h=>by
   rw[F]at h;obtain rfl:on=R:=cX h;subst hg;exact⟨rfl,D,Q⟩⟩
namespace Ch
theorem Tm{L t}(h:(d_ L).length≠t.size):AN L t=false:=by
 unfold AN;have:((d_ L).length==t.size)=false:=cX h;rw[this];rfl
theorem Wo{L t k}(hk:k<(d_ L).length)(h:AM L t ((d_ L).getD k 0) k=false):AN L t=false:=by
 unfold AN;have:((List.range (d_ L).length).all λk=>AM L t ((d_ L).getD k 0) k)=false:=by
  rw[List.all_eq_false];exact⟨k,by simpa using hk,by simp only[h];decide⟩
 rw[this];simp
theorem Tn{L t}(D:(d_ L).length=t.size)(h:∀k,k<(d_ L).length->AM L t ((d_ L).getD k 0) k=true):AN L t=true:=by
 unfold AN;have E:((d_ L).length==t.size)=true:=cX D;rw[E,fC,kU];intro k hk;exact h k (cX hk)
theorem To{L j}(h:j∈d_ L):j<L.length:=by
 unfold d_ at h;rw[fR]at h;simpa using h.1
theorem vL L:(d_ L).length<=L.length:=by
 grind[d_,eE]
theorem xh{l:List Nat}{p}{k}{j}(h:l[k]? =some j):(l.take (k+1)).any p=((l.take k).any p||p j):=by
 rw[iA,h,List.any_append];simp
end Ch
theorem AP w B cb l v s(hF:ku w B cb l v)(hl:l.length<=1000)(hs:s.size<=maxLen):
 Calls prog 198 #[pointer (some ⟨cb,0,none⟩),string s] w λx w'=>x=returned (bool (AN (Ch.mk l) s))/\Kp bA w w':=by
 have E0:=ag (wI w B cb l v hF hl);obtain⟨ao,aI,rfl⟩:=hF.2.1.len;have Cj:=λj (h:j∈d_ (Ch.mk l))=>To h;have aS:=vL (Ch.mk l);rw[eu]at Cj aS;have ap:=ag (λh=>Tm (L:=Ch.mk l) (t:=s) h);have am:=ag (λk hk h=>Wo (L:=Ch.mk l) (t:=s) (k:=k) hk h);have HY:=ag (λh0 h=>Tn (L:=Ch.mk l) (t:=s) h0 h);generalize d_ (Ch.mk l)=D at*;unfold maxLen at hs;have HF:=ag hF;have HL:=ag Cj;go_in;go_wp;refine hm E0 ?_;rintro x w1 ⟨u,rfl,ho,K1⟩;obtain⟨ua,uc,rfl⟩:=bp ho;have HO:=bw ho K1;have aO:=HF.aw K1;have ad:=ag aO;by_cases Y:D.length=s.size
 ·have Z:((D.length:Int)!=(s.size:Int))=false:=il;go_wp21;go_loopw [6] (λkv wr=>∃k:Nat,kv= int i64 k/\k<=D.length/\Hid (∀j,j<k->AM (Ch.mk l) s (D.getD j 0) j=true)/\Kp bA w1 wr) (λkv _=>D.length-(intOf kv).toNat)
  case atStart=>exact⟨0,rfl,aA _,ag (λj h=>absurd h oQ),Kp.refl _ _⟩
  case round=>
   obtain⟨k,rfl,hk,HB,R⟩:=hrel;have iq:=ad.aw R;have zc:=iq.cell;have ab:=R.owns HO.1 (λ_ _ x=>x);by_cases X:k<D.length
   ·have a5:(k:Int)<D.length:=oQ;have a3:k<s.size:=oQ;have a6:(k:Int)<s.size:=oQ;obtain⟨F,J⟩:∃F,D[k]? =some F:=⟨_,au X⟩
    have a1:=HL F (aP J);have Lg:(F:Int)<l.length:=oQ;obtain⟨x,hx⟩:∃x,l[F]? =some x:=⟨_,au a1⟩
    have⟨g,cap',hv,_,hcell,_⟩:=iq.2.1.form hx;simp only[aH]at hv;obtain⟨rfl,-,rfl⟩:=hv;have z2:wr.cell? ⟨g,F*7+2,none⟩=some (int i64 x.n.parent):=hcell 2 oQ;have⟨g2,cap2,hv2,_⟩:=cO ab oQ;simp only[aH]at hv2;obtain⟨rfl,-,rfl⟩:=hv2;have zh:wr.cell? ⟨g2,k,none⟩=some (int i64 F):=by
     rw[bK ab k oQ];simp[bO,j2,J]
    have a4:af s k=((s[k]'a3).toNat:Int):=by simp[af,a3]
    have hP:AM (Ch.mk l) s (D.getD k 0) k=(((s[k]'a3).toNat:Int)==45||(dZ (Ch.mk l) x.n.parent).any λj=>(eE (Ch.mk l) j).name==((s[k]'a3).toNat:Int)):=by
     unfold AM;rw[a4,iO,J];simp only[Option.getD_some];rw[kB hx]
    have Es:=ag (λ(h:AM (Ch.mk l) s (D.getD k 0) k=true)=>show∀j,j<k+1->AM (Ch.mk l) s (D.getD j 0) j=true from λj hj=>by
     rcases lX (lY hj)with h'|h'
     ·exact HB j h'
     subst h';exact h)
    cases Z_:(((s[k]'a3).toNat:Int)==45)with
    |true=>
     rw[Z_,Bool.true_or]at hP;have HP:=ag hP;have Er:=ag R;go_wp2;exact⟨⟨k+1,eb,oQ,ag (Es HP),Er⟩,ew⟩
    |false=>?_
    rw[Z_,Bool.false_or]at hP;have E:=ag (kq wr.drew B cb l _ x.n.parent (iq.aw (Kp.refl _ _).drew) hl);have a2:=lA (Ch.mk l) x.n.parent;have G:=λj (h:j∈dZ (Ch.mk l) x.n.parent)=>Cf h;rw[eu]at a2 G;generalize dZ (Ch.mk l) x.n.parent=ks at*;have HP:=ag hP;have aj:=ag G;have HW:=bw iq R;go_upto_region 8 with fail;go_region_held3 (λw'=>w'.cell? ⟨cb,0,none⟩=some (slice (some ⟨g,0,none⟩) l.length aI)/\w'.cell? ⟨g2,k,none⟩=some (int i64 F)/\w'.cell? ⟨g,F*7+2,none⟩=some (int i64 x.n.parent)) (first|exact⟨zc,zh,z2⟩|exact HS) ((go_at_call 234;refine hm E ?_;rintro y w5 ⟨u,rfl,tF,I⟩;obtain⟨bb,bc,rfl⟩:=bp tF;have H:=bw tF I;have HS:=c_ (I.bN zc) (I.bN zh) (I.bN z2)))
    have⟨tF,I⟩:=H;have XL:=(HW.1.aw (Kp.refl _ _).drew).aw I;have be:=XL.cell;have HX:=c_ tF XL (HW.2.drew.trans I);go_wp;go_loopw [8,9] (λokv jv wq=>∃j:Nat,jv= int i64 j/\j<=ks.length/\okv= bool ((ks.take j).any λi=>(eE (Ch.mk l) i).name==((s[k]'a3).toNat:Int))/\Kp bA w5 wq) (λ_ jv _=>ks.length-(intOf jv).toNat)
    case atStart=>exact⟨0,rfl,aA _,rfl,Kp.refl _ _⟩
    case round=>
     obtain⟨j,rfl,hj,rfl,Q⟩:=hrel;have AL:=HX.2.1.aw Q;have bg:=AL.cell;have aa:=Q.owns HX.1 (λ_ _ x=>x);by_cases U:j<ks.length
     ·have a8:(j:Int)<ks.length:=oQ;obtain⟨i,hi⟩:∃i,ks[j]? =some i:=⟨_,au U⟩
      have a0:=aj i (aP hi);have a7:(i:Int)<l.length:=oQ;obtain⟨y,hy⟩:∃y,l[i]? =some y:=⟨_,au a0⟩
      have⟨g3,AI,hv3,_,pE,_⟩:=AL.2.1.form hy;simp only[aH,bE,ei,cA,dV]at hv3;obtain⟨rfl,rfl⟩:=hv3;have z0:wr.cell? ⟨g,i*7,none⟩=some (int .u8 y.n.name):=pE 0 oQ;have⟨g4,cap4,hv4,_⟩:=cO aa oQ;simp only[aH]at hv4;obtain⟨rfl,-,rfl⟩:=hv4;have zk:wr.cell? ⟨g4,j,none⟩=some (int i64 i):=by
       rw[bK aa j oQ];simp[bO,j2,hi]
      have hN:=xh (p:=λi=>(eE (Ch.mk l) i).name==((s[k]'a3).toNat:Int)) hi;simp only[kB hy]at hN;generalize (ks.take j).any (λi=>(eE (Ch.mk l) i).name==((s[k]'a3).toNat:Int))=acc at*;cases qn:y.n.name==((s[k]'a3).toNat:Int)<;>cases acc<;>rw[qn]at hN<;>
      (have HN:=ag hN
       go_wp2;go_quiet (fail);go_wp2;go_roundw
       case rel=>exact⟨j+1,eb,oQ,by rw[HN];rfl,Q.drewN _⟩
       case measure=>simp[intOf];omega)
     have a9:¬(j:Int)<ks.length:=oQ;obtain rfl:j=ks.length:=oQ;rw[gL,<-HP];cases qP:AM (Ch.mk l) s (D.getD k 0) k with
     |false=>
      have O:=ag (am k X qP);exact qR O (HO.2.trans (HX.2.2.trans Q))
     |true=>?_
     have HZ:=ag (Es qP);go_wp2;exact⟨⟨k+1,eb,oQ,ag HZ,HX.2.2.trans Q⟩,ew⟩
   have ba:¬(k:Int)<D.length:=oQ;obtain rfl:k=D.length:=oQ;have O:=ag (HY Y HB);exact qR O (HO.2.trans R)
 have Z:((D.length:Int)!=(s.size:Int))=true:=il;have O:=ag (ap Y);exact qR O HO.2
