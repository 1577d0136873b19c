import Derived.Test.YtnlbchmfcebeeaaGreatTX6
import Derived.Deep.AppendLies
import Derived.Laws.OwnMore
import Derived.OwnWalk
set_option maxHeartbeats 12800000
set_option maxRecDepth 100000
namespace Go.Proofs.YtnlbchmfcebeeaaGreat
open Go.Proofs.Tryz Ch
open Go.RowKit
namespace Ch
def o0(L:List RN)(i:Int)(k:Nat):List Nat:=(List.range k).filter (sT L i)
def jx(l:List Nat):List Int:=l.map λ(n:Nat)=>(n:Int)
theorem Lu{L:List RN}{i:Int}{k:Nat}(h:sT L i k=true):o0 L i (k+1)=o0 L i k++[k]:=by
 unfold o0;rw[l0,ic];simp[h]
theorem yO{L:List RN}{i:Int}{k:Nat}(h:sT L i k=false):o0 L i (k+1)=o0 L i k:=by
 unfold o0;rw[l0,ic];simp[h]
theorem Lv(L:List RN)(i:Int)(k:Nat):(o0 L i k).length<=k:=by
 grind[o0,sT]
theorem Bo(l:List Nat)(k:Nat):jx (l++[k])=jx l++[(k:Int)]:=by simp[jx]
theorem OF{l:List NV}{k:Nat}{x:NV}(D:l[k]? =some x)(i:Int):sT (mk l) i k=(x.n.parent==i&&x.n.kind !=5):=by
 simp_all[sT,dK,mk]
theorem eI(l:List NV):(mk l).length=l.length:=by simp[mk]
end Ch
section
variable (w:World) (B cb:Nat)
theorem nT(l:List NV)(v:Value)(i:Int)(hF:jW w B cb l v)(hl:l.length<=1000):
 Calls prog 234 #[.pointer (some ⟨cb,0,none⟩),.int .i64 i] w λx w'=>∃u,x= .returned u/\w'.ownsRow w.heap.size 3 1 u (fq (Ch.mk l) i).length (bI (jx (fq (Ch.mk l) i)))/\Kp (λ_=>False) w w':=by
 obtain⟨i0,hi,X,Y,Z⟩:=bY lX;obtain⟨ao,cap,rfl⟩:=hF.2.1.len
 go_enter func234,ntmps234
 go_wp2_with fail
 go_loopw [5,6] (λfv j wr=>∃k:Nat,j= .int .i64 k/\k<=l.length/\wr.ownsRow w.heap.size 3 1 fv (o0 (Ch.mk l) i k).length (bI (jx (o0 (Ch.mk l) i k)))/\Kp (λ_=>False) w wr) (λ_ j _=>l.length-(intOf j).toNat)
 case atStart=>exact⟨0,rfl,aG _,bT _ _ _ _,Kp.refl _ _⟩
 case round=>
  obtain⟨k,rfl,hk,G,F⟩:=hrel;have O:=hF.au F;have zc:=O.cell;have ap:=Lv (Ch.mk l) i k
  by_cases J:k<l.length
  ·have ad:(k:Int)<(l.length:Int):=by omega
   obtain⟨x,hx⟩:∃x,l[k]? =some x:=⟨_,ar J⟩
   obtain⟨g,aa,hv,aj,D,U⟩:=O.2.1.form hx;simp only[aK]at hv;obtain⟨rfl,-,rfl⟩:=hv;have z2:_=some _:=D 2 (by omega);have z1:_=some _:=D 1 (by omega);have E:=OF hx i;clear O D U
   cases q1:x.n.parent==i with
   |false=>
    rw[q1]at E;have I:=af (yO E);clear E;go_wp2
    go_roundw
    case rel=>exact⟨k+1,by go_num,by omega,by rw[I.out];exact G,F⟩
    case measure=>simp[intOf];omega
   |true=>?_
   cases q2:x.n.kind !=5 with
   |false=>
    rw[q1,q2]at E;have I:=af (yO E);clear E;go_wp2
    go_roundw
    case rel=>exact⟨k+1,by go_num,by omega,by rw[I.out];exact G,F⟩
    case measure=>simp[intOf];omega
   |true=>?_
   rw[q1,q2]at E;have I:=af (Lu E);have iG:=F.size;clear E
   go_wp2_with (at_builtin;refine hJ (P:=prog) _ rfl (.tmp 37) (.tmp 39) 38 rfl w.heap.size 3 i0 (.int .i64 0) 1 8 underlying38 hi X Y Z rfl (by decide) u5 (o0 (Ch.mk l) i k).length (bI (jx (o0 (Ch.mk l) i k))) rfl (by exact G.alloc _) ⟨wr.heap.size,0,none⟩ 1 1 [.int .i64 k] rfl rfl (by exact fy _ _ _) (by intro u hu;simp at hu;subst hu;rfl) (by unfold maxLen;omega) (by omega) (by simp;omega) ?_)
   intro v' w9 o9 g9 _;have K9:=(F.alloc (.cells #[.int .i64 k] 3)).grown (by exact g9) (λj hj J=>by have:=(G.lt j hj).1;omega);have HO:=af (ae o9 K9);clear o9 g9 K9 G F zc z1 z2;go_wp2
   go_roundw
   case rel=>
    refine⟨k+1,by go_num,by omega,?_,HO.out.2⟩;rw[I.out,Bo];have:=HO.out.1;simpa[bI]using this
   case measure=>simp[intOf];omega
  have am:¬(k:Int)<(l.length:Int):=by omega
  obtain rfl:k=l.length:=by omega
  have HR:=af (show fq (Ch.mk l) i=o0 (Ch.mk l) i l.length by unfold fq o0;rw[eI]);clear O;go_wp2;go_ret;rw[HR.out];exact⟨_,rfl,G,F⟩
end
namespace Ch
def Xj(n:RN):Prop:=∀rt∈n.trans,1<=rt.text.size/\rt.text.size<=300/\0<=rt.pos/\rt.pos<=300
def UZ(L:List RN):Int:=if 0<=pF L then 6 else 0
def U0(L:List RN):Int:=if 0<=pF L then pF L else 0
theorem Bp{L:List RN}{b c p:Int}(h:mC c 65 90=false):gV L b ⟨c,p⟩=b:=by
 unfold gV;rw[show dS c=false from h];rfl
theorem Bq{L:List RN}{b c p:Int}(h:mV L c=true):gV L b ⟨c,p⟩=b:=by
 unfold gV;simp only[h];simp
theorem Br{L:List RN}{b c p:Int}(D:¬b<0)(E:¬p<b):gV L b ⟨c,p⟩=b:=by
 unfold gV;simp[D,E]
theorem tM{L:List RN}{b c p:Int}(D:mC c 65 90=true)(E:mV L c=false)(F:b<0\/p<b):gV L b ⟨c,p⟩=p:=by
 unfold gV;rw[show dS c=true from D,E];simp_all
def qz(L:List RN)(k:Nat):Int:=((L.take k).flatMap λn=>n.trans.flatMap sU).foldl (gV L) (-1)
def sV(L:List RN)(n:RN)(b:Int)(k:Nat):Int:=((n.trans.take k).flatMap sU).foldl (gV L) b
theorem Hc{L:List RN}{k:Nat}{n:RN}(h:L[k]? =some n):qz L (k+1)=sV L n (qz L k) n.trans.length:=by
 unfold qz sV;have D:=(aJ.1 h).1;have e:L[k]=n:=(aJ.1 h).2;rw[tq D,nL,nM,e,fD];simp
theorem Hd{L:List RN}{n:RN}{b:Int}{k:Nat}{rt:RT}(h:n.trans[k]? =some rt):sV L n b (k+1)=(sU rt).foldl (gV L) (sV L n b k):=by
 unfold sV;have D:=(aJ.1 h).1;have e:n.trans[k]=rt:=(aJ.1 h).2;rw[tq D,nL,nM,e];simp
theorem OG(L:List RN):pF L=qz L L.length:=by grind[pF,qz,DW]
theorem vA{L:List RN}{b:Int}{u:Us}(h: -1<=b/\b<=1000)(hu:0<=u.pos/\u.pos<=1000): -1<=gV L b u/\gV L b u<=1000:=by unfold gV;split<;>omega
theorem yP(l:List RT)(k:Nat)(x:RT)(h:l[k]? =some x):(kF l)[k*2]? =some (.string x.text)/\(kF l)[k*2+1]? =some (.int .i64 x.pos):=by
 induction l generalizing k with
 |nil=>simp_all
 |cons a l D=>?_
 grind[kF]
end Ch
theorem Kp.bX{w w':World}(k:Kp (λ_=>False) w w'){p:Addr}{v:Value}(h:w.cell? p=some v):w'.cell? p=some v:=by
 have hb:=nE w p h;rw[<-h];exact jC (k.block _ hb (λx=>x))
def Gg(w:World)(sb:Nat)(f:Int->Bool):Prop:=∃C,w.heap[sb]? =some (.cells C 294 (0,0))/\C.size=256/\∀n:Nat,n<256->C[n]? =some (.bool (f n))
theorem Gg.cell{w:World}{sb:Nat}{f:Int->Bool}(h:Gg w sb f)(n:Nat)(F:n<256):w.cell? ⟨sb,n,none⟩=some (.bool (f n)):=by
 obtain⟨C,D,_,E⟩:=h;rw[lh w sb _ C _ _ D];simp_all
theorem Gg.au{w w':World}{sb:Nat}{f:Int->Bool}(h:Gg w sb f)(k:Kp (λ_=>False) w w'):Gg w' sb f:=by
 obtain⟨C,D,r⟩:=h;exact⟨C,k.at_ D (λx=>x),r⟩
section
variable (w:World) (B cb:Nat)
theorem He(l:List NV)(v:Value)(SA:Array Value)(hF:jW w B cb l v)(hl:l.length<=300)(hT:∀x∈l,x.n.trans.length<=300/\Xj x.n)(hs:SA.size=256)(hS:∀n:Nat,n<256->SA[n]? =some (.bool (mV (Ch.mk l) n))):
 Calls prog 235 #[.pointer (some ⟨cb,0,none⟩),.agg SA] w λx w'=>x= .returned (.tuple #[.int .i64 (UZ (Ch.mk l)),.int .i64 (U0 (Ch.mk l))])/\Kp (λ_=>False) w w':=by
 have ad:=an w (.cells SA 294)
 have aS:Gg _ _ _:=⟨SA,ad,hs,hS⟩
 have K1:Kp (λ_=>False) w (w.alloc (.cells SA 294)):=(Kp.refl _ _).alloc _;have bb:=hF.au K1;obtain⟨ao,cap,rfl⟩:=hF.2.1.len
 go_enter func235,ntmps235
 go_upto_region 3 with(fail)
 generalize w.alloc (.cells SA 294)=w1 at*;clear hF hs hS ad
 go_loopw [6,7] (λb i wr=>∃k:Nat,i= .int .i64 k/\k<=l.length/\b= .int .i64 (qz (Ch.mk l) k)/\(-1<=qz (Ch.mk l) k/\qz (Ch.mk l) k<=1000)/\Kp (λ_=>False) w1 wr) (λ_ i _=>l.length-(intOf i).toNat)
 case atStart=>exact⟨0,rfl,aG _,rfl,by simp[qz],Kp.refl _ _⟩
 case round=>
  obtain⟨k,rfl,hk,rfl,bc,KW⟩:=hrel;have Z:=bb.au KW;have zc:=Z.cell
  by_cases bt:k<l.length
  ·have b5:(k:Int)<(l.length:Int):=by omega
   obtain⟨x,hx⟩:∃x,l[k]? =some x:=⟨_,ar bt⟩
   have a6:=aM hx
   have b0:(Ch.mk l)[k]? =some x.n:=by unfold Ch.mk;rw[bw,hx];rfl
   obtain⟨g,b4,hv,cc,aa,br⟩:=Z.2.1.form hx;simp only[aK]at hv;obtain⟨rfl,-,rfl⟩:=hv;obtain⟨Lw,a2⟩:=hT x a6;have HB:=af (Hc b0);generalize bi:qz (Ch.mk l) k=bk at*;clear bi;have zt:_=some _:=aa 6 (by omega);have F:=Z.2.1.j_ x a6;obtain⟨ta,UJ,Qz⟩:=bn F;have HS:=af aS;have HX:=af (ae F (ae Z KW))
   have a3:∀j,-1<=sV (Ch.mk l) x.n bk j/\sV (Ch.mk l) x.n bk j<=1000:=by
    intro j;unfold sV
    have:∀(m:List RT) (b:Int),(∀rt∈m,0<=rt.pos/\rt.pos<=300/\1<=rt.text.size/\rt.text.size<=300)-> -1<=b/\b<=1000-> -1<=(m.flatMap sU).foldl (gV (Ch.mk l)) b/\(m.flatMap sU).foldl (gV (Ch.mk l)) b<=1000:=by
     intro m
     induction m with
     |nil=>intro b _ h;exact h
     |cons a m ih=>?_
     intro b hm hb;have ha:=hm a (by simp);rw[nH,nM];refine ih _ (λrt hr=>hm rt (by simp[hr])) ?_;simp only[sU,List.foldl_cons,List.foldl_nil];exact vA (vA hb ⟨by simp only;omega,by simp only;omega⟩) ⟨by simp only;omega,by simp only;omega⟩
    exact this _ _ (λrt hr=>by have:=a2 rt (List.mem_of_mem_take hr);omega) bc
   clear aa br Z KW F aS
   go_wp2_with fail
   go_loopw [6,8] (λb j wq=>∃m:Nat,j= .int .i64 m/\m<=x.n.trans.length/\b= .int .i64 (sV (Ch.mk l) x.n bk m)/\Kp (λ_=>False) wr wq) (λ_ j _=>x.n.trans.length-(intOf j).toNat)
   case atStart=>exact⟨0,rfl,aG _,by simp[sV],Kp.refl _ _⟩
   case round=>
    obtain⟨m,rfl,hm,rfl,KQ⟩:=hrel;obtain⟨F,Z,KW⟩:=HX.out;have b3:=(Z.au KQ).cell;have a7:=Kp.bX KQ zt
    by_cases W4:m<x.n.trans.length
    ·have b6:(m:Int)<(x.n.trans.length:Int):=by omega
     obtain⟨rt,xF⟩:∃rt,x.n.trans[m]? =some rt:=⟨_,ar W4⟩
     have ci:=a2 rt (aM xF);obtain⟨tg,b7,RL⟩:=ij F (by omega);rw[RL]at Qz a7 zt;simp only[aK]at Qz;obtain⟨rfl,-,rfl⟩:=Qz;have I:=KQ.owns F (λ_ _ x=>x);rw[RL]at I;have a0:=(I.cellAt (m*2) (by omega)).trans (yP _ m rt xF).1;have a1:=(I.cellAt (m*2+1) (by omega)).trans (yP _ m rt xF).2
     have a5:=(HS.out.au (KW.trans KQ))
     have bo:=a3 m;have a8:=af (Hd (L:=Ch.mk l) (b:=bk) xF);generalize sV (Ch.mk l) x.n bk m=U at*;clear F Z I;have K5:Kp (λ_=>False) wr ((wr.alloc (.cells #[.string rt.text,.int .i64 rt.pos] 292)).alloc (.cells #[.int .i64 0,.int .i64 ((rt.text.size:Int)-1)] 3)):=((Kp.refl _ _).alloc _).alloc _
     have am:=(((Kp.refl (λ_=>False) _).alloc (.cells #[.int .i64 0,.int .i64 ((rt.text.size:Int)-1)] 3)).at_ (an wr (.cells #[.string rt.text,.int .i64 rt.pos] 292)) (λx=>x))
     have aj:=an (wr.alloc (.cells #[.string rt.text,.int .i64 rt.pos] 292)) (.cells #[.int .i64 0,.int .i64 ((rt.text.size:Int)-1)] 3);have a4:=a5.au K5
     have iG:(wr.alloc (.cells #[.string rt.text,.int .i64 rt.pos] 292)).heap.size=wr.heap.size+1:=by simp
     rw[iG]at aj
     go_upto_region 11 with(fail)
     generalize (wr.alloc (.cells #[.string rt.text,.int .i64 rt.pos] 292)).alloc (.cells #[.int .i64 0,.int .i64 ((rt.text.size:Int)-1)] 3)=w5 at*
     have c0:w5.cell? ⟨wr.heap.size,0,none⟩=some (.string rt.text):=by rw[World.cell?,am];rfl
     have c1:w5.cell? ⟨wr.heap.size,1,none⟩=some (.int .i64 rt.pos):=by rw[World.cell?,am];rfl
     have d0:w5.cell? ⟨wr.heap.size+1,0,none⟩=some (.int .i64 0):=by rw[World.cell?,aj];rfl
     have d1:w5.cell? ⟨wr.heap.size+1,1,none⟩=some (.int .i64 ((rt.text.size:Int)-1)):=by rw[World.cell?,aj];rfl
     generalize wr.heap.size=tb at*;have ad:=vA (L:=Ch.mk l) (b:=U) (u:=⟨ag rt.text 0,rt.pos⟩) bo ⟨by simp only;omega,by simp only;omega⟩;have ce:=vA (L:=Ch.mk l) (u:=⟨ag rt.text (rt.text.size-1),rt.pos+((rt.text.size:Int)-1)⟩) ad ⟨by simp only;omega,by simp only;omega⟩;have HC:=af (show(sU rt).foldl (gV (Ch.mk l)) U=gV (Ch.mk l) (gV (Ch.mk l) U ⟨ag rt.text 0,rt.pos⟩) ⟨ag rt.text (rt.text.size-1),rt.pos+((rt.text.size:Int)-1)⟩from rfl);have HY:=af (ae KW (ae KQ K5));have a9:=af (show gV (Ch.mk l) U ⟨ag rt.text 0,rt.pos⟩=gV (Ch.mk l) U ⟨ag rt.text 0,rt.pos⟩from rfl);generalize aI:gV (Ch.mk l) U ⟨ag rt.text 0,rt.pos⟩=O at*;have X:=af aI;have ba:=af (show gV (Ch.mk l) O ⟨ag rt.text (rt.text.size-1),rt.pos+((rt.text.size:Int)-1)⟩=gV (Ch.mk l) O ⟨ag rt.text (rt.text.size-1),rt.pos+((rt.text.size:Int)-1)⟩from rfl);generalize aO:gV (Ch.mk l) O ⟨ag rt.text (rt.text.size-1),rt.pos+((rt.text.size:Int)-1)⟩=b2 at*;have Y:=af aO;clear am aj a5 KW KQ K5 b3 a7 a0 a1 zc zt iG aI aO a9 ba
     go_loop [6,55] (λb i=>∃q:Nat,i= .int .i64 q/\q<=2/\b= .int .i64 (if q=0 then U else if q=1 then O else b2)) (λ_ i=>2-(intOf i).toNat)
     case atStart=>exact⟨0,rfl,by omega,rfl⟩
     case round=>
      obtain⟨q,rfl,hq,rfl⟩:=hrel
      obtain rfl|rfl|rfl:q=0\/q=1\/q=2:=by omega
      ·simp only[aV]
       have ap:0<rt.text.size:=by omega
       obtain⟨n,hn⟩:∃n:Nat,(rt.text[0]'ap).toNat=n:=⟨_,rfl⟩
       have Bs:n<256:=by rw[<-hn];exact(rt.text[0]'ap).toNat_lt
       have bx:(n:Int)<256:=by omega
       have zs:=a4.cell n Bs;have hu:Hid (ag rt.text (0)=(n:Int)):=af (by rw[oE ap,hn]);have E:=af (ru w5 (n:Int) 65 90)
       cases q1:mC (n:Int) 65 90 with
       |false=>
        rw[q1]at E;have G:=af (show O=U by rw[<-X.out,hu.out];exact Bp q1)
        go_wp2_with fail
        refine b9 E ?_;rintro y J ⟨rfl,D⟩;rw[D];clear D J;go_wp2
        go_round
        case rel=>exact⟨1,rfl,by omega,by rw[G.out];rfl⟩
        case measure=>simp[intOf]
       |true=>?_
       rw[q1]at E
       cases q2:mV (Ch.mk l) (n:Int)with
       |true=>
        have G:=af (show O=U by rw[<-X.out,hu.out];exact Bq q2)
        go_wp2_with fail
        refine b9 E ?_;rintro y J ⟨rfl,D⟩;rw[D];clear D J;go_wp2
        go_round
        case rel=>exact⟨1,rfl,by omega,by rw[G.out];rfl⟩
        case measure=>simp[intOf]
       |false=>?_
       by_cases h3:U<0
       ·have G:=af (show O=rt.pos by rw[<-X.out,hu.out];exact tM q1 q2 (.inl h3))
        go_wp2_with fail
        refine b9 E ?_;rintro y J ⟨rfl,D⟩;rw[D];clear D J;go_wp2
        go_round
        case rel=>exact⟨1,rfl,by omega,by rw[G.out];rfl⟩
        case measure=>simp[intOf]
       by_cases h4:rt.pos<U
       ·have G:=af (show O=rt.pos by rw[<-X.out,hu.out];exact tM q1 q2 (.inr h4))
        go_wp2_with fail
        refine b9 E ?_;rintro y J ⟨rfl,D⟩;rw[D];clear D J;go_wp2
        go_round
        case rel=>exact⟨1,rfl,by omega,by rw[G.out];rfl⟩
        case measure=>simp[intOf]
       have G:=af (show O=U by rw[<-X.out,hu.out];exact Br h3 h4)
       go_wp2_with fail
       refine b9 E ?_;rintro y J ⟨rfl,D⟩;rw[D];clear D J;go_wp2
       go_round
       case rel=>exact⟨1,rfl,by omega,by rw[G.out];rfl⟩
       case measure=>simp[intOf]
      ·simp only[aV,show((1:Nat)=0)=False by simp,bj]
       have ap:rt.text.size-1<rt.text.size:=by omega
       obtain⟨n,hn⟩:∃n:Nat,(rt.text[rt.text.size-1]'ap).toNat=n:=⟨_,rfl⟩
       have Bs:n<256:=by rw[<-hn];exact(rt.text[rt.text.size-1]'ap).toNat_lt
       have bx:(n:Int)<256:=by omega
       have zs:=a4.cell n Bs;have hu:Hid (ag rt.text (rt.text.size-1)=(n:Int)):=af (by rw[oE ap,hn]);have E:=af (ru w5 (n:Int) 65 90)
       cases q1:mC (n:Int) 65 90 with
       |false=>
        rw[q1]at E;have G:=af (show b2=O by rw[<-Y.out,hu.out];exact Bp q1)
        go_wp2_with fail
        refine b9 E ?_;rintro y J ⟨rfl,D⟩;rw[D];clear D J;go_wp2
        go_round
        case rel=>exact⟨2,rfl,by omega,by rw[G.out];rfl⟩
        case measure=>simp[intOf]
       |true=>?_
       rw[q1]at E
       cases q2:mV (Ch.mk l) (n:Int)with
       |true=>
        have G:=af (show b2=O by rw[<-Y.out,hu.out];exact Bq q2)
        go_wp2_with fail
        refine b9 E ?_;rintro y J ⟨rfl,D⟩;rw[D];clear D J;go_wp2
        go_round
        case rel=>exact⟨2,rfl,by omega,by rw[G.out];rfl⟩
        case measure=>simp[intOf]
       |false=>?_
       by_cases h3:O<0
       ·have G:=af (show b2=(rt.pos+((rt.text.size:Int)-1))by rw[<-Y.out,hu.out];exact tM q1 q2 (.inl h3))
        go_wp2_with fail
        refine b9 E ?_;rintro y J ⟨rfl,D⟩;rw[D];clear D J;go_wp2
        go_round
        case rel=>exact⟨2,rfl,by omega,by rw[G.out];rfl⟩
        case measure=>simp[intOf]
       by_cases h4:(rt.pos+((rt.text.size:Int)-1))<O
       ·have G:=af (show b2=(rt.pos+((rt.text.size:Int)-1))by rw[<-Y.out,hu.out];exact tM q1 q2 (.inr h4))
        go_wp2_with fail
        refine b9 E ?_;rintro y J ⟨rfl,D⟩;rw[D];clear D J;go_wp2
        go_round
        case rel=>exact⟨2,rfl,by omega,by rw[G.out];rfl⟩
        case measure=>simp[intOf]
       have G:=af (show b2=O by rw[<-Y.out,hu.out];exact Br h3 h4)
       go_wp2_with fail
       refine b9 E ?_;rintro y J ⟨rfl,D⟩;rw[D];clear D J;go_wp2
       go_round
       case rel=>exact⟨2,rfl,by omega,by rw[G.out];rfl⟩
       case measure=>simp[intOf]
      simp only[show((2:Nat)=0)=False by simp,show((2:Nat)=1)=False by simp,bj];go_wp2
      go_roundw
      case rel=>
       obtain⟨KW,KQ,K5⟩:=HY.out;refine⟨m+1,by go_num,by omega,?_,KQ.trans K5⟩;rw[a8.out,HC.out]
      case measure=>simp[intOf];omega
    have ca:¬(m:Int)<(x.n.trans.length:Int):=by omega
    obtain rfl:m=x.n.trans.length:=by omega
    have be:=a3 x.n.trans.length;clear F Z;go_wp2
    go_roundw
    case rel=>exact⟨k+1,by go_num,by omega,by rw[HB.out],by rw[HB.out];exact be,HX.out.2.2.trans KQ⟩
    case measure=>simp[intOf];omega
  have cg:¬(k:Int)<(l.length:Int):=by omega
  obtain rfl:k=l.length:=by omega
  have hR:pF (Ch.mk l)=qz (Ch.mk l) l.length:=by rw[OG,eI]
  have K2:=K1.trans KW
  by_cases h0:0<=qz (Ch.mk l) l.length
  ·have e1:=af (show UZ (Ch.mk l)=6 by unfold UZ;rw[hR,aq h0])
   have e2:=af (show U0 (Ch.mk l)=qz (Ch.mk l) l.length by unfold U0;rw[hR,aq h0]);clear Z hR;go_wp2;go_ret2;rw[e1.out,e2.out];exact⟨rfl,K2⟩
  have e1:=af (show UZ (Ch.mk l)=0 by unfold UZ;rw[hR,ay h0]);have e2:=af (show U0 (Ch.mk l)=0 by unfold U0;rw[hR,ay h0]);clear Z hR;go_wp2;go_ret2;rw[e1.out,e2.out];exact⟨rfl,K2⟩
end
namespace Ch
def fE(L:List RN):Int:=(pG L).1
def fP(L:List RN):Int:=(pG L).2
theorem D2{n k:Nat}{q:Nat->Bool}(hk:k<n)(h:q k=true)(hb:∀j,j<k->q j=false):(List.range n).find? q=some k:=by
 simp_all
theorem Lx{n:Nat}{q:Nat->Bool}(hb:∀j,j<n->q j=false):(List.range n).find? q=none:=by
 simp_all
theorem D3{L:List RN}(h:16<L.length):fE L=3/\fP L=(fm L 16).pos:=by grind[fE,fP,pG]
theorem CC{L:List RN}(h:¬ 16<L.length){k:Nat}(hk:k<L.length)(D:rU L k=true)(hb:∀j,j<k->rU L j=false):fE L=4/\fP L=(fm L k).pos:=by
 unfold fE fP pG;rw[ay h,D2 hk D hb];simp_all
theorem CD{L:List RN}(h:¬ 16<L.length)(E:∀j,j<L.length->rU L j=false){k:Nat}(hk:k<L.length)(D:tZ L k=true)(hb:∀j,j<k->tZ L j=false):fE L=5/\fP L=(fm L k).pos:=by
 unfold fE fP pG;rw[ay h,Lx E];simp only;rw[D2 hk D hb];simp_all
theorem CE{L:List RN}(h:¬ 16<L.length)(D:∀j,j<L.length->rU L j=false)(hb:∀j,j<L.length->tZ L j=false):fE L=UZ L/\fP L=U0 L:=by
 unfold fE fP pG UZ U0;grind
def rL(L:List RN)(k:Nat)(b:Int):Bool:=(L.take k).any λm=>m.name==b
theorem RM{L:List RN}{k:Nat}{n:RN}(h:fm L k=n):tZ L k=if n.kind==5||n.kind==4 then(fm L n.parent.toNat).kind==3 else(n.kind==3||n.kind==2)&&(fq L (k:Int)).length==0:=by
 subst h;rfl
theorem Ly(L:List RN)(b:Int):rL L L.length b=mV L b:=by grind[rL,mV]
theorem Hf{L:List RN}{n:Nat}(h:L.length=n)(b:Int):rL L n b=mV L b:=by subst h;exact Ly L b
theorem Hg{L:List RN}{k:Nat}{n:RN}(h:L[k]? =some n)(b:Int):rL L (k+1) b=(rL L k b||n.name==b):=by
 have D:=(aJ.1 h).1;have e:L[k]=n:=(aJ.1 h).2;unfold rL;rw[tq D,List.any_append,e];simp
theorem OH{L:List RN}{k:Nat}{n:RN}(h:L[k]? =some n):rU L k=rL L k n.name:=by unfold rU rL;rw[dK h]
end Ch
theorem Gg.set{w:World}{sb:Nat}{f f':Int->Bool}(h:Gg w sb f){n:Nat}(G:n<256)(E:∀m:Nat,m<256->f' m=(f m||(n:Int)==(m:Int))):Gg (w.setCell ⟨sb,n,none⟩ (.bool true)) sb f':=by
 obtain⟨C,D,hs,F⟩:=h;refine⟨_,ak _ D,by simp[hs],λm hm=>?_⟩;rw[E m hm]
 by_cases e:n=m
 ·subst e;rw[pS (by omega)];simp
 rw[nK e,F m hm]
 have:((n:Int)==(m:Int))=false:=by simp;omega
 rw[this,Bool.or_false]
theorem Gg.az{S:Nat->Prop}{w w':World}{sb:Nat}{f:Int->Bool}(h:Gg w sb f)(k:Kp S w w')(hs:¬S sb):Gg w' sb f:=by
 obtain⟨C,D,r⟩:=h;exact⟨C,k.at_ D hs,r⟩
theorem Gg.free{w:World}{sb:Nat}{f:Int->Bool}(h:Gg w sb f)(o:Nat):w.frozen? ⟨sb,o,none⟩=false:=by
 obtain⟨C,D,_⟩:=h;simp[World.frozen?,D]
theorem RO:(prog.info? 294).map (·.size)=some 256:=by kernel_rfl
def U1:Array Value:=#[.bool false,.bool false,.bool false,.bool false,.bool false,.bool false,.bool false,.bool false,.bool false,.bool false,.bool false,.bool false,.bool false,.bool false,.bool false,.bool false,.bool false,.bool false,.bool false,.bool false,.bool false,.bool false,.bool false,.bool false,.bool false,.bool false,.bool false,.bool false,.bool false,.bool false,.bool false,.bool false,.bool false,.bool false,.bool false,.bool false,.bool false,.bool false,.bool false,.bool false,.bool false,.bool false,.bool false,.bool false,.bool false,.bool false,.bool false,.bool false,.bool false,.bool false,.bool false,.bool false,.bool false,.bool false,.bool false,.bool false,.bool false,.bool false,.bool false,.bool false,.bool false,.bool false,.bool false,.bool false,.bool false,.bool false,.bool false,.bool false,.bool false,.bool false,.bool false,.bool false,.bool false,.bool false,.bool false,.bool false,.bool false,.bool false,.bool false,.bool false,.bool false,.bool false,.bool false,.bool false,.bool false,.bool false,.bool false,.bool false,.bool false,.bool false,.bool false,.bool false,.bool false,.bool false,.bool false,.bool false,.bool false,.bool false,.bool false,.bool false,.bool false,.bool false,.bool false,.bool false,.bool false,.bool false,.bool false,.bool false,.bool false,.bool false,.bool false,.bool false,.bool false,.bool false,.bool false,.bool false,.bool false,.bool false,.bool false,.bool false,.bool false,.bool false,.bool false,.bool false,.bool false,.bool false,.bool false,.bool false,.bool false,.bool false,.bool false,.bool false,.bool false,.bool false,.bool false,.bool false,.bool false,.bool false,.bool false,.bool false,.bool false,.bool false,.bool false,.bool false,.bool false,.bool false,.bool false,.bool false,.bool false,.bool false,.bool false,.bool false,.bool false,.bool false,.bool false,.bool false,.bool false,.bool false,.bool false,.bool false,.bool false,.bool false,.bool false,.bool false,.bool false,.bool false,.bool false,.bool false,.bool false,.bool false,.bool false,.bool false,.bool false,.bool false,.bool false,.bool false,.bool false,.bool false,.bool false,.bool false,.bool false,.bool false,.bool false,.bool false,.bool false,.bool false,.bool false,.bool false,.bool false,.bool false,.bool false,.bool false,.bool false,.bool false,.bool false,.bool false,.bool false,.bool false,.bool false,.bool false,.bool false,.bool false,.bool false,.bool false,.bool false,.bool false,.bool false,.bool false,.bool false,.bool false,.bool false,.bool false,.bool false,.bool false,.bool false,.bool false,.bool false,.bool false,.bool false,.bool false,.bool false,.bool false,.bool false,.bool false,.bool false,.bool false,.bool false,.bool false,.bool false,.bool false,.bool false,.bool false,.bool false,.bool false,.bool false,.bool false,.bool false,.bool false,.bool false,.bool false,.bool false,.bool false,.bool false,.bool false,.bool false,.bool false,.bool false,.bool false,.bool false,.bool false,.bool false,.bool false,.bool false,.bool false,.bool false,.bool false]
theorem Jx:U1=Array.replicate 256 (.bool false):=by rfl
theorem Xk(k:Nat)(hk:k<256):U1[k]? =some (.bool false):=by
 grind[Jx]
theorem Lz:U1.size=256:=by rw[Jx];simp
structure TI(l:List NV):Prop where
 len:l.length<=300
 nm:∀x∈l,0<=x.n.name/\x.n.name<=255
 up:∀(k:Nat) (x:NV),l[k]? =some x->(x.n.kind=4\/x.n.kind=5)->∃p:Nat,x.n.parent=p/\p<l.length
 tr:∀x∈l,x.n.trans.length<=300/\Xj x.n
section
variable (w:World) (B cb:Nat)
theorem Hh(l:List NV)(v:Value)(hF:jW w B cb l v)(hO:TI l):
 Calls prog 195 #[.pointer (some ⟨cb,0,none⟩)] w λx w'=>x= .returned (.tuple #[.int .i64 (fE (Ch.mk l)),.int .i64 (fP (Ch.mk l))])/\Kp (λ_=>False) w w':=by
 have cc:=hO.len;obtain⟨ao,cap,rfl⟩:=hF.2.1.len;have zc:=hF.cell;have Hi:=eI l
 by_cases bt:16<l.length
 ·have Ag:(16:Int)<(l.length:Int):=by omega
  obtain⟨x,hx⟩:∃x,l[16]? =some x:=⟨_,ar bt⟩
  obtain⟨g,a1,hv,ba,D,aa⟩:=hF.2.1.form hx;simp only[aK]at hv;obtain⟨rfl,-,rfl⟩:=hv;have z3:_=some _:=D 3 (by omega);have J:=af (D3 (L:=Ch.mk l) (by omega));have ad:fm (Ch.mk l) 16=x.n:=dK (by unfold Ch.mk;rw[bw,hx];rfl);rw[ad]at J;clear D aa hF hO Hi;simp only[Nat.reduceMul,Nat.reduceAdd]at z3
  go_enter func195,ntmps195
  go_wp2
  go_quiet (fail)
  go_wp2;go_ret2;rw[J.out.1,J.out.2];exact⟨rfl,(Kp.refl _ _).drewN _⟩
 have Ag:¬(16:Int)<(l.length:Int):=by omega
 have a4:¬ 16<(Ch.mk l).length:=by omega
 have HO:=af hO;have HF:=af hF;have cg:=aR hF.1;clear hO hF
 go_enter func195,ntmps195
 go_upto_region 5 with(fail)
 refine(λbr:∀w1:World,Kp (λ_=>False) w w1->Gg w1 w.heap.size (rL (Ch.mk l) 0)->Code.wp _ _ _ _ w1=>br _ ((Kp.refl _ _).alloc _) ⟨_,an w _,Lz,λn hn=>Xk n hn⟩) ?_;intro w1 K1 be;have bx:=HF.out.au K1;clear zc HF;generalize cn:w.heap.size=sb at*
 go_loopw [5] (λi wr=>∃k:Nat,i= .int .i64 k/\k<=l.length/\Hid (∀j,j<k->rU (Ch.mk l) j=false)/\Gg wr sb (rL (Ch.mk l) k)/\Kp (λi=>i=sb) w1 wr) (λi _=>l.length-(intOf i).toNat)
 case atStart=>exact⟨0,rfl,aG _,af (λj h=>absurd h (by omega)),be,Kp.refl _ _⟩
 case round=>
  obtain⟨k,rfl,hk,HD,hS,KW⟩:=hrel
  have fW:jW wr B cb l (.slice ao l.length cap):=bx.oD KW (λi cur T hi _ hT e=>by
   subst e;obtain⟨C,hC,_⟩:=be;rw[hC]at hi;simp only[bq,dI]at hi
   rcases hT with h|h|h|h<;>rw[h]at hi<;>exact absurd hi.2.1 (by decide))
  have zc:=fW.cell
  by_cases a3:k<l.length
  ·have bk:(k:Int)<(l.length:Int):=by omega
   obtain⟨x,hx⟩:∃x,l[k]? =some x:=⟨_,ar a3⟩
   have am:(Ch.mk l)[k]? =some x.n:=by unfold Ch.mk;rw[bw,hx];rfl
   obtain⟨g,a1,hv,ba,D,aa⟩:=fW.2.1.form hx;simp only[aK]at hv;obtain⟨rfl,-,rfl⟩:=hv;have cm:=HO.out.nm x (aM hx)
   obtain⟨n,hn⟩:∃n:Nat,x.n.name=n:=⟨x.n.name.toNat,by omega⟩
   have Bs:n<256:=by omega
   have ck:(n:Int)<256:=by omega
   have z0:wr.cell? ⟨g,k*7,none⟩=some (.int .u8 n):=by rw[<-hn];exact D 0 (by omega)
   have z3:_=some _:=D 3 (by omega);have zs:=hS.cell n Bs;have fs:=hS.free n;have O:=OH am;rw[hn]at O;have ad:=dK am
   cases q:rL (Ch.mk l) k (n:Int)with
   |true=>
    have J:=af (CC a4 (by omega) (by rw[O];exact q) HD.out);rw[ad]at J;have KZ:=af (K1.trans' KW (λi hi x=>by omega));rw[q]at zs;clear D aa fW hS KW HD O hn;go_wp2
    go_quiet (fail)
    go_wp2;go_ret2;rw[J.out.1,J.out.2];exact⟨rfl,KZ.out.drewN _⟩
   |false=>?_
   have bo:=af (show∀j,j<k+1->rU (Ch.mk l) j=false from λj hj=>by
    rcases nY (lI hj)with h|h
    ·exact HD.out j h
    subst h;rw[O];exact q)
   have b0:=af (hS.set Bs (f':=rL (Ch.mk l) (k+1)) (λm _=>by rw[Hg am,hn]));have KZ:=af (KW.setCell (p:=⟨sb,n,none⟩) (λ_=>rfl) (.bool true));rw[q]at zs;clear D aa fW hS KW HD O hn;go_wp2
   go_roundw
   case rel=>exact⟨k+1,by go_num,by omega,bo,b0.out,KZ.out⟩
   case measure=>simp[intOf];omega
  have ci:¬(k:Int)<(l.length:Int):=by omega
  obtain rfl:k=l.length:=by omega
  have a8:=af (show∀j,j<(Ch.mk l).length->rU (Ch.mk l) j=false by rw[Hi];exact HD.out);clear HD
  go_upto_region 11 with(fail)
  have K2:=K1.trans' KW (λi hi x=>by omega)
  go_loopw [6] (λi wq=>∃k:Nat,i= .int .i64 k/\k<=l.length/\Hid (∀j,j<k->tZ (Ch.mk l) j=false)/\Kp (λ_=>False) wr wq) (λi _=>l.length-(intOf i).toNat)
  case atStart=>exact⟨0,rfl,aG _,af (λj h=>absurd h (by omega)),Kp.refl _ _⟩
  case round=>
   obtain⟨k,rfl,hk,HM,KQ⟩:=hrel;have yQ:=fW.au KQ;have ca:=yQ.cell
   by_cases a3:k<l.length
   ·have bk:(k:Int)<(l.length:Int):=by omega
    obtain⟨x,hx⟩:∃x,l[k]? =some x:=⟨_,ar a3⟩
    have am:(Ch.mk l)[k]? =some x.n:=by unfold Ch.mk;rw[bw,hx];rfl
    obtain⟨g,a1,hv,ba,D,aa⟩:=yQ.2.1.form hx;simp only[aK]at hv;obtain⟨rfl,-,rfl⟩:=hv;have a7:=aM hx;have z0:wr.cell? ⟨g,k*7,none⟩=some _:=D 0 (by omega);have z1:_=some _:=D 1 (by omega);have z2:_=some _:=D 2 (by omega);have z3:_=some _:=D 3 (by omega);have z4:_=some _:=D 4 (by omega);have z5:_=some _:=D 5 (by omega);have z6:_=some _:=D 6 (by omega);obtain⟨ea,ec,b1⟩:=bn (yQ.2.1.nR x a7);obtain⟨la,lc,b6⟩:=bn (yQ.2.1.rJ x a7);obtain⟨ta,tc,Qz⟩:=bn (yQ.2.1.j_ x a7);rw[b1]at z4;rw[b6]at z5;rw[Qz]at z6;have HQ:=af (ae yQ KQ);clear yQ KQ D aa zc;have K3:Kp (λ_=>False) wr (wr.alloc (.cells #[.int .u8 x.n.name,.int .i64 x.n.kind,.int .i64 x.n.parent,.int .i64 x.n.pos,.slice ea x.n.enter.length ec,.slice la x.n.cA.length lc,.slice ta x.n.trans.length tc] 223)):=(Kp.refl _ _).alloc _;have bi:=an wr (.cells #[.int .u8 x.n.name,.int .i64 x.n.kind,.int .i64 x.n.parent,.int .i64 x.n.pos,.slice ea x.n.enter.length ec,.slice la x.n.cA.length lc,.slice ta x.n.trans.length tc] 223)
    go_upto_region 14 with(fail)
    generalize wr.alloc (.cells #[.int .u8 x.n.name,.int .i64 x.n.kind,.int .i64 x.n.parent,.int .i64 x.n.pos,.slice ea x.n.enter.length ec,.slice la x.n.cA.length lc,.slice ta x.n.trans.length tc] 223)=w3 at*;have Xl:=HQ.out.1.au K3;have E:=af (nT w3 B cb l _ (k:Int) Xl (by omega));clear Xl z0 z1 z2 z3 z4 z5 z6 ca
    go_wp2_with fail
    refine b9 E ?_;rintro y w4 ⟨u,rfl,hu,K4⟩;obtain⟨ua,uc,rfl⟩:=bn hu;have a2:=K3.trans K4;have ap:=K4.at_ bi (λx=>x);generalize wr.heap.size=nb at*;have OI:=HQ.out.1.au a2;have cp:=OI.cell
    have c1:w4.cell? ⟨nb,1,none⟩=some (.int .i64 x.n.kind):=by rw[World.cell?,ap];rfl
    have c2:w4.cell? ⟨nb,2,none⟩=some (.int .i64 x.n.parent):=by rw[World.cell?,ap];rfl
    have c3:w4.cell? ⟨nb,3,none⟩=some (.int .i64 x.n.pos):=by rw[World.cell?,ap];rfl
    have ad:=dK am;have KZ:=af (K2.trans (HQ.out.2.trans a2));have KR:=af (HQ.out.2.trans a2);have G:=af (λh=>CD a4 a8.out (k:=k) (by omega) h HM.out);rw[ad]at G
    have I:=af (show tZ (Ch.mk l) k=false->∀j,j<k+1->tZ (Ch.mk l) j=false from λq j hj=>by
     rcases nY (lI hj)with h|h
     ·exact HM.out j h
     subst h;exact q)
    have Y:=RM ad;have X:=HO.out.up k x hx;clear E hu K3 K4 bi ap HQ
    by_cases a0:x.n.kind=5
    ·have U:=a0
     obtain⟨p,hp,a5⟩:=X (by omega)
     obtain⟨y,hy⟩:∃y,l[p]? =some y:=⟨_,ar a5⟩
     obtain⟨g2,a9,aj,_,F,_⟩:=OI.2.1.form hy;simp only[aK,bq,dH,bS,dx]at aj;obtain⟨rfl,rfl⟩:=aj;have b7:_=some _:=F 1 (by omega)
     have bm:(p:Int)<(l.length:Int):=by omega
     have a6:fm (Ch.mk l) p=y.n:=dK (by unfold Ch.mk;rw[bw,hy];rfl);rw[U,hp,db,a6]at Y;rw[U]at c1;rw[hp]at c2;have Z:=af Y;clear Y F OI X hp U a0
     cases q:y.n.kind==3 with
     |true=>
      have J:=af (G.out (by rw[Z.out];simpa using q));go_wp2
      go_quiet (fail)
      go_wp2
      go_quiet (fail)
      go_wp2;go_ret2;rw[J.out.1,J.out.2];exact⟨rfl,(KZ.out.drewN _).drewN _⟩
     |false=>?_
     have hN:=af (I.out (by rw[Z.out];simpa using q));go_wp2
     go_quiet (fail)
     go_wp2
     go_roundw
     case rel=>exact⟨k+1,by go_num,by omega,hN,KR.out.drewN _⟩
     case measure=>simp[intOf];omega
    by_cases aS:x.n.kind=4
    ·have U:=aS
     obtain⟨p,hp,a5⟩:=X (by omega)
     obtain⟨y,hy⟩:∃y,l[p]? =some y:=⟨_,ar a5⟩
     obtain⟨g2,a9,aj,_,F,_⟩:=OI.2.1.form hy;simp only[aK,bq,dH,bS,dx]at aj;obtain⟨rfl,rfl⟩:=aj;have b7:_=some _:=F 1 (by omega)
     have bm:(p:Int)<(l.length:Int):=by omega
     have a6:fm (Ch.mk l) p=y.n:=dK (by unfold Ch.mk;rw[bw,hy];rfl);rw[U,hp,db,a6]at Y;rw[U]at c1;rw[hp]at c2;have Z:=af Y;clear Y F OI X hp U aS
     cases q:y.n.kind==3 with
     |true=>
      have J:=af (G.out (by rw[Z.out];simpa using q));go_wp2
      go_quiet (fail)
      go_wp2
      go_quiet (fail)
      go_wp2;go_ret2;rw[J.out.1,J.out.2];exact⟨rfl,(KZ.out.drewN _).drewN _⟩
     |false=>?_
     have hN:=af (I.out (by rw[Z.out];simpa using q));go_wp2
     go_quiet (fail)
     go_wp2
     go_roundw
     case rel=>exact⟨k+1,by go_num,by omega,hN,KR.out.drewN _⟩
     case measure=>simp[intOf];omega
    by_cases aO:x.n.kind=3
    ·rw[aO]at Y c1
     have Z:=af Y;clear Y OI X aO
     by_cases q:(fq (Ch.mk l) (k:Int)).length=0
     ·have q':((fq (Ch.mk l) (k:Int)).length:Int)=0:=by omega
      have J:=af (G.out (by rw[Z.out];simp[q]));clear q;go_wp2
      go_quiet (fail)
      go_wp2;go_ret2;rw[J.out.1,J.out.2];exact⟨rfl,KZ.out.drewN _⟩
     have q':(((fq (Ch.mk l) (k:Int)).length:Int)==0)=false:=by simp;intro h;simp[h]at q
     have hN:=af (I.out (by rw[Z.out];simp at q⊢;exact q));clear q;go_wp2
     go_roundw
     case rel=>exact⟨k+1,by go_num,by omega,hN,KR.out⟩
     case measure=>simp[intOf];omega
    by_cases aI:x.n.kind=2
    ·rw[aI]at Y c1
     have Z:=af Y;clear Y OI X aI
     by_cases q:(fq (Ch.mk l) (k:Int)).length=0
     ·have q':((fq (Ch.mk l) (k:Int)).length:Int)=0:=by omega
      have J:=af (G.out (by rw[Z.out];simp[q]));clear q;go_wp2
      go_quiet (fail)
      go_wp2;go_ret2;rw[J.out.1,J.out.2];exact⟨rfl,KZ.out.drewN _⟩
     have q':(((fq (Ch.mk l) (k:Int)).length:Int)==0)=false:=by simp;intro h;simp[h]at q
     have hN:=af (I.out (by rw[Z.out];simp at q⊢;exact q));clear q;go_wp2
     go_roundw
     case rel=>exact⟨k+1,by go_num,by omega,hN,KR.out⟩
     case measure=>simp[intOf];omega
    have b5:(x.n.kind==5)=false:=by simpa using a0
    have b4:(x.n.kind==4)=false:=by simpa using aS
    have b3:(x.n.kind==3)=false:=by simpa using aO
    have b2:(x.n.kind==2)=false:=by simpa using aI
    rw[b5,b4,b3,b2]at Y;have Z:=af Y;have hN:=af (I.out (by rw[Z.out];rfl));clear Y OI X a0 aS aO aI;go_wp2
    go_roundw
    case rel=>exact⟨k+1,by go_num,by omega,hN,KR.out⟩
    case measure=>simp[intOf];omega
   have ce:¬(k:Int)<(l.length:Int):=by omega
   obtain rfl:k=l.length:=by omega
   have J:=af (CE a4 a8.out (by rw[Hi];exact HM.out));obtain⟨C,hC,bc,bb⟩:=hS.au KQ;have EN:=af (He wr B cb l _ C yQ (by omega) HO.out.tr bc (λn hn=>by rw[bb n hn,Hf Hi]));have KZ:=af (K2.trans KQ);clear zc yQ KQ bb
   go_wp2_with (refine wpList_load_row rfl 294 (.tmp 4) rfl sb rfl 294 C (0,0) _ hC underlying294 (by rfl) (by rw[bc];exact RO) ?_)
   refine b9 EN ?_;rintro y w4 ⟨rfl,K4⟩;go_wp2;go_ret2;rw[J.out.1,J.out.2];exact⟨rfl,KZ.out.trans K4⟩
end
namespace Ch
def fM(L:List RN)(b:Int):Int:=match(List.range L.length).find? (λi=>(fm L i).name==b)with|some i=>(i:Int)|none=>-1
def qA(on:List Bool)(k:Nat):Bool:=on.getD k false
def j4(L:List RN)(t:ByteArray):Nat->Nat->Int->List Bool->Option (List Bool)
 |0,_,_,on=>some on
 |f+1,k,last,on=>if fM L (ag t k)<=last then none else j4 L t f (k+1) (fM L (ag t k)) (on.set (fM L (ag t k)).toNat true)
def nA(L:List RN)(t:ByteArray):Option (List Bool):=j4 L t t.size 0 (-1) (List.replicate L.length false)
def mw(L:List RN):List Nat:=(List.range L.length).filter λi=>(fm L i).kind==5
def Jy(t:ByteArray)(k:Nat):Bool:=if k % 2==0 then ez (ag t k)else iw 49 (ag t k)
def OJ(t:ByteArray):Bool:=!(decide (16<t.size)||t.size % 2==1)&&(List.range t.size).all (Jy t)
theorem CF{n:Nat}{q:Nat->Bool}(h:∀i,i<n->q i=false):(match(List.range n).find? q with|some i=>((i:Nat):Int)|none=>-1)= -1:=by
 grind
theorem kY(L:List RN)(b:Int):(fM L b= -1/\place (L.map RN.st) b= -2/\∀i,i<L.length->(fm L i).name≠b)\/∃i:Nat,i<L.length/\fM L b=i/\place (L.map RN.st) b=i/\(fm L i).name=b:=by
 unfold fM place
 rcases kW b (L.map RN.st) 0 with⟨e,g⟩|⟨j,s,e1,e2,e3,I⟩
 ·left
  have F:∀i,i<L.length->(fm L i).name≠b:=λi hi=>by
   rw[dK (ar hi)];exact g _ (ib.2 ⟨L[i],List.getElem_mem hi,rfl⟩)
  refine⟨?_,e,F⟩;rw[CF];intro i hi;have:=F i hi;simpa using this
 right
 rw[bw,nJ]at e1;obtain⟨m,hm,rfl⟩:=e1;have E:=(aJ.1 hm).1
 have hb:(List.range L.length).find? (λi=>(fm L i).name==b)=some j:=by
  rw[List.find?_range_eq_some];refine⟨by rw[dK hm];have G:m.name=b:=e2;simpa using G,by simpa using E,λk hk=>?_⟩
  have D:k<L.length:=by omega
  rw[dK (ar D)];have:=I k (L[k]).st hk (by rw[bw,ar D];rfl);have G:(L[k]).name≠b:=this;simpa using G
 rw[hb];exact⟨j,E,rfl,by rw[e3];simp,by rw[dK hm];exact e2⟩
def iN(n:Nat)(on l:List Bool):Prop:=on.length=n/\l.length=16/\∀k,qA on k=bit l k
theorem iN.set{n i:Nat}{on l:List Bool}(h:iN n on l)(hi:i<n)(G:n<=16):iN n (on.set i true) (sq l (i:Int) true):=by
 obtain⟨D,E,F⟩:=h;refine⟨by simp[D],by show(l.set i true).length=16;simp[E],λk=>?_⟩;show(on.set i true).getD k false=(l.set i true).getD k false;have:=F k;grind[qA,bit]
theorem Hj{L:List RN}{t:ByteArray}(F:L.length<=16):∀(f k:Nat) (last:Int) (on l:List Bool),iN L.length on l-> -1<=last->
 (j4 L t f k last on=none/\WN (L.map RN.st) t f k last l=none)\/∃D E,j4 L t f k last on=some D/\WN (L.map RN.st) t f k last l=some E/\iN L.length D E:=by
 intro f
 induction f with
 |zero=>intro k last on l h _;exact .inr ⟨on,l,rfl,rfl,h⟩
 |succ f G=>?_
 intro k last on l h I;simp only[j4,WN]
 rcases kY L (ag t k)with⟨e1,e2,_⟩|⟨i,hi,e1,e2,_⟩
 ·grind
 rw[e1,e2]
 by_cases c:(i:Int)<=last
 ·simp_all
 rw[ay c,ay c];exact G (k+1) i _ _ (h.set hi F) (by omega)
theorem Bt{L:List RN}{i:Nat}(hi:i<L.length):a_ (L.map RN.st) (i:Int)=(fm L i).kind:=by
 unfold a_;rw[gR,bw,ar hi,dK (ar hi)];rfl
theorem D4{L:List RN}{i:Nat}(hi:i<L.length):aN (L.map RN.st) (i:Int)=(fm L i).parent:=by
 unfold aN;rw[gR,bw,ar hi,dK (ar hi)];rfl
theorem RU{L:List RN}{i:Nat}(hi:i<L.length):gY (L.map RN.st) i=((fm L i).kind==5):=by
 unfold gY;rw[bw,ar hi,dK (ar hi)];rfl
def Xm(L:List RN):Prop:=∀i j,i<L.length->j<L.length->(fm L i).name=(fm L j).name->i=j
theorem OK(t:ByteArray):∀(f k:Nat),t.size<=k+f->k % 2=0->t.size % 2=0->Wd t f k=(List.range' k (t.size-k)).all (Jy t):=by
 intro f
 induction f using Nat.strongRecOn with
 |ind f D=>?_
 intro k E F G
 match f,D with
 |0,_=>
  have:t.size-k=0:=by omega
  rw[this];rfl
 |f+1,D=>
  simp only[Wd]
  by_cases c:k+1<t.size
  ·rw[aq c]
   have e:t.size-k=(t.size-(k+2))+1+1:=by omega
   rw[e,List.range'_succ,List.range'_succ,List.all_cons,List.all_cons]
   grind[Jy,ez,ag,iw]
  grind
theorem RV(t:ByteArray):wY t=OJ t:=by
 grind[wY,OJ,hm,OK]
theorem TJ(n:Nat):iN n (List.replicate n false) fT:=by
 refine⟨by simp,by simp[fT],λk=>?_⟩;grind[qA,bit,fT]
theorem RW{L:List RN}(h:∀j,j<L.length->rU L j=false):Xm L:=by
 have F:∀i j,i<j->j<L.length->(fm L i).name≠(fm L j).name:=by
  intro i j E D e;have:=h j D;unfold rU at this;rw[List.any_eq_false]at this
  have hi:i<L.length:=by omega
  have:=this L[i] (by rw[List.mem_take_iff_getElem];exact⟨i,by omega,rfl⟩);rw[dK (ar hi)]at e;simp_all
 intro i j hi D e
 grind
theorem Hk{L:List RN}{r:Rs}(D:NR L r)(h:(fa r.ai r.cN).1=0):Xm L/\L.length<=16:=by
 rw[<-yH D]at h;grind[pG,RW,rU]
theorem Hl{L:List RN}{b:Int}{k:Nat}(hk:k<L.length)(h:((fm L k).name==b)=true)(hb:∀j,j<k->((fm L j).name==b)=false):fM L b=k:=by
 unfold fM
 have:(List.range L.length).find? (λi=>(fm L i).name==b)=some k:=by
  simp_all
 grind
theorem D5{L:List RN}{b:Int}(hb:∀j,j<L.length->((fm L j).name==b)=false):fM L b= -1:=by
 grind[fM,fm]
theorem lz{l:List NV}{k:Nat}{x:NV}(D:l[k]? =some x):fm (mk l) k=x.n:=dK (by unfold mk;rw[bw,D];rfl)
def rM(L:List RN)(k:Nat):List Nat:=(List.range k).filter λi=>(fm L i).kind==5
theorem Hm(L:List RN)(k:Nat):rM L (k+1)=if(fm L k).kind==5 then rM L k++[k]else rM L k:=by
 unfold rM;rw[l0,ic,jI];grind
theorem LB(L:List RN)(k:Nat):(rM L k).length<=k:=by
 grind[rM,fm]
end Ch
section
variable (w:World) (B cb:Nat)
theorem uG(v:Int):
 Calls prog 200 #[.int .i64 v] w λx w'=>x= .returned (.bool (mT v))/\w'=w:=by
 unfold mT
 cases D:decide (-99<=v)<;>cases E:decide (v<=99)<;>
  (go_enter func200,ntmps200
   go_wp2;go_ret
   exact⟨rfl,rfl⟩)
theorem uH(l:List NV)(v:Value)(b:Int)(hF:jW w B cb l v)(hl:l.length<=1000):
 Calls prog 236 #[.pointer (some ⟨cb,0,none⟩),.int .u8 b] w λx w'=>x= .returned (.int .i64 (fM (Ch.mk l) b))/\w'=w:=by
 obtain⟨ao,cap,rfl⟩:=hF.2.1.len;have zc:=hF.cell;have Hi:=eI l;have Z:=af hF;clear hF
 go_enter func236,ntmps236
 go_wp2_with fail
 go_loop [5] (λi=>∃k:Nat,i= .int .i64 k/\k<=l.length/\Hid (∀j,j<k->((fm (Ch.mk l) j).name==b)=false)) (λi=>l.length-(intOf i).toNat)
 case atStart=>exact⟨0,rfl,aG _,af (λj h=>absurd h (by omega))⟩
 case round=>
  obtain⟨k,rfl,hk,F⟩:=hrel
  by_cases J:k<l.length
  ·have U:(k:Int)<(l.length:Int):=by omega
   obtain⟨x,Y⟩:∃x,l[k]? =some x:=⟨_,ar J⟩
   obtain⟨g,O,X,_,D,_⟩:=Z.out.2.1.form Y;simp only[aK]at X;obtain⟨rfl,-,rfl⟩:=X;have z0:w.cell? ⟨g,k*7,none⟩=some _:=D 0 (by omega);have E:=lz Y;clear D
   cases q:x.n.name==b with
   |true=>
    have I:=af (Hl (L:=Ch.mk l) (by omega) (by rw[E];exact q) F.out);go_wp2;go_ret;rw[I.out];exact⟨rfl,rfl⟩
   |false=>?_
   have G:=af (show∀j,j<k+1->((fm (Ch.mk l) j).name==b)=false from λj hj=>by
    rcases nY (lI hj)with h|h
    ·exact F.out j h
    subst h;rw[E];exact q)
   go_wp2
   go_round
   case rel=>exact⟨k+1,by go_num,by omega,G⟩
   case measure=>simp[intOf];omega
  have aa:¬(k:Int)<(l.length:Int):=by omega
  obtain rfl:k=l.length:=by omega
  have I:=af (D5 (L:=Ch.mk l) (b:=b) (by rw[Hi];exact F.out));go_wp2;go_ret;rw[I.out];exact⟨rfl,rfl⟩
theorem wF(l:List NV)(v:Value)(hF:jW w B cb l v)(hl:l.length<=1000):
 Calls prog 201 #[.pointer (some ⟨cb,0,none⟩)] w λx w'=>∃u,x= .returned u/\w'.ownsRow w.heap.size 3 1 u (mw (Ch.mk l)).length (bI (jx (mw (Ch.mk l))))/\Kp (λ_=>False) w w':=by
 obtain⟨i0,hi,X,Y,Z⟩:=bY lX;obtain⟨ao,cap,rfl⟩:=hF.2.1.len
 go_enter func201,ntmps201
 go_wp2_with fail
 go_loopw [3,4] (λfv j wr=>∃k:Nat,j= .int .i64 k/\k<=l.length/\wr.ownsRow w.heap.size 3 1 fv (rM (Ch.mk l) k).length (bI (jx (rM (Ch.mk l) k)))/\Kp (λ_=>False) w wr) (λ_ j _=>l.length-(intOf j).toNat)
 case atStart=>exact⟨0,rfl,aG _,bT _ _ _ _,Kp.refl _ _⟩
 case round=>
  obtain⟨k,rfl,hk,I,F⟩:=hrel;have J:=hF.au F;have zc:=J.cell;have ap:=LB (Ch.mk l) k
  by_cases G:k<l.length
  ·have ad:(k:Int)<(l.length:Int):=by omega
   obtain⟨x,hx⟩:∃x,l[k]? =some x:=⟨_,ar G⟩
   obtain⟨g,aa,hv,aj,D,U⟩:=J.2.1.form hx;simp only[aK]at hv;obtain⟨rfl,-,rfl⟩:=hv;have z1:_=some _:=D 1 (by omega);have E:=Hm (Ch.mk l) k;rw[lz hx]at E;clear J D U
   cases q1:x.n.kind==5 with
   |false=>
    rw[q1]at E;have O:=af E;clear E;go_wp2
    go_roundw
    case rel=>exact⟨k+1,by go_num,by omega,by rw[O.out];exact I,F⟩
    case measure=>simp[intOf];omega
   |true=>?_
   rw[q1]at E;have O:=af (E.trans (aq rfl));have iG:=F.size;clear E
   go_wp2_with (at_builtin;refine hJ (P:=prog) _ rfl (.tmp 23) (.tmp 25) 38 rfl w.heap.size 3 i0 (.int .i64 0) 1 8 underlying38 hi X Y Z rfl (by decide) u3 (rM (Ch.mk l) k).length (bI (jx (rM (Ch.mk l) k))) rfl (by exact I.alloc _) ⟨wr.heap.size,0,none⟩ 1 1 [.int .i64 k] rfl rfl (by exact fy _ _ _) (by intro u hu;simp at hu;subst hu;rfl) (by unfold maxLen;omega) (by omega) (by simp;omega) ?_)
   intro v' w9 o9 g9 _;have K9:=(F.alloc (.cells #[.int .i64 k] 3)).grown (by exact g9) (λj hj G=>by have:=(I.lt j hj).1;omega);have HO:=af (ae o9 K9);clear o9 g9 K9 I F zc z1;go_wp2
   go_roundw
   case rel=>
    refine⟨k+1,by go_num,by omega,?_,HO.out.2⟩;rw[O.out,Bo];have:=HO.out.1;simpa[bI]using this
   case measure=>simp[intOf];omega
  have am:¬(k:Int)<(l.length:Int):=by omega
  obtain rfl:k=l.length:=by omega
  have HR:=af (show mw (Ch.mk l)=rM (Ch.mk l) l.length by unfold mw rM;rw[eI]);clear J;go_wp2;go_ret;rw[HR.out];exact⟨_,rfl,I,F⟩
end
namespace Ch
theorem OL{L:List RN}{i:Int}{j:Nat}(h:j∈fq L i):j<L.length:=by
 grind[fq]
theorem tN(L:List RN)(i:Int):(fq L i).length<=L.length:=by
 grind[fq,sT]
end Ch
def kG(w:World)(g:Nat)(on:List Bool):Prop:=w.heap[g]? =some (.cells (on.map Value.bool).toArray 4)
theorem kG.cell{w:World}{g:Nat}{on:List Bool}(h:kG w g on){k:Nat}(hk:k<on.length):w.cell? ⟨g,k,none⟩=some (.bool (qA on k)):=by
 unfold kG at h;simp[World.cell?,h,qA,hk]
theorem kG.free{w:World}{g:Nat}{on:List Bool}(h:kG w g on)(k:Nat):w.frozen? ⟨g,k,none⟩=false:=by unfold kG at h;simp[World.frozen?,h]
theorem kG.set{w:World}{g:Nat}{on:List Bool}(h:kG w g on)(k:Nat)(b:Bool):kG (w.setCell ⟨g,k,none⟩ (.bool b)) g (on.set k b):=by
 unfold kG at*;rw[ak _ h];simp_all
theorem kG.made{w:World}{base g n:Nat}(h:w.ownsRow base 4 1 (.slice (some ⟨g,0,none⟩) n n) n (madeCells #[Value.bool false] n).toList):kG w g (List.replicate n false):=by
 unfold kG
 have hm:(madeCells #[Value.bool false] n).toList=(List.replicate n false).map Value.bool:=by
  apply eL;intro j;unfold madeCells;grind
 rcases h.2 with⟨e,_⟩|⟨G,cap,D,e,_,E,I,_,iG,F⟩
 ·simp_all
 simp only[aK,bq,dH,dx,bS]at e;obtain⟨rfl,rfl⟩:=e;rw[E]
 have:D=((List.replicate n false).map Value.bool).toArray:=by
  grind
 rw[this]
theorem yR:(prog.info? 4).map (λi=>(i.zero,i.size,i.bytes))=some (some (.bool false),1,1):=by kernel_rfl
namespace Ch
theorem Hn{L:List RN}{t:ByteArray}{k:Nat}{last:Int}{on:List Bool}(hk:k<t.size)(h:fM L (ag t k)<=last):j4 L t (t.size-k) k last on=none:=by
 rw[show t.size-k=(t.size-(k+1))+1 by omega];grind[j4]
theorem Ho{L:List RN}{t:ByteArray}{k i:Nat}{last:Int}{on:List Bool}(hk:k<t.size)(hi:fM L (ag t k)=i)(h:¬(i:Int)<=last):j4 L t (t.size-k) k last on=j4 L t (t.size-(k+1)) (k+1) i (on.set i true):=by
 rw[show t.size-k=(t.size-(k+1))+1 by omega];grind[j4]
theorem LD(L:List RN)(b:Int):fM L b= -1\/∃i:Nat,fM L b=i/\i<L.length:=by
 grind[kY]
end Ch
def SpQ(w w':World)(l:List NV)(s:ByteArray)(u:Value):Prop:=Kp (λ_=>False) w w'/\
 ∀on,nA (Ch.mk l) s=some on->u= .slice (some ⟨w.heap.size,0,none⟩) l.length l.length/\kG w' w.heap.size on/\on.length=l.length
section
variable (w:World) (B cb:Nat)
theorem D6(l:List NV)(v:Value)(s:ByteArray)(hF:jW w B cb l v)(hl:l.length<=1000)(hs:s.size<=maxLen):
 Calls prog 196 #[.pointer (some ⟨cb,0,none⟩),.string s] w λx w'=>∃u,x= .returned (.tuple #[u,.bool (nA (Ch.mk l) s).isSome])/\SpQ w w' l s u:=by
 obtain⟨i0,hi,ad,aj,am⟩:=bY yR;obtain⟨ao,cap,rfl⟩:=hF.2.1.len;have zc:=hF.cell;have a2:s.size<=9223372036854775807:=hs;have HF:=af hF;clear hF hs
 go_enter func196,ntmps196
 go_wp2_with (at_make;refine wpList_make_full w rfl (.tmp 14) (.tmp 14) 68 rfl w.heap.size 4 i0 (.bool false) 1 underlying68 hi ad aj .i64 .i64 l.length l.length l.length rfl rfl rfl rfl ?c1 ?c2 (aC _) ?_)
 case c1=>rw[am];omega
 case c2=>unfold maxLen;omega
 intro w4 o4 g4;have K4:Kp (λ_=>False) w w4:=(Kp.refl _ _).grown g4 (λi hi _=>by simp at hi);have LF:=kG.made o4;have OI:=HF.out.au K4;have HQ:=af (ae OI K4);clear zc HF o4 g4 OI K4;generalize hg:w.heap.size=g at*
 go_wp2_with fail
 go_loopw [7,8] (λlv kv wr=>∃(k:Nat) (last:Int) (on:List Bool),lv= .int .i64 last/\kv= .int .i64 k/\k<=s.size/\ -1<=last/\last<l.length/\on.length=l.length/\kG wr g on/\Hid (nA (Ch.mk l) s=j4 (Ch.mk l) s (s.size-k) k last on)/\Kp (λi=>i=g) w4 wr) (λ_ kv _=>s.size-(intOf kv).toNat)
 case atStart=>exact⟨0,-1,List.replicate l.length false,rfl,rfl,aG _,by omega,by omega,by simp,LF,af (by unfold nA;rw[eI];rfl),Kp.refl _ _⟩
 case round=>
  obtain⟨k,last,on,rfl,rfl,hk,a0,a1,Y,F,X,KW⟩:=hrel
  have fW:jW wr B cb l (.slice ao l.length cap):=HQ.out.1.oD KW (λi cur T hi _ hT e=>by
   subst e;unfold kG at LF;rw[LF]at hi;simp only[bq,dI]at hi
   rcases hT with h|h|h|h<;>rw[h]at hi<;>exact absurd hi.2.1 (by decide))
  have KZ:=af (HQ.out.2.trans' KW (λi hi x=>by omega))
  by_cases O:k<s.size
  ·have ap:(k:Int)<(s.size:Int):=by omega
   have U:ag s k=((s[k]'O).toNat:Int):=by simp[ag,O]
   have E:=af (uH wr B cb l _ ((s[k]'O).toNat:Int) fW hl)
   have I:=λh=>Hn (L:=Ch.mk l) (on:=on) O (last:=last) h
   have G:=λi hi h=>Ho (L:=Ch.mk l) (on:=on) (i:=i) O (last:=last) hi h
   have D:=LD (Ch.mk l) (ag s k);rw[U]at I G D;rw[eI]at D;generalize fM (Ch.mk l) ((s[k]'O).toNat:Int)=nr at*
   by_cases c:nr<=last
   ·have J:=af (X.out.trans (I c))
    clear I G D U fW X
    go_wp2_with fail
    refine hm E ?_;rintro x w5 ⟨rfl,e5⟩;rw[e5];go_wp2;go_ret2;exact⟨_,by rw[J.out];rfl,KZ.out,λZ h=>by rw[J.out]at h;cases h⟩
   obtain⟨i,rfl,aS⟩:∃i:Nat,nr=i/\i<l.length:=by
    rcases D with h|h
    ·omega
    exact h
   have J:=af (X.out.trans (G i rfl c))
   have aI:(i:Int)<(l.length:Int):=by omega
   have c':last<(i:Int):=by omega
   have zi:=F.cell (k:=i) (by omega);have fi:=F.free i;have aa:=af (F.set i true);have D7:=af (KW.setCell (p:=⟨g,i,none⟩) (λ_=>rfl) (.bool true));clear I G D U fW X F KW KZ
   go_wp2_with fail
   refine hm E ?_;rintro x w5 ⟨rfl,e5⟩;rw[e5];go_wp2
   go_roundw
   case rel=>exact⟨k+1,i,on.set i true,rfl,by go_num,by omega,by omega,by omega,by simp[Y],aa.out,af J.out,D7.out⟩
   case measure=>simp[intOf];omega
  have aO:¬(k:Int)<(s.size:Int):=by omega
  obtain rfl:k=s.size:=by omega
  have J:=af (show nA (Ch.mk l) s=some on by rw[X.out,Nat.sub_self];rfl);clear fW X;go_wp2;go_ret2
  exact⟨_,by rw[J.out];rfl,KZ.out,λZ h=>by
   rw[J.out]at h
   obtain rfl:on=Z:=by simpa using h
   subst hg
   exact⟨rfl,F,Y⟩⟩
end
namespace Ch
theorem xe(L:List RN):(mw L).length<=L.length:=by
 grind[mw,fm]
theorem Av{l:List Nat}{p:Nat->Bool}{k j:Nat}(h:l[k]? =some j):(l.take (k+1)).any p=((l.take k).any p||p j):=by
 rw[gO,h,List.any_append];simp
