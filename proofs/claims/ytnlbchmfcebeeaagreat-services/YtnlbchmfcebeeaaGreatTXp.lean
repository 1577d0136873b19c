import Derived.Test.YtnlbchmfcebeeaaGreatTXe
import Derived.Test.YtnlbchmfcebeeaaGreatTSa
set_option maxHeartbeats 12800000
set_option maxRecDepth 100000
namespace Go.Proofs.YtnlbchmfcebeeaaGreat
open Go.Proofs.Tryz Ch
open Or(inl inr)
namespace Ch
/-! Above and below. -/
theorem PW{ss:List St}(hu:Up ss)(h:Int):∀(f:Nat) (i:Int),(i+1).toNat<=f->ye ss h f i=aG ss h i:=by
 have F:∀(n f g:Nat) (i:Int),(i+1).toNat<=n->(i+1).toNat<=f->(i+1).toNat<=g->ye ss h f i=ye ss h g i:=by
  intro n;induction n with
  |zero=>
   grind[BE]
  |succ n J=>?_
  intro f g i I D E;by_cases c: -1<i
  ·match f,g,D,E with
   |0,_,D,_=>omega
   |_+1,0,_,E=>omega
   |f+1,g+1,D,E=>
    simp only[ye,c,decide_true,aQ];have:=jA hu c;grind
  grind
 intro f i G;exact F f f _ i G G (aC _)
theorem fF{ss}(hu:Up ss)h{i}(hi:0<=i):aG ss h i=(aW ss i==h||aG ss h (aW ss i)):=by
 have e:aG ss h i=ye ss h (i.toNat+1) i:=by unfold aG;rw[show(i+1).toNat=i.toNat+1 by omega]
 rw[e];simp only[ye,show-1<i by omega,decide_true,aQ];have:=jA hu (i:=i) oQ;grind[PW,aW]
theorem sf ss h{i}(hi:i<0):aG ss h i=false:=BE ss h _ oQ
theorem zK{ss}(hu:Up ss){P:Int->Prop}(D:P (-1))(E:∀i,0<=i->P (aW ss i)->P i):∀i,-1<=i->P i:=by
 have:∀(n:Nat) (i:Int),-1<=i->i<n->P i:=by
  intro n;induction n with
  |zero=>grind
  |succ n I=>?_
  intro i F G;by_cases c:0<=i
  ·have a:=jA hu (i:=i) oQ;grind[iE]
  grind
 intro i hi;exact this (i+1).toNat i hi oQ
theorem YY{ss}(hu:Up ss){h}{i}(hi:-1<=i):aG ss h i=true-> -1<=h/\h<i:=by
 refine zK hu (P:=λi=>aG ss h i=true-> -1<=h/\h<i) ?_ ?_ i hi
 ·grind[sf]
 intro i D E e;rw[fF hu h D]at e;have a:=jA hu (i:=i) oQ;grind[iE,aW]
theorem kC{ss}(hu:Up ss){h}{i}(e:aG ss h i=true): -1<=h/\h<i:=by
 by_cases c:0<=i
 ·exact YY hu oQ e
 grind[sf]
theorem PX{ss}(hu:Up ss){a}{b}{c}(D:aG ss a b=true)(E:-1<=c):aG ss b c=true->aG ss a c=true:=by
 refine zK hu (P:=λc=>aG ss b c=true->aG ss a c=true) ?_ ?_ c E
 ·grind[sf]
 grind[fF,aW]
theorem sK{ss}(hu:Up ss){a}{b}{c}(E:aG ss a b=true)(D:aG ss b c=true):aG ss a c=true:=
 PX hu E (by have:=kC hu D;omega) D
theorem Tp{ss}(hu:Up ss){a}{b}{c}(D:-1<=c):aG ss a c=true->aG ss b c=true->a=b\/aG ss a b=true\/aG ss b a=true:=by
 refine zK hu (P:=λc=>aG ss a c=true->aG ss b c=true->a=b\/aG ss a b=true\/aG ss b a=true) ?_ ?_ c D
 ·grind[sf]
 grind[fF,aW]
theorem N3{ss}(hu:Up ss){a}{b}{c}(D:aG ss a c=true)(E:aG ss b c=true):a=b\/aG ss a b=true\/aG ss b a=true:=
 Tp hu (by have:=kC hu D;omega) D E
theorem Bf{ss}(hu:Up ss){i}(hi:-1<=i):0<=i->aG ss (-1) i=true:=by
 refine zK hu (P:=λi=>0<=i->aG ss (-1) i=true) ?_ ?_ i hi
 ·omega
 intro i D E _;rw[fF hu _ D];by_cases c:aW ss i= -1
 ·simp_all
 have:=iE hu i;grind
structure vi ss:Prop where
 up:Up ss
 ne:0<ss.length
 root:∀k,k<ss.length->aW ss k= -1->k=0
 pre:∀k,k+1<ss.length->aW ss ((k+1:Nat):Int)=k\/aG ss (aW ss ((k+1:Nat):Int)) k=true
 pk:∀k,0<k->k<ss.length->bn ss (aW ss k)=2\/bn ss (aW ss k)=3
 Gp:∀k,k<ss.length->bn ss k=2\/bn ss k=3->∃j,j<ss.length/\bq ss j k=true
 hs:∀k,k<ss.length->bn ss k=5\/bn ss k=4->0<k/\bn ss (aW ss k)=2
theorem Et{ss}{k:Nat}(hk:k<ss.length)p:bq ss k p=(aW ss k==p&&bn ss k !=5):=by
 grind[bq,aW,bn,iR]
theorem dY{ss}{k:Nat}{p}(h:bq ss k p=true):k<ss.length/\aW ss k=p/\bn ss k≠5:=by
 grind[bq,iR,Et]
theorem yC{ss}{k:Nat}{p}(hk:k<ss.length)(D:aW ss k=p)(E:bn ss k≠5):bq ss k p=true:=by
 rw[Et hk];simp[D,E]
theorem vi.DD{ss}(h:vi ss){k}(D:0<k)(hk:k<ss.length):∃p:Nat,aW ss k=p/\p<k:=by
 have a:=iE h.up k;have b:=jA h.up (i:=k) oQ;have c:aW ss k≠ -1:=λe=>by have:=h.root k hk e;omega
 exact⟨(aW ss k).toNat,oQ,oQ⟩
theorem vi.N6{ss}(h:vi ss):aW ss ((0:Nat):Int)= -1:=by
 have a:=iE h.up ((0:Nat):Int);have b:=jA h.up (i:=((0:Nat):Int)) oQ;omega
theorem vi.Aj{ss}(h:vi ss)i:∀ d k j,k<ss.length->k=j+d->aG ss i k=true->i<j->aG ss i j=true:=by
 intro d;induction d with
 |zero=>simp_all
 |succ d F=>?_
 intro k j hk e D hi;obtain⟨m,rfl⟩:∃m,k=m+1:=⟨k-1,oQ⟩
 refine F m j oQ oQ ?_ hi;rw[fF h.up _ oQ]at D;rcases h.pre m hk with E|E
 ·grind
 rcases mz _ _▸D with D|D
 ·simp_all
 exact sK h.up D E
theorem vi.sib{ss}(h:vi ss){a b:Nat}{x}{p}(G:bq ss a p=true)(hb:bq ss b p=true)(I:a<b)(E:x=a\/aG ss a x=true)(F:x<ss.length):x<b:=by
 rcases j5 x b with q|q
 ·omega
 exfalso;have D:aG ss (a:Int) b=true:=by
  rcases E with rfl|E
  ·omega
  exact h.Aj a (x-b) x b F oQ E oQ
 rw[fF h.up _ oQ,(dY hb).2.1,<-(dY G).2.1]at D;have J:=jA h.up (i:=(a:Int)) oQ;rcases mz _ _▸D with e|e
 ·simp_all
 have:=kC h.up e;omega
theorem vi.Tq{ss}(h:vi ss){p}{g}(E:-1<=g):aG ss p g=true->g<ss.length->(0<=g->bn ss g≠5)->∃c:Nat,bq ss c p=true/\((c:Int)=g\/aG ss c g=true):=by
 refine zK h.up (P:=λg=>aG ss p g=true->g<ss.length->(0<=g->bn ss g≠5)->∃c:Nat,bq ss c p=true/\((c:Int)=g\/aG ss c g=true)) ?_ ?_ g E
 ·grind[sf]
 intro i D I e J hk;rw[fF h.up _ D]at e;obtain⟨k,rfl⟩:∃k:Nat,i=k:=⟨i.toNat,oQ⟩
 rcases mz _ _▸e with e|e
 ·grind[yC]
 have F:=jA h.up (i:=(k:Int)) oQ;have G:bn ss (aW ss k)≠5:=by
  by_cases c:k=0
  ·grind[sf]
  have:=h.pk k oQ oQ;omega
 have⟨c,hc,hcg⟩:=I e oQ (λ_=>G);refine⟨c,hc,inr ?_⟩;rw[fF h.up _ oQ];grind
theorem vi.Mc{ss}(h:vi ss){p}{a b:Nat}{g}(F:bq ss a p=true)(hb:bq ss b p=true)(D:(a:Int)=g\/aG ss a g=true)(E:(b:Int)=g\/aG ss b g=true)(I:g<ss.length):a=b:=by
 have G:0<=g:=by
  rcases D with e|e
  ·omega
  have:=kC h.up e;omega
 obtain⟨k,rfl⟩:∃k:Nat,g=k:=⟨g.toNat,oQ⟩
 rcases Nat.lt_trichotomy a b with q|q|q
 ·have:=h.sib F hb q (x:=k) (by rcases D with e|e;exact inl oQ;exact inr e) oQ;rcases E with e|e
  ·omega
  have:=kC h.up e;omega
 ·omega
 have:=h.sib hb F q (x:=k) (by rcases E with e|e;exact inl oQ;exact inr e) oQ;rcases D with e|e
 ·omega
 have:=kC h.up e;omega
/-! The reference's next: all that is active in the end. -/
def fT(ss:List St)(i:Nat):List Nat:=(List.range ss.length).filter λ(j:Nat)=>bq ss j i
def rB(ss:List St)(goals:List Int)(k:Nat):Bool:=goals.any λg=>decide (0<=g)&&(g==(k:Int)||aG ss k g)
def kD(p:Nat->Bool)(c:Nat)(l:List Nat):Nat:=l.foldl (λc k=>if p k then k else c) c
def pP(ss:List St)(S:Nat->Bool)(goals:List Int)(i:Nat):Nat:=kD S (kD (rB ss goals) ((fT ss i).headD 0) (fT ss i)) (fT ss i)
def eJ(ss:List St)(S:Nat->Bool)(goals:List Int):Nat->Nat->List Nat
 |0,_=>[]
 |f+1,i=>i::(if bn ss i==2 then eJ ss S goals f (pP ss S goals i)else if bn ss i==3 then(fT ss i).flatMap (eJ ss S goals f)else[])
theorem oY p:∀ l c,(kD p c l=c/\∀k∈l,p k=false)\/(kD p c l∈l/\p (kD p c l)=true):=by
 intro l;induction l with
 |nil=>intro c;exact inl ⟨rfl,dy⟩
 |cons a l D=>?_
 intro c;show(kD p (if p a then a else c) l=c/\_)\/(kD p (if p a then a else c) l∈a::l/\p (kD p (if p a then a else c) l)=true);grind
theorem cY{ss i j}:j∈fT ss i↔bq ss j i=true:=by
 grind[fT,dY]
theorem IL ss i:(fT ss i).Pairwise (· < ·):=by
 unfold fT;exact qH _ List.pairwise_lt_range
def YZ(ss:List St)(S:Nat->Bool)(goals:List Int)(p c:Nat):Prop:=bq ss c p=true/\(bn ss p=3\/(bn ss p=2/\c=pP ss S goals p))
theorem Ck{ss}(h:vi ss)S goals{i}(hi:i<ss.length)(hk:bn ss i=2):bq ss (pP ss S goals i) i=true:=by
 have⟨j,hj,hc⟩:=h.Gp i hi (inl hk);have D:=cY.2 hc;have E:(fT ss i).headD 0∈fT ss i:=by
  cases q:fT ss i with
  |nil=>simp_all
  |cons a l=>simp
 rw[<-cY];grind[pP,oY,rB,fT,kD]
theorem sM{ss}(h:vi ss){c i:Nat}(D:bq ss c i=true):i<c/\c<ss.length:=by
 have⟨h1,h2,_⟩:=dY D;have:=jA h.up (i:=(c:Int)) oQ;omega
theorem wJ{ss}(h:vi ss){c i:Nat}(D:bq ss c i=true):aG ss i c=true:=by
 rw[fF h.up _ oQ,(dY D).2.1];simp
theorem rC{ss}(h:vi ss)S goals:∀ f i,i<ss.length->ss.length<=i+f->
 (∀j∈eJ ss S goals f i,j=i\/∃p∈eJ ss S goals f i,YZ ss S goals p j)/\
 (∀p∈eJ ss S goals f i,∀c,YZ ss S goals p c->c∈eJ ss S goals f i)/\
 (∀j∈eJ ss S goals f i,j<ss.length/\(j=i\/aG ss i j=true))/\i∈eJ ss S goals f i/\(eJ ss S goals f i).Pairwise (· < ·):=by
 intro f;induction f with
 |zero=>omega
 |succ f Y=>?_
 intro i hi Z;simp only[eJ];by_cases O:bn ss i=2
 ·have X:=Ck h S goals hi O;have Q:=sM h X;have⟨a1,a2,I,a4,a5⟩:=Y (pP ss S goals i) Q.2 oQ;rw[aq (cX O)];refine⟨?_,?_,?_,dy,?_⟩
  ·intro j D;rcases dB.1 D with rfl|D
   ·omega
   rcases a1 j D with rfl|⟨p,F,G⟩
   ·exact inr ⟨i,dy,X,inr ⟨O,rfl⟩⟩
   grind
  ·intro p F c G;rcases dB.1 F with rfl|F
   ·rcases G.2 with e|⟨_,e⟩
    ·omega
    simp_all
   grind
  ·intro j D;rcases dB.1 D with rfl|D
   ·omega
   refine⟨(I j D).1,inr ?_⟩;rcases(I j D).2 with e|e
   ·grind[wJ]
   exact sK h.up (wJ h X) e
  rw[List.pairwise_cons];refine⟨λj D=>?_,a5⟩;rcases(I j D).2 with e|e
  ·omega
  have:=kC h.up e;omega
 by_cases U:bn ss i=3
 ·rw[ax (cX O),aq (cX U)];have E:∀c,c∈fT ss i->_:=λc hc=>Y c (sM h (cY.1 hc)).2 (by have:=sM h (cY.1 hc);omega);refine⟨?_,?_,?_,dy,?_⟩
  ·intro j D;rcases dB.1 D with rfl|D
   ·exact inl rfl
   have⟨c,hc,D⟩:=lW.1 D;rcases(E c hc).1 j D with rfl|⟨p,F,G⟩
   ·exact inr ⟨i,dy,cY.1 hc,inl U⟩
   exact inr ⟨p,sW _ (lW.2 ⟨c,hc,F⟩),G⟩
  ·intro p F c G;rcases dB.1 F with rfl|F
   ·exact sW _ (lW.2 ⟨c,cY.2 G.1,(E c (cY.2 G.1)).2.2.2.1⟩)
   have⟨d,hd,F⟩:=lW.1 F;exact sW _ (lW.2 ⟨d,hd,(E d hd).2.1 p F c G⟩)
  ·intro j D;rcases dB.1 D with rfl|D
   ·exact⟨hi,inl rfl⟩
   have⟨c,hc,D⟩:=lW.1 D;have I:=(E c hc).2.2.1 j D;refine⟨I.1,inr ?_⟩;rcases I.2 with e|e
   ·rw[e];exact wJ h (cY.1 hc)
   exact sK h.up (wJ h (cY.1 hc)) e
  rw[List.pairwise_cons];refine⟨λj D=>?_,?_⟩
  ·have⟨c,hc,D⟩:=lW.1 D;have I:=(E c hc).2.2.1 j D;have:=sM h (cY.1 hc);rcases I.2 with e|e
   ·omega
   have:=kC h.up e;omega
  rw[List.pairwise_flatMap];refine⟨λc hc=>(E c hc).2.2.2.2,?_⟩;have hs:=IL ss i;refine List.Pairwise.imp_of_mem (λ {a b} ha hb hab x hx y hy=>?_) hs;have J:=(E a ha).2.2.1 x hx;have R:=(E b hb).2.2.1 y hy;have:=h.sib (cY.1 ha) (cY.1 hb) hab J.2 J.1;rcases R.2 with e|e
  ·omega
  have:=kC h.up e;omega
 rw[ax (cX O),ax (cX U)];refine⟨?_,?_,?_,dy,dy⟩
 ·intro j D;simp at D;exact inl D
 ·intro p F c G;simp at F;subst F;rcases G.2 with e|⟨e,_⟩<;>omega
 intro j D;simp at D;subst D;exact⟨hi,inl rfl⟩
structure Vq(ss:List St)(S:Nat->Bool)(goals:List Int):Prop where
 lt:∀i,S i=true->i<ss.length
 Ts:∀i p:Nat,S i=true->aW ss i=p->S p=true
 fZ:∀i,S i=true->bn ss i≠5
 one:∀p i j:Nat,bn ss p=2->bq ss i p=true->bq ss j p=true->S i=true->S j=true->i=j
 rng:∀g∈goals,0<=g/\g<ss.length/\bn ss g≠5
 uni:∀p:Nat,bn ss p=2->(∀i:Nat,bq ss i p=true->S i=false)->∀g1∈goals,∀g2∈goals,aG ss p g1=true->aG ss p g2=true->g1=g2
def xT(ss:List St)(S:Nat->Bool)(goals:List Int)(k:Nat):Bool:=(eJ ss S goals ss.length 0).contains k
theorem yD{ss S goals k}:xT ss S goals k=true↔k∈eJ ss S goals ss.length 0:=by
 unfold xT;exact List.contains_iff_mem
theorem Cl{ss}(h:vi ss)S goals:xT ss S goals 0=true:=
 yD.2 (rC h S goals ss.length 0 h.ne oQ).2.2.2.1
theorem nN{ss}(h:vi ss)S goals{k:Nat}{p:Nat}(D:aW ss k=p):xT ss S goals k=true↔xT ss S goals p=true/\YZ ss S goals p k:=by
 have⟨E,a2,a3,_,_⟩:=rC h S goals ss.length 0 h.ne oQ;rw[yD,yD];constructor
 ·intro hk;rcases E k hk with rfl|⟨q,G,F⟩
  ·rw[h.N6]at D;omega
  have:=(dY F.1).2.1;rw[D]at this;have:p=q:=oQ;simp_all
 grind
theorem Cm{ss}(h:vi ss){S}{goals}{k}(hk:xT ss S goals k=true):k<ss.length:=
 ((rC h S goals ss.length 0 h.ne oQ).2.2.1 k (yD.1 hk)).1
theorem N7{ss}(h:vi ss)S goals:eJ ss S goals ss.length 0=(List.range ss.length).filter (xT ss S goals):=by
 have hs:=(rC h S goals ss.length 0 h.ne oQ).2.2.2.2;have E:((List.range ss.length).filter (xT ss S goals)).Pairwise (· < ·):=qH _ List.pairwise_lt_range;refine List.Perm.eq_of_pairwise (le:=(· < ·)) (λa b _ _ h1 h2=>oQ) hs E ?_;rw[List.perm_ext_iff_of_nodup (hs.imp (λh=>oQ)) (E.imp (λh=>oQ))];intro a;rw[fR,yD];constructor
 ·intro D;exact⟨by simpa using((rC h S goals ss.length 0 h.ne oQ).2.2.1 a D).1,D⟩
 simp_all
theorem zL{ss S goals}(D:Vq ss S goals){p c:Nat}(hk:bn ss p=2)(E:bq ss c p=true)(hs:S c=true):pP ss S goals p=c:=by
 unfold pP;rcases oY S (fT ss p) (kD (rB ss goals) ((fT ss p).headD 0) (fT ss p))with⟨_,e2⟩|⟨e1,e2⟩
 ·grind[cY]
 exact D.one p _ c hk (cY.1 e1) E e2 hs
theorem Gq{ss}(h:vi ss){S}{goals}(E:Vq ss S goals):∀ n k,k<n->S k=true->xT ss S goals k=true:=by
 intro n;induction n with
 |zero=>omega
 |succ n I=>?_
 intro k hk hs;have D:=E.lt k hs;by_cases c:k=0
 ·grind[Cl]
 have⟨p,hp,hlt⟩:=h.DD oQ D;have G:p<ss.length:=oQ;have F:=yC D hp (E.fZ k hs);refine(nN h S goals hp).2 ⟨I p oQ (E.Ts k p hs hp),F,?_⟩;rcases h.pk k oQ D with e|e<;>rw[hp]at e
 ·grind[zL]
 omega
theorem IM ss p:∀ f k,gx ss p f k=match(List.range' k f).filter (λ(j:Nat)=>bq ss j p)with| []=>-2|a::_=>((a:Nat):Int):=by
 intro f;induction f with
 |zero=>intro k;rfl
 |succ f D=>?_
 intro k;rw[nu,j9];grind[gx,bq]
theorem xE{ss p}(D:fT ss p≠[]):fj ss p=((fT ss p).headD 0:Nat):=by
 unfold fj;rw[IM,<-jm];grind[fT]
theorem Wp{ss}(h:vi ss){S}{goals}(U:Vq ss S goals){p}{k:Nat}(_hp:p<ss.length)(J:bn ss p=2)(hc:bq ss k p=true)(O:∀i:Nat,bq ss i p=true->S i=false):nJ ss k p goals=decide (k=pP ss S goals p):=by
 have E:pP ss S goals p=kD (rB ss goals) ((fT ss p).headD 0) (fT ss p):=by
  unfold pP;grind[oY,fT,kD,rB,cY]
 rw[E];have aa:fT ss p≠[]:=λe=>by have:=cY.2 hc;rw[e]at this;cases this
 have I:∀j:Nat,bq ss j p=true->rB ss goals j=true->∃g∈goals,aG ss p g=true/\((j:Int)=g\/aG ss j g=true):=by
  intro j hj D;unfold rB at D;rw[mC]at D;have⟨g,F,D⟩:=D;simp only[fQ,lV,mz,beq_iff_eq]at D;refine⟨g,F,?_,by rcases D.2 with e|e;exact inl e.symm;exact inr e⟩;rcases D.2 with e|e
  ·grind[wJ]
  exact sK h.up (wJ h hj) e
 have R:∀(l:List Int),(∀g∈l,g∈goals)->(nJ ss k p l=true↔((∀g∈l,aG ss p g=false)/\(k:Int)=fj ss p)\/∃g∈l,aG ss p g=true/\((k:Int)=g\/aG ss k g=true)):=by
  intro l;induction l with
  |nil=>grind[nJ]
  |cons g l ih=>?_
  intro Y;have ih:=ih (λx Q=>Y x (by simp[Q]));simp only[nJ];cases q:aG ss p g with
  |true=>
   simp only[aQ,mz,beq_iff_eq];constructor
   ·simp_all
   rintro(⟨G,_⟩|⟨x,Q,G,h2⟩)
   ·simp_all
   have:=U.uni p J O x (Y x Q) g (Y g dy) G q;simp_all
  |false=>?_
  simp_all
 have hm:=R goals (λ_ h=>h);rw[mE,hm,lV];rcases oY (rB ss goals) (fT ss p) ((fT ss p).headD 0)with⟨e,hz⟩|⟨e1,e2⟩
 ·rw[e];have Z:∀g∈goals,aG ss p g=false:=by
   intro g F;cases q:aG ss p g with
   |false=>rfl
   |true=>?_
   have X:=U.rng g F;have⟨c,hc',hcg⟩:=h.Tq oQ q X.2.1 (λ_=>X.2.2);grind[rB,cY]
  grind[xE]
 have⟨g,F,YJ,hgc⟩:=I _ (cY.1 e1) e2;have X:=U.rng g F;constructor
 ·rintro(⟨G,_⟩|⟨x,Q,G,h2⟩)
  ·simp_all
  have:=U.uni p J O x Q g F G YJ;subst this;exact h.Mc hc (cY.1 e1) h2 hgc X.2.1
 grind
/-! Acts turn neither what is active nor what is remembered. -/
def mw(a b:Sd):Prop:=a.act=b.act/\a.b_=b.b_
theorem mw.refl a:mw a a:=⟨rfl,rfl⟩
theorem mw.trans{a b c}(h:mw a b)(g:mw b c):mw a c:=⟨h.1.trans g.1,h.2.trans g.2⟩
theorem Wq s c n:mw (tu s c n) s:=by
 unfold tu jb;split
 ·split
  ·exact .refl _
  split<;>exact⟨rfl,rfl⟩
 exact .refl _
theorem Cn m a:mw (cP m a).2.s m.s:=by
 unfold cP;split
 ·exact .refl _
 split
 ·unfold send;split<;>exact⟨rfl,rfl⟩
 split
 ·exact⟨rfl,rfl⟩
 split
 ·exact .refl _
 grind[Wq]
theorem tN:∀ l m,mw (eD l m).s m.s:=by
 intro l;induction l with
 |nil=>intro m;exact .refl _
 |cons a l D=>?_
 intro m;simp only[eD];split
 ·exact(D _).trans (Cn m a)
 grind[Cn]
theorem IN state sign:∀ l m,mw (fa state sign l m).s m.s:=by
 intro l;induction l with
 |nil=>intro m;exact .refl _
 |cons b l D=>?_
 intro m;simp only[fa];refine(D _).trans ?_;split
 ·grind[tN]
 exact .refl _
theorem yE ol:∀ l m,mw (gq ol l m).s m.s:=by
 intro l;induction l with
 |nil=>intro m;exact .refl _
 |cons x l D=>intro m;simp only[gq];exact(D _).trans (tN _ _)
theorem Bg{l}{k:Nat}(hk:k<l.length)v j:bit (tf l (k:Int) v) j=if k=j then v else bit l j:=by
 show(l.set k v).getD j false=_;grind[bit]
theorem IP ol m k:(dT ol m k).s.act=tf m.s.act k true/\(dT ol m k).s.b_=m.s.b_:=by
 have h:=IN k 94 ol.fH (eO m k true);unfold dT;split
 ·rw[(tA _ _ _).1];exact h
 exact h
/-! Due is what is in the end and does not stay. -/
theorem N9{ss:List St}{D:List Bool}{p:Int}:kept ss D p=false↔∀i:Nat,bq ss i p=true->bit D i=false:=by
 grind[kept,xq,dY,eQ]
theorem Y0{ss}(h:vi ss){act}{D}{goals}(I:Vq ss (bit D) goals){k}(hk:k<ss.length)(Y:∀j,j<k->bit act j=xT ss (bit D) goals j):ky ss act D goals k=(xT ss (bit D) goals k&& !bit D k):=by
 unfold ky;rw[eQ];cases hs:bit D k with
 |true=>simp
 |false=>?_
 simp only[Bool.false_or,mG,Bool.and_true];by_cases k0:k=0
 ·subst k0;rw[h.N6,Cl h];have F:=yC hk h.N6 (λe=>by have:=(h.hs 0 hk (inl e)).1;omega);rw[F];have J:bn ss (-1)=2:=rfl;rw[J];have E:kept ss D (-1)=false:=by
   rw[N9];intro i hi;have:=h.root i (dY hi).1 (dY hi).2.1;simp_all
  rw[E];have G:nJ ss ((0:Nat):Int) (-1) goals=true:=by
   have:∀l:List Int,(∀g∈l,0<=g/\g<ss.length)->nJ ss ((0:Nat):Int) (-1) l=true:=by
    intro l hl;cases l with
    |nil=>
     simp only[nJ,beq_iff_eq];unfold fj;obtain⟨n,hn⟩:∃n,ss.length=n+1:=⟨ss.length-1,by have:=h.ne;omega⟩
     grind[gx]
    |cons g l=>?_
    have⟨hg,hgl⟩:=hl g dy;simp only[nJ];rw[Bf h.up oQ hg,aq rfl];by_cases c:g=0
    ·simp_all
    have h1:=Bf h.up (i:=g) oQ hg;have:aG ss ((0:Nat):Int) g=true:=by
     have aa:∀i:Int,-1<=i->0<i->i<ss.length->aG ss ((0:Nat):Int) i=true:=by
      refine zK h.up (P:=λi=>0<i->i<ss.length->aG ss ((0:Nat):Int) i=true) (λh=>oQ) ?_;intro i hi ih h0 Z;have b:=jA h.up (i:=i) oQ;rw[fF h.up _ hi];have a:=iE h.up i;by_cases c1:aW ss i=0
      ·simp_all
      by_cases c2:aW ss i= -1
      ·exfalso;obtain⟨n,rfl⟩:∃n:Nat,i=n:=⟨i.toNat,oQ⟩
       have:=h.root n oQ c2;omega
      grind
     grind
    simp_all
   exact this goals (λg hg=>⟨(I.rng g hg).1,(I.rng g hg).2.1⟩)
  simp_all
 have⟨p,G,hlt⟩:=h.DD oQ hk;have U:p<ss.length:=oQ;rw[G];have Q:((p:Int)!= -1)=true:=dy;rw[Q,eQ,Y p hlt];have eK:=nN h (bit D) goals G;cases F:bq ss k p with
 |false=>
  have:xT ss (bit D) goals k=false:=by
   cases q:xT ss (bit D) goals k with
   |false=>rfl
   |true=>have:=(eK.1 q).2.1;simp_all
  simp_all
 |true=>?_
 simp only[Bool.not_true,bu,bf,fC];cases X:xT ss (bit D) goals p with
 |false=>
  simp_all
 |true=>?_
 simp only[Bool.not_true,bu,bf];rcases h.pk k oQ hk with e|e<;>rw[G]at e
 ·rw[e];simp only[show((2:Int)==3)=false from rfl,bu,bf];cases O:kept ss D p with
  |true=>
   have:xT ss (bit D) goals k=false:=by
    cases q:xT ss (bit D) goals k with
    |false=>rfl
    |true=>?_
    rcases(eK.1 q).2.2 with e3|⟨_,e3⟩
    ·omega
    grind[kept,xq,eQ,zL]
   simp_all
  |false=>?_
  have R:=N9.1 O;rw[Wp h I U e F R];simp only[mG,fC];rw[mE,lV];constructor
  ·intro q;exact eK.2 ⟨X,F,inr ⟨e,q⟩⟩
  intro q;rcases(eK.1 q).2.2 with e3|⟨_,e3⟩
  ·omega
  omega
 rw[e];simp only[show((3:Int)==3)=true from rfl,aQ];exact(eK.2 ⟨X,F,inl e⟩).symm
def qm(ol:Ol):List Nat->Ma->Ma
 | [],m=>m
 |k::l,m=>qm ol l (if bit m.s.act k then m else dT ol m k)
theorem PY{ol}(h:vi ol.ah)(O:ol.ah.length<=16){D}{goals}(Q:Vq ol.ah (bit D) goals):∀ f k m,k+f=ol.ah.length->m.s.act.length=16->
 (∀j,bit m.s.act j=(bit D j||(decide (j<k)&&xT ol.ah (bit D) goals j)))->
 fm ol D goals f k m=qm ol ((List.range' k f).filter (xT ol.ah (bit D) goals)) m/\
 (∀j,bit (fm ol D goals f k m).s.act j=xT ol.ah (bit D) goals j)/\(fm ol D goals f k m).s.b_=m.s.b_/\(fm ol D goals f k m).s.act.length=16:=by
 intro f;induction f with
 |zero=>
  intro k m hk J I;refine⟨rfl,λj=>?_,rfl,J⟩;show bit m.s.act j=_;grind[xT,bit,Cm,Gq]
 |succ f X=>?_
 intro k m hk J I;have G:k<ol.ah.length:=oQ;have E:∀j:Nat,j<k->bit m.s.act j=xT ol.ah (bit D) goals j:=by
  grind[xT,bit,Gq]
 have R:=Y0 h Q G E;have F:bit m.s.act k=bit D k:=by rw[I k];simp
 rw[nu,j9];simp only[fm];rw[R];cases Y:xT ol.ah (bit D) goals k with
 |false=>
  grind
 |true=>?_
 simp only[fC,aQ,qm];rw[F];cases Z:bit D k with
 |true=>
  grind
 |false=>?_
 simp only[mG,aQ,bu,bf];have U:=IP ol m k;grind[bit,dT,xT,Bg,nD]
theorem IQ{ol}(h:vi ol.ah)(D:ol.ah.length<=16){m}{list}(F:m.s.act.length=16)(E:Vq ol.ah (bit m.s.act) (eS ol m.s list)):
 enter ol m list=qm ol (eJ ol.ah (bit m.s.act) (eS ol m.s list) ol.ah.length 0) m/\
 (∀j,bit (enter ol m list).s.act j=xT ol.ah (bit m.s.act) (eS ol m.s list) j)/\(enter ol m list).s.b_=m.s.b_/\(enter ol m list).s.act.length=16:=by
 rw[N7 h,jm];exact PY h D E ol.ah.length 0 m oQ F (λj=>dy)
structure Md(ss:List St)(S:Nat->Bool):Prop where
 root:S 0=true
 lt:∀i,S i=true->i<ss.length
 Ts:∀i p:Nat,S i=true->aW ss i=p->S p=true
 fZ:∀i,S i=true->bn ss i≠5
 one:∀p i j:Nat,bn ss p=2->bq ss i p=true->bq ss j p=true->S i=true->S j=true->i=j
 Tt:∀p,S p=true->bn ss p=2->∃i:Nat,bq ss i p=true/\S i=true
 Y1:∀p i:Nat,S p=true->bn ss p=3->bq ss i p=true->S i=true
theorem Eu{ss}(h:vi ss)S goals:Md ss (xT ss S goals) where
 root:=Cl h S goals
 lt:=λi hi=>Cm h hi
 Ts:=λi p hi hp=>((nN h S goals hp).1 hi).1
 fZ:=λi hi=>by
  by_cases c:i=0
  ·subst c;intro e;have:=(h.hs 0 h.ne (inl e)).1;omega
  have⟨p,hp,_⟩:=h.DD (k:=i) oQ (Cm h hi);exact(dY ((nN h S goals hp).1 hi).2.1).2.2
 one:=λp i j hk hi hj hsi hsj=>by
  have a:=((nN h S goals (dY hi).2.1).1 hsi).2.2;have b:=((nN h S goals (dY hj).2.1).1 hsj).2.2;rcases a with a|a
  ·omega
  rcases b with b|b
  ·omega
  rw[a.2,b.2]
 Tt:=λp hs hk=>by
  have D:=Ck h S goals (Cm h hs) hk;exact⟨pP ss S goals p,D,(nN h S goals (dY D).2.1).2 ⟨hs,D,inr ⟨hk,rfl⟩⟩⟩
 Y1:=λp i hs hk D=>(nN h S goals (dY D).2.1).2 ⟨hs,D,inl hk⟩
theorem PZ{ss}(h:vi ss){S}{goals}(E:Md ss S)(G:Vq ss S goals)k:xT ss S goals k=S k:=by
 have:∀(n k:Nat),k<n->xT ss S goals k=true->S k=true:=by
  intro n;induction n with
  |zero=>omega
  |succ n I=>?_
  intro k hk F;by_cases c:k=0
  ·subst c;exact E.root
  have⟨p,hp,hlt⟩:=h.DD (k:=k) oQ (Cm h F);have⟨h1,h2,h3⟩:=(nN h S goals hp).1 F;have D:=I p oQ h1;rcases h3 with e|⟨e,e2⟩
  ·exact E.Y1 p k D e h2
  have⟨i,hi,hsi⟩:=E.Tt p D e;grind[zL]
 cases q:S k with
 |true=>exact Gq h G (k+1) k oQ q
 |false=>?_
 cases J:xT ss S goals k with
 |false=>rfl
 |true=>rw[this (k+1) k oQ J]at q;omega
/-! What a transition leaves. -/
def lv(ol:Ol)(s:Sd)(t:Int)(j:Nat):Bool:=match ol.dF[t.toNat]? with
 |some x=>!(x.target==45)&&(decide (j<ol.ah.length)&&(bit s.act j&&aG ol.ah (vg ol.ah x.state x.target) j))
 |none=>false
theorem IS ss act d:∀ f k l,k+f<=l.length->∀j,
 bit (jJ ss act d f k l) j=(bit l j||(decide (k<=j/\j<k+f)&&(bit act j&&aG ss d j))):=by
 intro f;induction f with
 |zero=>grind[jJ]
 |succ f F=>?_
 intro k l E j;simp only[jJ];rw[eQ];have D:(if(bit act k&&aG ss d k)=true then tf l k true else l:List Bool).length=l.length:=by split<;>simp[nD]
 grind[bit,act,aG,Bg]
theorem mW j:bit eX j=false:=by
 grind[bit,eX]
theorem uD{ol}(D:ol.ah.length<=16)s t j:bit (leaves ol s t.toNat) j=lv ol s t j:=by
 grind[leaves,lv,mW,IS,eX]
theorem Tu l m j(D:l.length=16)(hm:m.length=16):bit (join l m) j=(bit l j||bit m j):=by
 grind[join,bit,FG,x8]
theorem P0{ol}(D:ol.ah.length<=16)s:∀ r l j,l.length=16->bit (uN ol s r l) j=(bit l j||r.any λt=>lv ol s t j):=by
 intro r;induction r with
 |nil=>grind[uN]
 |cons x r E=>?_
 grind[uN,x8,Tu,qW,uD]
theorem IT{ol}(D:ol.ah.length<=16)s r j:bit (dM ol s r) j=r.any λt=>lv ol s t j:=by
 grind[dM,P0,eX,mW]
theorem IU{ol}(D:ol.ah.length<=16){s}{a}{b}:meets (leaves ol s a.toNat) (leaves ol s b.toNat)=false↔∀j,¬(lv ol s a j=true/\lv ol s b j=true):=by
 unfold meets;rw[List.any_eq_false];constructor
 ·intro h j F;have E:j<16:=by
   rcases j5 j 16 with q|q
   ·omega
   have:=F.1;rw[<-uD D,FG (by rw[qW];omega)]at this;simp_all
  have:=h j (cX E);grind[uD]
 grind[uD]
def Clear(ol:Ol)(s:Sd)(l:List Int):Prop:=∀a∈l,∀b∈l,a≠b->∀j,¬(lv ol s a j=true/\lv ol s b j=true)
theorem Gs{ol}(F:ol.ah.length<=16){s}{t}:∀ l kept r,iH ol s t l kept=some r->∃D,(∀x∈D,x∈l/\∀j,¬(lv ol s t j=true/\lv ol s x j=true))/\r=kept++D++[(t:Int)]:=by
 intro l;induction l with
 |nil=>intro kept r h;simp only[iH,bE]at h;exact⟨[],dy,by simp[h]⟩
 |cons x l G=>?_
 intro kept r h;simp only[iH]at h;split at h
 ·grind
 rename_i q;have⟨D,h1,h2⟩:=G (kept++[x]) r h;refine⟨x::D,λy E=>?_,by simp[h2]⟩;rcases dB.1 E with rfl|E
 ·refine⟨dy,?_⟩;have I:meets (leaves ol s ((t:Int)).toNat) (leaves ol s y.toNat)=false:=cX q;grind[IU]
 simp_all
theorem IV{ol}(E:ol.ah.length<=16){s}{t}{l}(h:Clear ol s l):Clear ol s (nR ol s l t)/\∀x∈nR ol s l t,x∈l\/x=t:=by
 unfold nR;cases q:iH ol s t l []with
 |none=>simp_all
 |some r=>?_
 obtain⟨J,G,rfl⟩:=Gs E l [] r q;simp only[kT];refine⟨?_,?_⟩
 ·intro a D b hb F j I;rcases cS.1 D with D|D<;>rcases cS.1 hb with hb|hb
  ·exact h a (G a D).1 b (G b hb).1 F j I
  ·grind
  ·grind
  simp_all
 grind
theorem DE{ol}(D:ol.ah.length<=16){s}:∀ l acc,(∀x∈l,0<=x)->Clear ol s acc->Clear ol s (gD ol s l acc)/\∀x∈gD ol s l acc,x∈acc\/x∈l:=by
 intro l;induction l with
 |nil=>intro acc _ h;exact⟨h,λx hx=>inl hx⟩
 |cons a l F=>?_
 intro acc E h;simp only[gD];have⟨h1,h2⟩:=IV D (t:=a.toNat) h;have⟨h3,h4⟩:=F _ (λx hx=>E x (by simp[hx])) h1;refine⟨h3,λx hx=>?_⟩;have G:=E a dy;grind
def Src(ol:Ol)(s:Sd)(t:Int):Prop:=∃x,ol.dF[t.toNat]? =some x/\∃k:Nat,x.state=k/\bit s.act k=true
theorem DF s st trg:∀ l (k j:Nat),iF s st trg l k=j->∃x,k<=j/\l[j-k]? =some x/\x.state=st:=by
 intro l;induction l with
 |nil=>grind[iF]
 |cons t l D=>?_
 grind[iF,xa]
theorem DG{ol s}(hu:Up ol.ah)(E:∀i p:Nat,bit s.act i=true->aW ol.ah i=p->bit s.act p=true)trg:∀ f i (j:Nat),bit s.act i=true->dU ol s trg f i=j->Src ol s j:=by
 intro f;induction f with
 |zero=>grind[dU]
 |succ f G=>?_
 intro i j hi h;simp only[dU]at h;have D:((i:Int)== -1)=false:=dy;rw[D]at h;simp only[bu,bf]at h;split at h
 ·have⟨x,_,h2,h3⟩:=DF s i trg ol.dF 0 j h;exact⟨x,by simpa using h2,i,h3,hi⟩
 have a:=iE hu i;by_cases c:aW ol.ah i= -1
 ·rw[c]at h;cases f with
  |zero=>grind[dU]
  |succ f=>grind[dU]
 obtain⟨p,F⟩:∃p:Nat,aW ol.ah i=p:=⟨(aW ol.ah i).toNat,oQ⟩
 grind
theorem P1{ol s}(hu:Up ol.ah)(F:∀i p:Nat,bit s.act i=true->aW ol.ah i=p->bit s.act p=true)trg:∀ f k E,(∀t∈E,Src ol s t)->∀t∈mN ol s trg f k E,Src ol s t:=by
 intro f;induction f with
 |zero=>intro k E h;exact h
 |succ f G=>?_
 intro k E h;simp only[mN];refine G (k+1) _ ?_;unfold ib;split
 ·rename_i q;intro t D;rcases cS.1 D with D|D
  ·simp_all
  simp at D;subst D;simp only[fQ,bne_iff_ne]at q;have I:bit s.act k=true:=by
   have:=q.1.1;unfold vy at this;simp only[fQ]at this;exact this.1
  grind[vz,dX,DG]
 omega
theorem Gt{ol}(D:ol.ah.length<=16)(hu:Up ol.ah){s}(F:∀i p:Nat,bit s.act i=true->aW ol.ah i=p->bit s.act p=true)trg:Clear ol s (choose ol s trg)/\∀t∈choose ol s trg,Src ol s t:=by
 have G:=(A4 ol s trg).1;have⟨h1,h2⟩:=DE D (s:=s) (find ol s trg) [] (λx hx=>(G x hx).1) (by intro a I;cases I);refine⟨h1,λt E=>?_⟩;rcases h2 t E with e|e
 ·cases e
 exact P1 hu F trg _ _ [] (by intro t E;cases E) t e
/-! The domain,the goal. -/
theorem P2{ss:List St}(hu:Up ss)(target:Int):∀(f:Nat) (d:Int),-1<=d->(d+1).toNat<=f->(uu ss target f d= -1\/(0<=uu ss target f d/\wU ss (uu ss target f d) target=true))/\(uu ss target f d=d\/aG ss (uu ss target f d) d=true):=by
 intro f;induction f with
 |zero=>grind[uu]
 |succ f G=>?_
 intro d D E;simp only[uu];split
 ·rename_i q;have F:d≠ -1:=by simp at q;exact q.1
  have a:=iE hu d;have b:=jA hu (i:=d) oQ;grind[aW,fF]
 grind
theorem Tv{ss}(hu:Up ss){state:Nat}target:(vg ss state target= -1\/(0<=vg ss state target/\bn ss (vg ss state target)=2/\aG ss (vg ss state target) (place ss target)=true))/\aG ss (vg ss state target) state=true:=by
 have⟨e1,e2⟩:=P2 hu (place ss target) (aW ss state+1).toNat (aW ss state) (iE hu _) (aC _);grind[wU,fF,vg,aW,aG]
def rD(ss:List St)(s:Sd):Prop:=∀k,k<ss.length->fZ ss k=true->jz ss k (cf s k)=true
structure Co(ol:Ol):Prop where
 tP:vi ol.ah
 le:ol.ah.length<=16
 tgt:∀x∈ol.dF,x.target≠45->∃g:Nat,place ol.ah x.target=g/\g<ol.ah.length
 src:∀x∈ol.dF,∃k:Nat,x.state=k/\k<ol.ah.length
 nm:∀k,k<ol.ah.length->place ol.ah (hJ ol.ah k)=k/\hJ ol.ah k≠45
theorem wK{ss k}(hk:k<ss.length):fZ ss k=(bn ss k==5):=by
 grind[fZ,bn,iR]
theorem zM{ss}(h:vi ss)(G:ss.length<=16){s}(J:rD ss s){g}(D:g<ss.length):(bn ss g≠5/\l5 ss s g=g)\/(bn ss g=5/\∃c:Nat,l5 ss s g=c/\bq ss c (aW ss g)=true):=by
 unfold l5;have F:decide ((g:Int)<0)=false:=by rw[fB];omega
 have I:decide (16<=(g:Int))=false:=by rw[fB];omega
 rw[F,I];by_cases c:bn ss g=5
 ·right;refine⟨c,?_⟩;rw[c];simp only[show((5:Int)!=5)=false from rfl,Bool.or_false,bu,bf,dE];have O:=J g D (by rw[wK D,c];rfl);have hs:=h.hs g D (inl c);have⟨p,zD,hlt⟩:=h.DD hs.1 D;cases q:cf s g==45 with
  |true=>
   simp only[aQ];rw[zD]at hs⊢;have⟨j,_,hj⟩:=h.Gp p oQ (inl hs.2);have E:fT ss p≠[]:=λe=>by have:=cY.2 hj;rw[e]at this;cases this
   refine⟨(fT ss p).headD 0,xE E,cY.1 ?_⟩;cases Q:fT ss p with
   |nil=>simp_all
   |cons a l=>simp
  |false=>?_
  simp only[bu,bf];unfold jz at O;grind[place,cf,bq,uX,lq]
 simp_all
theorem Me{ol s}:∀ l g,g∈eS ol s l->∃t∈l,∃x,ol.dF[t.toNat]? =some x/\x.target≠45/\g=l5 ol.ah s (place ol.ah x.target):=by
 intro l;induction l with
 |nil=>grind[eS]
 |cons t l D=>?_
 grind[eS,l5,place]
theorem Tw{ss}(hu:Up ss){S:Nat->Bool}(E:∀i p:Nat,S i=true->aW ss i=p->S p=true)(a:Nat):∀ n k,k<n->S k=true->aG ss a k=true->S a=true:=by
 intro n;induction n with
 |zero=>omega
 |succ n I=>?_
 intro k hk hs D;rw[fF hu _ oQ]at D;have F:=jA hu (i:=(k:Int)) oQ;rcases mz _ _▸D with e|e
 ·grind
 have:=kC hu e;obtain⟨p,G⟩:∃p:Nat,aW ss k=p:=⟨(aW ss k).toNat,oQ⟩
 grind
theorem XM{ol s t x}(D:ol.dF[t.toNat]? =some x)j:lv ol s t j=(!(x.target==45)&&(decide (j<ol.ah.length)&&(bit s.act j&&aG ol.ah (vg ol.ah x.state x.target) j))):=by
 unfold lv;rw[D]
theorem sN{ol s t x}(D:ol.dF[t.toNat]? =some x)j:lv ol s t j=true↔x.target≠45/\j<ol.ah.length/\bit s.act j=true/\aG ol.ah (vg ol.ah x.state x.target) j=true:=by
 rw[XM D];simp
theorem Bh{ol s t j}(h:lv ol s t j=true):∃x,ol.dF[t.toNat]? =some x:=by
 grind[lv]
theorem P3{ol}(J:Co ol){s}(G:Md ol.ah (bit s.act)){list}(am:∀t∈list,Src ol s t)(O:Clear ol s list){s'}(aa:∀j,bit s'.act j=(bit s.act j&& !(list.any λt=>lv ol s t j)))(Z:rD ol.ah s'):Vq ol.ah (bit s'.act) (eS ol s' list):=by
 have D:∀j,bit s'.act j=true->bit s.act j=true:=λj hj=>by rw[aa j]at hj;simp only[fQ]at hj;exact hj.1
 have hu:=J.tP.up;
 have XN:∀g∈eS ol s' list,∃t∈list,∃x,ol.dF[t.toNat]? =some x/\x.target≠45/\g=l5 ol.ah s' (place ol.ah x.target)/\(∃k:Nat,x.state=k/\bit s.act k=true/\lv ol s t k=true)/\
  (0<=g/\g<ol.ah.length/\bn ol.ah g≠5)/\aG ol.ah (vg ol.ah x.state x.target) g=true/\aG ol.ah (vg ol.ah x.state x.target) x.state=true/\(vg ol.ah x.state x.target= -1\/(0<=vg ol.ah x.state x.target/\bn ol.ah (vg ol.ah x.state x.target)=2)):=by
  intro g hg;obtain⟨t,ht,x,Q,Ev,rfl⟩:=Me list g hg;have⟨x',hx',k,hk,E⟩:=am t ht;rw[Q]at hx';obtain rfl:x=x':=cX hx';have⟨pg,hpg,hpl⟩:=J.tgt x (aP Q) Ev;have⟨d1,d2⟩:=Tv hu (ss:=ol.ah) (state:=k) x.target;rw[<-hk]at d1 d2;have a2:=G.lt k E;refine⟨t,ht,x,Q,Ev,rfl,⟨k,hk,E,(sN Q k).2 ⟨Ev,a2,E,by rw[<-hk];exact d2⟩⟩,?_,?_,d2,?_⟩
  ·rw[hpg];rcases zM J.tP J.le Z hpl with⟨h1,F⟩|⟨_,c,F,h3⟩
   ·rw[F];exact⟨oQ,oQ,h1⟩
   rw[F];exact⟨oQ,by have:=(dY h3).1;omega,(dY h3).2.2⟩
  ·rw[hpg]at d1⊢;rcases d1 with d1|⟨d0,dk,Y2⟩
   ·rw[d1];refine Bf hu ?_ ?_<;>
    (rcases zM J.tP J.le Z hpl with⟨_,F⟩|⟨_,c,F,_⟩<;>rw[F]<;>omega)
   rcases zM J.tP J.le Z hpl with⟨_,F⟩|⟨_,c,F,h3⟩
   ·rw[F];exact Y2
   rw[F,fF hu _ oQ,(dY h3).2.1];rw[fF hu _ oQ]at Y2;exact Y2
  rcases d1 with d1|⟨d0,dk,_⟩
  ·exact inl d1
  exact inr ⟨d0,dk⟩
 refine⟨λi hi=>G.lt i (D i hi),?_,λi hi=>G.fZ i (D i hi),λp i j hk hi hj h1 F=>G.one p i j hk hi hj (D i h1) (D j F),?_,?_⟩
 ·
  intro i p hi hp;have ab:=D i hi;have a5:=G.Ts i p ab hp;rw[aa p,a5];cases q:list.any λt=>lv ol s t p with
  |false=>rfl
  |true=>?_
  exfalso;rw[mC]at q;have⟨t,ht,hl⟩:=q;have⟨x,Q⟩:=Bh hl;have⟨h1,F,h3,h4⟩:=(sN Q p).1 hl;have:=(sN Q i).2 ⟨h1,G.lt i ab,ab,by rw[fF hu _ oQ,hp,h4];simp⟩;simp_all
 ·grind
 intro p hk a3 g1 a0 g2 a1 aI aO;have⟨t1,ht1,x1,hx1,Y3,e1,⟨k1,hk1,Y4,hl1⟩,r1,dg1,ds1,dd1⟩:=XN g1 a0;have⟨t2,ht2,X,hx2,abj,e2,⟨k2,hk2,Tx,hl2⟩,r2,dg2,ds2,dd2⟩:=XN g2 a1;
 have I:∀(t:Int) (x:Tr) (k:Nat) (g:Int),t∈list->ol.dF[t.toNat]? =some x->x.target≠45->x.state=k->bit s.act k=true->lv ol s t k=true->aG ol.ah (vg ol.ah x.state x.target) g=true->aG ol.ah (vg ol.ah x.state x.target) x.state=true->
  (vg ol.ah x.state x.target= -1\/(0<=vg ol.ah x.state x.target/\bn ol.ah (vg ol.ah x.state x.target)=2))->aG ol.ah p g=true->g<ol.ah.length->vg ol.ah x.state x.target=p\/aG ol.ah (vg ol.ah x.state x.target) p=true:=by
  intro t x k g ht Q Ev a6 E hl dg ds dd ha ba;rcases N3 hu dg ha with c|c|c
  ·exact inl c
  ·exact inr c
  exfalso;generalize hd:vg ol.ah x.state x.target=d at*;have a8:=kC hu c;rcases dd with dd|⟨_,dk⟩
  ·omega
  obtain⟨Y,rfl⟩:∃Y:Nat,d=Y:=⟨d.toNat,oQ⟩
  have a9:=kC hu dg;rw[a6]at ds;have aj:=Tw hu G.Ts Y (k+1) k oQ E ds;have⟨c',hc',hcd⟩:=J.tP.Tq (p:=(p:Int)) (g:=(Y:Int)) oQ c oQ (λ_=>oQ);have a7:=(dY hc').1;have a4:bit s.act c'=true:=by
   rcases hcd with e|e
   ·have:c'=Y:=oQ;rw[this];exact aj
   exact Tw hu G.Ts c' (Y+1) Y oQ aj e
  have U:=a3 c' hc';rw[aa c',a4]at U;have R:(list.any λt=>lv ol s t c')=true:=cX U;rw[mC]at R;have⟨t3,ht3,hl3⟩:=R;have⟨x3,hx3⟩:=Bh hl3;have⟨h31,h32,h33,h34⟩:=(sN hx3 c').1 hl3;have ao:aG ol.ah (vg ol.ah x3.state x3.target) k=true:=by
   rcases hcd with e|e
   ·rw[e]at h34;exact sK hu h34 ds
   exact sK hu (sK hu h34 e) ds
  have ap:=(sN hx3 k).2 ⟨h31,G.lt k E,E,ao⟩;have:t3=t:=by
   by_cases q:t3=t
   ·exact q
   exact absurd ⟨ap,hl⟩ (O t3 ht3 t ht q k)
  subst this;rw[Q]at hx3;obtain rfl:x=x3:=cX hx3;rw[hd]at h34;have h5:=kC hu h34;rcases hcd with e|e
  ·omega
  have:=kC hu e;omega
 have c1:=I t1 x1 k1 g1 ht1 hx1 Y3 hk1 Y4 hl1 dg1 ds1 dd1 aI r1.2.1;have c2:=I t2 X k2 g2 ht2 hx2 abj hk2 Tx hl2 dg2 ds2 dd2 aO r2.2.1;have ad:vg ol.ah x1.state x1.target=vg ol.ah X.state X.target\/aG ol.ah (vg ol.ah x1.state x1.target) (vg ol.ah X.state X.target)=true\/aG ol.ah (vg ol.ah X.state X.target) (vg ol.ah x1.state x1.target)=true:=by
  rcases c1 with c1|c1<;>rcases c2 with c2|c2
  ·exact inl (c1.trans c2.symm)
  ·rw[c1];exact inr (inr c2)
  ·rw[c2];exact inr (inl c1)
  exact N3 hu c1 c2
 have aS:t1=t2:=by
  by_cases q:t1=t2
  ·exact q
  exfalso;rw[hk1]at ds1;rw[hk2]at ds2;rcases ad with e|e|e
  ·have:=(sN hx1 k2).2 ⟨Y3,G.lt k2 Tx,Tx,by rw[e,hk2];exact ds2⟩;exact O t1 ht1 t2 ht2 q k2 ⟨this,hl2⟩
  ·have:=(sN hx1 k2).2 ⟨Y3,G.lt k2 Tx,Tx,sK hu e (by rw[hk2];exact ds2)⟩;exact O t1 ht1 t2 ht2 q k2 ⟨this,hl2⟩
  have:=(sN hx2 k1).2 ⟨abj,G.lt k1 Y4,Y4,sK hu e (by rw[hk1];exact ds1)⟩;exact O t1 ht1 t2 ht2 q k1 ⟨hl1,this⟩
 subst aS;rw[hx1]at hx2;obtain rfl:x1=X:=cX hx2;rw[e1,e2]
/-! Leaving,remembering. -/
theorem Cp(ol:Ol)(left:List Bool):∀(k:Nat) (m:Ma),k<=m.s.act.length->(∀j:Nat,bit (dD ol left k m).s.act j=(bit m.s.act j&& !(decide (j<k)&&bit left j)))/\(dD ol left k m).s.b_=m.s.b_/\(dD ol left k m).s.act.length=m.s.act.length:=by
 intro k;induction k with
 |zero=>grind[dD]
 |succ k E=>?_
 intro m hk;simp only[dD];rw[eQ];cases q:bit left k with
 |false=>
  grind
 |true=>?_
 simp only[aQ];have hb:=IN k 36 ol.fH m;have D:(eO (fa k 36 ol.fH m) k false).s.act=tf m.s.act k false:=by show tf (fa k 36 ol.fH m).s.act k false=_;rw[hb.1]
 have⟨h1,h2,h3⟩:=E (eO (fa k 36 ol.fH m) k false) (by rw[D,nD];omega);refine⟨λj=>?_,h2.trans hb.2,by rw[h3,D,nD]⟩;grind[Bg]
theorem Cq ss act left:∀ f k p,k+f<=p.length->∀j,(sB ss act left f k p).getD j 0=if k<=j/\j<k+f/\Dw ss act left j=true then hJ ss (uM ss act (aW ss j)).toNat else p.getD j 0:=by
 intro f;induction f with
 |zero=>intro k p _ j;rw[ax oQ];rfl
 |succ f E=>?_
 intro k p D j;simp only[sB];grind
theorem IW ss l p:∀ f k,(nE ss l p f k= -2/\∀j,k<=j->j<k+f->bit l j=true->bq ss j p=false)\/∃j:Nat,nE ss l p f k=j/\bit l j=true/\bq ss j p=true:=by
 intro f;induction f with
 |zero=>intro k;exact inl ⟨rfl,λj h1 h2=>oQ⟩
 |succ f D=>?_
 intro k;simp only[nE];grind[eQ,bit,bq]
theorem xF ss l p:(uM ss l p= -2/\∀j,bit l j=true->bq ss j p=false)\/∃j:Nat,uM ss l p=j/\bit l j=true/\bq ss j p=true:=by
 rcases IW ss l p ss.length 0 with⟨e,h⟩|h
 ·refine inl ⟨e,λj hj=>?_⟩;grind[bq,dY]
 exact inr h
theorem IX{ol}(D:Co ol){s}(G:rD ol.ah s)(O:s.b_.length=16)left:rD ol.ah (rem ol.ah s left):=by
 intro k hk I;have F:=D.le;have e:cf (rem ol.ah s left) k=(sB ol.ah s.act left (min ol.ah.length 16) 0 s.b_).getD k 0:=rfl;rw[e,Cq _ _ _ _ _ _ oQ];split
 ·rename_i c;have E:=c.2.2;unfold Dw at E;simp only[fQ,bne_iff_ne]at E;rcases xF ol.ah s.act (aW ol.ah k)with⟨e2,_⟩|⟨j,e2,_,J⟩
  ·omega
  rw[e2,dE];have Q:=D.nm j (dY J).1;grind[jz,hJ]
 exact G k hk I
structure Inv(ol:Ol)(s:Sd):Prop where
 Cr:Md ol.ah (bit s.act)
 b_:rD ol.ah s
 la:s.act.length=16
 lp:s.b_.length=16
theorem Inv.same{ol s s'}(h:Inv ol s)(e:mw s' s):Inv ol s':=by
 have⟨e1,e2⟩:=e;refine⟨by rw[e1];exact h.Cr,λk hk hh=>?_,by rw[e1];exact h.la,by rw[e2];exact h.lp⟩;have:=h.b_ k hk hh;grind[cf]
theorem rD.same{ss s s'}(h:rD ss s)(e:s'.b_=s.b_):rD ss s':=λk hk hh=>by
 have:=h k hk hh;unfold cf at this⊢;rw[e];exact this
def Aj(ol:Ol)(m:Ma)(list:List Int):Ma:=gq ol list (dD ol (dM ol m.s list) ol.ah.length {m with s:=rem ol.ah m.s (dM ol m.s list)})
theorem Ty{ol}(G:Co ol){m}(D:Inv ol m.s)list:(∀j,bit (Aj ol m list).s.act j=(bit m.s.act j&& !(list.any λt=>lv ol m.s t j)))/\rD ol.ah (Aj ol m list).s/\(Aj ol m list).s.act.length=16/\(Aj ol m list).s.b_.length=16:=by
 have E:=G.le;have F:=yE ol list (dD ol (dM ol m.s list) ol.ah.length {m with s:=rem ol.ah m.s (dM ol m.s list)});have⟨h2,h3,h4⟩:=Cp ol (dM ol m.s list) ol.ah.length {m with s:=rem ol.ah m.s (dM ol m.s list)} (by show ol.ah.length<=m.s.act.length;rw[D.la];exact E);have I:=IX G D.b_ D.lp (dM ol m.s list);refine⟨λj=>?_,?_,?_,?_⟩
 ·unfold Aj;rw[F.1,h2 j,IT E];show(bit m.s.act j&&_)=_;cases q:bit m.s.act j with
  |false=>rfl
  |true=>rw[gf (D.Cr.lt j q)];simp
 ·exact I.same (F.2.trans h3)
 ·unfold Aj;rw[F.1,h4];exact D.la
 unfold Aj;rw[F.2,h3];show(rem ol.ah m.s _).b_.length=16;unfold rem;rw[yd];exact D.lp
theorem zN{ol}(D:Co ol){m}(I:Inv ol m.s){list}(E:∀t∈list,Src ol m.s t)(F:Clear ol m.s list):
 eh ol m list=qm ol (eJ ol.ah (bit (Aj ol m list).s.act) (eS ol (Aj ol m list).s list) ol.ah.length 0) (Aj ol m list)/\Inv ol (eh ol m list).s/\Vq ol.ah (bit (Aj ol m list).s.act) (eS ol (Aj ol m list).s list):=by
 have⟨h1,h2,h3,h4⟩:=Ty D I list;have G:=P3 D I.Cr E F h1 h2;have⟨e1,e2,e3,e4⟩:=IQ D.tP D.le (list:=list) h3 G;refine⟨e1,⟨?_,h2.same e3,e4,by show(enter ol (Aj ol m list) list).s.b_.length=16;rw[e3];exact h4⟩,G⟩;have hb:bit (eh ol m list).s.act=_:=funext e2;rw[hb];exact Eu D.tP _ _
theorem P4 ol:∀ l m,(∀k∈l,bit m.s.act k=true)->qm ol l m=m:=by
 intro l;induction l with
 |nil=>intro m _;rfl
 |cons a l D=>grind[qm]
theorem P5 ss act:∀ f k p,sB ss act eX f k p=p:=by
 intro f;induction f with
 |zero=>intro k p;rfl
 |succ f D=>?_
 intro k p;simp only[sB];have:Dw ss act eX k=false:=by
  unfold Dw;have:has eX (aW ss k)=false:=by
   cases aW ss k with
   |ofNat n=>exact mW n
   |negSucc n=>rfl
  simp_all
 simp_all
theorem IY ol:∀ k m,dD ol eX k m=m:=by
 intro k;induction k with
 |zero=>intro m;rfl
 |succ k D=>?_
 grind[dD,eQ,mW]
theorem P6{ol}(D:Co ol){m}(E:Inv ol m.s):eh ol m []=m:=by
 have⟨e1,_,hE⟩:=zN D E (list:=[]) (by intro t G;cases G) (by intro a F;cases F);have hm:Aj ol m []=m:=by
  unfold Aj;show dD ol eX ol.ah.length {m with s:={m.s with b_:=sB ol.ah m.s.act eX (min ol.ah.length 16) 0 m.s.b_}}=m;rw[IY,P5]
 rw[e1];rw[hm]at hE⊢;refine P4 ol _ m (λk hk=>?_);rw[N7 D.tP,fR]at hk;rw[<-PZ D.tP E.Cr hE k];simp_all
theorem tQ{ol}(D:Co ol){s}(E:Inv ol s)trg:Clear ol s (choose ol s trg)/\∀t∈choose ol s trg,Src ol s t:=Gt D.le D.tP.up E.Cr.Ts trg
theorem lC{ol}(E:Co ol){m}(D:Inv ol m.s)trg:Inv ol (eh ol m (choose ol m.s trg)).s:=
 (zN E D (tQ E D trg).2 (tQ E D trg).1).2.1
theorem P7{ol}(E:Co ol){m}(D:Inv ol m.s):Inv ol (round ol m).s:=by
 unfold round;split
 ·split
  ·grind[lC]
  rename_i a q e;exact lC E (m:={m with q:=q}) D a
 grind[lC]
def dz(ol:Ol):Nat->Ma->Bool×Ma
 |0,m=>(!busy ol m,m)
 |n+1,m=>if busy ol m then dz ol n (round ol m)else(true,m)
theorem rE ol:∀ n m,dz ol n m=(!busy ol (rounds ol n m),rounds ol n m):=by
 intro n;induction n with
 |zero=>intro m;rfl
 |succ n D=>?_
 grind[dz,rounds,busy]
theorem rF{ol}(D:Co ol):∀ n {m},Inv ol m.s->Inv ol (rounds ol n m).s:=by
 intro n;induction n with
 |zero=>intro m h;exact h
 |succ n E=>?_
 grind[rounds,P7]
theorem zO{ol}(D:Co ol):enter ol ⟨dL ol.ah,[],[]⟩ []=qm ol (eJ ol.ah (bit eX) [] ol.ah.length 0) ⟨dL ol.ah,[],[]⟩/\Inv ol (enter ol ⟨dL ol.ah,[],[]⟩ []).s:=by
 have E:Vq ol.ah (bit eX) []:=by
  refine⟨λi hi=>?_,λi p hi=>?_,λi hi=>?_,λp i j _ _ _ hi=>?_,(λg hg=>absurd hg dy),(λp _ _ g hg=>absurd hg dy)⟩<;>(rw[mW]at hi;cases hi)
 have G:(⟨dL ol.ah,[],[]⟩:Ma).s.act=eX:=rfl;have⟨e1,e2,e3,e4⟩:=IQ D.tP D.le (m:=⟨dL ol.ah,[],[]⟩) (list:=[]) rfl E;refine⟨e1,⟨?_,?_,e4,by rw[e3];exact qV ol.ah |>.2⟩⟩
 ·have hb:_=xT _ (bit eX) []:=funext e2;rw[hb];exact Eu D.tP _ _
 refine rD.same (s:=dL ol.ah) (λk hk hh=>?_) e3;have:cf (dL ol.ah) k=45:=by
  have F:k<16:=by have:=D.le;omega
  show(jZ ol.ah 16).getD k 0=45;grind[jZ]
 rw[this];rfl
/-! What the reader gives stands in the order of the text. -/
theorem Ew{ss D:List St}(hu:Up ss)(E:Up D){n:Nat}(G:∀k:Nat,k<n->aW D k=aW ss k)(a:Int):∀(d k:Nat),k<d->k<n->aG D a k=aG ss a k:=by
 intro d;induction d with
 |zero=>omega
 |succ d O=>?_
 intro k I F;rw[fF E _ oQ,fF hu _ oQ,G k F];have J:=jA hu (i:=(k:Int)) oQ;have hm:=iE hu (k:Int);by_cases c:aW ss k= -1
 ·grind[sf]
 obtain⟨p,e⟩:∃p:Nat,aW ss k=p:=⟨(aW ss k).toNat,oQ⟩
 grind
structure Zi ss:Prop where
 up:Up ss
 root:∀k,0<k->k<ss.length->0<=aW ss k
 pre:∀k,k+1<ss.length->aW ss ((k+1:Nat):Int)=k\/aG ss (aW ss ((k+1:Nat):Int)) k=true
def Mf(ss:List St)(i:Nat):Prop:=i+1=ss.length\/(i+1<ss.length/\aG ss i ((ss.length-1:Nat):Int)=true)
def Gr(ss D:List St):Prop:=ss.length<=D.length/\∀k,k<ss.length->aW D k=aW ss k
theorem Gr.refl ss:Gr ss ss:=⟨aC _,λ_ _=>rfl⟩
theorem Gr.trans{a b c}(h:Gr a b)(g:Gr b c):Gr a c:=⟨bz h.1 g.1,λk hk=>(g.2 k (by have:=h.1;omega)).trans (h.2 k hk)⟩
theorem IZ p ss i:aW (cI p ss) i=aW ss i:=by
 unfold cI;split
 ·rename_i k;split
  ·rename_i s hs;split
   ·unfold aW;cases i with
    |negSucc n=>rfl
    |ofNat j=>?_
    show(match(ss.set k {s with kind:=2})[j]? with|some s=>s.parent|none=>-1)=(match ss[j]? with|some s=>s.parent|none=>-1);grind
   rfl
  rfl
 rfl
theorem I0 ss s:(∀k:Nat,k<ss.length->aW (ss++[s]) k=aW ss k)/\aW (ss++[s]) (ss.length:Nat)=s.parent:=by
 grind[aW,iR]
theorem Ws{ss}(h:Zi ss){s:St}(I:(ss=[]/\s.parent= -1)\/∃i:Nat,s.parent=i/\Mf ss i):Zi (cI s.parent (ss++[s]))/\Mf (cI s.parent (ss++[s])) ss.length/\Gr ss (cI s.parent (ss++[s]))/\aW (cI s.parent (ss++[s])) (ss.length:Nat)=s.parent:=by
 have hb: -1<=s.parent/\s.parent<ss.length:=by
  rcases I with⟨rfl,e⟩|⟨i,e,F⟩
  ·omega
  rw[e];rcases F with F|F<;>omega
 have hu:Up (cI s.parent (ss++[s])):=Up.mark (Up.push h.up hb.1 hb.2) _;have D:(cI s.parent (ss++[s])).length=ss.length+1:=by rw[iQ];simp
 have G:∀k:Nat,k<ss.length->aW (cI s.parent (ss++[s])) k=aW ss k:=λk hk=>by rw[IZ];exact(I0 ss s).1 k hk
 have E:aW (cI s.parent (ss++[s])) (ss.length:Nat)=s.parent:=by rw[IZ];exact(I0 ss s).2
 refine⟨⟨hu,?_,?_⟩,inl D.symm,⟨oQ,G⟩,E⟩
 ·intro k J hk;rcases j5 k ss.length with q|q
  ·rw[G k q];exact h.root k J q
  grind
 intro k hk;rw[D]at hk;rcases j5 (k+1) ss.length with q|q
 ·rw[G (k+1) q,Ew h.up hu G _ (k+1) k oQ oQ];exact h.pre k q
 have e1:k+1=ss.length:=oQ;rw[e1,E];rcases I with⟨rfl,_⟩|⟨i,e,F⟩
 ·simp_all
 rcases F with F|⟨F,O⟩
 ·omega
 right;rw[Ew h.up hu G _ (k+1) k oQ oQ,e];grind
theorem Cs t D r:(transition t D r).2.ah=r.ah:=by
 grind[transition]
theorem P8 t D r:(block t D r).2.ah=r.ah:=by
 unfold block;split<;>rfl
def ItZ(it:Int->Int->Rs->Bool×Rs):Prop:=∀ i cl r,Zi r.ah->Mf r.ah i->(it i cl r).1=true->Zi (it i cl r).2.ah/\Mf (it i cl r).2.ah i/\Gr r.ah (it i cl r).2.ah
theorem Ex{t it}(Kk:ItZ it){parent:Int}{r}(h:Zi r.ah)(F:(r.ah=[]/\parent= -1)\/∃i:Nat,parent=i/\Mf r.ah i)(fW:(bW t it parent r).1=true):
 Zi (bW t it parent r).2.ah/\Mf (bW t it parent r).2.ah r.ah.length/\Gr r.ah (bW t it parent r).2.ah/\aW (bW t it parent r).2.ah (r.ah.length:Nat)=parent:=by
 unfold bW at fW⊢;by_cases q:eW (af t (r.pos+1))=true
 ·have E:bB t (af t r.pos) parent {r with pos:=r.pos+1}=(true,{r with pos:=r.pos+1+1,ah:=cI parent (r.ah++[⟨af t (r.pos+1),((r.pos+1:Nat):Int),fU (af t r.pos),parent⟩])}):=by
   grind[bB]
  have⟨z1,z2,z3,z4⟩:=Ws h (s:=⟨af t (r.pos+1),((r.pos+1:Nat):Int),fU (af t r.pos),parent⟩) F;have D:(cI parent (r.ah++[⟨af t (r.pos+1),((r.pos+1:Nat):Int),fU (af t r.pos),parent⟩])).length=r.ah.length+1:=by rw[iQ];simp
  rw[E]at fW⊢;simp only[aQ]at fW⊢;split at fW
  ·rename_i c1;rw[aq c1];have⟨a1,a2,a3⟩:=Kk r.ah.length 41 _ z1 z2 fW;exact⟨a1,a2,z3.trans a3,(a3.2 r.ah.length (by simp only;omega)).trans z4⟩
  rename_i c1;rw[ax c1];split at fW
  ·rename_i c2;rw[aq c2];have⟨a1,a2,a3⟩:=Kk r.ah.length 93 _ z1 z2 fW;exact⟨a1,a2,z3.trans a3,(a3.2 r.ah.length (by simp only;omega)).trans z4⟩
  grind
 grind[bB,af]
theorem P9 t:∀n,ItZ (a_ t n):=by
 intro n;induction n with
 |zero=>intro i cl r _ _ h;grind[a_]
 |succ n F=>?_
 intro i cl r J E fW;simp only[a_]at fW⊢;split at fW
 ·rename_i c1;rw[aq c1];split at fW
  ·rename_i c2;rw[aq c2];have⟨z1,z2,z3,z4⟩:=Ex F J (inr ⟨i,rfl,E⟩) c2;generalize (bW t (a_ t n) i r).2=D at*;have O:i<r.ah.length:=by rcases E with e|e<;>omega
   have I:Mf D.ah i:=by
    right;have Q:r.ah.length<D.ah.length:=by rcases z2 with e|e<;>omega
    refine⟨oQ,?_⟩;have G:aG D.ah (i:Int) (r.ah.length:Nat)=true:=by rw[fF z1.up _ oQ,z4];simp
    rcases z2 with e|⟨_,e⟩
    ·grind
    exact sK z1.up G e
   have⟨a1,a2,a3⟩:=F i cl D z1 I fW;exact⟨a1,a2,z3.trans a3⟩
  simp_all
 rename_i c1;rw[ax c1];split at fW
 ·rename_i c2;rw[aq c2];split at fW
  ·rename_i c3;rw[aq c3];have hs:=Cs t i r;generalize (transition t i r).2=D at*;have:=F i cl D (by rw[hs];exact J) (by rw[hs];exact E) fW;simp_all
  simp_all
 rename_i c2;rw[ax c2];split at fW
 ·rename_i c3;rw[aq c3];split at fW
  ·rename_i c4;rw[aq c4];have hs:=P8 t i r;generalize (block t i r).2=D at*;have:=F i cl D (by rw[hs];exact J) (by rw[hs];exact E) fW;simp_all
  simp_all
 grind[Gr.refl]
theorem TC{t}(h:(chart t).1=true):Zi (chart t).2.ah/\0<(chart t).2.ah.length:=by
 unfold chart at h⊢;split at h
 ·rename_i c1;rw[aq c1];split at h
  ·rename_i c2;rw[aq c2];have F:Zi r0.ah:=⟨by intro k s h;simp[r0]at h,by intro k G D;simp[r0]at D,by intro k D;simp[r0]at D⟩
   have⟨z1,z2,z3,_⟩:=Ex (P9 t (t.size+1)) F (inl ⟨rfl,rfl⟩) c2;have E:0<(bW t (a_ t (t.size+1)) (-1) r0).2.ah.length:=by rcases z2 with e|e<;>omega
   simp_all
  cases h
 cases h
def T0(r:Rs):Prop:=∀x∈r.dF,0<=x.state
theorem DH t(i:Nat){r}(h:T0 r):T0 (transition t i r).2:=by
 unfold transition;split
 ·split
  ·split
   ·intro x D;rcases cS.1 D with D|D
    ·exact h x D
    simp_all
   exact h
  exact h
 exact h
theorem TD t(i:Nat){r}(h:T0 r):T0 (block t i r).2:=by
 unfold block;split<;>exact h
theorem Ey{t it}(Kk:∀(i:Nat) cl r,T0 r->T0 (it i cl r).2){parent}{r}(h:T0 r):T0 (bW t it parent r).2:=by
 grind[T0,bB,af,bW]
theorem P_ t:∀(n i:Nat) cl r,T0 r->T0 (a_ t n i cl r).2:=by
 intro n;induction n with
 |zero=>intro i cl r h;exact h
 |succ n D=>?_
 intro i cl r h;simp only[a_];split
 ·grind[Ey]
 split
 ·grind[DH]
 split
 ·grind[TD]
 exact h
theorem Ct t:T0 (chart t).2:=by
 grind[T0,r0,Ey,P_,chart]
/-! A chart without faults. -/
theorem u9.right{α β:Type}{R:α->β->Prop}{l:List α}{m:List β}(h:u9 R l m){b:β}(hb:b∈m):∃a∈l,R a b:=by
 induction h using u9.ind with
 |nil=>cases hb
 |cons D _ E=>?_
 grind
theorem DI{ss}:∀ us,fD ss us= -2->(∀u∈us,-2<u.pos)->∀u∈us,place ss u.name≠ -2:=by
 intro us;induction us with
 |nil=>simp_all
 |cons a us D=>?_
 grind[fD]
theorem Cu{ss c}(h:place ss c≠ -2):∃g:Nat,place ss c=g/\g<ss.length:=by
 grind[mU,place]
theorem wL{L k}(hk:k<L.length):hJ (L.map RN.st) k=(eE L k).name:=by
 unfold hJ;rw[bD,au hk,eC (au hk)];rfl
theorem Y5{L r}(G:NR L r)(U:Zi r.ah)(aa:0<r.ah.length)(hj:(gy r.ah r.dH).1=0)(hT:∀x∈r.dF,0<=x.state):Co ⟨r.ah,r.dF,r.fH⟩:=by
 have⟨hu,h16⟩:=Ce G hj;have Q:=G.ah;have D:r.ah.length=L.length:=by rw[<-Q];simp
 have vd:∀k,k<L.length->wV L k=false:=by
  rw[<-BY G]at hj;grind[sJ,u_,wV]
 have Y:fD r.ah r.dH= -2:=by
  grind[gy]
 have X:∀u∈r.dH,-2<u.pos:=by
  intro u ad;have⟨k,n,rt,x,_,_,ht,I⟩:=(G.us u).1 ad;have Z:=ht.pos;grind[xf]
 have aj:=DI r.dH Y X;have kd:∀k:Nat,k<L.length->bn r.ah k=(eE L k).kind:=λk hk=>by rw[<-Q];exact zG hk
 have pr:∀k:Nat,k<L.length->aW r.ah k=(eE L k).parent:=λk hk=>by rw[<-Q];exact yA hk
 have wf:=λk hk=>G.wf k _ (au hk);have ao:∀(j:Nat) (p:Int),j<L.length->bq r.ah j p=tH L p j:=λj p hj'=>by rw[<-Q];exact k_ hj'
 refine⟨⟨U.up,aa,?_,U.pre,?_,?_,?_⟩,by rw[D];exact h16,?_,?_,?_⟩
 ·intro k hk e;by_cases c:k=0
  ·omega
  have:=U.root k oQ hk;simp_all
 ·intro k Z hk;simp only at hk⊢;have hp:=U.root k Z hk;rw[D]at hk;have hw:=wf k hk;rw[pr k hk]at hp⊢;have e1:=eC (au hk);rw[e1]at hp⊢;obtain⟨p,J⟩:∃p:Nat,(L[k]).parent=p:=⟨(L[k]).parent.toNat,oQ⟩
  have E:p<L.length:=oQ;have:=G.pk k _ L[p] (au hk) (by rw[J];exact au E);rw[J,kd p E,eC (au E)];omega
 ·intro k hk F;simp only at hk F⊢;rw[D]at hk;rw[kd k hk]at F;have hm:=vd k hk;unfold wV at hm;rw[ax il]at hm;have R:((eE L k).kind==3||(eE L k).kind==2)=true:=il;rw[R]at hm;simp only[fC]at hm;cases q:dZ L (k:Int)with
  |nil=>simp_all
  |cons a l=>?_
  have ha:a∈dZ L (k:Int):=by rw[q];simp
  grind[dZ]
 ·intro k hk F;simp only at hk F⊢;rw[D]at hk;rw[kd k hk]at F;have hw:=wf k hk;have e1:=eC (au hk);rw[e1]at F;have hp:=hw.2.2.2.1 oQ;have hm:=vd k hk;unfold wV at hm;rw[e1,aq il]at hm;obtain⟨p,J⟩:∃p:Nat,(L[k]).parent=p:=⟨(L[k]).parent.toNat,oQ⟩
  have E:p<L.length:=oQ;have am:=G.pk k _ L[p] (au hk) (by rw[J];exact au E);refine⟨oQ,?_⟩;rw[pr k hk,e1,J,kd p E];rw[J,dE]at hm;have e2:=eC (au E);simp_all
 ·intro x I Ev;simp only at I⊢;obtain⟨k,hk⟩:∃k:Nat,x.state=k:=by
   have:=G.ts x I;exact⟨x.state.toNat,by have:=(hT x I);omega⟩
  have O:k<L.length:=by have:=G.ts x I;omega
  have⟨rt,Cd,fW⟩:=(G.dF k _ (au O)).right (b:=x) (by rw[fR];exact⟨I,by unfold sE;rw[hk];simp⟩);have ab:eW x.target=true:=by
   have:=fW.ta;grind[pX]
  have ap:(⟨x.target,rt.pos+(gW rt.text).length-1⟩:Us)∈r.dH:=(G.us _).2 ⟨k,_,rt,x,au O,Cd,fW,by unfold xf;rw[aq ab];simp⟩;grind[Cu]
 ·intro x I;simp only at I⊢;have h1:=G.ts x I;have Z:=hT x I;exact⟨x.state.toNat,oQ,oQ⟩
 intro k hk;simp only at hk⊢;rw[D]at hk;rw[<-Q,wL hk];constructor
 ·rcases lh L (eE L k).name with⟨_,_,R⟩|⟨i,hi,_,R,h4⟩
  ·grind
  rw[R];have:=hu i k hi hk h4;omega
 have hw:=(wf k hk).2.2.1;rw[<-eC (au hk)]at hw;grind[eW]
theorem yF{t}(h:(read t).1=0):Co (read t).2.2/\(read t).2.2=⟨(chart t).2.ah,(chart t).2.dF,(chart t).2.fH⟩/\(chart t).1=true/\(gy (chart t).2.ah (chart t).2.dH).1=0:=by
 unfold read at h⊢;split at h
 ·omega
 rename_i c0;rw[ax c0];split at h
 ·rename_i c1;rw[aq c1];split at h
  ·rename_i c2;rw[aq c2];have D:(gy (chart t).2.ah (chart t).2.dH).1=0:=cX c2;have⟨L,_,hN⟩:=zE c1;have⟨hz,hne⟩:=TC c1;exact⟨Y5 hN hz hne D (Ct t),rfl,c1,D⟩
  simp_all
 omega
/-! A state that is one of the chart's stands as it should. -/
theorem Mg{p:Nat->Bool}:∀(l:List Nat),l.Nodup->l.countP p=1->∀i∈l,∀j∈l,p i=true->p j=true->i=j:=by
 intro l;induction l with
 |nil=>intro _ h;cases h
 |cons a l Q=>?_
 intro J F i hi j G D E;rw[List.nodup_cons]at J;rw[List.countP_cons]at F;have O:∀(h:l.countP p=0) (k:Nat),k∈l->p k=true->False:=λh k hk hpk=>by
  rw[List.countP_eq_zero]at h;exact h k hk hpk
 cases q:p a with
 |true=>
  rw[q]at F;simp only[aQ]at F;have I:l.countP p=0:=oQ;rcases dB.1 hi with rfl|hi
  ·rcases dB.1 G with rfl|G
   ·rfl
   exact(O I j G E).elim
  exact(O I i hi D).elim
 |false=>?_
 rw[q]at F;simp only[bu,bf,kS]at F;rcases dB.1 hi with rfl|hi
 ·rw[q]at D;cases D
 rcases dB.1 G with rfl|G
 ·rw[q]at E;cases E
 exact Q J.2 F i hi j G D E
theorem Y6{ss t}:∀ f k last l m,-1<=last->(∀j,bit l j=true->j<ss.length)->AF ss t f k last l=some m->∀j,bit m j=true->j<ss.length:=by
 intro f;induction f with
 |zero=>intro k last l m _ h e;simp[AF]at e;rw[<-e];exact h
 |succ f E=>?_
 intro k last l m F h e;simp only[AF]at e;split at e
 ·cases e
 rename_i q;have⟨g,hg,hgl⟩:=Cu (ss:=ss) (c:=af t k) oQ;refine E _ _ _ _ oQ ?_ e;intro j D;rw[hg]at D;by_cases c:g<l.length
 ·rw[Bg c]at D;split at D
  ·omega
  exact h j D
 have:tf l (g:Int) true=l:=by show l.set g true=l;rw[List.set_eq_of_length_le oQ]
 rw[this]at D;exact h j D
theorem TE{ss}(h:vi ss){l}(I:∀j,bit l j=true->j<ss.length)(O:allFit ss l ss.length=true):Md ss (bit l):=by
 have F:∀i:Nat,i<ss.length->fits ss l i=true:=by
  unfold allFit at O;rw[kU]at O;intro i hi;exact O i (cX hi)
 have D:∀i:Nat,bit l i=true->((aW ss i != -1)&& !has l (aW ss i))=false/\(bn ss i=2->ij ss l i true=1)/\(bn ss i=3->ij ss l i false=0)/\bn ss i≠5:=by
  intro i hi;have:=F i (I i hi);unfold fits at this;rw[eQ,hi]at this;simp only[aQ]at this;split at this
  ·cases this
  rename_i c1;refine⟨by simpa using c1,?_,?_,?_⟩
  ·intro X;rw[X]at this;simp at this;omega
  ·intro Y;rw[Y]at this;simp at this;omega
  intro Z;rw[Z]at this;simp at this
 have Ts:∀i p:Nat,bit l i=true->aW ss i=p->bit l p=true:=by
  intro i p hi G;have:=(D i hi).1;rw[G,eQ]at this;have Q:((p:Int)!= -1)=true:=dy;rw[Q]at this;simpa using this
 refine⟨?_,I,Ts,λi hi=>(D i hi).2.2.2,?_,?_,?_⟩
 ·have:=F 0 h.ne;unfold fits at this;rw[eQ,h.N6]at this;cases q:bit l 0 with
  |true=>rfl
  |false=>rw[q]at this;simp at this
 ·intro p i j hk hi U J R;have G:bit l p=true:=Ts i p J (dY hi).2.1;have E:=(D p G).2.1 hk;unfold ij th at E;refine Mg _ List.nodup_range E i (by simpa using(dY hi).1) j (by simpa using(dY U).1) ?_ ?_
  ·unfold wS;rw[eQ,J,hi];rfl
  unfold wS;rw[eQ,R,U];rfl
 ·intro p G hk;have E:=(D p G).2.1 hk;unfold ij th at E;have:0<(List.range ss.length).countP (wS ss l p true):=oQ;rw[List.countP_pos_iff]at this;have⟨i,_,hi⟩:=this;unfold wS at hi;rw[eQ]at hi;simp only[fQ,beq_iff_eq]at hi;exact⟨i,hi.2,hi.1⟩
 intro p i G hk hi;have E:=(D p G).2.2.1 hk;unfold ij th at E;rw[List.countP_eq_zero]at E;have:=E i (by simpa using(dY hi).1);unfold wS at this;rw[eQ,hi]at this;cases q:bit l i with
 |true=>rfl
 |false=>rw[q]at this;simp at this
theorem Cv{ss t}:∀ f k n l r,wo ss t f k n l=some r->k+f<=l.length->
 (∀j,j<k->r.1.getD j 0=l.getD j 0)/\∀j,k<=j->j<k+f->fZ ss j=true->jz ss j (r.1.getD j 0)=true:=by
 intro f;induction f with
 |zero=>intro k n l r h _;simp[wo]at h;subst h;exact⟨λ_ _=>rfl,λj h1 h2=>oQ⟩
 |succ f D=>?_
 intro k n l r h E;simp only[wo]at h;split at h
 ·rename_i q;split at h
  ·cases h
  rename_i c;have⟨h1,h2⟩:=D (k+1) (n+1) _ r h il;refine⟨λj hj=>?_,λj hj1 hj2 hh=>?_⟩
  ·rw[h1 j oQ];simp only[iO];rw[jP oQ]
  by_cases e:j=k
  ·subst e;rw[h1 j oQ];simp only[iO];rw[jO oQ];simp at c;exact c.2
  exact h2 j oQ oQ hh
 rename_i q;have⟨h1,h2⟩:=D (k+1) n l r h oQ;refine⟨λj hj=>h1 j oQ,λj hj1 hj2 hh=>?_⟩;by_cases e:j=k
 ·subst e;rw[hh]at q;simp at q
 exact h2 j oQ oQ hh
theorem I1{ol}(D:Co ol){a}{p}{t}{x}{y}{z}(h:(take ol.ah a p t x y z).1=true):Inv ol (take ol.ah a p t x y z).2:=by
 unfold take at h⊢;split at h
 ·rename_i c1;rw[aq c1];split at h
  ·rename_i c2;rw[aq c2];split at h
   ·rename_i c3;rw[aq c3];refine⟨?_,?_,nG _ _,l7 _ _⟩
    ·show Md ol.ah (bit (db ol.ah a).1);unfold db oJ at c1⊢;cases q:AF ol.ah a a.size 0 (-1) eX with
     |none=>rw[q]at c1;simp at c1
     |some l=>?_
     rw[q]at c1;simp only at c1⊢;cases F:allFit ol.ah l ol.ah.length with
     |false=>rw[F]at c1;simp at c1
     |true=>?_
     simp only[aQ];exact TE D.tP (Y6 _ _ _ _ _ oQ (λj E=>by rw[mW]at E;cases E) q) F
    intro k hk I;show jz ol.ah k ((cK ol.ah p).1.getD k 0)=true;unfold cK at c2⊢;have G:=D.le;cases q:wo ol.ah p (min ol.ah.length 16) 0 0 (eN ol.ah)with
    |none=>rw[q]at c2;simp at c2
    |some r=>?_
    rw[q]at c2;have⟨l,n⟩:=r;simp only at c2⊢;split at c2
    ·cases c2
    rename_i c4;rw[ax c4];exact(Cv _ _ _ _ _ q (by rw[gR];omega)).2 k oQ oQ I
   cases h
  cases h
 cases h
/-! Texts. -/
theorem oD{t:ByteArray}{l:List Int}(h:gW t=l){k:Nat}{x:Int}(hk:l[k]? =some x):af t k=x/\k<t.size:=by
 grind[cL,rX]
theorem qq t p q:gW (t.extract p q)=((gW t).drop p).take (q-p):=by
 unfold gW;simp_all
theorem Bi{a b}(h:gW a=gW b):a=b:=by
 unfold gW at h;have F:a.data.toList=b.data.toList:=by
  apply f_;intro k;have:=iw (λl=>l[k]?) h;simp only[bD]at this;cases D:a.data.toList[k]? <;>cases E:b.data.toList[k]? <;>rw[D,E]at this<;>simp at this⊢
  exact UInt8.toNat_inj.1 oQ
 have:=Array.toList_inj.1 F;cases a;simp_all
theorem mg{l}(h:∀x∈l,0<=x/\x<256):gW (strOfNums l)=l:=by
 unfold gW strOfNums;simp only[List.map_map];rw[show(List.map ((λb:UInt8=>(b.toNat:Int))∘λn:Int=>UInt8.ofNat n.toNat) l)=l.map id from qu (λx hx=>?_)]
 ·simp
 have:=h x hx;simp only[Function.comp,id,UInt8.toNat_ofNat'];omega
theorem uE a b:gW (a++b)=gW a++gW b:=by
 unfold gW;simp_all
theorem lj a b:strOfNums (a++b)=strOfNums a++strOfNums b:=by
 unfold strOfNums;apply lZ;simp_all
theorem N_{c}(h:ez c=true):97<=c/\c<=122:=by unfold ez at h;simpa using h
theorem Wt{c}(h:kF c=true):120<=c/\c<=122:=by have:=wF h;omega
theorem xS.byte{a}(h:xS a):97<=a.aK/\a.aK<=122/\0<=a.digit/\a.digit<=9:=by
 rcases h with⟨_,D,E⟩|⟨_,D,E⟩|⟨_,D,E⟩
 ·simp_all[N_]
 ·have:=N_ D;omega
 have:=Wt D;omega
theorem TF{s a r}(h:gW s=ys a++r):af s 0=a.sign/\af s 1=a.aK/\2<=s.size/\
 (BV a.sign=true->af s 2=48+a.digit/\3<=s.size/\gW (s.extract 3 s.size)=r)/\(BV a.sign=false->gW (s.extract 2 s.size)=r):=by
 unfold ys at h;cases q:BV a.sign with
 |true=>
  rw[q]at h;simp only[aQ]at h;have D:=oD h (k:=0) (x:=a.sign) rfl;have E:=oD h (k:=1) (x:=a.aK) rfl;have F:=oD h (k:=2) (x:=48+a.digit) rfl;grind[qq,cL]
 |false=>?_
 rw[q]at h;simp only[bu,bf]at h;have D:=oD h (k:=0) (x:=a.sign) rfl;have E:=oD h (k:=1) (x:=a.aK) rfl;grind[qq,cL]
theorem Wu{t k}(h:k+1<=t.size):t.extract k (k+1)=strOfNums [af t k]:=by
 have E:0<=af t k/\af t k<256:=by
  unfold af;rw[dif_pos oQ];have:=UInt8.toNat_lt (t[k]'oQ);omega
 apply Bi;rw[qq,mg (by intro x D;simp at D;rw[D];exact E)];apply f_;grind[rX]
theorem Oc{t k}(h:k+2<=t.size):t.extract k (k+2)=strOfNums [af t k,af t (k+1)]:=by
 have D:∀j,j<t.size->0<=af t j/\af t j<256:=by
  intro j F;unfold af;rw[dif_pos F];have:=UInt8.toNat_lt (t[j]'F);omega
 apply Bi;rw[qq,mg (by intro x E;simp at E;rcases E with rfl|rfl;exact D _ oQ;exact D _ oQ)];apply f_;grind[rX]
theorem Od{rt x}(h:xz rt x):3<=rt.text.size/\
 ((x.guard.sign=0/\af rt.text 1≠63/\gW (rt.text.extract 1 (rt.text.size-2))=enc x.bM)\/
  (kF x.guard.var=true/\sx x.guard.sign=true/\0<=x.guard.digit/\x.guard.digit<=9/\7<=rt.text.size/\af rt.text 1=63/\af rt.text 2=x.guard.var/\af rt.text 3=x.guard.sign/\af rt.text 4=48+x.guard.digit/\gW (rt.text.extract 5 (rt.text.size-2))=enc x.bM)):=by
 have D:=h.Vp;have E:=iw List.length D;rw[cL]at E;rcases h.gd with e|⟨J,F,O,Q⟩
 ·have hs:x.guard.sign=0:=by rw[e]
  have he:Gb x.guard=[]:=by unfold Gb;rw[hs];rfl
  rw[he]at D E;simp only[kT,e_,ix,kN]at E;refine⟨oQ,inl ⟨hs,?_,?_⟩⟩
  ·cases G:enc x.bM with
   |nil=>
    rw[G]at D;have:=(oD D (k:=1) (x:=62) rfl).1;omega
   |cons b l=>
    rw[G]at D;have R:=(oD D (k:=1) (x:=b) rfl).1;have:=(LM h.ac b (by rw[G];simp)).2.2;omega
  grind[qq,enc]
 have I:(x.guard.sign==0)=false:=by
  unfold sx at F;simp at F⊢;omega
 have he:Gb x.guard=[63,x.guard.var,x.guard.sign,48+x.guard.digit]:=by unfold Gb;rw[I];rfl
 rw[he]at D E;simp only[List.cons_append,kT,e_,ix,kN]at E D;refine⟨oQ,inr ⟨J,F,O,Q,oQ,(oD D (k:=1) rfl).1,(oD D (k:=2) rfl).1,(oD D (k:=3) rfl).1,(oD D (k:=4) rfl).1,?_⟩⟩;rw[qq,D];show List.take (rt.text.size-2-5) (enc x.bM++[62,x.target])=enc x.bM;rw[show rt.text.size-2-5=(enc x.bM).length by omega];exact List.take_left
/-! Moves: of which state,and which of its transitions. -/
def DJ(j:Nat):List Tr->Nat->List Nat
 | [],_=>[]
 |x::l,n=>if sE j x then n::DJ j l (n+1)else DJ j l (n+1)
theorem TG j:∀ l n k t,(DJ j l n)[k]? =some t->n<=t/\∃x,l[t-n]? =some x/\x.state=j/\(l.filter (sE j))[k]? =some x/\k=(l.take (t-n)).countP (sE j):=by
 intro l;induction l with
 |nil=>grind[DJ]
 |cons x l D=>?_
 intro n k t h;simp only[DJ]at h;cases q:sE j x with
 |true=>
  rw[q]at h;simp only[aQ]at h;cases k with
  |zero=>
   grind[sE]
  |succ k=>?_
  have⟨h1,y,h2,h3,h4,h5⟩:=D (n+1) k t (cX h);have e:t-n=(t-(n+1))+1:=oQ;refine⟨oQ,y,by rw[e];simpa using h2,h3,by simp[q];exact h4,?_⟩;rw[e,List.take_succ_cons,List.countP_cons,q,<-h5];simp
 |false=>?_
 rw[q]at h;simp only[bu,bf]at h;have⟨h1,y,h2,h3,h4,h5⟩:=D (n+1) k t h;have e:t-n=(t-(n+1))+1:=oQ;grind
def yG(s:Sd)(trg:Int)(x:Tr):Bool:=(x.uh==trg)&&holds s x.guard
theorem Ez s(j:Nat)trg x:xa s j trg x=(sE j x&&yG s trg x):=by
 grind[xa,sE,yG]
theorem Gu s j trg:∀(l:List Tr) n,(∀x∈l.filter (sE j),yG s trg x=false)->iF s j trg l n= -2:=by
 intro l;induction l with
 |nil=>intro n _;rfl
 |cons x l D=>?_
 grind[iF,Ez,sE]
theorem I2 s j trg:∀ l n k x,(l.filter (sE j))[k]? =some x->yG s trg x=true->(∀(i:Nat) y,i<k->(l.filter (sE j))[i]? =some y->yG s trg y=false)->
 ∃t,(DJ j l n)[k]? =some t/\iF s j trg l n=t:=by
 intro l;induction l with
 |nil=>simp_all
 |cons a l E=>?_
 intro n k x h D hb;simp only[iF,DJ];rw[Ez];cases q:sE j a with
 |false=>
  rw[j9,q]at h;simp only[bu,bf]at h;simp only[mF,bu,bf];exact E (n+1) k x h D (λi y hi hy=>hb i y hi (by rw[j9,q];simpa using hy))
 |true=>?_
 rw[j9,q]at h;simp only[aQ]at h;cases k with
 |zero=>
  simp_all
 |succ k=>?_
 have F:=hb 0 a oQ (by rw[j9,q];simp);rw[F];simp only[Bool.and_false,bu,bf,aQ];have⟨t,h1,h2⟩:=E (n+1) k x (cX h) D (λi y hi hy=>hb (i+1) y oQ (by rw[j9,q];simpa using hy));simp_all
def G9(ol:Ol)(t:Nat):Nat:=match ol.dF[t]? with|some x=>(ol.dF.take t).countP (sE x.state.toNat)|none=>0
structure TH(ol:Ol)(t a k:Nat):Prop where
 tr:∃x,ol.dF[t]? =some x/\x.state=a/\(ol.dF.filter (sE a))[k]? =some x
 st:iG ol t=a
 rk:G9 ol t=k
theorem XO{ol t a k}(h:(DJ a ol.dF 0)[k]? =some t):TH ol t a k:=by
 have⟨_,x,h2,h3,h4,h5⟩:=TG a ol.dF 0 k t h;rw[Nat.sub_zero]at h2 h5;refine⟨⟨x,h2,h3,h4⟩,by unfold iG;rw[h2];exact h3,?_⟩;grind[G9]
theorem I3{ol s}{j:Nat}{trg}(h:∀x∈ol.dF.filter (sE j),yG s trg x=false):lL ol s j trg= -2:=Gu s j trg ol.dF 0 h
theorem Mh{ol s j trg k x}(h:(ol.dF.filter (sE j))[k]? =some x)(D:yG s trg x=true)(hb:∀ i y,i<k->(ol.dF.filter (sE j))[i]? =some y->yG s trg y=false):
 ∃t,TH ol t j k/\lL ol s j trg=t:=by
 have⟨t,h1,h2⟩:=I2 s j trg ol.dF 0 k x h D hb;exact⟨t,XO h1,h2⟩
theorem Y7{ol t u x y}(F:ol.dF[t]? =some x)(hu:ol.dF[u]? =some y)(hs:x.state=y.state)(E:0<=x.state)(hk:G9 ol t=G9 ol u):t=u:=by
 unfold G9 at hk;rw[F,hu]at hk;simp only at hk;rw[<-hs]at hk;have J:sE x.state.toNat x=true:=by unfold sE;rw[Int.toNat_of_nonneg E];simp
 have O:sE x.state.toNat y=true:=by unfold sE;rw[Int.toNat_of_nonneg E,hs];simp
 have I:∀(a b:Nat) (z:Tr),ol.dF[a]? =some z->sE x.state.toNat z=true->a<b->(ol.dF.take a).countP (sE x.state.toNat)<(ol.dF.take b).countP (sE x.state.toNat):=by
  intro a b z G hi D;have e:(ol.dF.take b)=ol.dF.take a++(ol.dF.take b).drop a:=by
   have:=od a (ol.dF.take b);grind
  rw[e,List.countP_append];have hm:z∈(ol.dF.take b).drop a:=by
   rw[List.mem_iff_getElem?];exact⟨0,by rw[List.getElem?_drop,kS,List.getElem?_take,aq D];exact G⟩
  have:0<((ol.dF.take b).drop a).countP (sE x.state.toNat):=by rw[List.countP_pos_iff];exact⟨z,hm,hi⟩
  omega
 rcases Nat.lt_trichotomy t u with c|c|c
 ·grind
 ·omega
 grind
theorem u9.get{α β R}{l:List α}{m}(h:u9 R l m){k:Nat}{b:β}(hb:m[k]? =some b):∃a,l[k]? =some a/\R a b:=by
 induction h using u9.ind generalizing k with
 |nil=>simp_all
 |cons D _ E=>?_
 grind
theorem u9.Y8{α β R l}{m:List β}(h:u9 R l m){k:Nat}{a:α}(E:l[k]? =some a):∃b,m[k]? =some b/\R a b:=by
 induction h using u9.ind generalizing k with
 |nil=>simp_all
 |cons D _ F=>?_
 grind
theorem Qa ol s t:∀ l kept,iH ol s t l kept=if l.all (λx=>!(meets (leaves ol s t) (leaves ol s x.toNat))||within ol t x.toNat)then some (kept++l.filter (λx=>!(meets (leaves ol s t) (leaves ol s x.toNat)))++[(t:Int)])else none:=by
 intro l;induction l with
 |nil=>grind[kept,iH]
 |cons x l D=>?_
 intro kept;simp only[iH,List.all_cons,j9];grind
/-! Fuel does not matter. -/
theorem I4{ss:List St}(h:vi ss)(l:List Bool):∀(f g i:Nat),ss.length<=i+f->ss.length<=i+g->i<ss.length->h_ ss l f i=h_ ss l g i:=by
 intro f;induction f with
 |zero=>omega
 |succ f I=>?_
 intro g i F D G;match g,D with
 |0,D=>omega
 |g+1,D=>
  simp only[h_];have:uZ (λ(j:Nat)=>!bq ss j i||h_ ss l f j) ss.length=uZ (λ(j:Nat)=>!bq ss j i||h_ ss l g j) ss.length:=by
   unfold uZ;rw[mE,kU,kU];have E:∀j:Nat,(!bq ss j i||h_ ss l f j)=(!bq ss j i||h_ ss l g j):=by
    intro j;cases q:bq ss j i with
    |false=>rfl
    |true=>?_
    have:=sM h q;grind
   simp_all
  rw[this]
theorem Mi{ss}(h:vi ss)l(i:Nat):atEnd ss l i=if bn ss i==2 then uy ss l i else if bn ss i==3 then(fT ss i).all (λj=>atEnd ss l j)else false:=by
 have e:atEnd ss l i=if bn ss i==2 then uy ss l i else if bn ss i==3 then uZ (λ(j:Nat)=>!bq ss j i||h_ ss l (ss.length+1) j) ss.length else false:=rfl
 rw[e];have:uZ (λ(j:Nat)=>!bq ss j i||h_ ss l (ss.length+1) j) ss.length=(fT ss i).all (λj=>atEnd ss l j):=by
  unfold uZ;grind[cY,dY,atEnd,I4,bq]
 rw[this]
theorem I5{ss}l(i:Nat):uy ss l i=(fT ss i).any (λj=>(bn ss j==4)&&bit l j):=by
 unfold uy xq;rw[mE,mC,mC];constructor
 ·grind[H8,eQ,cY,yC]
 rintro⟨j,E,F⟩;have D:=dY (cY.1 E);refine⟨j,by simpa using D.1,?_⟩;grind[H8,eQ]
theorem Qb{ss}(h:vi ss)S goals:∀ f g i,ss.length<=i+f->ss.length<=i+g->i<ss.length->eJ ss S goals f i=eJ ss S goals g i:=by
 intro f;induction f with
 |zero=>omega
 |succ f G=>?_
 intro g i F D E;match g,D with
 |0,D=>omega
 |g+1,D=>
  simp only[eJ];congr 1;split
  ·rename_i q;have:=sM h (Ck h S goals E (cX q));grind
  split
  ·unfold List.flatMap;congr 1;refine qu (λj hj=>?_);have:=sM h (cY.1 hj);grind
  rfl
theorem zQ{ss}(h:vi ss)S goals{i}(hi:i<ss.length):
 eJ ss S goals ss.length i=i::(if bn ss i==2 then eJ ss S goals ss.length (pP ss S goals i)else if bn ss i==3 then(fT ss i).flatMap (eJ ss S goals ss.length)else[]):=by
 have e:eJ ss S _ ss.length i=eJ ss S goals (ss.length+1) i:=Qb h S goals _ _ i oQ oQ hi;rw[e];rfl
theorem Mj{ss S g1 g2}(E:∀k,rB ss g1 k=rB ss g2 k):∀ f i,eJ ss S g1 f i=eJ ss S g2 f i:=by
 have F:∀i,pP ss S g1 i=pP ss S g2 i:=by
  intro i;unfold pP;rw[show rB ss g1=rB ss g2 from funext E]
 intro f;induction f with
 |zero=>intro i;rfl
 |succ f D=>?_
 intro i;simp only[eJ];rw[F i,D,show eJ ss S g1 f=eJ ss S g2 f from funext D]
def lF(ol:Ol)(s:Sd)(t:Int):Int:=match ol.dF[t.toNat]? with|some x=>if x.target==45 then-1 else l5 ol.ah s (place ol.ah x.target)|none=>-1
theorem Qc{ol}s k:∀ l,rB ol.ah (l.map (lF ol s)) k=rB ol.ah (eS ol s l) k:=by
 intro l;induction l with
 |nil=>rfl
 |cons t l D=>?_
 grind[rB,lF,eS,l5,place]
def lG(ss:List St)(s:Sd):List Int:=((List.range ss.length).filter (fZ ss)).map (cf s)
theorem Qd(p:Nat->Bool)(nm:Nat->Int):∀(l:List Nat) c,(∀k∈l,p k=false)/\l.foldl (λc k=>if p k then nm k else c) c=c\/∃k∈l,p k=true/\l.foldl (λc k=>if p k then nm k else c) c=nm k:=by
 intro l;induction l with
 |nil=>simp_all
 |cons a l D=>?_
 grind
theorem TI{ol}(Q:Co ol){s}(O:Inv ol s)left{k}{p:Nat}(hk:k<ol.ah.length)(F:fZ ol.ah k=true)(hp:aW ol.ah k=p):
 cf (rem ol.ah s left) k=(fT ol.ah p).foldl (λc j=>if bit left p&&bit s.act j then hJ ol.ah j else c) (cf s k):=by
 have R:=Q.le;have e:cf (rem ol.ah s left) k=(sB ol.ah s.act left (min ol.ah.length 16) 0 s.b_).getD k 0:=rfl;rw[e,Cq _ _ _ _ _ _ (by have:=O.lp;omega)];have J:bn ol.ah p=2:=by
  have:=(Q.tP.hs k hk (inl (by rw[wK hk]at F;simpa using F))).2;simp_all
 unfold Dw;rw[F,hp,eQ];rcases Qd (λj=>bit left p&&bit s.act j) (hJ ol.ah) (fT ol.ah p) (cf s k)with⟨D,E⟩|⟨j,Y,D,E⟩
 ·rw[E];split
  ·rename_i c;exfalso;have U:=c.2.2;simp only[fC,fQ,bne_iff_ne]at U;rcases xF ol.ah s.act (p:Int)with⟨e2,_⟩|⟨j,e2,Z,aa⟩
   ·omega
   grind[cY]
  rfl
 rw[E];simp only[fQ]at D;rcases xF ol.ah s.act (p:Int)with⟨e2,hz⟩|⟨i,e2,G,I⟩
 ·grind[cY]
 have X:=O.Cr.one p i j J I (cY.1 Y) G D.2;simp_all
/-! A tick ends: of the timers that are due none comes in again. -/
def wM:List Int->Nat
 |_::b::l=>(if b==48 then 1 else 0)+wM l
 |_=>0
theorem Ml:∀ n a b,a.length=2*n->wM (a++b)=wM a+wM b:=by
 intro n;induction n with
 |zero=>grind[wM]
 |succ n D=>?_
 intro a b h;match a,h with
 |x::y::a,h=>
  grind[wM]
 | [_],h=>simp at h;omega
 | [],h=>simp_all
def xU(N:Nat)(s:Sd):Prop:=s.tm.size % 2=0/\wM (gW s.tm)<=N
theorem yH{a b}(h:a.length % 2=0):wM (a++b)=wM a+wM b:=Ml (a.length/2) a b oQ
theorem Qe t k:0<=af t k/\af t k<256:=by
 unfold af;split
 ·have:=UInt8.toNat_lt (t[k]'(by assumption));omega
 omega
theorem kr{t k}(h:k+1<t.size):(gW t).drop k=af t k::af t (k+1)::(gW t).drop (k+2):=by
 have D:=rX t k oQ;have E:=rX t (k+1) h;have F:=cL t;rw[eR oQ,eR (i:=k+1) oQ];grind
theorem TJ t c:∀ f k acc,acc.length % 2=0->(∀x∈acc,0<=x/\x<256)->
 (vt t c f k acc).length % 2=0/\wM (vt t c f k acc)<=wM acc+wM ((gW t).drop k)/\∀x∈vt t c f k acc,0<=x/\x<256:=by
 intro f;induction f with
 |zero=>grind[vt]
 |succ f E=>?_
 intro k acc h hb;simp only[vt];split
 ·rename_i c1;rw[kr c1];simp only[wM];split
  ·have⟨h1,h2,h3⟩:=E (k+2) (acc++[af t k,af t (k+1)]) il (by
    intro x D;rcases cS.1 D with D|D
    ·exact hb x D
    simp at D;rcases D with rfl|rfl<;>exact Qe _ _)
   grind[yH,wM]
  grind
 simp_all
theorem TK{N m}(h:xU N m.s){a}(D:xS a):xU N (cP m a).2.s:=by
 unfold cP;split
 ·omega
 rename_i c1;split
 ·rename_i c2;unfold send;split
  ·omega
  have⟨h1,h2⟩:=h;have G:1<=a.digit/\a.digit<=9:=by
   have e:a.sign=64:=cX c2;rcases D with⟨hs,_⟩|⟨_,_,F⟩|⟨hs,_⟩
   ·omega
   ·omega
   omega
  have hb:=D.byte;refine⟨?_,?_⟩
  ·show(m.s.tm++strOfNums [a.aK,48+a.digit]).size % 2=0;rw[jN,dC];simp_all
  show wM (gW (m.s.tm++strOfNums [a.aK,48+a.digit]))<=N;rw[uE,yH (by rw[cL];exact h1),mg (by intro x E;simp at E;omega)];grind[wM]
 split
 ·have⟨h1,h2⟩:=h;have⟨g1,g2,g3⟩:=TJ m.s.tm a.aK m.s.tm.size 0 [] rfl dy;refine⟨?_,?_⟩
  ·show(strOfNums (vt m.s.tm a.aK m.s.tm.size 0 [])).size % 2=0;rw[dC];omega
  show wM (gW (strOfNums (vt m.s.tm a.aK m.s.tm.size 0 [])))<=N;grind[mg,wM]
 grind[xU,tu,hY,jb]
theorem EE{N}:∀ l {m},xU N m.s->(∀a∈l,xS a)->xU N (eD l m).s:=by
 intro l;induction l with
 |nil=>intro m h _;exact h
 |cons a l D=>?_
 grind[eD,TK]
structure xV(ol:Ol):Prop where
 tr:∀x∈ol.dF,∀a∈x.bM,xS a
 bl:∀b∈ol.fH,∀k:Nat,∀sg,b.state=k->b.sign=sg->(sg=94\/sg=36)->∀a∈b.bM,xS a
theorem I6{N}{k:Nat}{sg}(D:sg=94\/sg=36):∀(l:List Bl) {m},(∀b∈l,∀k:Nat,∀sg,b.state=k->b.sign=sg->(sg=94\/sg=36)->∀a∈b.bM,xS a)->xU N m.s->xU N (fa k sg l m).s:=by
 intro l;induction l with
 |nil=>intro m _ h;exact h
 |cons b l E=>?_
 grind[fa,EE]
theorem EG{N m}(h:xU N m.s)i v:xU N (eO m i v).s:=h
theorem Mn{ol}(D:xV ol){N}{m}(h:xU N m.s)k:xU N (dT ol m k).s:=by
 have E:=I6 (k:=k) (inl rfl) ol.fH D.bl (EG h k true);grind[dT,tA]
theorem Qf{ol}(E:xV ol){N}st D:∀ f k {m},xU N m.s->xU N (fm ol st D f k m).s:=by
 intro f;induction f with
 |zero=>intro k m h;exact h
 |succ f F=>?_
 grind[fm,Mn]
theorem Qg{ol}(D:xV ol){N}left:∀ k {m},xU N m.s->xU N (dD ol left k m).s:=by
 intro k;induction k with
 |zero=>intro m h;exact h
 |succ k E=>?_
 intro m h;simp only[dD];refine E ?_;split
 ·exact EG (I6 (inr rfl) ol.fH D.bl h) _ _
 omega
theorem TM{ol}(D:xV ol){N}:∀ l {m},xU N m.s->xU N (gq ol l m).s:=by
 intro l;induction l with
 |nil=>intro m h;exact h
 |cons x l F=>?_
 intro m h;simp only[gq];refine F (EE _ h ?_);unfold sC;split
 ·rename_i y E;exact D.tr y (aP E)
 simp
theorem I7{ol}(D:xV ol){N}{m}(h:xU N m.s)l:xU N (eh ol m l).s:=
 Qf D _ _ _ _ (TM D l (Qg D _ _ (m:={m with s:=rem ol.ah m.s (dM ol m.s l)}) h))
theorem TN{ol}(D:xV ol){N}{m}(h:xU N m.s):xU N (round ol m).s:=by
 grind[round,I7]
theorem Qh{ol}(D:xV ol){N}:∀ n {m},xU N m.s->xU N (rounds ol n m).s:=by
 intro n;induction n with
 |zero=>intro m h;exact h
 |succ n E=>?_
 grind[rounds,TN]
theorem TP{ol}(D:xV ol){N}{s}(h:xU N s)ev:xU N (bY ol s ev).1:=by
 unfold bY finish;split
 ·exact⟨rfl,by show wM (gW ByteArray.empty)<=N;simp[gW,wM]⟩
 grind[Qh,I7]
theorem zR t:∀ f k j,mn t f k=some j->k % 2=0->j % 2=0/\af t (j+1)=48:=by
 intro f;induction f with
 |zero=>grind[mn]
 |succ f D=>?_
 grind[mn]
theorem Mo{N s}(h:xU (N+1) s)(D:(cC s).2.1=true):xU N (cC s).2.2:=by
 unfold cC at D⊢;cases q:mn s.tm s.tm.size 0 with
 |none=>simp_all
 |some k=>?_
 simp only;have⟨h1,h2⟩:=h;have hk:=(F7 s.tm s.tm.size 0 k q).2;have⟨he,hp⟩:=zR s.tm s.tm.size 0 k q rfl;have E:=cL s.tm;have e1:gW (s.tm.extract 0 k)=(gW s.tm).take k:=by rw[qq];simp
 have e2:gW (s.tm.extract (k+2) s.tm.size)=(gW s.tm).drop (k+2):=by rw[qq];exact sX il
 refine⟨?_,?_⟩
 ·simp_all<;>omega
 show wM (gW (s.tm.extract 0 k++s.tm.extract (k+2) s.tm.size))<=N;rw[uE,e1,e2,yH il];have:wM (gW s.tm)=wM ((gW s.tm).take k)+wM ((gW s.tm).drop k):=by rw[<-yH il,od]
 grind[kr,wM]
theorem I8{s}(h:xU 0 s):(cC s).2.1=false:=by
 unfold cC;cases q:mn s.tm s.tm.size 0 with
 |none=>rfl
 |some k=>?_
 exfalso;have hk:=(F7 s.tm s.tm.size 0 k q).2;have⟨he,hp⟩:=zR s.tm s.tm.size 0 k q rfl;have E:=cL s.tm;have:wM (gW s.tm)=wM ((gW s.tm).take k)+wM ((gW s.tm).drop k):=by rw[<-yH il,od]
 have D:=h.2;grind[kr,wM]
theorem Mp{ol}(D:xV ol):∀ N {s} l,xU N s->(eP ol (N+1) s l).isSome=true:=by
 intro N;induction N with
 |zero=>grind[eP,I8]
 |succ N E=>?_
 grind[eP,Mo,TP]
theorem TQ{L r}(E:NR L r)(G:T0 r):xV ⟨r.ah,r.dF,r.fH⟩:=by
 refine⟨λx hx=>?_,λb hb k sg hk hs hsg=>?_⟩
 ·simp only at hx;have I:=G x hx;have F:=E.ts x hx;obtain⟨k,hk⟩:∃k:Nat,x.state=k:=⟨x.state.toNat,oQ⟩
  have D:k<L.length:=oQ;have⟨rt,_,fW⟩:=(E.dF k _ (au D)).right (b:=x) (by rw[fR];exact⟨hx,by unfold sE;rw[hk];simp⟩);exact fW.ac
 simp only at hb;have F:=E.bs b hb;have D:k<L.length:=oQ;have hm:b∈r.fH.filter (ru k sg):=by rw[fR];exact⟨hb,by unfold ru;rw[hk,hs];simp⟩
 rcases hsg with rfl|rfl
 ·have⟨_,_,fW⟩:=(E.ph k _ (au D)).right hm;exact fW.ac
 have⟨_,_,fW⟩:=(E.uC k _ (au D)).right hm;exact fW.ac
/-! What a stand tells of the active states,spread again. -/
theorem TR{L:List RN}{k:Nat}(D:place (L.map RN.st) (hJ (L.map RN.st) k)=k):ie L (hJ (L.map RN.st) k)=k:=by
 grind[lh,hJ,RN.st]
theorem I9{L}t(al:List Nat)(D:∀k∈al,k<L.length/\ie L (hJ (L.map RN.st) k)=k)(G:∀ j i,al[j]? =some i->af t j=hJ (L.map RN.st) i):
 ∀ rest k last on,al.drop k=rest->(∀i∈rest,last<(i:Int))->rest.Pairwise (· < ·)->lz L t rest.length k last on=some (rest.foldl (λon i=>on.set i true) on):=by
 intro rest;induction rest with
 |nil=>intro k last on _ _ _;rfl
 |cons i rest I=>?_
 intro k last on E F hs;have hi:al[k]? =some i:=by
  have:=iw (λl=>l[0]?) E;grind
 have hm:=D i (aP hi);rw[List.pairwise_cons]at hs;simp only[e_,lz,List.foldl_cons];rw[G k i hi,hm.2,ax (by have:=F i dy;omega),dE];refine I (k+1) i _ ?_ (λj hj=>by have:=hs.1 j hj;omega) hs.2;have:=iw (List.drop 1) E;rw[List.drop_drop]at this;simp_all
theorem Qi:∀(l:List Nat) on,(∀k∈l,k<on.length)->(l.foldl (λon i=>on.set i true) on).length=on.length/\∀k,jC (l.foldl (λon i=>on.set i true) on) k=(jC on k||l.contains k):=by
 intro l;induction l with
 |nil=>simp_all
 |cons a l D=>?_
 grind[jC]
theorem Cw{L ol}(O:L.map RN.st=ol.ah)(Q:Co ol)(hB:∀k,k<ol.ah.length->0<=hJ ol.ah k/\hJ ol.ah k<256){s}(I:∀j,bit s.act j=true->j<ol.ah.length)(Y:s.act.length=16):
 ∃on,iY L (j1 ol.ah s)=some on/\iI L.length on s.act:=by
 have E:ol.ah.length=L.length:=by rw[<-O];simp
 have U:=Q.le;have hm:min ol.ah.length 16=L.length:=oQ;let al:=(List.range L.length).filter λ(j:Nat)=>has s.act (j:Int)
 have D:∀k∈al,k<L.length/\bit s.act k=true:=λk hk=>by
  have:=fR.1 hk;exact⟨by simpa using this.1,this.2⟩
 have F:∀k,k<L.length->0<=hJ ol.ah k/\hJ ol.ah k<256:=λk hk=>hB k oQ;have e:j1 ol.ah s=strOfNums (al.map (hJ ol.ah)):=by unfold j1 jU;rw[hm]
 have hb:gW (j1 ol.ah s)=al.map (hJ ol.ah):=by
  grind[mg]
 have iL:(j1 ol.ah s).size=al.length:=by rw[<-cL,hb];simp
 have Z:∀(j i:Nat),al[j]? =some i->af (j1 ol.ah s) j=hJ (L.map RN.st) i:=λj i hj=>by
  rw[O];exact(oD hb (k:=j) (x:=hJ ol.ah i) (by rw[bD,hj];rfl)).1
 have J:∀k∈al,k<L.length/\ie L (hJ (L.map RN.st) k)=k:=λk hk=>by
  have G:=(D k hk).1;exact⟨G,TR (by rw[O];exact(Q.nm k oQ).1)⟩
 have hs:al.Pairwise _:=qH _ List.pairwise_lt_range;have X:=I9 (j1 ol.ah s) al J Z al 0 (-1) (List.replicate L.length false) rfl (λi _=>oQ) hs;have⟨g1,g2⟩:=Qi al (List.replicate L.length false) (λk hk=>by simp;exact(D k hk).1);refine⟨_,by unfold iY;rw[iL];exact X,by simpa using g1,Y,λk=>?_⟩;rw[g2 k];have R:jC (List.replicate L.length false) k=false:=by
  unfold jC;grind
 rw[R,Bool.false_or];cases q:bit s.act k with
 |true=>
  rw[List.contains_iff_mem];exact fR.2 ⟨by simpa using(E▸I k q),q⟩
 |false=>?_
 grind
