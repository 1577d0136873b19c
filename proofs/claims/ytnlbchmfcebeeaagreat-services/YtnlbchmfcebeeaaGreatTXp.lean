import Derived.Test.YtnlbchmfcebeeaaGreatTXe
set_option maxHeartbeats 12800000
set_option maxRecDepth 100000
namespace Go.Proofs.YtnlbchmfcebeeaaGreat
open Go.Proofs.Tryz Ch
namespace Ch
/-! Above and below. -/
theorem LG{ss:List St}(hu:Up ss)(h:Int):∀(f:Nat) (i:Int),(i+1).toNat<=f->vh ss h f i=aB ss h i:=by
 have F:∀(n f g:Nat) (i:Int),(i+1).toNat<=n->(i+1).toNat<=f->(i+1).toNat<=g->vh ss h f i=vh ss h g i:=by
  intro n
  induction n with
  |zero=>
   grind[yp]
  |succ n J=>?_
  intro f g i I D E
  by_cases c: -1<i
  ·match f,g,D,E with
   |0,_,D,_=>omega
   |_+1,0,_,E=>omega
   |f+1,g+1,D,E=>
    simp only[vh,c,decide_true,aV];have:=iy hu c;grind
  grind
 intro f i G;exact F f f _ i G G (aC _)
theorem et{ss:List St}(hu:Up ss)(h:Int){i:Int}(hi:0<=i):aB ss h i=(aN ss i==h||aB ss h (aN ss i)):=by
 have e:aB ss h i=vh ss h (i.toNat+1) i:=by unfold aB;rw[show(i+1).toNat=i.toNat+1 by omega]
 rw[e];simp only[vh,show-1<i by omega,decide_true,aV];have:=iy hu (i:=i) (by omega);grind[LG,aN]
theorem o_(ss:List St)(h:Int){i:Int}(hi:i<0):aB ss h i=false:=yp ss h _ (by omega)
theorem wG{ss:List St}(hu:Up ss){P:Int->Prop}(D:P (-1))(E:∀i,0<=i->P (aN ss i)->P i):∀i,-1<=i->P i:=by
 have:∀(n:Nat) (i:Int),-1<=i->i<n->P i:=by
  intro n
  induction n with
  |zero=>grind
  |succ n I=>?_
  intro i F G
  by_cases c:0<=i
  ·have a:=iy hu (i:=i) (by omega)
   grind[gE]
  grind
 intro i hi;exact this (i+1).toNat i hi (by omega)
theorem U2{ss:List St}(hu:Up ss){h i:Int}(hi: -1<=i):aB ss h i=true-> -1<=h/\h<i:=by
 refine wG hu (P:=λi=>aB ss h i=true-> -1<=h/\h<i) ?_ ?_ i hi
 ·grind[o_]
 intro i D E e;rw[et hu h D]at e;have a:=iy hu (i:=i) (by omega);grind[gE,aN]
theorem jt{ss:List St}(hu:Up ss){h i:Int}(e:aB ss h i=true): -1<=h/\h<i:=by
 by_cases c:0<=i
 ·exact U2 hu (by omega) e
 grind[o_]
theorem LH{ss:List St}(hu:Up ss){a b c:Int}(D:aB ss a b=true)(E: -1<=c):aB ss b c=true->aB ss a c=true:=by
 refine wG hu (P:=λc=>aB ss b c=true->aB ss a c=true) ?_ ?_ c E
 ·grind[o_]
 grind[et,aN]
theorem pH{ss:List St}(hu:Up ss){a b c:Int}(E:aB ss a b=true)(D:aB ss b c=true):aB ss a c=true:=
 LH hu E (by have:=jt hu D;omega) D
theorem OM{ss:List St}(hu:Up ss){a b c:Int}(D: -1<=c):aB ss a c=true->aB ss b c=true->a=b\/aB ss a b=true\/aB ss b a=true:=by
 refine wG hu (P:=λc=>aB ss a c=true->aB ss b c=true->a=b\/aB ss a b=true\/aB ss b a=true) ?_ ?_ c D
 ·grind[o_]
 grind[et,aN]
theorem Jz{ss:List St}(hu:Up ss){a b c:Int}(D:aB ss a c=true)(E:aB ss b c=true):a=b\/aB ss a b=true\/aB ss b a=true:=
 OM hu (by have:=jt hu D;omega) D E
theorem xV{ss:List St}(hu:Up ss){i:Int}(hi: -1<=i):0<=i->aB ss (-1) i=true:=by
 refine wG hu (P:=λi=>0<=i->aB ss (-1) i=true) ?_ ?_ i hi
 ·omega
 intro i D E _;rw[et hu _ D]
 by_cases c:aN ss i= -1
 ·simp_all
 have:=gE hu i;grind
structure sW(ss:List St):Prop where
 up:Up ss
 ne:0<ss.length
 root:∀k:Nat,k<ss.length->aN ss k= -1->k=0
 pre:∀k:Nat,k+1<ss.length->aN ss ((k+1:Nat):Int)=k\/aB ss (aN ss ((k+1:Nat):Int)) k=true
 pk:∀k:Nat,0<k->k<ss.length->a_ ss (aN ss k)=2\/a_ ss (aN ss k)=3
 CG:∀k:Nat,k<ss.length->a_ ss k=2\/a_ ss k=3->∃j:Nat,j<ss.length/\aW ss j k=true
 hs:∀k:Nat,k<ss.length->a_ ss k=5\/a_ ss k=4->0<k/\a_ ss (aN ss k)=2
theorem Bu{ss:List St}{k:Nat}(hk:k<ss.length)(p:Int):aW ss k p=(aN ss k==p&&a_ ss k !=5):=by
 grind[aW,aN,a_,gR]
theorem dL{ss:List St}{k:Nat}{p:Int}(h:aW ss k p=true):k<ss.length/\aN ss k=p/\a_ ss k≠5:=by
 grind[aW,gR,Bu]
theorem vB{ss:List St}{k:Nat}{p:Int}(hk:k<ss.length)(D:aN ss k=p)(E:a_ ss k≠5):aW ss k p=true:=by
 rw[Bu hk];simp[D,E]
theorem sW.Aw{ss:List St}(h:sW ss){k:Nat}(D:0<k)(hk:k<ss.length):∃p:Nat,aN ss k=p/\p<k:=by
 have a:=gE h.up k;have b:=iy h.up (i:=k) (by omega)
 have c:aN ss k≠ -1:=λe=>by have:=h.root k hk e;omega
 exact⟨(aN ss k).toNat,by omega,by omega⟩
theorem sW.ON{ss:List St}(h:sW ss):aN ss ((0:Nat):Int)= -1:=by
 have a:=gE h.up ((0:Nat):Int);have b:=iy h.up (i:=((0:Nat):Int)) (by omega);omega
theorem sW.xf{ss:List St}(h:sW ss)(i:Int):∀(d k j:Nat),k<ss.length->k=j+d->aB ss i k=true->i<j->aB ss i j=true:=by
 intro d
 induction d with
 |zero=>simp_all
 |succ d F=>?_
 intro k j hk e D hi
 obtain⟨m,rfl⟩:∃m,k=m+1:=⟨k-1,by omega⟩
 refine F m j (by omega) (by omega) ?_ hi;rw[et h.up _ (by omega)]at D
 rcases h.pre m hk with E|E
 ·grind
 rcases nN _ _▸D with D|D
 ·simp_all
 exact pH h.up D E
theorem sW.sib{ss:List St}(h:sW ss){a b x:Nat}{p:Int}(G:aW ss a p=true)(hb:aW ss b p=true)(I:a<b)(E:x=a\/aB ss a x=true)(F:x<ss.length):x<b:=by
 rcases jA x b with q|q
 ·omega
 exfalso
 have D:aB ss (a:Int) b=true:=by
  rcases E with rfl|E
  ·omega
  exact h.xf a (x-b) x b F (by omega) E (by omega)
 rw[et h.up _ (by omega),(dL hb).2.1,<-(dL G).2.1]at D;have J:=iy h.up (i:=(a:Int)) (by omega)
 rcases nN _ _▸D with e|e
 ·simp_all
 have:=jt h.up e;omega
theorem sW.OO{ss:List St}(h:sW ss){p:Int}{g:Int}(G: -1<=g):aB ss p g=true->g<ss.length->(0<=g->a_ ss g≠5)->∃c:Nat,aW ss c p=true/\((c:Int)=g\/aB ss c g=true):=by
 refine wG h.up (P:=λg=>aB ss p g=true->g<ss.length->(0<=g->a_ ss g≠5)->∃c:Nat,aW ss c p=true/\((c:Int)=g\/aB ss c g=true)) ?_ ?_ g G
 ·grind[o_]
 intro i D O e U hk;rw[et h.up _ D]at e
 obtain⟨k,rfl⟩:∃k:Nat,i=k:=⟨i.toNat,by omega⟩
 rcases nN _ _▸e with e|e
 ·grind[vB]
 have I:=iy h.up (i:=(k:Int)) (by omega)
 have J:a_ ss (aN ss k)≠5:=by
  by_cases c:k=0
  ·grind[o_]
  have:=h.pk k (by omega) (by omega);omega
 obtain⟨c,E,F⟩:=O e (by omega) (λ_=>J);refine⟨c,E,.inr ?_⟩;rw[et h.up _ (by omega)]
 grind
theorem sW.Hp{ss:List St}(h:sW ss){p:Int}{a b:Nat}{g:Int}(F:aW ss a p=true)(hb:aW ss b p=true)(D:(a:Int)=g\/aB ss a g=true)(E:(b:Int)=g\/aB ss b g=true)(I:g<ss.length):a=b:=by
 have G:0<=g:=by
  rcases D with e|e
  ·omega
  have:=jt h.up e;omega
 obtain⟨k,rfl⟩:∃k:Nat,g=k:=⟨g.toNat,by omega⟩
 rcases Nat.lt_trichotomy a b with q|q|q
 ·have:=h.sib F hb q (x:=k) (by rcases D with e|e;exact .inl (by omega);exact .inr e) (by omega)
  rcases E with e|e
  ·omega
  have:=jt h.up e;omega
 ·omega
 have:=h.sib hb F q (x:=k) (by rcases E with e|e;exact .inl (by omega);exact .inr e) (by omega)
 rcases D with e|e
 ·omega
 have:=jt h.up e;omega
/-! The reference's next: all that is active in the end. -/
def eF(ss:List St)(i:Nat):List Nat:=(List.range ss.length).filter λ(j:Nat)=>aW ss j i
def oF(ss:List St)(goals:List Int)(k:Nat):Bool:=goals.any λg=>decide (0<=g)&&(g==(k:Int)||aB ss k g)
def ju(p:Nat->Bool)(c:Nat)(l:List Nat):Nat:=l.foldl (λc k=>if p k then k else c) c
def mW(ss:List St)(S:Nat->Bool)(goals:List Int)(i:Nat):Nat:=ju S (ju (oF ss goals) ((eF ss i).headD 0) (eF ss i)) (eF ss i)
def dM(ss:List St)(S:Nat->Bool)(goals:List Int):Nat->Nat->List Nat
 |0,_=>[]
 |f+1,i=>i::(if a_ ss i==2 then dM ss S goals f (mW ss S goals i)else if a_ ss i==3 then(eF ss i).flatMap (dM ss S goals f)else[])
theorem mx(p:Nat->Bool):∀(l:List Nat) (c:Nat),(ju p c l=c/\∀k∈l,p k=false)\/(ju p c l∈l/\p (ju p c l)=true):=by
 intro l
 induction l with
 |nil=>intro c;exact .inl ⟨rfl,by simp⟩
 |cons a l D=>?_
 intro c;show(ju p (if p a then a else c) l=c/\_)\/(ju p (if p a then a else c) l∈a::l/\p (ju p (if p a then a else c) l)=true)
 grind
theorem cf{ss:List St}{i j:Nat}:j∈eF ss i↔aW ss j i=true:=by
 grind[eF,dL]
theorem D8(ss:List St)(i:Nat):(eF ss i).Pairwise (· < ·):=by
 unfold eF;exact pT _ List.pairwise_lt_range
def U3(ss:List St)(S:Nat->Bool)(goals:List Int)(p c:Nat):Prop:=aW ss c p=true/\(a_ ss p=3\/(a_ ss p=2/\c=mW ss S goals p))
theorem yS{ss:List St}(h:sW ss)(S:Nat->Bool)(goals:List Int){i:Nat}(hi:i<ss.length)(hk:a_ ss i=2):aW ss (mW ss S goals i) i=true:=by
 obtain⟨j,G,D⟩:=h.CG i hi (.inl hk);have E:=cf.2 D
 have F:(eF ss i).headD 0∈eF ss i:=by
  cases q:eF ss i with
  |nil=>simp_all
  |cons a l=>simp
 rw[<-cf];grind[mW,mx,oF,eF,ju]
theorem pI{ss:List St}(h:sW ss){c i:Nat}(D:aW ss c i=true):i<c/\c<ss.length:=by
 obtain⟨E,F,_⟩:=dL D;have:=iy h.up (i:=(c:Int)) (by omega);omega
theorem tO{ss:List St}(h:sW ss){c i:Nat}(D:aW ss c i=true):aB ss i c=true:=by
 rw[et h.up _ (by omega),(dL D).2.1];simp
theorem oG{ss:List St}(h:sW ss)(S:Nat->Bool)(goals:List Int):∀(f i:Nat),i<ss.length->ss.length<=i+f->
 (∀j∈dM ss S goals f i,j=i\/∃p∈dM ss S goals f i,U3 ss S goals p j)/\
 (∀p∈dM ss S goals f i,∀c,U3 ss S goals p c->c∈dM ss S goals f i)/\
 (∀j∈dM ss S goals f i,j<ss.length/\(j=i\/aB ss i j=true))/\i∈dM ss S goals f i/\(dM ss S goals f i).Pairwise (· < ·):=by
 intro f
 induction f with
 |zero=>omega
 |succ f ih=>?_
 intro i hi hf;simp only[dM]
 by_cases U:a_ ss i=2
 ·have mu:=yS h S goals hi U
  have X:=pI h mu;obtain⟨a1,a2,J,a4,a5⟩:=ih (mW ss S goals i) X.2 (by omega);rw[aq (by simpa using U)];refine⟨?_,?_,?_,by simp,?_⟩
  ·intro j D
   rcases dP.1 D with rfl|D
   ·omega
   rcases a1 j D with rfl|⟨p,G,I⟩
   ·exact .inr ⟨i,by simp,mu,.inr ⟨U,rfl⟩⟩
   grind
  ·intro p G c I
   rcases dP.1 G with rfl|G
   ·rcases I.2 with e|⟨_,e⟩
    ·omega
    simp_all
   grind
  ·intro j D
   rcases dP.1 D with rfl|D
   ·omega
   refine⟨(J j D).1,.inr ?_⟩
   rcases(J j D).2 with e|e
   ·grind[tO]
   exact pH h.up (tO h mu) e
  rw[List.pairwise_cons];refine⟨λj D=>?_,a5⟩
  rcases(J j D).2 with e|e
  ·omega
  have:=jt h.up e;omega
 by_cases Z:a_ ss i=3
 ·rw[ay (by simpa using U),aq (by simpa using Z)]
  have E:∀c,c∈eF ss i->_:=λc F=>ih c (pI h (cf.1 F)).2 (by have:=pI h (cf.1 F);omega)
  refine⟨?_,?_,?_,by simp,?_⟩
  ·intro j D
   rcases dP.1 D with rfl|D
   ·exact .inl rfl
   obtain⟨c,F,D⟩:=kx.1 D
   rcases(E c F).1 j D with rfl|⟨p,G,I⟩
   ·exact .inr ⟨i,by simp,cf.1 F,.inl Z⟩
   exact .inr ⟨p,pU _ (kx.2 ⟨c,F,G⟩),I⟩
  ·intro p G c I
   rcases dP.1 G with rfl|G
   ·exact pU _ (kx.2 ⟨c,cf.2 I.1,(E c (cf.2 I.1)).2.2.2.1⟩)
   obtain⟨d,hd,G⟩:=kx.1 G;exact pU _ (kx.2 ⟨d,hd,(E d hd).2.1 p G c I⟩)
  ·intro j D
   rcases dP.1 D with rfl|D
   ·exact⟨hi,.inl rfl⟩
   obtain⟨c,F,D⟩:=kx.1 D;have J:=(E c F).2.2.1 j D;refine⟨J.1,.inr ?_⟩
   rcases J.2 with e|e
   ·rw[e];exact tO h (cf.1 F)
   exact pH h.up (tO h (cf.1 F)) e
  rw[List.pairwise_cons];refine⟨λj D=>?_,?_⟩
  ·obtain⟨c,F,D⟩:=kx.1 D
   have J:=(E c F).2.2.1 j D;have:=pI h (cf.1 F)
   rcases J.2 with e|e
   ·omega
   have:=jt h.up e;omega
  rw[List.pairwise_flatMap];refine⟨λc F=>(E c F).2.2.2.2,?_⟩;have hs:=D8 ss i;refine List.Pairwise.imp_of_mem (λ {a b} ha hb hab x hx y hy=>?_) hs;have O:=(E a ha).2.2.1 x hx;have Y:=(E b hb).2.2.1 y hy;have:=h.sib (cf.1 ha) (cf.1 hb) hab O.2 O.1
  rcases Y.2 with e|e
  ·omega
  have:=jt h.up e;omega
 rw[ay (by simpa using U),ay (by simpa using Z)];refine⟨?_,?_,?_,by simp,by simp⟩
 ·intro j D;simp at D;exact .inl D
 ·intro p G c I;simp at G;subst G;rcases I.2 with e|⟨e,_⟩<;>omega
 intro j D;simp at D;subst D;exact⟨hi,.inl rfl⟩
structure QA(ss:List St)(S:Nat->Bool)(goals:List Int):Prop where
 lt:∀i,S i=true->i<ss.length
 TK:∀i p:Nat,S i=true->aN ss i=p->S p=true
 gY:∀i,S i=true->a_ ss i≠5
 one:∀p i j:Nat,a_ ss p=2->aW ss i p=true->aW ss j p=true->S i=true->S j=true->i=j
 Zc:∀g∈goals,0<=g/\g<ss.length/\a_ ss g≠5
 uni:∀p:Nat,a_ ss p=2->(∀i:Nat,aW ss i p=true->S i=false)->∀g1∈goals,∀g2∈goals,aB ss p g1=true->aB ss p g2=true->g1=g2
def uX(ss:List St)(S:Nat->Bool)(goals:List Int)(k:Nat):Bool:=(dM ss S goals ss.length 0).contains k
theorem vC{ss:List St}{S:Nat->Bool}{goals:List Int}{k:Nat}:uX ss S goals k=true↔k∈dM ss S goals ss.length 0:=by
 unfold uX;exact List.contains_iff_mem
theorem yT{ss:List St}(h:sW ss)(S:Nat->Bool)(goals:List Int):uX ss S goals 0=true:=
 vC.2 (oG h S goals ss.length 0 h.ne (by omega)).2.2.2.1
theorem lA{ss:List St}(h:sW ss)(S:Nat->Bool)(goals:List Int){k p:Nat}(D:aN ss k=p):uX ss S goals k=true↔uX ss S goals p=true/\U3 ss S goals p k:=by
 obtain⟨E,G,I,_,_⟩:=oG h S goals ss.length 0 h.ne (by omega);rw[vC,vC]
 constructor
 ·intro hk
  rcases E k hk with rfl|⟨q,J,F⟩
  ·rw[h.ON]at D;omega
  have:=(dL F.1).2.1;rw[D]at this
  have:p=q:=by omega
  simp_all
 grind
theorem yU{ss:List St}(h:sW ss){S:Nat->Bool}{goals:List Int}{k:Nat}(hk:uX ss S goals k=true):k<ss.length:=
 ((oG h S goals ss.length 0 h.ne (by omega)).2.2.1 k (vC.1 hk)).1
theorem JA{ss:List St}(h:sW ss)(S:Nat->Bool)(goals:List Int):dM ss S goals ss.length 0=(List.range ss.length).filter (uX ss S goals):=by
 have hs:=(oG h S goals ss.length 0 h.ne (by omega)).2.2.2.2;have E:((List.range ss.length).filter (uX ss S goals)).Pairwise (· < ·):=pT _ List.pairwise_lt_range;refine List.Perm.eq_of_pairwise (le:=(· < ·)) (λa b _ _ h1 h2=>by omega) hs E ?_;rw[List.perm_ext_iff_of_nodup (hs.imp (λh=>by omega)) (E.imp (λh=>by omega))];intro a;rw[gP,vC]
 constructor
 ·intro D;exact⟨by simpa using((oG h S goals ss.length 0 h.ne (by omega)).2.2.1 a D).1,D⟩
 simp_all
theorem wH{ss:List St}{S:Nat->Bool}{goals:List Int}(D:QA ss S goals){p c:Nat}(hk:a_ ss p=2)(E:aW ss c p=true)(hs:S c=true):mW ss S goals p=c:=by
 unfold mW
 rcases mx S (eF ss p) (ju (oF ss goals) ((eF ss p).headD 0) (eF ss p))with⟨_,e2⟩|⟨e1,e2⟩
 ·grind[cf]
 exact D.one p _ c hk (cf.1 e1) E e2 hs
theorem CH{ss:List St}(h:sW ss){S:Nat->Bool}{goals:List Int}(F:QA ss S goals):∀(n k:Nat),k<n->S k=true->uX ss S goals k=true:=by
 intro n
 induction n with
 |zero=>omega
 |succ n O=>?_
 intro k hk hs;have D:=F.lt k hs
 by_cases c:k=0
 ·grind[yT]
 obtain⟨p,E,I⟩:=h.Aw (by omega) D
 have J:p<ss.length:=by omega
 have G:=vB D E (F.gY k hs);refine(lA h S goals E).2 ⟨O p (by omega) (F.TK k p hs E),G,?_⟩
 rcases h.pk k (by omega) D with e|e<;>rw[E]at e
 ·grind[wH]
 omega
theorem D9(ss:List St)(p:Int):∀(f k:Nat),eS ss p f k=match(List.range' k f).filter (λ(j:Nat)=>aW ss j p)with| []=>-2|a::_=>((a:Nat):Int):=by
 intro f
 induction f with
 |zero=>intro k;rfl
 |succ f D=>?_
 intro k;rw[List.range'_succ,jI];grind[eS,aW]
theorem uI{ss:List St}{p:Nat}(D:eF ss p≠[]):dZ ss p=((eF ss p).headD 0:Nat):=by
 unfold dZ;rw[D9,<-lJ];grind[eF]
theorem RX{ss:List St}(h:sW ss){S:Nat->Bool}{goals:List Int}(Y:QA ss S goals){p k:Nat}(_hp:p<ss.length)(J:a_ ss p=2)(hc:aW ss k p=true)
 (O:∀i:Nat,aW ss i p=true->S i=false):lu ss k p goals=decide (k=mW ss S goals p):=by
 have E:mW ss S goals p=ju (oF ss goals) ((eF ss p).headD 0) (eF ss p):=by
  unfold mW
  grind[mx,eF,ju,oF,cf]
 rw[E]
 have ao:eF ss p≠[]:=λe=>by have:=cf.2 hc;rw[e]at this;cases this
 --a child that is a kA or above one
 have I:∀j:Nat,aW ss j p=true->oF ss goals j=true->∃g∈goals,aB ss p g=true/\((j:Int)=g\/aB ss j g=true):=by
  intro j hj D;unfold oF at D;rw[nX]at D;obtain⟨g,F,D⟩:=D;simp only[gy,nO,nN,beq_iff_eq]at D;refine⟨g,F,?_,by rcases D.2 with e|e;exact .inl e.symm;exact .inr e⟩
  rcases D.2 with e|e
  ·grind[tO]
  exact pH h.up (tO h hj) e
 have X:∀(l:List Int),(∀g∈l,g∈goals)->(lu ss k p l=true↔((∀g∈l,aB ss p g=false)/\(k:Int)=dZ ss p)\/∃g∈l,aB ss p g=true/\((k:Int)=g\/aB ss k g=true)):=by
  intro l
  induction l with
  |nil=>grind[lu]
  |cons g l ih=>?_
  intro hl;have ih:=ih (λx U=>hl x (by simp[U]));simp only[lu]
  cases q:aB ss p g with
  |true=>
   simp only[aV,nN,beq_iff_eq]
   constructor
   ·simp_all
   rintro(⟨G,_⟩|⟨x,U,G,h2⟩)
   ·simp_all
   have:=Y.uni p J O x (hl x U) g (hl g (by simp)) G q;simp_all
  |false=>?_
  simp_all
 have hm:=X goals (λ_ h=>h);rw[Bool.eq_iff_iff,hm,nO]
 rcases mx (oF ss goals) (eF ss p) ((eF ss p).headD 0)with⟨e,hz⟩|⟨e1,e2⟩
 ·rw[e]
  have ad:∀g∈goals,aB ss p g=false:=by
   intro g F
   cases q:aB ss p g with
   |false=>rfl
   |true=>?_
   have Z:=Y.Zc g F;obtain⟨c,aj,am⟩:=h.OO (by omega) q Z.2.1 (λ_=>Z.2.2)
   grind[oF,cf]
  grind[uI]
 obtain⟨g,F,UN,aa⟩:=I _ (cf.1 e1) e2;have Z:=Y.Zc g F
 constructor
 ·rintro(⟨G,_⟩|⟨x,U,G,h2⟩)
  ·simp_all
  have:=Y.uni p J O x U g F G UN;subst this;exact h.Hp hc (cf.1 e1) h2 aa Z.2.1
 grind
/-! Acts turn neither what is active nor what is remembered. -/
def kO(a b:Sd):Prop:=a.act=b.act/\a.cd=b.cd
theorem kO.refl(a:Sd):kO a a:=⟨rfl,rfl⟩
theorem kO.trans{a b c:Sd}(h:kO a b)(g:kO b c):kO a c:=⟨h.1.trans g.1,h.2.trans g.2⟩
theorem RY(s:Sd)(c n:Int):kO (qi s c n) s:=by
 unfold qi gX
 split
 ·split
  ·exact .refl _
  split<;>exact⟨rfl,rfl⟩
 exact .refl _
theorem yV(m:Ma)(a:Ac):kO (bW m a).2.s m.s:=by
 unfold bW
 split
 ·exact .refl _
 split
 ·unfold send;split<;>exact⟨rfl,rfl⟩
 split
 ·exact⟨rfl,rfl⟩
 split
 ·exact .refl _
 grind[RY]
theorem qB:∀(l:List Ac) (m:Ma),kO (dF l m).s m.s:=by
 intro l
 induction l with
 |nil=>intro m;exact .refl _
 |cons a l D=>?_
 intro m;simp only[dF]
 split
 ·exact(D _).trans (yV m a)
 grind[yV]
theorem D_(state sign:Int):∀(l:List Bl) (m:Ma),kO (d_ state sign l m).s m.s:=by
 intro l
 induction l with
 |nil=>intro m;exact .refl _
 |cons b l D=>?_
 intro m;simp only[d_];refine(D _).trans ?_
 split
 ·grind[qB]
 exact .refl _
theorem vD(ol:Ol):∀(l:List Int) (m:Ma),kO (fh ol l m).s m.s:=by
 intro l
 induction l with
 |nil=>intro m;exact .refl _
 |cons x l D=>intro m;simp only[fh];exact(D _).trans (qB _ _)
theorem CI{l:List Bool}{k:Nat}(hk:k<l.length)(v:Bool)(j:Nat):bit (sq l (k:Int) v) j=if k=j then v else bit l j:=by
 show(l.set k v).getD j false=_;grind[bit]
theorem Ea(ol:Ol)(m:Ma)(k:Nat):(dA ol m k).s.act=sq m.s.act k true/\(dA ol m k).s.cd=m.s.cd:=by
 have h:=D_ k 94 ol.eR (dN m k true);unfold dA
 split
 ·rw[(qm _ _ _).1];exact h
 exact h
/-! Due is what is in the end and does not stay. -/
theorem JB{ss:List St}{D:List Bool}{p:Int}:kept ss D p=false↔∀i:Nat,aW ss i p=true->bit D i=false:=by
 grind[kept,ux,dL,fC]
theorem U4{ss:List St}(h:sW ss){act D:List Bool}{goals:List Int}(J:QA ss (bit D) goals){k:Nat}(hk:k<ss.length)
 (ha:∀j:Nat,j<k->bit act j=uX ss (bit D) goals j):jr ss act D goals k=(uX ss (bit D) goals k&& !bit D k):=by
 unfold jr;rw[fC]
 cases hs:bit D k with
 |true=>simp
 |false=>?_
 simp only[Bool.false_or,Bool.not_false,Bool.and_true]
 by_cases k0:k=0
 ·subst k0
  rw[h.ON,yT h];have F:=vB hk h.ON (λe=>by have:=(h.hs 0 hk (.inl e)).1;omega);rw[F];have O:a_ ss (-1)=2:=rfl;rw[O]
  have E:kept ss D (-1)=false:=by
   rw[JB];intro i hi;have:=h.root i (dL hi).1 (dL hi).2.1;simp_all
  rw[E]
  have I:lu ss ((0:Nat):Int) (-1) goals=true:=by
   have:∀l:List Int,(∀g∈l,0<=g/\g<ss.length)->lu ss ((0:Nat):Int) (-1) l=true:=by
    intro l hl
    cases l with
    |nil=>
     simp only[lu,beq_iff_eq];unfold dZ
     obtain⟨n,hn⟩:∃n,ss.length=n+1:=⟨ss.length-1,by have:=h.ne;omega⟩
     grind[eS]
    |cons g l=>?_
    obtain⟨G,ad⟩:=hl g (by simp);simp only[lu];rw[xV h.up (by omega) G,aq rfl]
    by_cases c:g=0
    ·simp_all
    have h1:=xV h.up (i:=g) (by omega) G
    have:aB ss ((0:Nat):Int) g=true:=by
     have am:∀i:Int,-1<=i->0<i->i<ss.length->aB ss ((0:Nat):Int) i=true:=by
      refine wG h.up (P:=λi=>0<i->i<ss.length->aB ss ((0:Nat):Int) i=true) (λh=>by omega) ?_;intro i hi ih h0 aj;have b:=iy h.up (i:=i) (by omega);rw[et h.up _ hi];have a:=gE h.up i
      by_cases c1:aN ss i=0
      ·simp_all
      by_cases c2:aN ss i= -1
      ·exfalso
       obtain⟨n,rfl⟩:∃n:Nat,i=n:=⟨i.toNat,by omega⟩
       have:=h.root n (by omega) c2;omega
      grind
     grind
    simp_all
   exact this goals (λg G=>⟨(J.Zc g G).1,(J.Zc g G).2.1⟩)
  simp_all
 obtain⟨p,I,X⟩:=h.Aw (by omega) hk
 have aa:p<ss.length:=by omega
 rw[I]
 have Y:((p:Int)!= -1)=true:=by simp
 rw[Y,fC,ha p X];have dE:=lA h (bit D) goals I
 cases F:aW ss k p with
 |false=>
  have:uX ss (bit D) goals k=false:=by
   cases q:uX ss (bit D) goals k with
   |false=>rfl
   |true=>have:=(dE.1 q).2.1;simp_all
  simp_all
 |true=>?_
 simp only[Bool.not_true,bp,bj,gA]
 cases hN:uX ss (bit D) goals p with
 |false=>
  simp_all
 |true=>?_
 simp only[Bool.not_true,bp,bj]
 rcases h.pk k (by omega) hk with e|e<;>rw[I]at e
 ·rw[e]
  simp only[show((2:Int)==3)=false from rfl,bp,bj]
  cases U:kept ss D p with
  |true=>
   have:uX ss (bit D) goals k=false:=by
    cases q:uX ss (bit D) goals k with
    |false=>rfl
    |true=>?_
    rcases(dE.1 q).2.2 with e3|⟨_,e3⟩
    ·omega
    grind[kept,ux,fC,wH]
   simp_all
  |false=>?_
  have Z:=JB.1 U;rw[RX h J aa e F Z];simp only[Bool.not_false,gA];rw[Bool.eq_iff_iff,nO]
  constructor
  ·intro q;exact dE.2 ⟨hN,F,.inr ⟨e,q⟩⟩
  intro q
  rcases(dE.1 q).2.2 with e3|⟨_,e3⟩
  ·omega
  omega
 rw[e];simp only[show((3:Int)==3)=true from rfl,aV];exact(dE.2 ⟨hN,F,.inl e⟩).symm
def oH(ol:Ol):List Nat->Ma->Ma
 | [],m=>m
 |k::l,m=>oH ol l (if bit m.s.act k then m else dA ol m k)
theorem LI{ol:Ol}(h:sW ol.ai)(O:ol.ai.length<=16){D:List Bool}{goals:List Int}(U:QA ol.ai (bit D) goals):∀(f k:Nat) (m:Ma),k+f=ol.ai.length->m.s.act.length=16->
 (∀j:Nat,bit m.s.act j=(bit D j||(decide (j<k)&&uX ol.ai (bit D) goals j)))->
 eB ol D goals f k m=oH ol ((List.range' k f).filter (uX ol.ai (bit D) goals)) m/\
 (∀j:Nat,bit (eB ol D goals f k m).s.act j=uX ol.ai (bit D) goals j)/\(eB ol D goals f k m).s.cd=m.s.cd/\(eB ol D goals f k m).s.act.length=16:=by
 intro f
 induction f with
 |zero=>
  intro k m hk J I;refine⟨rfl,λj=>?_,rfl,J⟩;show bit m.s.act j=_;grind[uX,bit,yU,CH]
 |succ f Z=>?_
 intro k m hk J I
 have G:k<ol.ai.length:=by omega
 have E:∀j:Nat,j<k->bit m.s.act j=uX ol.ai (bit D) goals j:=by
  grind[uX,bit,CH]
 have X:=U4 h U G E
 have F:bit m.s.act k=bit D k:=by rw[I k];simp
 rw[List.range'_succ,jI];simp only[eB];rw[X]
 cases qN:uX ol.ai (bit D) goals k with
 |false=>
  grind
 |true=>?_
 simp only[gA,aV,oH];rw[F]
 cases qS:bit D k with
 |true=>
  grind
 |false=>?_
 simp only[Bool.not_false,aV,bp,bj];have Y:=Ea ol m k
 grind[bit,dA,uX,CI,od]
theorem Eb{ol:Ol}(h:sW ol.ai)(D:ol.ai.length<=16){m:Ma}{list:List Int}(F:m.s.act.length=16)(E:QA ol.ai (bit m.s.act) (dQ ol m.s list)):
 enter ol m list=oH ol (dM ol.ai (bit m.s.act) (dQ ol m.s list) ol.ai.length 0) m/\
 (∀j:Nat,bit (enter ol m list).s.act j=uX ol.ai (bit m.s.act) (dQ ol m.s list) j)/\(enter ol m list).s.cd=m.s.cd/\(enter ol m list).s.act.length=16:=by
 rw[JA h,lJ];exact LI h D E ol.ai.length 0 m (by omega) F (λj=>by simp)
structure OP(ss:List St)(S:Nat->Bool):Prop where
 root:S 0=true
 lt:∀i,S i=true->i<ss.length
 TK:∀i p:Nat,S i=true->aN ss i=p->S p=true
 gY:∀i,S i=true->a_ ss i≠5
 one:∀p i j:Nat,a_ ss p=2->aW ss i p=true->aW ss j p=true->S i=true->S j=true->i=j
 OQ:∀p:Nat,S p=true->a_ ss p=2->∃i:Nat,aW ss i p=true/\S i=true
 U5:∀p i:Nat,S p=true->a_ ss p=3->aW ss i p=true->S i=true
theorem Bv{ss:List St}(h:sW ss)(S:Nat->Bool)(goals:List Int):OP ss (uX ss S goals) where
 root:=yT h S goals
 lt:=λi hi=>yU h hi
 TK:=λi p hi E=>((lA h S goals E).1 hi).1
 gY:=λi hi=>by
  by_cases c:i=0
  ·subst c;intro e;have:=(h.hs 0 h.ne (.inl e)).1;omega
  obtain⟨p,E,_⟩:=h.Aw (k:=i) (by omega) (yU h hi);exact(dL ((lA h S goals E).1 hi).2.1).2.2
 one:=λp i j hk hi hj hsi hsj=>by
  have a:=((lA h S goals (dL hi).2.1).1 hsi).2.2;have b:=((lA h S goals (dL hj).2.1).1 hsj).2.2
  rcases a with a|a
  ·omega
  rcases b with b|b
  ·omega
  rw[a.2,b.2]
 OQ:=λp hs hk=>by
  have D:=yS h S goals (yU h hs) hk;exact⟨mW ss S goals p,D,(lA h S goals (dL D).2.1).2 ⟨hs,D,.inr ⟨hk,rfl⟩⟩⟩
 U5:=λp i hs hk D=>(lA h S goals (dL D).2.1).2 ⟨hs,D,.inl hk⟩
theorem LJ{ss:List St}(h:sW ss){S:Nat->Bool}{goals:List Int}(E:OP ss S)(O:QA ss S goals)(k:Nat):uX ss S goals k=S k:=by
 have:∀(n k:Nat),k<n->uX ss S goals k=true->S k=true:=by
  intro n
  induction n with
  |zero=>omega
  |succ n Z=>?_
  intro k hk F
  by_cases c:k=0
  ·subst c;exact E.root
  obtain⟨p,X,U⟩:=h.Aw (k:=k) (by omega) (yU h F);obtain⟨G,I,J⟩:=(lA h S goals X).1 F;have D:=Z p (by omega) G
  rcases J with e|⟨e,e2⟩
  ·exact E.U5 p k D e I
  obtain⟨i,hi,Y⟩:=E.OQ p D e;grind[wH]
 cases q:S k with
 |true=>exact CH h O (k+1) k (by omega) q
 |false=>?_
 cases q2:uX ss S goals k with
 |false=>rfl
 |true=>rw[this (k+1) k (by omega) q2]at q;omega
/-! What a transition leaves. -/
def lv(ol:Ol)(s:Sd)(t:Int)(j:Nat):Bool:=match ol.cW[t.toNat]? with
 |some x=>!(x.target==45)&&(decide (j<ol.ai.length)&&(bit s.act j&&aB ol.ai (rZ ol.ai x.state x.target) j))
 |none=>false
theorem Ec(ss:List St)(act:List Bool)(d:Int):∀(f k:Nat) (l:List Bool),k+f<=l.length->∀j:Nat,
 bit (iH ss act d f k l) j=(bit l j||(decide (k<=j/\j<k+f)&&(bit act j&&aB ss d j))):=by
 intro f
 induction f with
 |zero=>grind[iH]
 |succ f F=>?_
 intro k l E j;simp only[iH];rw[fC]
 have D:(if(bit act k&&aB ss d k)=true then sq l k true else l:List Bool).length=l.length:=by split<;>simp[od]
 grind[bit,act,aB,CI]
theorem qC(j:Nat):bit fT j=false:=by
 grind[bit,fT]
theorem ry{ol:Ol}(D:ol.ai.length<=16)(s:Sd)(t:Int)(j:Nat):bit (leaves ol s t.toNat) j=lv ol s t j:=by
 grind[leaves,lv,qC,Ec,fT]
theorem OR(l m:List Bool)(j:Nat)(D:l.length=16)(hm:m.length=16):bit (join l m) j=(bit l j||bit m j):=by
 grind[join,bit,Cb,vc]
theorem LK{ol:Ol}(D:ol.ai.length<=16)(s:Sd):∀(r:List Int) (l:List Bool) (j:Nat),l.length=16->bit (rG ol s r l) j=(bit l j||r.any λt=>lv ol s t j):=by
 intro r
 induction r with
 |nil=>grind[rG]
 |cons x r E=>?_
 grind[rG,vc,OR,ow,ry]
theorem Ed{ol:Ol}(D:ol.ai.length<=16)(s:Sd)(r:List Int)(j:Nat):bit (cT ol s r) j=r.any λt=>lv ol s t j:=by
 grind[cT,LK,fT,qC]
theorem Ee{ol:Ol}(D:ol.ai.length<=16){s:Sd}{a b:Int}:meets (leaves ol s a.toNat) (leaves ol s b.toNat)=false↔∀j,¬(lv ol s a j=true/\lv ol s b j=true):=by
 unfold meets;rw[List.any_eq_false]
 constructor
 ·intro h j F
  have E:j<16:=by
   rcases jA j 16 with q|q
   ·omega
   have:=F.1;rw[<-ry D,Cb (by rw[ow];omega)]at this;simp_all
  have:=h j (by simpa using E);grind[ry]
 grind[ry]
def Clear(ol:Ol)(s:Sd)(l:List Int):Prop:=∀a∈l,∀b∈l,a≠b->∀j,¬(lv ol s a j=true/\lv ol s b j=true)
theorem CJ{ol:Ol}(F:ol.ai.length<=16){s:Sd}{t:Nat}:∀(l kept r:List Int),gH ol s t l kept=some r->∃D,(∀x∈D,x∈l/\∀j,¬(lv ol s t j=true/\lv ol s x j=true))/\r=kept++D++[(t:Int)]:=by
 intro l
 induction l with
 |nil=>intro kept r h;simp only[gH,bq]at h;exact⟨[],by simp,by simp[h]⟩
 |cons x l I=>?_
 intro kept r h;simp only[gH]at h
 split at h
 ·grind
 rename_i q;obtain⟨D,J,G⟩:=I (kept++[x]) r h;refine⟨x::D,λy E=>?_,by simp[G]⟩
 rcases dP.1 E with rfl|E
 ·refine⟨by simp,?_⟩
  have O:meets (leaves ol s ((t:Int)).toNat) (leaves ol s y.toNat)=false:=by simpa using q
  grind[Ee]
 simp_all
theorem Ef{ol:Ol}(E:ol.ai.length<=16){s:Sd}{t:Nat}{l:List Int}(h:Clear ol s l):Clear ol s (lD ol s l t)/\∀x∈lD ol s l t,x∈l\/x=t:=by
 unfold lD
 cases q:gH ol s t l []with
 |none=>simp_all
 |some r=>?_
 obtain⟨J,G,rfl⟩:=CJ E l [] r q;simp only[jG];refine⟨?_,?_⟩
 ·intro a D b hb F j I
  rcases cB.1 D with D|D<;>rcases cB.1 hb with hb|hb
  ·exact h a (G a D).1 b (G b hb).1 F j I
  ·grind
  ·grind
  simp_all
 grind
theorem Ax{ol:Ol}(D:ol.ai.length<=16){s:Sd}:∀(l acc:List Int),(∀x∈l,0<=x)->Clear ol s acc->Clear ol s (eV ol s l acc)/\∀x∈eV ol s l acc,x∈acc\/x∈l:=by
 intro l
 induction l with
 |nil=>intro acc _ h;exact⟨h,λx hx=>.inl hx⟩
 |cons a l I=>?_
 intro acc E h;simp only[eV];obtain⟨F,J⟩:=Ef D (t:=a.toNat) h;obtain⟨G,O⟩:=I _ (λx hx=>E x (by simp[hx])) F;refine⟨G,λx hx=>?_⟩;have U:=E a (by simp)
 grind
def Src(ol:Ol)(s:Sd)(t:Int):Prop:=∃x,ol.cW[t.toNat]? =some x/\∃k:Nat,x.state=k/\bit s.act k=true
theorem Ay(s:Sd)(st trg:Int):∀(l:List Tr) (k j:Nat),gF s st trg l k=j->∃x,k<=j/\l[j-k]? =some x/\x.state=st:=by
 intro l
 induction l with
 |nil=>grind[gF]
 |cons t l D=>?_
 grind[gF,ue]
theorem Az{ol:Ol}{s:Sd}(hu:Up ol.ai)(G:∀i p:Nat,bit s.act i=true->aN ol.ai i=p->bit s.act p=true)(trg:Int):∀(f i:Nat) (j:Nat),bit s.act i=true->cZ ol s trg f i=j->Src ol s j:=by
 intro f
 induction f with
 |zero=>grind[cZ]
 |succ f J=>?_
 intro i j hi h;simp only[cZ]at h
 have D:((i:Int)== -1)=false:=by simp
 rw[D]at h;simp only[bp,bj]at h
 split at h
 ·obtain⟨x,_,E,F⟩:=Ay s i trg ol.cW 0 j h
  exact⟨x,by simpa using E,i,F,hi⟩
 have a:=gE hu i
 by_cases c:aN ol.ai i= -1
 ·rw[c]at h
  cases f with
  |zero=>grind[cZ]
  |succ f=>grind[cZ]
 obtain⟨p,I⟩:∃p:Nat,aN ol.ai i=p:=⟨(aN ol.ai i).toNat,by omega⟩
 grind
theorem LL{ol:Ol}{s:Sd}(hu:Up ol.ai)(F:∀i p:Nat,bit s.act i=true->aN ol.ai i=p->bit s.act p=true)(trg:Int):∀(f k:Nat) (E:List Int),(∀t∈E,Src ol s t)->∀t∈kR ol s trg f k E,Src ol s t:=by
 intro f
 induction f with
 |zero=>intro k E h;exact h
 |succ f G=>?_
 intro k E h;simp only[kR];refine G (k+1) _ ?_;unfold fJ
 split
 ·rename_i q
  intro t D
  rcases cB.1 D with D|D
  ·simp_all
  simp at D;subst D;simp only[gy,bne_iff_ne]at q
  have I:bit s.act k=true:=by
   have:=q.1.1;unfold sC at this;simp only[gy]at this;exact this.1
  grind[sD,de,Az]
 omega
theorem CK{ol:Ol}(D:ol.ai.length<=16)(hu:Up ol.ai){s:Sd}(F:∀i p:Nat,bit s.act i=true->aN ol.ai i=p->bit s.act p=true)(trg:Int):Clear ol s (choose ol s trg)/\∀t∈choose ol s trg,Src ol s t:=by
 have G:=(xO ol s trg).1;obtain⟨I,J⟩:=Ax D (s:=s) (find ol s trg) [] (λx hx=>(G x hx).1) (by intro a O;cases O);refine⟨I,λt E=>?_⟩
 rcases J t E with e|e
 ·cases e
 exact LL hu F trg _ _ [] (by intro t E;cases E) t e
/-! The domain,the goal. -/
theorem LM{ss:List St}(hu:Up ss)(target:Int):∀(f:Nat) (d:Int),-1<=d->(d+1).toNat<=f->(qX ss target f d= -1\/(0<=qX ss target f d/\tW ss (qX ss target f d) target=true))/\(qX ss target f d=d\/aB ss (qX ss target f d) d=true):=by
 intro f
 induction f with
 |zero=>grind[qX]
 |succ f G=>?_
 intro d D E;simp only[qX]
 split
 ·rename_i q
  have F:d≠ -1:=by simp at q;exact q.1
  have a:=gE hu d;have b:=iy hu (i:=d) (by omega);grind[aN,et]
 grind
theorem OS{ss:List St}(hu:Up ss){state:Nat}(target:Int):(rZ ss state target= -1\/(0<=rZ ss state target/\a_ ss (rZ ss state target)=2/\aB ss (rZ ss state target) (place ss target)=true))/\aB ss (rZ ss state target) state=true:=by
 obtain⟨e1,e2⟩:=LM hu (place ss target) (aN ss state+1).toNat (aN ss state) (gE hu _) (aC _);grind[tW,et,rZ,aN,aB]
def oJ(ss:List St)(s:Sd):Prop:=∀k:Nat,k<ss.length->gY ss k=true->ur ss k (bN s k)=true
structure z9(ol:Ol):Prop where
 qM:sW ol.ai
 le:ol.ai.length<=16
 tgt:∀x∈ol.cW,x.target≠45->∃g:Nat,place ol.ai x.target=g/\g<ol.ai.length
 src:∀x∈ol.cW,∃k:Nat,x.state=k/\k<ol.ai.length
 nm:∀k:Nat,k<ol.ai.length->place ol.ai (gD ol.ai k)=k/\gD ol.ai k≠45
theorem tP{ss:List St}{k:Nat}(hk:k<ss.length):gY ss k=(a_ ss k==5):=by
 grind[gY,a_,gR]
theorem wI{ss:List St}(h:sW ss)(G:ss.length<=16){s:Sd}(J:oJ ss s){g:Nat}(D:g<ss.length):(a_ ss g≠5/\kA ss s g=g)\/(a_ ss g=5/\∃c:Nat,kA ss s g=c/\aW ss c (aN ss g)=true):=by
 unfold kA
 have F:decide ((g:Int)<0)=false:=by rw[e_];omega
 have I:decide (16<=(g:Int))=false:=by rw[e_];omega
 rw[F,I]
 by_cases c:a_ ss g=5
 ·right
  refine⟨c,?_⟩;rw[c];simp only[show((5:Int)!=5)=false from rfl,Bool.or_false,bp,bj,db];have X:=J g D (by rw[tP D,c];rfl);have hs:=h.hs g D (.inl c);obtain⟨p,Y,U⟩:=h.Aw hs.1 D
  cases q:bN s g==45 with
  |true=>
   simp only[aV];rw[Y]at hs⊢;obtain⟨j,_,O⟩:=h.CG p (by omega) (.inl hs.2)
   have E:eF ss p≠[]:=λe=>by have:=cf.2 O;rw[e]at this;cases this
   refine⟨(eF ss p).headD 0,uI E,cf.1 ?_⟩
   cases Z:eF ss p with
   |nil=>simp_all
   |cons a l=>simp
  |false=>?_
  simp only[bp,bj];unfold ur at X;grind[place,bN,aW,rQ,j1]
 simp_all
theorem Hq{ol:Ol}{s:Sd}:∀(l:List Int) (g:Int),g∈dQ ol s l->∃t∈l,∃x,ol.cW[t.toNat]? =some x/\x.target≠45/\g=kA ol.ai s (place ol.ai x.target):=by
 intro l
 induction l with
 |nil=>grind[dQ]
 |cons t l D=>?_
 grind[dQ,kA,place]
theorem OT{ss:List St}(hu:Up ss){S:Nat->Bool}(E:∀i p:Nat,S i=true->aN ss i=p->S p=true)(a:Nat):∀(n k:Nat),k<n->S k=true->aB ss a k=true->S a=true:=by
 intro n
 induction n with
 |zero=>omega
 |succ n I=>?_
 intro k hk hs D;rw[et hu _ (by omega)]at D;have F:=iy hu (i:=(k:Int)) (by omega)
 rcases nN _ _▸D with e|e
 ·grind
 have:=jt hu e
 obtain⟨p,G⟩:∃p:Nat,aN ss k=p:=⟨(aN ss k).toNat,by omega⟩
 grind
theorem TM{ol:Ol}{s:Sd}{t:Int}{x:Tr}(D:ol.cW[t.toNat]? =some x)(j:Nat):lv ol s t j=(!(x.target==45)&&(decide (j<ol.ai.length)&&(bit s.act j&&aB ol.ai (rZ ol.ai x.state x.target) j))):=by
 unfold lv;rw[D]
theorem pJ{ol:Ol}{s:Sd}{t:Int}{x:Tr}(D:ol.cW[t.toNat]? =some x)(j:Nat):lv ol s t j=true↔x.target≠45/\j<ol.ai.length/\bit s.act j=true/\aB ol.ai (rZ ol.ai x.state x.target) j=true:=by
 rw[TM D];simp
theorem xW{ol:Ol}{s:Sd}{t:Int}{j:Nat}(h:lv ol s t j=true):∃x,ol.cW[t.toNat]? =some x:=by
 grind[lv]
theorem LN{ol:Ol}(J:z9 ol){s:Sd}(G:OP ol.ai (bit s.act)){list:List Int}(ba:∀t∈list,Src ol s t)(O:Clear ol s list){s':Sd}
 (a2:∀j,bit s'.act j=(bit s.act j&& !(list.any λt=>lv ol s t j))) (aI:oJ ol.ai s'):QA ol.ai (bit s'.act) (dQ ol s' list):=by
 have D:∀j,bit s'.act j=true->bit s.act j=true:=λj hj=>by rw[a2 j]at hj;simp only[gy]at hj;exact hj.1
 have hu:=J.qM.up
 --a goal's transition
 have TN:∀g∈dQ ol s' list,∃t∈list,∃x,ol.cW[t.toNat]? =some x/\x.target≠45/\g=kA ol.ai s' (place ol.ai x.target)/\(∃k:Nat,x.state=k/\bit s.act k=true/\lv ol s t k=true)/\
  (0<=g/\g<ol.ai.length/\a_ ol.ai g≠5)/\aB ol.ai (rZ ol.ai x.state x.target) g=true/\aB ol.ai (rZ ol.ai x.state x.target) x.state=true/\(rZ ol.ai x.state x.target= -1\/(0<=rZ ol.ai x.state x.target/\a_ ol.ai (rZ ol.ai x.state x.target)=2)):=by
  intro g hg;obtain⟨t,ht,x,Z,xh,rfl⟩:=Hq list g hg;obtain⟨x',bb,k,hk,E⟩:=ba t ht;rw[Z]at bb
  obtain rfl:x=x':=by simpa using bb
  obtain⟨pg,a8,a1⟩:=J.tgt x (aM Z) xh;obtain⟨d1,d2⟩:=OS hu (ss:=ol.ai) (state:=k) x.target;rw[<-hk]at d1 d2;have b3:=G.lt k E;refine⟨t,ht,x,Z,xh,rfl,⟨k,hk,E,(pJ Z k).2 ⟨xh,b3,E,by rw[<-hk];exact d2⟩⟩,?_,?_,d2,?_⟩
  ·rw[a8]
   rcases wI J.qM J.le aI a1 with⟨h1,F⟩|⟨_,c,F,h3⟩
   ·rw[F];exact⟨by omega,by omega,h1⟩
   rw[F];exact⟨by omega,by have:=(dL h3).1;omega,(dL h3).2.2⟩
  ·rw[a8]at d1⊢
   rcases d1 with d1|⟨d0,dk,U6⟩
   ·rw[d1]
    refine xV hu ?_ ?_<;>
    (rcases wI J.qM J.le aI a1 with⟨_,F⟩|⟨_,c,F,_⟩<;>rw[F]<;>omega)
   rcases wI J.qM J.le aI a1 with⟨_,F⟩|⟨_,c,F,h3⟩
   ·rw[F];exact U6
   rw[F,et hu _ (by omega),(dL h3).2.1];rw[et hu _ (by omega)]at U6;exact U6
  rcases d1 with d1|⟨d0,dk,_⟩
  ·exact .inl d1
  exact .inr ⟨d0,dk⟩
 refine⟨λi hi=>G.lt i (D i hi),?_,λi hi=>G.gY i (D i hi),λp i j hk hi hj h1 F=>G.one p i j hk hi hj (D i h1) (D j F),?_,?_⟩
 ·--what stays,stays Zd
  intro i p hi hp;have a3:=D i hi;have b6:=G.TK i p a3 hp;rw[a2 p,b6]
  cases q:list.any λt=>lv ol s t p with
  |false=>rfl
  |true=>?_
  exfalso;rw[nX]at q;obtain⟨t,ht,hl⟩:=q;obtain⟨x,Z⟩:=xW hl;obtain⟨h1,F,h3,h4⟩:=(pJ Z p).1 hl;have:=(pJ Z i).2 ⟨h1,G.lt i a3,a3,by rw[et hu _ (by omega),hp,h4];simp⟩;simp_all
 ·grind
 intro p hk b4 g1 b1 g2 b2 bt bx;obtain⟨t1,X,x1,aa,U7,e1,⟨k1,aS,U8,a6⟩,r1,bm,ap,bi⟩:=TN g1 b1;obtain⟨t2,Y,x2,ad,Xn,e2,⟨k2,U,OU,a0⟩,r2,bo,Ze,bk⟩:=TN g2 b2
 --the domain is p,or above it
 have I:∀(t:Int) (x:Tr) (k:Nat) (g:Int),t∈list->ol.cW[t.toNat]? =some x->x.target≠45->x.state=k->bit s.act k=true->lv ol s t k=true->aB ol.ai (rZ ol.ai x.state x.target) g=true->aB ol.ai (rZ ol.ai x.state x.target) x.state=true->
  (rZ ol.ai x.state x.target= -1\/(0<=rZ ol.ai x.state x.target/\a_ ol.ai (rZ ol.ai x.state x.target)=2))->aB ol.ai p g=true->g<ol.ai.length->rZ ol.ai x.state x.target=p\/aB ol.ai (rZ ol.ai x.state x.target) p=true:=by
  intro t x k g ht Z xh ca E hl dg ds dd ha cm
  rcases Jz hu dg ha with c|c|c
  ·exact .inl c
  ·exact .inr c
  exfalso;generalize hd:rZ ol.ai x.state x.target=d at*;have ci:=jt hu c
  rcases dd with dd|⟨_,dk⟩
  ·omega
  obtain⟨dn,rfl⟩:∃dn:Nat,d=dn:=⟨d.toNat,by omega⟩
  have ck:=jt hu dg;rw[ca]at ds;have a9:=OT hu G.TK dn (k+1) k (by omega) E ds;obtain⟨c',a4,aO⟩:=J.qM.OO (p:=(p:Int)) (g:=(dn:Int)) (by omega) c (by omega) (λ_=>by omega);have cc:=(dL a4).1
  have b5:bit s.act c'=true:=by
   rcases aO with e|e
   ·have:c'=dn:=by omega
    rw[this];exact a9
   exact OT hu G.TK c' (dn+1) dn (by omega) a9 e
  have ao:=b4 c' a4;rw[a2 c',b5]at ao
  have am:(list.any λt=>lv ol s t c')=true:=by simpa using ao
  rw[nX]at am;obtain⟨t3,b7,a7⟩:=am;obtain⟨x3,aj⟩:=xW a7;obtain⟨br,ce,cg,Xo⟩:=(pJ aj c').1 a7
  have bc:aB ol.ai (rZ ol.ai x3.state x3.target) k=true:=by
   rcases aO with e|e
   ·rw[e]at Xo;exact pH hu Xo ds
   exact pH hu (pH hu Xo e) ds
  have be:=(pJ aj k).2 ⟨br,G.lt k E,E,bc⟩
  have:t3=t:=by
   by_cases q:t3=t
   ·exact q
   exact absurd ⟨be,hl⟩ (O t3 b7 t ht q k)
  subst this;rw[Z]at aj
  obtain rfl:x=x3:=by simpa using aj
  rw[hd]at Xo;have h5:=jt hu Xo
  rcases aO with e|e
  ·omega
  have:=jt hu e;omega
 have c1:=I t1 x1 k1 g1 X aa U7 aS U8 a6 bm ap bi bt r1.2.1;have c2:=I t2 x2 k2 g2 Y ad Xn U OU a0 bo Ze bk bx r2.2.1
 have a5:rZ ol.ai x1.state x1.target=rZ ol.ai x2.state x2.target\/aB ol.ai (rZ ol.ai x1.state x1.target) (rZ ol.ai x2.state x2.target)=true\/aB ol.ai (rZ ol.ai x2.state x2.target) (rZ ol.ai x1.state x1.target)=true:=by
  rcases c1 with c1|c1<;>rcases c2 with c2|c2
  ·exact .inl (c1.trans c2.symm)
  ·rw[c1];exact .inr (.inr c2)
  ·rw[c2];exact .inr (.inl c1)
  exact Jz hu c1 c2
 have b0:t1=t2:=by
  by_cases q:t1=t2
  ·exact q
  exfalso;rw[aS]at ap;rw[U]at Ze
  rcases a5 with e|e|e
  ·have:=(pJ aa k2).2 ⟨U7,G.lt k2 OU,OU,by rw[e,U];exact Ze⟩
   exact O t1 X t2 Y q k2 ⟨this,a0⟩
  ·have:=(pJ aa k2).2 ⟨U7,G.lt k2 OU,OU,pH hu e (by rw[U];exact Ze)⟩
   exact O t1 X t2 Y q k2 ⟨this,a0⟩
  have:=(pJ ad k1).2 ⟨Xn,G.lt k1 U8,U8,pH hu e (by rw[aS];exact ap)⟩;exact O t1 X t2 Y q k1 ⟨a6,this⟩
 subst b0;rw[aa]at ad
 obtain rfl:x1=x2:=by simpa using ad
 rw[e1,e2]
/-! Leaving,remembering. -/
theorem yW(ol:Ol)(left:List Bool):∀(k:Nat) (m:Ma),k<=m.s.act.length->(∀j:Nat,bit (cM ol left k m).s.act j=(bit m.s.act j&& !(decide (j<k)&&bit left j)))/\(cM ol left k m).s.cd=m.s.cd/\(cM ol left k m).s.act.length=m.s.act.length:=by
 intro k
 induction k with
 |zero=>grind[cM]
 |succ k G=>?_
 intro m hk;simp only[cM];rw[fC]
 cases q:bit left k with
 |false=>
  grind
 |true=>?_
 simp only[aV];have hb:=D_ k 36 ol.eR m
 have D:(dN (d_ k 36 ol.eR m) k false).s.act=sq m.s.act k false:=by show sq (d_ k 36 ol.eR m).s.act k false=_;rw[hb.1]
 obtain⟨I,E,F⟩:=G (dN (d_ k 36 ol.eR m) k false) (by rw[D,od];omega);refine⟨λj=>?_,E.trans hb.2,by rw[F,D,od]⟩;grind[CI]
theorem yX(ss:List St)(act left:List Bool):∀(f k:Nat) (p:List Int),k+f<=p.length->∀j:Nat,(pD ss act left f k p).getD j 0=if k<=j/\j<k+f/\Al ss act left j=true then gD ss (rF ss act (aN ss j)).toNat else p.getD j 0:=by
 intro f
 induction f with
 |zero=>intro k p _ j;rw[ay (by omega)];rfl
 |succ f E=>?_
 intro k p D j;simp only[pD]
 grind
theorem Eg(ss:List St)(l:List Bool)(p:Int):∀(f k:Nat),(lr ss l p f k= -2/\∀j,k<=j->j<k+f->bit l j=true->aW ss j p=false)\/∃j:Nat,lr ss l p f k=j/\bit l j=true/\aW ss j p=true:=by
 intro f
 induction f with
 |zero=>intro k;exact .inl ⟨rfl,λj h1 h2=>by omega⟩
 |succ f D=>?_
 intro k;simp only[lr];grind[fC,bit,aW]
theorem uJ(ss:List St)(l:List Bool)(p:Int):(rF ss l p= -2/\∀j:Nat,bit l j=true->aW ss j p=false)\/∃j:Nat,rF ss l p=j/\bit l j=true/\aW ss j p=true:=by
 rcases Eg ss l p ss.length 0 with⟨e,h⟩|h
 ·refine .inl ⟨e,λj hj=>?_⟩
  grind[aW,dL]
 exact .inr h
theorem Eh{ol:Ol}(D:z9 ol){s:Sd}(G:oJ ol.ai s)(O:s.cd.length=16)(left:List Bool):oJ ol.ai (rem ol.ai s left):=by
 intro k hk I;have F:=D.le;have e:bN (rem ol.ai s left) k=(pD ol.ai s.act left (min ol.ai.length 16) 0 s.cd).getD k 0:=rfl;rw[e,yX _ _ _ _ _ _ (by omega)]
 split
 ·rename_i c
  have E:=c.2.2;unfold Al at E;simp only[gy,bne_iff_ne]at E
  rcases uJ ol.ai s.act (aN ol.ai k)with⟨e2,_⟩|⟨j,e2,_,J⟩
  ·omega
  rw[e2,db];have U:=D.nm j (dL J).1;grind[ur,gD]
 exact G k hk I
structure Inv(ol:Ol)(s:Sd):Prop where
 yY:OP ol.ai (bit s.act)
 cd:oJ ol.ai s
 la:s.act.length=16
 lp:s.cd.length=16
theorem Inv.same{ol:Ol}{s s':Sd}(h:Inv ol s)(e:kO s' s):Inv ol s':=by
 obtain⟨e1,e2⟩:=e;refine⟨by rw[e1];exact h.yY,λk hk hh=>?_,by rw[e1];exact h.la,by rw[e2];exact h.lp⟩;have:=h.cd k hk hh;grind[bN]
theorem oJ.same{ss:List St}{s s':Sd}(h:oJ ss s)(e:s'.cd=s.cd):oJ ss s':=λk hk hh=>by
 have:=h k hk hh;unfold bN at this⊢;rw[e];exact this
def xf(ol:Ol)(m:Ma)(list:List Int):Ma:=fh ol list (cM ol (cT ol m.s list) ol.ai.length {m with s:=rem ol.ai m.s (cT ol m.s list)})
theorem OV{ol:Ol}(I:z9 ol){m:Ma}(D:Inv ol m.s)(list:List Int):(∀j,bit (xf ol m list).s.act j=(bit m.s.act j&& !(list.any λt=>lv ol m.s t j)))/\oJ ol.ai (xf ol m list).s/\(xf ol m list).s.act.length=16/\(xf ol m list).s.cd.length=16:=by
 have E:=I.le;have F:=vD ol list (cM ol (cT ol m.s list) ol.ai.length {m with s:=rem ol.ai m.s (cT ol m.s list)});obtain⟨J,G,O⟩:=yW ol (cT ol m.s list) ol.ai.length {m with s:=rem ol.ai m.s (cT ol m.s list)} (by show ol.ai.length<=m.s.act.length;rw[D.la];exact E);have U:=Eh I D.cd D.lp (cT ol m.s list);refine⟨λj=>?_,?_,?_,?_⟩
 ·unfold xf
  rw[F.1,J j,Ed E];show(bit m.s.act j&&_)=_
  cases q:bit m.s.act j with
  |false=>rfl
  |true=>rw[gz (D.yY.lt j q)];simp
 ·exact U.same (F.2.trans G)
 ·unfold xf;rw[F.1,O];exact D.la
 unfold xf;rw[F.2,G];show(rem ol.ai m.s _).cd.length=16;unfold rem;rw[vg];exact D.lp
theorem wJ{ol:Ol}(D:z9 ol){m:Ma}(J:Inv ol m.s){list:List Int}(E:∀t∈list,Src ol m.s t)(F:Clear ol m.s list):
 dC ol m list=oH ol (dM ol.ai (bit (xf ol m list).s.act) (dQ ol (xf ol m list).s list) ol.ai.length 0) (xf ol m list)/\Inv ol (dC ol m list).s/\QA ol.ai (bit (xf ol m list).s.act) (dQ ol (xf ol m list).s list):=by
 obtain⟨U,G,X,Y⟩:=OV D J list;have I:=LN D J.yY E F U G;obtain⟨e1,e2,e3,O⟩:=Eb D.qM D.le (list:=list) X I;refine⟨e1,⟨?_,G.same e3,O,by show(enter ol (xf ol m list) list).s.cd.length=16;rw[e3];exact Y⟩,I⟩;have hb:bit (dC ol m list).s.act=_:=funext e2;rw[hb];exact Bv D.qM _ _
theorem LO(ol:Ol):∀(l:List Nat) (m:Ma),(∀k∈l,bit m.s.act k=true)->oH ol l m=m:=by
 intro l
 induction l with
 |nil=>intro m _;rfl
 |cons a l D=>grind[oH]
theorem LP(ss:List St)(act:List Bool):∀(f k:Nat) (p:List Int),pD ss act fT f k p=p:=by
 intro f
 induction f with
 |zero=>intro k p;rfl
 |succ f D=>?_
 intro k p;simp only[pD]
 have:Al ss act fT k=false:=by
  unfold Al
  have:has fT (aN ss k)=false:=by
   cases aN ss k with
   |ofNat n=>exact qC n
   |negSucc n=>rfl
  simp_all
 simp_all
theorem Ei(ol:Ol):∀(k:Nat) (m:Ma),cM ol fT k m=m:=by
 intro k
 induction k with
 |zero=>intro m;rfl
 |succ k D=>?_
 grind[cM,fC,qC]
theorem LQ{ol:Ol}(D:z9 ol){m:Ma}(F:Inv ol m.s):dC ol m []=m:=by
 obtain⟨e1,_,E⟩:=wJ D F (list:=[]) (by intro t I;cases I) (by intro a G;cases G)
 have hm:xf ol m []=m:=by
  unfold xf;show cM ol fT ol.ai.length {m with s:={m.s with cd:=pD ol.ai m.s.act fT (min ol.ai.length 16) 0 m.s.cd}}=m;rw[Ei,LP]
 rw[e1];rw[hm]at E⊢;refine LO ol _ m (λk hk=>?_);rw[JA D.qM,gP]at hk;rw[<-LJ D.qM F.yY E k];simp_all
theorem qD{ol:Ol}(D:z9 ol){s:Sd}(E:Inv ol s)(trg:Int):Clear ol s (choose ol s trg)/\∀t∈choose ol s trg,Src ol s t:=CK D.le D.qM.up E.yY.TK trg
theorem j5{ol:Ol}(E:z9 ol){m:Ma}(D:Inv ol m.s)(trg:Int):Inv ol (dC ol m (choose ol m.s trg)).s:=
 (wJ E D (qD E D trg).2 (qD E D trg).1).2.1
theorem LS{ol:Ol}(E:z9 ol){m:Ma}(D:Inv ol m.s):Inv ol (round ol m).s:=by
 unfold round
 split
 ·split
  ·grind[j5]
  rename_i a q e;exact j5 E (m:={m with q:=q}) D a
 grind[j5]
def cI(ol:Ol):Nat->Ma->Bool×Ma
 |0,m=>(!busy ol m,m)
 |n+1,m=>if busy ol m then cI ol n (round ol m)else(true,m)
theorem oK(ol:Ol):∀(n:Nat) (m:Ma),cI ol n m=(!busy ol (rounds ol n m),rounds ol n m):=by
 intro n
 induction n with
 |zero=>intro m;rfl
 |succ n D=>?_
 grind[cI,rounds,busy]
theorem oM{ol:Ol}(D:z9 ol):∀(n:Nat) {m:Ma},Inv ol m.s->Inv ol (rounds ol n m).s:=by
 intro n
 induction n with
 |zero=>intro m h;exact h
 |succ n E=>?_
 grind[rounds,LS]
theorem wK{ol:Ol}(D:z9 ol):enter ol ⟨cS ol.ai,[],[]⟩ []=oH ol (dM ol.ai (bit fT) [] ol.ai.length 0) ⟨cS ol.ai,[],[]⟩/\Inv ol (enter ol ⟨cS ol.ai,[],[]⟩ []).s:=by
 have F:QA ol.ai (bit fT) []:=by
  refine⟨λi hi=>?_,λi p hi=>?_,λi hi=>?_,λp i j _ _ _ hi=>?_,(λg hg=>absurd hg (by simp)),(λp _ _ g hg=>absurd hg (by simp))⟩<;>(rw[qC]at hi;cases hi)
 have I:(⟨cS ol.ai,[],[]⟩:Ma).s.act=fT:=rfl;obtain⟨e1,e2,e3,E⟩:=Eb D.qM D.le (m:=⟨cS ol.ai,[],[]⟩) (list:=[]) rfl F;refine⟨e1,⟨?_,?_,E,by rw[e3];exact om ol.ai |>.2⟩⟩
 ·have hb:_=uX _ (bit fT) []:=funext e2
  rw[hb];exact Bv D.qM _ _
 refine oJ.same (s:=cS ol.ai) (λk hk hh=>?_) e3
 have:bN (cS ol.ai) k=45:=by
  have G:k<16:=by have:=D.le;omega
  show(iS ol.ai 16).getD k 0=45;grind[iS]
 rw[this];rfl
/-! What the reader gives stands in the order of the text. -/
theorem Bw{ss D:List St}(hu:Up ss)(E:Up D){n:Nat}(G:∀k:Nat,k<n->aN D k=aN ss k)(a:Int):∀(d k:Nat),k<d->k<n->aB D a k=aB ss a k:=by
 intro d
 induction d with
 |zero=>omega
 |succ d O=>?_
 intro k I F;rw[et E _ (by omega),et hu _ (by omega),G k F];have J:=iy hu (i:=(k:Int)) (by omega);have hm:=gE hu (k:Int)
 by_cases c:aN ss k= -1
 ·grind[o_]
 obtain⟨p,e⟩:∃p:Nat,aN ss k=p:=⟨(aN ss k).toNat,by omega⟩
 grind
structure Zi(ss:List St):Prop where
 up:Up ss
 root:∀k:Nat,0<k->k<ss.length->0<=aN ss k
 pre:∀k:Nat,k+1<ss.length->aN ss ((k+1:Nat):Int)=k\/aB ss (aN ss ((k+1:Nat):Int)) k=true
def Hr(ss:List St)(i:Nat):Prop:=i+1=ss.length\/(i+1<ss.length/\aB ss i ((ss.length-1:Nat):Int)=true)
def Gr(ss D:List St):Prop:=ss.length<=D.length/\∀k:Nat,k<ss.length->aN D k=aN ss k
theorem Gr.refl(ss:List St):Gr ss ss:=⟨aC _,λ_ _=>rfl⟩
theorem Gr.trans{a b c:List St}(h:Gr a b)(g:Gr b c):Gr a c:=⟨bA h.1 g.1,λk hk=>(g.2 k (by have:=h.1;omega)).trans (h.2 k hk)⟩
theorem Ej(p:Int)(ss:List St)(i:Int):aN (bU p ss) i=aN ss i:=by
 unfold bU
 split
 ·rename_i k
  split
  ·rename_i s hs
   split
   ·unfold aN
    cases i with
    |negSucc n=>rfl
    |ofNat j=>?_
    show(match(ss.set k {s with kind:=2})[j]? with|some s=>s.parent|none=>-1)=(match ss[j]? with|some s=>s.parent|none=>-1)
    grind
   rfl
  rfl
 rfl
theorem Ek(ss:List St)(s:St):(∀k:Nat,k<ss.length->aN (ss++[s]) k=aN ss k)/\aN (ss++[s]) (ss.length:Nat)=s.parent:=by
 grind[aN,gR]
theorem RZ{ss:List St}(h:Zi ss){s:St}(I:(ss=[]/\s.parent= -1)\/∃i:Nat,s.parent=i/\Hr ss i):Zi (bU s.parent (ss++[s]))/\Hr (bU s.parent (ss++[s])) ss.length/\Gr ss (bU s.parent (ss++[s]))/\aN (bU s.parent (ss++[s])) (ss.length:Nat)=s.parent:=by
 have hb: -1<=s.parent/\s.parent<ss.length:=by
  rcases I with⟨rfl,e⟩|⟨i,e,F⟩
  ·omega
  rw[e];rcases F with F|F<;>omega
 have hu:Up (bU s.parent (ss++[s])):=Up.mark (Up.push h.up hb.1 hb.2) _
 have D:(bU s.parent (ss++[s])).length=ss.length+1:=by rw[gQ];simp
 have G:∀k:Nat,k<ss.length->aN (bU s.parent (ss++[s])) k=aN ss k:=λk hk=>by rw[Ej];exact(Ek ss s).1 k hk
 have E:aN (bU s.parent (ss++[s])) (ss.length:Nat)=s.parent:=by rw[Ej];exact(Ek ss s).2
 refine⟨⟨hu,?_,?_⟩,.inl D.symm,⟨by omega,G⟩,E⟩
 ·intro k J hk
  rcases jA k ss.length with q|q
  ·rw[G k q];exact h.root k J q
  grind
 intro k hk;rw[D]at hk
 rcases jA (k+1) ss.length with q|q
 ·rw[G (k+1) q,Bw h.up hu G _ (k+1) k (by omega) (by omega)];exact h.pre k q
 have e1:k+1=ss.length:=by omega
 rw[e1,E]
 rcases I with⟨rfl,_⟩|⟨i,e,F⟩
 ·simp_all
 rcases F with F|⟨F,O⟩
 ·omega
 right
 rw[Bw h.up hu G _ (k+1) k (by omega) (by omega),e];grind
theorem yZ(t:ByteArray)(D:Int)(r:Rs):(transition t D r).2.ai=r.ai:=by
 grind[transition]
theorem LU(t:ByteArray)(D:Int)(r:Rs):(block t D r).2.ai=r.ai:=by
 unfold block;split<;>rfl
def ItZ(it:Int->Int->Rs->Bool×Rs):Prop:=∀(i:Nat) (cl:Int) (r:Rs),Zi r.ai->Hr r.ai i->(it i cl r).1=true->Zi (it i cl r).2.ai/\Hr (it i cl r).2.ai i/\Gr r.ai (it i cl r).2.ai
theorem Bx{t:ByteArray}{it:Int->Int->Rs->Bool×Rs}(Ga:ItZ it){parent:Int}{r:Rs}(h:Zi r.ai)(Y:(r.ai=[]/\parent= -1)\/∃i:Nat,parent=i/\Hr r.ai i)(eD:(bL t it parent r).1=true):
 Zi (bL t it parent r).2.ai/\Hr (bL t it parent r).2.ai r.ai.length/\Gr r.ai (bL t it parent r).2.ai/\aN (bL t it parent r).2.ai (r.ai.length:Nat)=parent:=by
 unfold bL at eD⊢
 by_cases q:dS (ag t (r.pos+1))=true
 ·have X:bh t (ag t r.pos) parent {r with pos:=r.pos+1}=(true,{r with pos:=r.pos+1+1,ai:=bU parent (r.ai++[⟨ag t (r.pos+1),((r.pos+1:Nat):Int),eH (ag t r.pos),parent⟩])}):=by
   grind[bh]
  obtain⟨I,J,O,U⟩:=RZ h (s:=⟨ag t (r.pos+1),((r.pos+1:Nat):Int),eH (ag t r.pos),parent⟩) Y
  have G:(bU parent (r.ai++[⟨ag t (r.pos+1),((r.pos+1:Nat):Int),eH (ag t r.pos),parent⟩])).length=r.ai.length+1:=by rw[gQ];simp
  rw[X]at eD⊢;simp only[aV]at eD⊢
  split at eD
  ·rename_i c1
   rw[aq c1];obtain⟨E,F,D⟩:=Ga r.ai.length 41 _ I J eD;exact⟨E,F,O.trans D,(D.2 r.ai.length (by simp only;omega)).trans U⟩
  rename_i c1;rw[ay c1]
  split at eD
  ·rename_i c2
   rw[aq c2];obtain⟨E,F,D⟩:=Ga r.ai.length 93 _ I J eD;exact⟨E,F,O.trans D,(D.2 r.ai.length (by simp only;omega)).trans U⟩
  grind
 grind[bh,ag]
theorem LW(t:ByteArray):∀n,ItZ (aP t n):=by
 intro n
 induction n with
 |zero=>intro i cl r _ _ h;grind[aP]
 |succ n F=>?_
 intro i cl r J E eD;simp only[aP]at eD⊢
 split at eD
 ·rename_i c1
  rw[aq c1]
  split at eD
  ·rename_i c2
   rw[aq c2];obtain⟨O,U,z3,z4⟩:=Bx F J (.inr ⟨i,rfl,E⟩) c2;generalize (bL t (aP t n) i r).2=D at*
   have aa:i<r.ai.length:=by rcases E with e|e<;>omega
   have I:Hr D.ai i:=by
    right
    have ad:r.ai.length<D.ai.length:=by rcases U with e|e<;>omega
    refine⟨by omega,?_⟩
    have G:aB D.ai (i:Int) (r.ai.length:Nat)=true:=by rw[et O.up _ (by omega),z4];simp
    rcases U with e|⟨_,e⟩
    ·grind
    exact pH O.up G e
   obtain⟨X,Y,Z⟩:=F i cl D O I eD;exact⟨X,Y,z3.trans Z⟩
  simp_all
 rename_i c1;rw[ay c1]
 split at eD
 ·rename_i c2
  rw[aq c2]
  split at eD
  ·rename_i c3
   rw[aq c3];have hs:=yZ t i r;generalize (transition t i r).2=D at*;have:=F i cl D (by rw[hs];exact J) (by rw[hs];exact E) eD;simp_all
  simp_all
 rename_i c2;rw[ay c2]
 split at eD
 ·rename_i c3
  rw[aq c3]
  split at eD
  ·rename_i c4
   rw[aq c4];have hs:=LU t i r;generalize (block t i r).2=D at*;have:=F i cl D (by rw[hs];exact J) (by rw[hs];exact E) eD;simp_all
  simp_all
 grind[Gr.refl]
theorem OW{t:ByteArray}(h:(chart t).1=true):Zi (chart t).2.ai/\0<(chart t).2.ai.length:=by
 unfold chart at h⊢
 split at h
 ·rename_i c1
  rw[aq c1]
  split at h
  ·rename_i c2
   rw[aq c2]
   have F:Zi r0.ai:=⟨by intro k s h;simp[r0]at h,by intro k I D;simp[r0]at D,by intro k D;simp[r0]at D⟩
   obtain⟨J,G,O,_⟩:=Bx (LW t (t.size+1)) F (.inl ⟨rfl,rfl⟩) c2
   have E:0<(bL t (aP t (t.size+1)) (-1) r0).2.ai.length:=by rcases G with e|e<;>omega
   simp_all
  cases h
 cases h
def T0(r:Rs):Prop:=∀x∈r.cW,0<=x.state
theorem AB(t:ByteArray)(i:Nat){r:Rs}(h:T0 r):T0 (transition t i r).2:=by
 unfold transition
 split
 ·split
  ·split
   ·intro x D
    rcases cB.1 D with D|D
    ·exact h x D
    simp_all
   exact h
  exact h
 exact h
theorem OX(t:ByteArray)(i:Nat){r:Rs}(h:T0 r):T0 (block t i r).2:=by
 unfold block;split<;>exact h
theorem By{t:ByteArray}{it:Int->Int->Rs->Bool×Rs}(Ga:∀(i:Nat) (cl:Int) (r:Rs),T0 r->T0 (it i cl r).2){parent:Int}{r:Rs}(h:T0 r):T0 (bL t it parent r).2:=by
 grind[T0,bh,ag,bL]
theorem LX(t:ByteArray):∀(n i:Nat) (cl:Int) (r:Rs),T0 r->T0 (aP t n i cl r).2:=by
 intro n
 induction n with
 |zero=>intro i cl r h;exact h
 |succ n D=>?_
 intro i cl r h;simp only[aP]
 split
 ·grind[By]
 split
 ·grind[AB]
 split
 ·grind[OX]
 exact h
theorem y7(t:ByteArray):T0 (chart t).2:=by
 grind[T0,r0,By,LX,chart]
/-! A chart without faults. -/
theorem rT.right{α β:Type}{R:α->β->Prop}{l:List α}{m:List β}(h:rT R l m){b:β}(hb:b∈m):∃a∈l,R a b:=by
 induction h using rT.ind with
 |nil=>cases hb
 |cons D _ E=>?_
 grind
theorem AD{ss:List St}:∀(us:List Us),ei ss us= -2->(∀u∈us,-2<u.pos)->∀u∈us,place ss u.name≠ -2:=by
 intro us
 induction us with
 |nil=>simp_all
 |cons a us D=>?_
 grind[ei]
theorem El{ss:List St}{c:Int}(h:place ss c≠ -2):∃g:Nat,place ss c=g/\g<ss.length:=by
 grind[kW,place]
theorem tQ{L:List RN}{k:Nat}(hk:k<L.length):gD (L.map RN.st) k=(fm L k).name:=by
 unfold gD;rw[bw,ar hk,dK (ar hk)];rfl
theorem U9{L:List RN}{r:Rs}(G:NR L r)(Y:Zi r.ai)(ad:0<r.ai.length)(hj:(fa r.ai r.cN).1=0)(hT:∀x∈r.cW,0<=x.state):z9 ⟨r.ai,r.cW,r.eR⟩:=by
 obtain⟨hu,aa⟩:=Hk G hj;have U:=G.ai
 have D:r.ai.length=L.length:=by rw[<-U];simp
 have rV:∀k,k<L.length->tZ L k=false:=by
  rw[<-yH G]at hj;grind[pG,rU,tZ]
 have Z:ei r.ai r.cN= -2:=by
  grind[fa]
 have Xp:∀u∈r.cN,-2<u.pos:=by
  intro u am;obtain⟨k,n,rt,x,_,_,ht,I⟩:=(G.us u).1 am;have h0:=ht.pos;grind[ug]
 have ao:=AD r.cN Z Xp
 have kd:∀k:Nat,k<L.length->a_ r.ai k=(fm L k).kind:=λk hk=>by rw[<-U];exact Bt hk
 have pr:∀k:Nat,k<L.length->aN r.ai k=(fm L k).parent:=λk hk=>by rw[<-U];exact D4 hk
 have wf:=λk hk=>G.wf k _ (ar hk)
 have aI:∀(j:Nat) (p:Int),j<L.length->aW r.ai j p=sT L p j:=λj p hj'=>by rw[<-U];exact oY hj'
 refine⟨⟨Y.up,ad,?_,Y.pre,?_,?_,?_⟩,by rw[D];exact aa,?_,?_,?_⟩
 ·intro k hk e
  by_cases c:k=0
  ·omega
  have:=Y.root k (by omega) hk;simp_all
 ·intro k h0 hk
  simp only at hk⊢;have hp:=Y.root k h0 hk;rw[D]at hk;have hw:=wf k hk;rw[pr k hk]at hp⊢;have e1:=dK (ar hk);rw[e1]at hp⊢
  obtain⟨p,J⟩:∃p:Nat,(L[k]).parent=p:=⟨(L[k]).parent.toNat,by omega⟩
  have E:p<L.length:=by omega
  have:=G.pk k _ L[p] (ar hk) (by rw[J];exact ar E);rw[J,kd p E,dK (ar E)];omega
 ·intro k hk F
  simp only at hk F⊢;rw[D]at hk;rw[kd k hk]at F;have hm:=rV k hk;unfold tZ at hm;rw[ay (by simp;omega)]at hm
  have X:((fm L k).kind==3||(fm L k).kind==2)=true:=by simp;omega
  rw[X]at hm;simp only[gA]at hm
  cases q:fq L (k:Int)with
  |nil=>simp_all
  |cons a l=>?_
  have ha:a∈fq L (k:Int):=by rw[q];simp
  grind[fq]
 ·intro k hk F
  simp only at hk F⊢;rw[D]at hk;rw[kd k hk]at F;have hw:=wf k hk;have e1:=dK (ar hk);rw[e1]at F;have hp:=hw.2.2.2.1 (by omega);have hm:=rV k hk;unfold tZ at hm;rw[e1,aq (by simp;omega)]at hm
  obtain⟨p,J⟩:∃p:Nat,(L[k]).parent=p:=⟨(L[k]).parent.toNat,by omega⟩
  have E:p<L.length:=by omega
  have ap:=G.pk k _ L[p] (ar hk) (by rw[J];exact ar E);refine⟨by omega,?_⟩;rw[pr k hk,e1,J,kd p E];rw[J,db]at hm;have e2:=dK (ar E);simp_all
 ·intro x I xh
  simp only at I⊢
  obtain⟨k,hk⟩:∃k:Nat,x.state=k:=by
   have:=G.ts x I;exact⟨x.state.toNat,by have:=(hT x I);omega⟩
  have O:k<L.length:=by have:=G.ts x I;omega
  obtain⟨rt,xF,eD⟩:=(G.cW k _ (ar O)).right (b:=x) (by rw[gP];exact⟨I,by unfold pE;rw[hk];simp⟩)
  have aj:dS x.target=true:=by
   have:=eD.ta;grind[ns]
  have aO:(⟨x.target,rt.pos+(f_ rt.text).length-1⟩:Us)∈r.cN:=(G.us _).2 ⟨k,_,rt,x,ar O,xF,eD,by unfold ug;rw[aq aj];simp⟩;grind[El]
 ·intro x I
  simp only at I⊢;have h1:=G.ts x I;have h0:=hT x I;exact⟨x.state.toNat,by omega,by omega⟩
 intro k hk;simp only at hk⊢;rw[D]at hk;rw[<-U,tQ hk]
 constructor
 ·rcases kY L (fm L k).name with⟨_,_,X⟩|⟨i,hi,_,X,h4⟩
  ·grind
  rw[X];have:=hu i k hi hk h4;omega
 have hw:=(wf k hk).2.2.1;rw[<-dK (ar hk)]at hw;grind[dS]
theorem y8{t:ByteArray}(h:(read t).1=0):z9 (read t).2.2/\(read t).2.2=⟨(chart t).2.ai,(chart t).2.cW,(chart t).2.eR⟩/\(chart t).1=true/\(fa (chart t).2.ai (chart t).2.cN).1=0:=by
 unfold read at h⊢
 split at h
 ·omega
 rename_i c0;rw[ay c0]
 split at h
 ·rename_i c1
  rw[aq c1]
  split at h
  ·rename_i c2
   rw[aq c2]
   have E:(fa (chart t).2.ai (chart t).2.cN).1=0:=by simpa using c2
   obtain⟨L,_,F⟩:=wD c1;obtain⟨G,D⟩:=OW c1;exact⟨U9 F G D E (y7 t),rfl,c1,E⟩
  simp_all
 omega
/-! Texts. -/
theorem lT{t:ByteArray}{l:List Int}(h:f_ t=l){k:Nat}{x:Int}(hk:l[k]? =some x):ag t k=x/\k<t.size:=by
 grind[cF,tL]
theorem nB(t:ByteArray)(p q:Nat):f_ (t.extract p q)=((f_ t).drop p).take (q-p):=by
 unfold f_;simp_all
theorem xX{a b:ByteArray}(h:f_ a=f_ b):a=b:=by
 unfold f_ at h
 have F:a.data.toList=b.data.toList:=by
  apply eL;intro k;have:=gr (λl=>l[k]?) h;simp only[bw]at this
  cases D:a.data.toList[k]? <;>cases E:b.data.toList[k]? <;>rw[D,E]at this<;>simp at this⊢
  exact UInt8.toNat_inj.1 (by omega)
 have:=Array.toList_inj.1 F
 cases a;simp_all
theorem kH{l:List Int}(h:∀x∈l,0<=x/\x<256):f_ (strOfNums l)=l:=by
 unfold f_ strOfNums;simp only[List.map_map];rw[show(List.map ((λb:UInt8=>(b.toNat:Int))∘λn:Int=>UInt8.ofNat n.toNat) l)=l.map id from nF (λx hx=>?_)]
 ·simp
 have:=h x hx;simp only[Function.comp,id,UInt8.toNat_ofNat'];omega
theorem rz(a b:ByteArray):f_ (a++b)=f_ a++f_ b:=by
 unfold f_;simp_all
theorem jX(a b:List Int):strOfNums (a++b)=strOfNums a++strOfNums b:=by
 unfold strOfNums;apply ky;simp_all
theorem JC{c:Int}(h:ez c=true):97<=c/\c<=122:=by unfold ez at h;simpa using h
theorem R0{c:Int}(h:jw c=true):120<=c/\c<=122:=by have:=tK h;omega
theorem uW.byte{a:Ac}(h:uW a):97<=a.aF/\a.aF<=122/\0<=a.digit/\a.digit<=9:=by
 rcases h with⟨_,D,E⟩|⟨_,D,E⟩|⟨_,D,E⟩
 ·simp_all[JC]
 ·have:=JC D;omega
 have:=R0 D;omega
theorem OY{s:ByteArray}{a:Ac}{r:List Int}(h:f_ s=vt a++r):ag s 0=a.sign/\ag s 1=a.aF/\2<=s.size/\
 (yE a.sign=true->ag s 2=48+a.digit/\3<=s.size/\f_ (s.extract 3 s.size)=r)/\(yE a.sign=false->f_ (s.extract 2 s.size)=r):=by
 unfold vt at h
 cases q:yE a.sign with
 |true=>
  rw[q]at h;simp only[aV]at h;have D:=lT h (k:=0) (x:=a.sign) rfl;have E:=lT h (k:=1) (x:=a.aF) rfl;have F:=lT h (k:=2) (x:=48+a.digit) rfl;grind[nB,cF]
 |false=>?_
 rw[q]at h;simp only[bp,bj]at h;have D:=lT h (k:=0) (x:=a.sign) rfl;have E:=lT h (k:=1) (x:=a.aF) rfl;grind[nB,cF]
theorem R_{t:ByteArray}{k:Nat}(h:k+1<=t.size):t.extract k (k+1)=strOfNums [ag t k]:=by
 have E:0<=ag t k/\ag t k<256:=by
  unfold ag;rw[dif_pos (by omega)];have:=UInt8.toNat_lt (t[k]'(by omega));omega
 apply xX;rw[nB,kH (by intro x D;simp at D;rw[D];exact E)];apply eL;grind[tL]
theorem JD{t:ByteArray}{k:Nat}(h:k+2<=t.size):t.extract k (k+2)=strOfNums [ag t k,ag t (k+1)]:=by
 have D:∀j,j<t.size->0<=ag t j/\ag t j<256:=by
  intro j F;unfold ag;rw[dif_pos F];have:=UInt8.toNat_lt (t[j]'F);omega
 apply xX;rw[nB,kH (by intro x E;simp at E;rcases E with rfl|rfl;exact D _ (by omega);exact D _ (by omega))];apply eL;grind[tL]
theorem JE{rt:RT}{x:Tr}(h:uD rt x):3<=rt.text.size/\
 ((x.guard.sign=0/\ag rt.text 1≠63/\f_ (rt.text.extract 1 (rt.text.size-2))=enc x.bD)\/
  (jw x.guard.var=true/\pw x.guard.sign=true/\0<=x.guard.digit/\x.guard.digit<=9/\7<=rt.text.size/\ag rt.text 1=63/\ag rt.text 2=x.guard.var/\ag rt.text 3=x.guard.sign/\ag rt.text 4=48+x.guard.digit/\f_ (rt.text.extract 5 (rt.text.size-2))=enc x.bD)):=by
 have D:=h.Qy;have E:=gr List.length D;rw[cF]at E
 rcases h.gd with e|⟨J,F,O,U⟩
 ·have hs:x.guard.sign=0:=by rw[e]
  have he:Cu x.guard=[]:=by unfold Cu;rw[hs];rfl
  rw[he]at D E;simp only[jG,eh,gu,jB]at E;refine⟨by omega,.inl ⟨hs,?_,?_⟩⟩
  ·cases G:enc x.bD with
   |nil=>
    rw[G]at D;have:=(lT D (k:=1) (x:=62) rfl).1;omega
   |cons b l=>
    rw[G]at D;have X:=(lT D (k:=1) (x:=b) rfl).1;have:=(G6 h.ac b (by rw[G];simp)).2.2;omega
  grind[nB,enc]
 have I:(x.guard.sign==0)=false:=by
  unfold pw at F;simp at F⊢;omega
 have he:Cu x.guard=[63,x.guard.var,x.guard.sign,48+x.guard.digit]:=by unfold Cu;rw[I];rfl
 rw[he]at D E;simp only[List.cons_append,jG,eh,gu,jB]at E D;refine⟨by omega,.inr ⟨J,F,O,U,by omega,(lT D (k:=1) rfl).1,(lT D (k:=2) rfl).1,(lT D (k:=3) rfl).1,(lT D (k:=4) rfl).1,?_⟩⟩;rw[nB,D];show List.take (rt.text.size-2-5) (enc x.bD++[62,x.target])=enc x.bD;rw[show rt.text.size-2-5=(enc x.bD).length by omega];exact List.take_left
/-! Moves: of which state,and which of its transitions. -/
def AE(j:Nat):List Tr->Nat->List Nat
 | [],_=>[]
 |x::l,n=>if pE j x then n::AE j l (n+1)else AE j l (n+1)
theorem OZ(j:Nat):∀(l:List Tr) (n k t:Nat),(AE j l n)[k]? =some t->n<=t/\∃x,l[t-n]? =some x/\x.state=j/\(l.filter (pE j))[k]? =some x/\k=(l.take (t-n)).countP (pE j):=by
 intro l
 induction l with
 |nil=>grind[AE]
 |cons x l I=>?_
 intro n k t h;simp only[AE]at h
 cases q:pE j x with
 |true=>
  rw[q]at h;simp only[aV]at h
  cases k with
  |zero=>
   grind[pE]
  |succ k=>?_
  obtain⟨J,y,D,E,F,G⟩:=I (n+1) k t (by simpa using h)
  have e:t-n=(t-(n+1))+1:=by omega
  refine⟨by omega,y,by rw[e];simpa using D,E,by simp[q];exact F,?_⟩;rw[e,List.take_succ_cons,List.countP_cons,q,<-G];simp
 |false=>?_
 rw[q]at h;simp only[bp,bj]at h;obtain⟨J,y,D,E,F,G⟩:=I (n+1) k t h
 have e:t-n=(t-(n+1))+1:=by omega
 grind
def vE(s:Sd)(trg:Int)(x:Tr):Bool:=(x.qP==trg)&&holds s x.guard
theorem Bz(s:Sd)(j:Nat)(trg:Int)(x:Tr):ue s j trg x=(pE j x&&vE s trg x):=by
 grind[ue,pE,vE]
theorem CL(s:Sd)(j:Nat)(trg:Int):∀(l:List Tr) (n:Nat),(∀x∈l.filter (pE j),vE s trg x=false)->gF s j trg l n= -2:=by
 intro l
 induction l with
 |nil=>intro n _;rfl
 |cons x l D=>?_
 grind[gF,Bz,pE]
theorem Em(s:Sd)(j:Nat)(trg:Int):∀(l:List Tr) (n k:Nat) (x:Tr),(l.filter (pE j))[k]? =some x->vE s trg x=true->(∀(i:Nat) (y:Tr),i<k->(l.filter (pE j))[i]? =some y->vE s trg y=false)->
 ∃t:Nat,(AE j l n)[k]? =some t/\gF s j trg l n=t:=by
 intro l
 induction l with
 |nil=>simp_all
 |cons a l E=>?_
 intro n k x h D hb;simp only[gF,AE];rw[Bz]
 cases q:pE j a with
 |false=>
  rw[jI,q]at h;simp only[bp,bj]at h;simp only[Bool.false_and,bp,bj];exact E (n+1) k x h D (λi y hi hy=>hb i y hi (by rw[jI,q];simpa using hy))
 |true=>?_
 rw[jI,q]at h;simp only[aV]at h
 cases k with
 |zero=>
  simp_all
 |succ k=>?_
 have F:=hb 0 a (by omega) (by rw[jI,q];simp);rw[F];simp only[Bool.and_false,bp,bj,aV];obtain⟨t,G,I⟩:=E (n+1) k x (by simpa using h) D (λi y hi hy=>hb (i+1) y (by omega) (by rw[jI,q];simpa using hy));simp_all
def Dj(ol:Ol)(t:Nat):Nat:=match ol.cW[t]? with|some x=>(ol.cW.take t).countP (pE x.state.toNat)|none=>0
structure O0(ol:Ol)(t a k:Nat):Prop where
 tr:∃x,ol.cW[t]? =some x/\x.state=a/\(ol.cW.filter (pE a))[k]? =some x
 st:gG ol t=a
 rk:Dj ol t=k
theorem TP{ol:Ol}{t a k:Nat}(h:(AE a ol.cW 0)[k]? =some t):O0 ol t a k:=by
 obtain⟨_,x,D,E,F,G⟩:=OZ a ol.cW 0 k t h;rw[Nat.sub_zero]at D G;refine⟨⟨x,D,E,F⟩,by unfold gG;rw[D];exact E,?_⟩;grind[Dj]
theorem En{ol:Ol}{s:Sd}{j:Nat}{trg:Int}(h:∀x∈ol.cW.filter (pE j),vE s trg x=false):ke ol s j trg= -2:=CL s j trg ol.cW 0 h
theorem Hs{ol:Ol}{s:Sd}{j:Nat}{trg:Int}{k:Nat}{x:Tr}(h:(ol.cW.filter (pE j))[k]? =some x)(F:vE s trg x=true)(hb:∀(i:Nat) (y:Tr),i<k->(ol.cW.filter (pE j))[i]? =some y->vE s trg y=false):
 ∃t:Nat,O0 ol t j k/\ke ol s j trg=t:=by
 obtain⟨t,D,E⟩:=Em s j trg ol.cW 0 k x h F hb;exact⟨t,TP D,E⟩
theorem U_{ol:Ol}{t u:Nat}{x y:Tr}(F:ol.cW[t]? =some x)(hu:ol.cW[u]? =some y)(hs:x.state=y.state)(E:0<=x.state)(hk:Dj ol t=Dj ol u):t=u:=by
 unfold Dj at hk;rw[F,hu]at hk;simp only at hk;rw[<-hs]at hk
 have J:pE x.state.toNat x=true:=by unfold pE;rw[Int.toNat_of_nonneg E];simp
 have O:pE x.state.toNat y=true:=by unfold pE;rw[Int.toNat_of_nonneg E,hs];simp
 have I:∀(a b:Nat) (z:Tr),ol.cW[a]? =some z->pE x.state.toNat z=true->a<b->(ol.cW.take a).countP (pE x.state.toNat)<(ol.cW.take b).countP (pE x.state.toNat):=by
  intro a b z G hi D
  have e:(ol.cW.take b)=ol.cW.take a++(ol.cW.take b).drop a:=by
   have:=lK a (ol.cW.take b);grind
  rw[e,List.countP_append]
  have hm:z∈(ol.cW.take b).drop a:=by
   rw[List.mem_iff_getElem?];exact⟨0,by rw[List.getElem?_drop,l5,List.getElem?_take,aq D];exact G⟩
  have:0<((ol.cW.take b).drop a).countP (pE x.state.toNat):=by rw[List.countP_pos_iff];exact⟨z,hm,hi⟩
  omega
 rcases Nat.lt_trichotomy t u with c|c|c
 ·grind
 ·omega
 grind
theorem rT.get{α β:Type}{R:α->β->Prop}{l:List α}{m:List β}(h:rT R l m){k:Nat}{b:β}(hb:m[k]? =some b):∃a,l[k]? =some a/\R a b:=by
 induction h using rT.ind generalizing k with
 |nil=>simp_all
 |cons D _ E=>?_
 grind
theorem rT.Va{α β:Type}{R:α->β->Prop}{l:List α}{m:List β}(h:rT R l m){k:Nat}{a:α}(E:l[k]? =some a):∃b,m[k]? =some b/\R a b:=by
 induction h using rT.ind generalizing k with
 |nil=>simp_all
 |cons D _ F=>?_
 grind
theorem LY(ol:Ol)(s:Sd)(t:Nat):∀(l kept:List Int),gH ol s t l kept=if l.all (λx=>!(meets (leaves ol s t) (leaves ol s x.toNat))||within ol t x.toNat)then some (kept++l.filter (λx=>!(meets (leaves ol s t) (leaves ol s x.toNat)))++[(t:Int)])else none:=by
 intro l
 induction l with
 |nil=>grind[kept,gH]
 |cons x l D=>?_
 intro kept;simp only[gH,List.all_cons,jI]
 grind
/-! Fuel does not matter. -/
theorem Eo{ss:List St}(h:sW ss)(l:List Bool):∀(f g i:Nat),ss.length<=i+f->ss.length<=i+g->i<ss.length->fH ss l f i=fH ss l g i:=by
 intro f
 induction f with
 |zero=>omega
 |succ f I=>?_
 intro g i F D G
 match g,D with
 |0,D=>omega
 |g+1,D=>
  simp only[fH]
  have:rR (λ(j:Nat)=>!aW ss j i||fH ss l f j) ss.length=rR (λ(j:Nat)=>!aW ss j i||fH ss l g j) ss.length:=by
   unfold rR;rw[Bool.eq_iff_iff,List.all_eq_true,List.all_eq_true]
   have E:∀j:Nat,(!aW ss j i||fH ss l f j)=(!aW ss j i||fH ss l g j):=by
    intro j
    cases q:aW ss j i with
    |false=>rfl
    |true=>?_
    have:=pI h q;grind
   simp_all
  rw[this]
theorem Ht{ss:List St}(h:sW ss)(l:List Bool)(i:Nat):atEnd ss l i=if a_ ss i==2 then qZ ss l i else if a_ ss i==3 then(eF ss i).all (λj=>atEnd ss l j)else false:=by
 have e:atEnd ss l i=if a_ ss i==2 then qZ ss l i else if a_ ss i==3 then rR (λ(j:Nat)=>!aW ss j i||fH ss l (ss.length+1) j) ss.length else false:=rfl
 rw[e]
 have:rR (λ(j:Nat)=>!aW ss j i||fH ss l (ss.length+1) j) ss.length=(eF ss i).all (λj=>atEnd ss l j):=by
  unfold rR;grind[cf,dL,atEnd,Eo,aW]
 rw[this]
theorem Ep{ss:List St}(l:List Bool)(i:Nat):qZ ss l i=(eF ss i).any (λj=>(a_ ss j==4)&&bit l j):=by
 unfold qZ ux;rw[Bool.eq_iff_iff,nX,nX]
 constructor
 ·grind[DA,fC,cf,vB]
 rintro⟨j,E,F⟩;have D:=dL (cf.1 E);refine⟨j,by simpa using D.1,?_⟩;grind[DA,fC]
theorem LZ{ss:List St}(h:sW ss)(S:Nat->Bool)(goals:List Int):∀(f g i:Nat),ss.length<=i+f->ss.length<=i+g->i<ss.length->dM ss S goals f i=dM ss S goals g i:=by
 intro f
 induction f with
 |zero=>omega
 |succ f G=>?_
 intro g i F D E
 match g,D with
 |0,D=>omega
 |g+1,D=>
  simp only[dM]
  congr 1
  split
  ·rename_i q
   have:=pI h (yS h S goals E (by simpa using q));grind
  split
  ·unfold List.flatMap
   congr 1
   refine nF (λj hj=>?_);have:=pI h (cf.1 hj);grind
  rfl
theorem wM{ss:List St}(h:sW ss)(S:Nat->Bool)(goals:List Int){i:Nat}(hi:i<ss.length):
 dM ss S goals ss.length i=i::(if a_ ss i==2 then dM ss S goals ss.length (mW ss S goals i)else if a_ ss i==3 then(eF ss i).flatMap (dM ss S goals ss.length)else[]):=by
 have e:dM ss S _ ss.length i=dM ss S goals (ss.length+1) i:=LZ h S goals _ _ i (by omega) (by omega) hi;rw[e];rfl
theorem Hu{ss:List St}{S:Nat->Bool}{g1 g2:List Int}(E:∀k,oF ss g1 k=oF ss g2 k):∀(f i:Nat),dM ss S g1 f i=dM ss S g2 f i:=by
 have F:∀i,mW ss S g1 i=mW ss S g2 i:=by
  intro i;unfold mW;rw[show oF ss g1=oF ss g2 from funext E]
 intro f
 induction f with
 |zero=>intro i;rfl
 |succ f D=>?_
 intro i;simp only[dM];rw[F i,D,show dM ss S g1 f=dM ss S g2 f from funext D]
def j6(ol:Ol)(s:Sd)(t:Int):Int:=match ol.cW[t.toNat]? with|some x=>if x.target==45 then-1 else kA ol.ai s (place ol.ai x.target)|none=>-1
theorem L0{ol:Ol}(s:Sd)(k:Nat):∀(l:List Int),oF ol.ai (l.map (j6 ol s)) k=oF ol.ai (dQ ol s l) k:=by
 intro l
 induction l with
 |nil=>rfl
 |cons t l D=>?_
 grind[oF,j6,dQ,kA,place]
def kD(ss:List St)(s:Sd):List Int:=((List.range ss.length).filter (gY ss)).map (bN s)
theorem L6(p:Nat->Bool)(nm:Nat->Int):∀(l:List Nat) (c:Int),(∀k∈l,p k=false)/\l.foldl (λc k=>if p k then nm k else c) c=c\/∃k∈l,p k=true/\l.foldl (λc k=>if p k then nm k else c) c=nm k:=by
 intro l
 induction l with
 |nil=>simp_all
 |cons a l D=>?_
 grind
theorem O1{ol:Ol}(U:z9 ol){s:Sd}(O:Inv ol s)(left:List Bool){k p:Nat}(hk:k<ol.ai.length)(F:gY ol.ai k=true)(hp:aN ol.ai k=p):
 bN (rem ol.ai s left) k=(eF ol.ai p).foldl (λc j=>if bit left p&&bit s.act j then gD ol.ai j else c) (bN s k):=by
 have X:=U.le;have e:bN (rem ol.ai s left) k=(pD ol.ai s.act left (min ol.ai.length 16) 0 s.cd).getD k 0:=rfl;rw[e,yX _ _ _ _ _ _ (by have:=O.lp;omega)]
 have J:a_ ol.ai p=2:=by
  have:=(U.qM.hs k hk (.inl (by rw[tP hk]at F;simpa using F))).2;simp_all
 unfold Al;rw[F,hp,fC]
 rcases L6 (λj=>bit left p&&bit s.act j) (gD ol.ai) (eF ol.ai p) (bN s k)with⟨D,E⟩|⟨j,hj,D,E⟩
 ·rw[E]
  split
  ·rename_i c
   exfalso;have Y:=c.2.2;simp only[gA,gy,bne_iff_ne]at Y
   rcases uJ ol.ai s.act (p:Int)with⟨e2,_⟩|⟨j,e2,aa,ad⟩
   ·omega
   grind[cf]
  rfl
 rw[E];simp only[gy]at D
 rcases uJ ol.ai s.act (p:Int)with⟨e2,hz⟩|⟨i,e2,G,I⟩
 ·grind[cf]
 have Z:=O.yY.one p i j J I (cf.1 hj) G D.2;simp_all
/-! A tick ends: of the timers that are due none comes in again. -/
def tR:List Int->Nat
 |_::b::l=>(if b==48 then 1 else 0)+tR l
 |_=>0
theorem Hw:∀(n:Nat) (a b:List Int),a.length=2*n->tR (a++b)=tR a+tR b:=by
 intro n
 induction n with
 |zero=>grind[tR]
 |succ n D=>?_
 intro a b h
 match a,h with
 |x::y::a,h=>
  grind[tR]
 | [_],h=>simp at h;omega
 | [],h=>simp_all
def uY(N:Nat)(s:Sd):Prop:=s.tm.size % 2=0/\tR (f_ s.tm)<=N
theorem vF{a b:List Int}(h:a.length % 2=0):tR (a++b)=tR a+tR b:=Hw (a.length/2) a b (by omega)
theorem L7(t:ByteArray)(k:Nat):0<=ag t k/\ag t k<256:=by
 unfold ag
 split
 ·have:=UInt8.toNat_lt (t[k]'(by assumption));omega
 omega
theorem jm{t:ByteArray}{k:Nat}(h:k+1<t.size):(f_ t).drop k=ag t k::ag t (k+1)::(f_ t).drop (k+2):=by
 have D:=tL t k (by omega);have E:=tL t (k+1) h;have F:=cF t;rw[eZ (by omega),eZ (i:=k+1) (by omega)];grind
theorem O9(t:ByteArray)(c:Int):∀(f k:Nat) (acc:List Int),acc.length % 2=0->(∀x∈acc,0<=x/\x<256)->
 (sw t c f k acc).length % 2=0/\tR (sw t c f k acc)<=tR acc+tR ((f_ t).drop k)/\∀x∈sw t c f k acc,0<=x/\x<256:=by
 intro f
 induction f with
 |zero=>grind[sw]
 |succ f E=>?_
 intro k acc h hb;simp only[sw]
 split
 ·rename_i c1
  rw[jm c1];simp only[tR]
  split
  ·obtain⟨F,G,I⟩:=E (k+2) (acc++[ag t k,ag t (k+1)]) (by simp;omega) (by
    intro x D
    rcases cB.1 D with D|D
    ·exact hb x D
    simp at D;rcases D with rfl|rfl<;>exact L7 _ _)
   grind[vF,tR]
  grind
 simp_all
theorem O_{N:Nat}{m:Ma}(h:uY N m.s){a:Ac}(E:uW a):uY N (bW m a).2.s:=by
 unfold bW
 split
 ·omega
 rename_i c1
 split
 ·rename_i c2
  unfold send
  split
  ·omega
  obtain⟨D,F⟩:=h
  have J:1<=a.digit/\a.digit<=9:=by
   have e:a.sign=64:=by simpa using c2
   rcases E with⟨hs,_⟩|⟨_,_,I⟩|⟨hs,_⟩
   ·omega
   ·omega
   omega
  have hb:=E.byte;refine⟨?_,?_⟩
  ·show(m.s.tm++strOfNums [a.aF,48+a.digit]).size % 2=0
   rw[iJ,cC];simp_all
  show tR (f_ (m.s.tm++strOfNums [a.aF,48+a.digit]))<=N;rw[rz,vF (by rw[cF];exact D),kH (by intro x G;simp at G;omega)]
  grind[tR]
 split
 ·obtain⟨D,F⟩:=h
  obtain⟨g1,g2,g3⟩:=O9 m.s.tm a.aF m.s.tm.size 0 [] rfl (by simp);refine⟨?_,?_⟩
  ·show(strOfNums (sw m.s.tm a.aF m.s.tm.size 0 [])).size % 2=0
   rw[cC];omega
  show tR (f_ (strOfNums (sw m.s.tm a.aF m.s.tm.size 0 [])))<=N;grind[kH,tR]
 grind[uY,qi,fG,gX]
theorem BA{N:Nat}:∀(l:List Ac) {m:Ma},uY N m.s->(∀a∈l,uW a)->uY N (dF l m).s:=by
 intro l
 induction l with
 |nil=>intro m h _;exact h
 |cons a l D=>?_
 grind[dF,O_]
structure uZ(ol:Ol):Prop where
 tr:∀x∈ol.cW,∀a∈x.bD,uW a
 bl:∀b∈ol.eR,∀k:Nat,∀sg:Int,b.state=k->b.sign=sg->(sg=94\/sg=36)->∀a∈b.bD,uW a
theorem Er{N k:Nat}{sg:Int}(D:sg=94\/sg=36):∀(l:List Bl) {m:Ma},(∀b∈l,∀k:Nat,∀sg:Int,b.state=k->b.sign=sg->(sg=94\/sg=36)->∀a∈b.bD,uW a)->uY N m.s->uY N (d_ k sg l m).s:=by
 intro l
 induction l with
 |nil=>intro m _ h;exact h
 |cons b l E=>?_
 grind[d_,BA]
theorem BB{N:Nat}{m:Ma}(h:uY N m.s)(i:Int)(v:Bool):uY N (dN m i v).s:=h
theorem Hx{ol:Ol}(D:uZ ol){N:Nat}{m:Ma}(h:uY N m.s)(k:Nat):uY N (dA ol m k).s:=by
 have E:=Er (k:=k) (.inl rfl) ol.eR D.bl (BB h k true);grind[dA,qm]
theorem L8{ol:Ol}(E:uZ ol){N:Nat}(st:List Bool)(D:List Int):∀(f k:Nat) {m:Ma},uY N m.s->uY N (eB ol st D f k m).s:=by
 intro f
 induction f with
 |zero=>intro k m h;exact h
 |succ f F=>?_
 grind[eB,Hx]
theorem L9{ol:Ol}(D:uZ ol){N:Nat}(left:List Bool):∀(k:Nat) {m:Ma},uY N m.s->uY N (cM ol left k m).s:=by
 intro k
 induction k with
 |zero=>intro m h;exact h
 |succ k E=>?_
 intro m h;simp only[cM];refine E ?_
 split
 ·exact BB (Er (.inr rfl) ol.eR D.bl h) _ _
 omega
theorem Pa{ol:Ol}(D:uZ ol){N:Nat}:∀(l:List Int) {m:Ma},uY N m.s->uY N (fh ol l m).s:=by
 intro l
 induction l with
 |nil=>intro m h;exact h
 |cons x l F=>?_
 intro m h;simp only[fh];refine F (BA _ h ?_);unfold sE
 split
 ·rename_i y E;exact D.tr y (aM E)
 simp
theorem Es{ol:Ol}(D:uZ ol){N:Nat}{m:Ma}(h:uY N m.s)(l:List Int):uY N (dC ol m l).s:=
 L8 D _ _ _ _ (Pa D l (L9 D _ _ (m:={m with s:=rem ol.ai m.s (cT ol m.s l)}) h))
theorem Pb{ol:Ol}(D:uZ ol){N:Nat}{m:Ma}(h:uY N m.s):uY N (round ol m).s:=by
 grind[round,Es]
theorem L_{ol:Ol}(D:uZ ol){N:Nat}:∀(n:Nat) {m:Ma},uY N m.s->uY N (rounds ol n m).s:=by
 intro n
 induction n with
 |zero=>intro m h;exact h
 |succ n E=>?_
 grind[rounds,Pb]
theorem Pd{ol:Ol}(D:uZ ol){N:Nat}{s:Sd}(h:uY N s)(ev:Int):uY N (b_ ol s ev).1:=by
 unfold b_ finish
 split
 ·exact⟨rfl,by show tR (f_ ByteArray.empty)<=N;simp[f_,tR]⟩
 grind[L_,Es]
theorem wN(t:ByteArray):∀(f k j:Nat),kK t f k=some j->k % 2=0->j % 2=0/\ag t (j+1)=48:=by
 intro f
 induction f with
 |zero=>grind[kK]
 |succ f D=>?_
 grind[kK]
theorem Hy{N:Nat}{s:Sd}(h:uY (N+1) s)(D:(bQ s).2.1=true):uY N (bQ s).2.2:=by
 unfold bQ at D⊢
 cases q:kK s.tm s.tm.size 0 with
 |none=>simp_all
 |some k=>?_
 simp only;obtain⟨E,F⟩:=h;have hk:=(Cq s.tm s.tm.size 0 k q).2;obtain⟨he,I⟩:=wN s.tm s.tm.size 0 k q rfl;have G:=cF s.tm
 have e1:f_ (s.tm.extract 0 k)=(f_ s.tm).take k:=by rw[nB];simp
 have e2:f_ (s.tm.extract (k+2) s.tm.size)=(f_ s.tm).drop (k+2):=by rw[nB];exact List.take_of_length_le (by simp;omega)
 refine⟨?_,?_⟩
 ·simp_all<;>omega
 show tR (f_ (s.tm.extract 0 k++s.tm.extract (k+2) s.tm.size))<=N;rw[rz,e1,e2,vF (by simp;omega)]
 have:tR (f_ s.tm)=tR ((f_ s.tm).take k)+tR ((f_ s.tm).drop k):=by rw[<-vF (by simp;omega),lK]
 grind[jm,tR]
theorem Et{s:Sd}(h:uY 0 s):(bQ s).2.1=false:=by
 unfold bQ
 cases q:kK s.tm s.tm.size 0 with
 |none=>rfl
 |some k=>?_
 exfalso;have hk:=(Cq s.tm s.tm.size 0 k q).2;obtain⟨he,F⟩:=wN s.tm s.tm.size 0 k q rfl;have E:=cF s.tm
 have:tR (f_ s.tm)=tR ((f_ s.tm).take k)+tR ((f_ s.tm).drop k):=by rw[<-vF (by simp;omega),lK]
 have D:=h.2;grind[jm,tR]
theorem Hz{ol:Ol}(D:uZ ol):∀(N:Nat) {s:Sd} (l:List Int),uY N s->(eb ol (N+1) s l).isSome=true:=by
 intro N
 induction N with
 |zero=>grind[eb,Et]
 |succ N E=>?_
 grind[eb,Hy,Pd]
theorem Pe{L:List RN}{r:Rs}(E:NR L r)(G:T0 r):uZ ⟨r.ai,r.cW,r.eR⟩:=by
 refine⟨λx hx=>?_,λb hb k sg hk hs hsg=>?_⟩
 ·simp only at hx
  have I:=G x hx;have F:=E.ts x hx
  obtain⟨k,hk⟩:∃k:Nat,x.state=k:=⟨x.state.toNat,by omega⟩
  have D:k<L.length:=by omega
  obtain⟨rt,_,eD⟩:=(E.cW k _ (ar D)).right (b:=x) (by rw[gP];exact⟨hx,by unfold pE;rw[hk];simp⟩);exact eD.ac
 simp only at hb;have F:=E.bs b hb
 have D:k<L.length:=by omega
 have hm:b∈r.eR.filter (oC k sg):=by rw[gP];exact⟨hb,by unfold oC;rw[hk,hs];simp⟩
 rcases hsg with rfl|rfl
 ·obtain⟨_,_,eD⟩:=(E.nR k _ (ar D)).right hm
  exact eD.ac
 obtain⟨_,_,eD⟩:=(E.rJ k _ (ar D)).right hm;exact eD.ac
/-! What a stand tells of the active states,spread again. -/
theorem Pf{L:List RN}{k:Nat}(D:place (L.map RN.st) (gD (L.map RN.st) k)=k):fM L (gD (L.map RN.st) k)=k:=by
 grind[kY,gD,RN.st]
theorem Eu{L:List RN}(t:ByteArray)(al:List Nat)(D:∀k∈al,k<L.length/\fM L (gD (L.map RN.st) k)=k)(G:∀(j i:Nat),al[j]? =some i->ag t j=gD (L.map RN.st) i):
 ∀(rest:List Nat) (k:Nat) (last:Int) (on:List Bool),al.drop k=rest->(∀i∈rest,last<(i:Int))->rest.Pairwise (· < ·)->j4 L t rest.length k last on=some (rest.foldl (λon i=>on.set i true) on):=by
 intro rest
 induction rest with
 |nil=>intro k last on _ _ _;rfl
 |cons i rest I=>?_
 intro k last on E F hs
 have hi:al[k]? =some i:=by
  have:=gr (λl=>l[0]?) E;grind
 have hm:=D i (aM hi);rw[List.pairwise_cons]at hs;simp only[eh,j4,List.foldl_cons];rw[G k i hi,hm.2,ay (by have:=F i (by simp);omega),db];refine I (k+1) i _ ?_ (λj hj=>by have:=hs.1 j hj;omega) hs.2;have:=gr (List.drop 1) E;rw[List.drop_drop]at this;simp_all
theorem Mb:∀(l:List Nat) (on:List Bool),(∀k∈l,k<on.length)->(l.foldl (λon i=>on.set i true) on).length=on.length/\∀k,qA (l.foldl (λon i=>on.set i true) on) k=(qA on k||l.contains k):=by
 intro l
 induction l with
 |nil=>simp_all
 |cons a l D=>?_
 grind[qA]
theorem y_{L:List RN}{ol:Ol}(J:L.map RN.st=ol.ai)(U:z9 ol)(hB:∀k,k<ol.ai.length->0<=gD ol.ai k/\gD ol.ai k<256){s:Sd}(G:∀j,bit s.act j=true->j<ol.ai.length)(hl:s.act.length=16):
 ∃on,nA L (jS ol.ai s)=some on/\iN L.length on s.act:=by
 have D:ol.ai.length=L.length:=by rw[<-J];simp
 have Y:=U.le
 have hm:min ol.ai.length 16=L.length:=by omega
 let al:=(List.range L.length).filter λ(j:Nat)=>has s.act (j:Int)
 have O:∀k∈al,k<L.length/\bit s.act k=true:=λk hk=>by
  have:=gP.1 hk;exact⟨by simpa using this.1,this.2⟩
 have E:∀k,k<L.length->0<=gD ol.ai k/\gD ol.ai k<256:=λk hk=>hB k (by omega)
 have e:jS ol.ai s=strOfNums (al.map (gD ol.ai)):=by unfold jS iU;rw[hm]
 have hb:f_ (jS ol.ai s)=al.map (gD ol.ai):=by
  grind[kH]
 have iG:(jS ol.ai s).size=al.length:=by rw[<-cF,hb];simp
 have ht:∀(j i:Nat),al[j]? =some i->ag (jS ol.ai s) j=gD (L.map RN.st) i:=λj i hj=>by
  rw[J];exact(lT hb (k:=j) (x:=gD ol.ai i) (by rw[bw,hj];rfl)).1
 have I:∀k∈al,k<L.length/\fM L (gD (L.map RN.st) k)=k:=λk hk=>by
  have F:=(O k hk).1;exact⟨F,Pf (by rw[J];exact(U.nm k (by omega)).1)⟩
 have hs:al.Pairwise _:=pT _ List.pairwise_lt_range;have Z:=Eu (jS ol.ai s) al I ht al 0 (-1) (List.replicate L.length false) rfl (λi _=>by omega) hs;obtain⟨g1,g2⟩:=Mb al (List.replicate L.length false) (λk hk=>by simp;exact(O k hk).1);refine⟨_,by unfold nA;rw[iG];exact Z,by simpa using g1,hl,λk=>?_⟩;rw[g2 k]
 have X:qA (List.replicate L.length false) k=false:=by
  unfold qA;grind
 rw[X,Bool.false_or]
 cases q:bit s.act k with
 |true=>
  rw[List.contains_iff_mem];exact gP.2 ⟨by simpa using(D▸G k q),q⟩
 |false=>?_
 grind
