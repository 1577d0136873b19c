import Derived.Test.YtnlbchmfcebeeaaGreatTXe
import Derived.Test.YtnlbchmfcebeeaaGreatTF2
set_option maxHeartbeats 12800000
set_option maxRecDepth 100000
namespace Go.Proofs.YtnlbchmfcebeeaaGreat
open Go.Proofs.Tryz Ch
namespace Ch
/-! Above and below. -/
theorem Sn{ss:List St}(hu:Up ss)(h:Int):∀(f:Nat) (i:Int),(i+1).toNat<=f->sZ ss h f i=au ss h i:=by
 have key:∀(n f g:Nat) (i:Int),(i+1).toNat<=n->(i+1).toNat<=f->(i+1).toNat<=g->sZ ss h f i=sZ ss h g i:=by
  intro n
  induction n with
  |zero=>
   intro f g i h0 _ _;rw[pP ss h f (by omega),pP ss h g (by omega)]
  |succ n ih=>?_
  intro f g i h0 h1 h2
  by_cases c: -1<i
  ·match f,g,h1,h2 with
   |0,_,h1,_=>omega
   |_+1,0,_,h2=>omega
   |f+1,g+1,h1,h2=>
    simp only[sZ,c,decide_true,if_true];have:=gP hu c;rw[ih f g (aw ss i) (by omega) (by omega) (by omega)]
  rw[pP ss h f c,pP ss h g c]
 intro f i hf;exact key f f _ i hf hf (Nat.le_refl _)
theorem dx{ss:List St}(hu:Up ss)(h:Int){i:Int}(hi:0<=i):au ss h i=(aw ss i==h||au ss h (aw ss i)):=by
 have e:au ss h i=sZ ss h (i.toNat+1) i:=by unfold au;rw[show(i+1).toNat=i.toNat+1 by omega]
 rw[e];simp only[sZ,show-1<i by omega,decide_true,if_true];have:=gP hu (i:=i) (by omega);rw[Sn hu h _ _ (by omega)]
 cases aw ss i==h<;>simp
theorem mN(ss:List St)(h:Int){i:Int}(hi:i<0):au ss h i=false:=pP ss h _ (by omega)
theorem yn{ss:List St}(hu:Up ss){P:Int->Prop}(h0:P (-1))(h1:∀i,0<=i->P (aw ss i)->P i):∀i,-1<=i->P i:=by
 have:∀(n:Nat) (i:Int),-1<=i->i<n->P i:=by
  intro n
  induction n with
  |zero=>intro i h2 h3;have:i= -1:=by omega
         rw[this];exact h0
  |succ n ih=>?_
  intro i h2 h3
  by_cases c:0<=i
  ·have a:=gP hu (i:=i) (by omega)
   have b:=fH hu i;exact h1 i c (ih _ b (by omega))
  have:i= -1:=by omega
  rw[this];exact h0
 intro i hi;exact this (i+1).toNat i hi (by omega)
theorem acL{ss:List St}(hu:Up ss){h i:Int}(hi: -1<=i):au ss h i=true-> -1<=h/\h<i:=by
 refine yn hu (P:=λi=>au ss h i=true-> -1<=h/\h<i) ?_ ?_ i hi
 ·intro e;rw[mN ss h (by omega)]at e;cases e
 intro i h0 ih e;rw[dx hu h h0]at e;have a:=gP hu (i:=i) (by omega);have b:=fH hu i
 rcases Bool.or_eq_true _ _▸e with e|e
 ·have:aw ss i=h:=by simpa using e
  omega
 have:=ih e;omega
theorem iM{ss:List St}(hu:Up ss){h i:Int}(e:au ss h i=true): -1<=h/\h<i:=by
 by_cases c:0<=i
 ·exact acL hu (by omega) e
 rw[mN ss h (by omega)]at e;cases e
theorem So{ss:List St}(hu:Up ss){a b c:Int}(hab:au ss a b=true)(hc: -1<=c):au ss b c=true->au ss a c=true:=by
 refine yn hu (P:=λc=>au ss b c=true->au ss a c=true) ?_ ?_ c hc
 ·intro e;rw[mN ss b (by omega)]at e;cases e
 intro i h0 ih e;rw[dx hu b h0]at e;rw[dx hu a h0]
 rcases Bool.or_eq_true _ _▸e with e|e
 ·have:aw ss i=b:=by simpa using e
  rw[this,hab];simp
 rw[ih e];simp
theorem oX{ss:List St}(hu:Up ss){a b c:Int}(hab:au ss a b=true)(hbc:au ss b c=true):au ss a c=true:=
 So hu hab (by have:=iM hu hbc;omega) hbc
theorem VW{ss:List St}(hu:Up ss){a b c:Int}(hc: -1<=c):au ss a c=true->au ss b c=true->a=b\/au ss a b=true\/au ss b a=true:=by
 refine yn hu (P:=λc=>au ss a c=true->au ss b c=true->a=b\/au ss a b=true\/au ss b a=true) ?_ ?_ c hc
 ·intro e;rw[mN ss a (by omega)]at e;cases e
 intro i h0 ih e1 e2;rw[dx hu a h0]at e1;rw[dx hu b h0]at e2
 rcases Bool.or_eq_true _ _▸e1 with e1|e1<;>rcases Bool.or_eq_true _ _▸e2 with e2|e2
 ·left;have p1:aw ss i=a:=by simpa using e1
  have p2:aw ss i=b:=by simpa using e2
  omega
 ·have p1:aw ss i=a:=by simpa using e1
  rw[p1]at e2;exact .inr (.inr e2)
 ·have p2:aw ss i=b:=by simpa using e2
  rw[p2]at e1;exact .inr (.inl e1)
 exact ih e1 e2
theorem Qm{ss:List St}(hu:Up ss){a b c:Int}(h1:au ss a c=true)(h2:au ss b c=true):a=b\/au ss a b=true\/au ss b a=true:=
 VW hu (by have:=iM hu h1;omega) h1 h2
theorem Ag{ss:List St}(hu:Up ss){i:Int}(hi: -1<=i):0<=i->au ss (-1) i=true:=by
 refine yn hu (P:=λi=>0<=i->au ss (-1) i=true) ?_ ?_ i hi
 ·intro h;omega
 intro i h0 ih _;rw[dx hu _ h0]
 by_cases c:aw ss i= -1
 ·rw[c];rfl
 have:=fH hu i;rw[ih (by omega)];simp
structure sH(ss:List St):Prop where
 up:Up ss
 ne:0<ss.length
 root:∀k:Nat,k<ss.length->aw ss k= -1->k=0
 pre:∀k:Nat,k+1<ss.length->aw ss ((k+1:Nat):Int)=k\/au ss (aw ss ((k+1:Nat):Int)) k=true
 pk:∀k:Nat,0<k->k<ss.length->aA ss (aw ss k)=2\/aA ss (aw ss k)=3
 kid:∀k:Nat,k<ss.length->aA ss k=2\/aA ss k=3->∃j:Nat,j<ss.length/\aB ss j k=true
 hs:∀k:Nat,k<ss.length->aA ss k=5\/aA ss k=4->0<k/\aA ss (aw ss k)=2
theorem Ei{ss:List St}{k:Nat}(hk:k<ss.length)(p:Int):aB ss k p=(aw ss k==p&&aA ss k !=5):=by
 unfold aB aw aA;rw[dD,List.getElem?_eq_getElem hk]
theorem cA{ss:List St}{k:Nat}{p:Int}(h:aB ss k p=true):k<ss.length/\aw ss k=p/\aA ss k≠5:=by
 have hk:k<ss.length:=by
  unfold aB at h;rw[dD]at h
  cases q:ss[k]? with
  |none=>rw[q]at h;cases h
  |some s=>exact(List.getElem?_eq_some_iff.1 q).1
 rw[Ei hk]at h;simp only[Bool.and_eq_true,beq_iff_eq,bne_iff_ne]at h;exact⟨hk,h.1,h.2⟩
theorem wM{ss:List St}{k:Nat}{p:Int}(hk:k<ss.length)(h1:aw ss k=p)(h2:aA ss k≠5):aB ss k p=true:=by
 rw[Ei hk];simp[h1,h2]
theorem sH.par{ss:List St}(h:sH ss){k:Nat}(h0:0<k)(hk:k<ss.length):∃p:Nat,aw ss k=p/\p<k:=by
 have a:=fH h.up k;have b:=gP h.up (i:=k) (by omega)
 have c:aw ss k≠ -1:=λe=>by have:=h.root k hk e;omega
 exact⟨(aw ss k).toNat,by omega,by omega⟩
theorem sH.Jj{ss:List St}(h:sH ss):aw ss ((0:Nat):Int)= -1:=by
 have a:=fH h.up ((0:Nat):Int);have b:=gP h.up (i:=((0:Nat):Int)) (by omega);omega
theorem sH.mid{ss:List St}(h:sH ss)(i:Int):∀(d k j:Nat),k<ss.length->k=j+d->au ss i k=true->i<j->au ss i j=true:=by
 intro d
 induction d with
 |zero=>intro k j _ e ha _;have:k=j:=by omega
        rw[<-this];exact ha
 |succ d ih=>?_
 intro k j hk e ha hi
 obtain⟨m,rfl⟩:∃m,k=m+1:=⟨k-1,by omega⟩
 refine ih m j (by omega) (by omega) ?_ hi;rw[dx h.up _ (by omega)]at ha
 rcases h.pre m hk with hp|hp
 ·rw[hp]at ha
  rcases Bool.or_eq_true _ _▸ha with ha|ha
  ·have:(m:Int)=i:=by simpa using ha
   omega
  exact ha
 rcases Bool.or_eq_true _ _▸ha with ha|ha
 ·have:aw ss ((m+1:Nat):Int)=i:=by simpa using ha
  rw[this]at hp;exact hp
 exact oX h.up ha hp
theorem sH.sib{ss:List St}(h:sH ss){a b x:Nat}{p:Int}(ha:aB ss a p=true)(hb:aB ss b p=true)(hab:a<b)(hx:x=a\/au ss a x=true)(hxl:x<ss.length):x<b:=by
 rcases Nat.lt_or_ge x b with q|q
 ·exact q
 exfalso
 have hab':au ss (a:Int) b=true:=by
  rcases hx with rfl|hx
  ·omega
  exact h.mid a (x-b) x b hxl (by omega) hx (by omega)
 rw[dx h.up _ (by omega),(cA hb).2.1,<-(cA ha).2.1]at hab';have hl:=gP h.up (i:=(a:Int)) (by omega)
 rcases Bool.or_eq_true _ _▸hab' with e|e
 ·have:aw ss a=a:=by simpa using e
  omega
 have:=iM h.up e;omega
theorem sH.toward{ss:List St}(h:sH ss){p:Int}{g:Int}(hg: -1<=g):au ss p g=true->g<ss.length->(0<=g->aA ss g≠5)->∃c:Nat,aB ss c p=true/\((c:Int)=g\/au ss c g=true):=by
 refine yn h.up (P:=λg=>au ss p g=true->g<ss.length->(0<=g->aA ss g≠5)->∃c:Nat,aB ss c p=true/\((c:Int)=g\/au ss c g=true)) ?_ ?_ g hg
 ·intro e;rw[mN ss p (by omega)]at e;cases e
 intro i h0 ih e hl hk;rw[dx h.up _ h0]at e
 obtain⟨k,rfl⟩:∃k:Nat,i=k:=⟨i.toNat,by omega⟩
 rcases Bool.or_eq_true _ _▸e with e|e
 ·exact⟨k,wM (by omega) (by simpa using e) (hk (by omega)),.inl rfl⟩
 have hlt:=gP h.up (i:=(k:Int)) (by omega)
 have hp:aA ss (aw ss k)≠5:=by
  by_cases c:k=0
  ·subst c;rw[h.Jj]at e;rw[mN ss p (by omega)]at e;cases e
  have:=h.pk k (by omega) (by omega);omega
 obtain⟨c,hc,hcg⟩:=ih e (by omega) (λ_=>hp);refine⟨c,hc,.inr ?_⟩;rw[dx h.up _ (by omega)]
 rcases hcg with hcg|hcg
 ·rw[hcg];simp
 rw[hcg];simp
theorem sH.Ni{ss:List St}(h:sH ss){p:Int}{a b:Nat}{g:Int}(ha:aB ss a p=true)(hb:aB ss b p=true)(hag:(a:Int)=g\/au ss a g=true)(hbg:(b:Int)=g\/au ss b g=true)(hl:g<ss.length):a=b:=by
 have hg:0<=g:=by
  rcases hag with e|e
  ·omega
  have:=iM h.up e;omega
 obtain⟨k,rfl⟩:∃k:Nat,g=k:=⟨g.toNat,by omega⟩
 rcases Nat.lt_trichotomy a b with q|q|q
 ·have:=h.sib ha hb q (x:=k) (by rcases hag with e|e;exact .inl (by omega);exact .inr e) (by omega)
  rcases hbg with e|e
  ·omega
  have:=iM h.up e;omega
 ·exact q
 have:=h.sib hb ha q (x:=k) (by rcases hbg with e|e;exact .inl (by omega);exact .inr e) (by omega)
 rcases hag with e|e
 ·omega
 have:=iM h.up e;omega
/-! The reference's next: all that is active in the end. -/
def cQ(ss:List St)(i:Nat):List Nat:=(List.range ss.length).filter λ(j:Nat)=>aB ss j i
def mn(ss:List St)(goals:List Int)(k:Nat):Bool:=goals.any λg=>decide (0<=g)&&(g==(k:Int)||au ss k g)
def iN(p:Nat->Bool)(c:Nat)(l:List Nat):Nat:=l.foldl (λc k=>if p k then k else c) c
def mB(ss:List St)(S:Nat->Bool)(goals:List Int)(i:Nat):Nat:=iN S (iN (mn ss goals) ((cQ ss i).headD 0) (cQ ss i)) (cQ ss i)
def cY(ss:List St)(S:Nat->Bool)(goals:List Int):Nat->Nat->List Nat
 |0,_=>[]
 |f+1,i=>i::(if aA ss i==2 then cY ss S goals f (mB ss S goals i)else if aA ss i==3 then(cQ ss i).flatMap (cY ss S goals f)else[])
theorem jm(p:Nat->Bool):∀(l:List Nat) (c:Nat),(iN p c l=c/\∀k∈l,p k=false)\/(iN p c l∈l/\p (iN p c l)=true):=by
 intro l
 induction l with
 |nil=>intro c;exact .inl ⟨rfl,by simp⟩
 |cons a l ih=>?_
 intro c;show(iN p (if p a then a else c) l=c/\_)\/(iN p (if p a then a else c) l∈a::l/\p (iN p (if p a then a else c) l)=true)
 rcases ih (if p a then a else c)with⟨e,h⟩|⟨h1,h2⟩
 ·cases q:p a with
  |true=>
   rw[q]at e;simp only[if_true]at e⊢;rw[e];exact .inr ⟨by simp,q⟩
  |false=>
   rw[q]at e;simp only[Bool.false_eq_true,if_false]at e⊢;refine .inl ⟨e,λk hk=>?_⟩
   rcases List.mem_cons.1 hk with rfl|hk
   ·exact q
   exact h k hk
 exact .inr ⟨List.mem_cons_of_mem _ h1,h2⟩
theorem bJ{ss:List St}{i j:Nat}:j∈cQ ss i↔aB ss j i=true:=by
 unfold cQ;rw[List.mem_filter];exact⟨λh=>h.2,λh=>⟨by simpa using(cA h).1,h⟩⟩
theorem Jk(ss:List St)(i:Nat):(cQ ss i).Pairwise (· < ·):=by
 unfold cQ;exact List.Pairwise.filter _ List.pairwise_lt_range
def Goes(ss:List St)(S:Nat->Bool)(goals:List Int)(p c:Nat):Prop:=aB ss c p=true/\(aA ss p=3\/(aA ss p=2/\c=mB ss S goals p))
theorem A_{ss:List St}(h:sH ss)(S:Nat->Bool)(goals:List Int){i:Nat}(hi:i<ss.length)(hk:aA ss i=2):aB ss (mB ss S goals i) i=true:=by
 obtain⟨j,hj,hc⟩:=h.kid i hi (.inl hk);have hj':=bJ.2 hc
 have hh:(cQ ss i).headD 0∈cQ ss i:=by
  cases q:cQ ss i with
  |nil=>rw[q]at hj';cases hj'
  |cons a l=>simp
 rw[<-bJ];unfold mB
 rcases jm (mn ss goals) (cQ ss i) ((cQ ss i).headD 0)with⟨e,_⟩|⟨e,_⟩
 ·rw[e]
  rcases jm S (cQ ss i) ((cQ ss i).headD 0)with⟨e,_⟩|⟨e,_⟩
  ·rw[e];exact hh
  exact e
 rcases jm S (cQ ss i) (iN (mn ss goals) ((cQ ss i).headD 0) (cQ ss i))with⟨e2,_⟩|⟨e2,_⟩
 ·rw[e2];exact e
 exact e2
theorem oY{ss:List St}(h:sH ss){c i:Nat}(hc:aB ss c i=true):i<c/\c<ss.length:=by
 obtain⟨h1,h2,_⟩:=cA hc;have:=gP h.up (i:=(c:Int)) (by omega);omega
theorem uD{ss:List St}(h:sH ss){c i:Nat}(hc:aB ss c i=true):au ss i c=true:=by
 rw[dx h.up _ (by omega),(cA hc).2.1];simp
theorem nM{ss:List St}(h:sH ss)(S:Nat->Bool)(goals:List Int):∀(f i:Nat),i<ss.length->ss.length<=i+f->
 (∀j∈cY ss S goals f i,j=i\/∃p∈cY ss S goals f i,Goes ss S goals p j)/\
 (∀p∈cY ss S goals f i,∀c,Goes ss S goals p c->c∈cY ss S goals f i)/\
 (∀j∈cY ss S goals f i,j<ss.length/\(j=i\/au ss i j=true))/\i∈cY ss S goals f i/\(cY ss S goals f i).Pairwise (· < ·):=by
 intro f
 induction f with
 |zero=>intro i h1 h2;omega
 |succ f ih=>?_
 intro i hi hf;simp only[cY]
 by_cases k2:aA ss i=2
 ·have lf:=A_ h S goals hi k2
  have hlt:=oY h lf;obtain⟨a1,a2,a3,a4,a5⟩:=ih (mB ss S goals i) hlt.2 (by omega);rw[if_pos (by simpa using k2)];refine⟨?_,?_,?_,by simp,?_⟩
  ·intro j hj
   rcases List.mem_cons.1 hj with rfl|hj
   ·exact .inl rfl
   rcases a1 j hj with rfl|⟨p,hp,hg⟩
   ·exact .inr ⟨i,by simp,lf,.inr ⟨k2,rfl⟩⟩
   exact .inr ⟨p,List.mem_cons_of_mem _ hp,hg⟩
  ·intro p hp c hg
   rcases List.mem_cons.1 hp with rfl|hp
   ·rcases hg.2 with e|⟨_,e⟩
    ·omega
    rw[e];exact List.mem_cons_of_mem _ a4
   exact List.mem_cons_of_mem _ (a2 p hp c hg)
  ·intro j hj
   rcases List.mem_cons.1 hj with rfl|hj
   ·exact⟨hi,.inl rfl⟩
   refine⟨(a3 j hj).1,.inr ?_⟩
   rcases(a3 j hj).2 with e|e
   ·rw[e];exact uD h lf
   exact oX h.up (uD h lf) e
  rw[List.pairwise_cons];refine⟨λj hj=>?_,a5⟩
  rcases(a3 j hj).2 with e|e
  ·omega
  have:=iM h.up e;omega
 by_cases k3:aA ss i=3
 ·rw[if_neg (by simpa using k2),if_pos (by simpa using k3)]
  have ih':∀c,c∈cQ ss i->_:=λc hc=>ih c (oY h (bJ.1 hc)).2 (by have:=oY h (bJ.1 hc);omega)
  refine⟨?_,?_,?_,by simp,?_⟩
  ·intro j hj
   rcases List.mem_cons.1 hj with rfl|hj
   ·exact .inl rfl
   obtain⟨c,hc,hj⟩:=List.mem_flatMap.1 hj
   rcases(ih' c hc).1 j hj with rfl|⟨p,hp,hg⟩
   ·exact .inr ⟨i,by simp,bJ.1 hc,.inl k3⟩
   exact .inr ⟨p,List.mem_cons_of_mem _ (List.mem_flatMap.2 ⟨c,hc,hp⟩),hg⟩
  ·intro p hp c hg
   rcases List.mem_cons.1 hp with rfl|hp
   ·exact List.mem_cons_of_mem _ (List.mem_flatMap.2 ⟨c,bJ.2 hg.1,(ih' c (bJ.2 hg.1)).2.2.2.1⟩)
   obtain⟨d,hd,hp⟩:=List.mem_flatMap.1 hp;exact List.mem_cons_of_mem _ (List.mem_flatMap.2 ⟨d,hd,(ih' d hd).2.1 p hp c hg⟩)
  ·intro j hj
   rcases List.mem_cons.1 hj with rfl|hj
   ·exact⟨hi,.inl rfl⟩
   obtain⟨c,hc,hj⟩:=List.mem_flatMap.1 hj;have a3:=(ih' c hc).2.2.1 j hj;refine⟨a3.1,.inr ?_⟩
   rcases a3.2 with e|e
   ·rw[e];exact uD h (bJ.1 hc)
   exact oX h.up (uD h (bJ.1 hc)) e
  rw[List.pairwise_cons];refine⟨λj hj=>?_,?_⟩
  ·obtain⟨c,hc,hj⟩:=List.mem_flatMap.1 hj
   have a3:=(ih' c hc).2.2.1 j hj;have:=oY h (bJ.1 hc)
   rcases a3.2 with e|e
   ·omega
   have:=iM h.up e;omega
  rw[List.pairwise_flatMap];refine⟨λc hc=>(ih' c hc).2.2.2.2,?_⟩;have hs:=Jk ss i;refine List.Pairwise.imp_of_mem (λ {a b} ha hb hab x hx y hy=>?_) hs;have hx':=(ih' a ha).2.2.1 x hx;have hy':=(ih' b hb).2.2.1 y hy;have:=h.sib (bJ.1 ha) (bJ.1 hb) hab hx'.2 hx'.1
  rcases hy'.2 with e|e
  ·omega
  have:=iM h.up e;omega
 rw[if_neg (by simpa using k2),if_neg (by simpa using k3)];refine⟨?_,?_,?_,by simp,by simp⟩
 ·intro j hj;simp at hj;exact .inl hj
 ·intro p hp c hg;simp at hp;subst hp;rcases hg.2 with e|⟨e,_⟩<;>omega
 intro j hj;simp at hj;subst hj;exact⟨hi,.inl rfl⟩
structure YV(ss:List St)(S:Nat->Bool)(goals:List Int):Prop where
 lt:∀i,S i=true->i<ss.length
 Vc:∀i p:Nat,S i=true->aw ss i=p->S p=true
 cX:∀i,S i=true->aA ss i≠5
 one:∀p i j:Nat,aA ss p=2->aB ss i p=true->aB ss j p=true->S i=true->S j=true->i=j
 rng:∀g∈goals,0<=g/\g<ss.length/\aA ss g≠5
 uni:∀p:Nat,aA ss p=2->(∀i:Nat,aB ss i p=true->S i=false)->∀g1∈goals,∀g2∈goals,au ss p g1=true->au ss p g2=true->g1=g2
def uW(ss:List St)(S:Nat->Bool)(goals:List Int)(k:Nat):Bool:=(cY ss S goals ss.length 0).contains k
theorem wO{ss:List St}{S:Nat->Bool}{goals:List Int}{k:Nat}:uW ss S goals k=true↔k∈cY ss S goals ss.length 0:=by
 unfold uW;exact List.contains_iff_mem
theorem Bc{ss:List St}(h:sH ss)(S:Nat->Bool)(goals:List Int):uW ss S goals 0=true:=
 wO.2 (nM h S goals ss.length 0 h.ne (by omega)).2.2.2.1
theorem kG{ss:List St}(h:sH ss)(S:Nat->Bool)(goals:List Int){k p:Nat}(hp:aw ss k=p):uW ss S goals k=true↔uW ss S goals p=true/\Goes ss S goals p k:=by
 obtain⟨a1,a2,a3,_,_⟩:=nM h S goals ss.length 0 h.ne (by omega);rw[wO,wO]
 constructor
 ·intro hk
  rcases a1 k hk with rfl|⟨q,hq,hg⟩
  ·rw[h.Jj]at hp;omega
  have:=(cA hg.1).2.1;rw[hp]at this
  have:p=q:=by omega
  subst this;exact⟨hq,hg⟩
 rintro⟨h1,h2⟩;exact a2 p h1 k h2
theorem Be{ss:List St}(h:sH ss){S:Nat->Bool}{goals:List Int}{k:Nat}(hk:uW ss S goals k=true):k<ss.length:=
 ((nM h S goals ss.length 0 h.ne (by omega)).2.2.1 k (wO.1 hk)).1
theorem Qn{ss:List St}(h:sH ss)(S:Nat->Bool)(goals:List Int):cY ss S goals ss.length 0=(List.range ss.length).filter (uW ss S goals):=by
 have hs:=(nM h S goals ss.length 0 h.ne (by omega)).2.2.2.2;have hr:((List.range ss.length).filter (uW ss S goals)).Pairwise (· < ·):=List.Pairwise.filter _ List.pairwise_lt_range;refine List.Perm.eq_of_pairwise (le:=(· < ·)) (λa b _ _ h1 h2=>by omega) hs hr ?_;rw[List.perm_ext_iff_of_nodup (hs.imp (λh=>by omega)) (hr.imp (λh=>by omega))];intro a;rw[List.mem_filter,wO]
 constructor
 ·intro ha;exact⟨by simpa using((nM h S goals ss.length 0 h.ne (by omega)).2.2.1 a ha).1,ha⟩
 intro ha;exact ha.2
theorem yo{ss:List St}{S:Nat->Bool}{goals:List Int}(hE:YV ss S goals){p c:Nat}(hk:aA ss p=2)(hc:aB ss c p=true)(hs:S c=true):mB ss S goals p=c:=by
 unfold mB
 rcases jm S (cQ ss p) (iN (mn ss goals) ((cQ ss p).headD 0) (cQ ss p))with⟨_,e2⟩|⟨e1,e2⟩
 ·rw[e2 c (bJ.2 hc)]at hs;cases hs
 exact hE.one p _ c hk (bJ.1 e1) hc e2 hs
theorem GJ{ss:List St}(h:sH ss){S:Nat->Bool}{goals:List Int}(hE:YV ss S goals):∀(n k:Nat),k<n->S k=true->uW ss S goals k=true:=by
 intro n
 induction n with
 |zero=>intro k hk;omega
 |succ n ih=>?_
 intro k hk hs;have hkl:=hE.lt k hs
 by_cases c:k=0
 ·subst c;exact Bc h S goals
 obtain⟨p,hp,hlt⟩:=h.par (by omega) hkl
 have hpl:p<ss.length:=by omega
 have hc:aB ss k p=true:=wM hkl hp (hE.cX k hs);refine(kG h S goals hp).2 ⟨ih p (by omega) (hE.Vc k p hs hp),hc,?_⟩
 rcases h.pk k (by omega) hkl with e|e<;>rw[hp]at e
 ·exact .inr ⟨e,(yo hE e hc hs).symm⟩
 exact .inl e
theorem Jl(ss:List St)(p:Int):∀(f k:Nat),cM ss p f k=match(List.range' k f).filter (λ(j:Nat)=>aB ss j p)with| []=>-2|a::_=>((a:Nat):Int):=by
 intro f
 induction f with
 |zero=>intro k;rfl
 |succ f ih=>?_
 intro k;rw[List.range'_succ,List.filter_cons];simp only[cM]
 cases q:aB ss k p with
 |true=>simp
 |false=>simp only[Bool.false_eq_true,if_false];exact ih (k+1)
theorem vy{ss:List St}{p:Nat}(hne:cQ ss p≠[]):cH ss p=((cQ ss p).headD 0:Nat):=by
 unfold cH;rw[Jl,<-List.range_eq_range'];show(match cQ ss p with| []=>(-2:Int)|a::_=>((a:Nat):Int))=_
 cases q:cQ ss p with
 |nil=>exact absurd q hne
 |cons a l=>rfl
theorem ZK{ss:List St}(h:sH ss){S:Nat->Bool}{goals:List Int}(hE:YV ss S goals){p k:Nat}(_hp:p<ss.length)(hk2:aA ss p=2)(hc:aB ss k p=true)
 (hno:∀i:Nat,aB ss i p=true->S i=false):jb ss k p goals=decide (k=mB ss S goals p):=by
 have hpick:mB ss S goals p=iN (mn ss goals) ((cQ ss p).headD 0) (cQ ss p):=by
  unfold mB
  rcases jm S (cQ ss p) (iN (mn ss goals) ((cQ ss p).headD 0) (cQ ss p))with⟨e,_⟩|⟨e1,e2⟩
  ·exact e
  rw[hno _ (bJ.1 e1)]at e2;cases e2
 rw[hpick]
 have hne:cQ ss p≠[]:=λe=>by have:=bJ.2 hc;rw[e]at this;cases this
 have hhit:∀j:Nat,aB ss j p=true->mn ss goals j=true->∃g∈goals,au ss p g=true/\((j:Int)=g\/au ss j g=true):=by
  intro j hj hh;unfold mn at hh;rw[List.any_eq_true]at hh;obtain⟨g,hg,hh⟩:=hh;simp only[Bool.and_eq_true,decide_eq_true_eq,Bool.or_eq_true,beq_iff_eq]at hh;refine⟨g,hg,?_,by rcases hh.2 with e|e;exact .inl e.symm;exact .inr e⟩
  rcases hh.2 with e|e
  ·rw[e];exact uD h hj
  exact oX h.up (uD h hj) e
 have main:∀(l:List Int),(∀g∈l,g∈goals)->(jb ss k p l=true↔((∀g∈l,au ss p g=false)/\(k:Int)=cH ss p)\/∃g∈l,au ss p g=true/\((k:Int)=g\/au ss k g=true)):=by
  intro l
  induction l with
  |nil=>intro _;simp[jb]
  |cons g l ih=>?_
  intro hl;have ih:=ih (λx hx=>hl x (by simp[hx]));simp only[jb]
  cases q:au ss p g with
  |true=>
   simp only[if_true,Bool.or_eq_true,beq_iff_eq]
   constructor
   ·intro hh;exact .inr ⟨g,by simp,q,hh⟩
   rintro(⟨h1,_⟩|⟨x,hx,h1,h2⟩)
   ·have:=h1 g (by simp);rw[q]at this;cases this
   have:x=g:=hE.uni p hk2 hno x (hl x hx) g (hl g (by simp)) h1 q;rw[this]at h2;exact h2
  |false=>?_
  simp only[Bool.false_eq_true,if_false];rw[ih]
  constructor
  ·rintro(⟨h1,h2⟩|⟨x,hx,h1,h2⟩)
   ·exact .inl ⟨λy hy=>by rcases List.mem_cons.1 hy with rfl|hy;exact q;exact h1 y hy,h2⟩
   exact .inr ⟨x,by simp[hx],h1,h2⟩
  rintro(⟨h1,h2⟩|⟨x,hx,h1,h2⟩)
  ·exact .inl ⟨λy hy=>h1 y (by simp[hy]),h2⟩
  rcases List.mem_cons.1 hx with rfl|hx
  ·rw[q]at h1;cases h1
  exact .inr ⟨x,hx,h1,h2⟩
 have hm:=main goals (λ_ h=>h);rw[Bool.eq_iff_iff,hm,decide_eq_true_eq]
 rcases jm (mn ss goals) (cQ ss p) ((cQ ss p).headD 0)with⟨e,hz⟩|⟨e1,e2⟩
 ·rw[e]
  have hnone:∀g∈goals,au ss p g=false:=by
   intro g hg
   cases q:au ss p g with
   |false=>rfl
   |true=>?_
   have hr:=hE.rng g hg;obtain⟨c,hc',hcg⟩:=h.toward (by omega) q hr.2.1 (λ_=>hr.2.2)
   have:mn ss goals c=true:=by
    unfold mn;rw[List.any_eq_true];refine⟨g,hg,?_⟩;simp only[Bool.and_eq_true,decide_eq_true_eq,Bool.or_eq_true,beq_iff_eq];exact⟨hr.1,by rcases hcg with e|e;exact .inl e.symm;exact .inr e⟩
   rw[hz c (bJ.2 hc')]at this;cases this
  rw[vy hne]
  constructor
  ·rintro(⟨_,h2⟩|⟨x,hx,h1,_⟩)
   ·omega
   rw[hnone x hx]at h1;cases h1
  intro hh;exact .inl ⟨hnone,by omega⟩
 obtain⟨g,hg,YT,hgc⟩:=hhit _ (bJ.1 e1) e2;have hr:=hE.rng g hg
 constructor
 ·rintro(⟨h1,_⟩|⟨x,hx,h1,h2⟩)
  ·rw[h1 g hg]at YT;cases YT
  have:x=g:=hE.uni p hk2 hno x hx g hg h1 YT;subst this;exact h.Ni hc (bJ.1 e1) h2 hgc hr.2.1
 intro hh;rw[<-hh]at hgc;exact .inr ⟨g,hg,YT,hgc⟩
/-! Acts turn neither what is active nor what is remembered. -/
def jZ(a b:Sd):Prop:=a.act=b.act/\a.past=b.past
theorem jZ.refl(a:Sd):jZ a a:=⟨rfl,rfl⟩
theorem jZ.trans{a b c:Sd}(h:jZ a b)(g:jZ b c):jZ a c:=⟨h.1.trans g.1,h.2.trans g.2⟩
theorem ZL(s:Sd)(c n:Int):jZ (k8 s c n) s:=by
 unfold k8 fX
 split
 ·split
  ·exact .refl _
  split<;>exact⟨rfl,rfl⟩
 exact .refl _
theorem Bf(m:Ma)(a:Ac):jZ (bC m a).2.s m.s:=by
 unfold bC
 split
 ·exact .refl _
 split
 ·unfold send;split<;>exact⟨rfl,rfl⟩
 split
 ·exact⟨rfl,rfl⟩
 split
 ·exact .refl _
 exact ZL _ _ _
theorem p_:∀(l:List Ac) (m:Ma),jZ (cJ l m).s m.s:=by
 intro l
 induction l with
 |nil=>intro m;exact .refl _
 |cons a l ih=>?_
 intro m;simp only[cJ]
 split
 ·exact(ih _).trans (Bf m a)
 exact Bf m a
theorem Jm(state sign:Int):∀(l:List Bl) (m:Ma),jZ (df state sign l m).s m.s:=by
 intro l
 induction l with
 |nil=>intro m;exact .refl _
 |cons b l ih=>?_
 intro m;simp only[df];refine(ih _).trans ?_
 split
 ·exact p_ _ _
 exact .refl _
theorem wP(ol:Ol):∀(l:List Int) (m:Ma),jZ (dQ ol l m).s m.s:=by
 intro l
 induction l with
 |nil=>intro m;exact .refl _
 |cons x l ih=>intro m;simp only[dQ];exact(ih _).trans (p_ _ _)
theorem wQ{l:List Bool}{k:Nat}(hk:k<l.length)(v:Bool)(j:Nat):bit (pH l (k:Int) v) j=if k=j then v else bit l j:=by
 show(l.set k v).getD j false=_;unfold bit;simp only[List.getD_eq_getElem?_getD,List.getElem?_set]
 by_cases e:k=j
 ·subst e;rw[if_pos rfl,if_pos hk,if_pos rfl];rfl
 rw[if_neg e,if_neg e]
theorem Jn(ol:Ol)(m:Ma)(k:Nat):(bY ol m k).s.act=pH m.s.act k true/\(bY ol m k).s.past=m.s.past:=by
 have h:=Jm k 94 ol.dz (cK m k true);unfold bY
 split
 ·rw[(pR _ _ _).1];exact h
 exact h
/-! Due is what is in the end and does not stay. -/
theorem Qo{ss:List St}{bB:List Bool}{p:Int}:kept ss bB p=false↔∀i:Nat,aB ss i p=true->bit bB i=false:=by
 unfold kept vl;rw[List.any_eq_false]
 constructor
 ·intro h i hi
  have:=h i (by simpa using(cA hi).1);rw[cT,hi]at this;simpa using this
 intro h i _ hh;rw[cT]at hh;simp only[Bool.and_eq_true]at hh;rw[h i hh.2]at hh;simp at hh
theorem acM{ss:List St}(h:sH ss){act bB:List Bool}{goals:List Int}(hE:YV ss (bit bB) goals){k:Nat}(hk:k<ss.length)
 (ha:∀j:Nat,j<k->bit act j=uW ss (bit bB) goals j):gU ss act bB goals k=(uW ss (bit bB) goals k&& !bit bB k):=by
 unfold gU;rw[cT]
 cases hs:bit bB k with
 |true=>simp
 |false=>?_
 simp only[Bool.false_or,Bool.not_false,Bool.and_true]
 by_cases k0:k=0
 ·subst k0
  rw[h.Jj,Bc h];have hc:aB ss ((0:Nat):Int) (-1)=true:=wM hk h.Jj (λe=>by have:=(h.hs 0 hk (.inl e)).1;omega);rw[hc];have hkn:aA ss (-1)=2:=rfl;rw[hkn]
  have hkept:kept ss bB (-1)=false:=by
   rw[Qo];intro i hi;have:=h.root i (cA hi).1 (cA hi).2.1;subst this;exact hs
  rw[hkept]
  have hp:jb ss ((0:Nat):Int) (-1) goals=true:=by
   have:∀l:List Int,(∀g∈l,0<=g/\g<ss.length)->jb ss ((0:Nat):Int) (-1) l=true:=by
    intro l hl
    cases l with
    |nil=>
     simp only[jb,beq_iff_eq];unfold cH
     obtain⟨n,hn⟩:∃n,ss.length=n+1:=⟨ss.length-1,by have:=h.ne;omega⟩
     rw[hn];simp only[cM];rw[if_pos hc]
    |cons g l=>?_
    obtain⟨hg,hgl⟩:=hl g (by simp);simp only[jb];rw[Ag h.up (by omega) hg,if_pos rfl]
    by_cases c:g=0
    ·rw[c];rfl
    have h1:=Ag h.up (i:=g) (by omega) hg
    have:au ss ((0:Nat):Int) g=true:=by
     have key:∀i:Int,-1<=i->0<i->i<ss.length->au ss ((0:Nat):Int) i=true:=by
      refine yn h.up (P:=λi=>0<i->i<ss.length->au ss ((0:Nat):Int) i=true) (λh=>by omega) ?_;intro i hi ih h0 hil;have b:=gP h.up (i:=i) (by omega);rw[dx h.up _ hi];have a:=fH h.up i
      by_cases c1:aw ss i=0
      ·rw[c1];rfl
      by_cases c2:aw ss i= -1
      ·exfalso
       obtain⟨n,rfl⟩:∃n:Nat,i=n:=⟨i.toNat,by omega⟩
       have:=h.root n (by omega) c2;omega
      rw[ih (by omega) (by omega)];simp
     exact key g (by omega) (by omega) hgl
    rw[this];simp
   exact this goals (λg hg=>⟨(hE.rng g hg).1,(hE.rng g hg).2.1⟩)
  rw[hp];rfl
 obtain⟨p,hp,hlt⟩:=h.par (by omega) hk
 have hpl:p<ss.length:=by omega
 rw[hp]
 have hne:((p:Int)!= -1)=true:=by simp
 rw[hne,cT,ha p hlt];have hst:=kG h (bit bB) goals hp
 cases hc:aB ss k p with
 |false=>
  have:uW ss (bit bB) goals k=false:=by
   cases q:uW ss (bit bB) goals k with
   |false=>rfl
   |true=>have:=(hst.1 q).2.1;rw[hc]at this;cases this
  rw[this];rfl
 |true=>?_
 simp only[Bool.not_true,Bool.false_eq_true,if_false,Bool.true_and]
 cases hN:uW ss (bit bB) goals p with
 |false=>
  have:uW ss (bit bB) goals k=false:=by
   cases q:uW ss (bit bB) goals k with
   |false=>rfl
   |true=>have:=(hst.1 q).1;rw[hN]at this;cases this
  rw[this];rfl
 |true=>?_
 simp only[Bool.not_true,Bool.false_eq_true,if_false]
 rcases h.pk k (by omega) hk with e|e<;>rw[hp]at e
 ·rw[e]
  simp only[show((2:Int)==3)=false from rfl,Bool.false_eq_true,if_false]
  cases hkp:kept ss bB p with
  |true=>
   have:uW ss (bit bB) goals k=false:=by
    cases q:uW ss (bit bB) goals k with
    |false=>rfl
    |true=>?_
    rcases(hst.1 q).2.2 with e3|⟨_,e3⟩
    ·omega
    unfold kept vl at hkp;rw[List.any_eq_true]at hkp;obtain⟨i,_,hi⟩:=hkp;rw[cT]at hi;simp only[Bool.and_eq_true]at hi;have:=yo hE e hi.2 hi.1;rw[<-e3]at this;subst this;rw[hs]at hi;simp at hi
   rw[this];rfl
  |false=>?_
  have hno:=Qo.1 hkp;rw[ZK h hE hpl e hc hno];simp only[Bool.not_false,Bool.true_and];rw[Bool.eq_iff_iff,decide_eq_true_eq]
  constructor
  ·intro q;exact hst.2 ⟨hN,hc,.inr ⟨e,q⟩⟩
  intro q
  rcases(hst.1 q).2.2 with e3|⟨_,e3⟩
  ·omega
  exact e3
 rw[e];simp only[show((3:Int)==3)=true from rfl,if_true];exact(hst.2 ⟨hN,hc,.inl e⟩).symm
def mP(ol:Ol):List Nat->Ma->Ma
 | [],m=>m
 |k::l,m=>mP ol l (if bit m.s.act k then m else bY ol m k)
theorem Sp{ol:Ol}(h:sH ol.ag)(h16:ol.ag.length<=16){bB:List Bool}{goals:List Int}(hE:YV ol.ag (bit bB) goals):∀(f k:Nat) (m:Ma),k+f=ol.ag.length->m.s.act.length=16->
 (∀j:Nat,bit m.s.act j=(bit bB j||(decide (j<k)&&uW ol.ag (bit bB) goals j)))->
 c_ ol bB goals f k m=mP ol ((List.range' k f).filter (uW ol.ag (bit bB) goals)) m/\
 (∀j:Nat,bit (c_ ol bB goals f k m).s.act j=uW ol.ag (bit bB) goals j)/\(c_ ol bB goals f k m).s.past=m.s.past/\(c_ ol bB goals f k m).s.act.length=16:=by
 intro f
 induction f with
 |zero=>
  intro k m hk hl ha;refine⟨rfl,λj=>?_,rfl,hl⟩;show bit m.s.act j=_;rw[ha j]
  cases q:uW ol.ag (bit bB) goals j with
  |true=>have:=Be h q;rw[decide_eq_true (by omega)];simp
  |false=>?_
  cases q2:bit bB j with
  |false=>simp
  |true=>rw[GJ h hE (j+1) j (by omega) q2]at q;cases q
 |succ f ih=>?_
 intro k m hk hl ha
 have hkl:k<ol.ag.length:=by omega
 have hact:∀j:Nat,j<k->bit m.s.act j=uW ol.ag (bit bB) goals j:=by
  intro j hj;rw[ha j,decide_eq_true hj]
  cases q:uW ol.ag (bit bB) goals j with
  |true=>simp
  |false=>?_
  cases q2:bit bB j with
  |false=>rfl
  |true=>rw[GJ h hE (j+1) j (by omega) q2]at q;cases q
 have hd:=acM h hE hkl hact
 have hk':bit m.s.act k=bit bB k:=by rw[ha k];simp
 rw[List.range'_succ,List.filter_cons];simp only[c_];rw[hd]
 cases qN:uW ol.ag (bit bB) goals k with
 |false=>
  simp only[Bool.false_and,Bool.false_eq_true,if_false];refine ih (k+1) m (by omega) hl (λj=>?_);rw[ha j]
  by_cases c:j=k
  ·subst c;rw[qN];simp
  have:decide (j<k)=decide (j<k+1):=by rw[Bool.eq_iff_iff];simp;omega
  rw[this]
 |true=>?_
 simp only[Bool.true_and,if_true,mP];rw[hk']
 cases qS:bit bB k with
 |true=>
  simp only[Bool.not_true,Bool.false_eq_true,if_false,if_true];refine ih (k+1) m (by omega) hl (λj=>?_);rw[ha j]
  by_cases c:j=k
  ·subst c;rw[qS];rfl
  have:decide (j<k)=decide (j<k+1):=by rw[Bool.eq_iff_iff];simp;omega
  rw[this]
 |false=>?_
 simp only[Bool.not_false,if_true,Bool.false_eq_true,if_false];have hes:=Jn ol m k
 have hbit:∀j:Nat,bit (bY ol m k).s.act j=(bit bB j||(decide (j<k+1)&&uW ol.ag (bit bB) goals j)):=by
  intro j;rw[hes.1,wQ (by omega),ha j]
  by_cases c:k=j
  ·subst c;rw[if_pos rfl,qN];simp
  rw[if_neg c]
  have:decide (j<k)=decide (j<k+1):=by rw[Bool.eq_iff_iff];simp;omega
  rw[this]
 obtain⟨e1,e2,e3,e4⟩:=ih (k+1) (bY ol m k) (by omega) (by rw[hes.1,kz];exact hl) hbit;exact⟨e1,e2,e3.trans hes.2,e4⟩
theorem Jo{ol:Ol}(h:sH ol.ag)(h16:ol.ag.length<=16){m:Ma}{list:List Int}(hl:m.s.act.length=16)(hE:YV ol.ag (bit m.s.act) (bU ol m.s list)):
 enter ol m list=mP ol (cY ol.ag (bit m.s.act) (bU ol m.s list) ol.ag.length 0) m/\
 (∀j:Nat,bit (enter ol m list).s.act j=uW ol.ag (bit m.s.act) (bU ol m.s list) j)/\(enter ol m list).s.past=m.s.past/\(enter ol m list).s.act.length=16:=by
 rw[Qn h,List.range_eq_range'];exact Sp h h16 hE ol.ag.length 0 m (by omega) hl (λj=>by simp)
structure Jp(ss:List St)(S:Nat->Bool):Prop where
 root:S 0=true
 lt:∀i,S i=true->i<ss.length
 Vc:∀i p:Nat,S i=true->aw ss i=p->S p=true
 cX:∀i,S i=true->aA ss i≠5
 one:∀p i j:Nat,aA ss p=2->aB ss i p=true->aB ss j p=true->S i=true->S j=true->i=j
 Qp:∀p:Nat,S p=true->aA ss p=2->∃i:Nat,aB ss i p=true/\S i=true
 ZM:∀p i:Nat,S p=true->aA ss p=3->aB ss i p=true->S i=true
theorem Ej{ss:List St}(h:sH ss)(S:Nat->Bool)(goals:List Int):Jp ss (uW ss S goals) where
 root:=Bc h S goals
 lt:=λi hi=>Be h hi
 Vc:=λi p hi hp=>((kG h S goals hp).1 hi).1
 cX:=λi hi=>by
  by_cases c:i=0
  ·subst c;intro e;have:=(h.hs 0 h.ne (.inl e)).1;omega
  obtain⟨p,hp,_⟩:=h.par (k:=i) (by omega) (Be h hi);exact(cA ((kG h S goals hp).1 hi).2.1).2.2
 one:=λp i j hk hi hj hsi hsj=>by
  have a:=((kG h S goals (cA hi).2.1).1 hsi).2.2;have b:=((kG h S goals (cA hj).2.1).1 hsj).2.2
  rcases a with a|a
  ·omega
  rcases b with b|b
  ·omega
  rw[a.2,b.2]
 Qp:=λp hs hk=>by
  have hc:=A_ h S goals (Be h hs) hk;exact⟨mB ss S goals p,hc,(kG h S goals (cA hc).2.1).2 ⟨hs,hc,.inr ⟨hk,rfl⟩⟩⟩
 ZM:=λp i hs hk hc=>(kG h S goals (cA hc).2.1).2 ⟨hs,hc,.inl hk⟩
/-! What a transition leaves. -/
def lv(ol:Ol)(s:Sd)(t:Int)(j:Nat):Bool:=match ol.bG[t.toNat]? with
 |some x=>!(x.target==45)&&(decide (j<ol.ag.length)&&(bit s.act j&&au ol.ag (dom ol.ag x.state x.target) j))
 |none=>false
theorem Jq(ss:List St)(act:List Bool)(d:Int):∀(f k:Nat) (l:List Bool),k+f<=l.length->∀j:Nat,
 bit (fa ss act d f k l) j=(bit l j||(decide (k<=j/\j<k+f)&&(bit act j&&au ss d j))):=by
 intro f
 induction f with
 |zero=>intro k l _ j;have:decide (k<=j/\j<k+0)=false:=by rw[decide_eq_false];omega
        rw[this];simp[fa]
 |succ f ih=>?_
 intro k l hl j;simp only[fa];rw[cT]
 have hlen:(if(bit act k&&au ss d k)=true then pH l k true else l:List Bool).length=l.length:=by split<;>simp[kz]
 rw[ih (k+1) _ (by rw[hlen];omega) j]
 by_cases c:k=j
 ·subst c
  have h1:decide (k+1<=k/\k<k+1+f)=false:=by simp;omega
  have h2:decide (k<=k/\k<k+(f+1))=true:=by simp
  rw[h1,h2]
  cases q:bit act k&&au ss d k with
  |true=>rw[if_pos rfl,wQ (by omega)];simp
  |false=>simp
 have h1:decide (k+1<=j/\j<k+1+f)=decide (k<=j/\j<k+(f+1)):=by rw[Bool.eq_iff_iff];simp;omega
 rw[h1]
 congr 1
 split
 ·rw[wQ (by omega),if_neg c]
 rfl
theorem iB(j:Nat):bit db j=false:=by
 unfold bit db;simp only[List.getD_eq_getElem?_getD,List.getElem?_replicate]
 split<;>rfl
theorem lh{ol:Ol}(h16:ol.ag.length<=16)(s:Sd)(t:Int)(j:Nat):bit (leaves ol s t.toNat) j=lv ol s t j:=by
 unfold leaves lv
 cases ol.bG[t.toNat]? with
 |none=>exact iB j
 |some x=>?_
 simp only
 cases x.target==45 with
 |true=>simp[iB]
 |false=>?_
 simp only[Bool.false_eq_true,if_false,Bool.not_false,Bool.true_and];rw[Jq _ _ _ _ _ _ (by simp[db];omega),iB]
 have:decide (0<=j/\j<0+ol.ag.length)=decide (j<ol.ag.length):=by rw[Bool.eq_iff_iff];simp
 rw[this];simp
theorem VX(l m:List Bool)(j:Nat)(hl:l.length=16)(hm:m.length=16):bit (join l m) j=(bit l j||bit m j):=by
 by_cases c:j<16
 ·unfold join
  have:bit ((List.range 16).map λk=>bit l k||bit m k) j=(bit l j||bit m j):=by
   show(((List.range 16).map λk=>bit l k||bit m k)).getD j false=_;simp[List.getD_eq_getElem?_getD,List.getElem?_range c]
  exact this
 rw[we (l:=join l m) (by rw[wh];omega),we (l:=l) (by omega),we (l:=m) (by omega)];rfl
theorem Sq{ol:Ol}(h16:ol.ag.length<=16)(s:Sd):∀(r:List Int) (l:List Bool) (j:Nat),l.length=16->bit (nF ol s r l) j=(bit l j||r.any λt=>lv ol s t j):=by
 intro r
 induction r with
 |nil=>intro l j _;simp[nF]
 |cons x r ih=>?_
 intro l j hl;simp only[nF,List.any_cons];rw[ih _ j (wh _ _),VX _ _ _ hl (nE _ _ _),lh h16,Bool.or_assoc]
theorem Jr{ol:Ol}(h16:ol.ag.length<=16)(s:Sd)(r:List Int)(j:Nat):bit (bO ol s r) j=r.any λt=>lv ol s t j:=by
 unfold bO;rw[Sq h16 s r db j rfl,iB];rfl
theorem Js{ol:Ol}(h16:ol.ag.length<=16){s:Sd}{a b:Int}:meets (leaves ol s a.toNat) (leaves ol s b.toNat)=false↔∀j,¬(lv ol s a j=true/\lv ol s b j=true):=by
 unfold meets;rw[List.any_eq_false]
 constructor
 ·intro h j hj
  have h1:j<16:=by
   rcases Nat.lt_or_ge j 16 with q|q
   ·exact q
   have:=hj.1;rw[<-lh h16,we (by rw[nE];omega)]at this;cases this
  have:=h j (by simpa using h1);rw[lh h16,lh h16,hj.1,hj.2]at this;simp at this
 intro h j _ hj;rw[lh h16,lh h16]at hj;exact h j (by simpa using hj)
def Clear(ol:Ol)(s:Sd)(l:List Int):Prop:=∀a∈l,∀b∈l,a≠b->∀j,¬(lv ol s a j=true/\lv ol s b j=true)
theorem GK{ol:Ol}(h16:ol.ag.length<=16){s:Sd}{t:Nat}:∀(l kept r:List Int),eQ ol s t l kept=some r->∃l',(∀x∈l',x∈l/\∀j,¬(lv ol s t j=true/\lv ol s x j=true))/\r=kept++l'++[(t:Int)]:=by
 intro l
 induction l with
 |nil=>intro kept r h;simp only[eQ,Option.some.injEq]at h;exact⟨[],by simp,by simp[h]⟩
 |cons x l ih=>?_
 intro kept r h;simp only[eQ]at h
 split at h
 ·split at h
  ·obtain⟨l',h1,h2⟩:=ih kept r h
   exact⟨l',λy hy=>⟨List.mem_cons_of_mem _ (h1 y hy).1,(h1 y hy).2⟩,h2⟩
  cases h
 rename_i q;obtain⟨l',h1,h2⟩:=ih (kept++[x]) r h;refine⟨x::l',λy hy=>?_,by simp[h2]⟩
 rcases List.mem_cons.1 hy with rfl|hy
 ·refine⟨by simp,?_⟩
  have q':meets (leaves ol s ((t:Int)).toNat) (leaves ol s y.toNat)=false:=by simpa using q
  exact(Js h16).1 q'
 exact⟨List.mem_cons_of_mem _ (h1 y hy).1,(h1 y hy).2⟩
theorem Jt{ol:Ol}(h16:ol.ag.length<=16){s:Sd}{t:Nat}{l:List Int}(h:Clear ol s l):Clear ol s (jN ol s l t)/\∀x∈jN ol s l t,x∈l\/x=t:=by
 unfold jN
 cases q:eQ ol s t l []with
 |none=>exact⟨h,λx hx=>.inl hx⟩
 |some r=>?_
 obtain⟨l',h1,rfl⟩:=GK h16 l [] r q;simp only[List.nil_append];refine⟨?_,?_⟩
 ·intro a ha b hb hab j hj
  rcases List.mem_append.1 ha with ha|ha<;>rcases List.mem_append.1 hb with hb|hb
  ·exact h a (h1 a ha).1 b (h1 b hb).1 hab j hj
  ·simp at hb;subst hb;exact(h1 a ha).2 j ⟨hj.2,hj.1⟩
  ·simp at ha;subst ha;exact(h1 b hb).2 j hj
  simp at ha hb;exact hab (ha.trans hb.symm)
 intro x hx
 rcases List.mem_append.1 hx with hx|hx
 ·exact .inl (h1 x hx).1
 simp at hx;exact .inr hx
theorem Dn{ol:Ol}(h16:ol.ag.length<=16){s:Sd}:∀(l acc:List Int),(∀x∈l,0<=x)->Clear ol s acc->Clear ol s (dP ol s l acc)/\∀x∈dP ol s l acc,x∈acc\/x∈l:=by
 intro l
 induction l with
 |nil=>intro acc _ h;exact⟨h,λx hx=>.inl hx⟩
 |cons a l ih=>?_
 intro acc h0 h;simp only[dP];obtain⟨h1,h2⟩:=Jt h16 (t:=a.toNat) h;obtain⟨h3,h4⟩:=ih _ (λx hx=>h0 x (by simp[hx])) h1;refine⟨h3,λx hx=>?_⟩;have ha:=h0 a (by simp)
 rcases h4 x hx with e|e
 ·rcases h2 x e with e|e
  ·exact .inl e
  right;rw[e,Int.toNat_of_nonneg ha];simp
 exact .inr (by simp[e])
def Src(ol:Ol)(s:Sd)(t:Int):Prop:=∃x,ol.bG[t.toNat]? =some x/\∃k:Nat,x.state=k/\bit s.act k=true
theorem Dp(s:Sd)(st trg:Int):∀(l:List Tr) (k j:Nat),dU s st trg l k=j->∃x,k<=j/\l[j-k]? =some x/\x.state=st:=by
 intro l
 induction l with
 |nil=>intro k j h;simp[dU]at h
 |cons t l ih=>?_
 intro k j h;simp only[dU]at h
 split at h
 ·rename_i q
  have:k=j:=by omega
  subst this;refine⟨t,Nat.le_refl _,by simp,?_⟩;unfold nB at q;simp only[Bool.and_eq_true,beq_iff_eq]at q;exact q.1.1
 obtain⟨x,h1,h2,h3⟩:=ih (k+1) j h;refine⟨x,by omega,?_,h3⟩;rw[show j-k=(j-(k+1))+1 by omega];simpa using h2
theorem Dq{ol:Ol}{s:Sd}(hu:Up ol.ag)(hup:∀i p:Nat,bit s.act i=true->aw ol.ag i=p->bit s.act p=true)(trg:Int):∀(f i:Nat) (j:Nat),bit s.act i=true->bN ol s trg f i=j->Src ol s j:=by
 intro f
 induction f with
 |zero=>intro i j _ h;simp[bN]at h
 |succ f ih=>?_
 intro i j hi h;simp only[bN]at h
 have hne:((i:Int)== -1)=false:=by simp
 rw[hne]at h;simp only[Bool.false_eq_true,if_false]at h
 split at h
 ·obtain⟨x,_,h2,h3⟩:=Dp s i trg ol.bG 0 j h
  exact⟨x,by simpa using h2,i,h3,hi⟩
 have a:=fH hu i
 by_cases c:aw ol.ag i= -1
 ·rw[c]at h
  cases f with
  |zero=>simp[bN]at h
  |succ f=>simp[bN]at h
 obtain⟨p,hp⟩:∃p:Nat,aw ol.ag i=p:=⟨(aw ol.ag i).toNat,by omega⟩
 rw[hp]at h;exact ih p j (hup i p hi hp) h
theorem Sr{ol:Ol}{s:Sd}(hu:Up ol.ag)(hup:∀i p:Nat,bit s.act i=true->aw ol.ag i=p->bit s.act p=true)(trg:Int):∀(f k:Nat) (fl:List Int),(∀t∈fl,Src ol s t)->∀t∈findF ol s trg f k fl,Src ol s t:=by
 intro f
 induction f with
 |zero=>intro k fl h;exact h
 |succ f ih=>?_
 intro k fl h;simp only[findF];refine ih (k+1) _ ?_;unfold dw
 split
 ·rename_i q
  intro t ht
  rcases List.mem_append.1 ht with ht|ht
  ·exact h t ht
  simp at ht;subst ht;simp only[Bool.and_eq_true,bne_iff_ne]at q
  have hl:bit s.act k=true:=by
   have:=q.1.1;unfold rB at this;simp only[Bool.and_eq_true]at this;exact this.1
  rcases s8 ol s trg ((k:Int)+2).toNat k with e|⟨j,e,_⟩
  ·exact absurd e q.1.2
  unfold cr;rw[e];exact Dq hu hup trg _ k j hl e
 exact h
theorem GL{ol:Ol}(h16:ol.ag.length<=16)(hu:Up ol.ag){s:Sd}(hup:∀i p:Nat,bit s.act i=true->aw ol.ag i=p->bit s.act p=true)(trg:Int):Clear ol s (choose ol s trg)/\∀t∈choose ol s trg,Src ol s t:=by
 have h0:=(Ad ol s trg).1;obtain⟨h1,h2⟩:=Dn h16 (s:=s) (find ol s trg) [] (λx hx=>(h0 x hx).1) (by intro a ha;cases ha);refine⟨h1,λt ht=>?_⟩
 rcases h2 t ht with e|e
 ·cases e
 exact Sr hu hup trg _ _ [] (by intro t ht;cases ht) t e
/-! The domain,the goal. -/
theorem Ss{ss:List St}(hu:Up ss)(target:Int):∀(f:Nat) (d:Int),-1<=d->(d+1).toNat<=f->(n_ ss target f d= -1\/(0<=n_ ss target f d/\s6 ss (n_ ss target f d) target=true))/\(n_ ss target f d=d\/au ss (n_ ss target f d) d=true):=by
 intro f
 induction f with
 |zero=>intro d h1 h2;exact⟨.inl (by simp only[n_];omega),.inl rfl⟩
 |succ f ih=>?_
 intro d h1 h2;simp only[n_]
 split
 ·rename_i q
  have hd:d≠ -1:=by simp at q;exact q.1
  have a:=fH hu d;have b:=gP hu (i:=d) (by omega);obtain⟨e1,e2⟩:=ih (aw ss d) a (by omega);refine⟨e1,.inr ?_⟩;rw[dx hu _ (by omega)]
  rcases e2 with e2|e2
  ·rw[e2];simp
  rw[e2];simp
 rename_i q;refine⟨?_,.inl rfl⟩
 by_cases c:d= -1
 ·exact .inl c
 right
 refine⟨by omega,?_⟩;simp[c]at q;exact q
theorem VY{ss:List St}(hu:Up ss){state:Nat}(target:Int):(dom ss state target= -1\/(0<=dom ss state target/\aA ss (dom ss state target)=2/\au ss (dom ss state target) (place ss target)=true))/\au ss (dom ss state target) state=true:=by
 obtain⟨e1,e2⟩:=Ss hu (place ss target) (aw ss state+1).toNat (aw ss state) (fH hu _) (Nat.le_refl _);refine⟨?_,?_⟩
 ·rcases e1 with e1|⟨h0,e1⟩
  ·exact .inl e1
  unfold s6 at e1;simp only[Bool.and_eq_true,beq_iff_eq]at e1;exact .inr ⟨h0,e1.1,e1.2⟩
 rw[dx hu _ (by omega)]
 rcases e2 with e2|e2
 ·have:dom ss state target=aw ss state:=e2
  rw[this];simp
 have:au ss (dom ss state target) (aw ss state)=true:=e2;rw[this];simp
def mq(ss:List St)(s:Sd):Prop:=∀k:Nat,k<ss.length->cX ss k=true->gy ss k (aR s k)=true
structure Ah(ol:Ol):Prop where
 qg:sH ol.ag
 le:ol.ag.length<=16
 tgt:∀x∈ol.bG,x.target≠45->∃g:Nat,place ol.ag x.target=g/\g<ol.ag.length
 src:∀x∈ol.bG,∃k:Nat,x.state=k/\k<ol.ag.length
 nm:∀k:Nat,k<ol.ag.length->place ol.ag (dN ol.ag k)=k/\dN ol.ag k≠45
theorem uE{ss:List St}{k:Nat}(hk:k<ss.length):cX ss k=(aA ss k==5):=by
 unfold cX aA;rw[dD,List.getElem?_eq_getElem hk]
theorem yp{ss:List St}(h:sH ss)(h16:ss.length<=16){s:Sd}(hP:mq ss s){g:Nat}(hg:g<ss.length):(aA ss g≠5/\goal ss s g=g)\/(aA ss g=5/\∃c:Nat,goal ss s g=c/\aB ss c (aw ss g)=true):=by
 unfold goal
 have h1:decide ((g:Int)<0)=false:=by rw[decide_eq_false];omega
 have h2:decide (16<=(g:Int))=false:=by rw[decide_eq_false];omega
 rw[h1,h2]
 by_cases c:aA ss g=5
 ·right
  refine⟨c,?_⟩;rw[c];simp only[show((5:Int)!=5)=false from rfl,Bool.or_false,Bool.false_eq_true,if_false,Int.toNat_natCast];have hp:=hP g hg (by rw[uE hg,c];rfl);have hs:=h.hs g hg (.inl c);obtain⟨p,yi,hlt⟩:=h.par hs.1 hg
  cases q:aR s g==45 with
  |true=>
   simp only[if_true];rw[yi]at hs⊢;obtain⟨j,_,hj⟩:=h.kid p (by omega) (.inl hs.2)
   have hne:cQ ss p≠[]:=λe=>by have:=bJ.2 hj;rw[e]at this;cases this
   refine⟨(cQ ss p).headD 0,vy hne,bJ.1 ?_⟩
   cases q2:cQ ss p with
   |nil=>exact absurd q2 hne
   |cons a l=>simp
  |false=>?_
  simp only[Bool.false_eq_true,if_false];unfold gy at hp;rw[q]at hp;simp only[Bool.false_eq_true,if_false]at hp
  have hpl:0<=place ss (aR s g):=by
   unfold aB at hp
   cases q2:lM ss (place ss (aR s g))with
   |none=>rw[q2]at hp;cases hp
   |some x=>obtain⟨k,e,_⟩:=iz q2;omega
  refine⟨(place ss (aR s g)).toNat,by omega,?_⟩;rw[Int.toNat_of_nonneg hpl];exact hp
 left
 refine⟨c,?_⟩
 have:(aA ss g !=5)=true:=by simpa using c
 rw[this];simp
theorem Nj{ol:Ol}{s:Sd}:∀(l:List Int) (g:Int),g∈bU ol s l->∃t∈l,∃x,ol.bG[t.toNat]? =some x/\x.target≠45/\g=goal ol.ag s (place ol.ag x.target):=by
 intro l
 induction l with
 |nil=>intro g h;simp[bU]at h
 |cons t l ih=>?_
 intro g h;simp only[bU]at h
 have back:g∈bU ol s l->∃t'∈t::l,∃x,ol.bG[t'.toNat]? =some x/\x.target≠45/\g=goal ol.ag s (place ol.ag x.target):=λh=>by
  obtain⟨t',ht',r⟩:=ih g h;exact⟨t',List.mem_cons_of_mem _ ht',r⟩
 cases q:ol.bG[t.toNat]? with
 |none=>rw[q]at h;exact back h
 |some x=>?_
 rw[q]at h;simp only at h
 split at h
 ·exact back h
 rename_i q2
 rcases List.mem_cons.1 h with e|e
 ·exact⟨t,by simp,x,q,by simpa using q2,e⟩
 exact back e
theorem VZ{ss:List St}(hu:Up ss){S:Nat->Bool}(hup:∀i p:Nat,S i=true->aw ss i=p->S p=true)(a:Nat):∀(n k:Nat),k<n->S k=true->au ss a k=true->S a=true:=by
 intro n
 induction n with
 |zero=>intro k hk;omega
 |succ n ih=>?_
 intro k hk hs ha;rw[dx hu _ (by omega)]at ha;have hl:=gP hu (i:=(k:Int)) (by omega)
 rcases Bool.or_eq_true _ _▸ha with e|e
 ·exact hup k a hs (by simpa using e)
 have:=iM hu e
 obtain⟨p,hp⟩:∃p:Nat,aw ss k=p:=⟨(aw ss k).toNat,by omega⟩
 rw[hp]at e;exact ih p (by omega) (hup k p hs hp) e
theorem abu{ol:Ol}{s:Sd}{t:Int}{x:Tr}(hx:ol.bG[t.toNat]? =some x)(j:Nat):lv ol s t j=(!(x.target==45)&&(decide (j<ol.ag.length)&&(bit s.act j&&au ol.ag (dom ol.ag x.state x.target) j))):=by
 unfold lv;rw[hx]
theorem oZ{ol:Ol}{s:Sd}{t:Int}{x:Tr}(hx:ol.bG[t.toNat]? =some x)(j:Nat):lv ol s t j=true↔x.target≠45/\j<ol.ag.length/\bit s.act j=true/\au ol.ag (dom ol.ag x.state x.target) j=true:=by
 rw[abu hx];simp
theorem Ai{ol:Ol}{s:Sd}{t:Int}{j:Nat}(h:lv ol s t j=true):∃x,ol.bG[t.toNat]? =some x:=by
 unfold lv at h
 cases q:ol.bG[t.toNat]? with
 |none=>rw[q]at h;cases h
 |some x=>exact⟨x,rfl⟩
theorem Su{ol:Ol}(hO:Ah ol){s:Sd}(hC:Jp ol.ag (bit s.act)){list:List Int}(hsrc:∀t∈list,Src ol s t)(hcl:Clear ol s list){s':Sd}
 (hs':∀j,bit s'.act j=(bit s.act j&& !(list.any λt=>lv ol s t j))) (hP':mq ol.ag s'):YV ol.ag (bit s'.act) (bU ol s' list):=by
 have hsub:∀j,bit s'.act j=true->bit s.act j=true:=λj hj=>by rw[hs' j]at hj;simp only[Bool.and_eq_true]at hj;exact hj.1
 have hu:=hO.qg.up
 have V0:∀g∈bU ol s' list,∃t∈list,∃x,ol.bG[t.toNat]? =some x/\x.target≠45/\g=goal ol.ag s' (place ol.ag x.target)/\(∃k:Nat,x.state=k/\bit s.act k=true/\lv ol s t k=true)/\
  (0<=g/\g<ol.ag.length/\aA ol.ag g≠5)/\au ol.ag (dom ol.ag x.state x.target) g=true/\au ol.ag (dom ol.ag x.state x.target) x.state=true/\(dom ol.ag x.state x.target= -1\/(0<=dom ol.ag x.state x.target/\aA ol.ag (dom ol.ag x.state x.target)=2)):=by
  intro g hg;obtain⟨t,ht,x,hx,yq,rfl⟩:=Nj list g hg;obtain⟨x',hx',k,hk,hka⟩:=hsrc t ht;rw[hx]at hx'
  obtain rfl:x=x':=by simpa using hx'
  obtain⟨pg,hpg,hpl⟩:=hO.tgt x (List.mem_of_getElem? hx) yq;obtain⟨d1,d2⟩:=VY hu (ss:=ol.ag) (state:=k) x.target;rw[<-hk]at d1 d2;have hkl:=hC.lt k hka;refine⟨t,ht,x,hx,yq,rfl,⟨k,hk,hka,(oZ hx k).2 ⟨yq,hkl,hka,by rw[<-hk];exact d2⟩⟩,?_,?_,d2,?_⟩
  ·rw[hpg]
   rcases yp hO.qg hO.le hP' hpl with⟨h1,h2⟩|⟨_,c,h2,h3⟩
   ·rw[h2];exact⟨by omega,by omega,h1⟩
   rw[h2];exact⟨by omega,by have:=(cA h3).1;omega,(cA h3).2.2⟩
  ·rw[hpg]at d1⊢
   rcases d1 with d1|⟨d0,dk,acN⟩
   ·rw[d1]
    refine Ag hu ?_ ?_<;>
    (rcases yp hO.qg hO.le hP' hpl with⟨_,h2⟩|⟨_,c,h2,_⟩<;>rw[h2]<;>omega)
   rcases yp hO.qg hO.le hP' hpl with⟨_,h2⟩|⟨_,c,h2,h3⟩
   ·rw[h2];exact acN
   rw[h2,dx hu _ (by omega),(cA h3).2.1];rw[dx hu _ (by omega)]at acN;exact acN
  rcases d1 with d1|⟨d0,dk,_⟩
  ·exact .inl d1
  exact .inr ⟨d0,dk⟩
 refine⟨λi hi=>hC.lt i (hsub i hi),?_,λi hi=>hC.cX i (hsub i hi),λp i j hk hi hj h1 h2=>hC.one p i j hk hi hj (hsub i h1) (hsub j h2),?_,?_⟩
 ·
  intro i p hi hp;have hsi:=hsub i hi;have hsp:=hC.Vc i p hsi hp;rw[hs' p,hsp]
  cases q:list.any λt=>lv ol s t p with
  |false=>rfl
  |true=>?_
  exfalso;rw[List.any_eq_true]at q;obtain⟨t,ht,hl⟩:=q;obtain⟨x,hx⟩:=Ai hl;obtain⟨h1,h2,h3,h4⟩:=(oZ hx p).1 hl;have:lv ol s t i=true:=(oZ hx i).2 ⟨h1,hC.lt i hsi,hsi,by rw[dx hu _ (by omega),hp,h4];simp⟩;rw[hs' i]at hi;have hany:(list.any λt=>lv ol s t i)=true:=List.any_eq_true.2 ⟨t,ht,this⟩;rw[hany]at hi;simp at hi
 ·intro g hg
  obtain⟨_,_,_,_,_,_,_,h,_⟩:=V0 g hg;exact h
 intro p hk hno g1 hg1 g2 hg2 ha1 ha2;obtain⟨t1,ht1,x1,hx1,acO,e1,⟨k1,hk1,acP,hl1⟩,r1,dg1,ds1,dd1⟩:=V0 g1 hg1;obtain⟨t2,ht2,x2,hx2,afs,e2,⟨k2,hk2,V1,hl2⟩,r2,dg2,ds2,dd2⟩:=V0 g2 hg2
 have claim:∀(t:Int) (x:Tr) (k:Nat) (g:Int),t∈list->ol.bG[t.toNat]? =some x->x.target≠45->x.state=k->bit s.act k=true->lv ol s t k=true->au ol.ag (dom ol.ag x.state x.target) g=true->au ol.ag (dom ol.ag x.state x.target) x.state=true->
  (dom ol.ag x.state x.target= -1\/(0<=dom ol.ag x.state x.target/\aA ol.ag (dom ol.ag x.state x.target)=2))->au ol.ag p g=true->g<ol.ag.length->dom ol.ag x.state x.target=p\/au ol.ag (dom ol.ag x.state x.target) p=true:=by
  intro t x k g ht hx yq hxk hka hl dg ds dd ha hgl
  rcases Qm hu dg ha with c|c|c
  ·exact .inl c
  ·exact .inr c
  exfalso;generalize hd:dom ol.ag x.state x.target=d at*;have hd0:=iM hu c
  rcases dd with dd|⟨_,dk⟩
  ·omega
  obtain⟨dn,rfl⟩:∃dn:Nat,d=dn:=⟨d.toNat,by omega⟩
  have hdl:=iM hu dg;rw[hxk]at ds;have hsd:bit s.act dn=true:=VZ hu hC.Vc dn (k+1) k (by omega) hka ds;obtain⟨c',hc',hcd⟩:=hO.qg.toward (p:=(p:Int)) (g:=(dn:Int)) (by omega) c (by omega) (λ_=>by omega);have hcl':=(cA hc').1
  have hsc:bit s.act c'=true:=by
   rcases hcd with e|e
   ·have:c'=dn:=by omega
    rw[this];exact hsd
   exact VZ hu hC.Vc c' (dn+1) dn (by omega) hsd e
  have hno':=hno c' hc';rw[hs' c',hsc]at hno'
  have hany:(list.any λt=>lv ol s t c')=true:=by simpa using hno'
  rw[List.any_eq_true]at hany;obtain⟨t3,ht3,hl3⟩:=hany;obtain⟨x3,hx3⟩:=Ai hl3;obtain⟨h31,h32,h33,h34⟩:=(oZ hx3 c').1 hl3
  have ai6:au ol.ag (dom ol.ag x3.state x3.target) k=true:=by
   rcases hcd with e|e
   ·rw[e]at h34;exact oX hu h34 ds
   exact oX hu (oX hu h34 e) ds
  have ai7:lv ol s t3 k=true:=(oZ hx3 k).2 ⟨h31,hC.lt k hka,hka,ai6⟩
  have:t3=t:=by
   by_cases q:t3=t
   ·exact q
   exact absurd ⟨ai7,hl⟩ (hcl t3 ht3 t ht q k)
  subst this;rw[hx]at hx3
  obtain rfl:x=x3:=by simpa using hx3
  rw[hd]at h34;have h5:=iM hu h34
  rcases hcd with e|e
  ·omega
  have:=iM hu e;omega
 have c1:=claim t1 x1 k1 g1 ht1 hx1 acO hk1 acP hl1 dg1 ds1 dd1 ha1 r1.2.1;have c2:=claim t2 x2 k2 g2 ht2 hx2 afs hk2 V1 hl2 dg2 ds2 dd2 ha2 r2.2.1
 have hcmp:dom ol.ag x1.state x1.target=dom ol.ag x2.state x2.target\/au ol.ag (dom ol.ag x1.state x1.target) (dom ol.ag x2.state x2.target)=true\/au ol.ag (dom ol.ag x2.state x2.target) (dom ol.ag x1.state x1.target)=true:=by
  rcases c1 with c1|c1<;>rcases c2 with c2|c2
  ·exact .inl (c1.trans c2.symm)
  ·rw[c1];exact .inr (.inr c2)
  ·rw[c2];exact .inr (.inl c1)
  exact Qm hu c1 c2
 have heq:t1=t2:=by
  by_cases q:t1=t2
  ·exact q
  exfalso;rw[hk1]at ds1;rw[hk2]at ds2
  rcases hcmp with e|e|e
  ·have:lv ol s t1 k2=true:=(oZ hx1 k2).2 ⟨acO,hC.lt k2 V1,V1,by rw[e,hk2];exact ds2⟩
   exact hcl t1 ht1 t2 ht2 q k2 ⟨this,hl2⟩
  ·have:lv ol s t1 k2=true:=(oZ hx1 k2).2 ⟨acO,hC.lt k2 V1,V1,oX hu e (by rw[hk2];exact ds2)⟩
   exact hcl t1 ht1 t2 ht2 q k2 ⟨this,hl2⟩
  have:lv ol s t2 k1=true:=(oZ hx2 k1).2 ⟨afs,hC.lt k1 acP,acP,oX hu e (by rw[hk1];exact ds1)⟩;exact hcl t1 ht1 t2 ht2 q k1 ⟨hl1,this⟩
 subst heq;rw[hx1]at hx2
 obtain rfl:x1=x2:=by simpa using hx2
 rw[e1,e2]
/-! Leaving,remembering. -/
theorem Bg(ol:Ol)(left:List Bool):∀(k:Nat) (m:Ma),k<=m.s.act.length->(∀j:Nat,bit (bP ol left k m).s.act j=(bit m.s.act j&& !(decide (j<k)&&bit left j)))/\(bP ol left k m).s.past=m.s.past/\(bP ol left k m).s.act.length=m.s.act.length:=by
 intro k
 induction k with
 |zero=>intro m _;exact⟨λj=>by simp[bP],rfl,rfl⟩
 |succ k ih=>?_
 intro m hk;simp only[bP];rw[cT]
 cases q:bit left k with
 |false=>
  simp only[Bool.false_eq_true,if_false];obtain⟨h1,h2,h3⟩:=ih m (by omega);refine⟨λj=>?_,h2,h3⟩;rw[h1 j]
  by_cases c:j=k
  ·subst c;rw[q];simp
  have:decide (j<k)=decide (j<k+1):=by rw[Bool.eq_iff_iff];simp;omega
  rw[this]
 |true=>?_
 simp only[if_true];have hb:=Jm k 36 ol.dz m
 have hact:(cK (df k 36 ol.dz m) k false).s.act=pH m.s.act k false:=by show pH (df k 36 ol.dz m).s.act k false=_;rw[hb.1]
 obtain⟨h1,h2,h3⟩:=ih (cK (df k 36 ol.dz m) k false) (by rw[hact,kz];omega);refine⟨λj=>?_,h2.trans hb.2,by rw[h3,hact,kz]⟩;rw[h1 j,hact,wQ (by omega)]
 by_cases c:k=j
 ·subst c;rw[if_pos rfl,q];simp
 rw[if_neg c]
 have:decide (j<k)=decide (j<k+1):=by rw[Bool.eq_iff_iff];simp;omega
 rw[this]
theorem Bh(ss:List St)(act left:List Bool):∀(f k:Nat) (p:List Int),k+f<=p.length->∀j:Nat,(mJ ss act left f k p).getD j 0=if k<=j/\j<k+f/\ry ss act left j=true then dN ss (lN ss act (aw ss j)).toNat else p.getD j 0:=by
 intro f
 induction f with
 |zero=>intro k p _ j;rw[if_neg (by omega)];rfl
 |succ f ih=>?_
 intro k p hp j;simp only[mJ]
 have hlen:(if ry ss act left k=true then p.set k (dN ss (lN ss act (aw ss k)).toNat)else p:List Int).length=p.length:=by split<;>simp
 rw[ih (k+1) _ (by rw[hlen];omega) j]
 by_cases c:k=j
 ·subst c
  rw[if_neg (by omega)]
  cases q:ry ss act left k with
  |true=>
   rw[if_pos rfl,if_pos ⟨Nat.le_refl _,by omega,rfl⟩];simp only[List.getD_eq_getElem?_getD];rw[List.getElem?_set_self (by omega)];rfl
  |false=>simp
 have e:(k+1<=j/\j<k+1+f/\ry ss act left j=true)↔(k<=j/\j<k+(f+1)/\ry ss act left j=true):=by
  constructor<;>(rintro⟨h1,h2,h3⟩;exact⟨by omega,by omega,h3⟩)
 have hset:(if ry ss act left k=true then p.set k (dN ss (lN ss act (aw ss k)).toNat)else p:List Int).getD j 0=p.getD j 0:=by
  split
  ·simp only[List.getD_eq_getElem?_getD];rw[List.getElem?_set_ne c]
  rfl
 rw[hset]
 by_cases c2:k+1<=j/\j<k+1+f/\ry ss act left j=true
 ·rw[if_pos c2,if_pos (e.1 c2)]
 rw[if_neg c2,if_neg (λh=>c2 (e.2 h))]
theorem Ju(ss:List St)(l:List Bool)(p:Int):∀(f k:Nat),(i_ ss l p f k= -2/\∀j,k<=j->j<k+f->bit l j=true->aB ss j p=false)\/∃j:Nat,i_ ss l p f k=j/\bit l j=true/\aB ss j p=true:=by
 intro f
 induction f with
 |zero=>intro k;exact .inl ⟨rfl,λj h1 h2=>by omega⟩
 |succ f ih=>?_
 intro k;simp only[i_];rw[cT]
 cases q:bit l k&&aB ss k p with
 |true=>rw[if_pos rfl];simp only[Bool.and_eq_true]at q;exact .inr ⟨k,rfl,q.1,q.2⟩
 |false=>?_
 rw[if_neg (by simp)]
 rcases ih (k+1)with⟨e,h⟩|h
 ·refine .inl ⟨e,λj h1 h2 h3=>?_⟩
  by_cases c:j=k
  ·subst c;rw[h3]at q;simpa using q
  exact h j (by omega) (by omega) h3
 exact .inr h
theorem vz(ss:List St)(l:List Bool)(p:Int):(lN ss l p= -2/\∀j:Nat,bit l j=true->aB ss j p=false)\/∃j:Nat,lN ss l p=j/\bit l j=true/\aB ss j p=true:=by
 rcases Ju ss l p ss.length 0 with⟨e,h⟩|h
 ·refine .inl ⟨e,λj hj=>?_⟩
  cases q:aB ss j p with
  |false=>rfl
  |true=>have:=h j (by omega) (by have:=(cA q).1;omega) hj;rw[this]at q;cases q
 exact .inr h
theorem Jv{ol:Ol}(hO:Ah ol){s:Sd}(hP:mq ol.ag s)(hl:s.past.length=16)(left:List Bool):mq ol.ag (rem ol.ag s left):=by
 intro k hk hh;have h16:=hO.le;have e:aR (rem ol.ag s left) k=(mJ ol.ag s.act left (min ol.ag.length 16) 0 s.past).getD k 0:=rfl;rw[e,Bh _ _ _ _ _ _ (by omega)]
 split
 ·rename_i c
  have hr:=c.2.2;unfold ry at hr;simp only[Bool.and_eq_true,bne_iff_ne]at hr
  rcases vz ol.ag s.act (aw ol.ag k)with⟨e2,_⟩|⟨j,e2,_,hj⟩
  ·exact absurd e2 hr.2
  rw[e2,Int.toNat_natCast];have hn:=hO.nm j (cA hj).1;unfold gy
  have:(dN ol.ag j==45)=false:=by simpa using hn.2
  rw[this];simp only[Bool.false_eq_true,if_false];rw[hn.1];exact hj
 exact hP k hk hh
structure Inv(ol:Ol)(s:Sd):Prop where
 conf:Jp ol.ag (bit s.act)
 past:mq ol.ag s
 la:s.act.length=16
 lp:s.past.length=16
theorem Inv.same{ol:Ol}{s s':Sd}(h:Inv ol s)(e:jZ s' s):Inv ol s':=by
 obtain⟨e1,e2⟩:=e;refine⟨by rw[e1];exact h.conf,λk hk hh=>?_,by rw[e1];exact h.la,by rw[e2];exact h.lp⟩;have:=h.past k hk hh;unfold aR at this⊢;rw[e2];exact this
theorem mq.same{ss:List St}{s s':Sd}(h:mq ss s)(e:s'.past=s.past):mq ss s':=λk hk hh=>by
 have:=h k hk hh;unfold aR at this⊢;rw[e];exact this
def mid(ol:Ol)(m:Ma)(list:List Int):Ma:=dQ ol list (bP ol (bO ol m.s list) ol.ag.length {m with s:=rem ol.ag m.s (bO ol m.s list)})
theorem V2{ol:Ol}(hO:Ah ol){m:Ma}(hI:Inv ol m.s)(list:List Int):(∀j,bit (mid ol m list).s.act j=(bit m.s.act j&& !(list.any λt=>lv ol m.s t j)))/\mq ol.ag (mid ol m list).s/\(mid ol m list).s.act.length=16/\(mid ol m list).s.past.length=16:=by
 have h16:=hO.le;have h1:=wP ol list (bP ol (bO ol m.s list) ol.ag.length {m with s:=rem ol.ag m.s (bO ol m.s list)});obtain⟨h2,h3,h4⟩:=Bg ol (bO ol m.s list) ol.ag.length {m with s:=rem ol.ag m.s (bO ol m.s list)} (by show ol.ag.length<=m.s.act.length;rw[hI.la];exact h16);have hp:=Jv hO hI.past hI.lp (bO ol m.s list);refine⟨λj=>?_,?_,?_,?_⟩
 ·unfold mid
  rw[h1.1,h2 j,Jr h16];show(bit m.s.act j&&_)=_
  cases q:bit m.s.act j with
  |false=>rfl
  |true=>rw[decide_eq_true (hI.conf.lt j q)];simp
 ·exact hp.same (h1.2.trans h3)
 ·unfold mid;rw[h1.1,h4];exact hI.la
 unfold mid;rw[h1.2,h3];show(rem ol.ag m.s _).past.length=16;unfold rem;rw[wo];exact hI.lp
theorem yr{ol:Ol}(hO:Ah ol){m:Ma}(hI:Inv ol m.s){list:List Int}(hsrc:∀t∈list,Src ol m.s t)(hcl:Clear ol m.s list):
 cd ol m list=mP ol (cY ol.ag (bit (mid ol m list).s.act) (bU ol (mid ol m list).s list) ol.ag.length 0) (mid ol m list)/\Inv ol (cd ol m list).s/\YV ol.ag (bit (mid ol m list).s.act) (bU ol (mid ol m list).s list):=by
 obtain⟨h1,h2,h3,h4⟩:=V2 hO hI list;have hE:=Su hO hI.conf hsrc hcl h1 h2;obtain⟨e1,e2,e3,e4⟩:=Jo hO.qg hO.le (list:=list) h3 hE;refine⟨e1,⟨?_,h2.same e3,e4,by show(enter ol (mid ol m list) list).s.past.length=16;rw[e3];exact h4⟩,hE⟩;have hb:bit (cd ol m list).s.act=uW ol.ag (bit (mid ol m list).s.act) (bU ol (mid ol m list).s list):=funext e2;rw[hb];exact Ej hO.qg _ _
theorem ql{ol:Ol}(hO:Ah ol){s:Sd}(hI:Inv ol s)(trg:Int):Clear ol s (choose ol s trg)/\∀t∈choose ol s trg,Src ol s t:=GL hO.le hO.qg.up hI.conf.Vc trg
theorem iC{ol:Ol}(hO:Ah ol){m:Ma}(hI:Inv ol m.s)(trg:Int):Inv ol (cd ol m (choose ol m.s trg)).s:=
 (yr hO hI (ql hO hI trg).2 (ql hO hI trg).1).2.1
theorem Sw{ol:Ol}(hO:Ah ol){m:Ma}(hI:Inv ol m.s):Inv ol (round ol m).s:=by
 unfold round
 split
 ·split
  ·exact iC hO hI 46
  rename_i a q e;exact iC hO (m:={m with q:=q}) hI a
 exact iC hO hI 46
theorem lj{ol:Ol}(hO:Ah ol):∀(n:Nat) {m:Ma},Inv ol m.s->Inv ol (rounds ol n m).s:=by
 intro n
 induction n with
 |zero=>intro m h;exact h
 |succ n ih=>?_
 intro m h;simp only[rounds]
 split
 ·exact ih (Sw hO h)
 exact h
theorem yu{ol:Ol}(hO:Ah ol):enter ol ⟨bM ol.ag,[],[]⟩ []=mP ol (cY ol.ag (bit db) [] ol.ag.length 0) ⟨bM ol.ag,[],[]⟩/\Inv ol (enter ol ⟨bM ol.ag,[],[]⟩ []).s:=by
 have hE:YV ol.ag (bit db) []:=by
  refine⟨λi hi=>?_,λi p hi=>?_,λi hi=>?_,λp i j _ _ _ hi=>?_,(λg hg=>absurd hg (by simp)),(λp _ _ g hg=>absurd hg (by simp))⟩<;>(rw[iB]at hi;cases hi)
 have h0:(⟨bM ol.ag,[],[]⟩:Ma).s.act=db:=rfl;obtain⟨e1,e2,e3,e4⟩:=Jo hO.qg hO.le (m:=⟨bM ol.ag,[],[]⟩) (list:=[]) rfl hE;refine⟨e1,⟨?_,?_,e4,by rw[e3];exact ny ol.ag |>.2⟩⟩
 ·have hb:bit (enter ol ⟨bM ol.ag,[],[]⟩ []).s.act=uW ol.ag (bit db) []:=funext e2
  rw[hb];exact Ej hO.qg _ _
 refine mq.same (s:=bM ol.ag) (λk hk hh=>?_) e3
 have:aR (bM ol.ag) k=45:=by
  have IQ:k<16:=by have:=hO.le;omega
  show(gM ol.ag 16).getD k 0=45;unfold gM;simp[List.getD_eq_getElem?_getD,IQ,hh]
 rw[this];rfl
/-! What the reader gives stands in the order of the text. -/
theorem Ek{ss ss':List St}(hu:Up ss)(hu':Up ss'){n:Nat}(hp:∀k:Nat,k<n->aw ss' k=aw ss k)(a:Int):∀(d k:Nat),k<d->k<n->au ss' a k=au ss a k:=by
 intro d
 induction d with
 |zero=>intro k h;omega
 |succ d ih=>?_
 intro k h1 h2;rw[dx hu' _ (by omega),dx hu _ (by omega),hp k h2];have hl:=gP hu (i:=(k:Int)) (by omega);have hm:=fH hu (k:Int)
 by_cases c:aw ss k= -1
 ·rw[c,mN ss' a (by omega),mN ss a (by omega)]
 obtain⟨p,e⟩:∃p:Nat,aw ss k=p:=⟨(aw ss k).toNat,by omega⟩
 rw[e]at hl⊢;rw[ih p (by omega) (by omega)]
structure Zi(ss:List St):Prop where
 up:Up ss
 root:∀k:Nat,0<k->k<ss.length->0<=aw ss k
 pre:∀k:Nat,k+1<ss.length->aw ss ((k+1:Nat):Int)=k\/au ss (aw ss ((k+1:Nat):Int)) k=true
def Last(ss:List St)(i:Nat):Prop:=i+1=ss.length\/(i+1<ss.length/\au ss i ((ss.length-1:Nat):Int)=true)
def Gr(ss ss':List St):Prop:=ss.length<=ss'.length/\∀k:Nat,k<ss.length->aw ss' k=aw ss k
theorem Gr.refl(ss:List St):Gr ss ss:=⟨Nat.le_refl _,λ_ _=>rfl⟩
theorem Gr.trans{a b c:List St}(h:Gr a b)(g:Gr b c):Gr a c:=⟨Nat.le_trans h.1 g.1,λk hk=>(g.2 k (by have:=h.1;omega)).trans (h.2 k hk)⟩
theorem Jw(p:Int)(ss:List St)(i:Int):aw (bn p ss) i=aw ss i:=by
 unfold bn
 split
 ·rename_i k
  split
  ·rename_i s hs
   split
   ·unfold aw
    cases i with
    |negSucc n=>rfl
    |ofNat j=>?_
    show(match(ss.set k {s with kind:=2})[j]? with|some s=>s.parent|none=>-1)=(match ss[j]? with|some s=>s.parent|none=>-1)
    by_cases c:k=j
    ·subst c
     rw[List.getElem?_set_self (List.getElem?_eq_some_iff.1 hs).1,hs]
    rw[List.getElem?_set_ne c]
   rfl
  rfl
 rfl
theorem Jx(ss:List St)(s:St):(∀k:Nat,k<ss.length->aw (ss++[s]) k=aw ss k)/\aw (ss++[s]) (ss.length:Nat)=s.parent:=by
 constructor
 ·intro k hk
  unfold aw;rw[dD,dD,List.getElem?_append_left hk]
 unfold aw;rw[dD,List.getElem?_append_right (Nat.le_refl _)];simp
theorem ZN{ss:List St}(h:Zi ss){s:St}(hp:(ss=[]/\s.parent= -1)\/∃i:Nat,s.parent=i/\Last ss i):Zi (bn s.parent (ss++[s]))/\Last (bn s.parent (ss++[s])) ss.length/\Gr ss (bn s.parent (ss++[s]))/\aw (bn s.parent (ss++[s])) (ss.length:Nat)=s.parent:=by
 have hb: -1<=s.parent/\s.parent<ss.length:=by
  rcases hp with⟨rfl,e⟩|⟨i,e,hl⟩
  ·rw[e];simp
  rw[e];rcases hl with hl|hl<;>omega
 have hu:Up (bn s.parent (ss++[s])):=Up.mark (Up.push h.up hb.1 hb.2) _
 have hlen:(bn s.parent (ss++[s])).length=ss.length+1:=by rw[dH];simp
 have yh:∀k:Nat,k<ss.length->aw (bn s.parent (ss++[s])) k=aw ss k:=λk hk=>by rw[Jw];exact(Jx ss s).1 k hk
 have hnew:aw (bn s.parent (ss++[s])) (ss.length:Nat)=s.parent:=by rw[Jw];exact(Jx ss s).2
 refine⟨⟨hu,?_,?_⟩,.inl hlen.symm,⟨by omega,yh⟩,hnew⟩
 ·intro k h0 hk
  rcases Nat.lt_or_ge k ss.length with q|q
  ·rw[yh k q];exact h.root k h0 q
  have:k=ss.length:=by omega
  rw[this,hnew]
  rcases hp with⟨rfl,_⟩|⟨i,e,_⟩
  ·simp at this;omega
  omega
 intro k hk;rw[hlen]at hk
 rcases Nat.lt_or_ge (k+1) ss.length with q|q
 ·rw[yh (k+1) q,Ek h.up hu yh _ (k+1) k (by omega) (by omega)];exact h.pre k q
 have e1:k+1=ss.length:=by omega
 rw[e1,hnew]
 rcases hp with⟨rfl,_⟩|⟨i,e,hl⟩
 ·simp at e1
 rcases hl with hl|⟨hl,ha⟩
 ·left;omega
 right
 rw[Ek h.up hu yh _ (k+1) k (by omega) (by omega),e];rw[show ss.length-1=k by omega]at ha;exact ha
theorem Bi(t:ByteArray)(self:Int)(r:Rs):(transition t self r).2.ag=r.ag:=by
 unfold transition
 split
 ·split
  ·split<;>rfl
  rfl
 rfl
theorem Sx(t:ByteArray)(self:Int)(r:Rs):(block t self r).2.ag=r.ag:=by
 unfold block;split<;>rfl
def ItZ(it:Int->Int->Rs->Bool×Rs):Prop:=∀(i:Nat) (cl:Int) (r:Rs),Zi r.ag->Last r.ag i->(it i cl r).1=true->Zi (it i cl r).2.ag/\Last (it i cl r).2.ag i/\Gr r.ag (it i cl r).2.ag
theorem El{t:ByteArray}{it:Int->Int->Rs->Bool×Rs}(hit:ItZ it){parent:Int}{r:Rs}(h:Zi r.ag)(hp:(r.ag=[]/\parent= -1)\/∃i:Nat,parent=i/\Last r.ag i)(hok:(aK t it parent r).1=true):
 Zi (aK t it parent r).2.ag/\Last (aK t it parent r).2.ag r.ag.length/\Gr r.ag (aK t it parent r).2.ag/\aw (aK t it parent r).2.ag (r.ag.length:Nat)=parent:=by
 unfold aK at hok⊢
 by_cases q:bx (af t (r.pos+1))=true
 ·have hn:aC t (af t r.pos) parent {r with pos:=r.pos+1}=(true,{r with pos:=r.pos+1+1,ag:=bn parent (r.ag++[⟨af t (r.pos+1),((r.pos+1:Nat):Int),kindOf (af t r.pos),parent⟩])}):=by
   unfold aC;simp only;rw[if_pos q]
  obtain⟨z1,z2,z3,z4⟩:=ZN h (s:=⟨af t (r.pos+1),((r.pos+1:Nat):Int),kindOf (af t r.pos),parent⟩) hp
  have hlen:(bn parent (r.ag++[⟨af t (r.pos+1),((r.pos+1:Nat):Int),kindOf (af t r.pos),parent⟩])).length=r.ag.length+1:=by rw[dH];simp
  rw[hn]at hok⊢;simp only[if_true]at hok⊢
  split at hok
  ·rename_i c1
   rw[if_pos c1];obtain⟨a1,a2,a3⟩:=hit r.ag.length 41 _ z1 z2 hok;exact⟨a1,a2,z3.trans a3,(a3.2 r.ag.length (by simp only;omega)).trans z4⟩
  rename_i c1;rw[if_neg c1]
  split at hok
  ·rename_i c2
   rw[if_pos c2];obtain⟨a1,a2,a3⟩:=hit r.ag.length 93 _ z1 z2 hok;exact⟨a1,a2,z3.trans a3,(a3.2 r.ag.length (by simp only;omega)).trans z4⟩
  rename_i c2;rw[if_neg c2]
  split
  ·exact⟨z1,z2,z3,z4⟩
  exact⟨z1,z2,z3,z4⟩
 have hn:aC t (af t r.pos) parent {r with pos:=r.pos+1}=(false,{r with pos:=r.pos+1}):=by
  unfold aC;simp only;rw[if_neg q]
 rw[hn]at hok;simp at hok
theorem Sy(t:ByteArray):∀n,ItZ (an t n):=by
 intro n
 induction n with
 |zero=>intro i cl r _ _ h;simp[an]at h
 |succ n ih=>?_
 intro i cl r hz hl hok;simp only[an]at hok⊢
 split at hok
 ·rename_i c1
  rw[if_pos c1]
  split at hok
  ·rename_i c2
   rw[if_pos c2];obtain⟨z1,z2,z3,z4⟩:=El ih hz (.inr ⟨i,rfl,hl⟩) c2;generalize (aK t (an t n) i r).2=r2 at*
   have hil:i<r.ag.length:=by rcases hl with e|e<;>omega
   have hl2:Last r2.ag i:=by
    right
    have hln:r.ag.length<r2.ag.length:=by rcases z2 with e|e<;>omega
    refine⟨by omega,?_⟩
    have hin:au r2.ag (i:Int) (r.ag.length:Nat)=true:=by rw[dx z1.up _ (by omega),z4];simp
    rcases z2 with e|⟨_,e⟩
    ·rw[show r2.ag.length-1=r.ag.length by omega];exact hin
    exact oX z1.up hin e
   obtain⟨a1,a2,a3⟩:=ih i cl r2 z1 hl2 hok;exact⟨a1,a2,z3.trans a3⟩
  cases hok
 rename_i c1;rw[if_neg c1]
 split at hok
 ·rename_i c2
  rw[if_pos c2]
  split at hok
  ·rename_i c3
   rw[if_pos c3];have hs:=Bi t i r;generalize (transition t i r).2=r2 at*;have:=ih i cl r2 (by rw[hs];exact hz) (by rw[hs];exact hl) hok;rw[hs]at this;exact this
  cases hok
 rename_i c2;rw[if_neg c2]
 split at hok
 ·rename_i c3
  rw[if_pos c3]
  split at hok
  ·rename_i c4
   rw[if_pos c4];have hs:=Sx t i r;generalize (block t i r).2=r2 at*;have:=ih i cl r2 (by rw[hs];exact hz) (by rw[hs];exact hl) hok;rw[hs]at this;exact this
  cases hok
 rename_i c3;rw[if_neg c3];exact⟨hz,hl,Gr.refl _⟩
theorem V3{t:ByteArray}(h:(chart t).1=true):Zi (chart t).2.ag/\0<(chart t).2.ag.length:=by
 unfold chart at h⊢
 split at h
 ·rename_i c1
  rw[if_pos c1]
  split at h
  ·rename_i c2
   rw[if_pos c2]
   have z0:Zi r0.ag:=⟨by intro k s h;simp[r0]at h,by intro k h1 h2;simp[r0]at h2,by intro k h2;simp[r0]at h2⟩
   obtain⟨z1,z2,z3,_⟩:=El (Sy t (t.size+1)) z0 (.inl ⟨rfl,rfl⟩) c2
   have hpos:0<(aK t (an t (t.size+1)) (-1) r0).2.ag.length:=by rcases z2 with e|e<;>omega
   exact⟨z1,hpos⟩
  cases h
 cases h
def T0(r:Rs):Prop:=∀x∈r.bG,0<=x.state
theorem Dr(t:ByteArray)(i:Nat){r:Rs}(h:T0 r):T0 (transition t i r).2:=by
 unfold transition
 split
 ·split
  ·split
   ·intro x hx
    rcases List.mem_append.1 hx with hx|hx
    ·exact h x hx
    simp at hx;subst hx;simp only;omega
   exact h
  exact h
 exact h
theorem V4(t:ByteArray)(i:Nat){r:Rs}(h:T0 r):T0 (block t i r).2:=by
 unfold block;split<;>exact h
theorem Em{t:ByteArray}{it:Int->Int->Rs->Bool×Rs}(hit:∀(i:Nat) (cl:Int) (r:Rs),T0 r->T0 (it i cl r).2){parent:Int}{r:Rs}(h:T0 r):T0 (aK t it parent r).2:=by
 have hn:T0 (aC t (af t r.pos) parent {r with pos:=r.pos+1}).2:=by unfold aC;split<;>exact h
 unfold aK
 split
 ·split
  ·exact hit _ _ _ hn
  split
  ·exact hit _ _ _ hn
  split
  ·exact hn
  exact hn
 exact hn
theorem SC(t:ByteArray):∀(n i:Nat) (cl:Int) (r:Rs),T0 r->T0 (an t n i cl r).2:=by
 intro n
 induction n with
 |zero=>intro i cl r h;exact h
 |succ n ih=>?_
 intro i cl r h;simp only[an]
 split
 ·have:=Em (t:=t) (parent:=i) ih h
  split
  ·exact ih _ _ _ this
  exact this
 split
 ·have:=Dr t i h
  split
  ·exact ih _ _ _ this
  exact this
 split
 ·have:=V4 t i h
  split
  ·exact ih _ _ _ this
  exact this
 exact h
theorem Bj(t:ByteArray):T0 (chart t).2:=by
 have h0:T0 r0:=by intro x hx;simp[r0]at hx
 have:=Em (t:=t) (parent:=-1) (SC t (t.size+1)) h0;unfold chart
 split
 ·split
  ·exact this
  exact this
 exact h0
/-! A chart without faults. -/
theorem su.right{α β:Type}{R:α->β->Prop}{l:List α}{m:List β}(h:su R l m){b:β}(hb:b∈m):∃a∈l,R a b:=by
 induction h using su.ind with
 |nil=>cases hb
 |cons hab _ ih=>?_
 rcases List.mem_cons.1 hb with rfl|hb
 ·exact⟨_,by simp,hab⟩
 obtain⟨a,ha,hr⟩:=ih hb;exact⟨a,by simp[ha],hr⟩
theorem Ds{ss:List St}:∀(us:List Us),cN ss us= -2->(∀u∈us,-2<u.pos)->∀u∈us,place ss u.name≠ -2:=by
 intro us
 induction us with
 |nil=>intro _ _ u hu;cases hu
 |cons a us ih=>?_
 intro h hp u hu;simp only[cN]at h
 split at h
 ·have:=hp a (by simp);omega
 rename_i q
 rcases List.mem_cons.1 hu with rfl|hu
 ·simpa using q
 exact ih h (λu hu=>hp u (by simp[hu])) u hu
theorem Bk{ss:List St}{c:Int}(h:place ss c≠ -2):∃g:Nat,place ss c=g/\g<ss.length:=by
 rcases j8 c ss 0 with⟨e,_⟩|⟨i,s,h1,_,h3,_⟩
 ·exact absurd e h
 exact⟨i,by unfold place;rw[h3];simp,(List.getElem?_eq_some_iff.1 h1).1⟩
theorem uF{L:List RN}{k:Nat}(hk:k<L.length):dN (L.map RN.st) k=(cS L k).name:=by
 unfold dN;rw[List.getElem?_map,List.getElem?_eq_getElem hk,cU (List.getElem?_eq_getElem hk)];rfl
theorem acQ{L:List RN}{r:Rs}(hN:NR L r)(hz:Zi r.ag)(hne:0<r.ag.length)(hj:(judge r.ag r.uses).1=0)(hT:∀x∈r.bG,0<=x.state):Ah ⟨r.ag,r.bG,r.dz⟩:=by
 obtain⟨hu,h16⟩:=A9 hN hj;have mQ:=hN.ag
 have hlen:r.ag.length=L.length:=by rw[<-mQ];simp
 have sB:∀k,k<L.length->uV L k=false:=by
  rw[<-AZ hN]at hj;unfold oW at hj;rw[if_neg (by omega)]at hj
  cases e:(List.range L.length).find? (sw L)with
  |some i=>rw[e]at hj;simp at hj
  |none=>?_
  rw[e]at hj;simp only at hj
  cases e2:(List.range L.length).find? (uV L)with
  |some i=>rw[e2]at hj;simp at hj
  |none=>?_
  rw[List.find?_eq_none]at e2;intro k hk;have:=e2 k (by simpa using hk);simpa using this
 have ai8:cN r.ag r.uses= -2:=by
  unfold judge at hj;rw[if_neg (by omega)]at hj
  split at hj
  ·simp at hj
  split at hj
  ·simp at hj
  split at hj
  ·simp at hj
  rename_i q;simpa using q
 have afu:∀u∈r.uses,-2<u.pos:=by
  intro u hu';obtain⟨k,n,rt,x,_,_,ht,hx⟩:=(hN.us u).1 hu';have h0:=ht.pos;unfold tu at hx
  rcases List.mem_append.1 hx with hx|hx
  ·split at hx
   ·simp at hx;subst hx;simp only;omega
   cases hx
  split at hx
  ·simp at hx;subst hx;simp only
   omega
  cases hx
 have acR:=Ds r.uses ai8 afu
 have kd:∀k:Nat,k<L.length->aA r.ag k=(cS L k).kind:=λk hk=>by rw[<-mQ];exact ym hk
 have pr:∀k:Nat,k<L.length->aw r.ag k=(cS L k).parent:=λk hk=>by rw[<-mQ];exact wL hk
 have wf:∀(k:Nat) (hk:k<L.length),-1<=(L[k]).parent/\(L[k]).parent<k/\bx (L[k]).name=true/\(((L[k]).kind=4\/(L[k]).kind=5)->0<=(L[k]).parent)/\1<=(L[k]).kind/\(L[k]).kind<=5/\0<=(L[k]).pos:=λk hk=>hN.wf k _ (List.getElem?_eq_getElem hk)
 have hch:∀(j:Nat) (p:Int),j<L.length->aB r.ag j p=pW L p j:=λj p hj'=>by rw[<-mQ];exact jh hj'
 refine⟨⟨hz.up,hne,?_,hz.pre,?_,?_,?_⟩,by rw[hlen];exact h16,?_,?_,?_⟩
 ·intro k hk e
  by_cases c:k=0
  ·exact c
  have:=hz.root k (by omega) hk;simp only at e;omega
 ·intro k h0 hk
  simp only at hk⊢;have hp:=hz.root k h0 hk;rw[hlen]at hk;have hw:=wf k hk;rw[pr k hk]at hp⊢;have e1:=cU (List.getElem?_eq_getElem hk);rw[e1]at hp⊢
  obtain⟨p,yi⟩:∃p:Nat,(L[k]).parent=p:=⟨(L[k]).parent.toNat,by omega⟩
  have hpl:p<L.length:=by omega
  have:=hN.pk k _ L[p] (List.getElem?_eq_getElem hk) (by rw[yi];exact List.getElem?_eq_getElem hpl);rw[yi,kd p hpl,cU (List.getElem?_eq_getElem hpl)];exact this
 ·intro k hk hkk
  simp only at hk hkk⊢;rw[hlen]at hk;rw[kd k hk]at hkk;have hm:=sB k hk;unfold uV at hm;rw[if_neg (by simp;omega)]at hm
  have h3:((cS L k).kind==3||(cS L k).kind==2)=true:=by simp;omega
  rw[h3]at hm;simp only[Bool.true_and]at hm
  cases q:cE L (k:Int)with
  |nil=>rw[q]at hm;simp at hm
  |cons a l=>?_
  have ha:a∈cE L (k:Int):=by rw[q];simp
  unfold cE at ha;rw[List.mem_filter]at ha
  have hal:a<L.length:=by simpa using ha.1
  exact⟨a,by omega,by rw[hch a _ hal];exact ha.2⟩
 ·intro k hk hkk
  simp only at hk hkk⊢;rw[hlen]at hk;rw[kd k hk]at hkk;have hw:=wf k hk;have e1:=cU (List.getElem?_eq_getElem hk);rw[e1]at hkk;have hp:=hw.2.2.2.1 (by omega);have hm:=sB k hk;unfold uV at hm;rw[e1,if_pos (by simp;omega)]at hm
  obtain⟨p,yi⟩:∃p:Nat,(L[k]).parent=p:=⟨(L[k]).parent.toNat,by omega⟩
  have hpl:p<L.length:=by omega
  have h23:=hN.pk k _ L[p] (List.getElem?_eq_getElem hk) (by rw[yi];exact List.getElem?_eq_getElem hpl);refine⟨by omega,?_⟩;rw[pr k hk,e1,yi,kd p hpl];rw[yi,Int.toNat_natCast]at hm;have e2:=cU (List.getElem?_eq_getElem hpl);rw[e2]at hm⊢
  have:(L[p]).kind≠3:=by simpa using hm
  omega
 ·intro x hx yq
  simp only at hx⊢
  obtain⟨k,hk⟩:∃k:Nat,x.state=k:=by
   have:=hN.ts x hx;exact⟨x.state.toNat,by have:=(hT x hx);omega⟩
  have hkl:k<L.length:=by have:=hN.ts x hx;omega
  obtain⟨rt,hrt,hok⟩:=(hN.bG k _ (List.getElem?_eq_getElem hkl)).right (b:=x) (by rw[List.mem_filter];exact⟨hx,by unfold oV;rw[hk];simp⟩)
  have hnm:bx x.target=true:=by
   have:=hok.ta;unfold kf at this;simp only[Bool.or_eq_true,beq_iff_eq]at this
   rcases this with e|e
   ·exact absurd e yq
   exact e
  have hu1:(⟨x.target,rt.pos+(dW rt.text).length-1⟩:Us)∈r.uses:=(hN.us _).2 ⟨k,_,rt,x,List.getElem?_eq_getElem hkl,hrt,hok,by unfold tu;rw[if_pos hnm];simp⟩;exact Bk (acR _ hu1)
 ·intro x hx
  simp only at hx⊢;have h1:=hN.ts x hx;have h0:=hT x hx;exact⟨x.state.toNat,by omega,by omega⟩
 intro k hk;simp only at hk⊢;rw[hlen]at hk;rw[<-mQ,uF hk]
 constructor
 ·rcases jl L (cS L k).name with⟨_,_,h3⟩|⟨i,hi,_,h3,h4⟩
  ·exact absurd rfl (h3 k hk)
  rw[h3];have:=hu i k hi hk h4;omega
 have hw:=(wf k hk).2.2.1;rw[<-cU (List.getElem?_eq_getElem hk)]at hw;unfold bx at hw;simp only[Bool.and_eq_true,decide_eq_true_eq]at hw;omega
theorem wR{t:ByteArray}(h:(read t).1=0):Ah (read t).2.2/\(read t).2.2=⟨(chart t).2.ag,(chart t).2.bG,(chart t).2.dz⟩/\(chart t).1=true/\(judge (chart t).2.ag (chart t).2.uses).1=0:=by
 unfold read at h⊢
 split at h
 ·cases h
 rename_i c0;rw[if_neg c0]
 split at h
 ·rename_i c1
  rw[if_pos c1]
  split at h
  ·rename_i c2
   rw[if_pos c2]
   have hj:(judge (chart t).2.ag (chart t).2.uses).1=0:=by simpa using c2
   obtain⟨L,_,hN⟩:=yk c1;obtain⟨hz,hne⟩:=V3 c1;exact⟨acQ hN hz hne hj (Bj t),rfl,c1,hj⟩
  rename_i c2;simp only at h;rw[h]at c2;simp at c2
 cases h
/-! Texts. -/
theorem lq{t:ByteArray}{l:List Int}(h:dW t=l){k:Nat}{x:Int}(hk:l[k]? =some x):af t k=x/\k<t.size:=by
 have hlt:k<t.size:=by have:=(List.getElem?_eq_some_iff.1 hk).1;rw[<-h,bz]at this;exact this
 refine⟨?_,hlt⟩;have:=kE t k hlt;rw[h,hk]at this;simpa using this.symm
theorem lJ(t:ByteArray)(p q:Nat):dW (t.extract p q)=((dW t).drop p).take (q-p):=by
 unfold dW;rw[ByteArray.data_extract,Array.toList_extract,List.extract_eq_take_drop,List.map_take,List.map_drop]
theorem iO{l:List Int}(h:∀x∈l,0<=x/\x<256):dW (strOfNums l)=l:=by
 unfold dW strOfNums;simp only[List.map_map];rw[show(List.map ((λb:UInt8=>(b.toNat:Int))∘λn:Int=>UInt8.ofNat n.toNat) l)=l.map id from List.map_congr_left (λx hx=>?_)]
 ·simp
 have:=h x hx;simp only[Function.comp,id,UInt8.toNat_ofNat'];omega
theorem rE(a b:ByteArray):dW (a++b)=dW a++dW b:=by
 unfold dW;rw[ByteArray.data_append];simp
theorem jn(a b:List Int):strOfNums (a++b)=strOfNums a++strOfNums b:=by
 unfold strOfNums;apply ByteArray.ext;rw[ByteArray.data_append];simp
theorem Qq{c:Int}(h:bR c=true):97<=c/\c<=122:=by unfold bR at h;simpa using h
theorem ZO{c:Int}(h:gw c=true):120<=c/\c<=122:=by have:=uC h;omega
theorem uB.byte{a:Ac}(h:uB a):97<=a.letter/\a.letter<=122/\0<=a.digit/\a.digit<=9:=by
 rcases h with⟨_,h2,h3⟩|⟨_,h2,h3⟩|⟨_,h2,h3⟩
 ·have:=Qq h2;omega
 ·have:=Qq h2;omega
 have:=ZO h2;omega
def GM(ol:Ol)(t:Nat):Nat:=match ol.bG[t]? with|some x=>(ol.bG.take t).countP (oV x.state.toNat)|none=>0
structure V5(ol:Ol)(t a k:Nat):Prop where
 tr:∃x,ol.bG[t]? =some x/\x.state=a/\(ol.bG.filter (oV a))[k]? =some x
 st:eG ol t=a
 rk:GM ol t=k
theorem su.get{α β:Type}{R:α->β->Prop}{l:List α}{m:List β}(h:su R l m){k:Nat}{b:β}(hb:m[k]? =some b):∃a,l[k]? =some a/\R a b:=by
 induction h using su.ind generalizing k with
 |nil=>simp at hb
 |cons hab _ ih=>?_
 cases k with
 |zero=>simp at hb;subst hb;exact⟨_,by simp,hab⟩
 |succ k=>simpa using ih (by simpa using hb)
def jq(ss:List St)(s:Sd):List Int:=((List.range ss.length).filter (cX ss)).map (aR s)
/-! A tick ends: of the timers that are due none comes in again. -/
def tB:List Int->Nat
 |_::b::l=>(if b==48 then 1 else 0)+tB l
 |_=>0
theorem Nk:∀(n:Nat) (a b:List Int),a.length=2*n->tB (a++b)=tB a+tB b:=by
 intro n
 induction n with
 |zero=>intro a b h;have:a=[]:=List.length_eq_zero_iff.1 (by omega);subst this;simp[tB]
 |succ n ih=>?_
 intro a b h
 match a,h with
 |x::y::a,h=>
  simp only[List.cons_append,tB];rw[ih a b (by simp at h;omega)];omega
 | [_],h=>simp at h;omega
 | [],h=>simp at h
def vA(N:Nat)(s:Sd):Prop:=s.tm.size % 2=0/\tB (dW s.tm)<=N
theorem wS{a b:List Int}(h:a.length % 2=0):tB (a++b)=tB a+tB b:=Nk (a.length/2) a b (by omega)
theorem SD(t:ByteArray)(k:Nat):0<=af t k/\af t k<256:=by
 unfold af
 split
 ·have:=UInt8.toNat_lt (t[k]'(by assumption));omega
 omega
theorem g_{t:ByteArray}{k:Nat}(h:k+1<t.size):(dW t).drop k=af t k::af t (k+1)::(dW t).drop (k+2):=by
 have h1:=kE t k (by omega);have h2:=kE t (k+1) h;have hl:=bz t;rw[List.drop_eq_getElem_cons (by omega),List.drop_eq_getElem_cons (i:=k+1) (by omega)];rw[List.getElem?_eq_getElem (by omega)]at h1 h2;simp only[Option.some.injEq]at h1 h2;rw[h1,h2]
theorem V6(t:ByteArray)(c:Int):∀(f k:Nat) (acc:List Int),acc.length % 2=0->(∀x∈acc,0<=x/\x<256)->
 (sW t c f k acc).length % 2=0/\tB (sW t c f k acc)<=tB acc+tB ((dW t).drop k)/\∀x∈sW t c f k acc,0<=x/\x<256:=by
 intro f
 induction f with
 |zero=>intro k acc h hb;exact⟨h,by simp only[sW];omega,hb⟩
 |succ f ih=>?_
 intro k acc h hb;simp only[sW]
 split
 ·rename_i c1
  rw[g_ c1];simp only[tB]
  split
  ·obtain⟨h1,h2,h3⟩:=ih (k+2) (acc++[af t k,af t (k+1)]) (by simp;omega) (by
    intro x hx
    rcases List.mem_append.1 hx with hx|hx
    ·exact hb x hx
    simp at hx;rcases hx with rfl|rfl<;>exact SD _ _)
   refine⟨h1,?_,h3⟩;rw[wS h]at h2;simp only[tB]at h2;omega
  obtain⟨h1,h2,h3⟩:=ih (k+2) acc h hb;exact⟨h1,by omega,h3⟩
 exact⟨h,by omega,hb⟩
theorem V7{N:Nat}{m:Ma}(h:vA N m.s){a:Ac}(ha:uB a):vA N (bC m a).2.s:=by
 unfold bC
 split
 ·exact h
 rename_i c1
 split
 ·rename_i c2
  unfold send
  split
  ·exact h
  obtain⟨h1,h2⟩:=h
  have hd:1<=a.digit/\a.digit<=9:=by
   have e:a.sign=64:=by simpa using c2
   rcases ha with⟨hs,_⟩|⟨_,_,h3⟩|⟨hs,_⟩
   ·omega
   ·exact h3
   omega
  have hb:=ha.byte;refine⟨?_,?_⟩
  ·show(m.s.tm++strOfNums [a.letter,48+a.digit]).size % 2=0
   rw[ByteArray.size_append,strOfNums_size];simp;omega
  show tB (dW (m.s.tm++strOfNums [a.letter,48+a.digit]))<=N;rw[rE,wS (by rw[bz];exact h1),iO (by intro x hx;simp at hx;omega)]
  have:((48+a.digit:Int)==48)=false:=by simp;omega
  simp only[tB,this];simpa using h2
 split
 ·obtain⟨h1,h2⟩:=h
  obtain⟨g1,g2,g3⟩:=V6 m.s.tm a.letter m.s.tm.size 0 [] rfl (by simp);refine⟨?_,?_⟩
  ·show(strOfNums (sW m.s.tm a.letter m.s.tm.size 0 [])).size % 2=0
   rw[strOfNums_size];exact g1
  show tB (dW (strOfNums (sW m.s.tm a.letter m.s.tm.size 0 [])))<=N;rw[iO g3];simp[tB]at g2;omega
 split
 ·exact h
 show vA N (k8 m.s a.letter (dJ m.s a))
 have:(k8 m.s a.letter (dJ m.s a)).tm=m.s.tm:=by
  unfold k8 fX
  split
  ·split
   ·rfl
   split<;>rfl
  rfl
 unfold vA;rw[this];exact h
theorem En{N:Nat}:∀(l:List Ac) {m:Ma},vA N m.s->(∀a∈l,uB a)->vA N (cJ l m).s:=by
 intro l
 induction l with
 |nil=>intro m h _;exact h
 |cons a l ih=>?_
 intro m h ha;simp only[cJ];have h1:=V7 h (ha a (by simp))
 split
 ·exact ih h1 (λb hb=>ha b (by simp[hb]))
 exact h1
structure pw(ol:Ol):Prop where
 tr:∀x∈ol.bG,∀a∈x.acts,uB a
 bl:∀b∈ol.dz,∀k:Nat,∀sg:Int,b.state=k->b.sign=sg->(sg=94\/sg=36)->∀a∈b.acts,uB a
theorem Jy{N k:Nat}{sg:Int}(hsg:sg=94\/sg=36):∀(l:List Bl) {m:Ma},(∀b∈l,∀k:Nat,∀sg:Int,b.state=k->b.sign=sg->(sg=94\/sg=36)->∀a∈b.acts,uB a)->vA N m.s->vA N (df k sg l m).s:=by
 intro l
 induction l with
 |nil=>intro m _ h;exact h
 |cons b l ih=>?_
 intro m hA h;simp only[df];refine ih (λb hb=>hA b (by simp[hb])) ?_
 split
 ·rename_i c
  simp only[Bool.and_eq_true,beq_iff_eq]at c;exact En _ h (hA b (by simp) k sg c.1 c.2 hsg)
 exact h
theorem Eo{N:Nat}{m:Ma}(h:vA N m.s)(i:Int)(v:Bool):vA N (cK m i v).s:=h
theorem Nl{ol:Ol}(hA:pw ol){N:Nat}{m:Ma}(h:vA N m.s)(k:Nat):vA N (bY ol m k).s:=by
 have h1:=Jy (k:=k) (.inl rfl) ol.dz hA.bl (Eo h k true);unfold bY
 split
 ·rw[(pR _ _ _).1];exact h1
 exact h1
theorem SE{ol:Ol}(hA:pw ol){N:Nat}(st:List Bool)(gl:List Int):∀(f k:Nat) {m:Ma},vA N m.s->vA N (c_ ol st gl f k m).s:=by
 intro f
 induction f with
 |zero=>intro k m h;exact h
 |succ f ih=>?_
 intro k m h;simp only[c_];refine ih _ ?_
 split
 ·exact Nl hA h k
 exact h
theorem SF{ol:Ol}(hA:pw ol){N:Nat}(left:List Bool):∀(k:Nat) {m:Ma},vA N m.s->vA N (bP ol left k m).s:=by
 intro k
 induction k with
 |zero=>intro m h;exact h
 |succ k ih=>?_
 intro m h;simp only[bP];refine ih ?_
 split
 ·exact Eo (Jy (.inr rfl) ol.dz hA.bl h) _ _
 exact h
theorem V8{ol:Ol}(hA:pw ol){N:Nat}:∀(l:List Int) {m:Ma},vA N m.s->vA N (dQ ol l m).s:=by
 intro l
 induction l with
 |nil=>intro m h;exact h
 |cons x l ih=>?_
 intro m h;simp only[dQ];refine ih (En _ h ?_);unfold kD
 split
 ·rename_i y hy;exact hA.tr y (List.mem_of_getElem? hy)
 simp
theorem wT{ol:Ol}(hA:pw ol){N:Nat}{m:Ma}(h:vA N m.s)(l:List Int):vA N (cd ol m l).s:=
 SE hA _ _ _ _ (V8 hA l (SF hA _ _ (m:={m with s:=rem ol.ag m.s (bO ol m.s l)}) h))
theorem V9{ol:Ol}(hA:pw ol){N:Nat}{m:Ma}(h:vA N m.s):vA N (round ol m).s:=by
 unfold round
 split
 ·split
  ·exact wT hA h _
  rename_i a q _;exact wT hA (m:={m with q:=q}) h _
 exact wT hA h _
theorem SG{ol:Ol}(hA:pw ol){N:Nat}:∀(n:Nat) {m:Ma},vA N m.s->vA N (rounds ol n m).s:=by
 intro n
 induction n with
 |zero=>intro m h;exact h
 |succ n ih=>?_
 intro m h;simp only[rounds]
 split
 ·exact ih (V9 hA h)
 exact h
theorem V_{ol:Ol}(hA:pw ol){N:Nat}{s:Sd}(h:vA N s)(ev:Int):vA N (aQ ol s ev).1:=by
 unfold aQ finish
 split
 ·exact⟨rfl,by show tB (dW ByteArray.empty)<=N;simp[dW,tB]⟩
 exact SG hA _ (wT hA (m:=⟨s,[],[]⟩) h _)
theorem uG(t:ByteArray):∀(f k j:Nat),jx t f k=some j->k % 2=0->j % 2=0/\af t (j+1)=48:=by
 intro f
 induction f with
 |zero=>intro k j h;simp[jx]at h
 |succ f ih=>?_
 intro k j h hk;simp only[jx]at h
 split at h
 ·split at h
  ·rename_i q;simp at h;subst h;exact⟨hk,by simpa using q⟩
  exact ih _ _ h (by omega)
 cases h
theorem Nm{N:Nat}{s:Sd}(h:vA (N+1) s)(hd:(aZ s).2.1=true):vA N (aZ s).2.2:=by
 unfold aZ at hd⊢
 cases q:jx s.tm s.tm.size 0 with
 |none=>rw[q]at hd;cases hd
 |some k=>?_
 simp only;obtain⟨h1,h2⟩:=h;have hk:=(wF s.tm s.tm.size 0 k q).2;obtain⟨he,hp⟩:=uG s.tm s.tm.size 0 k q rfl;have hl:=bz s.tm
 have e1:dW (s.tm.extract 0 k)=(dW s.tm).take k:=by rw[lJ];simp
 have e2:dW (s.tm.extract (k+2) s.tm.size)=(dW s.tm).drop (k+2):=by rw[lJ];exact List.take_of_length_le (by simp;omega)
 refine⟨?_,?_⟩
 ·show(s.tm.extract 0 k++s.tm.extract (k+2) s.tm.size).size % 2=0
  rw[ByteArray.size_append];simp;omega
 show tB (dW (s.tm.extract 0 k++s.tm.extract (k+2) s.tm.size))<=N;rw[rE,e1,e2,wS (by simp;omega)]
 have:tB (dW s.tm)=tB ((dW s.tm).take k)+tB ((dW s.tm).drop k):=by rw[<-wS (by simp;omega),List.take_append_drop]
 rw[this,g_ hk]at h2;simp only[tB,hp]at h2;simp at h2;omega
theorem Jz{s:Sd}(h:vA 0 s):(aZ s).2.1=false:=by
 unfold aZ
 cases q:jx s.tm s.tm.size 0 with
 |none=>rfl
 |some k=>?_
 exfalso;have hk:=(wF s.tm s.tm.size 0 k q).2;obtain⟨he,hp⟩:=uG s.tm s.tm.size 0 k q rfl;have hl:=bz s.tm
 have:tB (dW s.tm)=tB ((dW s.tm).take k)+tB ((dW s.tm).drop k):=by rw[<-wS (by simp;omega),List.take_append_drop]
 have h2:=h.2;rw[this,g_ hk]at h2;simp only[tB,hp]at h2;simp at h2
theorem Nn{ol:Ol}(hA:pw ol):∀(N:Nat) {s:Sd} (l:List Int),vA N s->(cI ol (N+1) s l).isSome=true:=by
 intro N
 induction N with
 |zero=>intro s l h;simp only[cI];rw[Jz h];rfl
 |succ N ih=>?_
 intro s l h;simp only[cI]
 split
 ·rename_i hd
  have h1:=Nm h hd
  split
  ·exact ih _ (V_ hA h1 _)
  exact ih _ h1
 rfl
theorem Wa{L:List RN}{r:Rs}(hN:NR L r)(hT:T0 r):pw ⟨r.ag,r.bG,r.dz⟩:=by
 refine⟨λx hx=>?_,λb hb k sg hk hs hsg=>?_⟩
 ·simp only at hx
  have h0:=hT x hx;have h1:=hN.ts x hx
  obtain⟨k,hk⟩:∃k:Nat,x.state=k:=⟨x.state.toNat,by omega⟩
  have hkl:k<L.length:=by omega
  obtain⟨rt,_,hok⟩:=(hN.bG k _ (List.getElem?_eq_getElem hkl)).right (b:=x) (by rw[List.mem_filter];exact⟨hx,by unfold oV;rw[hk];simp⟩);exact hok.ac
 simp only at hb;have h1:=hN.bs b hb
 have hkl:k<L.length:=by omega
 have hm:b∈r.dz.filter (lS k sg):=by rw[List.mem_filter];exact⟨hb,by unfold lS;rw[hk,hs];simp⟩
 rcases hsg with rfl|rfl
 ·obtain⟨_,_,hok⟩:=(hN.rR k _ (List.getElem?_eq_getElem hkl)).right hm
  exact hok.ac
 obtain⟨_,_,hok⟩:=(hN.rD k _ (List.getElem?_eq_getElem hkl)).right hm;exact hok.ac
/-! What a stand tells of the active states,spread again. -/
theorem Wb{L:List RN}{k:Nat}(hp:place (L.map RN.st) (dN (L.map RN.st) k)=k):eV L (dN (L.map RN.st) k)=k:=by
 rcases jl L (dN (L.map RN.st) k)with⟨_,h2,_⟩|⟨i,_,h1,h2,_⟩
 ·rw[hp]at h2;omega
 rw[h1,<-h2,hp]
theorem JA{L:List RN}(t:ByteArray)(al:List Nat)(hal:∀k∈al,k<L.length/\eV L (dN (L.map RN.st) k)=k)(ht:∀(j i:Nat),al[j]? =some i->af t j=dN (L.map RN.st) i):
 ∀(rest:List Nat) (k:Nat) (last:Int) (on:List Bool),al.drop k=rest->(∀i∈rest,last<(i:Int))->rest.Pairwise (· < ·)->jz L t rest.length k last on=some (rest.foldl (λon i=>on.set i true) on):=by
 intro rest
 induction rest with
 |nil=>intro k last on _ _ _;rfl
 |cons i rest ih=>?_
 intro k last on hd hl hs
 have hi:al[k]? =some i:=by
  have:=congrArg (λl=>l[0]?) hd;simpa[List.getElem?_drop]using this
 have hm:=hal i (List.mem_of_getElem? hi);rw[List.pairwise_cons]at hs;simp only[List.length_cons,jz,List.foldl_cons];rw[ht k i hi,hm.2,if_neg (by have:=hl i (by simp);omega),Int.toNat_natCast];refine ih (k+1) i _ ?_ (λj hj=>by have:=hs.1 j hj;omega) hs.2;have:=congrArg (List.drop 1) hd;rw[List.drop_drop]at this;simpa[Nat.add_comm]using this
theorem foldl_set:∀(l:List Nat) (on:List Bool),(∀k∈l,k<on.length)->(l.foldl (λon i=>on.set i true) on).length=on.length/\∀k,eJ (l.foldl (λon i=>on.set i true) on) k=(eJ on k||l.contains k):=by
 intro l
 induction l with
 |nil=>intro on _;exact⟨rfl,λk=>by simp⟩
 |cons a l ih=>?_
 intro on h;simp only[List.foldl_cons];obtain⟨h1,h2⟩:=ih (on.set a true) (λk hk=>by simp;exact h k (by simp[hk]));refine⟨by simpa using h1,λk=>?_⟩;rw[h2 k];have ha:=h a (by simp);unfold eJ;simp only[List.getD_eq_getElem?_getD,List.getElem?_set,List.contains_cons]
 by_cases c:a=k
 ·subst c;rw[if_pos rfl,if_pos ha];simp
 rw[if_neg c]
 have:(k==a)=false:=by simp;omega
 rw[this];simp
theorem Bm{L:List RN}{ol:Ol}(mQ:L.map RN.st=ol.ag)(hO:Ah ol)(hB:∀k,k<ol.ag.length->0<=dN ol.ag k/\dN ol.ag k<256){s:Sd}(hlt:∀j,bit s.act j=true->j<ol.ag.length)(hl:s.act.length=16):
 ∃on,gf L (dV ol.ag s)=some on/\fJ L.length on s.act:=by
 have hlen:ol.ag.length=L.length:=by rw[<-mQ];simp
 have h16:=hO.le
 have hm:min ol.ag.length 16=L.length:=by omega
 let al:=(List.range L.length).filter λ(j:Nat)=>has s.act (j:Int)
 have ZP:∀k∈al,k<L.length/\bit s.act k=true:=λk hk=>by
  have:=List.mem_filter.1 hk;exact⟨by simpa using this.1,this.2⟩
 have hbyte:∀k,k<L.length->0<=dN ol.ag k/\dN ol.ag k<256:=λk hk=>hB k (by omega)
 have e:dV ol.ag s=strOfNums (al.map (dN ol.ag)):=by unfold dV gN;rw[hm]
 have hb:dW (dV ol.ag s)=al.map (dN ol.ag):=by
  rw[e];refine iO (λx hx=>?_);obtain⟨k,hk,rfl⟩:=List.mem_map.1 hx;exact hbyte k (ZP k hk).1
 have hsz:(dV ol.ag s).size=al.length:=by rw[<-bz,hb];simp
 have ht:∀(j i:Nat),al[j]? =some i->af (dV ol.ag s) j=dN (L.map RN.st) i:=λj i hj=>by
  rw[mQ];exact(lq hb (k:=j) (x:=dN ol.ag i) (by rw[List.getElem?_map,hj];rfl)).1
 have hnm:∀k∈al,k<L.length/\eV L (dN (L.map RN.st) k)=k:=λk hk=>by
  have hkl:=(ZP k hk).1;exact⟨hkl,Wb (by rw[mQ];exact(hO.nm k (by omega)).1)⟩
 have hs:al.Pairwise (· < ·):=List.Pairwise.filter _ List.pairwise_lt_range;have hf:=JA (dV ol.ag s) al hnm ht al 0 (-1) (List.replicate L.length false) rfl (λi _=>by omega) hs;obtain⟨g1,g2⟩:=foldl_set al (List.replicate L.length false) (λk hk=>by simp;exact(ZP k hk).1);refine⟨_,by unfold gf;rw[hsz];exact hf,by simpa using g1,hl,λk=>?_⟩;rw[g2 k]
 have h0:eJ (List.replicate L.length false) k=false:=by
  unfold eJ;simp only[List.getD_eq_getElem?_getD,List.getElem?_replicate];split<;>rfl
 rw[h0,Bool.false_or]
 cases q:bit s.act k with
 |true=>
  rw[List.contains_iff_mem];exact List.mem_filter.2 ⟨by simpa using(hlen▸hlt k q),q⟩
 |false=>?_
 cases q2:al.contains k with
 |false=>rfl
 |true=>?_
 have:=(ZP k (List.contains_iff_mem.1 q2)).2;rw[q]at this;cases this
end Ch
end Go.Proofs.YtnlbchmfcebeeaaGreat
