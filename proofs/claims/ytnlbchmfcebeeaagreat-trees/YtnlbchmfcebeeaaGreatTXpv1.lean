import Derived.Test.YtnlbchmfcebeeaaGreatTXev1
set_option maxHeartbeats 12800000
set_option maxRecDepth 100000
namespace Go.Proofs.YtnlbchmfcebeeaaGreat
open Go.Proofs.Tryz Ch
namespace Ch
def b9(ol:Ol):Nat->Ma->Bool×Ma
 |0,m=>(!busy ol m,m)
 |n+1,m=>if busy ol m then b9 ol n (round ol m)else(true,m)
theorem nU(ol:Ol):∀(n:Nat) (m:Ma),b9 ol n m=(!busy ol (rounds ol n m),rounds ol n m):=by
 intro n
 induction n with
 |zero=>intro m;rfl
 |succ n ih=>?_
 intro m;simp only[b9,rounds]
 cases q:busy ol m with
 |true=>simp only[if_true];exact ih _
 |false=>simp only[Bool.false_eq_true,if_false];rw[q];rfl
/-! A state that is one of the chart's stands as it should. -/
theorem OC{p:Nat->Bool}:∀(l:List Nat),l.Nodup->l.countP p=1->∀i∈l,∀j∈l,p i=true->p j=true->i=j:=by
 intro l
 induction l with
 |nil=>intro _ h;cases h
 |cons a l ih=>?_
 intro hd hc i hi j hj hpi hpj;rw[List.nodup_cons]at hd;rw[List.countP_cons]at hc
 have hz:∀(h:l.countP p=0) (k:Nat),k∈l->p k=true->False:=λh k hk hpk=>by
  rw[List.countP_eq_zero]at h;exact h k hk hpk
 cases q:p a with
 |true=>
  rw[q]at hc;simp only[if_true]at hc
  have h0:l.countP p=0:=by omega
  rcases List.mem_cons.1 hi with rfl|hi
  ·rcases List.mem_cons.1 hj with rfl|hj
   ·rfl
   exact(hz h0 j hj hpj).elim
  exact(hz h0 i hi hpi).elim
 |false=>?_
 rw[q]at hc;simp only[Bool.false_eq_true,if_false,Nat.add_zero]at hc
 rcases List.mem_cons.1 hi with rfl|hi
 ·rw[q]at hpi;cases hpi
 rcases List.mem_cons.1 hj with rfl|hj
 ·rw[q]at hpj;cases hpj
 exact ih hd.2 hc i hi j hj hpi hpj
theorem adl{ss:List St}{t:ByteArray}:∀(f k:Nat) (last:Int) (l m:List Bool),-1<=last->(∀j,bit l j=true->j<ss.length)->zD ss t f k last l=some m->∀j,bit m j=true->j<ss.length:=by
 intro f
 induction f with
 |zero=>intro k last l m _ h e;simp[zD]at e;rw[<-e];exact h
 |succ f ih=>?_
 intro k last l m hl h e;simp only[zD]at e
 split at e
 ·cases e
 rename_i q;obtain⟨g,hg,hgl⟩:=Bk (ss:=ss) (c:=af t k) (by omega);refine ih _ _ _ _ (by omega) ?_ e;intro j hj;rw[hg]at hj
 by_cases c:g<l.length
 ·rw[wQ c]at hj
  split at hj
  ·omega
  exact h j hj
 have:pH l (g:Int) true=l:=by show l.set g true=l;rw[List.set_eq_of_length_le (by omega)]
 rw[this]at hj;exact h j hj
theorem Xk{ss:List St}(h:sH ss){l:List Bool}(hlt:∀j,bit l j=true->j<ss.length)(hf:allFit ss l ss.length=true):Jp ss (bit l):=by
 have hfit:∀i:Nat,i<ss.length->fits ss l i=true:=by
  unfold allFit at hf;rw[List.all_eq_true]at hf;intro i hi;exact hf i (by simpa using hi)
 have hon:∀i:Nat,bit l i=true->((aw ss i != -1)&& !has l (aw ss i))=false/\(aA ss i=2->e_ ss l i true=1)/\(aA ss i=3->e_ ss l i false=0)/\aA ss i≠5:=by
  intro i hi;have:=hfit i (hlt i hi);unfold fits at this;rw[cT,hi]at this;simp only[if_true]at this
  split at this
  ·cases this
  rename_i c1;refine⟨by simpa using c1,?_,?_,?_⟩
  ·intro k2;rw[k2]at this;simp at this;omega
  ·intro k3;rw[k3]at this;simp at this;omega
  intro k5;rw[k5]at this;simp at this
 have Vc:∀i p:Nat,bit l i=true->aw ss i=p->bit l p=true:=by
  intro i p hi hp;have:=(hon i hi).1;rw[hp,cT]at this
  have hne:((p:Int)!= -1)=true:=by simp
  rw[hne]at this;simpa using this
 refine⟨?_,hlt,Vc,λi hi=>(hon i hi).2.2.2,?_,?_,?_⟩
 ·have:=hfit 0 h.ne
  unfold fits at this;rw[cT,h.Jj]at this
  cases q:bit l 0 with
  |true=>rfl
  |false=>rw[q]at this;simp at this
 ·intro p i j hk hi hj hsi hsj
  have hp:bit l p=true:=Vc i p hsi (cA hi).2.1;have hc:=(hon p hp).2.1 hk;unfold e_ pJ at hc;refine OC _ List.nodup_range hc i (by simpa using(cA hi).1) j (by simpa using(cA hj).1) ?_ ?_
  ·unfold uS;rw[cT,hsi,hi];rfl
  unfold uS;rw[cT,hsj,hj];rfl
 ·intro p hp hk
  have hc:=(hon p hp).2.1 hk;unfold e_ pJ at hc
  have:0<(List.range ss.length).countP (uS ss l p true):=by omega
  rw[List.countP_pos_iff]at this;obtain⟨i,_,hi⟩:=this;unfold uS at hi;rw[cT]at hi;simp only[Bool.and_eq_true,beq_iff_eq]at hi;exact⟨i,hi.2,hi.1⟩
 intro p i hp hk hi;have hc:=(hon p hp).2.2.1 hk;unfold e_ pJ at hc;rw[List.countP_eq_zero]at hc;have:=hc i (by simpa using(cA hi).1);unfold uS at this;rw[cT,hi]at this
 cases q:bit l i with
 |true=>rfl
 |false=>rw[q]at this;simp at this
theorem Cp{ss:List St}{t:ByteArray}:∀(f k n:Nat) (l:List Int) (r:List Int×Nat),ur ss t f k n l=some r->k+f<=l.length->
 (∀j,j<k->r.1.getD j 0=l.getD j 0)/\∀j,k<=j->j<k+f->cX ss j=true->gy ss j (r.1.getD j 0)=true:=by
 intro f
 induction f with
 |zero=>intro k n l r h _;simp[ur]at h;subst h;exact⟨λ_ _=>rfl,λj h1 h2=>by omega⟩
 |succ f ih=>?_
 intro k n l r h hl;simp only[ur]at h
 split at h
 ·rename_i q
  split at h
  ·cases h
  rename_i c;obtain⟨h1,h2⟩:=ih (k+1) (n+1) _ r h (by simp;omega);refine⟨λj hj=>?_,λj hj1 hj2 hh=>?_⟩
  ·rw[h1 j (by omega)]
   simp only[List.getD_eq_getElem?_getD];rw[List.getElem?_set_ne (by omega)]
  by_cases e:j=k
  ·subst e
   rw[h1 j (by omega)];simp only[List.getD_eq_getElem?_getD];rw[List.getElem?_set_self (by omega)];simp at c;exact c.2
  exact h2 j (by omega) (by omega) hh
 rename_i q;obtain⟨h1,h2⟩:=ih (k+1) n l r h (by omega);refine⟨λj hj=>h1 j (by omega),λj hj1 hj2 hh=>?_⟩
 by_cases e:j=k
 ·subst e;rw[hh]at q;simp at q
 exact h2 j (by omega) (by omega) hh
theorem Kg{ol:Ol}(hO:Ah ol){a p t:ByteArray}{x y z:Int}(h:(take ol.ag a p t x y z).1=true):Inv ol (take ol.ag a p t x y z).2:=by
 unfold take at h⊢
 split at h
 ·rename_i c1
  rw[if_pos c1]
  split at h
  ·rename_i c2
   rw[if_pos c2]
   split at h
   ·rename_i c3
    rw[if_pos c3];refine⟨?_,?_,kB _ _,jM _ _⟩
    ·show Jp ol.ag (bit (bT ol.ag a).1)
     unfold bT lG at c1⊢
     cases q:zD ol.ag a a.size 0 (-1) db with
     |none=>rw[q]at c1;simp at c1
     |some l=>?_
     rw[q]at c1;simp only at c1⊢
     cases q2:allFit ol.ag l ol.ag.length with
     |false=>rw[q2]at c1;simp at c1
     |true=>?_
     simp only[if_true];exact Xk hO.qg (adl _ _ _ _ _ (by omega) (λj hj=>by rw[iB]at hj;cases hj) q) q2
    intro k hk hh;show gy ol.ag k ((bD ol.ag p).1.getD k 0)=true;unfold bD at c2⊢;have h16:=hO.le
    cases q:ur ol.ag p (min ol.ag.length 16) 0 0 (cR ol.ag)with
    |none=>rw[q]at c2;simp at c2
    |some r=>?_
    rw[q]at c2;obtain⟨l,n⟩:=r;simp only at c2⊢
    split at c2
    ·cases c2
    rename_i c4;rw[if_neg c4];exact(Cp _ _ _ _ _ q (by rw[eN];omega)).2 k (by omega) (by omega) hh
   cases h
  cases h
 cases h
theorem Xl{s:ByteArray}{a:Ac}{r:List Int}(h:dW s=vq a++r):af s 0=a.sign/\af s 1=a.letter/\2<=s.size/\
 (yU a.sign=true->af s 2=48+a.digit/\3<=s.size/\dW (s.extract 3 s.size)=r)/\(yU a.sign=false->dW (s.extract 2 s.size)=r):=by
 unfold vq at h
 cases q:yU a.sign with
 |true=>
  rw[q]at h;simp only[if_true]at h;have h0:=lq h (k:=0) (x:=a.sign) rfl;have h1:=lq h (k:=1) (x:=a.letter) rfl;have h2:=lq h (k:=2) (x:=48+a.digit) rfl;refine⟨h0.1,h1.1,by omega,λ_=>⟨h2.1,by omega,?_⟩,(λe=>by cases e)⟩;rw[lJ,h];have hl:=congrArg List.length h;rw[bz]at hl;simp at hl;show List.take (s.size-3) r=r;exact List.take_of_length_le (by omega)
 |false=>?_
 rw[q]at h;simp only[Bool.false_eq_true,if_false]at h;have h0:=lq h (k:=0) (x:=a.sign) rfl;have h1:=lq h (k:=1) (x:=a.letter) rfl;refine⟨h0.1,h1.1,by omega,(λe=>by cases e),λ_=>?_⟩;rw[lJ,h];have hl:=congrArg List.length h;rw[bz]at hl;simp at hl;show List.take (s.size-2) r=r;exact List.take_of_length_le (by omega)
theorem aav{t:ByteArray}{k:Nat}(h:k+1<=t.size):t.extract k (k+1)=strOfNums [af t k]:=by
 have hp:0<=af t k/\af t k<256:=by
  unfold af;rw[dif_pos (by omega)];have:=UInt8.toNat_lt (t[k]'(by omega));omega
 apply Ak;rw[lJ,iO (by intro x hx;simp at hx;rw[hx];exact hp)];apply List.ext_getElem?;intro j;rw[show k+1-k=1 by omega,List.getElem?_take]
 by_cases c:j<1
 ·have:j=0:=by omega
  subst this;rw[if_pos (by omega),List.getElem?_drop,Nat.add_zero,kE t k (by omega)];rfl
 rw[if_neg c,List.getElem?_eq_none (by simp;omega)]
theorem QM{t:ByteArray}{k:Nat}(h:k+2<=t.size):t.extract k (k+2)=strOfNums [af t k,af t (k+1)]:=by
 have hp:∀j,j<t.size->0<=af t j/\af t j<256:=by
  intro j hj;unfold af;rw[dif_pos hj];have:=UInt8.toNat_lt (t[j]'hj);omega
 apply Ak;rw[lJ,iO (by intro x hx;simp at hx;rcases hx with rfl|rfl;exact hp _ (by omega);exact hp _ (by omega))];apply List.ext_getElem?;intro j;rw[show k+2-k=2 by omega,List.getElem?_take]
 by_cases c:j<2
 ·rw[if_pos c,List.getElem?_drop,kE t (k+j) (by omega)]
  rcases(by omega:j=0\/j=1)with rfl|rfl<;>rfl
 rw[if_neg c,List.getElem?_eq_none (by simp;omega)]
theorem QN{rt:RT}{x:Tr}(h:vu rt x):3<=rt.text.size/\
 ((x.guard.sign=0/\af rt.text 1≠63/\dW (rt.text.extract 1 (rt.text.size-2))=enc x.acts)\/
  (gw x.guard.var=true/\me x.guard.sign=true/\0<=x.guard.digit/\x.guard.digit<=9/\7<=rt.text.size/\af rt.text 1=63/\af rt.text 2=x.guard.var/\af rt.text 3=x.guard.sign/\af rt.text 4=48+x.guard.digit/\dW (rt.text.extract 5 (rt.text.size-2))=enc x.acts)):=by
 have xm:=h.txt;have hl:=congrArg List.length xm;rw[bz]at hl
 rcases h.gd with e|⟨h1,h2,h3,h4⟩
 ·have hs:x.guard.sign=0:=by rw[e]
  have he:GC x.guard=[]:=by unfold GC;rw[hs];rfl
  rw[he]at xm hl;simp only[List.nil_append,List.length_cons,List.length_append,List.length_nil]at hl;refine⟨by omega,.inl ⟨hs,?_,?_⟩⟩
  ·cases hq:enc x.acts with
   |nil=>
    rw[hq]at xm;have:=(lq xm (k:=1) (x:=62) rfl).1;omega
   |cons b l=>
    rw[hq]at xm;have h5:=(lq xm (k:=1) (x:=b) rfl).1;have:=(Ng h.ac b (by rw[hq];simp)).2.2;omega
  rw[lJ,xm];show List.take (rt.text.size-2-1) (enc x.acts++[62,x.target])=enc x.acts;rw[show rt.text.size-2-1=(enc x.acts).length by omega];exact List.take_left
 have hs0:(x.guard.sign==0)=false:=by
  unfold me at h2;simp at h2⊢;omega
 have he:GC x.guard=[63,x.guard.var,x.guard.sign,48+x.guard.digit]:=by unfold GC;rw[hs0];rfl
 rw[he]at xm hl;simp only[List.cons_append,List.nil_append,List.length_cons,List.length_append,List.length_nil]at hl xm;refine⟨by omega,.inr ⟨h1,h2,h3,h4,by omega,(lq xm (k:=1) rfl).1,(lq xm (k:=2) rfl).1,(lq xm (k:=3) rfl).1,(lq xm (k:=4) rfl).1,?_⟩⟩;rw[lJ,xm];show List.take (rt.text.size-2-5) (enc x.acts++[62,x.target])=enc x.acts;rw[show rt.text.size-2-5=(enc x.acts).length by omega];exact List.take_left
/-! Moves: of which state,and which of its transitions. -/
def DF(j:Nat):List Tr->Nat->List Nat
 | [],_=>[]
 |x::l,n=>if oV j x then n::DF j l (n+1)else DF j l (n+1)
theorem Xm(j:Nat):∀(l:List Tr) (n k t:Nat),(DF j l n)[k]? =some t->n<=t/\∃x,l[t-n]? =some x/\x.state=j/\(l.filter (oV j))[k]? =some x/\k=(l.take (t-n)).countP (oV j):=by
 intro l
 induction l with
 |nil=>intro n k t h;simp[DF]at h
 |cons x l ih=>?_
 intro n k t h;simp only[DF]at h
 cases q:oV j x with
 |true=>
  rw[q]at h;simp only[if_true]at h
  cases k with
  |zero=>
   simp at h;subst h;refine⟨Nat.le_refl _,x,by simp,by unfold oV at q;simpa using q,by simp[q],by simp⟩
  |succ k=>?_
  obtain⟨h1,y,h2,h3,h4,h5⟩:=ih (n+1) k t (by simpa using h)
  have e:t-n=(t-(n+1))+1:=by omega
  refine⟨by omega,y,by rw[e];simpa using h2,h3,by simp[q];exact h4,?_⟩;rw[e,List.take_succ_cons,List.countP_cons,q,<-h5];simp
 |false=>?_
 rw[q]at h;simp only[Bool.false_eq_true,if_false]at h;obtain⟨h1,y,h2,h3,h4,h5⟩:=ih (n+1) k t h
 have e:t-n=(t-(n+1))+1:=by omega
 refine⟨by omega,y,by rw[e];simpa using h2,h3,by simp[q];exact h4,?_⟩;rw[e,List.take_succ_cons,List.countP_cons,q,<-h5];simp
def xn(s:Sd)(trg:Int)(x:Tr):Bool:=(x.kr==trg)&&holds s x.guard
theorem Fu(s:Sd)(j:Nat)(trg:Int)(x:Tr):nB s j trg x=(oV j x&&xn s trg x):=by
 unfold nB oV xn;rw[Bool.and_assoc]
theorem Hk(s:Sd)(j:Nat)(trg:Int):∀(l:List Tr) (n:Nat),(∀x∈l.filter (oV j),xn s trg x=false)->dU s j trg l n= -2:=by
 intro l
 induction l with
 |nil=>intro n _;rfl
 |cons x l ih=>?_
 intro n h;simp only[dU];rw[Fu]
 cases q:oV j x with
 |false=>
  simp only[Bool.false_and,Bool.false_eq_true,if_false];exact ih (n+1) (λy hy=>h y (by simp[q];exact(by simpa using hy)))
 |true=>?_
 rw[h x (by simp[q])];simp only[Bool.and_false,Bool.false_eq_true,if_false];exact ih (n+1) (λy hy=>h y (by rw[List.filter_cons,q];simp only[if_true];exact List.mem_cons_of_mem _ hy))
theorem Kh(s:Sd)(j:Nat)(trg:Int):∀(l:List Tr) (n k:Nat) (x:Tr),(l.filter (oV j))[k]? =some x->xn s trg x=true->(∀(i:Nat) (y:Tr),i<k->(l.filter (oV j))[i]? =some y->xn s trg y=false)->
 ∃t:Nat,(DF j l n)[k]? =some t/\dU s j trg l n=t:=by
 intro l
 induction l with
 |nil=>intro n k x h;simp at h
 |cons a l ih=>?_
 intro n k x h hx hb;simp only[dU,DF];rw[Fu]
 cases q:oV j a with
 |false=>
  rw[List.filter_cons,q]at h;simp only[Bool.false_eq_true,if_false]at h;simp only[Bool.false_and,Bool.false_eq_true,if_false];exact ih (n+1) k x h hx (λi y hi hy=>hb i y hi (by rw[List.filter_cons,q];simpa using hy))
 |true=>?_
 rw[List.filter_cons,q]at h;simp only[if_true]at h
 cases k with
 |zero=>
  simp at h;subst h;rw[hx];exact⟨n,by simp,by simp⟩
 |succ k=>?_
 have ha:=hb 0 a (by omega) (by rw[List.filter_cons,q];simp);rw[ha];simp only[Bool.and_false,Bool.false_eq_true,if_false,if_true];obtain⟨t,h1,h2⟩:=ih (n+1) k x (by simpa using h) hx (λi y hi hy=>hb (i+1) y (by omega) (by rw[List.filter_cons,q];simpa using hy));exact⟨t,by simpa using h1,h2⟩
theorem abI{ol:Ol}{t a k:Nat}(h:(DF a ol.bG 0)[k]? =some t):V5 ol t a k:=by
 obtain⟨_,x,h2,h3,h4,h5⟩:=Xm a ol.bG 0 k t h;rw[Nat.sub_zero]at h2 h5;refine⟨⟨x,h2,h3,h4⟩,by unfold eG;rw[h2];exact h3,?_⟩;unfold GM;rw[h2];simp only;rw[h3,h5];rfl
theorem Ki{ol:Ol}{s:Sd}{j:Nat}{trg:Int}(h:∀x∈ol.bG.filter (oV j),xn s trg x=false):gQ ol s j trg= -2:=Hk s j trg ol.bG 0 h
theorem OD{ol:Ol}{s:Sd}{j:Nat}{trg:Int}{k:Nat}{x:Tr}(h:(ol.bG.filter (oV j))[k]? =some x)(hx:xn s trg x=true)(hb:∀(i:Nat) (y:Tr),i<k->(ol.bG.filter (oV j))[i]? =some y->xn s trg y=false):
 ∃t:Nat,V5 ol t j k/\gQ ol s j trg=t:=by
 obtain⟨t,h1,h2⟩:=Kh s j trg ol.bG 0 k x h hx hb;exact⟨t,abI h1,h2⟩
theorem adm{ol:Ol}{t u:Nat}{x y:Tr}(ht:ol.bG[t]? =some x)(hu:ol.bG[u]? =some y)(hs:x.state=y.state)(h0:0<=x.state)(hk:GM ol t=GM ol u):t=u:=by
 unfold GM at hk;rw[ht,hu]at hk;simp only at hk;rw[<-hs]at hk
 have hx:oV x.state.toNat x=true:=by unfold oV;rw[Int.toNat_of_nonneg h0];simp
 have hy:oV x.state.toNat y=true:=by unfold oV;rw[Int.toNat_of_nonneg h0,hs];simp
 have key:∀(a b:Nat) (z:Tr),ol.bG[a]? =some z->oV x.state.toNat z=true->a<b->(ol.bG.take a).countP (oV x.state.toNat)<(ol.bG.take b).countP (oV x.state.toNat):=by
  intro a b z hz hi hab
  have e:(ol.bG.take b)=ol.bG.take a++(ol.bG.take b).drop a:=by
   have:=List.take_append_drop a (ol.bG.take b);rw[List.take_take,Nat.min_eq_left (by omega)]at this;exact this.symm
  rw[e,List.countP_append]
  have hm:z∈(ol.bG.take b).drop a:=by
   rw[List.mem_iff_getElem?];exact⟨0,by rw[List.getElem?_drop,Nat.add_zero,List.getElem?_take,if_pos hab];exact hz⟩
  have:0<((ol.bG.take b).drop a).countP (oV x.state.toNat):=by rw[List.countP_pos_iff];exact⟨z,hm,hi⟩
  omega
 rcases Nat.lt_trichotomy t u with c|c|c
 ·have:=key t u x ht hx c;omega
 ·exact c
 have:=key u t y hu hy c;omega
theorem su.adn{α β:Type}{R:α->β->Prop}{l:List α}{m:List β}(h:su R l m){k:Nat}{a:α}(ha:l[k]? =some a):∃b,m[k]? =some b/\R a b:=by
 induction h using su.ind generalizing k with
 |nil=>simp at ha
 |cons hab _ ih=>?_
 cases k with
 |zero=>simp at ha;subst ha;exact⟨_,by simp,hab⟩
 |succ k=>simpa using ih (by simpa using ha)
theorem TJ(ol:Ol)(s:Sd)(t:Nat):∀(l kept:List Int),eQ ol s t l kept=if l.all (λx=>!(meets (leaves ol s t) (leaves ol s x.toNat))||within ol t x.toNat)then some (kept++l.filter (λx=>!(meets (leaves ol s t) (leaves ol s x.toNat)))++[(t:Int)])else none:=by
 intro l
 induction l with
 |nil=>intro kept;simp[eQ]
 |cons x l ih=>?_
 intro kept;simp only[eQ,List.all_cons,List.filter_cons]
 cases q:meets (leaves ol s t) (leaves ol s x.toNat)with
 |true=>
  cases q2:within ol t x.toNat with
  |true=>simp only[Bool.not_true,Bool.false_or,Bool.true_and,if_true,Bool.false_eq_true,if_false];exact ih kept
  |false=>simp
 |false=>?_
 simp only[Bool.not_false,Bool.true_or,Bool.true_and,if_true,Bool.false_eq_true,if_false];rw[ih];simp
/-! Fuel does not matter. -/
theorem zb{ss:List St}(h:sH ss)(l:List Bool):∀(f g i:Nat),ss.length<=i+f->ss.length<=i+g->i<ss.length->eh ss l f i=eh ss l g i:=by
 intro f
 induction f with
 |zero=>intro g i h1 _ h3;omega
 |succ f ih=>?_
 intro g i h1 h2 h3
 match g,h2 with
 |0,h2=>omega
 |g+1,h2=>
  simp only[eh]
  have:sk (λ(j:Nat)=>!aB ss j i||eh ss l f j) ss.length=sk (λ(j:Nat)=>!aB ss j i||eh ss l g j) ss.length:=by
   unfold sk;rw[Bool.eq_iff_iff,List.all_eq_true,List.all_eq_true]
   have key:∀j:Nat,(!aB ss j i||eh ss l f j)=(!aB ss j i||eh ss l g j):=by
    intro j
    cases q:aB ss j i with
    |false=>rfl
    |true=>?_
    have:=oY h q;rw[ih g j (by omega) (by omega) this.2]
   constructor<;>(intro hh j hj;have:=hh j hj;rw[key j]at*;exact this)
  rw[this]
theorem OE{ss:List St}(h:sH ss)(l:List Bool)(i:Nat):atEnd ss l i=if aA ss i==2 then mi ss l i else if aA ss i==3 then(cQ ss i).all (λj=>atEnd ss l j)else false:=by
 have e:atEnd ss l i=if aA ss i==2 then mi ss l i else if aA ss i==3 then sk (λ(j:Nat)=>!aB ss j i||eh ss l (ss.length+1) j) ss.length else false:=rfl
 rw[e]
 have:sk (λ(j:Nat)=>!aB ss j i||eh ss l (ss.length+1) j) ss.length=(cQ ss i).all (λj=>atEnd ss l j):=by
  unfold sk;rw[Bool.eq_iff_iff,List.all_eq_true,List.all_eq_true]
  constructor
  ·intro hh j hj
   have hc:=bJ.1 hj;have:=hh j (by simpa using(cA hc).1);rw[hc]at this;simp only[Bool.not_true,Bool.false_or]at this;unfold atEnd;rw[zb h l (ss.length+2) (ss.length+1) j (by omega) (by omega) (cA hc).1];exact this
  intro hh j _
  cases q:aB ss j i with
  |false=>rfl
  |true=>?_
  have:=hh j (bJ.2 q);unfold atEnd at this;rw[zb h l (ss.length+2) (ss.length+1) j (by omega) (by omega) (cA q).1]at this;simpa using this
 rw[this]
theorem Kj{ss:List St}(l:List Bool)(i:Nat):mi ss l i=(cQ ss i).any (λj=>(aA ss j==4)&&bit l j):=by
 unfold mi vl;rw[Bool.eq_iff_iff,List.any_eq_true,List.any_eq_true]
 constructor
 ·rintro⟨j,hj,hp⟩
  unfold AN at hp;rw[cT]at hp;simp only[Bool.and_eq_true,beq_iff_eq]at hp;refine⟨j,bJ.2 (wM (by simpa using hj) hp.1.2 (by rw[hp.1.1];decide)),?_⟩;rw[hp.2,hp.1.1];rfl
 rintro⟨j,hj,hp⟩;have hc:=cA (bJ.1 hj);refine⟨j,by simpa using hc.1,?_⟩;unfold AN;rw[cT,hc.2.1];simp only[Bool.and_eq_true,beq_iff_eq]at hp⊢;exact⟨⟨hp.1,trivial⟩,hp.2⟩
theorem TK{ss:List St}(h:sH ss)(S:Nat->Bool)(goals:List Int):∀(f g i:Nat),ss.length<=i+f->ss.length<=i+g->i<ss.length->cY ss S goals f i=cY ss S goals g i:=by
 intro f
 induction f with
 |zero=>intro g i h1 _ h3;omega
 |succ f ih=>?_
 intro g i h1 h2 h3
 match g,h2 with
 |0,h2=>omega
 |g+1,h2=>
  simp only[cY]
  congr 1
  split
  ·rename_i q
   have:=oY h (A_ h S goals h3 (by simpa using q));exact ih g _ (by omega) (by omega) this.2
  split
  ·unfold List.flatMap
   congr 1
   refine List.map_congr_left (λj hj=>?_);have:=oY h (bJ.1 hj);exact ih g j (by omega) (by omega) this.2
  rfl
theorem yF{ss:List St}(h:sH ss)(S:Nat->Bool)(goals:List Int){i:Nat}(hi:i<ss.length):
 cY ss S goals ss.length i=i::(if aA ss i==2 then cY ss S goals ss.length (mB ss S goals i)else if aA ss i==3 then(cQ ss i).flatMap (cY ss S goals ss.length)else[]):=by
 have e:cY ss S goals ss.length i=cY ss S goals (ss.length+1) i:=TK h S goals _ _ i (by omega) (by omega) hi;rw[e];rfl
theorem OF{ss:List St}{S:Nat->Bool}{g1 g2:List Int}(hg:∀k,mn ss g1 k=mn ss g2 k):∀(f i:Nat),cY ss S g1 f i=cY ss S g2 f i:=by
 have hp:∀i,mB ss S g1 i=mB ss S g2 i:=by
  intro i;unfold mB;rw[show mn ss g1=mn ss g2 from funext hg]
 intro f
 induction f with
 |zero=>intro i;rfl
 |succ f ih=>?_
 intro i;simp only[cY];rw[hp i,ih,show cY ss S g1 f=cY ss S g2 f from funext ih]
def gJ(ol:Ol)(s:Sd)(t:Int):Int:=match ol.bG[t.toNat]? with|some x=>if x.target==45 then-1 else goal ol.ag s (place ol.ag x.target)|none=>-1
theorem TM{ol:Ol}(s:Sd)(k:Nat):∀(l:List Int),mn ol.ag (l.map (gJ ol s)) k=mn ol.ag (bU ol s l) k:=by
 intro l
 induction l with
 |nil=>rfl
 |cons t l ih=>?_
 unfold mn at ih⊢;rw[List.map_cons,List.any_cons,ih]
 rcases hq:ol.bG[t.toNat]? with _|x
 ·have h1:gJ ol s t= -1:=by unfold gJ;rw[hq]
  have h2:bU ol s (t::l)=bU ol s l:=by simp only[bU];rw[hq]
  rw[h1,h2];simp
 by_cases c:(x.target==45)=true
 ·have h1:gJ ol s t= -1:=by unfold gJ;rw[hq];simp only;rw[if_pos c]
  have h2:bU ol s (t::l)=bU ol s l:=by simp only[bU];rw[hq];simp only;rw[if_pos c]
  rw[h1,h2];simp
 have h1:gJ ol s t=goal ol.ag s (place ol.ag x.target):=by unfold gJ;rw[hq];simp only;rw[if_neg c]
 have h2:bU ol s (t::l)=goal ol.ag s (place ol.ag x.target)::bU ol s l:=by simp only[bU];rw[hq];simp only;rw[if_neg c]
 rw[h1,h2,List.any_cons]
theorem TN(p:Nat->Bool)(nm:Nat->Int):∀(l:List Nat) (c:Int),(∀k∈l,p k=false)/\l.foldl (λc k=>if p k then nm k else c) c=c\/∃k∈l,p k=true/\l.foldl (λc k=>if p k then nm k else c) c=nm k:=by
 intro l
 induction l with
 |nil=>intro c;exact .inl ⟨by simp,rfl⟩
 |cons a l ih=>?_
 intro c;simp only[List.foldl_cons]
 rcases ih (if p a then nm a else c)with⟨h1,h2⟩|⟨k,hk,h1,h2⟩
 ·cases q:p a with
  |true=>
   rw[q]at h2;simp only[if_true]at h2⊢;exact .inr ⟨a,by simp,q,h2⟩
  |false=>
   rw[q]at h2;simp only[Bool.false_eq_true,if_false]at h2⊢;refine .inl ⟨λk hk=>?_,h2⟩
   rcases List.mem_cons.1 hk with rfl|hk
   ·exact q
   exact h1 k hk
 exact .inr ⟨k,by simp[hk],h1,h2⟩
theorem Xn{ol:Ol}(hO:Ah ol){s:Sd}(hI:Inv ol s)(left:List Bool){k p:Nat}(hk:k<ol.ag.length)(hh:cX ol.ag k=true)(hp:aw ol.ag k=p):
 aR (rem ol.ag s left) k=(cQ ol.ag p).foldl (λc j=>if bit left p&&bit s.act j then dN ol.ag j else c) (aR s k):=by
 have h16:=hO.le;have e:aR (rem ol.ag s left) k=(mJ ol.ag s.act left (min ol.ag.length 16) 0 s.past).getD k 0:=rfl;rw[e,Bh _ _ _ _ _ _ (by have:=hI.lp;omega)]
 have hk2:aA ol.ag p=2:=by
  have:=(hO.qg.hs k hk (.inl (by rw[uE hk]at hh;simpa using hh))).2;rw[hp]at this;exact this
 unfold ry;rw[hh,hp,cT]
 rcases TN (λj=>bit left p&&bit s.act j) (dN ol.ag) (cQ ol.ag p) (aR s k)with⟨h1,h2⟩|⟨j,hj,h1,h2⟩
 ·rw[h2]
  split
  ·rename_i c
   exfalso;have hc:=c.2.2;simp only[Bool.true_and,Bool.and_eq_true,bne_iff_ne]at hc
   rcases vz ol.ag s.act (p:Int)with⟨e2,_⟩|⟨j,e2,hj1,hj2⟩
   ·exact hc.2 e2
   have:=h1 j (bJ.2 hj2);rw[hc.1,hj1]at this;cases this
  rfl
 rw[h2];simp only[Bool.and_eq_true]at h1
 rcases vz ol.ag s.act (p:Int)with⟨e2,hz⟩|⟨i,e2,hi1,hi2⟩
 ·have:=hz j h1.2;rw[bJ.1 hj]at this;cases this
 have hij:i=j:=hI.conf.one p i j hk2 hi2 (bJ.1 hj) hi1 h1.2;subst hij;rw[e2,h1.1,if_pos ⟨by omega,by omega,by simp⟩,Int.toNat_natCast]
end Ch
end Go.Proofs.YtnlbchmfcebeeaaGreat
