import Derived.Test.YtnlbchmfcebeeaaGreatTLg
set_option maxHeartbeats 12800000
set_option maxRecDepth 100000
namespace Go.Proofs.YtnlbchmfcebeeaaGreat
open Go.Proofs.Tryz Ch
namespace Ch
def dW(t:ByteArray):List Int:=t.data.toList.map λb=>(b.toNat:Int)
structure RT where
 text:ByteArray
 pos:Int
structure RN where
 name:Int
 kind:Int
 parent:Int
 pos:Int
 enter:List ByteArray
 leave:List ByteArray
 trans:List RT
def RN.st(n:RN):St:=⟨n.name,n.pos,n.kind,n.parent⟩
def jY(t:ByteArray)(b:Int):Nat->Nat->Nat
 |0,i=>i
 |f+1,i=>if af t i==b then i else jY t b f (i+1)
def gR(t:ByteArray)(frm:Nat)(b:Int):Nat:=if frm<=t.size then jY t b (t.size-frm) frm else t.size
def fZ(t:ByteArray)(at_:Nat):Nat:=gR t ((if af t (at_+1)==63 then at_+4 else at_)+1) 62+1
def vU(L:List RN)(i:Int):Option RN:=match i with| .ofNat k=>L[k]? | .negSucc _=>none
def mM(L:List RN)(i:Int)(f:RN->RN):List RN:=match i with| .ofNat k=>L.modify k f| .negSucc _=>L
def fQ(L:List RN)(i:Int):List RN:=match vU L i with|some n=>if n.kind==1 then mM L i (λn=>{n with kind:=2})else L|none=>L
def lR(t:ByteArray)(i:Nat)(up:Int)(L:List RN):Option (Nat×Int×List RN):=
 if isOpen (af t i)then
  if i+1<t.size/\(up<0\/(vU L up).isSome=true)then
   some (if af t i==60 then i+2 else i+1,if af t i==60||af t i==42 then up else L.length,fQ L up++[⟨af t (i+1),kindOf (af t i),up,i+1,[],[],[]⟩])
  else none
 else if af t i==41||af t i==93 then
  match vU L up with
  |some n=>some (i,n.parent,L)
  |none=>none
 else if af t i==58 then
  if i+2<t.size/\fZ t (i+1)+1<=t.size/\i+1<=fZ t (i+1)+1/\(vU L up).isSome=true then
   some (fZ t (i+1),up,mM L up λn=>{n with trans:=n.trans++[⟨t.extract (i+1) (fZ t (i+1)+1),i+1⟩]})
  else none
 else if af t i==94||af t i==36 then
  if i+1<=gR t i 59/\(vU L up).isSome=true then
   some (gR t i 59,up,mM L up λn=>if af t i==94 then {n with enter:=n.enter++[t.extract (i+1) (gR t i 59)]}else {n with leave:=n.leave++[t.extract (i+1) (gR t i 59)]})
  else none
 else some (i,up,L)
def abr(t:ByteArray):Nat->Nat->Int->List RN->List RN->Prop
 |0,_,_,_,_=>False
 |f+1,i,up,L,res=>(t.size<=i/\res=L)\/(i<t.size/\∃j up' L',lR t i up L=some (j,up',L')/\abr t f (j+1) up' L' res)
def gE(t:ByteArray)(i:Nat)(up:Int)(L res:List RN):Prop:=∃f,abr t f i up L res
section
variable {t:ByteArray}
theorem gE.done{i:Nat}{up:Int}{L:List RN}(h:t.size<=i):gE t i up L L:=⟨1,.inl ⟨h,rfl⟩⟩
theorem gE.step{i j:Nat}{up up':Int}{L L' res:List RN}(hi:i<t.size)(hs:lR t i up L=some (j,up',L'))(hn:gE t (j+1) up' L' res):gE t i up L res:=by
 obtain⟨f,hf⟩:=hn;exact⟨f+1,.inr ⟨hi,j,up',L',hs,hf⟩⟩
theorem gE.inv{i:Nat}{up:Int}{L res:List RN}(h:gE t i up L res):(t.size<=i/\res=L)\/(i<t.size/\∃j up' L',lR t i up L=some (j,up',L')/\gE t (j+1) up' L' res):=by
 obtain⟨f,hf⟩:=h
 cases f with
 |zero=>exact hf.elim
 |succ f=>?_
 rcases hf with h|⟨hi,j,up',L',hs,hn⟩
 ·exact .inl h
 exact .inr ⟨hi,j,up',L',hs,f,hn⟩
theorem gE.ind{M:Nat->Int->List RN->List RN->Prop}(hd:∀{i:Nat} {up:Int} {L:List RN},t.size<=i->M i up L L)(hs:∀{i j:Nat} {up up':Int} {L L' res:List RN},i<t.size->lR t i up L=some (j,up',L')->M (j+1) up' L' res->M i up L res){i:Nat}{up:Int}{L res:List RN}(h:gE t i up L res):M i up L res:=by
 obtain⟨f,hf⟩:=h
 induction f generalizing i up L with
 |zero=>exact hf.elim
 |succ f ih=>?_
 rcases hf with⟨h,rfl⟩|⟨hi,j,up',L',hst,hn⟩
 ·exact hd h
 exact hs hi hst (ih hn)
end
def Ef(t:ByteArray)(p q:Nat):List Int:=(List.range (q-p)).map λj=>af t (p+j)
theorem Ae(t:ByteArray)(p:Nat):Ef t p p=[]:=by simp[Ef]
theorem f_{t:ByteArray}{p q:Nat}(h:p<q):Ef t p q=af t p::Ef t (p+1) q:=by
 unfold Ef;rw[show q-p=(q-(p+1))+1 by omega,List.range_succ_eq_map];simp only[List.map_cons,List.map_map,Nat.add_zero,List.cons.injEq,true_and];apply List.map_congr_left;intro j _;simp[Function.comp]
 congr 1;omega
theorem seg_append{t:ByteArray}{p q r:Nat}(h1:p<=q)(h2:q<=r):Ef t p r=Ef t p q++Ef t q r:=by
 obtain⟨k,rfl⟩:∃k,q=p+k:=⟨q-p,by omega⟩
 clear h1
 induction k generalizing p with
 |zero=>simp[Ae]
 |succ k ih=>?_
 rw[f_ (show p<r by omega),f_ (show p<p+(k+1)by omega)];have:=ih (p:=p+1) (by omega);rw[show p+1+k=p+(k+1)by omega]at this;rw[this];rfl
theorem wH(t:ByteArray)(p:Nat):Ef t p (p+1)=[af t p]:=by rw[f_ (by omega),Ae]
theorem Qi(t:ByteArray)(p q:Nat):(Ef t p q).length=q-p:=by simp[Ef]
theorem ZF{t:ByteArray}{p q j:Nat}(h:j<q-p):(Ef t p q)[j]? =some (af t (p+j)):=by
 unfold Ef;rw[List.getElem?_map,List.getElem?_range h];rfl
theorem tq{t:ByteArray}{p q:Nat}(hq:q<=t.size):dW (t.extract p q)=Ef t p q:=by
 unfold dW;have hsz:t.data.size=t.size:=rfl;rw[ByteArray.data_extract];apply List.ext_getElem?;intro j
 by_cases hj:j<q-p
 ·rw[ZF hj,List.getElem?_map]
  have e:(t.data.extract p q).toList[j]? =some (t.data[p+j]'(by omega)):=by
   rw[Array.getElem?_toList];rw[Array.getElem?_extract];rw[if_pos (by omega),Array.getElem?_eq_getElem (by omega)]
  rw[e];simp only[Option.map_some,Option.some.injEq];unfold af;rw[dif_pos (by omega)];rfl
 rw[List.getElem?_eq_none (by simp;omega),List.getElem?_eq_none (by rw[Qi];omega)]
theorem Sf{t:ByteArray}{b:Int}:∀(f i q:Nat),i<=q->q<=i+f->(∀x∈Ef t i q,x≠b)->(af t q=b\/q=i+f)->jY t b f i=q:=by
 intro f
 induction f with
 |zero=>intro i q h1 h2 _ _;simp[jY];omega
 |succ f ih=>?_
 intro i q h1 h2 h3 h4;simp only[jY]
 by_cases e:i=q
 ·subst e
  rcases h4 with h4|h4
  ·simp[h4]
  omega
 rw[f_ (show i<q by omega)]at h3
 have:(af t i==b)=false:=by have:=h3 (af t i) (by simp);simpa using this
 rw[this];simp only[Bool.false_eq_true,if_false];exact ih (i+1) q (by omega) (by omega) (λx hx=>h3 x (by simp[hx])) (by omega)
theorem Je{t:ByteArray}{b:Int}{i q:Nat}(h1:i<=q)(h2:q<t.size)(h3:∀x∈Ef t i q,x≠b)(h4:af t q=b):gR t i b=q:=by
 unfold gR;rw[if_pos (by omega)];exact Sf _ _ _ h1 (by omega) h3 (Or.inl h4)
def yU(sign:Int):Bool:=sign==64||sign==43||sign==45||sign==61
def vq(a:Ac):List Int:=if yU a.sign then[a.sign,a.letter,48+a.digit]else[a.sign,a.letter]
def enc(l:List Ac):List Int:=l.flatMap vq
def uB(a:Ac):Prop:=
 ((a.sign=33\/a.sign=126\/a.sign=35)/\bR a.letter=true/\a.digit=0)\/(a.sign=64/\bR a.letter=true/\1<=a.digit/\a.digit<=9)\/
 ((a.sign=43\/a.sign=45\/a.sign=61)/\gw a.letter=true/\0<=a.digit/\a.digit<=9)
theorem uC{c:Int}(h:gw c=true):c=120\/c=121\/c=122:=by simp[gw]at h;omega
theorem Qj{c:Int}(h:bR c=true):97<=c/\c<=122:=by simp[bR]at h;exact h
theorem GB{lo c:Int}(h:eI lo c=true):lo<=c/\c<=57:=by simp[eI]at h;exact h
theorem uB.no{a:Ac}(h:uB a):∀x∈vq a,x≠59/\x≠62/\x≠63:=by
 intro x hx;unfold vq at hx
 rcases h with⟨h1,h2,h3⟩|⟨h1,h2,h3⟩|⟨h1,h2,h3⟩
 ·have:=Qj h2
  split at hx<;>simp at hx<;>omega
 ·have:=Qj h2
  split at hx<;>simp at hx<;>omega
 have:=uC h2
 split at hx<;>simp at hx<;>omega
theorem Ng{l:List Ac}(h:∀a∈l,uB a):∀x∈enc l,x≠59/\x≠62/\x≠63:=by
 intro x hx;simp only[enc,List.mem_flatMap]at hx;obtain⟨a,ha,hx⟩:=hx;exact(h a ha).no x hx
theorem ZG{t:ByteArray}{p:Nat}(h:(act t p ⟨af t p,0,0⟩).1=true):
 uB (act t p ⟨af t p,0,0⟩).2.1/\Ef t p (act t p ⟨af t p,0,0⟩).2.2=vq (act t p ⟨af t p,0,0⟩).2.1:=by
 unfold act at*;simp only at*
 split
 ·rename_i q
  rw[if_pos q]at h;have hev:bR (af t (p+1))=true:=h
  have q':af t p=33\/af t p=126\/af t p=35:=by simp at q;omega
  simp only[fU,bI,hev,if_true];refine⟨Or.inl ⟨q',hev,rfl⟩,?_⟩;rw[f_ (by omega),wH];unfold vq yU
  rcases q' with q'|q'|q'<;>simp[q']
 rename_i q1;rw[if_neg q1]at h
 split
 ·rename_i q
  rw[if_pos q]at h
  have q':af t p=64:=by simpa using q
  simp only[py,jC]at h⊢
  by_cases hev:bR (af t (p+1))=true
  ·have e1:(fU t p ⟨af t p,0,0⟩).1=true:=hev
   simp only[e1,if_true]at h⊢
   have e2:(fU t p ⟨af t p,0,0⟩).2.2=p+2:=by simp[fU,bI,hev]
   rw[e2]at h⊢;have hd:=GB h;simp only[bI,h,if_true];refine⟨Or.inr (Or.inl ⟨q',hev,by simp only;omega,by simp only;omega⟩),?_⟩;rw[f_ (by omega),f_ (by omega),wH];rw[show p+1+1=p+2 by rfl];simp[vq,yU,fU,q'];omega
  have e1:(fU t p ⟨af t p,0,0⟩).1=false:=by simpa[fU]using hev
  rw[e1]at h;simp[e1]at h
 rename_i q2;rw[if_neg q2]at h
 split
 ·rename_i q
  rw[if_pos q]at h
  have q':af t p=43\/af t p=45\/af t p=61:=by simp at q;omega
  simp only[kN,jC]at h⊢
  by_cases hev:gw (af t (p+1))=true
  ·have e1:(gx t p ⟨af t p,0,0⟩).1=true:=hev
   simp only[e1,if_true]at h⊢
   have e2:(gx t p ⟨af t p,0,0⟩).2.2=p+2:=by simp[gx,bI,hev]
   rw[e2]at h⊢;have hd:=GB h;simp only[bI,h,if_true];refine⟨Or.inr (Or.inr ⟨q',hev,by simp only;omega,by simp only;omega⟩),?_⟩;rw[f_ (by omega),f_ (by omega),wH]
   have:yU (af t p)=true:=by unfold yU;rcases q' with q'|q'|q'<;>simp[q']
   rw[show p+1+1=p+2 by rfl];simp[vq,gx,this];omega
  have e1:(gx t p ⟨af t p,0,0⟩).1=false:=by simpa[gx]using hev
  rw[e1]at h;simp[e1]at h
 rename_i q3;rw[if_neg q3]at h;simp at h
theorem Sg{t:ByteArray}{cl:Int}(hcl:cl≠0):∀(n p:Nat) (l:List Ac),p<=t.size->(fM t cl n p l).1=true->
 ∃m,(fM t cl n p l).2.1=l++m/\(∀a∈m,uB a)/\p<(fM t cl n p l).2.2/\(fM t cl n p l).2.2<=t.size/\Ef t p ((fM t cl n p l).2.2-1)=enc m/\af t ((fM t cl n p l).2.2-1)=cl:=by
 intro n
 induction n with
 |zero=>intro p l _ h;simp[fM]at h
 |succ n ih=>?_
 intro p l hp h
 cases q:af t p==cl with
 |true=>
  rw[iT q]at h⊢;have:=cL hcl q;refine⟨[],by simp,by simp,by simp,by simp only;omega,?_,by simpa using q⟩;simp[enc,Ae]
 |false=>?_
 cases q2:(act t p ⟨af t p,0,0⟩).1 with
 |false=>rw[pE q q2]at h;simp at h
 |true=>?_
 rw[jS q q2]at h⊢;have h1:=zT q2;obtain⟨v,e⟩:=ZG q2;obtain⟨m,m1,m2,m3,m4,m5,m6⟩:=ih _ _ (pD hp 0 0) h;refine⟨(act t p ⟨af t p,0,0⟩).2.1::m,by rw[m1];simp,?_,by omega,m4,?_,m6⟩
 ·intro a ha
  rcases List.mem_cons.1 ha with rfl|ha
  ·exact v
  exact m2 a ha
 rw[seg_append (q:=(act t p ⟨af t p,0,0⟩).2.2) (by omega) (by omega),e,m5];simp[enc]
theorem Jf{t:ByteArray}{cl:Int}{p:Nat}(hcl:cl≠0)(hp:p<=t.size)(h:(acts t cl p).1=true):
 (∀a∈(acts t cl p).2.1,uB a)/\p<(acts t cl p).2.2/\(acts t cl p).2.2<=t.size/\Ef t p ((acts t cl p).2.2-1)=enc (acts t cl p).2.1/\af t ((acts t cl p).2.2-1)=cl:=by
 obtain⟨m,m1,m2,m3,m4,m5,m6⟩:=Sg hcl (t.size+1) p [] hp h
 have e:(acts t cl p).2.1=m:=by simpa[acts]using m1
 rw[e];exact⟨m2,m3,m4,m5,m6⟩
def GC(g:Gd):List Int:=if g.sign==0 then[]else[63,g.var,g.sign,48+g.digit]
def GdV(g:Gd):Prop:=g=⟨0,0,0⟩\/(gw g.var=true/\me g.sign=true/\0<=g.digit/\g.digit<=9)
theorem Si{t:ByteArray}{p:Nat}(h:(guard t p ⟨0,0,0⟩).1=true):
 GdV (guard t p ⟨0,0,0⟩).2.1/\Ef t p (guard t p ⟨0,0,0⟩).2.2=GC (guard t p ⟨0,0,0⟩).2.1/\
  ((af t p==63)=true/\(guard t p ⟨0,0,0⟩).2.2=p+4\/(af t p==63)=false/\(guard t p ⟨0,0,0⟩).2.2=p):=by
 unfold guard at*
 split
 ·rename_i q
  rw[if_pos q]at h
  split
  ·rename_i q1
   rw[if_pos q1]at h
   split
   ·rename_i q2
    rw[if_pos q2]at h;simp only at h;have hd:=GB h
    have q':af t p=63:=by simpa using q
    simp only[bI,h,if_true];refine⟨Or.inr ⟨q1,q2,by simp only;omega,by simp only;omega⟩,?_,Or.inl ⟨q,trivial⟩⟩;rw[f_ (by omega),f_ (by omega),f_ (by omega),wH]
    have:(af t (p+2)==0)=false:=by simp[me]at q2;simp;omega
    rw[show p+1+1=p+2 by rfl,show p+2+1=p+3 by rfl];simp[GC,q',this];omega
   rename_i q2;rw[if_neg q2]at h;simp at h
  rename_i q1;rw[if_neg q1]at h;simp at h
 rename_i q;exact⟨Or.inl rfl,by simp[Ae,GC],Or.inr ⟨by simpa using q,rfl⟩⟩
def su{α β:Type}(R:α->β->Prop):List α->List β->Prop
 | [],[]=>True
 |a::l,b::m=>R a b/\su R l m
 |_,_=>False
section
variable {α β:Type} {R:α->β->Prop}
theorem su.nil:su R [] []:=trivial
theorem su.cons{a:α}{b:β}{l:List α}{m:List β}(h:R a b)(k:su R l m):su R (a::l) (b::m):=⟨h,k⟩
theorem su.ind{M:(l:List α)->(m:List β)->su R l m->Prop}(nil:M [] [] .nil)(cons:∀{a:α} {b:β} {l:List α} {m:List β} (h:R a b) (k:su R l m),M l m k->M (a::l) (b::m) (.cons h k)):∀{l:List α} {m:List β} (h:su R l m),M l m h:=by
 intro l
 induction l with
 |nil=>
  intro m h
  cases m with
  |nil=>exact nil
  |cons b m=>exact h.elim
 |cons a l ih=>?_
 intro m h
 cases m with
 |nil=>exact h.elim
 |cons b m=>exact cons h.1 h.2 (ih h.2)
end
theorem su.snoc{α β:Type}{R:α->β->Prop}{l:List α}{m:List β}(h:su R l m){a:α}{b:β}(hab:R a b):su R (l++[a]) (m++[b]):=by
 induction h using su.ind with
 |nil=>exact su.cons hab .nil
 |cons h _ ih=>exact su.cons h ih
theorem su.len{α β:Type}{R:α->β->Prop}{l:List α}{m:List β}(h:su R l m):l.length=m.length:=by
 induction h using su.ind with
 |nil=>rfl
 |cons _ _ ih=>simp[ih]
structure vu(rt:RT)(x:Tr):Prop where
 tg:jF x.kr=true
 gd:GdV x.guard
 ac:∀a∈x.acts,uB a
 ta:kf x.target=true
 txt:dW rt.text=x.kr::(GC x.guard++(enc x.acts++[62,x.target]))
 pos:0<=rt.pos
structure VS(s:ByteArray)(x:Bl):Prop where
 ac:∀a∈x.acts,uB a
 txt:dW s=enc x.acts
def tu(rt:RT)(x:Tr):List Us:=(if bx x.kr then[⟨x.kr,rt.pos⟩]else[])++(if bx x.target then[⟨x.target,rt.pos+(dW rt.text).length-1⟩]else[])
def oV(k:Nat)(x:Tr):Bool:=x.state==(k:Int)
def lS(k:Nat)(sg:Int)(x:Bl):Bool:=x.state==(k:Int)&&x.sign==sg
structure NR(L:List RN)(r:Rs):Prop where
 ag:L.map RN.st=r.ag
 bG:∀(k:Nat) (n:RN),L[k]? =some n->su vu n.trans (r.bG.filter (oV k))
 rR:∀(k:Nat) (n:RN),L[k]? =some n->su VS n.enter (r.dz.filter (lS k 94))
 rD:∀(k:Nat) (n:RN),L[k]? =some n->su VS n.leave (r.dz.filter (lS k 36))
 ts:∀x∈r.bG,x.state<L.length
 bs:∀x∈r.dz,x.state<L.length
 us:∀u,u∈r.uses↔∃(k:Nat) (n:RN) (rt:RT) (x:Tr),L[k]? =some n/\rt∈n.trans/\vu rt x/\u∈tu rt x
 so:r.uses.Pairwise λa b=>a.pos<b.pos
 lo:∀u∈r.uses,u.pos<r.pos
 wf:∀(k:Nat) (n:RN),L[k]? =some n-> -1<=n.parent/\n.parent<k/\bx n.name=true/\((n.kind=4\/n.kind=5)->0<=n.parent)/\1<=n.kind/\n.kind<=5/\0<=n.pos
 pk:∀(k:Nat) (n p:RN),L[k]? =some n->vU L n.parent=some p->p.kind=2\/p.kind=3
theorem jg{L:List RN}{i:Int}{n:RN}(h:vU L i=some n):∃k:Nat,i=k/\L[k]? =some n/\k<L.length:=by
 cases i with
 |ofNat k=>exact⟨k,rfl,h,(List.getElem?_eq_some_iff.1 (show L[k]? =some n from h)).1⟩
 |negSucc k=>simp[vU]at h
theorem gF{L:List RN}{k:Nat}{f:RN->RN}(j:Nat):(mM L (k:Int) f)[j]? =if k=j then L[j]?.map f else L[j]?:=by
 show(L.modify k f)[j]? =_;rw[List.getElem?_modify]
 split<;>simp
theorem tz{L:List RN}{i:Int}{f:RN->RN}:(mM L i f).length=L.length:=by
 unfold mM;split<;>simp
def Vb(n:RN):Prop:=n.kind=1\/n.kind=2\/n.kind=3
def Af(L L':List RN):Prop:=∀(k:Nat) (n:RN),L[k]? =some n->∃n',L'[k]? =some n'/\n'.parent=n.parent/\(Vb n->Vb n')
theorem Af.refl(L:List RN):Af L L:=λ_ n h=>⟨n,h,rfl,id⟩
theorem Af.trans{A B C:List RN}(h:Af A B)(g:Af B C):Af A C:=by
 intro k n hn;obtain⟨m,hm,e,b⟩:=h k n hn;obtain⟨m',hm',e',b'⟩:=g k m hm;exact⟨m',hm',e'.trans e,λx=>b' (b x)⟩
theorem Af.len{A B:List RN}(h:Af A B):A.length<=B.length:=by
 rcases Nat.eq_zero_or_pos A.length with e|e
 ·omega
 obtain⟨m,hm,_⟩:=h (A.length-1) _ (List.getElem?_eq_getElem (by omega));have:=(List.getElem?_eq_some_iff.1 hm).1;omega
theorem Af.at_{A B:List RN}(h:Af A B){i:Int}{n:RN}(hn:vU A i=some n):∃n',vU B i=some n'/\n'.parent=n.parent/\(Vb n->Vb n'):=by
 obtain⟨k,rfl,hk,_⟩:=jg hn;exact h k n hk
theorem Af.mod(L:List RN)(i:Int)(f:RN->RN)(hf:∀n,(f n).parent=n.parent/\(f n).kind=n.kind):Af L (mM L i f):=by
 intro k n hn
 cases i with
 |negSucc j=>exact⟨n,hn,rfl,id⟩
 |ofNat j=>?_
 rw[show(mM L (Int.ofNat j) f)[k]? =_ from gF (L:=L) (k:=j) (f:=f) k]
 split
 ·exact⟨f n,by rw[hn];rfl,(hf n).1,λb=>by unfold Vb at*;rw[(hf n).2];exact b⟩
 exact⟨n,hn,rfl,id⟩
theorem vw(L:List RN)(i:Int)(f:RN->RN)(hf:∀n,(f n).st=n.st):(mM L i f).map RN.st=L.map RN.st:=by
 cases i with
 |negSucc j=>rfl
 |ofNat j=>?_
 apply List.ext_getElem?;intro k;rw[List.getElem?_map,List.getElem?_map,show(mM L (Int.ofNat j) f)[k]? =_ from gF (L:=L) (k:=j) (f:=f) k]
 split
 ·cases L[k]? <;>simp[hf]
 rfl
theorem Nh{L:List RN}{i:Int}{f:RN->RN}(hf:∀n,(f n).st=n.st){k:Nat}{n:RN}(h:(mM L i f)[k]? =some n):∃m,L[k]? =some m/\n.st=m.st:=by
 have e:=congrArg (λl:List St=>l[k]?) (vw L i f hf);simp only[List.getElem?_map,h]at e
 cases hm:L[k]? with
 |none=>rw[hm]at e;simp at e
 |some m=>rw[hm]at e;simp at e;exact⟨m,rfl,e⟩
theorem GD{L:List RN}{r:Rs}(h:NR L r){i:Int}{f:RN->RN}(hf:∀n,(f n).st=n.st):
 (∀(k:Nat) (n:RN),(mM L i f)[k]? =some n-> -1<=n.parent/\n.parent<k/\bx n.name=true/\((n.kind=4\/n.kind=5)->0<=n.parent)/\1<=n.kind/\n.kind<=5/\0<=n.pos)/\
 ∀(k:Nat) (n p:RN),(mM L i f)[k]? =some n->vU (mM L i f) n.parent=some p->p.kind=2\/p.kind=3:=by
 have eq:∀{a b:RN},a.st=b.st->a.name=b.name/\a.pos=b.pos/\a.kind=b.kind/\a.parent=b.parent:=by
  intro a b e;simp only[RN.st,St.mk.injEq]at e;exact e
 constructor
 ·intro k n hn
  obtain⟨m,hm,e⟩:=Nh hf hn;obtain⟨e1,e2,e3,e4⟩:=eq e;have:=h.wf k m hm;rw[e1,e2,e3,e4];exact this
 intro k n p hn hp;obtain⟨m,hm,e⟩:=Nh hf hn;obtain⟨j,hj,hp',_⟩:=jg hp;obtain⟨q,hq,e'⟩:=Nh hf hp';have:=h.pk k m q hm (by rw[<-(eq e).2.2.2,hj];exact hq);rw[(eq e').2.2.1];exact this
theorem lT{c:Int}{p:Nat}{us:List Us}{u:Us}:u∈cF c p us↔u∈us\/(bx c=true/\u=⟨c,p⟩):=by
 unfold cF;split
 ·rename_i q;simp[q]
 rename_i q;simp[q]
theorem AW{c:Int}{p:Nat}{us:List Us}(h:us.Pairwise λa b=>a.pos<b.pos)(hl:∀u∈us,u.pos<(p:Int)):(cF c p us).Pairwise λa b=>a.pos<b.pos:=by
 unfold cF;split
 ·rw[List.pairwise_append]
  refine⟨h,by simp,?_⟩;intro a ha b hb;simp at hb;subst hb;exact hl a ha
 exact h
theorem AX(a d e:Int)(b c:List Int):(a::(b++(c++[d,e]))).getLast?=some e:=by
 rw[show a::(b++(c++[d,e]))=(a::(b++(c++[d])))++[e]by simp,List.getLast?_append];rfl
theorem AY{t:ByteArray}{r:Rs}{L:List RN}{self:Int}{nd:RN}(h:NR L r)(ok:Ok t r)(hq:(af t r.pos==58)=true)(ha:vU L self=some nd)(ht:(transition t self r).1=true):
 ∃L',lR t r.pos self L=some ((transition t self r).2.pos-1,self,L')/\1<=(transition t self r).2.pos/\NR L' (transition t self r).2/\Af L L':=by
 have hp:=cL (by decide) hq
 have q':af t r.pos=58:=by simpa using hq
 have hok:=ix self hp ok;unfold transition at ht hok⊢
 by_cases q1:jF (af t (r.pos+1))=true
 ·have l1:=vk q1
  rw[if_pos q1]at ht hok⊢;have hg:=sN (t:=t) (p:=r.pos+1+1) ⟨0,0,0⟩ (by omega);have gs:=Si (t:=t) (p:=r.pos+1+1)
  have afo:(guard t (r.pos+1+1) ⟨0,0,0⟩).1=true->(if af t (r.pos+1+1)==63 then r.pos+1+4 else r.pos+1)+1=(guard t (r.pos+1+1) ⟨0,0,0⟩).2.2:=by
   intro hh
   rcases(gs hh).2.2 with⟨a,b⟩|⟨a,b⟩<;>rw[a,b]<;>simp<;>omega
  generalize guard t (r.pos+1+1) ⟨0,0,0⟩=gg at*
  by_cases q2:gg.1=true
  ·rw[if_pos q2]at ht hok⊢
   obtain⟨g1,g2,g3⟩:=gs q2;have acH:=Jf (t:=t) (cl:=62) (p:=gg.2.2) (by decide) hg.2;generalize acts t 62 gg.2.2=aa at*
   by_cases q3:aa.1=true
   ·rw[if_pos q3]at ht hok⊢
    obtain⟨a1,a2,a3,a4,a5⟩:=acH q3;simp only at ht hok⊢;have hlt:=AE ht
    have hre:fZ t (r.pos+1)=aa.2.2:=by
     unfold fZ;rw[afo q2,Je (q:=aa.2.2-1) (by omega) (by omega) (by rw[a4];intro x hx;exact(Ng a1 x hx).2.1) a5];omega
    have hs1:bI (kf (af t aa.2.2)) aa.2.2=aa.2.2+1:=by simp[bI,ht]
    rw[hs1]at hok⊢;obtain⟨k,rfl,hk,hkl⟩:=jg ha
    have hsome:(vU L (k:Int)).isSome=true:=by rw[ha];rfl
    have htx:dW (t.extract (r.pos+1) (aa.2.2+1))=af t (r.pos+1)::(GC gg.2.1++(enc aa.2.1++[62,af t aa.2.2])):=by
     rw[tq (by omega),f_ (by omega),seg_append (q:=gg.2.2) (by omega) (by omega),g2,seg_append (q:=aa.2.2-1) (by omega) (by omega),a4,f_ (by omega),a5];rw[show aa.2.2-1+1=aa.2.2 by omega,wH]
    have hlen:(dW (t.extract (r.pos+1) (aa.2.2+1))).length=aa.2.2-r.pos:=by rw[tq (by omega),Qi];omega
    have hto:∀st,vu ⟨t.extract (r.pos+1) (aa.2.2+1),(r.pos:Int)+1⟩ ⟨st,af t (r.pos+1),gg.2.1,aa.2.1,af t aa.2.2⟩:=
     λst=>⟨q1,g1,a1,ht,htx,by simp only;omega⟩
    refine⟨mM L (k:Int) λn=>{n with trans:=n.trans++[⟨t.extract (r.pos+1) (aa.2.2+1),(r.pos:Int)+1⟩]},by
     unfold lR;rw[q'];simp only[show isOpen 58=false by decide,Bool.false_eq_true,if_false,show((58:Int)==41||(58:Int)==93)=false by decide,show((58:Int)==58)=true by decide,if_true];rw[if_pos ⟨by omega,by omega,by omega,hsome⟩,hre]
     rfl,by omega,?_,Af.mod _ _ _ (λn=>⟨rfl,rfl⟩)⟩
    have hne:∀(k':Nat) (n:RN),(mM L (k:Int) λn=>{n with trans:=n.trans++[⟨t.extract (r.pos+1) (aa.2.2+1),(r.pos:Int)+1⟩]})[k']? =some n->∃m,L[k']? =some m/\n.enter=m.enter/\n.leave=m.leave/\n.trans=if k=k' then m.trans++[⟨t.extract (r.pos+1) (aa.2.2+1),(r.pos:Int)+1⟩]else m.trans:=by
     intro k' n hn;rw[gF]at hn
     split at hn
     ·rename_i e
      rw[Option.map_eq_some_iff]at hn;obtain⟨m,hm,rfl⟩:=hn;exact⟨m,hm,rfl,rfl,by simp[e]⟩
     rename_i e;exact⟨n,hn,rfl,rfl,by simp[e]⟩
    refine⟨?_,?_,?_,?_,?_,?_,?_,?_,?_,(GD h (by intro n;rfl)).1,(GD h (by intro n;rfl)).2⟩
    ·exact(vw _ _ _ (by intro n;rfl)).trans h.ag
    ·intro k' n hn
     obtain⟨m,hm,_,_,e3⟩:=hne k' n hn;rw[e3,List.filter_append]
     split
     ·rename_i e
      subst e;rw[show List.filter (oV k) [(⟨(k:Int),af t (r.pos+1),gg.2.1,aa.2.1,af t aa.2.2⟩:Tr)]=[⟨(k:Int),af t (r.pos+1),gg.2.1,aa.2.1,af t aa.2.2⟩]by simp[oV]];exact(h.bG k m hm).snoc (hto _)
     rename_i e;rw[show List.filter (oV k') [(⟨(k:Int),af t (r.pos+1),gg.2.1,aa.2.1,af t aa.2.2⟩:Tr)]=[]by simp[oV];omega,List.append_nil];exact h.bG k' m hm
    ·intro k' n hn
     obtain⟨m,hm,e1,_,_⟩:=hne k' n hn;rw[e1];exact h.rR k' m hm
    ·intro k' n hn
     obtain⟨m,hm,_,e2,_⟩:=hne k' n hn;rw[e2];exact h.rD k' m hm
    ·intro x hx
     rw[tz]
     rcases List.mem_append.1 hx with hx|hx
     ·exact h.ts x hx
     simp at hx;subst hx;simp only;omega
    ·intro x hx;rw[tz];exact h.bs x hx
    ·intro u
     rw[lT,lT,h.us]
     have hU:∀st,u∈tu ⟨t.extract (r.pos+1) (aa.2.2+1),(r.pos:Int)+1⟩ ⟨st,af t (r.pos+1),gg.2.1,aa.2.1,af t aa.2.2⟩↔(bx (af t (r.pos+1))=true/\u=⟨af t (r.pos+1),((r.pos+1:Nat):Int)⟩)\/(bx (af t aa.2.2)=true/\u=⟨af t aa.2.2,(aa.2.2:Int)⟩):=by
      intro st;unfold tu;simp only[hlen];rw[show((r.pos:Int)+1+((aa.2.2-r.pos:Nat):Int)-1)=(aa.2.2:Int)by omega];rw[List.mem_append]
      cases bx (af t (r.pos+1))<;>cases bx (af t aa.2.2)<;>simp
     constructor
     ·rintro((⟨k',n,rt,x,hn,hr,hx,hu⟩|hu)|hu)
      ·by_cases e:k=k'
       ·subst e
        refine⟨k,{n with trans:=n.trans++[⟨t.extract (r.pos+1) (aa.2.2+1),(r.pos:Int)+1⟩]},rt,x,?_,?_,hx,hu⟩
        ·rw[gF,if_pos rfl,hn];rfl
        simp[hr]
       exact⟨k',n,rt,x,by rw[gF,if_neg e];exact hn,hr,hx,hu⟩
      ·refine⟨k,{nd with trans:=nd.trans++[⟨t.extract (r.pos+1) (aa.2.2+1),(r.pos:Int)+1⟩]},_,_,?_,?_,hto 0,(hU 0).2 (Or.inl hu)⟩
       ·rw[gF,if_pos rfl,hk];rfl
       simp
      refine⟨k,{nd with trans:=nd.trans++[⟨t.extract (r.pos+1) (aa.2.2+1),(r.pos:Int)+1⟩]},_,_,?_,?_,hto 0,(hU 0).2 (Or.inr hu)⟩
      ·rw[gF,if_pos rfl,hk];rfl
      simp
     rintro⟨k',n,rt,x,hn,hr,hx,hu⟩;obtain⟨m,hm,_,_,e3⟩:=hne k' n hn;rw[e3]at hr
     split at hr
     ·rcases List.mem_append.1 hr with hr|hr
      ·exact Or.inl (Or.inl ⟨k',m,rt,x,hm,hr,hx,hu⟩)
      simp at hr;subst hr;have e1:=hx.txt;simp only at e1;rw[htx]at e1
      have e2:x.kr=af t (r.pos+1):=by simp at e1;exact e1.1.symm
      have e4:x.target=af t aa.2.2:=by
       have:=congrArg List.getLast? e1;rw[AX,AX]at this;simp at this;exact this.symm
      have:u∈tu ⟨t.extract (r.pos+1) (aa.2.2+1),(r.pos:Int)+1⟩ ⟨0,af t (r.pos+1),gg.2.1,aa.2.1,af t aa.2.2⟩:=by
       unfold tu at hu⊢;rw[e2,e4]at hu;exact hu
      rcases(hU 0).1 this with h|h
      ·exact Or.inl (Or.inr h)
      exact Or.inr h
     exact Or.inl (Or.inl ⟨k',m,rt,x,hm,hr,hx,hu⟩)
    ·have hb:∀u∈cF (af t (r.pos+1)) (r.pos+1) r.uses,u.pos<(aa.2.2:Int):=by
      intro u hu
      rcases lT.1 hu with hu|⟨_,rfl⟩
      ·have:=h.lo u hu;omega
      simp only;omega
     exact AW (AW h.so (λu hu=>by have:=h.lo u hu;omega)) hb
    intro u hu;simp only
    rcases lT.1 hu with hu|⟨_,rfl⟩
    ·rcases lT.1 hu with hu|⟨_,rfl⟩
     ·have:=h.lo u hu;omega
     simp only;omega
    simp only;omega
   rw[if_neg q3]at ht;simp at ht
  rw[if_neg q2]at ht;simp at ht
 rw[if_neg q1]at ht;simp at ht
theorem Sj{t:ByteArray}{r:Rs}{L:List RN}{self:Int}{nd:RN}(h:NR L r)(hq:(af t r.pos==94||af t r.pos==36)=true)(ha:vU L self=some nd)(ht:(block t self r).1=true):
 ∃L',lR t r.pos self L=some ((block t self r).2.pos-1,self,L')/\1<=(block t self r).2.pos/\NR L' (block t self r).2/\Af L L':=by
 have hp:r.pos<t.size:=by
  rcases Nat.lt_or_ge r.pos t.size with x|x
  ·exact x
  rw[b_ x]at hq;simp at hq
 unfold block at ht⊢;have acH:=Jf (t:=t) (cl:=59) (p:=r.pos+1) (by decide) hp;generalize acts t 59 (r.pos+1)=aa at*
 by_cases q3:aa.1=true
 ·rw[if_pos q3]
  obtain⟨a1,a2,a3,a4,a5⟩:=acH q3;simp only;obtain⟨k,rfl,hk,hkl⟩:=jg ha
  have hsome:(vU L (k:Int)).isSome=true:=by rw[ha];rfl
  have hq2:af t r.pos=94\/af t r.pos=36:=by simp at hq;omega
  have hun:gR t r.pos 59=aa.2.2-1:=by
   apply Je (by omega) (by omega) _ a5;rw[f_ (by omega),a4];intro x hx
   rcases List.mem_cons.1 hx with rfl|hx
   ·omega
   exact(Ng a1 x hx).1
  have htx:dW (t.extract (r.pos+1) (aa.2.2-1))=enc aa.2.1:=by rw[tq (by omega),a4]
  have ZH:∀st sg,VS (t.extract (r.pos+1) (aa.2.2-1)) ⟨st,sg,aa.2.1⟩:=λst sg=>⟨a1,htx⟩
  refine⟨mM L (k:Int) λn=>if af t r.pos==94 then {n with enter:=n.enter++[t.extract (r.pos+1) (aa.2.2-1)]}else {n with leave:=n.leave++[t.extract (r.pos+1) (aa.2.2-1)]},by
   unfold lR
   have e1:isOpen (af t r.pos)=false:=by rcases hq2 with e|e<;>rw[e]<;>decide
   have e2:(af t r.pos==41||af t r.pos==93)=false:=by rcases hq2 with e|e<;>rw[e]<;>decide
   have e3:(af t r.pos==58)=false:=by rcases hq2 with e|e<;>rw[e]<;>decide
   simp only[e1,e2,e3,hq,Bool.false_eq_true,if_false,if_true]
   rw[if_pos ⟨by omega,hsome⟩,hun],by omega,?_,Af.mod _ _ _ (λn=>by split<;>exact⟨rfl,rfl⟩)⟩
  have hne:∀(k':Nat) (n:RN),(mM L (k:Int) λn=>if af t r.pos==94 then {n with enter:=n.enter++[t.extract (r.pos+1) (aa.2.2-1)]}else {n with leave:=n.leave++[t.extract (r.pos+1) (aa.2.2-1)]})[k']? =some n->
   ∃m,L[k']? =some m/\n.trans=m.trans/\(n.enter=if k=k'/\af t r.pos=94 then m.enter++[t.extract (r.pos+1) (aa.2.2-1)]else m.enter)/\(n.leave=if k=k'/\af t r.pos=36 then m.leave++[t.extract (r.pos+1) (aa.2.2-1)]else m.leave):=by
   intro k' n hn;rw[gF]at hn
   split at hn
   ·rename_i e
    rw[Option.map_eq_some_iff]at hn;obtain⟨m,hm,rfl⟩:=hn;refine⟨m,hm,?_⟩
    rcases hq2 with e'|e'<;>simp[e,e']
   rename_i e;exact⟨n,hn,rfl,by simp[e],by simp[e]⟩
  have hfil:∀k' sg,(r.dz++[(⟨(k:Int),af t r.pos,aa.2.1⟩:Bl)]).filter (lS k' sg)=r.dz.filter (lS k' sg)++if k=k'/\af t r.pos=sg then[⟨(k:Int),af t r.pos,aa.2.1⟩]else[]:=by
   intro k' sg;rw[List.filter_append]
   congr 1
   by_cases c1:k=k'
   ·by_cases c2:af t r.pos=sg
    ·subst c1;subst c2;simp[lS]
    simp[lS,c1,c2]
   have:¬(k:Int)=(k':Int):=by omega
   simp[lS,c1,this]
  refine⟨?_,?_,?_,?_,?_,?_,?_,h.so,?_,(GD h (by intro n;split<;>rfl)).1,(GD h (by intro n;split<;>rfl)).2⟩
  ·exact(vw _ _ _ (by intro n;split<;>rfl)).trans h.ag
  ·intro k' n hn
   obtain⟨m,hm,e1,_,_⟩:=hne k' n hn;rw[e1];exact h.bG k' m hm
  ·intro k' n hn
   obtain⟨m,hm,_,e2,_⟩:=hne k' n hn;rw[e2,hfil]
   split
   ·exact(h.rR k' m hm).snoc (ZH _ _)
   rw[List.append_nil];exact h.rR k' m hm
  ·intro k' n hn
   obtain⟨m,hm,_,_,e3⟩:=hne k' n hn;rw[e3,hfil]
   split
   ·exact(h.rD k' m hm).snoc (ZH _ _)
   rw[List.append_nil];exact h.rD k' m hm
  ·intro x hx;rw[tz];exact h.ts x hx
  ·intro x hx
   rw[tz]
   rcases List.mem_append.1 hx with hx|hx
   ·exact h.bs x hx
   simp at hx;subst hx;simp only;omega
  ·intro u
   rw[h.us]
   constructor
   ·rintro⟨k',n,rt,x,hn,hr,hx,hu⟩
    by_cases e:k=k'
    ·exact⟨k',_,rt,x,by rw[gF,if_pos e,hn];rfl,by split<;>exact hr,hx,hu⟩
    exact⟨k',n,rt,x,by rw[gF,if_neg e];exact hn,hr,hx,hu⟩
   rintro⟨k',n,rt,x,hn,hr,hx,hu⟩;obtain⟨m,hm,e1,_,_⟩:=hne k' n hn;exact⟨k',m,rt,x,hm,by rw[<-e1];exact hr,hx,hu⟩
  intro u hu;have:=h.lo u hu;simp only;omega
 rw[if_neg q3]at ht;simp at ht
theorem iA(L:List RN)(i:Int):(fQ L i).length=L.length:=by
 unfold fQ;split
 ·split
  ·exact tz
  rfl
 rfl
theorem j7(L:List RN)(i:Int)(k:Nat)(n:RN)(h:(fQ L i)[k]? =some n):∃m,L[k]? =some m/\n.trans=m.trans/\n.enter=m.enter/\n.leave=m.leave/\n.parent=m.parent/\n.name=m.name/\n.pos=m.pos/\(n.kind=m.kind\/m.kind=1/\n.kind=2)/\(i=(k:Int)->n.kind≠1):=by
 unfold fQ at h
 split at h
 ·rename_i n0 hn0
  obtain⟨j,rfl,hj,_⟩:=jg hn0
  split at h
  ·rename_i hk1
   rw[gF]at h
   split at h
   ·rename_i e
    subst e;rw[hj]at h;simp at h;subst h;exact⟨n0,hj,rfl,rfl,rfl,rfl,rfl,rfl,Or.inr ⟨by simpa using hk1,rfl⟩,by simp⟩
   rename_i e;exact⟨n,h,rfl,rfl,rfl,rfl,rfl,rfl,Or.inl rfl,by omega⟩
  rename_i hk1;refine⟨n,h,rfl,rfl,rfl,rfl,rfl,rfl,Or.inl rfl,λe=>?_⟩
  have:j=k:=by omega
  subst this;rw[hj]at h;simp at h;subst h;simpa using hk1
 rename_i hn0;refine⟨n,h,rfl,rfl,rfl,rfl,rfl,rfl,Or.inl rfl,λe=>?_⟩;rw[e]at hn0;rw[show vU L (k:Int)=L[k]? from rfl,h]at hn0;simp at hn0
theorem Sk(L:List RN)(i:Int):Af L (fQ L i):=by
 intro k n hn;have hlt:=(List.getElem?_eq_some_iff.1 hn).1
 have hlt':k<(fQ L i).length:=by rw[iA];exact hlt
 obtain⟨m,hm,_,_,_,e,_,_,e2,_⟩:=j7 L i k _ (List.getElem?_eq_getElem hlt');rw[hn]at hm;simp at hm;subst hm;refine⟨_,List.getElem?_eq_getElem hlt',e,λb=>?_⟩;unfold Vb at*;omega
theorem VT(L:List RN)(i:Int)(x:St)(hi:i<L.length):(fQ L i).map RN.st++[x]=bn i (L.map RN.st++[x]):=by
 unfold fQ bn
 cases i with
 |negSucc j=>rfl
 |ofNat j=>?_
 have hj:j<L.length:=by simpa using hi
 have e1:vU L (Int.ofNat j)=some L[j]:=List.getElem?_eq_getElem hj
 have e2:(L.map RN.st++[x])[j]? =some L[j].st:=by
  rw[List.getElem?_append_left (by simpa using hj),List.getElem?_map,List.getElem?_eq_getElem hj];rfl
 rw[e1];simp only[e2];have e3:(L[j].st.kind==1)=(L[j].kind==1):=rfl;rw[e3]
 split
 ·have:(L.map RN.st++[x]).set j {L[j].st with kind:=2}=(L.map RN.st).set j {L[j].st with kind:=2}++[x]:=by
   rw[List.set_append_left _ _ (by simpa using hj)]
  rw[this]
  congr 1
  apply List.ext_getElem?;intro k;rw[List.getElem?_map,show(mM L (Int.ofNat j) λn=>{n with kind:=2})[k]? =_ from gF (L:=L) (k:=j) k]
  by_cases e:j=k
  ·subst e
   rw[if_pos rfl,List.getElem?_set_self (by simpa using hj),List.getElem?_eq_getElem hj];rfl
  rw[if_neg e,List.getElem?_set_ne e,List.getElem?_map]
 rfl
theorem ZI{t:ByteArray}{r:Rs}{L:List RN}(op parent:Int)(yh:parent<L.length)(hlo: -1<=parent)(hop:kindOf op=4\/kindOf op=5->0<=parent)(hbr:∀p,vU L parent=some p->Vb p)(h:NR L r)(ht:(aC t op parent r).1=true):
 NR (fQ L parent++[⟨af t r.pos,kindOf op,parent,r.pos,[],[],[]⟩]) (aC t op parent r).2:=by
 unfold aC at*
 by_cases q:bx (af t r.pos)=true
 ·rw[if_pos q]
  simp only
  have hlen:L.length=r.ag.length:=by rw[<-h.ag];simp
  have hne:∀(k':Nat) (n:RN),(fQ L parent++[⟨af t r.pos,kindOf op,parent,r.pos,[],[],[]⟩])[k']? =some n->(∃m,L[k']? =some m/\n.trans=m.trans/\n.enter=m.enter/\n.leave=m.leave)\/(k'=L.length/\n.trans=[]/\n.enter=[]/\n.leave=[]):=by
   intro k' n hn
   rcases Nat.lt_or_ge k' (fQ L parent).length with hl|hl
   ·rw[List.getElem?_append_left hl]at hn
    obtain⟨m,h1,h2,h3,h4,_,_,_,_,_⟩:=j7 L parent k' n hn;exact Or.inl ⟨m,h1,h2,h3,h4⟩
   rw[List.getElem?_append_right hl]at hn
   have:k'-(fQ L parent).length=0:=by
    rcases Nat.eq_zero_or_pos (k'-(fQ L parent).length)with e|e
    ·exact e
    rw[List.getElem?_eq_none (by simp;omega)]at hn;simp at hn
   rw[this]at hn;simp at hn;subst hn;exact Or.inr ⟨by rw[iA]at*;omega,rfl,rfl,rfl⟩
  have hfa:∀(l:List Tr),(∀x∈l,x.state<(L.length:Int))->l.filter (oV L.length)=[]:=by
   intro l hl;rw[List.filter_eq_nil_iff];intro x hx;have:=hl x hx;simp[oV];omega
  have GF:∀(sg:Int) (l:List Bl),(∀x∈l,x.state<(L.length:Int))->l.filter (lS L.length sg)=[]:=by
   intro sg l hl;rw[List.filter_eq_nil_iff];intro x hx;have:=hl x hx;simp[lS];omega
  refine⟨?_,?_,?_,?_,?_,?_,?_,h.so,?_,?_,?_⟩
  ·rw[List.map_append]
   have:=VT L parent ⟨af t r.pos,r.pos,kindOf op,parent⟩ yh;rw[h.ag]at this;exact this
  ·intro k' n hn
   rcases hne k' n hn with⟨m,hm,e1,_,_⟩|⟨rfl,e1,_,_⟩
   ·rw[e1];exact h.bG k' m hm
   rw[e1,hfa _ h.ts];exact .nil
  ·intro k' n hn
   rcases hne k' n hn with⟨m,hm,_,e1,_⟩|⟨rfl,_,e1,_⟩
   ·rw[e1];exact h.rR k' m hm
   rw[e1,GF _ _ h.bs];exact .nil
  ·intro k' n hn
   rcases hne k' n hn with⟨m,hm,_,_,e1⟩|⟨rfl,_,_,e1⟩
   ·rw[e1];exact h.rD k' m hm
   rw[e1,GF _ _ h.bs];exact .nil
  ·intro x hx;have:=h.ts x hx;simp[iA];omega
  ·intro x hx;have:=h.bs x hx;simp[iA];omega
  ·intro u
   rw[h.us]
   constructor
   ·rintro⟨k',n,rt,x,hn,hr,hx,hu⟩
    have hlt:=(List.getElem?_eq_some_iff.1 hn).1
    have hlt':k'<(fQ L parent).length:=by rw[iA];exact hlt
    obtain⟨m,hm,e1,_⟩:=j7 L parent k' _ (List.getElem?_eq_getElem hlt');rw[hn]at hm;simp at hm;subst hm;exact⟨k',_,rt,x,by rw[List.getElem?_append_left hlt'];exact List.getElem?_eq_getElem hlt',by rw[e1];exact hr,hx,hu⟩
   rintro⟨k',n,rt,x,hn,hr,hx,hu⟩
   rcases hne k' n hn with⟨m,hm,e1,_,_⟩|⟨_,e1,_,_⟩
   ·exact⟨k',m,rt,x,hm,by rw[<-e1];exact hr,hx,hu⟩
   rw[e1]at hr;simp at hr
  ·intro u hu;have:=h.lo u hu;simp only;omega
  ·intro k' n hn
   rcases Nat.lt_or_ge k' (fQ L parent).length with hl|hl
   ·rw[List.getElem?_append_left hl]at hn
    obtain⟨m,h1,_,_,_,e1,e2,e3,e4,_⟩:=j7 L parent k' n hn;have:=h.wf k' m h1;rw[e1,e2,e3];refine⟨this.1,this.2.1,this.2.2.1,λhh=>this.2.2.2.1 (by omega),by omega,by omega,this.2.2.2.2.2.2⟩
   rw[List.getElem?_append_right hl]at hn
   have hk0:k'-(fQ L parent).length=0:=by
    rcases Nat.eq_zero_or_pos (k'-(fQ L parent).length)with e|e
    ·exact e
    rw[List.getElem?_eq_none (by simp;omega)]at hn;simp at hn
   rw[hk0]at hn;simp at hn;subst hn
   have hk2:k'=L.length:=by rw[iA]at*;omega
   subst hk2
   have hkk:1<=kindOf op/\kindOf op<=5:=by unfold kindOf;split;omega;split;omega;split<;>omega
   exact⟨hlo,yh,q,hop,hkk.1,hkk.2,by simp only;omega⟩
  intro k' n p hn hp
  have yi:∀(j:Nat) (m:RN),(fQ L parent++[⟨af t r.pos,kindOf op,parent,r.pos,[],[],[]⟩])[j]? =some m->j<L.length->(fQ L parent)[j]? =some m:=by
   intro j m hj hjl;rw[List.getElem?_append_left (by rw[iA];exact hjl)]at hj;exact hj
  obtain⟨j,hj,hp',_⟩:=jg hp
  rcases Nat.lt_or_ge k' (fQ L parent).length with hl|hl
  ·rw[List.getElem?_append_left hl]at hn
   obtain⟨m,h1,_,_,_,e1,_,_,_,_⟩:=j7 L parent k' n hn;have hw:=h.wf k' m h1;rw[iA]at hl;obtain⟨m',h1',_,_,_,_,_,_,e4,_⟩:=j7 L parent j p (yi j p hp' (by omega));have:=h.pk k' m m' h1 (by rw[<-e1,hj];exact h1');omega
  rw[List.getElem?_append_right hl]at hn
  have hk0:k'-(fQ L parent).length=0:=by
   rcases Nat.eq_zero_or_pos (k'-(fQ L parent).length)with e|e
   ·exact e
   rw[List.getElem?_eq_none (by simp;omega)]at hn;simp at hn
  rw[hk0]at hn;simp at hn;subst hn;simp only at hj hp;obtain⟨m',h1',_,_,_,_,_,_,e4,e5⟩:=j7 L parent j p (yi j p hp' (by omega));have hb:=hbr m' (by rw[hj];exact h1');have:=e5 hj;unfold Vb at hb;omega
 rw[if_neg q]at ht;simp at ht
theorem NR.move{L:List RN}{r:Rs}(h:NR L r){p:Nat}(hp:r.pos<=p):NR L {r with pos:=p}:=
 ⟨h.ag,h.bG,h.rR,h.rD,h.ts,h.bs,h.us,h.so,λu hu=>by have:=h.lo u hu;simp only;omega,h.wf,h.pk⟩
theorem Af.push(L:List RN)(x:RN):Af L (L++[x]):=λk n hn=>⟨n,by rw[List.getElem?_append_left (List.getElem?_eq_some_iff.1 hn).1];exact hn,rfl,id⟩
def afp(t:ByteArray)(it:Int->Int->Rs->Bool×Rs):Prop:=∀(self cl:Int) (r:Rs) (L:List RN) (nd:RN),(cl=41\/cl=93)->Ok t r->NR L r->vU L self=some nd->Vb nd->(it self cl r).1=true->
 ∃L',NR L' (it self cl r).2/\Af L L'/\∀res,gE t (it self cl r).2.pos nd.parent L' res->gE t r.pos self L res
theorem Eg{t:ByteArray}{it:Int->Int->Rs->Bool×Rs}(hit:afp t it){r:Rs}{L:List RN}{parent:Int}(h:NR L r)(ok:Ok t r)(hq:isOpen (af t r.pos)=true)
 (yh:(parent<0/\(af t r.pos=40\/af t r.pos=91))\/∃nd,vU L parent=some nd/\Vb nd) (hlo: -1<=parent) (ht:(aK t it parent r).1=true):
 ∃L',NR L' (aK t it parent r).2/\Af L L'/\∀res,gE t (aK t it parent r).2.pos parent L' res->gE t r.pos parent L res:=by
 have hp:=iY hq;obtain⟨⟨d1,d2,d3,d4⟩,h5⟩:=ok;have hn:=ku (t:=t) (r:={r with pos:=r.pos+1}) (af t r.pos) parent ⟨⟨by simp only;omega,by simp only;omega,by simp only;omega,by simp only;omega⟩,by simp only;omega⟩
 have hlen:parent<L.length:=by
  rcases yh with h|⟨nd,h,_⟩
  ·omega
  obtain⟨k,rfl,_,hk⟩:=jg h;omega
 have hnr:=λhh=>ZI (t:=t) (r:={r with pos:=r.pos+1}) (af t r.pos) parent hlen hlo (by
  rcases yh with⟨_,e|e⟩|⟨nd,e,_⟩
  ·rw[e];intro x;exact absurd x (by decide)
  ·rw[e];intro x;exact absurd x (by decide)
  ·obtain⟨k,rfl,_,_⟩:=jg e;omega) (by
  intro p hp'
  rcases yh with⟨e,_⟩|⟨nd,e,b⟩
  ·obtain⟨k,rfl,_,_⟩:=jg hp';omega
  rw[e]at hp';simp at hp';subst hp';exact b) (h.move (by omega)) hh
 have hs2:bx (af t (r.pos+1))=true->(aC t (af t r.pos) parent {r with pos:=r.pos+1}).2.pos=r.pos+2:=by
  intro h;unfold aC;simp[h]
 have hs1:(aC t (af t r.pos) parent {r with pos:=r.pos+1}).1=bx (af t (r.pos+1)):=by
  unfold aC;simp only;cases bx (af t (r.pos+1))<;>rfl
 unfold aK at ht⊢;generalize aC t (af t r.pos) parent {r with pos:=r.pos+1}=s at*
 by_cases q1:s.1=true
 ·rw[if_pos q1]at ht⊢
  have q2:bx (af t (r.pos+1))=true:=by rw[<-hs1];exact q1
  have hlt:=kX q2;have e:=hs2 q2;have h1:=hnr q1;simp only at h1
  have hst:lR t r.pos parent L=some (if af t r.pos==60 then r.pos+2 else r.pos+1,if af t r.pos==60||af t r.pos==42 then parent else L.length,fQ L parent++[⟨af t (r.pos+1),kindOf (af t r.pos),parent,r.pos+1,[],[],[]⟩]):=by
   unfold lR;rw[if_pos hq,if_pos ⟨hlt,by rcases yh with h|⟨nd,h,_⟩;exact Or.inl h.1;right;rw[h];rfl⟩]
  rw[show((r.pos+1:Nat):Int)=(r.pos:Int)+1 by omega]at h1;generalize hL1:fQ L parent++[(⟨af t (r.pos+1),kindOf (af t r.pos),parent,(r.pos:Int)+1,[],[],[]⟩:RN)]=L1 at*
  have hP1:Af L L1:=by rw[<-hL1];exact(Sk L parent).trans (Af.push _ _)
  have hat:vU L1 (L.length:Int)=some ⟨af t (r.pos+1),kindOf (af t r.pos),parent,(r.pos:Int)+1,[],[],[]⟩:=by
   show L1[L.length]? =_;rw[<-hL1,List.getElem?_append_right (by rw[iA];omega),iA];simp
  have hll:L.length=r.ag.length:=by rw[<-h.ag];simp
  rcases mH _ hq with q|q|q|q
  ·rw[q]at ht hst⊢
   simp only[show((40:Int)==40)=true by decide,if_true]at ht⊢;rw[<-hll]at ht⊢;obtain⟨L',g1,g2,g3⟩:=hit L.length 41 s.2 L1 _ (Or.inl rfl) hn.1 h1 hat (by unfold Vb;rw[q];simp only;decide) ht;refine⟨L',g1,hP1.trans g2,λres hr=>gE.step hp hst ?_⟩;have:=g3 res hr;rw[e]at this;simpa using this
  ·rw[q]at ht hst⊢
   simp only[show((91:Int)==40)=false by decide,show((91:Int)==91)=true by decide,if_true,Bool.false_eq_true,if_false]at ht⊢;rw[<-hll]at ht⊢;obtain⟨L',g1,g2,g3⟩:=hit L.length 93 s.2 L1 _ (Or.inr rfl) hn.1 h1 hat (by unfold Vb;rw[q];simp only;decide) ht;refine⟨L',g1,hP1.trans g2,λres hr=>gE.step hp hst ?_⟩;have:=g3 res hr;rw[e]at this;simpa using this
  ·rw[q]at ht hst⊢
   simp only[show((60:Int)==40)=false by decide,show((60:Int)==91)=false by decide,show((60:Int)==60)=true by decide,if_true,Bool.false_eq_true,if_false]at ht⊢;simp only[bI,ht,if_true];refine⟨L1,h1.move (by omega),hP1,λres hr=>gE.step hp hst ?_⟩;rw[e]at hr;simpa using hr
  rw[q]at ht hst⊢;simp only[show((42:Int)==40)=false by decide,show((42:Int)==91)=false by decide,show((42:Int)==60)=false by decide,Bool.false_eq_true,if_false];refine⟨L1,h1,hP1,λres hr=>gE.step hp hst ?_⟩;rw[e]at hr;simpa using hr
 rw[if_neg q1]at ht;simp at ht
theorem Sl{t:ByteArray}:∀n,afp t (an t n):=by
 intro n
 induction n with
 |zero=>intro self cl r L nd _ _ _ _ _ h;simp[an]at h
 |succ n ih=>?_
 intro self cl r L nd hcl ok h ha hb ht;obtain⟨k,hself,_,hkl⟩:=jg ha;simp only[an]at ht⊢
 split at ht
 ·rename_i q
  rw[if_pos q]
  by_cases q1:(aK t (an t n) self r).1=true
  ·rw[if_pos q1]at ht⊢
   have hs:=iy (it:=an t n) (λa c s hc hs=>jt n a c s hc hs) self (iY q) ok;obtain⟨L1,g1,g2,g3⟩:=Eg ih h ok q (Or.inr ⟨nd,ha,hb⟩) (by omega) q1;obtain⟨nd',hn',e',b'⟩:=g2.at_ ha;obtain⟨L2,k1,k2,k3⟩:=ih self cl _ L1 nd' hcl hs.1 g1 hn' (b' hb) ht;refine⟨L2,k1,g2.trans k2,λres hr=>g3 res (k3 res ?_)⟩;rw[e'];exact hr
  rw[if_neg q1]at ht;simp at ht
 rename_i q;rw[if_neg q]
 split at ht
 ·rename_i q2
  rw[if_pos q2]
  by_cases q1:(transition t self r).1=true
  ·rw[if_pos q1]at ht⊢
   have hlt:=cL (by decide) q2;have hs:=ix self hlt ok;obtain⟨L1,g1,g0,g2,g3⟩:=AY h ok q2 ha q1;obtain⟨nd',hn',e',b'⟩:=g3.at_ ha;obtain⟨L2,k1,k2,k3⟩:=ih self cl _ L1 nd' hcl hs.1 g2 hn' (b' hb) ht;refine⟨L2,k1,g3.trans k2,λres hr=>gE.step hlt g1 ?_⟩;rw[Nat.sub_add_cancel g0];exact k3 res (by rw[e'];exact hr)
  rw[if_neg q1]at ht;simp at ht
 rename_i q2;rw[if_neg q2]
 split at ht
 ·rename_i q3
  rw[if_pos q3]
  by_cases q1:(block t self r).1=true
  ·rw[if_pos q1]at ht⊢
   have hlt:r.pos<t.size:=by
    rcases Nat.lt_or_ge r.pos t.size with x|x
    ·exact x
    rw[b_ x]at q3;simp at q3
   have hs:=pG self hlt ok;obtain⟨L1,g1,g0,g2,g3⟩:=Sj h q3 ha q1;obtain⟨nd',hn',e',b'⟩:=g3.at_ ha;obtain⟨L2,k1,k2,k3⟩:=ih self cl _ L1 nd' hcl hs.1 g2 hn' (b' hb) ht;refine⟨L2,k1,g3.trans k2,λres hr=>gE.step hlt g1 ?_⟩;rw[Nat.sub_add_cancel g0];exact k3 res (by rw[e'];exact hr)
  rw[if_neg q1]at ht;simp at ht
 rename_i q3;rw[if_neg q3];simp only at ht⊢
 have q4:af t r.pos=cl:=by simpa using ht
 have hlt:=cL (c:=cl) (by rcases hcl with rfl|rfl<;>decide) ht;simp only[bI,ht,if_true];refine⟨L,h.move (by omega),Af.refl L,λres hr=>gE.step hlt (j:=r.pos) (up':=nd.parent) (L':=L) ?_ hr⟩;unfold lR
 have e2:(af t r.pos==41||af t r.pos==93)=true:=by rw[q4];rcases hcl with rfl|rfl<;>decide
 rw[if_neg q,if_pos e2,ha]
theorem yk{t:ByteArray}(ht:(chart t).1=true):∃L,gE t 0 (-1) [] L/\NR L (chart t).2:=by
 unfold chart at ht⊢
 by_cases q:(af t 0==40||af t 0==91)=true
 ·rw[if_pos q]at ht⊢
  by_cases q1:(aK t (an t (t.size+1)) (-1) r0).1=true
  ·rw[if_pos q1]at ht⊢
   have hop:isOpen (af t r0.pos)=true:=by
    show isOpen (af t 0)=true
    simp at q;unfold isOpen;rcases q with q|q<;>rw[q]<;>decide
   have h0:NR [] r0:=⟨rfl,by simp,by simp,by simp,by simp[r0],by simp[r0],by simp[r0],by simp[r0],by simp[r0],by simp,by simp⟩
   obtain⟨L,g1,g2,g3⟩:=Eg (Sl (t.size+1)) h0 (u9 t) hop (Or.inl ⟨by omega,by show af t 0=40\/af t 0=91;simpa using q⟩) (by omega) q1;refine⟨L,g3 L (.done ?_),g1⟩;simp at ht;omega
  rw[if_neg q1]at ht;simp at ht
 rw[if_neg q]at ht;simp at ht
def cS(L:List RN)(k:Nat):RN:=L.getD k ⟨0,0,0,0,[],[],[]⟩
theorem cU{L:List RN}{k:Nat}{n:RN}(h:L[k]? =some n):cS L k=n:=by unfold cS;rw[List.getD_eq_getElem?_getD,h];rfl
def pW(L:List RN)(i:Int)(j:Nat):Bool:=(cS L j).parent==i&&(cS L j).kind !=5
def cE(L:List RN)(i:Int):List Nat:=(List.range L.length).filter (pW L i)
def sw(L:List RN)(i:Nat):Bool:=(L.take i).any λm=>m.name==(cS L i).name
def uV(L:List RN)(i:Nat):Bool:=
 if(cS L i).kind==5||(cS L i).kind==4 then(cS L (cS L i).parent.toNat).kind==3
 else((cS L i).kind==3||(cS L i).kind==2)&&(cE L i).length==0
def lU(L:List RN)(b:Int):Bool:=L.any λm=>m.name==b
def tA(rt:RT):List Us:=[⟨af rt.text 0,rt.pos⟩,⟨af rt.text (rt.text.size-1),rt.pos+((rt.text.size:Int)-1)⟩]
def Jg(L:List RN):List Us:=L.flatMap λn=>n.trans.flatMap tA
def fR(L:List RN)(acI:Int)(u:Us):Int:=if bx u.name&& !lU L u.name&&(decide (acI<0)||decide (u.pos<acI))then u.pos else acI
def nL(L:List RN):Int:=(Jg L).foldl (fR L) (-1)
def oW(L:List RN):Int×Int:=
 if 16<L.length then(3,(cS L 16).pos)
 else match(List.range L.length).find? (sw L)with
  |some i=>(4,(cS L i).pos)
  |none=>match(List.range L.length).find? (uV L)with
   |some i=>(5,(cS L i).pos)
   |none=>if 0<=nL L then(6,nL L)else(0,0)
theorem Dl{p:Nat->St->Bool}:∀(l:List St) (k:Nat),(∀i s,l[i]? =some s->p (k+i) s=false)->dI p l k= -2:=by
 intro l
 induction l with
 |nil=>intro k _;rfl
 |cons a l ih=>?_
 intro k h;have h0:=h 0 a rfl;simp only[dI];rw[show p k a=false by simpa using h0];simp only[Bool.false_eq_true,if_false];exact ih (k+1) (λi s hs=>by rw[show k+1+i=k+(i+1)by omega];exact h (i+1) s (by simpa using hs))
theorem Dm{p:Nat->St->Bool}:∀(l:List St) (k i:Nat) (s:St),l[i]? =some s->p (k+i) s=true->(∀j u,j<i->l[j]? =some u->p (k+j) u=false)->dI p l k=s.pos:=by
 intro l
 induction l with
 |nil=>intro k i s h;simp at h
 |cons a l ih=>?_
 intro k i s h1 h2 h3;simp only[dI]
 cases i with
 |zero=>
  simp at h1;subst h1;rw[show p k a=true by simpa using h2];simp
 |succ i=>?_
 rw[show p k a=false by simpa using h3 0 a (by omega) rfl];simp only[Bool.false_eq_true,if_false];exact ih (k+1) i s (by simpa using h1) (by rw[show k+1+i=k+(i+1)by omega];exact h2) (λj u hj hu=>by rw[show k+1+j=k+(j+1)by omega];exact h3 (j+1) u (by omega) (by simpa using hu))
theorem wI{L:List RN}{p:Nat->St->Bool}{q:Nat->Bool}(h:∀(i:Nat) (n:RN),L[i]? =some n->p i n.st=q i):
 dI p (L.map RN.st) 0=match(List.range L.length).find? q with|some i=>(cS L i).pos|none=>-2:=by
 cases e:(List.range L.length).find? q with
 |none=>
  simp only;apply Dl;intro i s hs;rw[List.getElem?_map,Option.map_eq_some_iff]at hs;obtain⟨n,hn,rfl⟩:=hs;rw[Nat.zero_add,h i n hn];rw[List.find?_eq_none]at e;have:=e i (by simp;exact(List.getElem?_eq_some_iff.1 hn).1);simpa using this
 |some i=>?_
 simp only;rw[List.find?_range_eq_some]at e;obtain⟨e1,e2,e3⟩:=e
 have hi:i<L.length:=by simpa using e2
 have hn:=List.getElem?_eq_getElem hi;rw[cU hn]
 have:=Dm (p:=p) (L.map RN.st) 0 i L[i].st (by rw[List.getElem?_map,hn];rfl) (by rw[Nat.zero_add,h i _ hn];exact e1)
  (λj u hj hu=>by
   rw[List.getElem?_map,Option.map_eq_some_iff]at hu;obtain⟨n,hn,rfl⟩:=hu;rw[Nat.zero_add,h j n hn];have:=e3 j hj
   simpa using this)
 rw[this];rfl
theorem j8(c:Int):∀(l:List St) (k:Nat),(jG c l k= -2/\∀s∈l,s.name≠c)\/∃(i:Nat) (s:St),l[i]? =some s/\s.name=c/\jG c l k=((k+i:Nat):Int)/\∀(j:Nat) (u:St),j<i->l[j]? =some u->u.name≠c:=by
 intro l
 induction l with
 |nil=>intro k;exact Or.inl ⟨rfl,by simp⟩
 |cons a l ih=>?_
 intro k
 by_cases h:a.name=c
 ·right
  refine⟨0,a,rfl,h,?_,λj u hj=>by omega⟩;simp[jG,h]
 have h':(a.name==c)=false:=by simpa using h
 simp only[jG,h',Bool.false_eq_true,if_false]
 rcases ih (k+1)with⟨e,f⟩|⟨i,s,e1,e2,e3,e4⟩
 ·exact Or.inl ⟨e,λs hs=>by rcases List.mem_cons.1 hs with rfl|hs;exact h;exact f s hs⟩
 refine Or.inr ⟨i+1,s,by simpa using e1,e2,by rw[e3];omega,λj u hj hu=>?_⟩
 cases j with
 |zero=>simp at hu;subst hu;exact h
 |succ j=>exact e4 j u (by omega) (by simpa using hu)
theorem acJ{L:List RN}{i:Nat}{n:RN}(hn:L[i]? =some n):decide (place (L.map RN.st) n.st.name<(i:Int))=sw L i:=by
 have hi:=(List.getElem?_eq_some_iff.1 hn).1;unfold sw;rw[cU hn];unfold place
 rcases j8 n.st.name (L.map RN.st) 0 with⟨_,e2⟩|⟨j,s,e1,e2,e3,e4⟩
 ·exfalso
  exact e2 n.st (List.mem_map.2 ⟨n,List.mem_of_getElem? hn,rfl⟩) rfl
 rw[e3,Nat.zero_add];rw[List.getElem?_map,Option.map_eq_some_iff]at e1;obtain⟨m,hm,rfl⟩:=e1
 by_cases hji:j<i
 ·have:((j:Int)<(i:Int)):=by omega
  rw[decide_eq_true this]
  symm
  rw[List.any_eq_true];refine⟨m,?_,by have e2':m.name=n.name:=e2;simpa using e2'⟩;rw[List.mem_take_iff_getElem];obtain⟨hl,he⟩:=List.getElem?_eq_some_iff.1 hm;exact⟨j,by omega,he⟩
 have:¬((j:Int)<(i:Int)):=by omega
 rw[decide_eq_false this]
 symm
 rw[List.any_eq_false];intro x hx;rw[List.mem_take_iff_getElem]at hx;obtain⟨j',hj',he⟩:=hx;have:x.name≠n.name:=e4 j' x.st (by omega) (by rw[List.getElem?_map,List.getElem?_eq_getElem (by omega),he];rfl);simpa using this
theorem pX(ss:List St)(parent:Int):∀(f k:Nat),(cM ss parent f k= -2/\∀j,k<=j->j<k+f->aB ss j parent=false)\/∃j:Nat,k<=j/\j<k+f/\aB ss j parent=true/\cM ss parent f k=(j:Int):=by
 intro f
 induction f with
 |zero=>intro k;exact Or.inl ⟨rfl,λj h1 h2=>by omega⟩
 |succ f ih=>?_
 intro k;simp only[cM]
 cases h:aB ss k parent with
 |true=>exact Or.inr ⟨k,Nat.le_refl _,by omega,h,by simp⟩
 |false=>?_
 simp only[Bool.false_eq_true,if_false]
 rcases ih (k+1)with⟨e,g⟩|⟨j,e1,e2,e3,e4⟩
 ·refine Or.inl ⟨e,λj h1 h2=>?_⟩
  by_cases hj:j=k
  ·subst hj;exact h
  exact g j (by omega) (by omega)
 exact Or.inr ⟨j,by omega,by omega,e3,e4⟩
theorem jh{L:List RN}{i:Int}{j:Nat}(h:j<L.length):aB (L.map RN.st) (j:Int) i=pW L i j:=by
 have hn:=List.getElem?_eq_getElem h;unfold aB pW;rw[cU hn,dD,List.getElem?_map,hn];rfl
theorem acK{L:List RN}{r:Rs}(h:NR L r){i:Nat}{n:RN}(hn:L[i]? =some n):kx (L.map RN.st) (i:Int)=uV L i:=by
 have hi:=(List.getElem?_eq_some_iff.1 hn).1;have hw:=h.wf i n hn;unfold kx uV;rw[dD,List.getElem?_map,hn,cU hn];simp only[Option.map_some];have e1:n.st.kind=n.kind:=rfl;have e2:n.st.parent=n.parent:=rfl;rw[e1,e2]
 by_cases c1:(n.kind==5||n.kind==4)=true
 ·rw[if_pos c1,if_pos c1]
  have hp:0<=n.parent:=hw.2.2.2.1 (by simp at c1;omega)
  obtain⟨p,hp⟩:∃p:Nat,n.parent=p:=⟨n.parent.toNat,by omega⟩
  have hpl:p<L.length:=by omega
  rw[hp];unfold aA;rw[dD,List.getElem?_map,List.getElem?_eq_getElem hpl];simp only[Option.map_some,Int.toNat_natCast];rw[cU (List.getElem?_eq_getElem hpl)];rfl
 rw[if_neg c1,if_neg c1]
 by_cases c2:(n.kind==3||n.kind==2)=true
 ·rw[if_pos c2,c2,Bool.true_and]
  unfold cH;rw[List.length_map]
  rcases pX (L.map RN.st) (i:Int) L.length 0 with⟨e,g⟩|⟨j,_,g2,g3,e⟩
  ·rw[e]
   have:cE L (i:Int)=[]:=by
    unfold cE;rw[List.filter_eq_nil_iff];intro j hj
    have hj':j<L.length:=by simpa using hj
    have:=g j (Nat.zero_le _) (by omega);rw[jh hj']at this;simp[this]
   rw[this];rfl
  rw[e]
  have hj:j<L.length:=by omega
  rw[jh hj]at g3
  have:cE L (i:Int)≠[]:=by
   intro hh;unfold cE at hh;rw[List.filter_eq_nil_iff]at hh;exact hh j (by simpa using hj) g3
  have hlen:(cE L (i:Int)).length≠0:=by
   intro hh;exact this (List.eq_nil_of_length_eq_zero hh)
  have l1:((cE L (i:Int)).length==0)=false:=by simpa using hlen
  have l2:(((j:Nat):Int)== -2)=false:=by simp
  rw[l1,l2]
 rw[if_neg c2]
 have:(n.kind==3||n.kind==2)=false:=by simpa using c2
 rw[this];rfl
theorem seen_eq(L:List RN)(b:Int):(place (L.map RN.st) b== -2)= !lU L b:=by
 unfold place lU
 rcases j8 b (L.map RN.st) 0 with⟨e,g⟩|⟨j,s,e1,e2,e3,_⟩
 ·rw[e]
  have:(L.any λm=>m.name==b)=false:=by
   rw[List.any_eq_false];intro x hx;have:x.name≠b:=g x.st (List.mem_map.2 ⟨x,hx,rfl⟩);simpa using this
  rw[this];rfl
 rw[e3];rw[List.getElem?_map,Option.map_eq_some_iff]at e1;obtain⟨m,hm,rfl⟩:=e1
 have:(L.any λm=>m.name==b)=true:=by
  rw[List.any_eq_true];exact⟨m,List.mem_of_getElem? hm,by have e2':m.name=b:=e2;simpa using e2'⟩
 rw[this];simp
theorem Eh{L:List RN}:∀(l:List Us) (b:Int),(∀u∈l,0<=u.pos)->
 (l.foldl (fR L) b=b/\(∀u∈l,bx u.name=true->lU L u.name=false->0<=b/\b<=u.pos))\/
 (∃u∈l,bx u.name=true/\lU L u.name=false/\l.foldl (fR L) b=u.pos/\(b<0\/u.pos<b)/\∀v∈l,bx v.name=true->lU L v.name=false->u.pos<=v.pos):=by
 intro l
 induction l with
 |nil=>intro b _;exact Or.inl ⟨rfl,by simp⟩
 |cons a l ih=>?_
 intro b hp;rw[List.foldl_cons];have ha:=hp a (by simp)
 have hl:∀u∈l,0<=u.pos:=λu hu=>hp u (by simp[hu])
 by_cases c:(bx a.name&& !lU L a.name&&(decide (b<0)||decide (a.pos<b)))=true
 ·have hb:fR L b a=a.pos:=by unfold fR;rw[if_pos c]
  rw[hb];simp only[Bool.and_eq_true,Bool.not_eq_true',Bool.or_eq_true,decide_eq_true_eq]at c;obtain⟨⟨c1,c2⟩,c3⟩:=c
  rcases ih a.pos hl with⟨e,g⟩|⟨u,hu,g1,g2,g3,g4,g5⟩
  ·right
   refine⟨a,by simp,c1,c2,e,c3,?_⟩;intro v hv h1 h2
   rcases List.mem_cons.1 hv with rfl|hv
   ·exact Int.le_refl _
   exact(g v hv h1 h2).2
  right
  have hu0:=hl u hu;refine⟨u,by simp[hu],g1,g2,g3,by omega,?_⟩;intro v hv h1 h2
  rcases List.mem_cons.1 hv with rfl|hv
  ·omega
  exact g5 v hv h1 h2
 have hb:fR L b a=b:=by unfold fR;rw[if_neg c]
 rw[hb];simp only[Bool.and_eq_true,Bool.not_eq_true',Bool.or_eq_true,decide_eq_true_eq]at c
 rcases ih b hl with⟨e,g⟩|⟨u,hu,g1,g2,g3,g4,g5⟩
 ·left
  refine⟨e,?_⟩;intro v hv h1 h2
  rcases List.mem_cons.1 hv with rfl|hv
  ·have:¬(b<0\/v.pos<b):=λx=>c ⟨⟨h1,h2⟩,x⟩
   omega
  exact g v hv h1 h2
 right
 refine⟨u,by simp[hu],g1,g2,g3,g4,?_⟩;intro v hv h1 h2
 rcases List.mem_cons.1 hv with rfl|hv
 ·have:¬(b<0\/v.pos<b):=λx=>c ⟨⟨h1,h2⟩,x⟩
  omega
 exact g5 v hv h1 h2
theorem Jh(ss:List St):∀(l:List Us),l.Pairwise (λa b=>a.pos<b.pos)->
 (cN ss l= -2/\∀u∈l,(place ss u.name== -2)=false)\/(∃u∈l,(place ss u.name== -2)=true/\cN ss l=u.pos/\∀v∈l,(place ss v.name== -2)=true->u.pos<=v.pos):=by
 intro l
 induction l with
 |nil=>intro _;exact Or.inl ⟨rfl,by simp⟩
 |cons a l ih=>?_
 intro h;rw[List.pairwise_cons]at h;simp only[cN]
 cases c:place ss a.name== -2 with
 |true=>
  right
  refine⟨a,by simp,c,by simp,?_⟩;intro v hv _
  rcases List.mem_cons.1 hv with rfl|hv
  ·exact Int.le_refl _
  have:=h.1 v hv;omega
 |false=>?_
 simp only[Bool.false_eq_true,if_false]
 rcases ih h.2 with⟨e,g⟩|⟨u,hu,g1,g2,g3⟩
 ·left
  refine⟨e,λu hu=>?_⟩
  rcases List.mem_cons.1 hu with rfl|hu
  ·exact c
  exact g u hu
 right
 refine⟨u,by simp[hu],g1,g2,?_⟩;intro v hv hc
 rcases List.mem_cons.1 hv with rfl|hv
 ·rw[c]at hc;simp at hc
 exact g3 v hv hc
theorem bz(t:ByteArray):(dW t).length=t.size:=by simp[dW]
theorem kE(t:ByteArray)(k:Nat)(h:k<t.size):(dW t)[k]? =some (af t k):=by
 unfold dW af;rw[List.getElem?_map,dif_pos h]
 have hd:k<t.data.toList.length:=by simpa using h
 rw[List.getElem?_eq_getElem hd];rfl
theorem vu.ends{rt:RT}{x:Tr}(h:vu rt x):2<=rt.text.size/\af rt.text 0=x.kr/\af rt.text (rt.text.size-1)=x.target:=by
 have hl:=congrArg List.length h.txt;rw[bz]at hl;simp at hl
 have h0:(dW rt.text)[0]? =some x.kr:=by rw[h.txt];rfl
 have h1:(dW rt.text).getLast?=some x.target:=by rw[h.txt,AX]
 rw[kE _ _ (by omega)]at h0;rw[List.getLast?_eq_getElem?,bz,kE _ _ (by omega)]at h1;simp at h0 h1;exact⟨by omega,h0,h1⟩
theorem pY{L:List RN}{r:Rs}(h:NR L r)(u:Us)(hu:bx u.name=true):u∈Jg L↔u∈r.uses:=by
 rw[h.us];unfold Jg;simp only[List.mem_flatMap]
 constructor
 ·rintro⟨n,hn,rt,hr,hc⟩
  obtain⟨k,hk⟩:=List.getElem?_of_mem hn;have hf:=h.bG k n hk
  have:∃x,vu rt x:=by
   clear hc;generalize List.filter (oV k) r.bG=m at hf;generalize n.trans=l at hf hr
   induction hf using su.ind with
   |nil=>simp at hr
   |cons hab _ ih=>?_
   rcases List.mem_cons.1 hr with rfl|hr
   ·exact⟨_,hab⟩
   exact ih hr
  obtain⟨x,hx⟩:=this;refine⟨k,n,rt,x,hk,hr,hx,?_⟩;obtain⟨e0,e1,e2⟩:=hx.ends;unfold tA at hc;rw[e1,e2]at hc;unfold tu;rw[bz];simp only[List.mem_cons,List.not_mem_nil,or_false]at hc;rw[List.mem_append]
  rcases hc with rfl|rfl
  ·left;simp only at hu;simp[hu]
  right;simp only at hu;simp[hu];omega
 rintro⟨k,n,rt,x,hk,hr,hx,hc⟩;refine⟨n,List.mem_of_getElem? hk,rt,hr,?_⟩;obtain⟨e0,e1,e2⟩:=hx.ends;unfold tA;rw[e1,e2];unfold tu at hc;rw[bz,List.mem_append]at hc;simp only[List.mem_cons,List.not_mem_nil,or_false]
 rcases hc with hc|hc
 ·left
  split at hc
  ·simpa using hc
  simp at hc
 right
 split at hc
 ·simp at hc;rw[hc];simp;omega
 simp at hc
theorem wJ{L:List RN}{r:Rs}(h:NR L r):∀u∈Jg L,0<=u.pos:=by
 intro u hu;unfold Jg at hu;simp only[List.mem_flatMap]at hu;obtain⟨n,hn,rt,hr,hc⟩:=hu;obtain⟨k,hk⟩:=List.getElem?_of_mem hn;have hf:=h.bG k n hk
 have:∃x,vu rt x:=by
  clear hc;generalize List.filter (oV k) r.bG=m at hf;generalize n.trans=l at hf hr
  induction hf using su.ind with
  |nil=>simp at hr
  |cons hab _ ih=>?_
  rcases List.mem_cons.1 hr with rfl|hr
  ·exact⟨_,hab⟩
  exact ih hr
 obtain⟨x,hx⟩:=this;have:=hx.pos;obtain⟨e0,_,_⟩:=hx.ends;unfold tA at hc;simp only[List.mem_cons,List.not_mem_nil,or_false]at hc
 rcases hc with rfl|rfl<;>simp only<;>omega
theorem VU{L:List RN}{r:Rs}(h:NR L r):nL L=if cN (L.map RN.st) r.uses== -2 then-1 else cN (L.map RN.st) r.uses:=by
 unfold nL
 have hnm:∀u∈r.uses,bx u.name=true:=by
  intro u hu;obtain⟨k,n,rt,x,_,_,_,hc⟩:=(h.us u).1 hu;unfold tu at hc;rw[List.mem_append]at hc
  rcases hc with hc|hc<;>split at hc<;>simp at hc<;>subst hc<;>assumption
 rcases Jh (L.map RN.st) r.uses h.so with⟨e,g⟩|⟨u,hu,g1,g2,g3⟩
 ·rw[e]
  rcases Eh (L:=L) (Jg L) (-1) (wJ h)with⟨e',_⟩|⟨v,hv,k1,k2,_⟩
  ·rw[e'];rfl
  exfalso;have:=g v ((pY h v k1).1 hv);rw[seen_eq,k2]at this;simp at this
 have hun:=hnm u hu
 have hus:lU L u.name=false:=by rw[seen_eq]at g1;simpa using g1
 have hup:0<=u.pos:=wJ h u ((pY h u hun).2 hu);rw[g2]
 have:(u.pos== -2)=false:=by simp;omega
 rw[this];simp only[Bool.false_eq_true,if_false]
 rcases Eh (L:=L) (Jg L) (-1) (wJ h)with⟨_,g'⟩|⟨v,hv,k1,k2,k3,_,k5⟩
 ·exfalso
  have:=g' u ((pY h u hun).2 hu) hun hus;omega
 rw[k3];have a1:=k5 u ((pY h u hun).2 hu) hun hus;have a2:=g3 v ((pY h v k1).1 hv) (by rw[seen_eq,k2];rfl);omega
theorem AZ{L:List RN}{r:Rs}(h:NR L r):oW L=judge r.ag r.uses:=by
 rw[<-h.ag];unfold oW judge;rw[List.length_map]
 by_cases c:16<L.length
 ·rw[if_pos c,if_pos c,List.getElem?_map,List.getElem?_eq_getElem c,cU (List.getElem?_eq_getElem c)]
  rfl
 rw[if_neg c,if_neg c];have e1:eM (L.map RN.st)=_:=wI (L:=L) (q:=sw L) (λi n hn=>acJ hn);have e2:g7 (L.map RN.st)=_:=wI (L:=L) (q:=uV L) (λi n hn=>acK h hn)
 have hpos:∀(q:Nat->Bool) i,(List.range L.length).find? q=some i->0<=(cS L i).pos:=by
  intro q i hi
  have hl:i<L.length:=by have:=List.mem_of_find?_eq_some hi;simpa using this
  rw[cU (List.getElem?_eq_getElem hl)];exact(h.wf i _ (List.getElem?_eq_getElem hl)).2.2.2.2.2.2
 rw[e1,e2]
 cases c1:(List.range L.length).find? (sw L)with
 |some i=>
  have:=hpos _ i c1
  have:((cS L i).pos != -2)=true:=by simp;omega
  simp only[this,if_true]
 |none=>?_
 simp only[show((-2:Int)!= -2)=false by decide,Bool.false_eq_true,if_false]
 cases c2:(List.range L.length).find? (uV L)with
 |some i=>
  have:=hpos _ i c2
  have:((cS L i).pos != -2)=true:=by simp;omega
  simp only[this,if_true]
 |none=>?_
 simp only[show((-2:Int)!= -2)=false by decide,Bool.false_eq_true,if_false];rw[VU h]
 rcases Jh (L.map RN.st) r.uses h.so with⟨e,_⟩|⟨u,hu,_,g2,_⟩
 ·rw[e];rfl
 rw[g2]
 have hup:0<=u.pos:=by
  obtain⟨k,n,rt,x,hk,hr,hx,hc⟩:=(h.us u).1 hu
  have hnm:bx u.name=true:=by
   unfold tu at hc;rw[List.mem_append]at hc
   rcases hc with hc|hc<;>split at hc<;>simp at hc<;>subst hc<;>assumption
  exact wJ h u ((pY h u hnm).2 hu)
 have a1:(u.pos== -2)=false:=by simp;omega
 have a2:(u.pos != -2)=true:=by simp;omega
 simp only[a1,a2,Bool.false_eq_true,if_false,if_true,hup]
end Ch
end Go.Proofs.YtnlbchmfcebeeaaGreat
