import Derived.Test.YtnlbchmfcebeeaaGreatTXp
import Derived.Test.YtnlbchmfcebeeaaGreatTF3
import Derived.Test.YtnlbchmfcebeeaaGreatRows
import Derived.ProofKit
import Derived.OpenShut
import Derived.ShutString
import Derived.ChangeOld
import Derived.Below
import Derived.Deep.Slices
import Derived.Lib.ConvBytes
set_option maxHeartbeats 12800000
set_option maxRecDepth 100000
namespace Go.Proofs.YtnlbchmfcebeeaaGreat
open Go.Proofs.Tryz Ch
open Go.RowKit
namespace Ch
/-! What a stand tells is one of the chart's states,and that stand again. -/
def TL(lo:Int):List Int->Prop
 |a::b::l=>(bR a=true/\lo<=b/\b<=57)/\TL lo l
 | [_]=>False
 | []=>True
theorem TL.even{lo:Int}:∀(n:Nat) {l:List Int},l.length<=n->TL lo l->l.length % 2=0:=by
 intro n
 induction n with
 |zero=>intro l hl _;have:l=[]:=List.length_eq_zero_iff.1 (by omega);subst this;rfl
 |succ n ih=>?_
 intro l hl h
 match l,h with
 | [],_=>rfl
 |a::b::l,h=>have:=ih (l:=l) (by simp at hl;omega) h.2;simp;omega
theorem TL.append{lo:Int}:∀(n:Nat) {a b:List Int},a.length<=n->TL lo a->TL lo b->TL lo (a++b):=by
 intro n
 induction n with
 |zero=>intro a b hl _ hb;have:a=[]:=List.length_eq_zero_iff.1 (by omega);subst this;exact hb
 |succ n ih=>?_
 intro a b hl ha hb
 match a,ha with
 | [],_=>exact hb
 |x::y::a,ha=>exact⟨ha.1,ih (by simp at hl;omega) ha.2 hb⟩
theorem TL.drop2{lo:Int}:∀(n:Nat) {l:List Int},TL lo l->TL lo (l.drop (2*n)):=by
 intro n
 induction n with
 |zero=>intro l h;simpa using h
 |succ n ih=>?_
 intro l h
 match l,h with
 | [],_=>simp[TL]
 |a::b::l,h=>rw[show 2*(n+1)=2*n+1+1 by omega];simpa using ih h.2
theorem TL.take2{lo:Int}:∀(n:Nat) {l:List Int},TL lo l->TL lo (l.take (2*n)):=by
 intro n
 induction n with
 |zero=>intro l _;simp[TL]
 |succ n ih=>?_
 intro l h
 match l,h with
 | [],_=>simp[TL]
 |a::b::l,h=>rw[show 2*(n+1)=2*n+1+1 by omega];exact⟨h.1,ih h.2⟩
def Dt(lo:Int)(s:Sd):Prop:=TL lo (dW s.tm)/\s.tm.size<=16
theorem acS{lo:Int}(t:ByteArray)(c:Int):∀(f k:Nat) (acc:List Int),TL lo acc->TL lo ((dW t).drop k)->TL lo (sW t c f k acc):=by
 intro f
 induction f with
 |zero=>intro k acc h _;exact h
 |succ f ih=>?_
 intro k acc h hb;simp only[sW]
 split
 ·rename_i c1
  rw[g_ c1]at hb
  split
  ·exact ih _ _ (TL.append acc.length (Nat.le_refl _) h ⟨hb.1,trivial⟩) hb.2
  exact ih _ _ h hb.2
 exact h
theorem JB{lo:Int}(hlo:lo<=49){m:Ma}(h:Dt lo m.s){a:Ac}(ha:uB a):Dt lo (bC m a).2.s:=by
 unfold bC
 split
 ·exact h
 split
 ·rename_i c2
  unfold send
  split
  ·exact h
  rename_i c3;obtain⟨h1,h2⟩:=h
  have e:a.sign=64:=by simpa using c2
  have hd:bR a.letter=true/\1<=a.digit/\a.digit<=9:=by
   rcases ha with⟨hs,_⟩|⟨_,h3⟩|⟨hs,_⟩
   ·omega
   ·exact h3
   omega
  have hb:=ha.byte
  have hev:m.s.tm.size % 2=0:=by rw[<-bz];exact TL.even _ (Nat.le_refl _) h1
  refine⟨?_,?_⟩
  ·show TL lo (dW (m.s.tm++strOfNums [a.letter,48+a.digit]))
   rw[rE,iO (by intro x hx;simp at hx;omega)];exact TL.append _ (Nat.le_refl _) h1 ⟨⟨hd.1,by omega,by omega⟩,trivial⟩
  show(m.s.tm++strOfNums [a.letter,48+a.digit]).size<=16;rw[ByteArray.size_append,strOfNums_size];simp;omega
 split
 ·obtain⟨h1,h2⟩:=h
  obtain⟨_,_,g3⟩:=V6 m.s.tm a.letter m.s.tm.size 0 [] rfl (by simp);refine⟨?_,?_⟩
  ·show TL lo (dW (strOfNums (sW m.s.tm a.letter m.s.tm.size 0 [])))
   rw[iO g3];exact acS _ _ _ _ _ trivial (by simpa using h1)
  show(strOfNums (sW m.s.tm a.letter m.s.tm.size 0 [])).size<=16;rw[strOfNums_size];have:=Qd m.s.tm a.letter m.s.tm.size 0 [] (Nat.le_refl _) (Nat.zero_le _);omega
 split
 ·exact h
 have:(k8 m.s a.letter (dJ m.s a)).tm=m.s.tm:=by
  unfold k8 fX
  split
  ·split
   ·rfl
   split<;>rfl
  rfl
 show Dt lo (k8 m.s a.letter (dJ m.s a));unfold Dt;rw[this];exact h
structure kS(ol:Ol)(P:Sd->Prop):Prop where
 act:∀(m:Ma) (a:Ac),uB a->P m.s->P (bC m a).2.s
 set:∀(m:Ma) (i:Int) (v:Bool),P m.s->P (cK m i v).s
 rm:∀(s:Sd) (left:List Bool),P s->P (rem ol.ag s left)
section
variable {ol:Ol} {P:Sd->Prop}
theorem kS.acts(h:kS ol P):∀(l:List Ac) {m:Ma},P m.s->(∀a∈l,uB a)->P (cJ l m).s:=by
 intro l
 induction l with
 |nil=>intro m hp _;exact hp
 |cons a l ih=>?_
 intro m hp ha;simp only[cJ];have h1:=h.act m a (ha a (by simp)) hp
 split
 ·exact ih h1 (λb hb=>ha b (by simp[hb]))
 exact h1
theorem kS.dz(h:kS ol P){k:Nat}{sg:Int}(hsg:sg=94\/sg=36):∀(l:List Bl) {m:Ma},(∀b∈l,∀k:Nat,∀sg:Int,b.state=k->b.sign=sg->(sg=94\/sg=36)->∀a∈b.acts,uB a)->P m.s->P (df k sg l m).s:=by
 intro l
 induction l with
 |nil=>intro m _ hp;exact hp
 |cons b l ih=>?_
 intro m hA hp;simp only[df];refine ih (λb hb=>hA b (by simp[hb])) ?_
 split
 ·rename_i c
  simp only[Bool.and_eq_true,beq_iff_eq]at c;exact h.acts _ hp (hA b (by simp) k sg c.1 c.2 hsg)
 exact hp
theorem kS.bY(h:kS ol P)(hA:pw ol){m:Ma}(hp:P m.s)(k:Nat):P (bY ol m k).s:=by
 have h1:=h.dz (k:=k) (.inl rfl) ol.dz hA.bl (h.set m k true hp);unfold Ch.bY
 split
 ·rw[(pR _ _ _).1];exact h1
 exact h1
theorem kS.c_(h:kS ol P)(hA:pw ol)(st:List Bool)(gl:List Int):∀(f k:Nat) {m:Ma},P m.s->P (c_ ol st gl f k m).s:=by
 intro f
 induction f with
 |zero=>intro k m hp;exact hp
 |succ f ih=>?_
 intro k m hp;simp only[Ch.c_];refine ih _ ?_
 split
 ·exact h.bY hA hp k
 exact hp
theorem kS.bP(h:kS ol P)(hA:pw ol)(left:List Bool):∀(k:Nat) {m:Ma},P m.s->P (bP ol left k m).s:=by
 intro k
 induction k with
 |zero=>intro m hp;exact hp
 |succ k ih=>?_
 intro m hp;simp only[Ch.bP];refine ih ?_
 split
 ·exact h.set _ _ _ (h.dz (.inr rfl) ol.dz hA.bl hp)
 exact hp
theorem kS.dQ(h:kS ol P)(hA:pw ol):∀(l:List Int) {m:Ma},P m.s->P (dQ ol l m).s:=by
 intro l
 induction l with
 |nil=>intro m hp;exact hp
 |cons x l ih=>?_
 intro m hp;simp only[Ch.dQ];refine ih (h.acts _ hp ?_);unfold kD
 split
 ·rename_i y hy;exact hA.tr y (List.mem_of_getElem? hy)
 simp
theorem kS.cd(h:kS ol P)(hA:pw ol){m:Ma}(hp:P m.s)(l:List Int):P (cd ol m l).s:=
 h.c_ hA _ _ _ _ (h.dQ hA l (h.bP hA _ _ (m:={m with s:=Ch.rem ol.ag m.s (bO ol m.s l)}) (h.rm _ _ hp)))
theorem kS.rounds(h:kS ol P)(hA:pw ol):∀(n:Nat) {m:Ma},P m.s->P (rounds ol n m).s:=by
 intro n
 induction n with
 |zero=>intro m hp;exact hp
 |succ n ih=>?_
 intro m hp;simp only[Ch.rounds]
 split
 ·refine ih ?_
  unfold round
  split
  ·split
   ·exact h.cd hA hp _
   rename_i a q _;exact h.cd hA (m:={m with q:=q}) hp _
  exact h.cd hA hp _
 exact hp
end
theorem gG{lo:Int}(hlo:lo<=49)(ol:Ol):kS ol (Dt lo):=⟨λ_ _ ha h=>JB hlo h ha,λ_ _ _ h=>h,λ_ _ h=>h⟩
end Ch
def nwA(cb g n:Nat)(pv:Value)(m:Ma):Array Value:=#[.pointer (some ⟨cb,0,none⟩),.slice (some ⟨g,0,none⟩) n n,pv,.string m.s.tm,.int .i64 m.s.x,.int .i64 m.s.y,.int .i64 m.s.z,.string (strOfNums m.q),.string (strOfNums m.out)]
def fy(w:World)(xb cb g n:Nat)(pv:Value)(m:Ma):Prop:=w.heap[xb]? =some (.cells (nwA cb g n pv m) 274 (0,0))
section
variable {w w':World} {xb cb g n:Nat} {pv:Value} {m:Ma}
theorem fy.cell(h:fy w xb cb g n pv m)(i:Nat):w.cell? ⟨xb,i,none⟩=(nwA cb g n pv m)[i]?:=by unfold fy at h;rw[World.cell?,h];rfl
theorem fy.free(h:fy w xb cb g n pv m)(i:Nat):w.frozen? ⟨xb,i,none⟩=false:=by unfold fy at h;simp[World.frozen?,h]
theorem fy.keep{S:Nat->Prop}(h:fy w xb cb g n pv m)(k:Kp S w w')(hS:¬S xb):fy w' xb cb g n pv m:=k.at_ h hS
theorem fy.Vu(h:fy w xb cb g n pv m)(v:Int):fy (w.setCell ⟨xb,4,none⟩ (.int .i64 v)) xb cb g n pv {m with s:={m.s with x:=v}}:=by unfold fy at*;rw[ah _ h];rfl
theorem fy.Vv(h:fy w xb cb g n pv m)(v:Int):fy (w.setCell ⟨xb,5,none⟩ (.int .i64 v)) xb cb g n pv {m with s:={m.s with y:=v}}:=by unfold fy at*;rw[ah _ h];rfl
theorem fy.Vw(h:fy w xb cb g n pv m)(v:Int):fy (w.setCell ⟨xb,6,none⟩ (.int .i64 v)) xb cb g n pv {m with s:={m.s with z:=v}}:=by unfold fy at*;rw[ah _ h];rfl
theorem fy.MR(h:fy w xb cb g n pv m)(q:List Int):fy (w.setCell ⟨xb,7,none⟩ (.string (strOfNums q))) xb cb g n pv {m with q:=q}:=by unfold fy at*;rw[ah _ h];rfl
theorem fy.zA(h:fy w xb cb g n pv m)(q:List Int):fy (w.setCell ⟨xb,8,none⟩ (.string (strOfNums q))) xb cb g n pv {m with out:=q}:=by unfold fy at*;rw[ah _ h];rfl
end
namespace Ch
def ag(l:List NV):List St:=(mk l).map RN.st
theorem GN(l:List NV):(ag l).length=l.length:=by simp[ag,mk]
theorem GO{l:List NV}{i:Nat}{x:NV}(h:l[i]? =some x):aw (ag l) i=x.n.parent:=by
 have hlt:=(List.getElem?_eq_some_iff.1 h).1;unfold ag;rw[wL (by rw[cP];exact hlt),iL h]
theorem Wc{l:List NV}{i:Nat}{x:NV}(h:l[i]? =some x):aA (ag l) i=x.n.kind:=by
 have hlt:=(List.getElem?_eq_some_iff.1 h).1;unfold ag;rw[ym (by rw[cP];exact hlt),iL h]
end Ch
def tC(l:List NV)(k:Nat):Prop:=l.length<=k/\∀x∈l,x.n.enter.length<=k/\x.n.leave.length<=k/\x.n.trans.length<=k
theorem tC.mono{l:List NV}{k j:Nat}(h:tC l k)(hk:k<=j):tC l j:=⟨by have:=h.1;omega,λx hx=>by have:=h.2 x hx;omega⟩
theorem tC.push{l:List NV}{k:Nat}(h:tC l k){n:RN}(hn:n.enter=[]/\n.leave=[]/\n.trans=[]){a b c:Value}:tC (l++[⟨n,a,b,c⟩]) (k+1):=by
 refine⟨by have:=h.1;simp;omega,λx hx=>?_⟩
 rcases List.mem_append.1 hx with hx|hx
 ·have:=h.2 x hx;omega
 simp at hx;subst hx;simp[hn.1,hn.2.1,hn.2.2]
theorem tC.set{l:List NV}{k j m:Nat}(h:tC l k)(hk:k<=j){y:NV}(hy:y.n.enter.length<=j/\y.n.leave.length<=j/\y.n.trans.length<=j):tC (l.set m y) j:=by
 refine⟨by have:=h.1;simp;omega,λx hx=>?_⟩
 rcases jk hx with hx|rfl
 ·have:=h.2 x hx;omega
 exact hy
theorem tC.kind{l:List NV}{k m:Nat}{x:NV}(h:tC l k)(hx:l[m]? =some x)(c:Int):tC (l.set m {x with n:={x.n with kind:=c}}) k:=
 h.set (Nat.le_refl _) (h.2 x (List.mem_of_getElem? hx))
namespace Ch
def TB(L:List RN):Prop:=∀n∈L,∀rt∈n.trans,rt.text.size<=300/\rt.pos<=300
theorem TB.mod{L:List RN}(h:TB L){i:Int}{f:RN->RN}(hf:∀n,∀rt∈(f n).trans,rt∈n.trans\/(rt.text.size<=300/\rt.pos<=300)):TB (mM L i f):=by
 intro n hn rt hr
 cases i with
 |negSucc j=>exact h n hn rt hr
 |ofNat j=>?_
 obtain⟨k,hk⟩:=List.getElem?_of_mem hn;rw[show(mM L (Int.ofNat j) f)[k]? =_ from gF (L:=L) (k:=j) (f:=f) k]at hk
 split at hk
 ·rw[Option.map_eq_some_iff]at hk
  obtain⟨m,hm,rfl⟩:=hk
  rcases hf m rt hr with h'|h'
  ·exact h m (List.mem_of_getElem? hm) rt h'
  exact h'
 exact h n (List.mem_of_getElem? hk) rt hr
theorem TB.mark{L:List RN}(h:TB L)(i:Int):TB (fQ L i):=by
 intro n hn rt hr;obtain⟨k,hk⟩:=List.getElem?_of_mem hn;obtain⟨m,hm,e,_⟩:=j7 L i k n hk;exact h m (List.mem_of_getElem? hm) rt (by rw[<-e];exact hr)
end Ch
structure Rf(l:List NV)(ol:Ol):Prop where
 ag:Ch.ag l=ol.ag
 bG:∀(k:Nat) (x:NV),l[k]? =some x->su vu x.n.trans (ol.bG.filter (oV k))
 rR:∀(k:Nat) (x:NV),l[k]? =some x->su VS x.n.enter (ol.dz.filter (lS k 94))
 rD:∀(k:Nat) (x:NV),l[k]? =some x->su VS x.n.leave (ol.dz.filter (lS k 36))
 iP:Ah ol
 uX:pw ol
 ok:ol.Ok
 nm:∀(k:Nat) (x:NV),l[k]? =some x->65<=x.n.name/\x.n.name<=90
 tb:∀x∈l,∀rt∈x.n.trans,rt.text.size<=300
 kd:∀(k:Nat) (x:NV),l[k]? =some x->1<=x.n.kind/\x.n.kind<=5
theorem Rf.len{l:List NV}{ol:Ol}(h:Rf l ol):ol.ag.length=l.length:=by rw[<-h.ag,GN]
theorem Rf.le{l:List NV}{ol:Ol}(h:Rf l ol):l.length<=16:=by rw[<-h.len];exact h.iP.le
theorem Rf.up{l:List NV}{ol:Ol}(h:Rf l ol):Up (Ch.ag l):=by rw[h.ag];exact h.iP.qg.up
theorem Rf.par{l:List NV}{ol:Ol}(h:Rf l ol){k:Nat}{x:NV}(hx:l[k]? =some x):aw ol.ag k=x.n.parent:=by rw[<-h.ag];exact GO hx
theorem Rf.kind{l:List NV}{ol:Ol}(h:Rf l ol){k:Nat}{x:NV}(hx:l[k]? =some x):aA ol.ag k=x.n.kind:=by rw[<-h.ag];exact Wc hx
theorem Rf.move{l:List NV}{ol:Ol}(h:Rf l ol){t a k:Nat}(hm:V5 ol t a k):∃(nd:NV) (rt:RT) (x:Tr),l[a]? =some nd/\nd.n.trans[k]? =some rt/\ol.bG[t]? =some x/\x.state=a/\vu rt x/\rt.text.size<=300:=by
 obtain⟨x,h1,h2,h3⟩:=hm.tr;obtain⟨a',e,hal⟩:=h.iP.src x (List.mem_of_getElem? h1)
 have:a'=a:=by omega
 subst this;rw[h.len]at hal;have hnd:l[a']? =some l[a']:=List.getElem?_eq_getElem hal;obtain⟨rt,hr1,hr2⟩:=(h.bG a' _ hnd).get h3;exact⟨_,rt,x,hnd,hr1,h1,h2,hr2,h.tb _ (List.mem_of_getElem? hnd) rt (List.mem_of_getElem? hr1)⟩
namespace Ch
def dm(ss:List St)(tg d:Int):Int:=n_ ss tg (d+1).toNat d
theorem xU{ol:Ol}(h16:ol.ag.length<=16)(s:Sd)(a b:Nat):meets (leaves ol s a) (leaves ol s b)=(List.range ol.ag.length).any (λj=>lv ol s a j&&lv ol s b j):=by
 have h:=Js h16 (s:=s) (a:=(a:Int)) (b:=(b:Int));simp only[Int.toNat_natCast]at h
 cases q:(List.range ol.ag.length).any (λj=>lv ol s a j&&lv ol s b j)with
 |false=>
  rw[h];intro j hj;rw[List.any_eq_false]at q
  have hjl:j<ol.ag.length:=by
   obtain⟨x,hx⟩:=Ai hj.1;exact((oZ hx j).1 hj.1).2.1
  exact q j (by simpa using hjl) (by rw[hj.1,hj.2];rfl)
 |true=>?_
 rw[List.any_eq_true]at q;obtain⟨j,_,hj⟩:=q;simp only[Bool.and_eq_true]at hj
 cases q2:meets (leaves ol s a) (leaves ol s b)with
 |true=>rfl
 |false=>exact absurd hj ((h.1 q2) j)
end Ch
theorem MvW.set{w:World}{ob:Nat}{a b:Value}(h:w.heap[ob]? =some (.cells #[a,b] 301))(x y:Int):((w.setCell ⟨ob,0,none⟩ (.int .i64 x)).setCell ⟨ob,1,none⟩ (.int .i64 y)).heap[ob]? =some (.cells #[.int .i64 x,.int .i64 y] 301):=by
 rw[ah _ (ah _ h)];rfl
def eu(w:World)(base:Nat)(v:Value)(n:Nat)(xs:List Value):Prop:=
 xs.length=n/\((v= .slice none 0 0/\n=0)\/∃g cap cur fr,v= .slice (some ⟨g,0,none⟩) n cap/\base<=g/\w.heap[g]? =some (.cells cur 5 fr)/\(fr=(0,0)\/cur.size<=fr.1)/\n<=cur.size/\cur.toList.take n=xs)
section
variable {w w':World} {base g cap:Nat} {v:Value} {n:Nat} {xs:List Value}
theorem eu.of(h:w.ownsRow base 5 1 v n xs):eu w base v n xs:=by
 refine⟨by simpa using h.1,?_⟩
 rcases h.2 with h0|⟨g,cap,cur,hv,hb,hg,h1,_,h3,h4⟩
 ·exact .inl h0
 exact .inr ⟨g,cap,cur,_,hv,hb,hg,.inl rfl,by omega,by simpa using h4⟩
theorem eu.keep{S:Nat->Prop}(h:eu w base v n xs)(k:Kp S w w')(hs:∀i,v.ownBlock=some i->¬S i):eu w' base v n xs:=by
 refine⟨h.1,?_⟩
 rcases h.2 with h0|⟨g,cap,cur,fr,rfl,hb,hg,r⟩
 ·exact .inl h0
 exact .inr ⟨g,cap,cur,fr,rfl,hb,k.at_ hg (hs g rfl),r⟩
theorem eu.block(h:eu w base v n xs){k:Nat}(hk:v.ownBlock=some k):base<=k/\∃cur fr,w.heap[k]? =some (.cells cur 5 fr):=by
 rcases h.2 with⟨rfl,_⟩|⟨g,cap,cur,fr,rfl,hb,hg,_⟩
 ·simp[Value.ownBlock]at hk
 simp[Value.ownBlock]at hk;subst hk;exact⟨hb,cur,fr,hg⟩
theorem eu.ne(h:eu w base v n xs){b:Nat}{c:Array Value}{T:TypeId}{f:Nat×Nat}(hb:w.heap[b]? =some (.cells c T f))(hT:5≠T):v.ownBlock≠some b:=λhk=>by
 obtain⟨_,cur,fr,hg⟩:=h.block hk;rw[hb]at hg;simp only[Option.some.injEq,Obj.cells.injEq]at hg;exact hT hg.2.1.symm
theorem eu.lt(h:eu w base v n xs)(k:Nat)(hk:v.ownBlock=some k):base<=k/\k<w.heap.size:=by
 obtain⟨hb,_,_,hg⟩:=h.block hk;exact⟨hb,lt_of_block hg⟩
theorem eu.len(h:eu w base v n xs):∃ao cap,v= .slice ao n cap:=by
 rcases h.2 with⟨rfl,rfl⟩|⟨g,cap,cur,fr,rfl,_⟩
 ·exact⟨_,_,rfl⟩
 exact⟨_,_,rfl⟩
theorem eu.apart(h:eu w base v n xs){base':Nat}{e:TypeId}{size:Nat}{u:Value}{n':Nat}{xs':List Value}(h':w.ownsRow base' e size u n' xs')(hT:e≠5)(k:Nat)(hk:u.ownBlock=some k):v.ownBlock≠some k:=λhv=>by
 obtain⟨_,_,_,hg⟩:=h.block hv;exact own_ne h' hg hT hk
theorem eu.cellAt(h:eu w base (.slice (some ⟨g,0,none⟩) n cap) n xs)(j:Nat)(hj:j<n):w.cell? ⟨g,j,none⟩=xs[j]?:=by
 rcases h.2 with⟨h',_⟩|⟨g',cap',cur,fr,h',_,hg,_,_,ht⟩
 ·simp at h'
 simp only[Value.slice.injEq,Option.some.injEq,Addr.mk.injEq,and_true,true_and]at h';obtain⟨rfl,rfl⟩:=h';rw[World.cell?,hg,<-ht,List.getElem?_take,if_pos hj];simp
theorem eu.free(h:eu w base (.slice (some ⟨g,0,none⟩) n cap) n xs)(j:Nat)(hj:j<n):w.frozen? ⟨g,j,none⟩=false:=by
 rcases h.2 with⟨h',_⟩|⟨g',cap',cur,fr,h',_,hg,hf,hn,_⟩
 ·simp at h'
 simp only[Value.slice.injEq,Option.some.injEq,Addr.mk.injEq,and_true,true_and]at h';obtain⟨rfl,rfl⟩:=h';obtain⟨lo,hi⟩:=fr;simp only[World.frozen?,hg]
 rcases hf with hf|hf
 ·simp at hf;simp[hf]
 simp at hf
 have:¬lo<=j:=by omega
 simp[this]
theorem eu.stored(h:eu w base (.slice (some ⟨g,0,none⟩) n cap) n xs)(j:Nat)(u:Value):eu (w.setCell ⟨g,j,none⟩ u) base (.slice (some ⟨g,0,none⟩) n cap) n (xs.set j u):=by
 rcases h.2 with⟨h',_⟩|⟨g',cap',cur,fr,h',hb,hg,hf,hn,ht⟩
 ·simp at h'
 simp only[Value.slice.injEq,Option.some.injEq,Addr.mk.injEq,and_true,true_and]at h';obtain⟨rfl,rfl⟩:=h';refine⟨by rw[List.length_set];exact h.1,.inr ⟨g,cap,_,fr,rfl,hb,ah _ hg,by simpa using hf,by simpa using hn,?_⟩⟩;rw[<-ht];simp[List.take_set]
theorem eu.text{l:List Int}(h:eu w base v l.length (ar l)):(convert 47 9 v).run prog w= .ok (.string (strOfNums l)) w:=by
 rcases h.2 with⟨rfl,h0⟩|⟨g,cap,cur,fr,rfl,r⟩
 ·have:l=[]:=List.eq_nil_of_length_eq_zero h0
  subst this;exact run_convert_bytes_nil w 47 5 underlying47 underlying5 0 0 9 underlying9
 refine run_convert_bytes_arg w 47 5 underlying47 underlying5 g 0 l.length cap l rfl ?_ 9 underlying9;intro i hi;rw[Nat.zero_add,h.cellAt i (by omega)];simp[ar,hi]
end
def Qr(w:World)(B:Nat)(ol:Ol)(s:Sd)(pv:Value):Prop:=eu w B pv (jq ol.ag s).length (ar (jq ol.ag s))
structure lW(w:World)(B B2 xb cb g:Nat)(pv v:Value)(l:List NV)(ol:Ol)(m:Ma):Prop where
 nb:fy w xb cb g l.length pv m
 on:∃on,iH w g on/\fJ l.length on m.s.act
 ps:Qr w B2 ol m.s pv
 ch:iG w B cb l v
def nS(xb g:Nat)(pv:Value)(k:Nat):Prop:=k=xb\/k=g\/pv.ownBlock=some k
section
variable {w w':World} {B B2 xb cb g:Nat} {pv v:Value} {l:List NV} {ol:Ol} {m:Ma}
theorem lW.xg(h:lW w B B2 xb cb g pv v l ol m):xb≠g:=λe=>by
 obtain⟨on,ho,_⟩:=h.on;have h1:=h.nb;unfold fy at h1;unfold iH at ho;rw[e,ho]at h1;simp only[Option.some.injEq,Obj.cells.injEq]at h1;exact absurd h1.2.1 (by decide)
theorem lW.px(h:lW w B B2 xb cb g pv v l ol m):pv.ownBlock≠some xb:=eu.ne h.ps h.nb (by decide)
theorem lW.ai(h:lW w B B2 xb cb g pv v l ol m)(k:Kp (λ_=>False) w w'):lW w' B B2 xb cb g pv v l ol m:=by
 obtain⟨on,ho,hs⟩:=h.on;exact⟨h.nb.keep k (λx=>x),⟨on,k.at_ ho (λx=>x),hs⟩,eu.keep h.ps k (λ_ _ x=>x),h.ch.ai k⟩
theorem lW.chart(h:lW w B B2 xb cb g pv v l ol m)(k:Kp (nS xb g pv) w w'):iG w' B cb l v:=
 h.ch.A4 k (λi cur T hi _ hT e=>by
  obtain⟨on,ho,_⟩:=h.on
  rcases e with e|e|e
  ·subst e
   have h1:=h.nb;unfold fy at h1;rw[h1]at hi;simp only[Option.some.injEq,Obj.cells.injEq]at hi
   rcases hT with h|h|h|h<;>rw[h]at hi<;>exact absurd hi.2.1 (by decide)
  ·subst e
   unfold iH at ho;rw[ho]at hi;simp only[Option.some.injEq,Obj.cells.injEq]at hi
   rcases hT with h|h|h|h<;>rw[h]at hi<;>exact absurd hi.2.1 (by decide)
  rcases hT with h'|h'|h'|h'<;>subst h'<;>exact eu.ne h.ps hi (by decide) e)
theorem lW.acts{m':Ma}(h:lW w B B2 xb cb g pv v l ol m)(k:Kp (λk=>k=xb) w w')(hn:fy w' xb cb g l.length pv m')(ha:jZ m'.s m.s):lW w' B B2 xb cb g pv v l ol m':=by
 obtain⟨on,ho,hs⟩:=h.on;refine⟨hn,⟨on,k.at_ ho (λe=>h.xg e.symm),by rw[ha.1];exact hs⟩,?_,h.chart (k.mono (λ_ _ e=>.inl e))⟩;have:Qr w' B2 ol m.s pv:=eu.keep h.ps k (λj hj e=>h.px (by rw[hj,e]));unfold Qr jq at this⊢
 have hp:aR m'.s=aR m.s:=by funext j;unfold aR;rw[ha.2]
 rw[hp];exact this
theorem lW.push(h:lW w B B2 xb cb g pv v l ol m)(c:Int):lW (((w.alloc (.cells #[.int .u8 c] 5)).setCell ⟨xb,7,none⟩ (.string (strOfNums m.q++strOfNums [c]))).drew) B B2 xb cb g pv v l ol {m with q:=m.q++[c]}/\Kp (λk=>k=xb) w (((w.alloc (.cells #[.int .u8 c] 5)).setCell ⟨xb,7,none⟩ (.string (strOfNums m.q++strOfNums [c]))).drew):=by
 have K:Kp (λk=>k=xb) w (((w.alloc (.cells #[.int .u8 c] 5)).setCell ⟨xb,7,none⟩ (.string (strOfNums m.q++strOfNums [c]))).drew):=(((Kp.refl _ _).alloc _).setCell (by intro _;rfl) _).drew;refine⟨h.acts K ?_ (jZ.refl _),K⟩;have h1:fy (w.alloc (.cells #[.int .u8 c] 5)) xb cb g l.length pv m:=h.nb.keep ((Kp.refl (λ_=>False) _).alloc _) (λx=>x);have h2:=h1.MR (m.q++[c]);rw[jn]at h2;exact h2.keep ((Kp.refl (λ_=>False) _).drew) (λx=>x)
end
namespace Ch
def kT(bs:List Bl)(m:Ma):Ma:=bs.foldl (λm b=>cJ b.acts m) m
structure o_(m:Ma)(N:Nat):Prop where
 ok:m.s.Ok
 tm:Dt 48 m.s
 sz:m.Sz N
theorem o_.acts{m:Ma}{N:Nat}(h:o_ m N){rz:List Ac}(hv:∀a∈rz,uB a)(hl:rz.length<=240):o_ (cJ rz m) (N+480):=
 ⟨pQ rz h.ok,(gG (by omega) ⟨[],[],[]⟩).acts rz h.tm hv,uw h.sz hl⟩
theorem o_.le{m:Ma}{N M:Nat}(h:o_ m N)(hl:N<=M):o_ m M:=⟨h.ok,h.tm,h.sz.le hl⟩
theorem o_.all:∀(bs:List Bl) {m:Ma} {N:Nat},o_ m N->(∀b∈bs,(∀a∈b.acts,uB a)/\b.acts.length<=240)->o_ (kT bs m) (N+480*bs.length):=by
 intro bs
 induction bs with
 |nil=>intro m N h _;exact h
 |cons b l ih=>?_
 intro m N h hb;have h1:=h.acts (hb b (by simp)).1 (hb b (by simp)).2;have:=ih h1 (λc hc=>hb c (by simp[hc]));exact this.le (by simp;omega)
theorem o_.enter{ol:Ol}(hol:ol.Ok)(hA:pw ol){m:Ma}{N:Nat}(h:o_ m N)(i:Nat):o_ (bY ol m i) (N+115202):=
 ⟨vm h.ok i,(gG (by omega) ol).bY hA h.tm i,vn hol h.sz i⟩
end Ch
section
variable {w w':World} {B B2 xb cb g:Nat} {pv v:Value} {l:List NV} {ol:Ol} {m:Ma}
theorem Ch.fJ.put{n i:Nat}{on l:List Bool}(h:fJ n on l)(hi:i<n)(hn:n<=16)(b:Bool):fJ n (on.set i b) (pH l (i:Int) b):=by
 obtain⟨h1,h2,h3⟩:=h;refine⟨by simp[h1],by show(l.set i b).length=16;simp[h2],λk=>?_⟩;show(on.set i b).getD k false=(l.set i b).getD k false;have:=h3 k;unfold eJ Ch.bit at this;simp only[List.getD_eq_getElem?_getD,List.getElem?_set]at this⊢
 by_cases e:i=k
 ·subst e;rw[if_pos rfl,if_pos rfl,if_pos (by omega),if_pos (by omega)]
 rw[if_neg e,if_neg e];exact this
end
namespace Ch
theorem o_.leave{ol:Ol}(hol:ol.Ok)(hA:pw ol){m:Ma}{N:Nat}(h:o_ m N)(left:List Bool)(k:Nat):o_ (bP ol left k m) (N+115200*k):=
 ⟨x_ _ _ _ h.ok,(gG (by omega) ol).bP hA left k h.tm,ya hol left k h.sz⟩
theorem o_.rem{ol:Ol}{m:Ma}{N:Nat}(h:o_ m N)(left:List Bool):o_ {m with s:=Ch.rem ol.ag m.s left} N:=⟨Gv _ h.ok,h.tm,h.sz⟩
end Ch
theorem lW.tf{w:World}{B B2 xb cb g:Nat}{pv v:Value}{l:List NV}{ol:Ol}{m:Ma}(h:lW w B B2 xb cb g pv v l ol m){base:Nat}{T:TypeId}{sz:Nat}{u:Value}{n:Nat}{xs:List Value}(hu:w.ownsRow base T sz u n xs)(h1:T≠274)(h2:T≠4)(h3:T≠5):∀k,u.ownBlock=some k->¬nS xb g pv k:=λk hk e=>by
 obtain⟨on,ho,_⟩:=h.on
 rcases e with e|e|e
 ·exact own_ne hu h.nb h1 (by rw[hk,e])
 ·exact own_ne hu ho h2 (by rw[hk,e])
 exact eu.apart h.ps hu h3 k hk e
namespace Ch
def QB(m:Ma):Prop:=∀a∈m.q,0<=a/\a<256
theorem QB.push{m:Ma}(h:QB m){c:Int}(h0:0<=c)(h1:c<256):QB {m with q:=m.q++[c]}:=by
 intro a ha
 rcases List.mem_append.1 ha with ha|ha
 ·exact h a ha
 obtain rfl:a=c:=by simpa using ha
 exact⟨h0,h1⟩
theorem QB.act{m:Ma}(h:QB m){a:Ac}(ha:uB a):QB (bC m a).2:=by
 unfold bC
 split
 ·exact h.push (by have:=ha.byte;omega) (by have:=ha.byte;omega)
 split
 ·exact h
 split
 ·exact h
 split
 ·exact h
 exact h
theorem QB.acts:∀(l:List Ac) {m:Ma},QB m->(∀a∈l,uB a)->QB (cJ l m):=by
 intro l
 induction l with
 |nil=>intro m hp _;exact hp
 |cons a l ih=>?_
 intro m hp ha;simp only[cJ];have h1:=hp.act (ha a (by simp))
 split
 ·exact ih h1 (λb hb=>ha b (by simp[hb]))
 exact h1.push (by omega) (by omega)
theorem QB.dz{k:Nat}{sg:Int}(hsg:sg=94\/sg=36):∀(l:List Bl) {m:Ma},(∀b∈l,∀k:Nat,∀sg:Int,b.state=k->b.sign=sg->(sg=94\/sg=36)->∀a∈b.acts,uB a)->QB m->QB (df k sg l m):=by
 intro l
 induction l with
 |nil=>intro m _ hp;exact hp
 |cons b l ih=>?_
 intro m hA hp;simp only[df];refine ih (λb hb=>hA b (by simp[hb])) ?_
 split
 ·rename_i c
  simp only[Bool.and_eq_true,beq_iff_eq]at c;exact hp.acts _ (hA b (by simp) k sg c.1 c.2 hsg)
 exact hp
def ZQ(ol:Ol):Prop:=∀k,0<=dN ol.ag k/\dN ol.ag k<256
theorem QB.bY{ol:Ol}(hn:ZQ ol)(hA:pw ol){m:Ma}(hp:QB m)(k:Nat):QB (bY ol m k):=by
 have h1:QB (df k 94 ol.dz (cK m k true)):=QB.dz (k:=k) (.inl rfl) ol.dz hA.bl hp;unfold Ch.bY
 split
 ·unfold eR
  split
  ·exact h1
  split
  ·exact(h1.push (hn _).1 (hn _).2).push (hn _).1 (hn _).2
  exact h1.push (hn _).1 (hn _).2
 exact h1
theorem QB.c_{ol:Ol}(hn:ZQ ol)(hA:pw ol)(st:List Bool)(gl:List Int):∀(f k:Nat) {m:Ma},QB m->QB (c_ ol st gl f k m):=by
 intro f
 induction f with
 |zero=>intro k m hp;exact hp
 |succ f ih=>?_
 intro k m hp;simp only[Ch.c_];refine ih _ ?_
 split
 ·exact hp.bY hn hA k
 exact hp
theorem QB.bP{ol:Ol}(hA:pw ol)(left:List Bool):∀(k:Nat) {m:Ma},QB m->QB (bP ol left k m):=by
 intro k
 induction k with
 |zero=>intro m hp;exact hp
 |succ k ih=>?_
 intro m hp;simp only[Ch.bP];refine ih ?_
 split
 ·exact(QB.dz (k:=k) (.inr rfl) ol.dz hA.bl hp:QB (df k 36 ol.dz m))
 exact hp
theorem QB.dQ{ol:Ol}(hA:pw ol):∀(l:List Int) {m:Ma},QB m->QB (dQ ol l m):=by
 intro l
 induction l with
 |nil=>intro m hp;exact hp
 |cons x l ih=>?_
 intro m hp;simp only[Ch.dQ];refine ih (hp.acts _ ?_);unfold kD
 split
 ·rename_i y hy;exact hA.tr y (List.mem_of_getElem? hy)
 simp
theorem QB.cd{ol:Ol}(hn:ZQ ol)(hA:pw ol){m:Ma}(hp:QB m)(l:List Int):QB (cd ol m l):=
 QB.c_ hn hA _ _ _ _ (QB.dQ hA l (QB.bP hA _ _ (m:={m with s:=Ch.rem ol.ag m.s (bO ol m.s l)}) hp))
theorem o_.cd{ol:Ol}(hol:ol.Ok)(hA:pw ol){m:Ma}{N:Nat}(h:o_ m N){l:List Int}(hl:l.length<=16):o_ (cd ol m l) (N+3900000):=
 ⟨nG h.ok l,(gG (by omega) ol).cd hA h.tm l,pT hol h.sz hl⟩
end Ch
theorem Rf.YW{l:List NV}{ol:Ol}(h:Rf l ol):ZQ ol:=λk=>by
 by_cases hk:k<l.length
 ·obtain⟨x,hx⟩:∃x,l[k]? =some x:=⟨_,List.getElem?_eq_getElem hk⟩
  have hnm:dN ol.ag k=x.n.name:=by rw[<-h.ag];unfold Ch.ag;rw[uF (by rw[cP];exact hk),iL hx]
  have:=h.nm k x hx;rw[hnm];omega
 unfold dN;rw[List.getElem?_eq_none (by rw[h.len];omega)];simp
namespace Ch
def m0(ol:Ol):Ma:=⟨bM ol.ag,[],[]⟩
end Ch
def ndA(s:St):Array Value:=#[.string (strOfNums [s.name]),.int .i64 s.kind,.int .i64 s.parent]
def Qs(w:World)(g n k:Nat)(ss:List St):Prop:=∃C,w.heap[g]? =some (.cells C 111 (0,0))/\C.size=n*3/\∀i s,i<k->ss[i]? =some s->∀j,j<3->C[i*3+j]? =(ndA s)[j]?
theorem Qs.set{w:World}{g n k:Nat}{ss:List St}{s:St}(h:Qs w g n k ss)(hs:ss[k]? =some s)(hk:k<n):
 Qs (((w.setCell ⟨g,k*3,none⟩ (.string (strOfNums [s.name]))).setCell ⟨g,k*3+1,none⟩ (.int .i64 s.kind)).setCell ⟨g,k*3+2,none⟩ (.int .i64 s.parent)) g n (k+1) ss:=by
 obtain⟨C,hC,hsz,hx⟩:=h;have e1:=heap_setCell_same w g (k*3) C 111 (.string (strOfNums [s.name])) hC;have e2:=heap_setCell_same _ g (k*3+1) _ 111 (.int .i64 s.kind) e1;have e3:=heap_setCell_same _ g (k*3+2) _ 111 (.int .i64 s.parent) e2;refine⟨_,e3,by simp[hsz],?_⟩;intro i u hi hu j hj
 rcases Nat.lt_or_eq_of_le (Nat.le_of_lt_succ hi)with h|h
 ·rw[<-hx i u h hu j hj]
  rw[Array.getElem?_setIfInBounds_ne (by omega),Array.getElem?_setIfInBounds_ne (by omega),Array.getElem?_setIfInBounds_ne (by omega)]
 subst h;rw[hs]at hu;simp at hu;subst hu
 have hj3:j=0\/j=1\/j=2:=by omega
 rcases hj3 with rfl|rfl|rfl
 ·rw[Array.getElem?_setIfInBounds_ne (by omega),Array.getElem?_setIfInBounds_ne (by omega),Nat.add_zero,Array.getElem?_setIfInBounds_self_of_lt (by omega)]
  rfl
 ·rw[Array.getElem?_setIfInBounds_ne (by omega),Array.getElem?_setIfInBounds_self_of_lt (by simp;omega)]
  rfl
 rw[Array.getElem?_setIfInBounds_self_of_lt (by simp;omega)];rfl
theorem Qs.cells{w:World}{g n k:Nat}{ss:List St}(h:Qs w g n k ss){i:Nat}(hi:i<n):
 (∃u,w.cell? ⟨g,i*3,none⟩=some u)/\(∃u,w.cell? ⟨g,i*3+1,none⟩=some u)/\(∃u,w.cell? ⟨g,i*3+2,none⟩=some u)/\∀o,w.frozen? ⟨g,o,none⟩=false:=by
 obtain⟨C,hC,hsz,_⟩:=h;refine⟨⟨C[i*3]'(by omega),?_⟩,⟨C[i*3+1]'(by omega),?_⟩,⟨C[i*3+2]'(by omega),?_⟩,λo=>by simp[World.frozen?,hC]⟩
 ·rw[cell_of_row w g _ C _ _ hC];exact Array.getElem?_eq_getElem _
 ·rw[cell_of_row w g _ C _ _ hC];exact Array.getElem?_eq_getElem _
 rw[cell_of_row w g _ C _ _ hC];exact Array.getElem?_eq_getElem _
structure qX where
 kind:Int
 t:ByteArray
 e:ByteArray
 s:As
 n:Int
 at_:Int
 rk:Int
 re:ByteArray
 ra:Int
def opL(o:qX):List Value:=[.int .i64 o.kind,.string o.t,.string o.e,.string o.s.act,.string o.s.past,.string o.s.tm,.int .i64 o.s.x,.int .i64 o.s.y,.int .i64 o.s.z,.int .i64 o.n,.int .i64 o.at_,.int .i64 o.rk,.string o.re,.int .i64 o.ra]
def Mp(w:World)(v:Value)(ops:List qX):Prop:=((∃ao cap,v= .slice ao 0 cap)/\ops=[])\/
 ∃g off cap,v= .slice (some ⟨g,off,none⟩) ops.length cap/\∀(i:Nat) (o:qX),ops[i]? =some o->∀(j:Nat) (u:Value),(opL o)[j]? =some u->w.cell? ⟨g,off+i*14+j,none⟩=some u
theorem Mp.len{w:World}{v:Value}{ops:List qX}(h:Mp w v ops):∃ao cap,v= .slice ao ops.length cap:=by
 rcases h with⟨⟨ao,cap,rfl⟩,rfl⟩|⟨g,off,cap,rfl,_⟩
 ·exact⟨_,_,rfl⟩
 exact⟨_,_,rfl⟩
theorem Mp.at_{w:World}{v:Value}{ops:List qX}(h:Mp w v ops){i:Nat}{o:qX}(ho:ops[i]? =some o):∃g off cap,v= .slice (some ⟨g,off,none⟩) ops.length cap/\∀(j:Nat) (u:Value),(opL o)[j]? =some u->w.cell? ⟨g,off+i*14+j,none⟩=some u:=by
 rcases h with⟨_,rfl⟩|⟨g,off,cap,hv,hc⟩
 ·simp at ho
 exact⟨g,off,cap,hv,hc i o ho⟩
def KB(B:Nat)(w w':World):Prop:=Kp (λi=>B<=i) w w'
theorem Mp.keep{w w':World}{v:Value}{ops:List qX}(h:Mp w v ops)(k:KB w.heap.size w w'):Mp w' v ops:=by
 rcases h with h|⟨g,off,cap,hv,hc⟩
 ·exact .inl h
 refine .inr ⟨g,off,cap,hv,λi o ho j u hu=>?_⟩;have h1:=hc i o ho j u hu;have hb:g<w.heap.size:=World.block_lt_of_cell? w ⟨g,off+i*14+j,none⟩ h1;rw[<-h1];exact World.cell?_of_block (k.block g hb (by omega))
open Go.ChangeShapes Go.WideShapes Go.ChangeAt Go.RowKit Go.Deep
section
variable {H:Type} {enc:TypeId×Value->H} {w:World} {base:Nat} {spare:Nat->Bool} {held:Bool}
structure qX.Sm(o:qX):Prop where
 t:o.t.size<=maxLen
 e:o.e.size<=maxLen
 act:o.s.act.size<=maxLen
 past:o.s.past.size<=maxLen
 tm:o.s.tm.size<=maxLen
end
namespace Ch
theorem TL.mono{lo lo':Int}(h:lo'<=lo):∀(n:Nat) {l:List Int},l.length<=n->TL lo l->TL lo' l:=by
 intro n
 induction n with
 |zero=>intro l hl _;cases l with|nil=>trivial|cons a l=>simp at hl
 |succ n ih=>?_
 intro l hl hT
 match l,hT with
 | [],_=>trivial
 |a::b::l,⟨⟨h1,h2,h3⟩,h4⟩=>exact⟨⟨h1,by omega,h3⟩,ih (by simp at hl;omega) h4⟩
theorem acT{t:ByteArray}:∀(f k:Nat),IU t f k=true->t.size<=k+f->(t.size-k) % 2=0->TL 49 ((dW t).drop k):=by
 intro f
 induction f with
 |zero=>intro k _ h1 _;rw[List.drop_eq_nil_of_le (by rw[bz];omega)];trivial
 |succ f ih=>?_
 intro k h h1 h2
 by_cases c:k+1<t.size
 ·rw[g_ c]
  simp only[IU,if_pos c]at h
  split at h
  ·rename_i q
   simp at q;refine⟨⟨q.1.1,by omega,by omega⟩,ih (k+2) h (by omega) (by omega)⟩
  simp at h
 rw[List.drop_eq_nil_of_le (by rw[bz];omega)];trivial
theorem GP{t:ByteArray}(h:j2 t=true):TL 49 (dW t)/\t.size<=16:=by
 unfold j2 at h
 split at h
 ·simp at h
 rename_i c;simp at c;have:=acT t.size 0 h (by omega) (by omega);exact⟨by simpa using this,by omega⟩
structure TkF(L:List RN)(ol:Ol)(a:As)(sd:Sd)(on:List Bool):Prop where
 spread:gf L a.act=some on
 same:fJ L.length on sd.act
 past:dW a.past=jq ol.ag sd
 tm:sd.tm=a.tm
 x:sd.x=a.x
 y:sd.y=a.y
 z:sd.z=a.z
 tl:Dt 48 sd
end Ch
theorem wU(w:World)(e:TypeId)(s:ByteArray):Kp (λ_=>False) w (Lib.bytesWorld w e s):=⟨rfl,rfl,rfl,by rw[Lib.bytesWorld_size];omega,λk hk _=>Lib.bytesWorld_at_old w e s k hk⟩
namespace Ch
theorem Bn{t:ByteArray}{a:As}(h:kP t a=0):mj t a=(takeA (read t).2.2.ag a).2/\(takeA (read t).2.2.ag a).1=true:=by
 unfold kP at h;unfold mj
 split at h
 ·rename_i c;simp at c;exact absurd h c
 rename_i c;rw[if_neg c]
 split at h
 ·rename_i c2;rw[if_pos c2];exact⟨rfl,c2⟩
 simp at h
theorem Bo{ss:List St}{c:Int}(h:place ss c≠ -2):∃g:Nat,place ss c=g/\g<ss.length/\dN ss g=c:=by
 rcases j8 c ss 0 with⟨e,_⟩|⟨i,s,h1,h2,h3,_⟩
 ·exact absurd e h
 refine⟨i,by unfold place;rw[h3];simp,(List.getElem?_eq_some_iff.1 h1).1,?_⟩;unfold dN;rw[h1];exact h2
theorem Bp(t:ByteArray):∀x∈dW t,0<=x/\x<256:=λx hx=>by
 unfold dW at hx;obtain⟨b,_,rfl⟩:=List.mem_map.1 hx;have:=b.toNat_lt;omega
/-! A tick. -/
def rF:List Int->List Int
 |a::b::l=>a::(b-1)::rF l
 |_=>[]
theorem Wd{t:ByteArray}:∀(f k:Nat) (acc:List Int),t.size<=k+2*f->(t.size-k) % 2=0->sX t f k acc=acc++rF ((dW t).drop k):=by
 intro f
 induction f with
 |zero=>intro k acc h _;rw[List.drop_eq_nil_of_le (by rw[bz];omega)];simp[sX,rF]
 |succ f ih=>?_
 intro k acc h h2
 by_cases c:k+1<t.size
 ·rw[g_ c]
  simp only[sX,if_pos c,rF];rw[ih (k+2) _ (by omega) (by omega)];simp
 rw[List.drop_eq_nil_of_le (by rw[bz];omega)];simp only[sX,if_neg c,rF,List.append_nil]
theorem GQ:∀(n:Nat) {l:List Int},l.length<=n->TL 49 l->TL 48 (rF l)/\(rF l).length=l.length/\∀x∈rF l,0<=x/\x<256:=by
 intro n
 induction n with
 |zero=>intro l hl _;cases l with|nil=>exact⟨trivial,rfl,by simp[rF]⟩|cons a l=>simp at hl
 |succ n ih=>?_
 intro l hl hT
 match l,hT with
 | [],_=>exact⟨trivial,rfl,by simp[rF]⟩
 |a::b::l,⟨⟨h1,h2,h3⟩,h4⟩=>
  obtain⟨g1,g2,g3⟩:=ih (by simp at hl;omega) h4;have h1':=h1;unfold bR at h1;simp at h1;refine⟨⟨⟨h1',by omega,by omega⟩,g1⟩,by simp[rF,g2],λx hx=>?_⟩;simp only[rF,List.mem_cons]at hx
  rcases hx with rfl|rfl|hx
  ·omega
  ·omega
  exact g3 x hx
theorem JC{s:Sd}(h:Dt 49 s):dW (tick s).tm=rF (dW s.tm):=by
 have he:s.tm.size % 2=0:=by rw[<-bz];exact TL.even _ (Nat.le_refl _) h.1
 show dW (strOfNums (sX s.tm s.tm.size 0 []))=_;rw[Wd _ _ _ (by omega) (by omega)];simp only[List.nil_append,List.drop_zero];exact iO (GQ _ (Nat.le_refl _) h.1).2.2
theorem GR{s:Sd}(h:Dt 49 s):Dt 48 (tick s):=by
 have hb:=JC h;have hd:=GQ _ (Nat.le_refl _) h.1;refine⟨by rw[hb];exact hd.1,?_⟩;rw[<-bz,hb,hd.2.1,bz];exact h.2
theorem acU:∀(n:Nat) {l:List Int},l.length<=n->tB l<=l.length:=by
 intro n
 induction n with
 |zero=>intro l hl;cases l with|nil=>simp[tB]|cons a l=>simp at hl
 |succ n ih=>?_
 intro l hl
 match l with
 | []=>simp[tB]
 | [a]=>simp[tB]
 |a::b::l=>
  have:=ih (l:=l) (by simp at hl;omega);simp only[tB,List.length_cons]
  split<;>omega
theorem acV{s:Sd}(h:Dt 48 s):vA 16 s:=by
 refine⟨by rw[<-bz];exact TL.even _ (Nat.le_refl _) h.1,?_⟩;have:=acU _ (Nat.le_refl (dW s.tm).length);rw[bz]at this;have:=h.2;omega
theorem JD{t:ByteArray}(h0:(read t).1=0):pw (read t).2.2:=by
 obtain⟨_,e,hq,_⟩:=wR h0;obtain⟨L,_,hN⟩:=yk hq;rw[e];exact Wa hN (Bj t)
theorem We{t:ByteArray}{a:As}(h:kP t a=0):Dt 49 (mj t a):=by
 obtain⟨e,h1⟩:=Bn h;rw[e];exact GP (Qg h1)
theorem Wg{t:ByteArray}{a:As}(h:kP t a=0):(read t).1=0:=by
 unfold kP at h
 split at h
 ·exact h
 rename_i c;simpa using c
theorem yv{t:ByteArray}{a:As}(h:kP t a=0):(cI (read t).2.2 17 (tick (mj t a)) []).isSome=true:=
 Nn (JD (Wg h)) 16 [] (acV (GR (We h)))
structure No(ol:Ol)(a:As)(s:Sd):Prop where
 out:a=aH ol.ag s
 inv:Inv ol s
 ok:s.Ok
 tl:Dt 48 s
theorem Ep{ol:Ol}(hB:ZQ ol){s:Sd}(hI:Inv ol s):∀x∈jq ol.ag s,0<=x/\x<256:=by
 intro x hx;obtain⟨k,hk,rfl⟩:=List.mem_map.1 hx;obtain⟨h1,hh⟩:=List.mem_filter.1 hk;have:=hI.past k (by simpa using h1) hh;unfold gy at this
 split at this
 ·rename_i c;have:aR s k=45:=by simpa using c
  omega
 unfold aB at this
 cases q:lM ol.ag (place ol.ag (aR s k))with
 |none=>rw[q]at this;cases this
 |some y=>?_
 obtain⟨i,e,_,_⟩:=iz q;obtain⟨g,_,_,hn⟩:=Bo (ss:=ol.ag) (c:=aR s k) (by omega);rw[<-hn];exact hB g
def jI(t:ByteArray)(k:Nat):ByteArray:=t.extract 0 k++t.extract (k+2) t.size
theorem No.due{ol:Ol}{a:As}{s:Sd}(h:No ol a s){k:Nat}(hk:k % 2=0)(hl:k+1<s.tm.size):No ol {a with tm:=jI s.tm k} {s with tm:=jI s.tm k}:=by
 have hb:dW (jI s.tm k)=(dW s.tm).take (2*(k/2))++(dW s.tm).drop (2*(k/2+1)):=by
  unfold jI;rw[rE,lJ,lJ,List.drop_zero,show k-0=2*(k/2)by omega,show k+2=2*(k/2+1)by omega]
  congr 1
  rw[List.take_of_length_le];rw[List.length_drop,bz];omega
 have hsz:(jI s.tm k).size<=16:=by
  unfold jI;rw[ByteArray.size_append,ByteArray.size_extract,ByteArray.size_extract];have:=h.tl.2;omega
 refine⟨by rw[h.out];rfl,h.inv.same ⟨rfl,rfl⟩,⟨h.ok.1,h.ok.2.1,by show(jI s.tm k).size<=17;omega⟩,⟨?_,hsz⟩⟩;show TL 48 (dW (jI s.tm k));rw[hb];exact TL.append _ (Nat.le_refl _) (TL.take2 _ h.tl.1) (TL.drop2 _ h.tl.1)
def wV(t:ByteArray)(k:Nat):Prop:=∃f,jx t t.size 0=jx t f k/\t.size<=k+2*f
theorem wV.hit{t:ByteArray}{k:Nat}(h:wV t k)(hk:k+1<t.size)(hd:(af t (k+1)!=48)=false):jx t t.size 0=some k:=by
 obtain⟨f,h1,h2⟩:=h
 match f,h1,h2 with
 |0,_,h2=>omega
 |f+1,h1,h2=>
  have hd':(af t (k+1)==48)=true:=by simpa using hd
  simp only[jx,if_pos hk,hd',if_true]at h1;exact h1
end Ch
theorem Ch.No.sm{ol:Ol}(hO:Ah ol){a:As}{s:Sd}(h:No ol a s):a.Sm:=by
 rw[h.out];have h16:=hO.le;refine⟨?_,?_,?_⟩
 ·show(strOfNums _).size<=_
  rw[strOfNums_size];have:=pN ol.ag s (min ol.ag.length 16);omega
 ·show(strOfNums _).size<=_
  rw[strOfNums_size];have:=sY ol.ag s (min ol.ag.length 16);omega
 show s.tm.size<=_;have:=h.tl.2;omega
end Go.Proofs.YtnlbchmfcebeeaaGreat
