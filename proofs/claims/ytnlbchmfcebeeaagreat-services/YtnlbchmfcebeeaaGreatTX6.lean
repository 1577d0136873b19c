import Derived.Test.YtnlbchmfcebeeaaGreatTX2
import Derived.Test.YtnlbchmfcebeeaaGreatTC0
import Derived.ArgAppend
set_option maxHeartbeats 12800000
set_option maxRecDepth 100000
namespace Go.Proofs.YtnlbchmfcebeeaaGreat
open Go.Proofs.Tryz Ch
open Go.RowKit
open Value(int slice bool pointer string agg)
open IntKind(i64)
open Obj(cells)
open Ending(returned)
open Operand(tmp)
open Or(inl inr)
theorem dJ{P}w base t ty e i z size bytes(ht:P.underlying t=some (.slice e))(hi:P.info? e=some i)(hz:i.zero=some z)(I:i.size=size)(Y:i.bytes=bytes)(Z:z.cells.size=size)(iL:0<size)v n xs(J:w.ownsRow base e size v n xs)a m c D(hl:D.length=m*size)(G:∀j u,D[j]? =some u->w.cell? (a.add j)=some u)(h1:∀u∈D,u.oneCell'=true)(hm:0<m)(U:n+m<=maxLen)(F:(n+m)*bytes<=140737488355328)(X:base<=w.heap.size):
 ∃g R w',(Builtin.append_ #[t,t] ty #[v,slice (some a) m c]).run P w= .ok (slice (some ⟨g,0,none⟩) (n+m) R) w'/\w'.ownsRow base e size (slice (some ⟨g,0,none⟩) (n+m) R) (n+m) (xs++D)/\w.grownBy w' v.ownBlock/\
  (v.ownBlock=some g\/w.heap.size<=g):=by
 have⟨v',w',hr,ho,hg,_⟩:=run_append_own (P:=P) w base t ty e i z size bytes ht hi hz I Y Z iL v n xs J a m c D hl G h1 U F X;obtain⟨g,R,rfl⟩:=jn ho oQ;refine⟨g,R,w',hr,ho,hg,?_⟩;rcases J.2 with⟨rfl,rfl⟩|⟨g0,O,aa,rfl,am,ad,ap,ao,ab,aj⟩
 ·have hx:=sV (cX J.1);subst hx;have⟨v2,w2,E,ho2,_,_⟩:=run_append_own (P:=P) w w.heap.size t ty e i z size bytes ht hi hz I Y Z iL _ 0 [] (cd w w.heap.size e size) a m c D hl G h1 U F (aC _);rw[hr]at E;simp only[Result.ok.injEq]at E;obtain⟨rfl,rfl⟩:=E;exact inr (ho2.lt g rfl).1
 by_cases Q:n+m<=O
 ·subst I;have E:=run_append_room (P:=P) w t ty e i ht hi g0 n O aa ad a m c D hl G h1 Q (by rw[hl,ab,<-Nat.add_mul];exact Nat.mul_le_mul_right _ Q);rw[hr]at E;simp only[Result.ok.injEq,aH,bE,ei,dV,cA]at E;left;simp[Value.ownBlock,E.1.1]
 have⟨v2,w2,E,ho2,_⟩:=run_append_arg_grows (P:=P) w t ty e i z size bytes ht hi hz I Y Z iL ⟨g0,0,none⟩ n O xs J.1 (J.cells (g:=g0) rfl) a m c D hl G oQ U F;rw[hr]at E;simp only[Result.ok.injEq]at E;obtain⟨rfl,rfl⟩:=E;exact inr (ho2.lt g rfl).1
theorem lN{P I rest o a w Q}(R:o.guard=none)s x t(U:o.op= .call {callee:=.builtin .append,args:=#[s,x],argTypes:=#[t,t]})base e i z size bytes(h1:P.underlying t=some (.slice e))(h2:P.info? e=some i)(h3:i.zero=some z)(h4:i.size=size)(h5:i.bytes=bytes)(h6:z.cells.size=size)(h7:0<size)v n X(hs:a.eval s=v)(G:w.ownsRow base e size v n X)J m c D(hx:a.eval x= slice (some J) m c)(hn:D.length=m*size)(hc:∀j u,D[j]? =some u->w.cell? (J.add j)=some u)(O:∀u∈D,u.oneCell'=true)(hm:0<m)(Y:n+m<=maxLen)(Z:(n+m)*bytes<=140737488355328)(F:base<=w.heap.size)(hK:∀g E w',w'.ownsRow base e size (slice (some ⟨g,0,none⟩) (n+m) E) (n+m) (X++D)->w.grownBy w' v.ownBlock->(v.ownBlock=some g\/w.heap.size<=g)->wpList P I Q rest (a.put o.dst (slice (some ⟨g,0,none⟩) (n+m) E)) w'):
 wpList P I Q (o::rest) a w:=
 wpList_plain R λK hK'=>by
  have⟨g,E,w',hrun,r1,r2,r3⟩:=dJ (P:=P) w base t o.type e i z size bytes h1 h2 h3 h4 h5 h6 h7 v n X G J m c D hn hc O hm Y Z F;unfold Oper.wp execOp;simp only[U,resolve,invoke,builtin,kQ,np,kR,List.map_toArray,nY,List.map_nil,hs,hx,hrun];exact hK' _ _ (hK g E w' r1 r2 r3)
structure NV where
 n:RN
 ev:Value
 lv:Value
 tv:Value
def oW(x:NV):List Value:=[int .u8 x.n.name,int i64 x.n.kind,int i64 x.n.parent,int i64 x.n.pos,x.ev,x.lv,x.tv]
def ju(l:List NV):List Value:=l.flatMap oW
def nL(l:List ByteArray):List Value:=l.map string
def me(l:List RT):List Value:=l.flatMap λx=>[string x.text,int i64 x.pos]
theorem Gf l x:ju (l++[x])=ju l++oW x:=by simp[ju]
theorem Gg l x:me (l++[x])=me l++[string x.text,int i64 x.pos]:=by simp[me]
theorem Ah l x:nL (l++[x])=nL l++[string x]:=by simp[nL]
theorem BZ l k x(h:l[k]? =some x)j(D:j<7):(ju l)[k*7+j]? =(oW x)[j]?:=by
 induction l generalizing k with
 |nil=>simp_all
 |cons a l F=>?_
 have e:ju (a::l)=oW a++ju l:=by simp[ju]
 have E:(oW a).length=7:=rfl;grind
theorem rY l k x y(h:l[k]? =some x)j(D:j<7)u(F:oW y=(oW x).set j u):(ju l).set (k*7+j) u=ju (l.set k y):=by
 induction l generalizing k with
 |nil=>simp_all
 |cons a l G=>?_
 have e:∀a l,ju (a::l)=oW a++ju l:=by intro a l;simp[ju]
 have E:(oW a).length=7:=rfl;cases k with
 |zero=>
  simp_all
 |succ k=>?_
 grind
theorem mM.symm{v u}(h:mM v u):mM u v:=λk hk x=>h k x hk
theorem ld u:mM (slice none 0 0) u:=λk hk=>by simp[Value.ownBlock]at hk
structure uP(w:World)B l v:Prop where
 row:w.ownsRow B 223 7 v l.length (ju l)
 ph:∀x∈l,w.ownsRow B 9 1 x.ev x.n.enter.length (nL x.n.enter)
 uC:∀x∈l,w.ownsRow B 9 1 x.lv x.n.cU.length (nL x.n.cU)
 kZ:∀x∈l,w.ownsRow B 292 2 x.tv x.n.trans.length (me x.n.trans)
 aE:∀(i j:Nat) x y,i≠j->l[i]? =some x->l[j]? =some y->mM x.ev y.ev
 aL:∀(i j:Nat) x y,i≠j->l[i]? =some x->l[j]? =some y->mM x.lv y.lv
 aX:∀(i j:Nat) x y,l[i]? =some x->l[j]? =some y->mM x.ev y.lv
 aT:∀(i j:Nat) x y,i≠j->l[i]? =some x->l[j]? =some y->mM x.tv y.tv
theorem uP.aB{S w w' B l v}(h:uP w B l v)(k:Kp S w w')(G:∀i D T,w.heap[i]? =some (cells D T (0,0))->B<=i->T=223\/T=9\/T=292->¬S i):uP w' B l v:=by
 have own:∀{e size v n F},w.ownsRow B e size v n F->e=223\/e=9\/e=292->w'.ownsRow B e size v n F:=by
  intro e size v n F E he;refine k.owns E (λi hi=>?_);have⟨D,hc⟩:=bC E hi;exact G i D e hc (E.lt i hi).1 he
 exact⟨own h.row (inl rfl),λx hx=>own (h.ph x hx) (inr (inl rfl)),λx hx=>own (h.uC x hx) (inr (inl rfl)),λx hx=>own (h.kZ x hx) (inr (inr rfl)),h.aE,h.aL,h.aX,h.aT⟩
theorem uP.aw{w w' B l v}(h:uP w B l v)(k:Kp bA w w'):uP w' B l v:=h.aB k (λ_ _ _ _ _ _ x=>x)
theorem uP.form{w B l v}(h:uP w B l v){k}{x}(hk:l[k]? =some x):
 ∃g D,v= slice (some ⟨g,0,none⟩) l.length D/\B<=g/\(∀j,j<7->w.cell? ⟨g,k*7+j,none⟩=(oW x)[j]?)/\∀o,w.frozen? ⟨g,o,none⟩=false:=by
 have E:=(aM.1 hk).1;obtain⟨g,D,rfl⟩:=jn h.row oQ;refine⟨g,D,rfl,(h.row.lt g rfl).1,λj hj=>?_,λo=>h.row.frozenAt o⟩;rw[<-BZ l k x hk j hj];exact h.row.cellAt (k*7+j) oQ
theorem uP.len{w B l v}(h:uP w B l v):∃E D,v= slice E l.length D:=bp h.row
theorem yw{w:World}{B}{e}{size}{a}{E}{D}{n}{G}(h:w.ownsRow B e size (slice a E D) n G):E=n:=by
 rcases h.2 with⟨h,I⟩|⟨g,c,F,h,_⟩
 ·simp_all
 simp_all
theorem uP.YT{w B g l E D}(h:uP w B l (slice (some ⟨g,0,none⟩) E D)){k}{x}{y}(hk:l[k]? =some x)j(F:j<7)u(G:oW y=(oW x).set j u):
 (w.setCell ⟨g,k*7+j,none⟩ u).ownsRow B 223 7 (slice (some ⟨g,0,none⟩) E D) (l.set k y).length (ju (l.set k y)):=by
 obtain rfl:=yw h.row;have o:=(h.row.stored (k*7+j) u).1;grind[rY]
theorem uP.yx w g o u:Kp (λi=>i=g) w (w.setCell ⟨g,o,none⟩ u):=(Kp.refl _ _).setCell jF _
theorem lf{l:List NV}{k}{y}{z}(h:z∈l.set k y):z∈l\/z=y:=by
 grind
theorem uP.Gh{w B g l Q J}(h:uP w B l (slice (some ⟨g,0,none⟩) Q J)){k}{x}(hk:l[k]? =some x)c:
 uP (w.setCell ⟨g,k*7+1,none⟩ (int i64 c)) B (l.set k {x with n:={x.n with kind:=c}}) (slice (some ⟨g,0,none⟩) Q J):=by
 have U:=(aM.1 hk).1;have K:=uP.yx w g (k*7+1) (int i64 c);have I:∀{e size v n R},w.ownsRow B e size v n R->e≠223->∀i,v.ownBlock=some i->¬i=g:=by
  intro e size v n R X he i hi x;subst x;have⟨cur,hc⟩:=bC h.row (k:=i) rfl;grind[aZ]
 have G:=aP hk;have get:∀(i:Nat) (z:NV),(l.set k {x with n:={x.n with kind:=c}})[i]? =some z->∃O,l[i]? =some O/\z.ev=O.ev/\z.lv=O.lv/\z.tv=O.tv:=by
  grind
 refine⟨h.YT hk 1 oQ _ rfl,?_,?_,?_,?_,?_,?_,?_⟩
 ·intro z D;rcases lf D with D|rfl
  ·exact K.owns (h.ph z D) (I (h.ph z D) aV)
  exact K.owns (h.ph x G) (I (h.ph x G) aV)
 ·intro z D;rcases lf D with D|rfl
  ·exact K.owns (h.uC z D) (I (h.uC z D) aV)
  exact K.owns (h.uC x G) (I (h.uC x G) aV)
 ·intro z D;rcases lf D with D|rfl
  ·exact K.owns (h.kZ z D) (I (h.kZ z D) aV)
  exact K.owns (h.kZ x G) (I (h.kZ x G) aV)
 ·intro i j a b E F hb;have⟨a',ha',e1,_,_⟩:=get i a F;have⟨b',hb',e2,_,_⟩:=get j b hb;rw[e1,e2];exact h.aE i j a' b' E ha' hb'
 ·intro i j a b E F hb;have⟨a',ha',_,e1,_⟩:=get i a F;have⟨b',hb',_,e2,_⟩:=get j b hb;rw[e1,e2];exact h.aL i j a' b' E ha' hb'
 ·intro i j a b F hb;have⟨a',ha',e1,_,_⟩:=get i a F;have⟨b',hb',_,e2,_⟩:=get j b hb;rw[e1,e2];exact h.aX i j a' b' ha' hb'
 intro i j a b E F hb;have⟨a',ha',_,_,e1⟩:=get i a F;have⟨b',hb',_,_,e2⟩:=get j b hb;rw[e1,e2];exact h.aT i j a' b' E ha' hb'
theorem uP.push{w w' B l v O}(h:uP w B l v)(Q:w.grownBy w' v.ownBlock){n}(G:n.enter=[]/\n.cU=[]/\n.trans=[])(I:w'.ownsRow B 223 7 O (l.length+1) (ju l++oW ⟨n,slice none 0 0,slice none 0 0,slice none 0 0⟩)):
 uP w' B (l++[⟨n,slice none 0 0,slice none 0 0,slice none 0 0⟩]) O:=by
 have K:=(Kp.refl _ _).grown Q (λi hi _=>hi);have J:∀{e size u n xs},w.ownsRow B e size u n xs->e≠223->∀i,u.ownBlock=some i->¬v.ownBlock=some i:=
  λI he i hi=>cJ I h.row he i hi
 have get:∀(i:Nat) (z:NV),(l++[⟨n,slice none 0 0,slice none 0 0,slice none 0 0⟩])[i]? =some z->l[i]? =some z\/(z.ev= slice none 0 0/\z.lv= slice none 0 0/\z.tv= slice none 0 0):=by
  grind
 refine⟨by rw[Gf];simpa using I,?_,?_,?_,?_,?_,?_,?_⟩
 ·intro z D;rcases cS.1 D with D|D
  ·exact K.owns (h.ph z D) (J (h.ph z D) aV)
  simp at D;subst D;simp only[G.1];exact cd _ _ _ _
 ·intro z D;rcases cS.1 D with D|D
  ·exact K.owns (h.uC z D) (J (h.uC z D) aV)
  simp at D;subst D;simp only[G.2.1];exact cd _ _ _ _
 ·intro z D;rcases cS.1 D with D|D
  ·exact K.owns (h.kZ z D) (J (h.kZ z D) aV)
  simp at D;subst D;simp only[G.2.2];exact cd _ _ _ _
 ·intro i j a b F E hb;rcases get i a E with E|⟨e,_,_⟩
  ·rcases get j b hb with hb|⟨e,_,_⟩
   ·exact h.aE i j a b F E hb
   rw[e];exact(ld _).symm
  grind[ld]
 ·intro i j a b F E hb;rcases get i a E with E|⟨_,e,_⟩
  ·rcases get j b hb with hb|⟨_,e,_⟩
   ·exact h.aL i j a b F E hb
   rw[e];exact(ld _).symm
  grind[ld]
 ·intro i j a b E hb;rcases get i a E with E|⟨e,_,_⟩
  ·rcases get j b hb with hb|⟨_,e,_⟩
   ·exact h.aX i j a b E hb
   rw[e];exact(ld _).symm
  grind[ld]
 intro i j a b F E hb;rcases get i a E with E|⟨_,_,e⟩
 ·rcases get j b hb with hb|⟨_,_,e⟩
  ·exact h.aT i j a b F E hb
  rw[e];exact(ld _).symm
 grind[ld]
theorem mV{w:World}{B}{e}{size}{n}{v}{u}{I}{g}{G}{D}(F:w.ownsRow B e size u n I)(E:mM v u)(hw:v.ownBlock=some g\/w.heap.size<=g):mM (slice (some ⟨g,0,none⟩) G D) u:=by
 intro k hk hu;simp[Value.ownBlock]at hk;subst hk;rcases hw with hw|hw
 ·exact E _ hw hu
 have:=(F.lt _ hu).2;omega
theorem uP.B0{w J B g l ln Q}(h:uP w B l (slice (some ⟨g,0,none⟩) ln Q)){k}{x}(hk:l[k]? =some x)rt{g1}{G}{c1}(U:J.ownsRow B 292 2 (slice (some ⟨g1,0,none⟩) G c1) (x.n.trans.length+1) (me x.n.trans++[string rt.text,int i64 rt.pos]))(hg:w.grownBy J x.tv.ownBlock)(hw:x.tv.ownBlock=some g1\/w.heap.size<=g1):
 uP (J.setCell ⟨g,k*7+6,none⟩ (slice (some ⟨g1,0,none⟩) G c1)) B (l.set k {x with n:={x.n with trans:=x.n.trans++[rt]},tv:=slice (some ⟨g1,0,none⟩) G c1}) (slice (some ⟨g,0,none⟩) ln Q):=by
 have aa:=(aM.1 hk).1;have X:=aP hk;have K1:=(Kp.refl _ _).grown hg (λi hi _=>hi);have K:=uP.yx J g (k*7+6) (slice (some ⟨g1,0,none⟩) G c1);have R:=h.kZ x X;have IB:=K1.owns h.row (λi hi=>cJ h.row R aV i hi);have ng:∀{e size v n O},J.ownsRow B e size v n O->e≠223->∀i,v.ownBlock=some i->¬i=g:=by
  intro e size v n O U he i hi x;subst x;have⟨cur,hc⟩:=bC IB (k:=i) rfl;grind[aZ]
 have F:∀{e size v n O},w.ownsRow B e size v n O->e≠223->(∀i,v.ownBlock=some i->¬x.tv.ownBlock=some i)->(J.setCell ⟨g,k*7+6,none⟩ (slice (some ⟨g1,0,none⟩) G c1)).ownsRow B e size v n O:=by
  intro e size v n O U he hn;have:=K1.owns U hn;exact K.owns this (ng this he)
 have get:∀(i:Nat) (z:NV),(l.set k {x with n:={x.n with trans:=x.n.trans++[rt]},tv:=slice (some ⟨g1,0,none⟩) G c1})[i]? =some z->∃Y,l[i]? =some Y/\z.ev=Y.ev/\z.lv=Y.lv/\(k≠i/\z.tv=Y.tv\/k=i/\Y=x/\z.tv= slice (some ⟨g1,0,none⟩) G c1):=by
  grind
 obtain rfl:=yw h.row;have vD:=(IB.stored (k*7+6) (slice (some ⟨g1,0,none⟩) G c1)).1;rw[rY l k x {x with n:={x.n with trans:=x.n.trans++[rt]},tv:=slice (some ⟨g1,0,none⟩) G c1} hk 6 oQ _ rfl]at vD;refine⟨by simpa using vD,?_,?_,?_,?_,?_,?_,?_⟩
 ·intro z E;rcases lf E with E|rfl
  ·exact F (h.ph z E) aV (cJ (h.ph z E) R aV)
  exact F (h.ph x X) aV (cJ (h.ph x X) R aV)
 ·intro z E;rcases lf E with E|rfl
  ·exact F (h.uC z E) aV (cJ (h.uC z E) R aV)
  exact F (h.uC x X) aV (cJ (h.uC x X) R aV)
 ·intro z E;have⟨i,hi⟩:=jl E;by_cases e:k=i
  ·subst e;rw[jO aa]at hi;simp at hi;subst hi;have:=K.owns U (ng U aV);grind[Gg]
  rw[jP e]at hi;have ab:=aP hi;exact F (h.kZ z ab) aV (h.aT i k z x (j6 e) hi hk)
 ·intro i j a b D I hb;have⟨a',ha',e1,_,_⟩:=get i a I;have⟨b',hb',e2,_,_⟩:=get j b hb;rw[e1,e2];exact h.aE i j a' b' D ha' hb'
 ·intro i j a b D I hb;have⟨a',ha',_,e1,_⟩:=get i a I;have⟨b',hb',_,e2,_⟩:=get j b hb;rw[e1,e2];exact h.aL i j a' b' D ha' hb'
 ·intro i j a b I hb;have⟨a',ha',e1,_,_⟩:=get i a I;have⟨b',hb',_,e2,_⟩:=get j b hb;rw[e1,e2];exact h.aX i j a' b' ha' hb'
 intro i j a b D I hb;have⟨a',ha',_,_,e1⟩:=get i a I;have⟨b',hb',_,_,e2⟩:=get j b hb;have mb:=aP hb';have ma:=aP ha';rcases e1 with⟨_,e1⟩|⟨ad,rfl,e1⟩
 ·rcases e2 with⟨_,e2⟩|⟨Z,rfl,e2⟩
  ·rw[e1,e2];exact h.aT i j a' b' D ha' hb'
  rw[e1,e2];exact(mV (h.kZ a' ma) (h.aT j i b' a' (j6 D) hb' ha') hw).symm
 rcases e2 with⟨_,e2⟩|⟨Z,rfl,e2⟩
 ·rw[e1,e2];exact mV (h.kZ b' mb) (h.aT i j a' b' D ha' hb') hw
 omega
theorem uP.B7{w J B g l ln R}(h:uP w B l (slice (some ⟨g,0,none⟩) ln R)){k}{x}(hk:l[k]? =some x)s{g1}{F}{c1}(X:J.ownsRow B 9 1 (slice (some ⟨g1,0,none⟩) F c1) (x.n.enter.length+1) (nL x.n.enter++[string s]))(hg:w.grownBy J x.ev.ownBlock)(hw:x.ev.ownBlock=some g1\/w.heap.size<=g1):
 uP (J.setCell ⟨g,k*7+4,none⟩ (slice (some ⟨g1,0,none⟩) F c1)) B (l.set k {x with n:={x.n with enter:=x.n.enter++[s]},ev:=slice (some ⟨g1,0,none⟩) F c1}) (slice (some ⟨g,0,none⟩) ln R):=by
 have U:=(aM.1 hk).1;have Z:=aP hk;have K1:=(Kp.refl _ _).grown hg (λi hi _=>hi);have K:=uP.yx J g (k*7+4) (slice (some ⟨g1,0,none⟩) F c1);have hT:=h.ph x Z;have IB:=K1.owns h.row (λi hi=>cJ h.row hT aV i hi);have ng:∀{e size v n O},J.ownsRow B e size v n O->e≠223->∀i,v.ownBlock=some i->¬i=g:=by
  intro e size v n O X he i hi x;subst x;have⟨cur,hc⟩:=bC IB (k:=i) rfl;grind[aZ]
 have E:∀{e size v n O},w.ownsRow B e size v n O->e≠223->(∀i,v.ownBlock=some i->¬x.ev.ownBlock=some i)->(J.setCell ⟨g,k*7+4,none⟩ (slice (some ⟨g1,0,none⟩) F c1)).ownsRow B e size v n O:=by
  intro e size v n O X he hn;have:=K1.owns X hn;exact K.owns this (ng this he)
 have get:∀(i:Nat) (z:NV),(l.set k {x with n:={x.n with enter:=x.n.enter++[s]},ev:=slice (some ⟨g1,0,none⟩) F c1})[i]? =some z->∃Q,l[i]? =some Q/\z.tv=Q.tv/\z.lv=Q.lv/\(k≠i/\z.ev=Q.ev\/k=i/\Q=x/\z.ev= slice (some ⟨g1,0,none⟩) F c1):=by
  grind
 obtain rfl:=yw h.row;have vD:=(IB.stored (k*7+4) (slice (some ⟨g1,0,none⟩) F c1)).1;rw[rY l k x {x with n:={x.n with enter:=x.n.enter++[s]},ev:=slice (some ⟨g1,0,none⟩) F c1} hk 4 oQ _ rfl]at vD;refine⟨by simpa using vD,?_,?_,?_,?_,?_,?_,?_⟩
 ·intro z G;have⟨i,hi⟩:=jl G;by_cases e:k=i
  ·subst e;rw[jO U]at hi;simp at hi;subst hi;have:=K.owns X (ng X aV);grind[Ah]
  rw[jP e]at hi;have Y:=aP hi;exact E (h.ph z Y) aV (h.aE i k z x (j6 e) hi hk)
 ·intro z G;have⟨i,hi⟩:=jl G;have⟨Q,Y,_,e1,_⟩:=get i z hi;by_cases e:k=i
  ·subst e;rw[jO U]at hi;simp at hi;subst hi;exact E (h.uC x Z) aV (h.aX k k x x hk hk).symm
  rw[jP e]at hi;exact E (h.uC z (aP hi)) aV (h.aX k i x z hk hi).symm
 ·intro z G;rcases lf G with G|rfl
  ·exact E (h.kZ z G) aV (cJ (h.kZ z G) hT aV)
  exact E (h.kZ x Z) aV (cJ (h.kZ x Z) hT aV)
 ·intro i j a b D I hb;have⟨a',ha',_,_,e1⟩:=get i a I;have⟨b',hb',_,_,e2⟩:=get j b hb;have mb:=aP hb';have ma:=aP ha';rcases e1 with⟨_,e1⟩|⟨aa,rfl,e1⟩
  ·rcases e2 with⟨_,e2⟩|⟨ab,rfl,e2⟩
   ·rw[e1,e2];exact h.aE i j a' b' D ha' hb'
   rw[e1,e2];exact(mV (h.ph a' ma) (h.aE j i b' a' (j6 D) hb' ha') hw).symm
  rcases e2 with⟨_,e2⟩|⟨ab,rfl,e2⟩
  ·rw[e1,e2];exact mV (h.ph b' mb) (h.aE i j a' b' D ha' hb') hw
  omega
 ·intro i j a b D I hb;have⟨a',ha',_,e1,_⟩:=get i a I;have⟨b',hb',_,e2,_⟩:=get j b hb;rw[e1,e2];exact h.aL i j a' b' D ha' hb'
 ·intro i j a b I hb;have⟨a',ha',_,_,e1⟩:=get i a I;have⟨b',hb',_,e2,_⟩:=get j b hb;have mb:=aP hb';rcases e1 with⟨_,e1⟩|⟨aa,rfl,e1⟩
  ·rw[e1,e2];exact h.aX i j a' b' ha' hb'
  rw[e1,e2];exact mV (h.uC b' mb) (h.aX i j a' b' ha' hb') hw
 intro i j a b D I hb;have⟨a',ha',e1,_,_⟩:=get i a I;have⟨b',hb',e2,_,_⟩:=get j b hb;rw[e1,e2];exact h.aT i j a' b' D ha' hb'
theorem uP.B9{w J B g l ln Q}(h:uP w B l (slice (some ⟨g,0,none⟩) ln Q)){k}{x}(hk:l[k]? =some x)s{g1}{F}{c1}(U:J.ownsRow B 9 1 (slice (some ⟨g1,0,none⟩) F c1) (x.n.cU.length+1) (nL x.n.cU++[string s]))(hg:w.grownBy J x.lv.ownBlock)(hw:x.lv.ownBlock=some g1\/w.heap.size<=g1):
 uP (J.setCell ⟨g,k*7+5,none⟩ (slice (some ⟨g1,0,none⟩) F c1)) B (l.set k {x with n:={x.n with cU:=x.n.cU++[s]},lv:=slice (some ⟨g1,0,none⟩) F c1}) (slice (some ⟨g,0,none⟩) ln Q):=by
 have R:=(aM.1 hk).1;have Y:=aP hk;have K1:=(Kp.refl _ _).grown hg (λi hi _=>hi);have K:=uP.yx J g (k*7+5) (slice (some ⟨g1,0,none⟩) F c1);have hT:=h.uC x Y;have IB:=K1.owns h.row (λi hi=>cJ h.row hT aV i hi);have ng:∀{e size v n O},J.ownsRow B e size v n O->e≠223->∀i,v.ownBlock=some i->¬i=g:=by
  intro e size v n O U he i hi x;subst x;have⟨cur,hc⟩:=bC IB (k:=i) rfl;grind[aZ]
 have E:∀{e size v n O},w.ownsRow B e size v n O->e≠223->(∀i,v.ownBlock=some i->¬x.lv.ownBlock=some i)->(J.setCell ⟨g,k*7+5,none⟩ (slice (some ⟨g1,0,none⟩) F c1)).ownsRow B e size v n O:=by
  intro e size v n O U he hn;have:=K1.owns U hn;exact K.owns this (ng this he)
 have get:∀(i:Nat) (z:NV),(l.set k {x with n:={x.n with cU:=x.n.cU++[s]},lv:=slice (some ⟨g1,0,none⟩) F c1})[i]? =some z->∃X,l[i]? =some X/\z.tv=X.tv/\z.ev=X.ev/\(k≠i/\z.lv=X.lv\/k=i/\X=x/\z.lv= slice (some ⟨g1,0,none⟩) F c1):=by
  grind
 obtain rfl:=yw h.row;have vD:=(IB.stored (k*7+5) (slice (some ⟨g1,0,none⟩) F c1)).1;rw[rY l k x {x with n:={x.n with cU:=x.n.cU++[s]},lv:=slice (some ⟨g1,0,none⟩) F c1} hk 5 oQ _ rfl]at vD;refine⟨by simpa using vD,?_,?_,?_,?_,?_,?_,?_⟩
 ·intro z G;have⟨i,hi⟩:=jl G;by_cases e:k=i
  ·subst e;rw[jO R]at hi;simp at hi;subst hi;exact E (h.ph x Y) aV (h.aX k k x x hk hk)
  rw[jP e]at hi;exact E (h.ph z (aP hi)) aV (h.aX i k z x hi hk)
 ·intro z G;have⟨i,hi⟩:=jl G;by_cases e:k=i
  ·subst e;rw[jO R]at hi;simp at hi;subst hi;have:=K.owns U (ng U aV);grind[Ah]
  rw[jP e]at hi;have ab:=aP hi;exact E (h.uC z ab) aV (h.aL i k z x (j6 e) hi hk)
 ·intro z G;rcases lf G with G|rfl
  ·exact E (h.kZ z G) aV (cJ (h.kZ z G) hT aV)
  exact E (h.kZ x Y) aV (cJ (h.kZ x Y) hT aV)
 ·intro i j a b D I hb;have⟨a',ha',_,e1,_⟩:=get i a I;have⟨b',hb',_,e2,_⟩:=get j b hb;rw[e1,e2];exact h.aE i j a' b' D ha' hb'
 ·intro i j a b D I hb;have⟨a',ha',_,_,e1⟩:=get i a I;have⟨b',hb',_,_,e2⟩:=get j b hb;have mb:=aP hb';have ma:=aP ha';rcases e1 with⟨_,e1⟩|⟨Z,rfl,e1⟩
  ·rcases e2 with⟨_,e2⟩|⟨aa,rfl,e2⟩
   ·rw[e1,e2];exact h.aL i j a' b' D ha' hb'
   rw[e1,e2];exact(mV (h.uC a' ma) (h.aL j i b' a' (j6 D) hb' ha') hw).symm
  rcases e2 with⟨_,e2⟩|⟨aa,rfl,e2⟩
  ·rw[e1,e2];exact mV (h.uC b' mb) (h.aL i j a' b' D ha' hb') hw
  omega
 ·intro i j a b I hb;have⟨a',ha',_,e1,_⟩:=get i a I;have⟨b',hb',_,_,e2⟩:=get j b hb;have ma:=aP ha';rcases e2 with⟨_,e2⟩|⟨Z,rfl,e2⟩
  ·rw[e1,e2];exact h.aX i j a' b' ha' hb'
  rw[e1,e2];exact(mV (h.ph a' ma) (h.aX i j a' b' ha' hb').symm hw).symm
 intro i j a b D I hb;have⟨a',ha',e1,_,_⟩:=get i a I;have⟨b',hb',e2,_,_⟩:=get j b hb;rw[e1,e2];exact h.aT i j a' b' D ha' hb'
def ku(w:World)(B cb:Nat)(l:List NV)(v:Value):Prop:=w.heap[cb]? =some (cells #[v] 219 (0,0))/\uP w B l v/\B<=cb
section
variable {w w':World} {B cb:Nat} {l:List NV} {v:Value}
theorem ku.cell(h:ku w B cb l v):w.cell? ⟨cb,0,none⟩=some v:=dG h.1 rfl
theorem ku.free(h:ku w B cb l v)i:w.frozen? ⟨cb,i,none⟩=false:=by simp[World.frozen?,h.1]
theorem ku.aw(h:ku w B cb l v)(k:Kp bA w w'):ku w' B cb l v:=⟨k.at_ h.1 (λx=>x),h.2.1.aw k,h.2.2⟩
theorem ku.low(h:ku w B cb l v):B<=w.heap.size:=by have:=aR h.1;have:=h.2.2;omega
theorem ku.pO{S}(h:ku w B cb l v)(k:Kp S w w')(E:∀i D T,w.heap[i]? =some (cells D T (0,0))->B<=i->T=223\/T=9\/T=292\/T=219->¬S i):ku w' B cb l v:=
 ⟨k.at_ h.1 (E cb _ _ h.1 h.2.2 (inr (inr (inr rfl)))),h.2.1.aB k (λi D T hi hb hT=>E i D T hi hb (by rcases hT with h|h|h;exact inl h;exact inr (inl h);exact inr (inr (inl h)))),h.2.2⟩
theorem ku.ne(h:ku w B cb l v):v.ownBlock≠some cb:=aZ h.2.1.row h.1 aV
theorem ku.Gh{g E D}(h:ku w B cb l (slice (some ⟨g,0,none⟩) E D)){k}{x}(hk:l[k]? =some x)c:
 ku (w.setCell ⟨g,k*7+1,none⟩ (int i64 c)) B cb (l.set k {x with n:={x.n with kind:=c}}) (slice (some ⟨g,0,none⟩) E D):=
 ⟨(uP.yx w g (k*7+1) (int i64 c)).at_ h.1 (λe=>h.ne (by simp[Value.ownBlock,e])),h.2.1.Gh hk c,h.2.2⟩
theorem ku.push{D}(h:ku w B cb l v)(E:w.grownBy w' v.ownBlock){n}(G:n.enter=[]/\n.cU=[]/\n.trans=[])(I:w'.ownsRow B 223 7 D (l.length+1) (ju l++oW ⟨n,slice none 0 0,slice none 0 0,slice none 0 0⟩)):
 ku (w'.setCell ⟨cb,0,none⟩ D) B cb (l++[⟨n,slice none 0 0,slice none 0 0,slice none 0 0⟩]) D:=by
 have K:=(Kp.refl _ _).grown E (λi hi _=>hi);have F:=K.at_ h.1 h.ne;refine⟨by rw[ar _ F];rfl,(h.2.1.push E G I).aB (uP.yx w' cb 0 D) (λi cur T hi _ hT e=>?_),h.2.2⟩;grind
theorem ku.B0{E g I D}(h:ku w B cb l (slice (some ⟨g,0,none⟩) I D)){k}{x}(hk:l[k]? =some x)rt{g1}{F}{c1}(O:E.ownsRow B 292 2 (slice (some ⟨g1,0,none⟩) F c1) (x.n.trans.length+1) (me x.n.trans++[string rt.text,int i64 rt.pos]))(G:w.grownBy E x.tv.ownBlock)(hw:x.tv.ownBlock=some g1\/w.heap.size<=g1):
 ku (E.setCell ⟨g,k*7+6,none⟩ (slice (some ⟨g1,0,none⟩) F c1)) B cb (l.set k {x with n:={x.n with trans:=x.n.trans++[rt]},tv:=slice (some ⟨g1,0,none⟩) F c1}) (slice (some ⟨g,0,none⟩) I D):=by
 have K:=(Kp.refl _ _).grown G (λi hi _=>hi);have J:=K.at_ h.1 (aZ (h.2.1.kZ x (aP hk)) h.1 aV);exact⟨(uP.yx E g (k*7+6) _).at_ J (λe=>h.ne (by simp[Value.ownBlock,e])),h.2.1.B0 hk rt O G hw,h.2.2⟩
theorem ku.B7{E g I D}(h:ku w B cb l (slice (some ⟨g,0,none⟩) I D)){k}{x}(hk:l[k]? =some x)s{g1}{F}{c1}(O:E.ownsRow B 9 1 (slice (some ⟨g1,0,none⟩) F c1) (x.n.enter.length+1) (nL x.n.enter++[string s]))(G:w.grownBy E x.ev.ownBlock)(hw:x.ev.ownBlock=some g1\/w.heap.size<=g1):
 ku (E.setCell ⟨g,k*7+4,none⟩ (slice (some ⟨g1,0,none⟩) F c1)) B cb (l.set k {x with n:={x.n with enter:=x.n.enter++[s]},ev:=slice (some ⟨g1,0,none⟩) F c1}) (slice (some ⟨g,0,none⟩) I D):=by
 have K:=(Kp.refl _ _).grown G (λi hi _=>hi);have J:=K.at_ h.1 (aZ (h.2.1.ph x (aP hk)) h.1 aV);exact⟨(uP.yx E g (k*7+4) _).at_ J (λe=>h.ne (by simp[Value.ownBlock,e])),h.2.1.B7 hk s O G hw,h.2.2⟩
theorem ku.B9{E g I D}(h:ku w B cb l (slice (some ⟨g,0,none⟩) I D)){k}{x}(hk:l[k]? =some x)s{g1}{F}{c1}(O:E.ownsRow B 9 1 (slice (some ⟨g1,0,none⟩) F c1) (x.n.cU.length+1) (nL x.n.cU++[string s]))(G:w.grownBy E x.lv.ownBlock)(hw:x.lv.ownBlock=some g1\/w.heap.size<=g1):
 ku (E.setCell ⟨g,k*7+5,none⟩ (slice (some ⟨g1,0,none⟩) F c1)) B cb (l.set k {x with n:={x.n with cU:=x.n.cU++[s]},lv:=slice (some ⟨g1,0,none⟩) F c1}) (slice (some ⟨g,0,none⟩) I D):=by
 have K:=(Kp.refl _ _).grown G (λi hi _=>hi);have J:=K.at_ h.1 (aZ (h.2.1.uC x (aP hk)) h.1 aV);exact⟨(uP.yx E g (k*7+5) _).at_ J (λe=>h.ne (by simp[Value.ownBlock,e])),h.2.1.B9 hk s O G hw,h.2.2⟩
end
theorem Wd:(prog.info? 223).map (λi=>(i.zero,i.size,i.bytes))=some (some (agg #[int .u8 0,int i64 0,int i64 0,int i64 0,slice none 0 0,slice none 0 0,slice none 0 0]),7,104):=bZ
theorem We:(prog.info? 292).map (λi=>(i.zero,i.size,i.bytes))=some (some (agg #[string ⟨#[]⟩,int i64 0]),2,24):=bZ
theorem Wg:(prog.info? 9).map (λi=>(i.zero,i.size,i.bytes))=some (some (string ⟨#[]⟩),1,16):=bZ
namespace Ch
def mk(l:List NV):List RN:=l.map (·.n)
theorem B_{l i n}(h:xR (mk l) i=some n):∃(k:Nat) (x:NV),i=k/\l[k]? =some x/\x.n=n/\k<l.length:=by
 grind[k9,mk]
theorem Gi{l}{k:Nat}{x}{y}{f}(hk:l[k]? =some x)(E:y.n=f x.n):mk (l.set k y)=p_ (mk l) (k:Int) f:=by
 have D:=(aM.1 hk).1;apply f_;grind[jt,mk]
theorem js.open{t k up L D}(h:js t k up L D)(hk:k<t.size)(F:et (af t k)=true):
 k+1<t.size/\(up<0\/(xR L up).isSome=true)/\js t ((if af t k==60 then k+2 else k+1)+1) (if af t k==60||af t k==42 then up else(L.length:Int)) (jG L up++[⟨af t (k+1),fU (af t k),up,(k:Int)+1,[],[],[]⟩]) D:=by
 rcases h.inv with⟨h,rfl⟩|⟨_,_,_,_,eK,E⟩
 ·omega
 grind[oU]
theorem js.close{t k up L D}(h:js t k up L D)(hk:k<t.size)(E:(af t k==41||af t k==93)=true):
 ∃n,xR L up=some n/\js t (k+1) n.parent L D:=by
 have F:et (af t k)=false:=by
  rcases(by simpa using E:af t k=41\/af t k=93)with e|e<;>rw[e]<;>decide
 rcases h.inv with⟨h,rfl⟩|⟨_,_,_,_,eK,G⟩
 ·omega
 grind[oU,xR]
theorem js.abb{t k up L D}(h:js t k up L D)(hk:k<t.size)(F:af t k=58):
 ∃n,xR L up=some n/\k+2<t.size/\iV t (k+1)+1<=t.size/\k+1<=iV t (k+1)+1/\js t (iV t (k+1)+1) up (p_ L up λn=>{n with trans:=n.trans++[⟨t.extract (k+1) (iV t (k+1)+1),(k:Int)+1⟩]}) D:=by
 rcases h.inv with⟨h,rfl⟩|⟨_,_,_,_,eK,G⟩
 ·omega
 unfold oU at eK;simp only[F,show et 58=false by decide,show((58:Int)==41||(58:Int)==93)=false by decide,show((58:Int)==58)=true by decide,bu,bf,aQ]at eK;split at eK
 ·rename_i E;simp only[bE,mD]at eK;obtain⟨rfl,rfl,rfl⟩:=eK;have⟨n,hn'⟩:=qE.1 E.2.2.2;simp_all
 simp_all
theorem js.cj{t k up L D}(h:js t k up L D)(hk:k<t.size)(F:(af t k==94||af t k==36)=true):
 ∃n,xR L up=some n/\k+1<=jB t k 59/\js t (jB t k 59+1) up (p_ L up λn=>if af t k==94 then {n with enter:=n.enter++[t.extract (k+1) (jB t k 59)]}else {n with cU:=n.cU++[t.extract (k+1) (jB t k 59)]}) D:=by
 have E:et (af t k)=false/\(af t k==41||af t k==93)=false/\(af t k==58)=false:=by
  rcases(by simpa using F:af t k=94\/af t k=36)with e|e<;>rw[e]<;>decide
 rcases h.inv with⟨h,rfl⟩|⟨_,_,_,_,eK,I⟩
 ·omega
 unfold oU at eK;simp only[E.1,E.2.1,E.2.2,F,bu,bf,aQ]at eK;split at eK
 ·rename_i G;simp only[bE,mD]at eK;obtain⟨rfl,rfl,rfl⟩:=eK;have⟨n,hn'⟩:=qE.1 G.2;simp_all
 simp_all
theorem js.other{t k up L D}(h:js t k up L D)(hk:k<t.size)(E:et (af t k)=false)(F:(af t k==41||af t k==93)=false)(G:(af t k==58)=false)(I:(af t k==94||af t k==36)=false):
 js t (k+1) up L D:=by
 rcases h.inv with⟨h,rfl⟩|⟨_,_,_,_,eK,J⟩
 ·omega
 grind[oU]
theorem js.end_{t k up L D}(h:js t k up L D)(hk:t.size<=k):D=L:=by
 rcases h.inv with⟨_,rfl⟩|⟨h,_⟩
 ·rfl
 omega
end Ch
def zF(w:World)(B b:Nat)(k:Wk):Prop:=∃v,w.heap[b]? =some (cells #[int i64 k.mode,v,int .u8 k.close] 289 (0,0))/\dW w B v (aF k.open_)
theorem zF.close{w B b k}(h:zF w B b k):w.cell? ⟨b,2,none⟩=some (int .u8 k.close):=by
 have⟨v,h,_⟩:=h;rw[World.cell?,h];rfl
theorem S_ w B b k c(h:zF w B b k):
 Calls prog 263 #[pointer (some ⟨b,0,none⟩),int .u8 c] w λx w'=>x=returned (int i64 (AJ k c))/\w'=w:=by
 have z:=h.close;unfold AJ
 cases D:c==33<;>cases E:c==126<;>cases F:c==35<;>cases G:c==64<;>cases I:c==43<;>cases J:c==45<;>cases O:c==61<;>cases R:c !=k.close<;>cases Q:c==62<;>
  first
   |(exfalso;simp at D E F G I J O Q;omega)
   |(go_in
     exact we)
theorem zF.mode{w B b k}(h:zF w B b k):w.cell? ⟨b,0,none⟩=some (int i64 k.mode):=by
 have⟨v,h,_⟩:=h;rw[World.cell?,h];rfl
theorem zF.free{w B b k}(h:zF w B b k)i:w.frozen? ⟨b,i,none⟩=false:=by
 have⟨v,h,_⟩:=h;simp[World.frozen?,h]
theorem zF.lt{w B b k}(h:zF w B b k):b<w.heap.size:=by
 have⟨v,h,_⟩:=h;exact aR h
theorem zF.Br{w B b k}(h:zF w B b k)c:zF (w.setCell ⟨b,2,none⟩ (int .u8 c)) B b {k with close:=c}:=by
 have⟨v,h,q⟩:=h;have ne:=q.ne h aV;refine⟨v,by rw[ar _ h];rfl,q.aB (S:=λi=>i=b) ((Kp.refl _ _).setCell jF _) (λi hi x=>by subst x;exact ne hi)⟩
theorem zF.abc{w B b k}(h:zF w B b k)c:zF (w.setCell ⟨b,0,none⟩ (int i64 c)) B b {k with mode:=c}:=by
 have⟨v,h,q⟩:=h;have ne:=q.ne h aV;refine⟨v,by rw[ar _ h];rfl,q.aB (S:=λi=>i=b) ((Kp.refl _ _).setCell jF _) (λi hi x=>by subst x;exact ne hi)⟩
theorem zF.drewN{w B b k}(h:zF w B b k)n:zF (w.drewN n) B b k:=h
theorem qg w b lo hi:
 Calls prog 238 #[int .u8 b,int .u8 lo,int .u8 hi] w λx w'=>x=returned (bool (nU b lo hi))/\w'=w:=by
 unfold nU
 cases D:decide (lo<=b)<;>cases E:decide (b<=hi)<;>
  (go_in
   exact we)
theorem ik w ok n:
 Calls prog 262 #[bool ok,int i64 n] w λx w'=>x=returned (int i64 (ic ok n))/\w'=w:=by
 cases ok<;>
  (go_in
   exact we)
section
variable (w:World) (B b:Nat)
theorem zF.XJ{w D B}{b:Nat}{k:Wk}{v}{T}(E:w.heap[b]? =some (cells #[int i64 k.mode,v,int .u8 k.close] T (0,0)))(F:T≠5)(q:dW w B v (aF k.open_))(g3:Kp (λi=>v.ownBlock=some i) w D):
 D.heap[b]? =some (cells #[int i64 k.mode,v,int .u8 k.close] T (0,0))/\Kp (λi=>B<=i) w D:=
 ⟨g3.at_ E (q.ne E F),(Kp.refl _ _).trans' g3 (λi _ x=>(q.lt i x).1)⟩
theorem dW.pop{w B g D n E l d}(h:dW w B (slice (some ⟨g,D,none⟩) n E) (aF (l++[d]))):dW w B (slice (some ⟨g,D,none⟩) l.length E) (aF l)/\w.cell? ⟨g,D+l.length,none⟩=some (int .u8 d):=by
 rcases h with⟨h,_⟩|⟨Q,J,G,F,h,hb,I,U,hs,O⟩
 ·simp_all
 simp only[aH,bE,ei,dV]at h;obtain⟨⟨rfl,rfl⟩,rfl,rfl⟩:=h;have R:(aF (l++[d])).length=l.length+1:=by simp[aF]
 refine⟨inr ⟨g,D,E,F,by simp[aF],hb,I,by simp[aF];omega,hs,λj u hu=>O j u ?_⟩,?_⟩
 ·grind[gh]
 rw[nt w g _ F _ _ I];grind[gh,aF]
theorem Ch.Ei km D c d o(E:(c==40)=false)(F:(c==91)=false)(G:(c==60)=false)(I:(c==42)=false)(J:(c==58)=false)(O:(c==94)=false)(Q:(c==36)=false)(R:(c !=d)=false):
 gN ⟨km,o++[d],D⟩ c=(if o.length==0 then 18 else 5,⟨km,o,D⟩):=by
 grind[gN]
theorem PC k c(h:zF w B b k)(hb:B<=b)(hl:k.open_.length<=1000):
 Calls prog 261 #[pointer (some ⟨b,0,none⟩),int .u8 c] w λx w'=>x=returned (int i64 (gN k c).1)/\zF w' B b (gN k c).2/\Kp (λi=>B<=i) w w':=by
 have aO:=h.lt;have⟨km,ko,kc⟩:=k;have J:=h.Br 59;have Z:=h.free;have R:=ag h;have⟨v,G,q⟩:=h;change dW w B v (aF ko)at q
 change ko.length<=1000 at hl
 have z1:w.cell? ⟨b,1,none⟩=some v:=dG G rfl;have z2:w.cell? ⟨b,2,none⟩=some (int .u8 kc):=dG G rfl;have Q:=ag G;clear G;by_cases c1:c=40
 ·subst c1;rw[show gN ⟨km,ko,kc⟩ 40=(1,⟨km,ko++[41],kc⟩)by simp[gN]];go_in;go_wp2_with (at_builtin;refine im rfl (tmp 13) (tmp 14) rfl rfl (q.alloc _) ⟨w.heap.size,0,none⟩ 1 1 [int .u8 41] rfl rfl aV (by exact gT _ _ _) Ki (by simp[aF];omega) il ?_);intro ga oa ca w3 E g3 U;have Y:=((Kp.refl _ _).alloc _).grown g3 (λi hi _=>hi);have⟨h3,K3⟩:=zF.XJ (k:=⟨km,ko,kc⟩) Q aV q Y;have ad:w3.cell? ⟨b,1,none⟩=some v:=dG h3 rfl;have f13:w3.frozen? ⟨b,1,none⟩=false:=by simp[World.frozen?,h3]
  have HH:=c_ h3 E K3;clear Q Y E g3 U h3 K3 z1 z2 q Z J R;go_wp2;go_ret;have⟨h3,E,K3⟩:=HH;refine⟨rfl,⟨_,by rw[ar _ h3];rfl,?_⟩,K3.setCell (p:=⟨b,1,none⟩) (λ_=>hb) _⟩;rw[gh];exact E.aB (S:=λi=>i=b) ((Kp.refl _ _).setCell jF _) (λi hi x=>by subst x;exact E.ne h3 aV hi)
 by_cases c2:c=91
 ·subst c2;rw[show gN ⟨km,ko,kc⟩ 91=(1,⟨km,ko++[93],kc⟩)by simp[gN]];go_in;go_wp2_with (at_builtin;refine im rfl (tmp 24) (tmp 25) rfl rfl (q.alloc _) ⟨w.heap.size,0,none⟩ 1 1 [int .u8 93] rfl rfl aV (by exact gT _ _ _) Ki (by simp[aF];omega) il ?_);intro ga oa ca w3 E g3 U;have Y:=((Kp.refl _ _).alloc _).grown g3 (λi hi _=>hi);have⟨h3,K3⟩:=zF.XJ (k:=⟨km,ko,kc⟩) Q aV q Y;have ad:w3.cell? ⟨b,1,none⟩=some v:=dG h3 rfl;have f13:w3.frozen? ⟨b,1,none⟩=false:=by simp[World.frozen?,h3]
  have HH:=c_ h3 E K3;clear Q Y E g3 U h3 K3 z1 z2 q Z J R;go_wp2;go_ret;have⟨h3,E,K3⟩:=HH;refine⟨rfl,⟨_,by rw[ar _ h3];rfl,?_⟩,K3.setCell (p:=⟨b,1,none⟩) (λ_=>hb) _⟩;rw[gh];exact E.aB (S:=λi=>i=b) ((Kp.refl _ _).setCell jF _) (λi hi x=>by subst x;exact E.ne h3 aV hi)
 by_cases c3:c=60
 ·subst c3;rw[show gN ⟨km,ko,kc⟩ 60=(2,⟨km,ko,kc⟩)by simp[gN]];go_in;exact iN R
 by_cases c4:c=42
 ·subst c4;rw[show gN ⟨km,ko,kc⟩ 42=(4,⟨km,ko,kc⟩)by simp[gN]];go_in;exact iN R
 by_cases c5:c=58
 ·subst c5;rw[show gN ⟨km,ko,kc⟩ 58=(6,⟨km,ko,kc⟩)by simp[gN]];go_in;exact iN R
 by_cases c6:c=94
 ·subst c6;rw[show gN ⟨km,ko,kc⟩ 94=(11,⟨km,ko,59⟩)by simp[gN]];have HS:=ag J;clear J;have f2:=Z 2;go_in;exact OH HS ((Kp.refl _ _).setCell (p:=⟨b,2,none⟩) (λ_=>hb) _)
 by_cases c7:c=36
 ·subst c7;rw[show gN ⟨km,ko,kc⟩ 36=(11,⟨km,ko,59⟩)by simp[gN]];have HS:=ag J;clear J;have f2:=Z 2;go_in;exact OH HS ((Kp.refl _ _).setCell (p:=⟨b,2,none⟩) (λ_=>hb) _)
 have b1:(c==40)=false:=cX c1;have b2:(c==91)=false:=cX c2;have b3:(c==60)=false:=cX c3;have b4:(c==42)=false:=cX c4;have b5:(c==58)=false:=cX c5;have b6:(c==94)=false:=cX c6;have b7:(c==36)=false:=cX c7;clear c1 c2 c3 c4 c5 c6 c7;rcases List.eq_nil_or_concat ko with rfl|⟨o,d,rfl⟩
 ·rw[show gN ⟨km,[],kc⟩ c=(-1,⟨km,[],kc⟩)by simp[gN,b1,b2,b3,b4,b5,b6,b7]];obtain⟨ao,D,rfl⟩:=q.len;rw[show((aF []).length:Nat)=0 from rfl]at z1;clear J;go_in;exact iN R
 rw[List.concat_eq_append]at*;have aS:o.length<=999:=by simp at hl;omega
 have O:(aF (o++[d])).length=o.length+1:=by simp[aF]
 obtain⟨g,I,D,rfl⟩:∃g I D,v= slice (some ⟨g,I,none⟩) (o.length+1) D:=by
  rcases q with⟨_,hn⟩|⟨g,I,D,aa,G,_⟩
  ·simp[aF]at hn
  exact⟨g,I,D,by rw[G,O]⟩
 have⟨qp,cz⟩:=q.pop;have F:=q.ne Q aV;have am:o.length+1<=D:=by
  rcases q with⟨hn,_⟩|⟨g',ap,aj,aa,G,_,_,hc,_⟩
  ·simp at hn
  simp only[aH]at G;rw[G.2.2];simp[aF]at hc;exact hc
 clear J hl O q;cases qd:c !=d with
 |true=>
  have ab:(((o.length:Int)+1)==0)=false:=il;rw[show gN ⟨km,o++[d],kc⟩ c=(-1,⟨km,o++[d],kc⟩)by simp at qd;simp[gN,b1,b2,b3,b4,b5,b6,b7,qd]];go_in;exact iN R
 |false=>?_
 have ab:(((o.length:Int)+1)==0)=false:=il;have f1:=Z 1;have aI:(o.length:Int)<=D:=oQ;have K2:∀u,Kp (λi=>i=b) w (w.setCell ⟨b,1,none⟩ u):=λu=>(Kp.refl _ _).setCell jF _;by_cases ho:o.length=0
 ·have h1:(((o.length:Int)+1)==1)=true:=il;rw[show gN ⟨km,o++[d],kc⟩ c=(18,⟨km,o,kc⟩)by rw[Ei km kc c d o b1 b2 b3 b4 b5 b6 b7 qd,ho];rfl];have X:=bw qp F;clear qp F ho;go_in;go_wp2;go_ret;exact⟨rfl,⟨_,by rw[ar _ Q];rfl,X.1.aB (K2 _) (λi hi x=>by subst x;exact X.2 hi)⟩,(K2 _).mono (λi _ x=>oQ)⟩
 have h1:(((o.length:Int)+1)==1)=false:=il;rw[show gN ⟨km,o++[d],kc⟩ c=(5,⟨km,o,kc⟩)by rw[Ei km kc c d o b1 b2 b3 b4 b5 b6 b7 qd];simp;intro h;simp[h]at ho];have X:=bw qp F;clear qp F;go_in;go_wp2;go_ret;exact⟨rfl,⟨_,by rw[ar _ Q];rfl,X.1.aB (K2 _) (λi hi x=>by subst x;exact X.2 hi)⟩,(K2 _).mono (λi _ x=>oQ)⟩
end
theorem Ch.LO k c(h:k.mode=5):bT k c=gN k c:=by unfold bT;rw[h];rfl
theorem PD w B b k c(h:zF w B b k)(hb:B<=b)(hl:k.open_.length<=1000):
 Calls prog 230 #[pointer (some ⟨b,0,none⟩),int .u8 c] w λx w'=>x=returned (int i64 (bT k c).1)/\zF w' B b (bT k c).2/\Kp (λi=>B<=i) w w':=by
 have E:=ag (qg w c 97 122);have D:=ag (qg w c 65 90);have G:=ag (qg w c 120 122);have F:=ag (qg w c 48 57);have EI:=ag (PC w B b k c h hb hl);have EA:=ag (S_ w B b k c h);have z0:=h.mode;have z2:=h.close;have f2:=h.free 2;have HS:=ag (h.Br 62);have I:=ag h;have⟨km,ko,kc⟩:=k;simp only at z0 z2 HS;by_cases m0:km=0
 ·subst m0;cases O:c !=40 with
  |false=>
   rw[show bT ⟨0,ko,kc⟩ c=gN ⟨0,ko,kc⟩ c by simp[bT,O]];go_in;go_wp2_with fail;refine cF E ?_;go_wp2_with fail;refine cF D ?_;go_wp2_with fail;refine cF G ?_;go_wp2_with fail;refine cF F ?_;go_wp2_with fail;refine b9 EI ?_;rintro J ⟨U,R⟩;go_wp2;go_ret;exact⟨rfl,U,R⟩
  |true=>?_
  cases Q:c !=91 with
  |false=>
   rw[show bT ⟨0,ko,kc⟩ c=gN ⟨0,ko,kc⟩ c by simp[bT,Q]];go_in;go_wp2_with fail;refine cF E ?_;go_wp2_with fail;refine cF D ?_;go_wp2_with fail;refine cF G ?_;go_wp2_with fail;refine cF F ?_;go_wp2_with fail;refine b9 EI ?_;rintro J ⟨U,R⟩;go_wp2;go_ret;exact⟨rfl,U,R⟩
  |true=>?_
  rw[show bT ⟨0,ko,kc⟩ c=(-1,⟨0,ko,kc⟩)by simp[bT,O,Q]];go_in;go_wp2_with fail;refine cF E ?_;go_wp2_with fail;refine cF D ?_;go_wp2_with fail;refine cF G ?_;go_wp2_with fail;refine cF F ?_;go_wp2;go_ret;exact⟨rfl,I,Kp.refl _ _⟩
 by_cases m1:km=1
 ·subst m1;rw[show bT ⟨1,ko,kc⟩ c=(ic (nU c 65 90) 5,⟨1,ko,kc⟩)by simp[bT]];go_in;go_wp2_with fail;refine cF E ?_;go_wp2_with fail;refine cF D ?_;go_wp2_with fail;refine cF G ?_;go_wp2_with fail;refine cF F ?_;go_wp2_with fail;refine(ik _ _ _).mono ?_;rintro x J ⟨rfl,rfl⟩;go_wp2;go_ret;exact⟨rfl,I,Kp.refl _ _⟩
 by_cases m4:km=4
 ·subst m4;rw[show bT ⟨4,ko,kc⟩ c=(ic (nU c 65 90) 5,⟨4,ko,kc⟩)by simp[bT]];go_in;go_wp2_with fail;refine cF E ?_;go_wp2_with fail;refine cF D ?_;go_wp2_with fail;refine cF G ?_;go_wp2_with fail;refine cF F ?_;go_wp2_with fail;refine(ik _ _ _).mono ?_;rintro x J ⟨rfl,rfl⟩;go_wp2;go_ret;exact⟨rfl,I,Kp.refl _ _⟩
 by_cases m2:km=2
 ·subst m2;rw[show bT ⟨2,ko,kc⟩ c=(ic (nU c 65 90) 3,⟨2,ko,kc⟩)by simp[bT]];go_in;go_wp2_with fail;refine cF E ?_;go_wp2_with fail;refine cF D ?_;go_wp2_with fail;refine cF G ?_;go_wp2_with fail;refine cF F ?_;go_wp2_with fail;refine(ik _ _ _).mono ?_;rintro x J ⟨rfl,rfl⟩;go_wp2;go_ret;exact⟨rfl,I,Kp.refl _ _⟩
 by_cases m3:km=3
 ·subst m3;rw[show bT ⟨3,ko,kc⟩ c=(ic (c==62) 5,⟨3,ko,kc⟩)by simp[bT]];go_in;go_wp2_with fail;refine cF E ?_;go_wp2_with fail;refine cF D ?_;go_wp2_with fail;refine cF G ?_;go_wp2_with fail;refine cF F ?_;go_wp2_with fail;refine(ik _ _ _).mono ?_;rintro x J ⟨rfl,rfl⟩;go_wp2;go_ret;exact⟨rfl,I,Kp.refl _ _⟩
 by_cases m5:km=5
 ·subst m5;rw[LO ⟨5,ko,kc⟩ c rfl];go_in;go_wp2_with fail;refine cF E ?_;go_wp2_with fail;refine cF D ?_;go_wp2_with fail;refine cF G ?_;go_wp2_with fail;refine cF F ?_;go_wp2_with fail;refine b9 EI ?_;rintro J ⟨U,R⟩;go_wp2;go_ret;exact⟨rfl,U,R⟩
 by_cases m6:km=6
 ·subst m6;rw[show bT ⟨6,ko,kc⟩ c=(ic (nU c 97 122||nU c 65 90||c==46) 7,⟨6,ko,62⟩)by simp[bT]];cases O:nU c 97 122<;>cases Q:nU c 65 90<;>cases q3:c==46<;>rw[O]at E<;>rw[Q]at D
  all_goals
   go_in;go_wp2_with fail;refine cF E ?_;go_wp2_with fail;refine cF D ?_;go_wp2_with fail;refine cF G ?_;go_wp2_with fail;refine cF F ?_;go_wp2_with fail;refine(ik _ _ _).mono ?_;rintro x J ⟨rfl,rfl⟩;go_wp2;go_ret;exact⟨rfl,HS,(Kp.refl _ _).setCell (p:=⟨b,2,none⟩) (λ_=>hb) _⟩
 by_cases m7:km=7
 ·subst m7;cases O:c==63 with
  |true=>
   rw[show bT ⟨7,ko,kc⟩ c=(8,⟨7,ko,kc⟩)by simp[bT,O]];go_in;go_wp2_with fail;refine cF E ?_;go_wp2_with fail;refine cF D ?_;go_wp2_with fail;refine cF G ?_;go_wp2_with fail;refine cF F ?_;go_wp2;go_ret;exact⟨rfl,I,Kp.refl _ _⟩
  |false=>?_
  rw[show bT ⟨7,ko,kc⟩ c=(AJ ⟨7,ko,kc⟩ c,⟨7,ko,kc⟩)by simp[bT,O]];go_in;go_wp2_with fail;refine cF E ?_;go_wp2_with fail;refine cF D ?_;go_wp2_with fail;refine cF G ?_;go_wp2_with fail;refine cF F ?_;go_wp2_with fail;refine cF EA ?_;go_wp2;go_ret;exact⟨rfl,I,Kp.refl _ _⟩
 by_cases m8:km=8
 ·subst m8;rw[show bT ⟨8,ko,kc⟩ c=(ic (nU c 120 122) 9,⟨8,ko,kc⟩)by simp[bT]];go_in;go_wp2_with fail;refine cF E ?_;go_wp2_with fail;refine cF D ?_;go_wp2_with fail;refine cF G ?_;go_wp2_with fail;refine cF F ?_;go_wp2_with fail;refine(ik _ _ _).mono ?_;rintro x J ⟨rfl,rfl⟩;go_wp2;go_ret;exact⟨rfl,I,Kp.refl _ _⟩
 by_cases m9:km=9
 ·subst m9;rw[show bT ⟨9,ko,kc⟩ c=(ic (c==60||c==61||c==62) 10,⟨9,ko,kc⟩)by simp[bT]];cases O:c==60<;>cases Q:c==61<;>cases q3:c==62
  all_goals
   go_in;go_wp2_with fail;refine cF E ?_;go_wp2_with fail;refine cF D ?_;go_wp2_with fail;refine cF G ?_;go_wp2_with fail;refine cF F ?_;go_wp2_with fail;refine(ik _ _ _).mono ?_;rintro x J ⟨rfl,rfl⟩;go_wp2;go_ret;exact⟨rfl,I,Kp.refl _ _⟩
 by_cases X:km=10
 ·subst X;rw[show bT ⟨10,ko,kc⟩ c=(ic (nU c 48 57) 11,⟨10,ko,kc⟩)by simp[bT]];go_in;go_wp2_with fail;refine cF E ?_;go_wp2_with fail;refine cF D ?_;go_wp2_with fail;refine cF G ?_;go_wp2_with fail;refine cF F ?_;go_wp2_with fail;refine(ik _ _ _).mono ?_;rintro x J ⟨rfl,rfl⟩;go_wp2;go_ret;exact⟨rfl,I,Kp.refl _ _⟩
 by_cases aj:km=16
 ·subst aj;rw[show bT ⟨16,ko,kc⟩ c=(ic (nU c 48 57) 11,⟨16,ko,kc⟩)by simp[bT]];go_in;go_wp2_with fail;refine cF E ?_;go_wp2_with fail;refine cF D ?_;go_wp2_with fail;refine cF G ?_;go_wp2_with fail;refine cF F ?_;go_wp2_with fail;refine(ik _ _ _).mono ?_;rintro x J ⟨rfl,rfl⟩;go_wp2;go_ret;exact⟨rfl,I,Kp.refl _ _⟩
 by_cases Y:km=11
 ·subst Y;rw[show bT ⟨11,ko,kc⟩ c=(AJ ⟨11,ko,kc⟩ c,⟨11,ko,kc⟩)by simp[bT]];go_in;go_wp2_with fail;refine cF E ?_;go_wp2_with fail;refine cF D ?_;go_wp2_with fail;refine cF G ?_;go_wp2_with fail;refine cF F ?_;go_wp2_with fail;refine cF EA ?_;go_wp2;go_ret;exact⟨rfl,I,Kp.refl _ _⟩
 by_cases Z:km=12
 ·subst Z;rw[show bT ⟨12,ko,kc⟩ c=(ic (nU c 97 122) 11,⟨12,ko,kc⟩)by simp[bT]];go_in;go_wp2_with fail;refine cF E ?_;go_wp2_with fail;refine cF D ?_;go_wp2_with fail;refine cF G ?_;go_wp2_with fail;refine cF F ?_;go_wp2_with fail;refine(ik _ _ _).mono ?_;rintro x J ⟨rfl,rfl⟩;go_wp2;go_ret;exact⟨rfl,I,Kp.refl _ _⟩
 by_cases aa:km=13
 ·subst aa;rw[show bT ⟨13,ko,kc⟩ c=(ic (nU c 97 122) 14,⟨13,ko,kc⟩)by simp[bT]];go_in;go_wp2_with fail;refine cF E ?_;go_wp2_with fail;refine cF D ?_;go_wp2_with fail;refine cF G ?_;go_wp2_with fail;refine cF F ?_;go_wp2_with fail;refine(ik _ _ _).mono ?_;rintro x J ⟨rfl,rfl⟩;go_wp2;go_ret;exact⟨rfl,I,Kp.refl _ _⟩
 by_cases ab:km=14
 ·subst ab;rw[show bT ⟨14,ko,kc⟩ c=(ic (nU c 48 57&&c !=48) 11,⟨14,ko,kc⟩)by simp[bT]];cases O:nU c 48 57<;>cases Q:c !=48<;>rw[O]at F
  all_goals
   go_in;go_wp2_with fail;refine cF E ?_;go_wp2_with fail;refine cF D ?_;go_wp2_with fail;refine cF G ?_;go_wp2_with fail;refine cF F ?_;go_wp2_with fail;refine(ik _ _ _).mono ?_;rintro x J ⟨rfl,rfl⟩;go_wp2;go_ret;exact⟨rfl,I,Kp.refl _ _⟩
 by_cases ad:km=15
 ·subst ad;rw[show bT ⟨15,ko,kc⟩ c=(ic (nU c 120 122) 16,⟨15,ko,kc⟩)by simp[bT]];go_in;go_wp2_with fail;refine cF E ?_;go_wp2_with fail;refine cF D ?_;go_wp2_with fail;refine cF G ?_;go_wp2_with fail;refine cF F ?_;go_wp2_with fail;refine(ik _ _ _).mono ?_;rintro x J ⟨rfl,rfl⟩;go_wp2;go_ret;exact⟨rfl,I,Kp.refl _ _⟩
 by_cases am:km=17
 ·subst am;rw[show bT ⟨17,ko,kc⟩ c=(ic (nU c 65 90||c==45) 5,⟨17,ko,kc⟩)by simp[bT]];cases O:nU c 65 90<;>cases Q:c==45<;>rw[O]at D
  all_goals
   go_in;go_wp2_with fail;refine cF E ?_;go_wp2_with fail;refine cF D ?_;go_wp2_with fail;refine cF G ?_;go_wp2_with fail;refine cF F ?_;go_wp2_with fail;refine(ik _ _ _).mono ?_;rintro x J ⟨rfl,rfl⟩;go_wp2;go_ret;exact⟨rfl,I,Kp.refl _ _⟩
 rw[show bT ⟨km,ko,kc⟩ c=(-1,⟨km,ko,kc⟩)by simp only[bT,(cX m0:(km==0)=false),(cX m1:(km==1)=false),(cX m2:(km==2)=false),(cX m3:(km==3)=false),(cX m4:(km==4)=false),(cX m5:(km==5)=false),(cX m6:(km==6)=false),(cX m7:(km==7)=false),(cX m8:(km==8)=false),(cX m9:(km==9)=false),(cX X:(km==10)=false),(cX Y:(km==11)=false),(cX Z:(km==12)=false),(cX aa:(km==13)=false),(cX ab:(km==14)=false),(cX ad:(km==15)=false),(cX aj:(km==16)=false),(cX am:(km==17)=false)];simp];go_in;go_wp2_with fail;refine cF E ?_;go_wp2_with fail;refine cF D ?_;go_wp2_with fail;refine cF G ?_;go_wp2_with fail;refine cF F ?_;go_wp2;go_ret;exact⟨rfl,I,Kp.refl _ _⟩
theorem Ch.LQ{t b f i}(h:(af t i==b)=true):mu t b (f+1) i=i:=by simp[mu,h]
theorem Ch.IC{t b f i}(h:(af t i==b)=false):mu t b (f+1) i=mu t b f (i+1):=by simp[mu,h]
theorem Ch.ry{t k}(h:k<t.size):af t k=(t[k].toNat:Int):=by unfold af;rw[dif_pos h]
theorem xB w t(D:Nat)b(R:t.size<=240):
 Calls prog 233 #[string t,int i64 D,int .u8 b] w λx w'=>x=returned (int i64 (jB t D b))/\w'=w:=by
 by_cases F:D<=t.size
 ·have E:=ag (show jB t D b=mu t b (t.size-D) D by unfold jB;rw[aq F]);go_in;go_wp2;go_loop [7] (λi=>∃k:Nat,i= int i64 k/\k<=t.size/\Hid (jB t D b=mu t b (t.size-k) k)) (λi=>t.size-(intOf i).toNat)
  case atStart=>exact⟨D,rfl,F,E⟩
  case round=>
   obtain⟨k,rfl,hk,G⟩:=hrel;by_cases J:k<t.size
   ·have Q:(k:Int)<t.size:=oQ;have O:=ag (ry J);cases q:(t[k].toNat:Int)==b with
    |true=>
     go_wp2;go_ret;rw[G,show t.size-k=(t.size-(k+1))+1 by omega,LQ (by rw[O];exact q)];exact⟨rfl,rfl⟩
    |false=>?_
    go_wp2;exact⟨⟨k+1,eb,oQ,ag (by rw[G,show t.size-k=(t.size-(k+1))+1 by omega,IC (by rw[O];exact q)])⟩,ew⟩
   have I:¬(k:Int)<t.size:=oQ;obtain rfl:k=t.size:=oQ;go_wp2;go_ret;rw[G,n_];exact⟨rfl,rfl⟩
 have E:=ag (show jB t D b=t.size by unfold jB;rw[ax F]);have I:¬(D:Int)<t.size:=oQ;go_in;go_wp2;go_loop [7] (λi=>i= int i64 D) (λi=>0)
 case atStart=>rfl
 case round=>
  subst hrel;exact iN E
theorem ID w c:
 Calls prog 231 #[int .u8 c] w λe w'=>e=returned (int i64 (fU c))/\w'=w:=by
 unfold fU
 cases D:c==91<;>cases E:c==60<;>cases F:c==42<;>
  (go_in
   go_wp2;go_ret;exact⟨dy,rfl⟩)
theorem Ch.Ca t D b:jB t D b<=t.size:=by
 have:∀f i,i+f<=t.size->mu t b f i<=t.size:=by
  intro f;induction f with
  |zero=>grind[mu]
  |succ f E=>grind[mu]
 grind[jB]
theorem Gj w t(p:Nat)(D:t.size<=240)(I:p+1<t.size):
 Calls prog 232 #[string t,int i64 p] w λe w'=>e=returned (int i64 (iV t p))/\w'=w:=by
 unfold iV;have F:=ag (ry I);have G:(p:Int)+1<(t.size:Int):=oQ;rw[F];cases q:(t[p+1].toNat:Int)==63 with
 |true=>
  have E:=ag (xB w t (p+4+1) 62 D);have hu:=Ca t (p+4+1) 62;go_in;go_wp2_with fail;refine cF E ?_;go_wp2;go_ret;exact⟨dy,rfl⟩
 |false=>?_
 have E:=ag (xB w t (p+1) 62 D);have hu:=Ca t (p+1) 62;go_in;go_wp2_with fail;refine cF E ?_;go_wp2;go_ret;exact⟨dy,rfl⟩
namespace Ch
theorem PE k c:(gN k c).2.open_.length<=k.open_.length+1:=by
 grind[gN]
theorem Wh{p:Prop}[Decidable p]{a b:Int×Wk}{n:Nat}(D:a.2.open_.length<=n)(hb:b.2.open_.length<=n):(if p then a else b).2.open_.length<=n:=by split<;>assumption
theorem PF k c:(bT k c).2.open_.length<=k.open_.length+1:=by
 have:=PE k c;unfold bT;repeat' (first|exact this|exact cT _|refine Wh ?_ ?_)
theorem IE{t f i w c}(D:af t i=c)(h:((bT w c).1== -1)=true):lx t (f+1) i w=i:=by simp only[lx,D,h,aQ]
theorem LS{t f i w c}(D:af t i=c)(h:((bT w c).1== -1)=false):lx t (f+1) i w=lx t f (i+1) {(bT w c).2 with mode:=(bT w c).1}:=by
 grind[lx]
end Ch
theorem LU w t(ht:t.size<=240):
 Calls prog 193 #[string t] w λx w'=>x=returned (int i64 (BQ t))/\Kp bA w w':=by
 have Z:zF (w.alloc (cells #[int i64 0,slice none 0 0,int .u8 0] 289)) w.heap.size _ ⟨0,[],0⟩:=⟨slice none 0 0,ak w _,inl ⟨rfl,rfl⟩⟩
 have Q:=kG w (cells #[int i64 0,slice none 0 0,int .u8 0] 289);go_in;go_upto_region 3 with fail;generalize w.alloc (cells #[int i64 0,slice none 0 0,int .u8 0] 289)=w1 at*;go_loopw [4] (λi wr=>∃k:Nat,i= int i64 k/\k<=t.size/\∃wk:Wk,zF wr w.heap.size w.heap.size wk/\wk.open_.length<=k/\Hid (BQ t=lx t (t.size-k) k wk)/\Kp (λi=>w.heap.size<=i) w1 wr) (λi _=>t.size-(intOf i).toNat)
 case atStart=>exact⟨0,rfl,aA _,⟨0,[],0⟩,Z,aA _,ag rfl,Kp.refl _ _⟩
 case round=>
  obtain⟨k,rfl,hk,wk,hB,hl,D,F⟩:=hrel;by_cases R:k<t.size
  ·have X:(k:Int)<t.size:=oQ;have U:=ag (ry R);have hn:=PF wk (t[k].toNat:Int);have E:=ag (PD wr w.heap.size w.heap.size wk (t[k].toNat:Int) hB (aC _) oQ);have I:=bw F D;cases q:(bT wk (t[k].toNat:Int)).1== -1 with
   |true=>
    go_wp;refine b9 E ?_;rintro w2 ⟨G,J⟩;have Y:=G.mode;have f0:=G.free 0;have O:=ag J;go_wp2;go_ret;have⟨F,D⟩:=I;rw[D,show t.size-k=(t.size-(k+1))+1 by omega,IE U q];exact⟨rfl,Q.trans' ((F.trans O).setCell (p:=⟨w.heap.size,0,none⟩) (λ_=>aC _) _) (λi hi x=>oQ)⟩
   |false=>?_
   go_wp;refine b9 E ?_;rintro w2 ⟨G,J⟩;have Y:=G.mode;have f0:=G.free 0;have O:=bw G J;go_wp2;go_roundw
   case rel=>
    have⟨F,D⟩:=I;have⟨G,J⟩:=O;refine⟨k+1,eb,oQ,_,G.abc _,by simp only;omega,ag ?_,(F.trans J).setCell (p:=⟨w.heap.size,0,none⟩) (λ_=>aC _) _⟩;rw[D,show t.size-k=(t.size-(k+1))+1 by omega,LS U q]
   case measure=>exact ew
  have aa:¬(k:Int)<t.size:=oQ;obtain rfl:k=t.size:=oQ;have Y:=hB.mode;have I:=bw F D;cases q:wk.mode !=18 with
  |true=>
   go_wp2;go_ret;have⟨F,D⟩:=I;rw[D,n_,show lx t 0 t.size wk=(t.size:Int)by simp only[lx,q,aQ]];exact⟨rfl,Q.trans' F (λi hi x=>oQ)⟩
  |false=>?_
  go_wp2;go_ret;have⟨F,D⟩:=I;rw[D,n_,show lx t 0 t.size wk= -1 by simp only[lx,q,bu,bf]];exact⟨rfl,Q.trans' F (λi hi x=>oQ)⟩
