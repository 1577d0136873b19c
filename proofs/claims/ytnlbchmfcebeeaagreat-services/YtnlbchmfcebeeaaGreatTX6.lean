import Derived.Test.YtnlbchmfcebeeaaGreatTX2
import Derived.ArgAppend
set_option maxHeartbeats 12800000
set_option maxRecDepth 100000
namespace Go.Proofs.YtnlbchmfcebeeaaGreat
open Go.Proofs.Tryz Ch
open Go.RowKit
theorem dV{P:Program}(w:World)(base:Nat)(t ty e:TypeId)(i:TypeInfo)(z:Value)(size bytes:Nat)(ht:P.underlying t=some (.slice e))(hi:P.info? e=some i)(hz:i.zero=some z)
 (I:i.size=size) (Z:i.bytes=bytes) (ad:z.cells.size=size) (iG:0<size)
 (v:Value) (n:Nat) (xs:List Value) (J:w.ownsRow base e size v n xs)
 (a:Addr) (m c:Nat) (D:List Value) (hl:D.length=m*size) (G:∀j u,D[j]? =some u->w.cell? (a.add j)=some u) (h1:∀u∈D,u.oneCell'=true) (hm:0<m)
 (X:n+m<=maxLen) (F:(n+m)*bytes<=140737488355328) (Y:base<=w.heap.size):
 ∃g cap w',(Builtin.append_ #[t,t] ty #[v,.slice (some a) m c]).run P w= .ok (.slice (some ⟨g,0,none⟩) (n+m) cap) w'/\w'.ownsRow base e size (.slice (some ⟨g,0,none⟩) (n+m) cap) (n+m) (xs++D)/\w.grownBy w' v.ownBlock/\
  (v.ownBlock=some g\/w.heap.size<=g):=by
 obtain⟨v',w',hr,ho,hg,_⟩:=run_append_own (P:=P) w base t ty e i z size bytes ht hi hz I Z ad iG v n xs J a m c D hl G h1 X F Y;obtain⟨g,cap,rfl⟩:=ij ho (by omega);refine⟨g,cap,w',hr,ho,hg,?_⟩
 rcases J.2 with⟨rfl,rfl⟩|⟨g0,O,aj,rfl,aI,ao,aS,aO,am,ap⟩
 ·have hx:=pR (by simpa using J.1)
  subst hx;obtain⟨v2,w2,E,aa,_,_⟩:=run_append_own (P:=P) w w.heap.size t ty e i z size bytes ht hi hz I Z ad iG _ 0 [] (bT w w.heap.size e size) a m c D hl G h1 X F (aC _);rw[hr]at E;simp only[Result.ok.injEq]at E;obtain⟨rfl,rfl⟩:=E;exact .inr (aa.lt g rfl).1
 by_cases U:n+m<=O
 ·subst I
  have E:=run_append_room (P:=P) w t ty e i ht hi g0 n O aj ao a m c D hl G h1 U (by rw[hl,am,<-Nat.add_mul];exact Nat.mul_le_mul_right _ U);rw[hr]at E;simp only[Result.ok.injEq,aK,bq,dH,dx,bS]at E
  left
  simp[Value.ownBlock,E.1.1]
 obtain⟨v2,w2,E,aa,_⟩:=run_append_arg_grows (P:=P) w t ty e i z size bytes ht hi hz I Z ad iG ⟨g0,0,none⟩ n O xs J.1 (J.cells (g:=g0) rfl) a m c D hl G (by omega) X F;rw[hr]at E;simp only[Result.ok.injEq]at E;obtain⟨rfl,rfl⟩:=E;exact .inr (aa.lt g rfl).1
theorem kf{P:Program}{I:Array Oper}{rest:List Oper}{o:Oper}{a:Act}{w:World}{Q:Exit->Act->World->Prop}(U:o.guard=none)(s x:Operand)(t:TypeId)
 (X:o.op= .call {callee:=.builtin .append,args:=#[s,x],argTypes:=#[t,t]})
 (base:Nat) (e:TypeId) (i:TypeInfo) (z:Value) (size bytes:Nat) (h1:P.underlying t=some (.slice e)) (h2:P.info? e=some i) (h3:i.zero=some z) (h4:i.size=size) (h5:i.bytes=bytes) (h6:z.cells.size=size) (h7:0<size)
 (v:Value) (n:Nat) (xs:List Value) (hs:a.eval s=v) (F:w.ownsRow base e size v n xs)
 (J:Addr) (m c:Nat) (D:List Value) (hx:a.eval x= .slice (some J) m c) (hn:D.length=m*size) (hc:∀j u,D[j]? =some u->w.cell? (J.add j)=some u) (O:∀u∈D,u.oneCell'=true)
 (hm:0<m) (Y:n+m<=maxLen) (Z:(n+m)*bytes<=140737488355328) (E:base<=w.heap.size)
 (hK:∀g cap w',w'.ownsRow base e size (.slice (some ⟨g,0,none⟩) (n+m) cap) (n+m) (xs++D)->w.grownBy w' v.ownBlock->(v.ownBlock=some g\/w.heap.size<=g)->wpList P I Q rest (a.put o.dst (.slice (some ⟨g,0,none⟩) (n+m) cap)) w'):
 wpList P I Q (o::rest) a w:=
 wpList_plain U λK hK'=>by
  obtain⟨g,cap,w',G,r1,r2,r3⟩:=dV (P:=P) w base t o.type e i z size bytes h1 h2 h3 h4 h5 h6 h7 v n xs F J m c D hn hc O hm Y Z E;unfold Oper.wp execOp;simp only[X,resolve,invoke,builtin,jD,k_,jE,List.map_toArray,List.map_cons,List.map_nil,hs,hx,G];exact hK' _ _ (hK g cap w' r1 r2 r3)
structure NV where
 n:RN
 ev:Value
 lv:Value
 tv:Value
def mr(x:NV):List Value:=[.int .u8 x.n.name,.int .i64 x.n.kind,.int .i64 x.n.parent,.int .i64 x.n.pos,x.ev,x.lv,x.tv]
def ir(l:List NV):List Value:=l.flatMap mr
def ly(l:List ByteArray):List Value:=l.map .string
def kF(l:List RT):List Value:=l.flatMap λx=>[.string x.text,.int .i64 x.pos]
theorem Cx(l:List NV)(x:NV):ir (l++[x])=ir l++mr x:=by simp[ir]
theorem Cy(l:List RT)(x:RT):kF (l++[x])=kF l++[.string x.text,.int .i64 x.pos]:=by simp[kF]
theorem xd(l:List ByteArray)(x:ByteArray):ly (l++[x])=ly l++[.string x]:=by simp[ly]
theorem yI(l:List NV)(k:Nat)(x:NV)(h:l[k]? =some x)(j:Nat)(D:j<7):(ir l)[k*7+j]? =(mr x)[j]?:=by
 induction l generalizing k with
 |nil=>simp_all
 |cons a l F=>?_
 have e:ir (a::l)=mr a++ir l:=by simp[ir]
 have E:(mr a).length=7:=rfl;grind
theorem oZ(l:List NV)(k:Nat)(x y:NV)(h:l[k]? =some x)(j:Nat)(D:j<7)(u:Value)(F:mr y=(mr x).set j u):(ir l).set (k*7+j) u=ir (l.set k y):=by
 induction l generalizing k with
 |nil=>simp_all
 |cons a l G=>?_
 have e:∀a l,ir (a::l)=mr a++ir l:=by intro a l;simp[ir]
 have E:(mr a).length=7:=rfl
 cases k with
 |zero=>
  simp_all
 |succ k=>?_
 grind
theorem kQ.symm{v u:Value}(h:kQ v u):kQ u v:=λk hk x=>h k x hk
theorem jU(u:Value):kQ (.slice none 0 0) u:=λk hk=>by simp[Value.ownBlock]at hk
structure rK(w:World)(B:Nat)(l:List NV)(v:Value):Prop where
 row:w.ownsRow B 223 7 v l.length (ir l)
 nR:∀x∈l,w.ownsRow B 9 1 x.ev x.n.enter.length (ly x.n.enter)
 rJ:∀x∈l,w.ownsRow B 9 1 x.lv x.n.cA.length (ly x.n.cA)
 j_:∀x∈l,w.ownsRow B 292 2 x.tv x.n.trans.length (kF x.n.trans)
 aE:∀(i j:Nat) (x y:NV),i≠j->l[i]? =some x->l[j]? =some y->kQ x.ev y.ev
 aL:∀(i j:Nat) (x y:NV),i≠j->l[i]? =some x->l[j]? =some y->kQ x.lv y.lv
 aX:∀(i j:Nat) (x y:NV),l[i]? =some x->l[j]? =some y->kQ x.ev y.lv
 aT:∀(i j:Nat) (x y:NV),i≠j->l[i]? =some x->l[j]? =some y->kQ x.tv y.tv
theorem rK.az{S:Nat->Prop}{w w':World}{B:Nat}{l:List NV}{v:Value}(h:rK w B l v)(k:Kp S w w')
 (F:∀i D T,w.heap[i]? =some (.cells D T (0,0))->B<=i->T=223\/T=9\/T=292->¬S i):rK w' B l v:=by
 have own:∀{e size v n xs},w.ownsRow B e size v n xs->e=223\/e=9\/e=292->w'.ownsRow B e size v n xs:=by
  intro e size v n xs E he;refine k.owns E (λi hi=>?_);obtain⟨D,G⟩:=bz E hi;exact F i D e G (E.lt i hi).1 he
 exact⟨own h.row (.inl rfl),λx hx=>own (h.nR x hx) (.inr (.inl rfl)),λx hx=>own (h.rJ x hx) (.inr (.inl rfl)),λx hx=>own (h.j_ x hx) (.inr (.inr rfl)),h.aE,h.aL,h.aX,h.aT⟩
theorem rK.au{w w':World}{B:Nat}{l:List NV}{v:Value}(h:rK w B l v)(k:Kp (λ_=>False) w w'):rK w' B l v:=h.az k (λ_ _ _ _ _ _ x=>x)
theorem rK.form{w:World}{B:Nat}{l:List NV}{v:Value}(h:rK w B l v){k:Nat}{x:NV}(hk:l[k]? =some x):
 ∃g cap,v= .slice (some ⟨g,0,none⟩) l.length cap/\B<=g/\(∀j,j<7->w.cell? ⟨g,k*7+j,none⟩=(mr x)[j]?)/\∀o,w.frozen? ⟨g,o,none⟩=false:=by
 have D:=(aJ.1 hk).1;obtain⟨g,cap,rfl⟩:=ij h.row (by omega);refine⟨g,cap,rfl,(h.row.lt g rfl).1,λj hj=>?_,λo=>h.row.frozenAt o⟩;rw[<-yI l k x hk j hj];exact h.row.cellAt (k*7+j) (by omega)
theorem rK.len{w:World}{B:Nat}{l:List NV}{v:Value}(h:rK w B l v):∃D cap,v= .slice D l.length cap:=bn h.row
theorem vy{w:World}{B:Nat}{e:TypeId}{size:Nat}{a:Option Addr}{D cap n:Nat}{xs:List Value}(h:w.ownsRow B e size (.slice a D cap) n xs):D=n:=by
 rcases h.2 with⟨h,F⟩|⟨g,c,E,h,_⟩
 ·simp_all
 simp_all
theorem rK.UY{w:World}{B g:Nat}{l:List NV}{D cap:Nat}(h:rK w B l (.slice (some ⟨g,0,none⟩) D cap)){k:Nat}{x y:NV}(hk:l[k]? =some x)(j:Nat)(E:j<7)(u:Value)(F:mr y=(mr x).set j u):
 (w.setCell ⟨g,k*7+j,none⟩ u).ownsRow B 223 7 (.slice (some ⟨g,0,none⟩) D cap) (l.set k y).length (ir (l.set k y)):=by
 obtain rfl:=vy h.row;have o:=(h.row.stored (k*7+j) u).1;grind[oZ]
theorem rK.vz(w:World)(g o:Nat)(u:Value):Kp (λi=>i=g) w (w.setCell ⟨g,o,none⟩ u):=(Kp.refl _ _).setCell (by intro _;rfl) _
theorem jV{l:List NV}{k:Nat}{y z:NV}(h:z∈l.set k y):z∈l\/z=y:=by
 grind
theorem rK.Cz{w:World}{B g:Nat}{l:List NV}{Z cap:Nat}(h:rK w B l (.slice (some ⟨g,0,none⟩) Z cap)){k:Nat}{x:NV}(hk:l[k]? =some x)(c:Int):
 rK (w.setCell ⟨g,k*7+1,none⟩ (.int .i64 c)) B (l.set k {x with n:={x.n with kind:=c}}) (.slice (some ⟨g,0,none⟩) Z cap):=by
 have ad:=(aJ.1 hk).1;have K:=rK.vz w g (k*7+1) (.int .i64 c)
 have X:∀{e size v n xs},w.ownsRow B e size v n xs->e≠223->∀i,v.ownBlock=some i->¬i=g:=by
  intro e size v n xs ho he i hi x;subst x;obtain⟨aa,hc⟩:=bz h.row (k:=i) rfl;grind[aZ]
 have U:=aM hk
 have get:∀(i:Nat) (z:NV),(l.set k {x with n:={x.n with kind:=c}})[i]? =some z->∃Y,l[i]? =some Y/\z.ev=Y.ev/\z.lv=Y.lv/\z.tv=Y.tv:=by
  grind
 refine⟨h.UY hk 1 (by omega) _ rfl,?_,?_,?_,?_,?_,?_,?_⟩
 ·intro z F
  rcases jV F with F|rfl
  ·exact K.owns (h.nR z F) (X (h.nR z F) (by decide))
  exact K.owns (h.nR x U) (X (h.nR x U) (by decide))
 ·intro z F
  rcases jV F with F|rfl
  ·exact K.owns (h.rJ z F) (X (h.rJ z F) (by decide))
  exact K.owns (h.rJ x U) (X (h.rJ x U) (by decide))
 ·intro z F
  rcases jV F with F|rfl
  ·exact K.owns (h.j_ z F) (X (h.j_ z F) (by decide))
  exact K.owns (h.j_ x U) (X (h.j_ x U) (by decide))
 ·intro i j a b G O hb
  obtain⟨I,D,e1,_,_⟩:=get i a O;obtain⟨J,E,e2,_,_⟩:=get j b hb;rw[e1,e2];exact h.aE i j I J G D E
 ·intro i j a b G O hb
  obtain⟨I,D,_,e1,_⟩:=get i a O;obtain⟨J,E,_,e2,_⟩:=get j b hb;rw[e1,e2];exact h.aL i j I J G D E
 ·intro i j a b O hb
  obtain⟨I,D,e1,_,_⟩:=get i a O;obtain⟨J,E,_,e2,_⟩:=get j b hb;rw[e1,e2];exact h.aX i j I J D E
 intro i j a b G O hb;obtain⟨I,D,_,_,e1⟩:=get i a O;obtain⟨J,E,_,_,e2⟩:=get j b hb;rw[e1,e2];exact h.aT i j I J G D E
theorem rK.push{w w':World}{B:Nat}{l:List NV}{v O:Value}(h:rK w B l v)(U:w.grownBy w' v.ownBlock){n:RN}(G:n.enter=[]/\n.cA=[]/\n.trans=[])
 (I:w'.ownsRow B 223 7 O (l.length+1) (ir l++mr ⟨n,.slice none 0 0,.slice none 0 0,.slice none 0 0⟩)):
 rK w' B (l++[⟨n,.slice none 0 0,.slice none 0 0,.slice none 0 0⟩]) O:=by
 have K:=(Kp.refl _ _).grown U (λi hi _=>hi)
 have J:∀{e size u n xs},w.ownsRow B e size u n xs->e≠223->∀i,u.ownBlock=some i->¬v.ownBlock=some i:=
  λI he i hi=>dp I h.row he i hi
 have get:∀(i:Nat) (z:NV),(l++[⟨n,.slice none 0 0,.slice none 0 0,.slice none 0 0⟩])[i]? =some z->l[i]? =some z\/(z.ev= .slice none 0 0/\z.lv= .slice none 0 0/\z.tv= .slice none 0 0):=by
  grind
 refine⟨by rw[Cx];simpa using I,?_,?_,?_,?_,?_,?_,?_⟩
 ·intro z D
  rcases cB.1 D with D|D
  ·exact K.owns (h.nR z D) (J (h.nR z D) (by decide))
  simp at D;subst D;simp only[G.1];exact bT _ _ _ _
 ·intro z D
  rcases cB.1 D with D|D
  ·exact K.owns (h.rJ z D) (J (h.rJ z D) (by decide))
  simp at D;subst D;simp only[G.2.1];exact bT _ _ _ _
 ·intro z D
  rcases cB.1 D with D|D
  ·exact K.owns (h.j_ z D) (J (h.j_ z D) (by decide))
  simp at D;subst D;simp only[G.2.2];exact bT _ _ _ _
 ·intro i j a b F E hb
  rcases get i a E with E|⟨e,_,_⟩
  ·rcases get j b hb with hb|⟨e,_,_⟩
   ·exact h.aE i j a b F E hb
   rw[e];exact(jU _).symm
  grind[jU]
 ·intro i j a b F E hb
  rcases get i a E with E|⟨_,e,_⟩
  ·rcases get j b hb with hb|⟨_,e,_⟩
   ·exact h.aL i j a b F E hb
   rw[e];exact(jU _).symm
  grind[jU]
 ·intro i j a b E hb
  rcases get i a E with E|⟨e,_,_⟩
  ·rcases get j b hb with hb|⟨_,e,_⟩
   ·exact h.aX i j a b E hb
   rw[e];exact(jU _).symm
  grind[jU]
 intro i j a b F E hb
 rcases get i a E with E|⟨_,_,e⟩
 ·rcases get j b hb with hb|⟨_,_,e⟩
  ·exact h.aT i j a b F E hb
  rw[e];exact(jU _).symm
 grind[jU]
theorem kX{w:World}{B:Nat}{e:TypeId}{size n:Nat}{v u:Value}{xs:List Value}{g F cap:Nat}(E:w.ownsRow B e size u n xs)(D:kQ v u)(hw:v.ownBlock=some g\/w.heap.size<=g):kQ (.slice (some ⟨g,0,none⟩) F cap) u:=by
 intro k hk hu;simp[Value.ownBlock]at hk;subst hk
 rcases hw with hw|hw
 ·exact D _ hw hu
 have:=(E.lt _ hu).2;omega
theorem rK.yJ{w Y:World}{B g:Nat}{l:List NV}{ln cap:Nat}(h:rK w B l (.slice (some ⟨g,0,none⟩) ln cap)){k:Nat}{x:NV}(hk:l[k]? =some x)(rt:RT){g1 U c1:Nat}
 (ho:Y.ownsRow B 292 2 (.slice (some ⟨g1,0,none⟩) U c1) (x.n.trans.length+1) (kF x.n.trans++[.string rt.text,.int .i64 rt.pos])) (hg:w.grownBy Y x.tv.ownBlock) (hw:x.tv.ownBlock=some g1\/w.heap.size<=g1):
 rK (Y.setCell ⟨g,k*7+6,none⟩ (.slice (some ⟨g1,0,none⟩) U c1)) B (l.set k {x with n:={x.n with trans:=x.n.trans++[rt]},tv:=.slice (some ⟨g1,0,none⟩) U c1}) (.slice (some ⟨g,0,none⟩) ln cap):=by
 have ad:=(aJ.1 hk).1;have hx:=aM hk;have K1:=(Kp.refl _ _).grown hg (λi hi _=>hi);have K:=rK.vz Y g (k*7+6) (.slice (some ⟨g1,0,none⟩) U c1);have Z:=h.j_ x hx;have DY:=K1.owns h.row (λi hi=>dp h.row Z (by decide) i hi)
 have ng:∀{e size v n xs},Y.ownsRow B e size v n xs->e≠223->∀i,v.ownBlock=some i->¬i=g:=by
  intro e size v n xs ho he i hi x;subst x;obtain⟨ao,hc⟩:=bz DY (k:=i) rfl;grind[aZ]
 have I:∀{e size v n xs},w.ownsRow B e size v n xs->e≠223->(∀i,v.ownBlock=some i->¬x.tv.ownBlock=some i)->(Y.setCell ⟨g,k*7+6,none⟩ (.slice (some ⟨g1,0,none⟩) U c1)).ownsRow B e size v n xs:=by
  intro e size v n xs ho he hn;have:=K1.owns ho hn;exact K.owns this (ng this he)
 have get:∀(i:Nat) (z:NV),(l.set k {x with n:={x.n with trans:=x.n.trans++[rt]},tv:=.slice (some ⟨g1,0,none⟩) U c1})[i]? =some z->∃z',l[i]? =some z'/\z.ev=z'.ev/\z.lv=z'.lv/\(k≠i/\z.tv=z'.tv\/k=i/\z'=x/\z.tv= .slice (some ⟨g1,0,none⟩) U c1):=by
  grind
 obtain rfl:=vy h.row;have sM:=(DY.stored (k*7+6) (.slice (some ⟨g1,0,none⟩) U c1)).1;rw[oZ l k x {x with n:={x.n with trans:=x.n.trans++[rt]},tv:=.slice (some ⟨g1,0,none⟩) U c1} hk 6 (by omega) _ rfl]at sM;refine⟨by simpa using sM,?_,?_,?_,?_,?_,?_,?_⟩
 ·intro z G
  rcases jV G with G|rfl
  ·exact I (h.nR z G) (by decide) (dp (h.nR z G) Z (by decide))
  exact I (h.nR x hx) (by decide) (dp (h.nR x hx) Z (by decide))
 ·intro z G
  rcases jV G with G|rfl
  ·exact I (h.rJ z G) (by decide) (dp (h.rJ z G) Z (by decide))
  exact I (h.rJ x hx) (by decide) (dp (h.rJ x hx) Z (by decide))
 ·intro z G
  obtain⟨i,hi⟩:=ie G
  by_cases e:k=i
  ·subst e;rw[jF ad]at hi;simp at hi;subst hi
   have:=K.owns ho (ng ho (by decide));grind[Cy]
  rw[ku e]at hi;have aj:=aM hi;exact I (h.j_ z aj) (by decide) (h.aT i k z x (iX e) hi hk)
 ·intro i j a b F X hb
  obtain⟨J,D,e1,_,_⟩:=get i a X;obtain⟨O,E,e2,_,_⟩:=get j b hb;rw[e1,e2];exact h.aE i j J O F D E
 ·intro i j a b F X hb
  obtain⟨J,D,_,e1,_⟩:=get i a X;obtain⟨O,E,_,e2,_⟩:=get j b hb;rw[e1,e2];exact h.aL i j J O F D E
 ·intro i j a b X hb
  obtain⟨J,D,e1,_,_⟩:=get i a X;obtain⟨O,E,_,e2,_⟩:=get j b hb;rw[e1,e2];exact h.aX i j J O D E
 intro i j a b F X hb;obtain⟨J,D,_,_,e1⟩:=get i a X;obtain⟨O,E,_,_,e2⟩:=get j b hb;have mb:=aM E;have ma:=aM D
 rcases e1 with⟨_,e1⟩|⟨am,rfl,e1⟩
 ·rcases e2 with⟨_,e2⟩|⟨aa,rfl,e2⟩
  ·rw[e1,e2];exact h.aT i j J O F D E
  rw[e1,e2];exact(kX (h.j_ J ma) (h.aT j i O J (iX F) E D) hw).symm
 rcases e2 with⟨_,e2⟩|⟨aa,rfl,e2⟩
 ·rw[e1,e2];exact kX (h.j_ O mb) (h.aT i j J O F D E) hw
 omega
theorem rK.yK{w Y:World}{B g:Nat}{l:List NV}{ln cap:Nat}(h:rK w B l (.slice (some ⟨g,0,none⟩) ln cap)){k:Nat}{x:NV}(hk:l[k]? =some x)(s:ByteArray){g1 O c1:Nat}
 (ho:Y.ownsRow B 9 1 (.slice (some ⟨g1,0,none⟩) O c1) (x.n.enter.length+1) (ly x.n.enter++[.string s])) (hg:w.grownBy Y x.ev.ownBlock) (hw:x.ev.ownBlock=some g1\/w.heap.size<=g1):
 rK (Y.setCell ⟨g,k*7+4,none⟩ (.slice (some ⟨g1,0,none⟩) O c1)) B (l.set k {x with n:={x.n with enter:=x.n.enter++[s]},ev:=.slice (some ⟨g1,0,none⟩) O c1}) (.slice (some ⟨g,0,none⟩) ln cap):=by
 have aa:=(aJ.1 hk).1;have hx:=aM hk;have K1:=(Kp.refl _ _).grown hg (λi hi _=>hi);have K:=rK.vz Y g (k*7+4) (.slice (some ⟨g1,0,none⟩) O c1);have hT:=h.nR x hx;have DY:=K1.owns h.row (λi hi=>dp h.row hT (by decide) i hi)
 have ng:∀{e size v n xs},Y.ownsRow B e size v n xs->e≠223->∀i,v.ownBlock=some i->¬i=g:=by
  intro e size v n xs ho he i hi x;subst x;obtain⟨ao,hc⟩:=bz DY (k:=i) rfl;grind[aZ]
 have J:∀{e size v n xs},w.ownsRow B e size v n xs->e≠223->(∀i,v.ownBlock=some i->¬x.ev.ownBlock=some i)->(Y.setCell ⟨g,k*7+4,none⟩ (.slice (some ⟨g1,0,none⟩) O c1)).ownsRow B e size v n xs:=by
  intro e size v n xs ho he hn;have:=K1.owns ho hn;exact K.owns this (ng this he)
 have get:∀(i:Nat) (z:NV),(l.set k {x with n:={x.n with enter:=x.n.enter++[s]},ev:=.slice (some ⟨g1,0,none⟩) O c1})[i]? =some z->∃Z,l[i]? =some Z/\z.tv=Z.tv/\z.lv=Z.lv/\(k≠i/\z.ev=Z.ev\/k=i/\Z=x/\z.ev= .slice (some ⟨g1,0,none⟩) O c1):=by
  grind
 obtain rfl:=vy h.row;have sM:=(DY.stored (k*7+4) (.slice (some ⟨g1,0,none⟩) O c1)).1;rw[oZ l k x {x with n:={x.n with enter:=x.n.enter++[s]},ev:=.slice (some ⟨g1,0,none⟩) O c1} hk 4 (by omega) _ rfl]at sM;refine⟨by simpa using sM,?_,?_,?_,?_,?_,?_,?_⟩
 ·intro z U
  obtain⟨i,hi⟩:=ie U
  by_cases e:k=i
  ·subst e;rw[jF aa]at hi;simp at hi;subst hi
   have:=K.owns ho (ng ho (by decide));grind[xd]
  rw[ku e]at hi;have ad:=aM hi;exact J (h.nR z ad) (by decide) (h.aE i k z x (iX e) hi hk)
 ·intro z U
  obtain⟨i,hi⟩:=ie U;obtain⟨Z,ad,_,e1,_⟩:=get i z hi
  by_cases e:k=i
  ·subst e;rw[jF aa]at hi;simp at hi;subst hi
   exact J (h.rJ x hx) (by decide) (h.aX k k x x hk hk).symm
  rw[ku e]at hi;exact J (h.rJ z (aM hi)) (by decide) (h.aX k i x z hk hi).symm
 ·intro z U
  rcases jV U with U|rfl
  ·exact J (h.j_ z U) (by decide) (dp (h.j_ z U) hT (by decide))
  exact J (h.j_ x hx) (by decide) (dp (h.j_ x hx) hT (by decide))
 ·intro i j a b F X hb
  obtain⟨I,E,_,_,e1⟩:=get i a X;obtain⟨G,D,_,_,e2⟩:=get j b hb;have mb:=aM D;have ma:=aM E
  rcases e1 with⟨_,e1⟩|⟨aj,rfl,e1⟩
  ·rcases e2 with⟨_,e2⟩|⟨am,rfl,e2⟩
   ·rw[e1,e2];exact h.aE i j I G F E D
   rw[e1,e2];exact(kX (h.nR I ma) (h.aE j i G I (iX F) D E) hw).symm
  rcases e2 with⟨_,e2⟩|⟨am,rfl,e2⟩
  ·rw[e1,e2];exact kX (h.nR G mb) (h.aE i j I G F E D) hw
  omega
 ·intro i j a b F X hb
  obtain⟨I,E,_,e1,_⟩:=get i a X;obtain⟨G,D,_,e2,_⟩:=get j b hb;rw[e1,e2];exact h.aL i j I G F E D
 ·intro i j a b X hb
  obtain⟨I,E,_,_,e1⟩:=get i a X;obtain⟨G,D,_,e2,_⟩:=get j b hb;have mb:=aM D
  rcases e1 with⟨_,e1⟩|⟨aj,rfl,e1⟩
  ·rw[e1,e2];exact h.aX i j I G E D
  rw[e1,e2];exact kX (h.rJ G mb) (h.aX i j I G E D) hw
 intro i j a b F X hb;obtain⟨I,E,e1,_,_⟩:=get i a X;obtain⟨G,D,e2,_,_⟩:=get j b hb;rw[e1,e2];exact h.aT i j I G F E D
theorem rK.yL{w Y:World}{B g:Nat}{l:List NV}{ln cap:Nat}(h:rK w B l (.slice (some ⟨g,0,none⟩) ln cap)){k:Nat}{x:NV}(hk:l[k]? =some x)(s:ByteArray){g1 O c1:Nat}
 (ho:Y.ownsRow B 9 1 (.slice (some ⟨g1,0,none⟩) O c1) (x.n.cA.length+1) (ly x.n.cA++[.string s])) (hg:w.grownBy Y x.lv.ownBlock) (hw:x.lv.ownBlock=some g1\/w.heap.size<=g1):
 rK (Y.setCell ⟨g,k*7+5,none⟩ (.slice (some ⟨g1,0,none⟩) O c1)) B (l.set k {x with n:={x.n with cA:=x.n.cA++[s]},lv:=.slice (some ⟨g1,0,none⟩) O c1}) (.slice (some ⟨g,0,none⟩) ln cap):=by
 have Z:=(aJ.1 hk).1;have hx:=aM hk;have K1:=(Kp.refl _ _).grown hg (λi hi _=>hi);have K:=rK.vz Y g (k*7+5) (.slice (some ⟨g1,0,none⟩) O c1);have hT:=h.rJ x hx;have DY:=K1.owns h.row (λi hi=>dp h.row hT (by decide) i hi)
 have ng:∀{e size v n xs},Y.ownsRow B e size v n xs->e≠223->∀i,v.ownBlock=some i->¬i=g:=by
  intro e size v n xs ho he i hi x;subst x;obtain⟨am,hc⟩:=bz DY (k:=i) rfl;grind[aZ]
 have J:∀{e size v n xs},w.ownsRow B e size v n xs->e≠223->(∀i,v.ownBlock=some i->¬x.lv.ownBlock=some i)->(Y.setCell ⟨g,k*7+5,none⟩ (.slice (some ⟨g1,0,none⟩) O c1)).ownsRow B e size v n xs:=by
  intro e size v n xs ho he hn;have:=K1.owns ho hn;exact K.owns this (ng this he)
 have get:∀(i:Nat) (z:NV),(l.set k {x with n:={x.n with cA:=x.n.cA++[s]},lv:=.slice (some ⟨g1,0,none⟩) O c1})[i]? =some z->∃z',l[i]? =some z'/\z.tv=z'.tv/\z.ev=z'.ev/\(k≠i/\z.lv=z'.lv\/k=i/\z'=x/\z.lv= .slice (some ⟨g1,0,none⟩) O c1):=by
  grind
 obtain rfl:=vy h.row;have sM:=(DY.stored (k*7+5) (.slice (some ⟨g1,0,none⟩) O c1)).1;rw[oZ l k x {x with n:={x.n with cA:=x.n.cA++[s]},lv:=.slice (some ⟨g1,0,none⟩) O c1} hk 5 (by omega) _ rfl]at sM;refine⟨by simpa using sM,?_,?_,?_,?_,?_,?_,?_⟩
 ·intro z U
  obtain⟨i,hi⟩:=ie U
  by_cases e:k=i
  ·subst e;rw[jF Z]at hi;simp at hi;subst hi
   exact J (h.nR x hx) (by decide) (h.aX k k x x hk hk)
  rw[ku e]at hi;exact J (h.nR z (aM hi)) (by decide) (h.aX i k z x hi hk)
 ·intro z U
  obtain⟨i,hi⟩:=ie U
  by_cases e:k=i
  ·subst e;rw[jF Z]at hi;simp at hi;subst hi
   have:=K.owns ho (ng ho (by decide));grind[xd]
  rw[ku e]at hi;have aj:=aM hi;exact J (h.rJ z aj) (by decide) (h.aL i k z x (iX e) hi hk)
 ·intro z U
  rcases jV U with U|rfl
  ·exact J (h.j_ z U) (by decide) (dp (h.j_ z U) hT (by decide))
  exact J (h.j_ x hx) (by decide) (dp (h.j_ x hx) hT (by decide))
 ·intro i j a b F X hb
  obtain⟨G,D,_,e1,_⟩:=get i a X;obtain⟨I,E,_,e2,_⟩:=get j b hb;rw[e1,e2];exact h.aE i j G I F D E
 ·intro i j a b F X hb
  obtain⟨G,D,_,_,e1⟩:=get i a X;obtain⟨I,E,_,_,e2⟩:=get j b hb;have mb:=aM E;have ma:=aM D
  rcases e1 with⟨_,e1⟩|⟨aa,rfl,e1⟩
  ·rcases e2 with⟨_,e2⟩|⟨ad,rfl,e2⟩
   ·rw[e1,e2];exact h.aL i j G I F D E
   rw[e1,e2];exact(kX (h.rJ G ma) (h.aL j i I G (iX F) E D) hw).symm
  rcases e2 with⟨_,e2⟩|⟨ad,rfl,e2⟩
  ·rw[e1,e2];exact kX (h.rJ I mb) (h.aL i j G I F D E) hw
  omega
 ·intro i j a b X hb
  obtain⟨G,D,_,e1,_⟩:=get i a X;obtain⟨I,E,_,_,e2⟩:=get j b hb;have ma:=aM D
  rcases e2 with⟨_,e2⟩|⟨aa,rfl,e2⟩
  ·rw[e1,e2];exact h.aX i j G I D E
  rw[e1,e2];exact(kX (h.nR G ma) (h.aX i j G I D E).symm hw).symm
 intro i j a b F X hb;obtain⟨G,D,e1,_,_⟩:=get i a X;obtain⟨I,E,e2,_,_⟩:=get j b hb;rw[e1,e2];exact h.aT i j G I F D E
def jW(w:World)(B cb:Nat)(l:List NV)(v:Value):Prop:=w.heap[cb]? =some (.cells #[v] 219 (0,0))/\rK w B l v/\B<=cb
section
variable {w w':World} {B cb:Nat} {l:List NV} {v:Value}
theorem jW.cell(h:jW w B cb l v):w.cell? ⟨cb,0,none⟩=some v:=by rw[World.cell?,h.1];rfl
theorem jW.free(h:jW w B cb l v)(i:Nat):w.frozen? ⟨cb,i,none⟩=false:=by simp[World.frozen?,h.1]
theorem jW.au(h:jW w B cb l v)(k:Kp (λ_=>False) w w'):jW w' B cb l v:=⟨k.at_ h.1 (λx=>x),h.2.1.au k,h.2.2⟩
theorem jW.low(h:jW w B cb l v):B<=w.heap.size:=by have:=aR h.1;have:=h.2.2;omega
theorem jW.oD{S:Nat->Prop}(h:jW w B cb l v)(k:Kp S w w')(E:∀i D T,w.heap[i]? =some (.cells D T (0,0))->B<=i->T=223\/T=9\/T=292\/T=219->¬S i):jW w' B cb l v:=
 ⟨k.at_ h.1 (E cb _ _ h.1 h.2.2 (.inr (.inr (.inr rfl)))),h.2.1.az k (λi D T hi hb hT=>E i D T hi hb (by rcases hT with h|h|h;exact .inl h;exact .inr (.inl h);exact .inr (.inr (.inl h)))),h.2.2⟩
theorem jW.ne(h:jW w B cb l v):v.ownBlock≠some cb:=aZ h.2.1.row h.1 (by decide)
theorem jW.Cz{g D cap:Nat}(h:jW w B cb l (.slice (some ⟨g,0,none⟩) D cap)){k:Nat}{x:NV}(hk:l[k]? =some x)(c:Int):
 jW (w.setCell ⟨g,k*7+1,none⟩ (.int .i64 c)) B cb (l.set k {x with n:={x.n with kind:=c}}) (.slice (some ⟨g,0,none⟩) D cap):=
 ⟨(rK.vz w g (k*7+1) (.int .i64 c)).at_ h.1 (λe=>h.ne (by simp[Value.ownBlock,e])),h.2.1.Cz hk c,h.2.2⟩
theorem jW.push{D:Value}(h:jW w B cb l v)(E:w.grownBy w' v.ownBlock){n:RN}(G:n.enter=[]/\n.cA=[]/\n.trans=[])
 (I:w'.ownsRow B 223 7 D (l.length+1) (ir l++mr ⟨n,.slice none 0 0,.slice none 0 0,.slice none 0 0⟩)):
 jW (w'.setCell ⟨cb,0,none⟩ D) B cb (l++[⟨n,.slice none 0 0,.slice none 0 0,.slice none 0 0⟩]) D:=by
 have K:=(Kp.refl _ _).grown E (λi hi _=>hi);have F:=K.at_ h.1 h.ne;refine⟨by rw[ak _ F];rfl,(h.2.1.push E G I).az (rK.vz w' cb 0 D) (λi cur T hi _ hT e=>?_),h.2.2⟩;grind
theorem jW.yJ{D:World}{g G cap:Nat}(h:jW w B cb l (.slice (some ⟨g,0,none⟩) G cap)){k:Nat}{x:NV}(hk:l[k]? =some x)(rt:RT){g1 E c1:Nat}
 (J:D.ownsRow B 292 2 (.slice (some ⟨g1,0,none⟩) E c1) (x.n.trans.length+1) (kF x.n.trans++[.string rt.text,.int .i64 rt.pos])) (F:w.grownBy D x.tv.ownBlock) (hw:x.tv.ownBlock=some g1\/w.heap.size<=g1):
 jW (D.setCell ⟨g,k*7+6,none⟩ (.slice (some ⟨g1,0,none⟩) E c1)) B cb (l.set k {x with n:={x.n with trans:=x.n.trans++[rt]},tv:=.slice (some ⟨g1,0,none⟩) E c1}) (.slice (some ⟨g,0,none⟩) G cap):=by
 have K:=(Kp.refl _ _).grown F (λi hi _=>hi);have I:=K.at_ h.1 (aZ (h.2.1.j_ x (aM hk)) h.1 (by decide));exact⟨(rK.vz D g (k*7+6) _).at_ I (λe=>h.ne (by simp[Value.ownBlock,e])),h.2.1.yJ hk rt J F hw,h.2.2⟩
theorem jW.yK{D:World}{g G cap:Nat}(h:jW w B cb l (.slice (some ⟨g,0,none⟩) G cap)){k:Nat}{x:NV}(hk:l[k]? =some x)(s:ByteArray){g1 E c1:Nat}
 (J:D.ownsRow B 9 1 (.slice (some ⟨g1,0,none⟩) E c1) (x.n.enter.length+1) (ly x.n.enter++[.string s])) (F:w.grownBy D x.ev.ownBlock) (hw:x.ev.ownBlock=some g1\/w.heap.size<=g1):
 jW (D.setCell ⟨g,k*7+4,none⟩ (.slice (some ⟨g1,0,none⟩) E c1)) B cb (l.set k {x with n:={x.n with enter:=x.n.enter++[s]},ev:=.slice (some ⟨g1,0,none⟩) E c1}) (.slice (some ⟨g,0,none⟩) G cap):=by
 have K:=(Kp.refl _ _).grown F (λi hi _=>hi);have I:=K.at_ h.1 (aZ (h.2.1.nR x (aM hk)) h.1 (by decide));exact⟨(rK.vz D g (k*7+4) _).at_ I (λe=>h.ne (by simp[Value.ownBlock,e])),h.2.1.yK hk s J F hw,h.2.2⟩
theorem jW.yL{D:World}{g G cap:Nat}(h:jW w B cb l (.slice (some ⟨g,0,none⟩) G cap)){k:Nat}{x:NV}(hk:l[k]? =some x)(s:ByteArray){g1 E c1:Nat}
 (J:D.ownsRow B 9 1 (.slice (some ⟨g1,0,none⟩) E c1) (x.n.cA.length+1) (ly x.n.cA++[.string s])) (F:w.grownBy D x.lv.ownBlock) (hw:x.lv.ownBlock=some g1\/w.heap.size<=g1):
 jW (D.setCell ⟨g,k*7+5,none⟩ (.slice (some ⟨g1,0,none⟩) E c1)) B cb (l.set k {x with n:={x.n with cA:=x.n.cA++[s]},lv:=.slice (some ⟨g1,0,none⟩) E c1}) (.slice (some ⟨g,0,none⟩) G cap):=by
 have K:=(Kp.refl _ _).grown F (λi hi _=>hi);have I:=K.at_ h.1 (aZ (h.2.1.rJ x (aM hk)) h.1 (by decide));exact⟨(rK.vz D g (k*7+5) _).at_ I (λe=>h.ne (by simp[Value.ownBlock,e])),h.2.1.yL hk s J F hw,h.2.2⟩
end
theorem RH:(prog.info? 223).map (λi=>(i.zero,i.size,i.bytes))=some (some (.agg #[.int .u8 0,.int .i64 0,.int .i64 0,.int .i64 0,.slice none 0 0,.slice none 0 0,.slice none 0 0]),7,104):=by kernel_rfl
theorem RI:(prog.info? 292).map (λi=>(i.zero,i.size,i.bytes))=some (some (.agg #[.string ⟨#[]⟩,.int .i64 0]),2,24):=by kernel_rfl
theorem RJ:(prog.info? 9).map (λi=>(i.zero,i.size,i.bytes))=some (some (.string ⟨#[]⟩),1,16):=by kernel_rfl
namespace Ch
def mk(l:List NV):List RN:=l.map (·.n)
theorem yM{l:List NV}{i:Int}{n:RN}(h:uV (mk l) i=some n):∃(k:Nat) (x:NV),i=k/\l[k]? =some x/\x.n=n/\k<l.length:=by
 grind[jT,mk]
theorem CA{l:List NV}{k:Nat}{x y:NV}{f:RN->RN}(hk:l[k]? =some x)(E:y.n=f x.n):mk (l.set k y)=ny (mk l) (k:Int) f:=by
 have D:=(aJ.1 hk).1;apply eL;grind[iq,mk]
theorem im.open{t:ByteArray}{k:Nat}{up:Int}{L D:List RN}(h:im t k up L D)(hk:k<t.size)(F:dz (ag t k)=true):
 k+1<t.size/\(up<0\/(uV L up).isSome=true)/\im t ((if ag t k==60 then k+2 else k+1)+1) (if ag t k==60||ag t k==42 then up else(L.length:Int)) (iD L up++[⟨ag t (k+1),eH (ag t k),up,(k:Int)+1,[],[],[]⟩]) D:=by
 rcases h.inv with⟨h,rfl⟩|⟨_,_,_,_,dE,E⟩
 ·omega
 grind[mn]
theorem im.close{t:ByteArray}{k:Nat}{up:Int}{L D:List RN}(h:im t k up L D)(hk:k<t.size)(E:(ag t k==41||ag t k==93)=true):
 ∃n,uV L up=some n/\im t (k+1) n.parent L D:=by
 have F:dz (ag t k)=false:=by
  rcases(by simpa using E:ag t k=41\/ag t k=93)with e|e<;>rw[e]<;>decide
 rcases h.inv with⟨h,rfl⟩|⟨_,_,_,_,dE,G⟩
 ·omega
 grind[mn,uV]
theorem im.Xh{t:ByteArray}{k:Nat}{up:Int}{L D:List RN}(h:im t k up L D)(hk:k<t.size)(G:ag t k=58):
 ∃n,uV L up=some n/\k+2<t.size/\gS t (k+1)+1<=t.size/\k+1<=gS t (k+1)+1/\im t (gS t (k+1)+1) up (ny L up λn=>{n with trans:=n.trans++[⟨t.extract (k+1) (gS t (k+1)+1),(k:Int)+1⟩]}) D:=by
 rcases h.inv with⟨h,rfl⟩|⟨_,_,_,_,dE,I⟩
 ·omega
 unfold mn at dE;simp only[G,show dz 58=false by decide,show((58:Int)==41||(58:Int)==93)=false by decide,show((58:Int)==58)=true by decide,bp,bj,aV]at dE
 split at dE
 ·rename_i E
  simp only[bq,l9]at dE;obtain⟨rfl,rfl,rfl⟩:=dE;obtain⟨n,F⟩:=Option.isSome_iff_exists.1 E.2.2.2;simp_all
 simp_all
theorem im.bO{t:ByteArray}{k:Nat}{up:Int}{L D:List RN}(h:im t k up L D)(hk:k<t.size)(F:(ag t k==94||ag t k==36)=true):
 ∃n,uV L up=some n/\k+1<=iz t k 59/\im t (iz t k 59+1) up (ny L up λn=>if ag t k==94 then {n with enter:=n.enter++[t.extract (k+1) (iz t k 59)]}else {n with cA:=n.cA++[t.extract (k+1) (iz t k 59)]}) D:=by
 have E:dz (ag t k)=false/\(ag t k==41||ag t k==93)=false/\(ag t k==58)=false:=by
  rcases(by simpa using F:ag t k=94\/ag t k=36)with e|e<;>rw[e]<;>decide
 rcases h.inv with⟨h,rfl⟩|⟨_,_,_,_,dE,J⟩
 ·omega
 unfold mn at dE;simp only[E.1,E.2.1,E.2.2,F,bp,bj,aV]at dE
 split at dE
 ·rename_i G
  simp only[bq,l9]at dE;obtain⟨rfl,rfl,rfl⟩:=dE;obtain⟨n,I⟩:=Option.isSome_iff_exists.1 G.2;simp_all
 simp_all
theorem im.other{t:ByteArray}{k:Nat}{up:Int}{L D:List RN}(h:im t k up L D)(hk:k<t.size)(E:dz (ag t k)=false)(F:(ag t k==41||ag t k==93)=false)(G:(ag t k==58)=false)(I:(ag t k==94||ag t k==36)=false):
 im t (k+1) up L D:=by
 rcases h.inv with⟨h,rfl⟩|⟨_,_,_,_,dE,J⟩
 ·omega
 grind[mn]
theorem im.end_{t:ByteArray}{k:Nat}{up:Int}{L D:List RN}(h:im t k up L D)(hk:t.size<=k):D=L:=by
 rcases h.inv with⟨_,rfl⟩|⟨h,_⟩
 ·rfl
 omega
end Ch
def wE(w:World)(B b:Nat)(k:Wk):Prop:=∃v,w.heap[b]? =some (.cells #[.int .i64 k.mode,v,.int .u8 k.close] 289 (0,0))/\dh w B v (aD k.open_)
theorem wE.close{w:World}{B b:Nat}{k:Wk}(h:wE w B b k):w.cell? ⟨b,2,none⟩=some (.int .u8 k.close):=by
 obtain⟨v,h,_⟩:=h;rw[World.cell?,h];rfl
section
variable (w:World) (B b:Nat)
theorem OE(k:Wk)(c:Int)(h:wE w B b k):
 Calls prog 263 #[.pointer (some ⟨b,0,none⟩),.int .u8 c] w λx w'=>x= .returned (.int .i64 (xD k c))/\w'=w:=by
 have z:=h.close;clear h;unfold xD
 cases D:c==33<;>cases E:c==126<;>cases F:c==35<;>cases G:c==64<;>cases I:c==43<;>cases J:c==45<;>cases O:c==61<;>cases X:c !=k.close<;>cases U:c==62<;>
  first
   |(exfalso;simp at D E F G I J O U;omega)
   |(go_enter func263,ntmps263
     go_wp2;go_ret
     exact⟨rfl,rfl⟩)
end
theorem wE.mode{w:World}{B b:Nat}{k:Wk}(h:wE w B b k):w.cell? ⟨b,0,none⟩=some (.int .i64 k.mode):=by
 obtain⟨v,h,_⟩:=h;rw[World.cell?,h];rfl
theorem wE.free{w:World}{B b:Nat}{k:Wk}(h:wE w B b k)(i:Nat):w.frozen? ⟨b,i,none⟩=false:=by
 obtain⟨v,h,_⟩:=h;simp[World.frozen?,h]
theorem wE.lt{w:World}{B b:Nat}{k:Wk}(h:wE w B b k):b<w.heap.size:=by
 obtain⟨v,h,_⟩:=h;exact aR h
theorem wE.yc{w:World}{B b:Nat}{k:Wk}(h:wE w B b k)(c:Int):wE (w.setCell ⟨b,2,none⟩ (.int .u8 c)) B b {k with close:=c}:=by
 obtain⟨v,h,q⟩:=h;have ne:=q.ne h (by decide);refine⟨v,by rw[ak _ h];rfl,q.az (S:=λi=>i=b) ((Kp.refl _ _).setCell (by intro _;rfl) _) (λi hi x=>by subst x;exact ne hi)⟩
theorem wE.Xi{w:World}{B b:Nat}{k:Wk}(h:wE w B b k)(c:Int):wE (w.setCell ⟨b,0,none⟩ (.int .i64 c)) B b {k with mode:=c}:=by
 obtain⟨v,h,q⟩:=h;have ne:=q.ne h (by decide);refine⟨v,by rw[ak _ h];rfl,q.az (S:=λi=>i=b) ((Kp.refl _ _).setCell (by intro _;rfl) _) (λi hi x=>by subst x;exact ne hi)⟩
theorem wE.drewN{w:World}{B b:Nat}{k:Wk}(h:wE w B b k)(n:Nat):wE (w.drewN n) B b k:=h
section
variable (w:World)
theorem ru(b lo hi:Int):
 Calls prog 238 #[.int .u8 b,.int .u8 lo,.int .u8 hi] w λx w'=>x= .returned (.bool (mC b lo hi))/\w'=w:=by
 unfold mC
 cases D:decide (lo<=b)<;>cases E:decide (b<=hi)<;>
  (go_enter func238,ntmps238
   go_wp2;go_ret
   exact⟨rfl,rfl⟩)
theorem fU(ok:Bool)(n:Int):
 Calls prog 262 #[.bool ok,.int .i64 n] w λx w'=>x= .returned (.int .i64 (fK ok n))/\w'=w:=by
 cases ok<;>
  (go_enter func262,ntmps262
   go_wp2;go_ret
   exact⟨rfl,rfl⟩)
end
section
variable (w:World) (B b:Nat)
theorem wE.TH{w D:World}{B b:Nat}{k:Wk}{v:Value}{T:TypeId}(E:w.heap[b]? =some (.cells #[.int .i64 k.mode,v,.int .u8 k.close] T (0,0)))(F:T≠5)(q:dh w B v (aD k.open_))(g3:Kp (λi=>v.ownBlock=some i) w D):
 D.heap[b]? =some (.cells #[.int .i64 k.mode,v,.int .u8 k.close] T (0,0))/\Kp (λi=>B<=i) w D:=
 ⟨g3.at_ E (q.ne E F),(Kp.refl _ _).trans' g3 (λi _ x=>(q.lt i x).1)⟩
theorem dh.pop{w:World}{B:Nat}{g D n cap:Nat}{l:List Int}{d:Int}(h:dh w B (.slice (some ⟨g,D,none⟩) n cap) (aD (l++[d]))):dh w B (.slice (some ⟨g,D,none⟩) l.length cap) (aD l)/\w.cell? ⟨g,D+l.length,none⟩=some (.int .u8 d):=by
 rcases h with⟨h,_⟩|⟨O,I,F,E,h,hb,G,X,hs,J⟩
 ·simp_all
 simp only[aK,bq,dH,dx]at h;obtain⟨⟨rfl,rfl⟩,rfl,rfl⟩:=h
 have U:(aD (l++[d])).length=l.length+1:=by simp[aD]
 refine⟨.inr ⟨g,D,cap,E,by simp[aD],hb,G,by simp[aD];omega,hs,λj u hu=>J j u ?_⟩,?_⟩
 ·grind[eN]
 rw[lh w g _ E _ _ G];grind[eN,aD]
theorem Ch.Bn(km D c d:Int)(o:List Int)(E:(c==40)=false)(F:(c==91)=false)(G:(c==60)=false)(I:(c==42)=false)(J:(c==58)=false)(O:(c==94)=false)(U:(c==36)=false)(X:(c !=d)=false):
 fj ⟨km,o++[d],D⟩ c=(if o.length==0 then 18 else 5,⟨km,o,D⟩):=by
 grind[fj]
theorem Lq(k:Wk)(c:Int)(h:wE w B b k)(hb:B<=b)(hl:k.open_.length<=1000):
 Calls prog 261 #[.pointer (some ⟨b,0,none⟩),.int .u8 c] w λx w'=>x= .returned (.int .i64 (fj k c).1)/\wE w' B b (fj k c).2/\Kp (λi=>B<=i) w w':=by
 have a0:=h.lt;obtain⟨km,E,D⟩:=k;have X:=h.yc 59;have fz:=h.free;have HW:=af h;obtain⟨v,O,q⟩:=h
 change dh w B v (aD E)at q
 change E.length<=1000 at hl
 have z1:w.cell? ⟨b,1,none⟩=some v:=by rw[World.cell?,O];rfl
 have z2:w.cell? ⟨b,2,none⟩=some (.int .u8 D):=by rw[World.cell?,O];rfl
 have Z:=af O;clear O
 by_cases c1:c=40
 ·subst c1
  rw[show fj ⟨km,E,D⟩ 40=(1,⟨km,E++[41],D⟩)by simp[fj]]
  go_enter func261,ntmps261
  go_wp2_with (at_builtin;refine fZ rfl (.tmp 13) (.tmp 14) rfl rfl (q.alloc _) ⟨w.heap.size,0,none⟩ 1 1 [.int .u8 41] rfl rfl (by decide) (by exact fy _ _ _) (by intro u hu;simp at hu;subst hu;rfl) (by simp[aD];omega) (by simp;omega) ?_)
  intro ga oa ca w3 G g3 aa;have KG:=((Kp.refl _ _).alloc _).grown g3 (λi hi _=>hi);obtain⟨F,I⟩:=wE.TH (k:=⟨km,E,D⟩) Z.out (by decide) q KG
  have am:w3.cell? ⟨b,1,none⟩=some v:=by rw[World.cell?,F];rfl
  have f13:w3.frozen? ⟨b,1,none⟩=false:=by simp[World.frozen?,F]
  have HH:=af (ae F (ae G I));clear Z KG G g3 aa F I z1 z2 q fz X HW;go_wp2;go_ret;obtain⟨F,G,I⟩:=HH.out;refine⟨rfl,⟨_,by rw[ak _ F];rfl,?_⟩,I.setCell (p:=⟨b,1,none⟩) (λ_=>hb) _⟩;rw[eN];exact G.az (S:=λi=>i=b) ((Kp.refl _ _).setCell (by intro _;rfl) _) (λi hi x=>by subst x;exact G.ne F (by decide) hi)
 by_cases c2:c=91
 ·subst c2
  rw[show fj ⟨km,E,D⟩ 91=(1,⟨km,E++[93],D⟩)by simp[fj]]
  go_enter func261,ntmps261
  go_wp2_with (at_builtin;refine fZ rfl (.tmp 24) (.tmp 25) rfl rfl (q.alloc _) ⟨w.heap.size,0,none⟩ 1 1 [.int .u8 93] rfl rfl (by decide) (by exact fy _ _ _) (by intro u hu;simp at hu;subst hu;rfl) (by simp[aD];omega) (by simp;omega) ?_)
  intro ga oa ca w3 G g3 aa;have KG:=((Kp.refl _ _).alloc _).grown g3 (λi hi _=>hi);obtain⟨F,I⟩:=wE.TH (k:=⟨km,E,D⟩) Z.out (by decide) q KG
  have am:w3.cell? ⟨b,1,none⟩=some v:=by rw[World.cell?,F];rfl
  have f13:w3.frozen? ⟨b,1,none⟩=false:=by simp[World.frozen?,F]
  have HH:=af (ae F (ae G I));clear Z KG G g3 aa F I z1 z2 q fz X HW;go_wp2;go_ret;obtain⟨F,G,I⟩:=HH.out;refine⟨rfl,⟨_,by rw[ak _ F];rfl,?_⟩,I.setCell (p:=⟨b,1,none⟩) (λ_=>hb) _⟩;rw[eN];exact G.az (S:=λi=>i=b) ((Kp.refl _ _).setCell (by intro _;rfl) _) (λi hi x=>by subst x;exact G.ne F (by decide) hi)
 by_cases c3:c=60
 ·subst c3
  rw[show fj ⟨km,E,D⟩ 60=(2,⟨km,E,D⟩)by simp[fj]]
  go_enter func261,ntmps261
  go_wp2;go_ret;exact⟨rfl,HW.out,Kp.refl _ _⟩
 by_cases c4:c=42
 ·subst c4
  rw[show fj ⟨km,E,D⟩ 42=(4,⟨km,E,D⟩)by simp[fj]]
  go_enter func261,ntmps261
  go_wp2;go_ret;exact⟨rfl,HW.out,Kp.refl _ _⟩
 by_cases c5:c=58
 ·subst c5
  rw[show fj ⟨km,E,D⟩ 58=(6,⟨km,E,D⟩)by simp[fj]]
  go_enter func261,ntmps261
  go_wp2;go_ret;exact⟨rfl,HW.out,Kp.refl _ _⟩
 by_cases c6:c=94
 ·subst c6
  rw[show fj ⟨km,E,D⟩ 94=(11,⟨km,E,59⟩)by simp[fj]];have HS:=af X;clear X;have f2:=fz 2
  go_enter func261,ntmps261
  go_wp2;go_ret;exact⟨rfl,HS.out,(Kp.refl _ _).setCell (p:=⟨b,2,none⟩) (λ_=>hb) _⟩
 by_cases c7:c=36
 ·subst c7
  rw[show fj ⟨km,E,D⟩ 36=(11,⟨km,E,59⟩)by simp[fj]];have HS:=af X;clear X;have f2:=fz 2
  go_enter func261,ntmps261
  go_wp2;go_ret;exact⟨rfl,HS.out,(Kp.refl _ _).setCell (p:=⟨b,2,none⟩) (λ_=>hb) _⟩
 have b1:(c==40)=false:=by simpa using c1
 have b2:(c==91)=false:=by simpa using c2
 have b3:(c==60)=false:=by simpa using c3
 have b4:(c==42)=false:=by simpa using c4
 have b5:(c==58)=false:=by simpa using c5
 have b6:(c==94)=false:=by simpa using c6
 have b7:(c==36)=false:=by simpa using c7
 clear c1 c2 c3 c4 c5 c6 c7
 rcases List.eq_nil_or_concat E with rfl|⟨o,d,rfl⟩
 ·rw[show fj ⟨km,[],D⟩ c=(-1,⟨km,[],D⟩)by simp[fj,b1,b2,b3,b4,b5,b6,b7]]
  obtain⟨ao,cap,rfl⟩:=q.len;rw[show((aD []).length:Nat)=0 from rfl]at z1;clear X
  go_enter func261,ntmps261
  go_wp2;go_ret;exact⟨rfl,HW.out,Kp.refl _ _⟩
 rw[List.concat_eq_append]at*
 have a1:o.length<=999:=by simp at hl;omega
 have Y:(aD (o++[d])).length=o.length+1:=by simp[aD]
 obtain⟨g,U,cap,rfl⟩:∃g U cap,v= .slice (some ⟨g,U,none⟩) (o.length+1) cap:=by
  rcases q with⟨_,hn⟩|⟨g,U,cap,ad,O,_⟩
  ·simp[aD]at hn
  exact⟨g,U,cap,by rw[O,Y]⟩
 obtain⟨qp,cz⟩:=q.pop;have J:=q.ne Z.out (by decide)
 have aI:o.length+1<=cap:=by
  rcases q with⟨hn,_⟩|⟨g',aO,ap,ad,O,_,_,hc,_⟩
  ·simp at hn
  simp only[aK]at O;rw[O.2.2];simp[aD]at hc;exact hc
 clear X hl Y q
 cases qd:c !=d with
 |true=>
  have aj:(((o.length:Int)+1)==0)=false:=by simp;omega
  rw[show fj ⟨km,o++[d],D⟩ c=(-1,⟨km,o++[d],D⟩)by simp at qd;simp[fj,b1,b2,b3,b4,b5,b6,b7,qd]]
  go_enter func261,ntmps261
  go_wp2;go_ret;exact⟨rfl,HW.out,Kp.refl _ _⟩
 |false=>?_
 have aj:(((o.length:Int)+1)==0)=false:=by simp;omega
 have f1:=fz 1
 have aS:(o.length:Int)<=(cap:Int):=by omega
 have K2:∀u,Kp (λi=>i=b) w (w.setCell ⟨b,1,none⟩ u):=λu=>(Kp.refl _ _).setCell (by intro _;rfl) _
 by_cases ho:o.length=0
 ·have h1:(((o.length:Int)+1)==1)=true:=by simp;omega
  rw[show fj ⟨km,o++[d],D⟩ c=(18,⟨km,o,D⟩)by rw[Bn km D c d o b1 b2 b3 b4 b5 b6 b7 qd,ho];rfl];have HX:=af (ae qp J);clear qp J ho
  go_enter func261,ntmps261
  go_wp2;go_ret;exact⟨rfl,⟨_,by rw[ak _ Z.out];rfl,HX.out.1.az (K2 _) (λi hi x=>by subst x;exact HX.out.2 hi)⟩,(K2 _).mono (λi _ x=>by omega)⟩
 have h1:(((o.length:Int)+1)==1)=false:=by simp;omega
 rw[show fj ⟨km,o++[d],D⟩ c=(5,⟨km,o,D⟩)by rw[Bn km D c d o b1 b2 b3 b4 b5 b6 b7 qd];simp;intro h;simp[h]at ho];have HX:=af (ae qp J);clear qp J
 go_enter func261,ntmps261
 go_wp2;go_ret;exact⟨rfl,⟨_,by rw[ak _ Z.out];rfl,HX.out.1.az (K2 _) (λi hi x=>by subst x;exact HX.out.2 hi)⟩,(K2 _).mono (λi _ x=>by omega)⟩
end
section
variable (w:World) (B b:Nat)
theorem Ch.G8(k:Wk)(c:Int)(h:k.mode=5):bH k c=fj k c:=by unfold bH;rw[h];rfl
theorem Lr(k:Wk)(c:Int)(h:wE w B b k)(hb:B<=b)(hl:k.open_.length<=1000):
 Calls prog 230 #[.pointer (some ⟨b,0,none⟩),.int .u8 c] w λx w'=>x= .returned (.int .i64 (bH k c).1)/\wE w' B b (bH k c).2/\Kp (λi=>B<=i) w w':=by
 have I:=af (ru w c 97 122);have G:=af (ru w c 65 90);have O:=af (ru w c 120 122);have J:=af (ru w c 48 57);have EI:=af (Lq w B b k c h hb hl);have EA:=af (OE w B b k c h);have z0:=h.mode;have z2:=h.close;have f2:=h.free 2;have HS:=af (h.yc 62);have U:=af h;clear h hl;obtain⟨km,E,F⟩:=k;simp only at z0 z2 HS
 by_cases m0:km=0
 ·subst m0
  cases X:c !=40 with
  |false=>
   rw[show bH ⟨0,E,F⟩ c=fj ⟨0,E,F⟩ c by simp[bH,X]]
   go_enter func230,ntmps230
   go_wp2_with fail
   refine hm I ?_;rintro x D ⟨rfl,rfl⟩
   go_wp2_with fail
   refine hm G ?_;rintro x D ⟨rfl,rfl⟩
   go_wp2_with fail
   refine hm O ?_;rintro x D ⟨rfl,rfl⟩
   go_wp2_with fail
   refine hm J ?_;rintro x D ⟨rfl,rfl⟩
   go_wp2_with fail
   refine hm EI ?_;rintro x D ⟨rfl,h1,K1⟩;go_wp2;go_ret;exact⟨rfl,h1,K1⟩
  |true=>?_
  cases q2:c !=91 with
  |false=>
   rw[show bH ⟨0,E,F⟩ c=fj ⟨0,E,F⟩ c by simp[bH,q2]]
   go_enter func230,ntmps230
   go_wp2_with fail
   refine hm I ?_;rintro x D ⟨rfl,rfl⟩
   go_wp2_with fail
   refine hm G ?_;rintro x D ⟨rfl,rfl⟩
   go_wp2_with fail
   refine hm O ?_;rintro x D ⟨rfl,rfl⟩
   go_wp2_with fail
   refine hm J ?_;rintro x D ⟨rfl,rfl⟩
   go_wp2_with fail
   refine hm EI ?_;rintro x D ⟨rfl,h1,K1⟩;go_wp2;go_ret;exact⟨rfl,h1,K1⟩
  |true=>?_
  rw[show bH ⟨0,E,F⟩ c=(-1,⟨0,E,F⟩)by simp[bH,X,q2]]
  go_enter func230,ntmps230
  go_wp2_with fail
  refine hm I ?_;rintro x D ⟨rfl,rfl⟩
  go_wp2_with fail
  refine hm G ?_;rintro x D ⟨rfl,rfl⟩
  go_wp2_with fail
  refine hm O ?_;rintro x D ⟨rfl,rfl⟩
  go_wp2_with fail
  refine hm J ?_;rintro x D ⟨rfl,rfl⟩;go_wp2;go_ret;exact⟨rfl,U.out,Kp.refl _ _⟩
 by_cases m1:km=1
 ·subst m1
  rw[show bH ⟨1,E,F⟩ c=(fK (mC c 65 90) 5,⟨1,E,F⟩)by simp[bH]]
  go_enter func230,ntmps230
  go_wp2_with fail
  refine hm I ?_;rintro x D ⟨rfl,rfl⟩
  go_wp2_with fail
  refine hm G ?_;rintro x D ⟨rfl,rfl⟩
  go_wp2_with fail
  refine hm O ?_;rintro x D ⟨rfl,rfl⟩
  go_wp2_with fail
  refine hm J ?_;rintro x D ⟨rfl,rfl⟩
  go_wp2_with fail
  refine(fU _ _ _).mono ?_;rintro x D ⟨rfl,rfl⟩;go_wp2;go_ret;exact⟨rfl,U.out,Kp.refl _ _⟩
 by_cases m4:km=4
 ·subst m4
  rw[show bH ⟨4,E,F⟩ c=(fK (mC c 65 90) 5,⟨4,E,F⟩)by simp[bH]]
  go_enter func230,ntmps230
  go_wp2_with fail
  refine hm I ?_;rintro x D ⟨rfl,rfl⟩
  go_wp2_with fail
  refine hm G ?_;rintro x D ⟨rfl,rfl⟩
  go_wp2_with fail
  refine hm O ?_;rintro x D ⟨rfl,rfl⟩
  go_wp2_with fail
  refine hm J ?_;rintro x D ⟨rfl,rfl⟩
  go_wp2_with fail
  refine(fU _ _ _).mono ?_;rintro x D ⟨rfl,rfl⟩;go_wp2;go_ret;exact⟨rfl,U.out,Kp.refl _ _⟩
 by_cases m2:km=2
 ·subst m2
  rw[show bH ⟨2,E,F⟩ c=(fK (mC c 65 90) 3,⟨2,E,F⟩)by simp[bH]]
  go_enter func230,ntmps230
  go_wp2_with fail
  refine hm I ?_;rintro x D ⟨rfl,rfl⟩
  go_wp2_with fail
  refine hm G ?_;rintro x D ⟨rfl,rfl⟩
  go_wp2_with fail
  refine hm O ?_;rintro x D ⟨rfl,rfl⟩
  go_wp2_with fail
  refine hm J ?_;rintro x D ⟨rfl,rfl⟩
  go_wp2_with fail
  refine(fU _ _ _).mono ?_;rintro x D ⟨rfl,rfl⟩;go_wp2;go_ret;exact⟨rfl,U.out,Kp.refl _ _⟩
 by_cases m3:km=3
 ·subst m3
  rw[show bH ⟨3,E,F⟩ c=(fK (c==62) 5,⟨3,E,F⟩)by simp[bH]]
  go_enter func230,ntmps230
  go_wp2_with fail
  refine hm I ?_;rintro x D ⟨rfl,rfl⟩
  go_wp2_with fail
  refine hm G ?_;rintro x D ⟨rfl,rfl⟩
  go_wp2_with fail
  refine hm O ?_;rintro x D ⟨rfl,rfl⟩
  go_wp2_with fail
  refine hm J ?_;rintro x D ⟨rfl,rfl⟩
  go_wp2_with fail
  refine(fU _ _ _).mono ?_;rintro x D ⟨rfl,rfl⟩;go_wp2;go_ret;exact⟨rfl,U.out,Kp.refl _ _⟩
 by_cases m5:km=5
 ·subst m5
  rw[G8 ⟨5,E,F⟩ c rfl]
  go_enter func230,ntmps230
  go_wp2_with fail
  refine hm I ?_;rintro x D ⟨rfl,rfl⟩
  go_wp2_with fail
  refine hm G ?_;rintro x D ⟨rfl,rfl⟩
  go_wp2_with fail
  refine hm O ?_;rintro x D ⟨rfl,rfl⟩
  go_wp2_with fail
  refine hm J ?_;rintro x D ⟨rfl,rfl⟩
  go_wp2_with fail
  refine hm EI ?_;rintro x D ⟨rfl,h1,K1⟩;go_wp2;go_ret;exact⟨rfl,h1,K1⟩
 by_cases m6:km=6
 ·subst m6
  rw[show bH ⟨6,E,F⟩ c=(fK (mC c 97 122||mC c 65 90||c==46) 7,⟨6,E,62⟩)by simp[bH]]
  cases X:mC c 97 122<;>cases q2:mC c 65 90<;>cases q3:c==46<;>rw[X]at I<;>rw[q2]at G
  all_goals
   go_enter func230,ntmps230
   go_wp2_with fail
   refine hm I ?_;rintro x D ⟨rfl,rfl⟩
   go_wp2_with fail
   refine hm G ?_;rintro x D ⟨rfl,rfl⟩
   go_wp2_with fail
   refine hm O ?_;rintro x D ⟨rfl,rfl⟩
   go_wp2_with fail
   refine hm J ?_;rintro x D ⟨rfl,rfl⟩
   go_wp2_with fail
   refine(fU _ _ _).mono ?_;rintro x D ⟨rfl,rfl⟩;go_wp2;go_ret;exact⟨rfl,HS.out,(Kp.refl _ _).setCell (p:=⟨b,2,none⟩) (λ_=>hb) _⟩
 by_cases m7:km=7
 ·subst m7
  cases X:c==63 with
  |true=>
   rw[show bH ⟨7,E,F⟩ c=(8,⟨7,E,F⟩)by simp[bH,X]]
   go_enter func230,ntmps230
   go_wp2_with fail
   refine hm I ?_;rintro x D ⟨rfl,rfl⟩
   go_wp2_with fail
   refine hm G ?_;rintro x D ⟨rfl,rfl⟩
   go_wp2_with fail
   refine hm O ?_;rintro x D ⟨rfl,rfl⟩
   go_wp2_with fail
   refine hm J ?_;rintro x D ⟨rfl,rfl⟩;go_wp2;go_ret;exact⟨rfl,U.out,Kp.refl _ _⟩
  |false=>?_
  rw[show bH ⟨7,E,F⟩ c=(xD ⟨7,E,F⟩ c,⟨7,E,F⟩)by simp[bH,X]]
  go_enter func230,ntmps230
  go_wp2_with fail
  refine hm I ?_;rintro x D ⟨rfl,rfl⟩
  go_wp2_with fail
  refine hm G ?_;rintro x D ⟨rfl,rfl⟩
  go_wp2_with fail
  refine hm O ?_;rintro x D ⟨rfl,rfl⟩
  go_wp2_with fail
  refine hm J ?_;rintro x D ⟨rfl,rfl⟩
  go_wp2_with fail
  refine hm EA ?_;rintro x D ⟨rfl,rfl⟩;go_wp2;go_ret;exact⟨rfl,U.out,Kp.refl _ _⟩
 by_cases m8:km=8
 ·subst m8
  rw[show bH ⟨8,E,F⟩ c=(fK (mC c 120 122) 9,⟨8,E,F⟩)by simp[bH]]
  go_enter func230,ntmps230
  go_wp2_with fail
  refine hm I ?_;rintro x D ⟨rfl,rfl⟩
  go_wp2_with fail
  refine hm G ?_;rintro x D ⟨rfl,rfl⟩
  go_wp2_with fail
  refine hm O ?_;rintro x D ⟨rfl,rfl⟩
  go_wp2_with fail
  refine hm J ?_;rintro x D ⟨rfl,rfl⟩
  go_wp2_with fail
  refine(fU _ _ _).mono ?_;rintro x D ⟨rfl,rfl⟩;go_wp2;go_ret;exact⟨rfl,U.out,Kp.refl _ _⟩
 by_cases m9:km=9
 ·subst m9
  rw[show bH ⟨9,E,F⟩ c=(fK (c==60||c==61||c==62) 10,⟨9,E,F⟩)by simp[bH]]
  cases X:c==60<;>cases q2:c==61<;>cases q3:c==62
  all_goals
   go_enter func230,ntmps230
   go_wp2_with fail
   refine hm I ?_;rintro x D ⟨rfl,rfl⟩
   go_wp2_with fail
   refine hm G ?_;rintro x D ⟨rfl,rfl⟩
   go_wp2_with fail
   refine hm O ?_;rintro x D ⟨rfl,rfl⟩
   go_wp2_with fail
   refine hm J ?_;rintro x D ⟨rfl,rfl⟩
   go_wp2_with fail
   refine(fU _ _ _).mono ?_;rintro x D ⟨rfl,rfl⟩;go_wp2;go_ret;exact⟨rfl,U.out,Kp.refl _ _⟩
 by_cases Y:km=10
 ·subst Y
  rw[show bH ⟨10,E,F⟩ c=(fK (mC c 48 57) 11,⟨10,E,F⟩)by simp[bH]]
  go_enter func230,ntmps230
  go_wp2_with fail
  refine hm I ?_;rintro x D ⟨rfl,rfl⟩
  go_wp2_with fail
  refine hm G ?_;rintro x D ⟨rfl,rfl⟩
  go_wp2_with fail
  refine hm O ?_;rintro x D ⟨rfl,rfl⟩
  go_wp2_with fail
  refine hm J ?_;rintro x D ⟨rfl,rfl⟩
  go_wp2_with fail
  refine(fU _ _ _).mono ?_;rintro x D ⟨rfl,rfl⟩;go_wp2;go_ret;exact⟨rfl,U.out,Kp.refl _ _⟩
 by_cases ao:km=16
 ·subst ao
  rw[show bH ⟨16,E,F⟩ c=(fK (mC c 48 57) 11,⟨16,E,F⟩)by simp[bH]]
  go_enter func230,ntmps230
  go_wp2_with fail
  refine hm I ?_;rintro x D ⟨rfl,rfl⟩
  go_wp2_with fail
  refine hm G ?_;rintro x D ⟨rfl,rfl⟩
  go_wp2_with fail
  refine hm O ?_;rintro x D ⟨rfl,rfl⟩
  go_wp2_with fail
  refine hm J ?_;rintro x D ⟨rfl,rfl⟩
  go_wp2_with fail
  refine(fU _ _ _).mono ?_;rintro x D ⟨rfl,rfl⟩;go_wp2;go_ret;exact⟨rfl,U.out,Kp.refl _ _⟩
 by_cases Z:km=11
 ·subst Z
  rw[show bH ⟨11,E,F⟩ c=(xD ⟨11,E,F⟩ c,⟨11,E,F⟩)by simp[bH]]
  go_enter func230,ntmps230
  go_wp2_with fail
  refine hm I ?_;rintro x D ⟨rfl,rfl⟩
  go_wp2_with fail
  refine hm G ?_;rintro x D ⟨rfl,rfl⟩
  go_wp2_with fail
  refine hm O ?_;rintro x D ⟨rfl,rfl⟩
  go_wp2_with fail
  refine hm J ?_;rintro x D ⟨rfl,rfl⟩
  go_wp2_with fail
  refine hm EA ?_;rintro x D ⟨rfl,rfl⟩;go_wp2;go_ret;exact⟨rfl,U.out,Kp.refl _ _⟩
 by_cases aa:km=12
 ·subst aa
  rw[show bH ⟨12,E,F⟩ c=(fK (mC c 97 122) 11,⟨12,E,F⟩)by simp[bH]]
  go_enter func230,ntmps230
  go_wp2_with fail
  refine hm I ?_;rintro x D ⟨rfl,rfl⟩
  go_wp2_with fail
  refine hm G ?_;rintro x D ⟨rfl,rfl⟩
  go_wp2_with fail
  refine hm O ?_;rintro x D ⟨rfl,rfl⟩
  go_wp2_with fail
  refine hm J ?_;rintro x D ⟨rfl,rfl⟩
  go_wp2_with fail
  refine(fU _ _ _).mono ?_;rintro x D ⟨rfl,rfl⟩;go_wp2;go_ret;exact⟨rfl,U.out,Kp.refl _ _⟩
 by_cases ad:km=13
 ·subst ad
  rw[show bH ⟨13,E,F⟩ c=(fK (mC c 97 122) 14,⟨13,E,F⟩)by simp[bH]]
  go_enter func230,ntmps230
  go_wp2_with fail
  refine hm I ?_;rintro x D ⟨rfl,rfl⟩
  go_wp2_with fail
  refine hm G ?_;rintro x D ⟨rfl,rfl⟩
  go_wp2_with fail
  refine hm O ?_;rintro x D ⟨rfl,rfl⟩
  go_wp2_with fail
  refine hm J ?_;rintro x D ⟨rfl,rfl⟩
  go_wp2_with fail
  refine(fU _ _ _).mono ?_;rintro x D ⟨rfl,rfl⟩;go_wp2;go_ret;exact⟨rfl,U.out,Kp.refl _ _⟩
 by_cases aj:km=14
 ·subst aj
  rw[show bH ⟨14,E,F⟩ c=(fK (mC c 48 57&&c !=48) 11,⟨14,E,F⟩)by simp[bH]]
  cases X:mC c 48 57<;>cases q2:c !=48<;>rw[X]at J
  all_goals
   go_enter func230,ntmps230
   go_wp2_with fail
   refine hm I ?_;rintro x D ⟨rfl,rfl⟩
   go_wp2_with fail
   refine hm G ?_;rintro x D ⟨rfl,rfl⟩
   go_wp2_with fail
   refine hm O ?_;rintro x D ⟨rfl,rfl⟩
   go_wp2_with fail
   refine hm J ?_;rintro x D ⟨rfl,rfl⟩
   go_wp2_with fail
   refine(fU _ _ _).mono ?_;rintro x D ⟨rfl,rfl⟩;go_wp2;go_ret;exact⟨rfl,U.out,Kp.refl _ _⟩
 by_cases am:km=15
 ·subst am
  rw[show bH ⟨15,E,F⟩ c=(fK (mC c 120 122) 16,⟨15,E,F⟩)by simp[bH]]
  go_enter func230,ntmps230
  go_wp2_with fail
  refine hm I ?_;rintro x D ⟨rfl,rfl⟩
  go_wp2_with fail
  refine hm G ?_;rintro x D ⟨rfl,rfl⟩
  go_wp2_with fail
  refine hm O ?_;rintro x D ⟨rfl,rfl⟩
  go_wp2_with fail
  refine hm J ?_;rintro x D ⟨rfl,rfl⟩
  go_wp2_with fail
  refine(fU _ _ _).mono ?_;rintro x D ⟨rfl,rfl⟩;go_wp2;go_ret;exact⟨rfl,U.out,Kp.refl _ _⟩
 by_cases ap:km=17
 ·subst ap
  rw[show bH ⟨17,E,F⟩ c=(fK (mC c 65 90||c==45) 5,⟨17,E,F⟩)by simp[bH]]
  cases X:mC c 65 90<;>cases q2:c==45<;>rw[X]at G
  all_goals
   go_enter func230,ntmps230
   go_wp2_with fail
   refine hm I ?_;rintro x D ⟨rfl,rfl⟩
   go_wp2_with fail
   refine hm G ?_;rintro x D ⟨rfl,rfl⟩
   go_wp2_with fail
   refine hm O ?_;rintro x D ⟨rfl,rfl⟩
   go_wp2_with fail
   refine hm J ?_;rintro x D ⟨rfl,rfl⟩
   go_wp2_with fail
   refine(fU _ _ _).mono ?_;rintro x D ⟨rfl,rfl⟩;go_wp2;go_ret;exact⟨rfl,U.out,Kp.refl _ _⟩
 have n0:(km==0)=false:=by simpa using m0
 have n1:(km==1)=false:=by simpa using m1
 have n2:(km==2)=false:=by simpa using m2
 have n3:(km==3)=false:=by simpa using m3
 have n4:(km==4)=false:=by simpa using m4
 have n5:(km==5)=false:=by simpa using m5
 have n6:(km==6)=false:=by simpa using m6
 have n7:(km==7)=false:=by simpa using m7
 have n8:(km==8)=false:=by simpa using m8
 have n9:(km==9)=false:=by simpa using m9
 have aI:(km==10)=false:=by simpa using Y
 have aO:(km==11)=false:=by simpa using Z
 have aS:(km==12)=false:=by simpa using aa
 have a0:(km==13)=false:=by simpa using ad
 have a1:(km==14)=false:=by simpa using aj
 have a2:(km==15)=false:=by simpa using am
 have a3:(km==16)=false:=by simpa using ao
 have a4:(km==17)=false:=by simpa using ap
 rw[show bH ⟨km,E,F⟩ c=(-1,⟨km,E,F⟩)by simp only[bH,n0,n1,n2,n3,n4,n5,n6,n7,n8,n9,aI,aO,aS,a0,a1,a2,a3,a4];simp];clear m0 m1 m2 m3 m4 m5 m6 m7 m8 m9 Y Z aa ad aj am ao ap
 go_enter func230,ntmps230
 go_wp2_with fail
 refine hm I ?_;rintro x D ⟨rfl,rfl⟩
 go_wp2_with fail
 refine hm G ?_;rintro x D ⟨rfl,rfl⟩
 go_wp2_with fail
 refine hm O ?_;rintro x D ⟨rfl,rfl⟩
 go_wp2_with fail
 refine hm J ?_;rintro x D ⟨rfl,rfl⟩;go_wp2;go_ret;exact⟨rfl,U.out,Kp.refl _ _⟩
end
theorem Ch.G9{t:ByteArray}{b:Int}{f i:Nat}(h:(ag t i==b)=true):kN t b (f+1) i=i:=by simp[kN,h]
theorem Ch.DZ{t:ByteArray}{b:Int}{f i:Nat}(h:(ag t i==b)=false):kN t b (f+1) i=kN t b f (i+1):=by simp[kN,h]
theorem Ch.oE{t:ByteArray}{k:Nat}(h:k<t.size):ag t k=(t[k].toNat:Int):=by unfold ag;rw[dif_pos h]
section
variable (w:World)
theorem uF(t:ByteArray)(D:Nat)(b:Int)(X:t.size<=240):
 Calls prog 233 #[.string t,.int .i64 D,.int .u8 b] w λx w'=>x= .returned (.int .i64 (iz t D b))/\w'=w:=by
 by_cases F:D<=t.size
 ·have E:=af (show iz t D b=kN t b (t.size-D) D by unfold iz;rw[aq F])
  go_enter func233,ntmps233
  go_wp2
  go_loop [7] (λi=>∃k:Nat,i= .int .i64 k/\k<=t.size/\Hid (iz t D b=kN t b (t.size-k) k)) (λi=>t.size-(intOf i).toNat)
  case atStart=>exact⟨D,rfl,F,E⟩
  case round=>
   obtain⟨k,rfl,hk,G⟩:=hrel
   by_cases J:k<t.size
   ·have U:(k:Int)<(t.size:Int):=by omega
    have O:=af (oE J)
    cases q:(t[k].toNat:Int)==b with
    |true=>
     go_wp2;go_ret;rw[G.out,show t.size-k=(t.size-(k+1))+1 by omega,G9 (by rw[O.out];exact q)];exact⟨rfl,rfl⟩
    |false=>?_
    go_wp2
    go_round
    case rel=>exact⟨k+1,by go_num,by omega,af (by rw[G.out,show t.size-k=(t.size-(k+1))+1 by omega,DZ (by rw[O.out];exact q)])⟩
    case measure=>simp[intOf];omega
   have I:¬(k:Int)<(t.size:Int):=by omega
   obtain rfl:k=t.size:=by omega
   go_wp2;go_ret;rw[G.out,Nat.sub_self];exact⟨rfl,rfl⟩
 have E:=af (show iz t D b=t.size by unfold iz;rw[ay F])
 have I:¬(D:Int)<(t.size:Int):=by omega
 go_enter func233,ntmps233
 go_wp2
 go_loop [7] (λi=>i= .int .i64 D) (λi=>0)
 case atStart=>rfl
 case round=>
  subst hrel;go_wp2;go_ret;rw[E.out];exact⟨rfl,rfl⟩
theorem D0(c:Int):
 Calls prog 231 #[.int .u8 c] w λe w'=>e= .returned (.int .i64 (eH c))/\w'=w:=by
 unfold eH
 cases D:c==91<;>cases E:c==60<;>cases F:c==42<;>
  (go_enter func231,ntmps231
   go_wp2;go_ret
   exact⟨by simp,rfl⟩)
theorem Ch.yN(t:ByteArray)(D:Nat)(b:Int):iz t D b<=t.size:=by
 have:∀f i,i+f<=t.size->kN t b f i<=t.size:=by
  intro f
  induction f with
  |zero=>grind[kN]
  |succ f E=>grind[kN]
 grind[iz]
theorem CB(t:ByteArray)(p:Nat)(D:t.size<=240)(I:p+1<t.size):
 Calls prog 232 #[.string t,.int .i64 p] w λe w'=>e= .returned (.int .i64 (gS t p))/\w'=w:=by
 unfold gS;have F:=af (oE I)
 have G:(p:Int)+1<(t.size:Int):=by omega
 rw[F.out]
 cases q:(t[p+1].toNat:Int)==63 with
 |true=>
  have E:=af (uF w t (p+4+1) 62 D);have hu:=yN t (p+4+1) 62
  go_enter func232,ntmps232
  go_wp2_with fail
  refine hm E ?_;rintro x J ⟨rfl,rfl⟩;go_wp2;go_ret;exact⟨by simp,rfl⟩
 |false=>?_
 have E:=af (uF w t (p+1) 62 D);have hu:=yN t (p+1) 62
 go_enter func232,ntmps232
 go_wp2_with fail
 refine hm E ?_;rintro x J ⟨rfl,rfl⟩;go_wp2;go_ret;exact⟨by simp,rfl⟩
end
namespace Ch
theorem Ls(k:Wk)(c:Int):(fj k c).2.open_.length<=k.open_.length+1:=by
 grind[fj]
theorem RK{p:Prop}[Decidable p]{a b:Int×Wk}{n:Nat}(D:a.2.open_.length<=n)(hb:b.2.open_.length<=n):(if p then a else b).2.open_.length<=n:=by split<;>assumption
theorem Lt(k:Wk)(c:Int):(bH k c).2.open_.length<=k.open_.length+1:=by
 have:=Ls k c;unfold bH
 repeat' (first|exact this|exact cJ _|refine RK ?_ ?_)
theorem D1{t:ByteArray}{f i:Nat}{w:Wk}{c:Int}(D:ag t i=c)(h:((bH w c).1== -1)=true):j2 t (f+1) i w=i:=by simp only[j2,D,h,aV]
theorem G_{t:ByteArray}{f i:Nat}{w:Wk}{c:Int}(D:ag t i=c)(h:((bH w c).1== -1)=false):j2 t (f+1) i w=j2 t f (i+1) {(bH w c).2 with mode:=(bH w c).1}:=by
 grind[j2]
end Ch
section
variable (w:World)
theorem Ha(t:ByteArray)(ht:t.size<=240):
 Calls prog 193 #[.string t] w λx w'=>x= .returned (.int .i64 (yz t))/\Kp (λ_=>False) w w':=by
 have hW:wE (w.alloc (.cells #[.int .i64 0,.slice none 0 0,.int .u8 0] 289)) w.heap.size _ ⟨0,[],0⟩:=⟨.slice none 0 0,an w _,.inl ⟨rfl,rfl⟩⟩
 have U:Kp (λ_=>False) w (w.alloc (.cells #[.int .i64 0,.slice none 0 0,.int .u8 0] 289)):=(Kp.refl _ _).alloc _
 go_enter func193,ntmps193
 go_upto_region 3 with(fail)
 generalize w.alloc (.cells #[.int .i64 0,.slice none 0 0,.int .u8 0] 289)=w1 at*
 go_loopw [4] (λi wr=>∃k:Nat,i= .int .i64 k/\k<=t.size/\∃wk:Wk,wE wr w.heap.size w.heap.size wk/\wk.open_.length<=k/\Hid (yz t=j2 t (t.size-k) k wk)/\Kp (λi=>w.heap.size<=i) w1 wr) (λi _=>t.size-(intOf i).toNat)
 case atStart=>exact⟨0,rfl,aG _,⟨0,[],0⟩,hW,aG _,af rfl,Kp.refl _ _⟩
 case round=>
  obtain⟨k,rfl,hk,wk,hB,hl,D,F⟩:=hrel
  by_cases X:k<t.size
  ·have Z:(k:Int)<(t.size:Int):=by omega
   have Y:=af (oE X);have hn:=Lt wk (t[k].toNat:Int);have E:=af (Lr wr w.heap.size w.heap.size wk (t[k].toNat:Int) hB (aC _) (by omega));have J:=af (ae F D);clear hB F D
   cases q:(bH wk (t[k].toNat:Int)).1== -1 with
   |true=>
    go_wp2_with fail
    refine hm E ?_;rintro x w2 ⟨rfl,G,I⟩;have z0:=G.mode;have f0:=G.free 0;have O:=af I;clear G I E;go_wp2;go_ret;obtain⟨F,D⟩:=J.out;rw[D.out,show t.size-k=(t.size-(k+1))+1 by omega,D1 Y.out q];exact⟨rfl,U.trans' ((F.trans O.out).setCell (p:=⟨w.heap.size,0,none⟩) (λ_=>aC _) _) (λi hi x=>by omega)⟩
   |false=>?_
   go_wp2_with fail
   refine hm E ?_;rintro x w2 ⟨rfl,G,I⟩;have z0:=G.mode;have f0:=G.free 0;have O:=af (ae G I);clear G I E;go_wp2
   go_roundw
   case rel=>
    obtain⟨F,D⟩:=J.out;obtain⟨G,I⟩:=O.out;refine⟨k+1,by go_num,by omega,_,G.Xi _,by simp only;omega,af ?_,(F.trans I).setCell (p:=⟨w.heap.size,0,none⟩) (λ_=>aC _) _⟩;rw[D.out,show t.size-k=(t.size-(k+1))+1 by omega,G_ Y.out q]
   case measure=>simp[intOf];omega
  have aa:¬(k:Int)<(t.size:Int):=by omega
  obtain rfl:k=t.size:=by omega
  have z0:=hB.mode;have J:=af (ae F D);clear hB F D
  cases q:wk.mode !=18 with
  |true=>
   go_wp2;go_ret;obtain⟨F,D⟩:=J.out;rw[D.out,Nat.sub_self,show j2 t 0 t.size wk=(t.size:Int)by simp only[j2,q,aV]];exact⟨rfl,U.trans' F (λi hi x=>by omega)⟩
  |false=>?_
  go_wp2;go_ret;obtain⟨F,D⟩:=J.out;rw[D.out,Nat.sub_self,show j2 t 0 t.size wk= -1 by simp only[j2,q,bp,bj]];exact⟨rfl,U.trans' F (λi hi x=>by omega)⟩
