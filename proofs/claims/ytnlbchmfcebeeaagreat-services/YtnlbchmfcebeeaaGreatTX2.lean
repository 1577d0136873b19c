import Derived.Test.YtnlbchmfcebeeaaGreatTX1
set_option maxHeartbeats 12800000
set_option maxRecDepth 100000
namespace Go.Proofs.YtnlbchmfcebeeaaGreat
open Go.Proofs.Tryz Ch
namespace Ch
def f_(t:ByteArray):List Int:=t.data.toList.map λb=>(b.toNat:Int)
structure RT where
 text:ByteArray
 pos:Int
structure RN where
 name:Int
 kind:Int
 parent:Int
 pos:Int
 enter:List ByteArray
 cA:List ByteArray
 trans:List RT
def RN.st(n:RN):St:=⟨n.name,n.pos,n.kind,n.parent⟩
def kN(t:ByteArray)(b:Int):Nat->Nat->Nat
 |0,i=>i
 |f+1,i=>if ag t i==b then i else kN t b f (i+1)
def iz(t:ByteArray)(D:Nat)(b:Int):Nat:=if D<=t.size then kN t b (t.size-D) D else t.size
def gS(t:ByteArray)(at_:Nat):Nat:=iz t ((if ag t (at_+1)==63 then at_+4 else at_)+1) 62+1
def uV(L:List RN)(i:Int):Option RN:=match i with| .ofNat k=>L[k]? | .negSucc _=>none
def ny(L:List RN)(i:Int)(f:RN->RN):List RN:=match i with| .ofNat k=>L.modify k f| .negSucc _=>L
def iD(L:List RN)(i:Int):List RN:=match uV L i with|some n=>if n.kind==1 then ny L i (λn=>{n with kind:=2})else L|none=>L
def mn(t:ByteArray)(i:Nat)(up:Int)(L:List RN):Option (Nat×Int×List RN):=
 if dz (ag t i)then
  if i+1<t.size/\(up<0\/(uV L up).isSome=true)then
   some (if ag t i==60 then i+2 else i+1,if ag t i==60||ag t i==42 then up else L.length,iD L up++[⟨ag t (i+1),eH (ag t i),up,i+1,[],[],[]⟩])
  else none
 else if ag t i==41||ag t i==93 then
  match uV L up with
  |some n=>some (i,n.parent,L)
  |none=>none
 else if ag t i==58 then
  if i+2<t.size/\gS t (i+1)+1<=t.size/\i+1<=gS t (i+1)+1/\(uV L up).isSome=true then
   some (gS t (i+1),up,ny L up λn=>{n with trans:=n.trans++[⟨t.extract (i+1) (gS t (i+1)+1),i+1⟩]})
  else none
 else if ag t i==94||ag t i==36 then
  if i+1<=iz t i 59/\(uV L up).isSome=true then
   some (iz t i 59,up,ny L up λn=>if ag t i==94 then {n with enter:=n.enter++[t.extract (i+1) (iz t i 59)]}else {n with cA:=n.cA++[t.extract (i+1) (iz t i 59)]})
  else none
 else some (i,up,L)
def TG(t:ByteArray):Nat->Nat->Int->List RN->List RN->Prop
 |0,_,_,_,_=>False
 |f+1,i,up,L,D=>(t.size<=i/\D=L)\/(i<t.size/\∃j up' L',mn t i up L=some (j,up',L')/\TG t f (j+1) up' L' D)
def im(t:ByteArray)(i:Nat)(up:Int)(L D:List RN):Prop:=∃f,TG t f i up L D
section
variable {t:ByteArray}
theorem im.done{i:Nat}{up:Int}{L:List RN}(h:t.size<=i):im t i up L L:=⟨1,.inl ⟨h,rfl⟩⟩
theorem im.step{i j:Nat}{up up':Int}{L L' D:List RN}(hi:i<t.size)(hs:mn t i up L=some (j,up',L'))(F:im t (j+1) up' L' D):im t i up L D:=by
 obtain⟨f,E⟩:=F;exact⟨f+1,.inr ⟨hi,j,up',L',hs,E⟩⟩
theorem im.inv{i:Nat}{up:Int}{L D:List RN}(h:im t i up L D):(t.size<=i/\D=L)\/(i<t.size/\∃j up' L',mn t i up L=some (j,up',L')/\im t (j+1) up' L' D):=by
 obtain⟨f,E⟩:=h
 cases f with
 |zero=>exact E.elim
 |succ f=>?_
 rcases E with h|⟨hi,j,up',L',hs,F⟩
 ·simp_all
 exact .inr ⟨hi,j,up',L',hs,f,F⟩
theorem im.ind{M:Nat->Int->List RN->List RN->Prop}(F:∀{i:Nat} {up:Int} {L:List RN},t.size<=i->M i up L L)(hs:∀{i j:Nat} {up up':Int} {L L' D:List RN},i<t.size->mn t i up L=some (j,up',L')->M (j+1) up' L' D->M i up L D){i:Nat}{up:Int}{L D:List RN}(h:im t i up L D):M i up L D:=by
 obtain⟨f,E⟩:=h
 induction f generalizing i up L with
 |zero=>exact E.elim
 |succ f I=>?_
 rcases E with⟨h,rfl⟩|⟨hi,j,up',L',dE,G⟩
 ·simp_all
 grind
end
def Bj(t:ByteArray)(p q:Nat):List Int:=(List.range (q-p)).map λj=>ag t (p+j)
theorem xT(t:ByteArray)(p:Nat):Bj t p p=[]:=by simp[Bj]
theorem kC{t:ByteArray}{p q:Nat}(h:p<q):Bj t p q=ag t p::Bj t (p+1) q:=by
 unfold Bj;rw[show q-p=(q-(p+1))+1 by omega,List.range_succ_eq_map];simp only[List.map_cons,List.map_map,l5,List.cons.injEq,bS];apply nF;grind
theorem yD{t:ByteArray}{p q r:Nat}(D:p<=q)(E:q<=r):Bj t p r=Bj t p q++Bj t q r:=by
 obtain⟨k,rfl⟩:∃k,q=p+k:=⟨q-p,by omega⟩
 clear D
 induction k generalizing p with
 |zero=>simp[xT]
 |succ k F=>?_
 grind[kC]
theorem vq(t:ByteArray)(p:Nat):Bj t p (p+1)=[ag t p]:=by rw[kC (by omega),xT]
theorem Jv(t:ByteArray)(p q:Nat):(Bj t p q).length=q-p:=by simp[Bj]
theorem RB{t:ByteArray}{p q j:Nat}(h:j<q-p):(Bj t p q)[j]? =some (ag t (p+j)):=by
 grind[Bj]
theorem sQ{t:ByteArray}{p q:Nat}(E:q<=t.size):f_ (t.extract p q)=Bj t p q:=by
 unfold f_;have iG:t.data.size=t.size:=rfl;rw[ByteArray.data_extract];apply eL;intro j
 by_cases D:j<q-p
 ·rw[RB D,bw]
  have e:(t.data.extract p q).toList[j]? =some (t.data[p+j]'(by omega)):=by
   simp_all
  rw[e];simp only[Option.map_some,bq];unfold ag;rw[dif_pos (by omega)];rfl
 grind[Jv]
theorem Li{t:ByteArray}{b:Int}:∀(f i q:Nat),i<=q->q<=i+f->(∀x∈Bj t i q,x≠b)->(ag t q=b\/q=i+f)->kN t b f i=q:=by
 intro f
 induction f with
 |zero=>grind[kN]
 |succ f F=>?_
 intro i q G I E D;simp only[kN]
 by_cases e:i=q
 ·subst e
  rcases D with D|D
  ·simp[D]
  omega
 rw[kC (show i<q by omega)]at E
 have:(ag t i==b)=false:=by have:=E (ag t i) (by simp);simpa using this
 rw[this];simp only[bp,bj];exact F (i+1) q (by omega) (by omega) (λx hx=>E x (by simp[hx])) (by omega)
theorem DT{t:ByteArray}{b:Int}{i q:Nat}(D:i<=q)(E:q<t.size)(F:∀x∈Bj t i q,x≠b)(G:ag t q=b):iz t i b=q:=by
 grind[iz,Li]
def yE(sign:Int):Bool:=sign==64||sign==43||sign==45||sign==61
def vt(a:Ac):List Int:=if yE a.sign then[a.sign,a.aF,48+a.digit]else[a.sign,a.aF]
def enc(l:List Ac):List Int:=l.flatMap vt
def uW(a:Ac):Prop:=
 ((a.sign=33\/a.sign=126\/a.sign=35)/\ez a.aF=true/\a.digit=0)\/(a.sign=64/\ez a.aF=true/\1<=a.digit/\a.digit<=9)\/
 ((a.sign=43\/a.sign=45\/a.sign=61)/\jw a.aF=true/\0<=a.digit/\a.digit<=9)
theorem tK{c:Int}(h:jw c=true):c=120\/c=121\/c=122:=by simp[jw]at h;omega
theorem Jw{c:Int}(h:ez c=true):97<=c/\c<=122:=by simp[ez]at h;exact h
theorem RC{c:Int}(h:dS c=true):65<=c/\c<=90:=by simp[dS]at h;exact h
theorem Ct{lo c:Int}(h:iw lo c=true):lo<=c/\c<=57:=by simp[iw]at h;exact h
theorem uW.no{a:Ac}(h:uW a):∀x∈vt a,x≠59/\x≠62/\x≠63:=by
 intro x G;unfold vt at G
 rcases h with⟨E,D,F⟩|⟨E,D,F⟩|⟨E,D,F⟩
 ·have:=Jw D
  grind
 ·have:=Jw D
  grind
 grind[tK]
theorem G6{l:List Ac}(h:∀a∈l,uW a):∀x∈enc l,x≠59/\x≠62/\x≠63:=by
 intro x D;simp only[enc,kx]at D;obtain⟨a,E,D⟩:=D;exact(h a E).no x D
theorem RD{t:ByteArray}{p:Nat}(h:(act t p ⟨ag t p,0,0⟩).1=true):
 uW (act t p ⟨ag t p,0,0⟩).2.1/\Bj t p (act t p ⟨ag t p,0,0⟩).2.2=vt (act t p ⟨ag t p,0,0⟩).2.1:=by
 unfold act at*;simp only at*
 split
 ·rename_i q
  rw[aq q]at h;have D:ez _=_:=h
  have E:ag t p=33\/ag t p=126\/ag t p=35:=by simp at q;omega
  simp only[jn,cL,D,aV];refine⟨Or.inl ⟨E,D,rfl⟩,?_⟩;grind[kC,vq,vt,yE]
 rename_i G;rw[ay G]at h
 split
 ·rename_i q
  rw[aq q]at h
  have E:ag t p=64:=by simpa using q
  simp only[se,mP]at h⊢
  by_cases D:ez (ag t (p+1))=true
  ·have e1:(jn t p ⟨ag t p,0,0⟩).1=_:=D
   simp only[e1,aV]at h⊢
   have e2:(jn t p ⟨ag t p,0,0⟩).2.2=p+2:=by simp[jn,cL,D]
   rw[e2]at h⊢;have F:=Ct h;simp only[cL,h,aV];refine⟨Or.inr (Or.inl ⟨E,D,by simp only;omega,by simp only;omega⟩),?_⟩;grind[kC,vq,vt,yE,jn]
  grind[jn,ag]
 rename_i I;rw[ay I]at h
 split
 ·rename_i q
  rw[aq q]at h
  have E:ag t p=43\/ag t p=45\/ag t p=61:=by simp at q;omega
  simp only[mQ,mP]at h⊢
  by_cases D:jw (ag t (p+1))=true
  ·have e1:(j9 t p ⟨ag t p,0,0⟩).1=_:=D
   simp only[e1,aV]at h⊢
   have e2:(j9 t p ⟨ag t p,0,0⟩).2.2=p+2:=by simp[j9,cL,D]
   rw[e2]at h⊢;have F:=Ct h;simp only[cL,h,aV];refine⟨Or.inr (Or.inr ⟨E,D,by simp only;omega,by simp only;omega⟩),?_⟩;rw[kC (by omega),kC (by omega),vq]
   grind[yE,ag,vt,j9]
  grind[j9,ag]
 simp_all
theorem Lj{t:ByteArray}{cl:Int}(D:cl≠0):∀(n p:Nat) (l:List Ac),p<=t.size->(iP t cl n p l).1=true->
 ∃m,(iP t cl n p l).2.1=l++m/\(∀a∈m,uW a)/\p<(iP t cl n p l).2.2/\(iP t cl n p l).2.2<=t.size/\Bj t p ((iP t cl n p l).2.2-1)=enc m/\ag t ((iP t cl n p l).2.2-1)=cl:=by
 intro n
 induction n with
 |zero=>grind[iP]
 |succ n G=>?_
 intro p l F h
 cases q:ag t p==cl with
 |true=>
  rw[oS q]at h⊢;have:=dy D q;refine⟨[],by simp,by simp,by simp,by simp only;omega,?_,by simpa using q⟩;simp[enc,xT]
 |false=>?_
 cases E:(act t p ⟨ag t p,0,0⟩).1 with
 |false=>grind[tz]
 |true=>?_
 rw[qR q E]at h⊢;have I:=xM E;obtain⟨v,e⟩:=RD E;obtain⟨m,J,O,U,X,Y,Z⟩:=G _ _ (pY F 0 0) h;grind[act,ag,yD,enc]
theorem DU{t:ByteArray}{cl:Int}{p:Nat}(D:cl≠0)(E:p<=t.size)(h:(bD t cl p).1=true):
 (∀a∈(bD t cl p).2.1,uW a)/\p<(bD t cl p).2.2/\(bD t cl p).2.2<=t.size/\Bj t p ((bD t cl p).2.2-1)=enc (bD t cl p).2.1/\ag t ((bD t cl p).2.2-1)=cl:=by
 grind[Lj,bD]
def Cu(g:Gd):List Int:=if g.sign==0 then[]else[63,g.var,g.sign,48+g.digit]
def GdV(g:Gd):Prop:=g=⟨0,0,0⟩\/(jw g.var=true/\pw g.sign=true/\0<=g.digit/\g.digit<=9)
theorem Lk{t:ByteArray}{p:Nat}(h:(guard t p ⟨0,0,0⟩).1=true):
 GdV (guard t p ⟨0,0,0⟩).2.1/\Bj t p (guard t p ⟨0,0,0⟩).2.2=Cu (guard t p ⟨0,0,0⟩).2.1/\
  ((ag t p==63)=true/\(guard t p ⟨0,0,0⟩).2.2=p+4\/(ag t p==63)=false/\(guard t p ⟨0,0,0⟩).2.2=p):=by
 unfold guard at*
 split
 ·rename_i q
  rw[aq q]at h
  split
  ·rename_i D
   rw[aq D]at h
   split
   ·rename_i E
    rw[aq E]at h;simp only at h;have F:=Ct h
    have G:ag t p=63:=by simpa using q
    simp only[cL,h,aV];refine⟨Or.inr ⟨D,E,by simp only;omega,by simp only;omega⟩,?_,Or.inl ⟨q,trivial⟩⟩;grind[kC,vq,ag,pw,Cu]
   simp_all
  simp_all
 rename_i q;exact⟨Or.inl rfl,by simp[xT,Cu],Or.inr ⟨by simpa using q,rfl⟩⟩
def rT{α β:Type}(R:α->β->Prop):List α->List β->Prop
 | [],[]=>True
 |a::l,b::m=>R a b/\rT R l m
 |_,_=>False
section
variable {α β:Type} {R:α->β->Prop}
theorem rT.nil:rT R [] []:=trivial
theorem rT.cons{a:α}{b:β}{l:List α}{m:List β}(h:R a b)(k:rT R l m):rT R (a::l) (b::m):=⟨h,k⟩
theorem rT.ind{M:(l:List α)->(m:List β)->rT R l m->Prop}(nil:M [] [] .nil)(cons:∀{a:α} {b:β} {l:List α} {m:List β} (h:R a b) (k:rT R l m),M l m k->M (a::l) (b::m) (.cons h k)):∀{l:List α} {m:List β} (h:rT R l m),M l m h:=by
 intro l
 induction l with
 |nil=>
  intro m h
  cases m with
  |nil=>omega
  |cons b m=>exact h.elim
 |cons a l D=>?_
 intro m h
 cases m with
 |nil=>exact h.elim
 |cons b m=>exact cons h.1 h.2 (D h.2)
end
theorem rT.snoc{α β:Type}{R:α->β->Prop}{l:List α}{m:List β}(h:rT R l m){a:α}{b:β}(D:R a b):rT R (l++[a]) (m++[b]):=by
 induction h using rT.ind with
 |nil=>exact rT.cons D .nil
 |cons h _ E=>grind[rT.cons]
theorem rT.len{α β:Type}{R:α->β->Prop}{l:List α}{m:List β}(h:rT R l m):l.length=m.length:=by
 induction h using rT.ind with
 |nil=>rfl
 |cons _ _ D=>simp_all
structure uD(rt:RT)(x:Tr):Prop where
 tg:mF x.qP=true
 gd:GdV x.guard
 ac:∀a∈x.bD,uW a
 ta:ns x.target=true
 Qy:f_ rt.text=x.qP::(Cu x.guard++(enc x.bD++[62,x.target]))
 pos:0<=rt.pos
structure OB(s:ByteArray)(x:Bl):Prop where
 ac:∀a∈x.bD,uW a
 Qy:f_ s=enc x.bD
def ug(rt:RT)(x:Tr):List Us:=(if dS x.qP then[⟨x.qP,rt.pos⟩]else[])++(if dS x.target then[⟨x.target,rt.pos+(f_ rt.text).length-1⟩]else[])
def pE(k:Nat)(x:Tr):Bool:=x.state==(k:Int)
def oC(k:Nat)(sg:Int)(x:Bl):Bool:=x.state==(k:Int)&&x.sign==sg
structure NR(L:List RN)(r:Rs):Prop where
 ai:L.map RN.st=r.ai
 cW:∀(k:Nat) (n:RN),L[k]? =some n->rT uD n.trans (r.cW.filter (pE k))
 nR:∀(k:Nat) (n:RN),L[k]? =some n->rT OB n.enter (r.eR.filter (oC k 94))
 rJ:∀(k:Nat) (n:RN),L[k]? =some n->rT OB n.cA (r.eR.filter (oC k 36))
 ts:∀x∈r.cW,x.state<L.length
 bs:∀x∈r.eR,x.state<L.length
 us:∀u,u∈r.cN↔∃(k:Nat) (n:RN) (rt:RT) (x:Tr),L[k]? =some n/\rt∈n.trans/\uD rt x/\u∈ug rt x
 so:r.cN.Pairwise λa b=>a.pos<b.pos
 lo:∀u∈r.cN,u.pos<r.pos
 wf:∀(k:Nat) (n:RN),L[k]? =some n-> -1<=n.parent/\n.parent<k/\dS n.name=true/\((n.kind=4\/n.kind=5)->0<=n.parent)/\1<=n.kind/\n.kind<=5/\0<=n.pos
 pk:∀(k:Nat) (n p:RN),L[k]? =some n->uV L n.parent=some p->p.kind=2\/p.kind=3
theorem jT{L:List RN}{i:Int}{n:RN}(h:uV L i=some n):∃k:Nat,i=k/\L[k]? =some n/\k<L.length:=by
 cases i with
 |ofNat k=>exact⟨k,rfl,h,(aJ.1 (show L[k]? =some n from h)).1⟩
 |negSucc k=>grind[uV]
theorem iq{L:List RN}{k:Nat}{f:RN->RN}(j:Nat):(ny L (k:Int) f)[j]? =if k=j then L[j]?.map f else L[j]?:=by
 show(L.modify k f)[j]? =_;grind
theorem sR{L:List RN}{i:Int}{f:RN->RN}:(ny L i f).length=L.length:=by
 unfold ny;split<;>simp
def Nv(n:RN):Prop:=n.kind=1\/n.kind=2\/n.kind=3
def xU(L L':List RN):Prop:=∀(k:Nat) (n:RN),L[k]? =some n->∃D,L'[k]? =some D/\D.parent=n.parent/\(Nv n->Nv D)
theorem xU.refl(L:List RN):xU L L:=λ_ n h=>⟨n,h,rfl,id⟩
theorem xU.trans{A B C:List RN}(h:xU A B)(g:xU B C):xU A C:=by
 intro k n E;obtain⟨m,hm,e,b⟩:=h k n E;obtain⟨I,D,G,F⟩:=g k m hm;simp_all
theorem xU.len{A B:List RN}(h:xU A B):A.length<=B.length:=by
 rcases jH A.length with e|e
 ·omega
 obtain⟨m,hm,_⟩:=h (A.length-1) _ (ar (by omega));grind
theorem xU.at_{A B:List RN}(h:xU A B){i:Int}{n:RN}(E:uV A i=some n):∃D,uV B i=some D/\D.parent=n.parent/\(Nv n->Nv D):=by
 obtain⟨k,rfl,hk,_⟩:=jT E;exact h k n hk
theorem xU.mod(L:List RN)(i:Int)(f:RN->RN)(E:∀n,(f n).parent=n.parent/\(f n).kind=n.kind):xU L (ny L i f):=by
 intro k n D
 cases i with
 |negSucc j=>exact⟨n,D,rfl,id⟩
 |ofNat j=>?_
 grind[ny,iq,Nv]
theorem uE(L:List RN)(i:Int)(f:RN->RN)(D:∀n,(f n).st=n.st):(ny L i f).map RN.st=L.map RN.st:=by
 cases i with
 |negSucc j=>rfl
 |ofNat j=>?_
 apply eL;grind[ny,iq]
theorem G7{L:List RN}{i:Int}{f:RN->RN}(D:∀n,(f n).st=n.st){k:Nat}{n:RN}(h:(ny L i f)[k]? =some n):∃m,L[k]? =some m/\n.st=m.st:=by
 have e:=gr (λl:List St=>l[k]?) (uE L i f D);grind
theorem Cv{L:List RN}{r:Rs}(h:NR L r){i:Int}{f:RN->RN}(D:∀n,(f n).st=n.st):
 (∀(k:Nat) (n:RN),(ny L i f)[k]? =some n-> -1<=n.parent/\n.parent<k/\dS n.name=true/\((n.kind=4\/n.kind=5)->0<=n.parent)/\1<=n.kind/\n.kind<=5/\0<=n.pos)/\
 ∀(k:Nat) (n p:RN),(ny L i f)[k]? =some n->uV (ny L i f) n.parent=some p->p.kind=2\/p.kind=3:=by
 have G:∀{a b:RN},a.st=b.st->a.name=b.name/\a.pos=b.pos/\a.kind=b.kind/\a.parent=b.parent:=by
  grind[RN.st]
 constructor
 ·intro k n E
  obtain⟨m,hm,e⟩:=G7 D E;obtain⟨e1,e2,e3,X⟩:=G e;have:=h.wf k m hm;simp_all
 intro k n p E J;obtain⟨m,hm,e⟩:=G7 D E;obtain⟨j,I,F,_⟩:=jT J;obtain⟨q,O,U⟩:=G7 D F;have:=h.pk k m q hm (by rw[<-(G e).2.2.2,I];exact O);grind
theorem mq{c:Int}{p:Nat}{us:List Us}{u:Us}:u∈dJ c p us↔u∈us\/(dS c=true/\u=⟨c,p⟩):=by
 grind[dJ]
theorem yF{c:Int}{p:Nat}{us:List Us}(h:us.Pairwise λa b=>a.pos<b.pos)(D:∀u∈us,u.pos<(p:Int)):(dJ c p us).Pairwise λa b=>a.pos<b.pos:=by
 grind[dJ]
theorem DV(a d e:Int)(b c:List Int):(a::(b++(c++[d,e]))).getLast?=some e:=by
 grind
theorem yG{t:ByteArray}{r:Rs}{L:List RN}{E:Int}{nd:RN}(h:NR L r)(ok:Ok t r)(hq:(ag t r.pos==58)=true)(ha:uV L E=some nd)(U:(transition t E r).1=true):
 ∃L',mn t r.pos E L=some ((transition t E r).2.pos-1,E,L')/\1<=(transition t E r).2.pos/\NR L' (transition t E r).2/\xU L L':=by
 have hp:=dy (by decide) hq
 have q':ag t r.pos=58:=by simpa using hq
 have eD:=jk E hp ok;unfold transition at U eD⊢
 by_cases q1:mF (ag t (r.pos+1))=true
 ·have l1:=uC q1
  rw[aq q1]at U eD⊢;have hg:=sf (t:=t) (p:=r.pos+1+1) ⟨0,0,0⟩ (by omega);have gs:=Lk (t:=t) (p:=r.pos+1+1)
  have Xe:(guard t (r.pos+1+1) ⟨0,0,0⟩).1=true->(if ag t (r.pos+1+1)==63 then r.pos+1+4 else r.pos+1)+1=(guard t (r.pos+1+1) ⟨0,0,0⟩).2.2:=by
   grind
  generalize guard t (r.pos+1+1) ⟨0,0,0⟩=I at*
  by_cases q2:I.1=true
  ·rw[aq q2]at U eD⊢
   obtain⟨g1,g2,g3⟩:=gs q2;have UT:=DU (t:=t) (cl:=62) (p:=I.2.2) (by decide) hg.2;generalize bD t 62 I.2.2=D at*
   by_cases q3:D.1=true
   ·rw[aq q3]at U eD⊢
    obtain⟨a1,a2,a3,a4,a5⟩:=UT q3;simp only at U eD⊢;have ap:=yC U
    have Z:gS t (r.pos+1)=D.2.2:=by
     unfold gS;rw[Xe q2,DT (q:=D.2.2-1) (by omega) (by omega) (by rw[a4];intro x F;exact(G6 a1 x F).2.1) a5];omega
    have ad:cL (ns (ag t D.2.2)) D.2.2=D.2.2+1:=by simp[cL,U]
    rw[ad]at eD⊢;obtain⟨k,rfl,hk,ao⟩:=jT ha
    have X:(uV L (k:Int)).isSome=true:=by rw[ha];rfl
    have aj:f_ (t.extract (r.pos+1) (D.2.2+1))=ag t (r.pos+1)::(Cu I.2.1++(enc D.2.1++[62,ag t D.2.2])):=by
     grind[sQ,kC,yD,vq]
    have am:(f_ (t.extract (r.pos+1) (D.2.2+1))).length=D.2.2-r.pos:=by rw[sQ (by omega),Jv];omega
    have Y:∀st,uD ⟨t.extract (r.pos+1) (D.2.2+1),(r.pos:Int)+1⟩ ⟨st,ag t (r.pos+1),I.2.1,D.2.1,ag t D.2.2⟩:=
     λst=>⟨q1,g1,a1,U,aj,by simp only;omega⟩
    refine⟨ny L (k:Int) λn=>{n with trans:=n.trans++[⟨t.extract (r.pos+1) (D.2.2+1),(r.pos:Int)+1⟩]},by
     unfold mn;rw[q'];simp only[show dz 58=false by decide,bp,bj,show((58:Int)==41||(58:Int)==93)=false by decide,show((58:Int)==58)=true by decide,aV];rw[aq ⟨by omega,by omega,by omega,X⟩,Z]
     rfl,by omega,?_,xU.mod _ _ _ (λn=>⟨rfl,rfl⟩)⟩
    have O:∀(k':Nat) (n:RN),(ny L (k:Int) λn=>{n with trans:=n.trans++[⟨t.extract (r.pos+1) (D.2.2+1),(r.pos:Int)+1⟩]})[k']? =some n->∃m,L[k']? =some m/\n.enter=m.enter/\n.cA=m.cA/\n.trans=if k=k' then m.trans++[⟨t.extract (r.pos+1) (D.2.2+1),(r.pos:Int)+1⟩]else m.trans:=by
     grind[iq,hm]
    refine⟨?_,?_,?_,?_,?_,?_,?_,?_,?_,(Cv h (by intro n;rfl)).1,(Cv h (by intro n;rfl)).2⟩
    ·exact(uE _ _ _ (by intro n;rfl)).trans h.ai
    ·intro k' n J
     obtain⟨m,hm,_,_,e3⟩:=O k' n J;rw[e3,ic]
     split
     ·rename_i e
      subst e;rw[show List.filter (pE k) [(⟨(k:Int),ag t (r.pos+1),I.2.1,D.2.1,ag t D.2.2⟩:Tr)]=[⟨(k:Int),ag t (r.pos+1),I.2.1,D.2.1,ag t D.2.2⟩]by simp[pE]];exact(h.cW k m hm).snoc (Y _)
     rename_i e;rw[show List.filter (pE k') [(⟨(k:Int),ag t (r.pos+1),I.2.1,D.2.1,ag t D.2.2⟩:Tr)]=[]by simp[pE];omega,i_];exact h.cW k' m hm
    ·intro k' n J
     obtain⟨m,hm,e1,_,_⟩:=O k' n J;rw[e1];exact h.nR k' m hm
    ·intro k' n J
     obtain⟨m,hm,_,e2,_⟩:=O k' n J;rw[e2];exact h.rJ k' m hm
    ·intro x F
     rw[sR]
     rcases cB.1 F with F|F
     ·exact h.ts x F
     simp_all
    ·intro x F;rw[sR];exact h.bs x F
    ·intro u
     rw[mq,mq,h.us]
     have hU:∀st,u∈ug ⟨t.extract (r.pos+1) (D.2.2+1),(r.pos:Int)+1⟩ ⟨st,ag t (r.pos+1),I.2.1,D.2.1,ag t D.2.2⟩↔(dS (ag t (r.pos+1))=true/\u=⟨ag t (r.pos+1),((r.pos+1:Nat):Int)⟩)\/(dS (ag t D.2.2)=true/\u=⟨ag t D.2.2,(D.2.2:Int)⟩):=by
      grind[ug,dS,ag]
     constructor
     ·rintro((⟨k',n,rt,x,J,G,F,hu⟩|hu)|hu)
      ·by_cases e:k=k'
       ·subst e
        refine⟨k,{n with trans:=n.trans++[⟨t.extract (r.pos+1) (D.2.2+1),(r.pos:Int)+1⟩]},rt,x,?_,?_,F,hu⟩
        ·grind[iq]
        simp[G]
       exact⟨k',n,rt,x,by rw[iq,ay e];exact J,G,F,hu⟩
      ·refine⟨k,{nd with trans:=nd.trans++[⟨t.extract (r.pos+1) (D.2.2+1),(r.pos:Int)+1⟩]},_,_,?_,?_,Y 0,(hU 0).2 (Or.inl hu)⟩
       ·grind[iq]
       simp
      refine⟨k,{nd with trans:=nd.trans++[⟨t.extract (r.pos+1) (D.2.2+1),(r.pos:Int)+1⟩]},_,_,?_,?_,Y 0,(hU 0).2 (Or.inr hu)⟩
      ·grind[iq]
      simp
     rintro⟨k',n,rt,x,J,G,F,hu⟩;obtain⟨m,hm,_,_,e3⟩:=O k' n J;rw[e3]at G
     split at G
     ·rcases cB.1 G with G|G
      ·grind
      simp at G;subst G;have e1:=F.Qy;grind[ag,DV,ug]
     grind
    ·have hb:∀u∈dJ (ag t (r.pos+1)) (r.pos+1) r.cN,u.pos<(D.2.2:Int):=by
      intro u hu
      rcases mq.1 hu with hu|⟨_,rfl⟩
      ·have:=h.lo u hu;omega
      simp only;omega
     exact yF (yF h.so (λu hu=>by have:=h.lo u hu;omega)) hb
    intro u hu;simp only
    rcases mq.1 hu with hu|⟨_,rfl⟩
    ·rcases mq.1 hu with hu|⟨_,rfl⟩
     ·have:=h.lo u hu;omega
     grind
    grind
   simp_all
  simp_all
 simp_all
theorem Ll{t:ByteArray}{r:Rs}{L:List RN}{D:Int}{nd:RN}(h:NR L r)(hq:(ag t r.pos==94||ag t r.pos==36)=true)(ha:uV L D=some nd)(ht:(block t D r).1=true):
 ∃L',mn t r.pos D L=some ((block t D r).2.pos-1,D,L')/\1<=(block t D r).2.pos/\NR L' (block t D r).2/\xU L L':=by
 have hp:r.pos<t.size:=by
  grind[cY]
 unfold block at ht⊢;have UT:=DU (t:=t) (cl:=59) (p:=r.pos+1) (by decide) hp;generalize bD t 59 (r.pos+1)=E at*
 by_cases q3:E.1=true
 ·rw[aq q3]
  obtain⟨a1,a2,a3,a4,a5⟩:=UT q3;simp only;obtain⟨k,rfl,hk,ad⟩:=jT ha
  have U:(uV L (k:Int)).isSome=true:=by rw[ha];rfl
  have O:ag t r.pos=94\/ag t r.pos=36:=by simp at hq;omega
  have Y:iz t r.pos 59=E.2.2-1:=by
   apply DT (by omega) (by omega) _ a5;grind[kC,G6]
  have X:f_ (t.extract (r.pos+1) (E.2.2-1))=enc E.2.1:=by rw[sQ (by omega),a4]
  have Z:∀st sg,OB (t.extract (r.pos+1) (E.2.2-1)) ⟨st,sg,E.2.1⟩:=λst sg=>⟨a1,X⟩
  refine⟨ny L (k:Int) λn=>if ag t r.pos==94 then {n with enter:=n.enter++[t.extract (r.pos+1) (E.2.2-1)]}else {n with cA:=n.cA++[t.extract (r.pos+1) (E.2.2-1)]},by
   unfold mn
   have e1:dz (ag t r.pos)=false:=by rcases O with e|e<;>rw[e]<;>decide
   have e2:(ag t r.pos==41||ag t r.pos==93)=false:=by rcases O with e|e<;>rw[e]<;>decide
   have e3:(ag t r.pos==58)=false:=by rcases O with e|e<;>rw[e]<;>decide
   simp only[e1,e2,e3,hq,bp,bj,aV]
   rw[aq ⟨by omega,U⟩,Y],by omega,?_,xU.mod _ _ _ (λn=>by split<;>exact⟨rfl,rfl⟩)⟩
  have J:∀(k':Nat) (n:RN),(ny L (k:Int) λn=>if ag t r.pos==94 then {n with enter:=n.enter++[t.extract (r.pos+1) (E.2.2-1)]}else {n with cA:=n.cA++[t.extract (r.pos+1) (E.2.2-1)]})[k']? =some n->
   ∃m,L[k']? =some m/\n.trans=m.trans/\(n.enter=if k=k'/\ag t r.pos=94 then m.enter++[t.extract (r.pos+1) (E.2.2-1)]else m.enter)/\(n.cA=if k=k'/\ag t r.pos=36 then m.cA++[t.extract (r.pos+1) (E.2.2-1)]else m.cA):=by
   grind[iq,hm]
  have G:∀k' sg,(r.eR++[(⟨(k:Int),ag t r.pos,E.2.1⟩:Bl)]).filter (oC k' sg)=r.eR.filter (oC k' sg)++if k=k'/\ag t r.pos=sg then[⟨(k:Int),ag t r.pos,E.2.1⟩]else[]:=by
   grind[ag,oC]
  refine⟨?_,?_,?_,?_,?_,?_,?_,h.so,?_,(Cv h (by intro n;split<;>rfl)).1,(Cv h (by intro n;split<;>rfl)).2⟩
  ·exact(uE _ _ _ (by intro n;split<;>rfl)).trans h.ai
  ·intro k' n I
   obtain⟨m,hm,e1,_,_⟩:=J k' n I;rw[e1];exact h.cW k' m hm
  ·intro k' n I
   obtain⟨m,hm,_,e2,_⟩:=J k' n I;rw[e2,G]
   split
   ·exact(h.nR k' m hm).snoc (Z _ _)
   rw[i_];exact h.nR k' m hm
  ·intro k' n I
   obtain⟨m,hm,_,_,e3⟩:=J k' n I;rw[e3,G]
   split
   ·exact(h.rJ k' m hm).snoc (Z _ _)
   rw[i_];exact h.rJ k' m hm
  ·intro x F;rw[sR];exact h.ts x F
  ·intro x F
   rw[sR]
   rcases cB.1 F with F|F
   ·exact h.bs x F
   simp_all
  ·intro u
   rw[h.us]
   constructor
   ·rintro⟨k',n,rt,x,I,hr,F,hu⟩
    by_cases e:k=k'
    ·exact⟨k',_,rt,x,by rw[iq,aq e,I];rfl,by split<;>exact hr,F,hu⟩
    exact⟨k',n,rt,x,by rw[iq,ay e];exact I,hr,F,hu⟩
   grind
  intro u hu;have:=h.lo u hu;grind
 simp_all
theorem j3(L:List RN)(i:Int):(iD L i).length=L.length:=by
 grind[iD,sR]
theorem kV(L:List RN)(i:Int)(k:Nat)(n:RN)(h:(iD L i)[k]? =some n):∃m,L[k]? =some m/\n.trans=m.trans/\n.enter=m.enter/\n.cA=m.cA/\n.parent=m.parent/\n.name=m.name/\n.pos=m.pos/\(n.kind=m.kind\/m.kind=1/\n.kind=2)/\(i=(k:Int)->n.kind≠1):=by
 grind[iD,jT,iq,uV]
theorem Lm(L:List RN)(i:Int):xU L (iD L i):=by
 intro k n D;grind[iD,j3,hm,kV,Nv]
theorem OC(L:List RN)(i:Int)(x:St)(hi:i<L.length):(iD L i).map RN.st++[x]=bU i (L.map RN.st++[x]):=by
 unfold iD bU
 cases i with
 |negSucc j=>rfl
 |ofNat j=>?_
 have D:j<L.length:=by simpa using hi
 have e1:uV L (Int.ofNat j)=_:=ar D
 have e2:(L.map RN.st++[x])[j]? =some L[j].st:=by
  grind
 rw[e1];simp only[e2];have e3:(L[j].st.kind==1)=(L[j].kind==1):=rfl;rw[e3]
 split
 ·have:(L.map RN.st++[x]).set j {L[j].st with kind:=2}=(L.map RN.st).set j {L[j].st with kind:=2}++[x]:=by
   simp_all
  rw[this]
  congr 1
  apply eL;intro k;rw[bw,show(ny L (Int.ofNat j) λn=>{n with kind:=2})[k]? =_ from iq (L:=L) (k:=j) k]
  by_cases e:j=k
  ·subst e
   rw[aq rfl,jF (by simpa using D),ar D];rfl
  simp_all
 rfl
theorem RG{t:ByteArray}{r:Rs}{L:List RN}(op parent:Int)(Ar:parent<L.length)(aj: -1<=parent)(am:eH op=4\/eH op=5->0<=parent)(Y:∀p,uV L parent=some p->Nv p)(h:NR L r)(ht:(bh t op parent r).1=true):
 NR (iD L parent++[⟨ag t r.pos,eH op,parent,r.pos,[],[],[]⟩]) (bh t op parent r).2:=by
 unfold bh at*
 by_cases q:dS (ag t r.pos)=true
 ·rw[aq q]
  simp only
  have ad:L.length=r.ai.length:=by rw[<-h.ai];simp
  have I:∀(k':Nat) (n:RN),(iD L parent++[⟨ag t r.pos,eH op,parent,r.pos,[],[],[]⟩])[k']? =some n->(∃m,L[k']? =some m/\n.trans=m.trans/\n.enter=m.enter/\n.cA=m.cA)\/(k'=L.length/\n.trans=[]/\n.enter=[]/\n.cA=[]):=by
   grind[iD,kV,j3]
  have Z:∀(l:List Tr),(∀x∈l,x.state<(L.length:Int))->l.filter (pE L.length)=[]:=by
   intro l F;rw[List.filter_eq_nil_iff];grind[pE]
  have Gf:∀(sg:Int) (l:List Bl),(∀x∈l,x.state<(L.length:Int))->l.filter (oC L.length sg)=[]:=by
   intro sg l F;rw[List.filter_eq_nil_iff];grind[oC]
  refine⟨?_,?_,?_,?_,?_,?_,?_,h.so,?_,?_,?_⟩
  ·rw[nG]
   have:=OC L parent ⟨ag t r.pos,r.pos,eH op,parent⟩ Ar;rw[h.ai]at this;exact this
  ·intro k' n D
   rcases I k' n D with⟨m,hm,e1,_,_⟩|⟨rfl,e1,_,_⟩
   ·rw[e1];exact h.cW k' m hm
   rw[e1,Z _ h.ts];exact .nil
  ·intro k' n D
   rcases I k' n D with⟨m,hm,_,e1,_⟩|⟨rfl,_,e1,_⟩
   ·rw[e1];exact h.nR k' m hm
   rw[e1,Gf _ _ h.bs];exact .nil
  ·intro k' n D
   rcases I k' n D with⟨m,hm,_,_,e1⟩|⟨rfl,_,_,e1⟩
   ·rw[e1];exact h.rJ k' m hm
   rw[e1,Gf _ _ h.bs];exact .nil
  ·intro x U;have:=h.ts x U;grind[j3]
  ·intro x U;have:=h.bs x U;grind[j3]
  ·intro u
   rw[h.us]
   constructor
   ·rintro⟨k',n,rt,x,D,hr,U,hu⟩
    have aa:=(aJ.1 D).1
    have E:k'<(iD L parent).length:=by rw[j3];exact aa
    obtain⟨m,hm,e1,_⟩:=kV L parent k' _ (ar E);rw[D]at hm;simp at hm;subst hm;exact⟨k',_,rt,x,by rw[nU E];exact ar E,by rw[e1];exact hr,U,hu⟩
   grind
  ·intro u hu;have:=h.lo u hu;grind
  ·intro k' n D
   rcases jA k' (iD L parent).length with F|F
   ·rw[nU F]at D
    obtain⟨m,X,_,_,_,e1,e2,e3,e4,_⟩:=kV L parent k' n D;have:=h.wf k' m X;grind
   rw[kr F]at D
   have J:k'-(iD L parent).length=0:=by
    grind
   grind[j3,eH]
  intro k' n p D hp
  have wC:∀(j:Nat) (m:RN),(iD L parent++[⟨ag t r.pos,eH op,parent,r.pos,[],[],[]⟩])[j]? =some m->j<L.length->(iD L parent)[j]? =some m:=by
   grind[j3]
  obtain⟨j,hj,O,_⟩:=jT hp
  rcases jA k' (iD L parent).length with F|F
  ·rw[nU F]at D
   obtain⟨m,X,_,_,_,e1,_,_,_,_⟩:=kV L parent k' n D;have hw:=h.wf k' m X;rw[j3]at F;obtain⟨m',G,_,_,_,_,_,_,e4,_⟩:=kV L parent j p (wC j p O (by omega));have:=h.pk k' m m' X (by rw[<-e1,hj];exact G);omega
  rw[kr F]at D
  have J:k'-(iD L parent).length=0:=by
   grind
  rw[J]at D;simp at D;subst D;simp only at hj hp;obtain⟨m',G,_,_,_,_,_,_,e4,e5⟩:=kV L parent j p (wC j p O (by omega));have hb:=Y m' (by rw[hj];exact G);grind[Nv]
 simp_all
theorem NR.move{L:List RN}{r:Rs}(h:NR L r){p:Nat}(D:r.pos<=p):NR L {r with pos:=p}:=
 ⟨h.ai,h.cW,h.nR,h.rJ,h.ts,h.bs,h.us,h.so,λu hu=>by have:=h.lo u hu;simp only;omega,h.wf,h.pk⟩
theorem xU.push(L:List RN)(x:RN):xU L (L++[x]):=λk n hn=>⟨n,by rw[nU (aJ.1 hn).1];exact hn,rfl,id⟩
def Xf(t:ByteArray)(it:Int->Int->Rs->Bool×Rs):Prop:=∀(D cl:Int) (r:Rs) (L:List RN) (nd:RN),(cl=41\/cl=93)->Ok t r->NR L r->uV L D=some nd->Nv nd->(it D cl r).1=true->
 ∃L',NR L' (it D cl r).2/\xU L L'/\∀E,im t (it D cl r).2.pos nd.parent L' E->im t r.pos D L E
theorem Bk{t:ByteArray}{it:Int->Int->Rs->Bool×Rs}(Ga:Xf t it){r:Rs}{L:List RN}{parent:Int}(h:NR L r)(ok:Ok t r)(hq:dz (ag t r.pos)=true)
 (Ar:(parent<0/\(ag t r.pos=40\/ag t r.pos=91))\/∃nd,uV L parent=some nd/\Nv nd) (Z: -1<=parent) (D:(bL t it parent r).1=true):
 ∃L',NR L' (bL t it parent r).2/\xU L L'/\∀E,im t (bL t it parent r).2.pos parent L' E->im t r.pos parent L E:=by
 have hp:=jM hq;obtain⟨⟨d1,d2,d3,d4⟩,h5⟩:=ok;have hn:=lk (t:=t) (r:={r with pos:=r.pos+1}) (ag t r.pos) parent ⟨⟨by simp only;omega,by simp only;omega,by simp only;omega,by simp only;omega⟩,by simp only;omega⟩
 have U:parent<L.length:=by
  grind[jT]
 have aa:=λhh=>RG (t:=t) (r:={r with pos:=r.pos+1}) (ag t r.pos) parent U Z (by
  rcases Ar with⟨_,e|e⟩|⟨nd,e,_⟩
  ·rw[e];intro x;exact absurd x (by decide)
  ·rw[e];intro x;exact absurd x (by decide)
  ·obtain⟨k,rfl,_,_⟩:=jT e;omega) (by
  intro p F
  rcases Ar with⟨e,_⟩|⟨nd,e,b⟩
  ·obtain⟨k,rfl,_,_⟩:=jT F;omega
  rw[e]at F;simp at F;subst F;exact b) (h.move (by omega)) hh
 have aj:dS (ag t (r.pos+1))=true->(bh t (ag t r.pos) parent {r with pos:=r.pos+1}).2.pos=r.pos+2:=by
  grind[bh]
 have ad:(bh t (ag t r.pos) parent {r with pos:=r.pos+1}).1=dS (ag t (r.pos+1)):=by
  grind[bh,dS,ag]
 unfold bL at D⊢;generalize bh t (ag t r.pos) parent {r with pos:=r.pos+1}=s at*
 by_cases q1:s.1=true
 ·rw[aq q1]at D⊢
  have q2:dS (ag t (r.pos+1))=true:=by rw[<-ad];exact q1
  have am:=lO q2;have e:=aj q2;have J:=aa q1;simp only at J
  have dE:mn t r.pos parent L=some (if ag t r.pos==60 then r.pos+2 else r.pos+1,if ag t r.pos==60||ag t r.pos==42 then parent else L.length,iD L parent++[⟨ag t (r.pos+1),eH (ag t r.pos),parent,r.pos+1,[],[],[]⟩]):=by
   grind[mn]
  rw[show((r.pos+1:Nat):Int)=(r.pos:Int)+1 by omega]at J;generalize Y:iD L parent++[(⟨ag t (r.pos+1),eH (ag t r.pos),parent,(r.pos:Int)+1,[],[],[]⟩:RN)]=I at*
  have G:xU L I:=by rw[<-Y];exact(Lm L parent).trans (xU.push _ _)
  have O:uV I (L.length:Int)=some ⟨ag t (r.pos+1),eH (ag t r.pos),parent,(r.pos:Int)+1,[],[],[]⟩:=by
   show I[L.length]? =_;grind[j3]
  have X:L.length=r.ai.length:=by rw[<-h.ai];simp
  rcases nw _ hq with q|q|q|q
  ·rw[q]at D dE⊢
   simp only[show((40:Int)==40)=true by decide,aV]at D⊢;rw[<-X]at D⊢;obtain⟨L',g1,g2,g3⟩:=Ga L.length 41 s.2 I _ (Or.inl rfl) hn.1 J O (by unfold Nv;rw[q];simp only;decide) D;refine⟨L',g1,G.trans g2,λE hr=>im.step hp dE ?_⟩;simp_all
  ·rw[q]at D dE⊢
   simp only[show((91:Int)==40)=false by decide,show((91:Int)==91)=true by decide,aV,bp,bj]at D⊢;rw[<-X]at D⊢;obtain⟨L',g1,g2,g3⟩:=Ga L.length 93 s.2 I _ (Or.inr rfl) hn.1 J O (by unfold Nv;rw[q];simp only;decide) D;refine⟨L',g1,G.trans g2,λE hr=>im.step hp dE ?_⟩;simp_all
  ·rw[q]at D dE⊢
   simp only[show((60:Int)==40)=false by decide,show((60:Int)==91)=false by decide,show((60:Int)==60)=true by decide,aV,bp,bj]at D⊢;simp only[cL,D,aV];refine⟨I,J.move (by omega),G,λE hr=>im.step hp dE ?_⟩;simp_all
  grind[im.step]
 simp_all
theorem Lo{t:ByteArray}:∀n,Xf t (aP t n):=by
 intro n
 induction n with
 |zero=>intro D cl r L nd _ _ _ _ _ h;grind[aP]
 |succ n ih=>?_
 intro D cl r L nd J ok h U hb F;obtain⟨k,aa,_,ad⟩:=jT U;simp only[aP]at F⊢
 split at F
 ·rename_i q
  rw[aq q]
  by_cases O:(bL t (aP t n) D r).1=true
  ·rw[aq O]at F⊢
   have hs:=jl (it:=aP t n) (λa c s hc hs=>jZ n a c s hc hs) D (jM q) ok;obtain⟨X,g1,g2,g3⟩:=Bk ih h ok q (Or.inr ⟨nd,U,hb⟩) (by omega) O;obtain⟨Z,G,e',b'⟩:=g2.at_ U;obtain⟨Y,k1,k2,k3⟩:=ih D cl _ X Z J hs.1 g1 G (b' hb) F;refine⟨Y,k1,g2.trans k2,λI hr=>g3 I (k3 I ?_)⟩;simp_all
  simp_all
 rename_i q;rw[ay q]
 split at F
 ·rename_i q2
  rw[aq q2]
  by_cases O:(transition t D r).1=true
  ·rw[aq O]at F⊢
   have E:=dy (by decide) q2;have hs:=jk D E ok;obtain⟨X,g1,g0,g2,g3⟩:=yG h ok q2 U O;obtain⟨Z,G,e',b'⟩:=g3.at_ U;obtain⟨Y,k1,k2,k3⟩:=ih D cl _ X Z J hs.1 g2 G (b' hb) F;refine⟨Y,k1,g3.trans k2,λI hr=>im.step E g1 ?_⟩;simp_all
  simp_all
 rename_i q2;rw[ay q2]
 split at F
 ·rename_i q3
  rw[aq q3]
  by_cases O:(block t D r).1=true
  ·rw[aq O]at F⊢
   have E:r.pos<t.size:=by
    grind[cY]
   have hs:=p_ D E ok;obtain⟨X,g1,g0,g2,g3⟩:=Ll h q3 U O;obtain⟨Z,G,e',b'⟩:=g3.at_ U;obtain⟨Y,k1,k2,k3⟩:=ih D cl _ X Z J hs.1 g2 G (b' hb) F;refine⟨Y,k1,g3.trans k2,λI hr=>im.step E g1 ?_⟩;simp_all
  simp_all
 rename_i q3;rw[ay q3];simp only at F⊢
 have q4:ag t r.pos=cl:=by simpa using F
 have E:=dy (c:=cl) (by rcases J with rfl|rfl<;>decide) F;simp only[cL,F,aV];refine⟨L,h.move (by omega),xU.refl L,λI hr=>im.step E (j:=r.pos) (up':=nd.parent) (L':=L) ?_ hr⟩;grind[mn,ag]
theorem wD{t:ByteArray}(E:(chart t).1=true):∃L,im t 0 (-1) [] L/\NR L (chart t).2:=by
 unfold chart at E⊢
 by_cases q:(ag t 0==40||ag t 0==91)=true
 ·rw[aq q]at E⊢
  by_cases F:(bL t (aP t (t.size+1)) (-1) r0).1=true
  ·rw[aq F]at E⊢
   have D:dz (ag t r0.pos)=true:=by
    show dz (ag t 0)=true
    grind[dz]
   have G:NR [] r0:=⟨rfl,by simp,by simp,by simp,by simp[r0],by simp[r0],by simp[r0],by simp[r0],by simp[r0],by simp,by simp⟩
   obtain⟨L,g1,g2,g3⟩:=Bk (Lo (t.size+1)) G (ud t) D (Or.inl ⟨by omega,by show ag t 0=40\/ag t 0=91;simpa using q⟩) (by omega) F;refine⟨L,g3 L (.done ?_),g1⟩;grind
  simp_all
 simp_all
def fm(L:List RN)(k:Nat):RN:=L.getD k ⟨0,0,0,0,[],[],[]⟩
theorem dK{L:List RN}{k:Nat}{n:RN}(h:L[k]? =some n):fm L k=n:=by grind[fm]
def sT(L:List RN)(i:Int)(j:Nat):Bool:=(fm L j).parent==i&&(fm L j).kind !=5
def fq(L:List RN)(i:Int):List Nat:=(List.range L.length).filter (sT L i)
def rU(L:List RN)(i:Nat):Bool:=(L.take i).any λm=>m.name==(fm L i).name
def tZ(L:List RN)(i:Nat):Bool:=
 if(fm L i).kind==5||(fm L i).kind==4 then(fm L (fm L i).parent.toNat).kind==3
 else((fm L i).kind==3||(fm L i).kind==2)&&(fq L i).length==0
def mV(L:List RN)(b:Int):Bool:=L.any λm=>m.name==b
def sU(rt:RT):List Us:=[⟨ag rt.text 0,rt.pos⟩,⟨ag rt.text (rt.text.size-1),rt.pos+((rt.text.size:Int)-1)⟩]
def DW(L:List RN):List Us:=L.flatMap λn=>n.trans.flatMap sU
def gV(L:List RN)(D:Int)(u:Us):Int:=if dS u.name&& !mV L u.name&&(decide (D<0)||decide (u.pos<D))then u.pos else D
def pF(L:List RN):Int:=(DW L).foldl (gV L) (-1)
def pG(L:List RN):Int×Int:=
 if 16<L.length then(3,(fm L 16).pos)
 else match(List.range L.length).find? (rU L)with
  |some i=>(4,(fm L i).pos)
  |none=>match(List.range L.length).find? (tZ L)with
   |some i=>(5,(fm L i).pos)
   |none=>if 0<=pF L then(6,pF L)else(0,0)
theorem At{p:Nat->St->Bool}:∀(l:List St) (k:Nat),(∀i s,l[i]? =some s->p (k+i) s=false)->gB p l k= -2:=by
 intro l
 induction l with
 |nil=>intro k _;rfl
 |cons a l E=>?_
 intro k h;have D:=h 0 a rfl;simp only[gB];rw[show p k a=false by simpa using D];simp only[bp,bj];exact E (k+1) (λi s hs=>by rw[show k+1+i=k+(i+1)by omega];exact h (i+1) s (by simpa using hs))
theorem Au{p:Nat->St->Bool}:∀(l:List St) (k i:Nat) (s:St),l[i]? =some s->p (k+i) s=true->(∀j u,j<i->l[j]? =some u->p (k+j) u=false)->gB p l k=s.pos:=by
 intro l
 induction l with
 |nil=>simp_all
 |cons a l G=>?_
 intro k i s E F D;simp only[gB]
 cases i with
 |zero=>
  simp_all
 |succ i=>?_
 rw[show p k a=false by simpa using D 0 a (by omega) rfl];simp only[bp,bj];exact G (k+1) i s (by simpa using E) (by rw[show k+1+i=k+(i+1)by omega];exact F) (λj u hj hu=>by rw[show k+1+j=k+(j+1)by omega];exact D (j+1) u (by omega) (by simpa using hu))
theorem vu{L:List RN}{p:Nat->St->Bool}{q:Nat->Bool}(h:∀(i:Nat) (n:RN),L[i]? =some n->p i n.st=q i):
 gB p (L.map RN.st) 0=match(List.range L.length).find? q with|some i=>(fm L i).pos|none=>-2:=by
 cases e:(List.range L.length).find? q with
 |none=>
  grind[At]
 |some i=>?_
 simp only;rw[List.find?_range_eq_some]at e;obtain⟨e1,e2,e3⟩:=e
 have hi:i<L.length:=by simpa using e2
 have D:=ar hi;rw[dK D]
 have:=Au (p:=p) (L.map RN.st) 0 i L[i].st (by rw[bw,D];rfl) (by rw[gw,h i _ D];exact e1)
  (λj u hj hu=>by
   rw[bw,nJ]at hu;obtain⟨n,D,rfl⟩:=hu;rw[gw,h j n D];have:=e3 j hj
   simpa using this)
 rw[this];rfl
theorem kW(c:Int):∀(l:List St) (k:Nat),(py c l k= -2/\∀s∈l,s.name≠c)\/∃(i:Nat) (s:St),l[i]? =some s/\s.name=c/\py c l k=((k+i:Nat):Int)/\∀(j:Nat) (u:St),j<i->l[j]? =some u->u.name≠c:=by
 intro l
 induction l with
 |nil=>intro k;exact Or.inl ⟨rfl,by simp⟩
 |cons a l E=>?_
 intro k
 by_cases h:a.name=c
 ·grind[py]
 have D:(a.name==c)=false:=by simpa using h
 simp only[py,D,bp,bj]
 rcases E (k+1)with⟨e,f⟩|⟨i,s,e1,e2,e3,F⟩
 ·simp_all
 refine Or.inr ⟨i+1,s,by simpa using e1,e2,by rw[e3];omega,λj u hj hu=>?_⟩
 grind
theorem UW{L:List RN}{i:Nat}{n:RN}(E:L[i]? =some n):decide (place (L.map RN.st) n.st.name<(i:Int))=rU L i:=by
 have hi:=(aJ.1 E).1;unfold rU;rw[dK E];unfold place
 rcases kW n.st.name (L.map RN.st) 0 with⟨_,e2⟩|⟨j,s,e1,e2,e3,G⟩
 ·grind
 rw[e3,gw];rw[bw,nJ]at e1;obtain⟨m,hm,rfl⟩:=e1
 by_cases J:j<i
 ·have:((j:Int)<(i:Int)):=by omega
  rw[gz this]
  symm
  rw[nX];refine⟨m,?_,by have D:m.name=n.name:=e2;simpa using D⟩;rw[List.mem_take_iff_getElem];grind
 have:¬((j:Int)<(i:Int)):=by omega
 rw[e_ this]
 symm
 rw[List.any_eq_false];intro x F;rw[List.mem_take_iff_getElem]at F;obtain⟨O,I,he⟩:=F;have:x.name≠n.name:=G O x.st (by omega) (by rw[bw,ar (by omega),he];rfl);simp_all
theorem qy(ss:List St)(parent:Int):∀(f k:Nat),(eS ss parent f k= -2/\∀j,k<=j->j<k+f->aW ss j parent=false)\/∃j:Nat,k<=j/\j<k+f/\aW ss j parent=true/\eS ss parent f k=(j:Int):=by
 intro f
 induction f with
 |zero=>intro k;exact Or.inl ⟨rfl,λj h1 h2=>by omega⟩
 |succ f D=>?_
 grind[eS,aW]
theorem oY{L:List RN}{i:Int}{j:Nat}(h:j<L.length):aW (L.map RN.st) (j:Int) i=sT L i j:=by
 have D:=ar h;unfold aW sT;rw[dK D,gR,bw,D];rfl
theorem UX{L:List RN}{r:Rs}(h:NR L r){i:Nat}{n:RN}(E:L[i]? =some n):mg (L.map RN.st) (i:Int)=tZ L i:=by
 have hi:=(aJ.1 E).1;have hw:=h.wf i n E;unfold mg tZ;rw[gR,bw,E,dK E];simp only[Option.map_some];have e1:n.st.kind=n.kind:=rfl;have e2:n.st.parent=n.parent:=rfl;rw[e1,e2]
 by_cases c1:(n.kind==5||n.kind==4)=true
 ·rw[aq c1,aq c1]
  have F:=hw.2.2.2.1 (by simp at c1;omega)
  obtain⟨p,F⟩:∃p:Nat,n.parent=p:=⟨n.parent.toNat,by omega⟩
  have D:p<L.length:=by omega
  rw[F];unfold a_;rw[gR,bw,ar D];simp only[Option.map_some,db];rw[dK (ar D)];rfl
 rw[ay c1,ay c1]
 by_cases c2:(n.kind==3||n.kind==2)=true
 ·rw[aq c2,c2,gA]
  unfold dZ;rw[gx]
  rcases qy (L.map RN.st) (i:Int) L.length 0 with⟨e,g⟩|⟨j,_,g2,g3,e⟩
  ·rw[e]
   have:fq L (i:Int)=[]:=by
    unfold fq;rw[List.filter_eq_nil_iff];grind[oY]
   simp_all
  rw[e]
  have I:j<L.length:=by omega
  rw[oY I]at g3
  have:fq L (i:Int)≠[]:=by
   intro G;unfold fq at G;simp_all
  grind
 simp_all
theorem Cw(L:List RN)(b:Int):(place (L.map RN.st) b== -2)= !mV L b:=by
 unfold place mV
 rcases kW b (L.map RN.st) 0 with⟨e,g⟩|⟨j,s,e1,e2,e3,_⟩
 ·rw[e]
  have:(L.any λm=>m.name==b)=false:=by
   rw[List.any_eq_false];intro x E;have:x.name≠b:=g x.st (ib.2 ⟨x,E,rfl⟩);simp_all
  simp_all
 rw[e3];rw[bw,nJ]at e1;obtain⟨m,hm,rfl⟩:=e1
 have:(L.any λm=>m.name==b)=true:=by
  rw[nX];exact⟨m,aM hm,by have D:m.name=b:=e2;simpa using D⟩
 grind
theorem Bm{L:List RN}:∀(l:List Us) (b:Int),(∀u∈l,0<=u.pos)->
 (l.foldl (gV L) b=b/\(∀u∈l,dS u.name=true->mV L u.name=false->0<=b/\b<=u.pos))\/
 (∃u∈l,dS u.name=true/\mV L u.name=false/\l.foldl (gV L) b=u.pos/\(b<0\/u.pos<b)/\∀v∈l,dS v.name=true->mV L v.name=false->u.pos<=v.pos):=by
 intro l
 induction l with
 |nil=>simp_all
 |cons a l G=>?_
 intro b D;rw[List.foldl_cons];have E:=D a (by simp)
 have F:∀u∈l,0<=u.pos:=λu hu=>D u (by simp[hu])
 by_cases c:(dS a.name&& !mV L a.name&&(decide (b<0)||decide (a.pos<b)))=true
 ·grind[gV]
 grind[gV]
theorem DX(ss:List St):∀(l:List Us),l.Pairwise (λa b=>a.pos<b.pos)->
 (ei ss l= -2/\∀u∈l,(place ss u.name== -2)=false)\/(∃u∈l,(place ss u.name== -2)=true/\ei ss l=u.pos/\∀v∈l,(place ss v.name== -2)=true->u.pos<=v.pos):=by
 intro l
 induction l with
 |nil=>intro _;exact Or.inl ⟨rfl,by simp⟩
 |cons a l D=>?_
 intro h;rw[List.pairwise_cons]at h;grind[ei,place]
theorem cF(t:ByteArray):(f_ t).length=t.size:=by simp[f_]
theorem tL(t:ByteArray)(k:Nat)(h:k<t.size):(f_ t)[k]? =some (ag t k):=by
 unfold f_ ag;rw[bw,dif_pos h]
 have D:k<t.data.toList.length:=by simpa using h
 rw[ar D];rfl
theorem uD.ends{rt:RT}{x:Tr}(h:uD rt x):2<=rt.text.size/\ag rt.text 0=x.qP/\ag rt.text (rt.text.size-1)=x.target:=by
 have D:=gr List.length h.Qy;rw[cF]at D;simp at D
 have E:(f_ rt.text)[0]? =some x.qP:=by rw[h.Qy];rfl
 have F:(f_ rt.text).getLast?=some x.target:=by rw[h.Qy,DV]
 grind[tL,cF]
theorem vw{L:List RN}{r:Rs}(h:NR L r)(u:Us)(hu:dS u.name=true):u∈DW L↔u∈r.cN:=by
 rw[h.us];unfold DW;simp only[kx]
 constructor
 ·rintro⟨n,J,rt,D,G⟩
  obtain⟨k,hk⟩:=ie J;have F:=h.cW k n hk
  have:∃x,uD rt x:=by
   clear G;generalize List.filter (pE k) r.cW=m at F;generalize n.trans=l at F D
   induction F using rT.ind with
   |nil=>simp_all
   |cons I _ O=>?_
   grind
  obtain⟨x,E⟩:=this;refine⟨k,n,rt,x,hk,D,E,?_⟩;obtain⟨e0,e1,e2⟩:=E.ends;grind[sU,ug,cF]
 rintro⟨k,n,rt,x,hk,D,E,G⟩;refine⟨n,aM hk,rt,D,?_⟩;obtain⟨e0,e1,e2⟩:=E.ends;grind[sU,ug,cF]
theorem vx{L:List RN}{r:Rs}(h:NR L r):∀u∈DW L,0<=u.pos:=by
 intro u hu;unfold DW at hu;simp only[kx]at hu;obtain⟨n,I,rt,J,G⟩:=hu;obtain⟨k,hk⟩:=ie I;have D:=h.cW k n hk
 have:∃x,uD rt x:=by
  clear G;generalize List.filter (pE k) r.cW=m at D;generalize n.trans=l at D J
  induction D using rT.ind with
  |nil=>simp_all
  |cons F _ O=>?_
  grind
 obtain⟨x,E⟩:=this;have:=E.pos;obtain⟨e0,_,_⟩:=E.ends;grind[sU]
theorem OD{L:List RN}{r:Rs}(h:NR L r):pF L=if ei (L.map RN.st) r.cN== -2 then-1 else ei (L.map RN.st) r.cN:=by
 unfold pF
 have D:∀u∈r.cN,dS u.name=true:=by
  intro u hu;obtain⟨k,n,rt,x,_,_,_,I⟩:=(h.us u).1 hu;grind[ug]
 rcases DX (L.map RN.st) r.cN h.so with⟨e,g⟩|⟨u,hu,g1,g2,g3⟩
 ·grind[Bm,DW,vx,vw,Cw]
 have E:=D u hu
 have G:mV L u.name=false:=by rw[Cw]at g1;simpa using g1
 have F:=vx h u ((vw h u E).2 hu);grind[Bm,DW,vx,vw,Cw]
theorem yH{L:List RN}{r:Rs}(h:NR L r):pG L=fa r.ai r.cN:=by
 rw[<-h.ai];unfold pG fa;rw[gx]
 by_cases c:16<L.length
 ·rw[aq c,aq c,bw,ar c,dK (ar c)]
  rfl
 rw[ay c,ay c];have e1:iQ (L.map RN.st)=_:=vu (L:=L) (q:=rU L) (λi n hn=>UW hn);have e2:lq (L.map RN.st)=_:=vu (L:=L) (q:=tZ L) (λi n hn=>UX h hn)
 have F:∀(q:Nat->Bool) i,(List.range L.length).find? q=some i->0<=(fm L i).pos:=by
  intro q i hi
  have E:i<L.length:=by have:=List.mem_of_find?_eq_some hi;simpa using this
  rw[dK (ar E)];exact(h.wf i _ (ar E)).2.2.2.2.2.2
 rw[e1,e2]
 cases c1:(List.range L.length).find? (rU L)with
 |some i=>
  grind
 |none=>?_
 simp only[show((-2:Int)!= -2)=false by decide,bp,bj]
 cases c2:(List.range L.length).find? (tZ L)with
 |some i=>
  grind
 |none=>?_
 simp only[show((-2:Int)!= -2)=false by decide,bp,bj];rw[OD h]
 rcases DX (L.map RN.st) r.cN h.so with⟨e,_⟩|⟨u,hu,_,g2,_⟩
 ·simp_all
 rw[g2]
 have G:0<=u.pos:=by
  obtain⟨k,n,rt,x,hk,J,O,I⟩:=(h.us u).1 hu
  have D:dS u.name=true:=by
   grind[ug]
  exact vx h u ((vw h u D).2 hu)
 grind
