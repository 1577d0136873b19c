import Derived.Test.YtnlbchmfcebeeaaGreatTXp
set_option maxHeartbeats 12800000
set_option maxRecDepth 100000
namespace Go.Proofs.YtnlbchmfcebeeaaGreat
open Go.Proofs.Tryz Ch
open Go.RowKit
namespace Ch
/-! What a stand tells is one of the chart's states,and that stand again. -/
def TL(lo:Int):List Int->Prop
 |a::b::l=>(ez a=true/\lo<=b/\b<=57)/\TL lo l
 | [_]=>False
 | []=>True
theorem TL.even{lo:Int}:∀(n:Nat) {l:List Int},l.length<=n->TL lo l->l.length % 2=0:=by
 intro n
 induction n with
 |zero=>omega
 |succ n E=>?_
 intro l D h
 match l,h with
 | [],_=>rfl
 |a::b::l,h=>have:=E (l:=l) (by simp at D;omega) h.2;grind
theorem TL.append{lo:Int}:∀(n:Nat) {a b:List Int},a.length<=n->TL lo a->TL lo b->TL lo (a++b):=by
 intro n
 induction n with
 |zero=>simp_all
 |succ n F=>?_
 intro a b E D hb
 match a,D with
 | [],_=>exact hb
 |x::y::a,D=>exact⟨D.1,F (by simp at E;omega) D.2 hb⟩
theorem TL.JF{lo:Int}:∀(n:Nat) {l:List Int},TL lo l->TL lo (l.drop (2*n)):=by
 intro n
 induction n with
 |zero=>simp_all
 |succ n D=>?_
 intro l h
 match l,h with
 | [],_=>simp[TL]
 |a::b::l,h=>rw[show 2*(n+1)=2*n+1+1 by omega];simpa using D h.2
theorem TL.Xr{lo:Int}:∀(n:Nat) {l:List Int},TL lo l->TL lo (l.take (2*n)):=by
 intro n
 induction n with
 |zero=>grind[TL]
 |succ n D=>?_
 intro l h
 match l,h with
 | [],_=>simp[TL]
 |a::b::l,h=>rw[show 2*(n+1)=2*n+1+1 by omega];exact⟨h.1,D h.2⟩
def CM(lo:Int)(s:Sd):Prop:=TL lo (f_ s.tm)/\s.tm.size<=16
theorem Vb{lo:Int}(t:ByteArray)(c:Int):∀(f k:Nat) (acc:List Int),TL lo acc->TL lo ((f_ t).drop k)->TL lo (sw t c f k acc):=by
 intro f
 induction f with
 |zero=>intro k acc h _;exact h
 |succ f D=>?_
 intro k acc h hb;simp only[sw]
 split
 ·rename_i c1
  rw[jm c1]at hb
  split
  ·exact D _ _ (TL.append acc.length (aC _) h ⟨hb.1,trivial⟩) hb.2
  exact D _ _ h hb.2
 omega
theorem Ev{lo:Int}(J:lo<=49){m:Ma}(h:CM lo m.s){a:Ac}(E:uW a):CM lo (bW m a).2.s:=by
 unfold bW
 split
 ·omega
 split
 ·rename_i c2
  unfold send
  split
  ·omega
  rename_i c3;obtain⟨D,F⟩:=h
  have e:a.sign=64:=by simpa using c2
  have G:ez a.aF=true/\1<=a.digit/\a.digit<=9:=by
   rcases E with⟨hs,_⟩|⟨_,U⟩|⟨hs,_⟩
   ·omega
   ·omega
   omega
  have hb:=E.byte
  have I:m.s.tm.size % 2=0:=by rw[<-cF];exact TL.even _ (aC _) D
  refine⟨?_,?_⟩
  ·show TL lo (f_ (m.s.tm++strOfNums [a.aF,48+a.digit]))
   rw[rz,kH (by intro x O;simp at O;omega)];exact TL.append _ (aC _) D ⟨⟨G.1,by omega,by omega⟩,trivial⟩
  show(m.s.tm++strOfNums [a.aF,48+a.digit]).size<=16;rw[iJ,cC];grind
 split
 ·obtain⟨D,F⟩:=h
  obtain⟨_,_,g3⟩:=O9 m.s.tm a.aF m.s.tm.size 0 [] rfl (by simp);refine⟨?_,?_⟩
  ·show TL lo (f_ (strOfNums (sw m.s.tm a.aF m.s.tm.size 0 [])))
   rw[kH g3];exact Vb _ _ _ _ _ trivial (by simpa using D)
  show(strOfNums (sw m.s.tm a.aF m.s.tm.size 0 [])).size<=16;rw[cC];grind[Jn]
 grind[qi,fG,gX,CM]
structure lF(ol:Ol)(P:Sd->Prop):Prop where
 act:∀(m:Ma) (a:Ac),uW a->P m.s->P (bW m a).2.s
 set:∀(m:Ma) (i:Int) (v:Bool),P m.s->P (dN m i v).s
 rm:∀(s:Sd) (left:List Bool),P s->P (rem ol.ai s left)
section
variable {ol:Ol} {P:Sd->Prop}
theorem lF.bD(h:lF ol P):∀(l:List Ac) {m:Ma},P m.s->(∀a∈l,uW a)->P (dF l m).s:=by
 intro l
 induction l with
 |nil=>intro m D _;exact D
 |cons a l G=>?_
 intro m D E;simp only[dF];have F:=h.act m a (E a (by simp)) D
 grind
theorem lF.eR(h:lF ol P){k:Nat}{sg:Int}(E:sg=94\/sg=36):∀(l:List Bl) {m:Ma},(∀b∈l,∀k:Nat,∀sg:Int,b.state=k->b.sign=sg->(sg=94\/sg=36)->∀a∈b.bD,uW a)->P m.s->P (d_ k sg l m).s:=by
 intro l
 induction l with
 |nil=>intro m _ D;exact D
 |cons b l G=>?_
 intro m F D;simp only[d_];refine G (λb hb=>F b (by simp[hb])) ?_
 split
 ·rename_i c
  simp only[gy,beq_iff_eq]at c;exact h.bD _ D (F b (by simp) k sg c.1 c.2 E)
 omega
theorem lF.dA(h:lF ol P)(E:uZ ol){m:Ma}(F:P m.s)(k:Nat):P (dA ol m k).s:=by
 have D:=h.eR (k:=k) (.inl rfl) ol.eR E.bl (h.set m k true F);unfold Ch.dA
 split
 ·rw[(qm _ _ _).1];exact D
 exact D
theorem lF.eB(h:lF ol P)(F:uZ ol)(st:List Bool)(E:List Int):∀(f k:Nat) {m:Ma},P m.s->P (eB ol st E f k m).s:=by
 intro f
 induction f with
 |zero=>intro k m D;exact D
 |succ f G=>?_
 intro k m D;simp only[Ch.eB];refine G _ ?_
 split
 ·exact h.dA F D k
 exact D
theorem lF.cM(h:lF ol P)(E:uZ ol)(left:List Bool):∀(k:Nat) {m:Ma},P m.s->P (cM ol left k m).s:=by
 intro k
 induction k with
 |zero=>intro m D;exact D
 |succ k F=>?_
 intro m D;simp only[Ch.cM];refine F ?_
 split
 ·exact h.set _ _ _ (h.eR (.inr rfl) ol.eR E.bl D)
 exact D
theorem lF.fh(h:lF ol P)(E:uZ ol):∀(l:List Int) {m:Ma},P m.s->P (fh ol l m).s:=by
 intro l
 induction l with
 |nil=>intro m D;exact D
 |cons x l G=>?_
 intro m D;simp only[Ch.fh];refine G (h.bD _ D ?_);unfold sE
 split
 ·rename_i y F;exact E.tr y (aM F)
 simp
theorem lF.dC(h:lF ol P)(D:uZ ol){m:Ma}(E:P m.s)(l:List Int):P (dC ol m l).s:=
 h.eB D _ _ _ _ (h.fh D l (h.cM D _ _ (m:={m with s:=Ch.rem ol.ai m.s (cT ol m.s l)}) (h.rm _ _ E)))
theorem lF.rounds(h:lF ol P)(E:uZ ol):∀(n:Nat) {m:Ma},P m.s->P (rounds ol n m).s:=by
 intro n
 induction n with
 |zero=>intro m D;exact D
 |succ n F=>?_
 intro m D;simp only[Ch.rounds]
 split
 ·refine F ?_
  unfold round
  split
  ·split
   ·exact h.dC E D _
   rename_i a q _;exact h.dC E (m:={m with q:=q}) D _
  exact h.dC E D _
 exact D
end
theorem jg{lo:Int}(D:lo<=49)(ol:Ol):lF ol (CM lo):=⟨λ_ _ ha h=>Ev D h ha,λ_ _ _ h=>h,λ_ _ h=>h⟩
def Ew(ss:List St)(s:Sd):Prop:=∀k:Nat,gY ss k=false->bN s k=0
theorem sX{ol:Ol}(E:ol.ai.length<=16):lF ol (λs=>Ew ol.ai s/\s.cd.length=16):=by
 refine⟨λm a _ h=>?_,λm i v h=>h,λs left h=>?_⟩
 ·have:=(yV m a).2
  refine⟨λk hk=>?_,by rw[this];exact h.2⟩;unfold bN;rw[this];exact h.1 k hk
 refine⟨λk hk=>?_,by show(pD _ _ _ _ _ _).length=16;rw[vg];exact h.2⟩;show(pD ol.ai s.act left (min ol.ai.length 16) 0 s.cd).getD k 0=0;rw[yX _ _ _ _ _ _ (by have:=h.2;omega)];rw[ay (by rintro⟨_,_,D⟩;unfold Al at D;rw[hk]at D;simp at D)];exact h.1 k hk
theorem Sa{l m:List Bool}(F:l.length=16)(hm:m.length=16)(h:∀k,bit l k=bit m k):l=m:=by
 apply List.ext_getElem (by omega);intro k D E;have:=h k;grind[bit]
theorem Ex{p:Nat->Bool}:∀(l:List Nat),l.Nodup->(∃i∈l,p i=true)->(∀i∈l,∀j∈l,p i=true->p j=true->i=j)->l.countP p=1:=by
 intro l
 induction l with
 |nil=>simp_all
 |cons a l G=>?_
 intro F D hu;rw[List.nodup_cons]at F;rw[List.countP_cons]
 cases q:p a with
 |true=>
  grind
 |false=>?_
 obtain⟨i,hi,E⟩:=D
 rcases dP.1 hi with rfl|hi
 ·simp_all
 rw[G F.2 ⟨i,hi,E⟩ (λx hx y hy=>hu x (by simp[hx]) y (by simp[hy]))];rfl
theorem Pg{ss:List St}(h:sW ss){l:List Bool}(E:OP ss (bit l)):allFit ss l ss.length=true:=by
 unfold allFit;rw[List.all_eq_true];intro i hi
 have I:i<ss.length:=by simpa using hi
 unfold fits;rw[fC]
 cases q:bit l i with
 |false=>
  simp only[bp,bj]
  have:aN ss i≠ -1:=λe=>by have:=h.root i I e;subst this;rw[E.root]at q;cases q
  simp_all
 |true=>?_
 simp only[aV]
 have X:((aN ss i != -1)&& !has l (aN ss i))=false:=by
  by_cases c:aN ss i= -1
  ·simp_all
  have a:=gE h.up i
  obtain⟨p,e⟩:∃p:Nat,aN ss i=p:=⟨(aN ss i).toNat,by omega⟩
  rw[e,fC,E.TK i p q e];simp
 rw[X];simp only[bp,bj]
 by_cases O:a_ ss i=2
 ·rw[O]
  simp only[show((2:Int)==2)=true from rfl,aV]
  have:tC ss l i true=1:=by
   unfold tC UB;obtain⟨j,F,J⟩:=E.OQ i q O;refine Ex _ List.nodup_range ⟨j,by simpa using(dL F).1,by unfold QS;rw[fC,F,J];rfl⟩ ?_;intro x _ y _ D G;unfold QS at D G;rw[fC]at D G;simp only[gy,beq_iff_eq]at D G;exact E.one i x y O D.2 G.2 D.1 G.1
  simp_all
 by_cases U:a_ ss i=3
 ·rw[U]
  simp only[show((3:Int)==2)=false from rfl,show((3:Int)==3)=true from rfl,bp,bj,aV]
  have:tC ss l i false=0:=by
   unfold tC UB;rw[List.countP_eq_zero];intro x _ D;unfold QS at D;rw[fC]at D;simp only[gy,beq_iff_eq]at D;rw[E.U5 i x q U D.2]at D;simp_all
  simp_all
 have Y:=E.gY i q
 simp_all
theorem Sb{ss:List St}{s:Sd}{t:ByteArray}(I:oJ ss s):∀(f k n:Nat) (l:List Int),k+f<=ss.length->k+f<=l.length->n+((List.range' k f).filter (gY ss)).length<=t.size->
 (∀(j i:Nat),((List.range' k f).filter (gY ss))[j]? =some i->ag t (n+j)=bN s i)->
 ∃E,WO ss t f k n l=some (E,n+((List.range' k f).filter (gY ss)).length)/\E.length=l.length/\∀j,E.getD j 0=if k<=j/\j<k+f/\gY ss j=true then bN s j else l.getD j 0:=by
 intro f
 induction f with
 |zero=>intro k n l _ _ _ _;exact⟨l,rfl,rfl,λj=>by rw[ay (by omega)]⟩
 |succ f J=>?_
 intro k n l hs O F D;rw[List.range'_succ,jI]at F D⊢;simp only[WO]
 cases q:gY ss k with
 |true=>
  rw[q]at F D;simp only[aV,eh]at F D⊢;have G:=D 0 k rfl;rw[l5]at G;have eD:=I k (by omega) q;rw[G,eD]
  have:(decide (t.size<=n)|| !true)=false:=by simp;omega
  rw[this];simp only[bp,bj]
  obtain⟨E,e1,e2,e3⟩:=J (k+1) (n+1) (l.set k (bN s k)) (by omega) (by simp;omega) (by omega) (λj i hj=>by
   have:=D (j+1) i (by simpa using hj)
   rw[show n+1+j=n+(j+1)by omega];exact this)
  grind
 |false=>?_
 grind
theorem Sc{t:ByteArray}(h:TL 49 (f_ t))(F:t.size<=16):wY t=true:=by
 have G:t.size % 2=0:=by rw[<-cF];exact TL.even _ (aC _) h
 rw[RV];unfold OJ
 have E:(decide (16<t.size)||t.size % 2==1)=false:=by simp;omega
 rw[E];simp only[Bool.not_false,gA,List.all_eq_true,List.mem_range];intro k hk;unfold Jy
 rcases Nat.mod_two_eq_zero_or_one k with e|e
 ·have D:=TL.JF (k/2) h
  rw[show 2*(k/2)=k by omega,jm (by omega)]at D;rw[e];exact D.1.1
 have D:=TL.JF (k/2) h;rw[show 2*(k/2)=k-1 by omega,jm (by omega),show k-1+1=k by omega]at D;rw[e];simp only[show((1:Nat)==0)=false from rfl,bp,bj];unfold iw;simp;exact D.1.2
theorem Ph{L:List RN}{ol:Ol}(Z:L.map RN.st=ol.ai)(J:z9 ol)(hB:∀k,k<ol.ai.length->0<=gD ol.ai k/\gD ol.ai k<256){s:Sd}(D:Inv ol s)(hZ:Ew ol.ai s)(hT:CM 49 s)
 (hx: -99<=s.x/\s.x<=99) (hy: -99<=s.y/\s.y<=99) (hz: -99<=s.z/\s.z<=99):take ol.ai (jS ol.ai s) (jq ol.ai s) s.tm s.x s.y s.z=(true,s):=by
 have ad:=J.le
 have aa:ol.ai.length=L.length:=by rw[<-Z];simp
 --the aaB states
 obtain⟨on,F,X⟩:=y_ Z J hB D.yY.lt D.la
 have hA:vd ol.ai (jS ol.ai s)=(s.act,true):=by
  unfold nA at F
  rcases Hj (L:=L) (t:=jS ol.ai s) (by omega) (jS ol.ai s).size 0 (-1) _ _ (TJ L.length) (by omega)with⟨e1,_⟩|⟨Y,G,e1,e2,hs⟩
  ·simp_all
  rw[F]at e1
  obtain rfl:on=Y:=by simpa using e1
  have E:=Sa hs.2.1 D.la (λk=>by rw[<-hs.2.2 k,X.2.2 k]);subst E;rw[Z]at e2;unfold vd Je;rw[e2];simp only;rw[Pg J.qM D.yY];rfl
 --what is Vc
 have aj:∀k,k<ol.ai.length->gY ol.ai k=true->0<=bN s k/\bN s k<256:=by
  intro k hk U;have:=D.cd k hk U;unfold ur at this
  split at this
  ·simp_all
  unfold aW at this
  cases q:rQ ol.ai (place ol.ai (bN s k))with
  |none=>simp_all
  |some x=>?_
  grind[j1,kW,bN,place,gD]
 have hm:min ol.ai.length 16=ol.ai.length:=by omega
 have Xs:f_ (jq ol.ai s)=((List.range ol.ai.length).filter (gY ol.ai)).map (bN s):=by
  grind[jq,jR,hm,kH]
 have iG:(jq ol.ai s).size=((List.range ol.ai.length).filter (gY ol.ai)).length:=by rw[<-cF,Xs];simp
 have O:tD ol.ai (jq ol.ai s)=(s.cd,true):=by
  obtain⟨G,e1,e2,e3⟩:=Sb (t:=jq ol.ai s) D.cd ol.ai.length 0 0 (ix ol.ai) (by omega) (by rw[jP];omega)
   (by rw[iG,lJ];omega)
   (λj i hj=>by
    rw[gw];rw[<-lJ]at hj
    exact(lT Xs (k:=j) (x:=bN s i) (by rw[bw,hj];rfl)).1)
  have E:G=s.cd:=by
   apply List.ext_getElem (by rw[e2,jP,D.lp]);intro k h1 I;have hk:=e3 k
   have ha:G.getD k 0=G[k]:=by simp[List.getD_eq_getElem?_getD,List.getElem?_eq_getElem h1]
   have hb:bN s k=s.cd[k]:=by unfold bN;simp[List.getD_eq_getElem?_getD,List.getElem?_eq_getElem I]
   rw[ha]at hk;rw[hk,<-hb]
   split
   ·rfl
   rename_i c
   have U:gY ol.ai k=false:=by
    grind[gY]
   rw[hZ k U]
   have QU:k<16:=by rw[D.lp]at I;exact I
   show(iS ol.ai 16).getD k 0=0;grind[iS]
  unfold tD;rw[hm,e1];simp only;rw[<-lJ,<-iG,E];simp
 unfold take;rw[hA,O]
 have am:(wY s.tm&&mT s.x&&mT s.y&&mT s.z)=true:=by
  rw[Sc hT.1 hT.2];grind[mT]
 simp_all
/-! A chart at rest;an event that none waits for. -/
def pK(a b:Sd):Prop:=a.act=b.act/\a.x=b.x/\a.y=b.y/\a.z=b.z
theorem Pj{a b:Sd}(h:pK a b)(g:Gd):holds a g=holds b g:=by
 obtain⟨_,D,E,F⟩:=h;grind[holds,var]
theorem H0{a b:Sd}(h:pK a b)(st trg:Int):∀(l:List Tr) (k:Nat),gF a st trg l k=gF b st trg l k:=by
 intro l
 induction l with
 |nil=>intro k;rfl
 |cons t l D=>grind[gF,ue,Pj]
theorem CN{a b:Sd}(h:pK a b)(ol:Ol)(trg:Int):∀(f:Nat) (i:Int),cZ ol a trg f i=cZ ol b trg f i:=by
 intro f
 induction f with
 |zero=>intro i;rfl
 |succ f D=>grind[cZ,ke,H0]
theorem Pk{a b:Sd}(h:pK a b)(ol:Ol)(trg:Int):∀(f k:Nat) (D:List Int),kR ol a trg f k D=kR ol b trg f k D:=by
 intro f
 induction f with
 |zero=>intro k D;rfl
 |succ f E=>?_
 intro k D;simp only[kR]
 have:fJ ol a trg D k=fJ ol b trg D k:=by
  unfold fJ de;rw[h.1,CN h]
 simp_all
theorem Mc{a b:Sd}(h:pK a b)(ol:Ol)(t:Nat):leaves ol a t=leaves ol b t:=by unfold leaves;rw[h.1]
theorem Md{a b:Sd}(h:pK a b)(ol:Ol)(t:Nat):∀(l kept:List Int),gH ol a t l kept=gH ol b t l kept:=by
 intro l
 induction l with
 |nil=>intro kept;rfl
 |cons x l D=>grind[kept,gH,Mc]
theorem H4{a b:Sd}(h:pK a b)(ol:Ol):∀(l acc:List Int),eV ol a l acc=eV ol b l acc:=by
 intro l
 induction l with
 |nil=>intro acc;rfl
 |cons x l D=>?_
 grind[eV,lD,Md]
theorem Me{a b:Sd}(h:pK a b)(ol:Ol)(trg:Int):choose ol a trg=choose ol b trg:=by
 grind[choose,find,Pk,H4]
def TQ(ol:Ol)(s:Sd):Prop:=choose ol s 46=[]
theorem Vd{ol:Ol}{m:Ma}(h:busy ol m=false):TQ ol m.s/\m.q=[]:=by
 unfold busy at h;simp only[Bool.or_eq_false_iff,decide_eq_false_iff_not]at h;exact⟨List.length_eq_zero_iff.1 (by omega),List.length_eq_zero_iff.1 (by omega)⟩
theorem za{ol:Ol}{n:Nat}{m:Ma}(h:(finish ol n m).2.2=0):TQ ol (finish ol n m).1:=by
 grind[finish,busy,rounds,Vd]
theorem H8(s:Sd):pK (bQ s).2.2 s:=by
 unfold bQ;split<;>exact⟨rfl,rfl,rfl,rfl⟩
theorem TQ.av{ol:Ol}{a b:Sd}(h:TQ ol b)(e:pK a b):TQ ol a:=by unfold TQ;rw[Me e];exact h
end Ch
def nwA(cb g n:Nat)(pv:Value)(m:Ma):Array Value:=#[.pointer (some ⟨cb,0,none⟩),.slice (some ⟨g,0,none⟩) n n,pv,.string m.s.tm,.int .i64 m.s.x,.int .i64 m.s.y,.int .i64 m.s.z,.string (strOfNums m.q),.string (strOfNums m.out)]
def iA(w:World)(xb cb g n:Nat)(pv:Value)(m:Ma):Prop:=w.heap[xb]? =some (.cells (nwA cb g n pv m) 274 (0,0))
section
variable {w w':World} {xb cb g n:Nat} {pv:Value} {m:Ma}
theorem iA.cell(h:iA w xb cb g n pv m)(i:Nat):w.cell? ⟨xb,i,none⟩=(nwA cb g n pv m)[i]?:=by unfold iA at h;rw[World.cell?,h];rfl
theorem iA.free(h:iA w xb cb g n pv m)(i:Nat):w.frozen? ⟨xb,i,none⟩=false:=by unfold iA at h;simp[World.frozen?,h]
theorem iA.az{S:Nat->Prop}(h:iA w xb cb g n pv m)(k:Kp S w w')(D:¬S xb):iA w' xb cb g n pv m:=k.at_ h D
theorem iA.H_(h:iA w xb cb g n pv m)(t:ByteArray):iA (w.setCell ⟨xb,3,none⟩ (.string t)) xb cb g n pv {m with s:={m.s with tm:=t}}:=by unfold iA at*;rw[ak _ h];rfl
theorem iA.NJ(h:iA w xb cb g n pv m)(v:Int):iA (w.setCell ⟨xb,4,none⟩ (.int .i64 v)) xb cb g n pv {m with s:={m.s with x:=v}}:=by unfold iA at*;rw[ak _ h];rfl
theorem iA.NK(h:iA w xb cb g n pv m)(v:Int):iA (w.setCell ⟨xb,5,none⟩ (.int .i64 v)) xb cb g n pv {m with s:={m.s with y:=v}}:=by unfold iA at*;rw[ak _ h];rfl
theorem iA.NL(h:iA w xb cb g n pv m)(v:Int):iA (w.setCell ⟨xb,6,none⟩ (.int .i64 v)) xb cb g n pv {m with s:={m.s with z:=v}}:=by unfold iA at*;rw[ak _ h];rfl
theorem iA.GI(h:iA w xb cb g n pv m)(q:List Int):iA (w.setCell ⟨xb,7,none⟩ (.string (strOfNums q))) xb cb g n pv {m with q:=q}:=by unfold iA at*;rw[ak _ h];rfl
theorem iA.xz(h:iA w xb cb g n pv m)(q:List Int):iA (w.setCell ⟨xb,8,none⟩ (.string (strOfNums q))) xb cb g n pv {m with out:=q}:=by unfold iA at*;rw[ak _ h];rfl
end
namespace Ch
theorem Ve{t:ByteArray}{c:Int}{k:Nat}{acc:List Int}(hk:k+1<t.size):sw t c (t.size-k) k acc=sw t c (t.size-(k+2)) (k+2) (if ag t k !=c then acc++[ag t k,ag t (k+1)]else acc):=by
 have F:∀(f k:Nat) (acc:List Int),t.size<=k+f->sw t c f k acc=sw t c (t.size-k) k acc:=by
  intro f
  induction f using Nat.strongRecOn with
  |ind f D=>?_
  intro k acc G
  match f,D with
  |0,_=>simp_all
  |f+1,D=>
   by_cases c1:k+1<t.size
   ·obtain⟨d,E⟩:∃d,t.size-k=d+1:=⟨t.size-k-1,by omega⟩
    grind[sw]
   grind[Cd]
 obtain⟨d,E⟩:∃d,t.size-k=d+1:=⟨t.size-k-1,by omega⟩
 grind[sw]
end Ch
section
variable (w:World)
theorem Ey(t:ByteArray)(b:Int)(ht:t.size<=1000):
 Calls prog 275 #[.string t,.int .u8 b] w λx w'=>x= .returned (.string (strOfNums (sw t b t.size 0 [])))/\w'=w:=by
 go_enter func275,ntmps275
 go_wp2_with fail
 go_loop [5,6] (λtv kv=>∃(k:Nat) (acc:List Int),tv= .string (strOfNums acc)/\kv= .int .i64 k/\k<=t.size+1/\acc.length<=k/\Hid (sw t b t.size 0 []=sw t b (t.size-k) k acc)) (λ_ kv=>t.size+1-(intOf kv).toNat)
 case atStart=>exact⟨0,[],rfl,rfl,aG _,aC _,af rfl⟩
 case round=>
  obtain⟨k,acc,rfl,rfl,hk,ha,F⟩:=hrel
  by_cases G:k+1<t.size
  ·have X:(k:Int)+1<(t.size:Int):=by omega
   have J:k<t.size:=by omega
   have U:(k:Int)<(t.size:Int):=by omega
   have E:ag t k=((t[k]'J).toNat:Int):=by simp[ag,J]
   have D:=Ve (c:=b) (acc:=acc) G;rw[E]at D;have O:=JD (t:=t) (k:=k) (by omega);have iG:=cC acc
   cases q:(((t[k]'J).toNat:Int)!=b)with
   |true=>
    rw[q]at D;simp only[aV]at D;have I:=af (F.out.trans D);have Z:=af (show strOfNums acc++t.extract k (k+2)=strOfNums (acc++[((t[k]'J).toNat:Int),ag t (k+1)])by rw[O,<-jX,E]);clear D O E F;go_wp2
    go_round
    case rel=>exact⟨k+2,_,by first|rw[Z.out]|rfl,by go_num,by omega,by simp;omega,af I.out⟩
    case measure=>simp[intOf];omega
   |false=>?_
   rw[q]at D;simp only[bp,bj]at D;have I:=af (F.out.trans D);clear D O E F;go_wp2
   go_round
   case rel=>exact⟨k+2,acc,rfl,by go_num,by omega,by omega,af I.out⟩
   case measure=>simp[intOf];omega
  have aa:¬(k:Int)+1<(t.size:Int):=by omega
  have Y:=af (F.out.trans (Cd G));go_wp2;go_ret;rw[Y.out];exact⟨rfl,rfl⟩
end
def Se(w w':World)(xb cb g n:Nat)(pv:Value)(m:Ma)(a:Ac)(r:List Int)(rest:ByteArray):Prop:=
 ((bW m a).1=true->f_ rest=r)/\iA w' xb cb g n pv (bW m a).2/\Kp (λk=>k=xb) w w'
section
variable (w:World) (xb cb g n:Nat) (pv:Value) (m:Ma)
theorem Pm(s:ByteArray)(a:Ac)(r:List Int)(h:iA w xb cb g n pv m)(hs:f_ s=vt a++r)(hv:uW a)(eD:m.s.Ok)(a4:m.s.tm.size<=16)(hq:m.Sz 1000000000)(a5:s.size<=1000):
 Calls prog 267 #[.pointer (some ⟨xb,0,none⟩),.string s] w λx w'=>∃rest,x= .returned (.tuple #[.string rest,.bool (bW m a).1])/\Se w w' xb cb g n pv m a r rest:=by
 obtain⟨p0,p1,iG,hd,lG⟩:=OY hs
 have a3:0<s.size:=by omega
 have a1:1<s.size:=by omega
 have D:((s[0]'a3).toNat:Int)=a.sign:=by rw[<-p0];simp[ag,a3]
 have I:((s[1]'a1).toNat:Int)=a.aF:=by rw[<-p1];simp[ag,a1]
 have c3:w.cell? _=some (.string m.s.tm):=h.cell 3;have c4:w.cell? _=some (.int .i64 m.s.x):=h.cell 4;have c5:w.cell? _=some (.int .i64 m.s.y):=h.cell 5;have c6:w.cell? _=some (.int .i64 m.s.z):=h.cell 6;have c7:w.cell? _=some (.string (strOfNums m.q)):=h.cell 7;have c8:w.cell? _=some (.string (strOfNums m.out)):=h.cell 8;have f3:=h.free 3;have f4:=h.free 4;have f5:=h.free 5;have f6:=h.free 6;have f7:=h.free 7;have f8:=h.free 8
 have z7:(strOfNums m.q).size<=1000000000:=by rw[cC];exact hq.1
 have z8:(strOfNums m.out).size<=1000000000:=by rw[cC];exact hq.2
 have h1:=R_ (t:=s) (k:=1) (by omega);rw[p1]at h1;have H:=af h;clear h p0 p1
 have a2:a.sign=33\/a.sign=35\/a.sign=126\/a.sign=64\/a.sign=43\/a.sign=45\/a.sign=61:=by
  rcases hv with⟨h,_⟩|⟨h,_⟩|⟨h,_⟩<;>omega
 rcases a2 with e|e|e|e|e|e|e
 ·-- '!'
  rw[e]at D lG
  have t0:(((s[0]'a3).toNat:Int)==33)=true:=by rw[D];rfl
  have X:bW m a=(true,{m with q:=m.q++[a.aF]}):=by unfold bW;rw[e];rfl
  have HX:=af (show strOfNums m.q++s.extract 1 2=strOfNums (m.q++[a.aF])by rw[h1,<-jX]);have HR:=af (lG rfl);have F:=af X;clear D I hd lG h1 X hs
  go_enter func267,ntmps267
  go_wp2
  go_region
  go_wp2;go_ret2;rw[F.out,HX.out];exact⟨_,rfl,λ_=>HR.out,by rw[F.out];exact(H.out.GI _).az (S:=λ_=>False) (Kp.refl _ _).drew (λx=>x),((Kp.refl _ _).setCell (by intro _;rfl) _).drew⟩
 ·-- '#'
  rw[e]at D lG
  have t0:(((s[0]'a3).toNat:Int)==33)=false:=by rw[D];rfl
  have t1:(((s[0]'a3).toNat:Int)==35)=true:=by rw[D];rfl
  have X:bW m a=(true,{m with out:=m.out++[a.aF]}):=by unfold bW;rw[e];rfl
  have HX:=af (show strOfNums m.out++s.extract 1 2=strOfNums (m.out++[a.aF])by rw[h1,<-jX]);have HR:=af (lG rfl);have F:=af X;clear D I hd lG h1 X hs
  go_enter func267,ntmps267
  go_wp2
  go_region
  go_wp2;go_ret2;rw[F.out,HX.out];exact⟨_,rfl,λ_=>HR.out,by rw[F.out];exact(H.out.xz _).az (S:=λ_=>False) (Kp.refl _ _).drew (λx=>x),((Kp.refl _ _).setCell (by intro _;rfl) _).drew⟩
 ·-- '~'
  rw[e]at D lG
  have t0:(((s[0]'a3).toNat:Int)==33)=false:=by rw[D];rfl
  have t1:(((s[0]'a3).toNat:Int)==35)=false:=by rw[D];rfl
  have t2:(((s[0]'a3).toNat:Int)==126)=true:=by rw[D];rfl
  have X:bW m a=(true,{m with s:=oe m.s a.aF}):=by unfold bW;rw[e];rfl
  have HR:=af (lG rfl);have F:=af X;have E:=af (λw'=>Ey w' m.s.tm a.aF (by omega));rw[<-I]at E;have HB:=af I;clear D I hd lG h1 X hs
  go_enter func267,ntmps267
  go_wp2_with fail
  refine bu (eE E w) ?_;rintro y w1 ⟨rfl,e1⟩;rw[e1];go_wp2;go_ret2;rw[F.out];refine⟨_,rfl,λ_=>HR.out,?_,(Kp.refl _ _).setCell (by intro _;rfl) _⟩;rw[F.out,HB.out];exact H.out.H_ _
 ·-- '@'
  rw[e]at D hd
  have t0:(((s[0]'a3).toNat:Int)==33)=false:=by rw[D];rfl
  have t1:(((s[0]'a3).toNat:Int)==35)=false:=by rw[D];rfl
  have t2:(((s[0]'a3).toNat:Int)==126)=false:=by rw[D];rfl
  have t3:(((s[0]'a3).toNat:Int)==64)=true:=by rw[D];rfl
  obtain⟨U,ap,hr⟩:=hd rfl
  by_cases c:m.s.tm.size=16
  ·have c':((m.s.tm.size:Int)==16)=true:=by rw[c];rfl
   have X:bW m a=(false,m):=by unfold bW Ch.send;rw[e,ay (by decide),aq (by decide),aq (by omega)]
   have F:=af X;clear D I lG h1 X hs hr U hd
   go_enter func267,ntmps267
   go_wp2;go_ret2;rw[F.out];exact⟨_,rfl,(λh=>by rw[F.out]at h;cases h),by rw[F.out];exact H.out,Kp.refl _ _⟩
  have c':((m.s.tm.size:Int)==16)=false:=by simp;omega
  have X:bW m a=(true,{m with s:={m.s with tm:=m.s.tm++strOfNums [a.aF,48+a.digit]}}):=by unfold bW Ch.send;rw[e,ay (by decide),aq (by decide),ay (by omega)]
  have h2:=JD (t:=s) (k:=1) (by omega);have HX:=af (show m.s.tm++s.extract 1 3=m.s.tm++strOfNums [a.aF,48+a.digit]by rw[show(3:Nat)=1+2 by rfl,h2,U];rw[show ag s 1=a.aF by rw[<-I];simp[ag,a1]]);have HR:=af hr;have F:=af X;clear D I lG h1 X hs hr U h2 hd
  go_enter func267,ntmps267
  go_wp2
  go_region
  go_wp2;go_ret2;rw[F.out,HX.out];exact⟨_,rfl,λ_=>HR.out,by rw[F.out];exact(H.out.H_ _).az (S:=λ_=>False) (Kp.refl _ _).drew (λx=>x),((Kp.refl _ _).setCell (by intro _;rfl) _).drew⟩
 ·rw[e]at D hd
  have t0:(((s[0]'a3).toNat:Int)==33)=false:=by rw[D];rfl
  have t1:(((s[0]'a3).toNat:Int)==35)=false:=by rw[D];rfl
  have t2:(((s[0]'a3).toNat:Int)==126)=false:=by rw[D];rfl
  have t3:(((s[0]'a3).toNat:Int)==64)=false:=by rw[D];rfl
  have t4:(((s[0]'a3).toNat:Int)==43)=true:=by rw[D];rfl
  have t5:(((s[0]'a3).toNat:Int)==45)=false:=by rw[D];rfl
  obtain⟨U,ap,hr⟩:=hd rfl
  have ao:2<s.size:=by omega
  have aa:((s[2]'ao).toNat:Int)=48+a.digit:=by rw[<-U];simp[ag,ao]
  have ad:a.aF=120\/a.aF=121\/a.aF=122:=by
   rcases hv with⟨h,_⟩|⟨h,_⟩|⟨_,h,_⟩
   ·omega
   ·omega
   exact tK h
  have aO:=hv.byte;obtain⟨⟨_,_⟩,⟨aj,am,Xt⟩,_⟩:=eD
  have Y:∀(j:Nat) (ov:Int) (J:Int->Ma),j<3->a.aF=120+j->(-99<=ov/\ov<=99)->w.cell? ⟨xb,4+j,none⟩=some (.int .i64 ov)->w.frozen? ⟨xb,4+j,none⟩=false->(∀u,iA (w.setCell ⟨xb,4+j,none⟩ (.int .i64 u)) xb cb g n pv (J u))->bW m a=(mT (ov+a.digit),if mT (ov+a.digit)then J (ov+a.digit)else m)->
   Calls prog 267 #[.pointer (some ⟨xb,0,none⟩),.string s] w λx w'=>∃rest,x= .returned (.tuple #[.string rest,.bool (bW m a).1])/\Se w w' xb cb g n pv m a r rest:=by
   intro j ov J hj el a0 cV fV O X;rw[el]at I
   have G:ov+(((s[2]'ao).toNat:Int)-48)=ov+a.digit:=by rw[aa];omega
   have E:=af (λw'=>uG w' (ov+(((s[2]'ao).toNat:Int)-48)));have Z:=af (ae G X);have HR:=af hr;have HS:=af O
   have lo:0<=((s[2]'ao).toNat:Int)-48:=by omega
   have hi:((s[2]'ao).toNat:Int)-48<=9:=by omega
   have Zf:(j:Int)<3:=by omega
   have aS:((j:Int)).toNat=j:=by omega
   have aI:((s[1]'a1).toNat:Int)-120=j:=by omega
   have qv:mT (ov+(((s[2]'ao).toNat:Int)-48))=mT (ov+a.digit):=by rw[G]
   clear D I aa lG h1 X hs hr U hd G O c4 c5 c6 f4 f5 f6
   go_enter func267,ntmps267
   go_wp2_with fail
   refine bu (eE E w) ?_;rintro y w1 ⟨rfl,e1⟩;rw[e1];clear E e1 w1;generalize mT (ov+(((s[2]'ao).toNat:Int)-48))=bb at*
   cases bb
   ·have F:=af (show bW m a=(false,m)by rw[Z.out.2,<-qv];rfl)
    clear qv Z;go_wp2;go_ret2;rw[F.out];exact⟨_,rfl,(λh=>by rw[F.out]at h;cases h),by rw[F.out];exact H.out,Kp.refl _ _⟩
   have F:=af (show bW m a=(true,J (ov+(((s[2]'ao).toNat:Int)-48)))by rw[Z.out.2,<-qv,Z.out.1];rfl);clear qv Z;go_wp2;go_ret2;rw[F.out];exact⟨_,rfl,λ_=>HR.out,by rw[F.out];exact HS.out _,(Kp.refl _ _).setCell (by intro _;rfl) _⟩
  rcases ad with el|el|el
  ·exact Y 0 m.s.x (λu=>{m with s:={m.s with x:=u}}) (by omega) (by omega) aj c4 f4 (λu=>H.out.NJ u) (by
    unfold bW fG qi gX Ch.var;rw[e,el];simp only[show((43:Int)==33)=false from rfl,show((43:Int)==64)=false from rfl,show((43:Int)==126)=false from rfl,show((43:Int)==35)=false from rfl,show((43:Int)==43)=true from rfl,show((43:Int)==45)=false from rfl,show((120:Int)==120)=true from rfl,show((120:Int)==121)=false from rfl,bp,bj,aV]
    cases mT (m.s.x+a.digit)<;>rfl)
  ·exact Y 1 m.s.y (λu=>{m with s:={m.s with y:=u}}) (by omega) (by omega) am c5 f5 (λu=>H.out.NK u) (by
    unfold bW fG qi gX Ch.var;rw[e,el];simp only[show((43:Int)==33)=false from rfl,show((43:Int)==64)=false from rfl,show((43:Int)==126)=false from rfl,show((43:Int)==35)=false from rfl,show((43:Int)==43)=true from rfl,show((43:Int)==45)=false from rfl,show((121:Int)==120)=false from rfl,show((121:Int)==121)=true from rfl,bp,bj,aV]
    cases mT (m.s.y+a.digit)<;>rfl)
  exact Y 2 m.s.z (λu=>{m with s:={m.s with z:=u}}) (by omega) (by omega) Xt c6 f6 (λu=>H.out.NL u) (by
   unfold bW fG qi gX Ch.var;rw[e,el];simp only[show((43:Int)==33)=false from rfl,show((43:Int)==64)=false from rfl,show((43:Int)==126)=false from rfl,show((43:Int)==35)=false from rfl,show((43:Int)==43)=true from rfl,show((43:Int)==45)=false from rfl,show((122:Int)==120)=false from rfl,show((122:Int)==121)=false from rfl,bp,bj,aV]
   cases mT (m.s.z+a.digit)<;>rfl)
 ·rw[e]at D hd
  have t0:(((s[0]'a3).toNat:Int)==33)=false:=by rw[D];rfl
  have t1:(((s[0]'a3).toNat:Int)==35)=false:=by rw[D];rfl
  have t2:(((s[0]'a3).toNat:Int)==126)=false:=by rw[D];rfl
  have t3:(((s[0]'a3).toNat:Int)==64)=false:=by rw[D];rfl
  have t4:(((s[0]'a3).toNat:Int)==43)=false:=by rw[D];rfl
  have t5:(((s[0]'a3).toNat:Int)==45)=true:=by rw[D];rfl
  obtain⟨U,ap,hr⟩:=hd rfl
  have ao:2<s.size:=by omega
  have aa:((s[2]'ao).toNat:Int)=48+a.digit:=by rw[<-U];simp[ag,ao]
  have ad:a.aF=120\/a.aF=121\/a.aF=122:=by
   rcases hv with⟨h,_⟩|⟨h,_⟩|⟨_,h,_⟩
   ·omega
   ·omega
   exact tK h
  have aO:=hv.byte;obtain⟨⟨_,_⟩,⟨aj,am,Xt⟩,_⟩:=eD
  have Y:∀(j:Nat) (ov:Int) (J:Int->Ma),j<3->a.aF=120+j->(-99<=ov/\ov<=99)->w.cell? ⟨xb,4+j,none⟩=some (.int .i64 ov)->w.frozen? ⟨xb,4+j,none⟩=false->(∀u,iA (w.setCell ⟨xb,4+j,none⟩ (.int .i64 u)) xb cb g n pv (J u))->bW m a=(mT (ov-a.digit),if mT (ov-a.digit)then J (ov-a.digit)else m)->
   Calls prog 267 #[.pointer (some ⟨xb,0,none⟩),.string s] w λx w'=>∃rest,x= .returned (.tuple #[.string rest,.bool (bW m a).1])/\Se w w' xb cb g n pv m a r rest:=by
   intro j ov J hj el a0 cV fV O X;rw[el]at I
   have G:ov-(((s[2]'ao).toNat:Int)-48)=ov-a.digit:=by rw[aa];omega
   have E:=af (λw'=>uG w' (ov-(((s[2]'ao).toNat:Int)-48)));have Z:=af (ae G X);have HR:=af hr;have HS:=af O
   have lo:0<=((s[2]'ao).toNat:Int)-48:=by omega
   have hi:((s[2]'ao).toNat:Int)-48<=9:=by omega
   have Zf:(j:Int)<3:=by omega
   have aS:((j:Int)).toNat=j:=by omega
   have aI:((s[1]'a1).toNat:Int)-120=j:=by omega
   have qv:mT (ov-(((s[2]'ao).toNat:Int)-48))=mT (ov-a.digit):=by rw[G]
   clear D I aa lG h1 X hs hr U hd G O c4 c5 c6 f4 f5 f6
   go_enter func267,ntmps267
   go_wp2_with fail
   refine bu (eE E w) ?_;rintro y w1 ⟨rfl,e1⟩;rw[e1];clear E e1 w1;generalize mT (ov-(((s[2]'ao).toNat:Int)-48))=bb at*
   cases bb
   ·have F:=af (show bW m a=(false,m)by rw[Z.out.2,<-qv];rfl)
    clear qv Z;go_wp2;go_ret2;rw[F.out];exact⟨_,rfl,(λh=>by rw[F.out]at h;cases h),by rw[F.out];exact H.out,Kp.refl _ _⟩
   have F:=af (show bW m a=(true,J (ov-(((s[2]'ao).toNat:Int)-48)))by rw[Z.out.2,<-qv,Z.out.1];rfl);clear qv Z;go_wp2;go_ret2;rw[F.out];exact⟨_,rfl,λ_=>HR.out,by rw[F.out];exact HS.out _,(Kp.refl _ _).setCell (by intro _;rfl) _⟩
  rcases ad with el|el|el
  ·exact Y 0 m.s.x (λu=>{m with s:={m.s with x:=u}}) (by omega) (by omega) aj c4 f4 (λu=>H.out.NJ u) (by
    unfold bW fG qi gX Ch.var;rw[e,el];simp only[show((45:Int)==33)=false from rfl,show((45:Int)==64)=false from rfl,show((45:Int)==126)=false from rfl,show((45:Int)==35)=false from rfl,show((45:Int)==43)=false from rfl,show((45:Int)==45)=true from rfl,show((120:Int)==120)=true from rfl,show((120:Int)==121)=false from rfl,bp,bj,aV]
    cases mT (m.s.x-a.digit)<;>rfl)
  ·exact Y 1 m.s.y (λu=>{m with s:={m.s with y:=u}}) (by omega) (by omega) am c5 f5 (λu=>H.out.NK u) (by
    unfold bW fG qi gX Ch.var;rw[e,el];simp only[show((45:Int)==33)=false from rfl,show((45:Int)==64)=false from rfl,show((45:Int)==126)=false from rfl,show((45:Int)==35)=false from rfl,show((45:Int)==43)=false from rfl,show((45:Int)==45)=true from rfl,show((121:Int)==120)=false from rfl,show((121:Int)==121)=true from rfl,bp,bj,aV]
    cases mT (m.s.y-a.digit)<;>rfl)
  exact Y 2 m.s.z (λu=>{m with s:={m.s with z:=u}}) (by omega) (by omega) Xt c6 f6 (λu=>H.out.NL u) (by
   unfold bW fG qi gX Ch.var;rw[e,el];simp only[show((45:Int)==33)=false from rfl,show((45:Int)==64)=false from rfl,show((45:Int)==126)=false from rfl,show((45:Int)==35)=false from rfl,show((45:Int)==43)=false from rfl,show((45:Int)==45)=true from rfl,show((122:Int)==120)=false from rfl,show((122:Int)==121)=false from rfl,bp,bj,aV]
   cases mT (m.s.z-a.digit)<;>rfl)
 rw[e]at D hd
 have t0:(((s[0]'a3).toNat:Int)==33)=false:=by rw[D];rfl
 have t1:(((s[0]'a3).toNat:Int)==35)=false:=by rw[D];rfl
 have t2:(((s[0]'a3).toNat:Int)==126)=false:=by rw[D];rfl
 have t3:(((s[0]'a3).toNat:Int)==64)=false:=by rw[D];rfl
 have t4:(((s[0]'a3).toNat:Int)==43)=false:=by rw[D];rfl
 have t5:(((s[0]'a3).toNat:Int)==45)=false:=by rw[D];rfl
 obtain⟨U,ap,hr⟩:=hd rfl
 have ao:2<s.size:=by omega
 have aa:((s[2]'ao).toNat:Int)=48+a.digit:=by rw[<-U];simp[ag,ao]
 have ad:a.aF=120\/a.aF=121\/a.aF=122:=by
  rcases hv with⟨h,_⟩|⟨h,_⟩|⟨_,h,_⟩
  ·omega
  ·omega
  exact tK h
 have aO:=hv.byte;obtain⟨⟨_,_⟩,⟨aj,am,Xt⟩,_⟩:=eD
 have Y:∀(j:Nat) (ov:Int) (J:Int->Ma),j<3->a.aF=120+j->(-99<=ov/\ov<=99)->w.cell? ⟨xb,4+j,none⟩=some (.int .i64 ov)->w.frozen? ⟨xb,4+j,none⟩=false->(∀u,iA (w.setCell ⟨xb,4+j,none⟩ (.int .i64 u)) xb cb g n pv (J u))->bW m a=(mT (a.digit),if mT (a.digit)then J (a.digit)else m)->
  Calls prog 267 #[.pointer (some ⟨xb,0,none⟩),.string s] w λx w'=>∃rest,x= .returned (.tuple #[.string rest,.bool (bW m a).1])/\Se w w' xb cb g n pv m a r rest:=by
  intro j ov J hj el a0 cV fV O X;rw[el]at I
  have G:(((s[2]'ao).toNat:Int)-48)=a.digit:=by rw[aa];omega
  have E:=af (λw'=>uG w' ((((s[2]'ao).toNat:Int)-48)));have Z:=af (ae G X);have HR:=af hr;have HS:=af O
  have lo:0<=((s[2]'ao).toNat:Int)-48:=by omega
  have hi:((s[2]'ao).toNat:Int)-48<=9:=by omega
  have Zf:(j:Int)<3:=by omega
  have aS:((j:Int)).toNat=j:=by omega
  have aI:((s[1]'a1).toNat:Int)-120=j:=by omega
  have qv:mT ((((s[2]'ao).toNat:Int)-48))=mT (a.digit):=by rw[G]
  clear D I aa lG h1 X hs hr U hd G O c4 c5 c6 f4 f5 f6
  go_enter func267,ntmps267
  go_wp2_with fail
  refine bu (eE E w) ?_;rintro y w1 ⟨rfl,e1⟩;rw[e1];clear E e1 w1;generalize mT ((((s[2]'ao).toNat:Int)-48))=bb at*
  cases bb
  ·have F:=af (show bW m a=(false,m)by rw[Z.out.2,<-qv];rfl)
   clear qv Z;go_wp2;go_ret2;rw[F.out];exact⟨_,rfl,(λh=>by rw[F.out]at h;cases h),by rw[F.out];exact H.out,Kp.refl _ _⟩
  have F:=af (show bW m a=(true,J ((((s[2]'ao).toNat:Int)-48)))by rw[Z.out.2,<-qv,Z.out.1];rfl);clear qv Z;go_wp2;go_ret2;rw[F.out];exact⟨_,rfl,λ_=>HR.out,by rw[F.out];exact HS.out _,(Kp.refl _ _).setCell (by intro _;rfl) _⟩
 rcases ad with el|el|el
 ·exact Y 0 m.s.x (λu=>{m with s:={m.s with x:=u}}) (by omega) (by omega) aj c4 f4 (λu=>H.out.NJ u) (by
   unfold bW fG qi gX Ch.var;rw[e,el];simp only[show((61:Int)==33)=false from rfl,show((61:Int)==64)=false from rfl,show((61:Int)==126)=false from rfl,show((61:Int)==35)=false from rfl,show((61:Int)==43)=false from rfl,show((61:Int)==45)=false from rfl,show((120:Int)==120)=true from rfl,show((120:Int)==121)=false from rfl,bp,bj,aV]
   cases mT (a.digit)<;>rfl)
 ·exact Y 1 m.s.y (λu=>{m with s:={m.s with y:=u}}) (by omega) (by omega) am c5 f5 (λu=>H.out.NK u) (by
   unfold bW fG qi gX Ch.var;rw[e,el];simp only[show((61:Int)==33)=false from rfl,show((61:Int)==64)=false from rfl,show((61:Int)==126)=false from rfl,show((61:Int)==35)=false from rfl,show((61:Int)==43)=false from rfl,show((61:Int)==45)=false from rfl,show((121:Int)==120)=false from rfl,show((121:Int)==121)=true from rfl,bp,bj,aV]
   cases mT (a.digit)<;>rfl)
 exact Y 2 m.s.z (λu=>{m with s:={m.s with z:=u}}) (by omega) (by omega) Xt c6 f6 (λu=>H.out.NL u) (by
  unfold bW fG qi gX Ch.var;rw[e,el];simp only[show((61:Int)==33)=false from rfl,show((61:Int)==64)=false from rfl,show((61:Int)==126)=false from rfl,show((61:Int)==35)=false from rfl,show((61:Int)==43)=false from rfl,show((61:Int)==45)=false from rfl,show((122:Int)==120)=false from rfl,show((122:Int)==121)=false from rfl,bp,bj]
  cases mT (a.digit)<;>rfl)
end
namespace Ch
theorem zb(a:Ac)(l:List Ac):enc (a::l)=vt a++enc l:=by simp[enc]
theorem Ez(a:Ac):2<=(vt a).length:=by unfold vt;split<;>simp
theorem Sf{l:List Ac}{s:ByteArray}(h:f_ s=enc l):(s.size=0↔l=[]):=by
 rw[<-cF,h]
 cases l with
 |nil=>simp[enc]
 |cons a l=>grind[zb,Ez]
end Ch
def Pn(v:Value):Nat:=match v with| .string t=>t.size|_=>0
section
variable (w:World) (xb cb g n:Nat) (pv:Value)
theorem wO(m:Ma)(U:List Ac)(s:ByteArray)(h:iA w xb cb g n pv m)(hs:f_ s=Ch.enc U)(hv:∀a∈U,uW a)(eD:m.s.Ok)(hT:CM 48 m.s)(hq:m.Sz 999990000)(hl:U.length<=1000)(ap:s.size<=1000):
 Calls prog 246 #[.pointer (some ⟨xb,0,none⟩),.string s] w λx w'=>x= .returned (.tuple #[])/\iA w' xb cb g n pv (dF U m)/\Kp (λk=>k=xb) w w':=by
 go_enter func246,ntmps246
 go_wp2_with fail
 go_loopw [1] (λsv wr=>∃(t:ByteArray) (F:List Ac) (D:Ma),sv= .string t/\f_ t=Ch.enc F/\t.size<=1000/\(∀a∈F,uW a)/\Hid (dF U m=dF F D)/\iA wr xb cb g n pv D/\D.s.Ok/\CM 48 D.s/\D.q.length+F.length<=999990000+U.length/\D.out.length+F.length<=999990000+U.length/\Kp (λk=>k=xb) w wr) (λsv _=>Pn sv)
 case atStart=>exact⟨s,U,m,rfl,hs,ap,hv,af rfl,h,eD,hT,by have:=hq.1;omega,by have:=hq.2;omega,Kp.refl _ _⟩
 case round=>
  obtain⟨t,F,D,rfl,X,aI,J,Y,I,O,aa,am,ao,KW⟩:=hrel;have G:=Sf X
  cases has:F with
  |nil=>
   subst has;have h0:=G.2 rfl
   have aO:¬(0:Int)<(t.size:Int):=by omega
   have HR:=af Y.out;clear h hs hv X G Y;go_wp2
   go_end0
   rw[HR.out];exact⟨rfl,I,KW⟩
  |cons a Zg=>?_
  subst has;rw[zb]at X;have hb:=gr List.length X;rw[cF,gu]at hb;have aS:=Ez a
  have h0:(0:Int)<(t.size:Int):=by omega
  simp only[eh]at am ao;have ha:=J a (by simp);have E:=af (Pm wr xb cb g n pv D t a (Ch.enc Zg) I X ha O aa.2 ⟨by omega,by omega⟩ aI);have WX:=Cg D a;have Q1:=yq O a;have aj:=Ev (by omega) aa ha
  cases q1:(bW D a).1 with
  |true=>
   rw[q1]at E;have HF:=af (Y.out.trans (show _=dF Zg (bW D a).2 by simp only[dF];rw[q1];rfl));have HV:=af (λb hb=>J b (pU _ hb));clear h hs hv X G Y I J
   go_wp2_with fail
   refine b9 E ?_;rintro x w2 ⟨rest,rfl,hr,Z,K2⟩;have ad:=hr q1
   have a0:rest.size=(Ch.enc Zg).length:=by rw[<-cF,ad]
   have HK:=af (KW.trans K2);clear E K2 KW hr;go_wp2
   go_roundw
   case rel=>exact⟨rest,Zg,_,rfl,ad,by omega,HV.out,HF,Z,Q1,aj,by omega,by omega,HK.out⟩
   case measure=>simp[Pn];omega
  |false=>?_
  rw[q1]at E;have HF:=af (Y.out.trans (show _={(bW D a).2 with q:=(bW D a).2.q++[122]}by simp only[dF];rw[q1];rfl));clear h hs hv X G Y I J
  go_wp2_with fail
  refine b9 E ?_;rintro x w2 ⟨rest,rfl,_,Z,K2⟩;have HK:=af (KW.trans K2);have c7:w2.cell? _=some (.string (strOfNums (bW D a).2.q)):=Z.cell 7;have f7:=Z.free 7
  have z7:(strOfNums (bW D a).2.q).size<=1000000000:=by rw[cC];omega
  have HM:=af (Z.GI ((bW D a).2.q++[122]));clear E K2 KW Z;go_wp2;refine bg (k9 rfl _ _ _) rfl ?_;rw[HF.out];refine⟨rfl,?_,HK.out.setCell (by intro _;rfl) _⟩
  have e:strOfNums ((bW D a).2.q++[122])=strOfNums (bW D a).2.q++⟨#[122]⟩:=by rw[jX];rfl
  rw[<-e];exact HM.out
end
section
variable (w:World) (xb cb g n:Nat) (pv:Value) (m:Ma)
theorem Ia(rt:RT)(x:Tr)(h:iA w xb cb g n pv m)(hx:uD rt x)(aI:rt.text.size<=1000):
 Calls prog 274 #[.pointer (some ⟨xb,0,none⟩),.string rt.text] w λy w'=>y= .returned (.bool (Ch.holds m.s x.guard))/\Kp (λ_=>False) w w':=by
 obtain⟨iG,hg⟩:=JE hx
 have X:1<rt.text.size:=by omega
 have c4:w.cell? _=some (.int .i64 m.s.x):=h.cell 4;have c5:w.cell? _=some (.int .i64 m.s.y):=h.cell 5;have c6:w.cell? _=some (.int .i64 m.s.z):=h.cell 6;generalize rt.text=s at*
 have E:ag s 1=((s[1]'X).toNat:Int):=by simp[ag,X]
 clear h hx
 rcases hg with⟨h0,J,_⟩|⟨hv,hs,am,ao,h7,h1,h2,h3,h4,_⟩
 ·have t:(((s[1]'X).toNat:Int)!=63)=true:=by rw[<-E];simpa using J
  have HR:=af (show Ch.holds m.s x.guard=true by unfold Ch.holds;rw[h0];rfl);clear E J h0
  go_enter func274,ntmps274
  go_wp2;go_ret;rw[HR.out];exact⟨rfl,Kp.refl _ _⟩
 have t:(((s[1]'X).toNat:Int)!=63)=false:=by rw[<-E,h1];rfl
 have Y:2<s.size:=by omega
 have Z:3<s.size:=by omega
 have aa:4<s.size:=by omega
 have b2:((s[2]'Y).toNat:Int)=x.guard.var:=by rw[<-h2];simp[ag,Y]
 have F:((s[3]'Z).toNat:Int)=x.guard.sign:=by rw[<-h3];simp[ag,Z]
 have b4:((s[4]'aa).toNat:Int)=48+x.guard.digit:=by rw[<-h4];simp[ag,aa]
 obtain⟨I,D⟩:∃I,Ch.var m.s x.guard.var=I:=⟨_,rfl⟩
 have U:x.guard.sign=60\/x.guard.sign=61\/x.guard.sign=62:=by unfold pw at hs;simp at hs;omega
 have O:Ch.holds m.s x.guard=if x.guard.sign==60 then decide (I<x.guard.digit)else if x.guard.sign==61 then I==x.guard.digit else if x.guard.sign==62 then decide (x.guard.digit<I)else true:=by unfold Ch.holds;rw[D]
 have hn:((s[4]'aa).toNat:Int)-48=x.guard.digit:=by omega
 rw[<-hn]at O
 have lo:48<=((s[4]'aa).toNat:Int):=by omega
 have hi:((s[4]'aa).toNat:Int)<=57:=by omega
 have G:∃k:Nat,((s[2]'Y).toNat:Int)=120+k/\k<3/\w.cell? ⟨xb,4+k,none⟩=some (.int .i64 I):=by
  rcases tK hv with e|e|e
  ·exact⟨0,by omega,by omega,by rw[c4,<-D,e];rfl⟩
  ·exact⟨1,by omega,by omega,by rw[c5,<-D,e];rfl⟩
  exact⟨2,by omega,by omega,by rw[c6,<-D,e];rfl⟩
 clear E hn b4 h4 h3 h2 h1 D c4 c5 c6 b2 hv hs;obtain⟨k,hk,ap,ck⟩:=G
 have aj:(k:Int)<3:=by omega
 have ad:(120:Int)+(k:Int)-120=(k:Int):=by omega
 rcases U with e|e|e<;>rw[e]at F O
 all_goals
  have HH:=af O
  first|have t60:(((s[3]'Z).toNat:Int)==60)=true:=by rw[F];rfl|have t60:(((s[3]'Z).toNat:Int)==60)=false:=by rw[F];rfl
  first|have t61:(((s[3]'Z).toNat:Int)==61)=true:=by rw[F];rfl|have t61:(((s[3]'Z).toNat:Int)==61)=false:=by rw[F];rfl
  first|have t62:(((s[3]'Z).toNat:Int)==62)=true:=by rw[F];rfl|have t62:(((s[3]'Z).toNat:Int)==62)=false:=by rw[F];rfl
  clear O F e
  rcases Int.lt_trichotomy I (((s[4]'aa).toNat:Int)-48)with c|c|c
 all_goals
  go_enter func274,ntmps274
  go_wp2
  go_quiet (fail)
  go_wp2;go_ret;rw[HH.out];refine⟨?_,(Kp.refl _ _).drewN _⟩
  first
  |(simp only[show((60:Int)==60)=true from rfl,show((61:Int)==60)=false from rfl,show((61:Int)==61)=true from rfl,show((62:Int)==60)=false from rfl,show((62:Int)==61)=false from rfl,show((62:Int)==62)=true from rfl,aV,bp,bj];simp;done)
  |(simp;omega)
end
namespace Ch
def ai(l:List NV):List St:=(mk l).map RN.st
theorem Sg(l:List NV):(ai l).length=l.length:=by simp[ai,mk]
theorem CO{l:List NV}{i:Nat}{x:NV}(h:l[i]? =some x):aN (ai l) i=x.n.parent:=by
 grind[ai,D4,eI,lz]
theorem Po{l:List NV}{i:Nat}{x:NV}(h:l[i]? =some x):a_ (ai l) i=x.n.kind:=by
 grind[ai,Bt,eI,lz]
end Ch
section
variable (w:World)
theorem Mf(rt:RT)(x:Tr)(U:uD rt x)(aj:rt.text.size<=1000):
 Calls prog 247 #[.string rt.text] w λy w'=>∃t,y= .returned (.string t)/\(f_ t=Ch.enc x.bD/\t.size<=1000)/\w'=w:=by
 obtain⟨iG,hg⟩:=JE U
 have I:1<rt.text.size:=by omega
 generalize rt.text=s at*
 have D:ag s 1=((s[1]'I).toNat:Int):=by simp[ag,I]
 have e2:((s.size:Int)-2).toNat=s.size-2:=by omega
 have J:∀p q,(s.extract p q).size<=1000:=λp q=>by simp;omega
 clear U
 rcases hg with⟨X,F,E⟩|⟨hv,hs,aa,ad,h7,O,Y,Z,h4,E⟩
 ·have t:(((s[1]'I).toNat:Int)==63)=false:=by rw[<-D];simpa using F
  have G:=af E
  have g1:(1:Int)<=(s.size:Int)-2:=by omega
  clear D F X E
  go_enter func247,ntmps247
  go_wp2;go_ret;exact⟨_,rfl,⟨G.out,J _ _⟩,rfl⟩
 have t:(((s[1]'I).toNat:Int)==63)=true:=by rw[<-D,O];rfl
 have G:=af E
 have g1:(5:Int)<=(s.size:Int)-2:=by omega
 clear D O Y Z h4 E hs hv
 go_enter func247,ntmps247
 go_wp2;go_ret;exact⟨_,rfl,⟨G.out,J _ _⟩,rfl⟩
end
section
variable (w:World) (B cb:Nat)
theorem oN(l:List NV)(v:Value)(a:Int)(i:Nat)(hF:jW w B cb l v)(hi:i<l.length)(hu:Up (Ch.ai l))(ha: -1<=a):
 Calls prog 243 #[.pointer (some ⟨cb,0,none⟩),.int .i64 a,.int .i64 i] w λy w'=>y= .returned (.bool (aB (Ch.ai l) a i))/\w'=w:=by
 obtain⟨ao,cap,rfl⟩:=hF.2.1.len;have zc:=hF.cell
 by_cases h0:a<0
 ·have E:=af (show aB (Ch.ai l) a i=true by rw[show a= -1 by omega];exact xV hu (by omega) (by omega))
  clear hF
  go_enter func243,ntmps243
  go_wp2;go_ret;rw[E.out];exact⟨rfl,rfl⟩
 have aa:(i:Int)<(l.length:Int):=by omega
 obtain⟨x,O⟩:∃x,l[i]? =some x:=⟨_,ar hi⟩
 obtain⟨g,Z,hv,_,D,_⟩:=hF.2.1.form O;simp only[aK]at hv;obtain⟨rfl,-,rfl⟩:=hv;have z2:_=some _:=D 2 (by omega);have dE:=et hu a (i:=(i:Int)) (by omega);rw[CO O]at dE;have hp:=hu i ⟨x.n.name,x.n.pos,x.n.kind,x.n.parent⟩ (by unfold Ch.ai Ch.mk;rw[bw,bw,O];rfl);simp only at hp;have J:=af dE;have HF:=af hF;clear hF D dE
 go_enter func243,ntmps243
 go_wp2_with fail
 go_loop [7] (λX=>∃p:Int,X= .int .i64 p/\ -1<=p/\p<l.length/\Hid (aB (Ch.ai l) a i=(p==a||aB (Ch.ai l) a p))) (λX=>(intOf X+1).toNat)
 case atStart=>exact⟨x.n.parent,rfl,hp.1,by omega,J⟩
 case round=>
  obtain⟨p,rfl,aj,am,F⟩:=hrel
  by_cases ad:0<=p
  ·obtain⟨k,rfl⟩:∃k:Nat,p=k:=⟨p.toNat,by omega⟩
   have hk:k<l.length:=by omega
   obtain⟨y,U⟩:∃y,l[k]? =some y:=⟨_,ar hk⟩
   obtain⟨g3,yy,I,_,Y,_⟩:=HF.out.2.1.form U;simp only[aK,bq,dH,bS,dx]at I;obtain⟨rfl,rfl⟩:=I;have zk:_=some _:=Y 2 (by omega);have dE:=et hu a (i:=(k:Int)) (by omega);rw[CO U]at dE;have G:=hu k ⟨y.n.name,y.n.pos,y.n.kind,y.n.parent⟩ (by unfold Ch.ai Ch.mk;rw[bw,bw,U];rfl);simp only at G
   cases q:(k:Int)==a with
   |true=>
    have E:=af (show aB (Ch.ai l) a i=true by rw[F.out,q];rfl);clear dE Y F;go_wp2;go_ret;rw[E.out];exact⟨rfl,rfl⟩
   |false=>?_
   have E:=af (show aB (Ch.ai l) a i=(y.n.parent==a||aB (Ch.ai l) a y.n.parent)by rw[F.out,q,Bool.false_or,dE]);clear dE Y F;go_wp2
   go_round
   case rel=>exact⟨y.n.parent,rfl,G.1,by omega,E⟩
   case measure=>simp[intOf];omega
  have E:=af (show aB (Ch.ai l) a i=false by
   rw[F.out,o_ _ _ (by omega),Bool.or_false]
   have:p≠a:=by omega
   simpa using this)
  clear F;go_wp2;go_ret;rw[E.out];exact⟨rfl,rfl⟩
