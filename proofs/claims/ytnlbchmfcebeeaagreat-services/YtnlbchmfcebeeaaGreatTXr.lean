import Derived.Test.YtnlbchmfcebeeaaGreatTXp
set_option maxHeartbeats 12800000
set_option maxRecDepth 100000
namespace Go.Proofs.YtnlbchmfcebeeaaGreat
open Go.Proofs.Tryz Ch
open Go.RowKit
namespace Ch
/-! What a stand tells is one of the chart's states,and that stand again. -/
def TL(lo:Int):List Int->Prop
 |a::b::l=>(ez a=true/\lo<=b/\b<=57)/\TL lo l
 | [_]=>False
 | []=>True
theorem TL.even{lo}:∀ n {l},l.length<=n->TL lo l->l.length % 2=0:=by
 intro n;induction n with
 |zero=>omega
 |succ n E=>?_
 intro l D h;match l,h with
 | [],_=>rfl
 |a::b::l,h=>have:=E (l:=l) (by simp at D;omega) h.2;grind
theorem TL.append{lo}:∀ n {a b},a.length<=n->TL lo a->TL lo b->TL lo (a++b):=by
 intro n;induction n with
 |zero=>simp_all
 |succ n F=>?_
 intro a b E D hb;match a,D with
 | [],_=>exact hb
 |x::y::a,D=>exact⟨D.1,F (by simp at E;omega) D.2 hb⟩
theorem TL.Oe{lo}:∀ n {l},TL lo l->TL lo (l.drop (2*n)):=by
 intro n;induction n with
 |zero=>simp_all
 |succ n D=>?_
 intro l h;match l,h with
 | [],_=>simp[TL]
 |a::b::l,h=>rw[show 2*(n+1)=2*n+1+1 by omega];simpa using D h.2
theorem TL.abn{lo}:∀ n {l},TL lo l->TL lo (l.take (2*n)):=by
 intro n;induction n with
 |zero=>grind[TL]
 |succ n D=>?_
 intro l h;match l,h with
 | [],_=>simp[TL]
 |a::b::l,h=>rw[show 2*(n+1)=2*n+1+1 by omega];exact⟨h.1,D h.2⟩
def Gv(lo:Int)(s:Sd):Prop:=TL lo (gW s.tm)/\s.tm.size<=16
theorem Y9{lo}t c:∀ f k acc,TL lo acc->TL lo ((gW t).drop k)->TL lo (vt t c f k acc):=by
 intro f;induction f with
 |zero=>intro k acc h _;exact h
 |succ f D=>?_
 intro k acc h hb;simp only[vt];split
 ·rename_i c1;rw[kr c1]at hb;split
  ·exact D _ _ (TL.append acc.length (aC _) h ⟨hb.1,trivial⟩) hb.2
  exact D _ _ h hb.2
 omega
theorem I_{lo}(G:lo<=49){m}(h:Gv lo m.s){a}(D:xS a):Gv lo (cP m a).2.s:=by
 unfold cP;split
 ·omega
 split
 ·rename_i c2;unfold send;split
  ·omega
  rename_i c3;have⟨h1,h2⟩:=h;have e:a.sign=64:=cX c2;have E:ez a.aK=true/\1<=a.digit/\a.digit<=9:=by
   rcases D with⟨hs,_⟩|⟨_,J⟩|⟨hs,_⟩
   ·omega
   ·omega
   omega
  have hb:=D.byte;have F:m.s.tm.size % 2=0:=by rw[<-cL];exact TL.even _ (aC _) h1
  refine⟨?_,?_⟩
  ·show TL lo (gW (m.s.tm++strOfNums [a.aK,48+a.digit]));rw[uE,mg (by intro x I;simp at I;omega)];exact TL.append _ (aC _) h1 ⟨⟨E.1,oQ,oQ⟩,trivial⟩
  show(m.s.tm++strOfNums [a.aK,48+a.digit]).size<=16;rw[jN,dC];grind
 split
 ·have⟨h1,h2⟩:=h;have⟨_,_,g3⟩:=TJ m.s.tm a.aK m.s.tm.size 0 [] rfl dy;refine⟨?_,?_⟩
  ·show TL lo (gW (strOfNums (vt m.s.tm a.aK m.s.tm.size 0 [])));rw[mg g3];exact Y9 _ _ _ _ _ trivial (cX h1)
  show(strOfNums (vt m.s.tm a.aK m.s.tm.size 0 [])).size<=16;rw[dC];grind[NL]
 grind[tu,hY,jb,Gv]
structure nV(ol:Ol)(P:Sd->Prop):Prop where
 act:∀ m a,xS a->P m.s->P (cP m a).2.s
 set:∀ m i v,P m.s->P (eO m i v).s
 rm:∀ s left,P s->P (rem ol.ah s left)
section
variable {ol:Ol} {P:Sd->Prop}
theorem nV.bM(h:nV ol P):∀ l {m},P m.s->(∀a∈l,xS a)->P (eD l m).s:=by
 intro l;induction l with
 |nil=>intro m D _;exact D
 |cons a l G=>?_
 intro m D E;simp only[eD];have F:=h.act m a (E a dy) D;grind
theorem nV.fH(h:nV ol P){k:Nat}{sg}(E:sg=94\/sg=36):∀(l:List Bl) {m},(∀b∈l,∀k:Nat,∀sg,b.state=k->b.sign=sg->(sg=94\/sg=36)->∀a∈b.bM,xS a)->P m.s->P (fa k sg l m).s:=by
 intro l;induction l with
 |nil=>intro m _ D;exact D
 |cons b l G=>?_
 intro m F D;simp only[fa];refine G (λb hb=>F b (by simp[hb])) ?_;split
 ·rename_i c;simp only[fQ,beq_iff_eq]at c;exact h.bM _ D (F b dy k sg c.1 c.2 E)
 omega
theorem nV.dT(h:nV ol P)(E:xV ol){m:Ma}(F:P m.s)(k:Nat):P (dT ol m k).s:=by
 have D:=h.fH (k:=k) (.inl rfl) ol.fH E.bl (h.set m k true F);unfold Ch.dT;split
 ·rw[(tA _ _ _).1];exact D
 exact D
theorem nV.fm(h:nV ol P)(F:xV ol)(st:List Bool)(E:List Int):∀(f k:Nat) {m:Ma},P m.s->P (fm ol st E f k m).s:=by
 intro f;induction f with
 |zero=>intro k m D;exact D
 |succ f G=>?_
 intro k m D;simp only[Ch.fm];refine G _ ?_;split
 ·exact h.dT F D k
 exact D
theorem nV.dD(h:nV ol P)(E:xV ol)(left:List Bool):∀(k:Nat) {m:Ma},P m.s->P (dD ol left k m).s:=by
 intro k;induction k with
 |zero=>intro m D;exact D
 |succ k F=>?_
 intro m D;simp only[Ch.dD];refine F ?_;split
 ·exact h.set _ _ _ (h.fH (.inr rfl) ol.fH E.bl D)
 exact D
theorem nV.gq(h:nV ol P)(E:xV ol):∀(l:List Int) {m:Ma},P m.s->P (gq ol l m).s:=by
 intro l;induction l with
 |nil=>intro m D;exact D
 |cons x l G=>?_
 intro m D;simp only[Ch.gq];refine G (h.bM _ D ?_);unfold sC;split
 ·rename_i y F;exact E.tr y (aP F)
 simp
theorem nV.eh(h:nV ol P)(D:xV ol){m:Ma}(E:P m.s)(l:List Int):P (eh ol m l).s:=
 h.fm D _ _ _ _ (h.gq D l (h.dD D _ _ (m:={m with s:=Ch.rem ol.ah m.s (dM ol m.s l)}) (h.rm _ _ E)))
theorem nV.rounds(h:nV ol P)(E:xV ol):∀(n:Nat) {m:Ma},P m.s->P (rounds ol n m).s:=by
 intro n;induction n with
 |zero=>intro m D;exact D
 |succ n F=>?_
 intro m D;simp only[Ch.rounds];split
 ·refine F ?_;unfold round;split
  ·split
   ·exact h.eh E D _
   rename_i a q _;exact h.eh E (m:={m with q:=q}) D _
  exact h.eh E D _
 exact D
end
theorem kf{lo}(D:lo<=49)ol:nV ol (Gv lo):=⟨λ_ _ ha h=>I_ D h ha,λ_ _ _ h=>h,λ_ _ h=>h⟩
def Ja(ss:List St)(s:Sd):Prop:=∀k,fZ ss k=false->cf s k=0
theorem vM{ol}(E:ol.ah.length<=16):nV ol (λs=>Ja ol.ah s/\s.b_.length=16):=by
 refine⟨λm a _ h=>?_,λm i v h=>h,λs left h=>?_⟩
 ·have:=(Cn m a).2;refine⟨λk hk=>?_,by rw[this];exact h.2⟩;unfold cf;rw[this];exact h.1 k hk
 refine⟨λk hk=>?_,by show(sB _ _ _ _ _ _).length=16;rw[yd];exact h.2⟩;show(sB ol.ah s.act left (min ol.ah.length 16) 0 s.b_).getD k 0=0;rw[Cq _ _ _ _ _ _ (by have:=h.2;omega)];rw[ax (by rintro⟨_,_,D⟩;unfold Dw at D;rw[hk]at D;simp at D)];exact h.1 k hk
theorem Wv{l m}(F:l.length=16)(hm:m.length=16)(h:∀k,bit l k=bit m k):l=m:=by
 apply List.ext_getElem oQ;intro k D E;have:=h k;grind[bit]
theorem Jb{p}:∀(l:List Nat),l.Nodup->(∃i∈l,p i=true)->(∀i∈l,∀j∈l,p i=true->p j=true->i=j)->l.countP p=1:=by
 intro l;induction l with
 |nil=>simp_all
 |cons a l F=>?_
 intro E D hu;rw[List.nodup_cons]at E;rw[List.countP_cons];cases q:p a with
 |true=>
  grind
 |false=>?_
 have⟨i,hi,hpi⟩:=D;rcases dB.1 hi with rfl|hi
 ·simp_all
 rw[F E.2 ⟨i,hi,hpi⟩ (λx hx y hy=>hu x (by simp[hx]) y (by simp[hy]))];rfl
theorem TU{ss}(h:vi ss){l}(E:Md ss (bit l)):allFit ss l ss.length=true:=by
 unfold allFit;rw[kU];intro i hi;have G:i<ss.length:=cX hi;unfold fits;rw[eQ];cases q:bit l i with
 |false=>
  simp only[bu,bf];have:aW ss i≠ -1:=λe=>by have:=h.root i G e;subst this;rw[E.root]at q;cases q
  simp_all
 |true=>?_
 simp only[aQ];have O:((aW ss i != -1)&& !has l (aW ss i))=false:=by
  by_cases c:aW ss i= -1
  ·simp_all
  have a:=iE h.up i;obtain⟨p,e⟩:∃p:Nat,aW ss i=p:=⟨(aW ss i).toNat,oQ⟩
  rw[e,eQ,E.Ts i p q e];simp
 rw[O];simp only[bu,bf];by_cases I:bn ss i=2
 ·rw[I];simp only[show((2:Int)==2)=true from rfl,aQ];have:ij ss l i true=1:=by
   unfold ij th;have⟨j,hj1,hj2⟩:=E.Tt i q I;refine Jb _ List.nodup_range ⟨j,by simpa using(dY hj1).1,by unfold wS;rw[eQ,hj1,hj2];rfl⟩ ?_;intro x _ y _ D F;unfold wS at D F;rw[eQ]at D F;simp only[fQ,beq_iff_eq]at D F;exact E.one i x y I D.2 F.2 D.1 F.1
  simp_all
 by_cases J:bn ss i=3
 ·rw[J];simp only[show((3:Int)==2)=false from rfl,show((3:Int)==3)=true from rfl,bu,bf,aQ];have:ij ss l i false=0:=by
   unfold ij th;rw[List.countP_eq_zero];intro x _ D;unfold wS at D;rw[eQ]at D;simp only[fQ,beq_iff_eq]at D;rw[E.Y1 i x q J D.2]at D;simp_all
  simp_all
 have Q:=E.fZ i q;simp_all
theorem Ww{ss s t}(I:rD ss s):∀ f k n l,k+f<=ss.length->k+f<=l.length->n+((List.range' k f).filter (fZ ss)).length<=t.size->
 (∀ j i,((List.range' k f).filter (fZ ss))[j]? =some i->af t (n+j)=cf s i)->
 ∃E,wo ss t f k n l=some (E,n+((List.range' k f).filter (fZ ss)).length)/\E.length=l.length/\∀j,E.getD j 0=if k<=j/\j<k+f/\fZ ss j=true then cf s j else l.getD j 0:=by
 intro f;induction f with
 |zero=>intro k n l _ _ _ _;exact⟨l,rfl,rfl,λj=>by rw[ax oQ]⟩
 |succ f J=>?_
 intro k n l hs O F D;rw[nu,j9]at F D⊢;simp only[wo];cases q:fZ ss k with
 |true=>
  rw[q]at F D;simp only[aQ,e_]at F D⊢;have G:=D 0 k rfl;rw[kS]at G;have fW:=I k oQ q;rw[G,fW];have:(decide (t.size<=n)|| !true)=false:=il;rw[this];simp only[bu,bf];have⟨E,e1,e2,e3⟩:=J (k+1) (n+1) (l.set k (cf s k)) oQ il oQ (λj i hj=>by
   have:=D (j+1) i (cX hj);rw[show n+1+j=n+(j+1)by omega];exact this)
  grind
 |false=>?_
 grind
theorem Wx{t}(h:TL 49 (gW t))(F:t.size<=16):mJ t=true:=by
 have G:t.size % 2=0:=by rw[<-cL];exact TL.even _ (aC _) h
 rw[N1];unfold tM;have E:(decide (16<t.size)||t.size % 2==1)=false:=il;rw[E];simp only[mG,fC,kU,List.mem_range];intro k hk;unfold tL;rcases Nat.mod_two_eq_zero_or_one k with e|e
 ·have D:=TL.Oe (k/2) h;rw[show 2*(k/2)=k by omega,kr oQ]at D;rw[e];exact D.1.1
 have D:=TL.Oe (k/2) h;rw[show 2*(k/2)=k-1 by omega,kr oQ,show k-1+1=k by omega]at D;rw[e];simp only[show((1:Nat)==0)=false from rfl,bu,bf];unfold jy;simp;exact D.1.2
theorem TV{L:List RN}{ol}(U:L.map RN.st=ol.ah)(J:Co ol)(hB:∀k,k<ol.ah.length->0<=hJ ol.ah k/\hJ ol.ah k<256){s}(D:Inv ol s)(hZ:Ja ol.ah s)(X:Gv 49 s)(hx:-99<=s.x/\s.x<=99)(hy:-99<=s.y/\s.y<=99)(hz:-99<=s.z/\s.z<=99):take ol.ah (j1 ol.ah s) (jI ol.ah s) s.tm s.x s.y s.z=(true,s):=by
 have aa:=J.le;have Y:ol.ah.length=L.length:=by rw[<-U];simp
 have⟨on,hsp,hso⟩:=Cw U J hB D.Cr.lt D.la;have hA:db ol.ah (j1 ol.ah s)=(s.act,true):=by
  unfold iY at hsp;rcases xC (L:=L) (t:=j1 ol.ah s) oQ (j1 ol.ah s).size 0 (-1) _ _ (N2 L.length) oQ with⟨e1,_⟩|⟨R,G,e1,e2,hs⟩
  ·simp_all
  rw[hsp]at e1;obtain rfl:on=R:=cX e1;have E:=Wv hs.2.1 D.la (λk=>by rw[<-hs.2.2 k,hso.2.2 k]);subst E;rw[U]at e2;unfold db oJ;rw[e2];simp only;rw[TU J.tP D.Cr];rfl
 have ab:∀k,k<ol.ah.length->fZ ol.ah k=true->0<=cf s k/\cf s k<256:=by
  intro k hk Q;have:=D.b_ k hk Q;unfold jz at this;split at this
  ·simp_all
  unfold bq at this;cases q:uX ol.ah (place ol.ah (cf s k))with
  |none=>simp_all
  |some x=>?_
  grind[lq,mU,cf,place,hJ]
 have hm:min ol.ah.length 16=ol.ah.length:=oQ;have F:gW (jI ol.ah s)=((List.range ol.ah.length).filter (fZ ol.ah)).map (cf s):=by
  grind[jI,kI,hm,mg]
 have iL:(jI ol.ah s).size=((List.range ol.ah.length).filter (fZ ol.ah)).length:=by rw[<-cL,F];simp
 have O:cK ol.ah (jI ol.ah s)=(s.b_,true):=by
  have⟨G,e1,e2,e3⟩:=Ww (t:=jI ol.ah s) D.b_ ol.ah.length 0 0 (eN ol.ah) oQ (by rw[gR];omega)
   (by rw[iL,jm];omega)
   (λj i hj=>by
    rw[eG];rw[<-jm]at hj;exact(oD F (k:=j) (x:=cf s i) (by rw[bD,hj];rfl)).1)
  have E:G=s.b_:=by
   apply List.ext_getElem (by rw[e2,gR,D.lp]);intro k Z I;have hk:=e3 k;have ha:G.getD k 0=G[k]:=by simp[List.getD_eq_getElem?_getD,List.getElem?_eq_getElem Z]
   have hb:cf s k=s.b_[k]:=by unfold cf;simp[List.getD_eq_getElem?_getD,List.getElem?_eq_getElem I]
   rw[ha]at hk;rw[hk,<-hb];split
   ·rfl
   rename_i c;have Q:fZ ol.ah k=false:=by
    grind[fZ]
   rw[hZ k Q];have Sj:k<16:=by rw[D.lp]at I;exact I
   show(jZ ol.ah 16).getD k 0=0;grind[jZ]
  unfold cK;rw[hm,e1];simp only;rw[<-jm,<-iL,E];simp
 unfold take;rw[hA,O];have ad:(mJ s.tm&&mj s.x&&mj s.y&&mj s.z)=true:=by
  rw[Wx X.1 X.2];grind[mj]
 simp_all
/-! A chart at rest;an event that none waits for. -/
def sP(a b:Sd):Prop:=a.act=b.act/\a.x=b.x/\a.y=b.y/\a.z=b.z
theorem TW{a b}(h:sP a b)g:holds a g=holds b g:=by
 have⟨_,h1,h2,h3⟩:=h;grind[holds,var]
theorem Mq{a b}(h:sP a b)st trg:∀ l k,iF a st trg l k=iF b st trg l k:=by
 intro l;induction l with
 |nil=>intro k;rfl
 |cons t l D=>grind[iF,xa,TW]
theorem Gw{a b}(h:sP a b)ol trg:∀ f i,dU ol a trg f i=dU ol b trg f i:=by
 intro f;induction f with
 |zero=>intro i;rfl
 |succ f D=>grind[dU,lL,Mq]
theorem TX{a b}(h:sP a b)ol trg:∀ f k D,mN ol a trg f k D=mN ol b trg f k D:=by
 intro f;induction f with
 |zero=>intro k D;rfl
 |succ f E=>?_
 intro k D;simp only[mN];have:ib ol a trg D k=ib ol b trg D k:=by
  unfold ib dX;rw[h.1,Gw h]
 simp_all
theorem Qj{a b}(h:sP a b)ol t:leaves ol a t=leaves ol b t:=by unfold leaves;rw[h.1]
theorem Qk{a b}(h:sP a b)ol t:∀ l kept,iH ol a t l kept=iH ol b t l kept:=by
 intro l;induction l with
 |nil=>intro kept;rfl
 |cons x l D=>grind[kept,iH,Qj]
theorem Mr{a b}(h:sP a b)ol:∀ l acc,gD ol a l acc=gD ol b l acc:=by
 intro l;induction l with
 |nil=>intro acc;rfl
 |cons x l D=>?_
 grind[gD,nR,Qk]
theorem Ql{a b}(h:sP a b)ol trg:choose ol a trg=choose ol b trg:=by
 grind[choose,find,TX,Mr]
def XP(ol:Ol)(s:Sd):Prop:=choose ol s 46=[]
theorem Za{ol m}(h:busy ol m=false):XP ol m.s/\m.q=[]:=by
 unfold busy at h;simp only[Bool.or_eq_false_iff,decide_eq_false_iff_not]at h;exact⟨List.length_eq_zero_iff.1 oQ,List.length_eq_zero_iff.1 oQ⟩
theorem Cx{ol n m}(h:(finish ol n m).2.2=0):XP ol (finish ol n m).1:=by
 grind[finish,busy,rounds,Za]
theorem Ms s:sP (cC s).2.2 s:=by
 unfold cC;split<;>exact⟨rfl,rfl,rfl,rfl⟩
theorem XP.av{ol a b}(h:XP ol b)(e:sP a b):XP ol a:=by unfold XP;rw[Ql e];exact h
end Ch
def nwA(cb g n:Nat)(pv:Value)(m:Ma):Array Value:=#[.pointer (some ⟨cb,0,none⟩),.slice (some ⟨g,0,none⟩) n n,pv,.string m.s.tm,.int .i64 m.s.x,.int .i64 m.s.y,.int .i64 m.s.z,.string (strOfNums m.q),.string (strOfNums m.out)]
def jD(w:World)(xb cb g n:Nat)(pv:Value)(m:Ma):Prop:=w.heap[xb]? =some (.cells (nwA cb g n pv m) 274 (0,0))
section
variable {w w':World} {xb cb g n:Nat} {pv:Value} {m:Ma}
theorem jD.cell(h:jD w xb cb g n pv m)i:w.cell? ⟨xb,i,none⟩=(nwA cb g n pv m)[i]?:=by unfold jD at h;rw[World.cell?,h];rfl
theorem jD.free(h:jD w xb cb g n pv m)i:w.frozen? ⟨xb,i,none⟩=false:=by unfold jD at h;simp[World.frozen?,h]
theorem jD.aB{S}(h:jD w xb cb g n pv m)(k:Kp S w w')(D:¬S xb):jD w' xb cb g n pv m:=k.at_ h D
theorem jD.Mt(h:jD w xb cb g n pv m)t:jD (w.setCell ⟨xb,3,none⟩ (.string t)) xb cb g n pv {m with s:={m.s with tm:=t}}:=by unfold jD at*;rw[ar _ h];rfl
theorem jD.Se(h:jD w xb cb g n pv m)v:jD (w.setCell ⟨xb,4,none⟩ (.int .i64 v)) xb cb g n pv {m with s:={m.s with x:=v}}:=by unfold jD at*;rw[ar _ h];rfl
theorem jD.Sf(h:jD w xb cb g n pv m)v:jD (w.setCell ⟨xb,5,none⟩ (.int .i64 v)) xb cb g n pv {m with s:={m.s with y:=v}}:=by unfold jD at*;rw[ar _ h];rfl
theorem jD.Sg(h:jD w xb cb g n pv m)v:jD (w.setCell ⟨xb,6,none⟩ (.int .i64 v)) xb cb g n pv {m with s:={m.s with z:=v}}:=by unfold jD at*;rw[ar _ h];rfl
theorem jD.Ll(h:jD w xb cb g n pv m)q:jD (w.setCell ⟨xb,7,none⟩ (.string (strOfNums q))) xb cb g n pv {m with q:=q}:=by unfold jD at*;rw[ar _ h];rfl
theorem jD.Az(h:jD w xb cb g n pv m)q:jD (w.setCell ⟨xb,8,none⟩ (.string (strOfNums q))) xb cb g n pv {m with out:=q}:=by unfold jD at*;rw[ar _ h];rfl
end
namespace Ch
theorem Zb{t c k acc}(hk:k+1<t.size):vt t c (t.size-k) k acc=vt t c (t.size-(k+2)) (k+2) (if af t k !=c then acc++[af t k,af t (k+1)]else acc):=by
 have F:∀(f k:Nat) (acc:List Int),t.size<=k+f->vt t c f k acc=vt t c (t.size-k) k acc:=by
  intro f;induction f using Nat.strongRecOn with
  |ind f D=>?_
  intro k acc G;match f,D with
  |0,_=>simp_all
  |f+1,D=>
   by_cases c1:k+1<t.size
   ·obtain⟨d,E⟩:∃d,t.size-k=d+1:=⟨t.size-k-1,oQ⟩
    grind[vt]
   grind[FN]
 obtain⟨d,E⟩:∃d,t.size-k=d+1:=⟨t.size-k-1,oQ⟩
 grind[vt]
end Ch
theorem Jc w t b(ht:t.size<=1000):
 Calls prog 275 #[.string t,.int .u8 b] w λx w'=>x= .returned (.string (strOfNums (vt t b t.size 0 [])))/\w'=w:=by
 go_in;go_wp;go_loop [5,6] (λtv kv=>∃(k:Nat) (acc:List Int),tv= .string (strOfNums acc)/\kv= .int .i64 k/\k<=t.size+1/\acc.length<=k/\Hid (vt t b t.size 0 []=vt t b (t.size-k) k acc)) (λ_ kv=>t.size+1-(intOf kv).toNat)
 case atStart=>exact⟨0,[],rfl,rfl,aA _,aC _,ag rfl⟩
 case round=>
  obtain⟨k,acc,rfl,rfl,hk,Z,F⟩:=hrel;by_cases G:k+1<t.size
  ·have R:(k:Int)+1<(t.size:Int):=oQ;have J:k<t.size:=oQ;have Q:(k:Int)<t.size:=oQ;have E:af t k=((t[k]'J).toNat:Int):=by simp[af,J]
   have D:=Zb (c:=b) (acc:=acc) G;rw[E]at D;have O:=Oc (t:=t) (k:=k) oQ;have iL:=dC acc;cases q:(((t[k]'J).toNat:Int)!=b)with
   |true=>
    rw[q]at D;simp only[aQ]at D;have I:=ag (F.trans D);have X:=ag (show strOfNums acc++t.extract k (k+2)=strOfNums (acc++[((t[k]'J).toNat:Int),af t (k+1)])by rw[O,<-lj,E]);clear D O E F;go_wp2;exact⟨⟨k+2,_,by first|rw[X]|rfl,eb,oQ,by simp;omega,ag I⟩,ew⟩
   |false=>?_
   rw[q]at D;simp only[bu,bf]at D;have I:=ag (F.trans D);clear D O E F;go_wp2;exact⟨⟨k+2,acc,rfl,eb,oQ,oQ,ag I⟩,ew⟩
  have Y:¬(k:Int)+1<(t.size:Int):=oQ;have U:=ag (F.trans (FN G));exact iN U
def Wy(w w':World)(xb cb g n:Nat)(pv:Value)(m:Ma)(a:Ac)(r:List Int)(rest:ByteArray):Prop:=
 ((cP m a).1=true->gW rest=r)/\jD w' xb cb g n pv (cP m a).2/\Kp (λk=>k=xb) w w'
theorem TY w xb cb g n pv m s a r(h:jD w xb cb g n pv m)(hs:gW s=ys a++r)(hv:xS a)(fW:m.s.Ok)(a3:m.s.tm.size<=16)(hq:m.Sz 1000000000)(a4:s.size<=1000):
 Calls prog 267 #[.pointer (some ⟨xb,0,none⟩),.string s] w λx w'=>∃rest,x= .returned (.tuple #[.string rest,.bool (cP m a).1])/\Wy w w' xb cb g n pv m a r rest:=by
 obtain⟨p0,p1,iL,Z,nP⟩:=TF hs;have a2:0<s.size:=oQ;have a0:1<s.size:=oQ;have D:((s[0]'a2).toNat:Int)=a.sign:=by rw[<-p0];simp[af,a2]
 have J:((s[1]'a0).toNat:Int)=a.aK:=by rw[<-p1];simp[af,a0]
 have c3:w.cell? _=some (.string m.s.tm):=h.cell 3;have c4:w.cell? _=some (.int .i64 m.s.x):=h.cell 4;have c5:w.cell? _=some (.int .i64 m.s.y):=h.cell 5;have c6:w.cell? _=some (.int .i64 m.s.z):=h.cell 6;have c7:w.cell? _=some (.string (strOfNums m.q)):=h.cell 7;have c8:w.cell? _=some (.string (strOfNums m.out)):=h.cell 8;have f3:=h.free 3;have f4:=h.free 4;have f5:=h.free 5;have f6:=h.free 6;have f7:=h.free 7;have f8:=h.free 8;have z7:(strOfNums m.q).size<=1000000000:=by rw[dC];exact hq.1
 have z8:(strOfNums m.out).size<=1000000000:=by rw[dC];exact hq.2
 have h1:=Wu (t:=s) (k:=1) oQ;rw[p1]at h1;have H:=ag h;clear h p0 p1;have a1:a.sign=33\/a.sign=35\/a.sign=126\/a.sign=64\/a.sign=43\/a.sign=45\/a.sign=61:=by
  rcases hv with⟨h,_⟩|⟨h,_⟩|⟨h,_⟩<;>omega
 rcases a1 with e|e|e|e|e|e|e
 ·
  rw[e]at D nP;have t0:(((s[0]'a2).toNat:Int)==33)=true:=by rw[D];rfl
  have R:cP m a=(true,{m with q:=m.q++[a.aK]}):=by unfold cP;rw[e];rfl
  have HX:=ag (show strOfNums m.q++s.extract 1 2=strOfNums (m.q++[a.aK])by rw[h1,<-lj]);have HR:=ag (nP rfl);have F:=ag R;clear D J Z nP h1 R hs;go_in;go_wp2;go_region;go_wp2;go_ret2;rw[F,HX];exact⟨_,rfl,λ_=>HR,by rw[F.out];exact(H.out.Ll _).aB (S:=bA) (Kp.refl _ _).drew (λx=>x),((Kp.refl _ _).setCell jF _).drew⟩
 ·
  rw[e]at D nP;have t0:(((s[0]'a2).toNat:Int)==33)=false:=by rw[D];rfl
  have t1:(((s[0]'a2).toNat:Int)==35)=true:=by rw[D];rfl
  have R:cP m a=(true,{m with out:=m.out++[a.aK]}):=by unfold cP;rw[e];rfl
  have HX:=ag (show strOfNums m.out++s.extract 1 2=strOfNums (m.out++[a.aK])by rw[h1,<-lj]);have HR:=ag (nP rfl);have F:=ag R;clear D J Z nP h1 R hs;go_in;go_wp2;go_region;go_wp2;go_ret2;rw[F,HX];exact⟨_,rfl,λ_=>HR,by rw[F];exact(H.out.Az _).aB (S:=bA) (Kp.refl _ _).drew (λx=>x),((Kp.refl _ _).setCell jF _).drew⟩
 ·
  rw[e]at D nP;have t0:(((s[0]'a2).toNat:Int)==33)=false:=by rw[D];rfl
  have t1:(((s[0]'a2).toNat:Int)==35)=false:=by rw[D];rfl
  have t2:(((s[0]'a2).toNat:Int)==126)=true:=by rw[D];rfl
  have R:cP m a=(true,{m with s:=qU m.s a.aK}):=by unfold cP;rw[e];rfl
  have HR:=ag (nP rfl);have F:=ag R;have E:=ag (λw'=>Jc w' m.s.tm a.aK oQ);rw[<-J]at E;have HB:=ag J;clear D J Z nP h1 R hs;go_in;go_wp2_with fail;refine bI (fA E w) ?_;rintro y w1 ⟨rfl,e1⟩;rw[e1];go_wp2;go_ret2;rw[F];refine⟨_,rfl,λ_=>HR,?_,(Kp.refl _ _).setCell jF _⟩;rw[F,HB];exact H.Mt _
 ·
  rw[e]at D Z;have t0:(((s[0]'a2).toNat:Int)==33)=false:=by rw[D];rfl
  have t1:(((s[0]'a2).toNat:Int)==35)=false:=by rw[D];rfl
  have t2:(((s[0]'a2).toNat:Int)==126)=false:=by rw[D];rfl
  have t3:(((s[0]'a2).toNat:Int)==64)=true:=by rw[D];rfl
  have⟨hd2,hs3,hr⟩:=Z rfl;by_cases c:m.s.tm.size=16
  ·have c':((m.s.tm.size:Int)==16)=true:=by rw[c];rfl
   have R:cP m a=(false,m):=by unfold cP Ch.send;rw[e,ax aV,aq aV,aq oQ]
   have F:=ag R;clear D J nP h1 R hs hr hd2 Z;go_in;go_wp2;go_ret2;rw[F];exact⟨_,rfl,(λh=>by rw[F]at h;cases h),by rw[F];exact H,Kp.refl _ _⟩
  have c':((m.s.tm.size:Int)==16)=false:=il;have R:cP m a=(true,{m with s:={m.s with tm:=m.s.tm++strOfNums [a.aK,48+a.digit]}}):=by unfold cP Ch.send;rw[e,ax aV,aq aV,ax oQ]
  have h2:=Oc (t:=s) (k:=1) oQ;have HX:=ag (show m.s.tm++s.extract 1 3=m.s.tm++strOfNums [a.aK,48+a.digit]by rw[show(3:Nat)=1+2 by rfl,h2,hd2];rw[show af s 1=a.aK by rw[<-J];simp[af,a0]]);have HR:=ag hr;have F:=ag R;clear D J nP h1 R hs hr hd2 h2 Z;go_in;go_wp2;go_region;go_wp2;go_ret2;rw[F,HX];exact⟨_,rfl,λ_=>HR,by rw[F];exact(H.Mt _).aB (S:=bA) (Kp.refl _ _).drew (λx=>x),((Kp.refl _ _).setCell jF _).drew⟩
 ·rw[e]at D Z;have t0:(((s[0]'a2).toNat:Int)==33)=false:=by rw[D];rfl
  have t1:(((s[0]'a2).toNat:Int)==35)=false:=by rw[D];rfl
  have t2:(((s[0]'a2).toNat:Int)==126)=false:=by rw[D];rfl
  have t3:(((s[0]'a2).toNat:Int)==64)=false:=by rw[D];rfl
  have t4:(((s[0]'a2).toNat:Int)==43)=true:=by rw[D];rfl
  have t5:(((s[0]'a2).toNat:Int)==45)=false:=by rw[D];rfl
  have⟨hd2,hs3,hr⟩:=Z rfl;have am:2<s.size:=oQ;have Y:((s[2]'am).toNat:Int)=48+a.digit:=by rw[<-hd2];simp[af,am]
  have aa:a.aK=120\/a.aK=121\/a.aK=122:=by
   rcases hv with⟨h,_⟩|⟨h,_⟩|⟨_,h,_⟩
   ·omega
   ·omega
   exact wF h
  have ap:=hv.byte;obtain⟨⟨_,_⟩,⟨ab,ad,aj⟩,_⟩:=fW
  have U:∀(j:Nat) (I:Int) (O:Int->Ma),j<3->a.aK=120+j->(-99<=I/\I<=99)->w.cell? ⟨xb,4+j,none⟩=some (.int .i64 I)->w.frozen? ⟨xb,4+j,none⟩=false->(∀u,jD (w.setCell ⟨xb,4+j,none⟩ (.int .i64 u)) xb cb g n pv (O u))->cP m a=(mj (I+a.digit),if mj (I+a.digit)then O (I+a.digit)else m)->
   Calls prog 267 #[.pointer (some ⟨xb,0,none⟩),.string s] w λx w'=>∃rest,x= .returned (.tuple #[.string rest,.bool (cP m a).1])/\Wy w w' xb cb g n pv m a r rest:=by
   intro j I O hj el aS cV fV Q R;rw[el]at J;have G:I+(((s[2]'am).toNat:Int)-48)=I+a.digit:=by rw[Y];omega
   have E:=ag (λw'=>oC w' (I+(((s[2]'am).toNat:Int)-48)));have X:=bw G R;have HR:=ag hr;have HS:=ag Q;have lo:0<=((s[2]'am).toNat:Int)-48:=oQ;have hi:((s[2]'am).toNat:Int)-48<=9:=oQ;have aI:(j:Int)<3:=oQ;have aO:((j:Int)).toNat=j:=oQ;have ao:((s[1]'a0).toNat:Int)-120=j:=oQ;have qv:mj (I+(((s[2]'am).toNat:Int)-48))=mj (I+a.digit):=by rw[G]
   clear D J Y nP h1 R hs hr hd2 Z G Q c4 c5 c6 f4 f5 f6;go_in;go_wp2_with fail;refine bI (fA E w) ?_;rintro y w1 ⟨rfl,e1⟩;rw[e1];clear E e1 w1;generalize mj (I+(((s[2]'am).toNat:Int)-48))=bb at*;cases bb
   ·have F:=ag (show cP m a=(false,m)by rw[X.2,<-qv];rfl);clear qv X;go_wp2;go_ret2;rw[F];exact⟨_,rfl,(λh=>by rw[F]at h;cases h),by rw[F];exact H,Kp.refl _ _⟩
   have F:=ag (show cP m a=(true,O (I+(((s[2]'am).toNat:Int)-48)))by rw[X.2,<-qv,X.1];rfl);clear qv X;go_wp2;go_ret2;rw[F];exact⟨_,rfl,λ_=>HR,by rw[F];exact HS _,(Kp.refl _ _).setCell jF _⟩
  rcases aa with el|el|el
  ·exact U 0 m.s.x (λu=>{m with s:={m.s with x:=u}}) oQ oQ ab c4 f4 (λu=>H.Se u) (by
    unfold cP hY tu jb Ch.var;rw[e,el];simp only[show((43:Int)==33)=false from rfl,show((43:Int)==64)=false from rfl,show((43:Int)==126)=false from rfl,show((43:Int)==35)=false from rfl,show((43:Int)==43)=true from rfl,show((43:Int)==45)=false from rfl,show((120:Int)==120)=true from rfl,show((120:Int)==121)=false from rfl,bu,bf,aQ];cases mj (m.s.x+a.digit)<;>rfl)
  ·exact U 1 m.s.y (λu=>{m with s:={m.s with y:=u}}) oQ oQ ad c5 f5 (λu=>H.Sf u) (by
    unfold cP hY tu jb Ch.var;rw[e,el];simp only[show((43:Int)==33)=false from rfl,show((43:Int)==64)=false from rfl,show((43:Int)==126)=false from rfl,show((43:Int)==35)=false from rfl,show((43:Int)==43)=true from rfl,show((43:Int)==45)=false from rfl,show((121:Int)==120)=false from rfl,show((121:Int)==121)=true from rfl,bu,bf,aQ];cases mj (m.s.y+a.digit)<;>rfl)
  exact U 2 m.s.z (λu=>{m with s:={m.s with z:=u}}) oQ oQ aj c6 f6 (λu=>H.Sg u) (by
   unfold cP hY tu jb Ch.var;rw[e,el];simp only[show((43:Int)==33)=false from rfl,show((43:Int)==64)=false from rfl,show((43:Int)==126)=false from rfl,show((43:Int)==35)=false from rfl,show((43:Int)==43)=true from rfl,show((43:Int)==45)=false from rfl,show((122:Int)==120)=false from rfl,show((122:Int)==121)=false from rfl,bu,bf,aQ];cases mj (m.s.z+a.digit)<;>rfl)
 ·rw[e]at D Z;have t0:(((s[0]'a2).toNat:Int)==33)=false:=by rw[D];rfl
  have t1:(((s[0]'a2).toNat:Int)==35)=false:=by rw[D];rfl
  have t2:(((s[0]'a2).toNat:Int)==126)=false:=by rw[D];rfl
  have t3:(((s[0]'a2).toNat:Int)==64)=false:=by rw[D];rfl
  have t4:(((s[0]'a2).toNat:Int)==43)=false:=by rw[D];rfl
  have t5:(((s[0]'a2).toNat:Int)==45)=true:=by rw[D];rfl
  have⟨hd2,hs3,hr⟩:=Z rfl;have am:2<s.size:=oQ;have Y:((s[2]'am).toNat:Int)=48+a.digit:=by rw[<-hd2];simp[af,am]
  have aa:a.aK=120\/a.aK=121\/a.aK=122:=by
   rcases hv with⟨h,_⟩|⟨h,_⟩|⟨_,h,_⟩
   ·omega
   ·omega
   exact wF h
  have ap:=hv.byte;obtain⟨⟨_,_⟩,⟨ab,ad,aj⟩,_⟩:=fW
  have U:∀(j:Nat) (I:Int) (O:Int->Ma),j<3->a.aK=120+j->(-99<=I/\I<=99)->w.cell? ⟨xb,4+j,none⟩=some (.int .i64 I)->w.frozen? ⟨xb,4+j,none⟩=false->(∀u,jD (w.setCell ⟨xb,4+j,none⟩ (.int .i64 u)) xb cb g n pv (O u))->cP m a=(mj (I-a.digit),if mj (I-a.digit)then O (I-a.digit)else m)->
   Calls prog 267 #[.pointer (some ⟨xb,0,none⟩),.string s] w λx w'=>∃rest,x= .returned (.tuple #[.string rest,.bool (cP m a).1])/\Wy w w' xb cb g n pv m a r rest:=by
   intro j I O hj el aS cV fV Q R;rw[el]at J;have G:I-(((s[2]'am).toNat:Int)-48)=I-a.digit:=by rw[Y];omega
   have E:=ag (λw'=>oC w' (I-(((s[2]'am).toNat:Int)-48)));have X:=bw G R;have HR:=ag hr;have HS:=ag Q;have lo:0<=((s[2]'am).toNat:Int)-48:=oQ;have hi:((s[2]'am).toNat:Int)-48<=9:=oQ;have aI:(j:Int)<3:=oQ;have aO:((j:Int)).toNat=j:=oQ;have ao:((s[1]'a0).toNat:Int)-120=j:=oQ;have qv:mj (I-(((s[2]'am).toNat:Int)-48))=mj (I-a.digit):=by rw[G]
   clear D J Y nP h1 R hs hr hd2 Z G Q c4 c5 c6 f4 f5 f6;go_in;go_wp2_with fail;refine bI (fA E w) ?_;rintro y w1 ⟨rfl,e1⟩;rw[e1];clear E e1 w1;generalize mj (I-(((s[2]'am).toNat:Int)-48))=bb at*;cases bb
   ·have F:=ag (show cP m a=(false,m)by rw[X.2,<-qv];rfl);clear qv X;go_wp2;go_ret2;rw[F];exact⟨_,rfl,(λh=>by rw[F]at h;cases h),by rw[F];exact H,Kp.refl _ _⟩
   have F:=ag (show cP m a=(true,O (I-(((s[2]'am).toNat:Int)-48)))by rw[X.2,<-qv,X.1];rfl);clear qv X;go_wp2;go_ret2;rw[F];exact⟨_,rfl,λ_=>HR,by rw[F];exact HS _,(Kp.refl _ _).setCell jF _⟩
  rcases aa with el|el|el
  ·exact U 0 m.s.x (λu=>{m with s:={m.s with x:=u}}) oQ oQ ab c4 f4 (λu=>H.Se u) (by
    unfold cP hY tu jb Ch.var;rw[e,el];simp only[show((45:Int)==33)=false from rfl,show((45:Int)==64)=false from rfl,show((45:Int)==126)=false from rfl,show((45:Int)==35)=false from rfl,show((45:Int)==43)=false from rfl,show((45:Int)==45)=true from rfl,show((120:Int)==120)=true from rfl,show((120:Int)==121)=false from rfl,bu,bf,aQ];cases mj (m.s.x-a.digit)<;>rfl)
  ·exact U 1 m.s.y (λu=>{m with s:={m.s with y:=u}}) oQ oQ ad c5 f5 (λu=>H.Sf u) (by
    unfold cP hY tu jb Ch.var;rw[e,el];simp only[show((45:Int)==33)=false from rfl,show((45:Int)==64)=false from rfl,show((45:Int)==126)=false from rfl,show((45:Int)==35)=false from rfl,show((45:Int)==43)=false from rfl,show((45:Int)==45)=true from rfl,show((121:Int)==120)=false from rfl,show((121:Int)==121)=true from rfl,bu,bf,aQ];cases mj (m.s.y-a.digit)<;>rfl)
  exact U 2 m.s.z (λu=>{m with s:={m.s with z:=u}}) oQ oQ aj c6 f6 (λu=>H.Sg u) (by
   unfold cP hY tu jb Ch.var;rw[e,el];simp only[show((45:Int)==33)=false from rfl,show((45:Int)==64)=false from rfl,show((45:Int)==126)=false from rfl,show((45:Int)==35)=false from rfl,show((45:Int)==43)=false from rfl,show((45:Int)==45)=true from rfl,show((122:Int)==120)=false from rfl,show((122:Int)==121)=false from rfl,bu,bf,aQ];cases mj (m.s.z-a.digit)<;>rfl)
 rw[e]at D Z;have t0:(((s[0]'a2).toNat:Int)==33)=false:=by rw[D];rfl
 have t1:(((s[0]'a2).toNat:Int)==35)=false:=by rw[D];rfl
 have t2:(((s[0]'a2).toNat:Int)==126)=false:=by rw[D];rfl
 have t3:(((s[0]'a2).toNat:Int)==64)=false:=by rw[D];rfl
 have t4:(((s[0]'a2).toNat:Int)==43)=false:=by rw[D];rfl
 have t5:(((s[0]'a2).toNat:Int)==45)=false:=by rw[D];rfl
 have⟨hd2,hs3,hr⟩:=Z rfl;have am:2<s.size:=oQ;have Y:((s[2]'am).toNat:Int)=48+a.digit:=by rw[<-hd2];simp[af,am]
 have aa:a.aK=120\/a.aK=121\/a.aK=122:=by
  rcases hv with⟨h,_⟩|⟨h,_⟩|⟨_,h,_⟩
  ·omega
  ·omega
  exact wF h
 have ap:=hv.byte;obtain⟨⟨_,_⟩,⟨ab,ad,aj⟩,_⟩:=fW
 have U:∀(j:Nat) (I:Int) (O:Int->Ma),j<3->a.aK=120+j->(-99<=I/\I<=99)->w.cell? ⟨xb,4+j,none⟩=some (.int .i64 I)->w.frozen? ⟨xb,4+j,none⟩=false->(∀u,jD (w.setCell ⟨xb,4+j,none⟩ (.int .i64 u)) xb cb g n pv (O u))->cP m a=(mj (a.digit),if mj (a.digit)then O (a.digit)else m)->
  Calls prog 267 #[.pointer (some ⟨xb,0,none⟩),.string s] w λx w'=>∃rest,x= .returned (.tuple #[.string rest,.bool (cP m a).1])/\Wy w w' xb cb g n pv m a r rest:=by
  intro j I O hj el aS cV fV Q R;rw[el]at J;have G:(((s[2]'am).toNat:Int)-48)=a.digit:=by rw[Y];omega
  have E:=ag (λw'=>oC w' ((((s[2]'am).toNat:Int)-48)));have X:=bw G R;have HR:=ag hr;have HS:=ag Q;have lo:0<=((s[2]'am).toNat:Int)-48:=oQ;have hi:((s[2]'am).toNat:Int)-48<=9:=oQ;have aI:(j:Int)<3:=oQ;have aO:((j:Int)).toNat=j:=oQ;have ao:((s[1]'a0).toNat:Int)-120=j:=oQ;have qv:mj ((((s[2]'am).toNat:Int)-48))=mj (a.digit):=by rw[G]
  clear D J Y nP h1 R hs hr hd2 Z G Q c4 c5 c6 f4 f5 f6;go_in;go_wp2_with fail;refine bI (fA E w) ?_;rintro y w1 ⟨rfl,e1⟩;rw[e1];clear E e1 w1;generalize mj ((((s[2]'am).toNat:Int)-48))=bb at*;cases bb
  ·have F:=ag (show cP m a=(false,m)by rw[X.2,<-qv];rfl);clear qv X;go_wp2;go_ret2;rw[F];exact⟨_,rfl,(λh=>by rw[F]at h;cases h),by rw[F];exact H,Kp.refl _ _⟩
  have F:=ag (show cP m a=(true,O ((((s[2]'am).toNat:Int)-48)))by rw[X.2,<-qv,X.1];rfl);clear qv X;go_wp2;go_ret2;rw[F];exact⟨_,rfl,λ_=>HR,by rw[F];exact HS _,(Kp.refl _ _).setCell jF _⟩
 rcases aa with el|el|el
 ·exact U 0 m.s.x (λu=>{m with s:={m.s with x:=u}}) oQ oQ ab c4 f4 (λu=>H.Se u) (by
   unfold cP hY tu jb Ch.var;rw[e,el];simp only[show((61:Int)==33)=false from rfl,show((61:Int)==64)=false from rfl,show((61:Int)==126)=false from rfl,show((61:Int)==35)=false from rfl,show((61:Int)==43)=false from rfl,show((61:Int)==45)=false from rfl,show((120:Int)==120)=true from rfl,show((120:Int)==121)=false from rfl,bu,bf,aQ];cases mj (a.digit)<;>rfl)
 ·exact U 1 m.s.y (λu=>{m with s:={m.s with y:=u}}) oQ oQ ad c5 f5 (λu=>H.Sf u) (by
   unfold cP hY tu jb Ch.var;rw[e,el];simp only[show((61:Int)==33)=false from rfl,show((61:Int)==64)=false from rfl,show((61:Int)==126)=false from rfl,show((61:Int)==35)=false from rfl,show((61:Int)==43)=false from rfl,show((61:Int)==45)=false from rfl,show((121:Int)==120)=false from rfl,show((121:Int)==121)=true from rfl,bu,bf,aQ];cases mj (a.digit)<;>rfl)
 exact U 2 m.s.z (λu=>{m with s:={m.s with z:=u}}) oQ oQ aj c6 f6 (λu=>H.Sg u) (by
  unfold cP hY tu jb Ch.var;rw[e,el];simp only[show((61:Int)==33)=false from rfl,show((61:Int)==64)=false from rfl,show((61:Int)==126)=false from rfl,show((61:Int)==35)=false from rfl,show((61:Int)==43)=false from rfl,show((61:Int)==45)=false from rfl,show((122:Int)==120)=false from rfl,show((122:Int)==121)=false from rfl,bu,bf];cases mj (a.digit)<;>rfl)
namespace Ch
theorem Cy a l:enc (a::l)=ys a++enc l:=by simp[enc]
theorem Jd a:2<=(ys a).length:=by unfold ys;split<;>simp
theorem Wz{l s}(h:gW s=enc l):(s.size=0↔l=[]):=by
 rw[<-cL,h];cases l with
 |nil=>simp[enc]
 |cons a l=>grind[Cy,Jd]
end Ch
def TZ(v:Value):Nat:=match v with| .string t=>t.size|_=>0
theorem zS w xb cb g n pv m J s(h:jD w xb cb g n pv m)(hs:gW s=Ch.enc J)(hv:∀a∈J,xS a)(fW:m.s.Ok)(hT:Gv 48 m.s)(hq:m.Sz 999990000)(hl:J.length<=1000)(aj:s.size<=1000):
 Calls prog 246 #[.pointer (some ⟨xb,0,none⟩),.string s] w λx w'=>x= .returned (.tuple #[])/\jD w' xb cb g n pv (eD J m)/\Kp (λk=>k=xb) w w':=by
 go_in;go_wp;go_loopw [1] (λsv wr=>∃(t:ByteArray) (F:List Ac) (D:Ma),sv= .string t/\gW t=Ch.enc F/\t.size<=1000/\(∀a∈F,xS a)/\Hid (eD J m=eD F D)/\jD wr xb cb g n pv D/\D.s.Ok/\Gv 48 D.s/\D.q.length+F.length<=999990000+J.length/\D.out.length+F.length<=999990000+J.length/\Kp (λk=>k=xb) w wr) (λsv _=>TZ sv)
 case atStart=>exact⟨s,J,m,rfl,hs,aj,hv,ag rfl,h,fW,hT,by have:=hq.1;omega,by have:=hq.2;omega,Kp.refl _ _⟩
 case round=>
  obtain⟨t,F,D,rfl,ht,am,Y,HE,R,I,Q,ab,ad,KW⟩:=hrel;have U:=Wz ht;cases has:F with
  |nil=>
   subst has;have h0:=U.2 rfl;have ao:¬(0:Int)<t.size:=oQ;have HR:=ag HE;go_wp2;go_end0
   rw[HR];exact⟨rfl,R,KW⟩
  |cons a G=>?_
  subst has;rw[Cy]at ht;have hb:=iw List.length ht;rw[cL,ix]at hb;have ap:=Jd a;have h0:(0:Int)<(t.size:Int):=oQ;simp only[e_]at ab ad;have ha:=Y a dy;have E:=ag (TY wr xb cb g n pv D t a (Ch.enc G) R ht ha I Q.2 ⟨oQ,oQ⟩ am);have aI:=FQ D a;have VR:=BF I a;have aa:=I_ oQ Q ha;cases Z:(cP D a).1 with
  |true=>
   rw[Z]at E;have HF:=ag (HE.trans (show _=eD G (cP D a).2 by simp only[eD];rw[Z];rfl));have HV:=ag (λb hb=>Y b (sW _ hb));go_wp;refine fu E ?_;rintro x w2 ⟨rest,rfl,hr,O,K2⟩;have X:=hr Z;have aO:rest.size=(Ch.enc G).length:=by rw[<-cL,X]
   have HK:=ag (KW.trans K2);go_wp2;go_roundw
   case rel=>exact⟨rest,G,_,rfl,X,oQ,HV,HF,O,VR,aa,oQ,oQ,HK⟩
   case measure=>simp[TZ];omega
  |false=>?_
  rw[Z]at E;have HF:=ag (HE.trans (show _={(cP D a).2 with q:=(cP D a).2.q++[122]}by simp only[eD];rw[Z];rfl));go_wp;refine fu E ?_;rintro x w2 ⟨rest,rfl,_,O,K2⟩;have HK:=ag (KW.trans K2);have c7:w2.cell? _=some (.string (strOfNums (cP D a).2.q)):=O.cell 7;have f7:=O.free 7;have z7:(strOfNums (cP D a).2.q).size<=1000000000:=by rw[dC];omega
  have HM:=ag (O.Ll ((cP D a).2.q++[122]));go_wp2;refine aJ (nk rfl _ _ _) rfl ?_;rw[HF];refine⟨rfl,?_,HK.setCell jF _⟩;have e:strOfNums ((cP D a).2.q++[122])=strOfNums (cP D a).2.q++⟨#[122]⟩:=by rw[lj];rfl
  rw[<-e];exact HM
theorem Mu w xb cb g n pv m rt x(h:jD w xb cb g n pv m)(hx:xz rt x)(am:rt.text.size<=1000):
 Calls prog 274 #[.pointer (some ⟨xb,0,none⟩),.string rt.text] w λy w'=>y= .returned (.bool (Ch.holds m.s x.guard))/\Kp bA w w':=by
 have⟨iL,hg⟩:=Od hx;have R:1<rt.text.size:=oQ;have c4:w.cell? _=some (.int .i64 m.s.x):=h.cell 4;have c5:w.cell? _=some (.int .i64 m.s.y):=h.cell 5;have c6:w.cell? _=some (.int .i64 m.s.z):=h.cell 6;generalize rt.text=s at*;have E:af s 1=((s[1]'R).toNat:Int):=by simp[af,R]
 clear h hx;rcases hg with⟨Z,J,_⟩|⟨hv,hs,ad,aj,h7,h1,h2,h3,h4,_⟩
 ·have t:(((s[1]'R).toNat:Int)!=63)=true:=by rw[<-E];simpa using J
  have HR:=ag (show Ch.holds m.s x.guard=true by unfold Ch.holds;rw[Z];rfl);clear E J Z;go_in;exact qR HR (Kp.refl _ _)
 have t:(((s[1]'R).toNat:Int)!=63)=false:=by rw[<-E,h1];rfl
 have U:2<s.size:=oQ;have X:3<s.size:=oQ;have Y:4<s.size:=oQ;have b2:((s[2]'U).toNat:Int)=x.guard.var:=by rw[<-h2];simp[af,U]
 have F:((s[3]'X).toNat:Int)=x.guard.sign:=by rw[<-h3];simp[af,X]
 have b4:((s[4]'Y).toNat:Int)=48+x.guard.digit:=by rw[<-h4];simp[af,Y]
 obtain⟨I,D⟩:∃I,Ch.var m.s x.guard.var=I:=⟨_,rfl⟩
 have Q:x.guard.sign=60\/x.guard.sign=61\/x.guard.sign=62:=by unfold sx at hs;simp at hs;omega
 have O:Ch.holds m.s x.guard=if x.guard.sign==60 then decide (I<x.guard.digit)else if x.guard.sign==61 then I==x.guard.digit else if x.guard.sign==62 then decide (x.guard.digit<I)else true:=by unfold Ch.holds;rw[D]
 have hn:((s[4]'Y).toNat:Int)-48=x.guard.digit:=oQ;rw[<-hn]at O;have lo:48<=((s[4]'Y).toNat:Int):=oQ;have hi:((s[4]'Y).toNat:Int)<=57:=oQ;have G:∃k:Nat,((s[2]'U).toNat:Int)=120+k/\k<3/\w.cell? ⟨xb,4+k,none⟩=some (.int .i64 I):=by
  rcases wF hv with e|e|e
  ·exact⟨0,oQ,oQ,by rw[c4,<-D,e];rfl⟩
  ·exact⟨1,oQ,oQ,by rw[c5,<-D,e];rfl⟩
  exact⟨2,oQ,oQ,by rw[c6,<-D,e];rfl⟩
 clear E hn b4 h4 h3 h2 h1 D c4 c5 c6 b2 hv hs;have⟨k,hk,hk3,ck⟩:=G;have ab:(k:Int)<3:=oQ;have aa:(120:Int)+(k:Int)-120=(k:Int):=oQ;rcases Q with e|e|e<;>rw[e]at F O
 all_goals
  have HH:=ag O;first|have t60:(((s[3]'X).toNat:Int)==60)=true:=by rw[F];rfl|have t60:(((s[3]'X).toNat:Int)==60)=false:=by rw[F];rfl
  first|have t61:(((s[3]'X).toNat:Int)==61)=true:=by rw[F];rfl|have t61:(((s[3]'X).toNat:Int)==61)=false:=by rw[F];rfl
  first|have t62:(((s[3]'X).toNat:Int)==62)=true:=by rw[F];rfl|have t62:(((s[3]'X).toNat:Int)==62)=false:=by rw[F];rfl
  clear O F e;rcases Int.lt_trichotomy I (((s[4]'Y).toNat:Int)-48)with c|c|c
 all_goals
  go_in;go_wp2;go_quiet (fail);go_wp2;go_ret;rw[HH];refine⟨?_,(Kp.refl _ _).drewN _⟩;first
  |(simp only[show((60:Int)==60)=true from rfl,show((61:Int)==60)=false from rfl,show((61:Int)==61)=true from rfl,show((62:Int)==60)=false from rfl,show((62:Int)==61)=false from rfl,show((62:Int)==62)=true from rfl,aQ,bu,bf];simp;done)
  |(simp;omega)
namespace Ch
def ah(l:List NV):List St:=(mk l).map RN.st
theorem Gx l:(ah l).length=l.length:=by simp[ah,mk]
theorem Gy{l}{i:Nat}{x}(h:l[i]? =some x):aW (ah l) i=x.n.parent:=by
 grind[ah,yA,eu,kB]
theorem T_{l}{i:Nat}{x}(h:l[i]? =some x):bn (ah l) i=x.n.kind:=by
 grind[ah,zG,eu,kB]
end Ch
theorem Qm w rt x(X:xz rt x)(U:rt.text.size<=1000):
 Calls prog 247 #[.string rt.text] w λy w'=>∃t,y= .returned (.string t)/\(gW t=Ch.enc x.bM/\t.size<=1000)/\w'=w:=by
 have⟨iL,hg⟩:=Od X;have J:1<rt.text.size:=oQ;generalize rt.text=s at*;have E:af s 1=((s[1]'J).toNat:Int):=by simp[af,J]
 have e2:((s.size:Int)-2).toNat=s.size-2:=oQ;have D:∀p q,(s.extract p q).size<=1000:=λp q=>by simp;omega
 rcases hg with⟨Y,I,G⟩|⟨hv,hs,Q,R,h7,O,Z,h3,h4,G⟩
 ·have t:(((s[1]'J).toNat:Int)==63)=false:=by rw[<-E];simpa using I
  have F:=ag G;have g1:(1:Int)<=(s.size:Int)-2:=oQ;go_in;go_wp2;go_ret;exact⟨_,rfl,⟨F,D _ _⟩,rfl⟩
 have t:(((s[1]'J).toNat:Int)==63)=true:=by rw[<-E,O];rfl
 have F:=ag G;have g1:(5:Int)<=(s.size:Int)-2:=oQ;go_in;go_wp2;go_ret;exact⟨_,rfl,⟨F,D _ _⟩,rfl⟩
theorem rH w B cb l v a i(hF:ku w B cb l v)(hi:i<l.length)(hu:Up (Ch.ah l))(ha:-1<=a):
 Calls prog 243 #[.pointer (some ⟨cb,0,none⟩),.int .i64 a,.int .i64 i] w λy w'=>y= .returned (.bool (aG (Ch.ah l) a i))/\w'=w:=by
 obtain⟨ao,U,rfl⟩:=hF.2.1.len;have zc:=hF.cell;by_cases h0:a<0
 ·have D:=ag (show aG (Ch.ah l) a i=true by rw[show a= -1 by omega];exact Bf hu oQ oQ);clear hF;go_in;exact iN D
 have X:(i:Int)<l.length:=oQ;obtain⟨x,I⟩:∃x,l[i]? =some x:=⟨_,au hi⟩
 have⟨g,cap',hv,_,hcell,_⟩:=hF.2.1.form I;simp only[aH]at hv;obtain⟨rfl,-,rfl⟩:=hv;have z2:_=some _:=hcell 2 oQ;have eK:=fF hu a (i:=(i:Int)) oQ;rw[Gy I]at eK;have Q:=hu i ⟨x.n.name,x.n.pos,x.n.kind,x.n.parent⟩ (by unfold Ch.ah Ch.mk;rw[bD,bD,I];rfl);simp only at Q;have G:=ag eK;have R:=ag hF;clear hF hcell eK;go_in;go_wp;go_loop [7] (λO=>∃p:Int,O= .int .i64 p/\ -1<=p/\p<l.length/\Hid (aG (Ch.ah l) a i=(p==a||aG (Ch.ah l) a p))) (λO=>(intOf O+1).toNat)
 case atStart=>exact⟨x.n.parent,rfl,Q.1,oQ,G⟩
 case round=>
  obtain⟨p,rfl,Z,aa,E⟩:=hrel;by_cases Y:0<=p
  ·obtain⟨k,rfl⟩:∃k:Nat,p=k:=⟨p.toNat,oQ⟩
   have hk:k<l.length:=oQ;obtain⟨y,J⟩:∃y,l[k]? =some y:=⟨_,au hk⟩
   have⟨g3,AI,hv3,_,pE,_⟩:=R.2.1.form J;simp only[aH,bE,ei,cA,dV]at hv3;obtain⟨rfl,rfl⟩:=hv3;have zk:_=some _:=pE 2 oQ;have eK:=fF hu a (i:=(k:Int)) oQ;rw[Gy J]at eK;have F:=hu k ⟨y.n.name,y.n.pos,y.n.kind,y.n.parent⟩ (by unfold Ch.ah Ch.mk;rw[bD,bD,J];rfl);simp only at F;cases q:(k:Int)==a with
   |true=>
    have D:=ag (show aG (Ch.ah l) a i=true by rw[E,q];rfl);clear eK pE E;exact iN D
   |false=>?_
   have D:=ag (show aG (Ch.ah l) a i=(y.n.parent==a||aG (Ch.ah l) a y.n.parent)by rw[E,q,Bool.false_or,eK]);clear eK pE E;go_wp2;exact⟨⟨y.n.parent,rfl,F.1,oQ,D⟩,ew⟩
  have D:=ag (show aG (Ch.ah l) a i=false by
   rw[E,sf _ _ oQ,Bool.or_false];have:p≠a:=oQ;simpa using this)
  clear E;exact iN D
