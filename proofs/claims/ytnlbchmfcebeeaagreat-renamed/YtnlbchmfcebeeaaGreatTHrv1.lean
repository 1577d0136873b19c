import Derived.Test.YtnlbchmfcebeeaaGreatTV3
set_option maxHeartbeats 12800000
set_option maxRecDepth 100000
namespace Go.Proofs.YtnlbchmfcebeeaaGreat
open Go.Proofs.Tryz Ch
open Go.RowKit
namespace Ch
section
variable {n:Nat}
theorem oC{c:Int}(h:bx c=false):rn n c=c:=by unfold rn;rw[h];rfl
theorem BJ(c:Int):bx (rn n c)=bx c:=by
 unfold rn
 cases q:bx c with
 |false=>simp[q]
 |true=>?_
 simp only[if_true];unfold bx;simp;omega
theorem ac7{a b:Int}(h:rn n a=rn n b):a=b:=by
 have h1:=BJ (n:=n) a;have h2:=BJ (n:=n) b;rw[h]at h1;rw[h1]at h2;unfold rn at h
 cases q:bx a with
 |false=>
  rw[q]at h h2;rw[<-h2]at h;simpa using h
 |true=>?_
 rw[q]at h h2;rw[<-h2]at h;simp only[if_true]at h;have h3:=h2.symm;unfold bx at q h3;simp at q h3;omega
theorem ac8{p:Int->Bool}(hp:∀c,p c=true->bx c=false)(c:Int):p (rn n c)=p c:=by
 cases q:bx c with
 |false=>rw[oC q]
 |true=>?_
 have h1:p c=false:=by
  cases r:p c with
  |false=>rfl
  |true=>rw[hp c r]at q;cases q
 have h2:p (rn n c)=false:=by
  cases r:p (rn n c)with
  |false=>rfl
  |true=>have:=hp _ r;rw[BJ,q]at this;cases this
 rw[h1,h2]
theorem EU{p:Int->Bool}(hp:∀c,p c=true->bx c=false){c:Int}(h:p c=true):rn n c=c:=oC (hp c h)
theorem oD{k:Int}(hk:bx k=false)(c:Int):(rn n c==k)=(c==k):=
 ac8 (p:=λc=>c==k) (λc hc=>by simp at hc;rw[hc];exact hk) c
theorem WR(a b:Int):(rn n a==rn n b)=(a==b):=by
 cases q:a==b with
 |true=>simp at q;subst q;simp
 |false=>simp at q⊢;exact λe=>q (ac7 e)
theorem E9(c:Int)(h:bR c=true):bx c=false:=by unfold bR at h;unfold bx;simp at*;omega
theorem WS(c:Int)(h:gw c=true):bx c=false:=by unfold gw at h;unfold bx;simp at*;omega
theorem abD{lo:Int}(c:Int)(h:eI lo c=true):bx c=false:=by unfold eI at h;unfold bx;simp at*;omega
theorem afV(c:Int)(h:me c=true):bx c=false:=by unfold me at h;unfold bx;simp at*;omega
theorem abE(c:Int)(h:isOpen c=true):bx c=false:=by unfold isOpen at h;unfold bx;simp at*;omega
def mTr(n:Nat)(x:Tr):Tr:={x with kr:=rn n x.kr,target:=rn n x.target}
def mUs(n:Nat)(u:Us):Us:={u with name:=rn n u.name}
def xL(n:Nat)(r:Rs):Rs:=⟨r.pos,mS n r.ag,r.bG.map (mTr n),r.dz,r.uses.map (mUs n)⟩
def kg(n:Nat)(o:Ol):Ol:=⟨mS n o.ag,o.bG.map (mTr n),o.dz⟩
theorem Z_(c:Int):jF (rn n c)=jF c:=by
 unfold jF;rw[oD rfl,ac8 E9,BJ]
theorem aaa(c:Int):kf (rn n c)=kf c:=by
 unfold kf;rw[oD rfl,BJ]
theorem JR(c:Int)(p:Nat)(us:List Us):cF (rn n c) p (us.map (mUs n))=(cF c p us).map (mUs n):=by
 unfold cF;rw[BJ];split
 ·rw[List.map_append];rfl
 rfl
theorem BK(parent:Int)(ss:List St):bn parent (mS n ss)=mS n (bn parent ss):=by
 unfold bn mS
 cases parent with
 |negSucc x=>rfl
 |ofNat k=>?_
 simp only[List.getElem?_map]
 cases q:ss[k]? with
 |none=>rfl
 |some s=>?_
 simp only[Option.map_some];show(if s.kind==1 then _ else _)=_
 split
 ·rw[List.map_set];rfl
 rfl
variable {t t':ByteArray}
theorem E_(h:Ren n t t'){p:Nat}{a:Ac}(ok:(fU t p a).1=true):fU t' p a=fU t p a:=by
 have:af t' (p+1)=af t (p+1):=by rw[h.pk];exact EU E9 ok
 unfold fU;rw[this]
theorem NX(h:Ren n t t'){p:Nat}{a:Ac}(ok:(gx t p a).1=true):gx t' p a=gx t p a:=by
 have:af t' (p+1)=af t (p+1):=by rw[h.pk];exact EU WS ok
 unfold gx;rw[this]
theorem Fc(h:Ren n t t'){lo:Int}{r:Bool×Ac×Nat}(ok:(jC t lo r).1=true):r.1=true/\jC t' lo r=jC t lo r:=by
 unfold jC at ok⊢
 cases q:r.1 with
 |false=>rw[q]at ok;simp at ok;rw[q]at ok;cases ok
 |true=>?_
 rw[q]at ok;simp only[if_true]at ok⊢
 have:af t' r.2.2=af t r.2.2:=by rw[h.pk];exact EU abD ok
 rw[this];exact⟨trivial,rfl⟩
theorem aab(h:Ren n t t'){p:Nat}(ok:(act t p ⟨af t p,0,0⟩).1=true):act t' p ⟨af t' p,0,0⟩=act t p ⟨af t p,0,0⟩:=by
 have key:∀c:Int,c=af t p->act t' p ⟨c,0,0⟩=act t p ⟨c,0,0⟩/\bx c=false:=by
  intro c hc;rw[<-hc]at ok;unfold act at ok⊢;simp only at ok⊢
  split at ok
  ·rename_i q
   rw[if_pos q,if_pos q];refine⟨E_ h ok,?_⟩;simp at q;unfold bx;simp;omega
  rename_i q1;rw[if_neg q1,if_neg q1]
  split at ok
  ·rename_i q
   rw[if_pos q,if_pos q];unfold py at ok⊢;obtain⟨o1,o2⟩:=Fc h ok;refine⟨by rw[E_ h o1,o2],?_⟩;simp at q;unfold bx;simp;omega
  rename_i q2;rw[if_neg q2,if_neg q2]
  split at ok
  ·rename_i q
   rw[if_pos q,if_pos q];unfold kN at ok⊢;obtain⟨o1,o2⟩:=Fc h ok;refine⟨by rw[NX h o1,o2],?_⟩;simp at q;unfold bx;simp;omega
  cases ok
 obtain⟨k1,k2⟩:=key _ rfl;rw[h.pk,oC k2,k1]
theorem S9(h:Ren n t t'){cl:Int}(hcl:bx cl=false):∀(f p:Nat) (l:List Ac),(fM t cl f p l).1=true->fM t' cl f p l=fM t cl f p l:=by
 intro f
 induction f with
 |zero=>intro p l ok;simp[fM]at ok
 |succ f ih=>?_
 intro p l ok
 have hc:(af t' p==cl)=(af t p==cl):=by rw[h.pk];exact oD hcl _
 cases q:af t p==cl with
 |true=>rw[iT q,iT (by rw[hc];exact q)]
 |false=>?_
 cases q2:(act t p ⟨af t p,0,0⟩).1 with
 |false=>rw[pE q q2]at ok;cases ok
 |true=>?_
 have e:=aab h q2;rw[jS q q2]at ok⊢;rw[jS (by rw[hc];exact q) (by rw[e];exact q2),e];exact ih _ _ ok
theorem JS(h:Ren n t t'){cl:Int}(hcl:bx cl=false){p:Nat}(ok:(acts t cl p).1=true):acts t' cl p=acts t cl p:=by
 unfold acts at ok⊢;rw[h.size];exact S9 h hcl _ _ _ ok
theorem S_(h:Ren n t t'){p:Nat}{g:Gd}(ok:(guard t p g).1=true):guard t' p g=guard t p g:=by
 have hc:(af t' p==63)=(af t p==63):=by rw[h.pk];exact oD rfl _
 unfold guard at ok⊢;rw[hc]
 split at ok
 ·rename_i q
  rw[if_pos q,if_pos q]
  split at ok
  ·rename_i q1
   have e1:af t' (p+1)=af t (p+1):=by rw[h.pk];exact EU WS q1
   rw[e1,if_pos q1,if_pos q1]
   split at ok
   ·rename_i q2
    have e2:af t' (p+2)=af t (p+2):=by rw[h.pk];exact EU afV q2
    have e3:af t' (p+3)=af t (p+3):=by rw[h.pk];exact EU abD ok
    rw[e2,e3,if_pos q2]
   cases ok
  cases ok
 rename_i q;rw[if_neg q,if_neg q]
theorem BM(h:Ren n t t'){self:Int}{r:Rs}(ok:(transition t self r).1=true):transition t' self (xL n r)=(true,xL n (transition t self r).2):=by
 unfold transition at ok⊢;have hp:(xL n r).pos=r.pos:=rfl;rw[hp,h.pk (r.pos+1),Z_]
 split at ok
 ·rename_i q
  rw[if_pos q,if_pos q]
  split at ok
  ·rename_i q1
   rw[S_ h q1,if_pos q1,if_pos q1]
   split at ok
   ·rename_i q2
    rw[JS h rfl q2,if_pos q2,if_pos q2];simp only at ok;rw[h.pk,aaa,ok];simp only[xL,JR,List.map_append];rfl
   cases ok
  cases ok
 cases ok
theorem Ta(h:Ren n t t'){self:Int}{r:Rs}(hs:bx (af t r.pos)=false)(ok:(block t self r).1=true):block t' self (xL n r)=(true,xL n (block t self r).2):=by
 unfold block at ok⊢;have hp:(xL n r).pos=r.pos:=rfl;rw[hp]
 split at ok
 ·rename_i q
  rw[JS h rfl q,if_pos q,if_pos q,h.pk,oC hs];rfl
 cases ok
theorem DB(h:Ren n t t'){op parent:Int}{r:Rs}(ok:(aC t op parent r).1=true):aC t' op parent (xL n r)=(true,xL n (aC t op parent r).2):=by
 unfold aC at ok⊢;have hp:(xL n r).pos=r.pos:=rfl;have hs:(xL n r).ag=mS n r.ag:=rfl;rw[hp,hs,h.pk,BJ]
 split at ok
 ·rename_i q
  rw[if_pos q,if_pos q]
  have e:mS n r.ag++[(⟨rn n (af t r.pos),(r.pos:Int),kindOf op,parent⟩:St)]=mS n (r.ag++[⟨af t r.pos,(r.pos:Int),kindOf op,parent⟩]):=by unfold mS;rw[List.map_append];rfl
  rw[e,BK];rfl
 cases ok
theorem BN(h:Ren n t t'){it it':Int->Int->Rs->Bool×Rs}(hit:∀a c s,bx c=false->(it a c s).1=true->it' a c (xL n s)=(true,xL n (it a c s).2)){parent:Int}{r:Rs}(ho:bx (af t r.pos)=false)
 (ok:(aK t it parent r).1=true):aK t' it' parent (xL n r)=(true,xL n (aK t it parent r).2):=by
 have hpk:af t' r.pos=af t r.pos:=by rw[h.pk,oC ho]
 have hp:(xL n r).pos=r.pos:=rfl
 have hln:(xL n r).ag.length=r.ag.length:=by show(List.map _ _).length=_;simp
 unfold aK at ok⊢;rw[hp,hpk,hln]
 cases q:(aC t (af t r.pos) parent {r with pos:=r.pos+1}).1 with
 |false=>rw[q]at ok;cases ok
 |true=>?_
 have e:=DB h q;have e':aC t' (af t r.pos) parent {xL n r with pos:=r.pos+1}=(true,xL n (aC t (af t r.pos) parent {r with pos:=r.pos+1}).2):=e;rw[q]at ok;rw[e'];simp only[if_true]at ok⊢;generalize (aC t (af t r.pos) parent {r with pos:=r.pos+1}).2=r2 at ok⊢
 split at ok
 ·rename_i q1;rw[if_pos q1,if_pos q1];exact hit _ _ _ rfl ok
 rename_i q1;rw[if_neg q1,if_neg q1]
 split at ok
 ·rename_i q2;rw[if_pos q2,if_pos q2];exact hit _ _ _ rfl ok
 rename_i q2;rw[if_neg q2,if_neg q2]
 split at ok
 ·rename_i q3
  rw[if_pos q3,if_pos q3];have hp2:(xL n r2).pos=r2.pos:=rfl;simp only at ok;rw[hp2,h.pk,oD rfl,ok];rfl
 rename_i q3;rw[if_neg q3,if_neg q3]
theorem NY(h:Ren n t t'):∀(f:Nat) (self cl:Int) (r:Rs),bx cl=false->(an t f self cl r).1=true->an t' f self cl (xL n r)=(true,xL n (an t f self cl r).2):=by
 intro f
 induction f with
 |zero=>intro self cl r _ ok;simp[an]at ok
 |succ f ih=>?_
 intro self cl r hcl ok;have hp:(xL n r).pos=r.pos:=rfl;simp only[an]at ok⊢;rw[hp,h.pk r.pos,ac8 abE,oD rfl,oD rfl,oD rfl,oD hcl]
 split at ok
 ·rename_i q
  rw[if_pos q,if_pos q]
  split at ok
  ·rename_i q1
   have e:=BN h (it:=an t f) (it':=an t' f) (λa c s hc hs=>ih a c s hc hs) (abE _ q) q1;rw[e,if_pos q1];simp only[if_true];exact ih _ _ _ hcl ok
  cases ok
 rename_i q;rw[if_neg q,if_neg q]
 split at ok
 ·rename_i q1
  rw[if_pos q1,if_pos q1]
  split at ok
  ·rename_i q2
   rw[BM h q2,if_pos q2];simp only[if_true];exact ih _ _ _ hcl ok
  cases ok
 rename_i q1;rw[if_neg q1,if_neg q1]
 split at ok
 ·rename_i q2
  rw[if_pos q2,if_pos q2]
  split at ok
  ·rename_i q3
   rw[Ta h (by simp at q2;unfold bx;simp;omega) q3,if_pos q3];simp only[if_true];exact ih _ _ _ hcl ok
  cases ok
 rename_i q2;rw[if_neg q2,if_neg q2];simp only at ok;rw[ok];rfl
theorem Tb(h:Ren n t t')(ok:(chart t).1=true):chart t'=(true,xL n (chart t).2):=by
 unfold chart at ok⊢;rw[h.pk 0,oD rfl,oD rfl,h.size]
 split at ok
 ·rename_i q
  rw[if_pos q,if_pos q]
  split at ok
  ·rename_i q1
   have e:=BN h (it:=an t (t.size+1)) (it':=an t' (t.size+1)) (λa c s hc hs=>NY h _ a c s hc hs) (r:=r0) (by simp at q;show bx (af t 0)=false;unfold bx;simp;omega) q1;have e':aK t' (an t' (t.size+1)) (-1) r0=(true,xL n (aK t (an t (t.size+1)) (-1) r0).2):=e;rw[e',if_pos q1];simp only[if_true];simp only at ok;have hp:(xL n (aK t (an t (t.size+1)) (-1) r0).2).pos=(aK t (an t (t.size+1)) (-1) r0).2.pos:=rfl;rw[hp,ok]
  cases ok
 cases ok
end
section
variable {n:Nat}
theorem kH(ss:List St):(mS n ss).length=ss.length:=by simp[mS]
theorem G0(ss:List St)(k:Nat):(mS n ss)[k]? =(ss[k]?).map (mSt n):=by simp[mS]
theorem w_(ss:List St)(i:Int):lM (mS n ss) i=(lM ss i).map (mSt n):=by
 unfold lM;cases i with
 |ofNat k=>exact G0 ss k
 |negSucc _=>rfl
theorem ik(ss:List St):aA (mS n ss)=aA ss:=by
 funext i;unfold aA;rw[w_];cases lM ss i<;>rfl
theorem hJ(ss:List St):aw (mS n ss)=aw ss:=by
 funext i;unfold aw;rw[w_];cases lM ss i<;>rfl
theorem oE(ss:List St):aB (mS n ss)=aB ss:=by
 funext i p;unfold aB;rw[w_];cases lM ss i<;>rfl
theorem BP(ss:List St):cX (mS n ss)=cX ss:=by
 funext k;unfold cX;rw[G0];cases ss[k]? <;>rfl
theorem tJ(ss:List St)(k:Nat):dN (mS n ss) k=rn n (dN ss k):=by
 unfold dN;rw[G0];cases ss[k]? with
 |none=>exact(oC rfl).symm
 |some s=>rfl
theorem NZ(c:Int):∀(ss:List St) (k:Nat),jG (rn n c) (mS n ss) k=jG c ss k:=by
 intro ss
 induction ss with
 |nil=>intro k;rfl
 |cons s ss ih=>?_
 intro k;show(if rn n s.name==rn n c then _ else jG (rn n c) (mS n ss) (k+1))=_;rw[WR,ih];rfl
theorem qC(ss:List St)(c:Int):place (mS n ss) (rn n c)=place ss c:=NZ c ss 0
theorem zH(ss:List St):∀(p:Int) (f k:Nat),cM (mS n ss) p f k=cM ss p f k:=by
 intro p f
 induction f with
 |zero=>intro k;rfl
 |succ f ih=>intro k;simp only[cM,oE,ih]
theorem nP(ss:List St):cH (mS n ss)=cH ss:=by
 funext p;unfold cH;rw[kH];exact zH ss p _ _
theorem xa{p p':Nat->St->Bool}(hp:∀k s,p' k (mSt n s)=p k s):∀(ss:List St) (k:Nat),dI p' (mS n ss) k=dI p ss k:=by
 intro ss
 induction ss with
 |nil=>intro k;rfl
 |cons s ss ih=>?_
 intro k;show(if p' k (mSt n s)then(mSt n s).pos else dI p' (mS n ss) (k+1))=_;rw[hp,ih];rfl
theorem G1(ss:List St):∀us:List Us,cN (mS n ss) (us.map (mUs n))=cN ss us:=by
 intro us
 induction us with
 |nil=>rfl
 |cons u us ih=>?_
 show(if place (mS n ss) (rn n u.name)== -2 then _ else cN (mS n ss) (us.map (mUs n)))=_;rw[qC,ih];rfl
theorem Tc(ss:List St)(us:List Us):judge (mS n ss) (us.map (mUs n))=judge ss us:=by
 have h1:eM (mS n ss)=eM ss:=by
  unfold eM;exact xa (λk s=>by show decide (place (mS n ss) (rn n s.name)<_)=_;rw[qC]) ss 0
 have h2:g7 (mS n ss)=g7 ss:=by
  unfold g7;refine xa (λk s=>?_) ss 0;unfold kx;rw[w_,ik,nP]
  cases lM ss (k:Int)<;>rfl
 unfold judge;rw[kH,h1,h2,G1,G0]
 cases ss[16]? <;>rfl
theorem WT{t t':ByteArray}(h:Ren n t t'){ol:Ol}(hr:read t=(0,0,ol)):read t'=(0,0,kg n ol):=by
 unfold read at hr⊢;rw[h.size]
 split at hr
 ·simp at hr
 rename_i q;rw[if_neg q]
 split at hr
 ·rename_i q1
  rw[Tb h q1];simp only[if_true];have e1:(xL n (chart t).2).ag=mS n (chart t).2.ag:=rfl;have e2:(xL n (chart t).2).uses=(chart t).2.uses.map (mUs n):=rfl;rw[e1,e2,Tc]
  split at hr
  ·rename_i q2
   rw[if_pos q2];simp only[Prod.mk.injEq]at hr;rw[<-hr.2.2];rfl
  rename_i q2;simp only[Prod.mk.injEq]at hr;rw[hr.1]at q2;exact absurd rfl q2
 simp at hr
def kj(n:Nat)(s:Sd):Sd:={s with past:=s.past.map (rn n)}
def l8(n:Nat)(m:Ma):Ma:=⟨kj n m.s,m.q.map (rn n),m.out⟩
theorem G2:rn n 0=0:=oC rfl
theorem BS(s:Sd)(k:Nat):aR (kj n s) k=rn n (aR s k):=by
 unfold aR kj;simp only[List.getD_eq_getElem?_getD,List.getElem?_map]
 cases s.past[k]? with
 |none=>exact G2.symm
 |some x=>rfl
theorem WU(ss:List St)(hi:Int):∀(f:Nat) (i:Int),sZ (mS n ss) hi f i=sZ ss hi f i:=by
 intro f
 induction f with
 |zero=>intro i;rfl
 |succ f ih=>intro i;simp only[sZ,hJ,ih]
theorem oF(ss:List St):au (mS n ss)=au ss:=by funext a b;exact WU ss a _ b
theorem WV(ss:List St)(tg:Int):∀(f:Nat) (d:Int),n_ (mS n ss) tg f d=n_ ss tg f d:=by
 intro f
 induction f with
 |zero=>intro d;rfl
 |succ f ih=>intro d;simp only[n_,s6,ik,oF,hJ,ih];rfl
theorem aac(ss:List St)(st c:Int):dom (mS n ss) st (rn n c)=dom ss st c:=by
 unfold dom;rw[qC,hJ,WV]
theorem JT(s:Sd)(st c:Int):∀(l:List Tr) (k:Nat),dU (kj n s) st (rn n c) (l.map (mTr n)) k=dU s st c l k:=by
 intro l
 induction l with
 |nil=>intro k;rfl
 |cons x l ih=>?_
 intro k
 have:nB (kj n s) st (rn n c) (mTr n x)=nB s st c x:=by
  unfold nB;show(x.state==st&&(rn n x.kr==rn n c)&&holds (kj n s) x.guard)=_;rw[WR];rfl
 simp only[List.map_cons,dU,this,ih]
theorem N0(ol:Ol)(s:Sd)(st c:Int):gQ (kg n ol) (kj n s) st (rn n c)=gQ ol s st c:=JT s st c ol.bG 0
theorem DC(ol:Ol)(s:Sd)(c:Int):∀(f:Nat) (i:Int),bN (kg n ol) (kj n s) (rn n c) f i=bN ol s c f i:=by
 intro f
 induction f with
 |zero=>intro i;rfl
 |succ f ih=>?_
 intro i;simp only[bN,N0,ih];have:(kg n ol).ag=mS n ol.ag:=rfl;rw[this,hJ]
theorem Td(ol:Ol)(s:Sd)(c:Int):∀(f k:Nat) (fl:List Int),findF (kg n ol) (kj n s) (rn n c) f k fl=findF ol s c f k fl:=by
 intro f
 induction f with
 |zero=>intro k fl;rfl
 |succ f ih=>?_
 intro k fl
 have e:dw (kg n ol) (kj n s) (rn n c) fl k=dw ol s c fl k:=by
  unfold dw cr rB;have:(kg n ol).ag=mS n ol.ag:=rfl;rw[this,ik,DC];rfl
 simp only[findF,e,ih]
theorem WW(ol:Ol)(s:Sd)(c:Int):find (kg n ol) (kj n s) (rn n c)=find ol s c:=by
 unfold find;have:(kg n ol).ag.length=ol.ag.length:=kH _;rw[this,Td]
theorem Am(ol:Ol)(k:Nat):(kg n ol).bG[k]? =(ol.bG[k]?).map (mTr n):=by simp[kg]
theorem N1(ol:Ol):within (kg n ol)=within ol:=by
 have e:∀k,eG (kg n ol) k=eG ol k:=by
  intro k;unfold eG;rw[Am];cases ol.bG[k]? <;>rfl
 funext a b
 unfold within;rw[e,e];show au (mS n ol.ag) _ _=_;rw[oF]
theorem JU(ss:List St)(act:List Bool)(d:Int):∀(f k:Nat) (l:List Bool),fa (mS n ss) act d f k l=fa ss act d f k l:=by
 intro f
 induction f with
 |zero=>intro k l;rfl
 |succ f ih=>intro k l;simp only[fa,oF,ih]
theorem BT(ol:Ol)(s:Sd):leaves (kg n ol) (kj n s)=leaves ol s:=by
 funext k
 unfold leaves;rw[Am]
 cases ol.bG[k]? with
 |none=>rfl
 |some x=>?_
 show(if rn n x.target==45 then db else fa (mS n ol.ag) s.act (dom (mS n ol.ag) x.state (rn n x.target)) (mS n ol.ag).length 0 db)=_;rw[oD rfl,aac,JU,kH]
theorem N2(ol:Ol)(s:Sd)(k:Nat):∀(l kept:List Int),eQ (kg n ol) (kj n s) k l kept=eQ ol s k l kept:=by
 intro l
 induction l with
 |nil=>intro kept;rfl
 |cons x l ih=>intro kept;simp only[eQ,BT,N1,ih]
theorem JV(ol:Ol)(s:Sd):∀(l acc:List Int),dP (kg n ol) (kj n s) l acc=dP ol s l acc:=by
 intro l
 induction l with
 |nil=>intro acc;rfl
 |cons x l ih=>intro acc;simp only[dP,jN,N2,ih]
theorem rK(ol:Ol)(s:Sd)(c:Int):choose (kg n ol) (kj n s) (rn n c)=choose ol s c:=by
 unfold choose;rw[WW,JV]
theorem xd(ol:Ol)(s:Sd):choose (kg n ol) (kj n s) 46=choose ol s 46:=by
 have:=rK (n:=n) ol s 46
 rwa[oC rfl]at this
theorem Te(ol:Ol)(s:Sd):∀(r:List Int) (l:List Bool),nF (kg n ol) (kj n s) r l=nF ol s r l:=by
 intro r
 induction r with
 |nil=>intro l;rfl
 |cons x r ih=>intro l;simp only[nF,BT,ih]
theorem JW(ol:Ol)(s:Sd)(l:List Int):bO (kg n ol) (kj n s) l=bO ol s l:=Te ol s l _
theorem N3(ss:List St)(l:List Bool)(p:Int):∀(f k:Nat),i_ (mS n ss) l p f k=i_ ss l p f k:=by
 intro f
 induction f with
 |zero=>intro k;rfl
 |succ f ih=>intro k;simp only[i_,oE,ih]
theorem Fe(ss:List St):lN (mS n ss)=lN ss:=by
 funext l p;unfold lN;rw[kH,N3]
theorem WX(ss:List St)(act left:List Bool):∀(f k:Nat) (p:List Int),mJ (mS n ss) act left f k (p.map (rn n))=(mJ ss act left f k p).map (rn n):=by
 intro f
 induction f with
 |zero=>intro k p;rfl
 |succ f ih=>?_
 intro k p
 have e:ry (mS n ss) act left k=ry ss act left k:=by unfold ry;rw[BP,hJ,Fe]
 simp only[mJ];rw[e,tJ,hJ,Fe,<-ih]
 split
 ·rw[List.map_set]
 rfl
theorem aad(ss:List St)(s:Sd)(left:List Bool):rem (mS n ss) (kj n s) left=kj n (rem ss s left):=by
 unfold rem kj;simp only;rw[kH,WX]
theorem ac_{a:Ac}(h:uB a):bx a.letter=false:=by
 rcases h with h|h|h
 ·exact E9 _ h.2.1
 ·exact E9 _ h.2.1
 exact WS _ h.2.1
theorem Tf(m:Ma){a:Ac}(ha:uB a):bC (l8 n m) a=((bC m a).1,l8 n (bC m a).2):=by
 have hl:rn n a.letter=a.letter:=oC (ac_ ha);unfold bC
 split
 ·simp only[l8,List.map_append,List.map_cons,List.map_nil,hl]
 split
 ·show((send (kj n m.s) _ _).1,_)=_
  unfold send l8;simp only;have:(kj n m.s).tm=m.s.tm:=rfl;rw[this]
  split<;>rfl
 split
 ·rfl
 split
 ·rfl
 have e1:dJ (l8 n m).s a=dJ m.s a:=rfl;rw[e1]
 have e2:k8 (l8 n m).s a.letter (dJ m.s a)=kj n (k8 m.s a.letter (dJ m.s a)):=by
  unfold k8 fX l8 kj
  split
  ·split
   ·rfl
   split<;>rfl
  rfl
 rw[e2];rfl
theorem BU:∀(l:List Ac) (m:Ma),(∀a∈l,uB a)->cJ l (l8 n m)=l8 n (cJ l m):=by
 intro l
 induction l with
 |nil=>intro m _;rfl
 |cons a l ih=>?_
 intro m ha;simp only[cJ];rw[Tf m (ha a (by simp))];simp only
 split
 ·exact ih _ (λb hb=>ha b (by simp[hb]))
 have h122:rn n 122=122:=oC rfl;simp only[l8,List.map_append,List.map_cons,List.map_nil,h122]
theorem Ff(k:Nat){sg:Int}(hsg:sg=94\/sg=36):∀(l:List Bl) (m:Ma),(∀b∈l,∀k:Nat,∀sg:Int,b.state=k->b.sign=sg->(sg=94\/sg=36)->∀a∈b.acts,uB a)->df k sg l (l8 n m)=l8 n (df k sg l m):=by
 intro l
 induction l with
 |nil=>intro m _;rfl
 |cons b l ih=>?_
 intro m hb;simp only[df]
 split
 ·rename_i q
  simp only[Bool.and_eq_true,beq_iff_eq]at q;rw[BU b.acts m (hb b (by simp) k sg q.1 q.2 hsg)];exact ih _ (λc hc=>hb c (by simp[hc]))
 exact ih _ (λc hc=>hb c (by simp[hc]))
theorem N6(ss:List St)(l:List Bool):∀(f:Nat) (st:Int),eh (mS n ss) l f st=eh ss l f st:=by
 intro f
 induction f with
 |zero=>intro st;rfl
 |succ f ih=>?_
 intro st
 have e1:mi (mS n ss) l st=mi ss l st:=by
  unfold mi
  have:AN (mS n ss) l st=AN ss l st:=by funext i;unfold AN;rw[ik,hJ]
  rw[this,kH]
 simp only[eh,ik,oE,e1,kH,ih]
theorem Tg(ss:List St):atEnd (mS n ss)=atEnd ss:=by
 funext l st;unfold atEnd;rw[kH,N6]
theorem JX(ss:List St)(m:Ma)(st:Int):eR (mS n ss) (l8 n m) st=l8 n (eR ss m st):=by
 unfold eR;rw[ik,hJ,Tg,tJ,tJ];have e:(l8 n m).s.act=m.s.act:=rfl;rw[e]
 split
 ·rfl
 split
 ·simp only[l8,List.map_append,List.map_cons,List.map_nil]
 simp only[l8,List.map_append,List.map_cons,List.map_nil]
end
theorem N7{n:Nat}{ol:Ol}(s:Sd):∀(l:List Int),bU (kg n ol) (kj n s) l=bU ol s l:=by
 intro l
 induction l with
 |nil=>rfl
 |cons x l ih=>?_
 simp only[bU];rw[Am]
 cases ol.bG[x.toNat]? with
 |none=>exact ih
 |some y=>?_
 show(if rn n y.target==45 then _ else goal (mS n ol.ag) (kj n s) (place (mS n ol.ag) (rn n y.target))::bU (kg n ol) (kj n s) l)=_
 have eg:∀g,goal (mS n ol.ag) (kj n s) g=goal ol.ag s g:=by
  intro g;unfold goal;rw[ik,BS,oD rfl,nP,hJ,qC]
 rw[oD rfl,qC,ih,eg]
theorem BV{n:Nat}{ol:Ol}(m:Ma):busy (kg n ol) (l8 n m)=busy ol m:=by
 unfold busy;have e2:(l8 n m).s=kj n m.s:=rfl;rw[e2,xd];simp[l8]
section
variable {n:Nat} {ol:Ol}
theorem JY(hA:pw ol)(m:Ma)(k:Nat):bY (kg n ol) (l8 n m) k=l8 n (bY ol m k):=by
 unfold bY;have e1:(kg n ol).ag=mS n ol.ag:=rfl;have e2:(kg n ol).dz=ol.dz:=rfl;have e3:cK (l8 n m) k true=l8 n (cK m k true):=rfl;rw[e1,e2,e3,ik,hJ,Ff k (.inl rfl) ol.dz _ hA.bl,JX]
 split<;>rfl
theorem N9(hA:pw ol)(left:List Bool):∀(k:Nat) (m:Ma),bP (kg n ol) left k (l8 n m)=l8 n (bP ol left k m):=by
 intro k
 induction k with
 |zero=>intro m;rfl
 |succ k ih=>?_
 intro m;simp only[bP];rw[<-ih]
 split
 ·have e2:(kg n ol).dz=ol.dz:=rfl
  rw[e2,Ff k (.inr rfl) ol.dz m hA.bl];rfl
 rfl
theorem Th(hA:pw ol):∀(l:List Int) (m:Ma),dQ (kg n ol) l (l8 n m)=l8 n (dQ ol l m):=by
 intro l
 induction l with
 |nil=>intro m;rfl
 |cons x l ih=>?_
 intro m;simp only[dQ]
 have e:kD (kg n ol) x.toNat=kD ol x.toNat:=by unfold kD;rw[Am];cases ol.bG[x.toNat]? <;>rfl
 rw[e,BU]
 ·exact ih _
 intro a ha;unfold kD at ha
 cases q:ol.bG[x.toNat]? with
 |none=>rw[q]at ha;cases ha
 |some y=>rw[q]at ha;exact hA.tr y (List.mem_of_getElem? q) a ha
theorem N_(hA:pw ol)(st:List Bool)(gl:List Int):∀(f k:Nat) (m:Ma),c_ (kg n ol) st gl f k (l8 n m)=l8 n (c_ ol st gl f k m):=by
 intro f
 induction f with
 |zero=>intro k m;rfl
 |succ f ih=>?_
 intro k m;simp only[c_]
 have hp:∀(c p:Int) (l:List Int),jb (mS n ol.ag) c p l=jb ol.ag c p l:=by
  intro c p l
  induction l with
  |nil=>simp only[jb,nP]
  |cons g l il=>simp only[jb,oF,il]
 have e:gU (kg n ol).ag (l8 n m).s.act st gl (k:Int)=gU ol.ag m.s.act st gl (k:Int):=by
  show gU (mS n ol.ag) m.s.act st gl (k:Int)=_;unfold gU kept;rw[oE,hJ,ik,kH,hp]
 rw[e]
 split
 ·rw[JY hA];exact ih _ _
 exact ih _ _
theorem Fg(hA:pw ol)(m:Ma)(l:List Int):enter (kg n ol) (l8 n m) l=l8 n (enter ol m l):=by
 unfold enter;have e1:(kg n ol).ag.length=ol.ag.length:=kH _;have e2:(l8 n m).s=kj n m.s:=rfl;have e3:(kj n m.s).act=m.s.act:=rfl;rw[e1,e2,N7,e3,N_ hA]
theorem qD(hA:pw ol)(m:Ma)(l:List Int):cd (kg n ol) (l8 n m) l=l8 n (cd ol m l):=by
 unfold cd;have e1:(kg n ol).ag.length=ol.ag.length:=kH _;have e0:(kg n ol).ag=mS n ol.ag:=rfl;have e2:(l8 n m).s=kj n m.s:=rfl;have e3:({l8 n m with s:=kj n (rem ol.ag m.s (bO ol m.s l))}:Ma)=l8 n {m with s:=rem ol.ag m.s (bO ol m.s l)}:=rfl;rw[e1,e0,e2,JW,aad,e3,N9 hA,Th hA,Fg hA]
theorem Ti(hA:pw ol)(m:Ma):round (kg n ol) (l8 n m)=l8 n (round ol m):=by
 unfold round;have e2:(l8 n m).s=kj n m.s:=rfl;rw[e2,xd]
 split
 ·have eq:(l8 n m).q=m.q.map (rn n):=rfl
  rw[eq]
  cases q:m.q with
  |nil=>exact qD hA m _
  |cons a l=>?_
  simp only[List.map_cons];rw[rK];exact qD hA {m with q:=l} _
 exact qD hA m _
theorem BX(hA:pw ol):∀(k:Nat) (m:Ma),rounds (kg n ol) k (l8 n m)=l8 n (rounds ol k m):=by
 intro k
 induction k with
 |zero=>intro m;rfl
 |succ k ih=>?_
 intro m;simp only[rounds];rw[BV]
 split
 ·rw[Ti hA];exact ih _
 rfl
theorem BY(hA:pw ol)(k:Nat)(m:Ma)(h:(finish ol k m).2.2=0):finish (kg n ol) k (l8 n m)=(kj n (finish ol k m).1,(finish ol k m).2.1,0):=by
 unfold finish at h⊢;rw[BX hA,BV]
 split at h
 ·simp at h
 rename_i q;rw[if_neg q,if_neg q];rfl
theorem yZ(hA:pw ol)(k:Nat)(m:Ma)(h:(finish ol k m).2.2=9):finish (kg n ol) k (l8 n m)=(jH,ByteArray.empty,9):=by
 unfold finish at h⊢;rw[BX hA,BV]
 split at h
 ·rename_i q
  rw[if_pos q]
 simp at h
theorem Fh(hA:pw ol)(s:Sd)(ev:Int)(hev:bx ev=false)(h:(aQ ol s ev).2.2=0):aQ (kg n ol) (kj n s) ev=(kj n (aQ ol s ev).1,(aQ ol s ev).2.1,0):=by
 unfold aQ at h⊢;have e:=rK (n:=n) ol s ev;rw[oC hev]at e;rw[e];have:=qD (n:=n) hA ⟨s,[],[]⟩ (choose ol s ev);rw[show(⟨kj n s,[],[]⟩:Ma)=l8 n ⟨s,[],[]⟩from rfl,this];exact BY hA 29 _ h
theorem BZ(hA:pw ol)(s:Sd)(ev:Int)(hev:bx ev=false)(h:(aQ ol s ev).2.2=9):(aQ (kg n ol) (kj n s) ev).2.2=9:=by
 unfold aQ at h⊢;have e:=rK (n:=n) ol s ev;rw[oC hev]at e;rw[e];have:=qD (n:=n) hA ⟨s,[],[]⟩ (choose ol s ev);rw[show(⟨kj n s,[],[]⟩:Ma)=l8 n ⟨s,[],[]⟩from rfl,this,yZ hA 29 _ h]
end
def vV(n:Nat)(t:ByteArray):ByteArray:=strOfNums ((dW t).map (rn n))
theorem Qy{n:Nat}{c:Int}(h:0<=c/\c<256):0<=rn n c/\rn n c<256:=by
 unfold rn;split
 ·omega
 exact h
theorem Qz(n:Nat)(t:ByteArray):dW (vV n t)=(dW t).map (rn n):=by
 unfold vV;refine iO (λx hx=>?_);obtain⟨c,hc,rfl⟩:=List.mem_map.1 hx;exact Qy (Bp t c hc)
theorem B_(n:Nat)(t:ByteArray):(vV n t).size=t.size:=by rw[<-bz,Qz,List.length_map,bz]
theorem aae(n:Nat)(t:ByteArray):Ren n t (vV n t):=by
 refine⟨B_ n t,λp=>?_⟩
 by_cases h:p<t.size
 ·have h1:=kE t p h
  have h2:=kE (vV n t) p (by rw[B_];exact h);rw[Qz,List.getElem?_map,h1]at h2;simpa using h2.symm
 rw[b_ (by rw[B_];omega),b_ (by omega)];exact G2.symm
theorem QA{n:Nat}{l:List Int}(h:∀x∈l,0<=x/\x<256):vV n (strOfNums l)=strOfNums (l.map (rn n)):=by
 unfold vV;rw[iO h]
def y7(n:Nat)(a:As):As:={a with act:=vV n a.act,past:=vV n a.past}
section
variable {n:Nat} {t:ByteArray} {ol:Ol}
theorem G6(h:qw t ol):qw (vV n t) (kg n ol):=
 Wz (WT (aae n t) h.rd) (λk=>by
  rw[show dN (kg n ol).ag k=rn n (dN ol.ag k)from tJ ol.ag k]
  exact Qy (h.YW k))
theorem tK(h:qw t ol){s:Sd}(hI:Inv ol s):aH (kg n ol).ag (kj n s)=y7 n (aH ol.ag s):=by
 have h16:=h.iP.le
 have hm:min ol.ag.length 16=ol.ag.length:=by omega
 have hs:(kg n ol).ag=mS n ol.ag:=rfl
 have e1:dV (mS n ol.ag) (kj n s)=vV n (dV ol.ag s):=by
  unfold dV gN;rw[kH,hm,QA (λx hx=>by obtain⟨k,_,rfl⟩:=List.mem_map.1 hx;exact h.YW k),List.map_map]
  congr 1
  exact List.map_congr_left (λk _=>tJ ol.ag k)
 have e2:dh (mS n ol.ag) (kj n s)=vV n (dh ol.ag s):=by
  have hb:=Ep h.YW hI;unfold jq at hb;unfold dh ig;rw[kH,hm,BP,QA hb,List.map_map]
  congr 1
  exact List.map_congr_left (λk _=>BS s k)
 unfold aH y7;rw[hs,e1,e2];rfl
theorem ada{s:Sd}(h:Dt 48 s){k:Nat}(hk:jx s.tm s.tm.size 0=some k):bR (af s.tm k)=true:=by
 have h1:=wF _ _ _ _ hk;have h2:=(uG _ _ _ _ hk rfl).1;have hd:=TL.drop2 (k/2) h.1;rw[show 2*(k/2)=k by omega,g_ h1.2]at hd;exact hd.1.1
theorem JZ(s:Sd):aZ (kj n s)=((aZ s).1,(aZ s).2.1,kj n (aZ s).2.2):=by
 unfold aZ;have:(kj n s).tm=s.tm:=rfl;rw[this]
 cases jx s.tm s.tm.size 0<;>rfl
theorem WY(hR:qw t ol){s2:Sd}(gd:Mid ol s2){ev:Int}(c':(aQ ol s2 ev).2.2=0):Mid ol (aQ ol s2 ev).1:=by
 have hs:=vD (by unfold aQ at c';exact c')
 have e:(aQ ol s2 ev).1=(rounds ol 29 (cd ol ⟨s2,[],[]⟩ (choose ol s2 ev))).s:=by
  unfold aQ finish at c'⊢
  cases q:busy ol (rounds ol 29 (cd ol ⟨s2,[],[]⟩ (choose ol s2 ev)))with
  |true=>rw[q]at c';simp at c'
  |false=>simp only[Bool.false_eq_true,if_false]
 refine⟨?_,?_,?_,lP gd.ok ev,hs⟩
 ·rw[e];exact lj hR.iP 29 (iC hR.iP (m:=⟨s2,[],[]⟩) gd.inv ev)
 ·rw[e];exact((nN hR.iP.le).rounds hR.uX 29 ((nN hR.iP.le).cd hR.uX (m:=⟨s2,[],[]⟩) ⟨gd.pz,gd.ok.1.2⟩ _)).1
 rw[e];exact(gG (by omega) ol).rounds hR.uX 29 ((gG (by omega) ol).cd hR.uX (m:=⟨s2,[],[]⟩) gd.tl _)
theorem Tj(hR:qw t ol):∀(k:Nat) {s:Sd} {l:List Int} {r:Sd×ByteArray},Mid ol s->cI ol k s l=some r->cI (kg n ol) k (kj n s) l=some (kj n r.1,r.2):=by
 intro k
 induction k with
 |zero=>intro s l r _ h;simp[cI]at h
 |succ k ih=>?_
 intro s l r g h;have gd:=g.due;simp only[cI]at h⊢;rw[JZ];simp only
 split at h
 ·rename_i q
  rw[if_pos q]
  have hev:bx (aZ s).1=false:=by
   unfold aZ at q⊢
   cases q2:jx s.tm s.tm.size 0 with
   |none=>rw[q2]at q;simp at q
   |some j=>exact E9 _ (ada g.tl q2)
  rcases qA ol (aZ s).2.2 (aZ s).1 with e|e
  ·rw[Fh hR.uX _ _ hev e]
   rw[e]at h;simp only[beq_self_eq_true,if_true]at h⊢;exact ih (WY hR gd e) h
  rw[BZ hR.uX _ _ hev e];rw[e]at h;rw[if_neg (by decide)]at h⊢;exact ih gd h
 rename_i q;rw[if_neg q];simp at h;rw[<-h]
theorem Tl(hR:qw t ol):(∃s o,jf t=(aH ol.ag s,o,0)/\jf (vV n t)=(y7 n (aH ol.ag s),o,0)/\Good ol s/\Good (kg n ol) (kj n s))\/(jf t=(dX,⟨#[]⟩,9)/\jf (vV n t)=(dX,⟨#[]⟩,9)):=by
 have hR':=G6 (n:=n) hR
 have e0:enter (kg n ol) ⟨bM (kg n ol).ag,[],[]⟩ []=l8 n (enter ol ⟨bM ol.ag,[],[]⟩ []):=by
  have eb:(⟨bM (kg n ol).ag,[],[]⟩:Ma)=l8 n ⟨bM ol.ag,[],[]⟩:=by
   unfold l8 kj bM;simp only[List.map_nil]
   congr 2
   show cR (mS n ol.ag)=_;unfold cR gM;rw[BP,List.map_map];refine List.map_congr_left (λk _=>?_);simp only[Function.comp]
   split
   ·exact(oC rfl).symm
   exact G2.symm
  rw[eb,Fg hR.uX]
 unfold jf;rw[hR.rd,hR'.rd];simp only[bne_self_eq_false,Bool.false_eq_true,if_false]
 rcases ly ol with e|e
 ·left
  have e':mstart (kg n ol)=(kj n (mstart ol).1,(mstart ol).2.1,0):=by
   unfold mstart at e⊢;rw[e0];exact BY hR.uX 30 _ e
  have g:=rH hR e;have g':=rH hR' (by rw[e']);rw[e']at g';refine⟨(mstart ol).1,(mstart ol).2.1,by rw[e];rfl,?_,g,g'⟩;rw[e',<-tK hR g.inv];rfl
 right
 have e':(mstart (kg n ol)).2.2=9:=by
  unfold mstart at e⊢;rw[e0,yZ hR.uX 30 _ e]
 rw[e,e'];exact⟨rfl,rfl⟩
theorem WZ(hR:qw t ol){s:Sd}(g:Good ol s)(g':Good (kg n ol) (kj n s)){b:Int}(h0:0<=b)(h1:b<256):
 (∃s2 o,goes 17 t (aH ol.ag s) b=(aH ol.ag s2,o,0)/\goes 17 (vV n t) (y7 n (aH ol.ag s)) b=(y7 n (aH ol.ag s2),o,0)/\Good ol s2/\Good (kg n ol) (kj n s2))\/
 (goes 17 t (aH ol.ag s) b=(dX,⟨#[]⟩,9)/\goes 17 (vV n t) (y7 n (aH ol.ag s)) b=(dX,⟨#[]⟩,9)):=by
 have hR':=G6 (n:=n) hR;rw[<-tK hR g.inv];obtain⟨e1,e2⟩:=g.lg hR;obtain⟨f1,f2⟩:=g'.lg hR';have hw:=yv e1;unfold goes
 split
 ·rename_i q
  have hev:=E9 _ q;unfold mz;rw[e1,e2,f1,f2,hR.rd,hR'.rd,BE b h0 h1,q];rw[show decide ((strOfNums [b]).size=1)=true from by rw[strOfNums_size];rfl];simp only[bne_self_eq_false,Bool.false_eq_true,if_false,Bool.and_self,if_true]
  rcases qA ol s b with e|e
  ·left
   have e':=Fh (n:=n) hR.uX s b hev e;have k:=mX hR g e;have k':=mX hR' g' (ev:=b) (by rw[e']);rw[e']at k';refine⟨(aQ ol s b).1,(aQ ol s b).2.1,by rw[e];rfl,?_,k,k'⟩;rw[e',<-tK hR k.inv];rfl
  right
  have e':=BZ (n:=n) hR.uX s b hev e;rw[e,e'];exact⟨rfl,rfl⟩
 left
 unfold gV;rw[e1,f1,hR'.rd,f2];rw[hR.rd]at hw;rw[e2]at hw⊢;rw[hR.rd];simp only[bne_self_eq_false,Bool.false_eq_true,if_false];obtain⟨r,hr⟩:=Option.isSome_iff_exists.1 hw;simp only at hr;have hr':=Tj (n:=n) hR 17 g.mid hr;have et:tick (kj n s)=kj n (tick s):=rfl;have k:=uH hR 17 g.mid hr;have gm:Mid (kg n ol) (kj n (tick s)):=g'.mid;have k':=uH hR' 17 gm hr';rw[hr,et,hr'];refine⟨r.1,r.2,rfl,?_,k,k'⟩;rw[<-tK hR k.inv]
end
def QD(n:Nat)(l:List Int)(k:Nat):List Int:=(l.take k).map (rn n)++l.drop k
theorem aaf(n:Nat)(l:List Int)(k:Nat):(QD n l k).length=l.length:=by unfold QD;simp;omega
theorem W0{n:Nat}{l:List Int}{k:Nat}{x:Int}(h:l[k]? =some x):(QD n l k)[k]? =some x:=by
 have hl:=(List.getElem?_eq_some_iff.1 h).1;unfold QD;rw[List.getElem?_append_right (by simp;omega)];simp only[List.length_map,List.length_take,List.getElem?_drop];rw[show k+(k-min k l.length)=k by omega];exact h
theorem J0{n:Nat}{l:List Int}{k:Nat}{x:Int}(h:l[k]? =some x):(QD n l k).set k (rn n x)=QD n l (k+1):=by
 obtain⟨hl,e⟩:=List.getElem?_eq_some_iff.1 h;unfold QD;rw[List.set_append_right _ _ (by simp;omega)];simp only[List.length_map,List.length_take];rw[show k-min k l.length=0 by omega,List.drop_eq_getElem_cons hl,List.set_cons_zero,<-List.take_append_getElem hl,List.map_append,List.append_assoc,e];rfl
theorem W1{n:Nat}{l:List Int}{k:Nat}{x:Int}(h:l[k]? =some x)(hx:bx x=false):QD n l k=QD n l (k+1):=by
 rw[<-J0 h,oC hx];have:=W0 (n:=n) h;obtain⟨hl,e⟩:=List.getElem?_eq_some_iff.1 this;apply List.ext_getElem
 ·simp
 intro i h1 h2;rw[List.getElem_set]
 split
 ·rename_i c;subst c;exact e
 rfl
end Ch
section
variable (w:World)
theorem vE(s:ByteArray)(hs:s.size<=1000000)(n:Nat)(hn:n<26):
 Calls prog 32 #[.string s,.int .i64 n] w λx w'=>x= .returned (.string (vV n s))/\Kp (λ_=>False) w w':=by
 have hcv:=Lib.run_convert_string_bytes (P:=prog) w 9 47 5 s underlying9 underlying47 underlying5;have KB:=wU w 5 s;have hB:=SU.new w s;have hlen:(dW s).length=s.size:=bz s
 go_enter func32,ntmps32
 go_wp2_with fail
 generalize Lib.bytesWorld w 5 s=w1 at*;have hg0:w.heap.size=w.heap.size:=rfl;generalize hcp:grownCap w s.size 0 5=cap at*;generalize hg:w.heap.size=g at*
 go_loopw [6] (λi wr=>∃k:Nat,i= .int .i64 k/\k<=s.size/\Hid (SU wr g (QD n (dW s) k)/\Kp (λi=>i=g) w1 wr)) (λi _=>s.size-(intOf i).toNat)
 case atStart=>exact⟨0,rfl,Nat.zero_le _,hid ⟨by simpa[QD]using hB,Kp.refl _ _⟩⟩
 case round=>
  obtain⟨k,rfl,hk,HH⟩:=hrel
  by_cases hlt:k<s.size
  ·have hlt':(k:Int)<(s.size:Int):=by omega
   obtain⟨x,hx⟩:∃x,(dW s)[k]? =some x:=⟨_,List.getElem?_eq_getElem (by omega)⟩
   have hxb:=Bp s x (List.mem_of_getElem? hx);have c0:=HH.out.1.cell (W0 (n:=n) hx);have f0:=HH.out.1.free (j:=k) (by rw[aaf];omega);obtain⟨hx0,hx1⟩:=hxb
   by_cases hnm:bx x=true
   ·have hset:=HH.out.1.set (j:=k) (rn n x)
    rw[J0 hx]at hset;have K6:Kp (λi=>i=g) w1 (wr.setCell ⟨g,k,none⟩ (.int .u8 (rn n x))):=HH.out.2.setCell (p:=⟨g,k,none⟩) (λ_=>rfl) _;have HN:=hid (ae hset K6)
    have hrn:rn n x=65+(x-65+(n:Int)) % 26:=by unfold rn;rw[hnm];rfl
    rw[hrn]at HN;have hb:=hnm;unfold bx at hb;simp only[Bool.and_eq_true,decide_eq_true_eq]at hb;obtain⟨hb1,hb2⟩:=hb;have hm:(x-65+(n:Int)).tmod 26=(x-65+(n:Int)) % 26:=Int.tmod_eq_emod_of_nonneg (by omega)
    have hm0:0<=(x-65+(n:Int)) % 26:=by omega
    have hm1:(x-65+(n:Int)) % 26<26:=by omega
    have hw1:IntKind.wrap .u8 (x-65)=x-65:=wrap_u8 (by omega) (by omega);have hw2:IntKind.wrap .u8 (65+(x-65+(n:Int)) % 26)=65+(x-65+(n:Int)) % 26:=wrap_u8 (by omega) (by omega);clear hset K6 hrn hx hnm HH;generalize (x-65+(n:Int)) % 26=md at*
    go_wp2_with fail
    go_roundw
    case rel=>exact⟨k+1,by go_num,by omega,hid HN.out⟩
    case measure=>simp[intOf];omega
   have hnf:bx x=false:=by simpa using hnm
   have HN:=hid (show SU wr g (QD n (dW s) (k+1))/\_ from⟨by rw[<-W1 hx hnf];exact HH.out.1,HH.out.2⟩)
   have key:∀(Q:Prop),(65<=x->¬x<=90->Q)->(¬ 65<=x->Q)->Q:=by
    intro Q h1 h2
    by_cases h:65<=x
    ·exact h1 h (λh'=>by unfold bx at hnf;simp[h,h']at hnf)
    exact h2 h
   clear hx hnm hnf HH;refine key _ (λh1 h2=>?_) (λh1=>?_)
   ·clear key
    go_wp2_with fail
    go_roundw
    case rel=>exact⟨k+1,by go_num,by omega,hid HN.out⟩
    case measure=>simp[intOf];omega
   clear key
   go_wp2_with fail
   go_roundw
   case rel=>exact⟨k+1,by go_num,by omega,hid HN.out⟩
   case measure=>simp[intOf];omega
  have hlt':¬(k:Int)<(s.size:Int):=by omega
  obtain rfl:k=s.size:=by omega
  have hfull:QD n (dW s) s.size=(dW s).map (rn n):=by
   unfold QD;rw[List.take_of_length_le (by omega),List.drop_eq_nil_of_le (by omega),List.append_nil]
  have hr:=HH.out.1;rw[hfull]at hr
  have hcb:=run_convert_bytes_arg (P:=prog) wr 47 5 underlying47 underlying5 g 0 s.size cap ((dW s).map (rn n)) (by simp[hlen]) (by
   intro i hi
   have h2:i<((dW s).map (rn n)).length:=by simpa[hlen]using hi
   have h3:=hr.cell (List.getElem?_eq_getElem h2)
   have h4:((dW s).map (rn n)).getD i 0=((dW s).map (rn n))[i]:=by rw[List.getD_eq_getElem?_getD,List.getElem?_eq_getElem h2];rfl
   rw[h4,Nat.zero_add];exact h3) 9 underlying9
  have KF:Kp (λ_=>False) w wr:=KB.trans' HH.out.2 (λi hi x=>by omega);clear HH hr hfull;go_wp2;go_ret;exact⟨rfl,KF⟩
end
section
variable (w:World)
theorem W3(a:As)(h1:a.act.size<=1000)(h2:a.past.size<=1000)(n:Nat)(hn:n<26):
 Calls prog 33 #[.agg (aN a),.agg (aN (y7 n a)),.int .i64 n] w λx w'=>x= .returned (.bool true)/\Kp (λ_=>False) w w':=by
 obtain⟨da,dE,bq⟩:=fN
 have hb1:jQ ((w.alloc (.cells (aN a) 26)).alloc (.cells (aN (y7 n a)) 26)) w.heap.size a:=by
  unfold jQ;rw[Below.heap_alloc _ _ _ (by simp)];exact heap_alloc_new _ _
 have hb2:jQ ((w.alloc (.cells (aN a) 26)).alloc (.cells (aN (y7 n a)) 26)) (w.heap.size+1) (y7 n a):=heap_alloc2_new w _ _;have K1:Kp (λ_=>False) w ((w.alloc (.cells (aN a) 26)).alloc (.cells (aN (y7 n a)) 26)):=((Kp.refl _ _).alloc _).alloc _
 have ES:=λW=>hid (gH W (y7 n a))
 have E1:=λW=>hid (vE W a.act (by omega) n hn)
 have E2:=λW=>hid (vE W a.past (by omega) n hn)
 have c0:=hb1.c0;have c1:=hb1.c1;have rO:=bZ a;have rI:=fA a;have rS:(aN a).size=6:=rfl;have qI:=fA (y7 n a);unfold jQ at hb1 hb2;generalize hA:aN a=A at*;generalize hB:aN (y7 n a)=B at*;have HA:=hid hA;have HB:=hid hB;clear hA hB
 go_enter func33,ntmps33
 go_upto_region 1 with(fail)
 generalize (w.alloc (.cells A 26)).alloc (.cells B 26)=w1 at*;have hlt:w.heap.size+1<w1.heap.size:=lt_of_block hb2;have hnew:=heap_alloc_new w1 (.cells aD 26);have h3u:=setRow_heap (w1.alloc (.cells aD 26)) w1.heap.size aD A 26 (0,0) hnew;have K3:Kp (λ_=>False) w1 ((w1.alloc (.cells aD 26)).setRow w1.heap.size A):=((Kp.refl _ _).alloc _).setRow (λx=>by omega) _;replace c0:=K3.bj c0;replace c1:=K3.bj c1;have h3b:=K3.at_ hb2 (λx=>x);replace K3:=K1.trans K3
 go_upto_region 2 with(first|refine wpList_load_row rfl 26 (.tmp 3) rfl w.heap.size rfl 26 A (0,0) da hb1 dE (by cases da<;>first|rfl|exact absurd bq (by simp[ak])) rI ?_|refine wpList_store_row rfl 26 (.tmp 7) (.tmp 8) rfl w1.heap.size A rfl rfl 26 aD hnew rI (by rw[rS];rfl) rO ?_)
 have hu3:jQ ((w1.alloc (.cells aD 26)).setRow w1.heap.size A) w1.heap.size a:=by unfold jQ;rw[HA.out];exact h3u
 have hub:w.heap.size<=w1.heap.size:=by omega
 have hue:w1.heap.size≠w.heap.size+1:=by omega
 have ajz:w1.heap.size≠w.heap.size:=by omega
 generalize (w1.alloc (.cells aD 26)).setRow w1.heap.size A=w3 at*;generalize w1.heap.size=ub at*;clear hnew K1 hb1 hb2 h3u
 go_wp2_with fail
 refine Calls.mono (Hid.out (E1 _)) ?_;rintro x w4 ⟨rfl,K4⟩;have Vg:=hu3.keep K4 (λx=>x);have d0:=Vg.c0;have f0:=Vg.fz 0;have G8:=Vg.set0 (vV n a.act);have KS:Kp (λk=>k=ub) w4 (w4.setCell ⟨ub,0,none⟩ (.string (vV n a.act))):=(Kp.refl (λk=>k=ub) _).setCell (p:=⟨ub,0,none⟩) (λ_=>rfl) _;have h5b:=KS.at_ (K4.at_ h3b (λx=>x)) hue.symm
 have c15:(w4.setCell ⟨ub,0,none⟩ (.string (vV n a.act))).cell? ⟨w.heap.size,1,none⟩=some (.string a.past):=by
  have:=K4.bj c1;rw[World.cell?]at this⊢;rw[show(w4.setCell ⟨ub,0,none⟩ (.string (vV n a.act))).heap[w.heap.size]? =w4.heap[w.heap.size]? from heap_setCell_other _ _ _ _ ajz.symm];exact this
 have K5:Kp (λ_=>False) w (w4.setCell ⟨ub,0,none⟩ (.string (vV n a.act))):=(K3.trans K4).setCell (p:=⟨ub,0,none⟩) (λx=>by have:ub<w.heap.size:=x;omega) _;clear E1 K3 K4 KS hu3 Vg c0 c1 h3b
 go_upto_region 3 with(fail)
 generalize w4.setCell ⟨ub,0,none⟩ (.string (vV n a.act))=w5 at*;clear d0 f0
 go_wp2_with fail
 refine Calls.mono (Hid.out (E2 _)) ?_;rintro x w6 ⟨rfl,K6⟩;have hu6:=G8.keep K6 (λx=>x);have d0:=hu6.c1;have f0:=hu6.fz 1;have hu7:=hu6.set1 (vV n a.past);have KS:Kp (λk=>k=ub) w6 (w6.setCell ⟨ub,1,none⟩ (.string (vV n a.past))):=(Kp.refl (λk=>k=ub) _).setCell (p:=⟨ub,1,none⟩) (λ_=>rfl) _;have h7b:=KS.at_ (K6.at_ h5b (λx=>x)) hue.symm;have K7:Kp (λ_=>False) w (w6.setCell ⟨ub,1,none⟩ (.string (vV n a.past))):=(K5.trans K6).setCell (p:=⟨ub,1,none⟩) (λx=>by have:ub<w.heap.size:=x;omega) _;clear E2 K5 K6 KS G8 hu6 c15 h5b
 go_upto_region 4 with(fail)
 generalize w6.setCell ⟨ub,1,none⟩ (.string (vV n a.past))=w7 at*;clear d0 f0
 have h7u:w7.heap[ub]? =some (.cells B 26 (0,0)):=by
  have h:jQ w7 ub (y7 n a):=hu7;unfold jQ at h;rw[HB.out]at h;exact h
 go_wp2_with (first|refine wpList_load_row rfl 26 (.tmp 7) rfl ub rfl 26 B (0,0) da h7u dE (by cases da<;>first|rfl|exact absurd bq (by simp[ak])) qI ?_|refine wpList_load_row rfl 26 (.tmp 4) rfl (w.heap.size+1) rfl 26 B (0,0) da h7b dE (by cases da<;>first|rfl|exact absurd bq (by simp[ak])) qI ?_)
 refine Calls.mono (Hid.out (ES _)) ?_;rintro x w8 ⟨rfl,K8⟩;have K9:=K7.trans K8;clear ES K7 K8;go_wp2;go_ret;exact⟨rfl,K9⟩
end
end Go.Proofs.YtnlbchmfcebeeaaGreat
