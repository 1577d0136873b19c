import Derived.Test.YtnlbchmfcebeeaaGreatTB3
set_option maxHeartbeats 12800000
set_option maxRecDepth 100000
namespace Go.Proofs.YtnlbchmfcebeeaaGreat
open Go.Proofs.Tryz Ch
namespace Ch
structure Wk where
 mode:Int
 open_:List Int
 close:Int
def nU(b lo hi:Int):Bool:=decide (lo<=b)&&decide (b<=hi)
def ic(ok:Bool)(next:Int):Int:=if ok then next else-1
def gN(w:Wk)(b:Int):Int×Wk:=
 if b==40 then(1,{w with open_:=w.open_++[41]})
 else if b==91 then(1,{w with open_:=w.open_++[93]})
 else if b==60 then(2,w)
 else if b==42 then(4,w)
 else if b==58 then(6,w)
 else if b==94||b==36 then(11,{w with close:=59})
 else match w.open_.getLast? with
  |none=>(-1,w)
  |some c=>if b !=c then(-1,w)else(if w.open_.length==1 then 18 else 5,{w with open_:=w.open_.dropLast})
def AJ(w:Wk)(b:Int):Int:=
 if b==33||b==126||b==35 then 12
 else if b==64 then 13
 else if b==43||b==45||b==61 then 15
 else if b !=w.close then-1
 else if b==62 then 17
 else 5
def bT(w:Wk)(b:Int):Int×Wk:=
 if w.mode==0 then(if b !=40&&b !=91 then(-1,w)else gN w b)
 else if w.mode==1||w.mode==4 then(ic (nU b 65 90) 5,w)
 else if w.mode==2 then(ic (nU b 65 90) 3,w)
 else if w.mode==3 then(ic (b==62) 5,w)
 else if w.mode==5 then gN w b
 else if w.mode==6 then(ic (nU b 97 122||nU b 65 90||b==46) 7,{w with close:=62})
 else if w.mode==7 then(if b==63 then 8 else AJ w b,w)
 else if w.mode==8 then(ic (nU b 120 122) 9,w)
 else if w.mode==9 then(ic (b==60||b==61||b==62) 10,w)
 else if w.mode==10||w.mode==16 then(ic (nU b 48 57) 11,w)
 else if w.mode==11 then(AJ w b,w)
 else if w.mode==12 then(ic (nU b 97 122) 11,w)
 else if w.mode==13 then(ic (nU b 97 122) 14,w)
 else if w.mode==14 then(ic (nU b 48 57&&b !=48) 11,w)
 else if w.mode==15 then(ic (nU b 120 122) 16,w)
 else if w.mode==17 then(ic (nU b 65 90||b==45) 5,w)
 else(-1,w)
def lx(t:ByteArray):Nat->Nat->Wk->Int
 |0,_,w=>if w.mode !=18 then t.size else-1
 |f+1,i,w=>if(bT w (af t i)).1== -1 then i else lx t f (i+1) {(bT w (af t i)).2 with mode:=(bT w (af t i)).1}
def BQ(t:ByteArray):Int:=lx t t.size 0 ⟨0,[],0⟩
def ig(t:ByteArray)(i:Nat)(w:Wk):Int:=lx t (t.size-i) i w
theorem BR{t i w}(h:t.size<=i):ig t i w=if w.mode !=18 then(t.size:Int)else-1:=by
 unfold ig;rw[show t.size-i=0 by omega];rfl
theorem wE{t i w}(h:i<t.size):
 ig t i w=if(bT w (af t i)).1== -1 then(i:Int)else ig t (i+1) {(bT w (af t i)).2 with mode:=(bT w (af t i)).1}:=by
 unfold ig;rw[show t.size-i=(t.size-(i+1))+1 by omega];rfl
theorem vF{t i w}(h:i<=t.size)(hm:w.mode≠18)(D:(bT w (af t i)).1= -1):ig t i w=i:=by
 grind[wE,BR,hm]
theorem kA{t i w w' m}(h:i<t.size)(D:bT w (af t i)=(m,w'))(hm:m≠ -1):ig t i w=ig t (i+1) {w' with mode:=m}:=by
 rw[wE h,D];simp[hm]
theorem Iv c:nU c 120 122=kF c:=by
 grind[kF,nU]
theorem LH c:(nU c 48 57&&c !=48)=jy 49 c:=by
 grind[jy,nU]
section
variable {t:ByteArray} {p:Nat} {o:List Int} {c:Int}
theorem iM{m n ok}(hm:m≠18)(D:n≠ -1)(E:p<=t.size)(fW:ok=true->p<t.size)(h:bT ⟨m,o,c⟩ (af t p)=(ic ok n,⟨m,o,c⟩)):
 ig t p ⟨m,o,c⟩=if ok then ig t (p+1) ⟨n,o,c⟩else p:=by
 cases q:ok with
 |true=>rw[kA (fW q) h (by simp[q,ic,D])];grind[ic]
 |false=>grind[vF,hm,ic]
theorem NO{m n}(D:n≠ -1)(hm:m=12/\n=11\/m=13/\n=14)(E:p<=t.size):
 ig t p ⟨m,o,c⟩=if ez (af t p)then ig t (p+1) ⟨n,o,c⟩else p:=by
 rcases hm with⟨rfl,rfl⟩|⟨rfl,rfl⟩
 ·exact iM (ok:=ez (af t p)) aV D E ui (by simp[bT,ez,nU])
 exact iM (ok:=ez (af t p)) aV D E ui (by simp[bT,ez,nU])
theorem NP{m n}(D:n≠ -1)(hm:m=8/\n=9\/m=15/\n=16)(E:p<=t.size):
 ig t p ⟨m,o,c⟩=if kF (af t p)then ig t (p+1) ⟨n,o,c⟩else p:=by
 rcases hm with⟨rfl,rfl⟩|⟨rfl,rfl⟩
 ·exact iM (ok:=kF (af t p)) aV D E om (by simp[bT,Iv])
 exact iM (ok:=kF (af t p)) aV D E om (by simp[bT,Iv])
theorem NS{m}(hm:m=10\/m=16)(D:p<=t.size):
 ig t p ⟨m,o,c⟩=if jy 48 (af t p)then ig t (p+1) ⟨11,o,c⟩else p:=by
 rcases hm with rfl|rfl
 ·exact iM (ok:=jy 48 (af t p)) aV aV D (qQ oQ) (by simp[bT,jy,nU])
 exact iM (ok:=jy 48 (af t p)) aV aV D (qQ oQ) (by simp[bT,jy,nU])
theorem V5(D:p<=t.size):
 ig t p ⟨14,o,c⟩=if jy 49 (af t p)then ig t (p+1) ⟨11,o,c⟩else p:=
 iM (ok:=jy 49 (af t p)) aV aV D (qQ oQ) (by simp[bT,<-LH])
theorem A_{m n}(D:n≠ -1)(hm:m=1/\n=5\/m=4/\n=5\/m=2/\n=3)(E:p<=t.size):
 ig t p ⟨m,o,c⟩=if eW (af t p)then ig t (p+1) ⟨n,o,c⟩else p:=by
 rcases hm with⟨rfl,rfl⟩|⟨rfl,rfl⟩|⟨rfl,rfl⟩
 ·exact iM (ok:=eW (af t p)) aV D E ow (by simp[bT,eW,nU])
 ·exact iM (ok:=eW (af t p)) aV D E ow (by simp[bT,eW,nU])
 exact iM (ok:=eW (af t p)) aV D E ow (by simp[bT,eW,nU])
theorem S5(D:p<=t.size):ig t p ⟨3,o,c⟩=if af t p==62 then ig t (p+1) ⟨5,o,c⟩else p:=
 iM (ok:=af t p==62) aV aV D (eo aV) (by simp[bT])
theorem BS(h:sx (af t p)=true):p<t.size:=by
 grind[dS,sx]
theorem BT(h:pX (af t p)=true):p<t.size:=by
 grind[dS,pX,eW]
theorem xy(h:pw (af t p)=true):p<t.size:=by
 grind[dS,pw,eW,ez]
theorem V6(D:p<=t.size):ig t p ⟨9,o,c⟩=if sx (af t p)then ig t (p+1) ⟨10,o,c⟩else p:=
 iM (ok:=sx (af t p)) aV aV D BS (by simp[bT,sx])
theorem V7(D:p<=t.size):ig t p ⟨17,o,c⟩=if pX (af t p)then ig t (p+1) ⟨5,o,c⟩else p:=
 iM (ok:=pX (af t p)) aV aV D BT (by simp[bT,pX,eW,nU,Bool.or_comm])
theorem V8(D:p<=t.size):ig t p ⟨6,o,c⟩=if pw (af t p)then ig t (p+1) ⟨7,o,62⟩else p:=by
 have h:bT ⟨6,o,c⟩ (af t p)=(ic (pw (af t p)) 7,⟨6,o,62⟩):=by
  have:(nU (af t p) 97 122||nU (af t p) 65 90||af t p==46)=pw (af t p):=by
   grind[pw,ez,eW,nU,af]
  grind[bT]
 cases q:pw (af t p)with
 |true=>rw[kA (xy q) h (by simp[q,ic])];grind[ic]
 |false=>grind[vF,ic]
theorem S6(I:p<=t.size)(G:(af t p==c)=false):
 ig t p ⟨11,o,c⟩=if(act t p ⟨af t p,0,0⟩).1 then ig t (act t p ⟨af t p,0,0⟩).2.2 ⟨11,o,c⟩else((act t p ⟨af t p,0,0⟩).2.2:Int):=by
 unfold act;simp only;split
 ·rename_i q;have D:p<t.size:=by
   grind[dS]
  rw[kA (m:=12) (w':=⟨11,o,c⟩) D (by simp only[bT,AJ];simp[q]) aV];simp only;rw[NO (p:=p+1) aV (Or.inl ⟨rfl,rfl⟩) D];grind[kx,dI,ez,af]
 rename_i q;split
 ·rename_i E;have D:=eo aV E;rw[kA (m:=13) (w':=⟨11,o,c⟩) D (by simp only[bT,AJ];simp[q,E]) aV];simp only;rw[NO (p:=p+1) aV (Or.inr ⟨rfl,rfl⟩) D];simp only[vl,pK,kx,dI];grind[ez,af,ui,V5,jy]
 rename_i E;split
 ·rename_i F;have D:p<t.size:=by
   grind[dS]
  rw[kA (m:=15) (w':=⟨11,o,c⟩) D (by simp only[bT,AJ];simp[q,E,F]) aV];simp only;rw[NP (p:=p+1) aV (Or.inr ⟨rfl,rfl⟩) D];simp only[pL,pK,lJ,dI];grind[kF,af,om,NS,jy]
 grind[vF,bT,AJ]
def qL(c:Int):Int:=if c==62 then 17 else 5
theorem LI(D:c=59\/c=62):∀ n p l,p<=t.size->t.size+1<=n+p->
 ig t p ⟨11,o,c⟩=if(jW t c n p l).1 then ig t (jW t c n p l).2.2 ⟨qL c,o,c⟩else((jW t c n p l).2.2:Int):=by
 intro n;induction n with
 |zero=>omega
 |succ n I=>?_
 intro p l F G;cases q:af t p==c with
 |true=>
  rw[rR q];have E:=eo (c:=c) (by rcases D with rfl|rfl<;>decide) q;have J:af t p=c:=cX q;have:bT ⟨11,o,c⟩ (af t p)=(qL c,⟨11,o,c⟩):=by
   grind[bT,AJ,qL]
  rw[kA E this (by rcases D with rfl|rfl<;>decide)];simp
 |false=>?_
 rw[S6 F q];cases O:(act t p ⟨af t p,0,0⟩).1 with
 |false=>grind[v_]
 |true=>?_
 grind[uj,AV,s7]
theorem Ee(D:c=59\/c=62)(E:p<=t.size):
 ig t p ⟨11,o,c⟩=if(bM t c p).1 then ig t (bM t c p).2.2 ⟨qL c,o,c⟩else((bM t c p).2.2:Int):=
 LI D _ _ _ E oQ
theorem YO(h:(af t p==63)=false):ig t p ⟨7,o,62⟩=ig t p ⟨11,o,62⟩:=by
 grind[wE,bT,af,AJ,BR]
theorem LJ g:
 ig t p ⟨7,o,62⟩=if(guard t p g).1 then ig t (guard t p g).2.2 ⟨11,o,62⟩else((guard t p g).2.2:Int):=by
 unfold guard;split
 ·rename_i q;have D:=eo aV q;rw[kA (m:=8) (w':=⟨7,o,62⟩) D (by simp only[bT];simp[q]) aV];simp only;rw[NP (p:=p+1) aV (Or.inl ⟨rfl,rfl⟩) D];cases F:kF (af t (p+1))with
  |false=>simp
  |true=>?_
  have E:=om F;simp only[aQ];rw[V6 oQ];rw[show p+1+1=p+2 by rfl];cases G:sx (af t (p+2))with
  |false=>simp
  |true=>?_
  grind[BS,NS,jy,af,dI]
 grind[YO]
theorem AK{r}D(G:r.pos<t.size)(I:(af t r.pos==58)=true):
 ig t r.pos ⟨5,o,c⟩=if(transition t D r).1 then ig t (transition t D r).2.pos ⟨5,o,62⟩else((transition t D r).2.pos:Int):=by
 have J:af t r.pos=58:=cX I;rw[kA (m:=6) (w':=⟨5,o,c⟩) G (by rw[J];simp[bT,gN]) aV];simp only;rw[V8 (p:=r.pos+1) G];unfold transition;cases O:pw (af t (r.pos+1))with
 |false=>simp
 |true=>?_
 have U:=xy O;simp only[aQ];rw[LJ (p:=r.pos+1+1) ⟨0,0,0⟩];have F:=vm (t:=t) (p:=r.pos+1+1) ⟨0,0,0⟩ oQ;generalize guard t (r.pos+1+1) ⟨0,0,0⟩=E at*;cases X:E.1 with
 |false=>simp
 |true=>?_
 simp only[aQ];rw[Ee (Or.inr rfl) F.2];have R:=xY (t:=t) (cl:=62) (p:=E.2.2) F.2;generalize bM t 62 E.2.2=Q at*;grind[qL,V7,pX,af,dI]
theorem LK{r}D(E:r.pos<t.size)(F:(af t r.pos==94||af t r.pos==36)=true):
 ig t r.pos ⟨5,o,c⟩=if(block t D r).1 then ig t (block t D r).2.pos ⟨5,o,59⟩else((block t D r).2.pos:Int):=by
 have:bT ⟨5,o,c⟩ (af t r.pos)=(11,⟨5,o,59⟩):=by
  grind[af,bT,gN]
 rw[kA E this aV];grind[Ee,block,bM,qL]
end
theorem pZ x(h:et x=true):x=40\/x=91\/x=60\/x=42:=by
 simp[et]at h;omega
theorem Ag{t r}{it:Int->Int->Rs->Bool×Rs}{o}{c}{m}parent(Kk:∀a k s R,(k=41\/k=93)->Ok t s->r.pos<s.pos->∃D,ig t s.pos ⟨5,o++[k],R⟩=if(it a k s).1 then ig t (it a k s).2.pos ⟨if o.length==0 then 18 else 5,o,D⟩else((it a k s).2.pos:Int))(U:Ok t r)(Q:et (af t r.pos)=true)(hm:(m=5/\o≠[])\/(m=0/\o=[]/\(af t r.pos=40\/af t r.pos=91))):
 ∃D,ig t r.pos ⟨m,o,c⟩=if(bW t it parent r).1 then ig t (bW t it parent r).2.pos ⟨if o.length==0 then 18 else 5,o,D⟩else((bW t it parent r).2.pos:Int):=by
 have E:=k6 Q;have⟨⟨d1,d2,d3,d4⟩,h5⟩:=U;have O:=ny (t:=t) (r:={r with pos:=r.pos+1}) (af t r.pos) parent ⟨⟨by simp only;omega,by simp only;omega,by simp only;omega,by simp only;omega⟩,by simp only;omega⟩;have hb:∀x,af t r.pos=x->(x=40\/x=91)->bT ⟨m,o,c⟩ (af t r.pos)=(1,⟨m,o++[if x==40 then 41 else 93],c⟩):=by
  grind[hm,bT,gN]
 have I:(bB t (af t r.pos) parent {r with pos:=r.pos+1}).1=eW (af t (r.pos+1)):=by
  grind[bB,eW,af]
 have F:eW (af t (r.pos+1))=true->(bB t (af t r.pos) parent {r with pos:=r.pos+1}).2.pos=r.pos+1+1:=by
  grind[bB]
 have X:eW (af t (r.pos+1))=false->(bB t (af t r.pos) parent {r with pos:=r.pos+1}).2.pos=r.pos+1:=by
  grind[bB]
 unfold bW;generalize bB t (af t r.pos) parent {r with pos:=r.pos+1}=s at*;rw[I];rcases pZ _ Q with q|q|q|q
 ·rw[kA E (hb _ q (Or.inl rfl)) aV];simp only;rw[A_ (p:=r.pos+1) aV (Or.inl ⟨rfl,rfl⟩) E,q];cases J:eW (af t (r.pos+1))with
  |false=>simp_all
  |true=>?_
  have e:=F J;have:=Kk r.ah.length 41 s.2 c (Or.inl rfl) O.1 oQ;simp_all
 ·rw[kA E (hb _ q (Or.inr rfl)) aV];simp only;rw[A_ (p:=r.pos+1) aV (Or.inl ⟨rfl,rfl⟩) E,q];cases J:eW (af t (r.pos+1))with
  |false=>simp_all
  |true=>?_
  have e:=F J;have:=Kk r.ah.length 93 s.2 c (Or.inr rfl) O.1 oQ;simp_all
 ·obtain⟨rfl,G⟩:m=5/\o≠[]:=by
   simp_all
  rw[kA (m:=2) (w':=⟨5,o,c⟩) E (by rw[q];simp[bT,gN]) aV];simp only;rw[A_ (p:=r.pos+1) aV (Or.inr (Or.inr ⟨rfl,rfl⟩)) E,q];grind[eW,af,ow,S5,dI]
 obtain⟨rfl,G⟩:m=5/\o≠[]:=by
  simp_all
 rw[kA (m:=4) (w':=⟨5,o,c⟩) E (by rw[q];simp[bT,gN]) aV];grind[A_,eW,af]
theorem LL{t}:∀ n D cl r o c,(cl=41\/cl=93)->Ok t r->t.size+1<=n+r.pos->
 ∃J,ig t r.pos ⟨5,o++[cl],c⟩=if(a_ t n D cl r).1 then ig t (a_ t n D cl r).2.pos ⟨if o.length==0 then 18 else 5,o,J⟩else((a_ t n D cl r).2.pos:Int):=by
 intro n;induction n with
 |zero=>intro D cl r o c _ h R;have:=h.2;omega
 |succ n G=>?_
 intro D cl r o c F h R;simp only[a_];split
 ·rename_i q;have hs:=kj (it:=a_ t n) (λa c s hc hs=>lk n a c s hc hs) D (k6 q) h;have⟨c1,e1⟩:=Ag (it:=a_ t n) (o:=o++[cl]) (c:=c) (m:=5) D (λa k s J hk hs E=>G a k s _ J hk hs oQ) h q (Or.inl ⟨rfl,dy⟩);rw[e1];generalize bW t (a_ t n) D r=s at*;cases O:s.1 with
  |false=>simp_all
  |true=>?_
  have⟨c2,e2⟩:=G D cl s.2 o c1 F hs.1 oQ;grind
 split
 ·rename_i q;have E:=eo aV q;have hs:=ki D E h;rw[AK D E q];generalize transition t D r=s at*;cases O:s.1 with
  |false=>simp_all
  |true=>?_
  have⟨c2,e2⟩:=G D cl s.2 o 62 F hs.1 oQ;grind
 split
 ·rename_i q;have E:r.pos<t.size:=by
   grind[dS]
  have hs:=s9 D E h;rw[LK D E q];generalize block t D r=s at*;cases O:s.1 with
  |false=>simp_all
  |true=>?_
  have⟨c2,e2⟩:=G D cl s.2 o 59 F hs.1 oQ;grind
 rename_i O X Y;have Q:bT ⟨5,o++[cl],c⟩ (af t r.pos)=if af t r.pos !=cl then(-1,⟨5,o++[cl],c⟩)else(if(o++[cl]).length==1 then 18 else 5,⟨5,o,c⟩):=by
  grind[et,af,bT,gN]
 cases I:af t r.pos==cl with
 |false=>
  rw[vF h.2 dy (by rw[Q];simp at I;simp[I])];exact⟨0,by simp[dI]⟩
 |true=>?_
 have U:af t r.pos=cl:=cX I;have E:=eo (c:=cl) (by rcases F with rfl|rfl<;>decide) I;refine⟨c,?_⟩;rw[kA (m:=if o.length==0 then 18 else 5) (w':=⟨5,o,c⟩) E (by rw[Q];simp[U]) (by split<;>decide)];simp[dI]
theorem Pv t:BQ t=if(chart t).1 then-1 else((chart t).2.pos:Int):=by
 have e0:BQ t=ig t 0 ⟨0,[],0⟩:=by unfold BQ ig;rfl
 rw[e0];unfold chart;cases q:(af t 0==40||af t 0==91)with
 |false=>
  grind[vF,af,bT,r0]
 |true=>?_
 have D:et (af t r0.pos)=true:=by
  show et (af t 0)=true;grind[et]
 have hs:=kj (it:=a_ t (t.size+1)) (λa c s hc hs=>lk (t.size+1) a c s hc hs) (-1) (r:=r0) (k6 D) (wZ t)
 have⟨c1,e1⟩:=Ag (r:=r0) (it:=a_ t (t.size+1)) (o:=[]) (c:=0) (m:=0) (-1) (λa k s c' hk hs hlt=>LL (t.size+1) a k s [] c' hk hs oQ) (wZ t) D
  (Or.inr ⟨rfl,rfl,by show af t 0=40\/af t 0=91;simpa using q⟩)
 rw[show ig t 0 ⟨0,[],0⟩=ig t r0.pos ⟨0,[],0⟩from rfl,e1];generalize bW t (a_ t (t.size+1)) (-1) r0=s at*;simp only[aQ];cases I:s.1 with
 |false=>simp
 |true=>?_
 simp only[aQ];have F:=hs.1.2;by_cases G:s.2.pos=t.size
 ·grind[BR]
 have E:((s.2.pos:Int)==(t.size:Int))=false:=il;rw[E];rw[wE oQ];simp[bT]
def gW(t:ByteArray):List Int:=t.data.toList.map λb=>(b.toNat:Int)
structure RT where
 text:ByteArray
 pos:Int
structure RN where
 name:Int
 kind:Int
 parent:Int
 pos:Int
 enter:List ByteArray
 cU:List ByteArray
 trans:List RT
def RN.st(n:RN):St:=⟨n.name,n.pos,n.kind,n.parent⟩
def mu(t:ByteArray)(b:Int):Nat->Nat->Nat
 |0,i=>i
 |f+1,i=>if af t i==b then i else mu t b f (i+1)
def jB(t:ByteArray)(D:Nat)(b:Int):Nat:=if D<=t.size then mu t b (t.size-D) D else t.size
def iV(t:ByteArray)(at_:Nat):Nat:=jB t ((if af t (at_+1)==63 then at_+4 else at_)+1) 62+1
def xR(L:List RN)(i:Int):Option RN:=match i with| .ofNat k=>L[k]? | .negSucc _=>none
def p_(L:List RN)(i:Int)(f:RN->RN):List RN:=match i with| .ofNat k=>L.modify k f| .negSucc _=>L
def jG(L:List RN)(i:Int):List RN:=match xR L i with|some n=>if n.kind==1 then p_ L i (λn=>{n with kind:=2})else L|none=>L
def oU(t:ByteArray)(i:Nat)(up:Int)(L:List RN):Option (Nat×Int×List RN):=
 if et (af t i)then
  if i+1<t.size/\(up<0\/(xR L up).isSome=true)then
   some (if af t i==60 then i+2 else i+1,if af t i==60||af t i==42 then up else L.length,jG L up++[⟨af t (i+1),fU (af t i),up,i+1,[],[],[]⟩])
  else none
 else if af t i==41||af t i==93 then
  match xR L up with
  |some n=>some (i,n.parent,L)
  |none=>none
 else if af t i==58 then
  if i+2<t.size/\iV t (i+1)+1<=t.size/\i+1<=iV t (i+1)+1/\(xR L up).isSome=true then
   some (iV t (i+1),up,p_ L up λn=>{n with trans:=n.trans++[⟨t.extract (i+1) (iV t (i+1)+1),i+1⟩]})
  else none
 else if af t i==94||af t i==36 then
  if i+1<=jB t i 59/\(xR L up).isSome=true then
   some (jB t i 59,up,p_ L up λn=>if af t i==94 then {n with enter:=n.enter++[t.extract (i+1) (jB t i 59)]}else {n with cU:=n.cU++[t.extract (i+1) (jB t i 59)]})
  else none
 else some (i,up,L)
def XI(t:ByteArray):Nat->Nat->Int->List RN->List RN->Prop
 |0,_,_,_,_=>False
 |f+1,i,up,L,D=>(t.size<=i/\D=L)\/(i<t.size/\∃j up' L',oU t i up L=some (j,up',L')/\XI t f (j+1) up' L' D)
def js(t:ByteArray)(i:Nat)(up:Int)(L D:List RN):Prop:=∃f,XI t f i up L D
theorem js.done{t i up L}(h:t.size<=i):js t i up L L:=⟨1,.inl ⟨h,rfl⟩⟩
theorem js.step{t i j up up' L L' D}(hi:i<t.size)(hs:oU t i up L=some (j,up',L'))(E:js t (j+1) up' L' D):js t i up L D:=by
 have⟨f,hf⟩:=E;exact⟨f+1,.inr ⟨hi,j,up',L',hs,hf⟩⟩
theorem js.inv{t i up L D}(h:js t i up L D):(t.size<=i/\D=L)\/(i<t.size/\∃j up' L',oU t i up L=some (j,up',L')/\js t (j+1) up' L' D):=by
 have⟨f,hf⟩:=h;cases f with
 |zero=>exact hf.elim
 |succ f=>?_
 rcases hf with h|⟨hi,j,up',L',hs,E⟩
 ·simp_all
 exact .inr ⟨hi,j,up',L',hs,f,E⟩
theorem js.ind{t}{M:Nat->Int->List RN->List RN->Prop}(F:∀{i} {up} {L},t.size<=i->M i up L L)(hs:∀{i j} {up up'} {L L' D},i<t.size->oU t i up L=some (j,up',L')->M (j+1) up' L' D->M i up L D){i}{up}{L}{D}(h:js t i up L D):M i up L D:=by
 obtain⟨f,E⟩:=h;induction f generalizing i up L with
 |zero=>exact E.elim
 |succ f I=>?_
 rcases E with⟨h,rfl⟩|⟨hi,j,up',L',eK,G⟩
 ·simp_all
 grind
def Ef(t:ByteArray)(p q:Nat):List Int:=(List.range (q-p)).map λj=>af t (p+j)
theorem Bc t p:Ef t p p=[]:=by simp[Ef]
theorem l_{t p q}(h:p<q):Ef t p q=af t p::Ef t (p+1) q:=by
 unfold Ef;rw[show q-p=(q-(p+1))+1 by omega,List.range_succ_eq_map];simp only[nY,List.map_map,kS,List.cons.injEq,cA];apply qu;grind
theorem BU{t p q r}(D:p<=q)(E:q<=r):Ef t p r=Ef t p q++Ef t q r:=by
 obtain⟨k,rfl⟩:∃k,q=p+k:=⟨q-p,oQ⟩
 induction k generalizing p with
 |zero=>simp[Bc]
 |succ k F=>?_
 grind[l_]
theorem yr t p:Ef t p (p+1)=[af t p]:=by rw[l_ oQ,Bc]
theorem NT t p q:(Ef t p q).length=q-p:=by simp[Ef]
theorem V9{t p q j}(h:j<q-p):(Ef t p q)[j]? =some (af t (p+j)):=by
 grind[Ef]
theorem vG{t p q}(E:q<=t.size):gW (t.extract p q)=Ef t p q:=by
 unfold gW;have iL:t.data.size=t.size:=rfl;rw[ByteArray.data_extract];apply f_;intro j;by_cases D:j<q-p
 ·rw[V9 D,bD];have e:(t.data.extract p q).toList[j]? =some (t.data[p+j]'oQ):=by
   simp_all
  rw[e];simp only[Option.map_some,bE];unfold af;rw[dif_pos oQ];rfl
 grind[NT]
theorem Pw{t b}:∀ f i q,i<=q->q<=i+f->(∀x∈Ef t i q,x≠b)->(af t q=b\/q=i+f)->mu t b f i=q:=by
 intro f;induction f with
 |zero=>grind[mu]
 |succ f F=>?_
 intro i q G I E D;simp only[mu];by_cases e:i=q
 ·subst e;rcases D with D|D
  ·simp[D]
  omega
 rw[l_ (show i<q by omega)]at E;have:(af t i==b)=false:=by have:=E (af t i) dy;simpa using this
 rw[this];simp only[bu,bf];exact F (i+1) q oQ oQ (λx hx=>E x (by simp[hx])) oQ
theorem Iw{t b i q}(D:i<=q)(E:q<t.size)(F:∀x∈Ef t i q,x≠b)(G:af t q=b):jB t i b=q:=by
 grind[jB,Pw]
def BV(sign:Int):Bool:=sign==64||sign==43||sign==45||sign==61
def ys(a:Ac):List Int:=if BV a.sign then[a.sign,a.aK,48+a.digit]else[a.sign,a.aK]
def enc(l:List Ac):List Int:=l.flatMap ys
def xS(a:Ac):Prop:=
 ((a.sign=33\/a.sign=126\/a.sign=35)/\ez a.aK=true/\a.digit=0)\/(a.sign=64/\ez a.aK=true/\1<=a.digit/\a.digit<=9)\/
 ((a.sign=43\/a.sign=45\/a.sign=61)/\kF a.aK=true/\0<=a.digit/\a.digit<=9)
theorem wF{c}(h:kF c=true):c=120\/c=121\/c=122:=by simp[kF]at h;omega
theorem NU{c}(h:ez c=true):97<=c/\c<=122:=by simp[ez]at h;exact h
theorem V_{c}(h:eW c=true):65<=c/\c<=90:=by simp[eW]at h;exact h
theorem Ga{lo c}(h:jy lo c=true):lo<=c/\c<=57:=by simp[jy]at h;exact h
theorem xS.no{a}(h:xS a):∀x∈ys a,x≠59/\x≠62/\x≠63:=by
 intro x G;unfold ys at G;rcases h with⟨E,D,F⟩|⟨E,D,F⟩|⟨E,D,F⟩
 ·have:=NU D;grind
 ·have:=NU D;grind
 grind[wF]
theorem LM{l}(h:∀a∈l,xS a):∀x∈enc l,x≠59/\x≠62/\x≠63:=by
 intro x D;simp only[enc,lW]at D;have⟨a,ha,D⟩:=D;exact(h a ha).no x D
theorem Wa{t p}(h:(act t p ⟨af t p,0,0⟩).1=true):
 xS (act t p ⟨af t p,0,0⟩).2.1/\Ef t p (act t p ⟨af t p,0,0⟩).2.2=ys (act t p ⟨af t p,0,0⟩).2.1:=by
 unfold act at*;simp only at*;split
 ·rename_i q;rw[aq q]at h;have D:ez _=_:=h;have E:af t p=33\/af t p=126\/af t p=35:=by simp at q;omega
  simp only[kx,dI,D,aQ];refine⟨Or.inl ⟨E,D,rfl⟩,?_⟩;grind[l_,yr,ys,BV]
 rename_i G;rw[ax G]at h;split
 ·rename_i q;rw[aq q]at h;have E:af t p=64:=cX q;simp only[vl,pK]at h⊢;by_cases D:ez (af t (p+1))=true
  ·have e1:(kx t p ⟨af t p,0,0⟩).1=_:=D;simp only[e1,aQ]at h⊢;have e2:(kx t p ⟨af t p,0,0⟩).2.2=p+2:=by simp[kx,dI,D]
   rw[e2]at h⊢;have F:=Ga h;simp only[dI,h,aQ];refine⟨Or.inr (Or.inl ⟨E,D,by simp only;omega,by simp only;omega⟩),?_⟩;grind[l_,yr,ys,BV,kx]
  grind[kx,af]
 rename_i I;rw[ax I]at h;split
 ·rename_i q;rw[aq q]at h;have E:af t p=43\/af t p=45\/af t p=61:=by simp at q;omega
  simp only[pL,pK]at h⊢;by_cases D:kF (af t (p+1))=true
  ·have e1:(lJ t p ⟨af t p,0,0⟩).1=_:=D;simp only[e1,aQ]at h⊢;have e2:(lJ t p ⟨af t p,0,0⟩).2.2=p+2:=by simp[lJ,dI,D]
   rw[e2]at h⊢;have F:=Ga h;simp only[dI,h,aQ];refine⟨Or.inr (Or.inr ⟨E,D,by simp only;omega,by simp only;omega⟩),?_⟩;rw[l_ oQ,l_ oQ,yr];grind[BV,af,ys,lJ]
  grind[lJ,af]
 simp_all
theorem Px{t cl}(D:cl≠0):∀ n p l,p<=t.size->(jW t cl n p l).1=true->
 ∃m,(jW t cl n p l).2.1=l++m/\(∀a∈m,xS a)/\p<(jW t cl n p l).2.2/\(jW t cl n p l).2.2<=t.size/\Ef t p ((jW t cl n p l).2.2-1)=enc m/\af t ((jW t cl n p l).2.2-1)=cl:=by
 intro n;induction n with
 |zero=>grind[jW]
 |succ n G=>?_
 intro p l F h;cases q:af t p==cl with
 |true=>
  rw[rR q]at h⊢;have:=eo D q;refine⟨[],dy,dy,dy,by simp only;omega,?_,by simpa using q⟩;simp[enc,Bc]
 |false=>?_
 cases E:(act t p ⟨af t p,0,0⟩).1 with
 |false=>grind[v_]
 |true=>?_
 rw[uj q E]at h⊢;have I:=AV E;have⟨v,e⟩:=Wa E;have⟨m,m1,m2,m3,m4,m5,m6⟩:=G _ _ (s7 F 0 0) h;grind[act,af,BU,enc]
theorem Ix{t cl p}(D:cl≠0)(E:p<=t.size)(h:(bM t cl p).1=true):
 (∀a∈(bM t cl p).2.1,xS a)/\p<(bM t cl p).2.2/\(bM t cl p).2.2<=t.size/\Ef t p ((bM t cl p).2.2-1)=enc (bM t cl p).2.1/\af t ((bM t cl p).2.2-1)=cl:=by
 grind[Px,bM]
def Gb(g:Gd):List Int:=if g.sign==0 then[]else[63,g.var,g.sign,48+g.digit]
def GdV(g:Gd):Prop:=g=⟨0,0,0⟩\/(kF g.var=true/\sx g.sign=true/\0<=g.digit/\g.digit<=9)
theorem Py{t p}(h:(guard t p ⟨0,0,0⟩).1=true):
 GdV (guard t p ⟨0,0,0⟩).2.1/\Ef t p (guard t p ⟨0,0,0⟩).2.2=Gb (guard t p ⟨0,0,0⟩).2.1/\
  ((af t p==63)=true/\(guard t p ⟨0,0,0⟩).2.2=p+4\/(af t p==63)=false/\(guard t p ⟨0,0,0⟩).2.2=p):=by
 unfold guard at*;split
 ·rename_i q;rw[aq q]at h;split
  ·rename_i D;rw[aq D]at h;split
   ·rename_i E;rw[aq E]at h;simp only at h;have F:=Ga h;have G:af t p=63:=cX q;simp only[dI,h,aQ];refine⟨Or.inr ⟨D,E,by simp only;omega,by simp only;omega⟩,?_,Or.inl ⟨q,trivial⟩⟩;grind[l_,yr,af,sx,Gb]
   simp_all
  simp_all
 rename_i q;exact⟨Or.inl rfl,by simp[Bc,Gb],Or.inr ⟨by simpa using q,rfl⟩⟩
def u9{α β:Type}(R:α->β->Prop):List α->List β->Prop
 | [],[]=>True
 |a::l,b::m=>R a b/\u9 R l m
 |_,_=>False
theorem u9.nil{α β}{R:α->β->Prop}:u9 R [] []:=trivial
theorem u9.cons{α β R a b}{l:List α}{m:List β}(h:R a b)(k:u9 R l m):u9 R (a::l) (b::m):=⟨h,k⟩
theorem u9.ind{α β R}{M:(l:List α)->(m:List β)->u9 R l m->Prop}(nil:M [] [] .nil)(cons:∀{a} {b} {l} {m} h k,M l m k->M (a::l) (b::m) (.cons h k)):∀{l} {m} h,M l m h:=by
 intro l;induction l with
 |nil=>
  intro m h;cases m with
  |nil=>omega
  |cons b m=>exact h.elim
 |cons a l D=>?_
 intro m h;cases m with
 |nil=>exact h.elim
 |cons b m=>exact cons h.1 h.2 (D h.2)
theorem u9.snoc{α β R l m}(h:u9 R l m){a:α}{b:β}(D:R a b):u9 R (l++[a]) (m++[b]):=by
 induction h using u9.ind with
 |nil=>exact u9.cons D .nil
 |cons h _ E=>grind[u9.cons]
theorem u9.len{α β R}{l:List α}{m:List β}(h:u9 R l m):l.length=m.length:=by
 induction h using u9.ind with
 |nil=>rfl
 |cons _ _ D=>simp_all
structure xz(rt:RT)(x:Tr):Prop where
 tg:pw x.uh=true
 gd:GdV x.guard
 ac:∀a∈x.bM,xS a
 ta:pX x.target=true
 Vp:gW rt.text=x.uh::(Gb x.guard++(enc x.bM++[62,x.target]))
 pos:0<=rt.pos
structure S7 s(x:Bl):Prop where
 ac:∀a∈x.bM,xS a
 Vp:gW s=enc x.bM
def xf(rt:RT)(x:Tr):List Us:=(if eW x.uh then[⟨x.uh,rt.pos⟩]else[])++(if eW x.target then[⟨x.target,rt.pos+(gW rt.text).length-1⟩]else[])
def sE(k:Nat)(x:Tr):Bool:=x.state==(k:Int)
def ru(k:Nat)(sg:Int)(x:Bl):Bool:=x.state==(k:Int)&&x.sign==sg
structure NR(L:List RN)(r:Rs):Prop where
 ah:L.map RN.st=r.ah
 dF:∀ k n,L[k]? =some n->u9 xz n.trans (r.dF.filter (sE k))
 ph:∀ k n,L[k]? =some n->u9 S7 n.enter (r.fH.filter (ru k 94))
 uC:∀ k n,L[k]? =some n->u9 S7 n.cU (r.fH.filter (ru k 36))
 ts:∀x∈r.dF,x.state<L.length
 bs:∀x∈r.fH,x.state<L.length
 us:∀u,u∈r.dH↔∃(k:Nat) (n:RN) (rt:RT) (x:Tr),L[k]? =some n/\rt∈n.trans/\xz rt x/\u∈xf rt x
 so:r.dH.Pairwise λa b=>a.pos<b.pos
 lo:∀u∈r.dH,u.pos<r.pos
 wf:∀(k:Nat) n,L[k]? =some n-> -1<=n.parent/\n.parent<k/\eW n.name=true/\((n.kind=4\/n.kind=5)->0<=n.parent)/\1<=n.kind/\n.kind<=5/\0<=n.pos
 pk:∀(k:Nat) n p,L[k]? =some n->xR L n.parent=some p->p.kind=2\/p.kind=3
theorem k9{L i n}(h:xR L i=some n):∃k:Nat,i=k/\L[k]? =some n/\k<L.length:=by
 cases i with
 |ofNat k=>exact⟨k,rfl,h,(aM.1 (show L[k]? =some n from h)).1⟩
 |negSucc k=>grind[xR]
theorem jt{L}{k:Nat}{f}j:(p_ L (k:Int) f)[j]? =if k=j then L[j]?.map f else L[j]?:=by
 show(L.modify k f)[j]? =_;grind
theorem vH{L i f}:(p_ L i f).length=L.length:=by
 unfold p_;split<;>simp
def RO(n:RN):Prop:=n.kind=1\/n.kind=2\/n.kind=3
def Be(L L':List RN):Prop:=∀(k:Nat) n,L[k]? =some n->∃D,L'[k]? =some D/\D.parent=n.parent/\(RO n->RO D)
theorem Be.refl L:Be L L:=λ_ n h=>⟨n,h,rfl,id⟩
theorem Be.trans{A B C}(h:Be A B)(g:Be B C):Be A C:=by
 intro k n D;have⟨m,hm,e,b⟩:=h k n D;have⟨m',hm',e',b'⟩:=g k m hm;simp_all
theorem Be.len{A B}(h:Be A B):A.length<=B.length:=by
 rcases j8 A.length with e|e
 ·omega
 have⟨m,hm,_⟩:=h (A.length-1) _ (au oQ);grind
theorem Be.at_{A B}(h:Be A B){i}{n}(E:xR A i=some n):∃D,xR B i=some D/\D.parent=n.parent/\(RO n->RO D):=by
 obtain⟨k,rfl,hk,_⟩:=k9 E;exact h k n hk
theorem Be.mod L i f(E:∀n,(f n).parent=n.parent/\(f n).kind=n.kind):Be L (p_ L i f):=by
 intro k n D;cases i with
 |negSucc j=>exact⟨n,D,rfl,id⟩
 |ofNat j=>?_
 grind[p_,jt,RO]
theorem xA L i f(D:∀n,(f n).st=n.st):(p_ L i f).map RN.st=L.map RN.st:=by
 cases i with
 |negSucc j=>rfl
 |ofNat j=>?_
 apply f_;grind[p_,jt]
theorem LN{L i f}(D:∀n,(f n).st=n.st){k:Nat}{n}(h:(p_ L i f)[k]? =some n):∃m,L[k]? =some m/\n.st=m.st:=by
 have e:=iw (λl:List St=>l[k]?) (xA L i f D);grind
theorem Gc{L r}(h:NR L r){i}{f}(D:∀n,(f n).st=n.st):
 (∀(k:Nat) n,(p_ L i f)[k]? =some n-> -1<=n.parent/\n.parent<k/\eW n.name=true/\((n.kind=4\/n.kind=5)->0<=n.parent)/\1<=n.kind/\n.kind<=5/\0<=n.pos)/\
 ∀(k:Nat) n p,(p_ L i f)[k]? =some n->xR (p_ L i f) n.parent=some p->p.kind=2\/p.kind=3:=by
 have F:∀{a b:RN},a.st=b.st->a.name=b.name/\a.pos=b.pos/\a.kind=b.kind/\a.parent=b.parent:=by
  grind[RN.st]
 constructor
 ·intro k n E;have⟨m,hm,e⟩:=LN D E;have⟨e1,e2,e3,e4⟩:=F e;have:=h.wf k m hm;simp_all
 intro k n p E G;have⟨m,hm,e⟩:=LN D E;have⟨j,hj,hp',_⟩:=k9 G;have⟨q,hq,e'⟩:=LN D hp';have:=h.pk k m q hm (by rw[<-(F e).2.2.2,hj];exact hq);grind
theorem oV{c p us u}:u∈eI c p us↔u∈us\/(eW c=true/\u=⟨c,p⟩):=by
 grind[eI]
theorem BW{c}{p:Nat}{us}(h:us.Pairwise λa b=>a.pos<b.pos)(D:∀u∈us,u.pos<(p:Int)):(eI c p us).Pairwise λa b=>a.pos<b.pos:=by
 grind[eI]
theorem Iy a d e b(c:List Int):(a::(b++(c++[d,e]))).getLast?=some e:=by
 grind
theorem BX{t r L E nd}(h:NR L r)(ok:Ok t r)(hq:(af t r.pos==58)=true)(ha:xR L E=some nd)(Q:(transition t E r).1=true):
 ∃L',oU t r.pos E L=some ((transition t E r).2.pos-1,E,L')/\1<=(transition t E r).2.pos/\NR L' (transition t E r).2/\Be L L':=by
 have hp:=eo aV hq;have q':af t r.pos=58:=cX hq;have fW:=ki E hp ok;unfold transition at Q fW⊢;by_cases q1:pw (af t (r.pos+1))=true
 ·have l1:=xy q1;rw[aq q1]at Q fW⊢;have hg:=vm (t:=t) (p:=r.pos+1+1) ⟨0,0,0⟩ oQ;have gs:=Py (t:=t) (p:=r.pos+1+1);have X:(guard t (r.pos+1+1) ⟨0,0,0⟩).1=true->(if af t (r.pos+1+1)==63 then r.pos+1+4 else r.pos+1)+1=(guard t (r.pos+1+1) ⟨0,0,0⟩).2.2:=by
   grind
  generalize guard t (r.pos+1+1) ⟨0,0,0⟩=I at*;by_cases q2:I.1=true
  ·rw[aq q2]at Q fW⊢;have⟨g1,g2,g3⟩:=gs q2;have YP:=Ix (t:=t) (cl:=62) (p:=I.2.2) aV hg.2;generalize bM t 62 I.2.2=D at*;by_cases q3:D.1=true
   ·rw[aq q3]at Q fW⊢;have⟨a1,a2,a3,a4,a5⟩:=YP q3;simp only at Q fW⊢;have am:=BT Q;have Y:iV t (r.pos+1)=D.2.2:=by
     unfold iV;rw[X q2,Iw (q:=D.2.2-1) oQ oQ (by rw[a4];intro x F;exact(LM a1 x F).2.1) a5];omega
    have Z:dI (pX (af t D.2.2)) D.2.2=D.2.2+1:=by simp[dI,Q]
    rw[Z]at fW⊢;obtain⟨k,rfl,hk,aj⟩:=k9 ha;have R:(xR L (k:Int)).isSome=true:=by rw[ha];rfl
    have ab:gW (t.extract (r.pos+1) (D.2.2+1))=af t (r.pos+1)::(Gb I.2.1++(enc D.2.1++[62,af t D.2.2])):=by
     grind[vG,l_,BU,yr]
    have ad:(gW (t.extract (r.pos+1) (D.2.2+1))).length=D.2.2-r.pos:=by rw[vG oQ,NT];omega
    have U:∀st,xz ⟨t.extract (r.pos+1) (D.2.2+1),(r.pos:Int)+1⟩ ⟨st,af t (r.pos+1),I.2.1,D.2.1,af t D.2.2⟩:=
     λst=>⟨q1,g1,a1,Q,ab,by simp only;omega⟩
    refine⟨p_ L (k:Int) λn=>{n with trans:=n.trans++[⟨t.extract (r.pos+1) (D.2.2+1),(r.pos:Int)+1⟩]},by
     unfold oU;rw[q'];simp only[show et 58=false by decide,bu,bf,show((58:Int)==41||(58:Int)==93)=false by decide,show((58:Int)==58)=true by decide,aQ];rw[aq ⟨oQ,oQ,oQ,R⟩,Y];rfl,oQ,?_,Be.mod _ _ _ (λn=>⟨rfl,rfl⟩)⟩
    have O:∀(k':Nat) (n:RN),(p_ L (k:Int) λn=>{n with trans:=n.trans++[⟨t.extract (r.pos+1) (D.2.2+1),(r.pos:Int)+1⟩]})[k']? =some n->∃m,L[k']? =some m/\n.enter=m.enter/\n.cU=m.cU/\n.trans=if k=k' then m.trans++[⟨t.extract (r.pos+1) (D.2.2+1),(r.pos:Int)+1⟩]else m.trans:=by
     grind[jt,hm]
    refine⟨?_,?_,?_,?_,?_,?_,?_,?_,?_,(Gc h (by intro n;rfl)).1,(Gc h (by intro n;rfl)).2⟩
    ·exact(xA _ _ _ (by intro n;rfl)).trans h.ah
    ·intro k' n J;have⟨m,hm,_,_,e3⟩:=O k' n J;rw[e3,gZ];split
     ·rename_i e;subst e;rw[show List.filter (sE k) [(⟨(k:Int),af t (r.pos+1),I.2.1,D.2.1,af t D.2.2⟩:Tr)]=[⟨(k:Int),af t (r.pos+1),I.2.1,D.2.1,af t D.2.2⟩]by simp[sE]];exact(h.dF k m hm).snoc (U _)
     rename_i e;rw[show List.filter (sE k') [(⟨(k:Int),af t (r.pos+1),I.2.1,D.2.1,af t D.2.2⟩:Tr)]=[]by simp[sE];omega,iz];exact h.dF k' m hm
    ·intro k' n J;have⟨m,hm,e1,_,_⟩:=O k' n J;rw[e1];exact h.ph k' m hm
    ·intro k' n J;have⟨m,hm,_,e2,_⟩:=O k' n J;rw[e2];exact h.uC k' m hm
    ·intro x F;rw[vH];rcases cS.1 F with F|F
     ·exact h.ts x F
     simp_all
    ·intro x F;rw[vH];exact h.bs x F
    ·intro u;rw[oV,oV,h.us];have hU:∀st,u∈xf ⟨t.extract (r.pos+1) (D.2.2+1),(r.pos:Int)+1⟩ ⟨st,af t (r.pos+1),I.2.1,D.2.1,af t D.2.2⟩↔(eW (af t (r.pos+1))=true/\u=⟨af t (r.pos+1),((r.pos+1:Nat):Int)⟩)\/(eW (af t D.2.2)=true/\u=⟨af t D.2.2,(D.2.2:Int)⟩):=by
      grind[xf,eW,af]
     constructor
     ·rintro((⟨k',n,rt,x,J,G,F,hu⟩|hu)|hu)
      ·by_cases e:k=k'
       ·subst e;refine⟨k,{n with trans:=n.trans++[⟨t.extract (r.pos+1) (D.2.2+1),(r.pos:Int)+1⟩]},rt,x,?_,?_,F,hu⟩
        ·grind[jt]
        simp[G]
       exact⟨k',n,rt,x,by rw[jt,ax e];exact J,G,F,hu⟩
      ·refine⟨k,{nd with trans:=nd.trans++[⟨t.extract (r.pos+1) (D.2.2+1),(r.pos:Int)+1⟩]},_,_,?_,?_,U 0,(hU 0).2 (Or.inl hu)⟩
       ·grind[jt]
       simp
      refine⟨k,{nd with trans:=nd.trans++[⟨t.extract (r.pos+1) (D.2.2+1),(r.pos:Int)+1⟩]},_,_,?_,?_,U 0,(hU 0).2 (Or.inr hu)⟩
      ·grind[jt]
      simp
     rintro⟨k',n,rt,x,J,G,F,hu⟩;have⟨m,hm,_,_,e3⟩:=O k' n J;rw[e3]at G;split at G
     ·rcases cS.1 G with G|G
      ·grind
      simp at G;subst G;have e1:=F.Vp;grind[af,Iy,xf]
     grind
    ·have hb:∀u∈eI (af t (r.pos+1)) (r.pos+1) r.dH,u.pos<(D.2.2:Int):=by
      intro u hu;rcases oV.1 hu with hu|⟨_,rfl⟩
      ·have:=h.lo u hu;omega
      simp only;omega
     exact BW (BW h.so (λu hu=>by have:=h.lo u hu;omega)) hb
    intro u hu;simp only;rcases oV.1 hu with hu|⟨_,rfl⟩
    ·rcases oV.1 hu with hu|⟨_,rfl⟩
     ·have:=h.lo u hu;omega
     grind
    grind
   simp_all
  simp_all
 simp_all
theorem Pz{t r L D nd}(h:NR L r)(Z:(af t r.pos==94||af t r.pos==36)=true)(Y:xR L D=some nd)(ht:(block t D r).1=true):
 ∃L',oU t r.pos D L=some ((block t D r).2.pos-1,D,L')/\1<=(block t D r).2.pos/\NR L' (block t D r).2/\Be L L':=by
 have hp:r.pos<t.size:=by
  grind[dS]
 unfold block at ht⊢;have YP:=Ix (t:=t) (cl:=59) (p:=r.pos+1) aV hp;generalize bM t 59 (r.pos+1)=E at*;by_cases q3:E.1=true
 ·rw[aq q3];have⟨a1,a2,a3,a4,a5⟩:=YP q3;simp only;obtain⟨k,rfl,hk,ab⟩:=k9 Y;have Q:(xR L (k:Int)).isSome=true:=by rw[Y];rfl
  have O:af t r.pos=94\/af t r.pos=36:=by simp at Z;omega
  have U:jB t r.pos 59=E.2.2-1:=by
   apply Iw oQ oQ _ a5;grind[l_,LM]
  have R:gW (t.extract (r.pos+1) (E.2.2-1))=enc E.2.1:=by rw[vG oQ,a4]
  have X:∀st sg,S7 (t.extract (r.pos+1) (E.2.2-1)) ⟨st,sg,E.2.1⟩:=λst sg=>⟨a1,R⟩
  refine⟨p_ L (k:Int) λn=>if af t r.pos==94 then {n with enter:=n.enter++[t.extract (r.pos+1) (E.2.2-1)]}else {n with cU:=n.cU++[t.extract (r.pos+1) (E.2.2-1)]},by
   unfold oU;have e1:et (af t r.pos)=false:=by rcases O with e|e<;>rw[e]<;>decide
   have e2:(af t r.pos==41||af t r.pos==93)=false:=by rcases O with e|e<;>rw[e]<;>decide
   have e3:(af t r.pos==58)=false:=by rcases O with e|e<;>rw[e]<;>decide
   simp only[e1,e2,e3,Z,bu,bf,aQ];rw[aq ⟨oQ,Q⟩,U],oQ,?_,Be.mod _ _ _ (λn=>by split<;>exact⟨rfl,rfl⟩)⟩
  have J:∀(k':Nat) (n:RN),(p_ L (k:Int) λn=>if af t r.pos==94 then {n with enter:=n.enter++[t.extract (r.pos+1) (E.2.2-1)]}else {n with cU:=n.cU++[t.extract (r.pos+1) (E.2.2-1)]})[k']? =some n->
   ∃m,L[k']? =some m/\n.trans=m.trans/\(n.enter=if k=k'/\af t r.pos=94 then m.enter++[t.extract (r.pos+1) (E.2.2-1)]else m.enter)/\(n.cU=if k=k'/\af t r.pos=36 then m.cU++[t.extract (r.pos+1) (E.2.2-1)]else m.cU):=by
   grind[jt,hm]
  have G:∀k' sg,(r.fH++[(⟨(k:Int),af t r.pos,E.2.1⟩:Bl)]).filter (ru k' sg)=r.fH.filter (ru k' sg)++if k=k'/\af t r.pos=sg then[⟨(k:Int),af t r.pos,E.2.1⟩]else[]:=by
   grind[af,ru]
  refine⟨?_,?_,?_,?_,?_,?_,?_,h.so,?_,(Gc h (by intro n;split<;>rfl)).1,(Gc h (by intro n;split<;>rfl)).2⟩
  ·exact(xA _ _ _ (by intro n;split<;>rfl)).trans h.ah
  ·intro k' n I;have⟨m,hm,e1,_,_⟩:=J k' n I;rw[e1];exact h.dF k' m hm
  ·intro k' n I;have⟨m,hm,_,e2,_⟩:=J k' n I;rw[e2,G];split
   ·exact(h.ph k' m hm).snoc (X _ _)
   rw[iz];exact h.ph k' m hm
  ·intro k' n I;have⟨m,hm,_,_,e3⟩:=J k' n I;rw[e3,G];split
   ·exact(h.uC k' m hm).snoc (X _ _)
   rw[iz];exact h.uC k' m hm
  ·intro x F;rw[vH];exact h.ts x F
  ·intro x F;rw[vH];rcases cS.1 F with F|F
   ·exact h.bs x F
   simp_all
  ·intro u;rw[h.us];constructor
   ·rintro⟨k',n,rt,x,I,hr,F,hu⟩;by_cases e:k=k'
    ·exact⟨k',_,rt,x,by rw[jt,aq e,I];rfl,by split<;>exact hr,F,hu⟩
    exact⟨k',n,rt,x,by rw[jt,ax e];exact I,hr,F,hu⟩
   grind
  intro u hu;have:=h.lo u hu;grind
 simp_all
theorem ly L i:(jG L i).length=L.length:=by
 grind[jG,vH]
theorem mT L i(k:Nat)n(h:(jG L i)[k]? =some n):∃m,L[k]? =some m/\n.trans=m.trans/\n.enter=m.enter/\n.cU=m.cU/\n.parent=m.parent/\n.name=m.name/\n.pos=m.pos/\(n.kind=m.kind\/m.kind=1/\n.kind=2)/\(i=(k:Int)->n.kind≠1):=by
 grind[jG,k9,jt,xR]
theorem PA L i:Be L (jG L i):=by
 intro k n D;grind[jG,ly,hm,mT,RO]
theorem S8 L i x(hi:i<L.length):(jG L i).map RN.st++[x]=cI i (L.map RN.st++[x]):=by
 unfold jG cI;cases i with
 |negSucc j=>rfl
 |ofNat j=>?_
 have D:j<L.length:=cX hi;have e1:xR L (Int.ofNat j)=_:=au D;have e2:(L.map RN.st++[x])[j]? =some L[j].st:=by
  grind
 rw[e1];simp only[e2];have e3:(L[j].st.kind==1)=(L[j].kind==1):=rfl;rw[e3];split
 ·have:(L.map RN.st++[x]).set j {L[j].st with kind:=2}=(L.map RN.st).set j {L[j].st with kind:=2}++[x]:=by
   simp_all
  rw[this];congr 1;apply f_;intro k;rw[bD,show(p_ L (Int.ofNat j) λn=>{n with kind:=2})[k]? =_ from jt (L:=L) (k:=j) k];by_cases e:j=k
  ·subst e;rw[aq rfl,jO (cX D),au D];rfl
  simp_all
 rfl
theorem Wc{t r L}op parent(Dz:parent<L.length)(aa: -1<=parent)(ab:fU op=4\/fU op=5->0<=parent)(O:∀p,xR L parent=some p->RO p)(h:NR L r)(ht:(bB t op parent r).1=true):
 NR (jG L parent++[⟨af t r.pos,fU op,parent,r.pos,[],[],[]⟩]) (bB t op parent r).2:=by
 unfold bB at*;by_cases q:eW (af t r.pos)=true
 ·rw[aq q];simp only;have X:L.length=r.ah.length:=by rw[<-h.ah];simp
  have G:∀(k':Nat) (n:RN),(jG L parent++[⟨af t r.pos,fU op,parent,r.pos,[],[],[]⟩])[k']? =some n->(∃m,L[k']? =some m/\n.trans=m.trans/\n.enter=m.enter/\n.cU=m.cU)\/(k'=L.length/\n.trans=[]/\n.enter=[]/\n.cU=[]):=by
   grind[jG,mT,ly]
  have Q:∀(l:List Tr),(∀x∈l,x.state<(L.length:Int))->l.filter (sE L.length)=[]:=by
   intro l F;rw[qD];grind[sE]
  have U:∀(sg:Int) (l:List Bl),(∀x∈l,x.state<(L.length:Int))->l.filter (ru L.length sg)=[]:=by
   intro sg l F;rw[qD];grind[ru]
  refine⟨?_,?_,?_,?_,?_,?_,?_,h.so,?_,?_,?_⟩
  ·rw[nZ];have:=S8 L parent ⟨af t r.pos,r.pos,fU op,parent⟩ Dz;rw[h.ah]at this;exact this
  ·intro k' n D;rcases G k' n D with⟨m,hm,e1,_,_⟩|⟨rfl,e1,_,_⟩
   ·rw[e1];exact h.dF k' m hm
   rw[e1,Q _ h.ts];exact .nil
  ·intro k' n D;rcases G k' n D with⟨m,hm,_,e1,_⟩|⟨rfl,_,e1,_⟩
   ·rw[e1];exact h.ph k' m hm
   rw[e1,U _ _ h.bs];exact .nil
  ·intro k' n D;rcases G k' n D with⟨m,hm,_,_,e1⟩|⟨rfl,_,_,e1⟩
   ·rw[e1];exact h.uC k' m hm
   rw[e1,U _ _ h.bs];exact .nil
  ·intro x J;have:=h.ts x J;grind[ly]
  ·intro x J;have:=h.bs x J;grind[ly]
  ·intro u;rw[h.us];constructor
   ·rintro⟨k',n,rt,x,D,hr,J,hu⟩;have R:=(aM.1 D).1;have E:k'<(jG L parent).length:=by rw[ly];exact R
    have⟨m,hm,e1,_⟩:=mT L parent k' _ (au E);rw[D]at hm;simp at hm;subst hm;exact⟨k',_,rt,x,by rw[mx E];exact au E,by rw[e1];exact hr,J,hu⟩
   grind
  ·intro u hu;have:=h.lo u hu;grind
  ·intro k' n D;rcases j5 k' (jG L parent).length with F|F
   ·rw[mx F]at D;have⟨m,h1,_,_,_,e1,e2,e3,e4,_⟩:=mT L parent k' n D;have:=h.wf k' m h1;grind
   rw[iy F]at D;have I:k'-(jG L parent).length=0:=by
    grind
   grind[ly,fU]
  intro k' n p D Y;have Z:∀(j:Nat) (m:RN),(jG L parent++[⟨af t r.pos,fU op,parent,r.pos,[],[],[]⟩])[j]? =some m->j<L.length->(jG L parent)[j]? =some m:=by
   grind[ly]
  have⟨j,hj,hp',_⟩:=k9 Y;rcases j5 k' (jG L parent).length with F|F
  ·rw[mx F]at D;have⟨m,h1,_,_,_,e1,_,_,_,_⟩:=mT L parent k' n D;have hw:=h.wf k' m h1;rw[ly]at F;have⟨m',h1',_,_,_,_,_,_,e4,_⟩:=mT L parent j p (Z j p hp' oQ);have:=h.pk k' m m' h1 (by rw[<-e1,hj];exact h1');omega
  rw[iy F]at D;have I:k'-(jG L parent).length=0:=by
   grind
  rw[I]at D;simp at D;subst D;simp only at hj Y;have⟨m',h1',_,_,_,_,_,_,e4,e5⟩:=mT L parent j p (Z j p hp' oQ);have hb:=O m' (by rw[hj];exact h1');grind[RO]
 simp_all
theorem NR.move{L r}(h:NR L r){p}(D:r.pos<=p):NR L {r with pos:=p}:=
 ⟨h.ah,h.dF,h.ph,h.uC,h.ts,h.bs,h.us,h.so,λu hu=>by have:=h.lo u hu;simp only;omega,h.wf,h.pk⟩
theorem Be.push L x:Be L (L++[x]):=λk n hn=>⟨n,by rw[mx (aM.1 hn).1];exact hn,rfl,id⟩
def aa_(t:ByteArray)(it:Int->Int->Rs->Bool×Rs):Prop:=∀ D cl r L nd,(cl=41\/cl=93)->Ok t r->NR L r->xR L D=some nd->RO nd->(it D cl r).1=true->
 ∃L',NR L' (it D cl r).2/\Be L L'/\∀E,js t (it D cl r).2.pos nd.parent L' E->js t r.pos D L E
theorem Eg{t it}(Kk:aa_ t it){r}{L}{parent}(h:NR L r)(ok:Ok t r)(hq:et (af t r.pos)=true)(Dz:(parent<0/\(af t r.pos=40\/af t r.pos=91))\/∃nd,xR L parent=some nd/\RO nd)(X:-1<=parent)(D:(bW t it parent r).1=true):
 ∃L',NR L' (bW t it parent r).2/\Be L L'/\∀E,js t (bW t it parent r).2.pos parent L' E->js t r.pos parent L E:=by
 have Z:=k6 hq;have⟨⟨d1,d2,d3,d4⟩,h5⟩:=ok;have hn:=ny (t:=t) (r:={r with pos:=r.pos+1}) (af t r.pos) parent ⟨⟨by simp only;omega,by simp only;omega,by simp only;omega,by simp only;omega⟩,by simp only;omega⟩;have Q:parent<L.length:=by
  grind[k9]
 have Y:=λhh=>Wc (t:=t) (r:={r with pos:=r.pos+1}) (af t r.pos) parent Q X (by
  rcases Dz with⟨_,e|e⟩|⟨nd,e,_⟩
  ·rw[e];intro x;exact absurd x aV
  ·rw[e];intro x;exact absurd x aV
  ·obtain⟨k,rfl,_,_⟩:=k9 e;omega) (by
  intro p F;rcases Dz with⟨e,_⟩|⟨nd,e,b⟩
  ·obtain⟨k,rfl,_,_⟩:=k9 F;omega
  rw[e]at F;simp at F;subst F;exact b) (h.move oQ) hh
 have ab:eW (af t (r.pos+1))=true->(bB t (af t r.pos) parent {r with pos:=r.pos+1}).2.pos=r.pos+2:=by
  grind[bB]
 have aa:(bB t (af t r.pos) parent {r with pos:=r.pos+1}).1=eW (af t (r.pos+1)):=by
  grind[bB,eW,af]
 unfold bW at D⊢;generalize bB t (af t r.pos) parent {r with pos:=r.pos+1}=s at*;by_cases q1:s.1=true
 ·rw[aq q1]at D⊢;have q2:eW (af t (r.pos+1))=true:=by rw[<-aa];exact q1
  have ad:=ow q2;have e:=ab q2;have J:=Y q1;simp only at J;have eK:oU t r.pos parent L=some (if af t r.pos==60 then r.pos+2 else r.pos+1,if af t r.pos==60||af t r.pos==42 then parent else L.length,jG L parent++[⟨af t (r.pos+1),fU (af t r.pos),parent,r.pos+1,[],[],[]⟩]):=by
   grind[oU]
  rw[show((r.pos+1:Nat):Int)=(r.pos:Int)+1 by omega]at J;generalize U:jG L parent++[(⟨af t (r.pos+1),fU (af t r.pos),parent,(r.pos:Int)+1,[],[],[]⟩:RN)]=I at*;have G:Be L I:=by rw[<-U];exact(PA L parent).trans (Be.push _ _)
  have O:xR I (L.length:Int)=some ⟨af t (r.pos+1),fU (af t r.pos),parent,(r.pos:Int)+1,[],[],[]⟩:=by
   show I[L.length]? =_;grind[ly]
  have R:L.length=r.ah.length:=by rw[<-h.ah];simp
  rcases pZ _ hq with q|q|q|q
  ·rw[q]at D eK⊢;simp only[show((40:Int)==40)=true by decide,aQ]at D⊢;rw[<-R]at D⊢;have⟨L',g1,g2,g3⟩:=Kk L.length 41 s.2 I _ (Or.inl rfl) hn.1 J O (by unfold RO;rw[q];simp only;decide) D;refine⟨L',g1,G.trans g2,λE hr=>js.step Z eK ?_⟩;simp_all
  ·rw[q]at D eK⊢;simp only[show((91:Int)==40)=false by decide,show((91:Int)==91)=true by decide,aQ,bu,bf]at D⊢;rw[<-R]at D⊢;have⟨L',g1,g2,g3⟩:=Kk L.length 93 s.2 I _ (Or.inr rfl) hn.1 J O (by unfold RO;rw[q];simp only;decide) D;refine⟨L',g1,G.trans g2,λE hr=>js.step Z eK ?_⟩;simp_all
  ·rw[q]at D eK⊢;simp only[show((60:Int)==40)=false by decide,show((60:Int)==91)=false by decide,show((60:Int)==60)=true by decide,aQ,bu,bf]at D⊢;simp only[dI,D,aQ];refine⟨I,J.move oQ,G,λE hr=>js.step Z eK ?_⟩;simp_all
  grind[js.step]
 simp_all
theorem PB{t}:∀n,aa_ t (a_ t n):=by
 intro n;induction n with
 |zero=>intro D cl r L nd _ _ _ _ _ h;grind[a_]
 |succ n U=>?_
 intro D cl r L nd I ok h O hb F;have⟨k,hself,_,hkl⟩:=k9 O;simp only[a_]at F⊢;split at F
 ·rename_i q;rw[aq q];by_cases J:(bW t (a_ t n) D r).1=true
  ·rw[aq J]at F⊢;have hs:=kj (it:=a_ t n) (λa c s hc hs=>lk n a c s hc hs) D (k6 q) ok;have⟨L1,g1,g2,g3⟩:=Eg U h ok q (Or.inr ⟨nd,O,hb⟩) oQ J;have⟨nd',hn',e',b'⟩:=g2.at_ O;have⟨L2,k1,k2,k3⟩:=U D cl _ L1 nd' I hs.1 g1 hn' (b' hb) F;refine⟨L2,k1,g2.trans k2,λG R=>g3 G (k3 G ?_)⟩;simp_all
  simp_all
 rename_i q;rw[ax q];split at F
 ·rename_i Q;rw[aq Q];by_cases J:(transition t D r).1=true
  ·rw[aq J]at F⊢;have E:=eo aV Q;have hs:=ki D E ok;have⟨L1,g1,g0,g2,g3⟩:=BX h ok Q O J;have⟨nd',hn',e',b'⟩:=g3.at_ O;have⟨L2,k1,k2,k3⟩:=U D cl _ L1 nd' I hs.1 g2 hn' (b' hb) F;refine⟨L2,k1,g3.trans k2,λG R=>js.step E g1 ?_⟩;simp_all
  simp_all
 rename_i Q;rw[ax Q];split at F
 ·rename_i X;rw[aq X];by_cases J:(block t D r).1=true
  ·rw[aq J]at F⊢;have E:r.pos<t.size:=by
    grind[dS]
   have hs:=s9 D E ok;have⟨L1,g1,g0,g2,g3⟩:=Pz h X O J;have⟨nd',hn',e',b'⟩:=g3.at_ O;have⟨L2,k1,k2,k3⟩:=U D cl _ L1 nd' I hs.1 g2 hn' (b' hb) F;refine⟨L2,k1,g3.trans k2,λG R=>js.step E g1 ?_⟩;simp_all
  simp_all
 rename_i X;rw[ax X];simp only at F⊢;have Y:af t r.pos=cl:=cX F;have E:=eo (c:=cl) (by rcases I with rfl|rfl<;>decide) F;simp only[dI,F,aQ];refine⟨L,h.move oQ,Be.refl L,λG R=>js.step E (j:=r.pos) (up':=nd.parent) (L':=L) ?_ R⟩;grind[oU,af]
theorem zE{t}(E:(chart t).1=true):∃L,js t 0 (-1) [] L/\NR L (chart t).2:=by
 unfold chart at E⊢;by_cases q:(af t 0==40||af t 0==91)=true
 ·rw[aq q]at E⊢;by_cases F:(bW t (a_ t (t.size+1)) (-1) r0).1=true
  ·rw[aq F]at E⊢;have D:et (af t r0.pos)=true:=by
    show et (af t 0)=true;grind[et]
   have G:NR [] r0:=⟨rfl,dy,dy,dy,by simp[r0],by simp[r0],by simp[r0],by simp[r0],by simp[r0],dy,dy⟩
   have⟨L,g1,g2,g3⟩:=Eg (PB (t.size+1)) G (wZ t) D (Or.inl ⟨oQ,by show af t 0=40\/af t 0=91;simpa using q⟩) oQ F;refine⟨L,g3 L (.done ?_),g1⟩;grind
  simp_all
 simp_all
def eE(L:List RN)(k:Nat):RN:=L.getD k ⟨0,0,0,0,[],[],[]⟩
theorem eC{L k n}(h:L[k]? =some n):eE L k=n:=by grind[eE]
def tH(L:List RN)(i:Int)(j:Nat):Bool:=(eE L j).parent==i&&(eE L j).kind !=5
def dZ(L:List RN)(i:Int):List Nat:=(List.range L.length).filter (tH L i)
def u_(L:List RN)(i:Nat):Bool:=(L.take i).any λm=>m.name==(eE L i).name
def wV(L:List RN)(i:Nat):Bool:=
 if(eE L i).kind==5||(eE L i).kind==4 then(eE L (eE L i).parent.toNat).kind==3
 else((eE L i).kind==3||(eE L i).kind==2)&&(dZ L i).length==0
def pN(L:List RN)(b:Int):Bool:=L.any λm=>m.name==b
def vJ(rt:RT):List Us:=[⟨af rt.text 0,rt.pos⟩,⟨af rt.text (rt.text.size-1),rt.pos+((rt.text.size:Int)-1)⟩]
def Iz(L:List RN):List Us:=L.flatMap λn=>n.trans.flatMap vJ
def iZ(L:List RN)(D:Int)(u:Us):Int:=if eW u.name&& !pN L u.name&&(decide (D<0)||decide (u.pos<D))then u.pos else D
def sG(L:List RN):Int:=(Iz L).foldl (iZ L) (-1)
def sJ(L:List RN):Int×Int:=
 if 16<L.length then(3,(eE L 16).pos)
 else match(List.range L.length).find? (u_ L)with
  |some i=>(4,(eE L i).pos)
  |none=>match(List.range L.length).find? (wV L)with
   |some i=>(5,(eE L i).pos)
   |none=>if 0<=sG L then(6,sG L)else(0,0)
theorem DA{p}:∀ l k,(∀i s,l[i]? =some s->p (k+i) s=false)->iB p l k= -2:=by
 intro l;induction l with
 |nil=>intro k _;rfl
 |cons a l E=>?_
 intro k h;have D:=h 0 a rfl;simp only[iB];rw[show p k a=false by simpa using D];simp only[bu,bf];exact E (k+1) (λi s hs=>by rw[show k+1+i=k+(i+1)by omega];exact h (i+1) s (cX hs))
theorem DB{p}:∀ l k i s,l[i]? =some s->p (k+i) s=true->(∀j u,j<i->l[j]? =some u->p (k+j) u=false)->iB p l k=s.pos:=by
 intro l;induction l with
 |nil=>simp_all
 |cons a l G=>?_
 intro k i s E F D;simp only[iB];cases i with
 |zero=>
  simp_all
 |succ i=>?_
 rw[show p k a=false by simpa using D 0 a oQ rfl];simp only[bu,bf];exact G (k+1) i s (cX E) (by rw[show k+1+i=k+(i+1)by omega];exact F) (λj u hj hu=>by rw[show k+1+j=k+(j+1)by omega];exact D (j+1) u oQ (cX hu))
theorem yt{L:List RN}{p:Nat->St->Bool}{q:Nat->Bool}(h:∀(i:Nat) (n:RN),L[i]? =some n->p i n.st=q i):
 iB p (L.map RN.st) 0=match(List.range L.length).find? q with|some i=>(eE L i).pos|none=>-2:=by
 cases e:(List.range L.length).find? q with
 |none=>
  grind[DA]
 |some i=>?_
 simp only;rw[List.find?_range_eq_some]at e;have⟨e1,e2,e3⟩:=e;have hi:i<L.length:=cX e2;have D:=au hi;rw[eC D]
 have:=DB (p:=p) (L.map RN.st) 0 i L[i].st (by rw[bD,D];rfl) (by rw[eG,h i _ D];exact e1)
  (λj u hj hu=>by
   rw[bD,qB]at hu;obtain⟨n,D,rfl⟩:=hu;rw[eG,h j n D];have:=e3 j hj;simpa using this)
 rw[this];rfl
theorem mU c:∀ l k,(sy c l k= -2/\∀s∈l,s.name≠c)\/∃ i s,l[i]? =some s/\s.name=c/\sy c l k=((k+i:Nat):Int)/\∀ j u,j<i->l[j]? =some u->u.name≠c:=by
 intro l;induction l with
 |nil=>intro k;exact Or.inl ⟨rfl,dy⟩
 |cons a l E=>?_
 intro k;by_cases h:a.name=c
 ·grind[sy]
 have D:(a.name==c)=false:=cX h;simp only[sy,D,bu,bf];rcases E (k+1)with⟨e,f⟩|⟨i,s,e1,e2,e3,F⟩
 ·simp_all
 refine Or.inr ⟨i+1,s,by simpa using e1,e2,by rw[e3];omega,λj u hj hu=>?_⟩;grind
theorem YR{L}{i:Nat}{n}(E:L[i]? =some n):decide (place (L.map RN.st) n.st.name<(i:Int))=u_ L i:=by
 have hi:=(aM.1 E).1;unfold u_;rw[eC E];unfold place;rcases mU n.st.name (L.map RN.st) 0 with⟨_,e2⟩|⟨j,s,e1,e2,e3,G⟩
 ·grind
 rw[e3,eG];rw[bD,qB]at e1;obtain⟨m,hm,rfl⟩:=e1;by_cases I:j<i
 ·have:((j:Int)<(i:Int)):=oQ;rw[gf this];symm;rw[mC];refine⟨m,?_,by have D:m.name=n.name:=e2;simpa using D⟩;rw[List.mem_take_iff_getElem];grind
 have:¬((j:Int)<(i:Int)):=oQ;rw[fB this];symm;rw[List.any_eq_false];intro x F;rw[List.mem_take_iff_getElem]at F;have⟨j',hj',he⟩:=F;have:x.name≠n.name:=G j' x.st oQ (by rw[bD,au oQ,he];rfl);simp_all
theorem tJ ss parent:∀ f k,(gx ss parent f k= -2/\∀j,k<=j->j<k+f->bq ss j parent=false)\/∃j,k<=j/\j<k+f/\bq ss j parent=true/\gx ss parent f k=(j:Int):=by
 intro f;induction f with
 |zero=>intro k;exact Or.inl ⟨rfl,λj h1 h2=>oQ⟩
 |succ f D=>?_
 grind[gx,bq]
theorem k_{L i}{j:Nat}(h:j<L.length):bq (L.map RN.st) (j:Int) i=tH L i j:=by
 have D:=au h;unfold bq tH;rw[eC D,iR,bD,D];rfl
theorem YS{L r}(h:NR L r){i:Nat}{n}(E:L[i]? =some n):oR (L.map RN.st) (i:Int)=wV L i:=by
 have hi:=(aM.1 E).1;have hw:=h.wf i n E;unfold oR wV;rw[iR,bD,E,eC E];simp only[Option.map_some];have e1:n.st.kind=n.kind:=rfl;have e2:n.st.parent=n.parent:=rfl;rw[e1,e2];by_cases c1:(n.kind==5||n.kind==4)=true
 ·rw[aq c1,aq c1];have F:=hw.2.2.2.1 (by simp at c1;omega);obtain⟨p,F⟩:∃p:Nat,n.parent=p:=⟨n.parent.toNat,oQ⟩
  have D:p<L.length:=oQ;rw[F];unfold bn;rw[iR,bD,au D];simp only[Option.map_some,dE];rw[eC (au D)];rfl
 rw[ax c1,ax c1];by_cases c2:(n.kind==3||n.kind==2)=true
 ·rw[aq c2,c2,fC];unfold fj;rw[fN];rcases tJ (L.map RN.st) (i:Int) L.length 0 with⟨e,g⟩|⟨j,_,g2,g3,e⟩
  ·rw[e];have:dZ L (i:Int)=[]:=by
    unfold dZ;rw[qD];grind[k_]
   simp_all
  rw[e];have I:j<L.length:=oQ;rw[k_ I]at g3;have:dZ L (i:Int)≠[]:=by
   intro G;unfold dZ at G;simp_all
  grind
 simp_all
theorem Ge L b:(place (L.map RN.st) b== -2)= !pN L b:=by
 unfold place pN;rcases mU b (L.map RN.st) 0 with⟨e,g⟩|⟨j,s,e1,e2,e3,_⟩
 ·rw[e];have:(L.any λm=>m.name==b)=false:=by
   rw[List.any_eq_false];intro x E;have:x.name≠b:=g x.st (gY.2 ⟨x,E,rfl⟩);simp_all
  simp_all
 rw[e3];rw[bD,qB]at e1;obtain⟨m,hm,rfl⟩:=e1;have:(L.any λm=>m.name==b)=true:=by
  rw[mC];exact⟨m,aP hm,by have D:m.name=b:=e2;simpa using D⟩
 grind
theorem Eh{L}:∀(l:List Us) b,(∀u∈l,0<=u.pos)->
 (l.foldl (iZ L) b=b/\(∀u∈l,eW u.name=true->pN L u.name=false->0<=b/\b<=u.pos))\/
 (∃u∈l,eW u.name=true/\pN L u.name=false/\l.foldl (iZ L) b=u.pos/\(b<0\/u.pos<b)/\∀v∈l,eW v.name=true->pN L v.name=false->u.pos<=v.pos):=by
 intro l;induction l with
 |nil=>simp_all
 |cons a l G=>?_
 intro b D;rw[List.foldl_cons];have E:=D a dy;have F:∀u∈l,0<=u.pos:=λu hu=>D u (by simp[hu]);by_cases c:(eW a.name&& !pN L a.name&&(decide (b<0)||decide (a.pos<b)))=true
 ·grind[iZ]
 grind[iZ]
theorem IA ss:∀ l,l.Pairwise (λa b=>a.pos<b.pos)->
 (fD ss l= -2/\∀u∈l,(place ss u.name== -2)=false)\/(∃u∈l,(place ss u.name== -2)=true/\fD ss l=u.pos/\∀v∈l,(place ss v.name== -2)=true->u.pos<=v.pos):=by
 intro l;induction l with
 |nil=>intro _;exact Or.inl ⟨rfl,dy⟩
 |cons a l D=>?_
 intro h;rw[List.pairwise_cons]at h;grind[fD,place]
theorem cL t:(gW t).length=t.size:=by simp[gW]
theorem rX t k(h:k<t.size):(gW t)[k]? =some (af t k):=by
 unfold gW af;rw[bD,dif_pos h];have D:k<t.data.toList.length:=cX h;rw[au D];rfl
theorem xz.ends{rt x}(h:xz rt x):2<=rt.text.size/\af rt.text 0=x.uh/\af rt.text (rt.text.size-1)=x.target:=by
 have D:=iw List.length h.Vp;rw[cL]at D;simp at D;have E:(gW rt.text)[0]? =some x.uh:=by rw[h.Vp];rfl
 have F:(gW rt.text).getLast?=some x.target:=by rw[h.Vp,Iy]
 grind[rX,cL]
theorem yu{L r}(h:NR L r)u(hu:eW u.name=true):u∈Iz L↔u∈r.dH:=by
 rw[h.us];unfold Iz;simp only[lW];constructor
 ·rintro⟨n,J,rt,D,I⟩;have⟨k,hk⟩:=jl J;have F:=h.dF k n hk;have:∃x,xz rt x:=by
   generalize List.filter (sE k) r.dF=m at F;generalize n.trans=l at F D;induction F using u9.ind with
   |nil=>simp_all
   |cons G _ O=>?_
   grind
  have⟨x,E⟩:=this;refine⟨k,n,rt,x,hk,D,E,?_⟩;have⟨e0,e1,e2⟩:=E.ends;grind[vJ,xf,cL]
 rintro⟨k,n,rt,x,hk,D,E,I⟩;refine⟨n,aP hk,rt,D,?_⟩;have⟨e0,e1,e2⟩:=E.ends;grind[vJ,xf,cL]
theorem yv{L r}(h:NR L r):∀u∈Iz L,0<=u.pos:=by
 intro u hu;unfold Iz at hu;simp only[lW]at hu;have⟨n,hn,rt,hr,hc⟩:=hu;have⟨k,hk⟩:=jl hn;have D:=h.dF k n hk;have:∃x,xz rt x:=by
  generalize List.filter (sE k) r.dF=m at D;generalize n.trans=l at D hr;induction D using u9.ind with
  |nil=>simp_all
  |cons E _ F=>?_
  grind
 have⟨x,hx⟩:=this;have:=hx.pos;have⟨e0,_,_⟩:=hx.ends;grind[vJ]
theorem S9{L r}(h:NR L r):sG L=if fD (L.map RN.st) r.dH== -2 then-1 else fD (L.map RN.st) r.dH:=by
 unfold sG;have D:∀u∈r.dH,eW u.name=true:=by
  intro u hu;have⟨k,n,rt,x,_,_,_,hc⟩:=(h.us u).1 hu;grind[xf]
 rcases IA (L.map RN.st) r.dH h.so with⟨e,g⟩|⟨u,hu,g1,g2,g3⟩
 ·grind[Eh,Iz,yv,yu,Ge]
 have E:=D u hu;have G:pN L u.name=false:=by rw[Ge]at g1;simpa using g1
 have F:=yv h u ((yu h u E).2 hu);grind[Eh,Iz,yv,yu,Ge]
theorem BY{L r}(h:NR L r):sJ L=gy r.ah r.dH:=by
 rw[<-h.ah];unfold sJ gy;rw[fN];by_cases c:16<L.length
 ·rw[aq c,aq c,bD,au c,eC (au c)];rfl
 rw[ax c,ax c];have e1:jX (L.map RN.st)=_:=yt (L:=L) (q:=u_ L) (λi n hn=>YR hn);have e2:nA (L.map RN.st)=_:=yt (L:=L) (q:=wV L) (λi n hn=>YS h hn);have F:∀(q:Nat->Bool) i,(List.range L.length).find? q=some i->0<=(eE L i).pos:=by
  intro q i hi;have E:i<L.length:=by have:=List.mem_of_find?_eq_some hi;simpa using this
  rw[eC (au E)];exact(h.wf i _ (au E)).2.2.2.2.2.2
 rw[e1,e2];cases c1:(List.range L.length).find? (u_ L)with
 |some i=>
  grind
 |none=>?_
 simp only[show((-2:Int)!= -2)=false by decide,bu,bf];cases c2:(List.range L.length).find? (wV L)with
 |some i=>
  grind
 |none=>?_
 simp only[show((-2:Int)!= -2)=false by decide,bu,bf];rw[S9 h];rcases IA (L.map RN.st) r.dH h.so with⟨e,_⟩|⟨u,hu,_,g2,_⟩
 ·simp_all
 rw[g2];have G:0<=u.pos:=by
  have⟨k,n,rt,x,hk,hr,hx,hc⟩:=(h.us u).1 hu;have D:eW u.name=true:=by
   grind[xf]
  exact yv h u ((yu h u D).2 hu)
 grind
