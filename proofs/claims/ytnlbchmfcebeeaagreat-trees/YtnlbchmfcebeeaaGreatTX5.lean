import Derived.Test.YtnlbchmfcebeeaaGreatTZrv1
set_option maxHeartbeats 12800000
set_option maxRecDepth 100000
namespace Go.Proofs.YtnlbchmfcebeeaaGreat
open Go.Proofs.Tryz Ch
open Go.RowKit
namespace Ch
def lX(b lo hi:Int):Bool:=decide (lo<=b)&&decide (b<=hi)
def eX(ok:Bool)(next:Int):Int:=if ok then next else-1
def eK(w:Wk)(b:Int):Int×Wk:=
 if b==40 then(1,{w with open_:=w.open_++[41]})
 else if b==91 then(1,{w with open_:=w.open_++[93]})
 else if b==60 then(2,w)
 else if b==42 then(4,w)
 else if b==58 then(6,w)
 else if b==94||b==36 then(11,{w with close:=59})
 else match w.open_.getLast? with
  |none=>(-1,w)
  |some c=>if b !=c then(-1,w)else(if w.open_.length==1 then 18 else 5,{w with open_:=w.open_.dropLast})
def zI(w:Wk)(b:Int):Int:=
 if b==33||b==126||b==35 then 12
 else if b==64 then 13
 else if b==43||b==45||b==61 then 15
 else if b !=w.close then-1
 else if b==62 then 17
 else 5
def a_(w:Wk)(b:Int):Int×Wk:=
 if w.mode==0 then(if b !=40&&b !=91 then(-1,w)else eK w b)
 else if w.mode==1||w.mode==4 then(eX (lX b 65 90) 5,w)
 else if w.mode==2 then(eX (lX b 65 90) 3,w)
 else if w.mode==3 then(eX (b==62) 5,w)
 else if w.mode==5 then eK w b
 else if w.mode==6 then(eX (lX b 97 122||lX b 65 90||b==46) 7,{w with close:=62})
 else if w.mode==7 then(if b==63 then 8 else zI w b,w)
 else if w.mode==8 then(eX (lX b 120 122) 9,w)
 else if w.mode==9 then(eX (b==60||b==61||b==62) 10,w)
 else if w.mode==10||w.mode==16 then(eX (lX b 48 57) 11,w)
 else if w.mode==11 then(zI w b,w)
 else if w.mode==12 then(eX (lX b 97 122) 11,w)
 else if w.mode==13 then(eX (lX b 97 122) 14,w)
 else if w.mode==14 then(eX (lX b 48 57&&b !=48) 11,w)
 else if w.mode==15 then(eX (lX b 120 122) 16,w)
 else if w.mode==17 then(eX (lX b 65 90||b==45) 5,w)
 else(-1,w)
def jA(t:ByteArray):Nat->Nat->Wk->Int
 |0,_,w=>if w.mode !=18 then t.size else-1
 |f+1,i,w=>if(a_ w (af t i)).1== -1 then i else jA t f (i+1) {(a_ w (af t i)).2 with mode:=(a_ w (af t i)).1}
def Cc(t:ByteArray):Int:=jA t t.size 0 ⟨0,[],0⟩
def eZ(t:ByteArray)(i:Nat)(w:Wk):Int:=jA t (t.size-i) i w
theorem xe{t:ByteArray}{i:Nat}{w:Wk}(h:t.size<=i):eZ t i w=if w.mode !=18 then(t.size:Int)else-1:=by
 unfold eZ;rw[show t.size-i=0 by omega];rfl
theorem qF{t:ByteArray}{i:Nat}{w:Wk}(h:i<t.size):
 eZ t i w=if(a_ w (af t i)).1== -1 then(i:Int)else eZ t (i+1) {(a_ w (af t i)).2 with mode:=(a_ w (af t i)).1}:=by
 unfold eZ;rw[show t.size-i=(t.size-(i+1))+1 by omega];rfl
theorem tL{t:ByteArray}{i:Nat}{w:Wk}(h:i<=t.size)(hm:w.mode≠18)(hn:(a_ w (af t i)).1= -1):eZ t i w=i:=by
 rcases Nat.lt_or_ge i t.size with q|q
 ·rw[qF q,hn];rfl
 rw[xe q,show i=t.size by omega];simp[hm]
theorem iQ{t:ByteArray}{i:Nat}{w w':Wk}{m:Int}(h:i<t.size)(hn:a_ w (af t i)=(m,w'))(hm:m≠ -1):eZ t i w=eZ t (i+1) {w' with mode:=m}:=by
 rw[qF h,hn];simp[hm]
theorem J2(c:Int):lX c 120 122=gw c:=by
 unfold gw lX
 by_cases h1:c=120
 ·simp[h1]
 by_cases h2:c=121
 ·simp[h2]
 by_cases h3:c=122
 ·simp[h3]
 rw[show(c==120)=false by simpa using h1,show(c==121)=false by simpa using h2,show(c==122)=false by simpa using h3]
 cases q:decide (120<=c)<;>cases q2:decide (c<=122)<;>simp at q q2<;>first|rfl|omega
theorem Oc(c:Int):(lX c 48 57&&c !=48)=eI 49 c:=by
 unfold eI lX
 by_cases h1:c=48
 ·simp[h1]
 by_cases h2:48<=c
 ·have:49<=c:=by omega
  simp[h1,h2,this]
 have:¬ 49<=c:=by omega
 simp[h2,this]
section
variable {t:ByteArray} {p:Nat} {o:List Int} {c:Int}
theorem fT{m n:Int}{ok:Bool}(hm:m≠18)(hn:n≠ -1)(hp:p<=t.size)(hok:ok=true->p<t.size)(h:a_ ⟨m,o,c⟩ (af t p)=(eX ok n,⟨m,o,c⟩)):
 eZ t p ⟨m,o,c⟩=if ok then eZ t (p+1) ⟨n,o,c⟩else p:=by
 cases q:ok with
 |true=>rw[iQ (hok q) h (by simp[q,eX,hn])];simp[q,eX]
 |false=>rw[tL hp hm (by rw[h];simp[q,eX])];simp
theorem QE{m n:Int}(hn:n≠ -1)(hm:m=12/\n=11\/m=13/\n=14)(hp:p<=t.size):
 eZ t p ⟨m,o,c⟩=if bR (af t p)then eZ t (p+1) ⟨n,o,c⟩else p:=by
 rcases hm with⟨rfl,rfl⟩|⟨rfl,rfl⟩
 ·exact fT (ok:=bR (af t p)) (by decide) hn hp qY (by simp[a_,bR,lX])
 exact fT (ok:=bR (af t p)) (by decide) hn hp qY (by simp[a_,bR,lX])
theorem QF{m n:Int}(hn:n≠ -1)(hm:m=8/\n=9\/m=15/\n=16)(hp:p<=t.size):
 eZ t p ⟨m,o,c⟩=if gw (af t p)then eZ t (p+1) ⟨n,o,c⟩else p:=by
 rcases hm with⟨rfl,rfl⟩|⟨rfl,rfl⟩
 ·exact fT (ok:=gw (af t p)) (by decide) hn hp kW (by simp[a_,J2])
 exact fT (ok:=gw (af t p)) (by decide) hn hp kW (by simp[a_,J2])
theorem QG{m:Int}(hm:m=10\/m=16)(hp:p<=t.size):
 eZ t p ⟨m,o,c⟩=if eI 48 (af t p)then eZ t (p+1) ⟨11,o,c⟩else p:=by
 rcases hm with rfl|rfl
 ·exact fT (ok:=eI 48 (af t p)) (by decide) (by decide) hp (nt (by omega)) (by simp[a_,eI,lX])
 exact fT (ok:=eI 48 (af t p)) (by decide) (by decide) hp (nt (by omega)) (by simp[a_,eI,lX])
theorem aah(hp:p<=t.size):
 eZ t p ⟨14,o,c⟩=if eI 49 (af t p)then eZ t (p+1) ⟨11,o,c⟩else p:=
 fT (ok:=eI 49 (af t p)) (by decide) (by decide) hp (nt (by omega)) (by simp[a_,<-Oc])
theorem An{m n:Int}(hn:n≠ -1)(hm:m=1/\n=5\/m=4/\n=5\/m=2/\n=3)(hp:p<=t.size):
 eZ t p ⟨m,o,c⟩=if bx (af t p)then eZ t (p+1) ⟨n,o,c⟩else p:=by
 rcases hm with⟨rfl,rfl⟩|⟨rfl,rfl⟩|⟨rfl,rfl⟩
 ·exact fT (ok:=bx (af t p)) (by decide) hn hp kX (by simp[a_,bx,lX])
 ·exact fT (ok:=bx (af t p)) (by decide) hn hp kX (by simp[a_,bx,lX])
 exact fT (ok:=bx (af t p)) (by decide) hn hp kX (by simp[a_,bx,lX])
theorem W7(hp:p<=t.size):eZ t p ⟨3,o,c⟩=if af t p==62 then eZ t (p+1) ⟨5,o,c⟩else p:=
 fT (ok:=af t p==62) (by decide) (by decide) hp (cL (by decide)) (by simp[a_])
theorem Cd(h:me (af t p)=true):p<t.size:=by
 rcases Nat.lt_or_ge p t.size with h'|h'
 ·exact h'
 rw[b_ h']at h;simp[me]at h
theorem aai(hp:p<=t.size):eZ t p ⟨9,o,c⟩=if me (af t p)then eZ t (p+1) ⟨10,o,c⟩else p:=
 fT (ok:=me (af t p)) (by decide) (by decide) hp Cd (by simp[a_,me])
theorem aaj(hp:p<=t.size):eZ t p ⟨17,o,c⟩=if kf (af t p)then eZ t (p+1) ⟨5,o,c⟩else p:=
 fT (ok:=kf (af t p)) (by decide) (by decide) hp AE (by simp[a_,kf,bx,lX,Bool.or_comm])
theorem aak(hp:p<=t.size):eZ t p ⟨6,o,c⟩=if jF (af t p)then eZ t (p+1) ⟨7,o,62⟩else p:=by
 have h:a_ ⟨6,o,c⟩ (af t p)=(eX (jF (af t p)) 7,⟨6,o,62⟩):=by
  have:(lX (af t p) 97 122||lX (af t p) 65 90||af t p==46)=jF (af t p):=by
   unfold jF bR bx lX
   cases decide (97<=af t p)&&decide (af t p<=122)<;>cases decide (65<=af t p)&&decide (af t p<=90)<;>cases af t p==46<;>rfl
  simp[a_,<-this]
 cases q:jF (af t p)with
 |true=>rw[iQ (vk q) h (by simp[q,eX])];simp[q,eX]
 |false=>rw[tL hp (by simp) (by rw[h];simp[q,eX])];simp
theorem W8(hp:p<=t.size)(hc:(af t p==c)=false):
 eZ t p ⟨11,o,c⟩=if(act t p ⟨af t p,0,0⟩).1 then eZ t (act t p ⟨af t p,0,0⟩).2.2 ⟨11,o,c⟩else((act t p ⟨af t p,0,0⟩).2.2:Int):=by
 unfold act;simp only
 split
 ·rename_i q
  have hlt:p<t.size:=by
   rcases Nat.lt_or_ge p t.size with h'|h'
   ·exact h'
   rw[b_ h']at q;simp at q
  rw[iQ (m:=12) (w':=⟨11,o,c⟩) hlt (by simp only[a_,zI];simp[q]) (by decide)];simp only;rw[QE (p:=p+1) (by decide) (Or.inl ⟨rfl,rfl⟩) hlt];simp only[fU,bI]
  by_cases q3:bR (af t (p+1))=true<;>simp[q3]
 rename_i q
 split
 ·rename_i q2
  have hlt:=cL (by decide) q2;rw[iQ (m:=13) (w':=⟨11,o,c⟩) hlt (by simp only[a_,zI];simp[q,q2]) (by decide)];simp only;rw[QE (p:=p+1) (by decide) (Or.inr ⟨rfl,rfl⟩) hlt];simp only[py,jC,fU,bI]
  by_cases q3:bR (af t (p+1))=true
  ·have:=qY q3
   simp only[q3,if_true];rw[aah (by omega)]
   by_cases q4:eI 49 (af t (p+1+1))=true<;>simp[q4]
  simp[q3]
 rename_i q2
 split
 ·rename_i q3
  have hlt:p<t.size:=by
   rcases Nat.lt_or_ge p t.size with h'|h'
   ·exact h'
   rw[b_ h']at q3;simp at q3
  rw[iQ (m:=15) (w':=⟨11,o,c⟩) hlt (by simp only[a_,zI];simp[q,q2,q3]) (by decide)];simp only;rw[QF (p:=p+1) (by decide) (Or.inr ⟨rfl,rfl⟩) hlt];simp only[kN,jC,gx,bI]
  by_cases q3:gw (af t (p+1))=true
  ·have:=kW q3
   simp only[q3,if_true];rw[QG (Or.inr rfl) (by omega)]
   by_cases q4:eI 48 (af t (p+1+1))=true<;>simp[q4]
  simp[q3]
 rename_i q3;rw[tL hp (by simp) (by simp only[a_,zI];simp[q,q2,q3];intro h;simp[h]at hc)];simp
def m_(c:Int):Int:=if c==62 then 17 else 5
theorem Od(hcl:c=59\/c=62):∀(n p:Nat) (l:List Ac),p<=t.size->t.size+1<=n+p->
 eZ t p ⟨11,o,c⟩=if(fM t c n p l).1 then eZ t (fM t c n p l).2.2 ⟨m_ c,o,c⟩else((fM t c n p l).2.2:Int):=by
 intro n
 induction n with
 |zero=>intro p l h1 h2;omega
 |succ n ih=>?_
 intro p l h1 h2
 cases q:af t p==c with
 |true=>
  rw[iT q];have hlt:p<t.size:=cL (c:=c) (by rcases hcl with rfl|rfl<;>decide) q
  have q':af t p=c:=by simpa using q
  have:a_ ⟨11,o,c⟩ (af t p)=(m_ c,⟨11,o,c⟩):=by
   rw[q'];rcases hcl with rfl|rfl<;>simp[a_,zI,m_]
  rw[iQ hlt this (by rcases hcl with rfl|rfl<;>decide)];simp
 |false=>?_
 rw[W8 h1 q]
 cases q2:(act t p ⟨af t p,0,0⟩).1 with
 |false=>rw[pE q q2];simp
 |true=>?_
 rw[jS q q2];have:=zT q2;have:=pD h1 0 0;simp only[if_true];exact ih _ _ this (by omega)
theorem Fi(hcl:c=59\/c=62)(hp:p<=t.size):
 eZ t p ⟨11,o,c⟩=if(acts t c p).1 then eZ t (acts t c p).2.2 ⟨m_ c,o,c⟩else((acts t c p).2.2:Int):=
 Od hcl _ _ _ hp (by omega)
theorem ade(h:(af t p==63)=false):eZ t p ⟨7,o,62⟩=eZ t p ⟨11,o,62⟩:=by
 rcases Nat.lt_or_ge p t.size with q|q
 ·rw[qF q,qF q]
  have:a_ ⟨7,o,62⟩ (af t p)=((a_ ⟨11,o,62⟩ (af t p)).1,⟨7,o,62⟩):=by simp[a_,zI,h]
  rw[this]
  have:(a_ ⟨11,o,62⟩ (af t p)).2=⟨11,o,62⟩:=by simp[a_]
  rw[this]
 rw[xe q,xe q];rfl
theorem Oe(g:Gd):
 eZ t p ⟨7,o,62⟩=if(guard t p g).1 then eZ t (guard t p g).2.2 ⟨11,o,62⟩else((guard t p g).2.2:Int):=by
 unfold guard
 split
 ·rename_i q
  have hlt:=cL (by decide) q;rw[iQ (m:=8) (w':=⟨7,o,62⟩) hlt (by simp only[a_];simp[q]) (by decide)];simp only;rw[QF (p:=p+1) (by decide) (Or.inl ⟨rfl,rfl⟩) hlt]
  cases q2:gw (af t (p+1))with
  |false=>simp
  |true=>?_
  have hlt2:=kW q2;simp only[if_true];rw[aai (by omega)];rw[show p+1+1=p+2 by rfl]
  cases q3:me (af t (p+2))with
  |false=>simp
  |true=>?_
  have hlt3:=Cd q3;simp only[if_true];rw[QG (Or.inl rfl) (by omega)];rw[show p+2+1=p+3 by rfl]
  cases eI 48 (af t (p+3))<;>simp[bI]
 rename_i q;simp only[if_true];exact ade (by simpa using q)
theorem zJ{r:Rs}(self:Int)(hp:r.pos<t.size)(hq:(af t r.pos==58)=true):
 eZ t r.pos ⟨5,o,c⟩=if(transition t self r).1 then eZ t (transition t self r).2.pos ⟨5,o,62⟩else((transition t self r).2.pos:Int):=by
 have q':af t r.pos=58:=by simpa using hq
 rw[iQ (m:=6) (w':=⟨5,o,c⟩) hp (by rw[q'];simp[a_,eK]) (by decide)];simp only;rw[aak (p:=r.pos+1) hp];unfold transition
 cases q1:jF (af t (r.pos+1))with
 |false=>simp
 |true=>?_
 have l1:=vk q1;simp only[if_true];rw[Oe (p:=r.pos+1+1) ⟨0,0,0⟩];have hg:=sN (t:=t) (p:=r.pos+1+1) ⟨0,0,0⟩ (by omega);generalize guard t (r.pos+1+1) ⟨0,0,0⟩=gg at*
 cases q2:gg.1 with
 |false=>simp
 |true=>?_
 simp only[if_true];rw[Fi (Or.inr rfl) hg.2];have ha:=vZ (t:=t) (cl:=62) (p:=gg.2.2) hg.2;generalize acts t 62 gg.2.2=aa at*
 cases q3:aa.1 with
 |false=>simp
 |true=>?_
 simp only[if_true];rw[show m_ 62=17 by rfl,aaj ha.2]
 cases kf (af t aa.2.2)<;>simp[bI]
theorem Of{r:Rs}(self:Int)(hp:r.pos<t.size)(hq:(af t r.pos==94||af t r.pos==36)=true):
 eZ t r.pos ⟨5,o,c⟩=if(block t self r).1 then eZ t (block t self r).2.pos ⟨5,o,59⟩else((block t self r).2.pos:Int):=by
 have:a_ ⟨5,o,c⟩ (af t r.pos)=(11,⟨5,o,59⟩):=by
  rcases(by simpa using hq:af t r.pos=94\/af t r.pos=36)with q|q<;>rw[q]<;>simp[a_,eK]
 rw[iQ hp this (by decide)];simp only;rw[Fi (p:=r.pos+1) (Or.inl rfl) hp];unfold block
 cases(acts t 59 (r.pos+1)).1<;>simp[m_]
end
theorem y8{t:ByteArray}{r:Rs}{it:Int->Int->Rs->Bool×Rs}{o:List Int}{c m:Int}(parent:Int)
 (hit:∀a k s c',(k=41\/k=93)->Ok t s->r.pos<s.pos->∃c'',eZ t s.pos ⟨5,o++[k],c'⟩=if(it a k s).1 then eZ t (it a k s).2.pos ⟨if o.length==0 then 18 else 5,o,c''⟩else((it a k s).2.pos:Int))
 (ho:Ok t r) (hq:isOpen (af t r.pos)=true) (hm:(m=5/\o≠[])\/(m=0/\o=[]/\(af t r.pos=40\/af t r.pos=91))):
 ∃c'',eZ t r.pos ⟨m,o,c⟩=if(aK t it parent r).1 then eZ t (aK t it parent r).2.pos ⟨if o.length==0 then 18 else 5,o,c''⟩else((aK t it parent r).2.pos:Int):=by
 have hp:=iY hq;obtain⟨⟨d1,d2,d3,d4⟩,h5⟩:=ho;have hn:=ku (t:=t) (r:={r with pos:=r.pos+1}) (af t r.pos) parent ⟨⟨by simp only;omega,by simp only;omega,by simp only;omega,by simp only;omega⟩,by simp only;omega⟩
 have hb:∀x,af t r.pos=x->(x=40\/x=91)->a_ ⟨m,o,c⟩ (af t r.pos)=(1,⟨m,o++[if x==40 then 41 else 93],c⟩):=by
  intro x hx h;rw[hx]
  rcases hm with⟨rfl,_⟩|⟨rfl,_⟩<;>rcases h with rfl|rfl<;>simp[a_,eK]
 have hs1:(aC t (af t r.pos) parent {r with pos:=r.pos+1}).1=bx (af t (r.pos+1)):=by
  unfold aC;simp only;cases bx (af t (r.pos+1))<;>rfl
 have hs2:bx (af t (r.pos+1))=true->(aC t (af t r.pos) parent {r with pos:=r.pos+1}).2.pos=r.pos+1+1:=by
  intro h;unfold aC;simp[h]
 have hs3:bx (af t (r.pos+1))=false->(aC t (af t r.pos) parent {r with pos:=r.pos+1}).2.pos=r.pos+1:=by
  intro h;unfold aC;simp[h]
 unfold aK;generalize aC t (af t r.pos) parent {r with pos:=r.pos+1}=s at*;rw[hs1]
 rcases mH _ hq with q|q|q|q
 ·rw[iQ hp (hb _ q (Or.inl rfl)) (by decide)]
  simp only;rw[An (p:=r.pos+1) (by decide) (Or.inl ⟨rfl,rfl⟩) hp,q]
  cases q2:bx (af t (r.pos+1))with
  |false=>exact⟨0,by simp[hs3 q2]⟩
  |true=>?_
  have e:=hs2 q2;have:=hit r.ag.length 41 s.2 c (Or.inl rfl) hn.1 (by omega);rw[e]at this;simpa using this
 ·rw[iQ hp (hb _ q (Or.inr rfl)) (by decide)]
  simp only;rw[An (p:=r.pos+1) (by decide) (Or.inl ⟨rfl,rfl⟩) hp,q]
  cases q2:bx (af t (r.pos+1))with
  |false=>exact⟨0,by simp[hs3 q2]⟩
  |true=>?_
  have e:=hs2 q2;have:=hit r.ag.length 93 s.2 c (Or.inr rfl) hn.1 (by omega);rw[e]at this;simpa using this
 ·obtain⟨rfl,hne⟩:m=5/\o≠[]:=by
   rcases hm with h|⟨_,_,h⟩
   ·exact h
   omega
  rw[iQ (m:=2) (w':=⟨5,o,c⟩) hp (by rw[q];simp[a_,eK]) (by decide)];simp only;rw[An (p:=r.pos+1) (by decide) (Or.inr (Or.inr ⟨rfl,rfl⟩)) hp,q]
  cases q2:bx (af t (r.pos+1))with
  |false=>exact⟨0,by simp[hs3 q2]⟩
  |true=>?_
  have e:=hs2 q2;have hlt:=kX q2;refine⟨c,?_⟩;simp only[if_true];rw[W7 (p:=r.pos+1+1) hlt,e]
  cases af t (r.pos+1+1)==62<;>simp[bI,hne]
 obtain⟨rfl,hne⟩:m=5/\o≠[]:=by
  rcases hm with h|⟨_,_,h⟩
  ·exact h
  omega
 rw[iQ (m:=4) (w':=⟨5,o,c⟩) hp (by rw[q];simp[a_,eK]) (by decide)];simp only;rw[An (p:=r.pos+1) (by decide) (Or.inr (Or.inl ⟨rfl,rfl⟩)) hp,q]
 cases q2:bx (af t (r.pos+1))with
 |false=>exact⟨0,by simp[hs3 q2]⟩
 |true=>?_
 have e:=hs2 q2;exact⟨c,by simp[e,hne]⟩
theorem Og{t:ByteArray}:∀(n:Nat) (self cl:Int) (r:Rs) (o:List Int) (c:Int),(cl=41\/cl=93)->Ok t r->t.size+1<=n+r.pos->
 ∃c',eZ t r.pos ⟨5,o++[cl],c⟩=if(an t n self cl r).1 then eZ t (an t n self cl r).2.pos ⟨if o.length==0 then 18 else 5,o,c'⟩else((an t n self cl r).2.pos:Int):=by
 intro n
 induction n with
 |zero=>intro self cl r o c _ h hf;have:=h.2;omega
 |succ n ih=>?_
 intro self cl r o c hcl h hf;simp only[an]
 split
 ·rename_i q
  have hs:=iy (it:=an t n) (λa c s hc hs=>jt n a c s hc hs) self (iY q) h;obtain⟨c1,e1⟩:=y8 (it:=an t n) (o:=o++[cl]) (c:=c) (m:=5) self (λa k s c' hk hs hlt=>ih a k s _ c' hk hs (by omega)) h q (Or.inl ⟨rfl,by simp⟩);rw[e1];generalize aK t (an t n) self r=s at*
  cases q1:s.1 with
  |false=>exact⟨0,by simp⟩
  |true=>?_
  obtain⟨c2,e2⟩:=ih self cl s.2 o c1 hcl hs.1 (by omega);refine⟨c2,?_⟩;simp only[if_true,List.length_append,List.length_cons,List.length_nil];rw[show(o.length+(0+1)==0)=false by simp];simpa using e2
 split
 ·rename_i q
  have hlt:=cL (by decide) q;have hs:=ix self hlt h;rw[zJ self hlt q];generalize transition t self r=s at*
  cases q1:s.1 with
  |false=>exact⟨0,by simp⟩
  |true=>?_
  obtain⟨c2,e2⟩:=ih self cl s.2 o 62 hcl hs.1 (by omega);exact⟨c2,by simpa using e2⟩
 split
 ·rename_i q
  have hlt:r.pos<t.size:=by
   rcases Nat.lt_or_ge r.pos t.size with x|x
   ·exact x
   rw[b_ x]at q;simp at q
  have hs:=pG self hlt h;rw[Of self hlt q];generalize block t self r=s at*
  cases q1:s.1 with
  |false=>exact⟨0,by simp⟩
  |true=>?_
  obtain⟨c2,e2⟩:=ih self cl s.2 o 59 hcl hs.1 (by omega);exact⟨c2,by simpa using e2⟩
 rename_i q1 q2 q3
 have w1:a_ ⟨5,o++[cl],c⟩ (af t r.pos)=if af t r.pos !=cl then(-1,⟨5,o++[cl],c⟩)else(if(o++[cl]).length==1 then 18 else 5,⟨5,o,c⟩):=by
  have q1':isOpen (af t r.pos)=false:=by simpa using q1
  simp only[isOpen,Bool.or_eq_false_iff]at q1'
  have q2':(af t r.pos==58)=false:=by simpa using q2
  have q3':(af t r.pos==94||af t r.pos==36)=false:=by simpa using q3
  simp only[a_,eK,q1',q2',q3'];simp
 cases q4:af t r.pos==cl with
 |false=>
  rw[tL h.2 (by simp) (by rw[w1];simp at q4;simp[q4])];exact⟨0,by simp[bI]⟩
 |true=>?_
 have q5:af t r.pos=cl:=by simpa using q4
 have hlt:=cL (c:=cl) (by rcases hcl with rfl|rfl<;>decide) q4;refine⟨c,?_⟩;rw[iQ (m:=if o.length==0 then 18 else 5) (w':=⟨5,o,c⟩) hlt (by rw[w1];simp[q5]) (by split<;>decide)];simp[bI]
theorem Tn(t:ByteArray):Cc t=if(chart t).1 then-1 else((chart t).2.pos:Int):=by
 have e0:Cc t=eZ t 0 ⟨0,[],0⟩:=by unfold Cc eZ;rfl
 rw[e0];unfold chart
 cases q:(af t 0==40||af t 0==91)with
 |false=>
  rw[tL (Nat.zero_le _) (by decide) (by
   have h:(af t 0 !=40&&af t 0 !=91)=true:=by
    simp at q;simp[q]
   simp only[a_,h];rfl)]
  simp[r0]
 |true=>?_
 have hop:isOpen (af t r0.pos)=true:=by
  show isOpen (af t 0)=true
  simp at q;unfold isOpen;rcases q with q|q<;>rw[q]<;>decide
 have hs:=iy (it:=an t (t.size+1)) (λa c s hc hs=>jt (t.size+1) a c s hc hs) (-1) (r:=r0) (iY hop) (u9 t)
 obtain⟨c1,e1⟩:=y8 (r:=r0) (it:=an t (t.size+1)) (o:=[]) (c:=0) (m:=0) (-1) (λa k s c' hk hs hlt=>Og (t.size+1) a k s [] c' hk hs (by omega)) (u9 t) hop
  (Or.inr ⟨rfl,rfl,by show af t 0=40\/af t 0=91;simpa using q⟩)
 rw[show eZ t 0 ⟨0,[],0⟩=eZ t r0.pos ⟨0,[],0⟩from rfl,e1];generalize aK t (an t (t.size+1)) (-1) r0=s at*;simp only[if_true]
 cases q1:s.1 with
 |false=>simp
 |true=>?_
 simp only[if_true];have hle:=hs.1.2
 by_cases hz:s.2.pos=t.size
 ·rw[xe (by omega)];simp[hz]
 have hne:((s.2.pos:Int)==(t.size:Int))=false:=by simp;omega
 rw[hne];rw[qF (by omega)];simp[a_]
theorem aal{c:Int}(h:bx c=true):65<=c/\c<=90:=by simp[bx]at h;exact h
end Ch
theorem jJ{P:Program}{ops:Array Oper}{rest:List Oper}{o:Oper}{a:Act}{w:World}{Q:Exit->Act->World->Prop}(hgd:o.guard=none)(s x:Operand)(t:TypeId)
 (hop:o.op= .call {callee:=.builtin .append,args:=#[s,x],argTypes:=#[t,t]})
 (base:Nat) (e:TypeId) (i:TypeInfo) (z:Value) (size bytes:Nat) (h1:P.underlying t=some (.slice e)) (h2:P.info? e=some i) (h3:i.zero=some z) (h4:i.size=size) (h5:i.bytes=bytes) (h6:z.cells.size=size) (h7:0<size)
 (v:Value) (n:Nat) (xs:List Value) (hs:a.eval s=v) (hown:w.ownsRow base e size v n xs)
 (ad:Addr) (m c:Nat) (news:List Value) (hx:a.eval x= .slice (some ad) m c) (hn:news.length=m*size) (hc:∀j u,news[j]? =some u->w.cell? (ad.add j)=some u) (h1c:∀u∈news,u.oneCell'=true)
 (hm:0<m) (b1:n+m<=maxLen) (b2:(n+m)*bytes<=140737488355328) (hbase:base<=w.heap.size)
 (hK:∀g cap w',w'.ownsRow base e size (.slice (some ⟨g,0,none⟩) (n+m) cap) (n+m) (xs++news)->w.grownBy w' v.ownBlock->(v.ownBlock=some g\/w.heap.size<=g)->wpList P ops Q rest (a.put o.dst (.slice (some ⟨g,0,none⟩) (n+m) cap)) w'):
 wpList P ops Q (o::rest) a w:=
 wpList_plain hgd λK hK'=>by
  obtain⟨g,cap,w',hrun,r1,r2,r3⟩:=dC (P:=P) w base t o.type e i z size bytes h1 h2 h3 h4 h5 h6 h7 v n xs hown ad m c news hn hc h1c hm b1 b2 hbase;unfold Oper.wp execOp;simp only[hop,resolve,invoke,builtin,Sem.run_bind,Sem.run_pure,Result.andThen_ok,List.map_toArray,List.map_cons,List.map_nil,hs,hx,hrun];exact hK' _ _ (hK g cap w' r1 r2 r3)
theorem He(l:List RT)(x:RT):gX (l++[x])=gX l++[.string x.text,.int .i64 x.pos]:=by simp[gX]
theorem y_(l:List ByteArray)(x:ByteArray):kF (l++[x])=kF l++[.string x]:=by simp[kF]
theorem Ce(l:List NV)(k:Nat)(x:NV)(h:l[k]? =some x)(j:Nat)(hj:j<7):(fh l)[k*7+j]? =(lV x)[j]?:=by
 induction l generalizing k with
 |nil=>simp at h
 |cons a l ih=>?_
 have e:fh (a::l)=lV a++fh l:=by simp[fh]
 have hn:(lV a).length=7:=rfl;rw[e]
 cases k with
 |zero=>simp at h;subst h;rw[List.getElem?_append_left (by omega)];simp
 |succ k=>?_
 rw[List.getElem?_append_right (by omega),<-ih k (by simpa using h)]
 congr 1;omega
theorem oG(l:List NV)(k:Nat)(x y:NV)(h:l[k]? =some x)(j:Nat)(hj:j<7)(u:Value)(hy:lV y=(lV x).set j u):(fh l).set (k*7+j) u=fh (l.set k y):=by
 induction l generalizing k with
 |nil=>simp at h
 |cons a l ih=>?_
 have e:∀a l,fh (a::l)=lV a++fh l:=by intro a l;simp[fh]
 have hn:(lV a).length=7:=rfl
 cases k with
 |zero=>
  simp at h;subst h;rw[e,List.set_cons_zero,e,hy,List.set_append_left _ _ (by omega)];simp
 |succ k=>?_
 rw[e,List.set_cons_succ,e,<-ih k (by simpa using h),List.set_append_right _ _ (by omega)]
 congr 2;omega
theorem rT.form{w:World}{B:Nat}{l:List NV}{v:Value}(h:rT w B l v){k:Nat}{x:NV}(hk:l[k]? =some x):
 ∃g cap,v= .slice (some ⟨g,0,none⟩) l.length cap/\B<=g/\(∀j,j<7->w.cell? ⟨g,k*7+j,none⟩=(lV x)[j]?)/\∀o,w.frozen? ⟨g,o,none⟩=false:=by
 have hlt:=(List.getElem?_eq_some_iff.1 hk).1;obtain⟨g,cap,rfl⟩:=gD h.row (by omega);refine⟨g,cap,rfl,(h.row.lt g rfl).1,λj hj=>?_,λo=>h.row.frozenAt o⟩;rw[<-Ce l k x hk j hj];exact h.row.cellAt (k*7+j) (by omega)
theorem xh{w:World}{B:Nat}{e:TypeId}{size:Nat}{a:Option Addr}{ln cap n:Nat}{xs:List Value}(h:w.ownsRow B e size (.slice a ln cap) n xs):ln=n:=by
 rcases h.2 with⟨h,h0⟩|⟨g,c,cur,h,_⟩
 ·simp only[Value.slice.injEq]at h;omega
 simp only[Value.slice.injEq]at h;exact h.2.1
theorem rT.adf{w:World}{B g:Nat}{l:List NV}{ln cap:Nat}(h:rT w B l (.slice (some ⟨g,0,none⟩) ln cap)){k:Nat}{x y:NV}(hk:l[k]? =some x)(j:Nat)(hj:j<7)(u:Value)(hy:lV y=(lV x).set j u):
 (w.setCell ⟨g,k*7+j,none⟩ u).ownsRow B 223 7 (.slice (some ⟨g,0,none⟩) ln cap) (l.set k y).length (fh (l.set k y)):=by
 obtain rfl:=xh h.row;have o:=(h.row.stored (k*7+j) u).1;rw[oG l k x y hk j hj u hy]at o;simpa using o
theorem rT.setKind{w:World}{B g:Nat}{l:List NV}{ln cap:Nat}(h:rT w B l (.slice (some ⟨g,0,none⟩) ln cap)){k:Nat}{x:NV}(hk:l[k]? =some x)(c:Int):
 rT (w.setCell ⟨g,k*7+1,none⟩ (.int .i64 c)) B (l.set k {x with n:={x.n with kind:=c}}) (.slice (some ⟨g,0,none⟩) ln cap):=by
 have hlt:=(List.getElem?_eq_some_iff.1 hk).1;have K:=rT.wK w g (k*7+1) (.int .i64 c)
 have ng:∀{e size v n xs},w.ownsRow B e size v n xs->e≠223->∀i,v.ownBlock=some i->¬i=g:=by
  intro e size v n xs ho he i hi x;subst x;obtain⟨cur,hc⟩:=br h.row (k:=i) rfl;exact own_ne ho hc he hi
 have hx:=List.mem_of_getElem? hk
 have get:∀(i:Nat) (z:NV),(l.set k {x with n:={x.n with kind:=c}})[i]? =some z->∃z',l[i]? =some z'/\z.ev=z'.ev/\z.lv=z'.lv/\z.tv=z'.tv:=by
  intro i z hz
  by_cases e:k=i
  ·subst e;rw[List.getElem?_set_self hlt]at hz;simp at hz;subst hz;exact⟨x,hk,rfl,rfl,rfl⟩
  rw[List.getElem?_set_ne e]at hz;exact⟨z,hz,rfl,rfl,rfl⟩
 refine⟨h.adf hk 1 (by omega) _ rfl,?_,?_,?_,?_,?_,?_,?_⟩
 ·intro z hz
  rcases jk hz with hz|rfl
  ·exact K.owns (h.rR z hz) (ng (h.rR z hz) (by decide))
  exact K.owns (h.rR x hx) (ng (h.rR x hx) (by decide))
 ·intro z hz
  rcases jk hz with hz|rfl
  ·exact K.owns (h.rD z hz) (ng (h.rD z hz) (by decide))
  exact K.owns (h.rD x hx) (ng (h.rD x hx) (by decide))
 ·intro z hz
  rcases jk hz with hz|rfl
  ·exact K.owns (h.iX z hz) (ng (h.iX z hz) (by decide))
  exact K.owns (h.iX x hx) (ng (h.iX x hx) (by decide))
 ·intro i j a b hij ha hb
  obtain⟨a',ha',e1,_,_⟩:=get i a ha;obtain⟨b',hb',e2,_,_⟩:=get j b hb;rw[e1,e2];exact h.aE i j a' b' hij ha' hb'
 ·intro i j a b hij ha hb
  obtain⟨a',ha',_,e1,_⟩:=get i a ha;obtain⟨b',hb',_,e2,_⟩:=get j b hb;rw[e1,e2];exact h.aL i j a' b' hij ha' hb'
 ·intro i j a b ha hb
  obtain⟨a',ha',e1,_,_⟩:=get i a ha;obtain⟨b',hb',_,e2,_⟩:=get j b hb;rw[e1,e2];exact h.aX i j a' b' ha' hb'
 intro i j a b hij ha hb;obtain⟨a',ha',_,_,e1⟩:=get i a ha;obtain⟨b',hb',_,_,e2⟩:=get j b hb;rw[e1,e2];exact h.aT i j a' b' hij ha' hb'
theorem j_{w:World}{B:Nat}{e:TypeId}{size n:Nat}{v u:Value}{xs:List Value}{g ln cap:Nat}(ho:w.ownsRow B e size u n xs)(ha:Apart v u)(hw:v.ownBlock=some g\/w.heap.size<=g):Apart (.slice (some ⟨g,0,none⟩) ln cap) u:=by
 intro k hk hu;simp[Value.ownBlock]at hk;subst hk
 rcases hw with hw|hw
 ·exact ha _ hw hu
 have:=(ho.lt _ hu).2;omega
theorem rT.Cf{w w1:World}{B g:Nat}{l:List NV}{ln cap:Nat}(h:rT w B l (.slice (some ⟨g,0,none⟩) ln cap)){k:Nat}{x:NV}(hk:l[k]? =some x)(rt:RT){g1 n1 c1:Nat}
 (ho:w1.ownsRow B 292 2 (.slice (some ⟨g1,0,none⟩) n1 c1) (x.n.trans.length+1) (gX x.n.trans++[.string rt.text,.int .i64 rt.pos])) (hg:w.grownBy w1 x.tv.ownBlock) (hw:x.tv.ownBlock=some g1\/w.heap.size<=g1):
 rT (w1.setCell ⟨g,k*7+6,none⟩ (.slice (some ⟨g1,0,none⟩) n1 c1)) B (l.set k {x with n:={x.n with trans:=x.n.trans++[rt]},tv:=.slice (some ⟨g1,0,none⟩) n1 c1}) (.slice (some ⟨g,0,none⟩) ln cap):=by
 have hlt:=(List.getElem?_eq_some_iff.1 hk).1;have hx:=List.mem_of_getElem? hk;have K1:Kp (λi=>x.tv.ownBlock=some i) w w1:=(Kp.refl _ _).grown hg (λi hi _=>hi);have K:=rT.wK w1 g (k*7+6) (.slice (some ⟨g1,0,none⟩) n1 c1);have hT:=h.iX x hx;have J4:w1.ownsRow B 223 7 (.slice (some ⟨g,0,none⟩) ln cap) l.length (fh l):=K1.owns h.row (λi hi=>cC h.row hT (by decide) i hi)
 have ng:∀{e size v n xs},w1.ownsRow B e size v n xs->e≠223->∀i,v.ownBlock=some i->¬i=g:=by
  intro e size v n xs ho he i hi x;subst x;obtain⟨cur,hc⟩:=br J4 (k:=i) rfl;exact own_ne ho hc he hi
 have two:∀{e size v n xs},w.ownsRow B e size v n xs->e≠223->(∀i,v.ownBlock=some i->¬x.tv.ownBlock=some i)->(w1.setCell ⟨g,k*7+6,none⟩ (.slice (some ⟨g1,0,none⟩) n1 c1)).ownsRow B e size v n xs:=by
  intro e size v n xs ho he hn;have:=K1.owns ho hn;exact K.owns this (ng this he)
 have get:∀(i:Nat) (z:NV),(l.set k {x with n:={x.n with trans:=x.n.trans++[rt]},tv:=.slice (some ⟨g1,0,none⟩) n1 c1})[i]? =some z->∃z',l[i]? =some z'/\z.ev=z'.ev/\z.lv=z'.lv/\(k≠i/\z.tv=z'.tv\/k=i/\z'=x/\z.tv= .slice (some ⟨g1,0,none⟩) n1 c1):=by
  intro i z hz
  by_cases e:k=i
  ·subst e;rw[List.getElem?_set_self hlt]at hz;simp at hz;subst hz;exact⟨x,hk,rfl,rfl,.inr ⟨rfl,rfl,rfl⟩⟩
  rw[List.getElem?_set_ne e]at hz;exact⟨z,hz,rfl,rfl,.inl ⟨e,rfl⟩⟩
 obtain rfl:=xh h.row;have tf:=(J4.stored (k*7+6) (.slice (some ⟨g1,0,none⟩) n1 c1)).1;rw[oG l k x {x with n:={x.n with trans:=x.n.trans++[rt]},tv:=.slice (some ⟨g1,0,none⟩) n1 c1} hk 6 (by omega) _ rfl]at tf;refine⟨by simpa using tf,?_,?_,?_,?_,?_,?_,?_⟩
 ·intro z hz
  rcases jk hz with hz|rfl
  ·exact two (h.rR z hz) (by decide) (cC (h.rR z hz) hT (by decide))
  exact two (h.rR x hx) (by decide) (cC (h.rR x hx) hT (by decide))
 ·intro z hz
  rcases jk hz with hz|rfl
  ·exact two (h.rD z hz) (by decide) (cC (h.rD z hz) hT (by decide))
  exact two (h.rD x hx) (by decide) (cC (h.rD x hx) hT (by decide))
 ·intro z hz
  obtain⟨i,hi⟩:=List.getElem?_of_mem hz
  by_cases e:k=i
  ·subst e;rw[List.getElem?_set_self hlt]at hi;simp at hi;subst hi
   have:=K.owns ho (ng ho (by decide));simp only[He,List.length_append,List.length_cons,List.length_nil];exact this
  rw[List.getElem?_set_ne e]at hi;have hz':=List.mem_of_getElem? hi;exact two (h.iX z hz') (by decide) (h.aT i k z x (Ne.symm e) hi hk)
 ·intro i j a b hij ha hb
  obtain⟨a',ha',e1,_,_⟩:=get i a ha;obtain⟨b',hb',e2,_,_⟩:=get j b hb;rw[e1,e2];exact h.aE i j a' b' hij ha' hb'
 ·intro i j a b hij ha hb
  obtain⟨a',ha',_,e1,_⟩:=get i a ha;obtain⟨b',hb',_,e2,_⟩:=get j b hb;rw[e1,e2];exact h.aL i j a' b' hij ha' hb'
 ·intro i j a b ha hb
  obtain⟨a',ha',e1,_,_⟩:=get i a ha;obtain⟨b',hb',_,e2,_⟩:=get j b hb;rw[e1,e2];exact h.aX i j a' b' ha' hb'
 intro i j a b hij ha hb;obtain⟨a',ha',_,_,e1⟩:=get i a ha;obtain⟨b',hb',_,_,e2⟩:=get j b hb;have mb:=List.mem_of_getElem? hb';have ma:=List.mem_of_getElem? ha'
 rcases e1 with⟨_,e1⟩|⟨c1',rfl,e1⟩
 ·rcases e2 with⟨_,e2⟩|⟨c2',rfl,e2⟩
  ·rw[e1,e2];exact h.aT i j a' b' hij ha' hb'
  rw[e1,e2];exact(j_ (h.iX a' ma) (h.aT j i b' a' (Ne.symm hij) hb' ha') hw).symm
 rcases e2 with⟨_,e2⟩|⟨c2',rfl,e2⟩
 ·rw[e1,e2];exact j_ (h.iX b' mb) (h.aT i j a' b' hij ha' hb') hw
 omega
theorem rT.Cg{w w1:World}{B g:Nat}{l:List NV}{ln cap:Nat}(h:rT w B l (.slice (some ⟨g,0,none⟩) ln cap)){k:Nat}{x:NV}(hk:l[k]? =some x)(s:ByteArray){g1 n1 c1:Nat}
 (ho:w1.ownsRow B 9 1 (.slice (some ⟨g1,0,none⟩) n1 c1) (x.n.enter.length+1) (kF x.n.enter++[.string s])) (hg:w.grownBy w1 x.ev.ownBlock) (hw:x.ev.ownBlock=some g1\/w.heap.size<=g1):
 rT (w1.setCell ⟨g,k*7+4,none⟩ (.slice (some ⟨g1,0,none⟩) n1 c1)) B (l.set k {x with n:={x.n with enter:=x.n.enter++[s]},ev:=.slice (some ⟨g1,0,none⟩) n1 c1}) (.slice (some ⟨g,0,none⟩) ln cap):=by
 have hlt:=(List.getElem?_eq_some_iff.1 hk).1;have hx:=List.mem_of_getElem? hk;have K1:Kp (λi=>x.ev.ownBlock=some i) w w1:=(Kp.refl _ _).grown hg (λi hi _=>hi);have K:=rT.wK w1 g (k*7+4) (.slice (some ⟨g1,0,none⟩) n1 c1);have hT:=h.rR x hx;have J4:w1.ownsRow B 223 7 (.slice (some ⟨g,0,none⟩) ln cap) l.length (fh l):=K1.owns h.row (λi hi=>cC h.row hT (by decide) i hi)
 have ng:∀{e size v n xs},w1.ownsRow B e size v n xs->e≠223->∀i,v.ownBlock=some i->¬i=g:=by
  intro e size v n xs ho he i hi x;subst x;obtain⟨cur,hc⟩:=br J4 (k:=i) rfl;exact own_ne ho hc he hi
 have two:∀{e size v n xs},w.ownsRow B e size v n xs->e≠223->(∀i,v.ownBlock=some i->¬x.ev.ownBlock=some i)->(w1.setCell ⟨g,k*7+4,none⟩ (.slice (some ⟨g1,0,none⟩) n1 c1)).ownsRow B e size v n xs:=by
  intro e size v n xs ho he hn;have:=K1.owns ho hn;exact K.owns this (ng this he)
 have get:∀(i:Nat) (z:NV),(l.set k {x with n:={x.n with enter:=x.n.enter++[s]},ev:=.slice (some ⟨g1,0,none⟩) n1 c1})[i]? =some z->∃z',l[i]? =some z'/\z.tv=z'.tv/\z.lv=z'.lv/\(k≠i/\z.ev=z'.ev\/k=i/\z'=x/\z.ev= .slice (some ⟨g1,0,none⟩) n1 c1):=by
  intro i z hz
  by_cases e:k=i
  ·subst e;rw[List.getElem?_set_self hlt]at hz;simp at hz;subst hz;exact⟨x,hk,rfl,rfl,.inr ⟨rfl,rfl,rfl⟩⟩
  rw[List.getElem?_set_ne e]at hz;exact⟨z,hz,rfl,rfl,.inl ⟨e,rfl⟩⟩
 obtain rfl:=xh h.row;have tf:=(J4.stored (k*7+4) (.slice (some ⟨g1,0,none⟩) n1 c1)).1;rw[oG l k x {x with n:={x.n with enter:=x.n.enter++[s]},ev:=.slice (some ⟨g1,0,none⟩) n1 c1} hk 4 (by omega) _ rfl]at tf;refine⟨by simpa using tf,?_,?_,?_,?_,?_,?_,?_⟩
 ·intro z hz
  obtain⟨i,hi⟩:=List.getElem?_of_mem hz
  by_cases e:k=i
  ·subst e;rw[List.getElem?_set_self hlt]at hi;simp at hi;subst hi
   have:=K.owns ho (ng ho (by decide));simp only[y_,List.length_append,List.length_cons,List.length_nil];exact this
  rw[List.getElem?_set_ne e]at hi;have hz':=List.mem_of_getElem? hi;exact two (h.rR z hz') (by decide) (h.aE i k z x (Ne.symm e) hi hk)
 ·intro z hz
  obtain⟨i,hi⟩:=List.getElem?_of_mem hz;obtain⟨z',hz',_,e1,_⟩:=get i z hi
  by_cases e:k=i
  ·subst e;rw[List.getElem?_set_self hlt]at hi;simp at hi;subst hi
   exact two (h.rD x hx) (by decide) (h.aX k k x x hk hk).symm
  rw[List.getElem?_set_ne e]at hi;exact two (h.rD z (List.mem_of_getElem? hi)) (by decide) (h.aX k i x z hk hi).symm
 ·intro z hz
  rcases jk hz with hz|rfl
  ·exact two (h.iX z hz) (by decide) (cC (h.iX z hz) hT (by decide))
  exact two (h.iX x hx) (by decide) (cC (h.iX x hx) hT (by decide))
 ·intro i j a b hij ha hb
  obtain⟨a',ha',_,_,e1⟩:=get i a ha;obtain⟨b',hb',_,_,e2⟩:=get j b hb;have mb:=List.mem_of_getElem? hb';have ma:=List.mem_of_getElem? ha'
  rcases e1 with⟨_,e1⟩|⟨c1',rfl,e1⟩
  ·rcases e2 with⟨_,e2⟩|⟨c2',rfl,e2⟩
   ·rw[e1,e2];exact h.aE i j a' b' hij ha' hb'
   rw[e1,e2];exact(j_ (h.rR a' ma) (h.aE j i b' a' (Ne.symm hij) hb' ha') hw).symm
  rcases e2 with⟨_,e2⟩|⟨c2',rfl,e2⟩
  ·rw[e1,e2];exact j_ (h.rR b' mb) (h.aE i j a' b' hij ha' hb') hw
  omega
 ·intro i j a b hij ha hb
  obtain⟨a',ha',_,e1,_⟩:=get i a ha;obtain⟨b',hb',_,e2,_⟩:=get j b hb;rw[e1,e2];exact h.aL i j a' b' hij ha' hb'
 ·intro i j a b ha hb
  obtain⟨a',ha',_,_,e1⟩:=get i a ha;obtain⟨b',hb',_,e2,_⟩:=get j b hb;have mb:=List.mem_of_getElem? hb'
  rcases e1 with⟨_,e1⟩|⟨c1',rfl,e1⟩
  ·rw[e1,e2];exact h.aX i j a' b' ha' hb'
  rw[e1,e2];exact j_ (h.rD b' mb) (h.aX i j a' b' ha' hb') hw
 intro i j a b hij ha hb;obtain⟨a',ha',e1,_,_⟩:=get i a ha;obtain⟨b',hb',e2,_,_⟩:=get j b hb;rw[e1,e2];exact h.aT i j a' b' hij ha' hb'
theorem rT.Ci{w w1:World}{B g:Nat}{l:List NV}{ln cap:Nat}(h:rT w B l (.slice (some ⟨g,0,none⟩) ln cap)){k:Nat}{x:NV}(hk:l[k]? =some x)(s:ByteArray){g1 n1 c1:Nat}
 (ho:w1.ownsRow B 9 1 (.slice (some ⟨g1,0,none⟩) n1 c1) (x.n.leave.length+1) (kF x.n.leave++[.string s])) (hg:w.grownBy w1 x.lv.ownBlock) (hw:x.lv.ownBlock=some g1\/w.heap.size<=g1):
 rT (w1.setCell ⟨g,k*7+5,none⟩ (.slice (some ⟨g1,0,none⟩) n1 c1)) B (l.set k {x with n:={x.n with leave:=x.n.leave++[s]},lv:=.slice (some ⟨g1,0,none⟩) n1 c1}) (.slice (some ⟨g,0,none⟩) ln cap):=by
 have hlt:=(List.getElem?_eq_some_iff.1 hk).1;have hx:=List.mem_of_getElem? hk;have K1:Kp (λi=>x.lv.ownBlock=some i) w w1:=(Kp.refl _ _).grown hg (λi hi _=>hi);have K:=rT.wK w1 g (k*7+5) (.slice (some ⟨g1,0,none⟩) n1 c1);have hT:=h.rD x hx;have J4:w1.ownsRow B 223 7 (.slice (some ⟨g,0,none⟩) ln cap) l.length (fh l):=K1.owns h.row (λi hi=>cC h.row hT (by decide) i hi)
 have ng:∀{e size v n xs},w1.ownsRow B e size v n xs->e≠223->∀i,v.ownBlock=some i->¬i=g:=by
  intro e size v n xs ho he i hi x;subst x;obtain⟨cur,hc⟩:=br J4 (k:=i) rfl;exact own_ne ho hc he hi
 have two:∀{e size v n xs},w.ownsRow B e size v n xs->e≠223->(∀i,v.ownBlock=some i->¬x.lv.ownBlock=some i)->(w1.setCell ⟨g,k*7+5,none⟩ (.slice (some ⟨g1,0,none⟩) n1 c1)).ownsRow B e size v n xs:=by
  intro e size v n xs ho he hn;have:=K1.owns ho hn;exact K.owns this (ng this he)
 have get:∀(i:Nat) (z:NV),(l.set k {x with n:={x.n with leave:=x.n.leave++[s]},lv:=.slice (some ⟨g1,0,none⟩) n1 c1})[i]? =some z->∃z',l[i]? =some z'/\z.tv=z'.tv/\z.ev=z'.ev/\(k≠i/\z.lv=z'.lv\/k=i/\z'=x/\z.lv= .slice (some ⟨g1,0,none⟩) n1 c1):=by
  intro i z hz
  by_cases e:k=i
  ·subst e;rw[List.getElem?_set_self hlt]at hz;simp at hz;subst hz;exact⟨x,hk,rfl,rfl,.inr ⟨rfl,rfl,rfl⟩⟩
  rw[List.getElem?_set_ne e]at hz;exact⟨z,hz,rfl,rfl,.inl ⟨e,rfl⟩⟩
 obtain rfl:=xh h.row;have tf:=(J4.stored (k*7+5) (.slice (some ⟨g1,0,none⟩) n1 c1)).1;rw[oG l k x {x with n:={x.n with leave:=x.n.leave++[s]},lv:=.slice (some ⟨g1,0,none⟩) n1 c1} hk 5 (by omega) _ rfl]at tf;refine⟨by simpa using tf,?_,?_,?_,?_,?_,?_,?_⟩
 ·intro z hz
  obtain⟨i,hi⟩:=List.getElem?_of_mem hz
  by_cases e:k=i
  ·subst e;rw[List.getElem?_set_self hlt]at hi;simp at hi;subst hi
   exact two (h.rR x hx) (by decide) (h.aX k k x x hk hk)
  rw[List.getElem?_set_ne e]at hi;exact two (h.rR z (List.mem_of_getElem? hi)) (by decide) (h.aX i k z x hi hk)
 ·intro z hz
  obtain⟨i,hi⟩:=List.getElem?_of_mem hz
  by_cases e:k=i
  ·subst e;rw[List.getElem?_set_self hlt]at hi;simp at hi;subst hi
   have:=K.owns ho (ng ho (by decide));simp only[y_,List.length_append,List.length_cons,List.length_nil];exact this
  rw[List.getElem?_set_ne e]at hi;have hz':=List.mem_of_getElem? hi;exact two (h.rD z hz') (by decide) (h.aL i k z x (Ne.symm e) hi hk)
 ·intro z hz
  rcases jk hz with hz|rfl
  ·exact two (h.iX z hz) (by decide) (cC (h.iX z hz) hT (by decide))
  exact two (h.iX x hx) (by decide) (cC (h.iX x hx) hT (by decide))
 ·intro i j a b hij ha hb
  obtain⟨a',ha',_,e1,_⟩:=get i a ha;obtain⟨b',hb',_,e2,_⟩:=get j b hb;rw[e1,e2];exact h.aE i j a' b' hij ha' hb'
 ·intro i j a b hij ha hb
  obtain⟨a',ha',_,_,e1⟩:=get i a ha;obtain⟨b',hb',_,_,e2⟩:=get j b hb;have mb:=List.mem_of_getElem? hb';have ma:=List.mem_of_getElem? ha'
  rcases e1 with⟨_,e1⟩|⟨c1',rfl,e1⟩
  ·rcases e2 with⟨_,e2⟩|⟨c2',rfl,e2⟩
   ·rw[e1,e2];exact h.aL i j a' b' hij ha' hb'
   rw[e1,e2];exact(j_ (h.rD a' ma) (h.aL j i b' a' (Ne.symm hij) hb' ha') hw).symm
  rcases e2 with⟨_,e2⟩|⟨c2',rfl,e2⟩
  ·rw[e1,e2];exact j_ (h.rD b' mb) (h.aL i j a' b' hij ha' hb') hw
  omega
 ·intro i j a b ha hb
  obtain⟨a',ha',_,e1,_⟩:=get i a ha;obtain⟨b',hb',_,_,e2⟩:=get j b hb;have ma:=List.mem_of_getElem? ha'
  rcases e2 with⟨_,e2⟩|⟨c1',rfl,e2⟩
  ·rw[e1,e2];exact h.aX i j a' b' ha' hb'
  rw[e1,e2];exact(j_ (h.rR a' ma) (h.aX i j a' b' ha' hb').symm hw).symm
 intro i j a b hij ha hb;obtain⟨a',ha',e1,_,_⟩:=get i a ha;obtain⟨b',hb',e2,_,_⟩:=get j b hb;rw[e1,e2];exact h.aT i j a' b' hij ha' hb'
section
variable {w w':World} {B cb:Nat} {l:List NV} {v:Value}
theorem iG.setKind{g ln cap:Nat}(h:iG w B cb l (.slice (some ⟨g,0,none⟩) ln cap)){k:Nat}{x:NV}(hk:l[k]? =some x)(c:Int):
 iG (w.setCell ⟨g,k*7+1,none⟩ (.int .i64 c)) B cb (l.set k {x with n:={x.n with kind:=c}}) (.slice (some ⟨g,0,none⟩) ln cap):=
 ⟨(rT.wK w g (k*7+1) (.int .i64 c)).at_ h.1 (λe=>h.ne (by simp[Value.ownBlock,e])),h.2.1.setKind hk c,h.2.2⟩
theorem iG.Cf{w1:World}{g ln cap:Nat}(h:iG w B cb l (.slice (some ⟨g,0,none⟩) ln cap)){k:Nat}{x:NV}(hk:l[k]? =some x)(rt:RT){g1 n1 c1:Nat}
 (ho:w1.ownsRow B 292 2 (.slice (some ⟨g1,0,none⟩) n1 c1) (x.n.trans.length+1) (gX x.n.trans++[.string rt.text,.int .i64 rt.pos])) (hg:w.grownBy w1 x.tv.ownBlock) (hw:x.tv.ownBlock=some g1\/w.heap.size<=g1):
 iG (w1.setCell ⟨g,k*7+6,none⟩ (.slice (some ⟨g1,0,none⟩) n1 c1)) B cb (l.set k {x with n:={x.n with trans:=x.n.trans++[rt]},tv:=.slice (some ⟨g1,0,none⟩) n1 c1}) (.slice (some ⟨g,0,none⟩) ln cap):=by
 have K:Kp (λi=>x.tv.ownBlock=some i) w w1:=(Kp.refl _ _).grown hg (λi hi _=>hi);have hc:=K.at_ h.1 (own_ne (h.2.1.iX x (List.mem_of_getElem? hk)) h.1 (by decide));exact⟨(rT.wK w1 g (k*7+6) _).at_ hc (λe=>h.ne (by simp[Value.ownBlock,e])),h.2.1.Cf hk rt ho hg hw,h.2.2⟩
theorem iG.Cg{w1:World}{g ln cap:Nat}(h:iG w B cb l (.slice (some ⟨g,0,none⟩) ln cap)){k:Nat}{x:NV}(hk:l[k]? =some x)(s:ByteArray){g1 n1 c1:Nat}
 (ho:w1.ownsRow B 9 1 (.slice (some ⟨g1,0,none⟩) n1 c1) (x.n.enter.length+1) (kF x.n.enter++[.string s])) (hg:w.grownBy w1 x.ev.ownBlock) (hw:x.ev.ownBlock=some g1\/w.heap.size<=g1):
 iG (w1.setCell ⟨g,k*7+4,none⟩ (.slice (some ⟨g1,0,none⟩) n1 c1)) B cb (l.set k {x with n:={x.n with enter:=x.n.enter++[s]},ev:=.slice (some ⟨g1,0,none⟩) n1 c1}) (.slice (some ⟨g,0,none⟩) ln cap):=by
 have K:Kp (λi=>x.ev.ownBlock=some i) w w1:=(Kp.refl _ _).grown hg (λi hi _=>hi);have hc:=K.at_ h.1 (own_ne (h.2.1.rR x (List.mem_of_getElem? hk)) h.1 (by decide));exact⟨(rT.wK w1 g (k*7+4) _).at_ hc (λe=>h.ne (by simp[Value.ownBlock,e])),h.2.1.Cg hk s ho hg hw,h.2.2⟩
theorem iG.Ci{w1:World}{g ln cap:Nat}(h:iG w B cb l (.slice (some ⟨g,0,none⟩) ln cap)){k:Nat}{x:NV}(hk:l[k]? =some x)(s:ByteArray){g1 n1 c1:Nat}
 (ho:w1.ownsRow B 9 1 (.slice (some ⟨g1,0,none⟩) n1 c1) (x.n.leave.length+1) (kF x.n.leave++[.string s])) (hg:w.grownBy w1 x.lv.ownBlock) (hw:x.lv.ownBlock=some g1\/w.heap.size<=g1):
 iG (w1.setCell ⟨g,k*7+5,none⟩ (.slice (some ⟨g1,0,none⟩) n1 c1)) B cb (l.set k {x with n:={x.n with leave:=x.n.leave++[s]},lv:=.slice (some ⟨g1,0,none⟩) n1 c1}) (.slice (some ⟨g,0,none⟩) ln cap):=by
 have K:Kp (λi=>x.lv.ownBlock=some i) w w1:=(Kp.refl _ _).grown hg (λi hi _=>hi);have hc:=K.at_ h.1 (own_ne (h.2.1.rD x (List.mem_of_getElem? hk)) h.1 (by decide));exact⟨(rT.wK w1 g (k*7+5) _).at_ hc (λe=>h.ne (by simp[Value.ownBlock,e])),h.2.1.Ci hk s ho hg hw,h.2.2⟩
end
theorem aam:(prog.info? 223).map (λi=>(i.zero,i.size,i.bytes))=some (some (.agg #[.int .u8 0,.int .i64 0,.int .i64 0,.int .i64 0,.slice none 0 0,.slice none 0 0,.slice none 0 0]),7,104):=by kernel_rfl
theorem aan:(prog.info? 292).map (λi=>(i.zero,i.size,i.bytes))=some (some (.agg #[.string ⟨#[]⟩,.int .i64 0]),2,24):=by kernel_rfl
theorem aao:(prog.info? 9).map (λi=>(i.zero,i.size,i.bytes))=some (some (.string ⟨#[]⟩),1,16):=by kernel_rfl
namespace Ch
theorem Cj{l:List NV}{i:Int}{n:RN}(h:vU (mk l) i=some n):∃(k:Nat) (x:NV),i=k/\l[k]? =some x/\x.n=n/\k<l.length:=by
 obtain⟨k,rfl,hk,hl⟩:=jg h;unfold mk at hk hl;rw[List.getElem?_map,Option.map_eq_some_iff]at hk;obtain⟨x,hx,rfl⟩:=hk;exact⟨k,x,rfl,hx,rfl,by simpa using hl⟩
theorem Hf{l:List NV}{k:Nat}{x y:NV}{f:RN->RN}(hk:l[k]? =some x)(hy:y.n=f x.n):mk (l.set k y)=mM (mk l) (k:Int) f:=by
 have hlt:=(List.getElem?_eq_some_iff.1 hk).1;apply List.ext_getElem?;intro j;rw[gF];unfold mk;rw[List.getElem?_map,List.getElem?_map]
 by_cases e:k=j
 ·subst e;rw[if_pos rfl,List.getElem?_set_self hlt,hk];simp[hy]
 rw[if_neg e,List.getElem?_set_ne e]
theorem gE.open{t:ByteArray}{k:Nat}{up:Int}{L res:List RN}(h:gE t k up L res)(hk:k<t.size)(ho:isOpen (af t k)=true):
 k+1<t.size/\(up<0\/(vU L up).isSome=true)/\gE t ((if af t k==60 then k+2 else k+1)+1) (if af t k==60||af t k==42 then up else(L.length:Int)) (fQ L up++[⟨af t (k+1),kindOf (af t k),up,(k:Int)+1,[],[],[]⟩]) res:=by
 rcases h.inv with⟨h,rfl⟩|⟨_,_,_,_,hst,hn⟩
 ·omega
 unfold lR at hst;rw[if_pos ho]at hst
 split at hst
 ·rename_i hc
  simp only[Option.some.injEq,Prod.mk.injEq]at hst;obtain⟨rfl,rfl,rfl⟩:=hst;exact⟨hc.1,hc.2,hn⟩
 simp at hst
theorem gE.colon{t:ByteArray}{k:Nat}{up:Int}{L res:List RN}(h:gE t k up L res)(hk:k<t.size)(ho:af t k=58):
 ∃n,vU L up=some n/\k+2<t.size/\fZ t (k+1)+1<=t.size/\k+1<=fZ t (k+1)+1/\gE t (fZ t (k+1)+1) up (mM L up λn=>{n with trans:=n.trans++[⟨t.extract (k+1) (fZ t (k+1)+1),(k:Int)+1⟩]}) res:=by
 rcases h.inv with⟨h,rfl⟩|⟨_,_,_,_,hst,hn⟩
 ·omega
 unfold lR at hst;simp only[ho,show isOpen 58=false by decide,show((58:Int)==41||(58:Int)==93)=false by decide,show((58:Int)==58)=true by decide,Bool.false_eq_true,if_false,if_true]at hst
 split at hst
 ·rename_i hc
  simp only[Option.some.injEq,Prod.mk.injEq]at hst;obtain⟨rfl,rfl,rfl⟩:=hst;obtain⟨n,hn'⟩:=Option.isSome_iff_exists.1 hc.2.2.2;exact⟨n,hn',hc.1,hc.2.1,hc.2.2.1,hn⟩
 simp at hst
end Ch
end Go.Proofs.YtnlbchmfcebeeaaGreat
