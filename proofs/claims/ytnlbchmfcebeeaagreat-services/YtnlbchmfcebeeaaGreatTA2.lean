import Derived.Test.YtnlbchmfcebeeaaGreatTAl
import Derived.WalkKit
import Derived.WalkSpells
import Derived.Deep.Draws
import Derived.Test.YtnlbchmfcebeeaaGreatProg
import Derived.Deep.QuietTactic
import Derived.BigQuiet
import Derived.Deep.LoopGhost
import Derived.Deep.RegionLaw
set_option maxHeartbeats 12800000
set_option maxRecDepth 100000
namespace Go.Proofs.YtnlbchmfcebeeaaGreat
open Go.Proofs.Tryz
open Go.RowKit
open Value(int slice bool pointer string agg tuple)
open IntKind(i64)
open Obj(cells)
open Ending(returned)
open Operand(tmp)
open Or(inr)
theorem oQ{p:Prop}(h:p:=by omega):p:=h
theorem bZ{p:Prop}(h:p:=by kernel_rfl):p:=h
theorem eb{p:Prop}(h:p:=by go_num):p:=h
theorem dy{p:Prop}(h:p:=by simp):p:=h
theorem il{p:Prop}(h:p:=by simp;omega):p:=h
theorem ew{p:Prop}(h:p:=by simp[intOf];omega):p:=h
theorem aV{p:Prop}(h:p:=by decide):p:=h
theorem Yq{p:Prop}(h:p:=by simp[execOp,Act.eval,Act.put,go_sem]):p:=h
theorem wX{p:Prop}(h:p:=by simp[execOp,Act.eval,go_sem]):p:=h
theorem Fv{p:Prop}(h:p:=by simp[execOp,go_sem]):p:=h
theorem rM{p:Prop}(h:p:=by simp[Act.eval,Act.put]):p:=h
theorem nQ{p:Prop}(h:p:=by simp[Act.eval]):p:=h
theorem jF{p:Prop}(h:p:=by intro _;rfl):p:=h
theorem wY{p:Prop}(h:p:=by unfold maxLen;omega):p:=h
theorem Ki{p:Prop}(h:p:=by intro u hu;simp at hu;subst hu;rfl):p:=h
theorem RH{p:Prop}(h:p:=by intro _;exact Or.inr rfl):p:=h
theorem sr{p:Prop}(h:p:=by intro _ _;simp[execOp,Act.eval,Act.put,go_sem]):p:=h
theorem yX{p:Prop}(h:p:=by intro _ _;simp[execOp,Act.eval,go_sem]):p:=h
theorem gM{S:Nat->Prop}{n}:∀i,i<n->False->S i:=λ_ _ x=>x.elim
theorem dG{w:World}{b}{o}{v}{C}{T}{f}(h:w.heap[b]? =some (cells C T f))(e:C[o]? =some v):w.cell? ⟨b,o,none⟩=some v:=by rw[World.cell?,h];exact e
theorem cF{P}{f:Nat}{a}{w}{r}{Q}(E:Hid (Calls P f a w λx w'=>x=r/\w'=w))(h:Q r w):Calls P f a w Q:=bI E.out (by rintro x w' ⟨rfl,rfl⟩;exact h)
theorem b9{P}{f:Nat}{a}{w}{r}{R:World->Prop}{Q}(E:Hid (Calls P f a w λx w'=>x=r/\R w'))(h:∀w',R w'->Q r w'):Calls P f a w Q:=bI E.out (by rintro x w' ⟨rfl,k⟩;exact h w' k)
theorem cX{p q:Prop}(a:q)(h:q->p:=by intro a;simpa using a):p:=h a
namespace Ch
structure St where
 name:Int
 pos:Int
 kind:Int
 parent:Int
structure Ac where
 sign:Int
 aK:Int
 digit:Int
structure Gd where
 var:Int
 sign:Int
 digit:Int
structure Tr where
 state:Int
 uh:Int
 guard:Gd
 bM:List Ac
 target:Int
structure Bl where
 state:Int
 sign:Int
 bM:List Ac
structure Us where
 name:Int
 pos:Int
structure Rs where
 pos:Nat
 ah:List St
 dF:List Tr
 fH:List Bl
 dH:List Us
def ez(c:Int):Bool:=decide (97<=c)&&decide (c<=122)
def eW(c:Int):Bool:=decide (65<=c)&&decide (c<=90)
def kF(c:Int):Bool:=c==120||c==121||c==122
def jy(lo c:Int):Bool:=decide (lo<=c)&&decide (c<=57)
theorem KJ c:((c==120)=true/\kF c=true)\/((c==120)=false/\(c==121)=true/\kF c=true)\/
 ((c==120)=false/\(c==121)=false/\(c==122)=true/\kF c=true)\/((c==120)=false/\(c==121)=false/\(c==122)=false/\kF c=false):=by
 grind[kF]
theorem KL lo c:(lo<=c/\c<=57/\jy lo c=true)\/(lo<=c/\decide (c<=57)=false/\jy lo c=false)\/(decide (lo<=c)=false/\jy lo c=false):=by
 grind[jy]
def af(t:ByteArray)(p:Nat):Int:=if h:p<t.size then(t[p].toNat:Int)else 0
theorem VF t p:0<=af t p:=by unfold af;split<;>omega
theorem NC t p:af t p<=255:=by
 unfold af;split
 ·rename_i h;have:=t[p].toNat_lt;omega
 omega
def fU(c:Int):Int:=if c==91 then 3 else if c==60 then 4 else if c==42 then 5 else 1
def dI(ok:Bool)(p:Nat):Nat:=if ok then p+1 else p
def kx(t:ByteArray)(p:Nat)(a:Ac):Bool×Ac×Nat:=
 (ez (af t (p+1)),{a with aK:=af t (p+1)},dI (ez (af t (p+1))) (p+1))
def pK(t:ByteArray)(lo:Int)(r:Bool×Ac×Nat):Bool×Ac×Nat:=
 if r.1 then(jy lo (af t r.2.2),{r.2.1 with digit:=af t r.2.2-48},dI (jy lo (af t r.2.2)) r.2.2)else r
def lJ(t:ByteArray)(p:Nat)(a:Ac):Bool×Ac×Nat:=
 (kF (af t (p+1)),{a with aK:=af t (p+1)},dI (kF (af t (p+1))) (p+1))
def vl(t:ByteArray)(p:Nat)(a:Ac):Bool×Ac×Nat:=pK t 49 (kx t p a)
def pL(t:ByteArray)(p:Nat)(a:Ac):Bool×Ac×Nat:=pK t 48 (lJ t p a)
def act(t:ByteArray)(p:Nat)(a:Ac):Bool×Ac×Nat:=
 if a.sign==33||a.sign==126||a.sign==35 then kx t p a
 else if a.sign==64 then vl t p a
 else if a.sign==43||a.sign==45||a.sign==61 then pL t p a
 else(false,a,p)
theorem yZ ok p:dI ok p<=p+1:=by unfold dI;split<;>omega
theorem oh ok p:p<=dI ok p:=by unfold dI;split<;>omega
theorem Bo t p a:p+1<=(kx t p a).2.2/\(kx t p a).2.2<=p+2:=by
 have D:=yZ (ez (af t (p+1))) (p+1);have E:=oh (ez (af t (p+1))) (p+1);exact⟨E,D⟩
theorem DY t p a:p+1<=(lJ t p a).2.2/\(lJ t p a).2.2<=p+2:=by
 have D:=yZ (kF (af t (p+1))) (p+1);have E:=oh (kF (af t (p+1))) (p+1);exact⟨E,D⟩
theorem xX t lo r:r.2.2<=(pK t lo r).2.2/\(pK t lo r).2.2<=r.2.2+1:=by
 grind[pK,oh,yZ]
theorem Yr t p a:p<=(act t p a).2.2/\(act t p a).2.2<=p+3:=by
 have D:=Bo t p a;have E:=DY t p a;have F:=xX t 49 (kx t p a);grind[xX,lJ,act,vl,pL]
theorem dS{t p}(h:t.size<=p):af t p=0:=by unfold af;rw[dif_neg oQ]
theorem ui{t p}(h:ez (af t p)=true):p<t.size:=by
 grind[dS,ez]
theorem om{t p}(h:kF (af t p)=true):p<t.size:=by
 grind[dS,kF]
theorem ow{t p}(h:eW (af t p)=true):p<t.size:=by
 grind[dS,eW]
theorem qQ{t lo p}(D:1<=lo)(h:jy lo (af t p)=true):p<t.size:=by
 grind[dS,jy]
theorem eo{t p c}(D:c≠0)(h:(af t p==c)=true):p<t.size:=by
 grind[dS]
theorem kV{t:ByteArray}{ok}{p}(D:p<=t.size)(h:ok=true->p<t.size):dI ok p<=t.size:=by
 grind[dI]
theorem KO{t p}a(D:p<t.size):(kx t p a).2.2<=t.size:=kV oQ ui
theorem Hh{t p}a(D:p<t.size):(lJ t p a).2.2<=t.size:=kV oQ om
theorem Bp{t lo}(D:1<=lo){r}(h:r.2.2<=t.size):(pK t lo r).2.2<=t.size:=by
 unfold pK;split
 ·exact kV h (qQ D)
 omega
theorem s7{t p}(E:p<=t.size)l d:(act t p ⟨af t p,l,d⟩).2.2<=t.size:=by
 rcases j5 p t.size with h|h
 ·have D:=KO ⟨af t p,l,d⟩ h;have F:=Bp (lo:=49) oQ D;have G:=Bp (lo:=48) oQ (Hh ⟨af t p,l,d⟩ h);grind[act,vl,pL]
 rw[dS h];exact E
theorem AV{t p a}(h:(act t p a).1=true):p<(act t p a).2.2:=by
 have D:=Bo t p a;have E:=DY t p a;have F:=xX t 49 (kx t p a);grind[xX,lJ,act,vl,pL]
def jW(t:ByteArray)(cl:Int):Nat->Nat->List Ac->Bool×List Ac×Nat
 |0,p,_=>(false,[],p)
 |n+1,p,l=>if af t p==cl then(true,l,p+1)else
  if(act t p ⟨af t p,0,0⟩).1 then jW t cl n (act t p ⟨af t p,0,0⟩).2.2 (l++[(act t p ⟨af t p,0,0⟩).2.1])
  else(false,[],(act t p ⟨af t p,0,0⟩).2.2)
def bM(t:ByteArray)(cl:Int)(p:Nat):Bool×List Ac×Nat:=jW t cl (t.size+1) p []
theorem rR{t cl n p l}(h:(af t p==cl)=true):jW t cl (n+1) p l=(true,l,p+1):=by
 simp[jW,h]
theorem v_{t cl n p l}(h:(af t p==cl)=false)(D:(act t p ⟨af t p,0,0⟩).1=false):
 jW t cl (n+1) p l=(false,[],(act t p ⟨af t p,0,0⟩).2.2):=by
 simp[jW,h,D]
theorem uj{t cl n p l}(h:(af t p==cl)=false)(D:(act t p ⟨af t p,0,0⟩).1=true):
 jW t cl (n+1) p l=jW t cl n (act t p ⟨af t p,0,0⟩).2.2 (l++[(act t p ⟨af t p,0,0⟩).2.1]):=by
 simp[jW,h,D]
end Ch
abbrev eL:Array Value:=#[bool false,bool false,bool false,bool false,bool false,bool false,bool false,bool false,bool false,bool false,bool false,bool false,bool false,bool false,bool false,bool false]
abbrev kb:Array Value:=#[int .u8 0,int .u8 0,int .u8 0,int .u8 0,int .u8 0,int .u8 0,int .u8 0,int .u8 0,int .u8 0,int .u8 0,int .u8 0,int .u8 0,int .u8 0,int .u8 0,int .u8 0,int .u8 0]
abbrev uW:Array Value:=#[bool false,bool false,bool false,bool false,bool false,bool false,bool false,bool false,bool false,bool false,bool false,bool false,bool false,bool false,bool false,bool false,int .u8 0,int .u8 0,int .u8 0,int .u8 0,int .u8 0,int .u8 0,int .u8 0,int .u8 0,int .u8 0,int .u8 0,int .u8 0,int .u8 0,int .u8 0,int .u8 0,int .u8 0,int .u8 0,string ByteArray.empty,int i64 0,int i64 0,int i64 0]
abbrev cB:Array Value:=#[bool false,bool false,bool false,bool false,bool false,bool false,bool false,bool false,bool false,bool false,bool false,bool false,bool false,bool false,bool false,bool false,int .u8 0,int .u8 0,int .u8 0,int .u8 0,int .u8 0,int .u8 0,int .u8 0,int .u8 0,int .u8 0,int .u8 0,int .u8 0,int .u8 0,int .u8 0,int .u8 0,int .u8 0,int .u8 0,string ⟨#[]⟩,int i64 0,int i64 0,int i64 0]
abbrev Dn:Array Value:=#[pointer none,bool false,bool false,bool false,bool false,bool false,bool false,bool false,bool false,bool false,bool false,bool false,bool false,bool false,bool false,bool false,bool false,int .u8 0,int .u8 0,int .u8 0,int .u8 0,int .u8 0,int .u8 0,int .u8 0,int .u8 0,int .u8 0,int .u8 0,int .u8 0,int .u8 0,int .u8 0,int .u8 0,int .u8 0,int .u8 0,string ⟨#[]⟩,int i64 0,int i64 0,int i64 0,slice none 0 0,slice none 0 0]
abbrev rO:Array Value:=#[int i64 0,int i64 0,int i64 0,slice none 0 0,slice none 0 0,slice none 0 0,bool false,bool false,bool false,bool false,bool false,bool false,bool false,bool false,bool false,bool false,bool false,bool false,bool false,bool false,bool false,bool false,int .u8 0,int .u8 0,int .u8 0,int .u8 0,int .u8 0,int .u8 0,int .u8 0,int .u8 0,int .u8 0,int .u8 0,int .u8 0,int .u8 0,int .u8 0,int .u8 0,int .u8 0,int .u8 0,string ⟨#[]⟩,int i64 0,int i64 0,int i64 0]
abbrev Dp:Array Value:=#[int i64 0,int i64 0,slice none 0 0,slice none 0 0,slice none 0 0]
abbrev cG:Array Value:=#[string ⟨#[]⟩,string ⟨#[]⟩,string ⟨#[]⟩,int i64 0,int i64 0,int i64 0]
abbrev y7:Array Value:=#[int i64 0,bool false,bool false,bool false,bool false,bool false,bool false,bool false,bool false,bool false,bool false,bool false,bool false,bool false,bool false,bool false,bool false,int .u8 0,int .u8 0,int .u8 0,int .u8 0,int .u8 0,int .u8 0,int .u8 0,int .u8 0,int .u8 0,int .u8 0,int .u8 0,int .u8 0,int .u8 0,int .u8 0,int .u8 0,int .u8 0,string ⟨#[]⟩,int i64 0,int i64 0,int i64 0,int i64 0]
abbrev Dq:Array Value:=#[int i64 0,string ⟨#[]⟩,int i64 0,bool false,int i64 0,int i64 0,bool false,bool false,bool false,bool false,bool false,bool false,bool false,bool false,bool false,bool false,bool false,bool false,bool false,bool false,bool false,bool false,int .u8 0,int .u8 0,int .u8 0,int .u8 0,int .u8 0,int .u8 0,int .u8 0,int .u8 0,int .u8 0,int .u8 0,int .u8 0,int .u8 0,int .u8 0,int .u8 0,int .u8 0,int .u8 0,string ⟨#[]⟩,int i64 0,int i64 0,int i64 0,string ⟨#[]⟩,int i64 0,int i64 0]
abbrev aU:Array Value:=#[int i64 0,int i64 0,int i64 0,int i64 0,string ⟨#[]⟩,string ⟨#[]⟩,string ⟨#[]⟩,int i64 0,int i64 0,int i64 0,string ⟨#[]⟩]
abbrev iP:Array Value:=#[int i64 0,int i64 0,slice none 0 0,slice none 0 0,slice none 0 0,int i64 0,slice none 0 0,int i64 0,string ⟨#[]⟩,slice none 0 0,int i64 0,int i64 0]
abbrev nw:Array Value:=#[bool false,int i64 0,string ⟨#[]⟩,int i64 0,int i64 0,int i64 0,int i64 0,string ⟨#[]⟩,string ⟨#[]⟩,string ⟨#[]⟩,int i64 0,int i64 0,int i64 0,string ⟨#[]⟩]
theorem ag{p}(h:p):Hid p:=h
theorem bw{D E}(F:D)(G:E):Hid (D/\E):=⟨F,G⟩
theorem c_{D E F}(G:D)(I:E)(J:F):Hid (D/\E/\F):=⟨G,I,J⟩
theorem fM{D E F G}(I:D)(J:E)(O:F)(Q:G):Hid (D/\E/\F/\G):=⟨I,J,O,Q⟩
theorem rP{D E F G I}(J:D)(O:E)(Q:F)(R:G)(U:I):Hid (D/\E/\F/\G/\I):=⟨J,O,Q,R,U⟩
theorem Hi{D E F G I J}(O:D)(Q:E)(R:F)(U:G)(X:I)(Y:J):Hid (D/\E/\F/\G/\I/\J):=⟨O,Q,R,U,X,Y⟩
theorem xn{D E F G I J O:Prop}(Q:D)(R:E)(U:F)(X:G)(Y:I)(Z:J)(a6:O):Hid (D/\E/\F/\G/\I/\J/\O):=⟨Q,R,U,X,Y,Z,a6⟩
theorem we{p:Prop}(k:p:=by go_wp2;go_ret;exact⟨rfl,rfl⟩):p:=k
theorem iN{p q:Prop}(a:Hid q)(k:Hid q->p:=by intro zz;go_wp2;go_ret;first|exact⟨rfl,zz.out⟩|exact⟨by rw[zz.out];rfl,rfl⟩|(rw[zz.out];exact⟨rfl,rfl⟩)|exact⟨rfl,zz.out,Kp.refl _ _⟩):p:=k a
theorem qR{p q r:Prop}(a:Hid q)(b:Hid r)(k:Hid q->Hid r->p:=by intro zz yy;go_wp2;go_ret;first|(rw[zz.out];exact⟨rfl,yy.out⟩)|exact⟨by rw[zz.out];rfl,yy.out⟩):p:=k a b
theorem OH{p q r:Prop}(a:Hid q)(b:Hid r)(k:Hid q->Hid r->p:=by intro zz yy;go_wp2;go_ret;exact⟨rfl,zz.out,yy.out⟩):p:=k a b
theorem hm{P f args w Q R}(h:Hid (Calls P f args w Q))(k:∀e w',Q e w'->R e w'):Calls P f args w R:=bI h k
abbrev bA(_:Nat):Prop:=False
structure Kp(S:Nat->Prop)(w w':World):Prop where
 os:w'.os=w.os
 tape:w'.tape=w.tape
 output:w'.output=w.output
 size:w.heap.size<=w'.heap.size
 block:∀k,k<w.heap.size->¬S k->w'.heap[k]? =w.heap[k]?
theorem Kp.refl S w:Kp S w w:=⟨rfl,rfl,rfl,aC _,λ_ _ _=>rfl⟩
theorem Kp.trans{S a b c}(h:Kp S a b)(k:Kp S b c):Kp S a c:=
 ⟨k.os.trans h.os,k.tape.trans h.tape,k.output.trans h.output,bz h.size k.size,
  λi hi hs=>(k.block i (Nat.lt_of_lt_of_le hi h.size) hs).trans (h.block i hi hs)⟩
theorem Kp.trans'{S S' a b c}(h:Kp S a b)(k:Kp S' b c)(hs:∀i,i<a.heap.size->S' i->S i):Kp S a c:=
 ⟨k.os.trans h.os,k.tape.trans h.tape,k.output.trans h.output,bz h.size k.size,
  λi hi hn=>(k.block i (Nat.lt_of_lt_of_le hi h.size) (λx=>hn (hs i hi x))).trans (h.block i hi hn)⟩
theorem Kp.mono{S S' w w'}(h:Kp S w w')(hs:∀i,i<w.heap.size->S i->S' i):Kp S' w w':=
 ⟨h.os,h.tape,h.output,h.size,λk hk hn=>h.block k hk (λx=>hn (hs k hk x))⟩
theorem Kp.drew{S a w}(h:Kp S a w):Kp S a w.drew:=⟨h.os,h.tape,h.output,h.size,h.block⟩
theorem Kp.drewN{S a w}(h:Kp S a w)n:Kp S a (w.drewN n):=⟨h.os,h.tape,h.output,h.size,h.block⟩
theorem Kp.alloc{S a w}(h:Kp S a w)o:Kp S a (w.alloc o):=
 h.trans ⟨rfl,rfl,rfl,dy,λk hk _=>cE _ _ _ oQ⟩
theorem Kp.setCell{S a w}(h:Kp S a w){p}(D:p.block<a.heap.size->S p.block)u:Kp S a (w.setCell p u):=
 h.trans' (S':=λk=>k=p.block) ⟨rfl,rfl,rfl,by simp[World.setCell],λk _ hn=>lS _ _ _ _ hn⟩ (λi hi e=>by subst e;exact D hi)
theorem Kp.grown{S a w w' row}(h:Kp S a w)(D:w.grownBy w' row)(E:∀k,row=some k->k<a.heap.size->S k):Kp S a w':=
 h.trans' (S':=λk=>row=some k) ⟨D.os,D.tape,D.output,D.size,λk hk hn=>D.block k hk (λe=>hn e.symm)⟩ (λi hi e=>E i e hi)
theorem Kp.below{S w w' B}(h:Kp S w w')(hB:B<=w.heap.size)(hs:∀k,S k->B<=k):Below B w w':=
 ⟨h.os,h.tape,h.output,h.size,λk hk=>h.block k oQ (λx=>by have:=hs k x;omega)⟩
theorem Kp.at_{S w w'}(h:Kp S w w'){k}{o}(D:w.heap[k]? =some o)(hs:¬S k):w'.heap[k]? =some o:=
 (h.block k (aR D) hs).trans D
theorem Kp.owns{S w w'}(h:Kp S w w'){base}{e}{size}{v}{n}{G}(F:w.ownsRow base e size v n G)(hs:∀k,v.ownBlock=some k->¬S k):w'.ownsRow base e size v n G:=by
 refine⟨F.1,?_⟩;rcases F.2 with J|⟨g,D,E,rfl,hb,I,rest⟩
 ·simp_all
 exact inr ⟨g,D,E,rfl,hb,h.at_ I (hs g rfl),rest⟩
theorem ar{w:World}{b}{i}{c}{t}{f}u(h:w.heap[b]? =some (cells c t f)):
 (w.setCell ⟨b,i,none⟩ u).heap[b]? =some (cells (c.setIfInBounds i u) t f):=by
 have D:=aR h;have E:w.heap[b]= cells c t f:=by simpa[Array.getElem?_eq_getElem D]using h
 show(w.heap.modify b _)[b]? =_;grind
def eF(w:World)(b:Nat)(t:ByteArray)(p:Nat)(e f sv tv bv uv:Value):Prop:=
 w.heap[b]? =some (cells #[string t,int i64 p,e,f,sv,tv,bv,uv] 143 (0,0))
section
variable {w:World} {b:Nat} {t:ByteArray} {p:Nat} {e f sv tv bv uv:Value}
theorem eF.text(h:eF w b t p e f sv tv bv uv):w.cell? ⟨b,0,none⟩=some (string t):=by unfold eF at h;simp[World.cell?,h]
theorem eF.pos(h:eF w b t p e f sv tv bv uv):w.cell? ⟨b,1,none⟩=some (int i64 p):=by unfold eF at h;simp[World.cell?,h]
theorem eF.c2(h:eF w b t p e f sv tv bv uv):w.cell? ⟨b,2,none⟩=some e:=by unfold eF at h;simp[World.cell?,h]
theorem eF.c3(h:eF w b t p e f sv tv bv uv):w.cell? ⟨b,3,none⟩=some f:=by unfold eF at h;simp[World.cell?,h]
theorem eF.c4(h:eF w b t p e f sv tv bv uv):w.cell? ⟨b,4,none⟩=some sv:=by unfold eF at h;simp[World.cell?,h]
theorem eF.c5(h:eF w b t p e f sv tv bv uv):w.cell? ⟨b,5,none⟩=some tv:=by unfold eF at h;simp[World.cell?,h]
theorem eF.c6(h:eF w b t p e f sv tv bv uv):w.cell? ⟨b,6,none⟩=some bv:=by unfold eF at h;simp[World.cell?,h]
theorem eF.c7(h:eF w b t p e f sv tv bv uv):w.cell? ⟨b,7,none⟩=some uv:=by unfold eF at h;simp[World.cell?,h]
theorem eF.free(h:eF w b t p e f sv tv bv uv)i:w.frozen? ⟨b,i,none⟩=false:=by unfold eF at h;simp[World.frozen?,h]
theorem eF.Hj(h:eF w b t p e f sv tv bv uv)(q:Nat):eF (w.setCell ⟨b,1,none⟩ (int i64 q)) b t q e f sv tv bv uv:=by
 unfold eF at*;rw[ar _ h];rfl
theorem eF.step(h:eF w b t p e f sv tv bv uv):eF (w.setCell ⟨b,1,none⟩ (int i64 ((p:Int)+1))) b t (p+1) e f sv tv bv uv:=h.Hj (p+1)
theorem eF.drewN(h:eF w b t p e f sv tv bv uv)n:eF (w.drewN n) b t p e f sv tv bv uv:=h
theorem eF.aB{S w'}(h:eF w b t p e f sv tv bv uv)(k:Kp S w w')(hs:¬S b):eF w' b t p e f sv tv bv uv:=Kp.at_ k h hs
theorem eF.alloc(h:eF w b t p e f sv tv bv uv)o:eF (w.alloc o) b t p e f sv tv bv uv:=h.aB (S:=bA) ((Kp.refl _ _).alloc _) (λx=>x)
theorem eF.grown{w' row}(h:eF w b t p e f sv tv bv uv)(g:w.grownBy w' row)(D:row≠some b):eF w' b t p e f sv tv bv uv:=
 h.aB (S:=λk=>row=some k) ((Kp.refl _ _).grown g (λ_ hk _=>hk)) D
theorem eF.lt(h:eF w b t p e f sv tv bv uv):b<w.heap.size:=aR h
theorem eF.Ys(h:eF w b t p e f sv tv bv uv)v:eF (w.setCell ⟨b,4,none⟩ v) b t p e f v tv bv uv:=by
 unfold eF at*;rw[ar _ h];rfl
theorem eF.y8(h:eF w b t p e f sv tv bv uv)v:eF (w.setCell ⟨b,5,none⟩ v) b t p e f sv v bv uv:=by
 unfold eF at*;rw[ar _ h];rfl
theorem eF.Bq(h:eF w b t p e f sv tv bv uv)v:eF (w.setCell ⟨b,6,none⟩ v) b t p e f sv tv v uv:=by
 unfold eF at*;rw[ar _ h];rfl
theorem eF.adT(h:eF w b t p e f sv tv bv uv)v:eF (w.setCell ⟨b,7,none⟩ v) b t p e f sv tv bv v:=by
 unfold eF at*;rw[ar _ h];rfl
end
def pd(w:World)(D:Nat)(a:Ch.Ac):Prop:=w.heap[D]? =some (cells #[int .u8 a.sign,int .u8 a.aK,int i64 a.digit] 255 (0,0))
section
variable {w:World} {ab:Nat} {a:Ch.Ac}
theorem pd.c0(h:pd w ab a):w.cell? ⟨ab,0,none⟩=some (int .u8 a.sign):=by unfold pd at h;simp[World.cell?,h]
theorem pd.c1(h:pd w ab a):w.cell? ⟨ab,1,none⟩=some (int .u8 a.aK):=by unfold pd at h;simp[World.cell?,h]
theorem pd.c2(h:pd w ab a):w.cell? ⟨ab,2,none⟩=some (int i64 a.digit):=by unfold pd at h;simp[World.cell?,h]
theorem pd.free(h:pd w ab a)i:w.frozen? ⟨ab,i,none⟩=false:=by unfold pd at h;simp[World.frozen?,h]
theorem pd.Hj(h:pd w ab a)l:pd (w.setCell ⟨ab,1,none⟩ (int .u8 l)) ab {a with aK:=l}:=by unfold pd at*;rw[ar _ h];rfl
theorem pd.Br(h:pd w ab a)d:pd (w.setCell ⟨ab,2,none⟩ (int i64 d)) ab {a with digit:=d}:=by unfold pd at*;rw[ar _ h];rfl
theorem pd.aB{S w'}(h:pd w ab a)(k:Kp S w w')(hs:¬S ab):pd w' ab a:=Kp.at_ k h hs
theorem pd.lt(h:pd w ab a):ab<w.heap.size:=aR h
theorem pd.ne{b t p e f sv tv bv uv}(h:pd w ab a)(k:eF w b t p e f sv tv bv uv):ab≠b:=by
 grind[pd,eF]
end
def iW(l:List Ch.Ac):List Value:=l.flatMap λa=>[int .u8 a.sign,int .u8 a.aK,int i64 a.digit]
theorem Fw l a:iW (l++[a])=iW l++[int .u8 a.sign,int .u8 a.aK,int i64 a.digit]:=by simp[iW]
theorem Bs(w:World)x y z T:∀j u,[x,y,z][j]? =some u->(w.alloc (cells #[x,y,z] T)).cell? ((⟨w.heap.size,0,none⟩:Addr).add j)=some u:=by
 intro j u D;match j,D with
 |0,D=>simp at D;subst D;simp[Addr.add]
 |1,D=>simp at D;subst D;simp[Addr.add]
 |2,D=>simp at D;subst D;simp[Addr.add]
theorem dr2(w:World)n m:(w.drewN n).drewN m=w.drewN (n+m):=World.drewN_drewN ..
theorem kW c w:
 Calls prog 56 #[int .u8 c] w λe w'=>e=returned (bool (Ch.ez c))/\w'=w:=by
 by_cases D:97<=c
 ·by_cases E:c<=122
  ·have H:Hid (Ch.ez c=true):=by simp[Hid,Ch.ez,D,E]
   go_in;exact iN H
  have H:Hid (Ch.ez c=false):=by simp[Hid,Ch.ez,E]
  go_in;exact iN H
 have H:Hid (Ch.ez c=false):=by simp[Hid,Ch.ez,D]
 go_in;exact iN H
theorem kX c w:
 Calls prog 211 #[int .u8 c] w λe w'=>e=returned (bool (Ch.eW c))/\w'=w:=by
 by_cases D:65<=c
 ·by_cases E:c<=90
  ·have H:Hid (Ch.eW c=true):=by simp[Hid,Ch.eW,D,E]
   go_in;exact iN H
  have H:Hid (Ch.eW c=false):=by simp[Hid,Ch.eW,E]
  go_in;exact iN H
 have H:Hid (Ch.eW c=false):=by simp[Hid,Ch.eW,D]
 go_in;exact iN H
theorem KP c w:
 Calls prog 212 #[int .u8 c] w λe w'=>e=returned (int i64 (Ch.fU c))/\w'=w:=by
 unfold Ch.fU;by_cases D:c=91
 ·subst D;go_in;go_wp2;go_ret;exact⟨dy,rfl⟩
 by_cases E:c=60
 ·subst E;go_in;go_wp2;go_ret;exact⟨dy,rfl⟩
 by_cases F:c=42
 ·subst F;go_in;go_wp2;go_ret;exact⟨dy,rfl⟩
 have G:(c==91)=false:=cX D;have I:(c==60)=false:=cX E;have J:(c==42)=false:=cX F;go_in;go_wp2;go_ret;exact⟨by simp[*],rfl⟩
theorem bL b t(p:Nat)w(E:w.cell? ⟨b,0,none⟩=some (string t))(F:w.cell? ⟨b,1,none⟩=some (int i64 p)):
 Calls prog 110 #[pointer (some ⟨b,0,none⟩)] w λe w'=>e=returned (int .u8 (Ch.af t p))/\∃n,w'=w.drewN n:=by
 by_cases h:p<t.size
 ·have D:¬(t.size:Int)<=p:=oQ;have G:(p:Int)<t.size:=oQ;go_in;go_wp2;go_quiet (fail);go_wp2;go_quiet (fail);go_wp2;go_ret;exact⟨by simp[Ch.af,h],_,dr2 _ _ _⟩
 have D:(t.size:Int)<=p:=oQ;go_in;go_wp2;go_quiet (fail);go_wp2;go_ret;exact⟨by simp[Ch.af,h],_,rfl⟩
section
variable (b:Nat) (t:ByteArray) (p:Nat) (e f sv tv bv uv:Value) (w:World)
theorem jQ ok(h:eF w b t p e f sv tv bv uv)(E:p<=1000):
 Calls prog 216 #[pointer (some ⟨b,0,none⟩),bool ok] w λx w'=>x=returned (bool ok)/\eF w' b t (Ch.dI ok p) e f sv tv bv uv/\Kp (λk=>k=b) w w':=by
 have D:=h.pos;have f1:=h.free 1;have H:Hid (eF w b t p e f sv tv bv uv):=h;cases ok with
 |true=>
  go_in;go_wp2;go_ret;exact⟨rfl,H.Hj (p+1),(Kp.refl _ _).setCell jF _⟩
 |false=>?_
 go_in;exact iN H
theorem s8 D(h:eF w b t p e f sv tv bv uv)(Q:p<=1000):
 Calls prog 157 #[pointer (some ⟨b,0,none⟩),int .u8 D] w λx w'=>x=returned (bool (Ch.af t p==D))/\eF w' b t (Ch.dI (Ch.af t p==D) p) e f sv tv bv uv/\Kp (λk=>k=b) w w':=by
 go_in;go_wp;refine b9 (bL b t p _ h.text h.pos) ?_;rintro I ⟨E,rfl⟩;have G:eF (w.drewN E) b t p e f sv tv bv uv:=h;have F:Kp (λk=>k=b) w (w.drewN E):=(Kp.refl _ _).drewN _;generalize w.drewN E=I at G F⊢;go_wp21;refine(jQ b t p e f sv tv bv uv I _ G Q).mono ?_;rintro x R ⟨rfl,O,J⟩;exact OH O (F.trans J)
theorem Dr(h:eF w b t p e f sv tv bv uv)(J:p<=1000):
 Calls prog 279 #[pointer (some ⟨b,0,none⟩)] w λx w'=>x=returned (bool (Ch.ez (Ch.af t p)))/\eF w' b t (Ch.dI (Ch.ez (Ch.af t p)) p) e f sv tv bv uv/\Kp (λk=>k=b) w w':=by
 go_in;go_wp21;refine(bL b t p _ h.text h.pos).mono ?_;rintro x O ⟨rfl,D,rfl⟩;have F:eF (w.drewN D) b t p e f sv tv bv uv:=h;have E:Kp (λk=>k=b) w (w.drewN D):=(Kp.refl _ _).drewN _;generalize w.drewN D=O at F E⊢;go_wp2_with fail;refine(kW _ _).mono ?_;rintro x Q ⟨rfl,rfl⟩;go_wp21;refine(jQ b t p e f sv tv bv uv _ _ F J).mono ?_;rintro x Q ⟨rfl,I,G⟩;exact OH I (E.trans G)
theorem jR(h:eF w b t p e f sv tv bv uv)(U:p<=1000):
 Calls prog 270 #[pointer (some ⟨b,0,none⟩)] w λx w'=>x=returned (bool (Ch.kF (Ch.af t p)))/\eF w' b t (Ch.dI (Ch.kF (Ch.af t p)) p) e f sv tv bv uv/\Kp (λk=>k=b) w w':=by
 rcases Ch.KJ (Ch.af t p)with⟨E,D⟩|⟨E,I,D⟩|⟨E,I,Q,D⟩|⟨E,I,Q,D⟩
 all_goals
  rw[D];go_in;go_wp;refine b9 (bL b t p _ h.text h.pos) ?_;rintro X ⟨F,rfl⟩;have J:eF (w.drewN F) b t p e f sv tv bv uv:=h;have G:Kp (λk=>k=b) w (w.drewN F):=(Kp.refl _ _).drewN _;generalize w.drewN F=X at J G⊢;go_wp21;refine(jQ b t p e f sv tv bv uv _ _ J U).mono ?_;rintro x Y ⟨rfl,R,O⟩;exact OH R (G.trans O)
theorem su lo(h:eF w b t p e f sv tv bv uv)(R:p<=1000):
 Calls prog 272 #[pointer (some ⟨b,0,none⟩),int .u8 lo] w λx w'=>x=returned (bool (Ch.jy lo (Ch.af t p)))/\eF w' b t (Ch.dI (Ch.jy lo (Ch.af t p)) p) e f sv tv bv uv/\Kp (λk=>k=b) w w':=by
 rcases Ch.KL lo (Ch.af t p)with⟨G,O,D⟩|⟨G,O,D⟩|⟨G,D⟩
 all_goals
  rw[D];go_in;go_wp;refine b9 (bL b t p _ h.text h.pos) ?_;rintro U ⟨E,rfl⟩;have I:eF (w.drewN E) b t p e f sv tv bv uv:=h;have F:Kp (λk=>k=b) w (w.drewN E):=(Kp.refl _ _).drewN _;generalize w.drewN E=U at I F⊢;go_wp21;refine(jQ b t p e f sv tv bv uv _ _ I R).mono ?_;rintro x X ⟨rfl,Q,J⟩;exact OH Q (F.trans J)
theorem sw(D:w.cell? ⟨b,0,none⟩=some (string t))(E:w.cell? ⟨b,1,none⟩=some (int i64 p)):
 Calls prog 271 #[pointer (some ⟨b,0,none⟩)] w λx w'=>x=returned (int i64 (Ch.af t p-48))/\∃n,w'=w.drewN n:=by
 have lo:=Ch.VF t p;have hi:=Ch.NC t p;go_in;go_wp;refine b9 (bL b t p _ D E) ?_;rintro G ⟨F,rfl⟩;go_wp2;go_ret;exact⟨rfl,F,rfl⟩
end
section
variable (b ab:Nat) (t:ByteArray) (p:Nat) (a:Ch.Ac) (e f sv tv bv uv:Value) (w:World)
theorem pW(h:eF w b t p e f sv tv bv uv)(X:pd w ab a)(hp:p<=900):
 Calls prog 276 #[pointer (some ⟨b,0,none⟩),pointer (some ⟨ab,0,none⟩)] w λx w'=>x=returned (bool (Ch.kx t p a).1)/\
  eF w' b t (Ch.kx t p a).2.2 e f sv tv bv uv/\pd w' ab (Ch.kx t p a).2.1/\Kp (λk=>k=b\/k=ab) w w':=by
 have D:=X.ne h;have hs:=h.step;have c1:=h.pos;have f1:=h.free 1;have H:Hid (pd w ab a/\eF w b t p e f sv tv bv uv):=⟨X,h⟩
 go_in;go_wp;refine(bL b t (p+1) _ hs.text hs.pos).mono ?_;rintro x E ⟨rfl,J,rfl⟩;have G:Kp (λk=>k=b\/k=ab) w ((w.setCell ⟨b,1,none⟩ (int i64 ((p:Int)+1))).drewN J):=((Kp.refl _ _).setCell (by intro _;exact Or.inl rfl) _).drewN _;have F:pd ((w.setCell ⟨b,1,none⟩ (int i64 ((p:Int)+1))).drewN J) ab a:=H.1.aB (S:=λk=>k=b) (((Kp.refl _ _).setCell jF _).drewN _) D;have I:=hs.drewN J;generalize (w.setCell ⟨b,1,none⟩ (int i64 ((p:Int)+1))).drewN J=E at G F I⊢;have c2:=F.c1;have f2:=F.free 1;have Y:Hid (pd E ab a/\eF E b t (p+1) e f sv tv bv uv/\Kp (λk=>k=b\/k=ab) w E):=⟨F,I,G⟩
 go_wp21;have⟨F,I,G⟩:=Y;have R:=F.Hj (Ch.af t (p+1));have U:eF (E.setCell ⟨ab,1,none⟩ (int .u8 (Ch.af t (p+1)))) b t (p+1) e f sv tv bv uv:=I.aB (S:=λk=>k=ab) ((Kp.refl _ _).setCell jF _) (j6 D);have O:Kp _ _ (E.setCell ⟨ab,1,none⟩ (int .u8 (Ch.af t (p+1)))):=G.setCell RH _;generalize E.setCell ⟨ab,1,none⟩ (int .u8 (Ch.af t (p+1)))=w2 at R U O⊢;refine(Dr b t (p+1) e f sv tv bv uv w2 U oQ).mono ?_;rintro x w3 ⟨rfl,h3,Q⟩;have a3:=R.aB Q D;have Z:=O.trans' Q (λi _ e=>Or.inl e);go_wp2;go_ret;exact⟨rfl,h3,a3,Z⟩
theorem Fx(h:eF w b t p e f sv tv bv uv)(ha:pd w ab a)(hp:p<=900):
 Calls prog 277 #[pointer (some ⟨b,0,none⟩),pointer (some ⟨ab,0,none⟩)] w λx w'=>x=returned (bool (Ch.vl t p a).1)/\
  eF w' b t (Ch.vl t p a).2.2 e f sv tv bv uv/\pd w' ab (Ch.vl t p a).2.1/\Kp (λk=>k=b\/k=ab) w w':=by
 have J:=ha.ne h;have E:=pW b ab t p a e f sv tv bv uv w h ha hp;have hb:=Ch.Bo t p a;unfold Ch.vl;generalize Ch.kx t p a=r at E hb⊢;have⟨ok,a1,p1⟩:=r;have Y:=ag (E);cases ok with
 |false=>
  go_in;go_wp;refine b9 Y ?_;rintro X ⟨D,I,U⟩;go_wp2;go_ret;exact⟨rfl,D,I,U⟩
 |true=>?_
 go_in;go_wp;refine b9 Y ?_;rintro X ⟨D,I,U⟩;have D:=D;have I:=I;have hb:=hb.2;go_wp21;refine(sw b t p1 _ D.text D.pos).mono ?_;rintro x F ⟨rfl,R,rfl⟩;have G:pd (X.drewN R) _ _:=I;have Q:=D.drewN R;have O:=U.drewN R;generalize X.drewN R=F at G Q O⊢;have c2:=G.c2;have f2:=G.free 2;have H2:Hid (pd F ab a1/\eF F b t p1 e f sv tv bv uv/\Kp (λk=>k=b\/k=ab) w F):=⟨G,Q,O⟩
 go_wp21;have⟨G,Q,O⟩:=H2;have a3:=G.Br (Ch.af t p1-48);have h3:eF (F.setCell ⟨ab,2,none⟩ (int i64 (Ch.af t p1-48))) b t p1 e f sv tv bv uv:=Q.aB (S:=λk=>k=ab) ((Kp.refl _ _).setCell jF _) (j6 J);have Z:Kp _ _ (F.setCell ⟨ab,2,none⟩ (int i64 (Ch.af t p1-48))):=O.setCell RH _;generalize F.setCell ⟨ab,2,none⟩ (int i64 (Ch.af t p1-48))=w3 at a3 h3 Z⊢;refine(su b t p1 e f sv tv bv uv w3 49 h3 oQ).mono ?_;rintro x w4 ⟨rfl,h4,K4⟩;have a4:=a3.aB K4 J;have K5:=Z.trans' K4 (λi _ e=>Or.inl e);go_wp2;go_ret;exact⟨rfl,h4,a4,K5⟩
theorem pq(h:eF w b t p e f sv tv bv uv)(ha:pd w ab a)(hp:p<=900):
 Calls prog 278 #[pointer (some ⟨b,0,none⟩),pointer (some ⟨ab,0,none⟩)] w λx w'=>x=returned (bool (Ch.pL t p a).1)/\
  eF w' b t (Ch.pL t p a).2.2 e f sv tv bv uv/\pd w' ab (Ch.pL t p a).2.1/\Kp (λk=>k=b\/k=ab) w w':=by
 cases hv:Ch.kF (Ch.af t (p+1))with
 |false=>
  have HV:Hid (Ch.pL t p a=(false,{a with aK:=Ch.af t (p+1)},p+1)):=by simp[Hid,Ch.pL,Ch.lJ,Ch.pK,Ch.dI,hv]
  rw[HV];have Hv:Hid _:=hv;clear hv HV;have F:=ha.ne h;have hs:=h.step;have c1:=h.pos;have f1:=h.free 1;have H:Hid (pd w ab a/\eF w b t p e f sv tv bv uv):=⟨ha,h⟩
  clear ha h;go_in;go_wp2_with fail;refine(bL b t (p+1) _ hs.text hs.pos).mono ?_;rintro x G ⟨rfl,Y,rfl⟩;have I:Kp (λk=>k=b\/k=ab) w ((w.setCell ⟨b,1,none⟩ (int i64 ((p:Int)+1))).drewN Y):=((Kp.refl _ _).setCell (by intro _;exact Or.inl rfl) _).drewN _;have D:pd ((w.setCell ⟨b,1,none⟩ (int i64 ((p:Int)+1))).drewN Y) ab a:=H.1.aB (S:=λk=>k=b) (((Kp.refl _ _).setCell jF _).drewN _) F;have E:=hs.drewN Y;generalize (w.setCell ⟨b,1,none⟩ (int i64 ((p:Int)+1))).drewN Y=G at I D E⊢;clear hs c1 f1 H;have c2:=D.c1;have f2:=D.free 1;have H1:Hid (pd G ab a/\eF G b t (p+1) e f sv tv bv uv/\Kp (λk=>k=b\/k=ab) w G):=⟨D,E,I⟩
  clear D E I;go_wp2_with fail;have⟨D,E,I⟩:=H1;clear H1 c2 f2;have J:=D.Hj (Ch.af t (p+1));have Q:eF (G.setCell ⟨ab,1,none⟩ (int .u8 (Ch.af t (p+1)))) b t (p+1) e f sv tv bv uv:=E.aB (S:=λk=>k=ab) ((Kp.refl _ _).setCell jF _) (j6 F);have O:Kp _ _ (G.setCell ⟨ab,1,none⟩ (int .u8 (Ch.af t (p+1)))):=I.setCell RH _;generalize G.setCell ⟨ab,1,none⟩ (int .u8 (Ch.af t (p+1)))=X at J Q O⊢;clear D E I;refine(jR b t (p+1) e f sv tv bv uv X Q oQ).mono ?_;rw[Hv];rintro x w3 ⟨rfl,h3,U⟩;have Z:=J.aB U F;have K4:=O.trans' U (λi _ e=>Or.inl e);clear J Q O U;go_wp2;go_ret;exact⟨rfl,h3,Z,K4⟩
 |true=>?_
 have HV:Hid (Ch.pL t p a=Ch.pK t 48 (true,{a with aK:=Ch.af t (p+1)},p+2)):=by simp[Hid,Ch.pL,Ch.lJ,Ch.dI,hv]
 rw[HV];have Hv:Hid _:=hv;clear hv HV;obtain⟨R,ad⟩:∃R,R=p+2:=⟨_,rfl⟩
 rw[<-ad];have HP:Hid _:=ad;have hb:R<=p+2:=oQ;clear ad;obtain⟨D,aa⟩:∃D:Ch.Ac,D={a with aK:=Ch.af t (p+1)}:=⟨_,rfl⟩
 rw[<-aa];have HA:Hid _:=aa;clear aa;have F:=ha.ne h;have hs:=h.step;have c1:=h.pos;have f1:=h.free 1;have H:Hid (pd w ab a/\eF w b t p e f sv tv bv uv):=⟨ha,h⟩
 clear ha h;go_in;go_wp2_with fail;refine(bL b t (p+1) _ hs.text hs.pos).mono ?_;rintro x G ⟨rfl,Y,rfl⟩;have I:Kp (λk=>k=b\/k=ab) w ((w.setCell ⟨b,1,none⟩ (int i64 ((p:Int)+1))).drewN Y):=((Kp.refl _ _).setCell (by intro _;exact Or.inl rfl) _).drewN _;have D:pd ((w.setCell ⟨b,1,none⟩ (int i64 ((p:Int)+1))).drewN Y) ab a:=H.1.aB (S:=λk=>k=b) (((Kp.refl _ _).setCell jF _).drewN _) F;have E:=hs.drewN Y;generalize (w.setCell ⟨b,1,none⟩ (int i64 ((p:Int)+1))).drewN Y=G at I D E⊢;clear hs c1 f1 H;have c2:=D.c1;have f2:=D.free 1;have H1:Hid (pd G ab a/\eF G b t (p+1) e f sv tv bv uv/\Kp (λk=>k=b\/k=ab) w G):=⟨D,E,I⟩
 clear D E I;go_wp2_with fail;have⟨D,E,I⟩:=H1;clear H1 c2 f2;have J:=D.Hj (Ch.af t (p+1));have Q:eF (G.setCell ⟨ab,1,none⟩ (int .u8 (Ch.af t (p+1)))) b t (p+1) e f sv tv bv uv:=E.aB (S:=λk=>k=ab) ((Kp.refl _ _).setCell jF _) (j6 F);have O:Kp _ _ (G.setCell ⟨ab,1,none⟩ (int .u8 (Ch.af t (p+1)))):=I.setCell RH _;generalize G.setCell ⟨ab,1,none⟩ (int .u8 (Ch.af t (p+1)))=X at J Q O⊢;clear D E I;refine(jR b t (p+1) e f sv tv bv uv X Q oQ).mono ?_;rw[Hv];rintro x w3 ⟨rfl,h3,U⟩;have Z:=J.aB U F;have I:=O.trans' U (λi _ e=>Or.inl e);clear J Q O U;have E:eF w3 b t R e f sv tv bv uv:=by rw[HP];exact h3
 have A1:pd w3 ab D:=by rw[HA];exact Z
 clear Z h3 Hv HA HP;generalize w3=G at E A1 I⊢;go_wp2_with fail;refine(sw b t R _ E.text E.pos).mono ?_;rintro x X ⟨rfl,n2,rfl⟩;have J:pd (G.drewN n2) _ _:=A1;have Q:=E.drewN n2;have O:=I.drewN n2;generalize G.drewN n2=X at J Q O⊢;clear A1 E I;have c2:=J.c2;have f2:=J.free 2;have H2:Hid (pd X ab D/\eF X b t R e f sv tv bv uv/\Kp (λk=>k=b\/k=ab) w X):=⟨J,Q,O⟩
 clear J Q O;go_wp21;have⟨J,Q,O⟩:=H2;clear H2 c2 f2;have Z:=J.Br (Ch.af t R-48);have h3:eF (X.setCell ⟨ab,2,none⟩ (int i64 (Ch.af t R-48))) b t R e f sv tv bv uv:=Q.aB (S:=λk=>k=ab) ((Kp.refl _ _).setCell jF _) (j6 F);have U:Kp _ _ (X.setCell ⟨ab,2,none⟩ (int i64 (Ch.af t R-48))):=O.setCell RH _;generalize X.setCell ⟨ab,2,none⟩ (int i64 (Ch.af t R-48))=w3 at Z h3 U⊢;clear J Q O;refine(su b t R e f sv tv bv uv w3 48 h3 oQ).mono ?_;rintro x w4 ⟨rfl,h4,K4⟩;have a4:=Z.aB K4 F;have K5:=U.trans' K4 (λi _ e=>Or.inl e);clear Z h3 U K4;go_wp2;go_ret;exact⟨rfl,h4,a4,K5⟩
theorem ND(h:eF w b t p e f sv tv bv uv)(I:pd w ab a)(R:p<=900):
 Calls prog 273 #[pointer (some ⟨b,0,none⟩),pointer (some ⟨ab,0,none⟩)] w λx w'=>x=returned (bool (Ch.act t p a).1)/\
  eF w' b t (Ch.act t p a).2.2 e f sv tv bv uv/\pd w' ab (Ch.act t p a).2.1/\Kp (λk=>k=b\/k=ab) w w':=by
 have c0:=I.c0;cases O:a.sign==33 with
 |true=>
  have D:Hid (Ch.act t p a=Ch.kx t p a):=by simp[Hid,Ch.act,O]
  rw[D];have E:=ag (pW b ab t p a e f sv tv bv uv w h I R);go_in;go_wp;refine b9 E ?_;intro X F;exact iN F
 |false=>?_
 cases Q:a.sign==126 with
 |true=>
  have D:Hid (Ch.act t p a=Ch.kx t p a):=by simp[Hid,Ch.act,O,Q]
  rw[D];have E:=ag (pW b ab t p a e f sv tv bv uv w h I R);go_in;go_wp;refine b9 E ?_;intro X F;exact iN F
 |false=>?_
 cases U:a.sign==35 with
 |true=>
  have D:Hid (Ch.act t p a=Ch.kx t p a):=by simp[Hid,Ch.act,O,Q,U]
  rw[D];have E:=ag (pW b ab t p a e f sv tv bv uv w h I R);go_in;go_wp;refine b9 E ?_;intro X F;exact iN F
 |false=>?_
 cases G:a.sign==64 with
 |true=>
  have D:Hid (Ch.act t p a=Ch.vl t p a):=by simp[Hid,Ch.act,O,Q,U,G]
  rw[D];have E:=ag (Fx b ab t p a e f sv tv bv uv w h I R);go_in;go_wp;refine b9 E ?_;intro X F;exact iN F
 |false=>?_
 cases J:a.sign==43 with
 |true=>
  have D:Hid (Ch.act t p a=Ch.pL t p a):=by simp[Hid,Ch.act,O,Q,U,G,J]
  rw[D];have E:=ag (pq b ab t p a e f sv tv bv uv w h I R);go_in;go_wp;refine b9 E ?_;intro X F;exact iN F
 |false=>?_
 cases Z:a.sign==45 with
 |true=>
  have D:Hid (Ch.act t p a=Ch.pL t p a):=by simp[Hid,Ch.act,O,Q,U,G,J,Z]
  rw[D];have E:=ag (pq b ab t p a e f sv tv bv uv w h I R);go_in;go_wp;refine b9 E ?_;intro X F;exact iN F
 |false=>?_
 cases Y:a.sign==61 with
 |true=>
  have D:Hid (Ch.act t p a=Ch.pL t p a):=by simp[Hid,Ch.act,O,Q,U,G,J,Z,Y]
  rw[D];have E:=ag (pq b ab t p a e f sv tv bv uv w h I R);go_in;go_wp;refine b9 E ?_;intro X F;exact iN F
 |false=>?_
 have D:Hid (Ch.act t p a=(false,a,p)):=by simp[Hid,Ch.act,O,Q,U,G,J,Z,Y]
 rw[D];have E:=bw h I;go_in;go_wp2;go_ret;exact⟨rfl,E.1,E.2,Kp.refl _ _⟩
end
theorem VG:(prog.info? 255).map (λi=>(i.zero,i.size,i.bytes))=some (some (agg #[int .u8 0,int .u8 0,int i64 0]),3,16):=bZ
theorem Ch.R0{t cl}(D:cl≠0):∀ n p l,p<=t.size->p<=(Ch.jW t cl n p l).2.2/\(Ch.jW t cl n p l).2.2<=t.size:=by
 intro n;induction n with
 |zero=>intro p l E;exact⟨aC _,E⟩
 |succ n O=>?_
 intro p l E;have I:=Ch.s7 E 0 0;have J:=(Ch.Yr t p ⟨Ch.af t p,0,0⟩).1;cases F:Ch.af t p==cl with
 |true=>
  rw[Ch.rR F];have:=Ch.eo D F;grind
 |false=>?_
 cases G:(Ch.act t p ⟨Ch.af t p,0,0⟩).1 with
 |false=>grind[Ch.v_]
 |true=>?_
 grind[Ch.uj,Ch.act,Ch.af]
theorem Ch.xY{t cl p}(E:p<=t.size)(D:cl≠0:=by decide):p<=(Ch.bM t cl p).2.2/\(Ch.bM t cl p).2.2<=t.size:=Ch.R0 D _ _ _ E
theorem xZ b t p e f sv tv bv uv w cl(h:eF w b t p e f sv tv bv uv)(hp:p<=t.size)(ht:t.size<=240)(ad:cl≠0):
 Calls prog 251 #[pointer (some ⟨b,0,none⟩),int .u8 cl] w λx w'=>∃v,x=returned (tuple #[v,bool (Ch.bM t cl p).1])/\
  eF w' b t (Ch.bM t cl p).2.2 e f sv tv bv uv/\w'.ownsRow w.heap.size 255 3 v (Ch.bM t cl p).2.1.length (iW (Ch.bM t cl p).2.1)/\Kp (λk=>k=b) w w'/\
  (Ch.bM t cl p).2.2<=t.size:=by
 have⟨i0,hi,hz0,hz1,hz2⟩:=cr VG;have Hb:=ag h.lt;go_in;go_wp
 go_loopg [6] (t.size+1) (λk v wr=>∃D l,Hid (Ch.bM t cl p=Ch.jW t cl k D l)/\D<=t.size/\t.size+1<=k+D/\eF wr b t D e f sv tv bv uv/\
  wr.ownsRow w.heap.size 255 3 v l.length (iW l)/\l.length<=D/\Kp (λk=>k=b) w wr)
 case atStart=>exact⟨p,[],ag rfl,hp,oQ,h,cd _ _ _ _,dy,Kp.refl _ _⟩
 case round=>
  have⟨D,l,HE,hp1,hk,h1,ho,hl,K1⟩:=hrel;obtain⟨k,rfl⟩:∃k,gk=k+1:=⟨gk-1,oQ⟩
  cases O:Ch.af t D==cl with
  |true=>
   have HF:=ag (HE.trans (Ch.rR O));have aj:=Ch.eo ad O;have E:=ag (s8 b t D e f sv tv bv uv wr cl h1 oQ);rw[O]at E;go_wp;refine b9 E ?_;rintro w1 ⟨F,U⟩;have o2:=U.owns ho (λk hk e=>by have:=(ho.lt k hk).1;have:=Hb.out;omega);have K3:=K1.trans U;go_wp2;go_ret2;exact⟨_,by rw[HF];exact⟨rfl,F,o2,K3,(by show D+1<=t.size;omega)⟩⟩
  |false=>?_
  cases ca:(Ch.act t D ⟨Ch.af t D,0,0⟩).1 with
  |false=>
   have HF:=ag (HE.trans (Ch.v_ O ca));have E:=ag (s8 b t D e f sv tv bv uv wr cl h1 oQ);rw[O]at E;have HA:=bw O ca;go_wp21;refine b9 E ?_;rintro w1 ⟨F,U⟩;have F:eF _ _ _ D _ _ _ _ _ _:=F;have o2:=U.owns ho (λk hk e=>by have:=(ho.lt k hk).1;have:=Hb.out;omega);have K3:=K1.trans U;go_wp2_with fail;refine(bL b t D _ F.text F.pos).mono ?_;rintro x G ⟨rfl,Q,rfl⟩;have h3:=F.drewN Q;have R:(w1.drewN Q).ownsRow _ _ _ _ _ _:=o2;have X:=K3.drewN Q;generalize w1.drewN Q=G at h3 R X⊢;go_wp21;have Y:pd (G.alloc (cells #[int .u8 (Ch.af t D),int .u8 0,int i64 0] 255)) _ ⟨Ch.af t D,0,0⟩:=ak G _;have h4:eF (G.alloc (cells #[int .u8 (Ch.af t D),int .u8 0,int i64 0] 255)) b t D e f sv tv bv uv:=h3.aB (S:=bA) ((Kp.refl _ _).alloc _) (λx=>x);have o4:=R.alloc (cells #[int .u8 (Ch.af t D),int .u8 0,int i64 0] 255);have K5:=X.alloc (cells #[int .u8 (Ch.af t D),int .u8 0,int i64 0] 255);have iL:=X.size;have J:=λk hk=>(R.lt k hk).2;have Z:=λk hk=>(R.lt k hk).1;generalize G.alloc (cells #[int .u8 (Ch.af t D),int .u8 0,int i64 0] 255)=w3 at Y h4 o4 K5⊢;generalize G.heap.size=ab at Y iL J⊢;have E:=ag (ND b ab t D ⟨Ch.af t D,0,0⟩ e f sv tv bv uv w3 h4 Y oQ);rw[HA.2]at E;refine b9 E ?_;rintro w4 ⟨h5,a5,K6⟩;have o5:=K6.owns o4 (λk hk I=>by have:=J k hk;have:=Z k hk;have:=Hb.out;omega);have K7:=K5.trans' K6 (λi hi I=>by rcases I with I|I;exact I;omega);have hs:=Ch.s7 hp1 0 0;go_wp2;go_ret2;exact⟨_,by rw[HF];exact⟨rfl,h5,cd _ _ _ _,K7,hs⟩⟩
  |true=>?_
  have HF:=ag (HE.trans (Ch.uj O ca));have E:=ag (s8 b t D e f sv tv bv uv wr cl h1 oQ);rw[O]at E;have HA:=bw O ca;go_wp21;refine b9 E ?_;rintro w1 ⟨F,U⟩;have F:eF _ _ _ D _ _ _ _ _ _:=F;have o2:=U.owns ho (λk hk e=>by have:=(ho.lt k hk).1;have:=Hb.out;omega);have K3:=K1.trans U;go_wp2_with fail;refine(bL b t D _ F.text F.pos).mono ?_;rintro x G ⟨rfl,Q,rfl⟩;have h3:=F.drewN Q;have R:(w1.drewN Q).ownsRow _ _ _ _ _ _:=o2;have X:=K3.drewN Q;generalize w1.drewN Q=G at h3 R X⊢;go_wp21;have Y:pd (G.alloc (cells #[int .u8 (Ch.af t D),int .u8 0,int i64 0] 255)) _ ⟨Ch.af t D,0,0⟩:=ak G _;have h4:eF (G.alloc (cells #[int .u8 (Ch.af t D),int .u8 0,int i64 0] 255)) b t D e f sv tv bv uv:=h3.aB (S:=bA) ((Kp.refl _ _).alloc _) (λx=>x);have o4:=R.alloc (cells #[int .u8 (Ch.af t D),int .u8 0,int i64 0] 255);have K5:=X.alloc (cells #[int .u8 (Ch.af t D),int .u8 0,int i64 0] 255);have iL:=X.size;have J:=λk hk=>(R.lt k hk).2;have Z:=λk hk=>(R.lt k hk).1;generalize G.alloc (cells #[int .u8 (Ch.af t D),int .u8 0,int i64 0] 255)=w3 at Y h4 o4 K5⊢;generalize G.heap.size=ab at Y iL J⊢;have E:=ag (ND b ab t D ⟨Ch.af t D,0,0⟩ e f sv tv bv uv w3 h4 Y oQ);rw[HA.2]at E;refine b9 E ?_;rintro w4 ⟨h5,a5,K6⟩;have o5:=K6.owns o4 (λk hk I=>by have:=J k hk;have:=Z k hk;have:=Hb.out;omega);have K7:=K5.trans' K6 (λi hi I=>by rcases I with I|I;exact I;omega);have hs:=Ch.s7 hp1 0 0;have aa:=Ch.AV HA.2;have m0:=a5.c0;have m1:=a5.c1;have m2:=a5.c2;generalize Ch.act t D ⟨Ch.af t D,0,0⟩=r at HF h5 a5 hs aa m0 m1 m2;have⟨ok,a1,p2⟩:=r;go_wp2_with (at_builtin;refine jk _ rfl (tmp 22) (tmp 24) 207 rfl w.heap.size 255 i0 (agg #[int .u8 0,int .u8 0,int i64 0]) 3 16 underlying207 hi hz0 hz1 hz2 rfl aV _ _ _ rfl (o5.alloc _) ⟨w4.heap.size,0,none⟩ 1 1 [int .u8 a1.sign,int .u8 a1.aK,int i64 a1.digit] rfl rfl ?c1 ?c2 ?c3 ?c4 ?c5 ?_)
  case c1=>exact Bs _ _ _ _ _
  case c2=>intro u hu;simp at hu;rcases hu with rfl|rfl|rfl<;>rfl
  case c3=>unfold maxLen;omega
  case c4=>omega
  case c5=>have:=K7.size;simp;omega
  intro v' w5 o6 g6 _;have K8:=(K7.alloc _).grown g6 (λk hk aj=>by have:=(o5.lt k hk).1;omega);have h6:=(h5.aB (S:=bA) ((Kp.refl _ _).alloc _) (λx=>x)).aB (S:=λk=>u6.ownBlock=some k) ((Kp.refl _ _).grown g6 (λk hk _=>hk)) (λhk=>by have:=(o5.lt _ hk).1;have:=Hb.out;omega);rw[<-Fw]at o6;go_wp2;go_roundg k
  case measure=>omega
  case rel=>exact⟨p2,l++[a1],HF,hs,oQ,h6,by simpa using o6,by simp;omega,K8⟩
theorem jn{w:World}{base}{e}{size}{v}{n}{E}(h:w.ownsRow base e size v n E)(G:0<n):
 ∃g D,v= slice (some ⟨g,0,none⟩) n D:=by
 rcases h.2 with⟨_,F⟩|⟨g,D,_,h,_⟩
 ·omega
 simp_all
theorem jf{P J o a w K Q E}(hg:o.guard=none)s x t(U:o.op=Op.call {callee:=Callee.builtin Builtin.append,args:=#[s,x],argTypes:=#[t,t]})base e i z size bytes(h1:P.underlying t=some (.slice e))(h2:P.info? e=some i)(h3:i.zero=some z)(h4:i.size=size)(h5:i.bytes=bytes)(h6:z.cells.size=size)(h7:0<size)v n X(hs:a.eval s=v)(I:w.ownsRow base e size v n X)O m c D(hx:a.eval x= slice (some O) m c)(hn:D.length=m*size)(hc:∀j u,D[j]? =some u->w.cell? (O.add j)=some u)(R:∀u∈D,u.oneCell'=true)(hm:0<m)(Y:n+m<=maxLen)(Z:(n+m)*bytes<=140737488355328)(G:base<=w.heap.size)(hK:∀g F w',w'.ownsRow base e size (slice (some ⟨g,0,none⟩) (n+m) F) (n+m) (X++D)->w.grownBy w' v.ownBlock->K (a.put o.dst (slice (some ⟨g,0,none⟩) (n+m) F)) w'):
 if Region.wanted o (yielded J a.tmps)=true then Oper.wp P o a w K Q else E:=by
 have hw:Region.wanted o (yielded J a.tmps)=true:=by simp[Region.wanted,hg]
 rw[aq hw];have⟨v',w',hrun,r1,r2,_⟩:=run_append_own (P:=P) w base t o.type e i z size bytes h1 h2 h3 h4 h5 h6 h7 v n X I O m c D hn hc R Y Z G;obtain⟨g,F,rfl⟩:=jn r1 oQ;unfold Oper.wp;simp[execOp,U,resolve,invoke,builtin,hs,hx,hrun,Result.andThen];exact hK g F w' r1 r2
theorem bC{w:World}{base}{e}{size}{v}{n}{F}(h:w.ownsRow base e size v n F){k}(hk:v.ownBlock=some k):
 ∃D,w.heap[k]? =some (cells D e (0,0)):=by
 rcases h.2 with⟨rfl,_⟩|⟨g,E,D,rfl,_,G,_⟩
 ·simp[Value.ownBlock]at hk
 simp[Value.ownBlock]at hk;simp_all
theorem aZ{w:World}{base}{e}{size}{v}{n}{D}(h:w.ownsRow base e size v n D){b}{c}{T}{f}(hb:w.heap[b]? =some (cells c T f))(E:e≠T):v.ownBlock≠some b:=by
 grind[bC]
theorem cJ{w:World}{base}{D}{e}{G}{size}{E}{v}{I}{n}{J}{O}{F}(h:w.ownsRow base e size v n O)(Q:w.ownsRow D G E I J F)(R:e≠G):∀k,v.ownBlock=some k->I.ownBlock≠some k:=by
 grind[bC,aZ]
theorem cH{w:World}{base}{D}{e}{size}{v}{n}{G}(h:w.ownsRow base e size v n G)(hb:D<=base):w.ownsRow D e size v n G:=by
 refine⟨h.1,?_⟩;rcases h.2 with h|⟨g,E,F,J,I,r⟩
 ·simp_all
 exact inr ⟨g,E,F,J,bz hb I,r⟩
theorem ox(w:World)x y T:∀j u,[x,y][j]? =some u->(w.alloc (cells #[x,y] T)).cell? ((⟨w.heap.size,0,none⟩:Addr).add j)=some u:=by
 intro j u D;match j,D with
 |0,D=>simp at D;subst D;simp[Addr.add]
 |1,D=>simp at D;subst D;simp[Addr.add]
def jq(l:List Ch.Us):List Value:=l.flatMap λa=>[int .u8 a.name,int i64 a.pos]
theorem Fy l a:jq (l++[a])=jq l++[int .u8 a.name,int i64 a.pos]:=by simp[jq]
theorem VH:(prog.info? 242).map (λi=>(i.zero,i.size,i.bytes))=some (some (agg #[int .u8 0,int i64 0]),2,16):=bZ
def Ch.pw(c:Int):Bool:=c==46||Ch.ez c||Ch.eW c
def Ch.pX(c:Int):Bool:=c==45||Ch.eW c
def Ch.eI(c:Int)(p:Nat)(us:List Ch.Us):List Ch.Us:=if Ch.eW c then us++[⟨c,p⟩]else us
section
variable (B b:Nat) (t:ByteArray) (p:Nat) (e f sv tv bv uv:Value) (w:World)
theorem kY c us(h:eF w b t p e f sv tv bv uv)(X:w.ownsRow B 242 2 uv us.length (jq us))(hB:B<=w.heap.size)(hl:us.length<=1000):
 Calls prog 269 #[pointer (some ⟨b,0,none⟩),int .u8 c] w λx w'=>x=returned (tuple #[])/\∃F,eF w' b t p e f sv tv bv F/\
  w'.ownsRow B 242 2 F (Ch.eI c p us).length (jq (Ch.eI c p us))/\Kp (λk=>k=b\/uv.ownBlock=some k) w w':=by
 cases G:Ch.eW c with
 |false=>
  have J:=ag (show Ch.eI c p us=us by simp[Ch.eI,G]);have E:=ag (kX c w);rw[G]at E;go_enter func269,ntmps269;go_wp;refine cF E ?_;go_wp2;go_end0
  exact⟨rfl,uv,h,by rw[J];exact X,Kp.refl _ _⟩
 |true=>?_
 have J:=ag (show Ch.eI c p us=us++[⟨c,p⟩]by simp[Ch.eI,G]);have E:=ag (kX c w);rw[G]at E;have⟨i0,hi,hz0,hz1,hz2⟩:=cr VH;have c1:=h.pos;have c7:=h.c7;have aa:=λo=>(h.alloc o).c7;have f7:=h.free 7;have U:=ag (aZ X h (by decide));have H:=bw h X;go_enter func269,ntmps269;go_wp;refine hm E ?_;rintro x Y ⟨rfl,rfl⟩;go_wp2;go_region_law (refine jf rfl (tmp 10) (tmp 17) 141 rfl B 242 i0 (agg #[int .u8 0,int i64 0]) 2 16 underlying141 hi hz0 hz1 hz2 rfl (by decide) uv us.length (jq us) (by simp[Act.eval]) (by exact H.2.alloc _) ⟨Y.heap.size,0,none⟩ 1 1 [int .u8 c,int i64 p] (by simp[Act.eval]) rfl (by exact ox _ _ _ _) (by intro u hu;simp at hu;rcases hu with rfl|rfl<;>rfl) (by decide) (by unfold maxLen;omega) (by omega) (by simp;omega) ?_;intro g Q Z I g2;have D:eF Z b t p e f sv tv bv uv:=eF.grown (by exact H.1.alloc (cells #[int .u8 c,int i64 p] 242)) g2 U;have O:Kp (λk=>k=b\/uv.ownBlock=some k) Y Z:=Kp.grown (by exact((Kp.refl _ _).alloc (cells #[int .u8 c,int i64 p] 242)).drew) g2 (λk hk _=>Or.inr hk);have x1:=D.c7;have x2:=D.free 7;have H2:=c_ D I O)
 all_goals
  have⟨D,I,O⟩:=H2;have R:=aZ I D (by decide);go_end0
  refine⟨rfl,_,D.adT _,?_,O.setCell (by intro _;exact Or.inl rfl) _⟩;rw[J,Fy];have o3:=nh I (a:=⟨b,7,none⟩) R (slice (some ⟨g,0,none⟩) (us.length+1) Q);simpa using o3
theorem rS us(h:eF w b t p e f sv tv bv uv)(ho:w.ownsRow B 242 2 uv us.length (jq us))(hB:B<=w.heap.size)(hl:us.length<=1000)(hp:p<=1000):
 Calls prog 249 #[pointer (some ⟨b,0,none⟩)] w λx w'=>x=returned (bool (Ch.pw (Ch.af t p)))/\∃D,eF w' b t (Ch.dI (Ch.pw (Ch.af t p)) p) e f sv tv bv D/\
  w'.ownsRow B 242 2 D (Ch.eI (Ch.af t p) p us).length (jq (Ch.eI (Ch.af t p) p us))/\Kp (λk=>k=b\/uv.ownBlock=some k) w w':=by
 have Z:=ag (bL b t p w h.text h.pos);generalize Ch.af t p=c at Z⊢;cases q1:c==46 with
 |true=>
  rw[show Ch.pw c=true by simp[Ch.pw,q1]];go_in;go_wp2_with fail;refine b9 Z ?_;rintro w1 ⟨I,rfl⟩;go_wp2_with fail;refine(kY B b t p e f sv tv bv uv _ c us (h.drewN I) (by exact ho) (by exact hB) hl).mono ?_;rintro x X ⟨rfl,D,G,J,E⟩;have E:=((Kp.refl _ _).drewN I).trans E;go_wp2_with fail;refine(jQ b t p e f sv tv bv D X _ G hp).mono ?_;rintro x w3 ⟨rfl,R,F⟩;have U:=F.owns J (λk hk e=>by subst e;exact aZ J G aV hk);have Q:=E.trans' F (λi _ e=>Or.inl e);go_wp2;go_ret;exact⟨rfl,D,R,U,Q⟩
 |false=>?_
 cases Y:Ch.ez c with
 |true=>
  rw[show Ch.pw c=true by simp[Ch.pw,q1,Y]];go_in;go_wp2_with fail;refine b9 Z ?_;rintro w1 ⟨I,rfl⟩;go_wp2_with fail;refine(kY B b t p e f sv tv bv uv _ c us (h.drewN I) (by exact ho) (by exact hB) hl).mono ?_;rintro x X ⟨rfl,D,G,J,E⟩;have E:=((Kp.refl _ _).drewN I).trans E;go_wp2_with fail;have O:=kW c X;rw[Y]at O;refine O.mono ?_;rintro x w9 ⟨rfl,rfl⟩;go_wp2_with fail;refine(jQ b t p e f sv tv bv D w9 _ G hp).mono ?_;rintro x w3 ⟨rfl,R,F⟩;have U:=F.owns J (λk hk e=>by subst e;exact aZ J G aV hk);have Q:=E.trans' F (λi _ e=>Or.inl e);go_wp2;go_ret;exact⟨rfl,D,R,U,Q⟩
 |false=>?_
 cases q3:Ch.eW c with
 |true=>
  rw[show Ch.pw c=true by simp[Ch.pw,q1,Y,q3]];go_in;go_wp2_with fail;refine b9 Z ?_;rintro w1 ⟨I,rfl⟩;go_wp2_with fail;refine(kY B b t p e f sv tv bv uv _ c us (h.drewN I) (by exact ho) (by exact hB) hl).mono ?_;rintro x X ⟨rfl,D,G,J,E⟩;have E:=((Kp.refl _ _).drewN I).trans E;go_wp2_with fail;have O:=kW c X;rw[Y]at O;refine O.mono ?_;rintro x w9 ⟨rfl,rfl⟩;go_wp2_with fail;have E3:=kX c w9;rw[q3]at E3;refine E3.mono ?_;rintro x w8 ⟨rfl,rfl⟩;go_wp2_with fail;refine(jQ b t p e f sv tv bv D w8 _ G hp).mono ?_;rintro x w3 ⟨rfl,R,F⟩;have U:=F.owns J (λk hk e=>by subst e;exact aZ J G aV hk);have Q:=E.trans' F (λi _ e=>Or.inl e);go_wp2;go_ret;exact⟨rfl,D,R,U,Q⟩
 |false=>?_
 rw[show Ch.pw c=false by simp[Ch.pw,q1,Y,q3]];go_in;go_wp2_with fail;refine b9 Z ?_;rintro w1 ⟨I,rfl⟩;go_wp2_with fail;refine(kY B b t p e f sv tv bv uv _ c us (h.drewN I) (by exact ho) (by exact hB) hl).mono ?_;rintro x X ⟨rfl,D,G,J,E⟩;have E:=((Kp.refl _ _).drewN I).trans E;go_wp2_with fail;have O:=kW c X;rw[Y]at O;refine O.mono ?_;rintro x w9 ⟨rfl,rfl⟩;go_wp2_with fail;have E3:=kX c w9;rw[q3]at E3;refine E3.mono ?_;rintro x w8 ⟨rfl,rfl⟩;go_wp2_with fail;refine(jQ b t p e f sv tv bv D w8 _ G hp).mono ?_;rintro x w3 ⟨rfl,R,F⟩;have U:=F.owns J (λk hk e=>by subst e;exact aZ J G aV hk);have Q:=E.trans' F (λi _ e=>Or.inl e);go_wp2;go_ret;exact⟨rfl,D,R,U,Q⟩
theorem KY us(h:eF w b t p e f sv tv bv uv)(ho:w.ownsRow B 242 2 uv us.length (jq us))(hB:B<=w.heap.size)(hl:us.length<=1000)(hp:p<=1000):
 Calls prog 252 #[pointer (some ⟨b,0,none⟩)] w λx w'=>x=returned (bool (Ch.pX (Ch.af t p)))/\∃D,eF w' b t (Ch.dI (Ch.pX (Ch.af t p)) p) e f sv tv bv D/\
  w'.ownsRow B 242 2 D (Ch.eI (Ch.af t p) p us).length (jq (Ch.eI (Ch.af t p) p us))/\Kp (λk=>k=b\/uv.ownBlock=some k) w w':=by
 have Y:=ag (bL b t p w h.text h.pos);generalize Ch.af t p=c at Y⊢;cases q1:c==45 with
 |true=>
  rw[show Ch.pX c=true by simp[Ch.pX,q1]];go_in;go_wp2_with fail;refine b9 Y ?_;rintro w1 ⟨I,rfl⟩;go_wp2_with fail;refine(kY B b t p e f sv tv bv uv _ c us (h.drewN I) (by exact ho) (by exact hB) hl).mono ?_;rintro x X ⟨rfl,D,G,J,E⟩;have E:=((Kp.refl _ _).drewN I).trans E;go_wp2_with fail;refine(jQ b t p e f sv tv bv D X _ G hp).mono ?_;rintro x w3 ⟨rfl,R,F⟩;have U:=F.owns J (λk hk e=>by subst e;exact aZ J G aV hk);have Q:=E.trans' F (λi _ e=>Or.inl e);go_wp2;go_ret;exact⟨rfl,D,R,U,Q⟩
 |false=>?_
 cases Z:Ch.eW c with
 |true=>
  rw[show Ch.pX c=true by simp[Ch.pX,q1,Z]];go_in;go_wp2_with fail;refine b9 Y ?_;rintro w1 ⟨I,rfl⟩;go_wp2_with fail;refine(kY B b t p e f sv tv bv uv _ c us (h.drewN I) (by exact ho) (by exact hB) hl).mono ?_;rintro x X ⟨rfl,D,G,J,E⟩;have E:=((Kp.refl _ _).drewN I).trans E;go_wp2_with fail;have O:=kX c X;rw[Z]at O;refine O.mono ?_;rintro x w8 ⟨rfl,rfl⟩;go_wp2_with fail;refine(jQ b t p e f sv tv bv D w8 _ G hp).mono ?_;rintro x w3 ⟨rfl,R,F⟩;have U:=F.owns J (λk hk e=>by subst e;exact aZ J G aV hk);have Q:=E.trans' F (λi _ e=>Or.inl e);go_wp2;go_ret;exact⟨rfl,D,R,U,Q⟩
 |false=>?_
 rw[show Ch.pX c=false by simp[Ch.pX,q1,Z]];go_in;go_wp2_with fail;refine b9 Y ?_;rintro w1 ⟨I,rfl⟩;go_wp2_with fail;refine(kY B b t p e f sv tv bv uv _ c us (h.drewN I) (by exact ho) (by exact hB) hl).mono ?_;rintro x X ⟨rfl,D,G,J,E⟩;have E:=((Kp.refl _ _).drewN I).trans E;go_wp2_with fail;have O:=kX c X;rw[Z]at O;refine O.mono ?_;rintro x w8 ⟨rfl,rfl⟩;go_wp21;refine(jQ b t p e f sv tv bv D w8 _ G hp).mono ?_;rintro x w3 ⟨rfl,R,F⟩;have U:=F.owns J (λk hk e=>by subst e;exact aZ J G aV hk);have Q:=E.trans' F (λi _ e=>Or.inl e);go_wp2;go_ret;exact⟨rfl,D,R,U,Q⟩
end
def rT(w:World)(tb:Nat)(s tg:Int)(g:Ch.Gd)(ac:Value)(ta:Int):Prop:=
 w.heap[tb]? =some (cells #[int i64 s,int .u8 tg,int .u8 g.var,int .u8 g.sign,int i64 g.digit,ac,int .u8 ta] 209 (0,0))
section
variable {w:World} {tb:Nat} {s tg:Int} {g:Ch.Gd} {ac:Value} {ta:Int}
theorem rT.cell(h:rT w tb s tg g ac ta)i:w.cell? ⟨tb,i,none⟩= #[int i64 s,int .u8 tg,int .u8 g.var,int .u8 g.sign,int i64 g.digit,ac,int .u8 ta][i]?:=by unfold rT at h;simp[World.cell?,h]
theorem rT.free(h:rT w tb s tg g ac ta)i:w.frozen? ⟨tb,i,none⟩=false:=by unfold rT at h;simp[World.frozen?,h]
theorem rT.Br(h:rT w tb s tg g ac ta)x:rT (w.setCell ⟨tb,2,none⟩ (int .u8 x)) tb s tg {g with var:=x} ac ta:=by unfold rT at*;rw[ar _ h];rfl
theorem rT.Yt(h:rT w tb s tg g ac ta)x:rT (w.setCell ⟨tb,3,none⟩ (int .u8 x)) tb s tg {g with sign:=x} ac ta:=by unfold rT at*;rw[ar _ h];rfl
theorem rT.Ys(h:rT w tb s tg g ac ta)x:rT (w.setCell ⟨tb,4,none⟩ (int i64 x)) tb s tg {g with digit:=x} ac ta:=by unfold rT at*;rw[ar _ h];rfl
theorem rT.y8(h:rT w tb s tg g ac ta)x:rT (w.setCell ⟨tb,5,none⟩ x) tb s tg g x ta:=by unfold rT at*;rw[ar _ h];rfl
theorem rT.Bq(h:rT w tb s tg g ac ta)x:rT (w.setCell ⟨tb,6,none⟩ (int .u8 x)) tb s tg g ac x:=by unfold rT at*;rw[ar _ h];rfl
theorem rT.aB{S w'}(h:rT w tb s tg g ac ta)(k:Kp S w w')(hs:¬S tb):rT w' tb s tg g ac ta:=Kp.at_ k h hs
theorem rT.drewN(h:rT w tb s tg g ac ta)n:rT (w.drewN n) tb s tg g ac ta:=h
theorem rT.lt(h:rT w tb s tg g ac ta):tb<w.heap.size:=aR h
theorem rT.ne{b t p e f sv tv bv uv}(h:rT w tb s tg g ac ta)(k:eF w b t p e f sv tv bv uv):tb≠b:=by
 grind[rT,eF]
end
theorem eF.Az{w b t p e f sv tv bv uv}(h:eF w b t p e f sv tv bv uv){k}(hk:k≠b)o v:
 eF (w.setCell ⟨k,o,none⟩ v) b t p e f sv tv bv uv:=h.aB (S:=λi=>i=k) ((Kp.refl _ _).setCell jF _) (j6 hk)
def Ch.sx(c:Int):Bool:=c==60||c==61||c==62
theorem Ch.K_ c:((c==60)=true/\Ch.sx c=true)\/((c==60)=false/\(c==61)=true/\Ch.sx c=true)\/
 ((c==60)=false/\(c==61)=false/\(c==62)=true/\Ch.sx c=true)\/((c==60)=false/\(c==61)=false/\(c==62)=false/\Ch.sx c=false):=by
 grind[Ch.sx]
def Ch.guard(t:ByteArray)(p:Nat)(g:Ch.Gd):Bool×Ch.Gd×Nat:=
 if Ch.af t p==63 then
  if Ch.kF (Ch.af t (p+1))then
   if Ch.sx (Ch.af t (p+2))then
    (Ch.jy 48 (Ch.af t (p+3)),⟨Ch.af t (p+1),Ch.af t (p+2),Ch.af t (p+3)-48⟩,Ch.dI (Ch.jy 48 (Ch.af t (p+3))) (p+3))
   else(false,{g with var:=Ch.af t (p+1),sign:=Ch.af t (p+2)},p+2)
  else(false,{g with var:=Ch.af t (p+1)},p+1)
 else(true,g,p)
theorem Ch.vm{t p}g(G:p<=t.size):p<=(Ch.guard t p g).2.2/\(Ch.guard t p g).2.2<=t.size:=by
 unfold Ch.guard;split
 ·rename_i D;have I:=Ch.eo aV D;split
  ·rename_i E;have J:=Ch.om E;split
   ·rename_i F;have O:p+2<t.size:=by
     grind[Ch.dS,Ch.sx]
    have Q:=Ch.kV (t:=t) (ok:=Ch.jy 48 (Ch.af t (p+3))) (p:=p+3) oQ (Ch.qQ oQ);grind[Ch.oh,Ch.jy,Ch.af,Ch.dI]
   grind
  grind
 simp_all
theorem y_ b tb t p s tg ta g ac e f sv tv bv uv w(h:eF w b t p e f sv tv bv uv)(T:rT w tb s tg g ac ta)(hp:p<=900):
 Calls prog 250 #[pointer (some ⟨b,0,none⟩),pointer (some ⟨tb,2,none⟩)] w λx w'=>x=returned (bool (Ch.guard t p g).1)/\
  eF w' b t (Ch.guard t p g).2.2 e f sv tv bv uv/\rT w' tb s tg (Ch.guard t p g).2.1 ac ta/\Kp (λk=>k=b\/k=tb) w w':=by
 have D:=T.ne h;have Kt:∀w',Kp (λk=>k=b) w w'->rT w' tb s tg g ac ta:=λw' k=>T.aB k D;have E:=ag (s8 b t p e f sv tv bv uv w 63 h oQ);cases q0:Ch.af t p==63 with
 |false=>
  rw[show Ch.guard t p g=(true,g,p)by simp[Ch.guard,q0]];rw[q0]at E;go_in;go_wp2_with fail;refine b9 E ?_;rintro X ⟨J,F⟩;have T1:=T.aB F D;have K1:Kp (λk=>k=b\/k=tb) w X:=F.mono (λ_ _ x=>Or.inl x);go_wp2;go_ret;exact⟨rfl,J,T1,K1⟩
 |true=>?_
 rw[q0]at E;cases q1:Ch.kF (Ch.af t (p+1))with
 |false=>
  rw[show Ch.guard t p g=(false,{g with var:=Ch.af t (p+1)},p+1)by simp[Ch.guard,q0,q1]];have q1:=ag q1;go_in;go_wp2_with fail;refine b9 E ?_;rintro X ⟨J,F⟩;have T1:=T.aB F D;have K1:Kp (λk=>k=b\/k=tb) w X:=F.mono (λ_ _ x=>Or.inl x);have J:eF X b t (p+1) e f sv tv bv uv:=J;go_wp2_with fail;refine(bL b t (p+1) _ J.text J.pos).mono ?_;rintro x wx ⟨rfl,G,rfl⟩;have Q:=J.drewN G;have I:=T1.drewN G;have O:=K1.drewN G;generalize X.drewN G=w2 at Q I O⊢;have Z:=I.cell 2;have ff:=I.free 2;simp only[gX,ir,iu]at Z;have Y:=c_ Q I O;go_wp2_with fail;have⟨Q,I,O⟩:=Y;have h3:=Q.Az D 2 (int .u8 (Ch.af t (p+1)));have T3:=I.Br (Ch.af t (p+1));have K3:Kp _ _ (w2.setCell ⟨tb,2,none⟩ (int .u8 (Ch.af t (p+1)))):=O.setCell RH _;generalize w2.setCell ⟨tb,2,none⟩ (int .u8 (Ch.af t (p+1)))=w3 at h3 T3 K3⊢;go_wp2_with fail;have E:=jR b t (p+1) e f sv tv bv uv w3 h3 oQ;rw[q1]at E;refine bI E ?_;rintro x w4 ⟨rfl,U,F⟩;have T4:=T3.aB F D;have K4:=K3.trans' F (λ_ _ x=>Or.inl x);go_wp2;go_ret;exact⟨rfl,U,T4,K4⟩
 |true=>?_
 have q1:=ag q1;rcases Ch.K_ (Ch.af t (p+2))with⟨b1,q2⟩|⟨b1,b2,q2⟩|⟨b1,b2,b3,q2⟩|⟨b1,b2,b3,q2⟩
 case inr.inr.inr=>
  rw[show Ch.guard t p g=(false,{g with var:=Ch.af t (p+1),sign:=Ch.af t (p+2)},p+2)by simp[Ch.guard,q0,q1.out,q2]];go_in;go_wp2_with fail;refine b9 E ?_;rintro X ⟨J,F⟩;have T1:=T.aB F D;have K1:Kp (λk=>k=b\/k=tb) w X:=F.mono (λ_ _ x=>Or.inl x);have J:eF X b t (p+1) e f sv tv bv uv:=J;go_wp2_with fail;refine(bL b t (p+1) _ J.text J.pos).mono ?_;rintro x wx ⟨rfl,G,rfl⟩;have Q:=J.drewN G;have I:=T1.drewN G;have O:=K1.drewN G;generalize X.drewN G=w2 at Q I O⊢;have Z:=I.cell 2;have ff:=I.free 2;simp only[gX,ir,iu]at Z;have Y:=c_ Q I O;go_wp2_with fail;have⟨Q,I,O⟩:=Y;have h3:=Q.Az D 2 (int .u8 (Ch.af t (p+1)));have T3:=I.Br (Ch.af t (p+1));have K3:Kp _ _ (w2.setCell ⟨tb,2,none⟩ (int .u8 (Ch.af t (p+1)))):=O.setCell RH _;generalize w2.setCell ⟨tb,2,none⟩ (int .u8 (Ch.af t (p+1)))=w3 at h3 T3 K3⊢;go_wp2_with fail;have E:=jR b t (p+1) e f sv tv bv uv w3 h3 oQ;rw[q1]at E;refine bI E ?_;rintro x w4 ⟨rfl,U,F⟩;have T4:=T3.aB F D;have K4:=K3.trans' F (λ_ _ x=>Or.inl x);have U:eF w4 b t (p+2) e f sv tv bv uv:=U;go_wp2_with fail;refine(bL b t (p+2) _ U.text U.pos).mono ?_;rintro x wx ⟨rfl,G,rfl⟩;have h5:=U.drewN G;have R:=T4.drewN G;have K5:=K4.drewN G;generalize w4.drewN G=w5 at h5 R K5⊢;have Z:=R.cell 3;have ff:=R.free 3;simp only[gX,ir,iu]at Z;have Y:=c_ h5 R K5;go_wp2_with fail;have⟨h5,R,K5⟩:=Y;have h6:=h5.Az D 3 (int .u8 (Ch.af t (p+2)));have T6:=R.Yt (Ch.af t (p+2));have K6:Kp _ _ (w5.setCell ⟨tb,3,none⟩ (int .u8 (Ch.af t (p+2)))):=K5.setCell RH _;generalize w5.setCell ⟨tb,3,none⟩ (int .u8 (Ch.af t (p+2)))=w6 at h6 T6 K6⊢;refine(jQ b t (p+2) e f sv tv bv uv w6 _ h6 oQ).mono ?_;rintro x w7 ⟨rfl,h7,F⟩;have T7:=T6.aB F D;have K7:=K6.trans' F (λ_ _ x=>Or.inl x);go_wp2;go_ret;exact⟨rfl,h7,T7,K7⟩
 all_goals
  rw[show Ch.guard t p g=(Ch.jy 48 (Ch.af t (p+3)),⟨Ch.af t (p+1),Ch.af t (p+2),Ch.af t (p+3)-48⟩,Ch.dI (Ch.jy 48 (Ch.af t (p+3))) (p+3))by simp[Ch.guard,q0,q1.out,q2]];go_in;go_wp2_with fail;refine b9 E ?_;rintro X ⟨J,F⟩;have T1:=T.aB F D;have K1:Kp (λk=>k=b\/k=tb) w X:=F.mono (λ_ _ x=>Or.inl x);have J:eF X b t (p+1) e f sv tv bv uv:=J;go_wp2_with fail;refine(bL b t (p+1) _ J.text J.pos).mono ?_;rintro x wx ⟨rfl,G,rfl⟩;have Q:=J.drewN G;have I:=T1.drewN G;have O:=K1.drewN G;generalize X.drewN G=w2 at Q I O⊢;have Z:=I.cell 2;have ff:=I.free 2;simp only[gX,ir,iu]at Z;have Y:=c_ Q I O;go_wp2_with fail;have⟨Q,I,O⟩:=Y;have h3:=Q.Az D 2 (int .u8 (Ch.af t (p+1)));have T3:=I.Br (Ch.af t (p+1));have K3:Kp _ _ (w2.setCell ⟨tb,2,none⟩ (int .u8 (Ch.af t (p+1)))):=O.setCell RH _;generalize w2.setCell ⟨tb,2,none⟩ (int .u8 (Ch.af t (p+1)))=w3 at h3 T3 K3⊢;go_wp2_with fail;have E:=jR b t (p+1) e f sv tv bv uv w3 h3 oQ;rw[q1]at E;refine bI E ?_;rintro x w4 ⟨rfl,U,F⟩;have T4:=T3.aB F D;have K4:=K3.trans' F (λ_ _ x=>Or.inl x);have U:eF w4 b t (p+2) e f sv tv bv uv:=U;go_wp2_with fail;refine(bL b t (p+2) _ U.text U.pos).mono ?_;rintro x wx ⟨rfl,G,rfl⟩;have h5:=U.drewN G;have R:=T4.drewN G;have K5:=K4.drewN G;generalize w4.drewN G=w5 at h5 R K5⊢;have Z:=R.cell 3;have ff:=R.free 3;simp only[gX,ir,iu]at Z;have Y:=c_ h5 R K5;go_wp2_with fail;have⟨h5,R,K5⟩:=Y;have h6:=h5.Az D 3 (int .u8 (Ch.af t (p+2)));have T6:=R.Yt (Ch.af t (p+2));have K6:Kp _ _ (w5.setCell ⟨tb,3,none⟩ (int .u8 (Ch.af t (p+2)))):=K5.setCell RH _;generalize w5.setCell ⟨tb,3,none⟩ (int .u8 (Ch.af t (p+2)))=w6 at h6 T6 K6⊢;refine(jQ b t (p+2) e f sv tv bv uv w6 _ h6 oQ).mono ?_;rintro x w7 ⟨rfl,h7,F⟩;have T7:=T6.aB F D;have K7:=K6.trans' F (λ_ _ x=>Or.inl x);have h7:eF w7 b t (p+3) e f sv tv bv uv:=h7;go_wp2_with fail;refine(sw b t (p+3) _ h7.text h7.pos).mono ?_;rintro x wx ⟨rfl,G,rfl⟩;have h8:=h7.drewN G;have T8:=T7.drewN G;have K8:=K7.drewN G;generalize w7.drewN G=w8 at h8 T8 K8⊢;have Z:=T8.cell 4;have ff:=T8.free 4;simp only[gX,ir,iu]at Z;have Y:=c_ h8 T8 K8;go_wp2_with fail;have⟨h8,T8,K8⟩:=Y;have h9:=h8.Az D 4 (int i64 (Ch.af t (p+3)-48));have T9:=T8.Ys (Ch.af t (p+3)-48);have K9:Kp _ _ (w8.setCell ⟨tb,4,none⟩ (int i64 (Ch.af t (p+3)-48))):=K8.setCell RH _;generalize w8.setCell ⟨tb,4,none⟩ (int i64 (Ch.af t (p+3)-48))=w9 at h9 T9 K9⊢;refine(su b t (p+3) e f sv tv bv uv w9 48 h9 oQ).mono ?_;rintro x wz ⟨rfl,hz,F⟩;have Tz:=T9.aB F D;have Kz:=K9.trans' F (λ_ _ x=>Or.inl x);go_wp2;go_ret;exact⟨rfl,hz,Tz,Kz⟩
def gU(l:List Ch.St):List Value:=l.flatMap λa=>[int .u8 a.name,int i64 a.pos,int i64 a.kind,int i64 a.parent]
def uk(l:List (Ch.Tr×Value)):List Value:=l.flatMap λx=>[int i64 x.1.state,int .u8 x.1.uh,int .u8 x.1.guard.var,int .u8 x.1.guard.sign,int i64 x.1.guard.digit,x.2,int .u8 x.1.target]
def um(l:List (Ch.Bl×Value)):List Value:=l.flatMap λx=>[int i64 x.1.state,int .u8 x.1.sign,x.2]
theorem Fz l a:gU (l++[a])=gU l++[int .u8 a.name,int i64 a.pos,int i64 a.kind,int i64 a.parent]:=by simp[gU]
theorem FB l x:uk (l++[x])=uk l++[int i64 x.1.state,int .u8 x.1.uh,int .u8 x.1.guard.var,int .u8 x.1.guard.sign,int i64 x.1.guard.digit,x.2,int .u8 x.1.target]:=by simp[uk]
theorem FC l x:um (l++[x])=um l++[int i64 x.1.state,int .u8 x.1.sign,x.2]:=by simp[um]
structure DZ(w:World)(B b:Nat)(t:ByteArray)(r:Ch.Rs)(sv tv bv uv:Value)(lt:List (Ch.Tr×Value))(lb:List (Ch.Bl×Value)):Prop where
 cj:eF w b t r.pos (int i64 0) (int i64 0) sv tv bv uv
 ah:w.ownsRow B 155 4 sv r.ah.length (gU r.ah)
 G8:lt.map (·.1)=r.dF
 dF:w.ownsRow B 209 7 tv lt.length (uk lt)
 kZ:∀x∈lt,w.ownsRow B 255 3 x.2 x.1.bM.length (iW x.1.bM)
 Kj:lb.map (·.1)=r.fH
 fH:w.ownsRow B 282 3 bv lb.length (um lb)
 uo:∀x∈lb,w.ownsRow B 255 3 x.2 x.1.bM.length (iW x.1.bM)
 dH:w.ownsRow B 242 2 uv r.dH.length (jq r.dH)
 hb:B<=b
section
variable {w w':World} {B b:Nat} {t:ByteArray} {r:Ch.Rs} {sv tv bv uv:Value} {lt:List (Ch.Tr×Value)} {lb:List (Ch.Bl×Value)} {S:Nat->Prop}
theorem DZ.move(h:DZ w B b t r sv tv bv uv lt lb)(k:Kp S w w')(G:∀i,i<w.heap.size->S i->i=b){p}(hb:eF w' b t p (int i64 0) (int i64 0) sv tv bv uv):
 DZ w' B b t {r with pos:=p} sv tv bv uv lt lb:=by
 have D:∀{base e size v n F},w.ownsRow base e size v n F->e≠143->∀i,v.ownBlock=some i->¬S i:=by
  intro base e size v n F E he i hi hs;have⟨cur,hc⟩:=bC E hi;have:=G i (aR hc) hs;subst this;exact aZ E h.cj he hi
 exact⟨hb,k.owns h.ah (D h.ah aV),h.G8,k.owns h.dF (D h.dF aV),λx hx=>k.owns (h.kZ x hx) (D (h.kZ x hx) aV),
  h.Kj,k.owns h.fH (D h.fH aV),λx hx=>k.owns (h.uo x hx) (D (h.uo x hx) aV),k.owns h.dH (D h.dH aV),h.hb⟩
theorem DZ.Hk(h:DZ w B b t r sv tv bv uv lt lb)(k:Kp S w w')(J:∀i,i<w.heap.size->S i->i=b\/uv.ownBlock=some i){p}{F}{us}(hb:eF w' b t p (int i64 0) (int i64 0) sv tv bv F)(G:w'.ownsRow B 242 2 F us.length (jq us)):
 DZ w' B b t {r with pos:=p,dH:=us} sv tv bv F lt lb:=by
 have D:∀{base e size v n I},w.ownsRow base e size v n I->e≠143->e≠242->∀i,v.ownBlock=some i->¬S i:=by
  intro base e size v n I G he hu i hi hs;have⟨cur,hc⟩:=bC G hi;rcases J i (aR hc) hs with rfl|E
  ·exact aZ G h.cj he hi
  exact cJ G h.dH hu i hi E
 exact⟨hb,k.owns h.ah (D h.ah aV aV),h.G8,k.owns h.dF (D h.dF aV aV),λx E=>k.owns (h.kZ x E) (D (h.kZ x E) aV aV),
  h.Kj,k.owns h.fH (D h.fH aV aV),λx E=>k.owns (h.uo x E) (D (h.uo x E) aV aV),G,h.hb⟩
theorem DZ.adV(h:DZ w B b t r sv tv bv uv lt lb)(k:Kp S w w')(O:∀i,i<w.heap.size->S i->i=b\/tv.ownBlock=some i){E}{x}(hb:eF w' b t r.pos (int i64 0) (int i64 0) sv E bv uv)(F:w'.ownsRow B 209 7 E (lt++[x]).length (uk (lt++[x])))(Q:w'.ownsRow B 255 3 x.2 x.1.bM.length (iW x.1.bM)):
 DZ w' B b t {r with dF:=r.dF++[x.1]} sv E bv uv (lt++[x]) lb:=by
 have D:∀{base e size v n J},w.ownsRow base e size v n J->e≠143->e≠209->∀i,v.ownBlock=some i->¬S i:=by
  intro base e size v n J F he hu i hi hs;have⟨cur,hc⟩:=bC F hi;rcases O i (aR hc) hs with rfl|I
  ·exact aZ F h.cj he hi
  exact cJ F h.dF hu i hi I
 refine⟨hb,k.owns h.ah (D h.ah aV aV),by simp[h.G8],F,λy G=>?_,
  h.Kj,k.owns h.fH (D h.fH aV aV),λx I=>k.owns (h.uo x I) (D (h.uo x I) aV aV),k.owns h.dH (D h.dH aV aV),h.hb⟩
 rcases cS.1 G with G|G
 ·exact k.owns (h.kZ y G) (D (h.kZ y G) aV aV)
 simp_all
theorem DZ.adW(h:DZ w B b t r sv tv bv uv lt lb)(k:Kp S w w')(O:∀i,i<w.heap.size->S i->i=b\/bv.ownBlock=some i){E}{x}(hb:eF w' b t r.pos (int i64 0) (int i64 0) sv tv E uv)(F:w'.ownsRow B 282 3 E (lb++[x]).length (um (lb++[x])))(Q:w'.ownsRow B 255 3 x.2 x.1.bM.length (iW x.1.bM)):
 DZ w' B b t {r with fH:=r.fH++[x.1]} sv tv E uv lt (lb++[x]):=by
 have D:∀{base e size v n J},w.ownsRow base e size v n J->e≠143->e≠282->∀i,v.ownBlock=some i->¬S i:=by
  intro base e size v n J F he hu i hi hs;have⟨cur,hc⟩:=bC F hi;rcases O i (aR hc) hs with rfl|I
  ·exact aZ F h.cj he hi
  exact cJ F h.fH hu i hi I
 refine⟨hb,k.owns h.ah (D h.ah aV aV),h.G8,k.owns h.dF (D h.dF aV aV),λx I=>k.owns (h.kZ x I) (D (h.kZ x I) aV aV),
  by simp[h.Kj],F,λy G=>?_,k.owns h.dH (D h.dH aV aV),h.hb⟩
 rcases cS.1 G with G|G
 ·exact k.owns (h.uo y G) (D (h.uo y G) aV aV)
 simp_all
theorem DZ.aaL(h:DZ w B b t r sv tv bv uv lt lb)(k:Kp S w w')(J:∀i,i<w.heap.size->S i->i=b\/sv.ownBlock=some i){G}{ss}{p}(hb:eF w' b t p (int i64 0) (int i64 0) G tv bv uv)(F:w'.ownsRow B 155 4 G ss.length (gU ss)):
 DZ w' B b t {r with pos:=p,ah:=ss} G tv bv uv lt lb:=by
 have D:∀{base e size v n I},w.ownsRow base e size v n I->e≠143->e≠155->∀i,v.ownBlock=some i->¬S i:=by
  intro base e size v n I F he hu i hi hs;have⟨cur,hc⟩:=bC F hi;rcases J i (aR hc) hs with rfl|E
  ·exact aZ F h.cj he hi
  exact cJ F h.ah hu i hi E
 exact⟨hb,F,h.G8,k.owns h.dF (D h.dF aV aV),λx E=>k.owns (h.kZ x E) (D (h.kZ x E) aV aV),
  h.Kj,k.owns h.fH (D h.fH aV aV),λx E=>k.owns (h.uo x E) (D (h.uo x E) aV aV),k.owns h.dH (D h.dH aV aV),h.hb⟩
theorem DZ.low(h:DZ w B b t r sv tv bv uv lt lb){i}(hi:i=b\/sv.ownBlock=some i\/tv.ownBlock=some i\/bv.ownBlock=some i\/uv.ownBlock=some i):B<=i:=by
 rcases hi with rfl|hi|hi|hi|hi
 ·exact h.hb
 ·exact(h.ah.lt i hi).1
 ·exact(h.dF.lt i hi).1
 ·exact(h.fH.lt i hi).1
 exact(h.dH.lt i hi).1
theorem DZ.bV(h:DZ w B b t r sv tv bv uv lt lb):B<=w.heap.size:=by have:=h.hb;have:=h.cj.lt;omega
end
def Rd(w:World)(B b:Nat)(t:ByteArray)(r:Ch.Rs):Prop:=∃sv tv bv uv lt lb,DZ w B b t r sv tv bv uv lt lb
def Ch.Bd(r:Ch.Rs):Prop:=r.ah.length<=r.pos/\r.dF.length<=r.pos/\r.fH.length<=r.pos/\r.dH.length<=r.pos
