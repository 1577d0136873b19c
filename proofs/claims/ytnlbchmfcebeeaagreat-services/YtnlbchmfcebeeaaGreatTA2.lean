import Derived.Test.YtnlbchmfcebeeaaGreatTAl
import Derived.WalkKit
import Derived.WalkSpells
import Derived.Deep.Draws
import Derived.Test.YtnlbchmfcebeeaaGreatProg
import Derived.Deep.QuietTactic
import Derived.BigQuiet
import Derived.Deep.LoopGhost
import Derived.Deep.RegionLaw
set_option maxHeartbeats 12800000
set_option maxRecDepth 100000
namespace Go.Proofs.YtnlbchmfcebeeaaGreat
open Go.Proofs.Tryz
open Go.RowKit
namespace Ch
structure St where
 name:Int
 pos:Int
 kind:Int
 parent:Int
structure Ac where
 sign:Int
 aF:Int
 digit:Int
structure Gd where
 var:Int
 sign:Int
 digit:Int
structure Tr where
 state:Int
 qP:Int
 guard:Gd
 bD:List Ac
 target:Int
structure Bl where
 state:Int
 sign:Int
 bD:List Ac
structure Us where
 name:Int
 pos:Int
structure Rs where
 pos:Nat
 ai:List St
 cW:List Tr
 eR:List Bl
 cN:List Us
def ez(c:Int):Bool:=decide (97<=c)&&decide (c<=122)
def dS(c:Int):Bool:=decide (65<=c)&&decide (c<=90)
def jw(c:Int):Bool:=c==120||c==121||c==122
def iw(lo c:Int):Bool:=decide (lo<=c)&&decide (c<=57)
theorem Gn(c:Int):((c==120)=true/\jw c=true)\/((c==120)=false/\(c==121)=true/\jw c=true)\/
 ((c==120)=false/\(c==121)=false/\(c==122)=true/\jw c=true)\/((c==120)=false/\(c==121)=false/\(c==122)=false/\jw c=false):=by
 grind[jw]
theorem Gp(lo c:Int):(lo<=c/\c<=57/\iw lo c=true)\/(lo<=c/\decide (c<=57)=false/\iw lo c=false)\/(decide (lo<=c)=false/\iw lo c=false):=by
 grind[iw]
def ag(t:ByteArray)(p:Nat):Int:=if h:p<t.size then(t[p].toNat:Int)else 0
theorem QO(t:ByteArray)(p:Nat):0<=ag t p:=by unfold ag;split<;>omega
theorem I6(t:ByteArray)(p:Nat):ag t p<=255:=by
 unfold ag;split
 ·rename_i h;have:=t[p].toNat_lt;omega
 omega
def eH(c:Int):Int:=if c==91 then 3 else if c==60 then 4 else if c==42 then 5 else 1
def cL(ok:Bool)(p:Nat):Nat:=if ok then p+1 else p
def jn(t:ByteArray)(p:Nat)(a:Ac):Bool×Ac×Nat:=
 (ez (ag t (p+1)),{a with aF:=ag t (p+1)},cL (ez (ag t (p+1))) (p+1))
def mP(t:ByteArray)(lo:Int)(r:Bool×Ac×Nat):Bool×Ac×Nat:=
 if r.1 then(iw lo (ag t r.2.2),{r.2.1 with digit:=ag t r.2.2-48},cL (iw lo (ag t r.2.2)) r.2.2)else r
def j9(t:ByteArray)(p:Nat)(a:Ac):Bool×Ac×Nat:=
 (jw (ag t (p+1)),{a with aF:=ag t (p+1)},cL (jw (ag t (p+1))) (p+1))
def se(t:ByteArray)(p:Nat)(a:Ac):Bool×Ac×Nat:=mP t 49 (jn t p a)
def mQ(t:ByteArray)(p:Nat)(a:Ac):Bool×Ac×Nat:=mP t 48 (j9 t p a)
def act(t:ByteArray)(p:Nat)(a:Ac):Bool×Ac×Nat:=
 if a.sign==33||a.sign==126||a.sign==35 then jn t p a
 else if a.sign==64 then se t p a
 else if a.sign==43||a.sign==45||a.sign==61 then mQ t p a
 else(false,a,p)
theorem vW(ok:Bool)(p:Nat):cL ok p<=p+1:=by unfold cL;split<;>omega
theorem lM(ok:Bool)(p:Nat):p<=cL ok p:=by unfold cL;split<;>omega
theorem x8(t:ByteArray)(p:Nat)(a:Ac):p+1<=(jn t p a).2.2/\(jn t p a).2.2<=p+2:=by
 have D:=vW (ez (ag t (p+1))) (p+1);have E:=lM (ez (ag t (p+1))) (p+1);exact⟨E,D⟩
theorem AU(t:ByteArray)(p:Nat)(a:Ac):p+1<=(j9 t p a).2.2/\(j9 t p a).2.2<=p+2:=by
 have D:=vW (jw (ag t (p+1))) (p+1);have E:=lM (jw (ag t (p+1))) (p+1);exact⟨E,D⟩
theorem u2(t:ByteArray)(lo:Int)(r:Bool×Ac×Nat):r.2.2<=(mP t lo r).2.2/\(mP t lo r).2.2<=r.2.2+1:=by
 grind[mP,lM,vW]
theorem Ux(t:ByteArray)(p:Nat)(a:Ac):p<=(act t p a).2.2/\(act t p a).2.2<=p+3:=by
 have D:=x8 t p a;have E:=AU t p a;have F:=u2 t 49 (jn t p a);grind[u2,j9,act,se,mQ]
theorem cY{t:ByteArray}{p:Nat}(h:t.size<=p):ag t p=0:=by unfold ag;rw[dif_neg (by omega)]
theorem qQ{t:ByteArray}{p:Nat}(h:ez (ag t p)=true):p<t.size:=by
 grind[cY,ez]
theorem lN{t:ByteArray}{p:Nat}(h:jw (ag t p)=true):p<t.size:=by
 grind[cY,jw]
theorem lO{t:ByteArray}{p:Nat}(h:dS (ag t p)=true):p<t.size:=by
 grind[cY,dS]
theorem nZ{t:ByteArray}{lo:Int}{p:Nat}(D:1<=lo)(h:iw lo (ag t p)=true):p<t.size:=by
 grind[cY,iw]
theorem dy{t:ByteArray}{p:Nat}{c:Int}(D:c≠0)(h:(ag t p==c)=true):p<t.size:=by
 grind[cY]
theorem jJ{t:ByteArray}{ok:Bool}{p:Nat}(D:p<=t.size)(h:ok=true->p<t.size):cL ok p<=t.size:=by
 grind[cL]
theorem Gq{t:ByteArray}{p:Nat}(a:Ac)(D:p<t.size):(jn t p a).2.2<=t.size:=jJ (by omega) qQ
theorem Dm{t:ByteArray}{p:Nat}(a:Ac)(D:p<t.size):(j9 t p a).2.2<=t.size:=jJ (by omega) lN
theorem x_{t:ByteArray}{lo:Int}(D:1<=lo){r:Bool×Ac×Nat}(h:r.2.2<=t.size):(mP t lo r).2.2<=t.size:=by
 unfold mP;split
 ·exact jJ h (nZ D)
 omega
theorem pY{t:ByteArray}{p:Nat}(E:p<=t.size)(l d:Int):(act t p ⟨ag t p,l,d⟩).2.2<=t.size:=by
 rcases jA p t.size with h|h
 ·have D:=Gq ⟨ag t p,l,d⟩ h
  have F:=x_ (lo:=49) (by omega) D;have G:=x_ (lo:=48) (by omega) (Dm ⟨ag t p,l,d⟩ h);grind[act,se,mQ]
 rw[cY h];exact E
theorem xM{t:ByteArray}{p:Nat}{a:Ac}(h:(act t p a).1=true):p<(act t p a).2.2:=by
 have D:=x8 t p a;have E:=AU t p a;have F:=u2 t 49 (jn t p a);grind[u2,j9,act,se,mQ]
def iP(t:ByteArray)(cl:Int):Nat->Nat->List Ac->Bool×List Ac×Nat
 |0,p,_=>(false,[],p)
 |n+1,p,l=>if ag t p==cl then(true,l,p+1)else
  if(act t p ⟨ag t p,0,0⟩).1 then iP t cl n (act t p ⟨ag t p,0,0⟩).2.2 (l++[(act t p ⟨ag t p,0,0⟩).2.1])
  else(false,[],(act t p ⟨ag t p,0,0⟩).2.2)
def bD(t:ByteArray)(cl:Int)(p:Nat):Bool×List Ac×Nat:=iP t cl (t.size+1) p []
theorem oS{t:ByteArray}{cl:Int}{n p:Nat}{l:List Ac}(h:(ag t p==cl)=true):iP t cl (n+1) p l=(true,l,p+1):=by
 simp[iP,h]
theorem tz{t:ByteArray}{cl:Int}{n p:Nat}{l:List Ac}(h:(ag t p==cl)=false)(D:(act t p ⟨ag t p,0,0⟩).1=false):
 iP t cl (n+1) p l=(false,[],(act t p ⟨ag t p,0,0⟩).2.2):=by
 simp[iP,h,D]
theorem qR{t:ByteArray}{cl:Int}{n p:Nat}{l:List Ac}(h:(ag t p==cl)=false)(D:(act t p ⟨ag t p,0,0⟩).1=true):
 iP t cl (n+1) p l=iP t cl n (act t p ⟨ag t p,0,0⟩).2.2 (l++[(act t p ⟨ag t p,0,0⟩).2.1]):=by
 simp[iP,h,D]
end Ch
abbrev fY:Array Value:=#[.bool false,.bool false,.bool false,.bool false,.bool false,.bool false,.bool false,.bool false,.bool false,.bool false,.bool false,.bool false,.bool false,.bool false,.bool false,.bool false]
abbrev uo:Array Value:=#[.int .u8 0,.int .u8 0,.int .u8 0,.int .u8 0,.int .u8 0,.int .u8 0,.int .u8 0,.int .u8 0,.int .u8 0,.int .u8 0,.int .u8 0,.int .u8 0,.int .u8 0,.int .u8 0,.int .u8 0,.int .u8 0]
abbrev J0:Array Value:=#[.bool false,.bool false,.bool false,.bool false,.bool false,.bool false,.bool false,.bool false,.bool false,.bool false,.bool false,.bool false,.bool false,.bool false,.bool false,.bool false,.int .u8 0,.int .u8 0,.int .u8 0,.int .u8 0,.int .u8 0,.int .u8 0,.int .u8 0,.int .u8 0,.int .u8 0,.int .u8 0,.int .u8 0,.int .u8 0,.int .u8 0,.int .u8 0,.int .u8 0,.int .u8 0,.string ByteArray.empty,.int .i64 0,.int .i64 0,.int .i64 0]
abbrev cO:Array Value:=#[.bool false,.bool false,.bool false,.bool false,.bool false,.bool false,.bool false,.bool false,.bool false,.bool false,.bool false,.bool false,.bool false,.bool false,.bool false,.bool false,.int .u8 0,.int .u8 0,.int .u8 0,.int .u8 0,.int .u8 0,.int .u8 0,.int .u8 0,.int .u8 0,.int .u8 0,.int .u8 0,.int .u8 0,.int .u8 0,.int .u8 0,.int .u8 0,.int .u8 0,.int .u8 0,.string ⟨#[]⟩,.int .i64 0,.int .i64 0,.int .i64 0]
abbrev Ad:Array Value:=#[.pointer none,.bool false,.bool false,.bool false,.bool false,.bool false,.bool false,.bool false,.bool false,.bool false,.bool false,.bool false,.bool false,.bool false,.bool false,.bool false,.bool false,.int .u8 0,.int .u8 0,.int .u8 0,.int .u8 0,.int .u8 0,.int .u8 0,.int .u8 0,.int .u8 0,.int .u8 0,.int .u8 0,.int .u8 0,.int .u8 0,.int .u8 0,.int .u8 0,.int .u8 0,.int .u8 0,.string ⟨#[]⟩,.int .i64 0,.int .i64 0,.int .i64 0,.slice none 0 0,.slice none 0 0]
abbrev YW:Array Value:=#[.int .i64 0,.int .i64 0,.slice none 0 0,.slice none 0 0,.slice none 0 0]
abbrev ig:Array Value:=#[.string ⟨#[]⟩,.string ⟨#[]⟩,.string ⟨#[]⟩,.int .i64 0,.int .i64 0,.int .i64 0]
abbrev vX:Array Value:=#[.int .i64 0,.bool false,.bool false,.bool false,.bool false,.bool false,.bool false,.bool false,.bool false,.bool false,.bool false,.bool false,.bool false,.bool false,.bool false,.bool false,.bool false,.int .u8 0,.int .u8 0,.int .u8 0,.int .u8 0,.int .u8 0,.int .u8 0,.int .u8 0,.int .u8 0,.int .u8 0,.int .u8 0,.int .u8 0,.int .u8 0,.int .u8 0,.int .u8 0,.int .u8 0,.int .u8 0,.string ⟨#[]⟩,.int .i64 0,.int .i64 0,.int .i64 0,.int .i64 0]
abbrev Ae:Array Value:=#[.int .i64 0,.string ⟨#[]⟩,.int .i64 0,.bool false,.int .i64 0,.int .i64 0,.bool false,.bool false,.bool false,.bool false,.bool false,.bool false,.bool false,.bool false,.bool false,.bool false,.bool false,.bool false,.bool false,.bool false,.bool false,.bool false,.int .u8 0,.int .u8 0,.int .u8 0,.int .u8 0,.int .u8 0,.int .u8 0,.int .u8 0,.int .u8 0,.int .u8 0,.int .u8 0,.int .u8 0,.int .u8 0,.int .u8 0,.int .u8 0,.int .u8 0,.int .u8 0,.string ⟨#[]⟩,.int .i64 0,.int .i64 0,.int .i64 0,.string ⟨#[]⟩,.int .i64 0,.int .i64 0]
abbrev aH:Array Value:=#[.int .i64 0,.int .i64 0,.int .i64 0,.int .i64 0,.string ⟨#[]⟩,.string ⟨#[]⟩,.string ⟨#[]⟩,.int .i64 0,.int .i64 0,.int .i64 0,.string ⟨#[]⟩]
abbrev gK:Array Value:=#[.int .i64 0,.int .i64 0,.slice none 0 0,.slice none 0 0,.slice none 0 0,.int .i64 0,.slice none 0 0,.int .i64 0,.string ⟨#[]⟩,.slice none 0 0,.int .i64 0,.int .i64 0]
abbrev lj:Array Value:=#[.bool false,.int .i64 0,.string ⟨#[]⟩,.int .i64 0,.int .i64 0,.int .i64 0,.int .i64 0,.string ⟨#[]⟩,.string ⟨#[]⟩,.string ⟨#[]⟩,.int .i64 0,.int .i64 0,.int .i64 0,.string ⟨#[]⟩]
theorem af{p:Prop}(h:p):Hid p:=h
theorem hm{P:Program}{f:FuncId}{args:Array Value}{w:World}{Q R:Ending->World->Prop}(h:Hid (Calls P f args w Q))(k:∀e w',Q e w'->R e w'):Calls P f args w R:=bu h k
structure Kp(S:Nat->Prop)(w w':World):Prop where
 os:w'.os=w.os
 tape:w'.tape=w.tape
 output:w'.output=w.output
 size:w.heap.size<=w'.heap.size
 block:∀k,k<w.heap.size->¬S k->w'.heap[k]? =w.heap[k]?
theorem Kp.refl(S:Nat->Prop)(w:World):Kp S w w:=⟨rfl,rfl,rfl,aC _,λ_ _ _=>rfl⟩
theorem Kp.trans{S:Nat->Prop}{a b c:World}(h:Kp S a b)(k:Kp S b c):Kp S a c:=
 ⟨k.os.trans h.os,k.tape.trans h.tape,k.output.trans h.output,bA h.size k.size,
  λi hi hs=>(k.block i (Nat.lt_of_lt_of_le hi h.size) hs).trans (h.block i hi hs)⟩
theorem Kp.trans'{S S':Nat->Prop}{a b c:World}(h:Kp S a b)(k:Kp S' b c)(hs:∀i,i<a.heap.size->S' i->S i):Kp S a c:=
 ⟨k.os.trans h.os,k.tape.trans h.tape,k.output.trans h.output,bA h.size k.size,
  λi hi hn=>(k.block i (Nat.lt_of_lt_of_le hi h.size) (λx=>hn (hs i hi x))).trans (h.block i hi hn)⟩
theorem Kp.mono{S S':Nat->Prop}{w w':World}(h:Kp S w w')(hs:∀i,i<w.heap.size->S i->S' i):Kp S' w w':=
 ⟨h.os,h.tape,h.output,h.size,λk hk hn=>h.block k hk (λx=>hn (hs k hk x))⟩
theorem Kp.drew{S:Nat->Prop}{a w:World}(h:Kp S a w):Kp S a w.drew:=⟨h.os,h.tape,h.output,h.size,h.block⟩
theorem Kp.drewN{S:Nat->Prop}{a w:World}(h:Kp S a w)(n:Nat):Kp S a (w.drewN n):=⟨h.os,h.tape,h.output,h.size,h.block⟩
theorem Kp.alloc{S:Nat->Prop}{a w:World}(h:Kp S a w)(o:Obj):Kp S a (w.alloc o):=
 h.trans ⟨rfl,rfl,rfl,by simp,λk hk _=>cQ _ _ _ (by omega)⟩
theorem Kp.setCell{S:Nat->Prop}{a w:World}(h:Kp S a w){p:Addr}(D:p.block<a.heap.size->S p.block)(u:Value):Kp S a (w.setCell p u):=
 h.trans' (S':=λk=>k=p.block) ⟨rfl,rfl,rfl,by simp[World.setCell],λk _ hn=>kq _ _ _ _ hn⟩ (λi hi e=>by subst e;exact D hi)
theorem Kp.grown{S:Nat->Prop}{a w w':World}{row:Option Nat}(h:Kp S a w)(D:w.grownBy w' row)(E:∀k,row=some k->k<a.heap.size->S k):Kp S a w':=
 h.trans' (S':=λk=>row=some k) ⟨D.os,D.tape,D.output,D.size,λk hk hn=>D.block k hk (λe=>hn e.symm)⟩ (λi hi e=>E i e hi)
theorem Kp.below{S:Nat->Prop}{w w':World}{B:Nat}(h:Kp S w w')(hB:B<=w.heap.size)(hs:∀k,S k->B<=k):Below B w w':=
 ⟨h.os,h.tape,h.output,h.size,λk hk=>h.block k (by omega) (λx=>by have:=hs k x;omega)⟩
theorem Kp.at_{S:Nat->Prop}{w w':World}(h:Kp S w w'){k:Nat}{o:Obj}(D:w.heap[k]? =some o)(hs:¬S k):w'.heap[k]? =some o:=
 (h.block k (aR D) hs).trans D
theorem Kp.owns{S:Nat->Prop}{w w':World}(h:Kp S w w'){base:Nat}{e:TypeId}{size:Nat}{v:Value}{n:Nat}{xs:List Value}
 (E:w.ownsRow base e size v n xs) (hs:∀k,v.ownBlock=some k->¬S k):w'.ownsRow base e size v n xs:=by
 refine⟨E.1,?_⟩
 rcases E.2 with G|⟨g,cap,D,rfl,hb,F,rest⟩
 ·simp_all
 exact .inr ⟨g,cap,D,rfl,hb,h.at_ F (hs g rfl),rest⟩
theorem ak{w:World}{b i:Nat}{c:Array Value}{t:TypeId}{f:Nat×Nat}(u:Value)(h:w.heap[b]? =some (.cells c t f)):
 (w.setCell ⟨b,i,none⟩ u).heap[b]? =some (.cells (c.setIfInBounds i u) t f):=by
 have D:=aR h
 have E:w.heap[b]= .cells c t f:=by simpa[Array.getElem?_eq_getElem D]using h
 show(w.heap.modify b _)[b]? =_;grind
def dG(w:World)(b:Nat)(t:ByteArray)(p:Nat)(e f sv tv bv uv:Value):Prop:=
 w.heap[b]? =some (.cells #[.string t,.int .i64 p,e,f,sv,tv,bv,uv] 143 (0,0))
section
variable {w:World} {b:Nat} {t:ByteArray} {p:Nat} {e f sv tv bv uv:Value}
theorem dG.text(h:dG w b t p e f sv tv bv uv):w.cell? ⟨b,0,none⟩=some (.string t):=by unfold dG at h;simp[World.cell?,h]
theorem dG.pos(h:dG w b t p e f sv tv bv uv):w.cell? ⟨b,1,none⟩=some (.int .i64 p):=by unfold dG at h;simp[World.cell?,h]
theorem dG.c2(h:dG w b t p e f sv tv bv uv):w.cell? ⟨b,2,none⟩=some e:=by unfold dG at h;simp[World.cell?,h]
theorem dG.c3(h:dG w b t p e f sv tv bv uv):w.cell? ⟨b,3,none⟩=some f:=by unfold dG at h;simp[World.cell?,h]
theorem dG.c4(h:dG w b t p e f sv tv bv uv):w.cell? ⟨b,4,none⟩=some sv:=by unfold dG at h;simp[World.cell?,h]
theorem dG.c5(h:dG w b t p e f sv tv bv uv):w.cell? ⟨b,5,none⟩=some tv:=by unfold dG at h;simp[World.cell?,h]
theorem dG.c6(h:dG w b t p e f sv tv bv uv):w.cell? ⟨b,6,none⟩=some bv:=by unfold dG at h;simp[World.cell?,h]
theorem dG.c7(h:dG w b t p e f sv tv bv uv):w.cell? ⟨b,7,none⟩=some uv:=by unfold dG at h;simp[World.cell?,h]
theorem dG.free(h:dG w b t p e f sv tv bv uv)(i:Nat):w.frozen? ⟨b,i,none⟩=false:=by unfold dG at h;simp[World.frozen?,h]
theorem dG.Dn(h:dG w b t p e f sv tv bv uv)(q:Nat):dG (w.setCell ⟨b,1,none⟩ (.int .i64 q)) b t q e f sv tv bv uv:=by
 unfold dG at*;rw[ak _ h];rfl
theorem dG.step(h:dG w b t p e f sv tv bv uv):dG (w.setCell ⟨b,1,none⟩ (.int .i64 ((p:Int)+1))) b t (p+1) e f sv tv bv uv:=h.Dn (p+1)
theorem dG.drewN(h:dG w b t p e f sv tv bv uv)(n:Nat):dG (w.drewN n) b t p e f sv tv bv uv:=h
theorem dG.az{S:Nat->Prop}{w':World}(h:dG w b t p e f sv tv bv uv)(k:Kp S w w')(hs:¬S b):dG w' b t p e f sv tv bv uv:=Kp.at_ k h hs
theorem dG.alloc(h:dG w b t p e f sv tv bv uv)(o:Obj):dG (w.alloc o) b t p e f sv tv bv uv:=h.az (S:=λ_=>False) ((Kp.refl _ _).alloc _) (λx=>x)
theorem dG.grown{w':World}{row:Option Nat}(h:dG w b t p e f sv tv bv uv)(g:w.grownBy w' row)(D:row≠some b):dG w' b t p e f sv tv bv uv:=
 h.az (S:=λk=>row=some k) ((Kp.refl _ _).grown g (λ_ hk _=>hk)) D
theorem dG.lt(h:dG w b t p e f sv tv bv uv):b<w.heap.size:=aR h
theorem dG.Uy(h:dG w b t p e f sv tv bv uv)(v:Value):dG (w.setCell ⟨b,4,none⟩ v) b t p e f v tv bv uv:=by
 unfold dG at*;rw[ak _ h];rfl
theorem dG.vY(h:dG w b t p e f sv tv bv uv)(v:Value):dG (w.setCell ⟨b,5,none⟩ v) b t p e f sv v bv uv:=by
 unfold dG at*;rw[ak _ h];rfl
theorem dG.ya(h:dG w b t p e f sv tv bv uv)(v:Value):dG (w.setCell ⟨b,6,none⟩ v) b t p e f sv tv v uv:=by
 unfold dG at*;rw[ak _ h];rfl
theorem dG.ZX(h:dG w b t p e f sv tv bv uv)(v:Value):dG (w.setCell ⟨b,7,none⟩ v) b t p e f sv tv bv v:=by
 unfold dG at*;rw[ak _ h];rfl
end
def mB(w:World)(ab:Nat)(a:Ch.Ac):Prop:=w.heap[ab]? =some (.cells #[.int .u8 a.sign,.int .u8 a.aF,.int .i64 a.digit] 255 (0,0))
section
variable {w:World} {ab:Nat} {a:Ch.Ac}
theorem mB.c0(h:mB w ab a):w.cell? ⟨ab,0,none⟩=some (.int .u8 a.sign):=by unfold mB at h;simp[World.cell?,h]
theorem mB.c1(h:mB w ab a):w.cell? ⟨ab,1,none⟩=some (.int .u8 a.aF):=by unfold mB at h;simp[World.cell?,h]
theorem mB.c2(h:mB w ab a):w.cell? ⟨ab,2,none⟩=some (.int .i64 a.digit):=by unfold mB at h;simp[World.cell?,h]
theorem mB.free(h:mB w ab a)(i:Nat):w.frozen? ⟨ab,i,none⟩=false:=by unfold mB at h;simp[World.frozen?,h]
theorem mB.Dn(h:mB w ab a)(l:Int):mB (w.setCell ⟨ab,1,none⟩ (.int .u8 l)) ab {a with aF:=l}:=by unfold mB at*;rw[ak _ h];rfl
theorem mB.yc(h:mB w ab a)(d:Int):mB (w.setCell ⟨ab,2,none⟩ (.int .i64 d)) ab {a with digit:=d}:=by unfold mB at*;rw[ak _ h];rfl
theorem mB.az{S:Nat->Prop}{w':World}(h:mB w ab a)(k:Kp S w w')(hs:¬S ab):mB w' ab a:=Kp.at_ k h hs
theorem mB.lt(h:mB w ab a):ab<w.heap.size:=aR h
theorem mB.ne{b:Nat}{t:ByteArray}{p:Nat}{e f sv tv bv uv:Value}(h:mB w ab a)(k:dG w b t p e f sv tv bv uv):ab≠b:=by
 grind[mB,dG]
end
def gT(l:List Ch.Ac):List Value:=l.flatMap λa=>[.int .u8 a.sign,.int .u8 a.aF,.int .i64 a.digit]
theorem BV(l:List Ch.Ac)(a:Ch.Ac):gT (l++[a])=gT l++[.int .u8 a.sign,.int .u8 a.aF,.int .i64 a.digit]:=by simp[gT]
theorem Gs(w:World)(x y z:Value)(T:TypeId):∀j u,[x,y,z][j]? =some u->(w.alloc (.cells #[x,y,z] T)).cell? ((⟨w.heap.size,0,none⟩:Addr).add j)=some u:=by
 intro j u D
 match j,D with
 |0,D=>simp at D;subst D;simp[Addr.add]
 |1,D=>simp at D;subst D;simp[Addr.add]
 |2,D=>simp at D;subst D;simp[Addr.add]
theorem dr2(w:World)(n m:Nat):(w.drewN n).drewN m=w.drewN (n+m):=World.drewN_drewN ..
theorem me(c:Int)(w:World):
 Calls prog 56 #[.int .u8 c] w λe w'=>e= .returned (.bool (Ch.ez c))/\w'=w:=by
 by_cases D:97<=c
 ·by_cases E:c<=122
  ·have H:Hid (Ch.ez c=true):=by simp[Hid,Ch.ez,D,E]
   go_enter func56,ntmps56
   go_wp2;go_ret;exact⟨by rw[H.out];rfl,rfl⟩
  have H:Hid (Ch.ez c=false):=by simp[Hid,Ch.ez,E]
  go_enter func56,ntmps56
  go_wp2;go_ret;exact⟨by rw[H.out];rfl,rfl⟩
 have H:Hid (Ch.ez c=false):=by simp[Hid,Ch.ez,D]
 go_enter func56,ntmps56
 go_wp2;go_ret;exact⟨by rw[H.out];rfl,rfl⟩
theorem jK(c:Int)(w:World):
 Calls prog 211 #[.int .u8 c] w λe w'=>e= .returned (.bool (Ch.dS c))/\w'=w:=by
 by_cases D:65<=c
 ·by_cases E:c<=90
  ·have H:Hid (Ch.dS c=true):=by simp[Hid,Ch.dS,D,E]
   go_enter func211,ntmps211
   go_wp2;go_ret;exact⟨by rw[H.out];rfl,rfl⟩
  have H:Hid (Ch.dS c=false):=by simp[Hid,Ch.dS,E]
  go_enter func211,ntmps211
  go_wp2;go_ret;exact⟨by rw[H.out];rfl,rfl⟩
 have H:Hid (Ch.dS c=false):=by simp[Hid,Ch.dS,D]
 go_enter func211,ntmps211
 go_wp2;go_ret;exact⟨by rw[H.out];rfl,rfl⟩
theorem Gt(c:Int)(w:World):
 Calls prog 212 #[.int .u8 c] w λe w'=>e= .returned (.int .i64 (Ch.eH c))/\w'=w:=by
 unfold Ch.eH
 by_cases D:c=91
 ·subst D
  go_enter func212,ntmps212
  go_wp2;go_ret;exact⟨by simp,rfl⟩
 by_cases E:c=60
 ·subst E
  go_enter func212,ntmps212
  go_wp2;go_ret;exact⟨by simp,rfl⟩
 by_cases F:c=42
 ·subst F
  go_enter func212,ntmps212
  go_wp2;go_ret;exact⟨by simp,rfl⟩
 have G:(c==91)=false:=by simpa using D
 have I:(c==60)=false:=by simpa using E
 have J:(c==42)=false:=by simpa using F
 go_enter func212,ntmps212
 go_wp2;go_ret;exact⟨by simp[*],rfl⟩
theorem bC(b:Nat)(t:ByteArray)(p:Nat)(w:World)(E:w.cell? ⟨b,0,none⟩=some (.string t))(F:w.cell? ⟨b,1,none⟩=some (.int .i64 p)):
 Calls prog 110 #[.pointer (some ⟨b,0,none⟩)] w λe w'=>e= .returned (.int .u8 (Ch.ag t p))/\∃n,w'=w.drewN n:=by
 by_cases h:p<t.size
 ·have D:¬(t.size:Int)<=(p:Int):=by omega
  have G:(p:Int)<(t.size:Int):=by omega
  go_enter func110,ntmps110
  go_wp2
  go_quiet (fail)
  go_wp2
  go_quiet (fail)
  go_wp2;go_ret;exact⟨by simp[Ch.ag,h],_,dr2 _ _ _⟩
 have D:(t.size:Int)<=(p:Int):=by omega
 go_enter func110,ntmps110
 go_wp2
 go_quiet (fail)
 go_wp2;go_ret;exact⟨by simp[Ch.ag,h],_,rfl⟩
section
variable (b:Nat) (t:ByteArray) (p:Nat) (e f sv tv bv uv:Value) (w:World)
theorem iK(ok:Bool)(h:dG w b t p e f sv tv bv uv)(E:p<=1000):
 Calls prog 216 #[.pointer (some ⟨b,0,none⟩),.bool ok] w λx w'=>x= .returned (.bool ok)/\dG w' b t (Ch.cL ok p) e f sv tv bv uv/\Kp (λk=>k=b) w w':=by
 have D:=h.pos;have f1:=h.free 1;have H:Hid (dG w b t p e f sv tv bv uv):=h;clear h
 cases ok with
 |true=>
  go_enter func216,ntmps216
  go_wp2;go_ret;exact⟨rfl,H.out.Dn (p+1),(Kp.refl _ _).setCell (by intro _;rfl) _⟩
 |false=>?_
 go_enter func216,ntmps216
 go_wp2;go_ret;exact⟨rfl,H.out,Kp.refl _ _⟩
theorem pZ(D:Int)(h:dG w b t p e f sv tv bv uv)(U:p<=1000):
 Calls prog 157 #[.pointer (some ⟨b,0,none⟩),.int .u8 D] w λx w'=>x= .returned (.bool (Ch.ag t p==D))/\dG w' b t (Ch.cL (Ch.ag t p==D) p) e f sv tv bv uv/\Kp (λk=>k=b) w w':=by
 go_enter func157,ntmps157
 go_wp2_with fail
 refine(bC b t p _ h.text h.pos).mono ?_;rintro x I ⟨rfl,E,rfl⟩;have G:dG (w.drewN E) b t p e f sv tv bv uv:=h;have F:Kp (λk=>k=b) w (w.drewN E):=(Kp.refl _ _).drewN _;generalize w.drewN E=I at G F⊢;clear h
 go_wp2_with fail
 refine(iK b t p e f sv tv bv uv I _ G U).mono ?_;rintro x X ⟨rfl,O,J⟩;go_wp2;go_ret;exact⟨rfl,O,F.trans J⟩
theorem Af(h:dG w b t p e f sv tv bv uv)(J:p<=1000):
 Calls prog 279 #[.pointer (some ⟨b,0,none⟩)] w λx w'=>x= .returned (.bool (Ch.ez (Ch.ag t p)))/\dG w' b t (Ch.cL (Ch.ez (Ch.ag t p)) p) e f sv tv bv uv/\Kp (λk=>k=b) w w':=by
 go_enter func279,ntmps279
 go_wp2_with fail
 refine(bC b t p _ h.text h.pos).mono ?_;rintro x O ⟨rfl,D,rfl⟩;have F:dG (w.drewN D) b t p e f sv tv bv uv:=h;have E:Kp (λk=>k=b) w (w.drewN D):=(Kp.refl _ _).drewN _;generalize w.drewN D=O at F E⊢;clear h
 go_wp2_with fail
 refine(me _ _).mono ?_;rintro x U ⟨rfl,rfl⟩
 go_wp2_with fail
 refine(iK b t p e f sv tv bv uv _ _ F J).mono ?_;rintro x U ⟨rfl,I,G⟩;go_wp2;go_ret;exact⟨rfl,I,E.trans G⟩
theorem iL(h:dG w b t p e f sv tv bv uv)(Y:p<=1000):
 Calls prog 270 #[.pointer (some ⟨b,0,none⟩)] w λx w'=>x= .returned (.bool (Ch.jw (Ch.ag t p)))/\dG w' b t (Ch.cL (Ch.jw (Ch.ag t p)) p) e f sv tv bv uv/\Kp (λk=>k=b) w w':=by
 rcases Ch.Gn (Ch.ag t p)with⟨E,D⟩|⟨E,I,D⟩|⟨E,I,U,D⟩|⟨E,I,U,D⟩
 all_goals
  rw[D];clear D
  go_enter func270,ntmps270
  go_wp2_with fail
  refine(bC b t p _ h.text h.pos).mono ?_;rintro x Z ⟨rfl,F,rfl⟩;have J:dG (w.drewN F) b t p e f sv tv bv uv:=h;have G:Kp (λk=>k=b) w (w.drewN F):=(Kp.refl _ _).drewN _;generalize w.drewN F=Z at J G⊢
  go_wp2_with fail
  refine(iK b t p e f sv tv bv uv _ _ J Y).mono ?_;rintro x w2 ⟨rfl,X,O⟩;go_wp2;go_ret;exact⟨rfl,X,G.trans O⟩
theorem pj(lo:Int)(h:dG w b t p e f sv tv bv uv)(X:p<=1000):
 Calls prog 272 #[.pointer (some ⟨b,0,none⟩),.int .u8 lo] w λx w'=>x= .returned (.bool (Ch.iw lo (Ch.ag t p)))/\dG w' b t (Ch.cL (Ch.iw lo (Ch.ag t p)) p) e f sv tv bv uv/\Kp (λk=>k=b) w w':=by
 rcases Ch.Gp lo (Ch.ag t p)with⟨G,O,D⟩|⟨G,O,D⟩|⟨G,D⟩
 all_goals
  rw[D];clear D
  go_enter func272,ntmps272
  go_wp2_with fail
  refine(bC b t p _ h.text h.pos).mono ?_;rintro x Y ⟨rfl,E,rfl⟩;have I:dG (w.drewN E) b t p e f sv tv bv uv:=h;have F:Kp (λk=>k=b) w (w.drewN E):=(Kp.refl _ _).drewN _;generalize w.drewN E=Y at I F⊢
  go_wp2_with fail
  refine(iK b t p e f sv tv bv uv _ _ I X).mono ?_;rintro x Z ⟨rfl,U,J⟩;go_wp2;go_ret;exact⟨rfl,U,F.trans J⟩
theorem pq(D:w.cell? ⟨b,0,none⟩=some (.string t))(E:w.cell? ⟨b,1,none⟩=some (.int .i64 p)):
 Calls prog 271 #[.pointer (some ⟨b,0,none⟩)] w λx w'=>x= .returned (.int .i64 (Ch.ag t p-48))/\∃n,w'=w.drewN n:=by
 have lo:=Ch.QO t p;have hi:=Ch.I6 t p
 go_enter func271,ntmps271
 go_wp2_with fail
 refine(bC b t p _ D E).mono ?_;rintro x G ⟨rfl,F,rfl⟩;go_wp2;go_ret;exact⟨rfl,F,rfl⟩
end
section
variable (b ab:Nat) (t:ByteArray) (p:Nat) (a:Ch.Ac) (e f sv tv bv uv:Value) (w:World)
theorem np(h:dG w b t p e f sv tv bv uv)(Z:mB w ab a)(hp:p<=900):
 Calls prog 276 #[.pointer (some ⟨b,0,none⟩),.pointer (some ⟨ab,0,none⟩)] w λx w'=>x= .returned (.bool (Ch.jn t p a).1)/\
  dG w' b t (Ch.jn t p a).2.2 e f sv tv bv uv/\mB w' ab (Ch.jn t p a).2.1/\Kp (λk=>k=b\/k=ab) w w':=by
 have E:=Z.ne h;have hs:=h.step;have c1:=h.pos;have f1:=h.free 1
 have H:Hid (mB w ab a/\dG w b t p e f sv tv bv uv):=⟨Z,h⟩
 clear Z h
 go_enter func276,ntmps276
 go_wp2_with fail
 refine(bC b t (p+1) _ hs.text hs.pos).mono ?_;rintro x F ⟨rfl,J,rfl⟩;have G:Kp (λk=>k=b\/k=ab) w ((w.setCell ⟨b,1,none⟩ (.int .i64 ((p:Int)+1))).drewN J):=((Kp.refl _ _).setCell (by intro _;exact Or.inl rfl) _).drewN _;have D:mB ((w.setCell ⟨b,1,none⟩ (.int .i64 ((p:Int)+1))).drewN J) ab a:=H.out.1.az (S:=λk=>k=b) (((Kp.refl _ _).setCell (by intro _;rfl) _).drewN _) E;have I:=hs.drewN J;generalize (w.setCell ⟨b,1,none⟩ (.int .i64 ((p:Int)+1))).drewN J=F at G D I⊢;clear hs c1 f1 H;have c2:=D.c1;have f2:=D.free 1
 have H1:Hid (mB F ab a/\dG F b t (p+1) e f sv tv bv uv/\Kp (λk=>k=b\/k=ab) w F):=⟨D,I,G⟩
 clear D I G
 go_wp2_with fail
 obtain⟨D,I,G⟩:=H1.out;clear H1 c2 f2;have X:=D.Dn (Ch.ag t (p+1));have Y:dG (F.setCell ⟨ab,1,none⟩ (.int .u8 (Ch.ag t (p+1)))) b t (p+1) e f sv tv bv uv:=I.az (S:=λk=>k=ab) ((Kp.refl _ _).setCell (by intro _;rfl) _) (iX E);have O:Kp _ _ (F.setCell ⟨ab,1,none⟩ (.int .u8 (Ch.ag t (p+1)))):=G.setCell (by intro _;exact Or.inr rfl) _;generalize F.setCell ⟨ab,1,none⟩ (.int .u8 (Ch.ag t (p+1)))=w2 at X Y O⊢;clear D I G;refine(Af b t (p+1) e f sv tv bv uv w2 Y (by omega)).mono ?_;rintro x w3 ⟨rfl,h3,U⟩;have a3:=X.az U E;have K4:=O.trans' U (λi _ e=>Or.inl e);clear X Y O U;go_wp2;go_ret;exact⟨rfl,h3,a3,K4⟩
theorem BX(h:dG w b t p e f sv tv bv uv)(ha:mB w ab a)(hp:p<=900):
 Calls prog 277 #[.pointer (some ⟨b,0,none⟩),.pointer (some ⟨ab,0,none⟩)] w λx w'=>x= .returned (.bool (Ch.se t p a).1)/\
  dG w' b t (Ch.se t p a).2.2 e f sv tv bv uv/\mB w' ab (Ch.se t p a).2.1/\Kp (λk=>k=b\/k=ab) w w':=by
 have X:=ha.ne h;have E:=np b ab t p a e f sv tv bv uv w h ha hp;have hb:=Ch.x8 t p a;unfold Ch.se;generalize Ch.jn t p a=r at E hb⊢;obtain⟨ok,a1,G⟩:=r;have HE:=af (E);clear E h ha
 cases ok with
 |false=>
  go_enter func277,ntmps277
  go_wp2_with fail
  refine hm HE ?_;rintro x w1 ⟨rfl,F,J,Y⟩;go_wp2;go_ret;exact⟨rfl,F,J,Y⟩
 |true=>?_
 go_enter func277,ntmps277
 go_wp2_with fail
 refine hm HE ?_;rintro x w1 ⟨rfl,F,J,Y⟩;clear HE;have F:=F;have J:=J;have hb:=hb.2
 go_wp2_with fail
 refine(pq b t G _ F.text F.pos).mono ?_;rintro x I ⟨rfl,Z,rfl⟩;have D:mB (w1.drewN Z) _ _:=J;have U:=F.drewN Z;have O:=Y.drewN Z;generalize w1.drewN Z=I at D U O⊢;clear J F Y;have c2:=D.c2;have f2:=D.free 2
 have H2:Hid (mB I ab a1/\dG I b t G e f sv tv bv uv/\Kp (λk=>k=b\/k=ab) w I):=⟨D,U,O⟩
 clear D U O
 go_wp2_with fail
 obtain⟨D,U,O⟩:=H2.out;clear H2 c2 f2;have a3:=D.yc (Ch.ag t G-48);have h3:dG (I.setCell ⟨ab,2,none⟩ (.int .i64 (Ch.ag t G-48))) b t G e f sv tv bv uv:=U.az (S:=λk=>k=ab) ((Kp.refl _ _).setCell (by intro _;rfl) _) (iX X);have K3:Kp _ _ (I.setCell ⟨ab,2,none⟩ (.int .i64 (Ch.ag t G-48))):=O.setCell (by intro _;exact Or.inr rfl) _;generalize I.setCell ⟨ab,2,none⟩ (.int .i64 (Ch.ag t G-48))=w3 at a3 h3 K3⊢;clear D U O;refine(pj b t G e f sv tv bv uv w3 49 h3 (by omega)).mono ?_;rintro x w4 ⟨rfl,h4,K4⟩;have a4:=a3.az K4 X;have K5:=K3.trans' K4 (λi _ e=>Or.inl e);clear a3 h3 K3 K4;go_wp2;go_ret;exact⟨rfl,h4,a4,K5⟩
theorem mE(h:dG w b t p e f sv tv bv uv)(ha:mB w ab a)(hp:p<=900):
 Calls prog 278 #[.pointer (some ⟨b,0,none⟩),.pointer (some ⟨ab,0,none⟩)] w λx w'=>x= .returned (.bool (Ch.mQ t p a).1)/\
  dG w' b t (Ch.mQ t p a).2.2 e f sv tv bv uv/\mB w' ab (Ch.mQ t p a).2.1/\Kp (λk=>k=b\/k=ab) w w':=by
 cases hv:Ch.jw (Ch.ag t (p+1))with
 |false=>
  have HV:Hid (Ch.mQ t p a=(false,{a with aF:=Ch.ag t (p+1)},p+1)):=by simp[Hid,Ch.mQ,Ch.j9,Ch.mP,Ch.cL,hv]
  rw[HV.out];have Hv:Hid _:=hv;clear hv HV;have F:=ha.ne h;have hs:=h.step;have c1:=h.pos;have f1:=h.free 1
  have H:Hid (mB w ab a/\dG w b t p e f sv tv bv uv):=⟨ha,h⟩
  clear ha h
  go_enter func278,ntmps278
  go_wp2_with fail
  refine(bC b t (p+1) _ hs.text hs.pos).mono ?_;rintro x G ⟨rfl,n1,rfl⟩;have I:Kp (λk=>k=b\/k=ab) w ((w.setCell ⟨b,1,none⟩ (.int .i64 ((p:Int)+1))).drewN n1):=((Kp.refl _ _).setCell (by intro _;exact Or.inl rfl) _).drewN _;have D:mB ((w.setCell ⟨b,1,none⟩ (.int .i64 ((p:Int)+1))).drewN n1) ab a:=H.out.1.az (S:=λk=>k=b) (((Kp.refl _ _).setCell (by intro _;rfl) _).drewN _) F;have E:=hs.drewN n1;generalize (w.setCell ⟨b,1,none⟩ (.int .i64 ((p:Int)+1))).drewN n1=G at I D E⊢;clear hs c1 f1 H;have c2:=D.c1;have f2:=D.free 1
  have H1:Hid (mB G ab a/\dG G b t (p+1) e f sv tv bv uv/\Kp (λk=>k=b\/k=ab) w G):=⟨D,E,I⟩
  clear D E I
  go_wp2_with fail
  obtain⟨D,E,I⟩:=H1.out;clear H1 c2 f2;have J:=D.Dn (Ch.ag t (p+1));have U:dG (G.setCell ⟨ab,1,none⟩ (.int .u8 (Ch.ag t (p+1)))) b t (p+1) e f sv tv bv uv:=E.az (S:=λk=>k=ab) ((Kp.refl _ _).setCell (by intro _;rfl) _) (iX F);have O:Kp _ _ (G.setCell ⟨ab,1,none⟩ (.int .u8 (Ch.ag t (p+1)))):=I.setCell (by intro _;exact Or.inr rfl) _;generalize G.setCell ⟨ab,1,none⟩ (.int .u8 (Ch.ag t (p+1)))=Z at J U O⊢;clear D E I;refine(iL b t (p+1) e f sv tv bv uv Z U (by omega)).mono ?_;rw[Hv.out];rintro x w3 ⟨rfl,h3,Y⟩;have a3:=J.az Y F;have K4:=O.trans' Y (λi _ e=>Or.inl e);clear J U O Y;go_wp2;go_ret;exact⟨rfl,h3,a3,K4⟩
 |true=>?_
 have HV:Hid (Ch.mQ t p a=Ch.mP t 48 (true,{a with aF:=Ch.ag t (p+1)},p+2)):=by simp[Hid,Ch.mQ,Ch.j9,Ch.cL,hv]
 rw[HV.out];have Hv:Hid _:=hv;clear hv HV
 obtain⟨X,ad⟩:∃X,X=p+2:=⟨_,rfl⟩
 rw[<-ad];have HP:Hid _:=ad
 have hb:X<=p+2:=by omega
 clear ad
 obtain⟨D,aa⟩:∃D:Ch.Ac,D={a with aF:=Ch.ag t (p+1)}:=⟨_,rfl⟩
 rw[<-aa];have HA:Hid _:=aa;clear aa;have F:=ha.ne h;have hs:=h.step;have c1:=h.pos;have f1:=h.free 1
 have H:Hid (mB w ab a/\dG w b t p e f sv tv bv uv):=⟨ha,h⟩
 clear ha h
 go_enter func278,ntmps278
 go_wp2_with fail
 refine(bC b t (p+1) _ hs.text hs.pos).mono ?_;rintro x G ⟨rfl,n1,rfl⟩;have I:Kp (λk=>k=b\/k=ab) w ((w.setCell ⟨b,1,none⟩ (.int .i64 ((p:Int)+1))).drewN n1):=((Kp.refl _ _).setCell (by intro _;exact Or.inl rfl) _).drewN _;have D:mB ((w.setCell ⟨b,1,none⟩ (.int .i64 ((p:Int)+1))).drewN n1) ab a:=H.out.1.az (S:=λk=>k=b) (((Kp.refl _ _).setCell (by intro _;rfl) _).drewN _) F;have E:=hs.drewN n1;generalize (w.setCell ⟨b,1,none⟩ (.int .i64 ((p:Int)+1))).drewN n1=G at I D E⊢;clear hs c1 f1 H;have c2:=D.c1;have f2:=D.free 1
 have H1:Hid (mB G ab a/\dG G b t (p+1) e f sv tv bv uv/\Kp (λk=>k=b\/k=ab) w G):=⟨D,E,I⟩
 clear D E I
 go_wp2_with fail
 obtain⟨D,E,I⟩:=H1.out;clear H1 c2 f2;have J:=D.Dn (Ch.ag t (p+1));have U:dG (G.setCell ⟨ab,1,none⟩ (.int .u8 (Ch.ag t (p+1)))) b t (p+1) e f sv tv bv uv:=E.az (S:=λk=>k=ab) ((Kp.refl _ _).setCell (by intro _;rfl) _) (iX F);have O:Kp _ _ (G.setCell ⟨ab,1,none⟩ (.int .u8 (Ch.ag t (p+1)))):=I.setCell (by intro _;exact Or.inr rfl) _;generalize G.setCell ⟨ab,1,none⟩ (.int .u8 (Ch.ag t (p+1)))=Z at J U O⊢;clear D E I;refine(iL b t (p+1) e f sv tv bv uv Z U (by omega)).mono ?_;rw[Hv.out];rintro x w3 ⟨rfl,h3,Y⟩;have a3:=J.az Y F;have I:=O.trans' Y (λi _ e=>Or.inl e);clear J U O Y
 have E:dG w3 b t X e f sv tv bv uv:=by rw[HP.out];exact h3
 have A1:mB w3 ab D:=by rw[HA.out];exact a3
 clear a3 h3 Hv HA HP;generalize w3=G at E A1 I⊢
 go_wp2_with fail
 refine(pq b t X _ E.text E.pos).mono ?_;rintro x Z ⟨rfl,n2,rfl⟩;have J:mB (G.drewN n2) _ _:=A1;have U:=E.drewN n2;have O:=I.drewN n2;generalize G.drewN n2=Z at J U O⊢;clear A1 E I;have c2:=J.c2;have f2:=J.free 2
 have H2:Hid (mB Z ab D/\dG Z b t X e f sv tv bv uv/\Kp (λk=>k=b\/k=ab) w Z):=⟨J,U,O⟩
 clear J U O
 go_wp2_with fail
 obtain⟨J,U,O⟩:=H2.out;clear H2 c2 f2;have a3:=J.yc (Ch.ag t X-48);have h3:dG (Z.setCell ⟨ab,2,none⟩ (.int .i64 (Ch.ag t X-48))) b t X e f sv tv bv uv:=U.az (S:=λk=>k=ab) ((Kp.refl _ _).setCell (by intro _;rfl) _) (iX F);have Y:Kp _ _ (Z.setCell ⟨ab,2,none⟩ (.int .i64 (Ch.ag t X-48))):=O.setCell (by intro _;exact Or.inr rfl) _;generalize Z.setCell ⟨ab,2,none⟩ (.int .i64 (Ch.ag t X-48))=w3 at a3 h3 Y⊢;clear J U O;refine(pj b t X e f sv tv bv uv w3 48 h3 (by omega)).mono ?_;rintro x w4 ⟨rfl,h4,K4⟩;have a4:=a3.az K4 F;have K5:=Y.trans' K4 (λi _ e=>Or.inl e);clear a3 h3 Y K4;go_wp2;go_ret;exact⟨rfl,h4,a4,K5⟩
theorem I7(h:dG w b t p e f sv tv bv uv)(F:mB w ab a)(O:p<=900):
 Calls prog 273 #[.pointer (some ⟨b,0,none⟩),.pointer (some ⟨ab,0,none⟩)] w λx w'=>x= .returned (.bool (Ch.act t p a).1)/\
  dG w' b t (Ch.act t p a).2.2 e f sv tv bv uv/\mB w' ab (Ch.act t p a).2.1/\Kp (λk=>k=b\/k=ab) w w':=by
 have c0:=F.c0
 cases I:a.sign==33 with
 |true=>
  have D:Hid (Ch.act t p a=Ch.jn t p a):=by simp[Hid,Ch.act,I]
  rw[D.out];have E:=af (np b ab t p a e f sv tv bv uv w h F O);clear D h F
  go_enter func273,ntmps273
  go_wp2_with fail
  refine hm E ?_;rintro x X ⟨rfl,G⟩;go_wp2;go_ret;exact⟨rfl,G⟩
 |false=>?_
 cases J:a.sign==126 with
 |true=>
  have D:Hid (Ch.act t p a=Ch.jn t p a):=by simp[Hid,Ch.act,I,J]
  rw[D.out];have E:=af (np b ab t p a e f sv tv bv uv w h F O);clear D h F
  go_enter func273,ntmps273
  go_wp2_with fail
  refine hm E ?_;rintro x X ⟨rfl,G⟩;go_wp2;go_ret;exact⟨rfl,G⟩
 |false=>?_
 cases U:a.sign==35 with
 |true=>
  have D:Hid (Ch.act t p a=Ch.jn t p a):=by simp[Hid,Ch.act,I,J,U]
  rw[D.out];have E:=af (np b ab t p a e f sv tv bv uv w h F O);clear D h F
  go_enter func273,ntmps273
  go_wp2_with fail
  refine hm E ?_;rintro x X ⟨rfl,G⟩;go_wp2;go_ret;exact⟨rfl,G⟩
 |false=>?_
 cases Y:a.sign==64 with
 |true=>
  have D:Hid (Ch.act t p a=Ch.se t p a):=by simp[Hid,Ch.act,I,J,U,Y]
  rw[D.out];have E:=af (BX b ab t p a e f sv tv bv uv w h F O);clear D h F
  go_enter func273,ntmps273
  go_wp2_with fail
  refine hm E ?_;rintro x X ⟨rfl,G⟩;go_wp2;go_ret;exact⟨rfl,G⟩
 |false=>?_
 cases YX:a.sign==43 with
 |true=>
  have D:Hid (Ch.act t p a=Ch.mQ t p a):=by simp[Hid,Ch.act,I,J,U,Y,YX]
  rw[D.out];have E:=af (mE b ab t p a e f sv tv bv uv w h F O);clear D h F
  go_enter func273,ntmps273
  go_wp2_with fail
  refine hm E ?_;rintro x X ⟨rfl,G⟩;go_wp2;go_ret;exact⟨rfl,G⟩
 |false=>?_
 cases ZY:a.sign==45 with
 |true=>
  have D:Hid (Ch.act t p a=Ch.mQ t p a):=by simp[Hid,Ch.act,I,J,U,Y,YX,ZY]
  rw[D.out];have E:=af (mE b ab t p a e f sv tv bv uv w h F O);clear D h F
  go_enter func273,ntmps273
  go_wp2_with fail
  refine hm E ?_;rintro x X ⟨rfl,G⟩;go_wp2;go_ret;exact⟨rfl,G⟩
 |false=>?_
 cases Z:a.sign==61 with
 |true=>
  have D:Hid (Ch.act t p a=Ch.mQ t p a):=by simp[Hid,Ch.act,I,J,U,Y,YX,ZY,Z]
  rw[D.out];have E:=af (mE b ab t p a e f sv tv bv uv w h F O);clear D h F
  go_enter func273,ntmps273
  go_wp2_with fail
  refine hm E ?_;rintro x X ⟨rfl,G⟩;go_wp2;go_ret;exact⟨rfl,G⟩
 |false=>?_
 have D:Hid (Ch.act t p a=(false,a,p)):=by simp[Hid,Ch.act,I,J,U,Y,YX,ZY,Z]
 rw[D.out];have E:=af (ae h F);clear D h F
 go_enter func273,ntmps273
 go_wp2;go_ret;exact⟨rfl,E.out.1,E.out.2,Kp.refl _ _⟩
end
theorem QP:(prog.info? 255).map (λi=>(i.zero,i.size,i.bytes))=some (some (.agg #[.int .u8 0,.int .u8 0,.int .i64 0]),3,16):=by kernel_rfl
theorem Ch.NC{t:ByteArray}{cl:Int}(D:cl≠0):∀(n p:Nat) (l:List Ch.Ac),p<=t.size->p<=(Ch.iP t cl n p l).2.2/\(Ch.iP t cl n p l).2.2<=t.size:=by
 intro n
 induction n with
 |zero=>intro p l E;exact⟨aC _,E⟩
 |succ n O=>?_
 intro p l E;have I:=Ch.pY E 0 0;have J:=(Ch.Ux t p ⟨Ch.ag t p,0,0⟩).1
 cases F:Ch.ag t p==cl with
 |true=>
  rw[Ch.oS F];have:=Ch.dy D F;grind
 |false=>?_
 cases G:(Ch.act t p ⟨Ch.ag t p,0,0⟩).1 with
 |false=>grind[Ch.tz]
 |true=>?_
 grind[Ch.qR,Ch.act,Ch.ag]
theorem Ch.u9{t:ByteArray}{cl:Int}{p:Nat}(E:p<=t.size)(D:cl≠0:=by decide):p<=(Ch.bD t cl p).2.2/\(Ch.bD t cl p).2.2<=t.size:=Ch.NC D _ _ _ E
section
variable (b:Nat) (t:ByteArray) (p:Nat) (e f sv tv bv uv:Value) (w:World)
theorem u_(cl:Int)(h:dG w b t p e f sv tv bv uv)(hp:p<=t.size)(ht:t.size<=240)(ad:cl≠0):
 Calls prog 251 #[.pointer (some ⟨b,0,none⟩),.int .u8 cl] w λx w'=>∃v,x= .returned (.tuple #[v,.bool (Ch.bD t cl p).1])/\
  dG w' b t (Ch.bD t cl p).2.2 e f sv tv bv uv/\w'.ownsRow w.heap.size 255 3 v (Ch.bD t cl p).2.1.length (gT (Ch.bD t cl p).2.1)/\Kp (λk=>k=b) w w'/\
  (Ch.bD t cl p).2.2<=t.size:=by
 obtain⟨i0,hi,am,ao,ap⟩:=bY QP;have Hb:=af h.lt
 go_enter func251,ntmps251
 go_wp2_with fail
 go_loopg [6] (t.size+1) (λk v wr=>∃D l,Hid (Ch.bD t cl p=Ch.iP t cl k D l)/\D<=t.size/\t.size+1<=k+D/\dG wr b t D e f sv tv bv uv/\
  wr.ownsRow w.heap.size 255 3 v l.length (gT l)/\l.length<=D/\Kp (λk=>k=b) w wr)
 case atStart=>exact⟨p,[],af rfl,hp,by omega,h,bT _ _ _ _,by simp,Kp.refl _ _⟩
 case round=>
  obtain⟨D,l,HE,aa,hk,h1,ho,hl,K1⟩:=hrel
  obtain⟨k,rfl⟩:∃k,gk=k+1:=⟨gk-1,by omega⟩
  clear h hp
  cases J:Ch.ag t D==cl with
  |true=>
   have HF:=af (HE.out.trans (Ch.oS J));have aj:=Ch.dy ad J;have E:=af (pZ b t D e f sv tv bv uv wr cl h1 (by omega));rw[J]at E;clear h1 J HE
   go_wp2_with fail
   refine hm E ?_;rintro x w1 ⟨rfl,F,O⟩;have o2:=O.owns ho (λk hk e=>by have:=(ho.lt k hk).1;have:=Hb.out;omega);have K3:=K1.trans O;clear ho K1 O E;go_wp2;go_ret2;exact⟨_,by rw[HF.out];exact⟨rfl,F,o2,K3,(by show D+1<=t.size;omega)⟩⟩
  |false=>?_
  cases ca:(Ch.act t D ⟨Ch.ag t D,0,0⟩).1 with
  |false=>
   have HF:=af (HE.out.trans (Ch.tz J ca));have E:=af (pZ b t D e f sv tv bv uv wr cl h1 (by omega));rw[J]at E;have HA:=af (ae J ca);clear h1 J ca HE
   go_wp2_with fail
   refine hm E ?_;rintro x w1 ⟨rfl,F,O⟩;have F:dG _ _ _ D _ _ _ _ _ _:=F;have o2:=O.owns ho (λk hk e=>by have:=(ho.lt k hk).1;have:=Hb.out;omega);have K3:=K1.trans O;clear ho K1 O E
   go_wp2_with fail
   refine(bC b t D _ F.text F.pos).mono ?_;rintro x I ⟨rfl,n2,rfl⟩;have h3:=F.drewN n2;have Y:(w1.drewN n2).ownsRow _ _ _ _ _ _:=o2;have Z:=K3.drewN n2;generalize w1.drewN n2=I at h3 Y Z⊢;clear F o2 K3
   go_wp2_with fail
   have hA:mB (I.alloc (.cells #[.int .u8 (Ch.ag t D),.int .u8 0,.int .i64 0] 255)) _ ⟨Ch.ag t D,0,0⟩:=an I _;have h4:dG (I.alloc (.cells #[.int .u8 (Ch.ag t D),.int .u8 0,.int .i64 0] 255)) b t D e f sv tv bv uv:=h3.az (S:=λ_=>False) ((Kp.refl _ _).alloc _) (λx=>x);have o4:=Y.alloc (.cells #[.int .u8 (Ch.ag t D),.int .u8 0,.int .i64 0] 255);have K5:=Z.alloc (.cells #[.int .u8 (Ch.ag t D),.int .u8 0,.int .i64 0] 255);have iG:=Z.size
   have G:=λk hk=>(Y.lt k hk).2
   have X:=λk hk=>(Y.lt k hk).1
   generalize I.alloc (.cells #[.int .u8 (Ch.ag t D),.int .u8 0,.int .i64 0] 255)=w3 at hA h4 o4 K5⊢;generalize I.heap.size=ab at hA iG G⊢;clear h3 Y Z;have E:=af (I7 b ab t D ⟨Ch.ag t D,0,0⟩ e f sv tv bv uv w3 h4 hA (by omega));rw[HA.out.2]at E;refine hm E ?_;rintro x w4 ⟨rfl,h5,a5,K6⟩;have o5:=K6.owns o4 (λk hk U=>by have:=G k hk;have:=X k hk;have:=Hb.out;omega);have K7:=K5.trans' K6 (λi hi U=>by rcases U with U|U;exact U;omega);have hs:=Ch.pY aa 0 0;clear E hA h4 o4 K5 K6 G X;go_wp2;go_ret2;exact⟨_,by rw[HF.out];exact⟨rfl,h5,bT _ _ _ _,K7,hs⟩⟩
  |true=>?_
  have HF:=af (HE.out.trans (Ch.qR J ca));have E:=af (pZ b t D e f sv tv bv uv wr cl h1 (by omega));rw[J]at E;have HA:=af (ae J ca);clear h1 J ca HE
  go_wp2_with fail
  refine hm E ?_;rintro x w1 ⟨rfl,F,O⟩;have F:dG _ _ _ D _ _ _ _ _ _:=F;have o2:=O.owns ho (λk hk e=>by have:=(ho.lt k hk).1;have:=Hb.out;omega);have K3:=K1.trans O;clear ho K1 O E
  go_wp2_with fail
  refine(bC b t D _ F.text F.pos).mono ?_;rintro x I ⟨rfl,n2,rfl⟩;have h3:=F.drewN n2;have Y:(w1.drewN n2).ownsRow _ _ _ _ _ _:=o2;have Z:=K3.drewN n2;generalize w1.drewN n2=I at h3 Y Z⊢;clear F o2 K3
  go_wp2_with fail
  have hA:mB (I.alloc (.cells #[.int .u8 (Ch.ag t D),.int .u8 0,.int .i64 0] 255)) _ ⟨Ch.ag t D,0,0⟩:=an I _;have h4:dG (I.alloc (.cells #[.int .u8 (Ch.ag t D),.int .u8 0,.int .i64 0] 255)) b t D e f sv tv bv uv:=h3.az (S:=λ_=>False) ((Kp.refl _ _).alloc _) (λx=>x);have o4:=Y.alloc (.cells #[.int .u8 (Ch.ag t D),.int .u8 0,.int .i64 0] 255);have K5:=Z.alloc (.cells #[.int .u8 (Ch.ag t D),.int .u8 0,.int .i64 0] 255);have iG:=Z.size
  have G:=λk hk=>(Y.lt k hk).2
  have X:=λk hk=>(Y.lt k hk).1
  generalize I.alloc (.cells #[.int .u8 (Ch.ag t D),.int .u8 0,.int .i64 0] 255)=w3 at hA h4 o4 K5⊢;generalize I.heap.size=ab at hA iG G⊢;clear h3 Y Z;have E:=af (I7 b ab t D ⟨Ch.ag t D,0,0⟩ e f sv tv bv uv w3 h4 hA (by omega));rw[HA.out.2]at E;refine hm E ?_;rintro x w4 ⟨rfl,h5,a5,K6⟩;have o5:=K6.owns o4 (λk hk U=>by have:=G k hk;have:=X k hk;have:=Hb.out;omega);have K7:=K5.trans' K6 (λi hi U=>by rcases U with U|U;exact U;omega);have hs:=Ch.pY aa 0 0;clear E hA h4 o4 K5 K6 G X;have ZZ:=Ch.xM HA.out.2;have m0:=a5.c0;have m1:=a5.c1;have m2:=a5.c2;generalize Ch.act t D ⟨Ch.ag t D,0,0⟩=r at HF h5 a5 hs ZZ m0 m1 m2;obtain⟨ok,a1,p2⟩:=r
  go_wp2_with (at_builtin;refine hJ _ rfl (.tmp 22) (.tmp 24) 207 rfl w.heap.size 255 i0 (.agg #[.int .u8 0,.int .u8 0,.int .i64 0]) 3 16 underlying207 hi am ao ap rfl (by decide) _ _ _ rfl (o5.alloc _) ⟨w4.heap.size,0,none⟩ 1 1 [.int .u8 a1.sign,.int .u8 a1.aF,.int .i64 a1.digit] rfl rfl ?c1 ?c2 ?c3 ?c4 ?c5 ?_)
  case c1=>exact Gs _ _ _ _ _
  case c2=>intro u hu;simp at hu;rcases hu with rfl|rfl|rfl<;>rfl
  case c3=>unfold maxLen;omega
  case c4=>omega
  case c5=>have:=K7.size;simp;omega
  intro v' w5 o6 g6 _;have K8:=(K7.alloc _).grown g6 (λk hk aj=>by have:=(o5.lt k hk).1;omega);have h6:=(h5.az (S:=λ_=>False) ((Kp.refl _ _).alloc _) (λx=>x)).az (S:=λk=>u6.ownBlock=some k) ((Kp.refl _ _).grown g6 (λk hk _=>hk)) (λhk=>by have:=(o5.lt _ hk).1;have:=Hb.out;omega);rw[<-BV]at o6;clear o5 g6 K7 h5 a5 m0 m1 m2 HA;go_wp2
  go_roundg k
  case measure=>omega
  case rel=>exact⟨p2,l++[a1],HF,hs,by omega,h6,by simpa using o6,by simp;omega,K8⟩
end
theorem ij{w:World}{base:Nat}{e:TypeId}{size:Nat}{v:Value}{n:Nat}{xs:List Value}(h:w.ownsRow base e size v n xs)(E:0<n):
 ∃g cap,v= .slice (some ⟨g,0,none⟩) n cap:=by
 rcases h.2 with⟨_,D⟩|⟨g,cap,_,h,_⟩
 ·omega
 simp_all
theorem gZ{P:Program}{J:Array Oper}{o:Oper}{a:Act}{w:World}{K:Act->World->Prop}{Q:Exit->Act->World->Prop}{E:Prop}
 (hg:o.guard=none) (s x:Operand) (t:TypeId) (X:o.op=Op.call {callee:=Callee.builtin Builtin.append,args:=#[s,x],argTypes:=#[t,t]})
 (base:Nat) (e:TypeId) (i:TypeInfo) (z:Value) (size bytes:Nat) (h1:P.underlying t=some (.slice e)) (h2:P.info? e=some i) (h3:i.zero=some z) (h4:i.size=size) (h5:i.bytes=bytes) (h6:z.cells.size=size) (h7:0<size)
 (v:Value) (n:Nat) (xs:List Value) (hs:a.eval s=v) (G:w.ownsRow base e size v n xs)
 (O:Addr) (m c:Nat) (D:List Value) (hx:a.eval x= .slice (some O) m c) (hn:D.length=m*size) (hc:∀j u,D[j]? =some u->w.cell? (O.add j)=some u) (U:∀u∈D,u.oneCell'=true)
 (hm:0<m) (Z:n+m<=maxLen) (b2:(n+m)*bytes<=140737488355328) (F:base<=w.heap.size)
 (hK:∀g cap w',w'.ownsRow base e size (.slice (some ⟨g,0,none⟩) (n+m) cap) (n+m) (xs++D)->w.grownBy w' v.ownBlock->K (a.put o.dst (.slice (some ⟨g,0,none⟩) (n+m) cap)) w'):
 if Region.wanted o (yielded J a.tmps)=true then Oper.wp P o a w K Q else E:=by
 have hw:Region.wanted o (yielded J a.tmps)=true:=by simp[Region.wanted,hg]
 rw[aq hw];obtain⟨v',w',I,Y,r2,_⟩:=run_append_own (P:=P) w base t o.type e i z size bytes h1 h2 h3 h4 h5 h6 h7 v n xs G O m c D hn hc U Z b2 F;obtain⟨g,cap,rfl⟩:=ij Y (by omega);unfold Oper.wp;simp[execOp,X,resolve,invoke,builtin,hs,hx,I,Result.andThen];exact hK g cap w' Y r2
theorem bz{w:World}{base:Nat}{e:TypeId}{size:Nat}{v:Value}{n:Nat}{xs:List Value}(h:w.ownsRow base e size v n xs){k:Nat}(hk:v.ownBlock=some k):
 ∃D,w.heap[k]? =some (.cells D e (0,0)):=by
 rcases h.2 with⟨rfl,_⟩|⟨g,cap,D,rfl,_,E,_⟩
 ·simp[Value.ownBlock]at hk
 simp[Value.ownBlock]at hk;simp_all
theorem aZ{w:World}{base:Nat}{e:TypeId}{size:Nat}{v:Value}{n:Nat}{xs:List Value}(h:w.ownsRow base e size v n xs)
 {b:Nat} {c:Array Value} {T:TypeId} {f:Nat×Nat} (hb:w.heap[b]? =some (.cells c T f)) (D:e≠T):v.ownBlock≠some b:=by
 grind[bz]
theorem dp{w:World}{base D:Nat}{e G:TypeId}{size E:Nat}{v I:Value}{n J:Nat}{xs F:List Value}(h:w.ownsRow base e size v n xs)(O:w.ownsRow D G E I J F)
 (U:e≠G):∀k,v.ownBlock=some k->I.ownBlock≠some k:=by
 grind[bz,aZ]
theorem dY{w:World}{base D:Nat}{e:TypeId}{size:Nat}{v:Value}{n:Nat}{xs:List Value}(h:w.ownsRow base e size v n xs)(hb:D<=base):w.ownsRow D e size v n xs:=by
 refine⟨h.1,?_⟩
 rcases h.2 with h|⟨g,cap,E,G,F,r⟩
 ·simp_all
 exact .inr ⟨g,cap,E,G,bA hb F,r⟩
theorem lP(w:World)(x y:Value)(T:TypeId):∀j u,[x,y][j]? =some u->(w.alloc (.cells #[x,y] T)).cell? ((⟨w.heap.size,0,none⟩:Addr).add j)=some u:=by
 intro j u D
 match j,D with
 |0,D=>simp at D;subst D;simp[Addr.add]
 |1,D=>simp at D;subst D;simp[Addr.add]
def ik(l:List Ch.Us):List Value:=l.flatMap λa=>[.int .u8 a.name,.int .i64 a.pos]
theorem BY(l:List Ch.Us)(a:Ch.Us):ik (l++[a])=ik l++[.int .u8 a.name,.int .i64 a.pos]:=by simp[ik]
theorem QQ:(prog.info? 242).map (λi=>(i.zero,i.size,i.bytes))=some (some (.agg #[.int .u8 0,.int .i64 0]),2,16):=by kernel_rfl
def Ch.mF(c:Int):Bool:=c==46||Ch.ez c||Ch.dS c
def Ch.ns(c:Int):Bool:=c==45||Ch.dS c
def Ch.dJ(c:Int)(p:Nat)(us:List Ch.Us):List Ch.Us:=if Ch.dS c then us++[⟨c,p⟩]else us
section
variable (B b:Nat) (t:ByteArray) (p:Nat) (e f sv tv bv uv:Value) (w:World)
theorem jL(c:Int)(us:List Ch.Us)(h:dG w b t p e f sv tv bv uv)(O:w.ownsRow B 242 2 uv us.length (ik us))(hB:B<=w.heap.size)(hl:us.length<=1000):
 Calls prog 269 #[.pointer (some ⟨b,0,none⟩),.int .u8 c] w λx w'=>x= .returned (.tuple #[])/\∃I,dG w' b t p e f sv tv bv I/\
  w'.ownsRow B 242 2 I (Ch.dJ c p us).length (ik (Ch.dJ c p us))/\Kp (λk=>k=b\/uv.ownBlock=some k) w w':=by
 cases F:Ch.dS c with
 |false=>
  have U:=af (show Ch.dJ c p us=us by simp[Ch.dJ,F]);have E:=af (jK c w);rw[F]at E;clear F
  go_enter func269,ntmps269
  go_wp2_with fail
  refine hm E ?_;rintro x w1 ⟨rfl,rfl⟩;go_wp2
  go_end0
  exact⟨rfl,uv,h,by rw[U.out];exact O,Kp.refl _ _⟩
 |true=>?_
 have U:=af (show Ch.dJ c p us=us++[⟨c,p⟩]by simp[Ch.dJ,F]);have E:=af (jK c w);rw[F]at E;clear F;obtain⟨i0,hi,Z,aa,ad⟩:=bY QQ;have c1:=h.pos;have c7:=h.c7
 have aj:=λo=>(h.alloc o).c7
 have f7:=h.free 7;have Y:=af (aZ O h (by decide));have H:=af (ae h O);clear h O
 go_enter func269,ntmps269
 go_wp2_with fail
 refine hm E ?_;rintro x w1 ⟨rfl,rfl⟩;clear E;go_wp2
 go_region_law (refine gZ rfl (.tmp 10) (.tmp 17) 141 rfl B 242 i0 (.agg #[.int .u8 0,.int .i64 0]) 2 16 underlying141 hi Z aa ad rfl (by decide) uv us.length (ik us) (by simp[Act.eval]) (by exact H.out.2.alloc _) ⟨w1.heap.size,0,none⟩ 1 1 [.int .u8 c,.int .i64 p] (by simp[Act.eval]) rfl (by exact lP _ _ _ _) (by intro u hu;simp at hu;rcases hu with rfl|rfl<;>rfl) (by decide) (by unfold maxLen;omega) (by omega) (by simp;omega) ?_;intro g cap w2 G g2;have D:dG w2 b t p e f sv tv bv uv:=dG.grown (by exact H.out.1.alloc (.cells #[.int .u8 c,.int .i64 p] 242)) g2 Y.out;have J:Kp (λk=>k=b\/uv.ownBlock=some k) w1 w2:=Kp.grown (by exact((Kp.refl _ _).alloc (.cells #[.int .u8 c,.int .i64 p] 242)).drew) g2 (λk hk _=>Or.inr hk);have x1:=D.c7;have x2:=D.free 7;have H2:=af (ae D (ae G J));clear D G J g2)
 all_goals
  obtain⟨D,G,J⟩:=H2.out;have X:=aZ G D (by decide)
  go_end0
  refine⟨rfl,_,D.ZX _,?_,J.setCell (by intro _;exact Or.inl rfl) _⟩;rw[U.out,BY];have o3:=k8 G (a:=⟨b,7,none⟩) X (.slice (some ⟨g,0,none⟩) (us.length+1) cap);simpa using o3
theorem oU(us:List Ch.Us)(h:dG w b t p e f sv tv bv uv)(X:w.ownsRow B 242 2 uv us.length (ik us))(hB:B<=w.heap.size)(hl:us.length<=1000)(hp:p<=1000):
 Calls prog 249 #[.pointer (some ⟨b,0,none⟩)] w λx w'=>x= .returned (.bool (Ch.mF (Ch.ag t p)))/\∃D,dG w' b t (Ch.cL (Ch.mF (Ch.ag t p)) p) e f sv tv bv D/\
  w'.ownsRow B 242 2 D (Ch.dJ (Ch.ag t p) p us).length (ik (Ch.dJ (Ch.ag t p) p us))/\Kp (λk=>k=b\/uv.ownBlock=some k) w w':=by
 have U:=af (bC b t p w h.text h.pos);generalize Ch.ag t p=c at U⊢
 cases q1:c==46 with
 |true=>
  rw[show Ch.mF c=true by simp[Ch.mF,q1]]
  go_enter func249,ntmps249
  go_wp2_with fail
  refine hm U ?_;rintro x w1 ⟨rfl,O,rfl⟩;clear U
  go_wp2_with fail
  refine(jL B b t p e f sv tv bv uv _ c us (h.drewN O) (by exact X) (by exact hB) hl).mono ?_;rintro x w2 ⟨rfl,D,G,I,E⟩;have E:=((Kp.refl _ _).drewN O).trans E;clear h X
  go_wp2_with fail
  refine(iK b t p e f sv tv bv D w2 _ G hp).mono ?_;rintro x w3 ⟨rfl,h3,F⟩;have o3:=F.owns I (λk hk e=>by subst e;exact aZ I G (by decide) hk);have Z:=E.trans' F (λi _ e=>Or.inl e);clear G I E F;go_wp2;go_ret;exact⟨rfl,D,h3,o3,Z⟩
 |false=>?_
 cases q2:Ch.ez c with
 |true=>
  rw[show Ch.mF c=true by simp[Ch.mF,q1,q2]]
  go_enter func249,ntmps249
  go_wp2_with fail
  refine hm U ?_;rintro x w1 ⟨rfl,O,rfl⟩;clear U
  go_wp2_with fail
  refine(jL B b t p e f sv tv bv uv _ c us (h.drewN O) (by exact X) (by exact hB) hl).mono ?_;rintro x w2 ⟨rfl,D,G,I,E⟩;have E:=((Kp.refl _ _).drewN O).trans E;clear h X
  go_wp2_with fail
  have J:=me c w2;rw[q2]at J;refine J.mono ?_;rintro x w9 ⟨rfl,rfl⟩;clear J
  go_wp2_with fail
  refine(iK b t p e f sv tv bv D w9 _ G hp).mono ?_;rintro x w3 ⟨rfl,h3,F⟩;have o3:=F.owns I (λk hk e=>by subst e;exact aZ I G (by decide) hk);have Z:=E.trans' F (λi _ e=>Or.inl e);clear G I E F;go_wp2;go_ret;exact⟨rfl,D,h3,o3,Z⟩
 |false=>?_
 cases q3:Ch.dS c with
 |true=>
  rw[show Ch.mF c=true by simp[Ch.mF,q1,q2,q3]]
  go_enter func249,ntmps249
  go_wp2_with fail
  refine hm U ?_;rintro x w1 ⟨rfl,O,rfl⟩;clear U
  go_wp2_with fail
  refine(jL B b t p e f sv tv bv uv _ c us (h.drewN O) (by exact X) (by exact hB) hl).mono ?_;rintro x w2 ⟨rfl,D,G,I,E⟩;have E:=((Kp.refl _ _).drewN O).trans E;clear h X
  go_wp2_with fail
  have J:=me c w2;rw[q2]at J;refine J.mono ?_;rintro x w9 ⟨rfl,rfl⟩;clear J
  go_wp2_with fail
  have Y:=jK c w9;rw[q3]at Y;refine Y.mono ?_;rintro x w8 ⟨rfl,rfl⟩;clear Y
  go_wp2_with fail
  refine(iK b t p e f sv tv bv D w8 _ G hp).mono ?_;rintro x w3 ⟨rfl,h3,F⟩;have o3:=F.owns I (λk hk e=>by subst e;exact aZ I G (by decide) hk);have Z:=E.trans' F (λi _ e=>Or.inl e);clear G I E F;go_wp2;go_ret;exact⟨rfl,D,h3,o3,Z⟩
 |false=>?_
 rw[show Ch.mF c=false by simp[Ch.mF,q1,q2,q3]]
 go_enter func249,ntmps249
 go_wp2_with fail
 refine hm U ?_;rintro x w1 ⟨rfl,O,rfl⟩;clear U
 go_wp2_with fail
 refine(jL B b t p e f sv tv bv uv _ c us (h.drewN O) (by exact X) (by exact hB) hl).mono ?_;rintro x w2 ⟨rfl,D,G,I,E⟩;have E:=((Kp.refl _ _).drewN O).trans E;clear h X
 go_wp2_with fail
 have J:=me c w2;rw[q2]at J;refine J.mono ?_;rintro x w9 ⟨rfl,rfl⟩;clear J
 go_wp2_with fail
 have Y:=jK c w9;rw[q3]at Y;refine Y.mono ?_;rintro x w8 ⟨rfl,rfl⟩;clear Y
 go_wp2_with fail
 refine(iK b t p e f sv tv bv D w8 _ G hp).mono ?_;rintro x w3 ⟨rfl,h3,F⟩;have o3:=F.owns I (λk hk e=>by subst e;exact aZ I G (by decide) hk);have Z:=E.trans' F (λi _ e=>Or.inl e);clear G I E F;go_wp2;go_ret;exact⟨rfl,D,h3,o3,Z⟩
theorem Gv(us:List Ch.Us)(h:dG w b t p e f sv tv bv uv)(X:w.ownsRow B 242 2 uv us.length (ik us))(hB:B<=w.heap.size)(hl:us.length<=1000)(hp:p<=1000):
 Calls prog 252 #[.pointer (some ⟨b,0,none⟩)] w λx w'=>x= .returned (.bool (Ch.ns (Ch.ag t p)))/\∃D,dG w' b t (Ch.cL (Ch.ns (Ch.ag t p)) p) e f sv tv bv D/\
  w'.ownsRow B 242 2 D (Ch.dJ (Ch.ag t p) p us).length (ik (Ch.dJ (Ch.ag t p) p us))/\Kp (λk=>k=b\/uv.ownBlock=some k) w w':=by
 have O:=af (bC b t p w h.text h.pos);generalize Ch.ag t p=c at O⊢
 cases q1:c==45 with
 |true=>
  rw[show Ch.ns c=true by simp[Ch.ns,q1]]
  go_enter func252,ntmps252
  go_wp2_with fail
  refine hm O ?_;rintro x w1 ⟨rfl,J,rfl⟩;clear O
  go_wp2_with fail
  refine(jL B b t p e f sv tv bv uv _ c us (h.drewN J) (by exact X) (by exact hB) hl).mono ?_;rintro x w2 ⟨rfl,D,G,I,E⟩;have E:=((Kp.refl _ _).drewN J).trans E;clear h X
  go_wp2_with fail
  refine(iK b t p e f sv tv bv D w2 _ G hp).mono ?_;rintro x w3 ⟨rfl,Z,F⟩;have o3:=F.owns I (λk hk e=>by subst e;exact aZ I G (by decide) hk);have Y:=E.trans' F (λi _ e=>Or.inl e);clear G I E F;go_wp2;go_ret;exact⟨rfl,D,Z,o3,Y⟩
 |false=>?_
 cases q3:Ch.dS c with
 |true=>
  rw[show Ch.ns c=true by simp[Ch.ns,q1,q3]]
  go_enter func252,ntmps252
  go_wp2_with fail
  refine hm O ?_;rintro x w1 ⟨rfl,J,rfl⟩;clear O
  go_wp2_with fail
  refine(jL B b t p e f sv tv bv uv _ c us (h.drewN J) (by exact X) (by exact hB) hl).mono ?_;rintro x w2 ⟨rfl,D,G,I,E⟩;have E:=((Kp.refl _ _).drewN J).trans E;clear h X
  go_wp2_with fail
  have U:=jK c w2;rw[q3]at U;refine U.mono ?_;rintro x w8 ⟨rfl,rfl⟩;clear U
  go_wp2_with fail
  refine(iK b t p e f sv tv bv D w8 _ G hp).mono ?_;rintro x w3 ⟨rfl,Z,F⟩;have o3:=F.owns I (λk hk e=>by subst e;exact aZ I G (by decide) hk);have Y:=E.trans' F (λi _ e=>Or.inl e);clear G I E F;go_wp2;go_ret;exact⟨rfl,D,Z,o3,Y⟩
 |false=>?_
 rw[show Ch.ns c=false by simp[Ch.ns,q1,q3]]
 go_enter func252,ntmps252
 go_wp2_with fail
 refine hm O ?_;rintro x w1 ⟨rfl,J,rfl⟩;clear O
 go_wp2_with fail
 refine(jL B b t p e f sv tv bv uv _ c us (h.drewN J) (by exact X) (by exact hB) hl).mono ?_;rintro x w2 ⟨rfl,D,G,I,E⟩;have E:=((Kp.refl _ _).drewN J).trans E;clear h X
 go_wp2_with fail
 have U:=jK c w2;rw[q3]at U;refine U.mono ?_;rintro x w8 ⟨rfl,rfl⟩;clear U
 go_wp2_with fail
 refine(iK b t p e f sv tv bv D w8 _ G hp).mono ?_;rintro x w3 ⟨rfl,Z,F⟩;have o3:=F.owns I (λk hk e=>by subst e;exact aZ I G (by decide) hk);have Y:=E.trans' F (λi _ e=>Or.inl e);clear G I E F;go_wp2;go_ret;exact⟨rfl,D,Z,o3,Y⟩
end
def oV(w:World)(tb:Nat)(s tg:Int)(g:Ch.Gd)(ac:Value)(ta:Int):Prop:=
 w.heap[tb]? =some (.cells #[.int .i64 s,.int .u8 tg,.int .u8 g.var,.int .u8 g.sign,.int .i64 g.digit,ac,.int .u8 ta] 209 (0,0))
section
variable {w:World} {tb:Nat} {s tg:Int} {g:Ch.Gd} {ac:Value} {ta:Int}
theorem oV.cell(h:oV w tb s tg g ac ta)(i:Nat):w.cell? ⟨tb,i,none⟩= #[.int .i64 s,.int .u8 tg,.int .u8 g.var,.int .u8 g.sign,.int .i64 g.digit,ac,.int .u8 ta][i]?:=by unfold oV at h;simp[World.cell?,h]
theorem oV.free(h:oV w tb s tg g ac ta)(i:Nat):w.frozen? ⟨tb,i,none⟩=false:=by unfold oV at h;simp[World.frozen?,h]
theorem oV.yc(h:oV w tb s tg g ac ta)(x:Int):oV (w.setCell ⟨tb,2,none⟩ (.int .u8 x)) tb s tg {g with var:=x} ac ta:=by unfold oV at*;rw[ak _ h];rfl
theorem oV.Uz(h:oV w tb s tg g ac ta)(x:Int):oV (w.setCell ⟨tb,3,none⟩ (.int .u8 x)) tb s tg {g with sign:=x} ac ta:=by unfold oV at*;rw[ak _ h];rfl
theorem oV.Uy(h:oV w tb s tg g ac ta)(x:Int):oV (w.setCell ⟨tb,4,none⟩ (.int .i64 x)) tb s tg {g with digit:=x} ac ta:=by unfold oV at*;rw[ak _ h];rfl
theorem oV.vY(h:oV w tb s tg g ac ta)(x:Value):oV (w.setCell ⟨tb,5,none⟩ x) tb s tg g x ta:=by unfold oV at*;rw[ak _ h];rfl
theorem oV.ya(h:oV w tb s tg g ac ta)(x:Int):oV (w.setCell ⟨tb,6,none⟩ (.int .u8 x)) tb s tg g ac x:=by unfold oV at*;rw[ak _ h];rfl
theorem oV.az{S:Nat->Prop}{w':World}(h:oV w tb s tg g ac ta)(k:Kp S w w')(hs:¬S tb):oV w' tb s tg g ac ta:=Kp.at_ k h hs
theorem oV.drewN(h:oV w tb s tg g ac ta)(n:Nat):oV (w.drewN n) tb s tg g ac ta:=h
theorem oV.lt(h:oV w tb s tg g ac ta):tb<w.heap.size:=aR h
theorem oV.ne{b:Nat}{t:ByteArray}{p:Nat}{e f sv tv bv uv:Value}(h:oV w tb s tg g ac ta)(k:dG w b t p e f sv tv bv uv):tb≠b:=by
 grind[oV,dG]
end
theorem dG.xz{w:World}{b:Nat}{t:ByteArray}{p:Nat}{e f sv tv bv uv:Value}(h:dG w b t p e f sv tv bv uv){k:Nat}(hk:k≠b)(o:Nat)(v:Value):
 dG (w.setCell ⟨k,o,none⟩ v) b t p e f sv tv bv uv:=h.az (S:=λi=>i=k) ((Kp.refl _ _).setCell (by intro _;rfl) _) (iX hk)
def Ch.pw(c:Int):Bool:=c==60||c==61||c==62
theorem Ch.Gw(c:Int):((c==60)=true/\Ch.pw c=true)\/((c==60)=false/\(c==61)=true/\Ch.pw c=true)\/
 ((c==60)=false/\(c==61)=false/\(c==62)=true/\Ch.pw c=true)\/((c==60)=false/\(c==61)=false/\(c==62)=false/\Ch.pw c=false):=by
 grind[Ch.pw]
def Ch.guard(t:ByteArray)(p:Nat)(g:Ch.Gd):Bool×Ch.Gd×Nat:=
 if Ch.ag t p==63 then
  if Ch.jw (Ch.ag t (p+1))then
   if Ch.pw (Ch.ag t (p+2))then
    (Ch.iw 48 (Ch.ag t (p+3)),⟨Ch.ag t (p+1),Ch.ag t (p+2),Ch.ag t (p+3)-48⟩,Ch.cL (Ch.iw 48 (Ch.ag t (p+3))) (p+3))
   else(false,{g with var:=Ch.ag t (p+1),sign:=Ch.ag t (p+2)},p+2)
  else(false,{g with var:=Ch.ag t (p+1)},p+1)
 else(true,g,p)
theorem Ch.sf{t:ByteArray}{p:Nat}(g:Ch.Gd)(G:p<=t.size):p<=(Ch.guard t p g).2.2/\(Ch.guard t p g).2.2<=t.size:=by
 unfold Ch.guard
 split
 ·rename_i D
  have I:=Ch.dy (by decide) D
  split
  ·rename_i E
   have J:=Ch.lN E
   split
   ·rename_i F
    have O:p+2<t.size:=by
     grind[Ch.cY,Ch.pw]
    have U:=Ch.jJ (t:=t) (ok:=Ch.iw 48 (Ch.ag t (p+3))) (p:=p+3) (by omega) (Ch.nZ (by omega));grind[Ch.lM,Ch.iw,Ch.ag,Ch.cL]
   grind
  grind
 simp_all
section
variable (b tb:Nat) (t:ByteArray) (p:Nat) (s tg ta:Int) (g:Ch.Gd) (ac e f sv tv bv uv:Value) (w:World)
theorem vZ(h:dG w b t p e f sv tv bv uv)(T:oV w tb s tg g ac ta)(hp:p<=900):
 Calls prog 250 #[.pointer (some ⟨b,0,none⟩),.pointer (some ⟨tb,2,none⟩)] w λx w'=>x= .returned (.bool (Ch.guard t p g).1)/\
  dG w' b t (Ch.guard t p g).2.2 e f sv tv bv uv/\oV w' tb s tg (Ch.guard t p g).2.1 ac ta/\Kp (λk=>k=b\/k=tb) w w':=by
 have F:=T.ne h
 have Kt:∀w',Kp (λk=>k=b) w w'->oV w' tb s tg g ac ta:=λw' k=>T.az k F
 have E:=af (pZ b t p e f sv tv bv uv w 63 h (by omega))
 cases q0:Ch.ag t p==63 with
 |false=>
  rw[show Ch.guard t p g=(true,g,p)by simp[Ch.guard,q0]];rw[q0]at E;clear q0
  go_enter func250,ntmps250
  go_wp2_with fail
  refine hm E ?_;rintro x w1 ⟨rfl,J,D⟩;have T1:=T.az D F;have K1:Kp (λk=>k=b\/k=tb) w w1:=D.mono (λ_ _ x=>Or.inl x);clear D E h T Kt;go_wp2;go_ret;exact⟨rfl,J,T1,K1⟩
 |true=>?_
 rw[q0]at E
 cases q1:Ch.jw (Ch.ag t (p+1))with
 |false=>
  rw[show Ch.guard t p g=(false,{g with var:=Ch.ag t (p+1)},p+1)by simp[Ch.guard,q0,q1]];have q1:=af q1;clear q0
  go_enter func250,ntmps250
  go_wp2_with fail
  refine hm E ?_;rintro x w1 ⟨rfl,J,D⟩;have T1:=T.az D F;have K1:Kp (λk=>k=b\/k=tb) w w1:=D.mono (λ_ _ x=>Or.inl x);clear D E h T Kt;have J:dG w1 b t (p+1) e f sv tv bv uv:=J
  go_wp2_with fail
  refine(bC b t (p+1) _ J.text J.pos).mono ?_;rintro x wx ⟨rfl,G,rfl⟩;have U:=J.drewN G;have I:=T1.drewN G;have O:=K1.drewN G;generalize w1.drewN G=w2 at U I O⊢;clear J T1 K1;have Z:=I.cell 2;have ff:=I.free 2;simp only[gf,gh,gq]at Z;have X:=af (ae U (ae I O));clear U I O
  go_wp2_with fail
  obtain⟨U,I,O⟩:=X.out;clear X Z ff;have h3:=U.xz F 2 (.int .u8 (Ch.ag t (p+1)));have T3:=I.yc (Ch.ag t (p+1));have K3:Kp _ _ (w2.setCell ⟨tb,2,none⟩ (.int .u8 (Ch.ag t (p+1)))):=O.setCell (by intro _;exact Or.inr rfl) _;generalize w2.setCell ⟨tb,2,none⟩ (.int .u8 (Ch.ag t (p+1)))=w3 at h3 T3 K3⊢;clear U I O
  go_wp2_with fail
  have E:=iL b t (p+1) e f sv tv bv uv w3 h3 (by omega);rw[q1.out]at E;refine bu E ?_;rintro x w4 ⟨rfl,h4,D⟩;have T4:=T3.az D F;have K4:=K3.trans' D (λ_ _ x=>Or.inl x);clear D E h3 T3 K3;go_wp2;go_ret;exact⟨rfl,h4,T4,K4⟩
 |true=>?_
 have q1:=af q1
 rcases Ch.Gw (Ch.ag t (p+2))with⟨b1,q2⟩|⟨b1,b2,q2⟩|⟨b1,b2,b3,q2⟩|⟨b1,b2,b3,q2⟩
 case inr.inr.inr=>
  rw[show Ch.guard t p g=(false,{g with var:=Ch.ag t (p+1),sign:=Ch.ag t (p+2)},p+2)by simp[Ch.guard,q0,q1.out,q2]];clear q0 q2
  go_enter func250,ntmps250
  go_wp2_with fail
  refine hm E ?_;rintro x w1 ⟨rfl,J,D⟩;have T1:=T.az D F;have K1:Kp (λk=>k=b\/k=tb) w w1:=D.mono (λ_ _ x=>Or.inl x);clear D E h T Kt;have J:dG w1 b t (p+1) e f sv tv bv uv:=J
  go_wp2_with fail
  refine(bC b t (p+1) _ J.text J.pos).mono ?_;rintro x wx ⟨rfl,G,rfl⟩;have U:=J.drewN G;have I:=T1.drewN G;have O:=K1.drewN G;generalize w1.drewN G=w2 at U I O⊢;clear J T1 K1;have Z:=I.cell 2;have ff:=I.free 2;simp only[gf,gh,gq]at Z;have X:=af (ae U (ae I O));clear U I O
  go_wp2_with fail
  obtain⟨U,I,O⟩:=X.out;clear X Z ff;have h3:=U.xz F 2 (.int .u8 (Ch.ag t (p+1)));have T3:=I.yc (Ch.ag t (p+1));have K3:Kp _ _ (w2.setCell ⟨tb,2,none⟩ (.int .u8 (Ch.ag t (p+1)))):=O.setCell (by intro _;exact Or.inr rfl) _;generalize w2.setCell ⟨tb,2,none⟩ (.int .u8 (Ch.ag t (p+1)))=w3 at h3 T3 K3⊢;clear U I O
  go_wp2_with fail
  have E:=iL b t (p+1) e f sv tv bv uv w3 h3 (by omega);rw[q1.out]at E;refine bu E ?_;rintro x w4 ⟨rfl,h4,D⟩;have T4:=T3.az D F;have K4:=K3.trans' D (λ_ _ x=>Or.inl x);clear D E h3 T3 K3;have h4:dG w4 b t (p+2) e f sv tv bv uv:=h4
  go_wp2_with fail
  refine(bC b t (p+2) _ h4.text h4.pos).mono ?_;rintro x wx ⟨rfl,G,rfl⟩;have h5:=h4.drewN G;have Y:=T4.drewN G;have K5:=K4.drewN G;generalize w4.drewN G=w5 at h5 Y K5⊢;clear h4 T4 K4;have Z:=Y.cell 3;have ff:=Y.free 3;simp only[gf,gh,gq]at Z;have X:=af (ae h5 (ae Y K5));clear h5 Y K5
  go_wp2_with fail
  obtain⟨h5,Y,K5⟩:=X.out;clear X Z ff;have h6:=h5.xz F 3 (.int .u8 (Ch.ag t (p+2)));have T6:=Y.Uz (Ch.ag t (p+2));have K6:Kp _ _ (w5.setCell ⟨tb,3,none⟩ (.int .u8 (Ch.ag t (p+2)))):=K5.setCell (by intro _;exact Or.inr rfl) _;generalize w5.setCell ⟨tb,3,none⟩ (.int .u8 (Ch.ag t (p+2)))=w6 at h6 T6 K6⊢;clear h5 Y K5;refine(iK b t (p+2) e f sv tv bv uv w6 _ h6 (by omega)).mono ?_;rintro x w7 ⟨rfl,h7,D⟩;have T7:=T6.az D F;have K7:=K6.trans' D (λ_ _ x=>Or.inl x);clear D h6 T6 K6;go_wp2;go_ret;exact⟨rfl,h7,T7,K7⟩
 all_goals
  rw[show Ch.guard t p g=(Ch.iw 48 (Ch.ag t (p+3)),⟨Ch.ag t (p+1),Ch.ag t (p+2),Ch.ag t (p+3)-48⟩,Ch.cL (Ch.iw 48 (Ch.ag t (p+3))) (p+3))by simp[Ch.guard,q0,q1.out,q2]];clear q0 q2
  go_enter func250,ntmps250
  go_wp2_with fail
  refine hm E ?_;rintro x w1 ⟨rfl,J,D⟩;have T1:=T.az D F;have K1:Kp (λk=>k=b\/k=tb) w w1:=D.mono (λ_ _ x=>Or.inl x);clear D E h T Kt;have J:dG w1 b t (p+1) e f sv tv bv uv:=J
  go_wp2_with fail
  refine(bC b t (p+1) _ J.text J.pos).mono ?_;rintro x wx ⟨rfl,G,rfl⟩;have U:=J.drewN G;have I:=T1.drewN G;have O:=K1.drewN G;generalize w1.drewN G=w2 at U I O⊢;clear J T1 K1;have Z:=I.cell 2;have ff:=I.free 2;simp only[gf,gh,gq]at Z;have X:=af (ae U (ae I O));clear U I O
  go_wp2_with fail
  obtain⟨U,I,O⟩:=X.out;clear X Z ff;have h3:=U.xz F 2 (.int .u8 (Ch.ag t (p+1)));have T3:=I.yc (Ch.ag t (p+1));have K3:Kp _ _ (w2.setCell ⟨tb,2,none⟩ (.int .u8 (Ch.ag t (p+1)))):=O.setCell (by intro _;exact Or.inr rfl) _;generalize w2.setCell ⟨tb,2,none⟩ (.int .u8 (Ch.ag t (p+1)))=w3 at h3 T3 K3⊢;clear U I O
  go_wp2_with fail
  have E:=iL b t (p+1) e f sv tv bv uv w3 h3 (by omega);rw[q1.out]at E;refine bu E ?_;rintro x w4 ⟨rfl,h4,D⟩;have T4:=T3.az D F;have K4:=K3.trans' D (λ_ _ x=>Or.inl x);clear D E h3 T3 K3;have h4:dG w4 b t (p+2) e f sv tv bv uv:=h4
  go_wp2_with fail
  refine(bC b t (p+2) _ h4.text h4.pos).mono ?_;rintro x wx ⟨rfl,G,rfl⟩;have h5:=h4.drewN G;have Y:=T4.drewN G;have K5:=K4.drewN G;generalize w4.drewN G=w5 at h5 Y K5⊢;clear h4 T4 K4;have Z:=Y.cell 3;have ff:=Y.free 3;simp only[gf,gh,gq]at Z;have X:=af (ae h5 (ae Y K5));clear h5 Y K5
  go_wp2_with fail
  obtain⟨h5,Y,K5⟩:=X.out;clear X Z ff;have h6:=h5.xz F 3 (.int .u8 (Ch.ag t (p+2)));have T6:=Y.Uz (Ch.ag t (p+2));have K6:Kp _ _ (w5.setCell ⟨tb,3,none⟩ (.int .u8 (Ch.ag t (p+2)))):=K5.setCell (by intro _;exact Or.inr rfl) _;generalize w5.setCell ⟨tb,3,none⟩ (.int .u8 (Ch.ag t (p+2)))=w6 at h6 T6 K6⊢;clear h5 Y K5;refine(iK b t (p+2) e f sv tv bv uv w6 _ h6 (by omega)).mono ?_;rintro x w7 ⟨rfl,h7,D⟩;have T7:=T6.az D F;have K7:=K6.trans' D (λ_ _ x=>Or.inl x);clear D h6 T6 K6;have h7:dG w7 b t (p+3) e f sv tv bv uv:=h7
  go_wp2_with fail
  refine(pq b t (p+3) _ h7.text h7.pos).mono ?_;rintro x wx ⟨rfl,G,rfl⟩;have h8:=h7.drewN G;have T8:=T7.drewN G;have K8:=K7.drewN G;generalize w7.drewN G=w8 at h8 T8 K8⊢;clear h7 T7 K7;have Z:=T8.cell 4;have ff:=T8.free 4;simp only[gf,gh,gq]at Z;have X:=af (ae h8 (ae T8 K8));clear h8 T8 K8
  go_wp2_with fail
  obtain⟨h8,T8,K8⟩:=X.out;clear X Z ff;have h9:=h8.xz F 4 (.int .i64 (Ch.ag t (p+3)-48));have T9:=T8.Uy (Ch.ag t (p+3)-48);have K9:Kp _ _ (w8.setCell ⟨tb,4,none⟩ (.int .i64 (Ch.ag t (p+3)-48))):=K8.setCell (by intro _;exact Or.inr rfl) _;generalize w8.setCell ⟨tb,4,none⟩ (.int .i64 (Ch.ag t (p+3)-48))=w9 at h9 T9 K9⊢;clear h8 T8 K8;refine(pj b t (p+3) e f sv tv bv uv w9 48 h9 (by omega)).mono ?_;rintro x wz ⟨rfl,hz,D⟩;have Tz:=T9.az D F;have Kz:=K9.trans' D (λ_ _ x=>Or.inl x);clear D h9 T9 K9;go_wp2;go_ret;exact⟨rfl,hz,Tz,Kz⟩
end
def fB(l:List Ch.St):List Value:=l.flatMap λa=>[.int .u8 a.name,.int .i64 a.pos,.int .i64 a.kind,.int .i64 a.parent]
def qT(l:List (Ch.Tr×Value)):List Value:=l.flatMap λx=>[.int .i64 x.1.state,.int .u8 x.1.qP,.int .u8 x.1.guard.var,.int .u8 x.1.guard.sign,.int .i64 x.1.guard.digit,x.2,.int .u8 x.1.target]
def qU(l:List (Ch.Bl×Value)):List Value:=l.flatMap λx=>[.int .i64 x.1.state,.int .u8 x.1.sign,x.2]
theorem BZ(l:List Ch.St)(a:Ch.St):fB (l++[a])=fB l++[.int .u8 a.name,.int .i64 a.pos,.int .i64 a.kind,.int .i64 a.parent]:=by simp[fB]
theorem B0(l:List (Ch.Tr×Value))(x:Ch.Tr×Value):qT (l++[x])=qT l++[.int .i64 x.1.state,.int .u8 x.1.qP,.int .u8 x.1.guard.var,.int .u8 x.1.guard.sign,.int .i64 x.1.guard.digit,x.2,.int .u8 x.1.target]:=by simp[qT]
theorem B7(l:List (Ch.Bl×Value))(x:Ch.Bl×Value):qU (l++[x])=qU l++[.int .i64 x.1.state,.int .u8 x.1.sign,x.2]:=by simp[qU]
structure AV(w:World)(B b:Nat)(t:ByteArray)(r:Ch.Rs)(sv tv bv uv:Value)(lt:List (Ch.Tr×Value))(lb:List (Ch.Bl×Value)):Prop where
 bO:dG w b t r.pos (.int .i64 0) (.int .i64 0) sv tv bv uv
 ai:w.ownsRow B 155 4 sv r.ai.length (fB r.ai)
 F9:lt.map (·.1)=r.cW
 cW:w.ownsRow B 209 7 tv lt.length (qT lt)
 j_:∀x∈lt,w.ownsRow B 255 3 x.2 x.1.bD.length (gT x.1.bD)
 I8:lb.map (·.1)=r.eR
 eR:w.ownsRow B 282 3 bv lb.length (qU lb)
 rY:∀x∈lb,w.ownsRow B 255 3 x.2 x.1.bD.length (gT x.1.bD)
 cN:w.ownsRow B 242 2 uv r.cN.length (ik r.cN)
 hb:B<=b
section
variable {w w':World} {B b:Nat} {t:ByteArray} {r:Ch.Rs} {sv tv bv uv:Value} {lt:List (Ch.Tr×Value)} {lb:List (Ch.Bl×Value)} {S:Nat->Prop}
theorem AV.move(h:AV w B b t r sv tv bv uv lt lb)(k:Kp S w w')(G:∀i,i<w.heap.size->S i->i=b){p:Nat}(hb:dG w' b t p (.int .i64 0) (.int .i64 0) sv tv bv uv):
 AV w' B b t {r with pos:=p} sv tv bv uv lt lb:=by
 have D:∀{base e size v n xs},w.ownsRow base e size v n xs->e≠143->∀i,v.ownBlock=some i->¬S i:=by
  intro base e size v n xs E he i hi hs;obtain⟨F,I⟩:=bz E hi;have:=G i (aR I) hs;subst this;exact aZ E h.bO he hi
 exact⟨hb,k.owns h.ai (D h.ai (by decide)),h.F9,k.owns h.cW (D h.cW (by decide)),λx hx=>k.owns (h.j_ x hx) (D (h.j_ x hx) (by decide)),
  h.I8,k.owns h.eR (D h.eR (by decide)),λx hx=>k.owns (h.rY x hx) (D (h.rY x hx) (by decide)),k.owns h.cN (D h.cN (by decide)),h.hb⟩
theorem AV.Dp(h:AV w B b t r sv tv bv uv lt lb)(k:Kp S w w')(J:∀i,i<w.heap.size->S i->i=b\/uv.ownBlock=some i){p:Nat}{F:Value}{us:List Ch.Us}
 (hb:dG w' b t p (.int .i64 0) (.int .i64 0) sv tv bv F) (G:w'.ownsRow B 242 2 F us.length (ik us)):
 AV w' B b t {r with pos:=p,cN:=us} sv tv bv F lt lb:=by
 have D:∀{base e size v n xs},w.ownsRow base e size v n xs->e≠143->e≠242->∀i,v.ownBlock=some i->¬S i:=by
  intro base e size v n xs G he hu i hi hs;obtain⟨I,O⟩:=bz G hi
  rcases J i (aR O) hs with rfl|E
  ·exact aZ G h.bO he hi
  exact dp G h.cN hu i hi E
 exact⟨hb,k.owns h.ai (D h.ai (by decide) (by decide)),h.F9,k.owns h.cW (D h.cW (by decide) (by decide)),λx E=>k.owns (h.j_ x E) (D (h.j_ x E) (by decide) (by decide)),
  h.I8,k.owns h.eR (D h.eR (by decide) (by decide)),λx E=>k.owns (h.rY x E) (D (h.rY x E) (by decide) (by decide)),G,h.hb⟩
theorem AV.Z0(h:AV w B b t r sv tv bv uv lt lb)(k:Kp S w w')(O:∀i,i<w.heap.size->S i->i=b\/tv.ownBlock=some i){E:Value}{x:Ch.Tr×Value}
 (hb:dG w' b t r.pos (.int .i64 0) (.int .i64 0) sv E bv uv) (F:w'.ownsRow B 209 7 E (lt++[x]).length (qT (lt++[x])))
 (X:w'.ownsRow B 255 3 x.2 x.1.bD.length (gT x.1.bD)):
 AV w' B b t {r with cW:=r.cW++[x.1]} sv E bv uv (lt++[x]) lb:=by
 have D:∀{base e size v n xs},w.ownsRow base e size v n xs->e≠143->e≠209->∀i,v.ownBlock=some i->¬S i:=by
  intro base e size v n xs F he hu i hi hs;obtain⟨J,U⟩:=bz F hi
  rcases O i (aR U) hs with rfl|I
  ·exact aZ F h.bO he hi
  exact dp F h.cW hu i hi I
 refine⟨hb,k.owns h.ai (D h.ai (by decide) (by decide)),by simp[h.F9],F,λy G=>?_,
  h.I8,k.owns h.eR (D h.eR (by decide) (by decide)),λx I=>k.owns (h.rY x I) (D (h.rY x I) (by decide) (by decide)),k.owns h.cN (D h.cN (by decide) (by decide)),h.hb⟩
 rcases cB.1 G with G|G
 ·exact k.owns (h.j_ y G) (D (h.j_ y G) (by decide) (by decide))
 simp_all
theorem AV.Z1(h:AV w B b t r sv tv bv uv lt lb)(k:Kp S w w')(O:∀i,i<w.heap.size->S i->i=b\/bv.ownBlock=some i){I:Value}{x:Ch.Bl×Value}
 (hb:dG w' b t r.pos (.int .i64 0) (.int .i64 0) sv tv I uv) (E:w'.ownsRow B 282 3 I (lb++[x]).length (qU (lb++[x])))
 (X:w'.ownsRow B 255 3 x.2 x.1.bD.length (gT x.1.bD)):
 AV w' B b t {r with eR:=r.eR++[x.1]} sv tv I uv lt (lb++[x]):=by
 have D:∀{base e size v n xs},w.ownsRow base e size v n xs->e≠143->e≠282->∀i,v.ownBlock=some i->¬S i:=by
  intro base e size v n xs E he hu i hi hs;obtain⟨J,U⟩:=bz E hi
  rcases O i (aR U) hs with rfl|G
  ·exact aZ E h.bO he hi
  exact dp E h.eR hu i hi G
 refine⟨hb,k.owns h.ai (D h.ai (by decide) (by decide)),h.F9,k.owns h.cW (D h.cW (by decide) (by decide)),λx G=>k.owns (h.j_ x G) (D (h.j_ x G) (by decide) (by decide)),
  by simp[h.I8],E,λy F=>?_,k.owns h.cN (D h.cN (by decide) (by decide)),h.hb⟩
 rcases cB.1 F with F|F
 ·exact k.owns (h.rY y F) (D (h.rY y F) (by decide) (by decide))
 simp_all
theorem AV.WH(h:AV w B b t r sv tv bv uv lt lb)(k:Kp S w w')(I:∀i,i<w.heap.size->S i->i=b\/sv.ownBlock=some i){Nj:Value}{ss:List Ch.St}{p:Nat}
 (hb:dG w' b t p (.int .i64 0) (.int .i64 0) Nj tv bv uv) (F:w'.ownsRow B 155 4 Nj ss.length (fB ss)):
 AV w' B b t {r with pos:=p,ai:=ss} Nj tv bv uv lt lb:=by
 have D:∀{base e size v n xs},w.ownsRow base e size v n xs->e≠143->e≠155->∀i,v.ownBlock=some i->¬S i:=by
  intro base e size v n xs F he hu i hi hs;obtain⟨G,J⟩:=bz F hi
  rcases I i (aR J) hs with rfl|E
  ·exact aZ F h.bO he hi
  exact dp F h.ai hu i hi E
 exact⟨hb,F,h.F9,k.owns h.cW (D h.cW (by decide) (by decide)),λx E=>k.owns (h.j_ x E) (D (h.j_ x E) (by decide) (by decide)),
  h.I8,k.owns h.eR (D h.eR (by decide) (by decide)),λx E=>k.owns (h.rY x E) (D (h.rY x E) (by decide) (by decide)),k.owns h.cN (D h.cN (by decide) (by decide)),h.hb⟩
theorem AV.low(h:AV w B b t r sv tv bv uv lt lb){i:Nat}(hi:i=b\/sv.ownBlock=some i\/tv.ownBlock=some i\/bv.ownBlock=some i\/uv.ownBlock=some i):B<=i:=by
 rcases hi with rfl|hi|hi|hi|hi
 ·exact h.hb
 ·exact(h.ai.lt i hi).1
 ·exact(h.cW.lt i hi).1
 ·exact(h.eR.lt i hi).1
 exact(h.cN.lt i hi).1
theorem AV.bK(h:AV w B b t r sv tv bv uv lt lb):B<=w.heap.size:=by have:=h.hb;have:=h.bO.lt;omega
end
def Rd(w:World)(B b:Nat)(t:ByteArray)(r:Ch.Rs):Prop:=∃sv tv bv uv lt lb,AV w B b t r sv tv bv uv lt lb
def Ch.Bd(r:Ch.Rs):Prop:=r.ai.length<=r.pos/\r.cW.length<=r.pos/\r.eR.length<=r.pos/\r.cN.length<=r.pos
