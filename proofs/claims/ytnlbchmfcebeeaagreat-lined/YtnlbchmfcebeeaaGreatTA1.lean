import Derived.WalkKit
import Derived.WalkSpells
import Derived.Deep.Draws
import Derived.Test.YtnlbchmfcebeeaaGreatProg
import Derived.Deep.QuietTactic
import Derived.BigQuiet
import Derived.Deep.LoopGhost
set_option maxHeartbeats 12800000
set_option maxRecDepth 100000
namespace Go.Proofs.YtnlbchmfcebeeaaGreat
open Go.Proofs.Tryz
open Go.RowKit
theorem ae{a b:Prop}(x:a)(y:b):a/\b:=⟨x,y⟩
namespace Ch
structure St where
 name:Int
 pos:Int
 kind:Int
 parent:Int
structure Ac where
 sign:Int
 letter:Int
 digit:Int
structure Gd where
 var:Int
 sign:Int
 digit:Int
structure Tr where
 state:Int
 kr:Int
 guard:Gd
 acts:List Ac
 target:Int
structure Bl where
 state:Int
 sign:Int
 acts:List Ac
structure Us where
 name:Int
 pos:Int
structure Rs where
 pos:Nat
 ag:List St
 bG:List Tr
 dz:List Bl
 uses:List Us
def bR(c:Int):Bool:=decide (97<=c)&&decide (c<=122)
def bx(c:Int):Bool:=decide (65<=c)&&decide (c<=90)
def gw(c:Int):Bool:=c==120||c==121||c==122
def eI(lo c:Int):Bool:=decide (lo<=c)&&decide (c<=57)
theorem Mx(c:Int):((c==120)=true/\gw c=true)\/((c==120)=false/\(c==121)=true/\gw c=true)\/
 ((c==120)=false/\(c==121)=false/\(c==122)=true/\gw c=true)\/((c==120)=false/\(c==121)=false/\(c==122)=false/\gw c=false):=by
 unfold gw
 cases h1:c==120<;>cases h2:c==121<;>cases h3:c==122<;>simp
theorem My(lo c:Int):(lo<=c/\c<=57/\eI lo c=true)\/(lo<=c/\decide (c<=57)=false/\eI lo c=false)\/(decide (lo<=c)=false/\eI lo c=false):=by
 unfold eI
 by_cases h1:lo<=c<;>by_cases h2:c<=57<;>simp[h1,h2]<;>omega
def af(t:ByteArray)(p:Nat):Int:=if h:p<t.size then(t[p].toNat:Int)else 0
theorem Y9(t:ByteArray)(p:Nat):0<=af t p:=by unfold af;split<;>omega
theorem P1(t:ByteArray)(p:Nat):af t p<=255:=by
 unfold af;split
 ·rename_i h;have:=t[p].toNat_lt;omega
 omega
def kindOf(c:Int):Int:=if c==91 then 3 else if c==60 then 4 else if c==42 then 5 else 1
def bI(ok:Bool)(p:Nat):Nat:=if ok then p+1 else p
def fU(t:ByteArray)(p:Nat)(a:Ac):Bool×Ac×Nat:=
 (bR (af t (p+1)),{a with letter:=af t (p+1)},bI (bR (af t (p+1))) (p+1))
def jC(t:ByteArray)(lo:Int)(r:Bool×Ac×Nat):Bool×Ac×Nat:=
 if r.1 then(eI lo (af t r.2.2),{r.2.1 with digit:=af t r.2.2-48},bI (eI lo (af t r.2.2)) r.2.2)else r
def gx(t:ByteArray)(p:Nat)(a:Ac):Bool×Ac×Nat:=
 (gw (af t (p+1)),{a with letter:=af t (p+1)},bI (gw (af t (p+1))) (p+1))
def py(t:ByteArray)(p:Nat)(a:Ac):Bool×Ac×Nat:=jC t 49 (fU t p a)
def kN(t:ByteArray)(p:Nat)(a:Ac):Bool×Ac×Nat:=jC t 48 (gx t p a)
def act(t:ByteArray)(p:Nat)(a:Ac):Bool×Ac×Nat:=
 if a.sign==33||a.sign==126||a.sign==35 then fU t p a
 else if a.sign==64 then py t p a
 else if a.sign==43||a.sign==45||a.sign==61 then kN t p a
 else(false,a,p)
theorem xN(ok:Bool)(p:Nat):bI ok p<=p+1:=by unfold bI;split<;>omega
theorem kV(ok:Bool)(p:Nat):p<=bI ok p:=by unfold bI;split<;>omega
theorem At(t:ByteArray)(p:Nat)(a:Ac):p+1<=(fU t p a).2.2/\(fU t p a).2.2<=p+2:=by
 have h1:=xN (bR (af t (p+1))) (p+1);have h2:=kV (bR (af t (p+1))) (p+1);exact⟨h2,h1⟩
theorem DZ(t:ByteArray)(p:Nat)(a:Ac):p+1<=(gx t p a).2.2/\(gx t p a).2.2<=p+2:=by
 have h1:=xN (gw (af t (p+1))) (p+1);have h2:=kV (gw (af t (p+1))) (p+1);exact⟨h2,h1⟩
theorem vY(t:ByteArray)(lo:Int)(r:Bool×Ac×Nat):r.2.2<=(jC t lo r).2.2/\(jC t lo r).2.2<=r.2.2+1:=by
 unfold jC;split
 ·exact⟨kV _ _,xN _ _⟩
 omega
theorem acj(t:ByteArray)(p:Nat)(a:Ac):p<=(act t p a).2.2/\(act t p a).2.2<=p+3:=by
 have h1:=At t p a;have h2:=DZ t p a;have h3:=vY t 49 (fU t p a);have h4:=vY t 48 (gx t p a);unfold act py kN
 split
 ·omega
 split
 ·omega
 split
 ·omega
 exact⟨Nat.le_refl _,Nat.le_add_right _ _⟩
theorem b_{t:ByteArray}{p:Nat}(h:t.size<=p):af t p=0:=by unfold af;rw[dif_neg (by omega)]
theorem qY{t:ByteArray}{p:Nat}(h:bR (af t p)=true):p<t.size:=by
 rcases Nat.lt_or_ge p t.size with h'|h'
 ·exact h'
 rw[b_ h']at h;simp[bR]at h
theorem kW{t:ByteArray}{p:Nat}(h:gw (af t p)=true):p<t.size:=by
 rcases Nat.lt_or_ge p t.size with h'|h'
 ·exact h'
 rw[b_ h']at h;simp[gw]at h
theorem kX{t:ByteArray}{p:Nat}(h:bx (af t p)=true):p<t.size:=by
 rcases Nat.lt_or_ge p t.size with h'|h'
 ·exact h'
 rw[b_ h']at h;simp[bx]at h
theorem nt{t:ByteArray}{lo:Int}{p:Nat}(hl:1<=lo)(h:eI lo (af t p)=true):p<t.size:=by
 rcases Nat.lt_or_ge p t.size with h'|h'
 ·exact h'
 rw[b_ h']at h;simp[eI]at h;omega
theorem cL{t:ByteArray}{p:Nat}{c:Int}(hc:c≠0)(h:(af t p==c)=true):p<t.size:=by
 rcases Nat.lt_or_ge p t.size with h'|h'
 ·exact h'
 rw[b_ h']at h;simp at h;omega
theorem iS{t:ByteArray}{ok:Bool}{p:Nat}(hp:p<=t.size)(h:ok=true->p<t.size):bI ok p<=t.size:=by
 unfold bI;split
 ·have:=h (by assumption);omega
 exact hp
theorem Mz{t:ByteArray}{p:Nat}(a:Ac)(hp:p<t.size):(fU t p a).2.2<=t.size:=iS (by omega) qY
theorem IG{t:ByteArray}{p:Nat}(a:Ac)(hp:p<t.size):(gx t p a).2.2<=t.size:=iS (by omega) kW
theorem Au{t:ByteArray}{lo:Int}(hl:1<=lo){r:Bool×Ac×Nat}(h:r.2.2<=t.size):(jC t lo r).2.2<=t.size:=by
 unfold jC;split
 ·exact iS h (nt hl)
 exact h
theorem pD{t:ByteArray}{p:Nat}(hp:p<=t.size)(l d:Int):(act t p ⟨af t p,l,d⟩).2.2<=t.size:=by
 rcases Nat.lt_or_ge p t.size with h|h
 ·have h1:=Mz ⟨af t p,l,d⟩ h
  have h2:=Au (lo:=49) (by omega) h1;have h3:=Au (lo:=48) (by omega) (IG ⟨af t p,l,d⟩ h);unfold act py kN
  split
  ·exact h1
  split
  ·exact h2
  split
  ·exact h3
  exact hp
 rw[b_ h];exact hp
theorem zT{t:ByteArray}{p:Nat}{a:Ac}(h:(act t p a).1=true):p<(act t p a).2.2:=by
 have h1:=At t p a;have h2:=DZ t p a;have h3:=vY t 49 (fU t p a);have h4:=vY t 48 (gx t p a);unfold act py kN at*
 split
 ·omega
 split
 ·omega
 split
 ·omega
 simp_all
def fM(t:ByteArray)(cl:Int):Nat->Nat->List Ac->Bool×List Ac×Nat
 |0,p,_=>(false,[],p)
 |n+1,p,l=>if af t p==cl then(true,l,p+1)else
  if(act t p ⟨af t p,0,0⟩).1 then fM t cl n (act t p ⟨af t p,0,0⟩).2.2 (l++[(act t p ⟨af t p,0,0⟩).2.1])
  else(false,[],(act t p ⟨af t p,0,0⟩).2.2)
def acts(t:ByteArray)(cl:Int)(p:Nat):Bool×List Ac×Nat:=fM t cl (t.size+1) p []
theorem iT{t:ByteArray}{cl:Int}{n p:Nat}{l:List Ac}(h:(af t p==cl)=true):fM t cl (n+1) p l=(true,l,p+1):=by
 simp[fM,h]
theorem pE{t:ByteArray}{cl:Int}{n p:Nat}{l:List Ac}(h:(af t p==cl)=false)(h2:(act t p ⟨af t p,0,0⟩).1=false):
 fM t cl (n+1) p l=(false,[],(act t p ⟨af t p,0,0⟩).2.2):=by
 simp[fM,h,h2]
theorem jS{t:ByteArray}{cl:Int}{n p:Nat}{l:List Ac}(h:(af t p==cl)=false)(h2:(act t p ⟨af t p,0,0⟩).1=true):
 fM t cl (n+1) p l=fM t cl n (act t p ⟨af t p,0,0⟩).2.2 (l++[(act t p ⟨af t p,0,0⟩).2.1]):=by
 simp[fM,h,h2]
end Ch
abbrev bL:Array Value:=#[.bool false,.bool false,.bool false,.bool false,.bool false,.bool false,.bool false,.bool false,.bool false,.bool false,.bool false,.bool false,.bool false,.bool false,.bool false,.bool false]
abbrev fm:Array Value:=#[.int .u8 0,.int .u8 0,.int .u8 0,.int .u8 0,.int .u8 0,.int .u8 0,.int .u8 0,.int .u8 0,.int .u8 0,.int .u8 0,.int .u8 0,.int .u8 0,.int .u8 0,.int .u8 0,.int .u8 0,.int .u8 0]
abbrev lK:Array Value:=#[.bool false,.bool false,.bool false,.bool false,.bool false,.bool false,.bool false,.bool false,.bool false,.bool false,.bool false,.bool false,.bool false,.bool false,.bool false,.bool false,.int .u8 0,.int .u8 0,.int .u8 0,.int .u8 0,.int .u8 0,.int .u8 0,.int .u8 0,.int .u8 0,.int .u8 0,.int .u8 0,.int .u8 0,.int .u8 0,.int .u8 0,.int .u8 0,.int .u8 0,.int .u8 0,.string ByteArray.empty,.int .i64 0,.int .i64 0,.int .i64 0]
abbrev aW:Array Value:=#[.bool false,.bool false,.bool false,.bool false,.bool false,.bool false,.bool false,.bool false,.bool false,.bool false,.bool false,.bool false,.bool false,.bool false,.bool false,.bool false,.int .u8 0,.int .u8 0,.int .u8 0,.int .u8 0,.int .u8 0,.int .u8 0,.int .u8 0,.int .u8 0,.int .u8 0,.int .u8 0,.int .u8 0,.int .u8 0,.int .u8 0,.int .u8 0,.int .u8 0,.int .u8 0,.string ⟨#[]⟩,.int .i64 0,.int .i64 0,.int .i64 0]
abbrev xO:Array Value:=#[.pointer none,.bool false,.bool false,.bool false,.bool false,.bool false,.bool false,.bool false,.bool false,.bool false,.bool false,.bool false,.bool false,.bool false,.bool false,.bool false,.bool false,.int .u8 0,.int .u8 0,.int .u8 0,.int .u8 0,.int .u8 0,.int .u8 0,.int .u8 0,.int .u8 0,.int .u8 0,.int .u8 0,.int .u8 0,.int .u8 0,.int .u8 0,.int .u8 0,.int .u8 0,.int .u8 0,.string ⟨#[]⟩,.int .i64 0,.int .i64 0,.int .i64 0,.slice none 0 0,.slice none 0 0]
abbrev kM:Array Value:=#[.int .i64 0,.int .i64 0,.int .i64 0,.slice none 0 0,.slice none 0 0,.slice none 0 0,.bool false,.bool false,.bool false,.bool false,.bool false,.bool false,.bool false,.bool false,.bool false,.bool false,.bool false,.bool false,.bool false,.bool false,.bool false,.bool false,.int .u8 0,.int .u8 0,.int .u8 0,.int .u8 0,.int .u8 0,.int .u8 0,.int .u8 0,.int .u8 0,.int .u8 0,.int .u8 0,.int .u8 0,.int .u8 0,.int .u8 0,.int .u8 0,.int .u8 0,.int .u8 0,.string ⟨#[]⟩,.int .i64 0,.int .i64 0,.int .i64 0]
abbrev zy:Array Value:=#[.int .i64 0,.int .i64 0,.slice none 0 0,.slice none 0 0,.slice none 0 0]
abbrev aD:Array Value:=#[.string ⟨#[]⟩,.string ⟨#[]⟩,.string ⟨#[]⟩,.int .i64 0,.int .i64 0,.int .i64 0]
theorem hid{p:Prop}(h:p):Hid p:=h
theorem hm{P:Program}{f:FuncId}{args:Array Value}{w:World}{Q R:Ending->World->Prop}(h:Hid (Calls P f args w Q))(k:∀e w',Q e w'->R e w'):Calls P f args w R:=Calls.mono h k
structure Kp(S:Nat->Prop)(w w':World):Prop where
 os:w'.os=w.os
 tape:w'.tape=w.tape
 output:w'.output=w.output
 size:w.heap.size<=w'.heap.size
 block:∀k,k<w.heap.size->¬S k->w'.heap[k]? =w.heap[k]?
theorem Kp.refl(S:Nat->Prop)(w:World):Kp S w w:=⟨rfl,rfl,rfl,Nat.le_refl _,λ_ _ _=>rfl⟩
theorem Kp.trans{S:Nat->Prop}{a b c:World}(h:Kp S a b)(k:Kp S b c):Kp S a c:=
 ⟨k.os.trans h.os,k.tape.trans h.tape,k.output.trans h.output,Nat.le_trans h.size k.size,
  λi hi hs=>(k.block i (Nat.lt_of_lt_of_le hi h.size) hs).trans (h.block i hi hs)⟩
theorem Kp.trans'{S S':Nat->Prop}{a b c:World}(h:Kp S a b)(k:Kp S' b c)(hs:∀i,i<a.heap.size->S' i->S i):Kp S a c:=
 ⟨k.os.trans h.os,k.tape.trans h.tape,k.output.trans h.output,Nat.le_trans h.size k.size,
  λi hi hn=>(k.block i (Nat.lt_of_lt_of_le hi h.size) (λx=>hn (hs i hi x))).trans (h.block i hi hn)⟩
theorem Kp.mono{S S':Nat->Prop}{w w':World}(h:Kp S w w')(hs:∀i,i<w.heap.size->S i->S' i):Kp S' w w':=
 ⟨h.os,h.tape,h.output,h.size,λk hk hn=>h.block k hk (λx=>hn (hs k hk x))⟩
theorem Kp.drew{S:Nat->Prop}{a w:World}(h:Kp S a w):Kp S a w.drew:=⟨h.os,h.tape,h.output,h.size,h.block⟩
theorem Kp.drewN{S:Nat->Prop}{a w:World}(h:Kp S a w)(n:Nat):Kp S a (w.drewN n):=⟨h.os,h.tape,h.output,h.size,h.block⟩
theorem Kp.alloc{S:Nat->Prop}{a w:World}(h:Kp S a w)(o:Obj):Kp S a (w.alloc o):=
 h.trans ⟨rfl,rfl,rfl,by simp,λk hk _=>Below.heap_alloc _ _ _ (by omega)⟩
theorem Kp.setCell{S:Nat->Prop}{a w:World}(h:Kp S a w){p:Addr}(hp:p.block<a.heap.size->S p.block)(u:Value):Kp S a (w.setCell p u):=
 h.trans' (S':=λk=>k=p.block) ⟨rfl,rfl,rfl,by simp[World.setCell],λk _ hn=>Below.heap_setCell _ _ _ _ hn⟩ (λi hi e=>by subst e;exact hp hi)
theorem Kp.grown{S:Nat->Prop}{a w w':World}{row:Option Nat}(h:Kp S a w)(hg:w.grownBy w' row)(hr:∀k,row=some k->k<a.heap.size->S k):Kp S a w':=
 h.trans' (S':=λk=>row=some k) ⟨hg.os,hg.tape,hg.output,hg.size,λk hk hn=>hg.block k hk (λe=>hn e.symm)⟩ (λi hi e=>hr i e hi)
theorem Kp.below{S:Nat->Prop}{w w':World}{B:Nat}(h:Kp S w w')(hB:B<=w.heap.size)(hs:∀k,S k->B<=k):Below B w w':=
 ⟨h.os,h.tape,h.output,h.size,λk hk=>h.block k (by omega) (λx=>by have:=hs k x;omega)⟩
theorem Kp.at_{S:Nat->Prop}{w w':World}(h:Kp S w w'){k:Nat}{o:Obj}(ho:w.heap[k]? =some o)(hs:¬S k):w'.heap[k]? =some o:=
 (h.block k (lt_of_block ho) hs).trans ho
theorem Kp.owns{S:Nat->Prop}{w w':World}(h:Kp S w w'){base:Nat}{e:TypeId}{size:Nat}{v:Value}{n:Nat}{xs:List Value}
 (ho:w.ownsRow base e size v n xs) (hs:∀k,v.ownBlock=some k->¬S k):w'.ownsRow base e size v n xs:=by
 refine⟨ho.1,?_⟩
 rcases ho.2 with hn|⟨g,cap,cur,rfl,hb,hg,rest⟩
 ·exact .inl hn
 exact .inr ⟨g,cap,cur,rfl,hb,h.at_ hg (hs g rfl),rest⟩
theorem ah{w:World}{b i:Nat}{c:Array Value}{t:TypeId}{f:Nat×Nat}(u:Value)(h:w.heap[b]? =some (.cells c t f)):
 (w.setCell ⟨b,i,none⟩ u).heap[b]? =some (.cells (c.setIfInBounds i u) t f):=by
 have hlt:=lt_of_block h
 have h':w.heap[b]= .cells c t f:=by simpa[Array.getElem?_eq_getElem hlt]using h
 show(w.heap.modify b _)[b]? =_;rw[Array.getElem?_eq_getElem (by simpa using hlt),Array.getElem_modify_self,h'];rfl
def cW(w:World)(b:Nat)(t:ByteArray)(p:Nat)(e f sv tv bv uv:Value):Prop:=
 w.heap[b]? =some (.cells #[.string t,.int .i64 p,e,f,sv,tv,bv,uv] 143 (0,0))
section
variable {w:World} {b:Nat} {t:ByteArray} {p:Nat} {e f sv tv bv uv:Value}
theorem cW.text(h:cW w b t p e f sv tv bv uv):w.cell? ⟨b,0,none⟩=some (.string t):=by unfold cW at h;simp[World.cell?,h]
theorem cW.pos(h:cW w b t p e f sv tv bv uv):w.cell? ⟨b,1,none⟩=some (.int .i64 p):=by unfold cW at h;simp[World.cell?,h]
theorem cW.c2(h:cW w b t p e f sv tv bv uv):w.cell? ⟨b,2,none⟩=some e:=by unfold cW at h;simp[World.cell?,h]
theorem cW.c3(h:cW w b t p e f sv tv bv uv):w.cell? ⟨b,3,none⟩=some f:=by unfold cW at h;simp[World.cell?,h]
theorem cW.c4(h:cW w b t p e f sv tv bv uv):w.cell? ⟨b,4,none⟩=some sv:=by unfold cW at h;simp[World.cell?,h]
theorem cW.c5(h:cW w b t p e f sv tv bv uv):w.cell? ⟨b,5,none⟩=some tv:=by unfold cW at h;simp[World.cell?,h]
theorem cW.c6(h:cW w b t p e f sv tv bv uv):w.cell? ⟨b,6,none⟩=some bv:=by unfold cW at h;simp[World.cell?,h]
theorem cW.c7(h:cW w b t p e f sv tv bv uv):w.cell? ⟨b,7,none⟩=some uv:=by unfold cW at h;simp[World.cell?,h]
theorem cW.free(h:cW w b t p e f sv tv bv uv)(i:Nat):w.frozen? ⟨b,i,none⟩=false:=by unfold cW at h;simp[World.frozen?,h]
theorem cW.set1(h:cW w b t p e f sv tv bv uv)(q:Nat):cW (w.setCell ⟨b,1,none⟩ (.int .i64 q)) b t q e f sv tv bv uv:=by
 unfold cW at*;rw[ah _ h];rfl
theorem cW.step(h:cW w b t p e f sv tv bv uv):cW (w.setCell ⟨b,1,none⟩ (.int .i64 ((p:Int)+1))) b t (p+1) e f sv tv bv uv:=h.set1 (p+1)
theorem cW.drewN(h:cW w b t p e f sv tv bv uv)(n:Nat):cW (w.drewN n) b t p e f sv tv bv uv:=h
theorem cW.keep{S:Nat->Prop}{w':World}(h:cW w b t p e f sv tv bv uv)(k:Kp S w w')(hs:¬S b):cW w' b t p e f sv tv bv uv:=Kp.at_ k h hs
theorem cW.alloc(h:cW w b t p e f sv tv bv uv)(o:Obj):cW (w.alloc o) b t p e f sv tv bv uv:=h.keep (S:=λ_=>False) ((Kp.refl _ _).alloc _) (λx=>x)
theorem cW.grown{w':World}{row:Option Nat}(h:cW w b t p e f sv tv bv uv)(g:w.grownBy w' row)(hr:row≠some b):cW w' b t p e f sv tv bv uv:=
 h.keep (S:=λk=>row=some k) ((Kp.refl _ _).grown g (λ_ hk _=>hk)) hr
theorem cW.lt(h:cW w b t p e f sv tv bv uv):b<w.heap.size:=lt_of_block h
theorem cW.ack(h:cW w b t p e f sv tv bv uv)(v:Value):cW (w.setCell ⟨b,4,none⟩ v) b t p e f v tv bv uv:=by
 unfold cW at*;rw[ah _ h];rfl
theorem cW.xP(h:cW w b t p e f sv tv bv uv)(v:Value):cW (w.setCell ⟨b,5,none⟩ v) b t p e f sv v bv uv:=by
 unfold cW at*;rw[ah _ h];rfl
theorem cW.Av(h:cW w b t p e f sv tv bv uv)(v:Value):cW (w.setCell ⟨b,6,none⟩ v) b t p e f sv tv v uv:=by
 unfold cW at*;rw[ah _ h];rfl
theorem cW.aiH(h:cW w b t p e f sv tv bv uv)(v:Value):cW (w.setCell ⟨b,7,none⟩ v) b t p e f sv tv bv v:=by
 unfold cW at*;rw[ah _ h];rfl
end
def lL(w:World)(ab:Nat)(a:Ch.Ac):Prop:=w.heap[ab]? =some (.cells #[.int .u8 a.sign,.int .u8 a.letter,.int .i64 a.digit] 255 (0,0))
section
variable {w:World} {ab:Nat} {a:Ch.Ac}
theorem lL.c0(h:lL w ab a):w.cell? ⟨ab,0,none⟩=some (.int .u8 a.sign):=by unfold lL at h;simp[World.cell?,h]
theorem lL.c1(h:lL w ab a):w.cell? ⟨ab,1,none⟩=some (.int .u8 a.letter):=by unfold lL at h;simp[World.cell?,h]
theorem lL.c2(h:lL w ab a):w.cell? ⟨ab,2,none⟩=some (.int .i64 a.digit):=by unfold lL at h;simp[World.cell?,h]
theorem lL.free(h:lL w ab a)(i:Nat):w.frozen? ⟨ab,i,none⟩=false:=by unfold lL at h;simp[World.frozen?,h]
theorem lL.set1(h:lL w ab a)(l:Int):lL (w.setCell ⟨ab,1,none⟩ (.int .u8 l)) ab {a with letter:=l}:=by unfold lL at*;rw[ah _ h];rfl
theorem lL.set2(h:lL w ab a)(d:Int):lL (w.setCell ⟨ab,2,none⟩ (.int .i64 d)) ab {a with digit:=d}:=by unfold lL at*;rw[ah _ h];rfl
theorem lL.keep{S:Nat->Prop}{w':World}(h:lL w ab a)(k:Kp S w w')(hs:¬S ab):lL w' ab a:=Kp.at_ k h hs
theorem lL.lt(h:lL w ab a):ab<w.heap.size:=lt_of_block h
theorem lL.ne{b:Nat}{t:ByteArray}{p:Nat}{e f sv tv bv uv:Value}(h:lL w ab a)(k:cW w b t p e f sv tv bv uv):ab≠b:=by
 intro x;subst x;unfold lL at h;unfold cW at k;rw[h]at k;simp at k
end
def fD(l:List Ch.Ac):List Value:=l.flatMap λa=>[.int .u8 a.sign,.int .u8 a.letter,.int .i64 a.digit]
theorem FZ(l:List Ch.Ac)(a:Ch.Ac):fD (l++[a])=fD l++[.int .u8 a.sign,.int .u8 a.letter,.int .i64 a.digit]:=by simp[fD]
theorem Aw(w:World)(x y z:Value)(T:TypeId):∀j u,[x,y,z][j]? =some u->(w.alloc (.cells #[x,y,z] T)).cell? ((⟨w.heap.size,0,none⟩:Addr).add j)=some u:=by
 intro j u hj
 match j,hj with
 |0,hj=>simp at hj;subst hj;simp[Addr.add]
 |1,hj=>simp at hj;subst hj;simp[Addr.add]
 |2,hj=>simp at hj;subst hj;simp[Addr.add]
theorem dr2(w:World)(n m:Nat):(w.drewN n).drewN m=w.drewN (n+m):=World.drewN_drewN ..
theorem iU(c:Int)(w:World):
 Calls prog 56 #[.int .u8 c] w λe w'=>e= .returned (.bool (Ch.bR c))/\w'=w:=by
 by_cases h1:97<=c
 ·by_cases h2:c<=122
  ·have H:Hid (Ch.bR c=true):=by simp[Hid,Ch.bR,h1,h2]
   go_enter func56,ntmps56
   go_wp2;go_ret;exact⟨by rw[H.out];rfl,rfl⟩
  have H:Hid (Ch.bR c=false):=by simp[Hid,Ch.bR,h2]
  go_enter func56,ntmps56
  go_wp2;go_ret;exact⟨by rw[H.out];rfl,rfl⟩
 have H:Hid (Ch.bR c=false):=by simp[Hid,Ch.bR,h1]
 go_enter func56,ntmps56
 go_wp2;go_ret;exact⟨by rw[H.out];rfl,rfl⟩
theorem iV(c:Int)(w:World):
 Calls prog 211 #[.int .u8 c] w λe w'=>e= .returned (.bool (Ch.bx c))/\w'=w:=by
 by_cases h1:65<=c
 ·by_cases h2:c<=90
  ·have H:Hid (Ch.bx c=true):=by simp[Hid,Ch.bx,h1,h2]
   go_enter func211,ntmps211
   go_wp2;go_ret;exact⟨by rw[H.out];rfl,rfl⟩
  have H:Hid (Ch.bx c=false):=by simp[Hid,Ch.bx,h2]
  go_enter func211,ntmps211
  go_wp2;go_ret;exact⟨by rw[H.out];rfl,rfl⟩
 have H:Hid (Ch.bx c=false):=by simp[Hid,Ch.bx,h1]
 go_enter func211,ntmps211
 go_wp2;go_ret;exact⟨by rw[H.out];rfl,rfl⟩
theorem MD(c:Int)(w:World):
 Calls prog 212 #[.int .u8 c] w λe w'=>e= .returned (.int .i64 (Ch.kindOf c))/\w'=w:=by
 unfold Ch.kindOf
 by_cases h1:c=91
 ·subst h1
  go_enter func212,ntmps212
  go_wp2;go_ret;exact⟨by simp,rfl⟩
 by_cases h2:c=60
 ·subst h2
  go_enter func212,ntmps212
  go_wp2;go_ret;exact⟨by simp,rfl⟩
 by_cases h3:c=42
 ·subst h3
  go_enter func212,ntmps212
  go_wp2;go_ret;exact⟨by simp,rfl⟩
 have b1:(c==91)=false:=by simpa using h1
 have b2:(c==60)=false:=by simpa using h2
 have b3:(c==42)=false:=by simpa using h3
 go_enter func212,ntmps212
 go_wp2;go_ret;exact⟨by simp[*],rfl⟩
theorem aV(b:Nat)(t:ByteArray)(p:Nat)(w:World)(h0:w.cell? ⟨b,0,none⟩=some (.string t))(h1:w.cell? ⟨b,1,none⟩=some (.int .i64 p)):
 Calls prog 110 #[.pointer (some ⟨b,0,none⟩)] w λe w'=>e= .returned (.int .u8 (Ch.af t p))/\∃n,w'=w.drewN n:=by
 by_cases h:p<t.size
 ·have h2:¬(t.size:Int)<=(p:Int):=by omega
  have h3:(p:Int)<(t.size:Int):=by omega
  go_enter func110,ntmps110
  go_wp2
  go_quiet (fail)
  go_wp2
  go_quiet (fail)
  go_wp2;go_ret;exact⟨by simp[Ch.af,h],_,dr2 _ _ _⟩
 have h2:(t.size:Int)<=(p:Int):=by omega
 go_enter func110,ntmps110
 go_wp2
 go_quiet (fail)
 go_wp2;go_ret;exact⟨by simp[Ch.af,h],_,rfl⟩
section
variable (b:Nat) (t:ByteArray) (p:Nat) (e f sv tv bv uv:Value) (w:World)
theorem gY(ok:Bool)(h:cW w b t p e f sv tv bv uv)(hp:p<=1000):
 Calls prog 216 #[.pointer (some ⟨b,0,none⟩),.bool ok] w λx w'=>x= .returned (.bool ok)/\cW w' b t (Ch.bI ok p) e f sv tv bv uv/\Kp (λk=>k=b) w w':=by
 have h1:=h.pos;have f1:=h.free 1;have H:Hid (cW w b t p e f sv tv bv uv):=h;clear h
 cases ok with
 |true=>
  go_enter func216,ntmps216
  go_wp2;go_ret;exact⟨rfl,H.out.set1 (p+1),(Kp.refl _ _).setCell (by intro _;rfl) _⟩
 |false=>?_
 go_enter func216,ntmps216
 go_wp2;go_ret;exact⟨rfl,H.out,Kp.refl _ _⟩
theorem pF(want:Int)(h:cW w b t p e f sv tv bv uv)(hp:p<=1000):
 Calls prog 157 #[.pointer (some ⟨b,0,none⟩),.int .u8 want] w λx w'=>x= .returned (.bool (Ch.af t p==want))/\cW w' b t (Ch.bI (Ch.af t p==want) p) e f sv tv bv uv/\Kp (λk=>k=b) w w':=by
 go_enter func157,ntmps157
 go_wp2_with fail
 refine(aV b t p _ h.text h.pos).mono ?_;rintro x w1 ⟨rfl,n1,rfl⟩;have h':cW (w.drewN n1) b t p e f sv tv bv uv:=h;have K1:Kp (λk=>k=b) w (w.drewN n1):=(Kp.refl _ _).drewN _;generalize w.drewN n1=w1 at h' K1⊢;clear h
 go_wp2_with fail
 refine(gY b t p e f sv tv bv uv w1 _ h' hp).mono ?_;rintro x w2 ⟨rfl,h2,K2⟩;go_wp2;go_ret;exact⟨rfl,h2,K1.trans K2⟩
theorem Dd(h:cW w b t p e f sv tv bv uv)(hp:p<=1000):
 Calls prog 279 #[.pointer (some ⟨b,0,none⟩)] w λx w'=>x= .returned (.bool (Ch.bR (Ch.af t p)))/\cW w' b t (Ch.bI (Ch.bR (Ch.af t p)) p) e f sv tv bv uv/\Kp (λk=>k=b) w w':=by
 go_enter func279,ntmps279
 go_wp2_with fail
 refine(aV b t p _ h.text h.pos).mono ?_;rintro x w1 ⟨rfl,n1,rfl⟩;have h':cW (w.drewN n1) b t p e f sv tv bv uv:=h;have K1:Kp (λk=>k=b) w (w.drewN n1):=(Kp.refl _ _).drewN _;generalize w.drewN n1=w1 at h' K1⊢;clear h
 go_wp2_with fail
 refine(iU _ _).mono ?_;rintro x w2 ⟨rfl,rfl⟩
 go_wp2_with fail
 refine(gY b t p e f sv tv bv uv _ _ h' hp).mono ?_;rintro x w2 ⟨rfl,h2,K2⟩;go_wp2;go_ret;exact⟨rfl,h2,K1.trans K2⟩
theorem gZ(h:cW w b t p e f sv tv bv uv)(hp:p<=1000):
 Calls prog 270 #[.pointer (some ⟨b,0,none⟩)] w λx w'=>x= .returned (.bool (Ch.gw (Ch.af t p)))/\cW w' b t (Ch.bI (Ch.gw (Ch.af t p)) p) e f sv tv bv uv/\Kp (λk=>k=b) w w':=by
 rcases Ch.Mx (Ch.af t p)with⟨b1,hv⟩|⟨b1,b2,hv⟩|⟨b1,b2,b3,hv⟩|⟨b1,b2,b3,hv⟩
 all_goals
  rw[hv];clear hv
  go_enter func270,ntmps270
  go_wp2_with fail
  refine(aV b t p _ h.text h.pos).mono ?_;rintro x w1 ⟨rfl,n1,rfl⟩;have h':cW (w.drewN n1) b t p e f sv tv bv uv:=h;have K1:Kp (λk=>k=b) w (w.drewN n1):=(Kp.refl _ _).drewN _;generalize w.drewN n1=w1 at h' K1⊢
  go_wp2_with fail
  refine(gY b t p e f sv tv bv uv _ _ h' hp).mono ?_;rintro x w2 ⟨rfl,h2,K2⟩;go_wp2;go_ret;exact⟨rfl,h2,K1.trans K2⟩
theorem oQ(lo:Int)(h:cW w b t p e f sv tv bv uv)(hp:p<=1000):
 Calls prog 272 #[.pointer (some ⟨b,0,none⟩),.int .u8 lo] w λx w'=>x= .returned (.bool (Ch.eI lo (Ch.af t p)))/\cW w' b t (Ch.bI (Ch.eI lo (Ch.af t p)) p) e f sv tv bv uv/\Kp (λk=>k=b) w w':=by
 rcases Ch.My lo (Ch.af t p)with⟨b1,b2,hv⟩|⟨b1,b2,hv⟩|⟨b1,hv⟩
 all_goals
  rw[hv];clear hv
  go_enter func272,ntmps272
  go_wp2_with fail
  refine(aV b t p _ h.text h.pos).mono ?_;rintro x w1 ⟨rfl,n1,rfl⟩;have h':cW (w.drewN n1) b t p e f sv tv bv uv:=h;have K1:Kp (λk=>k=b) w (w.drewN n1):=(Kp.refl _ _).drewN _;generalize w.drewN n1=w1 at h' K1⊢
  go_wp2_with fail
  refine(gY b t p e f sv tv bv uv _ _ h' hp).mono ?_;rintro x w2 ⟨rfl,h2,K2⟩;go_wp2;go_ret;exact⟨rfl,h2,K1.trans K2⟩
theorem oS(h0:w.cell? ⟨b,0,none⟩=some (.string t))(h1:w.cell? ⟨b,1,none⟩=some (.int .i64 p)):
 Calls prog 271 #[.pointer (some ⟨b,0,none⟩)] w λx w'=>x= .returned (.int .i64 (Ch.af t p-48))/\∃n,w'=w.drewN n:=by
 have lo:=Ch.Y9 t p;have hi:=Ch.P1 t p
 go_enter func271,ntmps271
 go_wp2_with fail
 refine(aV b t p _ h0 h1).mono ?_;rintro x w1 ⟨rfl,n1,rfl⟩;go_wp2;go_ret;exact⟨rfl,n1,rfl⟩
end
section
variable (b ab:Nat) (t:ByteArray) (p:Nat) (a:Ch.Ac) (e f sv tv bv uv:Value) (w:World)
theorem mG(h:cW w b t p e f sv tv bv uv)(ha:lL w ab a)(hp:p<=900):
 Calls prog 276 #[.pointer (some ⟨b,0,none⟩),.pointer (some ⟨ab,0,none⟩)] w λx w'=>x= .returned (.bool (Ch.fU t p a).1)/\
  cW w' b t (Ch.fU t p a).2.2 e f sv tv bv uv/\lL w' ab (Ch.fU t p a).2.1/\Kp (λk=>k=b\/k=ab) w w':=by
 have hne:=ha.ne h;have hs:=h.step;have c1:=h.pos;have f1:=h.free 1
 have H:Hid (lL w ab a/\cW w b t p e f sv tv bv uv):=⟨ha,h⟩
 clear ha h
 go_enter func276,ntmps276
 go_wp2_with fail
 refine(aV b t (p+1) _ hs.text hs.pos).mono ?_;rintro x w1 ⟨rfl,n1,rfl⟩;have K1:Kp (λk=>k=b\/k=ab) w ((w.setCell ⟨b,1,none⟩ (.int .i64 ((p:Int)+1))).drewN n1):=((Kp.refl _ _).setCell (by intro _;exact Or.inl rfl) _).drewN _;have a1:lL ((w.setCell ⟨b,1,none⟩ (.int .i64 ((p:Int)+1))).drewN n1) ab a:=H.out.1.keep (S:=λk=>k=b) (((Kp.refl _ _).setCell (by intro _;rfl) _).drewN _) hne;have h1:=hs.drewN n1;generalize (w.setCell ⟨b,1,none⟩ (.int .i64 ((p:Int)+1))).drewN n1=w1 at K1 a1 h1⊢;clear hs c1 f1 H;have c2:=a1.c1;have f2:=a1.free 1
 have H1:Hid (lL w1 ab a/\cW w1 b t (p+1) e f sv tv bv uv/\Kp (λk=>k=b\/k=ab) w w1):=⟨a1,h1,K1⟩
 clear a1 h1 K1
 go_wp2_with fail
 obtain⟨a1,h1,K1⟩:=H1.out;clear H1 c2 f2;have a2:=a1.set1 (Ch.af t (p+1));have h2:cW (w1.setCell ⟨ab,1,none⟩ (.int .u8 (Ch.af t (p+1)))) b t (p+1) e f sv tv bv uv:=h1.keep (S:=λk=>k=ab) ((Kp.refl _ _).setCell (by intro _;rfl) _) (Ne.symm hne);have K2:Kp (λk=>k=b\/k=ab) w (w1.setCell ⟨ab,1,none⟩ (.int .u8 (Ch.af t (p+1)))):=K1.setCell (by intro _;exact Or.inr rfl) _;generalize w1.setCell ⟨ab,1,none⟩ (.int .u8 (Ch.af t (p+1)))=w2 at a2 h2 K2⊢;clear a1 h1 K1;refine(Dd b t (p+1) e f sv tv bv uv w2 h2 (by omega)).mono ?_;rintro x w3 ⟨rfl,h3,K3⟩;have a3:=a2.keep K3 hne;have K4:=K2.trans' K3 (λi _ e=>Or.inl e);clear a2 h2 K2 K3;go_wp2;go_ret;exact⟨rfl,h3,a3,K4⟩
theorem F7(h:cW w b t p e f sv tv bv uv)(ha:lL w ab a)(hp:p<=900):
 Calls prog 277 #[.pointer (some ⟨b,0,none⟩),.pointer (some ⟨ab,0,none⟩)] w λx w'=>x= .returned (.bool (Ch.py t p a).1)/\
  cW w' b t (Ch.py t p a).2.2 e f sv tv bv uv/\lL w' ab (Ch.py t p a).2.1/\Kp (λk=>k=b\/k=ab) w w':=by
 have hne:=ha.ne h;have E:=mG b ab t p a e f sv tv bv uv w h ha hp;have hb:=Ch.At t p a;unfold Ch.py;generalize Ch.fU t p a=r at E hb⊢;obtain⟨ok,a1,p1⟩:=r;have HE:=hid (E);clear E h ha
 cases ok with
 |false=>
  go_enter func277,ntmps277
  go_wp2_with fail
  refine hm HE ?_;rintro x w1 ⟨rfl,h1,A1,K1⟩;go_wp2;go_ret;exact⟨rfl,h1,A1,K1⟩
 |true=>?_
 go_enter func277,ntmps277
 go_wp2_with fail
 refine hm HE ?_;rintro x w1 ⟨rfl,h1,A1,K1⟩;clear HE;have h1:cW w1 b t p1 e f sv tv bv uv:=h1;have A1:lL w1 ab a1:=A1;have hb:p1<=p+2:=hb.2
 go_wp2_with fail
 refine(oS b t p1 _ h1.text h1.pos).mono ?_;rintro x w2 ⟨rfl,n2,rfl⟩;have a2:lL (w1.drewN n2) ab a1:=A1;have h2:=h1.drewN n2;have K2:=K1.drewN n2;generalize w1.drewN n2=w2 at a2 h2 K2⊢;clear A1 h1 K1;have c2:=a2.c2;have f2:=a2.free 2
 have H2:Hid (lL w2 ab a1/\cW w2 b t p1 e f sv tv bv uv/\Kp (λk=>k=b\/k=ab) w w2):=⟨a2,h2,K2⟩
 clear a2 h2 K2
 go_wp2_with fail
 obtain⟨a2,h2,K2⟩:=H2.out;clear H2 c2 f2;have a3:=a2.set2 (Ch.af t p1-48);have h3:cW (w2.setCell ⟨ab,2,none⟩ (.int .i64 (Ch.af t p1-48))) b t p1 e f sv tv bv uv:=h2.keep (S:=λk=>k=ab) ((Kp.refl _ _).setCell (by intro _;rfl) _) (Ne.symm hne);have K3:Kp (λk=>k=b\/k=ab) w (w2.setCell ⟨ab,2,none⟩ (.int .i64 (Ch.af t p1-48))):=K2.setCell (by intro _;exact Or.inr rfl) _;generalize w2.setCell ⟨ab,2,none⟩ (.int .i64 (Ch.af t p1-48))=w3 at a3 h3 K3⊢;clear a2 h2 K2;refine(oQ b t p1 e f sv tv bv uv w3 49 h3 (by omega)).mono ?_;rintro x w4 ⟨rfl,h4,K4⟩;have a4:=a3.keep K4 hne;have K5:=K3.trans' K4 (λi _ e=>Or.inl e);clear a3 h3 K3 K4;go_wp2;go_ret;exact⟨rfl,h4,a4,K5⟩
theorem l_(h:cW w b t p e f sv tv bv uv)(ha:lL w ab a)(hp:p<=900):
 Calls prog 278 #[.pointer (some ⟨b,0,none⟩),.pointer (some ⟨ab,0,none⟩)] w λx w'=>x= .returned (.bool (Ch.kN t p a).1)/\
  cW w' b t (Ch.kN t p a).2.2 e f sv tv bv uv/\lL w' ab (Ch.kN t p a).2.1/\Kp (λk=>k=b\/k=ab) w w':=by
 cases hv:Ch.gw (Ch.af t (p+1))with
 |false=>
  have HV:Hid (Ch.kN t p a=(false,{a with letter:=Ch.af t (p+1)},p+1)):=by simp[Hid,Ch.kN,Ch.gx,Ch.jC,Ch.bI,hv]
  rw[HV.out];have Hv:Hid (Ch.gw (Ch.af t (p+1))=false):=hv;clear hv HV;have hne:=ha.ne h;have hs:=h.step;have c1:=h.pos;have f1:=h.free 1
  have H:Hid (lL w ab a/\cW w b t p e f sv tv bv uv):=⟨ha,h⟩
  clear ha h
  go_enter func278,ntmps278
  go_wp2_with fail
  refine(aV b t (p+1) _ hs.text hs.pos).mono ?_;rintro x w1 ⟨rfl,n1,rfl⟩;have K1:Kp (λk=>k=b\/k=ab) w ((w.setCell ⟨b,1,none⟩ (.int .i64 ((p:Int)+1))).drewN n1):=((Kp.refl _ _).setCell (by intro _;exact Or.inl rfl) _).drewN _;have a1:lL ((w.setCell ⟨b,1,none⟩ (.int .i64 ((p:Int)+1))).drewN n1) ab a:=H.out.1.keep (S:=λk=>k=b) (((Kp.refl _ _).setCell (by intro _;rfl) _).drewN _) hne;have h1:=hs.drewN n1;generalize (w.setCell ⟨b,1,none⟩ (.int .i64 ((p:Int)+1))).drewN n1=w1 at K1 a1 h1⊢;clear hs c1 f1 H;have c2:=a1.c1;have f2:=a1.free 1
  have H1:Hid (lL w1 ab a/\cW w1 b t (p+1) e f sv tv bv uv/\Kp (λk=>k=b\/k=ab) w w1):=⟨a1,h1,K1⟩
  clear a1 h1 K1
  go_wp2_with fail
  obtain⟨a1,h1,K1⟩:=H1.out;clear H1 c2 f2;have a2:=a1.set1 (Ch.af t (p+1));have h2:cW (w1.setCell ⟨ab,1,none⟩ (.int .u8 (Ch.af t (p+1)))) b t (p+1) e f sv tv bv uv:=h1.keep (S:=λk=>k=ab) ((Kp.refl _ _).setCell (by intro _;rfl) _) (Ne.symm hne);have K2:Kp (λk=>k=b\/k=ab) w (w1.setCell ⟨ab,1,none⟩ (.int .u8 (Ch.af t (p+1)))):=K1.setCell (by intro _;exact Or.inr rfl) _;generalize w1.setCell ⟨ab,1,none⟩ (.int .u8 (Ch.af t (p+1)))=w2 at a2 h2 K2⊢;clear a1 h1 K1;refine(gZ b t (p+1) e f sv tv bv uv w2 h2 (by omega)).mono ?_;rw[Hv.out];rintro x w3 ⟨rfl,h3,K3⟩;have a3:=a2.keep K3 hne;have K4:=K2.trans' K3 (λi _ e=>Or.inl e);clear a2 h2 K2 K3;go_wp2;go_ret;exact⟨rfl,h3,a3,K4⟩
 |true=>?_
 have HV:Hid (Ch.kN t p a=Ch.jC t 48 (true,{a with letter:=Ch.af t (p+1)},p+2)):=by simp[Hid,Ch.kN,Ch.gx,Ch.bI,hv]
 rw[HV.out];have Hv:Hid (Ch.gw (Ch.af t (p+1))=true):=hv;clear hv HV
 obtain⟨p1,hp1⟩:∃p1,p1=p+2:=⟨_,rfl⟩
 rw[<-hp1];have HP:Hid (p1=p+2):=hp1
 have hb:p1<=p+2:=by omega
 clear hp1
 obtain⟨a1,ha1⟩:∃a1:Ch.Ac,a1={a with letter:=Ch.af t (p+1)}:=⟨_,rfl⟩
 rw[<-ha1];have HA:Hid (a1={a with letter:=Ch.af t (p+1)}):=ha1;clear ha1;have hne:=ha.ne h;have hs:=h.step;have c1:=h.pos;have f1:=h.free 1
 have H:Hid (lL w ab a/\cW w b t p e f sv tv bv uv):=⟨ha,h⟩
 clear ha h
 go_enter func278,ntmps278
 go_wp2_with fail
 refine(aV b t (p+1) _ hs.text hs.pos).mono ?_;rintro x w1 ⟨rfl,n1,rfl⟩;have K1:Kp (λk=>k=b\/k=ab) w ((w.setCell ⟨b,1,none⟩ (.int .i64 ((p:Int)+1))).drewN n1):=((Kp.refl _ _).setCell (by intro _;exact Or.inl rfl) _).drewN _;have a1:lL ((w.setCell ⟨b,1,none⟩ (.int .i64 ((p:Int)+1))).drewN n1) ab a:=H.out.1.keep (S:=λk=>k=b) (((Kp.refl _ _).setCell (by intro _;rfl) _).drewN _) hne;have h1:=hs.drewN n1;generalize (w.setCell ⟨b,1,none⟩ (.int .i64 ((p:Int)+1))).drewN n1=w1 at K1 a1 h1⊢;clear hs c1 f1 H;have c2:=a1.c1;have f2:=a1.free 1
 have H1:Hid (lL w1 ab a/\cW w1 b t (p+1) e f sv tv bv uv/\Kp (λk=>k=b\/k=ab) w w1):=⟨a1,h1,K1⟩
 clear a1 h1 K1
 go_wp2_with fail
 obtain⟨a1,h1,K1⟩:=H1.out;clear H1 c2 f2;have a2:=a1.set1 (Ch.af t (p+1));have h2:cW (w1.setCell ⟨ab,1,none⟩ (.int .u8 (Ch.af t (p+1)))) b t (p+1) e f sv tv bv uv:=h1.keep (S:=λk=>k=ab) ((Kp.refl _ _).setCell (by intro _;rfl) _) (Ne.symm hne);have K2:Kp (λk=>k=b\/k=ab) w (w1.setCell ⟨ab,1,none⟩ (.int .u8 (Ch.af t (p+1)))):=K1.setCell (by intro _;exact Or.inr rfl) _;generalize w1.setCell ⟨ab,1,none⟩ (.int .u8 (Ch.af t (p+1)))=w2 at a2 h2 K2⊢;clear a1 h1 K1;refine(gZ b t (p+1) e f sv tv bv uv w2 h2 (by omega)).mono ?_;rw[Hv.out];rintro x w3 ⟨rfl,h3,K3⟩;have a3:=a2.keep K3 hne;have K1:=K2.trans' K3 (λi _ e=>Or.inl e);clear a2 h2 K2 K3
 have h1:cW w3 b t p1 e f sv tv bv uv:=by rw[HP.out];exact h3
 have A1:lL w3 ab a1:=by rw[HA.out];exact a3
 clear a3 h3 Hv HA HP;generalize w3=w1 at h1 A1 K1⊢
 go_wp2_with fail
 refine(oS b t p1 _ h1.text h1.pos).mono ?_;rintro x w2 ⟨rfl,n2,rfl⟩;have a2:lL (w1.drewN n2) ab a1:=A1;have h2:=h1.drewN n2;have K2:=K1.drewN n2;generalize w1.drewN n2=w2 at a2 h2 K2⊢;clear A1 h1 K1;have c2:=a2.c2;have f2:=a2.free 2
 have H2:Hid (lL w2 ab a1/\cW w2 b t p1 e f sv tv bv uv/\Kp (λk=>k=b\/k=ab) w w2):=⟨a2,h2,K2⟩
 clear a2 h2 K2
 go_wp2_with fail
 obtain⟨a2,h2,K2⟩:=H2.out;clear H2 c2 f2;have a3:=a2.set2 (Ch.af t p1-48);have h3:cW (w2.setCell ⟨ab,2,none⟩ (.int .i64 (Ch.af t p1-48))) b t p1 e f sv tv bv uv:=h2.keep (S:=λk=>k=ab) ((Kp.refl _ _).setCell (by intro _;rfl) _) (Ne.symm hne);have K3:Kp (λk=>k=b\/k=ab) w (w2.setCell ⟨ab,2,none⟩ (.int .i64 (Ch.af t p1-48))):=K2.setCell (by intro _;exact Or.inr rfl) _;generalize w2.setCell ⟨ab,2,none⟩ (.int .i64 (Ch.af t p1-48))=w3 at a3 h3 K3⊢;clear a2 h2 K2;refine(oQ b t p1 e f sv tv bv uv w3 48 h3 (by omega)).mono ?_;rintro x w4 ⟨rfl,h4,K4⟩;have a4:=a3.keep K4 hne;have K5:=K3.trans' K4 (λi _ e=>Or.inl e);clear a3 h3 K3 K4;go_wp2;go_ret;exact⟨rfl,h4,a4,K5⟩
theorem P2(h:cW w b t p e f sv tv bv uv)(ha:lL w ab a)(hp:p<=900):
 Calls prog 273 #[.pointer (some ⟨b,0,none⟩),.pointer (some ⟨ab,0,none⟩)] w λx w'=>x= .returned (.bool (Ch.act t p a).1)/\
  cW w' b t (Ch.act t p a).2.2 e f sv tv bv uv/\lL w' ab (Ch.act t p a).2.1/\Kp (λk=>k=b\/k=ab) w w':=by
 have c0:=ha.c0
 cases q33:a.sign==33 with
 |true=>
  have HV:Hid (Ch.act t p a=Ch.fU t p a):=by simp[Hid,Ch.act,q33]
  rw[HV.out];have E:=hid (mG b ab t p a e f sv tv bv uv w h ha hp);clear HV h ha
  go_enter func273,ntmps273
  go_wp2_with fail
  refine hm E ?_;rintro x w1 ⟨rfl,h1⟩;go_wp2;go_ret;exact⟨rfl,h1⟩
 |false=>?_
 cases ME:a.sign==126 with
 |true=>
  have HV:Hid (Ch.act t p a=Ch.fU t p a):=by simp[Hid,Ch.act,q33,ME]
  rw[HV.out];have E:=hid (mG b ab t p a e f sv tv bv uv w h ha hp);clear HV h ha
  go_enter func273,ntmps273
  go_wp2_with fail
  refine hm E ?_;rintro x w1 ⟨rfl,h1⟩;go_wp2;go_ret;exact⟨rfl,h1⟩
 |false=>?_
 cases q35:a.sign==35 with
 |true=>
  have HV:Hid (Ch.act t p a=Ch.fU t p a):=by simp[Hid,Ch.act,q33,ME,q35]
  rw[HV.out];have E:=hid (mG b ab t p a e f sv tv bv uv w h ha hp);clear HV h ha
  go_enter func273,ntmps273
  go_wp2_with fail
  refine hm E ?_;rintro x w1 ⟨rfl,h1⟩;go_wp2;go_ret;exact⟨rfl,h1⟩
 |false=>?_
 cases q64:a.sign==64 with
 |true=>
  have HV:Hid (Ch.act t p a=Ch.py t p a):=by simp[Hid,Ch.act,q33,ME,q35,q64]
  rw[HV.out];have E:=hid (F7 b ab t p a e f sv tv bv uv w h ha hp);clear HV h ha
  go_enter func273,ntmps273
  go_wp2_with fail
  refine hm E ?_;rintro x w1 ⟨rfl,h1⟩;go_wp2;go_ret;exact⟨rfl,h1⟩
 |false=>?_
 cases q43:a.sign==43 with
 |true=>
  have HV:Hid (Ch.act t p a=Ch.kN t p a):=by simp[Hid,Ch.act,q33,ME,q35,q64,q43]
  rw[HV.out];have E:=hid (l_ b ab t p a e f sv tv bv uv w h ha hp);clear HV h ha
  go_enter func273,ntmps273
  go_wp2_with fail
  refine hm E ?_;rintro x w1 ⟨rfl,h1⟩;go_wp2;go_ret;exact⟨rfl,h1⟩
 |false=>?_
 cases q45:a.sign==45 with
 |true=>
  have HV:Hid (Ch.act t p a=Ch.kN t p a):=by simp[Hid,Ch.act,q33,ME,q35,q64,q43,q45]
  rw[HV.out];have E:=hid (l_ b ab t p a e f sv tv bv uv w h ha hp);clear HV h ha
  go_enter func273,ntmps273
  go_wp2_with fail
  refine hm E ?_;rintro x w1 ⟨rfl,h1⟩;go_wp2;go_ret;exact⟨rfl,h1⟩
 |false=>?_
 cases q61:a.sign==61 with
 |true=>
  have HV:Hid (Ch.act t p a=Ch.kN t p a):=by simp[Hid,Ch.act,q33,ME,q35,q64,q43,q45,q61]
  rw[HV.out];have E:=hid (l_ b ab t p a e f sv tv bv uv w h ha hp);clear HV h ha
  go_enter func273,ntmps273
  go_wp2_with fail
  refine hm E ?_;rintro x w1 ⟨rfl,h1⟩;go_wp2;go_ret;exact⟨rfl,h1⟩
 |false=>?_
 have HV:Hid (Ch.act t p a=(false,a,p)):=by simp[Hid,Ch.act,q33,ME,q35,q64,q43,q45,q61]
 rw[HV.out];have E:=hid (ae h ha);clear HV h ha
 go_enter func273,ntmps273
 go_wp2;go_ret;exact⟨rfl,E.out.1,E.out.2,Kp.refl _ _⟩
end
theorem Y_:(prog.info? 255).map (λi=>(i.zero,i.size,i.bytes))=some (some (.agg #[.int .u8 0,.int .u8 0,.int .i64 0]),3,16):=by kernel_rfl
theorem Ch.Vp{t:ByteArray}{cl:Int}(hcl:cl≠0):∀(n p:Nat) (l:List Ch.Ac),p<=t.size->p<=(Ch.fM t cl n p l).2.2/\(Ch.fM t cl n p l).2.2<=t.size:=by
 intro n
 induction n with
 |zero=>intro p l hp;exact⟨Nat.le_refl _,hp⟩
 |succ n ih=>?_
 intro p l hp;have h1:=Ch.pD hp 0 0;have h2:=(Ch.acj t p ⟨Ch.af t p,0,0⟩).1
 cases cc:Ch.af t p==cl with
 |true=>
  rw[Ch.iT cc];have:=Ch.cL hcl cc;exact⟨by show p<=p+1;omega,by show p+1<=_;omega⟩
 |false=>?_
 cases ca:(Ch.act t p ⟨Ch.af t p,0,0⟩).1 with
 |false=>rw[Ch.pE cc ca];exact⟨h2,h1⟩
 |true=>?_
 rw[Ch.jS cc ca];have:=ih (Ch.act t p ⟨Ch.af t p,0,0⟩).2.2 (l++[(Ch.act t p ⟨Ch.af t p,0,0⟩).2.1]) h1;omega
theorem Ch.vZ{t:ByteArray}{cl:Int}{p:Nat}(hp:p<=t.size)(hcl:cl≠0:=by decide):p<=(Ch.acts t cl p).2.2/\(Ch.acts t cl p).2.2<=t.size:=Ch.Vp hcl _ _ _ hp
section
variable (b:Nat) (t:ByteArray) (p:Nat) (e f sv tv bv uv:Value) (w:World)
theorem v7(cl:Int)(h:cW w b t p e f sv tv bv uv)(hp:p<=t.size)(ht:t.size<=240)(hcl:cl≠0):
 Calls prog 251 #[.pointer (some ⟨b,0,none⟩),.int .u8 cl] w λx w'=>∃v,x= .returned (.tuple #[v,.bool (Ch.acts t cl p).1])/\
  cW w' b t (Ch.acts t cl p).2.2 e f sv tv bv uv/\w'.ownsRow w.heap.size 255 3 v (Ch.acts t cl p).2.1.length (fD (Ch.acts t cl p).2.1)/\Kp (λk=>k=b) w w'/\
  (Ch.acts t cl p).2.2<=t.size:=by
 obtain⟨i0,hi,hz0,hz1,hz2⟩:=info_parts Y_;have Hb:=hid h.lt
 go_enter func251,ntmps251
 go_wp2_with fail
 go_loopg [6] (t.size+1) (λk v wr=>∃p1 l,Hid (Ch.acts t cl p=Ch.fM t cl k p1 l)/\p1<=t.size/\t.size+1<=k+p1/\cW wr b t p1 e f sv tv bv uv/\
  wr.ownsRow w.heap.size 255 3 v l.length (fD l)/\l.length<=p1/\Kp (λk=>k=b) w wr)
 case atStart=>exact⟨p,[],hid rfl,hp,by omega,h,World.ownsRow_nil _ _ _ _,by simp,Kp.refl _ _⟩
 case round=>
  obtain⟨p1,l,HE,hp1,hk,h1,ho,hl,K1⟩:=hrel
  obtain⟨k,rfl⟩:∃k,gk=k+1:=⟨gk-1,by omega⟩
  clear h hp
  cases cc:Ch.af t p1==cl with
  |true=>
   have HF:=hid (HE.out.trans (Ch.iT cc));have hlt:=Ch.cL hcl cc;have E:=hid (pF b t p1 e f sv tv bv uv wr cl h1 (by omega));rw[cc]at E;clear h1 cc HE
   go_wp2_with fail
   refine hm E ?_;rintro x w1 ⟨rfl,h2,K2⟩;have o2:=K2.owns ho (λk hk e=>by have:=(ho.lt k hk).1;have:=Hb.out;omega);have K3:=K1.trans K2;clear ho K1 K2 E;go_wp2;go_ret2;exact⟨_,by rw[HF.out];exact⟨rfl,h2,o2,K3,(by show p1+1<=t.size;omega)⟩⟩
  |false=>?_
  cases ca:(Ch.act t p1 ⟨Ch.af t p1,0,0⟩).1 with
  |false=>
   have HF:=hid (HE.out.trans (Ch.pE cc ca));have E:=hid (pF b t p1 e f sv tv bv uv wr cl h1 (by omega));rw[cc]at E;have HA:=hid (ae cc ca);clear h1 cc ca HE
   go_wp2_with fail
   refine hm E ?_;rintro x w1 ⟨rfl,h2,K2⟩;have h2:cW w1 b t p1 e f sv tv bv uv:=h2;have o2:=K2.owns ho (λk hk e=>by have:=(ho.lt k hk).1;have:=Hb.out;omega);have K3:=K1.trans K2;clear ho K1 K2 E
   go_wp2_with fail
   refine(aV b t p1 _ h2.text h2.pos).mono ?_;rintro x w2 ⟨rfl,n2,rfl⟩;have h3:=h2.drewN n2;have o3:(w1.drewN n2).ownsRow _ _ _ _ _ _:=o2;have K4:=K3.drewN n2;generalize w1.drewN n2=w2 at h3 o3 K4⊢;clear h2 o2 K3
   go_wp2_with fail
   have hA:lL (w2.alloc (.cells #[.int .u8 (Ch.af t p1),.int .u8 0,.int .i64 0] 255)) w2.heap.size ⟨Ch.af t p1,0,0⟩:=heap_alloc_new w2 _;have h4:cW (w2.alloc (.cells #[.int .u8 (Ch.af t p1),.int .u8 0,.int .i64 0] 255)) b t p1 e f sv tv bv uv:=h3.keep (S:=λ_=>False) ((Kp.refl _ _).alloc _) (λx=>x);have o4:=o3.alloc (.cells #[.int .u8 (Ch.af t p1),.int .u8 0,.int .i64 0] 255);have K5:=K4.alloc (.cells #[.int .u8 (Ch.af t p1),.int .u8 0,.int .i64 0] 255);have hsz:=K4.size
   have hbl:=λk hk=>(o3.lt k hk).2
   have hbe:=λk hk=>(o3.lt k hk).1
   generalize w2.alloc (.cells #[.int .u8 (Ch.af t p1),.int .u8 0,.int .i64 0] 255)=w3 at hA h4 o4 K5⊢;generalize w2.heap.size=ab at hA hsz hbl⊢;clear h3 o3 K4;have E:=hid (P2 b ab t p1 ⟨Ch.af t p1,0,0⟩ e f sv tv bv uv w3 h4 hA (by omega));rw[HA.out.2]at E;refine hm E ?_;rintro x w4 ⟨rfl,h5,a5,K6⟩;have o5:=K6.owns o4 (λk hk hS=>by have:=hbl k hk;have:=hbe k hk;have:=Hb.out;omega);have K7:=K5.trans' K6 (λi hi hS=>by rcases hS with hS|hS;exact hS;omega);have hs:=Ch.pD hp1 0 0;clear E hA h4 o4 K5 K6 hbl hbe;go_wp2;go_ret2;exact⟨_,by rw[HF.out];exact⟨rfl,h5,World.ownsRow_nil _ _ _ _,K7,hs⟩⟩
  |true=>?_
  have HF:=hid (HE.out.trans (Ch.jS cc ca));have E:=hid (pF b t p1 e f sv tv bv uv wr cl h1 (by omega));rw[cc]at E;have HA:=hid (ae cc ca);clear h1 cc ca HE
  go_wp2_with fail
  refine hm E ?_;rintro x w1 ⟨rfl,h2,K2⟩;have h2:cW w1 b t p1 e f sv tv bv uv:=h2;have o2:=K2.owns ho (λk hk e=>by have:=(ho.lt k hk).1;have:=Hb.out;omega);have K3:=K1.trans K2;clear ho K1 K2 E
  go_wp2_with fail
  refine(aV b t p1 _ h2.text h2.pos).mono ?_;rintro x w2 ⟨rfl,n2,rfl⟩;have h3:=h2.drewN n2;have o3:(w1.drewN n2).ownsRow _ _ _ _ _ _:=o2;have K4:=K3.drewN n2;generalize w1.drewN n2=w2 at h3 o3 K4⊢;clear h2 o2 K3
  go_wp2_with fail
  have hA:lL (w2.alloc (.cells #[.int .u8 (Ch.af t p1),.int .u8 0,.int .i64 0] 255)) w2.heap.size ⟨Ch.af t p1,0,0⟩:=heap_alloc_new w2 _;have h4:cW (w2.alloc (.cells #[.int .u8 (Ch.af t p1),.int .u8 0,.int .i64 0] 255)) b t p1 e f sv tv bv uv:=h3.keep (S:=λ_=>False) ((Kp.refl _ _).alloc _) (λx=>x);have o4:=o3.alloc (.cells #[.int .u8 (Ch.af t p1),.int .u8 0,.int .i64 0] 255);have K5:=K4.alloc (.cells #[.int .u8 (Ch.af t p1),.int .u8 0,.int .i64 0] 255);have hsz:=K4.size
  have hbl:=λk hk=>(o3.lt k hk).2
  have hbe:=λk hk=>(o3.lt k hk).1
  generalize w2.alloc (.cells #[.int .u8 (Ch.af t p1),.int .u8 0,.int .i64 0] 255)=w3 at hA h4 o4 K5⊢;generalize w2.heap.size=ab at hA hsz hbl⊢;clear h3 o3 K4;have E:=hid (P2 b ab t p1 ⟨Ch.af t p1,0,0⟩ e f sv tv bv uv w3 h4 hA (by omega));rw[HA.out.2]at E;refine hm E ?_;rintro x w4 ⟨rfl,h5,a5,K6⟩;have o5:=K6.owns o4 (λk hk hS=>by have:=hbl k hk;have:=hbe k hk;have:=Hb.out;omega);have K7:=K5.trans' K6 (λi hi hS=>by rcases hS with hS|hS;exact hS;omega);have hs:=Ch.pD hp1 0 0;clear E hA h4 o4 K5 K6 hbl hbe;have aiI:=Ch.zT HA.out.2;have m0:=a5.c0;have m1:=a5.c1;have m2:=a5.c2;generalize Ch.act t p1 ⟨Ch.af t p1,0,0⟩=r at HF h5 a5 hs aiI m0 m1 m2;obtain⟨ok,a1,p2⟩:=r
  go_wp2_with (at_builtin;refine wpList_append_own _ rfl (.tmp 22) (.tmp 24) 207 rfl w.heap.size 255 i0 (.agg #[.int .u8 0,.int .u8 0,.int .i64 0]) 3 16 underlying207 hi hz0 hz1 hz2 rfl (by decide) _ _ _ rfl (o5.alloc _) ⟨w4.heap.size,0,none⟩ 1 1 [.int .u8 a1.sign,.int .u8 a1.letter,.int .i64 a1.digit] rfl rfl ?c1 ?c2 ?c3 ?c4 ?c5 ?_)
  case c1=>exact Aw _ _ _ _ _
  case c2=>intro u hu;simp at hu;rcases hu with rfl|rfl|rfl<;>rfl
  case c3=>unfold maxLen;omega
  case c4=>omega
  case c5=>have:=K7.size;simp;omega
  intro v' w5 o6 g6 _;have K8:Kp (λk=>k=b) w w5:=(K7.alloc _).grown g6 (λk hk hlt=>by have:=(o5.lt k hk).1;omega);have h6:cW w5 b t p2 e f sv tv bv uv:=(h5.keep (S:=λ_=>False) ((Kp.refl _ _).alloc _) (λx=>x)).keep (S:=λk=>u6.ownBlock=some k) ((Kp.refl _ _).grown g6 (λk hk _=>hk)) (λhk=>by have:=(o5.lt _ hk).1;have:=Hb.out;omega);rw[<-FZ]at o6;clear o5 g6 K7 h5 a5 m0 m1 m2 HA;go_wp2
  go_roundg k
  case measure=>omega
  case rel=>exact⟨p2,l++[a1],HF,hs,by omega,h6,by simpa using o6,by simp;omega,K8⟩
end
end Go.Proofs.YtnlbchmfcebeeaaGreat
