import Derived.WalkKit
import Derived.WalkSpells
import Derived.Deep.Draws
import Derived.Test.YtnlbchmfcebeeaaGreatProg
import Derived.Deep.QuietTactic
import Derived.BigQuiet
import Derived.Deep.LoopGhost
set_option maxHeartbeats 12800000
set_option maxRecDepth 100000
namespace Go.Proofs.YtnlbchmfcebeeaaGreat
open Go.Proofs.Tryz
open Go.RowKit
theorem ae {a b:Prop}(x:a)(y:b):a/\b:=⟨x,y⟩
namespace Ch
structure St where
 name : Int
 pos : Int
 kind : Int
 parent : Int
structure Ac where
 sign : Int
 letter : Int
 digit : Int
structure Gd where
 var : Int
 sign : Int
 digit : Int
structure Tr where
 state : Int
 kG : Int
 guard : Gd
 acts : List Ac
 target : Int
structure Bl where
 state : Int
 sign : Int
 acts : List Ac
structure Us where
 name : Int
 pos : Int
structure Rs where
 pos : Nat
 ag : List St
 bH : List Tr
 cM : List Bl
 uses : List Us
def bN (c : Int) : Bool:=decide (97 <= c) && decide (c <= 122)
def cm (c : Int) : Bool:=decide (65 <= c) && decide (c <= 90)
def fK (c : Int) : Bool:=c == 120 || c == 121 || c == 122
def eQ (lo c : Int) : Bool:=decide (lo <= c) && decide (c <= 57)
theorem zb (c : Int) : ((c == 120) = true /\ fK c = true) \/ ((c == 120) = false /\ (c == 121) = true /\ fK c = true) \/
 ((c == 120) = false /\ (c == 121) = false /\ (c == 122) = true /\ fK c = true) \/ ((c == 120) = false /\ (c == 121) = false /\ (c == 122) = false /\ fK c = false):=by
 unfold fK
 cases h1 : c == 120 <;> cases h2 : c == 121 <;> cases h3 : c == 122 <;> simp
theorem zc (lo c : Int) : (lo <= c /\ c <= 57 /\ eQ lo c = true) \/ (lo <= c /\ decide (c <= 57) = false /\ eQ lo c = false) \/ (decide (lo <= c) = false /\ eQ lo c = false):=by
 unfold eQ
 by_cases h1 : lo <= c <;> by_cases h2 : c <= 57 <;> simp [h1,h2] <;> omega
def af (t : ByteArray) (p : Nat) : Int:=if h : p < t.size then (t[p].toNat : Int) else 0
theorem Hz (t : ByteArray) (p : Nat) : 0 <= af t p:=by unfold af;split <;> omega
theorem Be (t : ByteArray) (p : Nat) : af t p <= 255:=by
 unfold af;split
 ·rename_i h;have:=t[p].toNat_lt;omega
 omega
def kindOf (c : Int) : Int:=if c == 91 then 3 else if c == 60 then 4 else if c == 42 then 5 else 1
def bm (ok : Bool) (p : Nat) : Nat:=if ok then p + 1 else p
def eu (t : ByteArray) (p : Nat) (a : Ac) : Bool × Ac × Nat :=
 (bN (af t (p + 1)),{ a with letter:=af t (p + 1) },bm (bN (af t (p + 1))) (p + 1))
def ik (t : ByteArray) (lo : Int) (r : Bool × Ac × Nat) : Bool × Ac × Nat :=
 if r.1 then (eQ lo (af t r.2.2),{ r.2.1 with digit:=af t r.2.2 - 48 },bm (eQ lo (af t r.2.2)) r.2.2) else r
def eR (t : ByteArray) (p : Nat) (a : Ac) : Bool × Ac × Nat :=
 (fK (af t (p + 1)),{ a with letter:=af t (p + 1) },bm (fK (af t (p + 1))) (p + 1))
def kO (t : ByteArray) (p : Nat) (a : Ac) : Bool × Ac × Nat:=ik t 49 (eu t p a)
def il (t : ByteArray) (p : Nat) (a : Ac) : Bool × Ac × Nat:=ik t 48 (eR t p a)
def act (t : ByteArray) (p : Nat) (a : Ac) : Bool × Ac × Nat :=
 if a.sign == 33 || a.sign == 126 || a.sign == 35 then eu t p a
 else if a.sign == 64 then kO t p a
 else if a.sign == 43 || a.sign == 45 || a.sign == 61 then il t p a
 else (false,a,p)
theorem ot (ok : Bool) (p : Nat) : bm ok p <= p + 1:=by unfold bm;split <;> omega
theorem gC (ok : Bool) (p : Nat) : p <= bm ok p:=by unfold bm;split <;> omega
theorem qO (t : ByteArray) (p : Nat) (a : Ac) : p + 1 <= (eu t p a).2.2 /\ (eu t p a).2.2 <= p + 2:=by
 have h1:=ot (bN (af t (p + 1))) (p + 1);have h2:=gC (bN (af t (p + 1))) (p + 1);exact ⟨h2,h1⟩
theorem ua (t : ByteArray) (p : Nat) (a : Ac) : p + 1 <= (eR t p a).2.2 /\ (eR t p a).2.2 <= p + 2:=by
 have h1:=ot (fK (af t (p + 1))) (p + 1);have h2:=gC (fK (af t (p + 1))) (p + 1);exact ⟨h2,h1⟩
theorem ng (t : ByteArray) (lo : Int) (r : Bool × Ac × Nat) : r.2.2 <= (ik t lo r).2.2 /\ (ik t lo r).2.2 <= r.2.2 + 1:=by
 unfold ik;split
 ·exact ⟨gC _ _,ot _ _⟩
 omega
theorem J9 (t : ByteArray) (p : Nat) (a : Ac) : p <= (act t p a).2.2 /\ (act t p a).2.2 <= p + 3:=by
 have h1:=qO t p a;have h2:=ua t p a;have h3:=ng t 49 (eu t p a);have h4:=ng t 48 (eR t p a);unfold act kO il
 split
 ·omega
 split
 ·omega
 split
 ·omega
 exact ⟨Nat.le_refl _,Nat.le_add_right _ _⟩
theorem bJ {t : ByteArray} {p : Nat} (h : t.size <= p) : af t p = 0:=by unfold af;rw [dif_neg (by omega)]
theorem zd {t : ByteArray} {p : Nat} (h : bN (af t p) = true) : p < t.size:=by
 rcases Nat.lt_or_ge p t.size with h' | h'
 ·exact h'
 rw [bJ h'] at h;simp [bN] at h
theorem qP {t : ByteArray} {p : Nat} (h : fK (af t p) = true) : p < t.size:=by
 rcases Nat.lt_or_ge p t.size with h' | h'
 ·exact h'
 rw [bJ h'] at h;simp [fK] at h
theorem qQ {t : ByteArray} {p : Nat} (h : cm (af t p) = true) : p < t.size:=by
 rcases Nat.lt_or_ge p t.size with h' | h'
 ·exact h'
 rw [bJ h'] at h;simp [cm] at h
theorem qR {t : ByteArray} {lo : Int} {p : Nat} (hl : 1 <= lo) (h : eQ lo (af t p) = true) : p < t.size:=by
 rcases Nat.lt_or_ge p t.size with h' | h'
 ·exact h'
 rw [bJ h'] at h;simp [eQ] at h;omega
theorem cd {t : ByteArray} {p : Nat} {c : Int} (hc : c ≠ 0) (h : (af t p == c) = true) : p < t.size:=by
 rcases Nat.lt_or_ge p t.size with h' | h'
 ·exact h'
 rw [bJ h'] at h;simp at h;omega
theorem eS {t : ByteArray} {ok : Bool} {p : Nat} (hp : p <= t.size) (h : ok = true -> p < t.size) : bm ok p <= t.size:=by
 unfold bm;split
 ·have:=h (by assumption);omega
 exact hp
theorem ze {t : ByteArray} {p : Nat} (a : Ac) (hp : p < t.size) : (eu t p a).2.2 <= t.size:=eS (by omega) zd
theorem wR {t : ByteArray} {p : Nat} (a : Ac) (hp : p < t.size) : (eR t p a).2.2 <= t.size:=eS (by omega) qP
theorem qT {t : ByteArray} {lo : Int} (hl : 1 <= lo) {r : Bool × Ac × Nat} (h : r.2.2 <= t.size) : (ik t lo r).2.2 <= t.size:=by
 unfold ik;split
 ·exact eS h (qR hl)
 exact h
theorem kP {t : ByteArray} {p : Nat} (hp : p <= t.size) (l d : Int) : (act t p ⟨af t p,l,d⟩).2.2 <= t.size:=by
 rcases Nat.lt_or_ge p t.size with h | h
 ·have h1:=ze ⟨af t p,l,d⟩ h
  have h2:=qT (lo:=49) (by omega) h1;have h3:=qT (lo:=48) (by omega) (wR ⟨af t p,l,d⟩ h);unfold act kO il
  split
  ·exact h1
  split
  ·exact h2
  split
  ·exact h3
  exact hp
 rw [bJ h];exact hp
theorem vf {t : ByteArray} {p : Nat} {a : Ac} (h : (act t p a).1 = true) : p < (act t p a).2.2:=by
 have h1:=qO t p a;have h2:=ua t p a;have h3:=ng t 49 (eu t p a);have h4:=ng t 48 (eR t p a);unfold act kO il at *
 split
 ·omega
 split
 ·omega
 split
 ·omega
 simp_all
def ew (t : ByteArray) (cl : Int) : Nat -> Nat -> List Ac -> Bool × List Ac × Nat
 | 0,p,_=>(false,[],p)
 | n + 1,p,l=>if af t p == cl then (true,l,p + 1) else
  if (act t p ⟨af t p,0,0⟩).1 then ew t cl n (act t p ⟨af t p,0,0⟩).2.2 (l ++ [(act t p ⟨af t p,0,0⟩).2.1])
  else (false,[],(act t p ⟨af t p,0,0⟩).2.2)
def acts (t : ByteArray) (cl : Int) (p : Nat) : Bool × List Ac × Nat:=ew t cl (t.size + 1) p []
theorem jd {t : ByteArray} {cl : Int} {n p : Nat} {l : List Ac} (h : (af t p == cl) = true) : ew t cl (n + 1) p l = (true,l,p + 1):=by
 simp [ew,h]
theorem ow {t : ByteArray} {cl : Int} {n p : Nat} {l : List Ac} (h : (af t p == cl) = false) (h2 : (act t p ⟨af t p,0,0⟩).1 = false) :
 ew t cl (n + 1) p l = (false,[],(act t p ⟨af t p,0,0⟩).2.2):=by
 simp [ew,h,h2]
theorem j6 {t : ByteArray} {cl : Int} {n p : Nat} {l : List Ac} (h : (af t p == cl) = false) (h2 : (act t p ⟨af t p,0,0⟩).1 = true) :
 ew t cl (n + 1) p l = ew t cl n (act t p ⟨af t p,0,0⟩).2.2 (l ++ [(act t p ⟨af t p,0,0⟩).2.1]):=by
 simp [ew,h,h2]
end Ch
abbrev aW : Array Value:=#[.bool false,.bool false,.bool false,.bool false,.bool false,.bool false,.bool false,.bool false,.bool false,.bool false,.bool false,.bool false,.bool false,.bool false,.bool false,.bool false]
abbrev cU : Array Value:=#[.int .u8 0,.int .u8 0,.int .u8 0,.int .u8 0,.int .u8 0,.int .u8 0,.int .u8 0,.int .u8 0,.int .u8 0,.int .u8 0,.int .u8 0,.int .u8 0,.int .u8 0,.int .u8 0,.int .u8 0,.int .u8 0]
abbrev gV : Array Value:=#[.bool false,.bool false,.bool false,.bool false,.bool false,.bool false,.bool false,.bool false,.bool false,.bool false,.bool false,.bool false,.bool false,.bool false,.bool false,.bool false,.int .u8 0,.int .u8 0,.int .u8 0,.int .u8 0,.int .u8 0,.int .u8 0,.int .u8 0,.int .u8 0,.int .u8 0,.int .u8 0,.int .u8 0,.int .u8 0,.int .u8 0,.int .u8 0,.int .u8 0,.int .u8 0,.string ByteArray.empty,.int .i64 0,.int .i64 0,.int .i64 0]
abbrev aF : Array Value:=#[.bool false,.bool false,.bool false,.bool false,.bool false,.bool false,.bool false,.bool false,.bool false,.bool false,.bool false,.bool false,.bool false,.bool false,.bool false,.bool false,.int .u8 0,.int .u8 0,.int .u8 0,.int .u8 0,.int .u8 0,.int .u8 0,.int .u8 0,.int .u8 0,.int .u8 0,.int .u8 0,.int .u8 0,.int .u8 0,.int .u8 0,.int .u8 0,.int .u8 0,.int .u8 0,.string ⟨#[]⟩,.int .i64 0,.int .i64 0,.int .i64 0]
abbrev ox : Array Value:=#[.pointer none,.bool false,.bool false,.bool false,.bool false,.bool false,.bool false,.bool false,.bool false,.bool false,.bool false,.bool false,.bool false,.bool false,.bool false,.bool false,.bool false,.int .u8 0,.int .u8 0,.int .u8 0,.int .u8 0,.int .u8 0,.int .u8 0,.int .u8 0,.int .u8 0,.int .u8 0,.int .u8 0,.int .u8 0,.int .u8 0,.int .u8 0,.int .u8 0,.int .u8 0,.int .u8 0,.string ⟨#[]⟩,.int .i64 0,.int .i64 0,.int .i64 0,.slice none 0 0,.slice none 0 0]
abbrev iF : Array Value:=#[.int .i64 0,.int .i64 0,.int .i64 0,.slice none 0 0,.slice none 0 0,.slice none 0 0,.bool false,.bool false,.bool false,.bool false,.bool false,.bool false,.bool false,.bool false,.bool false,.bool false,.bool false,.bool false,.bool false,.bool false,.bool false,.bool false,.int .u8 0,.int .u8 0,.int .u8 0,.int .u8 0,.int .u8 0,.int .u8 0,.int .u8 0,.int .u8 0,.int .u8 0,.int .u8 0,.int .u8 0,.int .u8 0,.int .u8 0,.int .u8 0,.int .u8 0,.int .u8 0,.string ⟨#[]⟩,.int .i64 0,.int .i64 0,.int .i64 0]
abbrev uc : Array Value:=#[.int .i64 0,.int .i64 0,.slice none 0 0,.slice none 0 0,.slice none 0 0]
abbrev cf : Array Value:=#[.string ⟨#[]⟩,.string ⟨#[]⟩,.string ⟨#[]⟩,.int .i64 0,.int .i64 0,.int .i64 0]
abbrev nh : Array Value:=#[.int .i64 0,.bool false,.bool false,.bool false,.bool false,.bool false,.bool false,.bool false,.bool false,.bool false,.bool false,.bool false,.bool false,.bool false,.bool false,.bool false,.bool false,.int .u8 0,.int .u8 0,.int .u8 0,.int .u8 0,.int .u8 0,.int .u8 0,.int .u8 0,.int .u8 0,.int .u8 0,.int .u8 0,.int .u8 0,.int .u8 0,.int .u8 0,.int .u8 0,.int .u8 0,.int .u8 0,.string ⟨#[]⟩,.int .i64 0,.int .i64 0,.int .i64 0,.int .i64 0]
abbrev nk : Array Value:=#[.int .i64 0,.string ⟨#[]⟩,.int .i64 0,.bool false,.int .i64 0,.int .i64 0,.bool false,.bool false,.bool false,.bool false,.bool false,.bool false,.bool false,.bool false,.bool false,.bool false,.bool false,.bool false,.bool false,.bool false,.bool false,.bool false,.int .u8 0,.int .u8 0,.int .u8 0,.int .u8 0,.int .u8 0,.int .u8 0,.int .u8 0,.int .u8 0,.int .u8 0,.int .u8 0,.int .u8 0,.int .u8 0,.int .u8 0,.int .u8 0,.int .u8 0,.int .u8 0,.string ⟨#[]⟩,.int .i64 0,.int .i64 0,.int .i64 0,.string ⟨#[]⟩,.int .i64 0,.int .i64 0]
abbrev aA : Array Value:=#[.int .i64 0,.int .i64 0,.int .i64 0,.int .i64 0,.string ⟨#[]⟩,.string ⟨#[]⟩,.string ⟨#[]⟩,.int .i64 0,.int .i64 0,.int .i64 0,.string ⟨#[]⟩]
abbrev cC : Array Value:=#[.int .i64 0,.int .i64 0,.slice none 0 0,.slice none 0 0,.slice none 0 0,.int .i64 0,.slice none 0 0,.int .i64 0,.string ⟨#[]⟩,.slice none 0 0,.int .i64 0,.int .i64 0]
theorem hid {p : Prop} (h : p) : Hid p:=h
theorem hm {P : Program} {f : FuncId} {args : Array Value} {w : World} {Q R : Ending -> World -> Prop} (h : Hid (Calls P f args w Q)) (k : ∀ e w',Q e w' -> R e w') : Calls P f args w R:=Calls.mono h k
structure Kp (S : Nat -> Prop) (w w' : World) : Prop where
 os : w'.os = w.os
 tape : w'.tape = w.tape
 output : w'.output = w.output
 size : w.heap.size <= w'.heap.size
 block : ∀ k,k < w.heap.size -> ¬ S k -> w'.heap[k]? = w.heap[k]?
theorem Kp.refl (S : Nat -> Prop) (w : World) : Kp S w w:=⟨rfl,rfl,rfl,Nat.le_refl _,fun _ _ _=>rfl⟩
theorem Kp.trans {S : Nat -> Prop} {a b c : World} (h : Kp S a b) (k : Kp S b c) : Kp S a c :=
 ⟨k.os.trans h.os,k.tape.trans h.tape,k.output.trans h.output,Nat.le_trans h.size k.size,
  fun i hi hs=>(k.block i (Nat.lt_of_lt_of_le hi h.size) hs).trans (h.block i hi hs)⟩
theorem Kp.trans' {S S' : Nat -> Prop} {a b c : World} (h : Kp S a b) (k : Kp S' b c) (hs : ∀ i,i < a.heap.size -> S' i -> S i) : Kp S a c :=
 ⟨k.os.trans h.os,k.tape.trans h.tape,k.output.trans h.output,Nat.le_trans h.size k.size,
  fun i hi hn=>(k.block i (Nat.lt_of_lt_of_le hi h.size) (fun x=>hn (hs i hi x))).trans (h.block i hi hn)⟩
theorem Kp.mono {S S' : Nat -> Prop} {w w' : World} (h : Kp S w w') (hs : ∀ i,i < w.heap.size -> S i -> S' i) : Kp S' w w' :=
 ⟨h.os,h.tape,h.output,h.size,fun k hk hn=>h.block k hk (fun x=>hn (hs k hk x))⟩
theorem Kp.drew {S : Nat -> Prop} {a w : World} (h : Kp S a w) : Kp S a w.drew:=⟨h.os,h.tape,h.output,h.size,h.block⟩
theorem Kp.drewN {S : Nat -> Prop} {a w : World} (h : Kp S a w) (n : Nat) : Kp S a (w.drewN n):=⟨h.os,h.tape,h.output,h.size,h.block⟩
theorem Kp.alloc {S : Nat -> Prop} {a w : World} (h : Kp S a w) (o : Obj) : Kp S a (w.alloc o) :=
 h.trans ⟨rfl,rfl,rfl,by simp,fun k hk _=>Below.heap_alloc _ _ _ (by omega)⟩
theorem Kp.setCell {S : Nat -> Prop} {a w : World} (h : Kp S a w) {p : Addr} (hp : p.block < a.heap.size -> S p.block) (u : Value) : Kp S a (w.setCell p u) :=
 h.trans' (S':=fun k=>k = p.block) ⟨rfl,rfl,rfl,by simp [World.setCell],fun k _ hn=>Below.heap_setCell _ _ _ _ hn⟩ (fun i hi e=>by subst e;exact hp hi)
theorem Kp.grown {S : Nat -> Prop} {a w w' : World} {row : Option Nat} (h : Kp S a w) (hg : w.grownBy w' row) (hr : ∀ k,row = some k -> k < a.heap.size -> S k) : Kp S a w' :=
 h.trans' (S':=fun k=>row = some k) ⟨hg.os,hg.tape,hg.output,hg.size,fun k hk hn=>hg.block k hk (fun e=>hn e.symm)⟩ (fun i hi e=>hr i e hi)
theorem Kp.below {S : Nat -> Prop} {w w' : World} {B : Nat} (h : Kp S w w') (hB : B <= w.heap.size) (hs : ∀ k,S k -> B <= k) : Below B w w' :=
 ⟨h.os,h.tape,h.output,h.size,fun k hk=>h.block k (by omega) (fun x=>by have:=hs k x;omega)⟩
theorem Kp.at_ {S : Nat -> Prop} {w w' : World} (h : Kp S w w') {k : Nat} {o : Obj} (ho : w.heap[k]? = some o) (hs : ¬ S k) : w'.heap[k]? = some o :=
 (h.block k (lt_of_block ho) hs).trans ho
theorem Kp.owns {S : Nat -> Prop} {w w' : World} (h : Kp S w w') {base : Nat} {e : TypeId} {size : Nat} {v : Value} {n : Nat} {xs : List Value}
 (ho : w.ownsRow base e size v n xs) (hs : ∀ k,v.ownBlock = some k -> ¬ S k) : w'.ownsRow base e size v n xs:=by
 refine ⟨ho.1,?_⟩
 rcases ho.2 with hn | ⟨g,cap,cur,rfl,hb,hg,rest⟩
 ·exact .inl hn
 exact .inr ⟨g,cap,cur,rfl,hb,h.at_ hg (hs g rfl),rest⟩
theorem ah {w : World} {b i : Nat} {c : Array Value} {t : TypeId} {f : Nat × Nat} (u : Value) (h : w.heap[b]? = some (.cells c t f)) :
 (w.setCell ⟨b,i,none⟩ u).heap[b]? = some (.cells (c.setIfInBounds i u) t f):=by
 have hlt:=lt_of_block h
 have h' : w.heap[b] = .cells c t f:=by simpa [Array.getElem?_eq_getElem hlt] using h
 show (w.heap.modify b _)[b]? = _;rw [Array.getElem?_eq_getElem (by simpa using hlt),Array.getElem_modify_self,h'];rfl
def bB (w : World) (b : Nat) (t : ByteArray) (p : Nat) (e f sv tv bv uv : Value) : Prop :=
 w.heap[b]? = some (.cells #[.string t,.int .i64 p,e,f,sv,tv,bv,uv] 143 (0,0))
section
variable {w : World} {b : Nat} {t : ByteArray} {p : Nat} {e f sv tv bv uv : Value}
theorem bB.text (h : bB w b t p e f sv tv bv uv) : w.cell? ⟨b,0,none⟩ = some (.string t):=by unfold bB at h;simp [World.cell?,h]
theorem bB.pos (h : bB w b t p e f sv tv bv uv) : w.cell? ⟨b,1,none⟩ = some (.int .i64 p):=by unfold bB at h;simp [World.cell?,h]
theorem bB.c2 (h : bB w b t p e f sv tv bv uv) : w.cell? ⟨b,2,none⟩ = some e:=by unfold bB at h;simp [World.cell?,h]
theorem bB.c3 (h : bB w b t p e f sv tv bv uv) : w.cell? ⟨b,3,none⟩ = some f:=by unfold bB at h;simp [World.cell?,h]
theorem bB.c4 (h : bB w b t p e f sv tv bv uv) : w.cell? ⟨b,4,none⟩ = some sv:=by unfold bB at h;simp [World.cell?,h]
theorem bB.c5 (h : bB w b t p e f sv tv bv uv) : w.cell? ⟨b,5,none⟩ = some tv:=by unfold bB at h;simp [World.cell?,h]
theorem bB.c6 (h : bB w b t p e f sv tv bv uv) : w.cell? ⟨b,6,none⟩ = some bv:=by unfold bB at h;simp [World.cell?,h]
theorem bB.c7 (h : bB w b t p e f sv tv bv uv) : w.cell? ⟨b,7,none⟩ = some uv:=by unfold bB at h;simp [World.cell?,h]
theorem bB.free (h : bB w b t p e f sv tv bv uv) (i : Nat) : w.frozen? ⟨b,i,none⟩ = false:=by unfold bB at h;simp [World.frozen?,h]
theorem bB.set1 (h : bB w b t p e f sv tv bv uv) (q : Nat) : bB (w.setCell ⟨b,1,none⟩ (.int .i64 q)) b t q e f sv tv bv uv:=by
 unfold bB at *;rw [ah _ h];rfl
theorem bB.step (h : bB w b t p e f sv tv bv uv) : bB (w.setCell ⟨b,1,none⟩ (.int .i64 ((p : Int) + 1))) b t (p + 1) e f sv tv bv uv:=h.set1 (p + 1)
theorem bB.drewN (h : bB w b t p e f sv tv bv uv) (n : Nat) : bB (w.drewN n) b t p e f sv tv bv uv:=h
theorem bB.keep {S : Nat -> Prop} {w' : World} (h : bB w b t p e f sv tv bv uv) (k : Kp S w w') (hs : ¬ S b) : bB w' b t p e f sv tv bv uv:=Kp.at_ k h hs
theorem bB.alloc (h : bB w b t p e f sv tv bv uv) (o : Obj) : bB (w.alloc o) b t p e f sv tv bv uv:=h.keep (S:=fun _=>False) ((Kp.refl _ _).alloc _) (fun x=>x)
theorem bB.grown {w' : World} {row : Option Nat} (h : bB w b t p e f sv tv bv uv) (g : w.grownBy w' row) (hr : row ≠ some b) : bB w' b t p e f sv tv bv uv :=
 h.keep (S:=fun k=>row = some k) ((Kp.refl _ _).grown g (fun _ hk _=>hk)) hr
theorem bB.lt (h : bB w b t p e f sv tv bv uv) : b < w.heap.size:=lt_of_block h
theorem bB.J_ (h : bB w b t p e f sv tv bv uv) (v : Value) : bB (w.setCell ⟨b,4,none⟩ v) b t p e f v tv bv uv:=by
 unfold bB at *;rw [ah _ h];rfl
theorem bB.oy (h : bB w b t p e f sv tv bv uv) (v : Value) : bB (w.setCell ⟨b,5,none⟩ v) b t p e f sv v bv uv:=by
 unfold bB at *;rw [ah _ h];rfl
theorem bB.qU (h : bB w b t p e f sv tv bv uv) (v : Value) : bB (w.setCell ⟨b,6,none⟩ v) b t p e f sv tv v uv:=by
 unfold bB at *;rw [ah _ h];rfl
theorem bB.PE (h : bB w b t p e f sv tv bv uv) (v : Value) : bB (w.setCell ⟨b,7,none⟩ v) b t p e f sv tv bv v:=by
 unfold bB at *;rw [ah _ h];rfl
end
def h_ (w : World) (ab : Nat) (a : Ch.Ac) : Prop:=w.heap[ab]? = some (.cells #[.int .u8 a.sign,.int .u8 a.letter,.int .i64 a.digit] 255 (0,0))
section
variable {w : World} {ab : Nat} {a : Ch.Ac}
theorem h_.c0 (h : h_ w ab a) : w.cell? ⟨ab,0,none⟩ = some (.int .u8 a.sign):=by unfold h_ at h;simp [World.cell?,h]
theorem h_.c1 (h : h_ w ab a) : w.cell? ⟨ab,1,none⟩ = some (.int .u8 a.letter):=by unfold h_ at h;simp [World.cell?,h]
theorem h_.c2 (h : h_ w ab a) : w.cell? ⟨ab,2,none⟩ = some (.int .i64 a.digit):=by unfold h_ at h;simp [World.cell?,h]
theorem h_.free (h : h_ w ab a) (i : Nat) : w.frozen? ⟨ab,i,none⟩ = false:=by unfold h_ at h;simp [World.frozen?,h]
theorem h_.set1 (h : h_ w ab a) (l : Int) : h_ (w.setCell ⟨ab,1,none⟩ (.int .u8 l)) ab { a with letter:=l }:=by unfold h_ at *;rw [ah _ h];rfl
theorem h_.set2 (h : h_ w ab a) (d : Int) : h_ (w.setCell ⟨ab,2,none⟩ (.int .i64 d)) ab { a with digit:=d }:=by unfold h_ at *;rw [ah _ h];rfl
theorem h_.keep {S : Nat -> Prop} {w' : World} (h : h_ w ab a) (k : Kp S w w') (hs : ¬ S ab) : h_ w' ab a:=Kp.at_ k h hs
theorem h_.ne {b : Nat} {t : ByteArray} {p : Nat} {e f sv tv bv uv : Value} (h : h_ w ab a) (k : bB w b t p e f sv tv bv uv) : ab ≠ b:=by
 intro x;subst x;unfold h_ at h;unfold bB at k;rw [h] at k;simp at k
end
def cX (l : List Ch.Ac) : List Value:=l.flatMap fun a=>[.int .u8 a.sign,.int .u8 a.letter,.int .i64 a.digit]
theorem vg (l : List Ch.Ac) (a : Ch.Ac) : cX (l ++ [a]) = cX l ++ [.int .u8 a.sign,.int .u8 a.letter,.int .i64 a.digit]:=by simp [cX]
theorem zg (w : World) (x y z : Value) (T : TypeId) : ∀ j u,[x,y,z][j]? = some u -> (w.alloc (.cells #[x,y,z] T)).cell? ((⟨w.heap.size,0,none⟩ : Addr).add j) = some u:=by
 intro j u hj
 match j,hj with
 | 0,hj=>simp at hj;subst hj;simp [Addr.add]
 | 1,hj=>simp at hj;subst hj;simp [Addr.add]
 | 2,hj=>simp at hj;subst hj;simp [Addr.add]
theorem Tq (w : World) (n m : Nat) : (w.drewN n).drewN m = w.drewN (n + m):=World.drewN_drewN ..
theorem eT (c : Int) (w : World) :
 Calls prog 56 #[.int .u8 c] w fun e w'=>e = .returned (.bool (Ch.bN c)) /\ w' = w:=by
 by_cases h1 : 97 <= c
 ·by_cases h2 : c <= 122
  ·have H : Hid (Ch.bN c = true):=by simp [Hid,Ch.bN,h1,h2]
   go_enter func56,ntmps56
   go_wp2;go_ret;exact ⟨by rw [H.out];rfl,rfl⟩
  have H : Hid (Ch.bN c = false):=by simp [Hid,Ch.bN,h2]
  go_enter func56,ntmps56
  go_wp2;go_ret;exact ⟨by rw [H.out];rfl,rfl⟩
 have H : Hid (Ch.bN c = false):=by simp [Hid,Ch.bN,h1]
 go_enter func56,ntmps56
 go_wp2;go_ret;exact ⟨by rw [H.out];rfl,rfl⟩
theorem eU (c : Int) (w : World) :
 Calls prog 211 #[.int .u8 c] w fun e w'=>e = .returned (.bool (Ch.cm c)) /\ w' = w:=by
 by_cases h1 : 65 <= c
 ·by_cases h2 : c <= 90
  ·have H : Hid (Ch.cm c = true):=by simp [Hid,Ch.cm,h1,h2]
   go_enter func211,ntmps211
   go_wp2;go_ret;exact ⟨by rw [H.out];rfl,rfl⟩
  have H : Hid (Ch.cm c = false):=by simp [Hid,Ch.cm,h2]
  go_enter func211,ntmps211
  go_wp2;go_ret;exact ⟨by rw [H.out];rfl,rfl⟩
 have H : Hid (Ch.cm c = false):=by simp [Hid,Ch.cm,h1]
 go_enter func211,ntmps211
 go_wp2;go_ret;exact ⟨by rw [H.out];rfl,rfl⟩
theorem zh (c : Int) (w : World) :
 Calls prog 212 #[.int .u8 c] w fun e w'=>e = .returned (.int .i64 (Ch.kindOf c)) /\ w' = w:=by
 unfold Ch.kindOf
 by_cases h1 : c = 91
 ·subst h1
  go_enter func212,ntmps212
  go_wp2;go_ret;exact ⟨by simp,rfl⟩
 by_cases h2 : c = 60
 ·subst h2
  go_enter func212,ntmps212
  go_wp2;go_ret;exact ⟨by simp,rfl⟩
 by_cases h3 : c = 42
 ·subst h3
  go_enter func212,ntmps212
  go_wp2;go_ret;exact ⟨by simp,rfl⟩
 have b1 : (c == 91) = false:=by simpa using h1
 have b2 : (c == 60) = false:=by simpa using h2
 have b3 : (c == 42) = false:=by simpa using h3
 go_enter func212,ntmps212
 go_wp2;go_ret;exact ⟨by simp [*],rfl⟩
theorem aD (b : Nat) (t : ByteArray) (p : Nat) (w : World) (h0 : w.cell? ⟨b,0,none⟩ = some (.string t)) (h1 : w.cell? ⟨b,1,none⟩ = some (.int .i64 p)) :
 Calls prog 110 #[.pointer (some ⟨b,0,none⟩)] w fun e w'=>e = .returned (.int .u8 (Ch.af t p)) /\ ∃ n,w' = w.drewN n:=by
 by_cases h : p < t.size
 ·have h2 : ¬ (t.size : Int) <= (p : Int):=by omega
  have h3 : (p : Int) < (t.size : Int):=by omega
  go_enter func110,ntmps110
  go_wp2
  go_quiet (fail)
  go_wp2
  go_quiet (fail)
  go_wp2;go_ret;exact ⟨by simp [Ch.af,h],_,Tq _ _ _⟩
 have h2 : (t.size : Int) <= (p : Int):=by omega
 go_enter func110,ntmps110
 go_wp2
 go_quiet (fail)
 go_wp2;go_ret;exact ⟨by simp [Ch.af,h],_,rfl⟩
section
variable (b : Nat) (t : ByteArray) (p : Nat) (e f sv tv bv uv : Value) (w : World)
theorem dM (ok : Bool) (h : bB w b t p e f sv tv bv uv) (hp : p <= 1000) :
 Calls prog 216 #[.pointer (some ⟨b,0,none⟩),.bool ok] w fun x w'=>x = .returned (.bool ok) /\ bB w' b t (Ch.bm ok p) e f sv tv bv uv /\ Kp (fun k=>k = b) w w':=by
 have h1:=h.pos;have f1:=h.free 1;have H : Hid (bB w b t p e f sv tv bv uv):=h;clear h
 cases ok with
 | true =>
   go_enter func216,ntmps216
   go_wp2;go_ret;exact ⟨rfl,H.out.set1 (p + 1),(Kp.refl _ _).setCell (by intro _;rfl) _⟩
 | false=>?_
 go_enter func216,ntmps216
 go_wp2;go_ret;exact ⟨rfl,H.out,Kp.refl _ _⟩
theorem jG (want : Int) (h : bB w b t p e f sv tv bv uv) (hp : p <= 1000) :
 Calls prog 157 #[.pointer (some ⟨b,0,none⟩),.int .u8 want] w fun x w'=>x = .returned (.bool (Ch.af t p == want)) /\ bB w' b t (Ch.bm (Ch.af t p == want) p) e f sv tv bv uv /\ Kp (fun k=>k = b) w w':=by
 go_enter func157,ntmps157
 go_wp2_with fail
 refine (aD b t p _ h.text h.pos).mono ?_;rintro x w1 ⟨rfl,n1,rfl⟩;have h' : bB (w.drewN n1) b t p e f sv tv bv uv:=h;have K1 : Kp (fun k=>k = b) w (w.drewN n1):=(Kp.refl _ _).drewN _;generalize w.drewN n1 = w1 at h' K1 ⊢;clear h
 go_wp2_with fail
 refine (dM b t p e f sv tv bv uv w1 _ h' hp).mono ?_;rintro x w2 ⟨rfl,h2,K2⟩;go_wp2;go_ret;exact ⟨rfl,h2,K1.trans K2⟩
theorem s_  (h : bB w b t p e f sv tv bv uv) (hp : p <= 1000) :
 Calls prog 279 #[.pointer (some ⟨b,0,none⟩)] w fun x w'=>x = .returned (.bool (Ch.bN (Ch.af t p))) /\ bB w' b t (Ch.bm (Ch.bN (Ch.af t p)) p) e f sv tv bv uv /\ Kp (fun k=>k = b) w w':=by
 go_enter func279,ntmps279
 go_wp2_with fail
 refine (aD b t p _ h.text h.pos).mono ?_;rintro x w1 ⟨rfl,n1,rfl⟩;have h' : bB (w.drewN n1) b t p e f sv tv bv uv:=h;have K1 : Kp (fun k=>k = b) w (w.drewN n1):=(Kp.refl _ _).drewN _;generalize w.drewN n1 = w1 at h' K1 ⊢;clear h
 go_wp2_with fail
 refine (eT _ _).mono ?_;rintro x w2 ⟨rfl,rfl⟩
 go_wp2_with fail
 refine (dM b t p e f sv tv bv uv _ _ h' hp).mono ?_;rintro x w2 ⟨rfl,h2,K2⟩;go_wp2;go_ret;exact ⟨rfl,h2,K1.trans K2⟩
theorem dN (h : bB w b t p e f sv tv bv uv) (hp : p <= 1000) :
 Calls prog 270 #[.pointer (some ⟨b,0,none⟩)] w fun x w'=>x = .returned (.bool (Ch.fK (Ch.af t p))) /\ bB w' b t (Ch.bm (Ch.fK (Ch.af t p)) p) e f sv tv bv uv /\ Kp (fun k=>k = b) w w':=by
 rcases Ch.zb (Ch.af t p) with ⟨b1,hv⟩ | ⟨b1,b2,hv⟩ | ⟨b1,b2,b3,hv⟩ | ⟨b1,b2,b3,hv⟩
 all_goals
  rw [hv];clear hv
  go_enter func270,ntmps270
  go_wp2_with fail
  refine (aD b t p _ h.text h.pos).mono ?_;rintro x w1 ⟨rfl,n1,rfl⟩;have h' : bB (w.drewN n1) b t p e f sv tv bv uv:=h;have K1 : Kp (fun k=>k = b) w (w.drewN n1):=(Kp.refl _ _).drewN _;generalize w.drewN n1 = w1 at h' K1 ⊢
  go_wp2_with fail
  refine (dM b t p e f sv tv bv uv _ _ h' hp).mono ?_;rintro x w2 ⟨rfl,h2,K2⟩;go_wp2;go_ret;exact ⟨rfl,h2,K1.trans K2⟩
theorem jw (lo : Int) (h : bB w b t p e f sv tv bv uv) (hp : p <= 1000) :
 Calls prog 272 #[.pointer (some ⟨b,0,none⟩),.int .u8 lo] w fun x w'=>x = .returned (.bool (Ch.eQ lo (Ch.af t p))) /\ bB w' b t (Ch.bm (Ch.eQ lo (Ch.af t p)) p) e f sv tv bv uv /\ Kp (fun k=>k = b) w w':=by
 rcases Ch.zc lo (Ch.af t p) with ⟨b1,b2,hv⟩ | ⟨b1,b2,hv⟩ | ⟨b1,hv⟩
 all_goals
  rw [hv];clear hv
  go_enter func272,ntmps272
  go_wp2_with fail
  refine (aD b t p _ h.text h.pos).mono ?_;rintro x w1 ⟨rfl,n1,rfl⟩;have h' : bB (w.drewN n1) b t p e f sv tv bv uv:=h;have K1 : Kp (fun k=>k = b) w (w.drewN n1):=(Kp.refl _ _).drewN _;generalize w.drewN n1 = w1 at h' K1 ⊢
  go_wp2_with fail
  refine (dM b t p e f sv tv bv uv _ _ h' hp).mono ?_;rintro x w2 ⟨rfl,h2,K2⟩;go_wp2;go_ret;exact ⟨rfl,h2,K1.trans K2⟩
theorem jx (h0 : w.cell? ⟨b,0,none⟩ = some (.string t)) (h1 : w.cell? ⟨b,1,none⟩ = some (.int .i64 p)) :
 Calls prog 271 #[.pointer (some ⟨b,0,none⟩)] w fun x w'=>x = .returned (.int .i64 (Ch.af t p - 48)) /\ ∃ n,w' = w.drewN n:=by
 have lo:=Ch.Hz t p;have hi:=Ch.Be t p
 go_enter func271,ntmps271
 go_wp2_with fail
 refine (aD b t p _ h0 h1).mono ?_;rintro x w1 ⟨rfl,n1,rfl⟩;go_wp2;go_ret;exact ⟨rfl,n1,rfl⟩
end
section
variable (b ab : Nat) (t : ByteArray) (p : Nat) (a : Ch.Ac) (e f sv tv bv uv : Value) (w : World)
theorem iy (h : bB w b t p e f sv tv bv uv) (ha : h_ w ab a) (hp : p <= 900) :
 Calls prog 276 #[.pointer (some ⟨b,0,none⟩),.pointer (some ⟨ab,0,none⟩)] w fun x w'=>x = .returned (.bool (Ch.eu t p a).1) /\
  bB w' b t (Ch.eu t p a).2.2 e f sv tv bv uv /\ h_ w' ab (Ch.eu t p a).2.1 /\ Kp (fun k=>k = b \/ k = ab) w w':=by
 have hne:=ha.ne h;have hs:=h.step;have c1:=h.pos;have f1:=h.free 1
 have H : Hid (h_ w ab a /\ bB w b t p e f sv tv bv uv):=⟨ha,h⟩
 clear ha h
 go_enter func276,ntmps276
 go_wp2_with fail
 refine (aD b t (p + 1) _ hs.text hs.pos).mono ?_;rintro x w1 ⟨rfl,n1,rfl⟩;have K1 : Kp (fun k=>k = b \/ k = ab) w ((w.setCell ⟨b,1,none⟩ (.int .i64 ((p : Int) + 1))).drewN n1):=((Kp.refl _ _).setCell (by intro _;exact Or.inl rfl) _).drewN _;have a1 : h_ ((w.setCell ⟨b,1,none⟩ (.int .i64 ((p : Int) + 1))).drewN n1) ab a:=H.out.1.keep (S:=fun k=>k = b) (((Kp.refl _ _).setCell (by intro _;rfl) _).drewN _) hne;have h1:=hs.drewN n1;generalize (w.setCell ⟨b,1,none⟩ (.int .i64 ((p : Int) + 1))).drewN n1 = w1 at K1 a1 h1 ⊢;clear hs c1 f1 H;have c2:=a1.c1;have f2:=a1.free 1
 have H1 : Hid (h_ w1 ab a /\ bB w1 b t (p + 1) e f sv tv bv uv /\ Kp (fun k=>k = b \/ k = ab) w w1):=⟨a1,h1,K1⟩
 clear a1 h1 K1
 go_wp2_with fail
 obtain ⟨a1,h1,K1⟩:=H1.out;clear H1 c2 f2;have a2:=a1.set1 (Ch.af t (p + 1));have h2 : bB (w1.setCell ⟨ab,1,none⟩ (.int .u8 (Ch.af t (p + 1)))) b t (p + 1) e f sv tv bv uv:=h1.keep (S:=fun k=>k = ab) ((Kp.refl _ _).setCell (by intro _;rfl) _) (Ne.symm hne);have K2 : Kp (fun k=>k = b \/ k = ab) w (w1.setCell ⟨ab,1,none⟩ (.int .u8 (Ch.af t (p + 1)))):=K1.setCell (by intro _;exact Or.inr rfl) _;generalize w1.setCell ⟨ab,1,none⟩ (.int .u8 (Ch.af t (p + 1))) = w2 at a2 h2 K2 ⊢;clear a1 h1 K1;refine (s_ b t (p + 1) e f sv tv bv uv w2 h2 (by omega)).mono ?_;rintro x w3 ⟨rfl,h3,K3⟩;have a3:=a2.keep K3 hne;have K4:=K2.trans' K3 (fun i _ e=>Or.inl e);clear a2 h2 K2 K3;go_wp2;go_ret;exact ⟨rfl,h3,a3,K4⟩
theorem vh (h : bB w b t p e f sv tv bv uv) (ha : h_ w ab a) (hp : p <= 900) :
 Calls prog 277 #[.pointer (some ⟨b,0,none⟩),.pointer (some ⟨ab,0,none⟩)] w fun x w'=>x = .returned (.bool (Ch.kO t p a).1) /\
  bB w' b t (Ch.kO t p a).2.2 e f sv tv bv uv /\ h_ w' ab (Ch.kO t p a).2.1 /\ Kp (fun k=>k = b \/ k = ab) w w':=by
 have hne:=ha.ne h;have E:=iy b ab t p a e f sv tv bv uv w h ha hp;have hb:=Ch.qO t p a;unfold Ch.kO;generalize Ch.eu t p a = r at E hb ⊢;obtain ⟨ok,a1,p1⟩:=r;have HE:=hid (E);clear E h ha
 cases ok with
 | false =>
   go_enter func277,ntmps277
   go_wp2_with fail
   refine hm HE ?_;rintro x w1 ⟨rfl,h1,A1,K1⟩;go_wp2;go_ret;exact ⟨rfl,h1,A1,K1⟩
 | true=>?_
 go_enter func277,ntmps277
 go_wp2_with fail
 refine hm HE ?_;rintro x w1 ⟨rfl,h1,A1,K1⟩;clear HE;have h1 : bB w1 b t p1 e f sv tv bv uv:=h1;have A1 : h_ w1 ab a1:=A1;have hb : p1 <= p + 2:=hb.2
 go_wp2_with fail
 refine (jx b t p1 _ h1.text h1.pos).mono ?_;rintro x w2 ⟨rfl,n2,rfl⟩;have a2 : h_ (w1.drewN n2) ab a1:=A1;have h2:=h1.drewN n2;have K2:=K1.drewN n2;generalize w1.drewN n2 = w2 at a2 h2 K2 ⊢;clear A1 h1 K1;have c2:=a2.c2;have f2:=a2.free 2
 have H2 : Hid (h_ w2 ab a1 /\ bB w2 b t p1 e f sv tv bv uv /\ Kp (fun k=>k = b \/ k = ab) w w2):=⟨a2,h2,K2⟩
 clear a2 h2 K2
 go_wp2_with fail
 obtain ⟨a2,h2,K2⟩:=H2.out;clear H2 c2 f2;have a3:=a2.set2 (Ch.af t p1 - 48);have h3 : bB (w2.setCell ⟨ab,2,none⟩ (.int .i64 (Ch.af t p1 - 48))) b t p1 e f sv tv bv uv:=h2.keep (S:=fun k=>k = ab) ((Kp.refl _ _).setCell (by intro _;rfl) _) (Ne.symm hne);have K3 : Kp (fun k=>k = b \/ k = ab) w (w2.setCell ⟨ab,2,none⟩ (.int .i64 (Ch.af t p1 - 48))):=K2.setCell (by intro _;exact Or.inr rfl) _;generalize w2.setCell ⟨ab,2,none⟩ (.int .i64 (Ch.af t p1 - 48)) = w3 at a3 h3 K3 ⊢;clear a2 h2 K2;refine (jw b t p1 e f sv tv bv uv w3 49 h3 (by omega)).mono ?_;rintro x w4 ⟨rfl,h4,K4⟩;have a4:=a3.keep K4 hne;have K5:=K3.trans' K4 (fun i _ e=>Or.inl e);clear a3 h3 K3 K4;go_wp2;go_ret;exact ⟨rfl,h4,a4,K5⟩
theorem ia (h : bB w b t p e f sv tv bv uv) (ha : h_ w ab a) (hp : p <= 900) :
 Calls prog 278 #[.pointer (some ⟨b,0,none⟩),.pointer (some ⟨ab,0,none⟩)] w fun x w'=>x = .returned (.bool (Ch.il t p a).1) /\
  bB w' b t (Ch.il t p a).2.2 e f sv tv bv uv /\ h_ w' ab (Ch.il t p a).2.1 /\ Kp (fun k=>k = b \/ k = ab) w w':=by
 cases hv : Ch.fK (Ch.af t (p + 1)) with
 | false =>
   have HV : Hid (Ch.il t p a = (false,{ a with letter:=Ch.af t (p + 1) },p + 1)):=by simp [Hid,Ch.il,Ch.eR,Ch.ik,Ch.bm,hv]
   rw [HV.out];have Hv : Hid (Ch.fK (Ch.af t (p + 1)) = false):=hv;clear hv HV;have hne:=ha.ne h;have hs:=h.step;have c1:=h.pos;have f1:=h.free 1
   have H : Hid (h_ w ab a /\ bB w b t p e f sv tv bv uv):=⟨ha,h⟩
   clear ha h
   go_enter func278,ntmps278
   go_wp2_with fail
   refine (aD b t (p + 1) _ hs.text hs.pos).mono ?_;rintro x w1 ⟨rfl,n1,rfl⟩;have K1 : Kp (fun k=>k = b \/ k = ab) w ((w.setCell ⟨b,1,none⟩ (.int .i64 ((p : Int) + 1))).drewN n1):=((Kp.refl _ _).setCell (by intro _;exact Or.inl rfl) _).drewN _;have a1 : h_ ((w.setCell ⟨b,1,none⟩ (.int .i64 ((p : Int) + 1))).drewN n1) ab a:=H.out.1.keep (S:=fun k=>k = b) (((Kp.refl _ _).setCell (by intro _;rfl) _).drewN _) hne;have h1:=hs.drewN n1;generalize (w.setCell ⟨b,1,none⟩ (.int .i64 ((p : Int) + 1))).drewN n1 = w1 at K1 a1 h1 ⊢;clear hs c1 f1 H;have c2:=a1.c1;have f2:=a1.free 1
   have H1 : Hid (h_ w1 ab a /\ bB w1 b t (p + 1) e f sv tv bv uv /\ Kp (fun k=>k = b \/ k = ab) w w1):=⟨a1,h1,K1⟩
   clear a1 h1 K1
   go_wp2_with fail
   obtain ⟨a1,h1,K1⟩:=H1.out;clear H1 c2 f2;have a2:=a1.set1 (Ch.af t (p + 1));have h2 : bB (w1.setCell ⟨ab,1,none⟩ (.int .u8 (Ch.af t (p + 1)))) b t (p + 1) e f sv tv bv uv:=h1.keep (S:=fun k=>k = ab) ((Kp.refl _ _).setCell (by intro _;rfl) _) (Ne.symm hne);have K2 : Kp (fun k=>k = b \/ k = ab) w (w1.setCell ⟨ab,1,none⟩ (.int .u8 (Ch.af t (p + 1)))):=K1.setCell (by intro _;exact Or.inr rfl) _;generalize w1.setCell ⟨ab,1,none⟩ (.int .u8 (Ch.af t (p + 1))) = w2 at a2 h2 K2 ⊢;clear a1 h1 K1;refine (dN b t (p + 1) e f sv tv bv uv w2 h2 (by omega)).mono ?_;rw [Hv.out];rintro x w3 ⟨rfl,h3,K3⟩;have a3:=a2.keep K3 hne;have K4:=K2.trans' K3 (fun i _ e=>Or.inl e);clear a2 h2 K2 K3;go_wp2;go_ret;exact ⟨rfl,h3,a3,K4⟩
 | true=>?_
 have HV : Hid (Ch.il t p a = Ch.ik t 48 (true,{ a with letter:=Ch.af t (p + 1) },p + 2)):=by simp [Hid,Ch.il,Ch.eR,Ch.bm,hv]
 rw [HV.out];have Hv : Hid (Ch.fK (Ch.af t (p + 1)) = true):=hv;clear hv HV
 obtain ⟨p1,hp1⟩ : ∃ p1,p1 = p + 2:=⟨_,rfl⟩
 rw [<- hp1];have HP : Hid (p1 = p + 2):=hp1
 have hb : p1 <= p + 2:=by omega
 clear hp1
 obtain ⟨a1,ha1⟩ : ∃ a1 : Ch.Ac,a1 = { a with letter:=Ch.af t (p + 1) }:=⟨_,rfl⟩
 rw [<- ha1];have HA : Hid (a1 = { a with letter:=Ch.af t (p + 1) }):=ha1;clear ha1;have hne:=ha.ne h;have hs:=h.step;have c1:=h.pos;have f1:=h.free 1
 have H : Hid (h_ w ab a /\ bB w b t p e f sv tv bv uv):=⟨ha,h⟩
 clear ha h
 go_enter func278,ntmps278
 go_wp2_with fail
 refine (aD b t (p + 1) _ hs.text hs.pos).mono ?_;rintro x w1 ⟨rfl,n1,rfl⟩;have K1 : Kp (fun k=>k = b \/ k = ab) w ((w.setCell ⟨b,1,none⟩ (.int .i64 ((p : Int) + 1))).drewN n1):=((Kp.refl _ _).setCell (by intro _;exact Or.inl rfl) _).drewN _;have a1 : h_ ((w.setCell ⟨b,1,none⟩ (.int .i64 ((p : Int) + 1))).drewN n1) ab a:=H.out.1.keep (S:=fun k=>k = b) (((Kp.refl _ _).setCell (by intro _;rfl) _).drewN _) hne;have h1:=hs.drewN n1;generalize (w.setCell ⟨b,1,none⟩ (.int .i64 ((p : Int) + 1))).drewN n1 = w1 at K1 a1 h1 ⊢;clear hs c1 f1 H;have c2:=a1.c1;have f2:=a1.free 1
 have H1 : Hid (h_ w1 ab a /\ bB w1 b t (p + 1) e f sv tv bv uv /\ Kp (fun k=>k = b \/ k = ab) w w1):=⟨a1,h1,K1⟩
 clear a1 h1 K1
 go_wp2_with fail
 obtain ⟨a1,h1,K1⟩:=H1.out;clear H1 c2 f2;have a2:=a1.set1 (Ch.af t (p + 1));have h2 : bB (w1.setCell ⟨ab,1,none⟩ (.int .u8 (Ch.af t (p + 1)))) b t (p + 1) e f sv tv bv uv:=h1.keep (S:=fun k=>k = ab) ((Kp.refl _ _).setCell (by intro _;rfl) _) (Ne.symm hne);have K2 : Kp (fun k=>k = b \/ k = ab) w (w1.setCell ⟨ab,1,none⟩ (.int .u8 (Ch.af t (p + 1)))):=K1.setCell (by intro _;exact Or.inr rfl) _;generalize w1.setCell ⟨ab,1,none⟩ (.int .u8 (Ch.af t (p + 1))) = w2 at a2 h2 K2 ⊢;clear a1 h1 K1;refine (dN b t (p + 1) e f sv tv bv uv w2 h2 (by omega)).mono ?_;rw [Hv.out];rintro x w3 ⟨rfl,h3,K3⟩;have a3:=a2.keep K3 hne;have K1:=K2.trans' K3 (fun i _ e=>Or.inl e);clear a2 h2 K2 K3
 have h1 : bB w3 b t p1 e f sv tv bv uv:=by rw [HP.out];exact h3
 have A1 : h_ w3 ab a1:=by rw [HA.out];exact a3
 clear a3 h3 Hv HA HP;generalize w3 = w1 at h1 A1 K1 ⊢
 go_wp2_with fail
 refine (jx b t p1 _ h1.text h1.pos).mono ?_;rintro x w2 ⟨rfl,n2,rfl⟩;have a2 : h_ (w1.drewN n2) ab a1:=A1;have h2:=h1.drewN n2;have K2:=K1.drewN n2;generalize w1.drewN n2 = w2 at a2 h2 K2 ⊢;clear A1 h1 K1;have c2:=a2.c2;have f2:=a2.free 2
 have H2 : Hid (h_ w2 ab a1 /\ bB w2 b t p1 e f sv tv bv uv /\ Kp (fun k=>k = b \/ k = ab) w w2):=⟨a2,h2,K2⟩
 clear a2 h2 K2
 go_wp2_with fail
 obtain ⟨a2,h2,K2⟩:=H2.out;clear H2 c2 f2;have a3:=a2.set2 (Ch.af t p1 - 48);have h3 : bB (w2.setCell ⟨ab,2,none⟩ (.int .i64 (Ch.af t p1 - 48))) b t p1 e f sv tv bv uv:=h2.keep (S:=fun k=>k = ab) ((Kp.refl _ _).setCell (by intro _;rfl) _) (Ne.symm hne);have K3 : Kp (fun k=>k = b \/ k = ab) w (w2.setCell ⟨ab,2,none⟩ (.int .i64 (Ch.af t p1 - 48))):=K2.setCell (by intro _;exact Or.inr rfl) _;generalize w2.setCell ⟨ab,2,none⟩ (.int .i64 (Ch.af t p1 - 48)) = w3 at a3 h3 K3 ⊢;clear a2 h2 K2;refine (jw b t p1 e f sv tv bv uv w3 48 h3 (by omega)).mono ?_;rintro x w4 ⟨rfl,h4,K4⟩;have a4:=a3.keep K4 hne;have K5:=K3.trans' K4 (fun i _ e=>Or.inl e);clear a3 h3 K3 K4;go_wp2;go_ret;exact ⟨rfl,h4,a4,K5⟩
theorem Bf (h : bB w b t p e f sv tv bv uv) (ha : h_ w ab a) (hp : p <= 900) :
 Calls prog 273 #[.pointer (some ⟨b,0,none⟩),.pointer (some ⟨ab,0,none⟩)] w fun x w'=>x = .returned (.bool (Ch.act t p a).1) /\
  bB w' b t (Ch.act t p a).2.2 e f sv tv bv uv /\ h_ w' ab (Ch.act t p a).2.1 /\ Kp (fun k=>k = b \/ k = ab) w w':=by
 have c0:=ha.c0
 cases Jw : a.sign == 33 with
 | true =>
   have HV : Hid (Ch.act t p a = Ch.eu t p a):=by simp [Hid,Ch.act,Jw]
   rw [HV.out];have E:=hid (iy b ab t p a e f sv tv bv uv w h ha hp);clear HV h ha
   go_enter func273,ntmps273
   go_wp2_with fail
   refine hm E ?_;rintro x w1 ⟨rfl,h1⟩;go_wp2;go_ret;exact ⟨rfl,h1⟩
 | false=>?_
 cases zi : a.sign == 126 with
 | true =>
   have HV : Hid (Ch.act t p a = Ch.eu t p a):=by simp [Hid,Ch.act,Jw,zi]
   rw [HV.out];have E:=hid (iy b ab t p a e f sv tv bv uv w h ha hp);clear HV h ha
   go_enter func273,ntmps273
   go_wp2_with fail
   refine hm E ?_;rintro x w1 ⟨rfl,h1⟩;go_wp2;go_ret;exact ⟨rfl,h1⟩
 | false=>?_
 cases LX : a.sign == 35 with
 | true =>
   have HV : Hid (Ch.act t p a = Ch.eu t p a):=by simp [Hid,Ch.act,Jw,zi,LX]
   rw [HV.out];have E:=hid (iy b ab t p a e f sv tv bv uv w h ha hp);clear HV h ha
   go_enter func273,ntmps273
   go_wp2_with fail
   refine hm E ?_;rintro x w1 ⟨rfl,h1⟩;go_wp2;go_ret;exact ⟨rfl,h1⟩
 | false=>?_
 cases Mp : a.sign == 64 with
 | true =>
   have HV : Hid (Ch.act t p a = Ch.kO t p a):=by simp [Hid,Ch.act,Jw,zi,LX,Mp]
   rw [HV.out];have E:=hid (vh b ab t p a e f sv tv bv uv w h ha hp);clear HV h ha
   go_enter func273,ntmps273
   go_wp2_with fail
   refine hm E ?_;rintro x w1 ⟨rfl,h1⟩;go_wp2;go_ret;exact ⟨rfl,h1⟩
 | false=>?_
 cases OO : a.sign == 43 with
 | true =>
   have HV : Hid (Ch.act t p a = Ch.il t p a):=by simp [Hid,Ch.act,Jw,zi,LX,Mp,OO]
   rw [HV.out];have E:=hid (ia b ab t p a e f sv tv bv uv w h ha hp);clear HV h ha
   go_enter func273,ntmps273
   go_wp2_with fail
   refine hm E ?_;rintro x w1 ⟨rfl,h1⟩;go_wp2;go_ret;exact ⟨rfl,h1⟩
 | false=>?_
 cases PF : a.sign == 45 with
 | true =>
   have HV : Hid (Ch.act t p a = Ch.il t p a):=by simp [Hid,Ch.act,Jw,zi,LX,Mp,OO,PF]
   rw [HV.out];have E:=hid (ia b ab t p a e f sv tv bv uv w h ha hp);clear HV h ha
   go_enter func273,ntmps273
   go_wp2_with fail
   refine hm E ?_;rintro x w1 ⟨rfl,h1⟩;go_wp2;go_ret;exact ⟨rfl,h1⟩
 | false=>?_
 cases RV : a.sign == 61 with
 | true =>
   have HV : Hid (Ch.act t p a = Ch.il t p a):=by simp [Hid,Ch.act,Jw,zi,LX,Mp,OO,PF,RV]
   rw [HV.out];have E:=hid (ia b ab t p a e f sv tv bv uv w h ha hp);clear HV h ha
   go_enter func273,ntmps273
   go_wp2_with fail
   refine hm E ?_;rintro x w1 ⟨rfl,h1⟩;go_wp2;go_ret;exact ⟨rfl,h1⟩
 | false=>?_
 have HV : Hid (Ch.act t p a = (false,a,p)):=by simp [Hid,Ch.act,Jw,zi,LX,Mp,OO,PF,RV]
 rw [HV.out];have E:=hid (ae h ha);clear HV h ha
 go_enter func273,ntmps273
 go_wp2;go_ret;exact ⟨rfl,E.out.1,E.out.2,Kp.refl _ _⟩
end
theorem H4 : (prog.info? 255).map (fun i=>(i.zero,i.size,i.bytes)) = some (some (.agg #[.int .u8 0,.int .u8 0,.int .i64 0]),3,16):=by kernel_rfl
theorem Ch.Eg {t : ByteArray} {cl : Int} (hcl : cl ≠ 0) : ∀ (n p : Nat) (l : List Ch.Ac),p <= t.size -> p <= (Ch.ew t cl n p l).2.2 /\ (Ch.ew t cl n p l).2.2 <= t.size:=by
 intro n
 induction n with
 | zero=>intro p l hp;exact ⟨Nat.le_refl _,hp⟩
 | succ n ih=>?_
 intro p l hp;have h1:=Ch.kP hp 0 0;have h2:=(Ch.J9 t p ⟨Ch.af t p,0,0⟩).1
 cases cc : Ch.af t p == cl with
 | true =>
   rw [Ch.jd cc];have:=Ch.cd hcl cc;exact ⟨by show p <= p + 1;omega,by show p + 1 <= _;omega⟩
 | false=>?_
 cases ca : (Ch.act t p ⟨Ch.af t p,0,0⟩).1 with
 | false=>rw [Ch.ow cc ca];exact ⟨h2,h1⟩
 | true=>?_
 rw [Ch.j6 cc ca];have:=ih (Ch.act t p ⟨Ch.af t p,0,0⟩).2.2 (l ++ [(Ch.act t p ⟨Ch.af t p,0,0⟩).2.1]) h1;omega
theorem Ch.qg {t : ByteArray} {cl : Int} {p : Nat} (hp : p <= t.size) (hcl : cl ≠ 0:=by decide) : p <= (Ch.acts t cl p).2.2 /\ (Ch.acts t cl p).2.2 <= t.size:=Ch.Eg hcl _ _ _ hp
section
variable (b : Nat) (t : ByteArray) (p : Nat) (e f sv tv bv uv : Value) (w : World)
theorem np (cl : Int) (h : bB w b t p e f sv tv bv uv) (hp : p <= t.size) (ht : t.size <= 240) (hcl : cl ≠ 0) :
 Calls prog 251 #[.pointer (some ⟨b,0,none⟩),.int .u8 cl] w fun x w'=>∃ v,x = .returned (.tuple #[v,.bool (Ch.acts t cl p).1]) /\
  bB w' b t (Ch.acts t cl p).2.2 e f sv tv bv uv /\ w'.ownsRow w.heap.size 255 3 v (Ch.acts t cl p).2.1.length (cX (Ch.acts t cl p).2.1) /\ Kp (fun k=>k = b) w w' /\
  (Ch.acts t cl p).2.2 <= t.size:=by
 obtain ⟨i0,hi,hz0,hz1,hz2⟩:=info_parts H4;have Hb:=hid h.lt
 go_enter func251,ntmps251
 go_wp2_with fail
 go_loopg [6] (t.size + 1) (fun k v wr=>∃ p1 l,Hid (Ch.acts t cl p = Ch.ew t cl k p1 l) /\ p1 <= t.size /\ t.size + 1 <= k + p1 /\ bB wr b t p1 e f sv tv bv uv /\
  wr.ownsRow w.heap.size 255 3 v l.length (cX l) /\ l.length <= p1 /\ Kp (fun k=>k = b) w wr)
 case atStart=>exact ⟨p,[],hid rfl,hp,by omega,h,World.ownsRow_nil _ _ _ _,by simp,Kp.refl _ _⟩
 case round =>
  obtain ⟨p1,l,HE,hp1,hk,h1,ho,hl,K1⟩:=hrel
  obtain ⟨k,rfl⟩ : ∃ k,gk = k + 1:=⟨gk - 1,by omega⟩
  clear h hp
  cases cc : Ch.af t p1 == cl with
  | true =>
    have HF:=hid (HE.out.trans (Ch.jd cc));have hlt:=Ch.cd hcl cc;have E:=hid (jG b t p1 e f sv tv bv uv wr cl h1 (by omega));rw [cc] at E;clear h1 cc HE
    go_wp2_with fail
    refine hm E ?_;rintro x w1 ⟨rfl,h2,K2⟩;have o2:=K2.owns ho (fun k hk e=>by have:=(ho.lt k hk).1;have:=Hb.out;omega);have K3:=K1.trans K2;clear ho K1 K2 E;go_wp2;go_ret2;exact ⟨_,by rw [HF.out];exact ⟨rfl,h2,o2,K3,(by show p1 + 1 <= t.size;omega)⟩⟩
  | false=>?_
  cases ca : (Ch.act t p1 ⟨Ch.af t p1,0,0⟩).1 with
  | false =>
    have HF:=hid (HE.out.trans (Ch.ow cc ca));have E:=hid (jG b t p1 e f sv tv bv uv wr cl h1 (by omega));rw [cc] at E;have HA:=hid (ae cc ca);clear h1 cc ca HE
    go_wp2_with fail
    refine hm E ?_;rintro x w1 ⟨rfl,h2,K2⟩;have h2 : bB w1 b t p1 e f sv tv bv uv:=h2;have o2:=K2.owns ho (fun k hk e=>by have:=(ho.lt k hk).1;have:=Hb.out;omega);have K3:=K1.trans K2;clear ho K1 K2 E
    go_wp2_with fail
    refine (aD b t p1 _ h2.text h2.pos).mono ?_;rintro x w2 ⟨rfl,n2,rfl⟩;have h3:=h2.drewN n2;have o3 : (w1.drewN n2).ownsRow _ _ _ _ _ _:=o2;have K4:=K3.drewN n2;generalize w1.drewN n2 = w2 at h3 o3 K4 ⊢;clear h2 o2 K3
    go_wp2_with fail
    have hA : h_ (w2.alloc (.cells #[.int .u8 (Ch.af t p1),.int .u8 0,.int .i64 0] 255)) w2.heap.size ⟨Ch.af t p1,0,0⟩:=heap_alloc_new w2 _;have h4 : bB (w2.alloc (.cells #[.int .u8 (Ch.af t p1),.int .u8 0,.int .i64 0] 255)) b t p1 e f sv tv bv uv:=h3.keep (S:=fun _=>False) ((Kp.refl _ _).alloc _) (fun x=>x);have o4:=o3.alloc (.cells #[.int .u8 (Ch.af t p1),.int .u8 0,.int .i64 0] 255);have K5:=K4.alloc (.cells #[.int .u8 (Ch.af t p1),.int .u8 0,.int .i64 0] 255);have hsz:=K4.size
    have hbl:=fun k hk=>(o3.lt k hk).2
    have hbe:=fun k hk=>(o3.lt k hk).1
    generalize w2.alloc (.cells #[.int .u8 (Ch.af t p1),.int .u8 0,.int .i64 0] 255) = w3 at hA h4 o4 K5 ⊢;generalize w2.heap.size = ab at hA hsz hbl ⊢;clear h3 o3 K4;have E:=hid (Bf b ab t p1 ⟨Ch.af t p1,0,0⟩ e f sv tv bv uv w3 h4 hA (by omega));rw [HA.out.2] at E;refine hm E ?_;rintro x w4 ⟨rfl,h5,a5,K6⟩;have o5:=K6.owns o4 (fun k hk hS=>by have:=hbl k hk;have:=hbe k hk;have:=Hb.out;omega);have K7:=K5.trans' K6 (fun i hi hS=>by rcases hS with hS | hS;exact hS;omega);have hs:=Ch.kP hp1 0 0;clear E hA h4 o4 K5 K6 hbl hbe;go_wp2;go_ret2;exact ⟨_,by rw [HF.out];exact ⟨rfl,h5,World.ownsRow_nil _ _ _ _,K7,hs⟩⟩
  | true=>?_
  have HF:=hid (HE.out.trans (Ch.j6 cc ca));have E:=hid (jG b t p1 e f sv tv bv uv wr cl h1 (by omega));rw [cc] at E;have HA:=hid (ae cc ca);clear h1 cc ca HE
  go_wp2_with fail
  refine hm E ?_;rintro x w1 ⟨rfl,h2,K2⟩;have h2 : bB w1 b t p1 e f sv tv bv uv:=h2;have o2:=K2.owns ho (fun k hk e=>by have:=(ho.lt k hk).1;have:=Hb.out;omega);have K3:=K1.trans K2;clear ho K1 K2 E
  go_wp2_with fail
  refine (aD b t p1 _ h2.text h2.pos).mono ?_;rintro x w2 ⟨rfl,n2,rfl⟩;have h3:=h2.drewN n2;have o3 : (w1.drewN n2).ownsRow _ _ _ _ _ _:=o2;have K4:=K3.drewN n2;generalize w1.drewN n2 = w2 at h3 o3 K4 ⊢;clear h2 o2 K3
  go_wp2_with fail
  have hA : h_ (w2.alloc (.cells #[.int .u8 (Ch.af t p1),.int .u8 0,.int .i64 0] 255)) w2.heap.size ⟨Ch.af t p1,0,0⟩:=heap_alloc_new w2 _;have h4 : bB (w2.alloc (.cells #[.int .u8 (Ch.af t p1),.int .u8 0,.int .i64 0] 255)) b t p1 e f sv tv bv uv:=h3.keep (S:=fun _=>False) ((Kp.refl _ _).alloc _) (fun x=>x);have o4:=o3.alloc (.cells #[.int .u8 (Ch.af t p1),.int .u8 0,.int .i64 0] 255);have K5:=K4.alloc (.cells #[.int .u8 (Ch.af t p1),.int .u8 0,.int .i64 0] 255);have hsz:=K4.size
  have hbl:=fun k hk=>(o3.lt k hk).2
  have hbe:=fun k hk=>(o3.lt k hk).1
  generalize w2.alloc (.cells #[.int .u8 (Ch.af t p1),.int .u8 0,.int .i64 0] 255) = w3 at hA h4 o4 K5 ⊢;generalize w2.heap.size = ab at hA hsz hbl ⊢;clear h3 o3 K4;have E:=hid (Bf b ab t p1 ⟨Ch.af t p1,0,0⟩ e f sv tv bv uv w3 h4 hA (by omega));rw [HA.out.2] at E;refine hm E ?_;rintro x w4 ⟨rfl,h5,a5,K6⟩;have o5:=K6.owns o4 (fun k hk hS=>by have:=hbl k hk;have:=hbe k hk;have:=Hb.out;omega);have K7:=K5.trans' K6 (fun i hi hS=>by rcases hS with hS | hS;exact hS;omega);have hs:=Ch.kP hp1 0 0;clear E hA h4 o4 K5 K6 hbl hbe;have PG:=Ch.vf HA.out.2;have m0:=a5.c0;have m1:=a5.c1;have m2:=a5.c2;generalize Ch.act t p1 ⟨Ch.af t p1,0,0⟩ = r at HF h5 a5 hs PG m0 m1 m2;obtain ⟨ok,a1,p2⟩:=r
  go_wp2_with (at_builtin;refine wpList_append_own _ rfl (.tmp 22) (.tmp 24) 207 rfl w.heap.size 255 i0 (.agg #[.int .u8 0,.int .u8 0,.int .i64 0]) 3 16 underlying207 hi hz0 hz1 hz2 rfl (by decide) _ _ _ rfl (o5.alloc _) ⟨w4.heap.size,0,none⟩ 1 1 [.int .u8 a1.sign,.int .u8 a1.letter,.int .i64 a1.digit] rfl rfl ?c1 ?c2 ?c3 ?c4 ?c5 ?_)
  case c1=>exact zg _ _ _ _ _
  case c2=>intro u hu;simp at hu;rcases hu with rfl | rfl | rfl <;> rfl
  case c3=>unfold maxLen;omega
  case c4=>omega
  case c5=>have:=K7.size;simp;omega
  intro v' w5 o6 g6 _;have K8 : Kp (fun k=>k = b) w w5:=(K7.alloc _).grown g6 (fun k hk hlt=>by have:=(o5.lt k hk).1;omega);have h6 : bB w5 b t p2 e f sv tv bv uv:=(h5.keep (S:=fun _=>False) ((Kp.refl _ _).alloc _) (fun x=>x)).keep (S:=fun k=>u6.ownBlock = some k) ((Kp.refl _ _).grown g6 (fun k hk _=>hk)) (fun hk=>by have:=(o5.lt _ hk).1;have:=Hb.out;omega);rw [<- vg] at o6;clear o5 g6 K7 h5 a5 m0 m1 m2 HA;go_wp2
  go_roundg k
  case measure=>omega
  case rel=>exact ⟨p2,l ++ [a1],HF,hs,by omega,h6,by simpa using o6,by simp;omega,K8⟩
end
end Go.Proofs.YtnlbchmfcebeeaaGreat
