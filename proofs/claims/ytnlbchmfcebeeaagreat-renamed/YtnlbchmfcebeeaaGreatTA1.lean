import Derived.WalkKit
import Derived.WalkSpells
import Derived.Deep.Draws
import Derived.Test.YtnlbchmfcebeeaaGreatProg
import Derived.Deep.QuietTactic
import Derived.BigQuiet
import Derived.Deep.LoopGhost
set_option maxHeartbeats 12800000
set_option maxRecDepth 100000
namespace Go.Proofs.YtnlbchmfcebeeaaGreat
open Go.RowKit
namespace Ch
structure St where
 name : Int
 pos : Int
 kind : Int
 parent : Int
structure Ac where
 sign : Int
 letter : Int
 digit : Int
structure Gd where
 var : Int
 sign : Int
 digit : Int
structure Tr where
 state : Int
 trig : Int
 guard : Gd
 acts : List Ac
 target : Int
structure Bl where
 state : Int
 sign : Int
 acts : List Ac
structure Us where
 name : Int
 pos : Int
structure Rs where
 pos : Nat
 sts : List St
 trs : List Tr
 bls : List Bl
 uses : List Us
def isEv (c : Int) : Bool:=decide (97 ≤ c) && decide (c ≤ 122)
def isNm (c : Int) : Bool:=decide (65 ≤ c) && decide (c ≤ 90)
def isVr (c : Int) : Bool:=c == 120 || c == 121 || c == 122
def isDg (lo c : Int) : Bool:=decide (lo ≤ c) && decide (c ≤ 57)
theorem isVr_cases (c : Int) : ((c == 120) = true ∧ isVr c = true) ∨ ((c == 120) = false ∧ (c == 121) = true ∧ isVr c = true) ∨
 ((c == 120) = false ∧ (c == 121) = false ∧ (c == 122) = true ∧ isVr c = true) ∨ ((c == 120) = false ∧ (c == 121) = false ∧ (c == 122) = false ∧ isVr c = false):=by
 unfold isVr
 cases h1 : c == 120 <;> cases h2 : c == 121 <;> cases h3 : c == 122 <;> simp
theorem isDg_cases (lo c : Int) : (lo ≤ c ∧ c ≤ 57 ∧ isDg lo c = true) ∨ (lo ≤ c ∧ decide (c ≤ 57) = false ∧ isDg lo c = false) ∨ (decide (lo ≤ c) = false ∧ isDg lo c = false):=by
 unfold isDg
 by_cases h1 : lo ≤ c <;> by_cases h2 : c ≤ 57 <;> simp [h1,h2] <;> omega
def peek (t : ByteArray) (p : Nat) : Int:=if h : p < t.size then (t[p].toNat : Int) else 0
theorem peek_lo (t : ByteArray) (p : Nat) : 0 ≤ peek t p:=by unfold peek;split <;> omega
theorem peek_hi (t : ByteArray) (p : Nat) : peek t p ≤ 255:=by
 unfold peek;split
 ·rename_i h;have:=t[p].toNat_lt;omega
 omega
def kindOf (c : Int) : Int:=if c == 91 then 3 else if c == 60 then 4 else if c == 42 then 5 else 1
def stepIf (ok : Bool) (p : Nat) : Nat:=if ok then p + 1 else p
def evAct (t : ByteArray) (p : Nat) (a : Ac) : Bool × Ac × Nat :=
 (isEv (peek t (p + 1)),{ a with letter:=peek t (p + 1) },stepIf (isEv (peek t (p + 1))) (p + 1))
def dgAct (t : ByteArray) (lo : Int) (r : Bool × Ac × Nat) : Bool × Ac × Nat :=
 if r.1 then (isDg lo (peek t r.2.2),{ r.2.1 with digit:=peek t r.2.2 - 48 },stepIf (isDg lo (peek t r.2.2)) r.2.2) else r
def vrAct1 (t : ByteArray) (p : Nat) (a : Ac) : Bool × Ac × Nat :=
 (isVr (peek t (p + 1)),{ a with letter:=peek t (p + 1) },stepIf (isVr (peek t (p + 1))) (p + 1))
def tmAct (t : ByteArray) (p : Nat) (a : Ac) : Bool × Ac × Nat:=dgAct t 49 (evAct t p a)
def vrAct (t : ByteArray) (p : Nat) (a : Ac) : Bool × Ac × Nat:=dgAct t 48 (vrAct1 t p a)
def act (t : ByteArray) (p : Nat) (a : Ac) : Bool × Ac × Nat :=
 if a.sign == 33 || a.sign == 126 || a.sign == 35 then evAct t p a
 else if a.sign == 64 then tmAct t p a
 else if a.sign == 43 || a.sign == 45 || a.sign == 61 then vrAct t p a
 else (false,a,p)
theorem stepIf_le (ok : Bool) (p : Nat) : stepIf ok p ≤ p + 1:=by unfold stepIf;split <;> omega
theorem le_stepIf (ok : Bool) (p : Nat) : p ≤ stepIf ok p:=by unfold stepIf;split <;> omega
theorem evAct_bd (t : ByteArray) (p : Nat) (a : Ac) : p + 1 ≤ (evAct t p a).2.2 ∧ (evAct t p a).2.2 ≤ p + 2:=by
 have h1:=stepIf_le (isEv (peek t (p + 1))) (p + 1);have h2:=le_stepIf (isEv (peek t (p + 1))) (p + 1);exact ⟨h2,h1⟩
theorem vrAct1_bd (t : ByteArray) (p : Nat) (a : Ac) : p + 1 ≤ (vrAct1 t p a).2.2 ∧ (vrAct1 t p a).2.2 ≤ p + 2:=by
 have h1:=stepIf_le (isVr (peek t (p + 1))) (p + 1);have h2:=le_stepIf (isVr (peek t (p + 1))) (p + 1);exact ⟨h2,h1⟩
theorem dgAct_bd (t : ByteArray) (lo : Int) (r : Bool × Ac × Nat) : r.2.2 ≤ (dgAct t lo r).2.2 ∧ (dgAct t lo r).2.2 ≤ r.2.2 + 1:=by
 unfold dgAct;split
 ·exact ⟨le_stepIf _ _,stepIf_le _ _⟩
 omega
theorem act_bd (t : ByteArray) (p : Nat) (a : Ac) : p ≤ (act t p a).2.2 ∧ (act t p a).2.2 ≤ p + 3:=by
 have h1:=evAct_bd t p a;have h2:=vrAct1_bd t p a;have h3:=dgAct_bd t 49 (evAct t p a);have h4:=dgAct_bd t 48 (vrAct1 t p a);unfold act tmAct vrAct
 split
 ·omega
 split
 ·omega
 split
 ·omega
 exact ⟨Nat.le_refl _,Nat.le_add_right _ _⟩
theorem peek_zero {t : ByteArray} {p : Nat} (h : t.size ≤ p) : peek t p = 0:=by unfold peek;rw [dif_neg (by omega)]
theorem lt_of_isEv {t : ByteArray} {p : Nat} (h : isEv (peek t p) = true) : p < t.size:=by
 rcases Nat.lt_or_ge p t.size with h' | h'
 ·exact h'
 rw [peek_zero h'] at h;simp [isEv] at h
theorem lt_of_isVr {t : ByteArray} {p : Nat} (h : isVr (peek t p) = true) : p < t.size:=by
 rcases Nat.lt_or_ge p t.size with h' | h'
 ·exact h'
 rw [peek_zero h'] at h;simp [isVr] at h
theorem lt_of_isNm {t : ByteArray} {p : Nat} (h : isNm (peek t p) = true) : p < t.size:=by
 rcases Nat.lt_or_ge p t.size with h' | h'
 ·exact h'
 rw [peek_zero h'] at h;simp [isNm] at h
theorem lt_of_isDg {t : ByteArray} {lo : Int} {p : Nat} (hl : 1 ≤ lo) (h : isDg lo (peek t p) = true) : p < t.size:=by
 rcases Nat.lt_or_ge p t.size with h' | h'
 ·exact h'
 rw [peek_zero h'] at h;simp [isDg] at h;omega
theorem lt_of_eq {t : ByteArray} {p : Nat} {c : Int} (hc : c ≠ 0) (h : (peek t p == c) = true) : p < t.size:=by
 rcases Nat.lt_or_ge p t.size with h' | h'
 ·exact h'
 rw [peek_zero h'] at h;simp at h;omega
theorem stepIf_size {t : ByteArray} {ok : Bool} {p : Nat} (hp : p ≤ t.size) (h : ok = true → p < t.size) : stepIf ok p ≤ t.size:=by
 unfold stepIf;split
 ·have:=h (by assumption);omega
 exact hp
theorem evAct_size {t : ByteArray} {p : Nat} (a : Ac) (hp : p < t.size) : (evAct t p a).2.2 ≤ t.size:=stepIf_size (by omega) lt_of_isEv
theorem vrAct1_size {t : ByteArray} {p : Nat} (a : Ac) (hp : p < t.size) : (vrAct1 t p a).2.2 ≤ t.size:=stepIf_size (by omega) lt_of_isVr
theorem dgAct_size {t : ByteArray} {lo : Int} (hl : 1 ≤ lo) {r : Bool × Ac × Nat} (h : r.2.2 ≤ t.size) : (dgAct t lo r).2.2 ≤ t.size:=by
 unfold dgAct;split
 ·exact stepIf_size h (lt_of_isDg hl)
 exact h
theorem act_size {t : ByteArray} {p : Nat} (hp : p ≤ t.size) (l d : Int) : (act t p ⟨peek t p,l,d⟩).2.2 ≤ t.size:=by
 rcases Nat.lt_or_ge p t.size with h | h
 ·have h1:=evAct_size ⟨peek t p,l,d⟩ h
  have h2:=dgAct_size (lo:=49) (by omega) h1;have h3:=dgAct_size (lo:=48) (by omega) (vrAct1_size ⟨peek t p,l,d⟩ h);unfold act tmAct vrAct
  split
  ·exact h1
  split
  ·exact h2
  split
  ·exact h3
  exact hp
 rw [peek_zero h];exact hp
theorem act_adv {t : ByteArray} {p : Nat} {a : Ac} (h : (act t p a).1 = true) : p < (act t p a).2.2:=by
 have h1:=evAct_bd t p a;have h2:=vrAct1_bd t p a;have h3:=dgAct_bd t 49 (evAct t p a);have h4:=dgAct_bd t 48 (vrAct1 t p a);unfold act tmAct vrAct at *
 split
 ·omega
 split
 ·omega
 split
 ·omega
 simp_all
def actsF (t : ByteArray) (cl : Int) : Nat → Nat → List Ac → Bool × List Ac × Nat
 | 0,p,_=>(false,[],p)
 | n + 1,p,l=>if peek t p == cl then (true,l,p + 1) else
  if (act t p ⟨peek t p,0,0⟩).1 then actsF t cl n (act t p ⟨peek t p,0,0⟩).2.2 (l ++ [(act t p ⟨peek t p,0,0⟩).2.1])
  else (false,[],(act t p ⟨peek t p,0,0⟩).2.2)
def acts (t : ByteArray) (cl : Int) (p : Nat) : Bool × List Ac × Nat:=actsF t cl (t.size + 1) p []
theorem actsF_close {t : ByteArray} {cl : Int} {n p : Nat} {l : List Ac} (h : (peek t p == cl) = true) : actsF t cl (n + 1) p l = (true,l,p + 1):=by
 simp [actsF,h]
theorem actsF_bad {t : ByteArray} {cl : Int} {n p : Nat} {l : List Ac} (h : (peek t p == cl) = false) (h2 : (act t p ⟨peek t p,0,0⟩).1 = false) :
 actsF t cl (n + 1) p l = (false,[],(act t p ⟨peek t p,0,0⟩).2.2):=by
 simp [actsF,h,h2]
theorem actsF_more {t : ByteArray} {cl : Int} {n p : Nat} {l : List Ac} (h : (peek t p == cl) = false) (h2 : (act t p ⟨peek t p,0,0⟩).1 = true) :
 actsF t cl (n + 1) p l = actsF t cl n (act t p ⟨peek t p,0,0⟩).2.2 (l ++ [(act t p ⟨peek t p,0,0⟩).2.1]):=by
 simp [actsF,h,h2]
end Ch
abbrev zB16 : Array Value:=#[.bool false,.bool false,.bool false,.bool false,.bool false,.bool false,.bool false,.bool false,.bool false,.bool false,.bool false,.bool false,.bool false,.bool false,.bool false,.bool false]
abbrev zU16 : Array Value:=#[.int .u8 0,.int .u8 0,.int .u8 0,.int .u8 0,.int .u8 0,.int .u8 0,.int .u8 0,.int .u8 0,.int .u8 0,.int .u8 0,.int .u8 0,.int .u8 0,.int .u8 0,.int .u8 0,.int .u8 0,.int .u8 0]
abbrev zS36 : Array Value:=#[.bool false,.bool false,.bool false,.bool false,.bool false,.bool false,.bool false,.bool false,.bool false,.bool false,.bool false,.bool false,.bool false,.bool false,.bool false,.bool false,.int .u8 0,.int .u8 0,.int .u8 0,.int .u8 0,.int .u8 0,.int .u8 0,.int .u8 0,.int .u8 0,.int .u8 0,.int .u8 0,.int .u8 0,.int .u8 0,.int .u8 0,.int .u8 0,.int .u8 0,.int .u8 0,.string ByteArray.empty,.int .i64 0,.int .i64 0,.int .i64 0]
abbrev yS36 : Array Value:=#[.bool false,.bool false,.bool false,.bool false,.bool false,.bool false,.bool false,.bool false,.bool false,.bool false,.bool false,.bool false,.bool false,.bool false,.bool false,.bool false,.int .u8 0,.int .u8 0,.int .u8 0,.int .u8 0,.int .u8 0,.int .u8 0,.int .u8 0,.int .u8 0,.int .u8 0,.int .u8 0,.int .u8 0,.int .u8 0,.int .u8 0,.int .u8 0,.int .u8 0,.int .u8 0,.string ⟨#[]⟩,.int .i64 0,.int .i64 0,.int .i64 0]
abbrev yP39 : Array Value:=#[.pointer none,.bool false,.bool false,.bool false,.bool false,.bool false,.bool false,.bool false,.bool false,.bool false,.bool false,.bool false,.bool false,.bool false,.bool false,.bool false,.bool false,.int .u8 0,.int .u8 0,.int .u8 0,.int .u8 0,.int .u8 0,.int .u8 0,.int .u8 0,.int .u8 0,.int .u8 0,.int .u8 0,.int .u8 0,.int .u8 0,.int .u8 0,.int .u8 0,.int .u8 0,.int .u8 0,.string ⟨#[]⟩,.int .i64 0,.int .i64 0,.int .i64 0,.slice none 0 0,.slice none 0 0]
abbrev yL42 : Array Value:=#[.int .i64 0,.int .i64 0,.int .i64 0,.slice none 0 0,.slice none 0 0,.slice none 0 0,.bool false,.bool false,.bool false,.bool false,.bool false,.bool false,.bool false,.bool false,.bool false,.bool false,.bool false,.bool false,.bool false,.bool false,.bool false,.bool false,.int .u8 0,.int .u8 0,.int .u8 0,.int .u8 0,.int .u8 0,.int .u8 0,.int .u8 0,.int .u8 0,.int .u8 0,.int .u8 0,.int .u8 0,.int .u8 0,.int .u8 0,.int .u8 0,.int .u8 0,.int .u8 0,.string ⟨#[]⟩,.int .i64 0,.int .i64 0,.int .i64 0]
abbrev y5L : Array Value:=#[.int .i64 0,.int .i64 0,.slice none 0 0,.slice none 0 0,.slice none 0 0]
abbrev y6S : Array Value:=#[.string ⟨#[]⟩,.string ⟨#[]⟩,.string ⟨#[]⟩,.int .i64 0,.int .i64 0,.int .i64 0]
theorem hid {p : Prop} (h : p) : Hid p:=h
theorem hm {P : Program} {f : FuncId} {args : Array Value} {w : World} {Q R : Ending → World → Prop} (h : Hid (Calls P f args w Q)) (k : ∀ e w',Q e w' → R e w') : Calls P f args w R:=Calls.mono h k
structure Kp (S : Nat → Prop) (w w' : World) : Prop where
 os : w'.os = w.os
 tape : w'.tape = w.tape
 output : w'.output = w.output
 size : w.heap.size ≤ w'.heap.size
 block : ∀ k,k < w.heap.size → ¬ S k → w'.heap[k]? = w.heap[k]?
theorem Kp.refl (S : Nat → Prop) (w : World) : Kp S w w:=⟨rfl,rfl,rfl,Nat.le_refl _,fun _ _ _=>rfl⟩
theorem Kp.trans {S : Nat → Prop} {a b c : World} (h : Kp S a b) (k : Kp S b c) : Kp S a c :=
 ⟨k.os.trans h.os,k.tape.trans h.tape,k.output.trans h.output,Nat.le_trans h.size k.size,
  fun i hi hs=>(k.block i (Nat.lt_of_lt_of_le hi h.size) hs).trans (h.block i hi hs)⟩
theorem Kp.trans' {S S' : Nat → Prop} {a b c : World} (h : Kp S a b) (k : Kp S' b c) (hs : ∀ i,i < a.heap.size → S' i → S i) : Kp S a c :=
 ⟨k.os.trans h.os,k.tape.trans h.tape,k.output.trans h.output,Nat.le_trans h.size k.size,
  fun i hi hn=>(k.block i (Nat.lt_of_lt_of_le hi h.size) (fun x=>hn (hs i hi x))).trans (h.block i hi hn)⟩
theorem Kp.mono {S S' : Nat → Prop} {w w' : World} (h : Kp S w w') (hs : ∀ i,i < w.heap.size → S i → S' i) : Kp S' w w' :=
 ⟨h.os,h.tape,h.output,h.size,fun k hk hn=>h.block k hk (fun x=>hn (hs k hk x))⟩
theorem Kp.drew {S : Nat → Prop} {a w : World} (h : Kp S a w) : Kp S a w.drew:=⟨h.os,h.tape,h.output,h.size,h.block⟩
theorem Kp.drewN {S : Nat → Prop} {a w : World} (h : Kp S a w) (n : Nat) : Kp S a (w.drewN n):=⟨h.os,h.tape,h.output,h.size,h.block⟩
theorem Kp.alloc {S : Nat → Prop} {a w : World} (h : Kp S a w) (o : Obj) : Kp S a (w.alloc o) :=
 h.trans ⟨rfl,rfl,rfl,by simp,fun k hk _=>Below.heap_alloc _ _ _ (by omega)⟩
theorem Kp.setCell {S : Nat → Prop} {a w : World} (h : Kp S a w) {p : Addr} (hp : p.block < a.heap.size → S p.block) (u : Value) : Kp S a (w.setCell p u) :=
 h.trans' (S':=fun k=>k = p.block) ⟨rfl,rfl,rfl,by simp [World.setCell],fun k _ hn=>Below.heap_setCell _ _ _ _ hn⟩ (fun i hi e=>by subst e;exact hp hi)
theorem Kp.grown {S : Nat → Prop} {a w w' : World} {row : Option Nat} (h : Kp S a w) (hg : w.grownBy w' row) (hr : ∀ k,row = some k → k < a.heap.size → S k) : Kp S a w' :=
 h.trans' (S':=fun k=>row = some k) ⟨hg.os,hg.tape,hg.output,hg.size,fun k hk hn=>hg.block k hk (fun e=>hn e.symm)⟩ (fun i hi e=>hr i e hi)
theorem Kp.below {S : Nat → Prop} {w w' : World} {B : Nat} (h : Kp S w w') (hB : B ≤ w.heap.size) (hs : ∀ k,S k → B ≤ k) : Below B w w' :=
 ⟨h.os,h.tape,h.output,h.size,fun k hk=>h.block k (by omega) (fun x=>by have:=hs k x;omega)⟩
theorem Kp.at_ {S : Nat → Prop} {w w' : World} (h : Kp S w w') {k : Nat} {o : Obj} (ho : w.heap[k]? = some o) (hs : ¬ S k) : w'.heap[k]? = some o :=
 (h.block k (lt_of_block ho) hs).trans ho
theorem Kp.owns {S : Nat → Prop} {w w' : World} (h : Kp S w w') {base : Nat} {e : TypeId} {size : Nat} {v : Value} {n : Nat} {xs : List Value}
 (ho : w.ownsRow base e size v n xs) (hs : ∀ k,v.ownBlock = some k → ¬ S k) : w'.ownsRow base e size v n xs:=by
 refine ⟨ho.1,?_⟩
 rcases ho.2 with hn | ⟨g,cap,cur,rfl,hb,hg,rest⟩
 ·exact .inl hn
 exact .inr ⟨g,cap,cur,rfl,hb,h.at_ hg (hs g rfl),rest⟩
theorem heap_set_same {w : World} {b i : Nat} {c : Array Value} {t : TypeId} {f : Nat × Nat} (u : Value) (h : w.heap[b]? = some (.cells c t f)) :
 (w.setCell ⟨b,i,none⟩ u).heap[b]? = some (.cells (c.setIfInBounds i u) t f):=by
 have hlt:=lt_of_block h
 have h' : w.heap[b] = .cells c t f:=by simpa [Array.getElem?_eq_getElem hlt] using h
 show (w.heap.modify b _)[b]? = _;rw [Array.getElem?_eq_getElem (by simpa using hlt),Array.getElem_modify_self,h'];rfl
def RdB (w : World) (b : Nat) (t : ByteArray) (p : Nat) (e f sv tv bv uv : Value) : Prop :=
 w.heap[b]? = some (.cells #[.string t,.int .i64 p,e,f,sv,tv,bv,uv] 143 (0,0))
section
variable {w : World} {b : Nat} {t : ByteArray} {p : Nat} {e f sv tv bv uv : Value}
theorem RdB.text (h : RdB w b t p e f sv tv bv uv) : w.cell? ⟨b,0,none⟩ = some (.string t):=by unfold RdB at h;simp [World.cell?,h]
theorem RdB.pos (h : RdB w b t p e f sv tv bv uv) : w.cell? ⟨b,1,none⟩ = some (.int .i64 p):=by unfold RdB at h;simp [World.cell?,h]
theorem RdB.c2 (h : RdB w b t p e f sv tv bv uv) : w.cell? ⟨b,2,none⟩ = some e:=by unfold RdB at h;simp [World.cell?,h]
theorem RdB.c3 (h : RdB w b t p e f sv tv bv uv) : w.cell? ⟨b,3,none⟩ = some f:=by unfold RdB at h;simp [World.cell?,h]
theorem RdB.c4 (h : RdB w b t p e f sv tv bv uv) : w.cell? ⟨b,4,none⟩ = some sv:=by unfold RdB at h;simp [World.cell?,h]
theorem RdB.c5 (h : RdB w b t p e f sv tv bv uv) : w.cell? ⟨b,5,none⟩ = some tv:=by unfold RdB at h;simp [World.cell?,h]
theorem RdB.c6 (h : RdB w b t p e f sv tv bv uv) : w.cell? ⟨b,6,none⟩ = some bv:=by unfold RdB at h;simp [World.cell?,h]
theorem RdB.c7 (h : RdB w b t p e f sv tv bv uv) : w.cell? ⟨b,7,none⟩ = some uv:=by unfold RdB at h;simp [World.cell?,h]
theorem RdB.free (h : RdB w b t p e f sv tv bv uv) (i : Nat) : w.frozen? ⟨b,i,none⟩ = false:=by unfold RdB at h;simp [World.frozen?,h]
theorem RdB.set1 (h : RdB w b t p e f sv tv bv uv) (q : Nat) : RdB (w.setCell ⟨b,1,none⟩ (.int .i64 q)) b t q e f sv tv bv uv:=by
 unfold RdB at *;rw [heap_set_same _ h];rfl
theorem RdB.step (h : RdB w b t p e f sv tv bv uv) : RdB (w.setCell ⟨b,1,none⟩ (.int .i64 ((p : Int) + 1))) b t (p + 1) e f sv tv bv uv:=h.set1 (p + 1)
theorem RdB.drewN (h : RdB w b t p e f sv tv bv uv) (n : Nat) : RdB (w.drewN n) b t p e f sv tv bv uv:=h
theorem RdB.keep {S : Nat → Prop} {w' : World} (h : RdB w b t p e f sv tv bv uv) (k : Kp S w w') (hs : ¬ S b) : RdB w' b t p e f sv tv bv uv:=Kp.at_ k h hs
theorem RdB.alloc (h : RdB w b t p e f sv tv bv uv) (o : Obj) : RdB (w.alloc o) b t p e f sv tv bv uv:=h.keep (S:=fun _=>False) ((Kp.refl _ _).alloc _) (fun x=>x)
theorem RdB.grown {w' : World} {row : Option Nat} (h : RdB w b t p e f sv tv bv uv) (g : w.grownBy w' row) (hr : row ≠ some b) : RdB w' b t p e f sv tv bv uv :=
 h.keep (S:=fun k=>row = some k) ((Kp.refl _ _).grown g (fun _ hk _=>hk)) hr
theorem RdB.lt (h : RdB w b t p e f sv tv bv uv) : b < w.heap.size:=lt_of_block h
theorem RdB.set4 (h : RdB w b t p e f sv tv bv uv) (v : Value) : RdB (w.setCell ⟨b,4,none⟩ v) b t p e f v tv bv uv:=by
 unfold RdB at *;rw [heap_set_same _ h];rfl
theorem RdB.set5 (h : RdB w b t p e f sv tv bv uv) (v : Value) : RdB (w.setCell ⟨b,5,none⟩ v) b t p e f sv v bv uv:=by
 unfold RdB at *;rw [heap_set_same _ h];rfl
theorem RdB.set6 (h : RdB w b t p e f sv tv bv uv) (v : Value) : RdB (w.setCell ⟨b,6,none⟩ v) b t p e f sv tv v uv:=by
 unfold RdB at *;rw [heap_set_same _ h];rfl
theorem RdB.set7 (h : RdB w b t p e f sv tv bv uv) (v : Value) : RdB (w.setCell ⟨b,7,none⟩ v) b t p e f sv tv bv v:=by
 unfold RdB at *;rw [heap_set_same _ h];rfl
end
def AcB (w : World) (ab : Nat) (a : Ch.Ac) : Prop:=w.heap[ab]? = some (.cells #[.int .u8 a.sign,.int .u8 a.letter,.int .i64 a.digit] 255 (0,0))
section
variable {w : World} {ab : Nat} {a : Ch.Ac}
theorem AcB.c0 (h : AcB w ab a) : w.cell? ⟨ab,0,none⟩ = some (.int .u8 a.sign):=by unfold AcB at h;simp [World.cell?,h]
theorem AcB.c1 (h : AcB w ab a) : w.cell? ⟨ab,1,none⟩ = some (.int .u8 a.letter):=by unfold AcB at h;simp [World.cell?,h]
theorem AcB.c2 (h : AcB w ab a) : w.cell? ⟨ab,2,none⟩ = some (.int .i64 a.digit):=by unfold AcB at h;simp [World.cell?,h]
theorem AcB.free (h : AcB w ab a) (i : Nat) : w.frozen? ⟨ab,i,none⟩ = false:=by unfold AcB at h;simp [World.frozen?,h]
theorem AcB.set1 (h : AcB w ab a) (l : Int) : AcB (w.setCell ⟨ab,1,none⟩ (.int .u8 l)) ab { a with letter:=l }:=by unfold AcB at *;rw [heap_set_same _ h];rfl
theorem AcB.set2 (h : AcB w ab a) (d : Int) : AcB (w.setCell ⟨ab,2,none⟩ (.int .i64 d)) ab { a with digit:=d }:=by unfold AcB at *;rw [heap_set_same _ h];rfl
theorem AcB.keep {S : Nat → Prop} {w' : World} (h : AcB w ab a) (k : Kp S w w') (hs : ¬ S ab) : AcB w' ab a:=Kp.at_ k h hs
theorem AcB.lt (h : AcB w ab a) : ab < w.heap.size:=lt_of_block h
theorem AcB.ne {b : Nat} {t : ByteArray} {p : Nat} {e f sv tv bv uv : Value} (h : AcB w ab a) (k : RdB w b t p e f sv tv bv uv) : ab ≠ b:=by
 intro x;subst x;unfold AcB at h;unfold RdB at k;rw [h] at k;simp at k
end
def acCells (l : List Ch.Ac) : List Value:=l.flatMap fun a=>[.int .u8 a.sign,.int .u8 a.letter,.int .i64 a.digit]
theorem acCells_snoc (l : List Ch.Ac) (a : Ch.Ac) : acCells (l ++ [a]) = acCells l ++ [.int .u8 a.sign,.int .u8 a.letter,.int .i64 a.digit]:=by simp [acCells]
theorem cells3_new (w : World) (x y z : Value) (T : TypeId) : ∀ j u,[x,y,z][j]? = some u → (w.alloc (.cells #[x,y,z] T)).cell? ((⟨w.heap.size,0,none⟩ : Addr).add j) = some u:=by
 intro j u hj
 match j,hj with
 | 0,hj=>simp at hj;subst hj;simp [Addr.add]
 | 1,hj=>simp at hj;subst hj;simp [Addr.add]
 | 2,hj=>simp at hj;subst hj;simp [Addr.add]
theorem dr2 (w : World) (n m : Nat) : (w.drewN n).drewN m = w.drewN (n + m):=World.drewN_drewN ..
theorem isEvent_any (c : Int) (w : World) :
 Calls Tryz.prog 56 #[.int .u8 c] w fun e w'=>e = .returned (.bool (Ch.isEv c)) ∧ w' = w:=by
 by_cases h1 : 97 ≤ c
 ·by_cases h2 : c ≤ 122
  ·have H : Hid (Ch.isEv c = true):=by simp [Hid,Ch.isEv,h1,h2]
   go_enter Tryz.func56,Tryz.ntmps56
   go_wp2;go_ret;exact ⟨by rw [H.out];rfl,rfl⟩
  have H : Hid (Ch.isEv c = false):=by simp [Hid,Ch.isEv,h2]
  go_enter Tryz.func56,Tryz.ntmps56
  go_wp2;go_ret;exact ⟨by rw [H.out];rfl,rfl⟩
 have H : Hid (Ch.isEv c = false):=by simp [Hid,Ch.isEv,h1]
 go_enter Tryz.func56,Tryz.ntmps56
 go_wp2;go_ret;exact ⟨by rw [H.out];rfl,rfl⟩
theorem isName_any (c : Int) (w : World) :
 Calls Tryz.prog 211 #[.int .u8 c] w fun e w'=>e = .returned (.bool (Ch.isNm c)) ∧ w' = w:=by
 by_cases h1 : 65 ≤ c
 ·by_cases h2 : c ≤ 90
  ·have H : Hid (Ch.isNm c = true):=by simp [Hid,Ch.isNm,h1,h2]
   go_enter Tryz.func211,Tryz.ntmps211
   go_wp2;go_ret;exact ⟨by rw [H.out];rfl,rfl⟩
  have H : Hid (Ch.isNm c = false):=by simp [Hid,Ch.isNm,h2]
  go_enter Tryz.func211,Tryz.ntmps211
  go_wp2;go_ret;exact ⟨by rw [H.out];rfl,rfl⟩
 have H : Hid (Ch.isNm c = false):=by simp [Hid,Ch.isNm,h1]
 go_enter Tryz.func211,Tryz.ntmps211
 go_wp2;go_ret;exact ⟨by rw [H.out];rfl,rfl⟩
theorem kindOf_any (c : Int) (w : World) :
 Calls Tryz.prog 212 #[.int .u8 c] w fun e w'=>e = .returned (.int .i64 (Ch.kindOf c)) ∧ w' = w:=by
 unfold Ch.kindOf
 by_cases h1 : c = 91
 ·subst h1
  go_enter Tryz.func212,Tryz.ntmps212
  go_wp2;go_ret;exact ⟨by simp,rfl⟩
 by_cases h2 : c = 60
 ·subst h2
  go_enter Tryz.func212,Tryz.ntmps212
  go_wp2;go_ret;exact ⟨by simp,rfl⟩
 by_cases h3 : c = 42
 ·subst h3
  go_enter Tryz.func212,Tryz.ntmps212
  go_wp2;go_ret;exact ⟨by simp,rfl⟩
 have b1 : (c == 91) = false:=by simpa using h1
 have b2 : (c == 60) = false:=by simpa using h2
 have b3 : (c == 42) = false:=by simpa using h3
 go_enter Tryz.func212,Tryz.ntmps212
 go_wp2;go_ret;exact ⟨by simp [*],rfl⟩
theorem peek_any (b : Nat) (t : ByteArray) (p : Nat) (w : World) (h0 : w.cell? ⟨b,0,none⟩ = some (.string t)) (h1 : w.cell? ⟨b,1,none⟩ = some (.int .i64 p)) :
 Calls Tryz.prog 110 #[.pointer (some ⟨b,0,none⟩)] w fun e w'=>e = .returned (.int .u8 (Ch.peek t p)) ∧ ∃ n,w' = w.drewN n:=by
 by_cases h : p < t.size
 ·have h2 : ¬ (t.size : Int) ≤ (p : Int):=by omega
  have h3 : (p : Int) < (t.size : Int):=by omega
  go_enter Tryz.func110,Tryz.ntmps110
  go_wp2
  go_quiet (fail)
  go_wp2
  go_quiet (fail)
  go_wp2;go_ret;exact ⟨by simp [Ch.peek,h],_,dr2 _ _ _⟩
 have h2 : (t.size : Int) ≤ (p : Int):=by omega
 go_enter Tryz.func110,Tryz.ntmps110
 go_wp2
 go_quiet (fail)
 go_wp2;go_ret;exact ⟨by simp [Ch.peek,h],_,rfl⟩
section
variable (b : Nat) (t : ByteArray) (p : Nat) (e f sv tv bv uv : Value) (w : World)
theorem skip_any (ok : Bool) (h : RdB w b t p e f sv tv bv uv) (hp : p ≤ 1000) :
 Calls Tryz.prog 216 #[.pointer (some ⟨b,0,none⟩),.bool ok] w fun x w'=>x = .returned (.bool ok) ∧ RdB w' b t (Ch.stepIf ok p) e f sv tv bv uv ∧ Kp (fun k=>k = b) w w':=by
 have h1:=h.pos;have f1:=h.free 1;have H : Hid (RdB w b t p e f sv tv bv uv):=h;clear h
 cases ok with
 | true =>
   go_enter Tryz.func216,Tryz.ntmps216
   go_wp2;go_ret;exact ⟨rfl,H.out.set1 (p + 1),(Kp.refl _ _).setCell (by intro _;rfl) _⟩
 | false=>?_
 go_enter Tryz.func216,Tryz.ntmps216
 go_wp2;go_ret;exact ⟨rfl,H.out,Kp.refl _ _⟩
theorem take_any (want : Int) (h : RdB w b t p e f sv tv bv uv) (hp : p ≤ 1000) :
 Calls Tryz.prog 157 #[.pointer (some ⟨b,0,none⟩),.int .u8 want] w fun x w'=>x = .returned (.bool (Ch.peek t p == want)) ∧ RdB w' b t (Ch.stepIf (Ch.peek t p == want) p) e f sv tv bv uv ∧ Kp (fun k=>k = b) w w':=by
 go_enter Tryz.func157,Tryz.ntmps157
 go_wp2_with fail
 refine (peek_any b t p _ h.text h.pos).mono ?_;rintro x w1 ⟨rfl,n1,rfl⟩;have h' : RdB (w.drewN n1) b t p e f sv tv bv uv:=h;have K1 : Kp (fun k=>k = b) w (w.drewN n1):=(Kp.refl _ _).drewN _;generalize w.drewN n1 = w1 at h' K1 ⊢;clear h
 go_wp2_with fail
 refine (skip_any b t p e f sv tv bv uv w1 _ h' hp).mono ?_;rintro x w2 ⟨rfl,h2,K2⟩;go_wp2;go_ret;exact ⟨rfl,h2,K1.trans K2⟩
theorem takeEvent_any  (h : RdB w b t p e f sv tv bv uv) (hp : p ≤ 1000) :
 Calls Tryz.prog 279 #[.pointer (some ⟨b,0,none⟩)] w fun x w'=>x = .returned (.bool (Ch.isEv (Ch.peek t p))) ∧ RdB w' b t (Ch.stepIf (Ch.isEv (Ch.peek t p)) p) e f sv tv bv uv ∧ Kp (fun k=>k = b) w w':=by
 go_enter Tryz.func279,Tryz.ntmps279
 go_wp2_with fail
 refine (peek_any b t p _ h.text h.pos).mono ?_;rintro x w1 ⟨rfl,n1,rfl⟩;have h' : RdB (w.drewN n1) b t p e f sv tv bv uv:=h;have K1 : Kp (fun k=>k = b) w (w.drewN n1):=(Kp.refl _ _).drewN _;generalize w.drewN n1 = w1 at h' K1 ⊢;clear h
 go_wp2_with fail
 refine (isEvent_any _ _).mono ?_;rintro x w2 ⟨rfl,rfl⟩
 go_wp2_with fail
 refine (skip_any b t p e f sv tv bv uv _ _ h' hp).mono ?_;rintro x w2 ⟨rfl,h2,K2⟩;go_wp2;go_ret;exact ⟨rfl,h2,K1.trans K2⟩
theorem takeVariable_any (h : RdB w b t p e f sv tv bv uv) (hp : p ≤ 1000) :
 Calls Tryz.prog 270 #[.pointer (some ⟨b,0,none⟩)] w fun x w'=>x = .returned (.bool (Ch.isVr (Ch.peek t p))) ∧ RdB w' b t (Ch.stepIf (Ch.isVr (Ch.peek t p)) p) e f sv tv bv uv ∧ Kp (fun k=>k = b) w w':=by
 rcases Ch.isVr_cases (Ch.peek t p) with ⟨b1,hv⟩ | ⟨b1,b2,hv⟩ | ⟨b1,b2,b3,hv⟩ | ⟨b1,b2,b3,hv⟩
 all_goals
  rw [hv];clear hv
  go_enter Tryz.func270,Tryz.ntmps270
  go_wp2_with fail
  refine (peek_any b t p _ h.text h.pos).mono ?_;rintro x w1 ⟨rfl,n1,rfl⟩;have h' : RdB (w.drewN n1) b t p e f sv tv bv uv:=h;have K1 : Kp (fun k=>k = b) w (w.drewN n1):=(Kp.refl _ _).drewN _;generalize w.drewN n1 = w1 at h' K1 ⊢
  go_wp2_with fail
  refine (skip_any b t p e f sv tv bv uv _ _ h' hp).mono ?_;rintro x w2 ⟨rfl,h2,K2⟩;go_wp2;go_ret;exact ⟨rfl,h2,K1.trans K2⟩
theorem takeDigit_any (lo : Int) (h : RdB w b t p e f sv tv bv uv) (hp : p ≤ 1000) :
 Calls Tryz.prog 272 #[.pointer (some ⟨b,0,none⟩),.int .u8 lo] w fun x w'=>x = .returned (.bool (Ch.isDg lo (Ch.peek t p))) ∧ RdB w' b t (Ch.stepIf (Ch.isDg lo (Ch.peek t p)) p) e f sv tv bv uv ∧ Kp (fun k=>k = b) w w':=by
 rcases Ch.isDg_cases lo (Ch.peek t p) with ⟨b1,b2,hv⟩ | ⟨b1,b2,hv⟩ | ⟨b1,hv⟩
 all_goals
  rw [hv];clear hv
  go_enter Tryz.func272,Tryz.ntmps272
  go_wp2_with fail
  refine (peek_any b t p _ h.text h.pos).mono ?_;rintro x w1 ⟨rfl,n1,rfl⟩;have h' : RdB (w.drewN n1) b t p e f sv tv bv uv:=h;have K1 : Kp (fun k=>k = b) w (w.drewN n1):=(Kp.refl _ _).drewN _;generalize w.drewN n1 = w1 at h' K1 ⊢
  go_wp2_with fail
  refine (skip_any b t p e f sv tv bv uv _ _ h' hp).mono ?_;rintro x w2 ⟨rfl,h2,K2⟩;go_wp2;go_ret;exact ⟨rfl,h2,K1.trans K2⟩
theorem peekDigit_any (h0 : w.cell? ⟨b,0,none⟩ = some (.string t)) (h1 : w.cell? ⟨b,1,none⟩ = some (.int .i64 p)) :
 Calls Tryz.prog 271 #[.pointer (some ⟨b,0,none⟩)] w fun x w'=>x = .returned (.int .i64 (Ch.peek t p - 48)) ∧ ∃ n,w' = w.drewN n:=by
 have lo:=Ch.peek_lo t p;have hi:=Ch.peek_hi t p
 go_enter Tryz.func271,Tryz.ntmps271
 go_wp2_with fail
 refine (peek_any b t p _ h0 h1).mono ?_;rintro x w1 ⟨rfl,n1,rfl⟩;go_wp2;go_ret;exact ⟨rfl,n1,rfl⟩
end
section
variable (b ab : Nat) (t : ByteArray) (p : Nat) (a : Ch.Ac) (e f sv tv bv uv : Value) (w : World)
theorem eventAct_any (h : RdB w b t p e f sv tv bv uv) (ha : AcB w ab a) (hp : p ≤ 900) :
 Calls Tryz.prog 276 #[.pointer (some ⟨b,0,none⟩),.pointer (some ⟨ab,0,none⟩)] w fun x w'=>x = .returned (.bool (Ch.evAct t p a).1) ∧
  RdB w' b t (Ch.evAct t p a).2.2 e f sv tv bv uv ∧ AcB w' ab (Ch.evAct t p a).2.1 ∧ Kp (fun k=>k = b ∨ k = ab) w w':=by
 have hne:=ha.ne h;have hs:=h.step;have c1:=h.pos;have f1:=h.free 1
 have H : Hid (AcB w ab a ∧ RdB w b t p e f sv tv bv uv):=⟨ha,h⟩
 clear ha h
 go_enter Tryz.func276,Tryz.ntmps276
 go_wp2_with fail
 refine (peek_any b t (p + 1) _ hs.text hs.pos).mono ?_;rintro x w1 ⟨rfl,n1,rfl⟩;have K1 : Kp (fun k=>k = b ∨ k = ab) w ((w.setCell ⟨b,1,none⟩ (.int .i64 ((p : Int) + 1))).drewN n1):=((Kp.refl _ _).setCell (by intro _;exact Or.inl rfl) _).drewN _;have a1 : AcB ((w.setCell ⟨b,1,none⟩ (.int .i64 ((p : Int) + 1))).drewN n1) ab a:=H.out.1.keep (S:=fun k=>k = b) (((Kp.refl _ _).setCell (by intro _;rfl) _).drewN _) hne;have h1:=hs.drewN n1;generalize (w.setCell ⟨b,1,none⟩ (.int .i64 ((p : Int) + 1))).drewN n1 = w1 at K1 a1 h1 ⊢;clear hs c1 f1 H;have c2:=a1.c1;have f2:=a1.free 1
 have H1 : Hid (AcB w1 ab a ∧ RdB w1 b t (p + 1) e f sv tv bv uv ∧ Kp (fun k=>k = b ∨ k = ab) w w1):=⟨a1,h1,K1⟩
 clear a1 h1 K1
 go_wp2_with fail
 obtain ⟨a1,h1,K1⟩:=H1.out;clear H1 c2 f2;have a2:=a1.set1 (Ch.peek t (p + 1));have h2 : RdB (w1.setCell ⟨ab,1,none⟩ (.int .u8 (Ch.peek t (p + 1)))) b t (p + 1) e f sv tv bv uv:=h1.keep (S:=fun k=>k = ab) ((Kp.refl _ _).setCell (by intro _;rfl) _) (Ne.symm hne);have K2 : Kp (fun k=>k = b ∨ k = ab) w (w1.setCell ⟨ab,1,none⟩ (.int .u8 (Ch.peek t (p + 1)))):=K1.setCell (by intro _;exact Or.inr rfl) _;generalize w1.setCell ⟨ab,1,none⟩ (.int .u8 (Ch.peek t (p + 1))) = w2 at a2 h2 K2 ⊢;clear a1 h1 K1;refine (takeEvent_any b t (p + 1) e f sv tv bv uv w2 h2 (by omega)).mono ?_;rintro x w3 ⟨rfl,h3,K3⟩;have a3:=a2.keep K3 hne;have K4:=K2.trans' K3 (fun i _ e=>Or.inl e);clear a2 h2 K2 K3;go_wp2;go_ret;exact ⟨rfl,h3,a3,K4⟩
theorem timerAct_any (h : RdB w b t p e f sv tv bv uv) (ha : AcB w ab a) (hp : p ≤ 900) :
 Calls Tryz.prog 277 #[.pointer (some ⟨b,0,none⟩),.pointer (some ⟨ab,0,none⟩)] w fun x w'=>x = .returned (.bool (Ch.tmAct t p a).1) ∧
  RdB w' b t (Ch.tmAct t p a).2.2 e f sv tv bv uv ∧ AcB w' ab (Ch.tmAct t p a).2.1 ∧ Kp (fun k=>k = b ∨ k = ab) w w':=by
 have hne:=ha.ne h;have E:=eventAct_any b ab t p a e f sv tv bv uv w h ha hp;have hb:=Ch.evAct_bd t p a;unfold Ch.tmAct;generalize Ch.evAct t p a = r at E hb ⊢;obtain ⟨ok,a1,p1⟩:=r;have HE:=hid (E);clear E h ha
 cases ok with
 | false =>
   go_enter Tryz.func277,Tryz.ntmps277
   go_wp2_with fail
   refine hm HE ?_;rintro x w1 ⟨rfl,h1,A1,K1⟩;go_wp2;go_ret;exact ⟨rfl,h1,A1,K1⟩
 | true=>?_
 go_enter Tryz.func277,Tryz.ntmps277
 go_wp2_with fail
 refine hm HE ?_;rintro x w1 ⟨rfl,h1,A1,K1⟩;clear HE;have h1 : RdB w1 b t p1 e f sv tv bv uv:=h1;have A1 : AcB w1 ab a1:=A1;have hb : p1 ≤ p + 2:=hb.2
 go_wp2_with fail
 refine (peekDigit_any b t p1 _ h1.text h1.pos).mono ?_;rintro x w2 ⟨rfl,n2,rfl⟩;have a2 : AcB (w1.drewN n2) ab a1:=A1;have h2:=h1.drewN n2;have K2:=K1.drewN n2;generalize w1.drewN n2 = w2 at a2 h2 K2 ⊢;clear A1 h1 K1;have c2:=a2.c2;have f2:=a2.free 2
 have H2 : Hid (AcB w2 ab a1 ∧ RdB w2 b t p1 e f sv tv bv uv ∧ Kp (fun k=>k = b ∨ k = ab) w w2):=⟨a2,h2,K2⟩
 clear a2 h2 K2
 go_wp2_with fail
 obtain ⟨a2,h2,K2⟩:=H2.out;clear H2 c2 f2;have a3:=a2.set2 (Ch.peek t p1 - 48);have h3 : RdB (w2.setCell ⟨ab,2,none⟩ (.int .i64 (Ch.peek t p1 - 48))) b t p1 e f sv tv bv uv:=h2.keep (S:=fun k=>k = ab) ((Kp.refl _ _).setCell (by intro _;rfl) _) (Ne.symm hne);have K3 : Kp (fun k=>k = b ∨ k = ab) w (w2.setCell ⟨ab,2,none⟩ (.int .i64 (Ch.peek t p1 - 48))):=K2.setCell (by intro _;exact Or.inr rfl) _;generalize w2.setCell ⟨ab,2,none⟩ (.int .i64 (Ch.peek t p1 - 48)) = w3 at a3 h3 K3 ⊢;clear a2 h2 K2;refine (takeDigit_any b t p1 e f sv tv bv uv w3 49 h3 (by omega)).mono ?_;rintro x w4 ⟨rfl,h4,K4⟩;have a4:=a3.keep K4 hne;have K5:=K3.trans' K4 (fun i _ e=>Or.inl e);clear a3 h3 K3 K4;go_wp2;go_ret;exact ⟨rfl,h4,a4,K5⟩
theorem variableAct_any (h : RdB w b t p e f sv tv bv uv) (ha : AcB w ab a) (hp : p ≤ 900) :
 Calls Tryz.prog 278 #[.pointer (some ⟨b,0,none⟩),.pointer (some ⟨ab,0,none⟩)] w fun x w'=>x = .returned (.bool (Ch.vrAct t p a).1) ∧
  RdB w' b t (Ch.vrAct t p a).2.2 e f sv tv bv uv ∧ AcB w' ab (Ch.vrAct t p a).2.1 ∧ Kp (fun k=>k = b ∨ k = ab) w w':=by
 cases hv : Ch.isVr (Ch.peek t (p + 1)) with
 | false =>
   have HV : Hid (Ch.vrAct t p a = (false,{ a with letter:=Ch.peek t (p + 1) },p + 1)):=by simp [Hid,Ch.vrAct,Ch.vrAct1,Ch.dgAct,Ch.stepIf,hv]
   rw [HV.out];have Hv : Hid (Ch.isVr (Ch.peek t (p + 1)) = false):=hv;clear hv HV;have hne:=ha.ne h;have hs:=h.step;have c1:=h.pos;have f1:=h.free 1
   have H : Hid (AcB w ab a ∧ RdB w b t p e f sv tv bv uv):=⟨ha,h⟩
   clear ha h
   go_enter Tryz.func278,Tryz.ntmps278
   go_wp2_with fail
   refine (peek_any b t (p + 1) _ hs.text hs.pos).mono ?_;rintro x w1 ⟨rfl,n1,rfl⟩;have K1 : Kp (fun k=>k = b ∨ k = ab) w ((w.setCell ⟨b,1,none⟩ (.int .i64 ((p : Int) + 1))).drewN n1):=((Kp.refl _ _).setCell (by intro _;exact Or.inl rfl) _).drewN _;have a1 : AcB ((w.setCell ⟨b,1,none⟩ (.int .i64 ((p : Int) + 1))).drewN n1) ab a:=H.out.1.keep (S:=fun k=>k = b) (((Kp.refl _ _).setCell (by intro _;rfl) _).drewN _) hne;have h1:=hs.drewN n1;generalize (w.setCell ⟨b,1,none⟩ (.int .i64 ((p : Int) + 1))).drewN n1 = w1 at K1 a1 h1 ⊢;clear hs c1 f1 H;have c2:=a1.c1;have f2:=a1.free 1
   have H1 : Hid (AcB w1 ab a ∧ RdB w1 b t (p + 1) e f sv tv bv uv ∧ Kp (fun k=>k = b ∨ k = ab) w w1):=⟨a1,h1,K1⟩
   clear a1 h1 K1
   go_wp2_with fail
   obtain ⟨a1,h1,K1⟩:=H1.out;clear H1 c2 f2;have a2:=a1.set1 (Ch.peek t (p + 1));have h2 : RdB (w1.setCell ⟨ab,1,none⟩ (.int .u8 (Ch.peek t (p + 1)))) b t (p + 1) e f sv tv bv uv:=h1.keep (S:=fun k=>k = ab) ((Kp.refl _ _).setCell (by intro _;rfl) _) (Ne.symm hne);have K2 : Kp (fun k=>k = b ∨ k = ab) w (w1.setCell ⟨ab,1,none⟩ (.int .u8 (Ch.peek t (p + 1)))):=K1.setCell (by intro _;exact Or.inr rfl) _;generalize w1.setCell ⟨ab,1,none⟩ (.int .u8 (Ch.peek t (p + 1))) = w2 at a2 h2 K2 ⊢;clear a1 h1 K1;refine (takeVariable_any b t (p + 1) e f sv tv bv uv w2 h2 (by omega)).mono ?_;rw [Hv.out];rintro x w3 ⟨rfl,h3,K3⟩;have a3:=a2.keep K3 hne;have K4:=K2.trans' K3 (fun i _ e=>Or.inl e);clear a2 h2 K2 K3;go_wp2;go_ret;exact ⟨rfl,h3,a3,K4⟩
 | true=>?_
 have HV : Hid (Ch.vrAct t p a = Ch.dgAct t 48 (true,{ a with letter:=Ch.peek t (p + 1) },p + 2)):=by simp [Hid,Ch.vrAct,Ch.vrAct1,Ch.stepIf,hv]
 rw [HV.out];have Hv : Hid (Ch.isVr (Ch.peek t (p + 1)) = true):=hv;clear hv HV
 obtain ⟨p1,hp1⟩ : ∃ p1,p1 = p + 2:=⟨_,rfl⟩
 rw [← hp1];have HP : Hid (p1 = p + 2):=hp1
 have hb : p1 ≤ p + 2:=by omega
 clear hp1
 obtain ⟨a1,ha1⟩ : ∃ a1 : Ch.Ac,a1 = { a with letter:=Ch.peek t (p + 1) }:=⟨_,rfl⟩
 rw [← ha1];have HA : Hid (a1 = { a with letter:=Ch.peek t (p + 1) }):=ha1;clear ha1;have hne:=ha.ne h;have hs:=h.step;have c1:=h.pos;have f1:=h.free 1
 have H : Hid (AcB w ab a ∧ RdB w b t p e f sv tv bv uv):=⟨ha,h⟩
 clear ha h
 go_enter Tryz.func278,Tryz.ntmps278
 go_wp2_with fail
 refine (peek_any b t (p + 1) _ hs.text hs.pos).mono ?_;rintro x w1 ⟨rfl,n1,rfl⟩;have K1 : Kp (fun k=>k = b ∨ k = ab) w ((w.setCell ⟨b,1,none⟩ (.int .i64 ((p : Int) + 1))).drewN n1):=((Kp.refl _ _).setCell (by intro _;exact Or.inl rfl) _).drewN _;have a1 : AcB ((w.setCell ⟨b,1,none⟩ (.int .i64 ((p : Int) + 1))).drewN n1) ab a:=H.out.1.keep (S:=fun k=>k = b) (((Kp.refl _ _).setCell (by intro _;rfl) _).drewN _) hne;have h1:=hs.drewN n1;generalize (w.setCell ⟨b,1,none⟩ (.int .i64 ((p : Int) + 1))).drewN n1 = w1 at K1 a1 h1 ⊢;clear hs c1 f1 H;have c2:=a1.c1;have f2:=a1.free 1
 have H1 : Hid (AcB w1 ab a ∧ RdB w1 b t (p + 1) e f sv tv bv uv ∧ Kp (fun k=>k = b ∨ k = ab) w w1):=⟨a1,h1,K1⟩
 clear a1 h1 K1
 go_wp2_with fail
 obtain ⟨a1,h1,K1⟩:=H1.out;clear H1 c2 f2;have a2:=a1.set1 (Ch.peek t (p + 1));have h2 : RdB (w1.setCell ⟨ab,1,none⟩ (.int .u8 (Ch.peek t (p + 1)))) b t (p + 1) e f sv tv bv uv:=h1.keep (S:=fun k=>k = ab) ((Kp.refl _ _).setCell (by intro _;rfl) _) (Ne.symm hne);have K2 : Kp (fun k=>k = b ∨ k = ab) w (w1.setCell ⟨ab,1,none⟩ (.int .u8 (Ch.peek t (p + 1)))):=K1.setCell (by intro _;exact Or.inr rfl) _;generalize w1.setCell ⟨ab,1,none⟩ (.int .u8 (Ch.peek t (p + 1))) = w2 at a2 h2 K2 ⊢;clear a1 h1 K1;refine (takeVariable_any b t (p + 1) e f sv tv bv uv w2 h2 (by omega)).mono ?_;rw [Hv.out];rintro x w3 ⟨rfl,h3,K3⟩;have a3:=a2.keep K3 hne;have K1:=K2.trans' K3 (fun i _ e=>Or.inl e);clear a2 h2 K2 K3
 have h1 : RdB w3 b t p1 e f sv tv bv uv:=by rw [HP.out];exact h3
 have A1 : AcB w3 ab a1:=by rw [HA.out];exact a3
 clear a3 h3 Hv HA HP;generalize w3 = w1 at h1 A1 K1 ⊢
 go_wp2_with fail
 refine (peekDigit_any b t p1 _ h1.text h1.pos).mono ?_;rintro x w2 ⟨rfl,n2,rfl⟩;have a2 : AcB (w1.drewN n2) ab a1:=A1;have h2:=h1.drewN n2;have K2:=K1.drewN n2;generalize w1.drewN n2 = w2 at a2 h2 K2 ⊢;clear A1 h1 K1;have c2:=a2.c2;have f2:=a2.free 2
 have H2 : Hid (AcB w2 ab a1 ∧ RdB w2 b t p1 e f sv tv bv uv ∧ Kp (fun k=>k = b ∨ k = ab) w w2):=⟨a2,h2,K2⟩
 clear a2 h2 K2
 go_wp2_with fail
 obtain ⟨a2,h2,K2⟩:=H2.out;clear H2 c2 f2;have a3:=a2.set2 (Ch.peek t p1 - 48);have h3 : RdB (w2.setCell ⟨ab,2,none⟩ (.int .i64 (Ch.peek t p1 - 48))) b t p1 e f sv tv bv uv:=h2.keep (S:=fun k=>k = ab) ((Kp.refl _ _).setCell (by intro _;rfl) _) (Ne.symm hne);have K3 : Kp (fun k=>k = b ∨ k = ab) w (w2.setCell ⟨ab,2,none⟩ (.int .i64 (Ch.peek t p1 - 48))):=K2.setCell (by intro _;exact Or.inr rfl) _;generalize w2.setCell ⟨ab,2,none⟩ (.int .i64 (Ch.peek t p1 - 48)) = w3 at a3 h3 K3 ⊢;clear a2 h2 K2;refine (takeDigit_any b t p1 e f sv tv bv uv w3 48 h3 (by omega)).mono ?_;rintro x w4 ⟨rfl,h4,K4⟩;have a4:=a3.keep K4 hne;have K5:=K3.trans' K4 (fun i _ e=>Or.inl e);clear a3 h3 K3 K4;go_wp2;go_ret;exact ⟨rfl,h4,a4,K5⟩
theorem act_any (h : RdB w b t p e f sv tv bv uv) (ha : AcB w ab a) (hp : p ≤ 900) :
 Calls Tryz.prog 273 #[.pointer (some ⟨b,0,none⟩),.pointer (some ⟨ab,0,none⟩)] w fun x w'=>x = .returned (.bool (Ch.act t p a).1) ∧
  RdB w' b t (Ch.act t p a).2.2 e f sv tv bv uv ∧ AcB w' ab (Ch.act t p a).2.1 ∧ Kp (fun k=>k = b ∨ k = ab) w w':=by
 have c0:=ha.c0
 cases q33 : a.sign == 33 with
 | true =>
   have HV : Hid (Ch.act t p a = Ch.evAct t p a):=by simp [Hid,Ch.act,q33]
   rw [HV.out];have E:=hid (eventAct_any b ab t p a e f sv tv bv uv w h ha hp);clear HV h ha
   go_enter Tryz.func273,Tryz.ntmps273
   go_wp2_with fail
   refine hm E ?_;rintro x w1 ⟨rfl,h1⟩;go_wp2;go_ret;exact ⟨rfl,h1⟩
 | false=>?_
 cases q126 : a.sign == 126 with
 | true =>
   have HV : Hid (Ch.act t p a = Ch.evAct t p a):=by simp [Hid,Ch.act,q33,q126]
   rw [HV.out];have E:=hid (eventAct_any b ab t p a e f sv tv bv uv w h ha hp);clear HV h ha
   go_enter Tryz.func273,Tryz.ntmps273
   go_wp2_with fail
   refine hm E ?_;rintro x w1 ⟨rfl,h1⟩;go_wp2;go_ret;exact ⟨rfl,h1⟩
 | false=>?_
 cases q35 : a.sign == 35 with
 | true =>
   have HV : Hid (Ch.act t p a = Ch.evAct t p a):=by simp [Hid,Ch.act,q33,q126,q35]
   rw [HV.out];have E:=hid (eventAct_any b ab t p a e f sv tv bv uv w h ha hp);clear HV h ha
   go_enter Tryz.func273,Tryz.ntmps273
   go_wp2_with fail
   refine hm E ?_;rintro x w1 ⟨rfl,h1⟩;go_wp2;go_ret;exact ⟨rfl,h1⟩
 | false=>?_
 cases q64 : a.sign == 64 with
 | true =>
   have HV : Hid (Ch.act t p a = Ch.tmAct t p a):=by simp [Hid,Ch.act,q33,q126,q35,q64]
   rw [HV.out];have E:=hid (timerAct_any b ab t p a e f sv tv bv uv w h ha hp);clear HV h ha
   go_enter Tryz.func273,Tryz.ntmps273
   go_wp2_with fail
   refine hm E ?_;rintro x w1 ⟨rfl,h1⟩;go_wp2;go_ret;exact ⟨rfl,h1⟩
 | false=>?_
 cases q43 : a.sign == 43 with
 | true =>
   have HV : Hid (Ch.act t p a = Ch.vrAct t p a):=by simp [Hid,Ch.act,q33,q126,q35,q64,q43]
   rw [HV.out];have E:=hid (variableAct_any b ab t p a e f sv tv bv uv w h ha hp);clear HV h ha
   go_enter Tryz.func273,Tryz.ntmps273
   go_wp2_with fail
   refine hm E ?_;rintro x w1 ⟨rfl,h1⟩;go_wp2;go_ret;exact ⟨rfl,h1⟩
 | false=>?_
 cases q45 : a.sign == 45 with
 | true =>
   have HV : Hid (Ch.act t p a = Ch.vrAct t p a):=by simp [Hid,Ch.act,q33,q126,q35,q64,q43,q45]
   rw [HV.out];have E:=hid (variableAct_any b ab t p a e f sv tv bv uv w h ha hp);clear HV h ha
   go_enter Tryz.func273,Tryz.ntmps273
   go_wp2_with fail
   refine hm E ?_;rintro x w1 ⟨rfl,h1⟩;go_wp2;go_ret;exact ⟨rfl,h1⟩
 | false=>?_
 cases q61 : a.sign == 61 with
 | true =>
   have HV : Hid (Ch.act t p a = Ch.vrAct t p a):=by simp [Hid,Ch.act,q33,q126,q35,q64,q43,q45,q61]
   rw [HV.out];have E:=hid (variableAct_any b ab t p a e f sv tv bv uv w h ha hp);clear HV h ha
   go_enter Tryz.func273,Tryz.ntmps273
   go_wp2_with fail
   refine hm E ?_;rintro x w1 ⟨rfl,h1⟩;go_wp2;go_ret;exact ⟨rfl,h1⟩
 | false=>?_
 have HV : Hid (Ch.act t p a = (false,a,p)):=by simp [Hid,Ch.act,q33,q126,q35,q64,q43,q45,q61]
 rw [HV.out];have E:=hid (And.intro h ha);clear HV h ha
 go_enter Tryz.func273,Tryz.ntmps273
 go_wp2;go_ret;exact ⟨rfl,E.out.1,E.out.2,Kp.refl _ _⟩
end
theorem Tryz.infoAct : (Tryz.prog.info? 255).map (fun i=>(i.zero,i.size,i.bytes)) = some (some (.agg #[.int .u8 0,.int .u8 0,.int .i64 0]),3,16):=by kernel_rfl
theorem Ch.actsF_le {t : ByteArray} {cl : Int} (hcl : cl ≠ 0) : ∀ (n p : Nat) (l : List Ch.Ac),p ≤ t.size → p ≤ (Ch.actsF t cl n p l).2.2 ∧ (Ch.actsF t cl n p l).2.2 ≤ t.size:=by
 intro n
 induction n with
 | zero=>intro p l hp;exact ⟨Nat.le_refl _,hp⟩
 | succ n ih=>?_
 intro p l hp;have h1:=Ch.act_size hp 0 0;have h2:=(Ch.act_bd t p ⟨Ch.peek t p,0,0⟩).1
 cases cc : Ch.peek t p == cl with
 | true =>
   rw [Ch.actsF_close cc];have:=Ch.lt_of_eq hcl cc;exact ⟨by show p ≤ p + 1;omega,by show p + 1 ≤ _;omega⟩
 | false=>?_
 cases ca : (Ch.act t p ⟨Ch.peek t p,0,0⟩).1 with
 | false=>rw [Ch.actsF_bad cc ca];exact ⟨h2,h1⟩
 | true=>?_
 rw [Ch.actsF_more cc ca];have:=ih (Ch.act t p ⟨Ch.peek t p,0,0⟩).2.2 (l ++ [(Ch.act t p ⟨Ch.peek t p,0,0⟩).2.1]) h1;omega
theorem Ch.acts_le {t : ByteArray} {cl : Int} {p : Nat} (hp : p ≤ t.size) (hcl : cl ≠ 0:=by decide) : p ≤ (Ch.acts t cl p).2.2 ∧ (Ch.acts t cl p).2.2 ≤ t.size:=Ch.actsF_le hcl _ _ _ hp
section
variable (b : Nat) (t : ByteArray) (p : Nat) (e f sv tv bv uv : Value) (w : World)
theorem acts_any (cl : Int) (h : RdB w b t p e f sv tv bv uv) (hp : p ≤ t.size) (ht : t.size ≤ 240) (hcl : cl ≠ 0) :
 Calls Tryz.prog 251 #[.pointer (some ⟨b,0,none⟩),.int .u8 cl] w fun x w'=>∃ v,x = .returned (.tuple #[v,.bool (Ch.acts t cl p).1]) ∧
  RdB w' b t (Ch.acts t cl p).2.2 e f sv tv bv uv ∧ w'.ownsRow w.heap.size 255 3 v (Ch.acts t cl p).2.1.length (acCells (Ch.acts t cl p).2.1) ∧ Kp (fun k=>k = b) w w' ∧
  (Ch.acts t cl p).2.2 ≤ t.size:=by
 obtain ⟨i0,hi,hz0,hz1,hz2⟩:=info_parts Tryz.infoAct;have Hb:=hid h.lt
 go_enter Tryz.func251,Tryz.ntmps251
 go_wp2_with fail
 go_loopg [6] (t.size + 1) (fun k v wr=>∃ p1 l,Hid (Ch.acts t cl p = Ch.actsF t cl k p1 l) ∧ p1 ≤ t.size ∧ t.size + 1 ≤ k + p1 ∧ RdB wr b t p1 e f sv tv bv uv ∧
  wr.ownsRow w.heap.size 255 3 v l.length (acCells l) ∧ l.length ≤ p1 ∧ Kp (fun k=>k = b) w wr)
 case atStart=>exact ⟨p,[],hid rfl,hp,by omega,h,World.ownsRow_nil _ _ _ _,by simp,Kp.refl _ _⟩
 case round =>
  obtain ⟨p1,l,HE,hp1,hk,h1,ho,hl,K1⟩:=hrel
  obtain ⟨k,rfl⟩ : ∃ k,gk = k + 1:=⟨gk - 1,by omega⟩
  clear h hp
  cases cc : Ch.peek t p1 == cl with
  | true =>
    have HF:=hid (HE.out.trans (Ch.actsF_close cc));have hlt:=Ch.lt_of_eq hcl cc;have E:=hid (take_any b t p1 e f sv tv bv uv wr cl h1 (by omega));rw [cc] at E;clear h1 cc HE
    go_wp2_with fail
    refine hm E ?_;rintro x w1 ⟨rfl,h2,K2⟩;have o2:=K2.owns ho (fun k hk e=>by have:=(ho.lt k hk).1;have:=Hb.out;omega);have K3:=K1.trans K2;clear ho K1 K2 E;go_wp2;go_ret2;exact ⟨_,by rw [HF.out];exact ⟨rfl,h2,o2,K3,(by show p1 + 1 ≤ t.size;omega)⟩⟩
  | false=>?_
  cases ca : (Ch.act t p1 ⟨Ch.peek t p1,0,0⟩).1 with
  | false =>
    have HF:=hid (HE.out.trans (Ch.actsF_bad cc ca));have E:=hid (take_any b t p1 e f sv tv bv uv wr cl h1 (by omega));rw [cc] at E;have HA:=hid (And.intro cc ca);clear h1 cc ca HE
    go_wp2_with fail
    refine hm E ?_;rintro x w1 ⟨rfl,h2,K2⟩;have h2 : RdB w1 b t p1 e f sv tv bv uv:=h2;have o2:=K2.owns ho (fun k hk e=>by have:=(ho.lt k hk).1;have:=Hb.out;omega);have K3:=K1.trans K2;clear ho K1 K2 E
    go_wp2_with fail
    refine (peek_any b t p1 _ h2.text h2.pos).mono ?_;rintro x w2 ⟨rfl,n2,rfl⟩;have h3:=h2.drewN n2;have o3 : (w1.drewN n2).ownsRow _ _ _ _ _ _:=o2;have K4:=K3.drewN n2;generalize w1.drewN n2 = w2 at h3 o3 K4 ⊢;clear h2 o2 K3
    go_wp2_with fail
    have hA : AcB (w2.alloc (.cells #[.int .u8 (Ch.peek t p1),.int .u8 0,.int .i64 0] 255)) w2.heap.size ⟨Ch.peek t p1,0,0⟩:=heap_alloc_new w2 _;have h4 : RdB (w2.alloc (.cells #[.int .u8 (Ch.peek t p1),.int .u8 0,.int .i64 0] 255)) b t p1 e f sv tv bv uv:=h3.keep (S:=fun _=>False) ((Kp.refl _ _).alloc _) (fun x=>x);have o4:=o3.alloc (.cells #[.int .u8 (Ch.peek t p1),.int .u8 0,.int .i64 0] 255);have K5:=K4.alloc (.cells #[.int .u8 (Ch.peek t p1),.int .u8 0,.int .i64 0] 255);have hsz:=K4.size
    have hbl:=fun k hk=>(o3.lt k hk).2
    have hbe:=fun k hk=>(o3.lt k hk).1
    generalize w2.alloc (.cells #[.int .u8 (Ch.peek t p1),.int .u8 0,.int .i64 0] 255) = w3 at hA h4 o4 K5 ⊢;generalize w2.heap.size = ab at hA hsz hbl ⊢;clear h3 o3 K4;have E:=hid (act_any b ab t p1 ⟨Ch.peek t p1,0,0⟩ e f sv tv bv uv w3 h4 hA (by omega));rw [HA.out.2] at E;refine hm E ?_;rintro x w4 ⟨rfl,h5,a5,K6⟩;have o5:=K6.owns o4 (fun k hk hS=>by have:=hbl k hk;have:=hbe k hk;have:=Hb.out;omega);have K7:=K5.trans' K6 (fun i hi hS=>by rcases hS with hS | hS;exact hS;omega);have hs:=Ch.act_size hp1 0 0;clear E hA h4 o4 K5 K6 hbl hbe;go_wp2;go_ret2;exact ⟨_,by rw [HF.out];exact ⟨rfl,h5,World.ownsRow_nil _ _ _ _,K7,hs⟩⟩
  | true=>?_
  have HF:=hid (HE.out.trans (Ch.actsF_more cc ca));have E:=hid (take_any b t p1 e f sv tv bv uv wr cl h1 (by omega));rw [cc] at E;have HA:=hid (And.intro cc ca);clear h1 cc ca HE
  go_wp2_with fail
  refine hm E ?_;rintro x w1 ⟨rfl,h2,K2⟩;have h2 : RdB w1 b t p1 e f sv tv bv uv:=h2;have o2:=K2.owns ho (fun k hk e=>by have:=(ho.lt k hk).1;have:=Hb.out;omega);have K3:=K1.trans K2;clear ho K1 K2 E
  go_wp2_with fail
  refine (peek_any b t p1 _ h2.text h2.pos).mono ?_;rintro x w2 ⟨rfl,n2,rfl⟩;have h3:=h2.drewN n2;have o3 : (w1.drewN n2).ownsRow _ _ _ _ _ _:=o2;have K4:=K3.drewN n2;generalize w1.drewN n2 = w2 at h3 o3 K4 ⊢;clear h2 o2 K3
  go_wp2_with fail
  have hA : AcB (w2.alloc (.cells #[.int .u8 (Ch.peek t p1),.int .u8 0,.int .i64 0] 255)) w2.heap.size ⟨Ch.peek t p1,0,0⟩:=heap_alloc_new w2 _;have h4 : RdB (w2.alloc (.cells #[.int .u8 (Ch.peek t p1),.int .u8 0,.int .i64 0] 255)) b t p1 e f sv tv bv uv:=h3.keep (S:=fun _=>False) ((Kp.refl _ _).alloc _) (fun x=>x);have o4:=o3.alloc (.cells #[.int .u8 (Ch.peek t p1),.int .u8 0,.int .i64 0] 255);have K5:=K4.alloc (.cells #[.int .u8 (Ch.peek t p1),.int .u8 0,.int .i64 0] 255);have hsz:=K4.size
  have hbl:=fun k hk=>(o3.lt k hk).2
  have hbe:=fun k hk=>(o3.lt k hk).1
  generalize w2.alloc (.cells #[.int .u8 (Ch.peek t p1),.int .u8 0,.int .i64 0] 255) = w3 at hA h4 o4 K5 ⊢;generalize w2.heap.size = ab at hA hsz hbl ⊢;clear h3 o3 K4;have E:=hid (act_any b ab t p1 ⟨Ch.peek t p1,0,0⟩ e f sv tv bv uv w3 h4 hA (by omega));rw [HA.out.2] at E;refine hm E ?_;rintro x w4 ⟨rfl,h5,a5,K6⟩;have o5:=K6.owns o4 (fun k hk hS=>by have:=hbl k hk;have:=hbe k hk;have:=Hb.out;omega);have K7:=K5.trans' K6 (fun i hi hS=>by rcases hS with hS | hS;exact hS;omega);have hs:=Ch.act_size hp1 0 0;clear E hA h4 o4 K5 K6 hbl hbe;have hadv:=Ch.act_adv HA.out.2;have m0:=a5.c0;have m1:=a5.c1;have m2:=a5.c2;generalize Ch.act t p1 ⟨Ch.peek t p1,0,0⟩ = r at HF h5 a5 hs hadv m0 m1 m2;obtain ⟨ok,a1,p2⟩:=r
  go_wp2_with (at_builtin;refine wpList_append_own _ rfl (.tmp 22) (.tmp 24) 207 rfl w.heap.size 255 i0 (.agg #[.int .u8 0,.int .u8 0,.int .i64 0]) 3 16 Tryz.underlying207 hi hz0 hz1 hz2 rfl (by decide) _ _ _ rfl (o5.alloc _) ⟨w4.heap.size,0,none⟩ 1 1 [.int .u8 a1.sign,.int .u8 a1.letter,.int .i64 a1.digit] rfl rfl ?c1 ?c2 ?c3 ?c4 ?c5 ?_)
  case c1=>exact cells3_new _ _ _ _ _
  case c2=>intro u hu;simp at hu;rcases hu with rfl | rfl | rfl <;> rfl
  case c3=>unfold maxLen;omega
  case c4=>omega
  case c5=>have:=K7.size;simp;omega
  intro v' w5 o6 g6 _;have K8 : Kp (fun k=>k = b) w w5:=(K7.alloc _).grown g6 (fun k hk hlt=>by have:=(o5.lt k hk).1;omega);have h6 : RdB w5 b t p2 e f sv tv bv uv:=(h5.keep (S:=fun _=>False) ((Kp.refl _ _).alloc _) (fun x=>x)).keep (S:=fun k=>u6.ownBlock = some k) ((Kp.refl _ _).grown g6 (fun k hk _=>hk)) (fun hk=>by have:=(o5.lt _ hk).1;have:=Hb.out;omega);rw [← acCells_snoc] at o6;clear o5 g6 K7 h5 a5 m0 m1 m2 HA;go_wp2
  go_roundg k
  case measure=>omega
  case rel=>exact ⟨p2,l ++ [a1],HF,hs,by omega,h6,by simpa using o6,by simp;omega,K8⟩
end
end Go.Proofs.YtnlbchmfcebeeaaGreat
