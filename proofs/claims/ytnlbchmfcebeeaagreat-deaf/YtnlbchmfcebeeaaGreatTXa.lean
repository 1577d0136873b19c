import Derived.Test.YtnlbchmfcebeeaaGreatTX1
import Derived.Test.YtnlbchmfcebeeaaGreatTB6
import Derived.Deep.QuietTactic
import Derived.BigQuiet
import Derived.Test.YtnlbchmfcebeeaaGreatTX5
import Derived.Test.YtnlbchmfcebeeaaGreatTC5
import Derived.Test.YtnlbchmfcebeeaaGreatTX2
import Derived.Test.YtnlbchmfcebeeaaGreatTA1
import Derived.Test.YtnlbchmfcebeeaaGreatTB4
set_option maxHeartbeats 12800000
set_option maxRecDepth 100000
namespace Go.Proofs.YtnlbchmfcebeeaaGreat
open Go.RowKit
def WkB (w : World) (B b : Nat) (k : Ch.Wk) : Prop:=∃ v,w.heap[b]? = some (.cells #[.int .i64 k.mode,v,.int .u8 k.close] 289 (0,0)) ∧ OwnsQ w B v (byCells k.open_)
theorem WkB.close {w : World} {B b : Nat} {k : Ch.Wk} (h : WkB w B b k) : w.cell? ⟨b,2,none⟩ = some (.int .u8 k.close):=by
 obtain ⟨v,h,_⟩:=h;rw [World.cell?,h];rfl
theorem WkB.mode {w : World} {B b : Nat} {k : Ch.Wk} (h : WkB w B b k) : w.cell? ⟨b,0,none⟩ = some (.int .i64 k.mode):=by
 obtain ⟨v,h,_⟩:=h;rw [World.cell?,h];rfl
theorem WkB.free {w : World} {B b : Nat} {k : Ch.Wk} (h : WkB w B b k) (i : Nat) : w.frozen? ⟨b,i,none⟩ = false:=by
 obtain ⟨v,h,_⟩:=h;simp [World.frozen?,h]
theorem WkB.lt {w : World} {B b : Nat} {k : Ch.Wk} (h : WkB w B b k) : b < w.heap.size:=by
 obtain ⟨v,h,_⟩:=h;exact lt_of_block h
theorem WkB.set2 {w : World} {B b : Nat} {k : Ch.Wk} (h : WkB w B b k) (c : Int) : WkB (w.setCell ⟨b,2,none⟩ (.int .u8 c)) B b { k with close:=c }:=by
 obtain ⟨v,h,q⟩:=h;have ne:=q.ne h (by decide);refine ⟨v,by rw [heap_set_same _ h];rfl,q.keep (S:=fun i=>i = b) ((Kp.refl _ _).setCell (by intro _;rfl) _) (fun i hi x=>by subst x;exact ne hi)⟩
theorem WkB.drewN {w : World} {B b : Nat} {k : Ch.Wk} (h : WkB w B b k) (n : Nat) : WkB (w.drewN n) B b k:=h
namespace Ch
theorem mk_len (l : List NV) : (mk l).length = l.length:=by simp [mk]
def TrBd (n : RN) : Prop:=∀ rt ∈ n.trans,1 ≤ rt.text.size ∧ rt.text.size ≤ 300 ∧ 0 ≤ rt.pos ∧ rt.pos ≤ 300
end Ch
def SnB (w : World) (sb : Nat) (f : Int → Bool) : Prop:=∃ C,w.heap[sb]? = some (.cells C 294 (0,0)) ∧ C.size = 256 ∧ ∀ n : Nat,n < 256 → C[n]? = some (.bool (f n))
theorem SnB.cell {w : World} {sb : Nat} {f : Int → Bool} (h : SnB w sb f) (n : Nat) (hn : n < 256) : w.cell? ⟨sb,n,none⟩ = some (.bool (f n)):=by
 obtain ⟨C,hC,_,hf⟩:=h;rw [cell_of_row w sb _ C _ _ hC];exact hf n hn
theorem SnB.keep0 {w w' : World} {sb : Nat} {f : Int → Bool} (h : SnB w sb f) (k : Kp (fun _=>False) w w') : SnB w' sb f:=by
 obtain ⟨C,hC,r⟩:=h;exact ⟨C,k.at_ hC (fun x=>x),r⟩
theorem SnB.set {w : World} {sb : Nat} {f f' : Int → Bool} (h : SnB w sb f) {n : Nat} (hn : n < 256) (hf : ∀ m : Nat,m < 256 → f' m = (f m || (n : Int) == (m : Int))) : SnB (w.setCell ⟨sb,n,none⟩ (.bool true)) sb f':=by
 obtain ⟨C,hC,hs,hg⟩:=h;refine ⟨_,heap_set_same _ hC,by simp [hs],fun m hm=>?_⟩;rw [hf m hm]
 by_cases e : n = m
 ·subst e;rw [Array.getElem?_setIfInBounds_self_of_lt (by omega)];simp
 rw [Array.getElem?_setIfInBounds_ne e,hg m hm]
 have : ((n : Int) == (m : Int)) = false:=by simp;omega
 rw [this,Bool.or_false]
theorem SnB.keep {S : Nat → Prop} {w w' : World} {sb : Nat} {f : Int → Bool} (h : SnB w sb f) (k : Kp S w w') (hs : ¬ S sb) : SnB w' sb f:=by
 obtain ⟨C,hC,r⟩:=h;exact ⟨C,k.at_ hC hs,r⟩
theorem SnB.free {w : World} {sb : Nat} {f : Int → Bool} (h : SnB w sb f) (o : Nat) : w.frozen? ⟨sb,o,none⟩ = false:=by
 obtain ⟨C,hC,_⟩:=h;simp [World.frozen?,hC]
structure FltOk (l : List NV) : Prop where
 len : l.length ≤ 300
 nm : ∀ x ∈ l,0 ≤ x.n.name ∧ x.n.name ≤ 255
 up : ∀ (k : Nat) (x : NV),l[k]? = some x → (x.n.kind = 4 ∨ x.n.kind = 5) → ∃ p : Nat,x.n.parent = p ∧ p < l.length
 tr : ∀ x ∈ l,x.n.trans.length ≤ 300 ∧ Ch.TrBd x.n
end Go.Proofs.YtnlbchmfcebeeaaGreat
