import Derived.Test.YtnlbchmfcebeeaaGreatTF3
import Derived.BigQuiet
import Derived.Deep.QuietTactic
import Derived.OwnWalk
set_option maxHeartbeats 12800000
set_option maxRecDepth 100000
namespace Go.Proofs.YtnlbchmfcebeeaaGreat
open Go.RowKit
def ndA (s : Ch.St) : Array Value:=#[.string (strOfNums [s.name]),.int .i64 s.kind,.int .i64 s.parent]
def NdR (w : World) (g n k : Nat) (ss : List Ch.St) : Prop:=∃ C,w.heap[g]? = some (.cells C 111 (0,0)) ∧ C.size = n * 3 ∧ ∀ i s,i < k → ss[i]? = some s → ∀ j,j < 3 → C[i * 3 + j]? = (ndA s)[j]?
theorem NdR.set {w : World} {g n k : Nat} {ss : List Ch.St} {s : Ch.St} (h : NdR w g n k ss) (hs : ss[k]? = some s) (hk : k < n) :
 NdR (((w.setCell ⟨g,k * 3,none⟩ (.string (strOfNums [s.name]))).setCell ⟨g,k * 3 + 1,none⟩ (.int .i64 s.kind)).setCell ⟨g,k * 3 + 2,none⟩ (.int .i64 s.parent)) g n (k + 1) ss:=by
 obtain ⟨C,hC,hsz,hx⟩:=h;have e1:=heap_setCell_same w g (k * 3) C 111 (.string (strOfNums [s.name])) hC;have e2:=heap_setCell_same _ g (k * 3 + 1) _ 111 (.int .i64 s.kind) e1;have e3:=heap_setCell_same _ g (k * 3 + 2) _ 111 (.int .i64 s.parent) e2;refine ⟨_,e3,by simp [hsz],?_⟩;intro i u hi hu j hj
 rcases Nat.lt_or_eq_of_le (Nat.le_of_lt_succ hi) with h | h
 ·rw [← hx i u h hu j hj]
  rw [Array.getElem?_setIfInBounds_ne (by omega),Array.getElem?_setIfInBounds_ne (by omega),Array.getElem?_setIfInBounds_ne (by omega)]
 subst h;rw [hs] at hu;simp at hu;subst hu
 have hj3 : j = 0 ∨ j = 1 ∨ j = 2:=by omega
 rcases hj3 with rfl | rfl | rfl
 ·rw [Array.getElem?_setIfInBounds_ne (by omega),Array.getElem?_setIfInBounds_ne (by omega),Nat.add_zero,Array.getElem?_setIfInBounds_self_of_lt (by omega)]
  rfl
 ·rw [Array.getElem?_setIfInBounds_ne (by omega),Array.getElem?_setIfInBounds_self_of_lt (by simp;omega)]
  rfl
 rw [Array.getElem?_setIfInBounds_self_of_lt (by simp;omega)];rfl
theorem NdR.cells {w : World} {g n k : Nat} {ss : List Ch.St} (h : NdR w g n k ss) {i : Nat} (hi : i < n) :
 (∃ u,w.cell? ⟨g,i * 3,none⟩ = some u) ∧ (∃ u,w.cell? ⟨g,i * 3 + 1,none⟩ = some u) ∧ (∃ u,w.cell? ⟨g,i * 3 + 2,none⟩ = some u) ∧ ∀ o,w.frozen? ⟨g,o,none⟩ = false:=by
 obtain ⟨C,hC,hsz,_⟩:=h;refine ⟨⟨C[i * 3]'(by omega),?_⟩,⟨C[i * 3 + 1]'(by omega),?_⟩,⟨C[i * 3 + 2]'(by omega),?_⟩,fun o=>by simp [World.frozen?,hC]⟩
 ·rw [cell_of_row w g _ C _ _ hC];exact Array.getElem?_eq_getElem _
 ·rw [cell_of_row w g _ C _ _ hC];exact Array.getElem?_eq_getElem _
 rw [cell_of_row w g _ C _ _ hC];exact Array.getElem?_eq_getElem _
end Go.Proofs.YtnlbchmfcebeeaaGreat
