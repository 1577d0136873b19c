/- Walks: what comes behind a byte at which an act may stand (the reference). -/
import Derived.Test.YtnlbchmfcebeeaaGreatTX1
import Derived.Test.YtnlbchmfcebeeaaGreatTB6
namespace Go.Proofs.YtnlbchmfcebeeaaGreat
open Go.RowKit

/-- The reference's walk in its block; the open brackets as a row of bytes from B on. -/
def WkB (w : World) (B b : Nat) (k : Ch.Wk) : Prop := ∃ v, w.heap[b]? = some (.cells #[.int .i64 k.mode, v, .int .u8 k.close] 289 (0, 0)) ∧ OwnsQ w B v (byCells k.open_)
theorem WkB.close {w : World} {B b : Nat} {k : Ch.Wk} (h : WkB w B b k) : w.cell? ⟨b, 2, none⟩ = some (.int .u8 k.close) := by
  obtain ⟨v, h, _⟩ := h; rw [World.cell?, h]; rfl

section
variable (w : World) (B b : Nat)

set_option maxHeartbeats 400000 in
theorem wAct_any (k : Ch.Wk) (c : Int) (h : WkB w B b k) :
    Calls Tryz.prog 263 #[.pointer (some ⟨b, 0, none⟩), .int .u8 c] w fun x w' => x = .returned (.int .i64 (Ch.wAct k c)) ∧ w' = w := by
  have z := h.close
  clear h
  unfold Ch.wAct
  cases q1 : c == 33 <;> cases q2 : c == 126 <;> cases q3 : c == 35 <;> cases q4 : c == 64 <;> cases q5 : c == 43 <;> cases q6 : c == 45 <;> cases q7 : c == 61 <;> cases q8 : c != k.close <;> cases q9 : c == 62 <;>
    first
      | (exfalso; simp at q1 q2 q3 q4 q5 q6 q7 q9; omega)
      | (go_enter Tryz.func263, Tryz.ntmps263
         go_wp2
         go_ret
         exact ⟨rfl, rfl⟩)

end

end Go.Proofs.YtnlbchmfcebeeaaGreat
