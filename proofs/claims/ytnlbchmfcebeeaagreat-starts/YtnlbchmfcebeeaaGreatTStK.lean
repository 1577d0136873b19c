/- The closed facts of the row of chartlaw.Starts, each by itself. -/
import Derived.Test.YtnlbchmfcebeeaaGreatTY1
namespace Go.Proofs.YtnlbchmfcebeeaaGreat
open Go.ChangeShapes Go.WideShapes Go.ChangeAt Go.RowKit
set_option maxHeartbeats 6400000 in
theorem starts_closed : joinedFacts Tryz.prog 6 Tryz.f6 Rows.startsSpec Rows.startsRow = true := by
 unfold joinedFacts
 repeat' (with_reducible refine Bool.and_eq_true_iff.2 ⟨?_, ?_⟩)
 all_goals (as_aux_lemma => kernel_rfl)
end Go.Proofs.YtnlbchmfcebeeaaGreat
