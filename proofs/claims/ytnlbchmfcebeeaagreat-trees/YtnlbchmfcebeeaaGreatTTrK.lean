import Derived.Test.YtnlbchmfcebeeaaGreatTY1
set_option maxHeartbeats 12800000
set_option maxRecDepth 100000
namespace Go.Proofs.YtnlbchmfcebeeaaGreat
open Go.Proofs.Tryz Ch
open Go.ChangeShapes Go.WideShapes Go.ChangeAt Go.RowKit
theorem Ic:joinedFacts prog 4 Tryz.f4 Rows.treesSpec Rows.treesRow=true:=by
 unfold joinedFacts
 repeat' (with_reducible refine Bool.and_eq_true_iff.2 ⟨?_,?_⟩)
 all_goals (as_aux_lemma=>kernel_rfl)
end Go.Proofs.YtnlbchmfcebeeaaGreat
