import Derived.Test.YtnlbchmfcebeeaaGreatTG1
import Derived.Test.YtnlbchmfcebeeaaGreatTSa
set_option maxHeartbeats 12800000
set_option maxRecDepth 100000
namespace Go.Proofs.YtnlbchmfcebeeaaGreat
open Go.Proofs.Tryz Ch
open Go.ChangeShapes Go.WideShapes Go.ChangeAt Go.RowKit
theorem Iu:joinedFacts prog 16 Tryz.f16 Rows.linedSpec Rows.linedRow=true:=by
 unfold joinedFacts
 repeat' (with_reducible refine Bool.and_eq_true_iff.2 ⟨?_,?_⟩)
 all_goals (as_aux_lemma=>kernel_rfl)
end Go.Proofs.YtnlbchmfcebeeaaGreat
