import Derived.Test.YtnlbchmfcebeeaaGreatTE1
import Derived.Deep.RegionHeld3
set_option maxHeartbeats 12800000
set_option maxRecDepth 100000
namespace Go.Proofs.YtnlbchmfcebeeaaGreat
open Go.RowKit
theorem InR.blk {w : World} {g n cap : Nat} {l : List Int} (h : InR w (.slice (some ⟨g,0,none⟩) n cap) l) : ∃ c,w.heap[g]? = some (.cells c 3 (0,0)):=by
 obtain ⟨base,ho⟩:=h;exact own_block ho rfl
end Go.Proofs.YtnlbchmfcebeeaaGreat
