/- Walks: a tick. -/
import Derived.Test.YtnlbchmfcebeeaaGreatTE8
import Derived.Lib.AppendStr
namespace Go.Proofs.YtnlbchmfcebeeaaGreat
open Go.RowKit
namespace Ch
end Ch
theorem SdB.rowS {w : World} {b : Nat} {s : Ch.Sd} {T : TypeId} (h : SdB w b [] s [] T) : w.heap[b]? = some (.cells (sdAll s).toArray T (0, 0)) := by
 unfold SdB SeB at h; simpa [sdAll] using h
theorem SdB.ofRowS {w : World} {b : Nat} {s : Ch.Sd} {T : TypeId} (h : w.heap[b]? = some (.cells (sdAll s).toArray T (0, 0))) : SdB w b [] s [] T := by
 unfold SdB SeB; simpa [sdAll] using h
section
variable (w : World) (ob po : Nat) (ol : Ch.Ol)
end
end Go.Proofs.YtnlbchmfcebeeaaGreat
