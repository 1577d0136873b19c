/- Walks: how a chart stands, taken from what came in. -/
import Derived.Test.YtnlbchmfcebeeaaGreatTB4
namespace Go.Proofs.YtnlbchmfcebeeaaGreat
open Go.RowKit
namespace Ch
def take (ss : List St) (a p t : ByteArray) (x y z : Int) : Bool × Sd :=
 if (takeActV ss a).2 then
  if (takePastV ss p).2 then
   if areTm t && inB x && inB y && inB z then (true, ⟨(takeActV ss a).1, (takePastV ss p).1, t, x, y, z⟩) else (false, noSd)
  else (false, noSd)
 else (false, noSd)
end Ch
theorem zsdOne : (zS36 : Array Value).all (fun x => x.oneCell') = true := by kernel_rfl
section
variable (ob oo : Nat) (w : World) (ss : List Ch.St)
end
end Go.Proofs.YtnlbchmfcebeeaaGreat
