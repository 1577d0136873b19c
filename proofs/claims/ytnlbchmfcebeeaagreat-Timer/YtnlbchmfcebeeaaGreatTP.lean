/- What every row's proof wants: a walk that turns nothing that was there. -/
import Derived.Test.YtnlbchmfcebeeaaGreatTF6
import Derived.Test.YtnlbchmfcebeeaaGreatRows
import Derived.WalkKit
import Derived.ProofKit
import Derived.OpenShut
import Derived.ShutString
import Derived.ChangeOld
import Derived.Below
namespace Go.Proofs.YtnlbchmfcebeeaaGreat
open Go.RowKit

theorem belowOf {w w' : World} (k : Kp (fun _ => False) w w') : Below w.heap.size w w' := ⟨k.os, k.tape, k.output, k.size, fun i hi => k.block i hi (fun x => x)⟩
theorem own_knob : ownKnob Tryz.prog.godebug = none := by kernel_rfl

end Go.Proofs.YtnlbchmfcebeeaaGreat
