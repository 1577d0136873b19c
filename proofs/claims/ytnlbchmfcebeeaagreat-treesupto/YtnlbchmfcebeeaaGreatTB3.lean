import Derived.Test.YtnlbchmfcebeeaaGreatTB2
set_option maxHeartbeats 12800000
set_option maxRecDepth 100000
namespace Go.Proofs.YtnlbchmfcebeeaaGreat
open Go.RowKit
namespace Ch
def send (s : Sd) (ev d : Int) : Bool × Sd:=if 16 ≤ s.tm.size then (false,s) else (true,{ s with tm:=s.tm ++ strOfNums [ev,48 + d] })
end Ch
end Go.Proofs.YtnlbchmfcebeeaaGreat
