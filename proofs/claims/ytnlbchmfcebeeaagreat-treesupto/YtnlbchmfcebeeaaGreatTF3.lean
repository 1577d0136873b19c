import Derived.Test.YtnlbchmfcebeeaaGreatTF2
set_option maxHeartbeats 12800000
set_option maxRecDepth 100000
namespace Go.Proofs.YtnlbchmfcebeeaaGreat
open Go.RowKit
namespace Ch
structure As.Sm (a : As) : Prop where
 act : a.act.size ≤ 9223372036854775807
 past : a.past.size ≤ 9223372036854775807
 tm : a.tm.size ≤ 9223372036854775807
end Ch
end Go.Proofs.YtnlbchmfcebeeaaGreat
