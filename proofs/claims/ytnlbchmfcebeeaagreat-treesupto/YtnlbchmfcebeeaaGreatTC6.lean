import Derived.Test.YtnlbchmfcebeeaaGreatTC5
import Derived.BigQuiet
import Derived.Deep.QuietTactic
set_option maxHeartbeats 12800000
set_option maxRecDepth 100000
namespace Go.Proofs.YtnlbchmfcebeeaaGreat
open Go.RowKit
namespace Ch
def pickF (ss : List St) (child parent : Int) : List Int → Bool
 | []=>child == firstChild ss parent
 | g :: l=>if isAbove ss parent g then (child == g || isAbove ss child g) else pickF ss child parent l
def isDue (ss : List St) (act stayed : List Bool) (goals : List Int) (i : Int) : Bool :=
 if has stayed i || !isChild ss i (parAt ss i) then false
 else if (parAt ss i != -1) && !has act (parAt ss i) then false
 else if kindAt ss (parAt ss i) == 3 then true
 else !kept ss stayed (parAt ss i) && pickF ss i (parAt ss i) goals
def goalsF (ol : Ol) (s : Sd) : List Int → List Int
 | []=>[]
 | t :: l=>match ol.trs[t.toNat]? with
   | some x=>if x.target == 45 then goalsF ol s l else goal ol.sts s (place ol.sts x.target) :: goalsF ol s l
   | none=>goalsF ol s l
end Ch
end Go.Proofs.YtnlbchmfcebeeaaGreat
