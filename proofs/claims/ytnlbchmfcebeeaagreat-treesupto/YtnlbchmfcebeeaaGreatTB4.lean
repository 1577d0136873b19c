import Derived.Test.YtnlbchmfcebeeaaGreatTB3
import Derived.Deep.LoopGhost
import Derived.Deep.Cut
set_option maxHeartbeats 12800000
set_option maxRecDepth 100000
namespace Go.Proofs.YtnlbchmfcebeeaaGreat
open Go.RowKit
theorem Tryz.infoByte : (Tryz.prog.info? 5).map (fun i=>(i.zero,i.size,i.bytes)) = some (some (.int .u8 0),1,1):=by kernel_rfl
theorem i64_wrap_in {n : Int} (h : -9223372036854775808 ≤ n ∧ n ≤ 9223372036854775807) : IntKind.i64.wrap n = n:=by rw [IntKind.wrap_i64];omega
def byCells (l : List Int) : List Value:=l.map (Value.int .u8)
namespace Ch
def cbF (t : ByteArray) (c : Int) : Nat → Nat → List Int → List Int
 | 0,_,acc=>acc
 | f + 1,k,acc=>if k + 1 < t.size then (if peek t k != c then cbF t c f (k + 2) (acc ++ [peek t k,peek t (k + 1)]) else cbF t c f (k + 2) acc) else acc
def callBack (s : Sd) (c : Int) : Sd:={ s with tm:=strOfNums (cbF s.tm c s.tm.size 0 []) }
def tkF2 (t : ByteArray) : Nat → Nat → List Int → List Int
 | 0,_,acc=>acc
 | f + 1,k,acc=>if k + 1 < t.size then tkF2 t f (k + 2) (acc ++ [peek t k,peek t (k + 1) - 1]) else acc
def tick (s : Sd) : Sd:={ s with tm:=strOfNums (tkF2 s.tm s.tm.size 0 []) }
def blankSd (ss : List St) : Sd:=⟨noSet,blankP ss,ByteArray.empty,0,0,0⟩
end Ch
end Go.Proofs.YtnlbchmfcebeeaaGreat
