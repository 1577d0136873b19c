import Derived.Test.YtnlbchmfcebeeaaGreatTV1
import Derived.Test.YtnlbchmfcebeeaaGreatTV2
import Derived.Test.YtnlbchmfcebeeaaGreatTH1
import Derived.Test.YtnlbchmfcebeeaaGreatTBc
import Derived.Test.YtnlbchmfcebeeaaGreatTBa
set_option maxHeartbeats 12800000
set_option maxRecDepth 100000
namespace Go.Proofs.YtnlbchmfcebeeaaGreat
open Go.RowKit
namespace Ch
theorem built_rdc {P : List (Int × Int)} {L : List Int} (hP : PtOk P) (hW : Wr P none 0 P.length L) (hL : L.length ≤ 215) : ∃ ol,RdC (strOfNums L) ol ∧ RdOk P ol:=by
 have hs : (strOfNums L).size = L.length:=strOfNums_size L;obtain ⟨_,ol,hr,ho⟩:=built_read hP hW (has_str (hW.byte hP.len)) hs.symm (by omega);refine ⟨ol,rdC_of hr (fun k=>?_),ho⟩;unfold nmAt
 cases q : ol.sts[k]? with
 | none=>simp
 | some s=>?_
 have h1:=(ho.at_ k s q).2;have h2:=(List.getElem?_eq_some_iff.1 q).1;have:=hP.len;have:=ho.len;simp only;omega
end Ch
end Go.Proofs.YtnlbchmfcebeeaaGreat
