import Derived.Test.YtnlbchmfcebeeaaGreatTZf
set_option maxHeartbeats 12800000
set_option maxRecDepth 100000
namespace Go.Proofs.YtnlbchmfcebeeaaGreat
open Go.RowKit
section
variable {w w' : World} {B B2 xb cb g : Nat} {pv v : Value} {l : List NV} {ol : Ch.Ol} {m : Ch.Ma}
theorem Ch.SameOn.put {n i : Nat} {on l : List Bool} (h : Ch.SameOn n on l) (hi : i < n) (hn : n ≤ 16) (b : Bool) : Ch.SameOn n (on.set i b) (Ch.putB l (i : Int) b):=by
 obtain ⟨h1,h2,h3⟩:=h;refine ⟨by simp [h1],by show (l.set i b).length = 16;simp [h2],fun k=>?_⟩;show (on.set i b).getD k false = (l.set i b).getD k false;have:=h3 k;unfold Ch.onAt Ch.bit at this;simp only [List.getD_eq_getElem?_getD,List.getElem?_set] at this ⊢
 by_cases e : i = k
 ·subst e;rw [if_pos rfl,if_pos rfl,if_pos (by omega),if_pos (by omega)]
 rw [if_neg e,if_neg e];exact this
end
end Go.Proofs.YtnlbchmfcebeeaaGreat
