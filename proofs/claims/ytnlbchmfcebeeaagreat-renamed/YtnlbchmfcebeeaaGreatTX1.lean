import Derived.Test.YtnlbchmfcebeeaaGreatTA7
set_option maxHeartbeats 12800000
set_option maxRecDepth 100000
namespace Go.Proofs.YtnlbchmfcebeeaaGreat
namespace Ch
structure Wk where
 mode : Int
 open_ : List Int
 close : Int
section
variable {t : ByteArray} {p : Nat} {o : List Int} {c : Int}
theorem lt_of_isTa (h : isTa (peek t p) = true) : p < t.size:=by
 rcases Nat.lt_or_ge p t.size with h' | h'
 ·exact h'
 rw [peek_zero h'] at h;simp [isTa,isNm] at h
theorem lt_of_isTg (h : isTg (peek t p) = true) : p < t.size:=by
 rcases Nat.lt_or_ge p t.size with h' | h'
 ·exact h'
 rw [peek_zero h'] at h;simp [isTg,isNm,isEv] at h
end
theorem isOpen_cases (x : Int) (h : isOpen x = true) : x = 40 ∨ x = 91 ∨ x = 60 ∨ x = 42:=by
 simp [isOpen] at h;omega
end Ch
end Go.Proofs.YtnlbchmfcebeeaaGreat
