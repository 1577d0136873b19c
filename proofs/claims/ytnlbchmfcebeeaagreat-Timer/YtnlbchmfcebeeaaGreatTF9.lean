/- Three regions side by side: what the chart answers, reckoned by the kernel. -/
import Derived.Test.YtnlbchmfcebeeaaGreatTF7
namespace Go.Proofs.YtnlbchmfcebeeaaGreat
namespace Ch
def tJoin : ByteArray := ⟨#[40, 82, 91, 80, 40, 65, 40, 66, 58, 97, 62, 67, 41, 60, 67, 62, 41, 40, 68, 40, 69, 58, 98, 62, 70, 41, 60, 70, 62, 41, 40, 71, 40, 72, 58, 99, 62, 73, 41, 60, 73, 62, 41, 58, 80, 35, 107, 62, 45, 58, 114, 62, 80, 93, 41]⟩
def olJ : Ol := ⟨[⟨82, 1, 2, -1⟩, ⟨80, 3, 3, 0⟩, ⟨65, 5, 2, 1⟩, ⟨66, 7, 1, 2⟩, ⟨67, 14, 4, 2⟩, ⟨68, 18, 2, 1⟩, ⟨69, 20, 1, 5⟩, ⟨70, 27, 4, 5⟩, ⟨71, 31, 2, 1⟩, ⟨72, 33, 1, 8⟩, ⟨73, 40, 4, 8⟩], [⟨3, 97, ⟨0, 0, 0⟩, [], 67⟩, ⟨6, 98, ⟨0, 0, 0⟩, [], 70⟩, ⟨9, 99, ⟨0, 0, 0⟩, [], 73⟩, ⟨1, 80, ⟨0, 0, 0⟩, [⟨35, 107, 0⟩], 45⟩, ⟨1, 114, ⟨0, 0, 0⟩, [], 80⟩], []⟩
set_option maxRecDepth 100000 in
theorem readJ : read tJoin = (0, 0, olJ) := by kernel_rfl
/-- Which of the three have come to their end. -/
structure J3 where
  a : Bool
  b : Bool
  c : Bool
def J3.act (s : J3) : ByteArray := ⟨#[82, 80, 65, if s.a then 67 else 66, 68, if s.b then 70 else 69, 71, if s.c then 73 else 72]⟩
def asJ (s : J3) : As := ⟨s.act, ⟨#[]⟩, ⟨#[]⟩, 0, 0, 0⟩
def nextJ (s : J3) (b : Nat) : J3 :=
  if b == 97 then ⟨true, s.b, s.c⟩ else if b == 98 then ⟨s.a, true, s.c⟩ else if b == 99 then ⟨s.a, s.b, true⟩ else if b == 114 then ⟨false, false, false⟩ else s
def allJ (s : J3) : Bool := s.a && s.b && s.c
def outJ (s : J3) (b : Nat) : ByteArray := if allJ (nextJ s b) && !allJ s then ⟨#[107]⟩ else ⟨#[]⟩
def statesJ : List J3 := [false, true].flatMap fun a => [false, true].flatMap fun b => [false, true].map fun c => ⟨a, b, c⟩
theorem statesJ_all (s : J3) : s ∈ statesJ := by
  obtain ⟨a, b, c⟩ := s
  cases a <;> cases b <;> cases c <;> simp [statesJ]
set_option maxRecDepth 100000 in
theorem tableJ : statesJ.all (fun s => (List.range 26).all (fun b => okR (fireO olJ (asJ s) (97 + b : Nat)) (asJ (nextJ s (97 + b))) (outJ s (97 + b)))) = true := by kernel_rfl
set_option maxRecDepth 100000 in
theorem tableJw : statesJ.all (fun s => okR (waitO 1 olJ (asJ s)) (asJ s) ⟨#[]⟩) = true := by kernel_rfl
set_option maxRecDepth 100000 in
theorem startJ : cStart tJoin = (asJ ⟨false, false, false⟩, ⟨#[]⟩, 0) := okR_eq (by kernel_rfl)
theorem nextJ_other {s : J3} {b : Nat} (h : ¬ (97 ≤ b ∧ b ≤ 122)) : nextJ s b = s := by
  unfold nextJ
  rw [if_neg (by simp; omega), if_neg (by simp; omega), if_neg (by simp; omega), if_neg (by simp; omega)]
theorem goesJ (s : J3) {b : Nat} (hb : b < 256) : goes 1 tJoin (asJ s) b = (asJ (nextJ s b), outJ s b, 0) ∧ (isEv b = false → lgE tJoin (asJ s) = 0 → (waitF (read tJoin).2.2 1 (tick (lgS tJoin (asJ s))) []).isSome = true) := by
  have hs := statesJ_all s
  have hw := List.all_eq_true.1 tableJw s hs
  by_cases q : isEv b = true
  · have q' := q
    simp only [isEv, Bool.and_eq_true, decide_eq_true_eq] at q'
    have ht := List.all_eq_true.1 (List.all_eq_true.1 tableJ s hs) (b - 97) (by simp; omega)
    rw [show 97 + (b - 97) = b by omega] at ht
    exact ⟨goes_fire readJ 1 q ht, fun h => absurd q (by rw [h]; simp)⟩
  · have q0 : isEv b = false := by simpa using q
    have hn : nextJ s b = s := nextJ_other (fun h => q (by simp [isEv]; omega))
    have ho : outJ s b = ⟨#[]⟩ := by unfold outJ; rw [hn]; simp
    obtain ⟨h1, h2⟩ := goes_wait readJ 1 q0 hw
    rw [hn, ho]
    exact ⟨h1, fun _ _ => h2⟩
theorem smJ (s : J3) : (asJ s).Sm := by
  have h : ∀ n m : Nat, n ≤ 8 → n ≤ 140737488355328 := fun n m h => by omega
  refine ⟨?_, h 0 0 (by decide), h 0 0 (by decide)⟩
  show s.act.size ≤ _
  exact h _ 0 (by simp [J3.act, ByteArray.size])
end Ch
end Go.Proofs.YtnlbchmfcebeeaaGreat
