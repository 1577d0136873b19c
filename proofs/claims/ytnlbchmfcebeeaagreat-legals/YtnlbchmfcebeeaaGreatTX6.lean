/- Walks: the reference's until, opened, reaches. -/
import Derived.Test.YtnlbchmfcebeeaaGreatTX2
import Derived.Test.YtnlbchmfcebeeaaGreatTA1
namespace Go.Proofs.YtnlbchmfcebeeaaGreat
open Go.RowKit

theorem Ch.untilF_hit {t : ByteArray} {b : Int} {f i : Nat} (h : (Ch.peek t i == b) = true) : Ch.untilF t b (f + 1) i = i := by simp [Ch.untilF, h]
theorem Ch.untilF_miss {t : ByteArray} {b : Int} {f i : Nat} (h : (Ch.peek t i == b) = false) : Ch.untilF t b (f + 1) i = Ch.untilF t b f (i + 1) := by simp [Ch.untilF, h]
theorem Ch.peek_get {t : ByteArray} {k : Nat} (h : k < t.size) : Ch.peek t k = (t[k].toNat : Int) := by unfold Ch.peek; rw [dif_pos h]

section
variable (w : World)

set_option maxHeartbeats 400000 in
theorem rUntil_any (t : ByteArray) (fr : Nat) (b : Int) (ht : t.size ≤ 240) :
    Calls Tryz.prog 233 #[.string t, .int .i64 fr, .int .u8 b] w fun x w' => x = .returned (.int .i64 (Ch.until_ t fr b)) ∧ w' = w := by
  by_cases hle : fr ≤ t.size
  · have HE0 := hid (show Ch.until_ t fr b = Ch.untilF t b (t.size - fr) fr by unfold Ch.until_; rw [if_pos hle])
    go_enter Tryz.func233, Tryz.ntmps233
    go_wp2
    go_loop [7] (fun i => ∃ k : Nat, i = .int .i64 k ∧ k ≤ t.size ∧ Hid (Ch.until_ t fr b = Ch.untilF t b (t.size - k) k)) (fun i => t.size - (intOf i).toNat)
    case atStart => exact ⟨fr, rfl, hle, HE0⟩
    case round =>
      obtain ⟨k, rfl, hk, HE⟩ := hrel
      by_cases hlt : k < t.size
      · have hlt' : (k : Int) < (t.size : Int) := by omega
        have hg := hid (Ch.peek_get hlt)
        cases q : (t[k].toNat : Int) == b with
        | true =>
          go_wp2
          go_ret
          rw [HE.out, show t.size - k = (t.size - (k + 1)) + 1 by omega, Ch.untilF_hit (by rw [hg.out]; exact q)]
          exact ⟨rfl, rfl⟩
        | false =>
          go_wp2
          go_round
          case rel => exact ⟨k + 1, by go_num, by omega, hid (by rw [HE.out, show t.size - k = (t.size - (k + 1)) + 1 by omega, Ch.untilF_miss (by rw [hg.out]; exact q)])⟩
          case measure => simp [intOf]; omega
      · have hge : ¬ (k : Int) < (t.size : Int) := by omega
        obtain rfl : k = t.size := by omega
        go_wp2
        go_ret
        rw [HE.out, Nat.sub_self]
        exact ⟨rfl, rfl⟩
  · have HE0 := hid (show Ch.until_ t fr b = t.size by unfold Ch.until_; rw [if_neg hle])
    have hge : ¬ (fr : Int) < (t.size : Int) := by omega
    go_enter Tryz.func233, Tryz.ntmps233
    go_wp2
    go_loop [7] (fun i => i = .int .i64 fr) (fun i => 0)
    case atStart => rfl
    case round =>
      subst hrel
      go_wp2
      go_ret
      rw [HE0.out]
      exact ⟨rfl, rfl⟩

set_option maxHeartbeats 400000 in
theorem rOpened_any (c : Int) :
    Calls Tryz.prog 231 #[.int .u8 c] w fun e w' => e = .returned (.int .i64 (Ch.kindOf c)) ∧ w' = w := by
  unfold Ch.kindOf
  cases b1 : c == 91 <;> cases b2 : c == 60 <;> cases b3 : c == 42 <;>
    (go_enter Tryz.func231, Tryz.ntmps231
     go_wp2
     go_ret
     exact ⟨by simp, rfl⟩)

theorem Ch.until_le (t : ByteArray) (fr : Nat) (b : Int) : Ch.until_ t fr b ≤ t.size := by
  have : ∀ f i, i + f ≤ t.size → Ch.untilF t b f i ≤ t.size := by
    intro f
    induction f with
    | zero => intro i h; simp [Ch.untilF]; omega
    | succ f ih => intro i h; simp only [Ch.untilF]; split; omega; exact ih (i + 1) (by omega)
  unfold Ch.until_; split
  · exact this _ _ (by omega)
  · exact Nat.le_refl _

set_option maxHeartbeats 400000 in
theorem rReaches_any (t : ByteArray) (p : Nat) (ht : t.size ≤ 240) (hp : p + 1 < t.size) :
    Calls Tryz.prog 232 #[.string t, .int .i64 p] w fun e w' => e = .returned (.int .i64 (Ch.reachesR t p)) ∧ w' = w := by
  unfold Ch.reachesR
  have hg := hid (Ch.peek_get hp)
  have hlt : (p : Int) + 1 < (t.size : Int) := by omega
  rw [hg.out]
  cases q : (t[p + 1].toNat : Int) == 63 with
  | true =>
    have E := hid (rUntil_any w t (p + 4 + 1) 62 ht)
    have hu := Ch.until_le t (p + 4 + 1) 62
    go_enter Tryz.func232, Tryz.ntmps232
    go_wp2_with fail
    refine Calls.mono (Hid.out E) ?_
    rintro x w2 ⟨rfl, rfl⟩
    go_wp2
    go_ret
    exact ⟨by simp, rfl⟩
  | false =>
    have E := hid (rUntil_any w t (p + 1) 62 ht)
    have hu := Ch.until_le t (p + 1) 62
    go_enter Tryz.func232, Tryz.ntmps232
    go_wp2_with fail
    refine Calls.mono (Hid.out E) ?_
    rintro x w2 ⟨rfl, rfl⟩
    go_wp2
    go_ret
    exact ⟨by simp, rfl⟩
end

end Go.Proofs.YtnlbchmfcebeeaaGreat
