/- A chart that sends: what it answers, reckoned by the kernel. Walks: chartkeep's pick, digit. -/
import Derived.Test.YtnlbchmfcebeeaaGreatTF7
import Derived.Test.YtnlbchmfcebeeaaGreatTG1
namespace Go.Proofs.YtnlbchmfcebeeaaGreat
namespace Ch
def dgB (d : Nat) : UInt8 := UInt8.ofNat (48 + d)
def tT (d : Nat) : ByteArray := ⟨#[40, 82, 40, 65, 58, 97, 64, 98, dgB d, 62, 45, 58, 99, 126, 98, 62, 45, 58, 98, 35, 113, 62, 66, 41, 40, 66, 41, 41]⟩
def olT (d : Nat) : Ol := ⟨[⟨82, 1, 2, -1⟩, ⟨65, 3, 1, 0⟩, ⟨66, 25, 1, 0⟩], [⟨1, 97, ⟨0, 0, 0⟩, [⟨64, 98, d⟩], 45⟩, ⟨1, 99, ⟨0, 0, 0⟩, [⟨126, 98, 0⟩], 45⟩, ⟨1, 98, ⟨0, 0, 0⟩, [⟨35, 113, 0⟩], 66⟩], []⟩
def asT (m : Nat) : As := ⟨⟨#[82, 65]⟩, ⟨#[]⟩, if m == 0 then ⟨#[]⟩ else ⟨#[98, dgB m]⟩, 0, 0, 0⟩
def asTB : As := ⟨⟨#[82, 66]⟩, ⟨#[]⟩, ⟨#[]⟩, 0, 0, 0⟩
def nine : List Nat := [1, 2, 3, 4, 5, 6, 7, 8, 9]
theorem nine_in {d : Nat} (h1 : 1 ≤ d) (h2 : d ≤ 9) : d ∈ nine := by
  have : d = 1 ∨ d = 2 ∨ d = 3 ∨ d = 4 ∨ d = 5 ∨ d = 6 ∨ d = 7 ∨ d = 8 ∨ d = 9 := by omega
  rcases this with rfl | rfl | rfl | rfl | rfl | rfl | rfl | rfl | rfl <;> simp [nine]
set_option maxRecDepth 100000 in
theorem readT {d : Nat} (h : d ∈ nine) : read (tT d) = (0, 0, olT d) := by
  simp only [nine, List.mem_cons, List.not_mem_nil, or_false] at h
  rcases h with rfl | rfl | rfl | rfl | rfl | rfl | rfl | rfl | rfl <;> kernel_rfl
set_option maxRecDepth 100000 in
theorem startT0 : nine.all (fun d => okR (cStart (tT d)) (asT 0) ⟨#[]⟩) = true := by kernel_rfl
set_option maxRecDepth 100000 in
theorem fireTa0 : nine.all (fun d => okR (fireO (olT d) (asT 0) 97) (asT d) ⟨#[]⟩) = true := by kernel_rfl
set_option maxRecDepth 100000 in
theorem fireTc0 : nine.all (fun d => nine.all (fun m => okR (fireO (olT d) (asT m) 99) (asT 0) ⟨#[]⟩)) = true := by kernel_rfl
set_option maxRecDepth 100000 in
theorem waitT00 : nine.all (fun d => okR (waitO 2 (olT d) (asT 0)) (asT 0) ⟨#[]⟩) = true := by kernel_rfl
set_option maxRecDepth 100000 in
theorem waitTm0 : nine.all (fun d => [2, 3, 4, 5, 6, 7, 8, 9].all (fun m => okR (waitO 2 (olT d) (asT m)) (asT (m - 1)) ⟨#[]⟩)) = true := by kernel_rfl
set_option maxRecDepth 100000 in
theorem waitT10 : nine.all (fun d => okR (waitO 2 (olT d) (asT 1)) asTB ⟨#[113]⟩) = true := by kernel_rfl
theorem startT {d : Nat} (h : d ∈ nine) : cStart (tT d) = (asT 0, ⟨#[]⟩, 0) := okR_eq (List.all_eq_true.1 startT0 d h)
/-- What 'run' wants. -/
def RunOk (t : ByteArray) (a : As) (b : Int) (want : As) (out : ByteArray) : Prop := goes 2 t a b = (want, out, 0) ∧ (isEv b = false → lgE t a = 0 → (waitF (read t).2.2 2 (tick (lgS t a)) []).isSome = true)
theorem runOk_fire {d : Nat} (h : d ∈ nine) {a want : As} {b : Int} {out : ByteArray} (hb : isEv b = true) (hk : okR (fireO (olT d) a b) want out = true) : RunOk (tT d) a b want out :=
  ⟨goes_fire (readT h) 2 hb hk, fun h' => absurd hb (by rw [h']; simp)⟩
theorem runOk_wait {d : Nat} (h : d ∈ nine) {a want : As} {b : Int} {out : ByteArray} (hb : isEv b = false) (hk : okR (waitO 2 (olT d) a) want out = true) : RunOk (tT d) a b want out :=
  ⟨(goes_wait (readT h) 2 hb hk).1, fun _ _ => (goes_wait (readT h) 2 hb hk).2⟩
theorem runTa {d : Nat} (h : d ∈ nine) : RunOk (tT d) (asT 0) 97 (asT d) ⟨#[]⟩ := runOk_fire h rfl (List.all_eq_true.1 fireTa0 d h)
theorem runTc {d m : Nat} (h : d ∈ nine) (hm : m ∈ nine) : RunOk (tT d) (asT m) 99 (asT 0) ⟨#[]⟩ := runOk_fire h rfl (List.all_eq_true.1 (List.all_eq_true.1 fireTc0 d h) m hm)
theorem runT0 {d : Nat} (h : d ∈ nine) : RunOk (tT d) (asT 0) 32 (asT 0) ⟨#[]⟩ := runOk_wait h rfl (List.all_eq_true.1 waitT00 d h)
theorem runTm {d m : Nat} (h : d ∈ nine) (h2 : 2 ≤ m) (h9 : m ≤ 9) : RunOk (tT d) (asT m) 32 (asT (m - 1)) ⟨#[]⟩ := by
  refine runOk_wait h rfl (List.all_eq_true.1 (List.all_eq_true.1 waitTm0 d h) m ?_)
  have : m = 2 ∨ m = 3 ∨ m = 4 ∨ m = 5 ∨ m = 6 ∨ m = 7 ∨ m = 8 ∨ m = 9 := by omega
  rcases this with rfl | rfl | rfl | rfl | rfl | rfl | rfl | rfl <;> simp
theorem runT1 {d : Nat} (h : d ∈ nine) : RunOk (tT d) (asT 1) 32 asTB ⟨#[113]⟩ := runOk_wait h rfl (List.all_eq_true.1 waitT10 d h)
theorem smT (m : Nat) : (asT m).Sm := by
  have h : ∀ n : Nat, n ≤ 8 → n ≤ 140737488355328 := fun n h => by omega
  refine ⟨h 2 (by omega), h 0 (by omega), ?_⟩
  show (if m == 0 then (⟨#[]⟩ : ByteArray) else ⟨#[98, dgB m]⟩).size ≤ _
  split <;> exact h _ (by simp [ByteArray.size])
end Ch
end Go.Proofs.YtnlbchmfcebeeaaGreat

namespace Go.Proofs.YtnlbchmfcebeeaaGreat
open Go.RowKit

theorem dgStr (i : Nat) : strOfNums [48 + (i : Int)] = ⟨#[Ch.dgB i]⟩ := by
  unfold strOfNums Ch.dgB
  simp only [List.map_cons, List.map_nil]
  have : (48 + (i : Int)).toNat = 48 + i := by omega
  rw [this]

section
variable (w : World)

set_option maxHeartbeats 400000 in
set_option maxRecDepth 100000 in
theorem digit_any (i : Nat) (hi : i ≤ 9) :
    Calls Tryz.prog 25 #[.int .i64 i] w fun x w' => x = .returned (.string ⟨#[Ch.dgB i]⟩) ∧ Kp (fun _ => False) w w' := by
  have oq : OwnsQ (w.alloc (.cells #[.int .u8 (48 + (i : Int))] 5)) 0 (.slice (some ⟨w.heap.size, 0, none⟩) 1 1) (byCells [48 + (i : Int)]) :=
    .inr ⟨w.heap.size, 0, 1, #[.int .u8 (48 + (i : Int))], rfl, Nat.zero_le _, heap_alloc_new _ _, by simp [byCells], by simp, by intro j u hj; simpa [byCells] using hj⟩
  have hcv := run_textQ oq
  rw [dgStr] at hcv
  have hw8 : IntKind.wrap .u8 (48 + (i : Int)) = 48 + (i : Int) := by unfold IntKind.wrap; simp [IntKind.bits, IntKind.signed]; omega
  have K1 : Kp (fun _ => False) w (w.alloc (.cells #[.int .u8 (48 + (i : Int))] 5)) := (Kp.refl _ _).alloc _
  clear oq
  go_enter Tryz.func25, Tryz.ntmps25
  go_wp2
  go_ret
  exact ⟨rfl, K1⟩

set_option maxHeartbeats 400000 in
theorem pick_any (c : Int) (h1 : -9223372036854775808 ≤ c) (h2 : c ≤ 9223372036854775807) (n : Nat) (hn : 1 ≤ n) (hn9 : n ≤ 1000) :
    Calls Tryz.prog 24 #[.int .i64 c, .int .i64 n] w fun x w' => ∃ r : Nat, x = .returned (.int .i64 r) ∧ r < n ∧ w' = w := by
  by_cases hc : c < 0
  · have e : (-(c + 1)).tmod (n : Int) = (((-(c + 1)).toNat % n : Nat) : Int) := by
      rw [Int.tmod_eq_emod_of_nonneg (by omega)]
      have : -(c + 1) = (((-(c + 1)).toNat : Nat) : Int) := by omega
      rw [this]; simp
    have hlt : (-(c + 1)).toNat % n < n := Nat.mod_lt _ (by omega)
    generalize (-(c + 1)).toNat % n = r at *
    have hn0 : ¬ ((n : Int) = 0) := by omega
    go_enter Tryz.func24, Tryz.ntmps24
    go_wp2
    go_ret
    exact ⟨r, by simp, hlt, rfl⟩
  · have e : c.tmod (n : Int) = ((c.toNat % n : Nat) : Int) := by
      rw [Int.tmod_eq_emod_of_nonneg (by omega)]
      have : c = ((c.toNat : Nat) : Int) := by omega
      rw [this]; simp
    have hlt : c.toNat % n < n := Nat.mod_lt _ (by omega)
    generalize c.toNat % n = r at *
    have hn0 : ¬ ((n : Int) = 0) := by omega
    go_enter Tryz.func24, Tryz.ntmps24
    go_wp2
    go_ret
    exact ⟨r, by simp, hlt, rfl⟩

end

end Go.Proofs.YtnlbchmfcebeeaaGreat
