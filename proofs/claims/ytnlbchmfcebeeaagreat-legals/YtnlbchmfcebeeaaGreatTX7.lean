/- Walks: what comes behind a byte (the reference). -/
import Derived.Test.YtnlbchmfcebeeaaGreatTX4
namespace Go.Proofs.YtnlbchmfcebeeaaGreat
open Go.RowKit

section
variable (w : World) (B b : Nat)

theorem Ch.wNext_item (k : Ch.Wk) (c : Int) (h : k.mode = 5) : Ch.wNext k c = Ch.wItem k c := by unfold Ch.wNext; rw [h]; rfl

set_option maxHeartbeats 3200000 in
set_option maxRecDepth 100000 in
theorem wNext_any (k : Ch.Wk) (c : Int) (h : WkB w B b k) (hb : B ≤ b) (hl : k.open_.length ≤ 1000) :
    Calls Tryz.prog 230 #[.pointer (some ⟨b, 0, none⟩), .int .u8 c] w fun x w' => x = .returned (.int .i64 (Ch.wNext k c).1) ∧ WkB w' B b (Ch.wNext k c).2 ∧ Kp (fun i => B ≤ i) w w' := by
  have E1 := hid (rIn_any w c 97 122)
  have E2 := hid (rIn_any w c 65 90)
  have E3 := hid (rIn_any w c 120 122)
  have E4 := hid (rIn_any w c 48 57)
  have EI := hid (wItem_any w B b k c h hb hl)
  have EA := hid (wAct_any w B b k c h)
  have z0 := h.mode
  have z2 := h.close
  have f2 := h.free 2
  have HS := hid (h.set2 62)
  have HW := hid h
  clear h hl
  obtain ⟨km, ko, kc⟩ := k
  simp only at z0 z2 HS
  by_cases m0 : km = 0
  · subst m0
    cases q1 : c != 40 with
    | false =>
      rw [show Ch.wNext ⟨0, ko, kc⟩ c = Ch.wItem ⟨0, ko, kc⟩ c by simp [Ch.wNext, q1]]
      go_enter Tryz.func230, Tryz.ntmps230
      go_wp2_with fail
      refine Calls.mono (Hid.out E1) ?_
      rintro x w1 ⟨rfl, rfl⟩
      go_wp2_with fail
      refine Calls.mono (Hid.out E2) ?_
      rintro x w1 ⟨rfl, rfl⟩
      go_wp2_with fail
      refine Calls.mono (Hid.out E3) ?_
      rintro x w1 ⟨rfl, rfl⟩
      go_wp2_with fail
      refine Calls.mono (Hid.out E4) ?_
      rintro x w1 ⟨rfl, rfl⟩
      go_wp2_with fail
      refine Calls.mono (Hid.out EI) ?_
      rintro x w1 ⟨rfl, h1, K1⟩
      go_wp2
      go_ret
      exact ⟨rfl, h1, K1⟩
    | true =>
      cases q2 : c != 91 with
      | false =>
        rw [show Ch.wNext ⟨0, ko, kc⟩ c = Ch.wItem ⟨0, ko, kc⟩ c by simp [Ch.wNext, q2]]
        go_enter Tryz.func230, Tryz.ntmps230
        go_wp2_with fail
        refine Calls.mono (Hid.out E1) ?_
        rintro x w1 ⟨rfl, rfl⟩
        go_wp2_with fail
        refine Calls.mono (Hid.out E2) ?_
        rintro x w1 ⟨rfl, rfl⟩
        go_wp2_with fail
        refine Calls.mono (Hid.out E3) ?_
        rintro x w1 ⟨rfl, rfl⟩
        go_wp2_with fail
        refine Calls.mono (Hid.out E4) ?_
        rintro x w1 ⟨rfl, rfl⟩
        go_wp2_with fail
        refine Calls.mono (Hid.out EI) ?_
        rintro x w1 ⟨rfl, h1, K1⟩
        go_wp2
        go_ret
        exact ⟨rfl, h1, K1⟩
      | true =>
        rw [show Ch.wNext ⟨0, ko, kc⟩ c = (-1, ⟨0, ko, kc⟩) by simp [Ch.wNext, q1, q2]]
        go_enter Tryz.func230, Tryz.ntmps230
        go_wp2_with fail
        refine Calls.mono (Hid.out E1) ?_
        rintro x w1 ⟨rfl, rfl⟩
        go_wp2_with fail
        refine Calls.mono (Hid.out E2) ?_
        rintro x w1 ⟨rfl, rfl⟩
        go_wp2_with fail
        refine Calls.mono (Hid.out E3) ?_
        rintro x w1 ⟨rfl, rfl⟩
        go_wp2_with fail
        refine Calls.mono (Hid.out E4) ?_
        rintro x w1 ⟨rfl, rfl⟩
        go_wp2
        go_ret
        exact ⟨rfl, HW.out, Kp.refl _ _⟩
  by_cases m1 : km = 1
  · subst m1
    rw [show Ch.wNext ⟨1, ko, kc⟩ c = (Ch.whenI (Ch.inR c 65 90) 5, ⟨1, ko, kc⟩) by simp [Ch.wNext]]
    go_enter Tryz.func230, Tryz.ntmps230
    go_wp2_with fail
    refine Calls.mono (Hid.out E1) ?_
    rintro x w1 ⟨rfl, rfl⟩
    go_wp2_with fail
    refine Calls.mono (Hid.out E2) ?_
    rintro x w1 ⟨rfl, rfl⟩
    go_wp2_with fail
    refine Calls.mono (Hid.out E3) ?_
    rintro x w1 ⟨rfl, rfl⟩
    go_wp2_with fail
    refine Calls.mono (Hid.out E4) ?_
    rintro x w1 ⟨rfl, rfl⟩
    go_wp2_with fail
    refine (rWhen_any _ _ _).mono ?_
    rintro x w1 ⟨rfl, rfl⟩
    go_wp2
    go_ret
    exact ⟨rfl, HW.out, Kp.refl _ _⟩
  by_cases m4 : km = 4
  · subst m4
    rw [show Ch.wNext ⟨4, ko, kc⟩ c = (Ch.whenI (Ch.inR c 65 90) 5, ⟨4, ko, kc⟩) by simp [Ch.wNext]]
    go_enter Tryz.func230, Tryz.ntmps230
    go_wp2_with fail
    refine Calls.mono (Hid.out E1) ?_
    rintro x w1 ⟨rfl, rfl⟩
    go_wp2_with fail
    refine Calls.mono (Hid.out E2) ?_
    rintro x w1 ⟨rfl, rfl⟩
    go_wp2_with fail
    refine Calls.mono (Hid.out E3) ?_
    rintro x w1 ⟨rfl, rfl⟩
    go_wp2_with fail
    refine Calls.mono (Hid.out E4) ?_
    rintro x w1 ⟨rfl, rfl⟩
    go_wp2_with fail
    refine (rWhen_any _ _ _).mono ?_
    rintro x w1 ⟨rfl, rfl⟩
    go_wp2
    go_ret
    exact ⟨rfl, HW.out, Kp.refl _ _⟩
  by_cases m2 : km = 2
  · subst m2
    rw [show Ch.wNext ⟨2, ko, kc⟩ c = (Ch.whenI (Ch.inR c 65 90) 3, ⟨2, ko, kc⟩) by simp [Ch.wNext]]
    go_enter Tryz.func230, Tryz.ntmps230
    go_wp2_with fail
    refine Calls.mono (Hid.out E1) ?_
    rintro x w1 ⟨rfl, rfl⟩
    go_wp2_with fail
    refine Calls.mono (Hid.out E2) ?_
    rintro x w1 ⟨rfl, rfl⟩
    go_wp2_with fail
    refine Calls.mono (Hid.out E3) ?_
    rintro x w1 ⟨rfl, rfl⟩
    go_wp2_with fail
    refine Calls.mono (Hid.out E4) ?_
    rintro x w1 ⟨rfl, rfl⟩
    go_wp2_with fail
    refine (rWhen_any _ _ _).mono ?_
    rintro x w1 ⟨rfl, rfl⟩
    go_wp2
    go_ret
    exact ⟨rfl, HW.out, Kp.refl _ _⟩
  by_cases m3 : km = 3
  · subst m3
    rw [show Ch.wNext ⟨3, ko, kc⟩ c = (Ch.whenI (c == 62) 5, ⟨3, ko, kc⟩) by simp [Ch.wNext]]
    go_enter Tryz.func230, Tryz.ntmps230
    go_wp2_with fail
    refine Calls.mono (Hid.out E1) ?_
    rintro x w1 ⟨rfl, rfl⟩
    go_wp2_with fail
    refine Calls.mono (Hid.out E2) ?_
    rintro x w1 ⟨rfl, rfl⟩
    go_wp2_with fail
    refine Calls.mono (Hid.out E3) ?_
    rintro x w1 ⟨rfl, rfl⟩
    go_wp2_with fail
    refine Calls.mono (Hid.out E4) ?_
    rintro x w1 ⟨rfl, rfl⟩
    go_wp2_with fail
    refine (rWhen_any _ _ _).mono ?_
    rintro x w1 ⟨rfl, rfl⟩
    go_wp2
    go_ret
    exact ⟨rfl, HW.out, Kp.refl _ _⟩
  by_cases m5 : km = 5
  · subst m5
    rw [Ch.wNext_item ⟨5, ko, kc⟩ c rfl]
    go_enter Tryz.func230, Tryz.ntmps230
    go_wp2_with fail
    refine Calls.mono (Hid.out E1) ?_
    rintro x w1 ⟨rfl, rfl⟩
    go_wp2_with fail
    refine Calls.mono (Hid.out E2) ?_
    rintro x w1 ⟨rfl, rfl⟩
    go_wp2_with fail
    refine Calls.mono (Hid.out E3) ?_
    rintro x w1 ⟨rfl, rfl⟩
    go_wp2_with fail
    refine Calls.mono (Hid.out E4) ?_
    rintro x w1 ⟨rfl, rfl⟩
    go_wp2_with fail
    refine Calls.mono (Hid.out EI) ?_
    rintro x w1 ⟨rfl, h1, K1⟩
    go_wp2
    go_ret
    exact ⟨rfl, h1, K1⟩
  by_cases m6 : km = 6
  · subst m6
    rw [show Ch.wNext ⟨6, ko, kc⟩ c = (Ch.whenI (Ch.inR c 97 122 || Ch.inR c 65 90 || c == 46) 7, ⟨6, ko, 62⟩) by simp [Ch.wNext]]
    cases q1 : Ch.inR c 97 122 <;> cases q2 : Ch.inR c 65 90 <;> cases q3 : c == 46 <;> rw [q1] at E1 <;> rw [q2] at E2
    all_goals
      go_enter Tryz.func230, Tryz.ntmps230
      go_wp2_with fail
      refine Calls.mono (Hid.out E1) ?_
      rintro x w1 ⟨rfl, rfl⟩
      go_wp2_with fail
      refine Calls.mono (Hid.out E2) ?_
      rintro x w1 ⟨rfl, rfl⟩
      go_wp2_with fail
      refine Calls.mono (Hid.out E3) ?_
      rintro x w1 ⟨rfl, rfl⟩
      go_wp2_with fail
      refine Calls.mono (Hid.out E4) ?_
      rintro x w1 ⟨rfl, rfl⟩
      go_wp2_with fail
      refine (rWhen_any _ _ _).mono ?_
      rintro x w1 ⟨rfl, rfl⟩
      go_wp2
      go_ret
      exact ⟨rfl, HS.out, (Kp.refl _ _).setCell (p := ⟨b, 2, none⟩) (fun _ => hb) _⟩
  by_cases m7 : km = 7
  · subst m7
    cases q1 : c == 63 with
    | true =>
      rw [show Ch.wNext ⟨7, ko, kc⟩ c = (8, ⟨7, ko, kc⟩) by simp [Ch.wNext, q1]]
      go_enter Tryz.func230, Tryz.ntmps230
      go_wp2_with fail
      refine Calls.mono (Hid.out E1) ?_
      rintro x w1 ⟨rfl, rfl⟩
      go_wp2_with fail
      refine Calls.mono (Hid.out E2) ?_
      rintro x w1 ⟨rfl, rfl⟩
      go_wp2_with fail
      refine Calls.mono (Hid.out E3) ?_
      rintro x w1 ⟨rfl, rfl⟩
      go_wp2_with fail
      refine Calls.mono (Hid.out E4) ?_
      rintro x w1 ⟨rfl, rfl⟩
      go_wp2
      go_ret
      exact ⟨rfl, HW.out, Kp.refl _ _⟩
    | false =>
      rw [show Ch.wNext ⟨7, ko, kc⟩ c = (Ch.wAct ⟨7, ko, kc⟩ c, ⟨7, ko, kc⟩) by simp [Ch.wNext, q1]]
      go_enter Tryz.func230, Tryz.ntmps230
      go_wp2_with fail
      refine Calls.mono (Hid.out E1) ?_
      rintro x w1 ⟨rfl, rfl⟩
      go_wp2_with fail
      refine Calls.mono (Hid.out E2) ?_
      rintro x w1 ⟨rfl, rfl⟩
      go_wp2_with fail
      refine Calls.mono (Hid.out E3) ?_
      rintro x w1 ⟨rfl, rfl⟩
      go_wp2_with fail
      refine Calls.mono (Hid.out E4) ?_
      rintro x w1 ⟨rfl, rfl⟩
      go_wp2_with fail
      refine Calls.mono (Hid.out EA) ?_
      rintro x w1 ⟨rfl, rfl⟩
      go_wp2
      go_ret
      exact ⟨rfl, HW.out, Kp.refl _ _⟩
  by_cases m8 : km = 8
  · subst m8
    rw [show Ch.wNext ⟨8, ko, kc⟩ c = (Ch.whenI (Ch.inR c 120 122) 9, ⟨8, ko, kc⟩) by simp [Ch.wNext]]
    go_enter Tryz.func230, Tryz.ntmps230
    go_wp2_with fail
    refine Calls.mono (Hid.out E1) ?_
    rintro x w1 ⟨rfl, rfl⟩
    go_wp2_with fail
    refine Calls.mono (Hid.out E2) ?_
    rintro x w1 ⟨rfl, rfl⟩
    go_wp2_with fail
    refine Calls.mono (Hid.out E3) ?_
    rintro x w1 ⟨rfl, rfl⟩
    go_wp2_with fail
    refine Calls.mono (Hid.out E4) ?_
    rintro x w1 ⟨rfl, rfl⟩
    go_wp2_with fail
    refine (rWhen_any _ _ _).mono ?_
    rintro x w1 ⟨rfl, rfl⟩
    go_wp2
    go_ret
    exact ⟨rfl, HW.out, Kp.refl _ _⟩
  by_cases m9 : km = 9
  · subst m9
    rw [show Ch.wNext ⟨9, ko, kc⟩ c = (Ch.whenI (c == 60 || c == 61 || c == 62) 10, ⟨9, ko, kc⟩) by simp [Ch.wNext]]
    cases q1 : c == 60 <;> cases q2 : c == 61 <;> cases q3 : c == 62
    all_goals
      go_enter Tryz.func230, Tryz.ntmps230
      go_wp2_with fail
      refine Calls.mono (Hid.out E1) ?_
      rintro x w1 ⟨rfl, rfl⟩
      go_wp2_with fail
      refine Calls.mono (Hid.out E2) ?_
      rintro x w1 ⟨rfl, rfl⟩
      go_wp2_with fail
      refine Calls.mono (Hid.out E3) ?_
      rintro x w1 ⟨rfl, rfl⟩
      go_wp2_with fail
      refine Calls.mono (Hid.out E4) ?_
      rintro x w1 ⟨rfl, rfl⟩
      go_wp2_with fail
      refine (rWhen_any _ _ _).mono ?_
      rintro x w1 ⟨rfl, rfl⟩
      go_wp2
      go_ret
      exact ⟨rfl, HW.out, Kp.refl _ _⟩
  by_cases m10 : km = 10
  · subst m10
    rw [show Ch.wNext ⟨10, ko, kc⟩ c = (Ch.whenI (Ch.inR c 48 57) 11, ⟨10, ko, kc⟩) by simp [Ch.wNext]]
    go_enter Tryz.func230, Tryz.ntmps230
    go_wp2_with fail
    refine Calls.mono (Hid.out E1) ?_
    rintro x w1 ⟨rfl, rfl⟩
    go_wp2_with fail
    refine Calls.mono (Hid.out E2) ?_
    rintro x w1 ⟨rfl, rfl⟩
    go_wp2_with fail
    refine Calls.mono (Hid.out E3) ?_
    rintro x w1 ⟨rfl, rfl⟩
    go_wp2_with fail
    refine Calls.mono (Hid.out E4) ?_
    rintro x w1 ⟨rfl, rfl⟩
    go_wp2_with fail
    refine (rWhen_any _ _ _).mono ?_
    rintro x w1 ⟨rfl, rfl⟩
    go_wp2
    go_ret
    exact ⟨rfl, HW.out, Kp.refl _ _⟩
  by_cases m16 : km = 16
  · subst m16
    rw [show Ch.wNext ⟨16, ko, kc⟩ c = (Ch.whenI (Ch.inR c 48 57) 11, ⟨16, ko, kc⟩) by simp [Ch.wNext]]
    go_enter Tryz.func230, Tryz.ntmps230
    go_wp2_with fail
    refine Calls.mono (Hid.out E1) ?_
    rintro x w1 ⟨rfl, rfl⟩
    go_wp2_with fail
    refine Calls.mono (Hid.out E2) ?_
    rintro x w1 ⟨rfl, rfl⟩
    go_wp2_with fail
    refine Calls.mono (Hid.out E3) ?_
    rintro x w1 ⟨rfl, rfl⟩
    go_wp2_with fail
    refine Calls.mono (Hid.out E4) ?_
    rintro x w1 ⟨rfl, rfl⟩
    go_wp2_with fail
    refine (rWhen_any _ _ _).mono ?_
    rintro x w1 ⟨rfl, rfl⟩
    go_wp2
    go_ret
    exact ⟨rfl, HW.out, Kp.refl _ _⟩
  by_cases m11 : km = 11
  · subst m11
    rw [show Ch.wNext ⟨11, ko, kc⟩ c = (Ch.wAct ⟨11, ko, kc⟩ c, ⟨11, ko, kc⟩) by simp [Ch.wNext]]
    go_enter Tryz.func230, Tryz.ntmps230
    go_wp2_with fail
    refine Calls.mono (Hid.out E1) ?_
    rintro x w1 ⟨rfl, rfl⟩
    go_wp2_with fail
    refine Calls.mono (Hid.out E2) ?_
    rintro x w1 ⟨rfl, rfl⟩
    go_wp2_with fail
    refine Calls.mono (Hid.out E3) ?_
    rintro x w1 ⟨rfl, rfl⟩
    go_wp2_with fail
    refine Calls.mono (Hid.out E4) ?_
    rintro x w1 ⟨rfl, rfl⟩
    go_wp2_with fail
    refine Calls.mono (Hid.out EA) ?_
    rintro x w1 ⟨rfl, rfl⟩
    go_wp2
    go_ret
    exact ⟨rfl, HW.out, Kp.refl _ _⟩
  by_cases m12 : km = 12
  · subst m12
    rw [show Ch.wNext ⟨12, ko, kc⟩ c = (Ch.whenI (Ch.inR c 97 122) 11, ⟨12, ko, kc⟩) by simp [Ch.wNext]]
    go_enter Tryz.func230, Tryz.ntmps230
    go_wp2_with fail
    refine Calls.mono (Hid.out E1) ?_
    rintro x w1 ⟨rfl, rfl⟩
    go_wp2_with fail
    refine Calls.mono (Hid.out E2) ?_
    rintro x w1 ⟨rfl, rfl⟩
    go_wp2_with fail
    refine Calls.mono (Hid.out E3) ?_
    rintro x w1 ⟨rfl, rfl⟩
    go_wp2_with fail
    refine Calls.mono (Hid.out E4) ?_
    rintro x w1 ⟨rfl, rfl⟩
    go_wp2_with fail
    refine (rWhen_any _ _ _).mono ?_
    rintro x w1 ⟨rfl, rfl⟩
    go_wp2
    go_ret
    exact ⟨rfl, HW.out, Kp.refl _ _⟩
  by_cases m13 : km = 13
  · subst m13
    rw [show Ch.wNext ⟨13, ko, kc⟩ c = (Ch.whenI (Ch.inR c 97 122) 14, ⟨13, ko, kc⟩) by simp [Ch.wNext]]
    go_enter Tryz.func230, Tryz.ntmps230
    go_wp2_with fail
    refine Calls.mono (Hid.out E1) ?_
    rintro x w1 ⟨rfl, rfl⟩
    go_wp2_with fail
    refine Calls.mono (Hid.out E2) ?_
    rintro x w1 ⟨rfl, rfl⟩
    go_wp2_with fail
    refine Calls.mono (Hid.out E3) ?_
    rintro x w1 ⟨rfl, rfl⟩
    go_wp2_with fail
    refine Calls.mono (Hid.out E4) ?_
    rintro x w1 ⟨rfl, rfl⟩
    go_wp2_with fail
    refine (rWhen_any _ _ _).mono ?_
    rintro x w1 ⟨rfl, rfl⟩
    go_wp2
    go_ret
    exact ⟨rfl, HW.out, Kp.refl _ _⟩
  by_cases m14 : km = 14
  · subst m14
    rw [show Ch.wNext ⟨14, ko, kc⟩ c = (Ch.whenI (Ch.inR c 48 57 && c != 48) 11, ⟨14, ko, kc⟩) by simp [Ch.wNext]]
    cases q1 : Ch.inR c 48 57 <;> cases q2 : c != 48 <;> rw [q1] at E4
    all_goals
      go_enter Tryz.func230, Tryz.ntmps230
      go_wp2_with fail
      refine Calls.mono (Hid.out E1) ?_
      rintro x w1 ⟨rfl, rfl⟩
      go_wp2_with fail
      refine Calls.mono (Hid.out E2) ?_
      rintro x w1 ⟨rfl, rfl⟩
      go_wp2_with fail
      refine Calls.mono (Hid.out E3) ?_
      rintro x w1 ⟨rfl, rfl⟩
      go_wp2_with fail
      refine Calls.mono (Hid.out E4) ?_
      rintro x w1 ⟨rfl, rfl⟩
      go_wp2_with fail
      refine (rWhen_any _ _ _).mono ?_
      rintro x w1 ⟨rfl, rfl⟩
      go_wp2
      go_ret
      exact ⟨rfl, HW.out, Kp.refl _ _⟩
  by_cases m15 : km = 15
  · subst m15
    rw [show Ch.wNext ⟨15, ko, kc⟩ c = (Ch.whenI (Ch.inR c 120 122) 16, ⟨15, ko, kc⟩) by simp [Ch.wNext]]
    go_enter Tryz.func230, Tryz.ntmps230
    go_wp2_with fail
    refine Calls.mono (Hid.out E1) ?_
    rintro x w1 ⟨rfl, rfl⟩
    go_wp2_with fail
    refine Calls.mono (Hid.out E2) ?_
    rintro x w1 ⟨rfl, rfl⟩
    go_wp2_with fail
    refine Calls.mono (Hid.out E3) ?_
    rintro x w1 ⟨rfl, rfl⟩
    go_wp2_with fail
    refine Calls.mono (Hid.out E4) ?_
    rintro x w1 ⟨rfl, rfl⟩
    go_wp2_with fail
    refine (rWhen_any _ _ _).mono ?_
    rintro x w1 ⟨rfl, rfl⟩
    go_wp2
    go_ret
    exact ⟨rfl, HW.out, Kp.refl _ _⟩
  by_cases m17 : km = 17
  · subst m17
    rw [show Ch.wNext ⟨17, ko, kc⟩ c = (Ch.whenI (Ch.inR c 65 90 || c == 45) 5, ⟨17, ko, kc⟩) by simp [Ch.wNext]]
    cases q1 : Ch.inR c 65 90 <;> cases q2 : c == 45 <;> rw [q1] at E2
    all_goals
      go_enter Tryz.func230, Tryz.ntmps230
      go_wp2_with fail
      refine Calls.mono (Hid.out E1) ?_
      rintro x w1 ⟨rfl, rfl⟩
      go_wp2_with fail
      refine Calls.mono (Hid.out E2) ?_
      rintro x w1 ⟨rfl, rfl⟩
      go_wp2_with fail
      refine Calls.mono (Hid.out E3) ?_
      rintro x w1 ⟨rfl, rfl⟩
      go_wp2_with fail
      refine Calls.mono (Hid.out E4) ?_
      rintro x w1 ⟨rfl, rfl⟩
      go_wp2_with fail
      refine (rWhen_any _ _ _).mono ?_
      rintro x w1 ⟨rfl, rfl⟩
      go_wp2
      go_ret
      exact ⟨rfl, HW.out, Kp.refl _ _⟩
  have n0 : (km == 0) = false := by simpa using m0
  have n1 : (km == 1) = false := by simpa using m1
  have n2 : (km == 2) = false := by simpa using m2
  have n3 : (km == 3) = false := by simpa using m3
  have n4 : (km == 4) = false := by simpa using m4
  have n5 : (km == 5) = false := by simpa using m5
  have n6 : (km == 6) = false := by simpa using m6
  have n7 : (km == 7) = false := by simpa using m7
  have n8 : (km == 8) = false := by simpa using m8
  have n9 : (km == 9) = false := by simpa using m9
  have n10 : (km == 10) = false := by simpa using m10
  have n11 : (km == 11) = false := by simpa using m11
  have n12 : (km == 12) = false := by simpa using m12
  have n13 : (km == 13) = false := by simpa using m13
  have n14 : (km == 14) = false := by simpa using m14
  have n15 : (km == 15) = false := by simpa using m15
  have n16 : (km == 16) = false := by simpa using m16
  have n17 : (km == 17) = false := by simpa using m17
  rw [show Ch.wNext ⟨km, ko, kc⟩ c = (-1, ⟨km, ko, kc⟩) by simp only [Ch.wNext, n0, n1, n2, n3, n4, n5, n6, n7, n8, n9, n10, n11, n12, n13, n14, n15, n16, n17]; simp]
  clear m0 m1 m2 m3 m4 m5 m6 m7 m8 m9 m10 m11 m12 m13 m14 m15 m16 m17
  go_enter Tryz.func230, Tryz.ntmps230
  go_wp2_with fail
  refine Calls.mono (Hid.out E1) ?_
  rintro x w1 ⟨rfl, rfl⟩
  go_wp2_with fail
  refine Calls.mono (Hid.out E2) ?_
  rintro x w1 ⟨rfl, rfl⟩
  go_wp2_with fail
  refine Calls.mono (Hid.out E3) ?_
  rintro x w1 ⟨rfl, rfl⟩
  go_wp2_with fail
  refine Calls.mono (Hid.out E4) ?_
  rintro x w1 ⟨rfl, rfl⟩
  go_wp2
  go_ret
  exact ⟨rfl, HW.out, Kp.refl _ _⟩

end

end Go.Proofs.YtnlbchmfcebeeaaGreat
