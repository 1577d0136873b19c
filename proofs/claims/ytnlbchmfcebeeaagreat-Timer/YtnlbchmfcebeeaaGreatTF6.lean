/- Walks: chartkeep's same, goes, run. -/
import Derived.Test.YtnlbchmfcebeeaaGreatTF5
namespace Go.Proofs.YtnlbchmfcebeeaaGreat
open Go.RowKit

namespace Ch
/-- An event or a tick. -/
def goes (n : Nat) (t : ByteArray) (a : As) (b : Int) : As × ByteArray × Int := if isEv b then cFire t a (strOfNums [b]) else cWait n t a
end Ch
theorem asInfo (a : Ch.As) : (Tryz.prog.info? 26).map (·.size) = some (asA a).size := Tryz.sizeAs

section
variable (w : World)

set_option maxHeartbeats 800000 in
set_option maxRecDepth 100000 in
theorem same_any (a : Ch.As) :
    Calls Tryz.prog 21 #[.agg (asA a), .agg (asA a)] w fun x w' => x = .returned (.bool true) ∧ Kp (fun _ => False) w w' := by
  have K1 : Kp (fun _ => False) w ((w.alloc (.cells (asA a) 26)).alloc (.cells (asA a) 26)) := ((Kp.refl _ _).alloc _).alloc _
  unfold asA at *
  go_enter Tryz.func21, Tryz.ntmps21
  go_wp2
  go_ret
  exact ⟨rfl, K1⟩

set_option maxHeartbeats 800000 in
set_option maxRecDepth 100000 in
theorem goes_any (n : Nat) (hn : n ≤ 1000) (t : ByteArray) (a : Ch.As) (b : Int) (ha : a.Sm) (hw : Ch.isEv b = false → Ch.lgE t a = 0 → (Ch.waitF (Ch.read t).2.2 n (Ch.tick (Ch.lgS t a)) []).isSome = true) :
    Calls Tryz.prog 30 #[.string t, .agg (asA a), .int .u8 b] w fun x w' => x = .returned (.tuple #[.agg (asA (Ch.goes n t a b).1), .string (Ch.goes n t a b).2.1, .int .i64 (Ch.goes n t a b).2.2]) ∧ Kp (fun _ => False) w w' := by
  obtain ⟨da, hdA, hdAa⟩ := Tryz.undAs
  have hb1 : ((w.alloc (.cells (asA a) 26)).alloc (.cells #[.string ⟨#[]⟩, .string ⟨#[]⟩, .string ⟨#[]⟩, .int .i64 0, .int .i64 0, .int .i64 0] 26)).heap[w.heap.size]? = some (.cells (asA a) 26) := by
    rw [Below.heap_alloc _ _ _ (by simp)]; exact heap_alloc_new _ _
  have hr1 : ((w.alloc (.cells (asA a) 26)).alloc (.cells #[.string ⟨#[]⟩, .string ⟨#[]⟩, .string ⟨#[]⟩, .int .i64 0, .int .i64 0, .int .i64 0] 26)).heap[w.heap.size + 1]? = some (.cells #[.string ⟨#[]⟩, .string ⟨#[]⟩, .string ⟨#[]⟩, .int .i64 0, .int .i64 0, .int .i64 0] 26) := heap_alloc2_new w _ _
  have K1 : Kp (fun _ => False) w ((w.alloc (.cells (asA a) 26)).alloc (.cells #[.string ⟨#[]⟩, .string ⟨#[]⟩, .string ⟨#[]⟩, .int .i64 0, .int .i64 0, .int .i64 0] 26)) := ((Kp.refl _ _).alloc _).alloc _
  have aI := asInfo a
  have EW := hid (fun W h => cWait_any W n hn t a ha h)
  have EF := hid (fun W ev => cFire_any W t a ev ha)
  generalize hAA : asA a = AA at hb1 hr1 K1 aI EW EF ⊢
  clear hAA
  by_cases q : Ch.isEv b = true
  · rw [show Ch.goes n t a b = Ch.cFire t a (strOfNums [b]) by unfold Ch.goes; rw [if_pos q]]
    have q' := q
    simp only [Ch.isEv, Bool.and_eq_true, decide_eq_true_eq] at q'
    obtain ⟨q1, q2⟩ := q'
    have E1 := fun W => hid (EF.out W (strOfNums [b]))
    clear EW EF hw
    generalize hgf : Ch.cFire t a (strOfNums [b]) = r at *
    clear hgf
    obtain ⟨ra, ro, re⟩ := r
    have rO := asOne ra
    have rI := asInfo ra
    have rS : (asA ra).size = 6 := rfl
    simp only at E1 ⊢
    generalize asA ra = RA at *
    go_enter Tryz.func30, Tryz.ntmps30
    go_upto_region 2 with (fail)
    generalize (w.alloc (.cells AA 26)).alloc (.cells #[.string ⟨#[]⟩, .string ⟨#[]⟩, .string ⟨#[]⟩, .int .i64 0, .int .i64 0, .int .i64 0] 26) = w1 at *
    have oq : OwnsQ (w1.alloc (.cells #[.int .u8 b] 5)) 0 (.slice (some ⟨w1.heap.size, 0, none⟩) 1 1) (byCells [b]) :=
      .inr ⟨w1.heap.size, 0, 1, #[.int .u8 b], rfl, Nat.zero_le _, heap_alloc_new _ _, by simp [byCells], by simp, by intro j u hj; simpa [byCells] using hj⟩
    have hcv := run_textQ oq
    have hr2 : (w1.alloc (.cells #[.int .u8 b] 5)).heap[w.heap.size + 1]? = some (.cells #[.string ⟨#[]⟩, .string ⟨#[]⟩, .string ⟨#[]⟩, .int .i64 0, .int .i64 0, .int .i64 0] 26) := (Below.heap_alloc _ _ _ (lt_of_block hr1)).trans hr1
    have K2 := K1.alloc (.cells #[.int .u8 b] 5)
    clear oq hr1 K1
    go_wp2_with (refine wpList_load_row rfl 26 (.tmp 4) rfl w.heap.size rfl 26 AA (0, 0) da hb1 hdA (by cases da <;> first | rfl | exact absurd hdAa (by simp [isAggD])) aI ?_)
    refine Calls.mono (Hid.out (E1 _)) ?_
    rintro x w3 ⟨rfl, K3⟩
    have hr3 := K3.at_ hr2 (fun x => x)
    have KF : Kp (fun _ => False) w (w3.setRow (w.heap.size + 1) RA) := (K2.trans K3).setRow (fun x => by omega) _
    clear K2 K3 hr2 E1 hcv hb1
    go_wp2_with (refine wpList_store_row rfl 26 (.tmp 6) (.tmp 21) rfl (w.heap.size + 1) RA rfl rfl 26 #[.string ⟨#[]⟩, .string ⟨#[]⟩, .string ⟨#[]⟩, .int .i64 0, .int .i64 0, .int .i64 0] hr3 rI (by rw [rS]; rfl) rO ?_)
    refine bodyPost_ret (results_cell_tmp2 rfl _ _ (w.heap.size + 1) 26 RA (0, 0) da rfl (setRow_heap _ _ _ _ _ _ hr3) hdA hdAa rI) rfl ?_
    exact ⟨rfl, KF⟩
  · rw [show Ch.goes n t a b = Ch.cWait n t a by unfold Ch.goes; rw [if_neg q]]
    have E1 := fun W => hid (EW.out W (hw (by simpa using q)))
    have key : ∀ (Q : Prop), (97 ≤ b → ¬ b ≤ 122 → Q) → (¬ 97 ≤ b → Q) → Q := by
      intro Q h1 h2
      by_cases h : 97 ≤ b
      · exact h1 h (fun h' => q (by simp [Ch.isEv, h, h']))
      · exact h2 h
    clear hw EW EF
    generalize hgw : Ch.cWait n t a = r at *
    clear hgw
    obtain ⟨ra, ro, re⟩ := r
    have rO := asOne ra
    have rI := asInfo ra
    have rS : (asA ra).size = 6 := rfl
    simp only at E1 ⊢
    generalize asA ra = RA at *
    refine key _ (fun h1 h2 => ?_) (fun h1 => ?_)
    · clear key q
      go_enter Tryz.func30, Tryz.ntmps30
      go_upto_region 3 with (fail)
      generalize (w.alloc (.cells AA 26)).alloc (.cells #[.string ⟨#[]⟩, .string ⟨#[]⟩, .string ⟨#[]⟩, .int .i64 0, .int .i64 0, .int .i64 0] 26) = w1 at *
      go_wp2_with (refine wpList_load_row rfl 26 (.tmp 4) rfl w.heap.size rfl 26 AA (0, 0) da hb1 hdA (by cases da <;> first | rfl | exact absurd hdAa (by simp [isAggD])) aI ?_)
      refine Calls.mono (Hid.out (E1 w1)) ?_
      rintro x w3 ⟨rfl, K3⟩
      have hr3 := K3.at_ hr1 (fun x => x)
      have KF : Kp (fun _ => False) w (w3.setRow (w.heap.size + 1) RA) := (K1.trans K3).setRow (fun x => by omega) _
      clear K1 K3 hr1 E1 hb1
      go_wp2_with (refine wpList_store_row rfl 26 (.tmp 6) (.tmp 27) rfl (w.heap.size + 1) RA rfl rfl 26 #[.string ⟨#[]⟩, .string ⟨#[]⟩, .string ⟨#[]⟩, .int .i64 0, .int .i64 0, .int .i64 0] hr3 rI (by rw [rS]; rfl) rO ?_)
      refine bodyPost_ret (results_cell_tmp2 rfl _ _ (w.heap.size + 1) 26 RA (0, 0) da rfl (setRow_heap _ _ _ _ _ _ hr3) hdA hdAa rI) rfl ?_
      exact ⟨rfl, KF⟩
    · clear key q
      go_enter Tryz.func30, Tryz.ntmps30
      go_upto_region 3 with (fail)
      generalize (w.alloc (.cells AA 26)).alloc (.cells #[.string ⟨#[]⟩, .string ⟨#[]⟩, .string ⟨#[]⟩, .int .i64 0, .int .i64 0, .int .i64 0] 26) = w1 at *
      go_wp2_with (refine wpList_load_row rfl 26 (.tmp 4) rfl w.heap.size rfl 26 AA (0, 0) da hb1 hdA (by cases da <;> first | rfl | exact absurd hdAa (by simp [isAggD])) aI ?_)
      refine Calls.mono (Hid.out (E1 w1)) ?_
      rintro x w3 ⟨rfl, K3⟩
      have hr3 := K3.at_ hr1 (fun x => x)
      have KF : Kp (fun _ => False) w (w3.setRow (w.heap.size + 1) RA) := (K1.trans K3).setRow (fun x => by omega) _
      clear K1 K3 hr1 E1 hb1
      go_wp2_with (refine wpList_store_row rfl 26 (.tmp 6) (.tmp 27) rfl (w.heap.size + 1) RA rfl rfl 26 #[.string ⟨#[]⟩, .string ⟨#[]⟩, .string ⟨#[]⟩, .int .i64 0, .int .i64 0, .int .i64 0] hr3 rI (by rw [rS]; rfl) rO ?_)
      refine bodyPost_ret (results_cell_tmp2 rfl _ _ (w.heap.size + 1) 26 RA (0, 0) da rfl (setRow_heap _ _ _ _ _ _ hr3) hdA hdAa rI) rfl ?_
      exact ⟨rfl, KF⟩

set_option maxHeartbeats 800000 in
set_option maxRecDepth 100000 in
theorem run_any (n : Nat) (hn : n ≤ 1000) (t : ByteArray) (a want : Ch.As) (b : Int) (out : ByteArray) (ha : a.Sm) (hw : Ch.isEv b = false → Ch.lgE t a = 0 → (Ch.waitF (Ch.read t).2.2 n (Ch.tick (Ch.lgS t a)) []).isSome = true)
    (hg : Ch.goes n t a b = (want, out, 0)) :
    Calls Tryz.prog 22 #[.string t, .agg (asA a), .int .u8 b, .agg (asA want), .string out] w fun x w' => x = .returned (.bool true) ∧ Kp (fun _ => False) w w' := by
  obtain ⟨da, hdA, hdAa⟩ := Tryz.undAs
  have hb1 : ((w.alloc (.cells (asA a) 26)).alloc (.cells (asA want) 26)).heap[w.heap.size]? = some (.cells (asA a) 26) := by
    rw [Below.heap_alloc _ _ _ (by simp)]; exact heap_alloc_new _ _
  have hr1 : ((w.alloc (.cells (asA a) 26)).alloc (.cells (asA want) 26)).heap[w.heap.size + 1]? = some (.cells (asA want) 26) := heap_alloc2_new w _ _
  have K1 : Kp (fun _ => False) w ((w.alloc (.cells (asA a) 26)).alloc (.cells (asA want) 26)) := ((Kp.refl _ _).alloc _).alloc _
  have aI := asInfo a
  have EG := hid (goes_any ((w.alloc (.cells (asA a) 26)).alloc (.cells (asA want) 26)) n hn t a b ha hw)
  have ES := fun W => hid (same_any W want)
  rw [hg] at EG
  simp only at EG
  have rO := asOne want
  have rI := asInfo want
  have rS : (asA want).size = 6 := rfl
  clear hg hw
  generalize asA want = WA at *
  generalize hAA : asA a = AA at hb1 hr1 K1 aI EG ⊢
  clear hAA
  go_enter Tryz.func22, Tryz.ntmps22
  go_upto_region 1 with (fail)
  generalize (w.alloc (.cells AA 26)).alloc (.cells WA 26) = w1 at *
  go_wp2_with (refine wpList_load_row rfl 26 (.tmp 6) rfl w.heap.size rfl 26 AA (0, 0) da hb1 hdA (by cases da <;> first | rfl | exact absurd hdAa (by simp [isAggD])) aI ?_)
  refine Calls.mono (Hid.out EG) ?_
  rintro x w2 ⟨rfl, K2⟩
  have hr2 := K2.at_ hr1 (fun x => x)
  have KA := K1.trans K2
  have hnew := heap_alloc_new w2 (.cells #[.string ⟨#[]⟩, .string ⟨#[]⟩, .string ⟨#[]⟩, .int .i64 0, .int .i64 0, .int .i64 0] 26)
  have hrow3 := setRow_heap (w2.alloc (.cells #[.string ⟨#[]⟩, .string ⟨#[]⟩, .string ⟨#[]⟩, .int .i64 0, .int .i64 0, .int .i64 0] 26)) w2.heap.size #[.string ⟨#[]⟩, .string ⟨#[]⟩, .string ⟨#[]⟩, .int .i64 0, .int .i64 0, .int .i64 0] WA 26 (0, 0) hnew
  have K3 : Kp (fun _ => False) w2 ((w2.alloc (.cells #[.string ⟨#[]⟩, .string ⟨#[]⟩, .string ⟨#[]⟩, .int .i64 0, .int .i64 0, .int .i64 0] 26)).setRow w2.heap.size WA) := ((Kp.refl _ _).alloc _).setRow (fun x => by omega) _
  have hr3 := K3.at_ hr2 (fun x => x)
  have KB := KA.trans K3
  clear K1 K2 K3 hr1 hr2 hb1 aI EG KA
  go_upto_region 2 with (refine wpList_store_row rfl 26 (.tmp 11) (.tmp 20) rfl w2.heap.size WA rfl rfl 26 #[.string ⟨#[]⟩, .string ⟨#[]⟩, .string ⟨#[]⟩, .int .i64 0, .int .i64 0, .int .i64 0] hnew rI (by rw [rS]; rfl) rO ?_)
  generalize (w2.alloc (.cells #[.string ⟨#[]⟩, .string ⟨#[]⟩, .string ⟨#[]⟩, .int .i64 0, .int .i64 0, .int .i64 0] 26)).setRow w2.heap.size WA = w3 at *
  generalize w2.heap.size = tb at *
  go_wp2_with (first | refine wpList_load_row rfl 26 (.tmp 11) rfl tb rfl 26 WA (0, 0) da hrow3 hdA (by cases da <;> first | rfl | exact absurd hdAa (by simp [isAggD])) rI ?_ | refine wpList_load_row rfl 26 (.tmp 8) rfl (w.heap.size + 1) rfl 26 WA (0, 0) da hr3 hdA (by cases da <;> first | rfl | exact absurd hdAa (by simp [isAggD])) rI ?_)
  refine Calls.mono (Hid.out (ES w3)) ?_
  rintro x w4 ⟨rfl, K4⟩
  have KC := KB.trans K4
  clear ES KB K4 hr3 hrow3 hnew
  go_wp2
  go_ret
  exact ⟨rfl, KC⟩

end

end Go.Proofs.YtnlbchmfcebeeaaGreat
