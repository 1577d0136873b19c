/- Walks: rounds to the end. -/
import Derived.Test.YtnlbchmfcebeeaaGreatTE6
import Derived.Test.YtnlbchmfcebeeaaGreatTE7
namespace Go.Proofs.YtnlbchmfcebeeaaGreat
open Go.RowKit

namespace Ch
theorem rounds_succ (ol : Ol) (n : Nat) (m : Ma) : rounds ol (n + 1) m = if busy ol m then rounds ol n (round ol m) else m := rfl
theorem rounds_idle {ol : Ol} {m : Ma} (h : busy ol m = false) : ∀ n, rounds ol n m = m := by
  intro n
  cases n with
  | zero => rfl
  | succ n => rw [rounds_succ, h]; rfl
end Ch

section
variable (w : World) (B mb ob po : Nat) (ol : Ch.Ol)

set_option maxHeartbeats 1600000 in
set_option maxRecDepth 100000 in
/-- The end of it, when there is nothing to do any more, or too much. -/
theorem finish_any (m : Ch.Ma) (n : Nat) (hn : n ≤ 30) (hp : Pl w ob po ol) (hol : ol.Ok) (hm : Mm w B mb ob po m) (hs : m.s.Ok) (hB : B ≤ w.heap.size) (hz : m.Sz 500000000) :
    Calls Tryz.prog 72 #[.pointer (some ⟨mb, 0, none⟩), .int .i64 n] w fun x w' =>
      x = .returned (.tuple #[.agg (sdAll (Ch.finish ol n m).1).toArray, .string (Ch.finish ol n m).2.1, .int .i64 (Ch.finish ol n m).2.2]) ∧ Kp (km B mb w) w w' := by
  obtain ⟨ds, hds, hda⟩ := Tryz.undStand
  have hr1 := heap_alloc_new w (.cells #[.bool false, .bool false, .bool false, .bool false, .bool false, .bool false, .bool false, .bool false, .bool false, .bool false, .bool false, .bool false, .bool false, .bool false, .bool false, .bool false, .int .u8 0, .int .u8 0, .int .u8 0, .int .u8 0, .int .u8 0, .int .u8 0, .int .u8 0, .int .u8 0, .int .u8 0, .int .u8 0, .int .u8 0, .int .u8 0, .int .u8 0, .int .u8 0, .int .u8 0, .int .u8 0, .string ⟨#[]⟩, .int .i64 0, .int .i64 0, .int .i64 0] 95)
  have K1 : Kp (fun _ => False) w (w.alloc (.cells #[.bool false, .bool false, .bool false, .bool false, .bool false, .bool false, .bool false, .bool false, .bool false, .bool false, .bool false, .bool false, .bool false, .bool false, .bool false, .bool false, .int .u8 0, .int .u8 0, .int .u8 0, .int .u8 0, .int .u8 0, .int .u8 0, .int .u8 0, .int .u8 0, .int .u8 0, .int .u8 0, .int .u8 0, .int .u8 0, .int .u8 0, .int .u8 0, .int .u8 0, .int .u8 0, .string ⟨#[]⟩, .int .i64 0, .int .i64 0, .int .i64 0] 95)) := (Kp.refl _ _).alloc _
  have hM1 := hm.still K1
  have hp1 : Pl (w.alloc (.cells #[.bool false, .bool false, .bool false, .bool false, .bool false, .bool false, .bool false, .bool false, .bool false, .bool false, .bool false, .bool false, .bool false, .bool false, .bool false, .bool false, .int .u8 0, .int .u8 0, .int .u8 0, .int .u8 0, .int .u8 0, .int .u8 0, .int .u8 0, .int .u8 0, .int .u8 0, .int .u8 0, .int .u8 0, .int .u8 0, .int .u8 0, .int .u8 0, .int .u8 0, .int .u8 0, .string ⟨#[]⟩, .int .i64 0, .int .i64 0, .int .i64 0] 95)) ob po ol := hp.keep K1 (fun _ _ _ _ _ x => x)
  have hmlt := hm.lt
  clear hp hm
  go_enter Tryz.func72, Tryz.ntmps72
  go_wp2_with fail
  generalize w.alloc (.cells #[.bool false, .bool false, .bool false, .bool false, .bool false, .bool false, .bool false, .bool false, .bool false, .bool false, .bool false, .bool false, .bool false, .bool false, .bool false, .bool false, .int .u8 0, .int .u8 0, .int .u8 0, .int .u8 0, .int .u8 0, .int .u8 0, .int .u8 0, .int .u8 0, .int .u8 0, .int .u8 0, .int .u8 0, .int .u8 0, .int .u8 0, .int .u8 0, .int .u8 0, .int .u8 0, .string ⟨#[]⟩, .int .i64 0, .int .i64 0, .int .i64 0] 95) = w1 at *
  generalize hrb : w.heap.size = rb at *
  go_loopw [7] (fun i wr => ∃ (k : Nat) (m' : Ch.Ma), i = .int .i64 k ∧ k ≤ n ∧ Hid (Ch.rounds ol n m = Ch.rounds ol (n - k) m') ∧ Mm wr B mb ob po m' ∧ m'.s.Ok ∧ m'.Sz (500000000 + 3900000 * k) ∧ Kp (km B mb w1) w1 wr) (fun i _ => n - (intOf i).toNat)
  case atStart => exact ⟨0, m, rfl, Nat.zero_le _, hid rfl, hM1, hs, hz, Kp.refl _ _⟩
  case round =>
    obtain ⟨k, m', rfl, hk, HE, hm', hs', hz', KW⟩ := hrel
    have hpr : Pl wr ob po ol := hM1.pl KW hp1
    have hrr := hM1.at_ KW hr1 (by decide) (by decide)
    have hBr : B ≤ wr.heap.size := by have := KW.size; have := K1.size; omega
    have E1 := hid (busy_any wr B mb ob po ol m' hpr hol hm' hs')
    have HX := hid (And.intro hm' (And.intro hpr (And.intro hrr KW)))
    clear hm' hpr hrr KW
    by_cases hlt : k < n
    · have hlt' : (k : Int) < (n : Int) := by omega
      have ef : n - k = (n - (k + 1)) + 1 := by omega
      cases q : Ch.busy ol m' with
      | true =>
        rw [q] at E1
        have HF := hid (HE.out.trans (show _ = Ch.rounds ol (n - (k + 1)) (Ch.round ol m') by rw [ef, Ch.rounds_succ, q]; rfl))
        have hs2 := Ch.round_ok (ol := ol) hs'
        have hz2 := Ch.round_sz hol hz'
        clear HE ef
        go_wp2_with fail
        refine Calls.mono (Hid.out E1) ?_
        rintro x w2 ⟨rfl, K2⟩
        obtain ⟨hm', hpr, hrr, KW⟩ := HX.out
        have M2 := hm'.still K2
        have hp2 : Pl w2 ob po ol := hpr.keep K2 (fun _ _ _ _ _ x => x)
        have E2 := hid (round_any w2 B mb ob po ol m' hp2 hol M2 hs' (by have := K2.size; omega) (hz'.le (by omega)))
        have K3 := Km.trans KW (Kp.km K2)
        clear hm' hpr hrr KW HX E1 M2 hp2 K2
        go_wp2_with fail
        refine Calls.mono (Hid.out E2) ?_
        rintro x w3 ⟨rfl, M3, K4⟩
        have K5 := Km.trans K3 K4
        clear E2 K3 K4
        go_wp2
        go_roundw
        case rel => exact ⟨k + 1, _, by go_num, by omega, HF, M3, hs2, hz2.le (by omega), K5⟩
        case measure => simp [intOf]; omega
      | false =>
        rw [q] at E1
        have HF := hid (show Ch.finish ol n m = (m'.s, strOfNums m'.out, 0) by
          have e := HE.out.trans (Ch.rounds_idle q _)
          unfold Ch.finish; rw [e, q]; rfl)
        clear HE ef
        go_wp2_with fail
        refine Calls.mono (Hid.out E1) ?_
        rintro x w2 ⟨rfl, K2⟩
        obtain ⟨hm', hpr, hrr, KW⟩ := HX.out
        have M2 := hm'.still K2
        have hp2 : Pl w2 ob po ol := hpr.keep K2 (fun _ _ _ _ _ x => x)
        have hr2 := K2.at_ hrr (fun x => x)
        have E2 := hid (busy_any w2 B mb ob po ol m' hp2 hol M2 hs')
        rw [q] at E2
        have K3 := Km.trans KW (Kp.km K2)
        have HY := hid (And.intro M2 (And.intro hr2 K3))
        clear hm' hpr hrr KW HX E1 M2 hp2 K2 hr2 K3
        go_wp2_with fail
        refine Calls.mono (Hid.out E2) ?_
        rintro x w3 ⟨rfl, K4⟩
        obtain ⟨M2, hr2, K3⟩ := HY.out
        have M3 := M2.still K4
        have hr3 := K4.at_ hr2 (fun x => x)
        have K5 := Km.trans K3 (Kp.km K4)
        obtain ⟨qv, ov, hmb, oq, oo, ap⟩ := id M3
        clear HY E2 M2 hr2 K3 K4
        go_upto_region 7 with (fail)
        refine region_begin (fun w' => MaB w' mb ob po m'.s qv ov ∧ OwnsQ w' B ov (byCells m'.out)) (by kernel_rfl) ?_
        have hS0 : MaB w3.drew mb ob po m'.s qv ov ∧ OwnsQ w3.drew B ov (byCells m'.out) := ⟨hmb, oo⟩
        have hlI : (Tryz.prog.info? 95).map (·.size) = some (sdAll m'.s).length := by rw [sdAll_len hs'.1]; exact Tryz.sizeStand
        have hne : mb ≠ rb := by
          intro e; have h1 : w3.heap[mb]? = some (.cells _ 149 (0, 0)) := hmb
          rw [e, hr3] at h1; simp at h1
        have hS1 : MaB (w3.drew.setRow rb (sdAll m'.s).toArray) mb ob po m'.s qv ov ∧ OwnsQ (w3.drew.setRow rb (sdAll m'.s).toArray) B ov (byCells m'.out) := by
          have n1 := oo.ne hr3 (by decide)
          have KR : Kp (fun k => k = rb) w3.drew (w3.drew.setRow rb (sdAll m'.s).toArray) := Kp.setRow (S := fun k => k = rb) (Kp.refl _ _) (g := rb) (fun _ => rfl) _
          exact ⟨SdB.keep (w := w3.drew) hmb KR hne, OwnsQ.keep (w := w3.drew) oo KR (fun i hi x => by subst x; exact n1 hi)⟩
        have KF : Kp (km B mb w) w (w3.drew.setRow rb (sdAll m'.s).toArray) := ((Km.trans (Kp.km K1) K5).drewN 1).setRow (fun x => by omega) _
        refine take_op 0 22 (.pointer (some ⟨mb, 0, none⟩)) rfl (by kernel_rfl) (by kernel_rfl) (by kernel_rfl) rfl rfl (fun w' _ => by rfl) hS0 ?_
        refine take_op 1 23 (.pointer (some ⟨mb, 0, none⟩)) rfl (by kernel_rfl) (by kernel_rfl) (by kernel_rfl) rfl rfl (fun w' _ => by simp [execOp, Act.eval, Act.put, go_sem]) hS0 ?_
        refine take_op 2 24 (.pointer (some ⟨mb, 1, none⟩)) rfl (by kernel_rfl) (by kernel_rfl) (by kernel_rfl) rfl rfl (fun w' _ => by simp [execOp, Act.eval, Act.put, go_sem]) hS0 ?_
        refine take_op 3 25 (.agg (sdAll m'.s).toArray) rfl (by kernel_rfl) (by kernel_rfl) (by kernel_rfl) rfl rfl (fun w' hS => exec_load_part 95 (.tmp 24) rfl mb 1 (by simp [Act.eval, Act.put]) (sdAll m'.s) ds hS.1.stand hds hda hlI) hS0 ?_
        refine take_op 4 26 (.pointer (some ⟨mb, 0, none⟩)) rfl (by kernel_rfl) (by kernel_rfl) (by kernel_rfl) rfl rfl (fun w' _ => by simp [execOp, Act.eval, Act.put, go_sem]) hS0 ?_
        refine take_op 5 27 (.pointer (some ⟨mb, 0, none⟩)) rfl (by kernel_rfl) (by kernel_rfl) (by kernel_rfl) rfl rfl (fun w' _ => by simp [execOp, Act.eval, Act.put, go_sem]) hS0 ?_
        refine take_op 6 28 (.pointer (some ⟨mb, 38, none⟩)) rfl (by kernel_rfl) (by kernel_rfl) (by kernel_rfl) rfl rfl (fun w' _ => by simp [execOp, Act.eval, Act.put, go_sem]) hS0 ?_
        refine take_op 7 29 ov rfl (by kernel_rfl) (by kernel_rfl) (by kernel_rfl) rfl rfl (fun w' hS => by have c := hS.1.out hs'.1; simp [execOp, Act.eval, Act.put, go_sem, c]) hS0 ?_
        refine take_op 8 30 (.string (strOfNums m'.out)) rfl (by kernel_rfl) (by kernel_rfl) (by kernel_rfl) rfl rfl (fun w' hS => exec_convert 47 9 (.tmp 29) rfl ov _ (by simp [Act.eval, Act.put]) (run_textQ hS.2)) hS0 ?_
        refine do_store 9 (by kernel_rfl) rfl rfl 95 (.tmp 4) (.tmp 25) rfl rfl rb (sdAll m'.s).toArray (by simp [Act.eval, Act.put]) (by simp [Act.eval, Act.put]) 95 #[.bool false, .bool false, .bool false, .bool false, .bool false, .bool false, .bool false, .bool false, .bool false, .bool false, .bool false, .bool false, .bool false, .bool false, .bool false, .bool false, .int .u8 0, .int .u8 0, .int .u8 0, .int .u8 0, .int .u8 0, .int .u8 0, .int .u8 0, .int .u8 0, .int .u8 0, .int .u8 0, .int .u8 0, .int .u8 0, .int .u8 0, .int .u8 0, .int .u8 0, .int .u8 0, .string ⟨#[]⟩, .int .i64 0, .int .i64 0, .int .i64 0] (by exact hr3) (sdInfo hs'.1) (by rw [sdSize hs'.1]; rfl) (sdOne _) hS1 ?_
        refine take_op 10 5 (.string (strOfNums m'.out)) rfl (by kernel_rfl) (by kernel_rfl) (by kernel_rfl) rfl rfl (fun w' _ => by simp [execOp, Act.eval, Act.put, go_sem]) hS1 ?_
        refine take_op 11 6 (.int .i64 0) rfl (by kernel_rfl) (by kernel_rfl) (by kernel_rfl) rfl rfl (fun w' _ => by rfl) hS1 ?_
        refine wpAnyH_done (by kernel_rfl) (NoPanic.normal ?_) _
        simp only [Act.put, List.setIfInBounds_toArray, List.set_cons_succ, List.set_cons_zero]
        go_wp2
        refine bodyPost_ret (results_cell_tmp2 rfl _ _ rb 95 (sdAll m'.s).toArray (0, 0) ds rfl (setRow_heap w3.drew _ _ _ _ _ (by exact hr3)) hds hda (sdInfo hs'.1)) rfl ?_
        rw [HF.out]
        exact ⟨rfl, KF⟩
    · have hge : ¬ (k : Int) < (n : Int) := by omega
      have ek : n - k = 0 := by omega
      cases q : Ch.busy ol m' with
      | true =>
        rw [q] at E1
        have HF := hid (show Ch.finish ol n m = (Ch.noSd, ByteArray.empty, 9) by
          have e : Ch.rounds ol n m = m' := HE.out.trans (by rw [ek]; rfl)
          unfold Ch.finish; rw [e, q]; rfl)
        clear HE ek
        go_wp2_with fail
        refine Calls.mono (Hid.out E1) ?_
        rintro x w2 ⟨rfl, K2⟩
        obtain ⟨hm', hpr, hrr, KW⟩ := HX.out
        have hr2 := K2.at_ hrr (fun x => x)
        have K3 := Km.trans (Kp.km K1) (Km.trans KW (Kp.km K2))
        have KF : Kp (km B mb w) w (w2.setRow rb #[.bool false, .bool false, .bool false, .bool false, .bool false, .bool false, .bool false, .bool false, .bool false, .bool false, .bool false, .bool false, .bool false, .bool false, .bool false, .bool false, .int .u8 0, .int .u8 0, .int .u8 0, .int .u8 0, .int .u8 0, .int .u8 0, .int .u8 0, .int .u8 0, .int .u8 0, .int .u8 0, .int .u8 0, .int .u8 0, .int .u8 0, .int .u8 0, .int .u8 0, .int .u8 0, .string ⟨#[]⟩, .int .i64 0, .int .i64 0, .int .i64 0]) := K3.setRow (fun x => by omega) _
        clear hm' hpr hrr KW HX E1 K2 K3
        go_wp2_with (refine wpList_store_row rfl 95 (.tmp 4) (.tmp 21) rfl rb #[.bool false, .bool false, .bool false, .bool false, .bool false, .bool false, .bool false, .bool false, .bool false, .bool false, .bool false, .bool false, .bool false, .bool false, .bool false, .bool false, .int .u8 0, .int .u8 0, .int .u8 0, .int .u8 0, .int .u8 0, .int .u8 0, .int .u8 0, .int .u8 0, .int .u8 0, .int .u8 0, .int .u8 0, .int .u8 0, .int .u8 0, .int .u8 0, .int .u8 0, .int .u8 0, .string ⟨#[]⟩, .int .i64 0, .int .i64 0, .int .i64 0] rfl rfl 95 #[.bool false, .bool false, .bool false, .bool false, .bool false, .bool false, .bool false, .bool false, .bool false, .bool false, .bool false, .bool false, .bool false, .bool false, .bool false, .bool false, .int .u8 0, .int .u8 0, .int .u8 0, .int .u8 0, .int .u8 0, .int .u8 0, .int .u8 0, .int .u8 0, .int .u8 0, .int .u8 0, .int .u8 0, .int .u8 0, .int .u8 0, .int .u8 0, .int .u8 0, .int .u8 0, .string ⟨#[]⟩, .int .i64 0, .int .i64 0, .int .i64 0] hr2 Tryz.sizeStand rfl zsdOne ?_)
        refine bodyPost_ret (results_cell_tmp2 rfl _ _ rb 95 #[.bool false, .bool false, .bool false, .bool false, .bool false, .bool false, .bool false, .bool false, .bool false, .bool false, .bool false, .bool false, .bool false, .bool false, .bool false, .bool false, .int .u8 0, .int .u8 0, .int .u8 0, .int .u8 0, .int .u8 0, .int .u8 0, .int .u8 0, .int .u8 0, .int .u8 0, .int .u8 0, .int .u8 0, .int .u8 0, .int .u8 0, .int .u8 0, .int .u8 0, .int .u8 0, .string ⟨#[]⟩, .int .i64 0, .int .i64 0, .int .i64 0] (0, 0) ds rfl (setRow_heap _ _ _ _ _ _ hr2) hds hda Tryz.sizeStand) rfl ?_
        rw [HF.out]
        exact ⟨rfl, KF⟩
      | false =>
        rw [q] at E1
        have HF := hid (show Ch.finish ol n m = (m'.s, strOfNums m'.out, 0) by
          have e : Ch.rounds ol n m = m' := HE.out.trans (by rw [ek]; rfl)
          unfold Ch.finish; rw [e, q]; rfl)
        clear HE ek
        go_wp2_with fail
        refine Calls.mono (Hid.out E1) ?_
        rintro x w3 ⟨rfl, K4⟩
        obtain ⟨hm', hpr, hrr, KW⟩ := HX.out
        have M3 := hm'.still K4
        have hr3 := K4.at_ hrr (fun x => x)
        have K5 := Km.trans KW (Kp.km K4)
        obtain ⟨qv, ov, hmb, oq, oo, ap⟩ := id M3
        clear HX E1 hm' hpr hrr KW K4
        go_upto_region 7 with (fail)
        refine region_begin (fun w' => MaB w' mb ob po m'.s qv ov ∧ OwnsQ w' B ov (byCells m'.out)) (by kernel_rfl) ?_
        have hS0 : MaB w3.drew mb ob po m'.s qv ov ∧ OwnsQ w3.drew B ov (byCells m'.out) := ⟨hmb, oo⟩
        have hlI : (Tryz.prog.info? 95).map (·.size) = some (sdAll m'.s).length := by rw [sdAll_len hs'.1]; exact Tryz.sizeStand
        have hne : mb ≠ rb := by
          intro e; have h1 : w3.heap[mb]? = some (.cells _ 149 (0, 0)) := hmb
          rw [e, hr3] at h1; simp at h1
        have hS1 : MaB (w3.drew.setRow rb (sdAll m'.s).toArray) mb ob po m'.s qv ov ∧ OwnsQ (w3.drew.setRow rb (sdAll m'.s).toArray) B ov (byCells m'.out) := by
          have n1 := oo.ne hr3 (by decide)
          have KR : Kp (fun k => k = rb) w3.drew (w3.drew.setRow rb (sdAll m'.s).toArray) := Kp.setRow (S := fun k => k = rb) (Kp.refl _ _) (g := rb) (fun _ => rfl) _
          exact ⟨SdB.keep (w := w3.drew) hmb KR hne, OwnsQ.keep (w := w3.drew) oo KR (fun i hi x => by subst x; exact n1 hi)⟩
        have KF : Kp (km B mb w) w (w3.drew.setRow rb (sdAll m'.s).toArray) := ((Km.trans (Kp.km K1) K5).drewN 1).setRow (fun x => by omega) _
        refine take_op 0 22 (.pointer (some ⟨mb, 0, none⟩)) rfl (by kernel_rfl) (by kernel_rfl) (by kernel_rfl) rfl rfl (fun w' _ => by rfl) hS0 ?_
        refine take_op 1 23 (.pointer (some ⟨mb, 0, none⟩)) rfl (by kernel_rfl) (by kernel_rfl) (by kernel_rfl) rfl rfl (fun w' _ => by simp [execOp, Act.eval, Act.put, go_sem]) hS0 ?_
        refine take_op 2 24 (.pointer (some ⟨mb, 1, none⟩)) rfl (by kernel_rfl) (by kernel_rfl) (by kernel_rfl) rfl rfl (fun w' _ => by simp [execOp, Act.eval, Act.put, go_sem]) hS0 ?_
        refine take_op 3 25 (.agg (sdAll m'.s).toArray) rfl (by kernel_rfl) (by kernel_rfl) (by kernel_rfl) rfl rfl (fun w' hS => exec_load_part 95 (.tmp 24) rfl mb 1 (by simp [Act.eval, Act.put]) (sdAll m'.s) ds hS.1.stand hds hda hlI) hS0 ?_
        refine take_op 4 26 (.pointer (some ⟨mb, 0, none⟩)) rfl (by kernel_rfl) (by kernel_rfl) (by kernel_rfl) rfl rfl (fun w' _ => by simp [execOp, Act.eval, Act.put, go_sem]) hS0 ?_
        refine take_op 5 27 (.pointer (some ⟨mb, 0, none⟩)) rfl (by kernel_rfl) (by kernel_rfl) (by kernel_rfl) rfl rfl (fun w' _ => by simp [execOp, Act.eval, Act.put, go_sem]) hS0 ?_
        refine take_op 6 28 (.pointer (some ⟨mb, 38, none⟩)) rfl (by kernel_rfl) (by kernel_rfl) (by kernel_rfl) rfl rfl (fun w' _ => by simp [execOp, Act.eval, Act.put, go_sem]) hS0 ?_
        refine take_op 7 29 ov rfl (by kernel_rfl) (by kernel_rfl) (by kernel_rfl) rfl rfl (fun w' hS => by have c := hS.1.out hs'.1; simp [execOp, Act.eval, Act.put, go_sem, c]) hS0 ?_
        refine take_op 8 30 (.string (strOfNums m'.out)) rfl (by kernel_rfl) (by kernel_rfl) (by kernel_rfl) rfl rfl (fun w' hS => exec_convert 47 9 (.tmp 29) rfl ov _ (by simp [Act.eval, Act.put]) (run_textQ hS.2)) hS0 ?_
        refine do_store 9 (by kernel_rfl) rfl rfl 95 (.tmp 4) (.tmp 25) rfl rfl rb (sdAll m'.s).toArray (by simp [Act.eval, Act.put]) (by simp [Act.eval, Act.put]) 95 #[.bool false, .bool false, .bool false, .bool false, .bool false, .bool false, .bool false, .bool false, .bool false, .bool false, .bool false, .bool false, .bool false, .bool false, .bool false, .bool false, .int .u8 0, .int .u8 0, .int .u8 0, .int .u8 0, .int .u8 0, .int .u8 0, .int .u8 0, .int .u8 0, .int .u8 0, .int .u8 0, .int .u8 0, .int .u8 0, .int .u8 0, .int .u8 0, .int .u8 0, .int .u8 0, .string ⟨#[]⟩, .int .i64 0, .int .i64 0, .int .i64 0] (by exact hr3) (sdInfo hs'.1) (by rw [sdSize hs'.1]; rfl) (sdOne _) hS1 ?_
        refine take_op 10 5 (.string (strOfNums m'.out)) rfl (by kernel_rfl) (by kernel_rfl) (by kernel_rfl) rfl rfl (fun w' _ => by simp [execOp, Act.eval, Act.put, go_sem]) hS1 ?_
        refine take_op 11 6 (.int .i64 0) rfl (by kernel_rfl) (by kernel_rfl) (by kernel_rfl) rfl rfl (fun w' _ => by rfl) hS1 ?_
        refine wpAnyH_done (by kernel_rfl) (NoPanic.normal ?_) _
        simp only [Act.put, List.setIfInBounds_toArray, List.set_cons_succ, List.set_cons_zero]
        go_wp2
        refine bodyPost_ret (results_cell_tmp2 rfl _ _ rb 95 (sdAll m'.s).toArray (0, 0) ds rfl (setRow_heap w3.drew _ _ _ _ _ (by exact hr3)) hds hda (sdInfo hs'.1)) rfl ?_
        rw [HF.out]
        exact ⟨rfl, KF⟩

end

end Go.Proofs.YtnlbchmfcebeeaaGreat
