/- Walks: chart.read. -/
import Derived.Test.YtnlbchmfcebeeaaGreatTF2
namespace Go.Proofs.YtnlbchmfcebeeaaGreat
open Go.RowKit

namespace Ch
def takeA (ss : List St) (a : As) : Bool × Sd := take ss a.act a.past a.tm a.x a.y a.z
/-- The error of Legal. -/
def lgE (t : ByteArray) (a : As) : Int := if (read t).1 != 0 then (read t).1 else if (takeA (read t).2.2.sts a).1 then 0 else 7
def lgS (t : ByteArray) (a : As) : Sd := if (read t).1 != 0 then noSd else if (takeA (read t).2.2.sts a).1 then (takeA (read t).2.2.sts a).2 else noSd
theorem read_rf (t : ByteArray) (h : (read t).1 = 0) : (read t).2.1 = 0 := by
  unfold read at *
  split at h
  · simp at h
  · rename_i q0
    rw [if_neg q0] at *
    split at h
    · rename_i q1
      rw [if_pos q1] at *
      split at h
      · rename_i q2; rw [if_pos q2]
      · rename_i q2; simp only at h; rw [h] at q2; simp at q2
    · simp at h
structure As.Sm (a : As) : Prop where
  act : a.act.size ≤ 9223372036854775807
  past : a.past.size ≤ 9223372036854775807
  tm : a.tm.size ≤ 9223372036854775807
end Ch

section
variable (w : World)

set_option maxHeartbeats 1600000 in
set_option maxRecDepth 100000 in
theorem cRead_any (t : ByteArray) (a : Ch.As) (ha : a.Sm) :
    Calls Tryz.prog 55 #[.string t, .agg (asA a)] w fun x w' => ∃ sv tv bv lt lb, x = .returned (.agg (sgA (Ch.lgE t a) sv tv bv (Ch.lgS t a))) ∧
      (sv.oneCell' = true ∧ tv.oneCell' = true ∧ bv.oneCell' = true) ∧ (Ch.lgE t a = 0 → OlF w' w.heap.size (Ch.read t).2.2 sv tv bv lt lb) ∧ Kp (fun _ => False) w w' := by
  obtain ⟨dg, hdg, hga⟩ := Tryz.undSg
  obtain ⟨da, hdA, hdAa⟩ := Tryz.undAs
  obtain ⟨dO, hdO, hdOa⟩ := Tryz.undOl
  obtain ⟨ds, hds, hda⟩ := Tryz.undStand
  have hb1 : ((w.alloc (.cells (asA a) 26)).alloc (.cells #[.int .i64 0, .int .i64 0, .int .i64 0, .slice none 0 0, .slice none 0 0, .slice none 0 0, .bool false, .bool false, .bool false, .bool false, .bool false, .bool false, .bool false, .bool false, .bool false, .bool false, .bool false, .bool false, .bool false, .bool false, .bool false, .bool false, .int .u8 0, .int .u8 0, .int .u8 0, .int .u8 0, .int .u8 0, .int .u8 0, .int .u8 0, .int .u8 0, .int .u8 0, .int .u8 0, .int .u8 0, .int .u8 0, .int .u8 0, .int .u8 0, .int .u8 0, .int .u8 0, .string ⟨#[]⟩, .int .i64 0, .int .i64 0, .int .i64 0] 119)).heap[w.heap.size]? = some (.cells (asA a) 26) := by
    rw [Below.heap_alloc _ _ _ (by simp)]; exact heap_alloc_new _ _
  have hr1 : ((w.alloc (.cells (asA a) 26)).alloc (.cells #[.int .i64 0, .int .i64 0, .int .i64 0, .slice none 0 0, .slice none 0 0, .slice none 0 0, .bool false, .bool false, .bool false, .bool false, .bool false, .bool false, .bool false, .bool false, .bool false, .bool false, .bool false, .bool false, .bool false, .bool false, .bool false, .bool false, .int .u8 0, .int .u8 0, .int .u8 0, .int .u8 0, .int .u8 0, .int .u8 0, .int .u8 0, .int .u8 0, .int .u8 0, .int .u8 0, .int .u8 0, .int .u8 0, .int .u8 0, .int .u8 0, .int .u8 0, .int .u8 0, .string ⟨#[]⟩, .int .i64 0, .int .i64 0, .int .i64 0] 119)).heap[w.heap.size + 1]? = some (.cells #[.int .i64 0, .int .i64 0, .int .i64 0, .slice none 0 0, .slice none 0 0, .slice none 0 0, .bool false, .bool false, .bool false, .bool false, .bool false, .bool false, .bool false, .bool false, .bool false, .bool false, .bool false, .bool false, .bool false, .bool false, .bool false, .bool false, .int .u8 0, .int .u8 0, .int .u8 0, .int .u8 0, .int .u8 0, .int .u8 0, .int .u8 0, .int .u8 0, .int .u8 0, .int .u8 0, .int .u8 0, .int .u8 0, .int .u8 0, .int .u8 0, .int .u8 0, .int .u8 0, .string ⟨#[]⟩, .int .i64 0, .int .i64 0, .int .i64 0] 119) := heap_alloc2_new w _ _
  have K1 : Kp (fun _ => False) w ((w.alloc (.cells (asA a) 26)).alloc (.cells #[.int .i64 0, .int .i64 0, .int .i64 0, .slice none 0 0, .slice none 0 0, .slice none 0 0, .bool false, .bool false, .bool false, .bool false, .bool false, .bool false, .bool false, .bool false, .bool false, .bool false, .bool false, .bool false, .bool false, .bool false, .bool false, .bool false, .int .u8 0, .int .u8 0, .int .u8 0, .int .u8 0, .int .u8 0, .int .u8 0, .int .u8 0, .int .u8 0, .int .u8 0, .int .u8 0, .int .u8 0, .int .u8 0, .int .u8 0, .int .u8 0, .int .u8 0, .int .u8 0, .string ⟨#[]⟩, .int .i64 0, .int .i64 0, .int .i64 0] 119)) := ((Kp.refl _ _).alloc _).alloc _
  have E0 := hid (read_any t ((w.alloc (.cells (asA a) 26)).alloc (.cells #[.int .i64 0, .int .i64 0, .int .i64 0, .slice none 0 0, .slice none 0 0, .slice none 0 0, .bool false, .bool false, .bool false, .bool false, .bool false, .bool false, .bool false, .bool false, .bool false, .bool false, .bool false, .bool false, .bool false, .bool false, .bool false, .bool false, .int .u8 0, .int .u8 0, .int .u8 0, .int .u8 0, .int .u8 0, .int .u8 0, .int .u8 0, .int .u8 0, .int .u8 0, .int .u8 0, .int .u8 0, .int .u8 0, .int .u8 0, .int .u8 0, .int .u8 0, .int .u8 0, .string ⟨#[]⟩, .int .i64 0, .int .i64 0, .int .i64 0] 119)))
  have hol := Ch.read_ok t
  have hrf := Ch.read_rf t
  have HU := hid (show Ch.lgE t a = if (Ch.read t).1 != 0 then (Ch.read t).1 else if (Ch.takeA (Ch.read t).2.2.sts a).1 then 0 else 7 from rfl)
  have HV := hid (show Ch.lgS t a = if (Ch.read t).1 != 0 then Ch.noSd else if (Ch.takeA (Ch.read t).2.2.sts a).1 then (Ch.takeA (Ch.read t).2.2.sts a).2 else Ch.noSd from rfl)
  have HW := hid (show asA a = asA a from rfl)
  generalize hAA : asA a = AA at hb1 hr1 K1 E0 HW ⊢
  have aI : (Tryz.prog.info? 26).map (·.size) = some AA.size := by rw [← hAA]; exact Tryz.sizeAs
  have HAA := hid hAA
  clear hAA HW
  go_enter Tryz.func55, Tryz.ntmps55
  go_wp2_with fail
  refine Calls.mono (Hid.out E0) ?_
  rintro x w2 ⟨sv, tv, bv, lt, lb, rfl, F2, B2⟩
  have K2 := kpOfBelow B2
  have hb2 := K2.at_ hb1 (fun x => x)
  have hr2 := K2.at_ hr1 (fun x => x)
  have KA := K1.trans K2
  have hws : w.heap.size ≤ ((w.alloc (.cells AA 26)).alloc (.cells #[.int .i64 0, .int .i64 0, .int .i64 0, .slice none 0 0, .slice none 0 0, .slice none 0 0, .bool false, .bool false, .bool false, .bool false, .bool false, .bool false, .bool false, .bool false, .bool false, .bool false, .bool false, .bool false, .bool false, .bool false, .bool false, .bool false, .int .u8 0, .int .u8 0, .int .u8 0, .int .u8 0, .int .u8 0, .int .u8 0, .int .u8 0, .int .u8 0, .int .u8 0, .int .u8 0, .int .u8 0, .int .u8 0, .int .u8 0, .int .u8 0, .int .u8 0, .int .u8 0, .string ⟨#[]⟩, .int .i64 0, .int .i64 0, .int .i64 0] 119)).heap.size := K1.size
  have F2' : OlF w2 w.heap.size (Ch.read t).2.2 sv tv bv lt lb :=
    ⟨own_weaken F2.sts hws, F2.mtr, own_weaken F2.trs hws, fun x hx => own_weaken (F2.tra x hx) hws, F2.mbl, own_weaken F2.bls hws, fun x hx => own_weaken (F2.bla x hx) hws⟩
  clear E0 hb1 hr1 K1 K2 B2 F2 hws
  generalize hrd : Ch.read t = rd at *
  obtain ⟨re, rf, ol⟩ := rd
  have HRD := hid hrd
  clear hrd
  simp only at hol F2' HU HV hrf
  have o1 := own_one F2'.sts
  have o2 := own_one F2'.trs
  have o3 := own_one F2'.bls
  have oOne := olOne (e := re) (f := rf) o1 o2 o3
  have hnew := heap_alloc_new w2 (.cells #[.int .i64 0, .int .i64 0, .slice none 0 0, .slice none 0 0, .slice none 0 0] 87)
  have hrow := setRow_heap (w2.alloc (.cells #[.int .i64 0, .int .i64 0, .slice none 0 0, .slice none 0 0, .slice none 0 0] 87)) w2.heap.size _ (olA re rf sv tv bv) 87 (0, 0) hnew
  have K3 : Kp (fun _ => False) w2 ((w2.alloc (.cells #[.int .i64 0, .int .i64 0, .slice none 0 0, .slice none 0 0, .slice none 0 0] 87)).setRow w2.heap.size (olA re rf sv tv bv)) := ((Kp.refl _ _).alloc _).setRow (fun x => by omega) _
  have F3 := F2'.keep0 K3
  have hb3 := K3.at_ hb2 (fun x => x)
  have hr3 := K3.at_ hr2 (fun x => x)
  have KB := KA.trans K3
  have hlt : w.heap.size + 1 < w2.heap.size := lt_of_block hr2
  have HX := hid (And.intro F3 (And.intro hb3 (And.intro hr3 (And.intro KB hrow))))
  clear hb2 hr2 KA K3 F3 hb3 hr3 KB hrow F2'
  go_upto_region 2 with (refine wpList_store_row rfl 87 (.tmp 5) (.tmp 9) rfl w2.heap.size (olA re rf sv tv bv) rfl rfl 87 #[.int .i64 0, .int .i64 0, .slice none 0 0, .slice none 0 0, .slice none 0 0] hnew Tryz.sizeOl rfl oOne ?_)
  generalize (w2.alloc (.cells #[.int .i64 0, .int .i64 0, .slice none 0 0, .slice none 0 0, .slice none 0 0] 87)).setRow w2.heap.size (olA re rf sv tv bv) = w3 at *
  obtain ⟨F3, hb3, hr3, KB, hrow⟩ := HX.out
  have z0 : w3.cell? ⟨w2.heap.size, 0, none⟩ = some (.int .i64 re) := by rw [World.cell?, hrow]; rfl
  clear hnew oOne F3 hb3 KB hrow
  generalize w2.heap.size = ob at *
  cases q1 : re != 0 with
  | true =>
    have HE := hid (HU.out.trans (show _ = re by rw [q1]; rfl))
    have HS := hid (HV.out.trans (show _ = Ch.noSd by rw [q1]; rfl))
    have HB := hid (built_sg_err re)
    have hgI := sgA_info re (.slice none 0 0) (.slice none 0 0) (.slice none 0 0) Ch.noSd_wf
    have hgS := sgA_size re (.slice none 0 0) (.slice none 0 0) (.slice none 0 0) Ch.noSd_wf
    have hgO := sgA_one re (sv := .slice none 0 0) (tv := .slice none 0 0) (bv := .slice none 0 0) rfl rfl rfl Ch.noSd
    have hre : re ≠ 0 := by simpa using q1
    generalize hGA : sgA re (.slice none 0 0) (.slice none 0 0) (.slice none 0 0) Ch.noSd = GA at *
    have HG := hid hGA
    clear hGA
    go_wp2_with (first | (refine wpList_build_eq rfl 119 #[(0, .tmp 14)] rfl GA [(0, .int .i64 re)] ?_ HB.out ?_; rfl) | refine wpList_store_row rfl 119 (.tmp 4) (.tmp 15) rfl (w.heap.size + 1) GA rfl rfl 119 #[.int .i64 0, .int .i64 0, .int .i64 0, .slice none 0 0, .slice none 0 0, .slice none 0 0, .bool false, .bool false, .bool false, .bool false, .bool false, .bool false, .bool false, .bool false, .bool false, .bool false, .bool false, .bool false, .bool false, .bool false, .bool false, .bool false, .int .u8 0, .int .u8 0, .int .u8 0, .int .u8 0, .int .u8 0, .int .u8 0, .int .u8 0, .int .u8 0, .int .u8 0, .int .u8 0, .int .u8 0, .int .u8 0, .int .u8 0, .int .u8 0, .int .u8 0, .int .u8 0, .string ⟨#[]⟩, .int .i64 0, .int .i64 0, .int .i64 0] hr3 hgI (by rw [hgS]; rfl) hgO ?_)
    obtain ⟨F3, hb3, hr3, KB, hrow⟩ := HX.out
    refine bodyPost_ret (results_cell_row rfl _ _ (w.heap.size + 1) 119 GA (0, 0) dg rfl (setRow_heap _ _ _ _ _ _ hr3) hdg (by cases dg <;> first | rfl | exact absurd hga (by simp [isAggD])) hgI) rfl ?_
    rw [HE.out, HS.out, ← HG.out]
    exact ⟨_, _, _, lt, lb, rfl, ⟨rfl, rfl, rfl⟩, fun e => absurd e hre, KB.setRow (fun x => by omega) _⟩
  | false =>
    have hre : re = 0 := by simpa using q1
    have HU2 := hid (HU.out.trans (show _ = if (Ch.takeA ol.sts a).1 then (0 : Int) else 7 by rw [q1]; rfl))
    have HV2 := hid (HV.out.trans (show _ = if (Ch.takeA ol.sts a).1 then (Ch.takeA ol.sts a).2 else Ch.noSd by rw [q1]; rfl))
    obtain ⟨F3, hb3, hr3', KB, hrow⟩ := HX.out
    have hp3 := Pl.ofRow hrow F3
    have E1 := hid (take_any2 ob 0 w3 ol.sts a.act a.past a.tm a.x a.y a.z ha.act ha.past ha.tm hp3.str (by have := hol.sts; omega))
    have hTok := Ch.take_okA (ss := ol.sts) (a := a.act) (p := a.past) (t := a.tm) (x := a.x) (y := a.y) (z := a.z)
    have E1' : Hid (Calls Tryz.prog 79 #[.pointer (some ⟨ob, 0, none⟩), .agg AA] w3
      fun r w' => r = .returned (.tuple #[.agg (sdAll (Ch.takeA ol.sts a).2).toArray, .bool (Ch.takeA ol.sts a).1]) ∧ Kp (fun _ => False) w3 w') := by rw [← HAA.out]; exact E1
    have hTok' : (Ch.takeA ol.sts a).2.Ok := hTok
    clear F3 KB hrow E1 hTok hp3 HU HV
    generalize Ch.takeA ol.sts a = tk at *
    obtain ⟨tb, ts⟩ := tk
    simp only at hTok' HU2 HV2 E1'
    have tI := sdInfo hTok'.1
    have tS := sdSize hTok'.1
    have tO := sdOne ts
    go_wp2_with (refine wpList_load_row rfl 26 (.tmp 3) rfl w.heap.size rfl 26 AA (0, 0) da hb3 hdA (by cases da <;> first | rfl | exact absurd hdAa (by simp [isAggD])) aI ?_)
    refine Calls.mono (Hid.out E1') ?_
    rintro x w4 ⟨rfl, K4⟩
    obtain ⟨F3, hb3, hr3, KB, hrow⟩ := HX.out
    have F4 := F3.keep0 K4
    have hr4 := K4.at_ hr3 (fun x => x)
    have hrow4 := K4.at_ hrow (fun x => x)
    have KC := KB.trans K4
    have hnew := heap_alloc_new w4 (.cells #[.bool false, .bool false, .bool false, .bool false, .bool false, .bool false, .bool false, .bool false, .bool false, .bool false, .bool false, .bool false, .bool false, .bool false, .bool false, .bool false, .int .u8 0, .int .u8 0, .int .u8 0, .int .u8 0, .int .u8 0, .int .u8 0, .int .u8 0, .int .u8 0, .int .u8 0, .int .u8 0, .int .u8 0, .int .u8 0, .int .u8 0, .int .u8 0, .int .u8 0, .int .u8 0, .string ⟨#[]⟩, .int .i64 0, .int .i64 0, .int .i64 0] 95)
    have hrow5 := setRow_heap (w4.alloc (.cells #[.bool false, .bool false, .bool false, .bool false, .bool false, .bool false, .bool false, .bool false, .bool false, .bool false, .bool false, .bool false, .bool false, .bool false, .bool false, .bool false, .int .u8 0, .int .u8 0, .int .u8 0, .int .u8 0, .int .u8 0, .int .u8 0, .int .u8 0, .int .u8 0, .int .u8 0, .int .u8 0, .int .u8 0, .int .u8 0, .int .u8 0, .int .u8 0, .int .u8 0, .int .u8 0, .string ⟨#[]⟩, .int .i64 0, .int .i64 0, .int .i64 0] 95)) w4.heap.size #[.bool false, .bool false, .bool false, .bool false, .bool false, .bool false, .bool false, .bool false, .bool false, .bool false, .bool false, .bool false, .bool false, .bool false, .bool false, .bool false, .int .u8 0, .int .u8 0, .int .u8 0, .int .u8 0, .int .u8 0, .int .u8 0, .int .u8 0, .int .u8 0, .int .u8 0, .int .u8 0, .int .u8 0, .int .u8 0, .int .u8 0, .int .u8 0, .int .u8 0, .int .u8 0, .string ⟨#[]⟩, .int .i64 0, .int .i64 0, .int .i64 0] (sdAll ts).toArray 95 (0, 0) hnew
    have K5 : Kp (fun _ => False) w4 ((w4.alloc (.cells #[.bool false, .bool false, .bool false, .bool false, .bool false, .bool false, .bool false, .bool false, .bool false, .bool false, .bool false, .bool false, .bool false, .bool false, .bool false, .bool false, .int .u8 0, .int .u8 0, .int .u8 0, .int .u8 0, .int .u8 0, .int .u8 0, .int .u8 0, .int .u8 0, .int .u8 0, .int .u8 0, .int .u8 0, .int .u8 0, .int .u8 0, .int .u8 0, .int .u8 0, .int .u8 0, .string ⟨#[]⟩, .int .i64 0, .int .i64 0, .int .i64 0] 95)).setRow w4.heap.size (sdAll ts).toArray) := ((Kp.refl _ _).alloc _).setRow (fun x => by omega) _
    have F5 := F4.keep0 K5
    have hr5 := K5.at_ hr4 (fun x => x)
    have ho5 := K5.at_ hrow4 (fun x => x)
    have KD := KC.trans K5
    have HY := hid (And.intro F5 (And.intro hr5 KD))
    have HT := hid (show (sdAll ts).toArray = (sdAll ts).toArray from rfl)
    clear F3 hb3 hr3 hr3' KB hrow F4 hr4 hrow4 KC K4 K5 HX E1' F5 KD z0
    generalize hTA : (sdAll ts).toArray = TA at *
    have HTA := hid hTA
    clear hTA HT
    go_upto_region 5 with (refine wpList_store_row rfl 95 (.tmp 6) (.tmp 19) rfl w4.heap.size TA rfl rfl 95 #[.bool false, .bool false, .bool false, .bool false, .bool false, .bool false, .bool false, .bool false, .bool false, .bool false, .bool false, .bool false, .bool false, .bool false, .bool false, .bool false, .int .u8 0, .int .u8 0, .int .u8 0, .int .u8 0, .int .u8 0, .int .u8 0, .int .u8 0, .int .u8 0, .int .u8 0, .int .u8 0, .int .u8 0, .int .u8 0, .int .u8 0, .int .u8 0, .int .u8 0, .int .u8 0, .string ⟨#[]⟩, .int .i64 0, .int .i64 0, .int .i64 0] hnew tI (by rw [tS]; rfl) tO ?_)
    generalize (w4.alloc (.cells #[.bool false, .bool false, .bool false, .bool false, .bool false, .bool false, .bool false, .bool false, .bool false, .bool false, .bool false, .bool false, .bool false, .bool false, .bool false, .bool false, .int .u8 0, .int .u8 0, .int .u8 0, .int .u8 0, .int .u8 0, .int .u8 0, .int .u8 0, .int .u8 0, .int .u8 0, .int .u8 0, .int .u8 0, .int .u8 0, .int .u8 0, .int .u8 0, .int .u8 0, .int .u8 0, .string ⟨#[]⟩, .int .i64 0, .int .i64 0, .int .i64 0] 95)).setRow w4.heap.size TA = w5 at *
    generalize w4.heap.size = tb5 at *
    cases tb with
    | false =>
      have HE := hid (HU2.out.trans (show _ = (7 : Int) from rfl))
      have HS := hid (HV2.out.trans (show _ = Ch.noSd from rfl))
      have HB := hid (built_sg_err 7)
      have hgI := sgA_info 7 (.slice none 0 0) (.slice none 0 0) (.slice none 0 0) Ch.noSd_wf
      have hgS := sgA_size 7 (.slice none 0 0) (.slice none 0 0) (.slice none 0 0) Ch.noSd_wf
      have hgO := sgA_one 7 (sv := .slice none 0 0) (tv := .slice none 0 0) (bv := .slice none 0 0) rfl rfl rfl Ch.noSd
      generalize hGA : sgA 7 (.slice none 0 0) (.slice none 0 0) (.slice none 0 0) Ch.noSd = GA at *
      have HG := hid hGA
      clear hGA
      go_wp2_with (first | (refine wpList_build_eq rfl 119 #[(0, .const (.int .i64 7))] rfl GA [(0, .int .i64 7)] ?_ HB.out ?_; rfl) | refine wpList_store_row rfl 119 (.tmp 4) (.tmp 23) rfl (w.heap.size + 1) GA rfl rfl 119 #[.int .i64 0, .int .i64 0, .int .i64 0, .slice none 0 0, .slice none 0 0, .slice none 0 0, .bool false, .bool false, .bool false, .bool false, .bool false, .bool false, .bool false, .bool false, .bool false, .bool false, .bool false, .bool false, .bool false, .bool false, .bool false, .bool false, .int .u8 0, .int .u8 0, .int .u8 0, .int .u8 0, .int .u8 0, .int .u8 0, .int .u8 0, .int .u8 0, .int .u8 0, .int .u8 0, .int .u8 0, .int .u8 0, .int .u8 0, .int .u8 0, .int .u8 0, .int .u8 0, .string ⟨#[]⟩, .int .i64 0, .int .i64 0, .int .i64 0] hr5 hgI (by rw [hgS]; rfl) hgO ?_)
      obtain ⟨F5, hr5, KD⟩ := HY.out
      refine bodyPost_ret (results_cell_row rfl _ _ (w.heap.size + 1) 119 GA (0, 0) dg rfl (setRow_heap _ _ _ _ _ _ hr5) hdg (by cases dg <;> first | rfl | exact absurd hga (by simp [isAggD])) hgI) rfl ?_
      rw [HE.out, HS.out, ← HG.out]
      exact ⟨_, _, _, lt, lb, rfl, ⟨rfl, rfl, rfl⟩, fun e => absurd e (by decide), KD.setRow (fun x => by omega) _⟩
    | true =>
      have HE := hid (HU2.out.trans (show _ = (0 : Int) from rfl))
      have HS := hid (HV2.out.trans (show _ = ts from rfl))
      obtain ⟨F5, hr5', KD⟩ := HY.out
      obtain ⟨sa, sl, sc, rfl⟩ := own_slice F5.sts
      obtain ⟨ta, tl, tc, rfl⟩ := own_slice F5.trs
      obtain ⟨ba, bl, bc, rfl⟩ := own_slice F5.bls
      have hrf0 := hrf hre
      subst hre hrf0
      have HB : Hid (Tryz.prog.built 119 [(1, .agg (olA 0 0 (.slice sa sl sc) (.slice ta tl tc) (.slice ba bl bc))), (2, .agg TA)] = some (sgA 0 (.slice sa sl sc) (.slice ta tl tc) (.slice ba bl bc) ts)) := hid (by rw [← HTA.out]; exact built_sg_ok sa ta ba sl sc tl tc bl bc ts hTok'.1)
      have hgI := sgA_info 0 (.slice sa sl sc) (.slice ta tl tc) (.slice ba bl bc) hTok'.1
      have hgS := sgA_size 0 (.slice sa sl sc) (.slice ta tl tc) (.slice ba bl bc) hTok'.1
      have hgO := sgA_one 0 (sv := .slice sa sl sc) (tv := .slice ta tl tc) (bv := .slice ba bl bc) rfl rfl rfl ts
      have oI : (Tryz.prog.info? 87).map (·.size) = some (olA 0 0 (.slice sa sl sc) (.slice ta tl tc) (.slice ba bl bc)).size := Tryz.sizeOl
      clear F5 KD hr5'
      generalize hGA : sgA 0 (.slice sa sl sc) (.slice ta tl tc) (.slice ba bl bc) ts = GA at *
      have HG := hid hGA
      clear hGA
      generalize olA 0 0 (.slice sa sl sc) (.slice ta tl tc) (.slice ba bl bc) = OA at *
      go_wp2_with (first | refine wpList_load_row rfl 87 (.tmp 5) rfl ob rfl 87 OA (0, 0) dO ho5 hdO (by cases dO <;> first | rfl | exact absurd hdOa (by simp [isAggD])) oI ?_ | refine wpList_load_row rfl 95 (.tmp 6) rfl tb5 rfl 95 TA (0, 0) ds hrow5 hds (by cases ds <;> first | rfl | exact absurd hda (by simp [isAggD])) tI ?_ | (refine wpList_build_eq rfl 119 #[(1, .tmp 24), (2, .tmp 25)] rfl GA [(1, .agg OA), (2, .agg TA)] ?_ HB.out ?_; rfl) | refine wpList_store_row rfl 119 (.tmp 4) (.tmp 26) rfl (w.heap.size + 1) GA rfl rfl 119 #[.int .i64 0, .int .i64 0, .int .i64 0, .slice none 0 0, .slice none 0 0, .slice none 0 0, .bool false, .bool false, .bool false, .bool false, .bool false, .bool false, .bool false, .bool false, .bool false, .bool false, .bool false, .bool false, .bool false, .bool false, .bool false, .bool false, .int .u8 0, .int .u8 0, .int .u8 0, .int .u8 0, .int .u8 0, .int .u8 0, .int .u8 0, .int .u8 0, .int .u8 0, .int .u8 0, .int .u8 0, .int .u8 0, .int .u8 0, .int .u8 0, .int .u8 0, .int .u8 0, .string ⟨#[]⟩, .int .i64 0, .int .i64 0, .int .i64 0] hr5 hgI (by rw [hgS]; rfl) hgO ?_)
      obtain ⟨F5, hr5', KD⟩ := HY.out
      refine bodyPost_ret (results_cell_row rfl _ _ (w.heap.size + 1) 119 GA (0, 0) dg rfl (setRow_heap _ _ _ _ _ _ hr5) hdg (by cases dg <;> first | rfl | exact absurd hga (by simp [isAggD])) hgI) rfl ?_
      have KR : Kp (fun k => k = w.heap.size + 1) w5 (w5.setRow (w.heap.size + 1) GA) := Kp.setRow (S := fun k => k = w.heap.size + 1) (Kp.refl _ _) (g := w.heap.size + 1) (fun _ => rfl) _
      have hN : ∀ {base e size v n xs}, w5.ownsRow base e size v n xs → e ≠ 119 → ∀ i, v.ownBlock = some i → ¬ i = w.heap.size + 1 := by
        intro base e size v n xs ho he i hi hx
        obtain ⟨cur, hc⟩ := own_block ho hi
        rw [hx, hr5] at hc; simp at hc; exact he hc.2.symm
      rw [HE.out, HS.out, ← HG.out]
      refine ⟨_, _, _, rfl, ⟨rfl, rfl, rfl⟩, ⟨lt, lb, fun _ => ?_⟩, KD.setRow (fun x => by omega) _⟩
      rw [HG.out, HRD.out]
      exact ⟨KR.owns F5.sts (hN F5.sts (by decide)), F5.mtr, KR.owns F5.trs (hN F5.trs (by decide)), fun x hx => KR.owns (F5.tra x hx) (hN (F5.tra x hx) (by decide)), F5.mbl, KR.owns F5.bls (hN F5.bls (by decide)), fun x hx => KR.owns (F5.bla x hx) (hN (F5.bla x hx) (by decide))⟩

end

end Go.Proofs.YtnlbchmfcebeeaaGreat
