/- Walks: Timer. -/
import Derived.Test.YtnlbchmfcebeeaaGreatTG2
namespace Go.Proofs.YtnlbchmfcebeeaaGreat
open Go.RowKit

namespace Ch
theorem asT_pos {m : Nat} (h : m ≠ 0) : asT m = ⟨⟨#[82, 65]⟩, ⟨#[]⟩, ⟨#[98, dgB m]⟩, 0, 0, 0⟩ := by
  unfold asT
  rw [if_neg (by simpa using h)]
end Ch
theorem built_T (v : ByteArray) : Tryz.prog.built 26 [(0, .string ⟨#[82, 65]⟩), (2, .string v)] = some (asA ⟨⟨#[82, 65]⟩, ⟨#[]⟩, v, 0, 0, 0⟩) := by kernel_rfl
theorem runOk_any (W : World) {t : ByteArray} {a want : Ch.As} {b : Int} {out : ByteArray} (ha : a.Sm) (h : Ch.RunOk t a b want out) :
    Calls Tryz.prog 22 #[.string t, .agg (asA a), .int .u8 b, .agg (asA want), .string out] W fun x w' => x = .returned (.bool true) ∧ Kp (fun _ => False) W w' :=
  run_any W 2 (by omega) t a want b out ha h.2 h.1

section
variable (w : World)

set_option maxHeartbeats 3200000 in
set_option maxRecDepth 100000 in
theorem timer_any (ticks c : Int) (h1 : -9223372036854775808 ≤ ticks) (h2 : ticks ≤ 9223372036854775807) (h3 : -9223372036854775808 ≤ c) (h4 : c ≤ 9223372036854775807) :
    Calls Tryz.prog 11 #[.int .i64 ticks, .int .i64 c] w fun x w' => x = .returned (.bool true) ∧ Kp (fun _ => False) w w' := by
  obtain ⟨da, hdA, hdAa⟩ := Tryz.undAs
  have E1 := hid (pick_any w ticks h1 h2 9 (by omega) (by omega))
  have EC := fun W d (hd : 1 ≤ d) (hd9 : d ≤ 1000) => hid (pick_any W c h3 h4 d hd hd9)
  clear h1 h2 h3 h4
  go_enter Tryz.func11, Tryz.ntmps11
  go_wp2_with fail
  refine Calls.mono (Hid.out E1) ?_
  rintro x w0 ⟨r, rfl, hr, rfl⟩
  clear E1
  obtain ⟨d, hd⟩ : ∃ d, d = 1 + r := ⟨_, rfl⟩
  have hd1 : 1 ≤ d := by omega
  have hd9 : d ≤ 9 := by omega
  have hdr : (1 : Int) + (r : Int) = (d : Int) := by omega
  have hN := Ch.nine_in hd1 hd9
  clear hd hr
  have E2 := hid (digit_any w0 d hd9)
  have ht : ((⟨#[40, 82, 40, 65, 58, 97, 64, 98]⟩ : ByteArray) ++ ⟨#[Ch.dgB d]⟩) ++ ⟨#[62, 45, 58, 99, 126, 98, 62, 45, 58, 98, 35, 113, 62, 66, 41, 40, 66, 41, 41]⟩ = Ch.tT d := by rfl
  have hv : (⟨#[98]⟩ : ByteArray) ++ ⟨#[Ch.dgB d]⟩ = ⟨#[98, Ch.dgB d]⟩ := by rfl
  have HB : Hid (Tryz.prog.built 26 [(0, .string ⟨#[82, 65]⟩), (2, .string ⟨#[98, Ch.dgB d]⟩)] = some (asA (Ch.asT d))) := hid (by rw [Ch.asT_pos (by omega)]; exact built_T _)
  have E3 := fun W => hid (cStart_any W (Ch.tT d))
  rw [Ch.startT hN] at E3
  simp only at E3
  have EP : ∀ W, Hid (Calls Tryz.prog 23 #[.string ⟨#[82, 65]⟩] W fun x w' => x = .returned (.agg (asA (Ch.asT 0))) ∧ Kp (fun _ => False) W w') := fun W => hid (plain_any W ⟨#[82, 65]⟩)
  have EQ : ∀ W, Hid (Calls Tryz.prog 23 #[.string ⟨#[82, 66]⟩] W fun x w' => x = .returned (.agg (asA Ch.asTB)) ∧ Kp (fun _ => False) W w') := fun W => hid (plain_any W ⟨#[82, 66]⟩)
  have ES := fun W => hid (same_any W (Ch.asT 0))
  have ERa := fun W => hid (runOk_any W (Ch.smT 0) (Ch.runTa hN))
  have HN := hid hN
  clear hN
  go_wp2_with fail
  refine Calls.mono (Hid.out E2) ?_
  rintro x w1 ⟨rfl, K1⟩
  go_wp2_with fail
  refine Calls.mono (Hid.out (E3 _)) ?_
  rintro x w2 ⟨rfl, K2⟩
  have hnew := heap_alloc_new w2 (.cells #[.string ⟨#[]⟩, .string ⟨#[]⟩, .string ⟨#[]⟩, .int .i64 0, .int .i64 0, .int .i64 0] 26)
  have h3 := setRow_heap (w2.alloc (.cells #[.string ⟨#[]⟩, .string ⟨#[]⟩, .string ⟨#[]⟩, .int .i64 0, .int .i64 0, .int .i64 0] 26)) w2.heap.size #[.string ⟨#[]⟩, .string ⟨#[]⟩, .string ⟨#[]⟩, .int .i64 0, .int .i64 0, .int .i64 0] (asA (Ch.asT 0)) 26 (0, 0) hnew
  have K3 : Kp (fun _ => False) w0 ((w2.alloc (.cells #[.string ⟨#[]⟩, .string ⟨#[]⟩, .string ⟨#[]⟩, .int .i64 0, .int .i64 0, .int .i64 0] 26)).setRow w2.heap.size (asA (Ch.asT 0))) := ((K1.trans K2).alloc _).setRow (fun x => by have := (K1.trans K2).size; omega) _
  clear E2 E3 K1 K2 ht
  go_upto_region 4 with (refine wpList_store_row rfl 26 (.tmp 7) (.tmp 27) rfl w2.heap.size (asA (Ch.asT 0)) rfl rfl 26 #[.string ⟨#[]⟩, .string ⟨#[]⟩, .string ⟨#[]⟩, .int .i64 0, .int .i64 0, .int .i64 0] hnew (asInfo _) rfl (asOne _) ?_)
  generalize (w2.alloc (.cells #[.string ⟨#[]⟩, .string ⟨#[]⟩, .string ⟨#[]⟩, .int .i64 0, .int .i64 0, .int .i64 0] 26)).setRow w2.heap.size (asA (Ch.asT 0)) = w3 at *
  generalize w2.heap.size = sb at *
  clear hnew
  have hS3 : AsR w3.drew sb (Ch.asT 0) := h3
  refine region_begin (fun w' => AsR w' sb (Ch.asT 0)) (by kernel_rfl) ?_
  refine take_op 0 30 (.agg (asA (Ch.asT 0))) rfl (by kernel_rfl) (by kernel_rfl) (by kernel_rfl) rfl rfl (fun w' hS => exec_load_row 26 (.tmp 7) rfl sb (by simp [Act.eval]) 26 _ (0, 0) da hS hdA hdAa (asInfo _)) hS3 ?_
  refine do_op 1 (by kernel_rfl) rfl rfl ?_
  refine wp_enter (some 31) rfl 23 #[.string ⟨#[82, 65]⟩] (by simp [execOp, Act.eval, go_sem]) (.agg (asA (Ch.asT 0))) (fun w' => Kp (fun _ => False) w3.drew w') (EP _).out ?_
  intro w4 K4
  have hs4 := hS3.keep K4 (fun x => x)
  refine ⟨hs4, ?_⟩
  refine do_op 2 (by kernel_rfl) rfl rfl ?_
  refine wp_enter (some 32) rfl 21 #[.agg (asA (Ch.asT 0)), .agg (asA (Ch.asT 0))] (by simp [execOp, Act.eval, Act.put, go_sem]) (.bool true) (fun w' => Kp (fun _ => False) w4 w') (ES _).out ?_
  intro w5 K5
  have hs5 := hs4.keep K5 (fun x => x)
  refine ⟨hs5, ?_⟩
  refine take_op 3 10 (.bool true) rfl (by kernel_rfl) (by kernel_rfl) (by kernel_rfl) rfl rfl (fun w' _ => by simp [execOp, Act.eval, Act.put, go_sem]) hs5 ?_
  refine wpAnyH_done (by kernel_rfl) (NoPanic.normal ?_) _
  simp only [Act.put, List.setIfInBounds_toArray, List.set_cons_succ, List.set_cons_zero]
  have KC : Kp (fun _ => False) w0 w5 := ((K3.drewN 1).trans K4).trans K5
  have HX := hid (And.intro hs5 KC)
  have E2 := fun W => hid (digit_any W d hd9)
  clear ES K3 K4 K5 h3 hS3 hs4 hs5 KC
  go_wp2_with fail
  refine Calls.mono (Hid.out (E2 _)) ?_
  rintro x w6 ⟨rfl, K6⟩
  have hs6 := HX.out.1.keep K6 (fun x => x)
  have KD := HX.out.2.trans K6
  have hnew := heap_alloc_new w6 (.cells #[.string ⟨#[]⟩, .string ⟨#[]⟩, .string ⟨#[]⟩, .int .i64 0, .int .i64 0, .int .i64 0] 26)
  have h7 := setRow_heap (w6.alloc (.cells #[.string ⟨#[]⟩, .string ⟨#[]⟩, .string ⟨#[]⟩, .int .i64 0, .int .i64 0, .int .i64 0] 26)) w6.heap.size #[.string ⟨#[]⟩, .string ⟨#[]⟩, .string ⟨#[]⟩, .int .i64 0, .int .i64 0, .int .i64 0] (asA (Ch.asT d)) 26 (0, 0) hnew
  have K7 : Kp (fun _ => False) w6 ((w6.alloc (.cells #[.string ⟨#[]⟩, .string ⟨#[]⟩, .string ⟨#[]⟩, .int .i64 0, .int .i64 0, .int .i64 0] 26)).setRow w6.heap.size (asA (Ch.asT d))) := ((Kp.refl _ _).alloc _).setRow (fun x => by omega) _
  have hs7 := hs6.keep K7 (fun x => x)
  have KE := KD.trans K7
  have hga : w0.heap.size ≤ w6.heap.size := KD.size
  clear K6 K7 hs6 KD HX E2
  go_upto_region 8 with (first | (refine wpList_build_eq rfl 26 #[(0, .const (.string ⟨#[82, 65]⟩)), (2, .tmp 45)] rfl (asA (Ch.asT d)) [(0, .string ⟨#[82, 65]⟩), (2, .string ⟨#[98, Ch.dgB d]⟩)] ?_ HB.out ?_; rfl) | refine wpList_store_row rfl 26 (.tmp 11) (.tmp 46) rfl w6.heap.size (asA (Ch.asT d)) rfl rfl 26 #[.string ⟨#[]⟩, .string ⟨#[]⟩, .string ⟨#[]⟩, .int .i64 0, .int .i64 0, .int .i64 0] hnew (asInfo _) rfl (asOne _) ?_)
  generalize (w6.alloc (.cells #[.string ⟨#[]⟩, .string ⟨#[]⟩, .string ⟨#[]⟩, .int .i64 0, .int .i64 0, .int .i64 0] 26)).setRow w6.heap.size (asA (Ch.asT d)) = w7 at *
  generalize w6.heap.size = ab at *
  clear hnew HB hv
  go_wp2_with (first | refine wpList_load_row rfl 26 (.tmp 7) rfl sb rfl 26 (asA (Ch.asT 0)) (0, 0) da hs7 hdA (by cases da <;> first | rfl | exact absurd hdAa (by simp [isAggD])) (asInfo _) ?_ | refine wpList_load_row rfl 26 (.tmp 11) rfl ab rfl 26 (asA (Ch.asT d)) (0, 0) da h7 hdA (by cases da <;> first | rfl | exact absurd hdAa (by simp [isAggD])) (asInfo _) ?_)
  refine Calls.mono (Hid.out (ERa _)) ?_
  rintro x w8 ⟨rfl, K8⟩
  have h8 : AsR w8 ab (Ch.asT d) := K8.at_ h7 (fun x => x)
  have KF := KE.trans K8
  clear ERa K8 h7 hs7 KE
  have EC8 := EC w8 d hd1 (by omega)
  clear EC
  go_wp2_with fail
  refine Calls.mono (Hid.out EC8) ?_
  rintro x w9 ⟨e, rfl, he, rfl⟩
  clear EC8
  go_wp2_with fail
  go_loopw [13] (fun i wr => ∃ j : Nat, i = .int .i64 j ∧ 1 ≤ j ∧ j ≤ d ∧ AsR wr ab (Ch.asT (d + 1 - j)) ∧ Kp (fun k => k = ab) w9 wr) (fun i _ => d - (intOf i).toNat)
  case atStart => exact ⟨1, rfl, by omega, hd1, by rw [show d + 1 - 1 = d by omega]; exact h8, Kp.refl _ _⟩
  case round =>
    obtain ⟨j, rfl, hj1, hjd, hs, KW⟩ := hrel
    by_cases hlt : j < d
    · have hlt' : (j : Int) < (d : Int) := by omega
      obtain ⟨m, hm⟩ : ∃ m, m = d + 1 - j := ⟨_, rfl⟩
      rw [← hm] at hs
      obtain ⟨m1, hm1⟩ : ∃ m1, m1 = d - j := ⟨_, rfl⟩
      have hsub : (d : Int) - (j : Int) = (m1 : Int) := by omega
      have ERc := fun W => hid (runOk_any W (Ch.smT m) (Ch.runTc HN.out (Ch.nine_in (d := m) (by omega) (by omega))))
      have ER0 := fun W => hid (runOk_any W (Ch.smT 0) (Ch.runT0 HN.out))
      have ERm := fun W => hid (runOk_any W (Ch.smT m) (Ch.runTm HN.out (m := m) (by omega) (by omega)))
      rw [show m - 1 = m1 by omega] at ERm
      have E4 := fun W => hid (digit_any W m1 (by omega))
      have hv2 : (⟨#[98]⟩ : ByteArray) ++ ⟨#[Ch.dgB m1]⟩ = ⟨#[98, Ch.dgB m1]⟩ := by rfl
      have HB2 : Hid (Tryz.prog.built 26 [(0, .string ⟨#[82, 65]⟩), (2, .string ⟨#[98, Ch.dgB m1]⟩)] = some (asA (Ch.asT m1))) := hid (by rw [Ch.asT_pos (by omega)]; exact built_T _)
      have HM := hid (And.intro hm hm1)
      clear hm hm1
      by_cases je : j = e + 1
      · have je' : ((j : Int) == (e : Int) + 1) = true := by simp; omega
        have HJ := hid je
        clear je
        go_upto_region 16 with (fail)
        have hs' : AsR wr.drew ab (Ch.asT m) := hs
        refine region_begin (fun w' => AsR w' ab (Ch.asT m)) (by kernel_rfl) ?_
        refine take_op 0 65 (.string (Ch.tT d)) rfl (by kernel_rfl) (by kernel_rfl) (by kernel_rfl) rfl rfl (fun w' _ => by simp [execOp, Act.eval, go_sem]) hs' ?_
        refine take_op 1 66 (.agg (asA (Ch.asT m))) rfl (by kernel_rfl) (by kernel_rfl) (by kernel_rfl) rfl rfl (fun w' hS => exec_load_row 26 (.tmp 11) rfl ab (by simp [Act.eval, Act.put]) 26 _ (0, 0) da hS hdA hdAa (asInfo _)) hs' ?_
        refine do_op 2 (by kernel_rfl) rfl rfl ?_
        refine wp_enter (some 67) rfl 23 #[.string ⟨#[82, 65]⟩] (by simp [execOp, Act.eval, go_sem]) (.agg (asA (Ch.asT 0))) (fun w' => Kp (fun _ => False) wr.drew w') (EP _).out ?_
        intro wx Kx
        have hsx := hs'.keep Kx (fun x => x)
        refine ⟨hsx, ?_⟩
        refine do_op 3 (by kernel_rfl) rfl rfl ?_
        refine wp_enter (some 68) rfl 22 #[.string (Ch.tT d), .agg (asA (Ch.asT m)), .int .u8 99, .agg (asA (Ch.asT 0)), .string ⟨#[]⟩] (by simp [execOp, Act.eval, Act.put, go_sem]) (.bool true) (fun w' => Kp (fun _ => False) wx w') (ERc _).out ?_
        intro wy Ky
        have hsy := hsx.keep Ky (fun x => x)
        refine ⟨hsy, ?_⟩
        refine take_op 4 14 (.bool true) rfl (by kernel_rfl) (by kernel_rfl) (by kernel_rfl) rfl rfl (fun w' _ => by simp [execOp, Act.eval, Act.put, go_sem]) hsy ?_
        refine wpAnyH_done (by kernel_rfl) (NoPanic.normal ?_) _
        simp only [Act.put, List.setIfInBounds_toArray, List.set_cons_succ, List.set_cons_zero]
        have KWy : Kp (fun k => k = ab) w9 wy := KW.trans' (((Kp.refl (fun _ => False) wr).drewN 1).trans (Kx.trans Ky)) (fun i _ x => x.elim)
        clear hs hs' hsx Kx Ky KW ERc
        go_wp2_with fail
        refine Calls.mono (Hid.out (EP _)) ?_
        rintro x wz ⟨rfl, Kz⟩
        go_wp2_with fail
        refine Calls.mono (Hid.out (EP _)) ?_
        rintro x wu ⟨rfl, Ku⟩
        go_wp2_with fail
        refine Calls.mono (Hid.out (ER0 _)) ?_
        rintro x wv ⟨rfl, Kv⟩
        have HW := hid (And.intro (hsy.keep ((Kz.trans Ku).trans Kv) (fun x => x)) (KWy.trans' ((Kz.trans Ku).trans Kv) (fun i _ x => x.elim)))
        clear hsy KWy Kz Ku Kv ER0
        go_wp2_with fail
        refine Calls.mono (Hid.out (E4 _)) ?_
        rintro x wa ⟨rfl, Ka⟩
        have hsa := HW.out.1.keep Ka (fun x => x)
        have KWa := HW.out.2.trans' Ka (fun i _ x => x.elim)
        have hnew := heap_alloc_new wa (.cells #[.string ⟨#[]⟩, .string ⟨#[]⟩, .string ⟨#[]⟩, .int .i64 0, .int .i64 0, .int .i64 0] 26)
        have hb := setRow_heap (wa.alloc (.cells #[.string ⟨#[]⟩, .string ⟨#[]⟩, .string ⟨#[]⟩, .int .i64 0, .int .i64 0, .int .i64 0] 26)) wa.heap.size #[.string ⟨#[]⟩, .string ⟨#[]⟩, .string ⟨#[]⟩, .int .i64 0, .int .i64 0, .int .i64 0] (asA (Ch.asT m1)) 26 (0, 0) hnew
        have Kb : Kp (fun _ => False) wa ((wa.alloc (.cells #[.string ⟨#[]⟩, .string ⟨#[]⟩, .string ⟨#[]⟩, .int .i64 0, .int .i64 0, .int .i64 0] 26)).setRow wa.heap.size (asA (Ch.asT m1))) := ((Kp.refl _ _).alloc _).setRow (fun x => by omega) _
        have hsb := hsa.keep Kb (fun x => x)
        have KWb := KWa.trans' Kb (fun i _ x => x.elim)
        have hne : ab ≠ wa.heap.size := by have := hsa.lt; omega
        clear Ka Kb hsa KWa HW E4
        go_upto_region 21 with (first | (refine wpList_build_eq rfl 26 #[(0, .const (.string ⟨#[82, 65]⟩)), (2, .tmp 83)] rfl (asA (Ch.asT m1)) [(0, .string ⟨#[82, 65]⟩), (2, .string ⟨#[98, Ch.dgB m1]⟩)] ?_ HB2.out ?_; rfl) | refine wpList_store_row rfl 26 (.tmp 16) (.tmp 84) rfl wa.heap.size (asA (Ch.asT m1)) rfl rfl 26 #[.string ⟨#[]⟩, .string ⟨#[]⟩, .string ⟨#[]⟩, .int .i64 0, .int .i64 0, .int .i64 0] hnew (asInfo _) rfl (asOne _) ?_)
        generalize (wa.alloc (.cells #[.string ⟨#[]⟩, .string ⟨#[]⟩, .string ⟨#[]⟩, .int .i64 0, .int .i64 0, .int .i64 0] 26)).setRow wa.heap.size (asA (Ch.asT m1)) = wb at *
        generalize wa.heap.size = tb at *
        clear hnew
        go_wp2_with (first | refine wpList_load_row rfl 26 (.tmp 11) rfl ab rfl 26 (asA (Ch.asT m)) (0, 0) da hsb hdA (by cases da <;> first | rfl | exact absurd hdAa (by simp [isAggD])) (asInfo _) ?_ | refine wpList_load_row rfl 26 (.tmp 16) rfl tb rfl 26 (asA (Ch.asT m1)) (0, 0) da hb hdA (by cases da <;> first | rfl | exact absurd hdAa (by simp [isAggD])) (asInfo _) ?_)
        refine Calls.mono (Hid.out (ERm _)) ?_
        rintro x wd ⟨rfl, Kd⟩
        have hsd := hsb.keep Kd (fun x => x)
        have hbd := Kd.at_ hb (fun x => x)
        have KWd := (KWb.trans' Kd (fun i _ x => x.elim)).setRow (g := ab) (fun _ => rfl) (asA (Ch.asT m1))
        have hse : AsR (wd.setRow ab (asA (Ch.asT m1))) ab (Ch.asT m1) := setRow_heap _ _ _ _ _ _ hsd
        clear Kd hsb hb KWb ERm
        go_wp2_with (first | refine wpList_load_row rfl 26 (.tmp 16) rfl tb rfl 26 (asA (Ch.asT m1)) (0, 0) da hbd hdA (by cases da <;> first | rfl | exact absurd hdAa (by simp [isAggD])) (asInfo _) ?_ | refine wpList_store_row rfl 26 (.tmp 11) (.tmp 91) rfl ab (asA (Ch.asT m1)) rfl rfl 26 (asA (Ch.asT m)) hsd (asInfo _) rfl (asOne _) ?_)
        go_roundw
        case rel => exact ⟨j + 1, by go_num, by omega, by omega, by rw [show d + 1 - (j + 1) = m1 by omega]; exact hse, KWd⟩
        case measure => simp [intOf]; omega
      · have je' : ((j : Int) == (e : Int) + 1) = false := by simp; omega
        have HJ := hid je
        have HW := hid (And.intro hs KW)
        clear je hs KW ERc ER0
        go_wp2_with fail
        refine Calls.mono (Hid.out (E4 _)) ?_
        rintro x wa ⟨rfl, Ka⟩
        have hsa := HW.out.1.keep Ka (fun x => x)
        have KWa := HW.out.2.trans' Ka (fun i _ x => x.elim)
        have hnew := heap_alloc_new wa (.cells #[.string ⟨#[]⟩, .string ⟨#[]⟩, .string ⟨#[]⟩, .int .i64 0, .int .i64 0, .int .i64 0] 26)
        have hb := setRow_heap (wa.alloc (.cells #[.string ⟨#[]⟩, .string ⟨#[]⟩, .string ⟨#[]⟩, .int .i64 0, .int .i64 0, .int .i64 0] 26)) wa.heap.size #[.string ⟨#[]⟩, .string ⟨#[]⟩, .string ⟨#[]⟩, .int .i64 0, .int .i64 0, .int .i64 0] (asA (Ch.asT m1)) 26 (0, 0) hnew
        have Kb : Kp (fun _ => False) wa ((wa.alloc (.cells #[.string ⟨#[]⟩, .string ⟨#[]⟩, .string ⟨#[]⟩, .int .i64 0, .int .i64 0, .int .i64 0] 26)).setRow wa.heap.size (asA (Ch.asT m1))) := ((Kp.refl _ _).alloc _).setRow (fun x => by omega) _
        have hsb := hsa.keep Kb (fun x => x)
        have KWb := KWa.trans' Kb (fun i _ x => x.elim)
        have hne : ab ≠ wa.heap.size := by have := hsa.lt; omega
        clear Ka Kb hsa KWa HW E4
        go_upto_region 21 with (first | (refine wpList_build_eq rfl 26 #[(0, .const (.string ⟨#[82, 65]⟩)), (2, .tmp 83)] rfl (asA (Ch.asT m1)) [(0, .string ⟨#[82, 65]⟩), (2, .string ⟨#[98, Ch.dgB m1]⟩)] ?_ HB2.out ?_; rfl) | refine wpList_store_row rfl 26 (.tmp 16) (.tmp 84) rfl wa.heap.size (asA (Ch.asT m1)) rfl rfl 26 #[.string ⟨#[]⟩, .string ⟨#[]⟩, .string ⟨#[]⟩, .int .i64 0, .int .i64 0, .int .i64 0] hnew (asInfo _) rfl (asOne _) ?_)
        generalize (wa.alloc (.cells #[.string ⟨#[]⟩, .string ⟨#[]⟩, .string ⟨#[]⟩, .int .i64 0, .int .i64 0, .int .i64 0] 26)).setRow wa.heap.size (asA (Ch.asT m1)) = wb at *
        generalize wa.heap.size = tb at *
        clear hnew
        go_wp2_with (first | refine wpList_load_row rfl 26 (.tmp 11) rfl ab rfl 26 (asA (Ch.asT m)) (0, 0) da hsb hdA (by cases da <;> first | rfl | exact absurd hdAa (by simp [isAggD])) (asInfo _) ?_ | refine wpList_load_row rfl 26 (.tmp 16) rfl tb rfl 26 (asA (Ch.asT m1)) (0, 0) da hb hdA (by cases da <;> first | rfl | exact absurd hdAa (by simp [isAggD])) (asInfo _) ?_)
        refine Calls.mono (Hid.out (ERm _)) ?_
        rintro x wd ⟨rfl, Kd⟩
        have hsd := hsb.keep Kd (fun x => x)
        have hbd := Kd.at_ hb (fun x => x)
        have KWd := (KWb.trans' Kd (fun i _ x => x.elim)).setRow (g := ab) (fun _ => rfl) (asA (Ch.asT m1))
        have hse : AsR (wd.setRow ab (asA (Ch.asT m1))) ab (Ch.asT m1) := setRow_heap _ _ _ _ _ _ hsd
        clear Kd hsb hb KWb ERm
        go_wp2_with (first | refine wpList_load_row rfl 26 (.tmp 16) rfl tb rfl 26 (asA (Ch.asT m1)) (0, 0) da hbd hdA (by cases da <;> first | rfl | exact absurd hdAa (by simp [isAggD])) (asInfo _) ?_ | refine wpList_store_row rfl 26 (.tmp 11) (.tmp 91) rfl ab (asA (Ch.asT m1)) rfl rfl 26 (asA (Ch.asT m)) hsd (asInfo _) rfl (asOne _) ?_)
        go_roundw
        case rel => exact ⟨j + 1, by go_num, by omega, by omega, by rw [show d + 1 - (j + 1) = m1 by omega]; exact hse, KWd⟩
        case measure => simp [intOf]; omega
    · have hge : ¬ (j : Int) < (d : Int) := by omega
      rw [show d + 1 - j = 1 by omega] at hs
      have ERz := fun W => hid (runOk_any W (Ch.smT 1) (Ch.runT1 HN.out))
      go_upto_region 25 with (fail)
      have hs' : AsR wr.drew ab (Ch.asT 1) := hs
      refine region_begin (fun w' => AsR w' ab (Ch.asT 1)) (by kernel_rfl) ?_
      refine take_op 0 92 (.string (Ch.tT d)) rfl (by kernel_rfl) (by kernel_rfl) (by kernel_rfl) rfl rfl (fun w' _ => by simp [execOp, Act.eval, go_sem]) hs' ?_
      refine take_op 1 93 (.agg (asA (Ch.asT 1))) rfl (by kernel_rfl) (by kernel_rfl) (by kernel_rfl) rfl rfl (fun w' hS => exec_load_row 26 (.tmp 11) rfl ab (by simp [Act.eval, Act.put]) 26 _ (0, 0) da hS hdA hdAa (asInfo _)) hs' ?_
      refine do_op 2 (by kernel_rfl) rfl rfl ?_
      refine wp_enter (some 94) rfl 23 #[.string ⟨#[82, 66]⟩] (by simp [execOp, Act.eval, go_sem]) (.agg (asA Ch.asTB)) (fun w' => Kp (fun _ => False) wr.drew w') (EQ _).out ?_
      intro wx Kx
      have hsx := hs'.keep Kx (fun x => x)
      refine ⟨hsx, ?_⟩
      refine do_op 3 (by kernel_rfl) rfl rfl ?_
      refine wp_enter (some 95) rfl 22 #[.string (Ch.tT d), .agg (asA (Ch.asT 1)), .int .u8 32, .agg (asA Ch.asTB), .string ⟨#[113]⟩] (by simp [execOp, Act.eval, Act.put, go_sem]) (.bool true) (fun w' => Kp (fun _ => False) wx w') (ERz _).out ?_
      intro wy Ky
      have hsy := hsx.keep Ky (fun x => x)
      refine ⟨hsy, ?_⟩
      refine take_op 4 4 (.bool true) rfl (by kernel_rfl) (by kernel_rfl) (by kernel_rfl) rfl rfl (fun w' _ => by simp [execOp, Act.eval, Act.put, go_sem]) hsy ?_
      refine wpAnyH_done (by kernel_rfl) (NoPanic.normal ?_) _
      simp only [Act.put, List.setIfInBounds_toArray, List.set_cons_succ, List.set_cons_zero]
      have KG : Kp (fun _ => False) w0 wy := KF.trans' (KW.trans' (((Kp.refl (fun _ => False) wr).drewN 1).trans (Kx.trans Ky)) (fun i _ x => x.elim)) (fun i hi x => by omega)
      go_wp2
      go_ret
      exact ⟨rfl, KG⟩

end

end Go.Proofs.YtnlbchmfcebeeaaGreat
