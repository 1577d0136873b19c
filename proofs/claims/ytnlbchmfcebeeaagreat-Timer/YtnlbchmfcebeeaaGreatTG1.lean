/- Walks: Joined. -/
import Derived.Test.YtnlbchmfcebeeaaGreatTF8
import Derived.Test.YtnlbchmfcebeeaaGreatTF9
import Derived.Deep.CutRange
namespace Go.Proofs.YtnlbchmfcebeeaaGreat
open Go.RowKit

namespace Ch
def plainA (s : ByteArray) : As := ⟨s, ⟨#[]⟩, ⟨#[]⟩, 0, 0, 0⟩
def prefJ (s : J3) : Nat → ByteArray
  | 0 => ⟨#[82, 80]⟩
  | 1 => ⟨#[82, 80, 65, if s.a then 67 else 66]⟩
  | 2 => ⟨#[82, 80, 65, if s.a then 67 else 66, 68, if s.b then 70 else 69]⟩
  | _ => s.act
theorem pref1t {s : J3} (h : s.a = true) : prefJ s 0 ++ ⟨#[65, 67]⟩ = prefJ s 1 := by unfold prefJ; rw [h]; rfl
theorem pref1f {s : J3} (h : s.a = false) : prefJ s 0 ++ ⟨#[65, 66]⟩ = prefJ s 1 := by unfold prefJ; rw [h]; rfl
theorem pref2t {s : J3} (h : s.b = true) : prefJ s 1 ++ ⟨#[68, 70]⟩ = prefJ s 2 := by unfold prefJ; rw [h]; rfl
theorem pref2f {s : J3} (h : s.b = false) : prefJ s 1 ++ ⟨#[68, 69]⟩ = prefJ s 2 := by unfold prefJ; rw [h]; rfl
theorem pref3t {s : J3} (h : s.c = true) : prefJ s 2 ++ ⟨#[71, 73]⟩ = prefJ s 3 := by unfold prefJ J3.act; rw [h]; rfl
theorem pref3f {s : J3} (h : s.c = false) : prefJ s 2 ++ ⟨#[71, 72]⟩ = prefJ s 3 := by unfold prefJ J3.act; rw [h]; rfl
def step1J (s : J3) (b : Nat) : J3 := if b == 97 then ⟨true, s.b, s.c⟩ else if b == 98 then ⟨s.a, true, s.c⟩ else if b == 99 then ⟨s.a, s.b, true⟩ else s
theorem outJ_eq (s : J3) (b : Nat) : outJ s b = if allJ (step1J s b) && !allJ s then ⟨#[107]⟩ else ⟨#[]⟩ := by
  unfold outJ
  by_cases h : b = 114
  · subst h
    have e1 : allJ (nextJ s 114) = false := rfl
    have e2 : step1J s 114 = s := rfl
    rw [e1, e2]
    cases allJ s <;> rfl
  · have e : nextJ s b = step1J s b := by
      unfold nextJ step1J
      have h' : (b == 114) = false := by simpa using h
      rw [h']
      rfl
    rw [e]
end Ch
theorem Tryz.sizeDb : (Tryz.prog.info? 34).map (·.size) = some 3 := by kernel_rfl
/-- Three truths in a block. -/
def DbR (w : World) (b : Nat) (s : Ch.J3) : Prop := w.heap[b]? = some (.cells #[.bool s.a, .bool s.b, .bool s.c] 34 (0, 0))
section
variable {w : World} {b : Nat} {s : Ch.J3}
theorem DbR.c0 (h : DbR w b s) : w.cell? ⟨b, 0, none⟩ = some (.bool s.a) := by rw [World.cell?, h]; rfl
theorem DbR.c1 (h : DbR w b s) : w.cell? ⟨b, 1, none⟩ = some (.bool s.b) := by rw [World.cell?, h]; rfl
theorem DbR.c2 (h : DbR w b s) : w.cell? ⟨b, 2, none⟩ = some (.bool s.c) := by rw [World.cell?, h]; rfl
theorem DbR.fz (h : DbR w b s) (i : Nat) : w.frozen? ⟨b, i, none⟩ = false := by unfold DbR at h; simp [World.frozen?, h]
theorem DbR.set0 (h : DbR w b s) (v : Bool) : DbR (w.setCell ⟨b, 0, none⟩ (.bool v)) b ⟨v, s.b, s.c⟩ := by unfold DbR at *; rw [heap_setCell_same _ _ _ _ _ _ h]; rfl
theorem DbR.set1 (h : DbR w b s) (v : Bool) : DbR (w.setCell ⟨b, 1, none⟩ (.bool v)) b ⟨s.a, v, s.c⟩ := by unfold DbR at *; rw [heap_setCell_same _ _ _ _ _ _ h]; rfl
theorem DbR.set2 (h : DbR w b s) (v : Bool) : DbR (w.setCell ⟨b, 2, none⟩ (.bool v)) b ⟨s.a, s.b, v⟩ := by unfold DbR at *; rw [heap_setCell_same _ _ _ _ _ _ h]; rfl
end
theorem built_plain (s : ByteArray) : Tryz.prog.built 26 [(0, .string s)] = some (asA (Ch.plainA s)) := by kernel_rfl

section
variable (w : World)

set_option maxHeartbeats 400000 in
set_option maxRecDepth 100000 in
theorem plain_any (s : ByteArray) :
    Calls Tryz.prog 23 #[.string s] w fun x w' => x = .returned (.agg (asA (Ch.plainA s))) ∧ Kp (fun _ => False) w w' := by
  obtain ⟨da, hdA, hdAa⟩ := Tryz.undAs
  have HB := hid (built_plain s)
  have rO := asOne (Ch.plainA s)
  have rI := asInfo (Ch.plainA s)
  have rS : (asA (Ch.plainA s)).size = 6 := rfl
  have hnew := heap_alloc_new w (.cells #[.string ⟨#[]⟩, .string ⟨#[]⟩, .string ⟨#[]⟩, .int .i64 0, .int .i64 0, .int .i64 0] 26)
  have KF : Kp (fun _ => False) w ((w.alloc (.cells #[.string ⟨#[]⟩, .string ⟨#[]⟩, .string ⟨#[]⟩, .int .i64 0, .int .i64 0, .int .i64 0] 26)).setRow w.heap.size (asA (Ch.plainA s))) := ((Kp.refl _ _).alloc _).setRow (fun x => by omega) _
  generalize asA (Ch.plainA s) = PA at *
  go_enter Tryz.func23, Tryz.ntmps23
  go_wp2_with (first | (refine wpList_build_eq rfl 26 #[(0, .tmp 3)] rfl PA [(0, .string s)] ?_ HB.out ?_; rfl) | refine wpList_store_row rfl 26 (.tmp 2) (.tmp 4) rfl w.heap.size PA rfl rfl 26 #[.string ⟨#[]⟩, .string ⟨#[]⟩, .string ⟨#[]⟩, .int .i64 0, .int .i64 0, .int .i64 0] hnew rI (by rw [rS]; rfl) rO ?_)
  refine bodyPost_ret (results_cell_row rfl _ _ w.heap.size 26 PA (0, 0) da rfl (setRow_heap _ _ _ _ _ _ hnew) hdA (by cases da <;> first | rfl | exact absurd hdAa (by simp [isAggD])) rI) rfl ?_
  exact ⟨rfl, KF⟩


set_option maxHeartbeats 3200000 in
set_option maxRecDepth 100000 in
theorem joined_any (ev : ByteArray) (hsz : ev.size ≤ 9223372036854775807) :
    Calls Tryz.prog 9 #[.string ev] w fun x w' => x = .returned (.bool true) ∧ Kp (fun _ => False) w w' := by
  obtain ⟨da, hdA, hdAa⟩ := Tryz.undAs
  have E0 := hid (cStart_any w Ch.tJoin)
  rw [Ch.startJ] at E0
  simp only at E0
  have EP : ∀ W, Hid (Calls Tryz.prog 23 #[.string ⟨#[82, 80, 65, 66, 68, 69, 71, 72]⟩] W fun x w' => x = .returned (.agg (asA (Ch.asJ ⟨false, false, false⟩))) ∧ Kp (fun _ => False) W w') := fun W => hid (plain_any W ⟨#[82, 80, 65, 66, 68, 69, 71, 72]⟩)
  have ES := fun W => hid (same_any W (Ch.asJ ⟨false, false, false⟩))
  have rO := asOne (Ch.asJ ⟨false, false, false⟩)
  have rI := asInfo (Ch.asJ ⟨false, false, false⟩)
  have rS : (asA (Ch.asJ ⟨false, false, false⟩)).size = 6 := rfl
  generalize hA0 : asA (Ch.asJ ⟨false, false, false⟩) = A0 at *
  have HA0 := hid hA0
  clear hA0
  go_enter Tryz.func9, Tryz.ntmps9
  go_wp2_with fail
  refine Calls.mono (Hid.out E0) ?_
  rintro x w1 ⟨rfl, K1⟩
  have hnew := heap_alloc_new w1 (.cells #[.string ⟨#[]⟩, .string ⟨#[]⟩, .string ⟨#[]⟩, .int .i64 0, .int .i64 0, .int .i64 0] 26)
  have h2 := setRow_heap (w1.alloc (.cells #[.string ⟨#[]⟩, .string ⟨#[]⟩, .string ⟨#[]⟩, .int .i64 0, .int .i64 0, .int .i64 0] 26)) w1.heap.size #[.string ⟨#[]⟩, .string ⟨#[]⟩, .string ⟨#[]⟩, .int .i64 0, .int .i64 0, .int .i64 0] A0 26 (0, 0) hnew
  have K2 : Kp (fun _ => False) w ((w1.alloc (.cells #[.string ⟨#[]⟩, .string ⟨#[]⟩, .string ⟨#[]⟩, .int .i64 0, .int .i64 0, .int .i64 0] 26)).setRow w1.heap.size A0) := (K1.alloc _).setRow (fun x => by have := K1.size; omega) _
  have hge : w.heap.size ≤ w1.heap.size := K1.size
  clear K1 E0
  go_upto_region 3 with (refine wpList_store_row rfl 26 (.tmp 4) (.tmp 20) rfl w1.heap.size A0 rfl rfl 26 #[.string ⟨#[]⟩, .string ⟨#[]⟩, .string ⟨#[]⟩, .int .i64 0, .int .i64 0, .int .i64 0] hnew rI (by rw [rS]; rfl) rO ?_)
  generalize (w1.alloc (.cells #[.string ⟨#[]⟩, .string ⟨#[]⟩, .string ⟨#[]⟩, .int .i64 0, .int .i64 0, .int .i64 0] 26)).setRow w1.heap.size A0 = w2 at *
  generalize w1.heap.size = sb at *
  clear hnew
  refine region_begin (fun w' => w'.heap[sb]? = some (.cells A0 26 (0, 0))) (by kernel_rfl) ?_
  refine take_op 0 23 (.agg A0) rfl (by kernel_rfl) (by kernel_rfl) (by kernel_rfl) rfl rfl (fun w' hS => exec_load_row 26 (.tmp 4) rfl sb (by simp [Act.eval]) 26 A0 (0, 0) da hS hdA hdAa rI) (show w2.drew.heap[sb]? = _ from h2) ?_
  refine do_op 1 (by kernel_rfl) rfl rfl ?_
  refine wp_enter (some 24) rfl 23 #[.string ⟨#[82, 80, 65, 66, 68, 69, 71, 72]⟩] (by simp [execOp, Act.eval, go_sem]) (.agg A0) (fun w' => Kp (fun _ => False) w2.drew w') (EP _).out ?_
  intro w3 K3
  have h3 : w3.heap[sb]? = some (.cells A0 26 (0, 0)) := K3.at_ (show w2.drew.heap[sb]? = _ from h2) (fun x => x)
  refine ⟨h3, ?_⟩
  refine do_op 2 (by kernel_rfl) rfl rfl ?_
  refine wp_enter (some 25) rfl 21 #[.agg A0, .agg A0] (by simp [execOp, Act.eval, Act.put, go_sem]) (.bool true) (fun w' => Kp (fun _ => False) w3 w') (ES _).out ?_
  intro w4 K4
  have h4 := K4.at_ h3 (fun x => x)
  refine ⟨h4, ?_⟩
  refine take_op 3 7 (.bool true) rfl (by kernel_rfl) (by kernel_rfl) (by kernel_rfl) rfl rfl (fun w' _ => by simp [execOp, Act.eval, Act.put, go_sem]) h4 ?_
  refine wpAnyH_done (by kernel_rfl) (NoPanic.normal ?_) _
  simp only [Act.put, List.setIfInBounds_toArray, List.set_cons_succ, List.set_cons_zero]
  have KC : Kp (fun _ => False) w w4 := ((K2.drewN 1).trans K3).trans K4
  have hsl : sb < w4.heap.size := lt_of_block h4
  have h5s : AsR (w4.alloc (.cells #[.bool false, .bool false, .bool false] 34)) sb (Ch.asJ ⟨false, false, false⟩) := by
    unfold AsR; rw [HA0.out]; exact (Below.heap_alloc _ _ _ hsl).trans h4
  have h5d : DbR (w4.alloc (.cells #[.bool false, .bool false, .bool false] 34)) w4.heap.size ⟨false, false, false⟩ := heap_alloc_new _ _
  have KD := KC.alloc (.cells #[.bool false, .bool false, .bool false] 34)
  have hgd : w.heap.size ≤ w4.heap.size := KC.size
  clear EP ES K2 K3 K4 KC h2 h3 h4 rO rI rS HA0
  go_wp2_with fail
  generalize (w4.alloc (.cells #[.bool false, .bool false, .bool false] 34)) = w5 at *
  generalize w4.heap.size = db at *
  have hne : sb ≠ db := by omega
  have hne' : db ≠ sb := by omega
  go_loopw [9] (fun i wr => ∃ (k : Nat) (s : Ch.J3), i = .int .i64 k ∧ k ≤ ev.size ∧ AsR wr sb (Ch.asJ s) ∧ DbR wr db s ∧ Kp (fun k => k = sb ∨ k = db) w5 wr) (fun i _ => ev.size - (intOf i).toNat)
  case atStart => exact ⟨0, ⟨false, false, false⟩, rfl, Nat.zero_le _, h5s, h5d, Kp.refl _ _⟩
  case round =>
    obtain ⟨k, s, rfl, hk, hs, hd, KW⟩ := hrel
    by_cases hkl : k < ev.size
    · have hkl' : (k : Int) < (ev.size : Int) := by omega
      have hb256 : (ev[k]'hkl).toNat < 256 := (ev[k]'hkl).toNat_lt
      have hgo := Ch.goesJ s (b := (ev[k]'hkl).toNat) hb256
      have ER := fun W => hid (run_any W 1 (by omega) Ch.tJoin (Ch.asJ s) (Ch.asJ (Ch.nextJ s (ev[k]'hkl).toNat)) ((ev[k]'hkl).toNat : Int) (Ch.outJ s (ev[k]'hkl).toNat) (Ch.smJ _) hgo.2 hgo.1)
      clear hgo
      generalize hb : ((ev[k]'hkl).toNat) = b at *
      rw [Ch.outJ_eq] at ER
      have d0 := hd.c0
      have d1 := hd.c1
      have d2 := hd.c2
      have fz := hd.fz
      have HX := hid (And.intro hs (And.intro hd KW))
      clear hs hd KW h5s h5d KD
      go_upto_region 12 with (fail)
      go_cut [50] from 45 to 49 (fun c wx => c = .bool (decide (97 ≤ b) && decide (b ≤ 99)) ∧ wx = wr)
      case first =>
        by_cases g1 : 97 ≤ b
        · have g1' : (97 : Int) ≤ (b : Int) := by omega
          by_cases g2 : b ≤ 99
          · have g2' : (b : Int) ≤ 99 := by omega
            go_wp2_with fail
            go_meet
            exact ⟨by simp [g1, g2], rfl⟩
          · have g2' : ¬ (b : Int) ≤ 99 := by omega
            go_wp2_with fail
            go_meet
            exact ⟨by simp [g2], rfl⟩
        · have g1' : ¬ (97 : Int) ≤ (b : Int) := by omega
          go_wp2_with fail
          go_meet
          exact ⟨by simp [g1], rfl⟩
      case rest =>
        obtain ⟨rfl, rfl⟩ := hcut
        go_upto_if 50 with (fail)
        go_cut [11, 12] from 51 to 69 (fun o _ wx => o = .string (if Ch.allJ (Ch.step1J s b) && !Ch.allJ s then ⟨#[107]⟩ else ⟨#[]⟩) ∧ DbR wx db (Ch.step1J s b) ∧ Kp (fun k => k = db) wc wx)
        case first =>
          by_cases b97 : b = 97
          · subst b97
            obtain ⟨sa, sb', sc⟩ := s
            simp only at d0 d1 d2
            have hd := HX.out.2.1
            have KS : Kp (fun k => k = db) wc (wc.setCell ⟨db, 0, none⟩ (.bool true)) := Kp.setCell (S := fun k => k = db) (Kp.refl _ _) (p := ⟨db, 0, none⟩) (fun _ => rfl) _
            have hS := hd.set0 true
            have HZ := hid (And.intro hd (And.intro hS KS))
            clear hd hS KS
            cases sa <;> cases sb' <;> cases sc <;> (go_wp2_with fail; go_meet; first | exact ⟨rfl, HZ.out.1, Kp.refl _ _⟩ | exact ⟨rfl, HZ.out.2.1, HZ.out.2.2⟩)
          by_cases b98 : b = 98
          · subst b98
            obtain ⟨sa, sb', sc⟩ := s
            simp only at d0 d1 d2
            have hd := HX.out.2.1
            have KS : Kp (fun k => k = db) wc (wc.setCell ⟨db, 1, none⟩ (.bool true)) := Kp.setCell (S := fun k => k = db) (Kp.refl _ _) (p := ⟨db, 1, none⟩) (fun _ => rfl) _
            have hS := hd.set1 true
            have HZ := hid (And.intro hd (And.intro hS KS))
            clear hd hS KS
            cases sa <;> cases sb' <;> cases sc <;> (go_wp2_with fail; go_meet; first | exact ⟨rfl, HZ.out.1, Kp.refl _ _⟩ | exact ⟨rfl, HZ.out.2.1, HZ.out.2.2⟩)
          by_cases b99 : b = 99
          · subst b99
            obtain ⟨sa, sb', sc⟩ := s
            simp only at d0 d1 d2
            have hd := HX.out.2.1
            have KS : Kp (fun k => k = db) wc (wc.setCell ⟨db, 2, none⟩ (.bool true)) := Kp.setCell (S := fun k => k = db) (Kp.refl _ _) (p := ⟨db, 2, none⟩) (fun _ => rfl) _
            have hS := hd.set2 true
            have HZ := hid (And.intro hd (And.intro hS KS))
            clear hd hS KS
            cases sa <;> cases sb' <;> cases sc <;> (go_wp2_with fail; go_meet; first | exact ⟨rfl, HZ.out.1, Kp.refl _ _⟩ | exact ⟨rfl, HZ.out.2.1, HZ.out.2.2⟩)
          have hcf : (decide (97 ≤ b) && decide (b ≤ 99)) = false := by simp; omega
          have e1 : Ch.step1J s b = s := by simp [Ch.step1J, b97, b98, b99]
          have e2 : (Ch.allJ s && !Ch.allJ s) = false := by cases Ch.allJ s <;> rfl
          have HZ := hid (And.intro e1 (And.intro e2 HX.out.2.1))
          clear e1 e2
          go_wp2_with fail
          go_meet
          rw [HZ.out.1, HZ.out.2.1]
          exact ⟨rfl, HZ.out.2.2, Kp.refl _ _⟩
        case rest =>
          obtain ⟨rfl, hd1, K1⟩ := hcut
          have HY := hid (And.intro hd1 K1)
          clear d0 d1 d2 fz hd1 K1
          generalize hout : (if Ch.allJ (Ch.step1J s b) && !Ch.allJ s then (⟨#[107]⟩ : ByteArray) else ⟨#[]⟩) = out at *
          clear hout
          go_upto_if 71 with (fail)
          go_cut [13] from 72 to 72 (fun _ wx => DbR wx db (Ch.nextJ s b) ∧ Kp (fun k => k = db) wc wx)
          case first =>
            by_cases b114 : b = 114
            · subst b114
              have hd1 := HY.out.1
              have KS : Kp (fun k => k = db) wc (wc.setRow db #[.bool false, .bool false, .bool false]) := Kp.setRow (S := fun k => k = db) (Kp.refl _ _) (g := db) (fun _ => rfl) _
              have hS : DbR (wc.setRow db #[.bool false, .bool false, .bool false]) db ⟨false, false, false⟩ := setRow_heap _ _ _ _ _ _ hd1
              go_wp2_with (refine wpList_store_row rfl 34 (.tmp 8) (.tmp 72) rfl db #[.bool false, .bool false, .bool false] rfl rfl 34 _ hd1 Tryz.sizeDb rfl (by kernel_rfl) ?_)
              go_meet
              exact ⟨hS, KS⟩
            · have b114' : ¬ ((b : Nat) : Int) = 114 := by omega
              have e : Ch.nextJ s b = Ch.step1J s b := by
                unfold Ch.nextJ Ch.step1J
                have h' : (b == 114) = false := by simpa using b114
                rw [h']; rfl
              have HE := hid e
              clear e
              go_wp2_with fail
              go_meet
              rw [HE.out]
              exact ⟨HY.out.1, Kp.refl _ _⟩
          case rest =>
            obtain ⟨hd2, K2⟩ := hcut
            have K12 := HY.out.2.trans K2
            have hs2 := HX.out.1.keep K12 hne
            have K3 : Kp (fun k => k = sb ∨ k = db) w5 wc := HX.out.2.2.trans' K12 (fun i _ x => .inr x)
            generalize Ch.nextJ s b = s2 at *
            have d0 := hd2.c0
            have d1 := hd2.c1
            have d2 := hd2.c2
            have HZ := hid (And.intro hs2 (And.intro hd2 K3))
            have EP : ∀ W, Hid (Calls Tryz.prog 23 #[.string (Ch.prefJ s2 3)] W fun x w' => x = .returned (.agg (asA (Ch.asJ s2))) ∧ Kp (fun _ => False) W w') := fun W => hid (plain_any W s2.act)
            clear HX HY hd2 K2 K12 hs2 K3
            have x0 : (⟨#[65, 67, 68, 70, 71, 73]⟩ : ByteArray).extract 0 2 = ⟨#[65, 67]⟩ := by rfl
            have x1 : (⟨#[65, 67, 68, 70, 71, 73]⟩ : ByteArray).extract 2 4 = ⟨#[68, 70]⟩ := by rfl
            have x2 : (⟨#[65, 67, 68, 70, 71, 73]⟩ : ByteArray).extract 4 6 = ⟨#[71, 73]⟩ := by rfl
            have y0 : (⟨#[65, 66, 68, 69, 71, 72]⟩ : ByteArray).extract 0 2 = ⟨#[65, 66]⟩ := by rfl
            have y1 : (⟨#[65, 66, 68, 69, 71, 72]⟩ : ByteArray).extract 2 4 = ⟨#[68, 69]⟩ := by rfl
            have y2 : (⟨#[65, 66, 68, 69, 71, 72]⟩ : ByteArray).extract 4 6 = ⟨#[71, 72]⟩ := by rfl
            go_wp2_with fail
            go_loop [13, 16] (fun now kk => ∃ j : Nat, kk = .int .i64 j ∧ j ≤ 3 ∧ now = .string (Ch.prefJ s2 j)) (fun _ kk => 3 - (intOf kk).toNat)
            case atStart => exact ⟨0, rfl, by omega, rfl⟩
            case round =>
              obtain ⟨j, rfl, hj, rfl⟩ := hrel
              have hj4 : j = 0 ∨ j = 1 ∨ j = 2 ∨ j = 3 := by omega
              rcases hj4 with rfl | rfl | rfl | rfl
              · cases q : s2.a with
                | true =>
                  rw [q] at d0
                  have hp := Ch.pref1t q
                  go_wp2_with fail
                  go_round
                  case rel => exact ⟨1, rfl, by omega, rfl⟩
                  case measure => simp [intOf]
                | false =>
                  rw [q] at d0
                  have hp := Ch.pref1f q
                  go_wp2_with fail
                  go_round
                  case rel => exact ⟨1, rfl, by omega, rfl⟩
                  case measure => simp [intOf]
              · cases q : s2.b with
                | true =>
                  rw [q] at d1
                  have hp := Ch.pref2t q
                  go_wp2_with fail
                  go_round
                  case rel => exact ⟨2, rfl, by omega, rfl⟩
                  case measure => simp [intOf]
                | false =>
                  rw [q] at d1
                  have hp := Ch.pref2f q
                  go_wp2_with fail
                  go_round
                  case rel => exact ⟨2, rfl, by omega, rfl⟩
                  case measure => simp [intOf]
              · cases q : s2.c with
                | true =>
                  rw [q] at d2
                  have hp := Ch.pref3t q
                  go_wp2_with fail
                  go_round
                  case rel => exact ⟨3, rfl, by omega, rfl⟩
                  case measure => simp [intOf]
                | false =>
                  rw [q] at d2
                  have hp := Ch.pref3f q
                  go_wp2_with fail
                  go_round
                  case rel => exact ⟨3, rfl, by omega, rfl⟩
                  case measure => simp [intOf]
              · clear d0 d1 d2 x0 x1 x2 y0 y1 y2
                go_upto_region 29 with (fail)
                have hs2 : AsR wc.drew sb (Ch.asJ s) := HZ.out.1
                refine region_begin (fun w' => AsR w' sb (Ch.asJ s)) (by kernel_rfl) ?_
                refine take_op 0 98 (.string Ch.tJoin) rfl (by kernel_rfl) (by kernel_rfl) (by kernel_rfl) rfl rfl (fun w' _ => by rfl) hs2 ?_
                refine take_op 1 99 (.agg (asA (Ch.asJ s))) rfl (by kernel_rfl) (by kernel_rfl) (by kernel_rfl) rfl rfl (fun w' hS => exec_load_row 26 (.tmp 4) rfl sb (by simp [Act.eval, Act.put]) 26 _ (0, 0) da hS hdA hdAa (asInfo _)) hs2 ?_
                refine take_op 2 100 (.int .u8 b) rfl (by kernel_rfl) (by kernel_rfl) (by kernel_rfl) rfl rfl (fun w' _ => by simp [execOp, Act.eval, Act.put, go_sem]) hs2 ?_
                refine take_op 3 101 (.string (Ch.prefJ s2 3)) rfl (by kernel_rfl) (by kernel_rfl) (by kernel_rfl) rfl rfl (fun w' _ => by simp [execOp, Act.eval, Act.put, go_sem]) hs2 ?_
                refine take_op 5 103 (.string out) rfl (by kernel_rfl) (by kernel_rfl) (by kernel_rfl) rfl rfl (fun w' _ => by simp [execOp, Act.eval, Act.put, go_sem]) hs2 ?_
                simp only [Act.put, List.setIfInBounds_toArray, List.set_cons_succ, List.set_cons_zero]
                refine do_op 4 (by kernel_rfl) rfl rfl ?_
                refine wp_enter (some 102) rfl 23 #[.string (Ch.prefJ s2 3)] (by simp [execOp, Act.eval, go_sem]) (.agg (asA (Ch.asJ s2))) (fun w' => Kp (fun _ => False) wc.drew w') (EP _).out ?_
                intro w6 K6
                have hs6 := hs2.keep K6 (fun x => x)
                refine ⟨hs6, ?_⟩
                refine do_op 6 (by kernel_rfl) rfl rfl ?_
                refine wp_enter (some 104) rfl 22 #[.string Ch.tJoin, .agg (asA (Ch.asJ s)), .int .u8 b, .agg (asA (Ch.asJ s2)), .string out] (by simp [execOp, Act.eval, Act.put, go_sem]) (.bool true) (fun w' => Kp (fun _ => False) w6 w') (ER _).out ?_
                intro w7 K7
                have hs7 := hs6.keep K7 (fun x => x)
                refine ⟨hs7, ?_⟩
                refine take_op 7 7 (.bool true) rfl (by kernel_rfl) (by kernel_rfl) (by kernel_rfl) rfl rfl (fun w' _ => by simp [execOp, Act.eval, Act.put, go_sem]) hs7 ?_
                refine wpAnyH_done (by kernel_rfl) (NoPanic.normal ?_) _
                simp only [Act.put, List.setIfInBounds_toArray, List.set_cons_succ, List.set_cons_zero]
                have KQ : Kp (fun _ => False) wc w7 := (((Kp.refl _ _).drewN 1).trans K6).trans K7
                have hd7 : DbR w7 db s2 := KQ.at_ HZ.out.2.1 (fun x => x)
                have K8 : Kp (fun k => k = sb ∨ k = db) w5 w7 := HZ.out.2.2.trans' KQ (fun i _ x => x.elim)
                have HV := hid (And.intro hs7 (And.intro hd7 K8))
                clear hs2 hs6 hs7 hd7 K6 K7 KQ K8 ER HZ
                go_wp2_with fail
                refine Calls.mono (Hid.out (EP _)) ?_
                rintro x w9 ⟨rfl, K9⟩
                obtain ⟨hs7, hd7, K8⟩ := HV.out
                have hs9 := hs7.keep K9 (fun x => x)
                have hd9 : DbR w9 db s2 := K9.at_ hd7 (fun x => x)
                have K10 := (K8.trans' K9 (fun i _ x => x.elim)).setRow (g := sb) (fun _ => .inl rfl) (asA (Ch.asJ s2))
                have h10s : AsR (w9.setRow sb (asA (Ch.asJ s2))) sb (Ch.asJ s2) := setRow_heap _ _ _ _ _ _ hs9
                have h10d : DbR (w9.setRow sb (asA (Ch.asJ s2))) db s2 := (setRow_other _ _ _ _ hne').trans hd9
                clear HV hs7 hd7 K8 K9 EP hd9
                go_wp2_with (refine wpList_store_row rfl 26 (.tmp 4) (.tmp 108) rfl sb (asA (Ch.asJ s2)) rfl rfl 26 (asA (Ch.asJ s)) hs9 (asInfo _) rfl (asOne _) ?_)
                go_roundw
                case rel => exact ⟨k + 1, s2, by go_num, by omega, h10s, h10d, K10⟩
                case measure => simp [intOf]; omega
    · have hge2 : ¬ (k : Int) < (ev.size : Int) := by omega
      have KF : Kp (fun _ => False) w wr := KD.trans' KW (fun i hi x => by omega)
      clear hs hd KW
      go_wp2
      go_ret
      exact ⟨rfl, KF⟩

end

end Go.Proofs.YtnlbchmfcebeeaaGreat
