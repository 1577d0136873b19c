/- Walks: Back. -/
import Derived.Test.YtnlbchmfcebeeaaGreatTF7
namespace Go.Proofs.YtnlbchmfcebeeaaGreat
open Go.RowKit

def AsR (w : World) (b : Nat) (a : Ch.As) : Prop := w.heap[b]? = some (.cells (asA a) 26 (0, 0))
theorem AsR.keep {S : Nat → Prop} {w w' : World} {b : Nat} {a : Ch.As} (h : AsR w b a) (k : Kp S w w') (hs : ¬ S b) : AsR w' b a := k.at_ h hs
theorem AsR.lt {w : World} {b : Nat} {a : Ch.As} (h : AsR w b a) : b < w.heap.size := lt_of_block h
section
variable {w : World} {b : Nat} {a : Ch.As}
theorem AsR.c0 (h : AsR w b a) : w.cell? ⟨b, 0, none⟩ = some (.string a.act) := by rw [World.cell?, h]; rfl
theorem AsR.c1 (h : AsR w b a) : w.cell? ⟨b, 1, none⟩ = some (.string a.past) := by rw [World.cell?, h]; rfl
theorem AsR.fz (h : AsR w b a) (i : Nat) : w.frozen? ⟨b, i, none⟩ = false := by unfold AsR at h; simp [World.frozen?, h]
theorem AsR.set0 (h : AsR w b a) (v : ByteArray) : AsR (w.setCell ⟨b, 0, none⟩ (.string v)) b { a with act := v } := by
  unfold AsR at *; rw [heap_setCell_same _ _ _ _ _ _ h]; rfl
theorem AsR.set1 (h : AsR w b a) (v : ByteArray) : AsR (w.setCell ⟨b, 1, none⟩ (.string v)) b { a with past := v } := by
  unfold AsR at *; rw [heap_setCell_same _ _ _ _ _ _ h]; rfl
end
theorem backW {wr W : World} {nb : Nat} {a X : Ch.As} (hn : AsR wr nb a)
    (h : (∃ v, W = wr.setCell ⟨nb, 0, none⟩ (.string v) ∧ { a with act := v } = X) ∨ (∃ u v, W = (wr.setCell ⟨nb, 0, none⟩ (.string u)).setCell ⟨nb, 0, none⟩ (.string v) ∧ { a with act := v } = X) ∨
      (∃ p u v, W = ((wr.setCell ⟨nb, 1, none⟩ (.string p)).setCell ⟨nb, 0, none⟩ (.string u)).setCell ⟨nb, 0, none⟩ (.string v) ∧ { a with past := p, act := v } = X)) :
    AsR W nb X ∧ Kp (fun k => k = nb) wr W := by
  have kn : ∀ {z : World} {i : Nat} {v : Value}, Kp (fun k => k = nb) wr z → Kp (fun k => k = nb) wr (z.setCell ⟨nb, i, none⟩ v) := fun h => Kp.setCell h (fun _ => rfl) _
  rcases h with ⟨v, rfl, rfl⟩ | ⟨u, v, rfl, rfl⟩ | ⟨p, u, v, rfl, rfl⟩
  · exact ⟨hn.set0 v, kn (Kp.refl _ _)⟩
  · exact ⟨(hn.set0 u).set0 v, kn (kn (Kp.refl _ _))⟩
  · exact ⟨((hn.set1 p).set0 u).set0 v, kn (kn (kn (Kp.refl _ _)))⟩
namespace Ch
theorem ringX {q : Nat} (h : q < 3) : (⟨#[65, 66, 67]⟩ : ByteArray).extract q (q + 1) = ⟨#[ringB q]⟩ := by
  have h3 : q = 0 ∨ q = 1 ∨ q = 2 := by omega
  rcases h3 with rfl | rfl | rfl <;> rfl
theorem statesB_at {s : Nat × Bool × Nat} (h : s ∈ statesB) : s.1 = 0 ∨ s.1 = 1 ∨ s.1 = 2 := by
  have : statesB.all (fun s => s.1 == 0 || s.1 == 1 || s.1 == 2) = true := by kernel_rfl
  have := List.all_eq_true.1 this s h
  simp only [Bool.or_eq_true, beq_iff_eq] at this
  omega
end Ch

section
variable (w : World)

set_option maxHeartbeats 3200000 in
set_option maxRecDepth 100000 in
theorem back_any (ev : ByteArray) (hsz : ev.size ≤ 9223372036854775807) :
    Calls Tryz.prog 8 #[.string ev] w fun x w' => x = .returned (.bool true) ∧ Kp (fun _ => False) w w' := by
  obtain ⟨da, hdA, hdAa⟩ := Tryz.undAs
  have E0 := hid (cStart_any w Ch.tBack)
  rw [Ch.startB] at E0
  simp only at E0
  have HB := hid (show Tryz.prog.built 26 [(0, .string ⟨#[82, 80, 65]⟩), (1, .string ⟨#[45]⟩)] = some (asA (Ch.asB 0 false 3)) by kernel_rfl)
  have ES := fun W => hid (same_any W (Ch.asB 0 false 3))
  have rO := asOne (Ch.asB 0 false 3)
  have rI := asInfo (Ch.asB 0 false 3)
  have rS : (asA (Ch.asB 0 false 3)).size = 6 := rfl
  generalize hA0 : asA (Ch.asB 0 false 3) = A0 at *
  have HA0 := hid hA0
  clear hA0
  go_enter Tryz.func8, Tryz.ntmps8
  go_wp2_with fail
  refine Calls.mono (Hid.out E0) ?_
  rintro x w1 ⟨rfl, K1⟩
  have hnew := heap_alloc_new w1 (.cells #[.string ⟨#[]⟩, .string ⟨#[]⟩, .string ⟨#[]⟩, .int .i64 0, .int .i64 0, .int .i64 0] 26)
  have h2 := setRow_heap (w1.alloc (.cells #[.string ⟨#[]⟩, .string ⟨#[]⟩, .string ⟨#[]⟩, .int .i64 0, .int .i64 0, .int .i64 0] 26)) w1.heap.size #[.string ⟨#[]⟩, .string ⟨#[]⟩, .string ⟨#[]⟩, .int .i64 0, .int .i64 0, .int .i64 0] A0 26 (0, 0) hnew
  have K2 : Kp (fun _ => False) w ((w1.alloc (.cells #[.string ⟨#[]⟩, .string ⟨#[]⟩, .string ⟨#[]⟩, .int .i64 0, .int .i64 0, .int .i64 0] 26)).setRow w1.heap.size A0) := (K1.alloc _).setRow (fun x => by have := K1.size; omega) _
  have hge : w.heap.size ≤ w1.heap.size := K1.size
  clear K1 E0
  go_upto_region 3 with (refine wpList_store_row rfl 26 (.tmp 4) (.tmp 17) rfl w1.heap.size A0 rfl rfl 26 #[.string ⟨#[]⟩, .string ⟨#[]⟩, .string ⟨#[]⟩, .int .i64 0, .int .i64 0, .int .i64 0] hnew rI (by rw [rS]; rfl) rO ?_)
  generalize (w1.alloc (.cells #[.string ⟨#[]⟩, .string ⟨#[]⟩, .string ⟨#[]⟩, .int .i64 0, .int .i64 0, .int .i64 0] 26)).setRow w1.heap.size A0 = w2 at *
  generalize w1.heap.size = sb at *
  clear hnew
  have hnew := heap_alloc_new w2 (.cells #[.string ⟨#[]⟩, .string ⟨#[]⟩, .string ⟨#[]⟩, .int .i64 0, .int .i64 0, .int .i64 0] 26)
  have h3n := setRow_heap (w2.alloc (.cells #[.string ⟨#[]⟩, .string ⟨#[]⟩, .string ⟨#[]⟩, .int .i64 0, .int .i64 0, .int .i64 0] 26)) w2.heap.size #[.string ⟨#[]⟩, .string ⟨#[]⟩, .string ⟨#[]⟩, .int .i64 0, .int .i64 0, .int .i64 0] A0 26 (0, 0) hnew
  have K3 : Kp (fun _ => False) w2 ((w2.alloc (.cells #[.string ⟨#[]⟩, .string ⟨#[]⟩, .string ⟨#[]⟩, .int .i64 0, .int .i64 0, .int .i64 0] 26)).setRow w2.heap.size A0) := ((Kp.refl _ _).alloc _).setRow (fun x => by omega) _
  have h3s := K3.at_ h2 (fun x => x)
  have KB := K2.trans K3
  have hlt : sb < w2.heap.size := lt_of_block h2
  clear K2 K3 h2
  go_upto_region 4 with (first | (refine wpList_build_eq rfl 26 #[(0, .const (.string ⟨#[82, 80, 65]⟩)), (1, .const (.string ⟨#[45]⟩))] rfl A0 [(0, .string ⟨#[82, 80, 65]⟩), (1, .string ⟨#[45]⟩)] ?_ HB.out ?_; rfl) | refine wpList_store_row rfl 26 (.tmp 7) (.tmp 20) rfl w2.heap.size A0 rfl rfl 26 #[.string ⟨#[]⟩, .string ⟨#[]⟩, .string ⟨#[]⟩, .int .i64 0, .int .i64 0, .int .i64 0] hnew rI (by rw [rS]; rfl) rO ?_)
  generalize (w2.alloc (.cells #[.string ⟨#[]⟩, .string ⟨#[]⟩, .string ⟨#[]⟩, .int .i64 0, .int .i64 0, .int .i64 0] 26)).setRow w2.heap.size A0 = w3 at *
  generalize w2.heap.size = nb at *
  clear hnew
  go_wp2_with (first | refine wpList_load_row rfl 26 (.tmp 4) rfl sb rfl 26 A0 (0, 0) da h3s hdA (by cases da <;> first | rfl | exact absurd hdAa (by simp [isAggD])) rI ?_ | refine wpList_load_row rfl 26 (.tmp 7) rfl nb rfl 26 A0 (0, 0) da h3n hdA (by cases da <;> first | rfl | exact absurd hdAa (by simp [isAggD])) rI ?_)
  refine Calls.mono (Hid.out (ES w3)) ?_
  rintro x w4 ⟨rfl, K4⟩
  have h4s : AsR w4 sb (Ch.asB 0 false 3) := by unfold AsR; rw [HA0.out]; exact K4.at_ h3s (fun x => x)
  have h4n : AsR w4 nb (Ch.asB 0 false 3) := by unfold AsR; rw [HA0.out]; exact K4.at_ h3n (fun x => x)
  have KC := KB.trans K4
  clear ES KB K4 h3s h3n HB rO rI rS HA0
  have hne : sb ≠ nb := by omega
  have hne' : nb ≠ sb := by omega
  have x0 : (⟨#[65, 66, 67]⟩ : ByteArray).extract 0 1 = ⟨#[65]⟩ := by rfl
  have y0 : (⟨#[82, 80]⟩ : ByteArray) ++ ⟨#[65]⟩ = ⟨#[82, 80, 65]⟩ := by rfl
  go_wp2_with fail
  go_loopw [10, 11, 12] (fun at_ aw i wr => ∃ (k q : Nat) (away : Bool) (p : Nat), at_ = .int .i64 q ∧ aw = .bool away ∧ i = .int .i64 k ∧ k ≤ ev.size ∧ Hid ((q, away, p) ∈ Ch.statesB) ∧ AsR wr sb (Ch.asB q away p) ∧ AsR wr nb (Ch.asB q away p) ∧ Kp (fun k => k = sb ∨ k = nb) w4 wr) (fun _ _ i _ => ev.size - (intOf i).toNat)
  case atStart => exact ⟨0, 0, false, 3, rfl, rfl, rfl, Nat.zero_le _, hid (by decide), h4s, h4n, Kp.refl _ _⟩
  case round =>
    obtain ⟨k, q, away, p, rfl, rfl, rfl, hk, HM, hs, hn, KW⟩ := hrel
    by_cases hkl : k < ev.size
    · have hkl' : (k : Int) < (ev.size : Int) := by omega
      have hgo := Ch.goesB HM.out (b := (ev[k]'hkl).toNat) (by exact (ev[k]'hkl).toNat_lt)
      have ER := fun W => hid (run_any W 1 (by omega) Ch.tBack (Ch.asB' (q, away, p)) (Ch.asB' (Ch.nextB q away p (ev[k]'hkl).toNat)) ((ev[k]'hkl).toNat : Int) ⟨#[]⟩ (Ch.smB _) hgo.2.1 hgo.1)
      have HM2 := hid hgo.2.2
      clear hgo
      have c0 := hn.c0
      have c1 := hn.c1
      have fz := hn.fz
      have HX := hid (And.intro hs (And.intro hn KW))
      have hq := Ch.statesB_at HM.out
      simp only at hq
      have hq3 : q < 3 := by omega
      have hq1 : (q : Int) + 1 ≤ 3 := by omega
      have hx : (⟨#[65, 66, 67]⟩ : ByteArray).extract q (q + 1) = ⟨#[Ch.ringB q]⟩ := Ch.ringX hq3
      have hy : (⟨#[82, 80]⟩ : ByteArray) ++ ⟨#[Ch.ringB q]⟩ = ⟨#[82, 80, Ch.ringB q]⟩ := by rfl
      generalize hQ2 : (q + 1) % 3 = q2 at *
      have hq23 : q2 < 3 := by omega
      have hq21 : (q2 : Int) + 1 ≤ 3 := by omega
      have hx2 : (⟨#[65, 66, 67]⟩ : ByteArray).extract q2 (q2 + 1) = ⟨#[Ch.ringB q2]⟩ := Ch.ringX hq23
      have hy2 : (⟨#[82, 80]⟩ : ByteArray) ++ ⟨#[Ch.ringB q2]⟩ = ⟨#[82, 80, Ch.ringB q2]⟩ := by rfl
      have hm : ((q : Int) + 1).tmod 3 = (q2 : Int) := by rw [← hQ2, Int.tmod_eq_emod_of_nonneg (by omega)]; omega
      have HQ2 := hid hQ2
      clear hQ2 hq
      generalize hb : ((ev[k]'hkl).toNat) = b at *
      clear hs hn KW HM h4s h4n KC
      cases away with
      | false =>
        by_cases b1 : b = 97
        · subst b1
          have hnx : Ch.nextB q false p 97 = (q2, false, p) := by rw [← HQ2.out]; rfl
          rw [hnx] at ER HM2
          obtain ⟨hW, KN⟩ := backW (W := (wr.setCell ⟨nb, 0, none⟩ (.string ⟨#[82, 80, Ch.ringB q2]⟩))) (X := Ch.asB q2 false p) HX.out.2.1 (.inl ⟨_, rfl, rfl⟩)
          have hWs := HX.out.1.keep KN hne
          have K6 : Kp (fun k => k = sb ∨ k = nb) w4 (wr.setCell ⟨nb, 0, none⟩ (.string ⟨#[82, 80, Ch.ringB q2]⟩)) := HX.out.2.2.trans' KN (fun i _ x => .inr x)
          have HK := hid K6
          clear KN hnx K6
          go_wp2_with (first | refine wpList_load_row rfl 26 (.tmp 4) rfl sb rfl 26 (asA (Ch.asB q false p)) (0, 0) da hWs hdA (by cases da <;> first | rfl | exact absurd hdAa (by simp [isAggD])) (asInfo _) ?_ | refine wpList_load_row rfl 26 (.tmp 7) rfl nb rfl 26 (asA (Ch.asB q2 false p)) (0, 0) da hW hdA (by cases da <;> first | rfl | exact absurd hdAa (by simp [isAggD])) (asInfo _) ?_)
          refine Calls.mono (Hid.out (ER _)) ?_
          rintro x w5 ⟨rfl, K5⟩
          have h5n := hW.keep K5 (fun x => x)
          have h5s := hWs.keep K5 (fun x => x)
          have K6 : Kp (fun k => k = sb ∨ k = nb) w4 w5 := HK.out.trans' K5 (fun i _ x => x.elim)
          clear ER HX hW hWs HK K5 c0 c1 fz hx hy hx2 hy2 hm x0 y0
          have K7 := K6.setRow (g := sb) (fun _ => .inl rfl) (asA (Ch.asB q2 false p))
          have h7n : AsR (w5.setRow sb (asA (Ch.asB q2 false p))) nb (Ch.asB q2 false p) := (setRow_other _ _ _ _ hne').trans h5n
          have h7s : AsR (w5.setRow sb (asA (Ch.asB q2 false p))) sb (Ch.asB q2 false p) := setRow_heap _ _ _ _ _ _ h5s
          go_wp2_with (first | refine wpList_load_row rfl 26 (.tmp 7) rfl nb rfl 26 (asA (Ch.asB q2 false p)) (0, 0) da h5n hdA (by cases da <;> first | rfl | exact absurd hdAa (by simp [isAggD])) (asInfo _) ?_ | refine wpList_store_row rfl 26 (.tmp 4) (.tmp 94) rfl sb (asA (Ch.asB q2 false p)) rfl rfl 26 (asA (Ch.asB q false p)) h5s (asInfo _) rfl (asOne _) ?_)
          go_roundw
          case rel => exact ⟨k + 1, q2, false, p, rfl, rfl, by go_num, by omega, HM2, h7s, h7n, K7⟩
          case measure => simp [intOf]; omega
        · have b1' : ¬ ((b : Nat) : Int) = 97 := by omega
          by_cases b2 : b = 113
          · subst b2
            have hnx : Ch.nextB q false p 113 = (q, true, q) := by rfl
            have HP : ({ Ch.asB q false p with past := ⟨#[Ch.ringB q]⟩, act := ⟨#[82, 81]⟩ } : Ch.As) = Ch.asB q true q := by
              have e : Ch.pastB q = ⟨#[Ch.ringB q]⟩ := by unfold Ch.pastB; rw [if_neg (by simp; omega)]
              unfold Ch.asB; rw [e]; rfl
            rw [hnx] at ER HM2
            obtain ⟨hW, KN⟩ := backW (W := (((wr.setCell ⟨nb, 1, none⟩ (.string ⟨#[Ch.ringB q]⟩)).setCell ⟨nb, 0, none⟩ (.string ⟨#[82, 80, Ch.ringB q]⟩)).setCell ⟨nb, 0, none⟩ (.string ⟨#[82, 81]⟩))) (X := Ch.asB q true q) HX.out.2.1 (.inr (.inr ⟨_, _, _, rfl, HP⟩))
            have hWs := HX.out.1.keep KN hne
            have K6 : Kp (fun k => k = sb ∨ k = nb) w4 (((wr.setCell ⟨nb, 1, none⟩ (.string ⟨#[Ch.ringB q]⟩)).setCell ⟨nb, 0, none⟩ (.string ⟨#[82, 80, Ch.ringB q]⟩)).setCell ⟨nb, 0, none⟩ (.string ⟨#[82, 81]⟩)) := HX.out.2.2.trans' KN (fun i _ x => .inr x)
            have HK := hid K6
            clear KN hnx K6 HP
            go_wp2_with (first | refine wpList_load_row rfl 26 (.tmp 4) rfl sb rfl 26 (asA (Ch.asB q false p)) (0, 0) da hWs hdA (by cases da <;> first | rfl | exact absurd hdAa (by simp [isAggD])) (asInfo _) ?_ | refine wpList_load_row rfl 26 (.tmp 7) rfl nb rfl 26 (asA (Ch.asB q true q)) (0, 0) da hW hdA (by cases da <;> first | rfl | exact absurd hdAa (by simp [isAggD])) (asInfo _) ?_)
            refine Calls.mono (Hid.out (ER _)) ?_
            rintro x w5 ⟨rfl, K5⟩
            have h5n := hW.keep K5 (fun x => x)
            have h5s := hWs.keep K5 (fun x => x)
            have K6 : Kp (fun k => k = sb ∨ k = nb) w4 w5 := HK.out.trans' K5 (fun i _ x => x.elim)
            clear ER HX hW hWs HK K5 c0 c1 fz hx hy hx2 hy2 hm x0 y0
            have K7 := K6.setRow (g := sb) (fun _ => .inl rfl) (asA (Ch.asB q true q))
            have h7n : AsR (w5.setRow sb (asA (Ch.asB q true q))) nb (Ch.asB q true q) := (setRow_other _ _ _ _ hne').trans h5n
            have h7s : AsR (w5.setRow sb (asA (Ch.asB q true q))) sb (Ch.asB q true q) := setRow_heap _ _ _ _ _ _ h5s
            go_wp2_with (first | refine wpList_load_row rfl 26 (.tmp 7) rfl nb rfl 26 (asA (Ch.asB q true q)) (0, 0) da h5n hdA (by cases da <;> first | rfl | exact absurd hdAa (by simp [isAggD])) (asInfo _) ?_ | refine wpList_store_row rfl 26 (.tmp 4) (.tmp 94) rfl sb (asA (Ch.asB q true q)) rfl rfl 26 (asA (Ch.asB q false p)) h5s (asInfo _) rfl (asOne _) ?_)
            go_roundw
            case rel => exact ⟨k + 1, q, true, q, rfl, rfl, by go_num, by omega, HM2, h7s, h7n, K7⟩
            case measure => simp [intOf]; omega
          · have b2' : ¬ ((b : Nat) : Int) = 113 := by omega
            by_cases b3 : b = 104
            · subst b3
              have hnx : Ch.nextB q false p 104 = (q, false, p) := by rfl
              rw [hnx] at ER HM2
              obtain ⟨hW, KN⟩ := backW (W := (wr.setCell ⟨nb, 0, none⟩ (.string ⟨#[82, 80, Ch.ringB q]⟩))) (X := Ch.asB q false p) HX.out.2.1 (.inl ⟨_, rfl, rfl⟩)
              have hWs := HX.out.1.keep KN hne
              have K6 : Kp (fun k => k = sb ∨ k = nb) w4 (wr.setCell ⟨nb, 0, none⟩ (.string ⟨#[82, 80, Ch.ringB q]⟩)) := HX.out.2.2.trans' KN (fun i _ x => .inr x)
              have HK := hid K6
              clear KN hnx K6
              go_wp2_with (first | refine wpList_load_row rfl 26 (.tmp 4) rfl sb rfl 26 (asA (Ch.asB q false p)) (0, 0) da hWs hdA (by cases da <;> first | rfl | exact absurd hdAa (by simp [isAggD])) (asInfo _) ?_ | refine wpList_load_row rfl 26 (.tmp 7) rfl nb rfl 26 (asA (Ch.asB q false p)) (0, 0) da hW hdA (by cases da <;> first | rfl | exact absurd hdAa (by simp [isAggD])) (asInfo _) ?_)
              refine Calls.mono (Hid.out (ER _)) ?_
              rintro x w5 ⟨rfl, K5⟩
              have h5n := hW.keep K5 (fun x => x)
              have h5s := hWs.keep K5 (fun x => x)
              have K6 : Kp (fun k => k = sb ∨ k = nb) w4 w5 := HK.out.trans' K5 (fun i _ x => x.elim)
              clear ER HX hW hWs HK K5 c0 c1 fz hx hy hx2 hy2 hm x0 y0
              have K7 := K6.setRow (g := sb) (fun _ => .inl rfl) (asA (Ch.asB q false p))
              have h7n : AsR (w5.setRow sb (asA (Ch.asB q false p))) nb (Ch.asB q false p) := (setRow_other _ _ _ _ hne').trans h5n
              have h7s : AsR (w5.setRow sb (asA (Ch.asB q false p))) sb (Ch.asB q false p) := setRow_heap _ _ _ _ _ _ h5s
              go_wp2_with (first | refine wpList_load_row rfl 26 (.tmp 7) rfl nb rfl 26 (asA (Ch.asB q false p)) (0, 0) da h5n hdA (by cases da <;> first | rfl | exact absurd hdAa (by simp [isAggD])) (asInfo _) ?_ | refine wpList_store_row rfl 26 (.tmp 4) (.tmp 94) rfl sb (asA (Ch.asB q false p)) rfl rfl 26 (asA (Ch.asB q false p)) h5s (asInfo _) rfl (asOne _) ?_)
              go_roundw
              case rel => exact ⟨k + 1, q, false, p, rfl, rfl, by go_num, by omega, HM2, h7s, h7n, K7⟩
              case measure => simp [intOf]; omega
            · have b3' : ¬ ((b : Nat) : Int) = 104 := by omega
              by_cases b4 : b = 112
              · subst b4
                have hnx : Ch.nextB q false p 112 = (q, false, p) := by rfl
                rw [hnx] at ER HM2
                obtain ⟨hW, KN⟩ := backW (W := (wr.setCell ⟨nb, 0, none⟩ (.string ⟨#[82, 80, Ch.ringB q]⟩))) (X := Ch.asB q false p) HX.out.2.1 (.inl ⟨_, rfl, rfl⟩)
                have hWs := HX.out.1.keep KN hne
                have K6 : Kp (fun k => k = sb ∨ k = nb) w4 (wr.setCell ⟨nb, 0, none⟩ (.string ⟨#[82, 80, Ch.ringB q]⟩)) := HX.out.2.2.trans' KN (fun i _ x => .inr x)
                have HK := hid K6
                clear KN hnx K6
                go_wp2_with (first | refine wpList_load_row rfl 26 (.tmp 4) rfl sb rfl 26 (asA (Ch.asB q false p)) (0, 0) da hWs hdA (by cases da <;> first | rfl | exact absurd hdAa (by simp [isAggD])) (asInfo _) ?_ | refine wpList_load_row rfl 26 (.tmp 7) rfl nb rfl 26 (asA (Ch.asB q false p)) (0, 0) da hW hdA (by cases da <;> first | rfl | exact absurd hdAa (by simp [isAggD])) (asInfo _) ?_)
                refine Calls.mono (Hid.out (ER _)) ?_
                rintro x w5 ⟨rfl, K5⟩
                have h5n := hW.keep K5 (fun x => x)
                have h5s := hWs.keep K5 (fun x => x)
                have K6 : Kp (fun k => k = sb ∨ k = nb) w4 w5 := HK.out.trans' K5 (fun i _ x => x.elim)
                clear ER HX hW hWs HK K5 c0 c1 fz hx hy hx2 hy2 hm x0 y0
                have K7 := K6.setRow (g := sb) (fun _ => .inl rfl) (asA (Ch.asB q false p))
                have h7n : AsR (w5.setRow sb (asA (Ch.asB q false p))) nb (Ch.asB q false p) := (setRow_other _ _ _ _ hne').trans h5n
                have h7s : AsR (w5.setRow sb (asA (Ch.asB q false p))) sb (Ch.asB q false p) := setRow_heap _ _ _ _ _ _ h5s
                go_wp2_with (first | refine wpList_load_row rfl 26 (.tmp 7) rfl nb rfl 26 (asA (Ch.asB q false p)) (0, 0) da h5n hdA (by cases da <;> first | rfl | exact absurd hdAa (by simp [isAggD])) (asInfo _) ?_ | refine wpList_store_row rfl 26 (.tmp 4) (.tmp 94) rfl sb (asA (Ch.asB q false p)) rfl rfl 26 (asA (Ch.asB q false p)) h5s (asInfo _) rfl (asOne _) ?_)
                go_roundw
                case rel => exact ⟨k + 1, q, false, p, rfl, rfl, by go_num, by omega, HM2, h7s, h7n, K7⟩
                case measure => simp [intOf]; omega
              · have b4' : ¬ ((b : Nat) : Int) = 112 := by omega
                have hnx : Ch.nextB q false p b = (q, false, p) := by simp [Ch.nextB, b1, b2]
                rw [hnx] at ER HM2
                obtain ⟨hW, KN⟩ := backW (W := (wr.setCell ⟨nb, 0, none⟩ (.string ⟨#[82, 80, Ch.ringB q]⟩))) (X := Ch.asB q false p) HX.out.2.1 (.inl ⟨_, rfl, rfl⟩)
                have hWs := HX.out.1.keep KN hne
                have K6 : Kp (fun k => k = sb ∨ k = nb) w4 (wr.setCell ⟨nb, 0, none⟩ (.string ⟨#[82, 80, Ch.ringB q]⟩)) := HX.out.2.2.trans' KN (fun i _ x => .inr x)
                have HK := hid K6
                clear KN hnx K6
                go_wp2_with (first | refine wpList_load_row rfl 26 (.tmp 4) rfl sb rfl 26 (asA (Ch.asB q false p)) (0, 0) da hWs hdA (by cases da <;> first | rfl | exact absurd hdAa (by simp [isAggD])) (asInfo _) ?_ | refine wpList_load_row rfl 26 (.tmp 7) rfl nb rfl 26 (asA (Ch.asB q false p)) (0, 0) da hW hdA (by cases da <;> first | rfl | exact absurd hdAa (by simp [isAggD])) (asInfo _) ?_)
                refine Calls.mono (Hid.out (ER _)) ?_
                rintro x w5 ⟨rfl, K5⟩
                have h5n := hW.keep K5 (fun x => x)
                have h5s := hWs.keep K5 (fun x => x)
                have K6 : Kp (fun k => k = sb ∨ k = nb) w4 w5 := HK.out.trans' K5 (fun i _ x => x.elim)
                clear ER HX hW hWs HK K5 c0 c1 fz hx hy hx2 hy2 hm x0 y0
                have K7 := K6.setRow (g := sb) (fun _ => .inl rfl) (asA (Ch.asB q false p))
                have h7n : AsR (w5.setRow sb (asA (Ch.asB q false p))) nb (Ch.asB q false p) := (setRow_other _ _ _ _ hne').trans h5n
                have h7s : AsR (w5.setRow sb (asA (Ch.asB q false p))) sb (Ch.asB q false p) := setRow_heap _ _ _ _ _ _ h5s
                go_wp2_with (first | refine wpList_load_row rfl 26 (.tmp 7) rfl nb rfl 26 (asA (Ch.asB q false p)) (0, 0) da h5n hdA (by cases da <;> first | rfl | exact absurd hdAa (by simp [isAggD])) (asInfo _) ?_ | refine wpList_store_row rfl 26 (.tmp 4) (.tmp 94) rfl sb (asA (Ch.asB q false p)) rfl rfl 26 (asA (Ch.asB q false p)) h5s (asInfo _) rfl (asOne _) ?_)
                go_roundw
                case rel => exact ⟨k + 1, q, false, p, rfl, rfl, by go_num, by omega, HM2, h7s, h7n, K7⟩
                case measure => simp [intOf]; omega
      | true =>
        by_cases b1 : b = 97
        · subst b1
          have hnx : Ch.nextB q true p 97 = (q, true, p) := by rfl
          rw [hnx] at ER HM2
          obtain ⟨hW, KN⟩ := backW (W := ((wr.setCell ⟨nb, 0, none⟩ (.string ⟨#[82, 80, Ch.ringB q]⟩)).setCell ⟨nb, 0, none⟩ (.string ⟨#[82, 81]⟩))) (X := Ch.asB q true p) HX.out.2.1 (.inr (.inl ⟨_, _, rfl, rfl⟩))
          have hWs := HX.out.1.keep KN hne
          have K6 : Kp (fun k => k = sb ∨ k = nb) w4 ((wr.setCell ⟨nb, 0, none⟩ (.string ⟨#[82, 80, Ch.ringB q]⟩)).setCell ⟨nb, 0, none⟩ (.string ⟨#[82, 81]⟩)) := HX.out.2.2.trans' KN (fun i _ x => .inr x)
          have HK := hid K6
          clear KN hnx K6
          go_wp2_with (first | refine wpList_load_row rfl 26 (.tmp 4) rfl sb rfl 26 (asA (Ch.asB q true p)) (0, 0) da hWs hdA (by cases da <;> first | rfl | exact absurd hdAa (by simp [isAggD])) (asInfo _) ?_ | refine wpList_load_row rfl 26 (.tmp 7) rfl nb rfl 26 (asA (Ch.asB q true p)) (0, 0) da hW hdA (by cases da <;> first | rfl | exact absurd hdAa (by simp [isAggD])) (asInfo _) ?_)
          refine Calls.mono (Hid.out (ER _)) ?_
          rintro x w5 ⟨rfl, K5⟩
          have h5n := hW.keep K5 (fun x => x)
          have h5s := hWs.keep K5 (fun x => x)
          have K6 : Kp (fun k => k = sb ∨ k = nb) w4 w5 := HK.out.trans' K5 (fun i _ x => x.elim)
          clear ER HX hW hWs HK K5 c0 c1 fz hx hy hx2 hy2 hm x0 y0
          have K7 := K6.setRow (g := sb) (fun _ => .inl rfl) (asA (Ch.asB q true p))
          have h7n : AsR (w5.setRow sb (asA (Ch.asB q true p))) nb (Ch.asB q true p) := (setRow_other _ _ _ _ hne').trans h5n
          have h7s : AsR (w5.setRow sb (asA (Ch.asB q true p))) sb (Ch.asB q true p) := setRow_heap _ _ _ _ _ _ h5s
          go_wp2_with (first | refine wpList_load_row rfl 26 (.tmp 7) rfl nb rfl 26 (asA (Ch.asB q true p)) (0, 0) da h5n hdA (by cases da <;> first | rfl | exact absurd hdAa (by simp [isAggD])) (asInfo _) ?_ | refine wpList_store_row rfl 26 (.tmp 4) (.tmp 94) rfl sb (asA (Ch.asB q true p)) rfl rfl 26 (asA (Ch.asB q true p)) h5s (asInfo _) rfl (asOne _) ?_)
          go_roundw
          case rel => exact ⟨k + 1, q, true, p, rfl, rfl, by go_num, by omega, HM2, h7s, h7n, K7⟩
          case measure => simp [intOf]; omega
        · have b1' : ¬ ((b : Nat) : Int) = 97 := by omega
          by_cases b2 : b = 113
          · subst b2
            have hnx : Ch.nextB q true p 113 = (q, true, p) := by rfl
            rw [hnx] at ER HM2
            obtain ⟨hW, KN⟩ := backW (W := ((wr.setCell ⟨nb, 0, none⟩ (.string ⟨#[82, 80, Ch.ringB q]⟩)).setCell ⟨nb, 0, none⟩ (.string ⟨#[82, 81]⟩))) (X := Ch.asB q true p) HX.out.2.1 (.inr (.inl ⟨_, _, rfl, rfl⟩))
            have hWs := HX.out.1.keep KN hne
            have K6 : Kp (fun k => k = sb ∨ k = nb) w4 ((wr.setCell ⟨nb, 0, none⟩ (.string ⟨#[82, 80, Ch.ringB q]⟩)).setCell ⟨nb, 0, none⟩ (.string ⟨#[82, 81]⟩)) := HX.out.2.2.trans' KN (fun i _ x => .inr x)
            have HK := hid K6
            clear KN hnx K6
            go_wp2_with (first | refine wpList_load_row rfl 26 (.tmp 4) rfl sb rfl 26 (asA (Ch.asB q true p)) (0, 0) da hWs hdA (by cases da <;> first | rfl | exact absurd hdAa (by simp [isAggD])) (asInfo _) ?_ | refine wpList_load_row rfl 26 (.tmp 7) rfl nb rfl 26 (asA (Ch.asB q true p)) (0, 0) da hW hdA (by cases da <;> first | rfl | exact absurd hdAa (by simp [isAggD])) (asInfo _) ?_)
            refine Calls.mono (Hid.out (ER _)) ?_
            rintro x w5 ⟨rfl, K5⟩
            have h5n := hW.keep K5 (fun x => x)
            have h5s := hWs.keep K5 (fun x => x)
            have K6 : Kp (fun k => k = sb ∨ k = nb) w4 w5 := HK.out.trans' K5 (fun i _ x => x.elim)
            clear ER HX hW hWs HK K5 c0 c1 fz hx hy hx2 hy2 hm x0 y0
            have K7 := K6.setRow (g := sb) (fun _ => .inl rfl) (asA (Ch.asB q true p))
            have h7n : AsR (w5.setRow sb (asA (Ch.asB q true p))) nb (Ch.asB q true p) := (setRow_other _ _ _ _ hne').trans h5n
            have h7s : AsR (w5.setRow sb (asA (Ch.asB q true p))) sb (Ch.asB q true p) := setRow_heap _ _ _ _ _ _ h5s
            go_wp2_with (first | refine wpList_load_row rfl 26 (.tmp 7) rfl nb rfl 26 (asA (Ch.asB q true p)) (0, 0) da h5n hdA (by cases da <;> first | rfl | exact absurd hdAa (by simp [isAggD])) (asInfo _) ?_ | refine wpList_store_row rfl 26 (.tmp 4) (.tmp 94) rfl sb (asA (Ch.asB q true p)) rfl rfl 26 (asA (Ch.asB q true p)) h5s (asInfo _) rfl (asOne _) ?_)
            go_roundw
            case rel => exact ⟨k + 1, q, true, p, rfl, rfl, by go_num, by omega, HM2, h7s, h7n, K7⟩
            case measure => simp [intOf]; omega
          · have b2' : ¬ ((b : Nat) : Int) = 113 := by omega
            by_cases b3 : b = 104
            · subst b3
              have hnx : Ch.nextB q true p 104 = (q, false, p) := by rfl
              rw [hnx] at ER HM2
              obtain ⟨hW, KN⟩ := backW (W := (wr.setCell ⟨nb, 0, none⟩ (.string ⟨#[82, 80, Ch.ringB q]⟩))) (X := Ch.asB q false p) HX.out.2.1 (.inl ⟨_, rfl, rfl⟩)
              have hWs := HX.out.1.keep KN hne
              have K6 : Kp (fun k => k = sb ∨ k = nb) w4 (wr.setCell ⟨nb, 0, none⟩ (.string ⟨#[82, 80, Ch.ringB q]⟩)) := HX.out.2.2.trans' KN (fun i _ x => .inr x)
              have HK := hid K6
              clear KN hnx K6
              go_wp2_with (first | refine wpList_load_row rfl 26 (.tmp 4) rfl sb rfl 26 (asA (Ch.asB q true p)) (0, 0) da hWs hdA (by cases da <;> first | rfl | exact absurd hdAa (by simp [isAggD])) (asInfo _) ?_ | refine wpList_load_row rfl 26 (.tmp 7) rfl nb rfl 26 (asA (Ch.asB q false p)) (0, 0) da hW hdA (by cases da <;> first | rfl | exact absurd hdAa (by simp [isAggD])) (asInfo _) ?_)
              refine Calls.mono (Hid.out (ER _)) ?_
              rintro x w5 ⟨rfl, K5⟩
              have h5n := hW.keep K5 (fun x => x)
              have h5s := hWs.keep K5 (fun x => x)
              have K6 : Kp (fun k => k = sb ∨ k = nb) w4 w5 := HK.out.trans' K5 (fun i _ x => x.elim)
              clear ER HX hW hWs HK K5 c0 c1 fz hx hy hx2 hy2 hm x0 y0
              have K7 := K6.setRow (g := sb) (fun _ => .inl rfl) (asA (Ch.asB q false p))
              have h7n : AsR (w5.setRow sb (asA (Ch.asB q false p))) nb (Ch.asB q false p) := (setRow_other _ _ _ _ hne').trans h5n
              have h7s : AsR (w5.setRow sb (asA (Ch.asB q false p))) sb (Ch.asB q false p) := setRow_heap _ _ _ _ _ _ h5s
              go_wp2_with (first | refine wpList_load_row rfl 26 (.tmp 7) rfl nb rfl 26 (asA (Ch.asB q false p)) (0, 0) da h5n hdA (by cases da <;> first | rfl | exact absurd hdAa (by simp [isAggD])) (asInfo _) ?_ | refine wpList_store_row rfl 26 (.tmp 4) (.tmp 94) rfl sb (asA (Ch.asB q false p)) rfl rfl 26 (asA (Ch.asB q true p)) h5s (asInfo _) rfl (asOne _) ?_)
              go_roundw
              case rel => exact ⟨k + 1, q, false, p, rfl, rfl, by go_num, by omega, HM2, h7s, h7n, K7⟩
              case measure => simp [intOf]; omega
            · have b3' : ¬ ((b : Nat) : Int) = 104 := by omega
              by_cases b4 : b = 112
              · subst b4
                have hnx : Ch.nextB q true p 112 = (0, false, p) := by rfl
                rw [hnx] at ER HM2
                obtain ⟨hW, KN⟩ := backW (W := (wr.setCell ⟨nb, 0, none⟩ (.string ⟨#[82, 80, 65]⟩))) (X := Ch.asB 0 false p) HX.out.2.1 (.inl ⟨_, rfl, rfl⟩)
                have hWs := HX.out.1.keep KN hne
                have K6 : Kp (fun k => k = sb ∨ k = nb) w4 (wr.setCell ⟨nb, 0, none⟩ (.string ⟨#[82, 80, 65]⟩)) := HX.out.2.2.trans' KN (fun i _ x => .inr x)
                have HK := hid K6
                clear KN hnx K6
                go_wp2_with (first | refine wpList_load_row rfl 26 (.tmp 4) rfl sb rfl 26 (asA (Ch.asB q true p)) (0, 0) da hWs hdA (by cases da <;> first | rfl | exact absurd hdAa (by simp [isAggD])) (asInfo _) ?_ | refine wpList_load_row rfl 26 (.tmp 7) rfl nb rfl 26 (asA (Ch.asB 0 false p)) (0, 0) da hW hdA (by cases da <;> first | rfl | exact absurd hdAa (by simp [isAggD])) (asInfo _) ?_)
                refine Calls.mono (Hid.out (ER _)) ?_
                rintro x w5 ⟨rfl, K5⟩
                have h5n := hW.keep K5 (fun x => x)
                have h5s := hWs.keep K5 (fun x => x)
                have K6 : Kp (fun k => k = sb ∨ k = nb) w4 w5 := HK.out.trans' K5 (fun i _ x => x.elim)
                clear ER HX hW hWs HK K5 c0 c1 fz hx hy hx2 hy2 hm x0 y0
                have K7 := K6.setRow (g := sb) (fun _ => .inl rfl) (asA (Ch.asB 0 false p))
                have h7n : AsR (w5.setRow sb (asA (Ch.asB 0 false p))) nb (Ch.asB 0 false p) := (setRow_other _ _ _ _ hne').trans h5n
                have h7s : AsR (w5.setRow sb (asA (Ch.asB 0 false p))) sb (Ch.asB 0 false p) := setRow_heap _ _ _ _ _ _ h5s
                go_wp2_with (first | refine wpList_load_row rfl 26 (.tmp 7) rfl nb rfl 26 (asA (Ch.asB 0 false p)) (0, 0) da h5n hdA (by cases da <;> first | rfl | exact absurd hdAa (by simp [isAggD])) (asInfo _) ?_ | refine wpList_store_row rfl 26 (.tmp 4) (.tmp 94) rfl sb (asA (Ch.asB 0 false p)) rfl rfl 26 (asA (Ch.asB q true p)) h5s (asInfo _) rfl (asOne _) ?_)
                go_roundw
                case rel => exact ⟨k + 1, 0, false, p, rfl, rfl, by go_num, by omega, HM2, h7s, h7n, K7⟩
                case measure => simp [intOf]; omega
              · have b4' : ¬ ((b : Nat) : Int) = 112 := by omega
                have hnx : Ch.nextB q true p b = (q, true, p) := by simp [Ch.nextB, b3, b4]
                rw [hnx] at ER HM2
                obtain ⟨hW, KN⟩ := backW (W := ((wr.setCell ⟨nb, 0, none⟩ (.string ⟨#[82, 80, Ch.ringB q]⟩)).setCell ⟨nb, 0, none⟩ (.string ⟨#[82, 81]⟩))) (X := Ch.asB q true p) HX.out.2.1 (.inr (.inl ⟨_, _, rfl, rfl⟩))
                have hWs := HX.out.1.keep KN hne
                have K6 : Kp (fun k => k = sb ∨ k = nb) w4 ((wr.setCell ⟨nb, 0, none⟩ (.string ⟨#[82, 80, Ch.ringB q]⟩)).setCell ⟨nb, 0, none⟩ (.string ⟨#[82, 81]⟩)) := HX.out.2.2.trans' KN (fun i _ x => .inr x)
                have HK := hid K6
                clear KN hnx K6
                go_wp2_with (first | refine wpList_load_row rfl 26 (.tmp 4) rfl sb rfl 26 (asA (Ch.asB q true p)) (0, 0) da hWs hdA (by cases da <;> first | rfl | exact absurd hdAa (by simp [isAggD])) (asInfo _) ?_ | refine wpList_load_row rfl 26 (.tmp 7) rfl nb rfl 26 (asA (Ch.asB q true p)) (0, 0) da hW hdA (by cases da <;> first | rfl | exact absurd hdAa (by simp [isAggD])) (asInfo _) ?_)
                refine Calls.mono (Hid.out (ER _)) ?_
                rintro x w5 ⟨rfl, K5⟩
                have h5n := hW.keep K5 (fun x => x)
                have h5s := hWs.keep K5 (fun x => x)
                have K6 : Kp (fun k => k = sb ∨ k = nb) w4 w5 := HK.out.trans' K5 (fun i _ x => x.elim)
                clear ER HX hW hWs HK K5 c0 c1 fz hx hy hx2 hy2 hm x0 y0
                have K7 := K6.setRow (g := sb) (fun _ => .inl rfl) (asA (Ch.asB q true p))
                have h7n : AsR (w5.setRow sb (asA (Ch.asB q true p))) nb (Ch.asB q true p) := (setRow_other _ _ _ _ hne').trans h5n
                have h7s : AsR (w5.setRow sb (asA (Ch.asB q true p))) sb (Ch.asB q true p) := setRow_heap _ _ _ _ _ _ h5s
                go_wp2_with (first | refine wpList_load_row rfl 26 (.tmp 7) rfl nb rfl 26 (asA (Ch.asB q true p)) (0, 0) da h5n hdA (by cases da <;> first | rfl | exact absurd hdAa (by simp [isAggD])) (asInfo _) ?_ | refine wpList_store_row rfl 26 (.tmp 4) (.tmp 94) rfl sb (asA (Ch.asB q true p)) rfl rfl 26 (asA (Ch.asB q true p)) h5s (asInfo _) rfl (asOne _) ?_)
                go_roundw
                case rel => exact ⟨k + 1, q, true, p, rfl, rfl, by go_num, by omega, HM2, h7s, h7n, K7⟩
                case measure => simp [intOf]; omega
    · have hge2 : ¬ (k : Int) < (ev.size : Int) := by omega
      have KF : Kp (fun _ => False) w wr := KC.trans' KW (fun i hi x => by omega)
      clear hs hn KW
      go_wp2
      go_ret
      exact ⟨rfl, KF⟩

end

end Go.Proofs.YtnlbchmfcebeeaaGreat
