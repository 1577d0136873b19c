/- Walks: the reference's place of the first fault of form. -/
import Derived.Test.YtnlbchmfcebeeaaGreatTX7
import Derived.Test.YtnlbchmfcebeeaaGreatTX6
namespace Go.Proofs.YtnlbchmfcebeeaaGreat
open Go.RowKit

namespace Ch
theorem wItem_len (k : Wk) (c : Int) : (wItem k c).2.open_.length ≤ k.open_.length + 1 := by
  unfold wItem
  split
  · simp
  · split
    · simp
    · split
      · simp
      · split
        · simp
        · split
          · simp
          · split
            · simp
            · split
              · simp
              · split
                · simp
                · simp; omega
theorem ite_len {p : Prop} [Decidable p] {a b : Int × Wk} {n : Nat} (ha : a.2.open_.length ≤ n) (hb : b.2.open_.length ≤ n) : (if p then a else b).2.open_.length ≤ n := by split <;> assumption
theorem wNext_len (k : Wk) (c : Int) : (wNext k c).2.open_.length ≤ k.open_.length + 1 := by
  have := wItem_len k c
  unfold wNext
  repeat' (first | exact this | exact Nat.le_succ _ | refine ite_len ?_ ?_)
theorem placeRF_bad {t : ByteArray} {f i : Nat} {w : Wk} {c : Int} (hc : peek t i = c) (h : ((wNext w c).1 == -1) = true) : placeRF t (f + 1) i w = i := by simp only [placeRF, hc, h, if_true]
theorem placeRF_go {t : ByteArray} {f i : Nat} {w : Wk} {c : Int} (hc : peek t i = c) (h : ((wNext w c).1 == -1) = false) : placeRF t (f + 1) i w = placeRF t f (i + 1) { (wNext w c).2 with mode := (wNext w c).1 } := by
  simp only [placeRF, hc, h, Bool.false_eq_true, if_false]
end Ch

section
variable (w : World)

set_option maxHeartbeats 1600000 in
set_option maxRecDepth 100000 in
theorem rPlace_any (t : ByteArray) (ht : t.size ≤ 240) :
    Calls Tryz.prog 193 #[.string t] w fun x w' => x = .returned (.int .i64 (Ch.placeR t)) ∧ Kp (fun _ => False) w w' := by
  have hW : WkB (w.alloc (.cells #[.int .i64 0, .slice none 0 0, .int .u8 0] 289)) w.heap.size w.heap.size ⟨0, [], 0⟩ := ⟨.slice none 0 0, heap_alloc_new w _, .inl ⟨rfl, rfl⟩⟩
  have K0 : Kp (fun _ => False) w (w.alloc (.cells #[.int .i64 0, .slice none 0 0, .int .u8 0] 289)) := (Kp.refl _ _).alloc _
  go_enter Tryz.func193, Tryz.ntmps193
  go_upto_region 3 with (fail)
  generalize w.alloc (.cells #[.int .i64 0, .slice none 0 0, .int .u8 0] 289) = w1 at *
  go_loopw [4] (fun i wr => ∃ k : Nat, i = .int .i64 k ∧ k ≤ t.size ∧ ∃ wk : Ch.Wk, WkB wr w.heap.size w.heap.size wk ∧ wk.open_.length ≤ k ∧ Hid (Ch.placeR t = Ch.placeRF t (t.size - k) k wk) ∧ Kp (fun i => w.heap.size ≤ i) w1 wr) (fun i _ => t.size - (intOf i).toNat)
  case atStart => exact ⟨0, rfl, Nat.zero_le _, ⟨0, [], 0⟩, hW, Nat.zero_le _, hid rfl, Kp.refl _ _⟩
  case round =>
    obtain ⟨k, rfl, hk, wk, hB, hl, HE, KW⟩ := hrel
    by_cases hlt : k < t.size
    · have hlt' : (k : Int) < (t.size : Int) := by omega
      have hg := hid (Ch.peek_get hlt)
      have hn := Ch.wNext_len wk (t[k].toNat : Int)
      have E := hid (wNext_any wr w.heap.size w.heap.size wk (t[k].toNat : Int) hB (Nat.le_refl _) (by omega))
      have HX := hid (And.intro KW HE)
      clear hB KW HE
      cases q : (Ch.wNext wk (t[k].toNat : Int)).1 == -1 with
      | true =>
        go_wp2_with fail
        refine Calls.mono (Hid.out E) ?_
        rintro x w2 ⟨rfl, h2, K2⟩
        have z0 := h2.mode
        have f0 := h2.free 0
        have HY := hid K2
        clear h2 K2 E
        go_wp2
        go_ret
        obtain ⟨KW, HE⟩ := HX.out
        rw [HE.out, show t.size - k = (t.size - (k + 1)) + 1 by omega, Ch.placeRF_bad hg.out q]
        exact ⟨rfl, K0.trans' ((KW.trans HY.out).setCell (p := ⟨w.heap.size, 0, none⟩) (fun _ => Nat.le_refl _) _) (fun i hi x => by omega)⟩
      | false =>
        go_wp2_with fail
        refine Calls.mono (Hid.out E) ?_
        rintro x w2 ⟨rfl, h2, K2⟩
        have z0 := h2.mode
        have f0 := h2.free 0
        have HY := hid (And.intro h2 K2)
        clear h2 K2 E
        go_wp2
        go_roundw
        case rel =>
          obtain ⟨KW, HE⟩ := HX.out
          obtain ⟨h2, K2⟩ := HY.out
          refine ⟨k + 1, by go_num, by omega, _, h2.set0 _, by simp only; omega, hid ?_, (KW.trans K2).setCell (p := ⟨w.heap.size, 0, none⟩) (fun _ => Nat.le_refl _) _⟩
          rw [HE.out, show t.size - k = (t.size - (k + 1)) + 1 by omega, Ch.placeRF_go hg.out q]
        case measure => simp [intOf]; omega
    · have hge : ¬ (k : Int) < (t.size : Int) := by omega
      obtain rfl : k = t.size := by omega
      have z0 := hB.mode
      have HX := hid (And.intro KW HE)
      clear hB KW HE
      cases q : wk.mode != 18 with
      | true =>
        go_wp2
        go_ret
        obtain ⟨KW, HE⟩ := HX.out
        rw [HE.out, Nat.sub_self, show Ch.placeRF t 0 t.size wk = (t.size : Int) by simp only [Ch.placeRF, q, if_true]]
        exact ⟨rfl, K0.trans' KW (fun i hi x => by omega)⟩
      | false =>
        go_wp2
        go_ret
        obtain ⟨KW, HE⟩ := HX.out
        rw [HE.out, Nat.sub_self, show Ch.placeRF t 0 t.size wk = -1 by simp only [Ch.placeRF, q, Bool.false_eq_true, if_false]]
        exact ⟨rfl, K0.trans' KW (fun i hi x => by omega)⟩

end

end Go.Proofs.YtnlbchmfcebeeaaGreat
