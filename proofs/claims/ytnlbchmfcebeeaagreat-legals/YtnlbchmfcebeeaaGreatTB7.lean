/- Walks: what a history remembers. -/
import Derived.Test.YtnlbchmfcebeeaaGreatTB6
namespace Go.Proofs.YtnlbchmfcebeeaaGreat
open Go.RowKit

namespace Ch
def remP (ss : List St) (act left : List Bool) (k : Nat) : Bool := hist ss k && has left (parAt ss k) && (actCh ss act (parAt ss k) != -2)
def remF (ss : List St) (act left : List Bool) : Nat → Nat → List Int → List Int
  | 0, _, p => p
  | f + 1, k, p => remF ss act left f (k + 1) (if remP ss act left k then p.set k (nmAt ss (actCh ss act (parAt ss k)).toNat) else p)
def rem (ss : List St) (s : Sd) (left : List Bool) : Sd := { s with past := remF ss s.act left (min ss.length 16) 0 s.past }
theorem remF_len (ss : List St) (act left : List Bool) : ∀ (f k : Nat) (p : List Int), (remF ss act left f k p).length = p.length := by
  intro f
  induction f with
  | zero => intro k p; rfl
  | succ f ih => intro k p; simp only [remF]; rw [ih]; split <;> simp
theorem rem_wf {ss : List St} {s : Sd} (left : List Bool) (h : s.Wf) : (rem ss s left).Wf := ⟨h.1, by simp [rem, remF_len, h.2]⟩
theorem actChF_at (ss : List St) (l : List Bool) (parent : Int) : ∀ (f k : Nat), actChF ss l parent f k ≠ -2 → ∃ j : Nat, actChF ss l parent f k = j ∧ j < k + f := by
  intro f
  induction f with
  | zero => intro k h; exact absurd rfl h
  | succ f ih =>
    intro k h
    simp only [actChF] at h ⊢
    split
    · exact ⟨k, rfl, by omega⟩
    · rename_i q
      rw [if_neg q] at h
      obtain ⟨j, e, hj⟩ := ih (k + 1) h
      exact ⟨j, e, by omega⟩
theorem actCh_at {ss : List St} {l : List Bool} {parent : Int} (h : (actCh ss l parent != -2) = true) : ∃ j : Nat, actCh ss l parent = j ∧ j < ss.length := by
  obtain ⟨j, e, hj⟩ := actChF_at ss l parent ss.length 0 (by simpa [actCh] using h)
  exact ⟨j, e, by omega⟩
end Ch

section
variable (ob oo : Nat) (w : World) (ss : List Ch.St) (b o : Nat) (pre : List Value) (s : Ch.Sd) (post : List Value) (T : TypeId) (lb lo : Nat) (pre' : List Value) (l : List Bool) (post' : List Value) (T' : TypeId)

set_option maxHeartbeats 6400000 in
set_option maxRecDepth 100000 in
theorem remember_any (hS : StR w ob oo ss) (hl : ss.length ≤ 1000) (h : SdB w b pre s post T) (hw : s.Wf) (ho : pre.length = o) (hL : SeB w lb pre' l post' T') (h16 : l.length = 16) (hlo : pre'.length = lo) (hne : lb ≠ b) (hob : ob ≠ b) (hT : T ≠ 155) :
    Calls Tryz.prog 132 #[.pointer (some ⟨b, o, none⟩), .pointer (some ⟨ob, oo, none⟩), .pointer (some ⟨lb, lo, none⟩)] w fun x w' => x = .returned (.tuple #[]) ∧ SdB w' b pre (Ch.rem ss s l) post T ∧ Kp (fun k => k = b) w w' := by
  subst ho
  have hnb : ∀ i cur, w.heap[i]? = some (.cells cur 155 (0, 0)) → i ≠ b := by
    intro i cur hi e
    subst e
    unfold SdB SeB at h
    rw [h] at hi
    simp at hi
    exact hT hi.2
  go_enter Tryz.func132, Tryz.ntmps132
  go_wp2_with fail
  go_loopw [6] (fun i wr => ∃ (k : Nat) (p : List Int), i = .int .i64 k ∧ k ≤ 16 ∧ k ≤ ss.length ∧ p.length = 16 ∧ Hid (Ch.remF ss s.act l (min ss.length 16) 0 s.past = Ch.remF ss s.act l (min ss.length 16 - k) k p) ∧ SdB wr b pre { s with past := p } post T ∧ Kp (fun k => k = b) w wr) (fun i _ => 16 - (intOf i).toNat)
  case atStart => exact ⟨0, s.past, rfl, Nat.zero_le _, Nat.zero_le _, hw.2, hid rfl, h, Kp.refl _ _⟩
  case round =>
    obtain ⟨k, p, rfl, hk16, hkn, hp, HE, hd, KW⟩ := hrel
    have hwp : Ch.Sd.Wf { s with past := p } := ⟨hw.1, hp⟩
    have hSr : StR wr ob oo ss := hS.keep KW hob hnb
    have hLr : SeB wr lb pre' l post' T' := hL.keep KW hne
    by_cases hgo : k < ss.length ∧ k < 16
    · obtain ⟨hlt, h16'⟩ := hgo
      obtain ⟨st, hs⟩ : ∃ s, ss[k]? = some s := ⟨_, List.getElem?_eq_getElem hlt⟩
      have hlt' : (k : Int) < (ss.length : Int) := by omega
      have h16'' : (k : Int) < 16 := by omega
      have ef : min ss.length 16 - k = (min ss.length 16 - (k + 1)) + 1 := by omega
      have hpa : Ch.parAt ss k = st.parent := by simp [Ch.parAt, Ch.stAt_nat, hs]
      have hhi : Ch.hist ss k = (st.kind == 5) := by simp [Ch.hist, hs]
      have hP : Ch.remP ss s.act l k = ((st.kind == 5) && Ch.has l st.parent && (Ch.actCh ss s.act st.parent != -2)) := by simp [Ch.remP, hpa, hhi]
      obtain ⟨g, cap, c2, a0, a1, a2, a3⟩ := hSr.at_ hs
      have E1 := hid (has_any wr lb lo pre' l post' T' st.parent hLr h16 hlo)
      have E2 := hid (activeChild_any ob oo wr ss b pre.length pre post T { s with past := p } st.parent hSr hl hd hwp rfl)
      have step : Ch.remP ss s.act l k = false → Ch.remF ss s.act l (min ss.length 16) 0 s.past = Ch.remF ss s.act l (min ss.length 16 - (k + 1)) (k + 1) p := fun q => by
        rw [HE.out, ef]; simp only [Ch.remF]; rw [q]; rfl
      cases q1 : st.kind == 5 with
      | false =>
        have HF := hid (step (by rw [hP, q1]; rfl))
        have q1' : (st.kind != 5) = true := by simp [bne, q1]
        clear step hP hpa hhi ef HE hs hS hSr h hL hLr E1 E2
        go_wp2_with fail
        go_roundw
        case rel => exact ⟨k + 1, p, by go_num, by omega, by omega, hp, HF, hd, KW⟩
        case measure => simp [intOf]; omega
      | true =>
        have q1' : (st.kind != 5) = false := by simp [bne, q1]
        cases q2 : Ch.has l st.parent with
        | false =>
          rw [q2] at E1
          have HF := hid (step (by rw [hP, q1, q2]; rfl))
          clear step hP hpa hhi ef HE hs hS hSr h hL hLr E2
          go_wp2_with fail
          refine Calls.mono (Hid.out E1) ?_
          rintro x w1 ⟨rfl, rfl⟩
          go_wp2_with fail
          go_roundw
          case rel => exact ⟨k + 1, p, by go_num, by omega, by omega, hp, HF, hd, KW⟩
          case measure => simp [intOf]; omega
        | true =>
          rw [q2] at E1
          cases q3 : Ch.actCh ss s.act st.parent != -2 with
          | false =>
            have HF := hid (step (by rw [hP, q1, q2, q3]; rfl))
            clear step hP hpa hhi ef HE hs hS hSr h hL hLr
            go_wp2_with fail
            refine Calls.mono (Hid.out E1) ?_
            rintro x w1 ⟨rfl, rfl⟩
            go_wp2_with fail
            refine Calls.mono (Hid.out E2) ?_
            rintro x w1 ⟨rfl, rfl⟩
            go_wp2_with fail
            go_roundw
            case rel => exact ⟨k + 1, p, by go_num, by omega, by omega, hp, HF, hd, KW⟩
            case measure => simp [intOf]; omega
          | true =>
            obtain ⟨j, ej, hj⟩ := Ch.actCh_at q3
            obtain ⟨sj, hsj⟩ : ∃ s, ss[j]? = some s := ⟨_, List.getElem?_eq_getElem hj⟩
            have hjl : (j : Int) < (ss.length : Int) := by omega
            have HF := hid (show Ch.remF ss s.act l (min ss.length 16) 0 s.past = Ch.remF ss s.act l (min ss.length 16 - (k + 1)) (k + 1) (p.set k sj.name) by
              rw [HE.out, ef]; simp only [Ch.remF]; rw [if_pos (by rw [hP, q1, q2, q3]; rfl), hpa, ej]; simp [Ch.nmAt, hsj])
            have hset := hd.setPast hwp h16' sj.name
            obtain ⟨g', cap', c2', b0, b1, b2, b3⟩ := hSr.at_ hsj
            have fr := hd.free (pre.length + 16 + k)
            have cp := hd.past hwp h16'
            rw [c2] at c2'
            simp only [Option.some.injEq, Value.slice.injEq, true_and] at c2'
            have eg := c2'.1
            simp only [Addr.mk.injEq, and_true] at eg
            subst eg
            have HS := hid hset
            have q3' : ((j : Int) != -2) = true := by rw [ej] at q3; exact q3
            simp only [ej] at E2
            have hix := run_ixMem wr b (pre.length + 16) k h16'
            clear step hP hpa hhi ef HE hs hS hSr h hL hLr hset hsj hd q3
            go_wp2_with fail
            refine Calls.mono (Hid.out E1) ?_
            rintro x w1 ⟨rfl, rfl⟩
            go_wp2_with fail
            refine Calls.mono (Hid.out E2) ?_
            rintro x w1 ⟨rfl, rfl⟩
            go_wp2_with fail
            go_region
            go_wp2
            go_roundw
            case rel => exact ⟨k + 1, p.set k sj.name, by go_num, by omega, by omega, by simpa using hp, HF, HS.out, (show Kp (fun k => k = b) w (w1.setCell ⟨b, pre.length + 16 + k, none⟩ (.int .u8 sj.name)) from KW.setCell (by intro _; rfl) _).drew⟩
            case measure => simp [intOf]; omega
    · have HF := hid (HE.out.trans (show _ = p by rw [show min ss.length 16 - k = 0 by omega]; rfl))
      obtain ⟨ao, cap, c2⟩ := hSr.len
      clear HE hS h hL hLr hSr
      by_cases hlt : k < ss.length
      · have x1 : (k : Int) < (ss.length : Int) := by omega
        have x2 : decide ((k : Int) < 16) = false := by simp; omega
        clear hgo
        go_wp2_with fail
        go_end0
        exact ⟨rfl, by unfold Ch.rem; rw [HF.out]; exact hd, KW⟩
      · have x1 : decide ((k : Int) < (ss.length : Int)) = false := by simp; omega
        clear hgo
        go_wp2_with fail
        go_end0
        exact ⟨rfl, by unfold Ch.rem; rw [HF.out]; exact hd, KW⟩

end

end Go.Proofs.YtnlbchmfcebeeaaGreat
