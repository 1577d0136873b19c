/- Walks: one more transition in the list. Walks: the list of transitions; what they all leave. -/
import Derived.Test.YtnlbchmfcebeeaaGreatTE2
namespace Go.Proofs.YtnlbchmfcebeeaaGreat
open Go.RowKit

section
variable (w : World) (mb ob po : Nat) (s : Ch.Sd) (qv ov : Value) (ol : Ch.Ol)

set_option maxHeartbeats 3200000 in
set_option maxRecDepth 100000 in
theorem admit_any (v : Value) (list : List Int) (t : Nat) (h : InR w v list) (hin : Ch.InT ol list) (hl : list.length ≤ 1000) (ht : t < ol.trs.length) (hm : MaB w mb ob po s qv ov) (hw : s.Wf) (hp : Pl w ob po ol) (hol : ol.Ok) :
    Calls Tryz.prog 130 #[.pointer (some ⟨mb, 0, none⟩), v, .int .i64 t] w fun x w' => ∃ v', x = .returned v' ∧ InR w' v' (Ch.admis ol s list t) ∧ Kp (fun _ => False) w w' := by
  obtain ⟨i0, hi, hz0, hz1, hz2⟩ := info_parts Tryz.infoInt
  obtain ⟨ao, cap, rfl⟩ := h.len
  have E0 := hid (leaves_any w mb ob po s qv ov ol t ht hm hw hp hol)
  have h16 := Ch.leaves_len ol s t
  go_enter Tryz.func130, Tryz.ntmps130
  go_wp2_with fail
  refine Calls.mono (Hid.out E0) ?_
  rintro x w1 ⟨rfl, K1⟩
  have hnew := heap_alloc_new w1 (.cells #[.bool false, .bool false, .bool false, .bool false, .bool false, .bool false, .bool false, .bool false, .bool false, .bool false, .bool false, .bool false, .bool false, .bool false, .bool false, .bool false] 91)
  have hS2 := SeB.ofRow (setRow_heap (w1.alloc (.cells #[.bool false, .bool false, .bool false, .bool false, .bool false, .bool false, .bool false, .bool false, .bool false, .bool false, .bool false, .bool false, .bool false, .bool false, .bool false, .bool false] 91)) w1.heap.size #[.bool false, .bool false, .bool false, .bool false, .bool false, .bool false, .bool false, .bool false, .bool false, .bool false, .bool false, .bool false, .bool false, .bool false, .bool false, .bool false] (setA (Ch.leaves ol s t)) 91 (0, 0) hnew)
  have K2 : Kp (fun _ => False) w ((w1.alloc (.cells #[.bool false, .bool false, .bool false, .bool false, .bool false, .bool false, .bool false, .bool false, .bool false, .bool false, .bool false, .bool false, .bool false, .bool false, .bool false, .bool false] 91)).setRow w1.heap.size (setA (Ch.leaves ol s t))) := (K1.alloc _).setRow (fun x => by have := K1.size; omega) _
  have hm2 : MaB ((w1.alloc (.cells #[.bool false, .bool false, .bool false, .bool false, .bool false, .bool false, .bool false, .bool false, .bool false, .bool false, .bool false, .bool false, .bool false, .bool false, .bool false, .bool false] 91)).setRow w1.heap.size (setA (Ch.leaves ol s t))) mb ob po s qv ov := SdB.keep hm K2 (fun x => x)
  have hp2 : Pl ((w1.alloc (.cells #[.bool false, .bool false, .bool false, .bool false, .bool false, .bool false, .bool false, .bool false, .bool false, .bool false, .bool false, .bool false, .bool false, .bool false, .bool false, .bool false] 91)).setRow w1.heap.size (setA (Ch.leaves ol s t))) ob po ol := hp.keep K2 (fun _ _ _ _ _ x => x)
  have h2 : InR ((w1.alloc (.cells #[.bool false, .bool false, .bool false, .bool false, .bool false, .bool false, .bool false, .bool false, .bool false, .bool false, .bool false, .bool false, .bool false, .bool false, .bool false, .bool false] 91)).setRow w1.heap.size (setA (Ch.leaves ol s t))) (.slice ao list.length cap) list := h.keep K2 (fun _ _ _ x => x)
  clear hm hp h K1 E0
  have hsI := setA_info h16
  have hs16 := setA_size h16
  have hs1 := setA_one (Ch.leaves ol s t)
  generalize hlv : setA (Ch.leaves ol s t) = LV at *
  go_wp2_with (refine wpList_store_row rfl 91 (.tmp 7) (.tmp 13) rfl w1.heap.size LV rfl rfl 91 #[.bool false, .bool false, .bool false, .bool false, .bool false, .bool false, .bool false, .bool false, .bool false, .bool false, .bool false, .bool false, .bool false, .bool false, .bool false, .bool false] hnew hsI hs16.symm hs1 ?_)
  generalize (w1.alloc (.cells #[.bool false, .bool false, .bool false, .bool false, .bool false, .bool false, .bool false, .bool false, .bool false, .bool false, .bool false, .bool false, .bool false, .bool false, .bool false, .bool false] 91)).setRow w1.heap.size LV = w2 at *
  generalize w1.heap.size = L1 at *
  clear hnew hsI hs16 hs1 hlv
  have hL1 := hS2.lt
  go_loopw [8, 9] (fun kv i wr => ∃ (k : Nat) (fl : List Int), i = .int .i64 k ∧ k ≤ list.length ∧ wr.ownsRow w2.heap.size 3 1 kv fl.length (inCells fl) ∧ fl.length ≤ k ∧ Hid (Ch.admitF ol s t list [] = Ch.admitF ol s t (list.drop k) fl) ∧ Kp (fun _ => False) w2 wr) (fun _ i _ => list.length - (intOf i).toNat)
  case atStart => exact ⟨0, [], rfl, Nat.zero_le _, World.ownsRow_nil _ _ _ _, Nat.le_refl _, hid rfl, Kp.refl _ _⟩
  case round =>
    obtain ⟨k, fl, rfl, hk, hfo, hfl, HE, KW⟩ := hrel
    have hmr : MaB wr mb ob po s qv ov := SdB.keep hm2 KW (fun x => x)
    have hpr : Pl wr ob po ol := hp2.keep KW (fun _ _ _ _ _ x => x)
    have hr : InR wr (.slice ao list.length cap) list := h2.keep KW (fun _ _ _ x => x)
    have hSr := hS2.keep KW (fun x => x)
    by_cases hlt : k < list.length
    · have hlt' : (k : Int) < (list.length : Int) := by omega
      obtain ⟨a, ha⟩ : ∃ s, list[k]? = some s := ⟨_, List.getElem?_eq_getElem hlt⟩
      obtain ⟨g, cap', hg, a0⟩ := hr.at_ ha
      simp only [Value.slice.injEq, true_and] at hg
      obtain ⟨rfl, rfl⟩ := hg
      have ed : list.drop k = a :: list.drop (k + 1) := by
        rw [List.drop_eq_getElem_cons hlt]; congr 1; exact (List.getElem?_eq_some_iff.1 ha).2
      obtain ⟨ha1, ha2⟩ := hin a (List.mem_of_getElem? ha)
      obtain ⟨j, rfl⟩ : ∃ j : Nat, a = j := ⟨a.toNat, by omega⟩
      have hj : j < ol.trs.length := by omega
      have E1 := hid (leaves_any wr mb ob po s qv ov ol j hj hmr hw hpr hol)
      have o16 := Ch.leaves_len ol s j
      have step : Ch.admitF ol s t (list.drop k) fl = if Ch.meets (Ch.leaves ol s t) (Ch.leaves ol s j) then (if Ch.within ol t j then Ch.admitF ol s t (list.drop (k + 1)) fl else none) else Ch.admitF ol s t (list.drop (k + 1)) (fl ++ [(j : Int)]) := by
        rw [ed]; simp only [Ch.admitF, Int.toNat_natCast]
      have HX := hid (And.intro hmr (And.intro hpr (And.intro hfo (And.intro hr (And.intro hSr (And.intro KW step))))))
      have HA := hid ha
      clear hmr hpr hfo hr hSr KW step ed ha
      go_wp2_with fail
      refine Calls.mono (Hid.out E1) ?_
      rintro x w3 ⟨rfl, K3⟩
      obtain ⟨hmr, hpr, hfo, hr, hSr, KW, step⟩ := HX.out
      have hnew := heap_alloc_new w3 (.cells #[.bool false, .bool false, .bool false, .bool false, .bool false, .bool false, .bool false, .bool false, .bool false, .bool false, .bool false, .bool false, .bool false, .bool false, .bool false, .bool false] 91)
      have hO4 := SeB.ofRow (setRow_heap (w3.alloc (.cells #[.bool false, .bool false, .bool false, .bool false, .bool false, .bool false, .bool false, .bool false, .bool false, .bool false, .bool false, .bool false, .bool false, .bool false, .bool false, .bool false] 91)) w3.heap.size #[.bool false, .bool false, .bool false, .bool false, .bool false, .bool false, .bool false, .bool false, .bool false, .bool false, .bool false, .bool false, .bool false, .bool false, .bool false, .bool false] (setA (Ch.leaves ol s j)) 91 (0, 0) hnew)
      have K4 : Kp (fun _ => False) wr ((w3.alloc (.cells #[.bool false, .bool false, .bool false, .bool false, .bool false, .bool false, .bool false, .bool false, .bool false, .bool false, .bool false, .bool false, .bool false, .bool false, .bool false, .bool false] 91)).setRow w3.heap.size (setA (Ch.leaves ol s j))) := (K3.alloc _).setRow (fun x => by have := K3.size; omega) _
      have hsI := setA_info o16
      have hs16 := setA_size o16
      have hs1 := setA_one (Ch.leaves ol s j)
      have HX := hid (And.intro hmr (And.intro hpr (And.intro hfo (And.intro hr (And.intro hSr (And.intro KW step))))))
      clear hmr hpr hfo hr hSr KW step K3 E1
      generalize hlv : setA (Ch.leaves ol s j) = LV at *
      go_wp2_with (refine wpList_store_row rfl 91 (.tmp 10) (.tmp 25) rfl w3.heap.size LV rfl rfl 91 #[.bool false, .bool false, .bool false, .bool false, .bool false, .bool false, .bool false, .bool false, .bool false, .bool false, .bool false, .bool false, .bool false, .bool false, .bool false, .bool false] hnew hsI hs16.symm hs1 ?_)
      generalize (w3.alloc (.cells #[.bool false, .bool false, .bool false, .bool false, .bool false, .bool false, .bool false, .bool false, .bool false, .bool false, .bool false, .bool false, .bool false, .bool false, .bool false, .bool false] 91)).setRow w3.heap.size LV = w4 at *
      generalize w3.heap.size = L4 at *
      clear hnew hsI hs16 hs1 hlv
      obtain ⟨hmr, hpr, hfo, hr, hSr, KW, step⟩ := HX.out
      have hm4 : MaB w4 mb ob po s qv ov := SdB.keep hmr K4 (fun x => x)
      have hp4 : Pl w4 ob po ol := hpr.keep K4 (fun _ _ _ _ _ x => x)
      have hr4 : InR w4 (.slice (some ⟨g, 0, none⟩) list.length cap) list := hr.keep K4 (fun _ _ _ x => x)
      have hS4 := hSr.keep K4 (fun x => x)
      have hf4 := K4.owns hfo (fun _ _ x => x)
      have KW4 := KW.trans K4
      obtain ⟨g', cap', hg', a4⟩ := hr4.at_ HA.out
      simp only [Value.slice.injEq, Option.some.injEq, Addr.mk.injEq, true_and, and_true] at hg'
      obtain ⟨rfl, rfl⟩ := hg'
      have E2 := hid (meets_any w4 L1 0 [] (Ch.leaves ol s t) [] 91 L4 0 [] (Ch.leaves ol s j) [] 91 hS4 h16 rfl hO4 o16 rfl)
      have E3 := hid (within_any w4 mb ob po s qv ov ol t j ht hj hm4 hp4 hol)
      have HK := hid (And.intro hf4 (And.intro hr4 (And.intro KW4 step)))
      clear hm4 hp4 hr4 hS4 hf4 KW4 hmr hpr hfo hr hSr KW step HX K4 hO4 a0
      cases q1 : Ch.meets (Ch.leaves ol s t) (Ch.leaves ol s j) with
      | true =>
        rw [q1] at E2
        cases q2 : Ch.within ol t j with
        | true =>
          rw [q2] at E3
          have HF := hid (HE.out.trans (show _ = Ch.admitF ol s t (list.drop (k + 1)) fl by rw [HK.out.2.2.2, q1, q2]; rfl))
          go_wp2_with fail
          refine Calls.mono (Hid.out E2) ?_
          rintro x w5 ⟨rfl, rfl⟩
          go_wp2_with fail
          refine Calls.mono (Hid.out E3) ?_
          rintro x w6 ⟨rfl, K6⟩
          obtain ⟨hf4, hr4, KW4, step⟩ := HK.out
          have hf6 := K6.owns hf4 (fun _ _ x => x)
          have KW6 := KW4.trans K6
          clear hf4 hr4 KW4 step HK K6 E2 E3 a4
          go_wp2
          go_roundw
          case rel => exact ⟨k + 1, fl, by go_num, by omega, hf6, by omega, HF, KW6⟩
          case measure => simp [intOf]; omega
        | false =>
          rw [q2] at E3
          have HF := hid (show Ch.admis ol s list t = list by
            have e := HE.out.trans (show _ = none by rw [HK.out.2.2.2, q1, q2]; rfl)
            unfold Ch.admis; rw [e])
          go_wp2_with fail
          refine Calls.mono (Hid.out E2) ?_
          rintro x w5 ⟨rfl, rfl⟩
          go_wp2_with fail
          refine Calls.mono (Hid.out E3) ?_
          rintro x w6 ⟨rfl, K6⟩
          obtain ⟨hf4, hr4, KW4, step⟩ := HK.out
          have hr6 := hr4.keep K6 (fun _ _ _ x => x)
          have KW6 := K2.trans (KW4.trans K6)
          clear hf4 hr4 KW4 step HK K6 E2 E3 a4
          go_wp2
          go_ret
          rw [HF.out]
          exact ⟨_, rfl, hr6, KW6⟩
      | false =>
        rw [q1] at E2
        have HF := hid (HE.out.trans (show _ = Ch.admitF ol s t (list.drop (k + 1)) (fl ++ [(j : Int)]) by rw [HK.out.2.2.2, q1]; rfl))
        go_wp2_with fail
        refine Calls.mono (Hid.out E2) ?_
        rintro x w5 ⟨rfl, rfl⟩
        obtain ⟨hf4, hr4, KW4, step⟩ := HK.out
        clear hr4 step HK E2 E3
        go_wp2_with (at_builtin; refine wpList_append_own _ rfl (.tmp 28) (.tmp 33) 38 rfl w2.heap.size 3 i0 (.int .i64 0) 1 8 Tryz.underlying38 hi hz0 hz1 hz2 rfl (by decide) _ _ _ rfl (hf4.alloc _) ⟨w5.heap.size, 0, none⟩ 1 1 [.int .i64 j] rfl rfl ?c1 ?c2 ?c3 ?c4 ?c5 ?_)
        case c1 => exact cell1_new _ _ _
        case c2 => intro u hu; simp at hu; subst hu; rfl
        case c3 => unfold maxLen; omega
        case c4 => omega
        case c5 => have := KW4.size; simp; omega
        intro v6 w6 o6 g6 _
        have K6 : Kp (fun _ => False) w2 w6 := Kp.grown (KW4.alloc _) g6 (fun i hi hlt => by have := (hf4.lt i hi).1; omega)
        clear g6 KW4 hf4 a4
        go_wp2
        go_roundw
        case rel => exact ⟨k + 1, _, by go_num, by omega, by simpa [inCells] using o6, by simp; omega, HF, K6⟩
        case measure => simp [intOf]; omega
    · have hge : ¬ (k : Int) < (list.length : Int) := by omega
      have HF := hid (show Ch.admis ol s list t = fl ++ [(t : Int)] by
        have e := HE.out.trans (show _ = some (fl ++ [(t : Int)]) by rw [List.drop_eq_nil_of_le (by omega)]; rfl)
        unfold Ch.admis; rw [e])
      clear HE hr hpr hmr hSr
      go_wp2_with (at_builtin; refine wpList_append_own _ rfl (.tmp 44) (.tmp 46) 38 rfl w2.heap.size 3 i0 (.int .i64 0) 1 8 Tryz.underlying38 hi hz0 hz1 hz2 rfl (by decide) _ _ _ rfl (hfo.alloc _) ⟨wr.heap.size, 0, none⟩ 1 1 [.int .i64 t] rfl rfl ?c1 ?c2 ?c3 ?c4 ?c5 ?_)
      case c2 => first | rfl | (intro u hu; simp at hu; subst hu; rfl)
      case c3 => first | (unfold maxLen; omega) | omega | (simp [maxLen]; omega)
      case c4 => omega
      case c5 => have := KW.size; simp; omega
      intro v6 w6 o6 g6 _
      have K6 : Kp (fun _ => False) w2 w6 := Kp.grown (KW.alloc _) g6 (fun i hi hlt => by have := (hfo.lt i hi).1; omega)
      have K7 := K2.trans K6
      clear g6 KW hfo K6
      go_wp2
      go_ret
      rw [HF.out]
      exact ⟨_, rfl, ⟨_, by simpa [inCells] using o6⟩, K7⟩

end

end Go.Proofs.YtnlbchmfcebeeaaGreat

namespace Go.Proofs.YtnlbchmfcebeeaaGreat
open Go.RowKit

section
variable (w : World) (mb ob po : Nat) (s : Ch.Sd) (qv ov : Value) (ol : Ch.Ol)

set_option maxHeartbeats 3200000 in
set_option maxRecDepth 100000 in
theorem choose_any (trg : Int) (hm : MaB w mb ob po s qv ov) (hw : s.Wf) (hp : Pl w ob po ol) (hol : ol.Ok) :
    Calls Tryz.prog 80 #[.pointer (some ⟨mb, 0, none⟩), .int .u8 trg] w fun x w' => ∃ v', x = .returned v' ∧ InR w' v' (Ch.choose ol s trg) ∧ Kp (fun _ => False) w w' := by
  have h16 := hol.sts
  have E0 := hid (find_any w mb ob po s qv ov ol trg hm hw hp hol)
  obtain ⟨hin, hlen⟩ := Ch.find_in ol s trg
  have HU := hid (show Ch.choose ol s trg = Ch.chooseF ol s (Ch.find ol s trg) [] from rfl)
  go_enter Tryz.func80, Tryz.ntmps80
  go_wp2_with fail
  refine Calls.mono (Hid.out E0) ?_
  rintro x w1 ⟨fv, rfl, ho1, K1⟩
  have h1 : InR w1 fv (Ch.find ol s trg) := ⟨_, ho1⟩
  have hm1 : MaB w1 mb ob po s qv ov := SdB.keep hm K1 (fun x => x)
  have hp1 : Pl w1 ob po ol := hp.keep K1 (fun _ _ _ _ _ x => x)
  clear ho1 hm hp E0
  generalize Ch.find ol s trg = list at *
  obtain ⟨ao, cap, rfl⟩ := h1.len
  go_wp2_with fail
  go_loopw [6, 7] (fun kv i wr => ∃ (k : Nat) (fl : List Int), i = .int .i64 k ∧ k ≤ list.length ∧ InR wr kv fl ∧ fl.length ≤ k ∧ Ch.InT ol fl ∧ Hid (Ch.chooseF ol s list [] = Ch.chooseF ol s (list.drop k) fl) ∧ Kp (fun _ => False) w1 wr) (fun _ i _ => list.length - (intOf i).toNat)
  case atStart => exact ⟨0, [], rfl, Nat.zero_le _, ⟨0, World.ownsRow_nil _ _ _ _⟩, Nat.le_refl _, by intro n hn; simp at hn, hid rfl, Kp.refl _ _⟩
  case round =>
    obtain ⟨k, fl, rfl, hk, hfo, hfl, hfi, HE, KW⟩ := hrel
    have hmr : MaB wr mb ob po s qv ov := SdB.keep hm1 KW (fun x => x)
    have hpr : Pl wr ob po ol := hp1.keep KW (fun _ _ _ _ _ x => x)
    have hr : InR wr (.slice ao list.length cap) list := h1.keep KW (fun _ _ _ x => x)
    by_cases hlt : k < list.length
    · have hlt' : (k : Int) < (list.length : Int) := by omega
      obtain ⟨a, ha⟩ : ∃ s, list[k]? = some s := ⟨_, List.getElem?_eq_getElem hlt⟩
      obtain ⟨g, cap', hg, a0⟩ := hr.at_ ha
      simp only [Value.slice.injEq, true_and] at hg
      obtain ⟨rfl, rfl⟩ := hg
      have ed : list.drop k = a :: list.drop (k + 1) := by
        rw [List.drop_eq_getElem_cons hlt]; congr 1; exact (List.getElem?_eq_some_iff.1 ha).2
      obtain ⟨ha1, ha2⟩ := hin a (List.mem_of_getElem? ha)
      obtain ⟨j, rfl⟩ : ∃ j : Nat, a = j := ⟨a.toNat, by omega⟩
      have hj : j < ol.trs.length := by omega
      have E1 := hid (admit_any wr mb ob po s qv ov ol _ fl j hfo hfi (by omega) hj hmr hw hpr hol)
      have HF := hid (HE.out.trans (show _ = Ch.chooseF ol s (list.drop (k + 1)) (Ch.admis ol s fl j) by rw [ed]; simp only [Ch.chooseF, Int.toNat_natCast]))
      have hai := Ch.admit_in (s := s) hj hfi
      clear hmr hpr hr ed ha hfo HE
      go_wp2_with fail
      refine Calls.mono (Hid.out E1) ?_
      rintro x w3 ⟨v3, rfl, h3, K3⟩
      have K4 := KW.trans K3
      clear E1 K3 KW a0
      go_wp2
      go_roundw
      case rel => exact ⟨k + 1, _, by go_num, by omega, h3, by omega, hai.1, HF, K4⟩
      case measure => simp [intOf]; omega
    · have hge : ¬ (k : Int) < (list.length : Int) := by omega
      have HF := hid (HE.out.trans (show _ = fl by rw [List.drop_eq_nil_of_le (by omega)]; rfl))
      have K2 := K1.trans KW
      clear HE hr hpr hmr
      go_wp2_with fail
      go_ret
      rw [HU.out, HF.out]
      exact ⟨_, rfl, hfo, K2⟩

end

end Go.Proofs.YtnlbchmfcebeeaaGreat
