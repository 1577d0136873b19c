/- Walks: which states a transition leaves. -/
import Derived.Test.YtnlbchmfcebeeaaGreatTE1
import Derived.Deep.CutRange
import Derived.Deep.RegionHeld3
namespace Go.Proofs.YtnlbchmfcebeeaaGreat
open Go.RowKit

def setA (l : List Bool) : Array Value := (l.map Value.bool).toArray
section
variable {w : World} {b : Nat} {l : List Bool}
theorem SeB.row (h : SeB w b [] l [] 91) : w.heap[b]? = some (.cells (setA l) 91 (0, 0)) := by unfold SeB at h; simpa [setA] using h
theorem SeB.ofRow (h : w.heap[b]? = some (.cells (setA l) 91 (0, 0))) : SeB w b [] l [] 91 := by unfold SeB; simpa [setA] using h
theorem setA_size (h : l.length = 16) : (setA l).size = 16 := by simp [setA, h]
theorem setA_info (h : l.length = 16) : (Tryz.prog.info? 91).map (·.size) = some (setA l).size := by rw [setA_size h]; exact Tryz.sizeSet
theorem setA_one (l : List Bool) : (setA l).all (·.oneCell') = true := by
  apply Array.all_eq_true_iff_forall_mem.2; intro x hx; simp only [setA, List.mem_toArray, List.mem_map] at hx; obtain ⟨a, _, rfl⟩ := hx; rfl
theorem setA_no : setA Ch.noSet = #[.bool false, .bool false, .bool false, .bool false, .bool false, .bool false, .bool false, .bool false, .bool false, .bool false, .bool false, .bool false, .bool false, .bool false, .bool false, .bool false] := rfl
end

theorem Kp.cell0 {w w' : World} (k : Kp (fun _ => False) w w') {p : Addr} {v : Value} (h : w.cell? p = some v) : w'.cell? p = some v := by
  have hlt := World.block_lt_of_cell? w _ h
  have e := k.block p.block hlt (fun x => x)
  unfold World.cell? at *
  rw [e]; exact h

section
variable (w : World) (mb ob po : Nat) (s : Ch.Sd) (qv ov : Value) (ol : Ch.Ol)

set_option maxHeartbeats 3200000 in
set_option maxRecDepth 100000 in
theorem leaves_any (t : Nat) (ht : t < ol.trs.length) (hm : MaB w mb ob po s qv ov) (hw : s.Wf) (hp : Pl w ob po ol) (hol : ol.Ok) :
    Calls Tryz.prog 176 #[.pointer (some ⟨mb, 0, none⟩), .int .i64 t] w fun x w' => x = .returned (.agg (setA (Ch.leaves ol s t))) ∧ Kp (fun _ => False) w w' := by
  obtain ⟨ds, hds, hda⟩ := Tryz.undSet
  have hl16 := hol.sts
  have ht' : (t : Int) < (ol.trs.length : Int) := by omega
  obtain ⟨a, ha⟩ : ∃ s, ol.trs[t]? = some s := ⟨_, List.getElem?_eq_getElem ht⟩
  have K2 : Kp (fun _ => False) w ((w.alloc (.cells #[.bool false, .bool false, .bool false, .bool false, .bool false, .bool false, .bool false, .bool false, .bool false, .bool false, .bool false, .bool false, .bool false, .bool false, .bool false, .bool false] 91)).alloc (.cells #[.bool false, .bool false, .bool false, .bool false, .bool false, .bool false, .bool false, .bool false, .bool false, .bool false, .bool false, .bool false, .bool false, .bool false, .bool false, .bool false] 91)) := ((Kp.refl _ _).alloc _).alloc _
  have hr2 : ((w.alloc (.cells #[.bool false, .bool false, .bool false, .bool false, .bool false, .bool false, .bool false, .bool false, .bool false, .bool false, .bool false, .bool false, .bool false, .bool false, .bool false, .bool false] 91)).alloc (.cells #[.bool false, .bool false, .bool false, .bool false, .bool false, .bool false, .bool false, .bool false, .bool false, .bool false, .bool false, .bool false, .bool false, .bool false, .bool false, .bool false] 91)).heap[w.heap.size]? = some (.cells #[.bool false, .bool false, .bool false, .bool false, .bool false, .bool false, .bool false, .bool false, .bool false, .bool false, .bool false, .bool false, .bool false, .bool false, .bool false, .bool false] 91) := by
    rw [Below.heap_alloc _ _ _ (by simp)]; exact heap_alloc_new _ _
  have hv2 : ((w.alloc (.cells #[.bool false, .bool false, .bool false, .bool false, .bool false, .bool false, .bool false, .bool false, .bool false, .bool false, .bool false, .bool false, .bool false, .bool false, .bool false, .bool false] 91)).alloc (.cells #[.bool false, .bool false, .bool false, .bool false, .bool false, .bool false, .bool false, .bool false, .bool false, .bool false, .bool false, .bool false, .bool false, .bool false, .bool false, .bool false] 91)).heap[w.heap.size + 1]? = some (.cells #[.bool false, .bool false, .bool false, .bool false, .bool false, .bool false, .bool false, .bool false, .bool false, .bool false, .bool false, .bool false, .bool false, .bool false, .bool false, .bool false] 91) := heap_alloc2_new w _ _
  have hsz2 : ((w.alloc (.cells #[.bool false, .bool false, .bool false, .bool false, .bool false, .bool false, .bool false, .bool false, .bool false, .bool false, .bool false, .bool false, .bool false, .bool false, .bool false, .bool false] 91)).alloc (.cells #[.bool false, .bool false, .bool false, .bool false, .bool false, .bool false, .bool false, .bool false, .bool false, .bool false, .bool false, .bool false, .bool false, .bool false, .bool false, .bool false] 91)).heap.size = w.heap.size + 2 := by simp
  have hmb := hm.lt
  have cp : ((w.alloc (.cells #[.bool false, .bool false, .bool false, .bool false, .bool false, .bool false, .bool false, .bool false, .bool false, .bool false, .bool false, .bool false, .bool false, .bool false, .bool false, .bool false] 91)).alloc (.cells #[.bool false, .bool false, .bool false, .bool false, .bool false, .bool false, .bool false, .bool false, .bool false, .bool false, .bool false, .bool false, .bool false, .bool false, .bool false, .bool false] 91)).cell? ⟨mb, 0, none⟩ = some (.pointer (some ⟨ob, po, none⟩)) := MaB.plan (SdB.keep hm K2 (fun x => x))
  have hm2 : MaB ((w.alloc (.cells #[.bool false, .bool false, .bool false, .bool false, .bool false, .bool false, .bool false, .bool false, .bool false, .bool false, .bool false, .bool false, .bool false, .bool false, .bool false, .bool false] 91)).alloc (.cells #[.bool false, .bool false, .bool false, .bool false, .bool false, .bool false, .bool false, .bool false, .bool false, .bool false, .bool false, .bool false, .bool false, .bool false, .bool false, .bool false] 91)) mb ob po s qv ov := SdB.keep hm K2 (fun x => x)
  have hp2 : Pl ((w.alloc (.cells #[.bool false, .bool false, .bool false, .bool false, .bool false, .bool false, .bool false, .bool false, .bool false, .bool false, .bool false, .bool false, .bool false, .bool false, .bool false, .bool false] 91)).alloc (.cells #[.bool false, .bool false, .bool false, .bool false, .bool false, .bool false, .bool false, .bool false, .bool false, .bool false, .bool false, .bool false, .bool false, .bool false, .bool false, .bool false] 91)) ob po ol := hp.keep K2 (fun _ _ _ _ _ x => x)
  obtain ⟨g, cap, ac, base, c3, cc, hac⟩ := hp2.tr ha
  have c0 := cc 0 (by omega)
  have c1 := cc 1 (by omega)
  have c2 := cc 2 (by omega)
  have c4 := cc 4 (by omega)
  have c5 := cc 5 (by omega)
  have c6 := cc 6 (by omega)
  have c33 := cc 3 (by omega)
  simp only [List.getElem?_cons_succ, List.getElem?_cons_zero, Nat.add_zero] at c0 c1 c2 c33 c4 c5 c6
  clear cc hac hp hm
  cases q1 : a.target == 45 with
  | true =>
    rw [show Ch.leaves ol s t = Ch.noSet by simp [Ch.leaves, ha, q1]]
    clear hm2 hp2
    go_enter Tryz.func176, Tryz.ntmps176
    go_wp2_with fail
    generalize ((w.alloc (.cells #[.bool false, .bool false, .bool false, .bool false, .bool false, .bool false, .bool false, .bool false, .bool false, .bool false, .bool false, .bool false, .bool false, .bool false, .bool false, .bool false] 91)).alloc (.cells #[.bool false, .bool false, .bool false, .bool false, .bool false, .bool false, .bool false, .bool false, .bool false, .bool false, .bool false, .bool false, .bool false, .bool false, .bool false, .bool false] 91)) = w2 at *
    refine bodyPost_ret (results_cell_row rfl _ _ w.heap.size 91 #[.bool false, .bool false, .bool false, .bool false, .bool false, .bool false, .bool false, .bool false, .bool false, .bool false, .bool false, .bool false, .bool false, .bool false, .bool false, .bool false] (0, 0) ds rfl hr2 hds (by cases ds <;> first | rfl | exact absurd hda (by simp [isAggD])) Tryz.sizeSet) rfl ?_
    exact ⟨rfl, K2⟩
  | false =>
    rw [show Ch.leaves ol s t = Ch.leavesF ol.sts s.act (Ch.dom ol.sts a.state a.target) ol.sts.length 0 Ch.noSet by simp [Ch.leaves, ha, q1]]
    have E1 := hid (domain_any ob po ((w.alloc (.cells #[.bool false, .bool false, .bool false, .bool false, .bool false, .bool false, .bool false, .bool false, .bool false, .bool false, .bool false, .bool false, .bool false, .bool false, .bool false, .bool false] 91)).alloc (.cells #[.bool false, .bool false, .bool false, .bool false, .bool false, .bool false, .bool false, .bool false, .bool false, .bool false, .bool false, .bool false, .bool false, .bool false, .bool false, .bool false] 91)).drew ol.sts a.state a.trig a.guard.var a.guard.sign a.guard.digit a.target ac hol.up (by exact hp2.str) (by omega))
    go_enter Tryz.func176, Tryz.ntmps176
    go_upto_region 4 with (fail)
    generalize hw2 : ((w.alloc (.cells #[.bool false, .bool false, .bool false, .bool false, .bool false, .bool false, .bool false, .bool false, .bool false, .bool false, .bool false, .bool false, .bool false, .bool false, .bool false, .bool false] 91)).alloc (.cells #[.bool false, .bool false, .bool false, .bool false, .bool false, .bool false, .bool false, .bool false, .bool false, .bool false, .bool false, .bool false, .bool false, .bool false, .bool false, .bool false] 91)) = w2 at *
    clear hw2
    go_cut [6] from 21 to 35 (fun d wx => d = .int .i64 (Ch.dom ol.sts a.state a.target) ∧ Kp (fun _ => False) w2 wx)
    case first =>
      go_region_held3 (fun w' => w'.cell? ⟨mb, 0, none⟩ = some (.pointer (some ⟨ob, po, none⟩)) ∧ w'.cell? ⟨ob, po + 3, none⟩ = some (.slice (some ⟨g, 0, none⟩) ol.trs.length cap) ∧ w'.cell? ⟨g, t * 7, none⟩ = some (.int .i64 a.state) ∧ w'.cell? ⟨g, t * 7 + 1, none⟩ = some (.int .u8 a.trig) ∧ w'.cell? ⟨g, t * 7 + 2, none⟩ = some (.int .u8 a.guard.var) ∧ w'.cell? ⟨g, t * 7 + 3, none⟩ = some (.int .u8 a.guard.sign) ∧ w'.cell? ⟨g, t * 7 + 4, none⟩ = some (.int .i64 a.guard.digit) ∧ w'.cell? ⟨g, t * 7 + 5, none⟩ = some ac ∧ w'.cell? ⟨g, t * 7 + 6, none⟩ = some (.int .u8 a.target)) (first | exact ⟨cp, c3, c0, c1, c2, c33, c4, c5, c6⟩ | exact HS.out) ((go_at_call 222; refine Calls.mono (Hid.out E1) ?_; rintro x w3 ⟨rfl, K3⟩; have H := hid K3; have HS := hid (And.intro (K3.cell0 cp) (And.intro (K3.cell0 c3) (And.intro (K3.cell0 c0) (And.intro (K3.cell0 c1) (And.intro (K3.cell0 c2) (And.intro (K3.cell0 c33) (And.intro (K3.cell0 c4) (And.intro (K3.cell0 c5) (K3.cell0 c6))))))))); clear E1 K3))
      all_goals (go_wp2_with fail; go_meet; exact ⟨rfl, ((Kp.refl (fun _ => False) w2).drewN 1).trans H.out⟩)
    case rest =>
      obtain ⟨rfl, KC⟩ := hcut
      have hmc : MaB wc mb ob po s qv ov := SdB.keep hm2 KC (fun x => x)
      have hpc : Pl wc ob po ol := hp2.keep KC (fun _ _ _ _ _ x => x)
      have hrc := KC.at_ hr2 (fun x => x)
      have hvc : SeB wc (w.heap.size + 1) [] Ch.noSet [] 91 := SeB.ofRow (KC.at_ hv2 (fun x => x))
      have KW := K2.trans KC
      have hnr : ∀ cur T, wc.heap[w.heap.size + 1]? = some (.cells cur T (0, 0)) → T = 91 := by
        intro cur T h; rw [SeB.row hvc] at h; simp at h; exact h.2.symm
      clear E1 hm2 hp2 hr2 hv2 K2 KC cp c0 c1 c2 c3 c4 c5 c6 c33 q1 ha
      generalize hdm : Ch.dom ol.sts a.state a.target = dm at *
      have HD := hid hdm
      clear hdm
      go_wp2_with fail
      go_loopw [7] (fun i wr => ∃ (k : Nat) (l : List Bool), i = .int .i64 k ∧ k ≤ ol.sts.length ∧ l.length = 16 ∧ Hid (Ch.leavesF ol.sts s.act dm ol.sts.length 0 Ch.noSet = Ch.leavesF ol.sts s.act dm (ol.sts.length - k) k l) ∧ SeB wr (w.heap.size + 1) [] l [] 91 ∧ Kp (fun k => k = w.heap.size + 1) wc wr) (fun i _ => ol.sts.length - (intOf i).toNat)
      case atStart => exact ⟨0, Ch.noSet, rfl, Nat.zero_le _, rfl, hid rfl, hvc, Kp.refl _ _⟩
      case round =>
        obtain ⟨k, l, rfl, hk, h16, HE, h1, K1⟩ := hrel
        have hmr : MaB wr mb ob po s qv ov := SdB.keep hmc K1 (fun x => by omega)
        have hpr : Pl wr ob po ol := hpc.keep K1 (fun i cur T hi hT x => by subst x; have := hnr _ _ hi; subst this; revert hT; unfold plT oT; decide)
        have hrr := K1.at_ hrc (fun x => by omega)
        have KX : Kp (fun _ => False) w wr := KW.trans' K1 (fun i hi x => by omega)
        have cp := hmr.plan
        obtain ⟨ao, cap, c2⟩ := hpr.str.len
        by_cases hlt : k < ol.sts.length
        · have hlt' : (k : Int) < (ol.sts.length : Int) := by omega
          have ef : ol.sts.length - k = (ol.sts.length - (k + 1)) + 1 := by omega
          have E1 := hid (has_any wr mb 1 [.pointer (some ⟨ob, po, none⟩)] s.act (sdTail s ++ [qv, ov]) 149 k hmr hw.1 rfl)
          have E2 := hid (isAbove_any ob po wr ol.sts dm k hol.up hpr.str (by omega))
          have E3 := hid (put_any wr (w.heap.size + 1) 0 [] l [] 91 k h1 h16 rfl)
          have HK := hid (And.intro K1 h1)
          cases q1 : Ch.has s.act (k : Int) with
          | false =>
            rw [q1] at E1
            have HF := hid (HE.out.trans (show _ = Ch.leavesF ol.sts s.act dm (ol.sts.length - (k + 1)) (k + 1) l by rw [ef]; simp only [Ch.leavesF]; rw [q1]; rfl))
            clear HE ef K1 KX h1 hmr hpr hrr
            go_wp2_with fail
            refine Calls.mono (Hid.out E1) ?_
            rintro x w1 ⟨rfl, rfl⟩
            go_wp2_with fail
            go_roundw
            case rel => exact ⟨k + 1, l, by go_num, by omega, h16, HF, HK.out.2, HK.out.1⟩
            case measure => simp [intOf]; omega
          | true =>
            rw [q1] at E1
            cases q2 : Ch.isAbove ol.sts dm (k : Int) with
            | false =>
              rw [q2] at E2
              have HF := hid (HE.out.trans (show _ = Ch.leavesF ol.sts s.act dm (ol.sts.length - (k + 1)) (k + 1) l by rw [ef]; simp only [Ch.leavesF]; rw [q1, q2]; rfl))
              clear HE ef K1 KX h1 hmr hpr hrr
              go_wp2_with fail
              refine Calls.mono (Hid.out E1) ?_
              rintro x w1 ⟨rfl, rfl⟩
              go_wp2_with fail
              refine Calls.mono (Hid.out E2) ?_
              rintro x w1 ⟨rfl, rfl⟩
              go_wp2_with fail
              go_roundw
              case rel => exact ⟨k + 1, l, by go_num, by omega, h16, HF, HK.out.2, HK.out.1⟩
              case measure => simp [intOf]; omega
            | true =>
              rw [q2] at E2
              have HF := hid (HE.out.trans (show _ = Ch.leavesF ol.sts s.act dm (ol.sts.length - (k + 1)) (k + 1) (Ch.putB l (k : Int) true) by rw [ef]; simp only [Ch.leavesF]; rw [q1, q2]; rfl))
              clear HE ef K1 KX h1 hmr hpr hrr
              go_wp2_with fail
              refine Calls.mono (Hid.out E1) ?_
              rintro x w1 ⟨rfl, rfl⟩
              go_wp2_with fail
              refine Calls.mono (Hid.out E2) ?_
              rintro x w1 ⟨rfl, rfl⟩
              go_wp2_with fail
              refine Calls.mono (Hid.out E3) ?_
              rintro x w3 ⟨rfl, h3, K3⟩
              have K4 := HK.out.1.trans K3
              clear E1 E2 E3 HK K3
              go_wp2_with fail
              go_roundw
              case rel => exact ⟨k + 1, _, by go_num, by omega, by rw [Ch.putB_len]; exact h16, HF, h3, K4⟩
              case measure => simp [intOf]; omega
        · have hge : ¬ (k : Int) < (ol.sts.length : Int) := by omega
          have HF := hid (HE.out.trans (show _ = l by rw [show ol.sts.length - k = 0 by omega]; rfl))
          have hrow := h1.row
          have hszI := setA_info h16
          have hsz := setA_size h16
          have hone := setA_one l
          have KZ : Kp (fun _ => False) w (wr.setRow w.heap.size (setA l)) := KX.setRow (fun x => by omega) _
          clear HE h1 K1 KX hmr hpr
          generalize hL : setA l = L at *
          have HL := hid hL
          clear hL
          go_wp2_with (first | refine wpList_load_row rfl 91 (.tmp 5) rfl (w.heap.size + 1) rfl 91 L (0, 0) ds hrow hds (by cases ds <;> first | rfl | exact absurd hda (by simp [isAggD])) hszI ?_ | refine wpList_store_row rfl 91 (.tmp 4) (.tmp 65) rfl w.heap.size L rfl rfl 91 #[.bool false, .bool false, .bool false, .bool false, .bool false, .bool false, .bool false, .bool false, .bool false, .bool false, .bool false, .bool false, .bool false, .bool false, .bool false, .bool false] hrr hszI hsz.symm hone ?_)
          refine bodyPost_ret (results_cell_row rfl _ _ w.heap.size 91 L (0, 0) ds rfl (setRow_heap _ _ _ _ _ _ hrr) hds (by cases ds <;> first | rfl | exact absurd hda (by simp [isAggD])) hszI) rfl ?_
          rw [HD.out, HF.out, HL.out]
          exact ⟨rfl, KZ⟩

end

end Go.Proofs.YtnlbchmfcebeeaaGreat
