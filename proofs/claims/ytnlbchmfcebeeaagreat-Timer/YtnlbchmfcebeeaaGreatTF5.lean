/- Walks: chart.Fire. -/
import Derived.Test.YtnlbchmfcebeeaaGreatTF4
namespace Go.Proofs.YtnlbchmfcebeeaaGreat
open Go.RowKit

namespace Ch
def cFire (t : ByteArray) (a : As) (ev : ByteArray) : As × ByteArray × Int :=
  if lgE t a != 0 then (as0, ⟨#[]⟩, lgE t a) else if decide (ev.size = 1) && isEv (peek ev 0) then
    (if (mfire (read t).2.2 (lgS t a) (peek ev 0)).2.2 != 0 then (as0, ⟨#[]⟩, (mfire (read t).2.2 (lgS t a) (peek ev 0)).2.2)
      else (asOf (read t).2.2.sts (mfire (read t).2.2 (lgS t a) (peek ev 0)).1, (mfire (read t).2.2 (lgS t a) (peek ev 0)).2.1, 0)) else (as0, ⟨#[]⟩, 8)
end Ch

section
variable {P : Program} {o : Oper} {a : Act} {w : World} {K : Act → World → Prop} {Q : Exit → Act → World → Prop}
theorem wp_enter (d : Option Tmp) (hd : o.dst = d) (f : FuncId) (args : Array Value) (hrun : (execOp a.eval o).run P w = .ok (.enter f args) w) (v : Value) (R : World → Prop)
    (hc : Calls P f args w fun e w' => e = .returned v ∧ R w') (h : ∀ w', R w' → K (a.put d v) w') : o.wp P a w K Q := by
  subst hd
  unfold Oper.wp
  rw [hrun, Oper.upon_enter]
  refine hc.mono fun e w' hh => ?_
  obtain ⟨rfl, hr⟩ := hh
  exact h w' hr
theorem wp_run (d : Option Tmp) (hd : o.dst = d) (v : Value) (w' : World) (hrun : (execOp a.eval o).run P w = .ok (.value v) w') (h : K (a.put d v) w') : o.wp P a w K Q := by
  subst hd
  unfold Oper.wp
  rw [hrun, Oper.upon_value]
  exact h
theorem do_two {S : World → Prop} {ops : Array Oper} (i j : Nat) {oi oj : Oper} {fuel : Nat} {listed : Array Bool} (hr : Region.ready .any ops listed = [i, j]) (hi : ops[i]? = some oi) (hj : ops[j]? = some oj) (hgi : oi.guard = none) (hgj : oj.guard = none)
    (h1 : oi.wp P a w (fun a' w' => S w' ∧ wpAnyH P .any ops (NoPanic Q) S fuel (listed.setIfInBounds i true) a' w') (NoPanic Q))
    (h2 : oj.wp P a w (fun a' w' => S w' ∧ wpAnyH P .any ops (NoPanic Q) S fuel (listed.setIfInBounds j true) a' w') (NoPanic Q)) : wpAnyH P .any ops (NoPanic Q) S (fuel + 1) listed a w :=
  wpAnyH_all hr (by simp) (fun k hk => by
    simp only [List.mem_cons, List.not_mem_nil, or_false] at hk
    rcases hk with rfl | rfl
    · have hw : Region.wanted oi (yielded ops a.tmps) = true := by simp [Region.wanted, hgi]
      simp only [wpOp, hi, hw, if_true]
      exact .inl h1
    · have hw : Region.wanted oj (yielded ops a.tmps) = true := by simp [Region.wanted, hgj]
      simp only [wpOp, hj, hw, if_true]
      exact .inl h2)
end

section
variable (w : World)

set_option maxHeartbeats 1600000 in
set_option maxRecDepth 100000 in
theorem cFire_any (t : ByteArray) (a : Ch.As) (ev : ByteArray) (ha : a.Sm) :
    Calls Tryz.prog 31 #[.string t, .agg (asA a), .string ev] w fun x w' => x = .returned (.tuple #[.agg (asA (Ch.cFire t a ev).1), .string (Ch.cFire t a ev).2.1, .int .i64 (Ch.cFire t a ev).2.2]) ∧ Kp (fun _ => False) w w' := by
  obtain ⟨da, hdA, hdAa⟩ := Tryz.undAs
  obtain ⟨ds, hds, hda⟩ := Tryz.undStand
  have hb1 : ((w.alloc (.cells (asA a) 26)).alloc (.cells #[.string ⟨#[]⟩, .string ⟨#[]⟩, .string ⟨#[]⟩, .int .i64 0, .int .i64 0, .int .i64 0] 26)).heap[w.heap.size]? = some (.cells (asA a) 26) := by
    rw [Below.heap_alloc _ _ _ (by simp)]; exact heap_alloc_new _ _
  have hr1 : ((w.alloc (.cells (asA a) 26)).alloc (.cells #[.string ⟨#[]⟩, .string ⟨#[]⟩, .string ⟨#[]⟩, .int .i64 0, .int .i64 0, .int .i64 0] 26)).heap[w.heap.size + 1]? = some (.cells #[.string ⟨#[]⟩, .string ⟨#[]⟩, .string ⟨#[]⟩, .int .i64 0, .int .i64 0, .int .i64 0] 26) := heap_alloc2_new w _ _
  have K1 : Kp (fun _ => False) w ((w.alloc (.cells (asA a) 26)).alloc (.cells #[.string ⟨#[]⟩, .string ⟨#[]⟩, .string ⟨#[]⟩, .int .i64 0, .int .i64 0, .int .i64 0] 26)) := ((Kp.refl _ _).alloc _).alloc _
  have E0 := hid (cRead_any ((w.alloc (.cells (asA a) 26)).alloc (.cells #[.string ⟨#[]⟩, .string ⟨#[]⟩, .string ⟨#[]⟩, .int .i64 0, .int .i64 0, .int .i64 0] 26)) t a ha)
  have hol := Ch.read_ok t
  have hlok := Ch.lgS_ok t a
  have HU := hid (show Ch.cFire t a ev = if Ch.lgE t a != 0 then (Ch.as0, ⟨#[]⟩, Ch.lgE t a) else if decide (ev.size = 1) && Ch.isEv (Ch.peek ev 0) then
      (if (Ch.mfire (Ch.read t).2.2 (Ch.lgS t a) (Ch.peek ev 0)).2.2 != 0 then (Ch.as0, ⟨#[]⟩, (Ch.mfire (Ch.read t).2.2 (Ch.lgS t a) (Ch.peek ev 0)).2.2)
        else (Ch.asOf (Ch.read t).2.2.sts (Ch.mfire (Ch.read t).2.2 (Ch.lgS t a) (Ch.peek ev 0)).1, (Ch.mfire (Ch.read t).2.2 (Ch.lgS t a) (Ch.peek ev 0)).2.1, 0)) else (Ch.as0, ⟨#[]⟩, 8) from rfl)
  generalize hAA : asA a = AA at hb1 hr1 K1 E0 ⊢
  have aI : (Tryz.prog.info? 26).map (·.size) = some AA.size := by rw [← hAA]; exact Tryz.sizeAs
  clear hAA
  generalize Ch.lgE t a = le at *
  generalize Ch.lgS t a = ls at *
  generalize (Ch.read t).2.2 = ol at *
  go_enter Tryz.func31, Tryz.ntmps31
  go_upto_region 1 with (fail)
  generalize (w.alloc (.cells AA 26)).alloc (.cells #[.string ⟨#[]⟩, .string ⟨#[]⟩, .string ⟨#[]⟩, .int .i64 0, .int .i64 0, .int .i64 0] 26) = w1 at *
  go_wp2_with (refine wpList_load_row rfl 26 (.tmp 4) rfl w.heap.size rfl 26 AA (0, 0) da hb1 hdA (by cases da <;> first | rfl | exact absurd hdAa (by simp [isAggD])) aI ?_)
  refine Calls.mono (Hid.out E0) ?_
  rintro x w2 ⟨sv, tv, bv, lt, lb, rfl, ⟨o1, o2, o3⟩, F2, K2⟩
  have hr2 := K2.at_ hr1 (fun x => x)
  have KA := K1.trans K2
  have gI := sgA_info le sv tv bv hlok.1
  have gS := sgA_size le sv tv bv hlok.1
  have gO := sgA_one le o1 o2 o3 ls
  have hnew := heap_alloc_new w2 (.cells #[.int .i64 0, .int .i64 0, .int .i64 0, .slice none 0 0, .slice none 0 0, .slice none 0 0, .bool false, .bool false, .bool false, .bool false, .bool false, .bool false, .bool false, .bool false, .bool false, .bool false, .bool false, .bool false, .bool false, .bool false, .bool false, .bool false, .int .u8 0, .int .u8 0, .int .u8 0, .int .u8 0, .int .u8 0, .int .u8 0, .int .u8 0, .int .u8 0, .int .u8 0, .int .u8 0, .int .u8 0, .int .u8 0, .int .u8 0, .int .u8 0, .int .u8 0, .int .u8 0, .string ⟨#[]⟩, .int .i64 0, .int .i64 0, .int .i64 0] 119)
  have hrow := setRow_heap (w2.alloc (.cells #[.int .i64 0, .int .i64 0, .int .i64 0, .slice none 0 0, .slice none 0 0, .slice none 0 0, .bool false, .bool false, .bool false, .bool false, .bool false, .bool false, .bool false, .bool false, .bool false, .bool false, .bool false, .bool false, .bool false, .bool false, .bool false, .bool false, .int .u8 0, .int .u8 0, .int .u8 0, .int .u8 0, .int .u8 0, .int .u8 0, .int .u8 0, .int .u8 0, .int .u8 0, .int .u8 0, .int .u8 0, .int .u8 0, .int .u8 0, .int .u8 0, .int .u8 0, .int .u8 0, .string ⟨#[]⟩, .int .i64 0, .int .i64 0, .int .i64 0] 119)) w2.heap.size _ (sgA le sv tv bv ls) 119 (0, 0) hnew
  have K3 : Kp (fun _ => False) w2 ((w2.alloc (.cells #[.int .i64 0, .int .i64 0, .int .i64 0, .slice none 0 0, .slice none 0 0, .slice none 0 0, .bool false, .bool false, .bool false, .bool false, .bool false, .bool false, .bool false, .bool false, .bool false, .bool false, .bool false, .bool false, .bool false, .bool false, .bool false, .bool false, .int .u8 0, .int .u8 0, .int .u8 0, .int .u8 0, .int .u8 0, .int .u8 0, .int .u8 0, .int .u8 0, .int .u8 0, .int .u8 0, .int .u8 0, .int .u8 0, .int .u8 0, .int .u8 0, .int .u8 0, .int .u8 0, .string ⟨#[]⟩, .int .i64 0, .int .i64 0, .int .i64 0] 119)).setRow w2.heap.size (sgA le sv tv bv ls)) := ((Kp.refl _ _).alloc _).setRow (fun x => by omega) _
  have hr3 := K3.at_ hr2 (fun x => x)
  have KB := KA.trans K3
  have F3 : le = 0 → OlF ((w2.alloc (.cells #[.int .i64 0, .int .i64 0, .int .i64 0, .slice none 0 0, .slice none 0 0, .slice none 0 0, .bool false, .bool false, .bool false, .bool false, .bool false, .bool false, .bool false, .bool false, .bool false, .bool false, .bool false, .bool false, .bool false, .bool false, .bool false, .bool false, .int .u8 0, .int .u8 0, .int .u8 0, .int .u8 0, .int .u8 0, .int .u8 0, .int .u8 0, .int .u8 0, .int .u8 0, .int .u8 0, .int .u8 0, .int .u8 0, .int .u8 0, .int .u8 0, .int .u8 0, .int .u8 0, .string ⟨#[]⟩, .int .i64 0, .int .i64 0, .int .i64 0] 119)).setRow w2.heap.size (sgA le sv tv bv ls)) w1.heap.size ol sv tv bv lt lb := fun h => (F2 h).keep0 K3
  have hlt : w.heap.size + 1 < w2.heap.size := lt_of_block hr2
  have z0 : ((w2.alloc (.cells #[.int .i64 0, .int .i64 0, .int .i64 0, .slice none 0 0, .slice none 0 0, .slice none 0 0, .bool false, .bool false, .bool false, .bool false, .bool false, .bool false, .bool false, .bool false, .bool false, .bool false, .bool false, .bool false, .bool false, .bool false, .bool false, .bool false, .int .u8 0, .int .u8 0, .int .u8 0, .int .u8 0, .int .u8 0, .int .u8 0, .int .u8 0, .int .u8 0, .int .u8 0, .int .u8 0, .int .u8 0, .int .u8 0, .int .u8 0, .int .u8 0, .int .u8 0, .int .u8 0, .string ⟨#[]⟩, .int .i64 0, .int .i64 0, .int .i64 0] 119)).setRow w2.heap.size (sgA le sv tv bv ls)).cell? ⟨w2.heap.size, 0, none⟩ = some (.int .i64 le) := by rw [World.cell?, hrow]; rfl
  have hst := sgStand hrow
  have HX := hid (And.intro F3 (And.intro hr3 (And.intro KB hrow)))
  clear E0 hb1 hr1 K1 K2 hr2 KA F2 F3 hr3 KB hrow K3 aI
  generalize hGA : sgA le sv tv bv ls = GA at *
  have HGA := hid hGA
  clear hGA
  go_upto_region 2 with (refine wpList_store_row rfl 119 (.tmp 9) (.tmp 15) rfl w2.heap.size GA rfl rfl 119 #[.int .i64 0, .int .i64 0, .int .i64 0, .slice none 0 0, .slice none 0 0, .slice none 0 0, .bool false, .bool false, .bool false, .bool false, .bool false, .bool false, .bool false, .bool false, .bool false, .bool false, .bool false, .bool false, .bool false, .bool false, .bool false, .bool false, .int .u8 0, .int .u8 0, .int .u8 0, .int .u8 0, .int .u8 0, .int .u8 0, .int .u8 0, .int .u8 0, .int .u8 0, .int .u8 0, .int .u8 0, .int .u8 0, .int .u8 0, .int .u8 0, .int .u8 0, .int .u8 0, .string ⟨#[]⟩, .int .i64 0, .int .i64 0, .int .i64 0] hnew gI (by rw [gS]; rfl) gO ?_)
  generalize (w2.alloc (.cells #[.int .i64 0, .int .i64 0, .int .i64 0, .slice none 0 0, .slice none 0 0, .slice none 0 0, .bool false, .bool false, .bool false, .bool false, .bool false, .bool false, .bool false, .bool false, .bool false, .bool false, .bool false, .bool false, .bool false, .bool false, .bool false, .bool false, .int .u8 0, .int .u8 0, .int .u8 0, .int .u8 0, .int .u8 0, .int .u8 0, .int .u8 0, .int .u8 0, .int .u8 0, .int .u8 0, .int .u8 0, .int .u8 0, .int .u8 0, .int .u8 0, .int .u8 0, .int .u8 0, .string ⟨#[]⟩, .int .i64 0, .int .i64 0, .int .i64 0] 119)).setRow w2.heap.size GA = w3 at *
  generalize w2.heap.size = cb at *
  clear hnew gI gS gO
  cases q1 : le != 0 with
  | true =>
    have HF := hid (HU.out.trans (show _ = (Ch.as0, (⟨#[]⟩ : ByteArray), le) by rw [q1]; rfl))
    go_upto_region 3 with (fail)
    obtain ⟨F3, hr3, KB, hrow⟩ := HX.out
    have hS0 : w3.drew.cell? ⟨cb, 0, none⟩ = some (.int .i64 le) := z0
    have hne : cb ≠ w.heap.size + 1 := by omega
    have hS1 : (w3.drew.setRow (w.heap.size + 1) #[.string ⟨#[]⟩, .string ⟨#[]⟩, .string ⟨#[]⟩, .int .i64 0, .int .i64 0, .int .i64 0]).cell? ⟨cb, 0, none⟩ = some (.int .i64 le) := by
      have e : (w3.drew.setRow (w.heap.size + 1) #[.string ⟨#[]⟩, .string ⟨#[]⟩, .string ⟨#[]⟩, .int .i64 0, .int .i64 0, .int .i64 0]).heap[cb]? = w3.drew.heap[cb]? := setRow_other _ _ _ _ hne
      unfold World.cell? at *; simp only at *; rw [e]; exact hS0
    have KF : Kp (fun _ => False) w (w3.drew.setRow (w.heap.size + 1) #[.string ⟨#[]⟩, .string ⟨#[]⟩, .string ⟨#[]⟩, .int .i64 0, .int .i64 0, .int .i64 0]) := (KB.drewN 1).setRow (fun x => by omega) _
    refine region_begin (fun w' => w'.cell? ⟨cb, 0, none⟩ = some (.int .i64 le)) (by kernel_rfl) ?_
    refine take_op 0 19 (.agg #[.string ⟨#[]⟩, .string ⟨#[]⟩, .string ⟨#[]⟩, .int .i64 0, .int .i64 0, .int .i64 0]) rfl (by kernel_rfl) (by kernel_rfl) (by kernel_rfl) rfl rfl (fun w' _ => exec_build 26 #[] rfl #[.string ⟨#[]⟩, .string ⟨#[]⟩, .string ⟨#[]⟩, .int .i64 0, .int .i64 0, .int .i64 0] [] rfl (by kernel_rfl)) hS0 ?_
    refine take_op 1 20 (.pointer (some ⟨cb, 0, none⟩)) rfl (by kernel_rfl) (by kernel_rfl) (by kernel_rfl) rfl rfl (fun w' _ => by simp [execOp, Act.eval, Act.put, go_sem]) hS0 ?_
    refine take_op 2 21 (.int .i64 le) rfl (by kernel_rfl) (by kernel_rfl) (by kernel_rfl) rfl rfl (fun w' hS => by simp [execOp, Act.eval, Act.put, go_sem, hS]) hS0 ?_
    refine do_store 3 (by kernel_rfl) rfl rfl 26 (.tmp 6) (.tmp 19) rfl rfl (w.heap.size + 1) #[.string ⟨#[]⟩, .string ⟨#[]⟩, .string ⟨#[]⟩, .int .i64 0, .int .i64 0, .int .i64 0] (by simp [Act.eval, Act.put]) (by simp [Act.eval, Act.put]) 26 #[.string ⟨#[]⟩, .string ⟨#[]⟩, .string ⟨#[]⟩, .int .i64 0, .int .i64 0, .int .i64 0] (by exact hr3) Tryz.sizeAs rfl (asOne Ch.as0) hS1 ?_
    refine take_op 4 7 (.string ⟨#[]⟩) rfl (by kernel_rfl) (by kernel_rfl) (by kernel_rfl) rfl rfl (fun w' _ => by rfl) hS1 ?_
    refine take_op 5 8 (.int .i64 le) rfl (by kernel_rfl) (by kernel_rfl) (by kernel_rfl) rfl rfl (fun w' _ => by simp [execOp, Act.eval, Act.put, go_sem]) hS1 ?_
    refine wpAnyH_done (by kernel_rfl) (NoPanic.normal ?_) _
    simp only [Act.put, List.setIfInBounds_toArray, List.set_cons_succ, List.set_cons_zero]
    go_wp2
    refine bodyPost_ret (results_cell_tmp2 rfl _ _ (w.heap.size + 1) 26 #[.string ⟨#[]⟩, .string ⟨#[]⟩, .string ⟨#[]⟩, .int .i64 0, .int .i64 0, .int .i64 0] (0, 0) da rfl (setRow_heap w3.drew _ _ _ _ _ (by exact hr3)) hdA hdAa Tryz.sizeAs) rfl ?_
    rw [HF.out]
    exact ⟨rfl, KF⟩
  | false =>
    have hle : le = 0 := by simpa using q1
    subst hle
    have HV := hid (HU.out.trans (show _ = if decide (ev.size = 1) && Ch.isEv (Ch.peek ev 0) then
      (if (Ch.mfire ol ls (Ch.peek ev 0)).2.2 != 0 then (Ch.as0, (⟨#[]⟩ : ByteArray), (Ch.mfire ol ls (Ch.peek ev 0)).2.2)
        else (Ch.asOf ol.sts (Ch.mfire ol ls (Ch.peek ev 0)).1, (Ch.mfire ol ls (Ch.peek ev 0)).2.1, 0)) else (Ch.as0, ⟨#[]⟩, 8) from rfl))
    by_cases hs : ev.size = 1
    · have hs' : (ev.size : Int) = 1 := by omega
      have hpk : Ch.peek ev 0 = ((ev[0]'(by omega)).toNat : Int) := by simp [Ch.peek, hs]
      rw [hpk] at HV
      have EV := hid (isEvent_any ((ev[0]'(by omega)).toNat : Int) w3)
      cases q2 : Ch.isEv ((ev[0]'(by omega)).toNat : Int) with
      | false =>
        rw [q2] at EV
        have HF := hid (HV.out.trans (show _ = (Ch.as0, (⟨#[]⟩ : ByteArray), (8 : Int)) by rw [q2]; simp))
        go_wp2_with fail
        refine Calls.mono (Hid.out EV) ?_
        rintro x w4 ⟨rfl, rfl⟩
        obtain ⟨F3, hr3, KB, hrow⟩ := HX.out
        have KF : Kp (fun _ => False) w (w4.setRow (w.heap.size + 1) #[.string ⟨#[]⟩, .string ⟨#[]⟩, .string ⟨#[]⟩, .int .i64 0, .int .i64 0, .int .i64 0]) := KB.setRow (fun x => by omega) _
        clear F3 KB hrow
        go_wp2_with (refine wpList_store_row rfl 26 (.tmp 6) (.tmp 31) rfl (w.heap.size + 1) #[.string ⟨#[]⟩, .string ⟨#[]⟩, .string ⟨#[]⟩, .int .i64 0, .int .i64 0, .int .i64 0] rfl rfl 26 #[.string ⟨#[]⟩, .string ⟨#[]⟩, .string ⟨#[]⟩, .int .i64 0, .int .i64 0, .int .i64 0] hr3 Tryz.sizeAs rfl (asOne Ch.as0) ?_)
        refine bodyPost_ret (results_cell_tmp2 rfl _ _ (w.heap.size + 1) 26 #[.string ⟨#[]⟩, .string ⟨#[]⟩, .string ⟨#[]⟩, .int .i64 0, .int .i64 0, .int .i64 0] (0, 0) da rfl (setRow_heap _ _ _ _ _ _ hr3) hdA hdAa Tryz.sizeAs) rfl ?_
        rw [HF.out]
        exact ⟨rfl, KF⟩
      | true =>
        rw [q2] at EV
        have hev0 : ev[0]? = some (ev[0]'(by omega)) := by rw [getElem?_pos]
        generalize hc : ((ev[0]'(by omega)).toNat : Int) = c at *
        have HW := hid (HV.out.trans (show _ = if (Ch.mfire ol ls c).2.2 != 0 then (Ch.as0, (⟨#[]⟩ : ByteArray), (Ch.mfire ol ls c).2.2)
          else (Ch.asOf ol.sts (Ch.mfire ol ls c).1, (Ch.mfire ol ls c).2.1, 0) by rw [q2]; simp [hs]))
        go_wp2_with fail
        refine Calls.mono (Hid.out EV) ?_
        rintro x w4 ⟨rfl, rfl⟩
        obtain ⟨F3, hr3, KB, hrow⟩ := HX.out
        have hp3 : Pl w4 cb 1 ol := Pl.ofSg (by rw [HGA.out]; exact hrow) (F3 (by first | rfl | trivial))
        have hfok := Ch.mfire_ok (ol := ol) hlok c
        have hlI : (Tryz.prog.info? 95).map (·.size) = some (sdAll ls).length := by rw [sdAll_len hlok.1]; exact Tryz.sizeStand
        have E1 : ∀ W, Pl W cb 1 ol → Hid (Calls Tryz.prog 57 #[.pointer (some ⟨cb, 1, none⟩), .agg (sdAll ls).toArray, .int .u8 c] W fun x w' => x = .returned (.tuple #[.agg (sdAll (Ch.mfire ol ls c).1).toArray, .string (Ch.mfire ol ls c).2.1, .int .i64 (Ch.mfire ol ls c).2.2]) ∧ Kp (fun _ => False) W w') := fun W h => hid (mfire_any W cb 1 ol ls c hlok h hol)
        have HZ := hid (And.intro hp3 hrow)
        have hgst : ∀ w' : World, w'.heap[cb]? = some (.cells GA 119 (0, 0)) → ∀ j v, (sdAll ls)[j]? = some v → w'.cell? ⟨cb, 6 + j, none⟩ = some v := fun w' h => sgStand (by rw [HGA.out]; exact h)
        clear F3 hr3 KB hp3 HU EV HV hst z0
        generalize hmf : Ch.mfire ol ls c = mf at *
        obtain ⟨fs, ft, fe⟩ := mf
        clear hmf
        simp only at hfok HW E1
        have fI := sdInfo hfok.1
        have fS := sdSize hfok.1
        have fO := sdOne fs
        generalize hFA : (sdAll fs).toArray = FA at *
        have HFA := hid hFA
        clear hFA
        go_upto_region 6 with (fail)
        go_cut [10, 11, 12] from 32 to 41 (fun p e f wx => ∃ fb, p = .pointer (some ⟨fb, 0, none⟩) ∧ e = .string ft ∧ f = .int .i64 fe ∧ SdB wx fb [] fs [] 95 ∧ Kp (fun _ => False) w4 wx)
        case first =>
          have hS0 : w4.drew.heap[cb]? = some (.cells GA 119 (0, 0)) := hrow
          have KD0 : Kp (fun _ => False) w4 w4.drew := (Kp.refl _ _).drewN 1
          have hcev : (Ch.peek ev 0) = c := by rw [hpk]
          refine region_begin (fun w' => w'.heap[cb]? = some (.cells GA 119 (0, 0))) (by kernel_rfl) ?_
          refine take_op 0 33 (.pointer (some ⟨cb, 1, none⟩)) rfl (by kernel_rfl) (by kernel_rfl) (by kernel_rfl) rfl rfl (fun w' _ => by simp [execOp, Act.eval, go_sem]) hS0 ?_
          refine take_op 1 34 (.pointer (some ⟨cb, 6, none⟩)) rfl (by kernel_rfl) (by kernel_rfl) (by kernel_rfl) rfl rfl (fun w' _ => by simp [execOp, Act.eval, Act.put, go_sem]) hS0 ?_
          refine take_op 2 35 (.agg (sdAll ls).toArray) rfl (by kernel_rfl) (by kernel_rfl) (by kernel_rfl) rfl rfl (fun w' hS => exec_load_part 95 (.tmp 34) rfl cb 6 (by simp [Act.eval, Act.put]) (sdAll ls) ds (hgst w' hS) hds hda hlI) hS0 ?_
          refine take_op 3 36 (.string ev) rfl (by kernel_rfl) (by kernel_rfl) (by kernel_rfl) rfl rfl (fun w' _ => by simp [execOp, Act.eval, Act.put, go_sem]) hS0 ?_
          refine take_op 4 37 (.int .u8 c) rfl (by kernel_rfl) (by kernel_rfl) (by kernel_rfl) rfl rfl (fun w' _ => by simp [execOp, Act.eval, Act.put, go_sem, hs, hc]) hS0 ?_
          simp only [Act.put, List.setIfInBounds_toArray, List.set_cons_succ, List.set_cons_zero]
          refine do_two 5 10 (by kernel_rfl) rfl rfl rfl rfl ?_ ?_
          · refine wp_enter (some 38) rfl 57 #[.pointer (some ⟨cb, 1, none⟩), .agg (sdAll ls).toArray, .int .u8 c] (by simp [execOp, Act.eval, go_sem]) _ (fun w' => Kp (fun _ => False) w4.drew w') (E1 w4.drew (HZ.out.1.keep KD0 (fun _ _ _ _ _ x => x))).out ?_
            intro w5 K5
            have HS5 := K5.at_ hS0 (fun x => x)
            have hnew := heap_alloc_new w5 (.cells #[.bool false, .bool false, .bool false, .bool false, .bool false, .bool false, .bool false, .bool false, .bool false, .bool false, .bool false, .bool false, .bool false, .bool false, .bool false, .bool false, .int .u8 0, .int .u8 0, .int .u8 0, .int .u8 0, .int .u8 0, .int .u8 0, .int .u8 0, .int .u8 0, .int .u8 0, .int .u8 0, .int .u8 0, .int .u8 0, .int .u8 0, .int .u8 0, .int .u8 0, .int .u8 0, .string ⟨#[]⟩, .int .i64 0, .int .i64 0, .int .i64 0] 95)
            have HS6 : (w5.alloc (.cells #[.bool false, .bool false, .bool false, .bool false, .bool false, .bool false, .bool false, .bool false, .bool false, .bool false, .bool false, .bool false, .bool false, .bool false, .bool false, .bool false, .int .u8 0, .int .u8 0, .int .u8 0, .int .u8 0, .int .u8 0, .int .u8 0, .int .u8 0, .int .u8 0, .int .u8 0, .int .u8 0, .int .u8 0, .int .u8 0, .int .u8 0, .int .u8 0, .int .u8 0, .int .u8 0, .string ⟨#[]⟩, .int .i64 0, .int .i64 0, .int .i64 0] 95)).heap[cb]? = some (.cells GA 119 (0, 0)) := (Below.heap_alloc _ _ _ (lt_of_block HS5)).trans HS5
            have hne : cb ≠ w5.heap.size := by have := lt_of_block HS5; omega
            have HS7 : ((w5.alloc (.cells #[.bool false, .bool false, .bool false, .bool false, .bool false, .bool false, .bool false, .bool false, .bool false, .bool false, .bool false, .bool false, .bool false, .bool false, .bool false, .bool false, .int .u8 0, .int .u8 0, .int .u8 0, .int .u8 0, .int .u8 0, .int .u8 0, .int .u8 0, .int .u8 0, .int .u8 0, .int .u8 0, .int .u8 0, .int .u8 0, .int .u8 0, .int .u8 0, .int .u8 0, .int .u8 0, .string ⟨#[]⟩, .int .i64 0, .int .i64 0, .int .i64 0] 95)).setRow w5.heap.size FA).heap[cb]? = some (.cells GA 119 (0, 0)) := by rw [setRow_other _ _ _ _ hne]; exact HS6
            refine ⟨HS5, ?_⟩
            refine take_op 6 32 (.tuple #[.agg FA, .string ft, .int .i64 fe]) rfl (by kernel_rfl) (by kernel_rfl) (by kernel_rfl) rfl rfl (fun w' _ => by simp [execOp, Act.eval, Act.put, go_sem]) HS5 ?_
            refine take_op 7 39 (.agg FA) rfl (by kernel_rfl) (by kernel_rfl) (by kernel_rfl) rfl rfl (fun w' _ => by simp [execOp, Act.eval, Act.put, go_sem]) HS5 ?_
            refine take_op 8 40 (.string ft) rfl (by kernel_rfl) (by kernel_rfl) (by kernel_rfl) rfl rfl (fun w' _ => by simp [execOp, Act.eval, Act.put, go_sem]) HS5 ?_
            refine take_op 9 41 (.int .i64 fe) rfl (by kernel_rfl) (by kernel_rfl) (by kernel_rfl) rfl rfl (fun w' _ => by simp [execOp, Act.eval, Act.put, go_sem]) HS5 ?_
            refine do_op 10 (by kernel_rfl) rfl rfl ?_
            refine wp_run (some 10) rfl (.pointer (some ⟨w5.heap.size, 0, none⟩)) (w5.alloc (.cells #[.bool false, .bool false, .bool false, .bool false, .bool false, .bool false, .bool false, .bool false, .bool false, .bool false, .bool false, .bool false, .bool false, .bool false, .bool false, .bool false, .int .u8 0, .int .u8 0, .int .u8 0, .int .u8 0, .int .u8 0, .int .u8 0, .int .u8 0, .int .u8 0, .int .u8 0, .int .u8 0, .int .u8 0, .int .u8 0, .int .u8 0, .int .u8 0, .int .u8 0, .int .u8 0, .string ⟨#[]⟩, .int .i64 0, .int .i64 0, .int .i64 0] 95)) (by simp [execOp, go_sem]) ?_
            refine ⟨HS6, ?_⟩
            refine do_store 11 (by kernel_rfl) rfl rfl 95 (.tmp 10) (.tmp 39) rfl rfl w5.heap.size FA (by simp [Act.eval, Act.put]) (by simp [Act.eval, Act.put]) 95 #[.bool false, .bool false, .bool false, .bool false, .bool false, .bool false, .bool false, .bool false, .bool false, .bool false, .bool false, .bool false, .bool false, .bool false, .bool false, .bool false, .int .u8 0, .int .u8 0, .int .u8 0, .int .u8 0, .int .u8 0, .int .u8 0, .int .u8 0, .int .u8 0, .int .u8 0, .int .u8 0, .int .u8 0, .int .u8 0, .int .u8 0, .int .u8 0, .int .u8 0, .int .u8 0, .string ⟨#[]⟩, .int .i64 0, .int .i64 0, .int .i64 0] hnew fI (by rw [fS]; rfl) fO HS7 ?_
            refine take_op 12 11 (.string ft) rfl (by kernel_rfl) (by kernel_rfl) (by kernel_rfl) rfl rfl (fun w' _ => by simp [execOp, Act.eval, Act.put, go_sem]) HS7 ?_
            refine take_op 13 12 (.int .i64 fe) rfl (by kernel_rfl) (by kernel_rfl) (by kernel_rfl) rfl rfl (fun w' _ => by simp [execOp, Act.eval, Act.put, go_sem]) HS7 ?_
            refine wpAnyH_done (by kernel_rfl) (NoPanic.normal ?_) _
            simp only [Act.put, List.setIfInBounds_toArray, List.set_cons_succ, List.set_cons_zero]
            go_wp2_with fail
            go_meet
            exact ⟨w5.heap.size, rfl, rfl, rfl, SdB.ofRowS (by rw [HFA.out]; exact setRow_heap _ _ _ _ _ _ hnew), ((KD0.trans K5).alloc _).setRow (fun x => by have := (KD0.trans K5).size; omega) _⟩
          · refine wp_run (some 10) rfl (.pointer (some ⟨w4.heap.size, 0, none⟩)) (w4.drew.alloc (.cells #[.bool false, .bool false, .bool false, .bool false, .bool false, .bool false, .bool false, .bool false, .bool false, .bool false, .bool false, .bool false, .bool false, .bool false, .bool false, .bool false, .int .u8 0, .int .u8 0, .int .u8 0, .int .u8 0, .int .u8 0, .int .u8 0, .int .u8 0, .int .u8 0, .int .u8 0, .int .u8 0, .int .u8 0, .int .u8 0, .int .u8 0, .int .u8 0, .int .u8 0, .int .u8 0, .string ⟨#[]⟩, .int .i64 0, .int .i64 0, .int .i64 0] 95)) (by simp [execOp, go_sem]) ?_
            have hnew := heap_alloc_new w4.drew (.cells #[.bool false, .bool false, .bool false, .bool false, .bool false, .bool false, .bool false, .bool false, .bool false, .bool false, .bool false, .bool false, .bool false, .bool false, .bool false, .bool false, .int .u8 0, .int .u8 0, .int .u8 0, .int .u8 0, .int .u8 0, .int .u8 0, .int .u8 0, .int .u8 0, .int .u8 0, .int .u8 0, .int .u8 0, .int .u8 0, .int .u8 0, .int .u8 0, .int .u8 0, .int .u8 0, .string ⟨#[]⟩, .int .i64 0, .int .i64 0, .int .i64 0] 95)
            have KD1 := KD0.alloc (.cells #[.bool false, .bool false, .bool false, .bool false, .bool false, .bool false, .bool false, .bool false, .bool false, .bool false, .bool false, .bool false, .bool false, .bool false, .bool false, .bool false, .int .u8 0, .int .u8 0, .int .u8 0, .int .u8 0, .int .u8 0, .int .u8 0, .int .u8 0, .int .u8 0, .int .u8 0, .int .u8 0, .int .u8 0, .int .u8 0, .int .u8 0, .int .u8 0, .int .u8 0, .int .u8 0, .string ⟨#[]⟩, .int .i64 0, .int .i64 0, .int .i64 0] 95)
            have HS4 : (w4.drew.alloc (.cells #[.bool false, .bool false, .bool false, .bool false, .bool false, .bool false, .bool false, .bool false, .bool false, .bool false, .bool false, .bool false, .bool false, .bool false, .bool false, .bool false, .int .u8 0, .int .u8 0, .int .u8 0, .int .u8 0, .int .u8 0, .int .u8 0, .int .u8 0, .int .u8 0, .int .u8 0, .int .u8 0, .int .u8 0, .int .u8 0, .int .u8 0, .int .u8 0, .int .u8 0, .int .u8 0, .string ⟨#[]⟩, .int .i64 0, .int .i64 0, .int .i64 0] 95)).heap[cb]? = some (.cells GA 119 (0, 0)) := (Below.heap_alloc _ _ _ (lt_of_block hS0)).trans hS0
            refine ⟨HS4, ?_⟩
            refine do_op 5 (by kernel_rfl) rfl rfl ?_
            simp only [Act.put, List.setIfInBounds_toArray, List.set_cons_succ, List.set_cons_zero]
            refine wp_enter (some 38) rfl 57 #[.pointer (some ⟨cb, 1, none⟩), .agg (sdAll ls).toArray, .int .u8 c] (by simp [execOp, Act.eval, go_sem]) _ (fun w' => Kp (fun _ => False) (w4.drew.alloc (.cells #[.bool false, .bool false, .bool false, .bool false, .bool false, .bool false, .bool false, .bool false, .bool false, .bool false, .bool false, .bool false, .bool false, .bool false, .bool false, .bool false, .int .u8 0, .int .u8 0, .int .u8 0, .int .u8 0, .int .u8 0, .int .u8 0, .int .u8 0, .int .u8 0, .int .u8 0, .int .u8 0, .int .u8 0, .int .u8 0, .int .u8 0, .int .u8 0, .int .u8 0, .int .u8 0, .string ⟨#[]⟩, .int .i64 0, .int .i64 0, .int .i64 0] 95)) w') (E1 _ (HZ.out.1.keep KD1 (fun _ _ _ _ _ x => x))).out ?_
            intro w5 K5
            have HS5 := K5.at_ HS4 (fun x => x)
            have hnew5 : w5.heap[w4.heap.size]? = some (.cells #[.bool false, .bool false, .bool false, .bool false, .bool false, .bool false, .bool false, .bool false, .bool false, .bool false, .bool false, .bool false, .bool false, .bool false, .bool false, .bool false, .int .u8 0, .int .u8 0, .int .u8 0, .int .u8 0, .int .u8 0, .int .u8 0, .int .u8 0, .int .u8 0, .int .u8 0, .int .u8 0, .int .u8 0, .int .u8 0, .int .u8 0, .int .u8 0, .int .u8 0, .int .u8 0, .string ⟨#[]⟩, .int .i64 0, .int .i64 0, .int .i64 0] 95 (0, 0)) := K5.at_ (k := w4.heap.size) (by exact hnew) (fun x => x)
            have hne : cb ≠ w4.heap.size := by have := lt_of_block hS0; have e : w4.drew.heap.size = w4.heap.size := rfl; omega
            have HS7 : (w5.setRow w4.heap.size FA).heap[cb]? = some (.cells GA 119 (0, 0)) := by rw [setRow_other _ _ _ _ hne]; exact HS5
            refine ⟨HS5, ?_⟩
            refine take_op 6 32 (.tuple #[.agg FA, .string ft, .int .i64 fe]) rfl (by kernel_rfl) (by kernel_rfl) (by kernel_rfl) rfl rfl (fun w' _ => by simp [execOp, Act.eval, Act.put, go_sem]) HS5 ?_
            refine take_op 7 39 (.agg FA) rfl (by kernel_rfl) (by kernel_rfl) (by kernel_rfl) rfl rfl (fun w' _ => by simp [execOp, Act.eval, Act.put, go_sem]) HS5 ?_
            refine take_op 8 40 (.string ft) rfl (by kernel_rfl) (by kernel_rfl) (by kernel_rfl) rfl rfl (fun w' _ => by simp [execOp, Act.eval, Act.put, go_sem]) HS5 ?_
            refine take_op 9 41 (.int .i64 fe) rfl (by kernel_rfl) (by kernel_rfl) (by kernel_rfl) rfl rfl (fun w' _ => by simp [execOp, Act.eval, Act.put, go_sem]) HS5 ?_
            refine do_store 11 (by kernel_rfl) rfl rfl 95 (.tmp 10) (.tmp 39) rfl rfl w4.heap.size FA (by simp [Act.eval, Act.put]) (by simp [Act.eval, Act.put]) 95 #[.bool false, .bool false, .bool false, .bool false, .bool false, .bool false, .bool false, .bool false, .bool false, .bool false, .bool false, .bool false, .bool false, .bool false, .bool false, .bool false, .int .u8 0, .int .u8 0, .int .u8 0, .int .u8 0, .int .u8 0, .int .u8 0, .int .u8 0, .int .u8 0, .int .u8 0, .int .u8 0, .int .u8 0, .int .u8 0, .int .u8 0, .int .u8 0, .int .u8 0, .int .u8 0, .string ⟨#[]⟩, .int .i64 0, .int .i64 0, .int .i64 0] hnew5 fI (by rw [fS]; rfl) fO HS7 ?_
            refine take_op 12 11 (.string ft) rfl (by kernel_rfl) (by kernel_rfl) (by kernel_rfl) rfl rfl (fun w' _ => by simp [execOp, Act.eval, Act.put, go_sem]) HS7 ?_
            refine take_op 13 12 (.int .i64 fe) rfl (by kernel_rfl) (by kernel_rfl) (by kernel_rfl) rfl rfl (fun w' _ => by simp [execOp, Act.eval, Act.put, go_sem]) HS7 ?_
            refine wpAnyH_done (by kernel_rfl) (NoPanic.normal ?_) _
            simp only [Act.put, List.setIfInBounds_toArray, List.set_cons_succ, List.set_cons_zero]
            go_wp2_with fail
            go_meet
            exact ⟨w4.heap.size, rfl, rfl, rfl, SdB.ofRowS (by rw [HFA.out]; exact setRow_heap _ _ _ _ _ _ hnew5), (KD1.trans K5).setRow (fun x => by omega) _⟩
        case rest =>
          obtain ⟨fb, rfl, rfl, rfl, h5, K5⟩ := hcut
          obtain ⟨F3, hr3, KB, _⟩ := HX.out
          have hp5 := HZ.out.1.keep K5 (fun _ _ _ _ _ x => x)
          have hr5 := K5.at_ hr3 (fun x => x)
          have KD := KB.trans K5
          have HY := hid (And.intro hr5 KD)
          have E2 := hid (state_out_any cb 1 wc ol.sts fb 0 [] fs [] 95 hp5.str (by have := hol.sts; omega) h5 hfok.1 rfl)
          clear F3 hr3 KB HX E1 HZ hgst h5 hp5 K5 hrow
          cases q3 : fe != 0 with
          | true =>
            have HF := hid (HW.out.trans (show _ = (Ch.as0, (⟨#[]⟩ : ByteArray), fe) by rw [q3]; rfl))
            have KF : Kp (fun _ => False) w (wc.setRow (w.heap.size + 1) #[.string ⟨#[]⟩, .string ⟨#[]⟩, .string ⟨#[]⟩, .int .i64 0, .int .i64 0, .int .i64 0]) := KD.setRow (fun x => by omega) _
            clear KD HW
            go_wp2_with (refine wpList_store_row rfl 26 (.tmp 6) (.tmp 44) rfl (w.heap.size + 1) #[.string ⟨#[]⟩, .string ⟨#[]⟩, .string ⟨#[]⟩, .int .i64 0, .int .i64 0, .int .i64 0] rfl rfl 26 #[.string ⟨#[]⟩, .string ⟨#[]⟩, .string ⟨#[]⟩, .int .i64 0, .int .i64 0, .int .i64 0] hr5 Tryz.sizeAs rfl (asOne Ch.as0) ?_)
            refine bodyPost_ret (results_cell_tmp2 rfl _ _ (w.heap.size + 1) 26 #[.string ⟨#[]⟩, .string ⟨#[]⟩, .string ⟨#[]⟩, .int .i64 0, .int .i64 0, .int .i64 0] (0, 0) da rfl (setRow_heap _ _ _ _ _ _ hr5) hdA hdAa Tryz.sizeAs) rfl ?_
            rw [HF.out]
            exact ⟨rfl, KF⟩
          | false =>
            have HF := hid (HW.out.trans (show _ = (Ch.asOf ol.sts fs, ft, (0 : Int)) by rw [q3]; rfl))
            clear KD HW hr5
            go_wp2_with fail
            refine Calls.mono (Hid.out E2) ?_
            rintro x w6 ⟨rfl, K6⟩
            obtain ⟨hr5, KD⟩ := HY.out
            have hr6 := K6.at_ hr5 (fun x => x)
            have KF : Kp (fun _ => False) w (w6.setRow (w.heap.size + 1) (asA (Ch.asOf ol.sts fs))) := (KD.trans K6).setRow (fun x => by omega) _
            clear KD hr5 HY E2
            go_wp2_with (refine wpList_store_row rfl 26 (.tmp 6) (.tmp 47) rfl (w.heap.size + 1) (asA (Ch.asOf ol.sts fs)) rfl rfl 26 #[.string ⟨#[]⟩, .string ⟨#[]⟩, .string ⟨#[]⟩, .int .i64 0, .int .i64 0, .int .i64 0] hr6 Tryz.sizeAs rfl (asOne _) ?_)
            refine bodyPost_ret (results_cell_tmp2 rfl _ _ (w.heap.size + 1) 26 (asA (Ch.asOf ol.sts fs)) (0, 0) da rfl (setRow_heap _ _ _ _ _ _ hr6) hdA hdAa Tryz.sizeAs) rfl ?_
            rw [HF.out]
            exact ⟨rfl, KF⟩
    · have hs' : ¬ (ev.size : Int) = 1 := by omega
      have HF := hid (HV.out.trans (show _ = (Ch.as0, (⟨#[]⟩ : ByteArray), (8 : Int)) by simp [hs]))
      obtain ⟨F3, hr3, KB, hrow⟩ := HX.out
      have KF : Kp (fun _ => False) w (w3.setRow (w.heap.size + 1) #[.string ⟨#[]⟩, .string ⟨#[]⟩, .string ⟨#[]⟩, .int .i64 0, .int .i64 0, .int .i64 0]) := KB.setRow (fun x => by omega) _
      clear F3 KB hrow
      go_wp2_with (refine wpList_store_row rfl 26 (.tmp 6) (.tmp 31) rfl (w.heap.size + 1) #[.string ⟨#[]⟩, .string ⟨#[]⟩, .string ⟨#[]⟩, .int .i64 0, .int .i64 0, .int .i64 0] rfl rfl 26 #[.string ⟨#[]⟩, .string ⟨#[]⟩, .string ⟨#[]⟩, .int .i64 0, .int .i64 0, .int .i64 0] hr3 Tryz.sizeAs rfl (asOne Ch.as0) ?_)
      refine bodyPost_ret (results_cell_tmp2 rfl _ _ (w.heap.size + 1) 26 #[.string ⟨#[]⟩, .string ⟨#[]⟩, .string ⟨#[]⟩, .int .i64 0, .int .i64 0, .int .i64 0] (0, 0) da rfl (setRow_heap _ _ _ _ _ _ hr3) hdA hdAa Tryz.sizeAs) rfl ?_
      rw [HF.out]
      exact ⟨rfl, KF⟩

end

end Go.Proofs.YtnlbchmfcebeeaaGreat
