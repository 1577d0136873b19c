/- Walks: the reference's Start. -/
import Derived.Test.YtnlbchmfcebeeaaGreatTZn
import Derived.Test.YtnlbchmfcebeeaaGreatTZm
namespace Go.Proofs.YtnlbchmfcebeeaaGreat
open Go.RowKit
section
variable (w : World)
set_option maxHeartbeats 1600000 in
set_option maxRecDepth 100000 in
theorem rStart_any (t : ByteArray) :
 Calls Tryz.prog 98 #[.string t] w fun x w' => x = .returned (.tuple #[.agg (asA (Ch.startR t).1), .string (Ch.startR t).2.1, .int .i64 (Ch.startR t).2.2]) ∧ Kp (fun _ => False) w w' := by
 obtain ⟨ds, hds, hda⟩ := Tryz.undAs
 have hr1 := heap_alloc_new w (.cells #[.string ⟨#[]⟩, .string ⟨#[]⟩, .string ⟨#[]⟩, .int .i64 0, .int .i64 0, .int .i64 0] 26)
 have K1 : Kp (fun _ => False) w (w.alloc (.cells #[.string ⟨#[]⟩, .string ⟨#[]⟩, .string ⟨#[]⟩, .int .i64 0, .int .i64 0, .int .i64 0] 26)) := (Kp.refl _ _).alloc _
 have E0 := hid (rRead_any (w.alloc (.cells #[.string ⟨#[]⟩, .string ⟨#[]⟩, .string ⟨#[]⟩, .int .i64 0, .int .i64 0, .int .i64 0] 26)) t)
 have HU := hid (show Ch.startR t = if (Ch.read t).1 != 0 then (Ch.as0, ⟨#[]⟩, (Ch.read t).1)
  else if (Ch.beginR (Ch.read t).2.2).1 then ((Ch.beginR (Ch.read t).2.2).2.1, (Ch.beginR (Ch.read t).2.2).2.2, 0) else (Ch.as0, ⟨#[]⟩, 9) from rfl)
 go_enter Tryz.func98, Tryz.ntmps98
 go_wp2_with fail
 refine Calls.mono (Hid.out E0) ?_
 rintro x w2 ⟨p, rfl, hq⟩
 have hrb := hq.2.2.at_ hr1 (fun x => x)
 have hlt := lt_of_block hrb
 cases q1 : (Ch.read t).1 != 0 with
 | true =>
   have HF := hid (HU.out.trans (show _ = (Ch.as0, (⟨#[]⟩ : ByteArray), (Ch.read t).1) by rw [q1]; rfl))
   have KF : Kp (fun _ => False) w (w2.setRow w.heap.size #[.string ⟨#[]⟩, .string ⟨#[]⟩, .string ⟨#[]⟩, .int .i64 0, .int .i64 0, .int .i64 0]) := (K1.trans hq.2.2).setRow (fun x => by omega) _
   clear hq E0 HU hr1 K1
   generalize (Ch.read t).1 = re at *
   generalize (Ch.read t).2.1 = rp at *
   go_wp2_with (refine wpList_store_row rfl 26 (.tmp 2) (.tmp 19) rfl w.heap.size #[.string ⟨#[]⟩, .string ⟨#[]⟩, .string ⟨#[]⟩, .int .i64 0, .int .i64 0, .int .i64 0] rfl rfl 26 #[.string ⟨#[]⟩, .string ⟨#[]⟩, .string ⟨#[]⟩, .int .i64 0, .int .i64 0, .int .i64 0] hrb Tryz.sizeAs rfl (asOne Ch.as0) ?_)
   refine bodyPost_ret (results_cell_tmp2 rfl _ _ w.heap.size 26 #[.string ⟨#[]⟩, .string ⟨#[]⟩, .string ⟨#[]⟩, .int .i64 0, .int .i64 0, .int .i64 0] (0, 0) ds rfl (setRow_heap _ _ _ _ _ _ hrb) hds hda Tryz.sizeAs) rfl ?_
   rw [HF.out]
   exact ⟨rfl, KF⟩
 | false =>
   have h0 : (Ch.read t).1 = 0 := by simpa using q1
   obtain ⟨cb, l, v, rfl, hF, hN, _, hT⟩ := hq.2.1 h0
   have hR := rf_read h0 hN hT
   have E1 := hid (rBegin_any w2 _ cb l v _ hF hR)
   have HV := hid (HU.out.trans (show _ = if (Ch.beginR (Ch.read t).2.2).1 then ((Ch.beginR (Ch.read t).2.2).2.1, (Ch.beginR (Ch.read t).2.2).2.2, 0) else (Ch.as0, (⟨#[]⟩ : ByteArray), 9) by rw [q1]; rfl))
   have HK := hid (K1.trans hq.2.2)
   clear hq E0 HU hr1 K1 hF hN hT hR h0
   generalize Ch.beginR (Ch.read t).2.2 = bg at *
   generalize (Ch.read t).1 = re at *
   generalize (Ch.read t).2.1 = rp at *
   obtain ⟨ok, sa, so⟩ := bg
   go_wp2_with fail
   refine Calls.mono (Hid.out E1) ?_
   rintro x w3 ⟨rfl, K3⟩
   have hrb3 := K3.at_ hrb (fun x => x)
   have hnew := heap_alloc_new w3 (.cells #[.string ⟨#[]⟩, .string ⟨#[]⟩, .string ⟨#[]⟩, .int .i64 0, .int .i64 0, .int .i64 0] 26)
   have aO := asOne sa
   have aI : (Tryz.prog.info? 26).map (·.size) = some (asA sa).size := Tryz.sizeAs
   have aS : (asA sa).size = 6 := rfl
   have K4 : Kp (fun _ => False) w3 ((w3.alloc (.cells #[.string ⟨#[]⟩, .string ⟨#[]⟩, .string ⟨#[]⟩, .int .i64 0, .int .i64 0, .int .i64 0] 26)).setRow w3.heap.size (asA sa)) := ((Kp.refl _ _).alloc _).setRow (fun x => by omega) _
   have hrow := setRow_heap (w3.alloc (.cells #[.string ⟨#[]⟩, .string ⟨#[]⟩, .string ⟨#[]⟩, .int .i64 0, .int .i64 0, .int .i64 0] 26)) w3.heap.size #[.string ⟨#[]⟩, .string ⟨#[]⟩, .string ⟨#[]⟩, .int .i64 0, .int .i64 0, .int .i64 0] (asA sa) 26 (0, 0) hnew
   have hrb4 := K4.at_ hrb3 (fun x => x)
   have HK4 := hid ((HK.out.trans K3).trans K4)
   generalize hAA : asA sa = AA at *
   have HAA := hid hAA
   clear hAA E1 K3 K4 HK hrb hrb3
   go_upto_region 5 with (refine wpList_store_row rfl 26 (.tmp 8) (.tmp 24) rfl w3.heap.size AA rfl rfl 26 #[.string ⟨#[]⟩, .string ⟨#[]⟩, .string ⟨#[]⟩, .int .i64 0, .int .i64 0, .int .i64 0] hnew aI aS.symm aO ?_)
   generalize (w3.alloc (.cells #[.string ⟨#[]⟩, .string ⟨#[]⟩, .string ⟨#[]⟩, .int .i64 0, .int .i64 0, .int .i64 0] 26)).setRow w3.heap.size AA = w4 at *
   clear hnew
   generalize w3.heap.size = sb at *
   cases ok with
   | false =>
     have HF := hid (HV.out.trans (if_neg (by simp)))
     have KF : Kp (fun _ => False) w (w4.setRow w.heap.size #[.string ⟨#[]⟩, .string ⟨#[]⟩, .string ⟨#[]⟩, .int .i64 0, .int .i64 0, .int .i64 0]) := HK4.out.setRow (fun x => by omega) _
     clear HV HK4
     go_wp2_with (refine wpList_store_row rfl 26 (.tmp 2) (.tmp 29) rfl w.heap.size #[.string ⟨#[]⟩, .string ⟨#[]⟩, .string ⟨#[]⟩, .int .i64 0, .int .i64 0, .int .i64 0] rfl rfl 26 #[.string ⟨#[]⟩, .string ⟨#[]⟩, .string ⟨#[]⟩, .int .i64 0, .int .i64 0, .int .i64 0] hrb4 Tryz.sizeAs rfl (asOne Ch.as0) ?_)
     refine bodyPost_ret (results_cell_tmp2 rfl _ _ w.heap.size 26 #[.string ⟨#[]⟩, .string ⟨#[]⟩, .string ⟨#[]⟩, .int .i64 0, .int .i64 0, .int .i64 0] (0, 0) ds rfl (setRow_heap _ _ _ _ _ _ hrb4) hds hda Tryz.sizeAs) rfl ?_
     rw [HF.out]
     exact ⟨rfl, KF⟩
   | true =>
     have HF := hid (HV.out.trans (if_pos rfl))
     have KF : Kp (fun _ => False) w (w4.setRow w.heap.size AA) := HK4.out.setRow (fun x => by omega) _
     clear HV HK4
     go_wp2_with (first | refine wpList_load_row rfl 26 (.tmp 8) rfl sb rfl 26 AA (0, 0) ds hrow hds (by cases ds <;> first | rfl | exact absurd hda (by simp [isAggD])) aI ?_ | refine wpList_store_row rfl 26 (.tmp 2) (.tmp 30) rfl w.heap.size AA rfl rfl 26 #[.string ⟨#[]⟩, .string ⟨#[]⟩, .string ⟨#[]⟩, .int .i64 0, .int .i64 0, .int .i64 0] hrb4 aI aS.symm aO ?_)
     refine bodyPost_ret (results_cell_tmp2 rfl _ _ w.heap.size 26 AA (0, 0) ds rfl (setRow_heap _ _ _ _ _ _ hrb4) hds hda aI) rfl ?_
     rw [HF.out]
     exact ⟨by rw [← HAA.out]; rfl, KF⟩
end
end Go.Proofs.YtnlbchmfcebeeaaGreat
