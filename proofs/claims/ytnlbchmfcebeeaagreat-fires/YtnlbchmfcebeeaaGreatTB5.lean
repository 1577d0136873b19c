import Derived.Test.YtnlbchmfcebeeaaGreatTB4
set_option maxHeartbeats 12800000
set_option maxRecDepth 100000
namespace Go.Proofs.YtnlbchmfcebeeaaGreat
open Go.RowKit
namespace Ch
def take (ss : List St) (a p t : ByteArray) (x y z : Int) : Bool × Sd :=
 if (takeActV ss a).2 then
  if (takePastV ss p).2 then
   if areTm t && inB x && inB y && inB z then (true, ⟨(takeActV ss a).1, (takePastV ss p).1, t, x, y, z⟩) else (false, noSd)
  else (false, noSd)
 else (false, noSd)
end Ch
theorem zsdOne : (zS36 : Array Value).all (fun x => x.oneCell') = true := by kernel_rfl
section
variable (ob oo : Nat) (w : World) (ss : List Ch.St)
theorem take_any2 (a p t : ByteArray) (x y z : Int) (ha : a.size ≤ 9223372036854775807) (hp : p.size ≤ 9223372036854775807) (ht : t.size ≤ 9223372036854775807) (hS : StR w ob oo ss) (hl : ss.length ≤ 1000) :
 Calls Tryz.prog 79 #[.pointer (some ⟨ob, oo, none⟩), .agg #[.string a, .string p, .string t, .int .i64 x, .int .i64 y, .int .i64 z]] w
  fun r w' => r = .returned (.tuple #[.agg (sdAll (Ch.take ss a p t x y z).2).toArray, .bool (Ch.take ss a p t x y z).1]) ∧ Kp (fun _ => False) w w' := by
 obtain ⟨ds, hds, hda⟩ := Tryz.undStand; obtain ⟨de, hde, hea⟩ := Tryz.undSet; obtain ⟨dm, hdm, hma⟩ := Tryz.undMem; have hS2 : StR ((w.alloc (.cells #[.string a, .string p, .string t, .int .i64 x, .int .i64 y, .int .i64 z] 26)).alloc (.cells zS36 95)) ob oo ss := (hS.alloc _).alloc _
 have hb2 : ((w.alloc (.cells #[.string a, .string p, .string t, .int .i64 x, .int .i64 y, .int .i64 z] 26)).alloc (.cells zS36 95)).heap[w.heap.size]? = some (.cells #[.string a, .string p, .string t, .int .i64 x, .int .i64 y, .int .i64 z] 26) := by rw [Below.heap_alloc _ _ _ (by simp)]; exact heap_alloc_new _ _
 have hr2 : ((w.alloc (.cells #[.string a, .string p, .string t, .int .i64 x, .int .i64 y, .int .i64 z] 26)).alloc (.cells zS36 95)).heap[w.heap.size + 1]? = some (.cells zS36 95) := heap_alloc2_new w _ _; have K2 : Kp (fun _ => False) w ((w.alloc (.cells #[.string a, .string p, .string t, .int .i64 x, .int .i64 y, .int .i64 z] 26)).alloc (.cells zS36 95)) := ((Kp.refl _ _).alloc _).alloc _; have E1 := hid (takeActive_any ob oo ((w.alloc (.cells #[.string a, .string p, .string t, .int .i64 x, .int .i64 y, .int .i64 z] 26)).alloc (.cells zS36 95)) ss a ha hS2 hl)
 have hA16 : ((Ch.takeActV ss a).1.map Value.bool).toArray.size = 16 := by simp [Ch.takeActV_len]
 have hAI : (Tryz.prog.info? 91).map (·.size) = some ((Ch.takeActV ss a).1.map Value.bool).toArray.size := by rw [hA16]; exact Tryz.sizeSet
 have hA1 : ((Ch.takeActV ss a).1.map Value.bool).toArray.all (fun x => x.oneCell') = true := by
  apply Array.all_eq_true_iff_forall_mem.2; intro v hv; simp only [List.mem_toArray, List.mem_map] at hv; obtain ⟨c, _, rfl⟩ := hv; rfl
 clear hS
 cases q1 : (Ch.takeActV ss a).2 with
 | false =>
   have HV := hid (show Ch.take ss a p t x y z = (false, Ch.noSd) by simp [Ch.take, q1]); rw [q1] at E1; generalize ((Ch.takeActV ss a).1.map Value.bool).toArray = LA at *
   go_enter Tryz.func79, Tryz.ntmps79
   go_wp2_with fail
   refine hm E1 ?_; rintro xx w3 ⟨rfl, K3⟩; clear E1; have hb3 := K3.at_ hb2 (fun x => x); have hr3 := K3.at_ hr2 (fun x => x); have hS3 : StR w3 ob oo ss := hS2.keep K3 (fun x => x) (fun _ _ _ x => x); have K4 := K2.trans K3; have hsz3 : w.heap.size + 1 < w3.heap.size := lt_of_block hr3; clear hb2 hr2 hS2 K2 K3; have hn3 := heap_alloc_new w3 (.cells zB16 91)
   have hb4 : ((w3.alloc (.cells zB16 91)).setRow w3.heap.size LA).heap[w.heap.size]? = some (.cells #[.string a, .string p, .string t, .int .i64 x, .int .i64 y, .int .i64 z] 26) := by
    rw [setRow_other _ _ _ _ (by omega), Below.heap_alloc _ _ _ (by omega)]; exact hb3
   have hr : ((w3.alloc (.cells zB16 91)).setRow w3.heap.size LA).heap[w.heap.size + 1]? = some (.cells zS36 95) := by
    rw [setRow_other _ _ _ _ (by omega), Below.heap_alloc _ _ _ (by omega)]; exact hr3
   have hA4 : ((w3.alloc (.cells zB16 91)).setRow w3.heap.size LA).heap[w3.heap.size]? = some (.cells LA 91 (0, 0)) := setRow_heap _ _ _ _ _ _ hn3; have Kn : Kp (fun _ => False) w3 ((w3.alloc (.cells zB16 91)).setRow w3.heap.size LA) := ((Kp.refl _ _).alloc _).setRow (fun x => by omega) _; have hS4 : StR ((w3.alloc (.cells zB16 91)).setRow w3.heap.size LA) ob oo ss := hS3.keep Kn (fun x => x) (fun _ _ _ x => x); have K5 := K4.trans Kn; have KZ := K5.setRow (g := w.heap.size + 1) (fun x => by omega) zS36
   go_wp2_with (first | refine wpList_store_row rfl 91 (.tmp 6) (.tmp 14) rfl w3.heap.size LA rfl rfl 91 zB16 hn3 hAI hA16.symm hA1 ?_ | refine wpList_store_row rfl 95 (.tmp 4) (.tmp 18) rfl (w.heap.size + 1) zS36 rfl rfl 95 zS36 hr Tryz.sizeStand rfl zsdOne ?_)
   refine bodyPost_ret (results_cell_tmp rfl _ _ (w.heap.size + 1) 95 zS36 (0, 0) ds rfl (setRow_heap _ _ _ _ _ _ hr) hds hda Tryz.sizeStand) rfl ?_; rw [HV.out]; exact ⟨rfl, KZ⟩
 | true => ?_
 rw [q1] at E1; have hP16 := pastSize (Ch.takePastV_len ss p)
 have hPI : (Tryz.prog.info? 93).map (·.size) = some (pastCells (Ch.takePastV ss p).1).toArray.size := by rw [hP16]; exact Tryz.sizeMem
 have hP1 := pastOne (Ch.takePastV ss p).1
 cases q2 : (Ch.takePastV ss p).2 with
 | false =>
   have HV := hid (show Ch.take ss a p t x y z = (false, Ch.noSd) by simp [Ch.take, q1, q2]); generalize hLA : ((Ch.takeActV ss a).1.map Value.bool).toArray = LA at *; have HLA := hid hLA; clear hLA
   go_enter Tryz.func79, Tryz.ntmps79
   go_wp2_with fail
   refine hm E1 ?_; rintro xx w3 ⟨rfl, K3⟩; clear E1; have hb3 := K3.at_ hb2 (fun x => x); have hr3 := K3.at_ hr2 (fun x => x); have hS3 : StR w3 ob oo ss := hS2.keep K3 (fun x => x) (fun _ _ _ x => x); have K4 := K2.trans K3; have hsz3 : w.heap.size + 1 < w3.heap.size := lt_of_block hr3; clear hb2 hr2 hS2 K2 K3; have hn3 := heap_alloc_new w3 (.cells zB16 91)
   have hb4 : ((w3.alloc (.cells zB16 91)).setRow w3.heap.size LA).heap[w.heap.size]? = some (.cells #[.string a, .string p, .string t, .int .i64 x, .int .i64 y, .int .i64 z] 26) := by
    rw [setRow_other _ _ _ _ (by omega), Below.heap_alloc _ _ _ (by omega)]; exact hb3
   have hr : ((w3.alloc (.cells zB16 91)).setRow w3.heap.size LA).heap[w.heap.size + 1]? = some (.cells zS36 95) := by
    rw [setRow_other _ _ _ _ (by omega), Below.heap_alloc _ _ _ (by omega)]; exact hr3
   have hA4 : ((w3.alloc (.cells zB16 91)).setRow w3.heap.size LA).heap[w3.heap.size]? = some (.cells LA 91 (0, 0)) := setRow_heap _ _ _ _ _ _ hn3; have Kn : Kp (fun _ => False) w3 ((w3.alloc (.cells zB16 91)).setRow w3.heap.size LA) := ((Kp.refl _ _).alloc _).setRow (fun x => by omega) _; have hS4 : StR ((w3.alloc (.cells zB16 91)).setRow w3.heap.size LA) ob oo ss := hS3.keep Kn (fun x => x) (fun _ _ _ x => x); have K5 := K4.trans Kn
   have cs0 : ((w3.alloc (.cells zB16 91)).setRow w3.heap.size LA).cell? ⟨w.heap.size, 0, none⟩ = some (.string a) := by simp [World.cell?, hb4]
   have cs1 : ((w3.alloc (.cells zB16 91)).setRow w3.heap.size LA).cell? ⟨w.heap.size, 1, none⟩ = some (.string p) := by simp [World.cell?, hb4]
   have cs2 : ((w3.alloc (.cells zB16 91)).setRow w3.heap.size LA).cell? ⟨w.heap.size, 2, none⟩ = some (.string t) := by simp [World.cell?, hb4]
   have cs3 : ((w3.alloc (.cells zB16 91)).setRow w3.heap.size LA).cell? ⟨w.heap.size, 3, none⟩ = some (.int .i64 x) := by simp [World.cell?, hb4]
   have cs4 : ((w3.alloc (.cells zB16 91)).setRow w3.heap.size LA).cell? ⟨w.heap.size, 4, none⟩ = some (.int .i64 y) := by simp [World.cell?, hb4]
   have cs5 : ((w3.alloc (.cells zB16 91)).setRow w3.heap.size LA).cell? ⟨w.heap.size, 5, none⟩ = some (.int .i64 z) := by simp [World.cell?, hb4]
   go_wp2_with (refine wpList_store_row rfl 91 (.tmp 6) (.tmp 14) rfl w3.heap.size LA rfl rfl 91 zB16 hn3 hAI hA16.symm hA1 ?_)
   generalize ((w3.alloc (.cells zB16 91)).setRow w3.heap.size LA) = w4 at hb4 hr hA4 Kn hS4 K5 cs0 cs1 cs2 cs3 cs4 cs5 ⊢; have hszb : w.heap.size + 1 < w3.heap.size := hsz3; generalize w3.heap.size = ab at hA4 hszb ⊢; clear hn3 hb3 hr3 hS3 K4 Kn hsz3 hA16 hA1; have E2 := takePast_any ob oo w4 ss p hp hS4 hl; rw [q2] at E2; refine Calls.mono E2 ?_; rintro xx w5 ⟨rfl, K6⟩; generalize hLP : (pastCells (Ch.takePastV ss p).1).toArray = LP at *; have HLP := hid hLP; clear hLP; clear E2 cs0 cs1 cs2 cs3 cs4 cs5; have hb5 := K6.at_ hb4 (fun x => x); have hr5 := K6.at_ hr (fun x => x); have hA5 := K6.at_ hA4 (fun x => x); have K7 := K5.trans K6; have hl5 : ab < w5.heap.size := lt_of_block hA5; clear hb4 hr hA4 hS4 K5 K6; have hn5 := heap_alloc_new w5 (.cells zU16 93)
   have hb6 : ((w5.alloc (.cells zU16 93)).setRow w5.heap.size LP).heap[w.heap.size]? = some (.cells #[.string a, .string p, .string t, .int .i64 x, .int .i64 y, .int .i64 z] 26) := by
    rw [setRow_other _ _ _ _ (by omega), Below.heap_alloc _ _ _ (by omega)]; exact hb5
   have hr : ((w5.alloc (.cells zU16 93)).setRow w5.heap.size LP).heap[w.heap.size + 1]? = some (.cells zS36 95) := by
    rw [setRow_other _ _ _ _ (by omega), Below.heap_alloc _ _ _ (by omega)]; exact hr5
   have hA6 : ((w5.alloc (.cells zU16 93)).setRow w5.heap.size LP).heap[ab]? = some (.cells LA 91 (0, 0)) := by
    rw [setRow_other _ _ _ _ (by omega), Below.heap_alloc _ _ _ (by omega)]; exact hA5
   have hP6 : ((w5.alloc (.cells zU16 93)).setRow w5.heap.size LP).heap[w5.heap.size]? = some (.cells LP 93 (0, 0)) := setRow_heap _ _ _ _ _ _ hn5; have K8 : Kp (fun _ => False) w ((w5.alloc (.cells zU16 93)).setRow w5.heap.size LP) := (K7.alloc _).setRow (fun x => by have := K7.size; omega) _; have KZ := K8.setRow (g := w.heap.size + 1) (fun x => by have := K7.size; omega) zS36
   go_wp2_with (first | refine wpList_store_row rfl 93 (.tmp 8) (.tmp 24) rfl w5.heap.size LP rfl rfl 93 zU16 hn5 hPI hP16.symm hP1 ?_ | refine wpList_store_row rfl 95 (.tmp 4) (.tmp 28) rfl (w.heap.size + 1) zS36 rfl rfl 95 zS36 hr Tryz.sizeStand rfl zsdOne ?_)
   refine bodyPost_ret (results_cell_tmp rfl _ _ (w.heap.size + 1) 95 zS36 (0, 0) ds rfl (setRow_heap _ _ _ _ _ _ hr) hds hda Tryz.sizeStand) rfl ?_; rw [HV.out]; exact ⟨rfl, KZ⟩
 | true => ?_
 cases qt : Ch.areTm t with
 | false =>
   have HV := hid (show Ch.take ss a p t x y z = (false, Ch.noSd) by simp [Ch.take, q1, q2, qt]); generalize hLA : ((Ch.takeActV ss a).1.map Value.bool).toArray = LA at *; have HLA := hid hLA; clear hLA
   go_enter Tryz.func79, Tryz.ntmps79
   go_wp2_with fail
   refine hm E1 ?_; rintro xx w3 ⟨rfl, K3⟩; clear E1; have hb3 := K3.at_ hb2 (fun x => x); have hr3 := K3.at_ hr2 (fun x => x); have hS3 : StR w3 ob oo ss := hS2.keep K3 (fun x => x) (fun _ _ _ x => x); have K4 := K2.trans K3; have hsz3 : w.heap.size + 1 < w3.heap.size := lt_of_block hr3; clear hb2 hr2 hS2 K2 K3; have hn3 := heap_alloc_new w3 (.cells zB16 91)
   have hb4 : ((w3.alloc (.cells zB16 91)).setRow w3.heap.size LA).heap[w.heap.size]? = some (.cells #[.string a, .string p, .string t, .int .i64 x, .int .i64 y, .int .i64 z] 26) := by
    rw [setRow_other _ _ _ _ (by omega), Below.heap_alloc _ _ _ (by omega)]; exact hb3
   have hr : ((w3.alloc (.cells zB16 91)).setRow w3.heap.size LA).heap[w.heap.size + 1]? = some (.cells zS36 95) := by
    rw [setRow_other _ _ _ _ (by omega), Below.heap_alloc _ _ _ (by omega)]; exact hr3
   have hA4 : ((w3.alloc (.cells zB16 91)).setRow w3.heap.size LA).heap[w3.heap.size]? = some (.cells LA 91 (0, 0)) := setRow_heap _ _ _ _ _ _ hn3; have Kn : Kp (fun _ => False) w3 ((w3.alloc (.cells zB16 91)).setRow w3.heap.size LA) := ((Kp.refl _ _).alloc _).setRow (fun x => by omega) _; have hS4 : StR ((w3.alloc (.cells zB16 91)).setRow w3.heap.size LA) ob oo ss := hS3.keep Kn (fun x => x) (fun _ _ _ x => x); have K5 := K4.trans Kn
   have cs0 : ((w3.alloc (.cells zB16 91)).setRow w3.heap.size LA).cell? ⟨w.heap.size, 0, none⟩ = some (.string a) := by simp [World.cell?, hb4]
   have cs1 : ((w3.alloc (.cells zB16 91)).setRow w3.heap.size LA).cell? ⟨w.heap.size, 1, none⟩ = some (.string p) := by simp [World.cell?, hb4]
   have cs2 : ((w3.alloc (.cells zB16 91)).setRow w3.heap.size LA).cell? ⟨w.heap.size, 2, none⟩ = some (.string t) := by simp [World.cell?, hb4]
   have cs3 : ((w3.alloc (.cells zB16 91)).setRow w3.heap.size LA).cell? ⟨w.heap.size, 3, none⟩ = some (.int .i64 x) := by simp [World.cell?, hb4]
   have cs4 : ((w3.alloc (.cells zB16 91)).setRow w3.heap.size LA).cell? ⟨w.heap.size, 4, none⟩ = some (.int .i64 y) := by simp [World.cell?, hb4]
   have cs5 : ((w3.alloc (.cells zB16 91)).setRow w3.heap.size LA).cell? ⟨w.heap.size, 5, none⟩ = some (.int .i64 z) := by simp [World.cell?, hb4]
   go_wp2_with (refine wpList_store_row rfl 91 (.tmp 6) (.tmp 14) rfl w3.heap.size LA rfl rfl 91 zB16 hn3 hAI hA16.symm hA1 ?_)
   generalize ((w3.alloc (.cells zB16 91)).setRow w3.heap.size LA) = w4 at hb4 hr hA4 Kn hS4 K5 cs0 cs1 cs2 cs3 cs4 cs5 ⊢; have hszb : w.heap.size + 1 < w3.heap.size := hsz3; generalize w3.heap.size = ab at hA4 hszb ⊢; clear hn3 hb3 hr3 hS3 K4 Kn hsz3 hA16 hA1; have E2 := takePast_any ob oo w4 ss p hp hS4 hl; rw [q2] at E2; refine Calls.mono E2 ?_; rintro xx w5 ⟨rfl, K6⟩; generalize hLP : (pastCells (Ch.takePastV ss p).1).toArray = LP at *; have HLP := hid hLP; clear hLP; clear E2 cs0 cs1 cs2 cs3 cs4 cs5; have hb5 := K6.at_ hb4 (fun x => x); have hr5 := K6.at_ hr (fun x => x); have hA5 := K6.at_ hA4 (fun x => x); have K7 := K5.trans K6; have hl5 : ab < w5.heap.size := lt_of_block hA5; clear hb4 hr hA4 hS4 K5 K6; have hn5 := heap_alloc_new w5 (.cells zU16 93)
   have hb6 : ((w5.alloc (.cells zU16 93)).setRow w5.heap.size LP).heap[w.heap.size]? = some (.cells #[.string a, .string p, .string t, .int .i64 x, .int .i64 y, .int .i64 z] 26) := by
    rw [setRow_other _ _ _ _ (by omega), Below.heap_alloc _ _ _ (by omega)]; exact hb5
   have hr : ((w5.alloc (.cells zU16 93)).setRow w5.heap.size LP).heap[w.heap.size + 1]? = some (.cells zS36 95) := by
    rw [setRow_other _ _ _ _ (by omega), Below.heap_alloc _ _ _ (by omega)]; exact hr5
   have hA6 : ((w5.alloc (.cells zU16 93)).setRow w5.heap.size LP).heap[ab]? = some (.cells LA 91 (0, 0)) := by
    rw [setRow_other _ _ _ _ (by omega), Below.heap_alloc _ _ _ (by omega)]; exact hA5
   have hP6 : ((w5.alloc (.cells zU16 93)).setRow w5.heap.size LP).heap[w5.heap.size]? = some (.cells LP 93 (0, 0)) := setRow_heap _ _ _ _ _ _ hn5; have K8 : Kp (fun _ => False) w ((w5.alloc (.cells zU16 93)).setRow w5.heap.size LP) := (K7.alloc _).setRow (fun x => by have := K7.size; omega) _
   have cs0 : ((w5.alloc (.cells zU16 93)).setRow w5.heap.size LP).cell? ⟨w.heap.size, 0, none⟩ = some (.string a) := by simp [World.cell?, hb6]
   have cs1 : ((w5.alloc (.cells zU16 93)).setRow w5.heap.size LP).cell? ⟨w.heap.size, 1, none⟩ = some (.string p) := by simp [World.cell?, hb6]
   have cs2 : ((w5.alloc (.cells zU16 93)).setRow w5.heap.size LP).cell? ⟨w.heap.size, 2, none⟩ = some (.string t) := by simp [World.cell?, hb6]
   have cs3 : ((w5.alloc (.cells zU16 93)).setRow w5.heap.size LP).cell? ⟨w.heap.size, 3, none⟩ = some (.int .i64 x) := by simp [World.cell?, hb6]
   have cs4 : ((w5.alloc (.cells zU16 93)).setRow w5.heap.size LP).cell? ⟨w.heap.size, 4, none⟩ = some (.int .i64 y) := by simp [World.cell?, hb6]
   have cs5 : ((w5.alloc (.cells zU16 93)).setRow w5.heap.size LP).cell? ⟨w.heap.size, 5, none⟩ = some (.int .i64 z) := by simp [World.cell?, hb6]
   go_wp2_with (refine wpList_store_row rfl 93 (.tmp 8) (.tmp 24) rfl w5.heap.size LP rfl rfl 93 zU16 hn5 hPI hP16.symm hP1 ?_)
   generalize ((w5.alloc (.cells zU16 93)).setRow w5.heap.size LP) = w6 at hb6 hr hA6 hP6 K8 cs0 cs1 cs2 cs3 cs4 cs5 ⊢; have hszp : ab < w5.heap.size := hl5; generalize w5.heap.size = pb at hP6 hszp ⊢; clear hn5 hb5 hr5 hA5 K7 hl5; have E8 := areTimers_any w6 t ht; rw [qt] at E8; refine Calls.mono E8 ?_; rintro xx w7 ⟨rfl, e7⟩; rw [e7]; clear e7 E8; have KZ := K8.setRow (g := w.heap.size + 1) (fun x => by omega) zS36
   go_wp2_with (refine wpList_store_row rfl 95 (.tmp 4) (.tmp 52) rfl (w.heap.size + 1) zS36 rfl rfl 95 zS36 hr Tryz.sizeStand rfl zsdOne ?_)
   refine bodyPost_ret (results_cell_tmp rfl _ _ (w.heap.size + 1) 95 zS36 (0, 0) ds rfl (setRow_heap _ _ _ _ _ _ hr) hds hda Tryz.sizeStand) rfl ?_; rw [HV.out]; exact ⟨rfl, KZ⟩
 | true => ?_
 cases qqx : Ch.inB x with
 | false =>
   have HV := hid (show Ch.take ss a p t x y z = (false, Ch.noSd) by simp [Ch.take, q1, q2, qt, qqx]); generalize hLA : ((Ch.takeActV ss a).1.map Value.bool).toArray = LA at *; have HLA := hid hLA; clear hLA
   go_enter Tryz.func79, Tryz.ntmps79
   go_wp2_with fail
   refine hm E1 ?_; rintro xx w3 ⟨rfl, K3⟩; clear E1; have hb3 := K3.at_ hb2 (fun x => x); have hr3 := K3.at_ hr2 (fun x => x); have hS3 : StR w3 ob oo ss := hS2.keep K3 (fun x => x) (fun _ _ _ x => x); have K4 := K2.trans K3; have hsz3 : w.heap.size + 1 < w3.heap.size := lt_of_block hr3; clear hb2 hr2 hS2 K2 K3; have hn3 := heap_alloc_new w3 (.cells zB16 91)
   have hb4 : ((w3.alloc (.cells zB16 91)).setRow w3.heap.size LA).heap[w.heap.size]? = some (.cells #[.string a, .string p, .string t, .int .i64 x, .int .i64 y, .int .i64 z] 26) := by
    rw [setRow_other _ _ _ _ (by omega), Below.heap_alloc _ _ _ (by omega)]; exact hb3
   have hr : ((w3.alloc (.cells zB16 91)).setRow w3.heap.size LA).heap[w.heap.size + 1]? = some (.cells zS36 95) := by
    rw [setRow_other _ _ _ _ (by omega), Below.heap_alloc _ _ _ (by omega)]; exact hr3
   have hA4 : ((w3.alloc (.cells zB16 91)).setRow w3.heap.size LA).heap[w3.heap.size]? = some (.cells LA 91 (0, 0)) := setRow_heap _ _ _ _ _ _ hn3; have Kn : Kp (fun _ => False) w3 ((w3.alloc (.cells zB16 91)).setRow w3.heap.size LA) := ((Kp.refl _ _).alloc _).setRow (fun x => by omega) _; have hS4 : StR ((w3.alloc (.cells zB16 91)).setRow w3.heap.size LA) ob oo ss := hS3.keep Kn (fun x => x) (fun _ _ _ x => x); have K5 := K4.trans Kn
   have cs0 : ((w3.alloc (.cells zB16 91)).setRow w3.heap.size LA).cell? ⟨w.heap.size, 0, none⟩ = some (.string a) := by simp [World.cell?, hb4]
   have cs1 : ((w3.alloc (.cells zB16 91)).setRow w3.heap.size LA).cell? ⟨w.heap.size, 1, none⟩ = some (.string p) := by simp [World.cell?, hb4]
   have cs2 : ((w3.alloc (.cells zB16 91)).setRow w3.heap.size LA).cell? ⟨w.heap.size, 2, none⟩ = some (.string t) := by simp [World.cell?, hb4]
   have cs3 : ((w3.alloc (.cells zB16 91)).setRow w3.heap.size LA).cell? ⟨w.heap.size, 3, none⟩ = some (.int .i64 x) := by simp [World.cell?, hb4]
   have cs4 : ((w3.alloc (.cells zB16 91)).setRow w3.heap.size LA).cell? ⟨w.heap.size, 4, none⟩ = some (.int .i64 y) := by simp [World.cell?, hb4]
   have cs5 : ((w3.alloc (.cells zB16 91)).setRow w3.heap.size LA).cell? ⟨w.heap.size, 5, none⟩ = some (.int .i64 z) := by simp [World.cell?, hb4]
   go_wp2_with (refine wpList_store_row rfl 91 (.tmp 6) (.tmp 14) rfl w3.heap.size LA rfl rfl 91 zB16 hn3 hAI hA16.symm hA1 ?_)
   generalize ((w3.alloc (.cells zB16 91)).setRow w3.heap.size LA) = w4 at hb4 hr hA4 Kn hS4 K5 cs0 cs1 cs2 cs3 cs4 cs5 ⊢; have hszb : w.heap.size + 1 < w3.heap.size := hsz3; generalize w3.heap.size = ab at hA4 hszb ⊢; clear hn3 hb3 hr3 hS3 K4 Kn hsz3 hA16 hA1; have E2 := takePast_any ob oo w4 ss p hp hS4 hl; rw [q2] at E2; refine Calls.mono E2 ?_; rintro xx w5 ⟨rfl, K6⟩; generalize hLP : (pastCells (Ch.takePastV ss p).1).toArray = LP at *; have HLP := hid hLP; clear hLP; clear E2 cs0 cs1 cs2 cs3 cs4 cs5; have hb5 := K6.at_ hb4 (fun x => x); have hr5 := K6.at_ hr (fun x => x); have hA5 := K6.at_ hA4 (fun x => x); have K7 := K5.trans K6; have hl5 : ab < w5.heap.size := lt_of_block hA5; clear hb4 hr hA4 hS4 K5 K6; have hn5 := heap_alloc_new w5 (.cells zU16 93)
   have hb6 : ((w5.alloc (.cells zU16 93)).setRow w5.heap.size LP).heap[w.heap.size]? = some (.cells #[.string a, .string p, .string t, .int .i64 x, .int .i64 y, .int .i64 z] 26) := by
    rw [setRow_other _ _ _ _ (by omega), Below.heap_alloc _ _ _ (by omega)]; exact hb5
   have hr : ((w5.alloc (.cells zU16 93)).setRow w5.heap.size LP).heap[w.heap.size + 1]? = some (.cells zS36 95) := by
    rw [setRow_other _ _ _ _ (by omega), Below.heap_alloc _ _ _ (by omega)]; exact hr5
   have hA6 : ((w5.alloc (.cells zU16 93)).setRow w5.heap.size LP).heap[ab]? = some (.cells LA 91 (0, 0)) := by
    rw [setRow_other _ _ _ _ (by omega), Below.heap_alloc _ _ _ (by omega)]; exact hA5
   have hP6 : ((w5.alloc (.cells zU16 93)).setRow w5.heap.size LP).heap[w5.heap.size]? = some (.cells LP 93 (0, 0)) := setRow_heap _ _ _ _ _ _ hn5; have K8 : Kp (fun _ => False) w ((w5.alloc (.cells zU16 93)).setRow w5.heap.size LP) := (K7.alloc _).setRow (fun x => by have := K7.size; omega) _
   have cs0 : ((w5.alloc (.cells zU16 93)).setRow w5.heap.size LP).cell? ⟨w.heap.size, 0, none⟩ = some (.string a) := by simp [World.cell?, hb6]
   have cs1 : ((w5.alloc (.cells zU16 93)).setRow w5.heap.size LP).cell? ⟨w.heap.size, 1, none⟩ = some (.string p) := by simp [World.cell?, hb6]
   have cs2 : ((w5.alloc (.cells zU16 93)).setRow w5.heap.size LP).cell? ⟨w.heap.size, 2, none⟩ = some (.string t) := by simp [World.cell?, hb6]
   have cs3 : ((w5.alloc (.cells zU16 93)).setRow w5.heap.size LP).cell? ⟨w.heap.size, 3, none⟩ = some (.int .i64 x) := by simp [World.cell?, hb6]
   have cs4 : ((w5.alloc (.cells zU16 93)).setRow w5.heap.size LP).cell? ⟨w.heap.size, 4, none⟩ = some (.int .i64 y) := by simp [World.cell?, hb6]
   have cs5 : ((w5.alloc (.cells zU16 93)).setRow w5.heap.size LP).cell? ⟨w.heap.size, 5, none⟩ = some (.int .i64 z) := by simp [World.cell?, hb6]
   go_wp2_with (refine wpList_store_row rfl 93 (.tmp 8) (.tmp 24) rfl w5.heap.size LP rfl rfl 93 zU16 hn5 hPI hP16.symm hP1 ?_)
   generalize ((w5.alloc (.cells zU16 93)).setRow w5.heap.size LP) = w6 at hb6 hr hA6 hP6 K8 cs0 cs1 cs2 cs3 cs4 cs5 ⊢; have hszp : ab < w5.heap.size := hl5; generalize w5.heap.size = pb at hP6 hszp ⊢; clear hn5 hb5 hr5 hA5 K7 hl5; have E8 := areTimers_any w6 t ht; rw [qt] at E8; refine Calls.mono E8 ?_; rintro xx w7 ⟨rfl, e7⟩; rw [e7]; clear e7 E8
   go_wp2_with fail
   have E9 := inBounds_any w6 x; rw [qqx] at E9; refine Calls.mono E9 ?_; rintro xx w7 ⟨rfl, e7⟩; rw [e7]; clear e7; clear E9; have KZ := K8.setRow (g := w.heap.size + 1) (fun x => by omega) zS36
   go_wp2_with (refine wpList_store_row rfl 95 (.tmp 4) (.tmp 52) rfl (w.heap.size + 1) zS36 rfl rfl 95 zS36 hr Tryz.sizeStand rfl zsdOne ?_)
   refine bodyPost_ret (results_cell_tmp rfl _ _ (w.heap.size + 1) 95 zS36 (0, 0) ds rfl (setRow_heap _ _ _ _ _ _ hr) hds hda Tryz.sizeStand) rfl ?_; rw [HV.out]; exact ⟨rfl, KZ⟩
 | true => ?_
 cases qqy : Ch.inB y with
 | false =>
   have HV := hid (show Ch.take ss a p t x y z = (false, Ch.noSd) by simp [Ch.take, q1, q2, qt, qqx, qqy]); generalize hLA : ((Ch.takeActV ss a).1.map Value.bool).toArray = LA at *; have HLA := hid hLA; clear hLA
   go_enter Tryz.func79, Tryz.ntmps79
   go_wp2_with fail
   refine hm E1 ?_; rintro xx w3 ⟨rfl, K3⟩; clear E1; have hb3 := K3.at_ hb2 (fun x => x); have hr3 := K3.at_ hr2 (fun x => x); have hS3 : StR w3 ob oo ss := hS2.keep K3 (fun x => x) (fun _ _ _ x => x); have K4 := K2.trans K3; have hsz3 : w.heap.size + 1 < w3.heap.size := lt_of_block hr3; clear hb2 hr2 hS2 K2 K3; have hn3 := heap_alloc_new w3 (.cells zB16 91)
   have hb4 : ((w3.alloc (.cells zB16 91)).setRow w3.heap.size LA).heap[w.heap.size]? = some (.cells #[.string a, .string p, .string t, .int .i64 x, .int .i64 y, .int .i64 z] 26) := by
    rw [setRow_other _ _ _ _ (by omega), Below.heap_alloc _ _ _ (by omega)]; exact hb3
   have hr : ((w3.alloc (.cells zB16 91)).setRow w3.heap.size LA).heap[w.heap.size + 1]? = some (.cells zS36 95) := by
    rw [setRow_other _ _ _ _ (by omega), Below.heap_alloc _ _ _ (by omega)]; exact hr3
   have hA4 : ((w3.alloc (.cells zB16 91)).setRow w3.heap.size LA).heap[w3.heap.size]? = some (.cells LA 91 (0, 0)) := setRow_heap _ _ _ _ _ _ hn3; have Kn : Kp (fun _ => False) w3 ((w3.alloc (.cells zB16 91)).setRow w3.heap.size LA) := ((Kp.refl _ _).alloc _).setRow (fun x => by omega) _; have hS4 : StR ((w3.alloc (.cells zB16 91)).setRow w3.heap.size LA) ob oo ss := hS3.keep Kn (fun x => x) (fun _ _ _ x => x); have K5 := K4.trans Kn
   have cs0 : ((w3.alloc (.cells zB16 91)).setRow w3.heap.size LA).cell? ⟨w.heap.size, 0, none⟩ = some (.string a) := by simp [World.cell?, hb4]
   have cs1 : ((w3.alloc (.cells zB16 91)).setRow w3.heap.size LA).cell? ⟨w.heap.size, 1, none⟩ = some (.string p) := by simp [World.cell?, hb4]
   have cs2 : ((w3.alloc (.cells zB16 91)).setRow w3.heap.size LA).cell? ⟨w.heap.size, 2, none⟩ = some (.string t) := by simp [World.cell?, hb4]
   have cs3 : ((w3.alloc (.cells zB16 91)).setRow w3.heap.size LA).cell? ⟨w.heap.size, 3, none⟩ = some (.int .i64 x) := by simp [World.cell?, hb4]
   have cs4 : ((w3.alloc (.cells zB16 91)).setRow w3.heap.size LA).cell? ⟨w.heap.size, 4, none⟩ = some (.int .i64 y) := by simp [World.cell?, hb4]
   have cs5 : ((w3.alloc (.cells zB16 91)).setRow w3.heap.size LA).cell? ⟨w.heap.size, 5, none⟩ = some (.int .i64 z) := by simp [World.cell?, hb4]
   go_wp2_with (refine wpList_store_row rfl 91 (.tmp 6) (.tmp 14) rfl w3.heap.size LA rfl rfl 91 zB16 hn3 hAI hA16.symm hA1 ?_)
   generalize ((w3.alloc (.cells zB16 91)).setRow w3.heap.size LA) = w4 at hb4 hr hA4 Kn hS4 K5 cs0 cs1 cs2 cs3 cs4 cs5 ⊢; have hszb : w.heap.size + 1 < w3.heap.size := hsz3; generalize w3.heap.size = ab at hA4 hszb ⊢; clear hn3 hb3 hr3 hS3 K4 Kn hsz3 hA16 hA1; have E2 := takePast_any ob oo w4 ss p hp hS4 hl; rw [q2] at E2; refine Calls.mono E2 ?_; rintro xx w5 ⟨rfl, K6⟩; generalize hLP : (pastCells (Ch.takePastV ss p).1).toArray = LP at *; have HLP := hid hLP; clear hLP; clear E2 cs0 cs1 cs2 cs3 cs4 cs5; have hb5 := K6.at_ hb4 (fun x => x); have hr5 := K6.at_ hr (fun x => x); have hA5 := K6.at_ hA4 (fun x => x); have K7 := K5.trans K6; have hl5 : ab < w5.heap.size := lt_of_block hA5; clear hb4 hr hA4 hS4 K5 K6; have hn5 := heap_alloc_new w5 (.cells zU16 93)
   have hb6 : ((w5.alloc (.cells zU16 93)).setRow w5.heap.size LP).heap[w.heap.size]? = some (.cells #[.string a, .string p, .string t, .int .i64 x, .int .i64 y, .int .i64 z] 26) := by
    rw [setRow_other _ _ _ _ (by omega), Below.heap_alloc _ _ _ (by omega)]; exact hb5
   have hr : ((w5.alloc (.cells zU16 93)).setRow w5.heap.size LP).heap[w.heap.size + 1]? = some (.cells zS36 95) := by
    rw [setRow_other _ _ _ _ (by omega), Below.heap_alloc _ _ _ (by omega)]; exact hr5
   have hA6 : ((w5.alloc (.cells zU16 93)).setRow w5.heap.size LP).heap[ab]? = some (.cells LA 91 (0, 0)) := by
    rw [setRow_other _ _ _ _ (by omega), Below.heap_alloc _ _ _ (by omega)]; exact hA5
   have hP6 : ((w5.alloc (.cells zU16 93)).setRow w5.heap.size LP).heap[w5.heap.size]? = some (.cells LP 93 (0, 0)) := setRow_heap _ _ _ _ _ _ hn5; have K8 : Kp (fun _ => False) w ((w5.alloc (.cells zU16 93)).setRow w5.heap.size LP) := (K7.alloc _).setRow (fun x => by have := K7.size; omega) _
   have cs0 : ((w5.alloc (.cells zU16 93)).setRow w5.heap.size LP).cell? ⟨w.heap.size, 0, none⟩ = some (.string a) := by simp [World.cell?, hb6]
   have cs1 : ((w5.alloc (.cells zU16 93)).setRow w5.heap.size LP).cell? ⟨w.heap.size, 1, none⟩ = some (.string p) := by simp [World.cell?, hb6]
   have cs2 : ((w5.alloc (.cells zU16 93)).setRow w5.heap.size LP).cell? ⟨w.heap.size, 2, none⟩ = some (.string t) := by simp [World.cell?, hb6]
   have cs3 : ((w5.alloc (.cells zU16 93)).setRow w5.heap.size LP).cell? ⟨w.heap.size, 3, none⟩ = some (.int .i64 x) := by simp [World.cell?, hb6]
   have cs4 : ((w5.alloc (.cells zU16 93)).setRow w5.heap.size LP).cell? ⟨w.heap.size, 4, none⟩ = some (.int .i64 y) := by simp [World.cell?, hb6]
   have cs5 : ((w5.alloc (.cells zU16 93)).setRow w5.heap.size LP).cell? ⟨w.heap.size, 5, none⟩ = some (.int .i64 z) := by simp [World.cell?, hb6]
   go_wp2_with (refine wpList_store_row rfl 93 (.tmp 8) (.tmp 24) rfl w5.heap.size LP rfl rfl 93 zU16 hn5 hPI hP16.symm hP1 ?_)
   generalize ((w5.alloc (.cells zU16 93)).setRow w5.heap.size LP) = w6 at hb6 hr hA6 hP6 K8 cs0 cs1 cs2 cs3 cs4 cs5 ⊢; have hszp : ab < w5.heap.size := hl5; generalize w5.heap.size = pb at hP6 hszp ⊢; clear hn5 hb5 hr5 hA5 K7 hl5; have E8 := areTimers_any w6 t ht; rw [qt] at E8; refine Calls.mono E8 ?_; rintro xx w7 ⟨rfl, e7⟩; rw [e7]; clear e7 E8
   go_wp2_with fail
   have E9 := inBounds_any w6 x; rw [qqx] at E9; refine Calls.mono E9 ?_; rintro xx w7 ⟨rfl, e7⟩; rw [e7]; clear e7; clear E9
   go_wp2_with fail
   have E9 := inBounds_any w6 y; rw [qqy] at E9; refine Calls.mono E9 ?_; rintro xx w7 ⟨rfl, e7⟩; rw [e7]; clear e7; clear E9; have KZ := K8.setRow (g := w.heap.size + 1) (fun x => by omega) zS36
   go_wp2_with (refine wpList_store_row rfl 95 (.tmp 4) (.tmp 52) rfl (w.heap.size + 1) zS36 rfl rfl 95 zS36 hr Tryz.sizeStand rfl zsdOne ?_)
   refine bodyPost_ret (results_cell_tmp rfl _ _ (w.heap.size + 1) 95 zS36 (0, 0) ds rfl (setRow_heap _ _ _ _ _ _ hr) hds hda Tryz.sizeStand) rfl ?_; rw [HV.out]; exact ⟨rfl, KZ⟩
 | true => ?_
 cases qqz : Ch.inB z with
 | false =>
   have HV := hid (show Ch.take ss a p t x y z = (false, Ch.noSd) by simp [Ch.take, q1, q2, qt, qqx, qqy, qqz]); generalize hLA : ((Ch.takeActV ss a).1.map Value.bool).toArray = LA at *; have HLA := hid hLA; clear hLA
   go_enter Tryz.func79, Tryz.ntmps79
   go_wp2_with fail
   refine hm E1 ?_; rintro xx w3 ⟨rfl, K3⟩; clear E1; have hb3 := K3.at_ hb2 (fun x => x); have hr3 := K3.at_ hr2 (fun x => x); have hS3 : StR w3 ob oo ss := hS2.keep K3 (fun x => x) (fun _ _ _ x => x); have K4 := K2.trans K3; have hsz3 : w.heap.size + 1 < w3.heap.size := lt_of_block hr3; clear hb2 hr2 hS2 K2 K3; have hn3 := heap_alloc_new w3 (.cells zB16 91)
   have hb4 : ((w3.alloc (.cells zB16 91)).setRow w3.heap.size LA).heap[w.heap.size]? = some (.cells #[.string a, .string p, .string t, .int .i64 x, .int .i64 y, .int .i64 z] 26) := by
    rw [setRow_other _ _ _ _ (by omega), Below.heap_alloc _ _ _ (by omega)]; exact hb3
   have hr : ((w3.alloc (.cells zB16 91)).setRow w3.heap.size LA).heap[w.heap.size + 1]? = some (.cells zS36 95) := by
    rw [setRow_other _ _ _ _ (by omega), Below.heap_alloc _ _ _ (by omega)]; exact hr3
   have hA4 : ((w3.alloc (.cells zB16 91)).setRow w3.heap.size LA).heap[w3.heap.size]? = some (.cells LA 91 (0, 0)) := setRow_heap _ _ _ _ _ _ hn3; have Kn : Kp (fun _ => False) w3 ((w3.alloc (.cells zB16 91)).setRow w3.heap.size LA) := ((Kp.refl _ _).alloc _).setRow (fun x => by omega) _; have hS4 : StR ((w3.alloc (.cells zB16 91)).setRow w3.heap.size LA) ob oo ss := hS3.keep Kn (fun x => x) (fun _ _ _ x => x); have K5 := K4.trans Kn
   have cs0 : ((w3.alloc (.cells zB16 91)).setRow w3.heap.size LA).cell? ⟨w.heap.size, 0, none⟩ = some (.string a) := by simp [World.cell?, hb4]
   have cs1 : ((w3.alloc (.cells zB16 91)).setRow w3.heap.size LA).cell? ⟨w.heap.size, 1, none⟩ = some (.string p) := by simp [World.cell?, hb4]
   have cs2 : ((w3.alloc (.cells zB16 91)).setRow w3.heap.size LA).cell? ⟨w.heap.size, 2, none⟩ = some (.string t) := by simp [World.cell?, hb4]
   have cs3 : ((w3.alloc (.cells zB16 91)).setRow w3.heap.size LA).cell? ⟨w.heap.size, 3, none⟩ = some (.int .i64 x) := by simp [World.cell?, hb4]
   have cs4 : ((w3.alloc (.cells zB16 91)).setRow w3.heap.size LA).cell? ⟨w.heap.size, 4, none⟩ = some (.int .i64 y) := by simp [World.cell?, hb4]
   have cs5 : ((w3.alloc (.cells zB16 91)).setRow w3.heap.size LA).cell? ⟨w.heap.size, 5, none⟩ = some (.int .i64 z) := by simp [World.cell?, hb4]
   go_wp2_with (refine wpList_store_row rfl 91 (.tmp 6) (.tmp 14) rfl w3.heap.size LA rfl rfl 91 zB16 hn3 hAI hA16.symm hA1 ?_)
   generalize ((w3.alloc (.cells zB16 91)).setRow w3.heap.size LA) = w4 at hb4 hr hA4 Kn hS4 K5 cs0 cs1 cs2 cs3 cs4 cs5 ⊢; have hszb : w.heap.size + 1 < w3.heap.size := hsz3; generalize w3.heap.size = ab at hA4 hszb ⊢; clear hn3 hb3 hr3 hS3 K4 Kn hsz3 hA16 hA1; have E2 := takePast_any ob oo w4 ss p hp hS4 hl; rw [q2] at E2; refine Calls.mono E2 ?_; rintro xx w5 ⟨rfl, K6⟩; generalize hLP : (pastCells (Ch.takePastV ss p).1).toArray = LP at *; have HLP := hid hLP; clear hLP; clear E2 cs0 cs1 cs2 cs3 cs4 cs5; have hb5 := K6.at_ hb4 (fun x => x); have hr5 := K6.at_ hr (fun x => x); have hA5 := K6.at_ hA4 (fun x => x); have K7 := K5.trans K6; have hl5 : ab < w5.heap.size := lt_of_block hA5; clear hb4 hr hA4 hS4 K5 K6; have hn5 := heap_alloc_new w5 (.cells zU16 93)
   have hb6 : ((w5.alloc (.cells zU16 93)).setRow w5.heap.size LP).heap[w.heap.size]? = some (.cells #[.string a, .string p, .string t, .int .i64 x, .int .i64 y, .int .i64 z] 26) := by
    rw [setRow_other _ _ _ _ (by omega), Below.heap_alloc _ _ _ (by omega)]; exact hb5
   have hr : ((w5.alloc (.cells zU16 93)).setRow w5.heap.size LP).heap[w.heap.size + 1]? = some (.cells zS36 95) := by
    rw [setRow_other _ _ _ _ (by omega), Below.heap_alloc _ _ _ (by omega)]; exact hr5
   have hA6 : ((w5.alloc (.cells zU16 93)).setRow w5.heap.size LP).heap[ab]? = some (.cells LA 91 (0, 0)) := by
    rw [setRow_other _ _ _ _ (by omega), Below.heap_alloc _ _ _ (by omega)]; exact hA5
   have hP6 : ((w5.alloc (.cells zU16 93)).setRow w5.heap.size LP).heap[w5.heap.size]? = some (.cells LP 93 (0, 0)) := setRow_heap _ _ _ _ _ _ hn5; have K8 : Kp (fun _ => False) w ((w5.alloc (.cells zU16 93)).setRow w5.heap.size LP) := (K7.alloc _).setRow (fun x => by have := K7.size; omega) _
   have cs0 : ((w5.alloc (.cells zU16 93)).setRow w5.heap.size LP).cell? ⟨w.heap.size, 0, none⟩ = some (.string a) := by simp [World.cell?, hb6]
   have cs1 : ((w5.alloc (.cells zU16 93)).setRow w5.heap.size LP).cell? ⟨w.heap.size, 1, none⟩ = some (.string p) := by simp [World.cell?, hb6]
   have cs2 : ((w5.alloc (.cells zU16 93)).setRow w5.heap.size LP).cell? ⟨w.heap.size, 2, none⟩ = some (.string t) := by simp [World.cell?, hb6]
   have cs3 : ((w5.alloc (.cells zU16 93)).setRow w5.heap.size LP).cell? ⟨w.heap.size, 3, none⟩ = some (.int .i64 x) := by simp [World.cell?, hb6]
   have cs4 : ((w5.alloc (.cells zU16 93)).setRow w5.heap.size LP).cell? ⟨w.heap.size, 4, none⟩ = some (.int .i64 y) := by simp [World.cell?, hb6]
   have cs5 : ((w5.alloc (.cells zU16 93)).setRow w5.heap.size LP).cell? ⟨w.heap.size, 5, none⟩ = some (.int .i64 z) := by simp [World.cell?, hb6]
   go_wp2_with (refine wpList_store_row rfl 93 (.tmp 8) (.tmp 24) rfl w5.heap.size LP rfl rfl 93 zU16 hn5 hPI hP16.symm hP1 ?_)
   generalize ((w5.alloc (.cells zU16 93)).setRow w5.heap.size LP) = w6 at hb6 hr hA6 hP6 K8 cs0 cs1 cs2 cs3 cs4 cs5 ⊢; have hszp : ab < w5.heap.size := hl5; generalize w5.heap.size = pb at hP6 hszp ⊢; clear hn5 hb5 hr5 hA5 K7 hl5; have E8 := areTimers_any w6 t ht; rw [qt] at E8; refine Calls.mono E8 ?_; rintro xx w7 ⟨rfl, e7⟩; rw [e7]; clear e7 E8
   go_wp2_with fail
   have E9 := inBounds_any w6 x; rw [qqx] at E9; refine Calls.mono E9 ?_; rintro xx w7 ⟨rfl, e7⟩; rw [e7]; clear e7; clear E9
   go_wp2_with fail
   have E9 := inBounds_any w6 y; rw [qqy] at E9; refine Calls.mono E9 ?_; rintro xx w7 ⟨rfl, e7⟩; rw [e7]; clear e7; clear E9
   go_wp2_with fail
   have E9 := inBounds_any w6 z; rw [qqz] at E9; refine Calls.mono E9 ?_; rintro xx w7 ⟨rfl, e7⟩; rw [e7]; clear e7; clear E9; have KZ := K8.setRow (g := w.heap.size + 1) (fun x => by omega) zS36
   go_wp2_with (refine wpList_store_row rfl 95 (.tmp 4) (.tmp 52) rfl (w.heap.size + 1) zS36 rfl rfl 95 zS36 hr Tryz.sizeStand rfl zsdOne ?_)
   refine bodyPost_ret (results_cell_tmp rfl _ _ (w.heap.size + 1) 95 zS36 (0, 0) ds rfl (setRow_heap _ _ _ _ _ _ hr) hds hda Tryz.sizeStand) rfl ?_; rw [HV.out]; exact ⟨rfl, KZ⟩
 | true => ?_
 have HV := hid (show Ch.take ss a p t x y z = (true, ⟨(Ch.takeActV ss a).1, (Ch.takePastV ss p).1, t, x, y, z⟩) by simp [Ch.take, q1, q2, qt, qqx, qqy, qqz])
 have hwf : (Ch.Sd.mk (Ch.takeActV ss a).1 (Ch.takePastV ss p).1 t x y z).Wf := ⟨Ch.takeActV_len ss a, Ch.takePastV_len ss p⟩
 have HB : Hid (Tryz.prog.built 95 [(0, .agg ((Ch.takeActV ss a).1.map Value.bool).toArray), (1, .agg (pastCells (Ch.takePastV ss p).1).toArray), (2, .string t), (3, .int .i64 x), (4, .int .i64 y), (5, .int .i64 z)] = some (sdAll (Ch.Sd.mk (Ch.takeActV ss a).1 (Ch.takePastV ss p).1 t x y z)).toArray) := built_stand _ hwf; have hsI := sdInfo hwf; have hs36 := sdSize hwf; have hs1 := sdOne (Ch.Sd.mk (Ch.takeActV ss a).1 (Ch.takePastV ss p).1 t x y z); generalize hM : (sdAll (Ch.Sd.mk (Ch.takeActV ss a).1 (Ch.takePastV ss p).1 t x y z)).toArray = M at *; have HM := hid hM; clear hM hwf; generalize hLA : ((Ch.takeActV ss a).1.map Value.bool).toArray = LA at *; have HLA := hid hLA; clear hLA
 go_enter Tryz.func79, Tryz.ntmps79
 go_wp2_with fail
 refine hm E1 ?_; rintro xx w3 ⟨rfl, K3⟩; clear E1; have hb3 := K3.at_ hb2 (fun x => x); have hr3 := K3.at_ hr2 (fun x => x); have hS3 : StR w3 ob oo ss := hS2.keep K3 (fun x => x) (fun _ _ _ x => x); have K4 := K2.trans K3; have hsz3 : w.heap.size + 1 < w3.heap.size := lt_of_block hr3; clear hb2 hr2 hS2 K2 K3; have hn3 := heap_alloc_new w3 (.cells zB16 91)
 have hb4 : ((w3.alloc (.cells zB16 91)).setRow w3.heap.size LA).heap[w.heap.size]? = some (.cells #[.string a, .string p, .string t, .int .i64 x, .int .i64 y, .int .i64 z] 26) := by
  rw [setRow_other _ _ _ _ (by omega), Below.heap_alloc _ _ _ (by omega)]; exact hb3
 have hr : ((w3.alloc (.cells zB16 91)).setRow w3.heap.size LA).heap[w.heap.size + 1]? = some (.cells zS36 95) := by
  rw [setRow_other _ _ _ _ (by omega), Below.heap_alloc _ _ _ (by omega)]; exact hr3
 have hA4 : ((w3.alloc (.cells zB16 91)).setRow w3.heap.size LA).heap[w3.heap.size]? = some (.cells LA 91 (0, 0)) := setRow_heap _ _ _ _ _ _ hn3; have Kn : Kp (fun _ => False) w3 ((w3.alloc (.cells zB16 91)).setRow w3.heap.size LA) := ((Kp.refl _ _).alloc _).setRow (fun x => by omega) _; have hS4 : StR ((w3.alloc (.cells zB16 91)).setRow w3.heap.size LA) ob oo ss := hS3.keep Kn (fun x => x) (fun _ _ _ x => x); have K5 := K4.trans Kn
 have cs0 : ((w3.alloc (.cells zB16 91)).setRow w3.heap.size LA).cell? ⟨w.heap.size, 0, none⟩ = some (.string a) := by simp [World.cell?, hb4]
 have cs1 : ((w3.alloc (.cells zB16 91)).setRow w3.heap.size LA).cell? ⟨w.heap.size, 1, none⟩ = some (.string p) := by simp [World.cell?, hb4]
 have cs2 : ((w3.alloc (.cells zB16 91)).setRow w3.heap.size LA).cell? ⟨w.heap.size, 2, none⟩ = some (.string t) := by simp [World.cell?, hb4]
 have cs3 : ((w3.alloc (.cells zB16 91)).setRow w3.heap.size LA).cell? ⟨w.heap.size, 3, none⟩ = some (.int .i64 x) := by simp [World.cell?, hb4]
 have cs4 : ((w3.alloc (.cells zB16 91)).setRow w3.heap.size LA).cell? ⟨w.heap.size, 4, none⟩ = some (.int .i64 y) := by simp [World.cell?, hb4]
 have cs5 : ((w3.alloc (.cells zB16 91)).setRow w3.heap.size LA).cell? ⟨w.heap.size, 5, none⟩ = some (.int .i64 z) := by simp [World.cell?, hb4]
 go_wp2_with (refine wpList_store_row rfl 91 (.tmp 6) (.tmp 14) rfl w3.heap.size LA rfl rfl 91 zB16 hn3 hAI hA16.symm hA1 ?_)
 generalize ((w3.alloc (.cells zB16 91)).setRow w3.heap.size LA) = w4 at hb4 hr hA4 Kn hS4 K5 cs0 cs1 cs2 cs3 cs4 cs5 ⊢; have hszb : w.heap.size + 1 < w3.heap.size := hsz3; generalize w3.heap.size = ab at hA4 hszb ⊢; clear hn3 hb3 hr3 hS3 K4 Kn hsz3 hA16 hA1; have E2 := takePast_any ob oo w4 ss p hp hS4 hl; rw [q2] at E2; refine Calls.mono E2 ?_; rintro xx w5 ⟨rfl, K6⟩; generalize hLP : (pastCells (Ch.takePastV ss p).1).toArray = LP at *; have HLP := hid hLP; clear hLP; clear E2 cs0 cs1 cs2 cs3 cs4 cs5; have hb5 := K6.at_ hb4 (fun x => x); have hr5 := K6.at_ hr (fun x => x); have hA5 := K6.at_ hA4 (fun x => x); have K7 := K5.trans K6; have hl5 : ab < w5.heap.size := lt_of_block hA5; clear hb4 hr hA4 hS4 K5 K6; have hn5 := heap_alloc_new w5 (.cells zU16 93)
 have hb6 : ((w5.alloc (.cells zU16 93)).setRow w5.heap.size LP).heap[w.heap.size]? = some (.cells #[.string a, .string p, .string t, .int .i64 x, .int .i64 y, .int .i64 z] 26) := by
  rw [setRow_other _ _ _ _ (by omega), Below.heap_alloc _ _ _ (by omega)]; exact hb5
 have hr : ((w5.alloc (.cells zU16 93)).setRow w5.heap.size LP).heap[w.heap.size + 1]? = some (.cells zS36 95) := by
  rw [setRow_other _ _ _ _ (by omega), Below.heap_alloc _ _ _ (by omega)]; exact hr5
 have hA6 : ((w5.alloc (.cells zU16 93)).setRow w5.heap.size LP).heap[ab]? = some (.cells LA 91 (0, 0)) := by
  rw [setRow_other _ _ _ _ (by omega), Below.heap_alloc _ _ _ (by omega)]; exact hA5
 have hP6 : ((w5.alloc (.cells zU16 93)).setRow w5.heap.size LP).heap[w5.heap.size]? = some (.cells LP 93 (0, 0)) := setRow_heap _ _ _ _ _ _ hn5; have K8 : Kp (fun _ => False) w ((w5.alloc (.cells zU16 93)).setRow w5.heap.size LP) := (K7.alloc _).setRow (fun x => by have := K7.size; omega) _
 have cs0 : ((w5.alloc (.cells zU16 93)).setRow w5.heap.size LP).cell? ⟨w.heap.size, 0, none⟩ = some (.string a) := by simp [World.cell?, hb6]
 have cs1 : ((w5.alloc (.cells zU16 93)).setRow w5.heap.size LP).cell? ⟨w.heap.size, 1, none⟩ = some (.string p) := by simp [World.cell?, hb6]
 have cs2 : ((w5.alloc (.cells zU16 93)).setRow w5.heap.size LP).cell? ⟨w.heap.size, 2, none⟩ = some (.string t) := by simp [World.cell?, hb6]
 have cs3 : ((w5.alloc (.cells zU16 93)).setRow w5.heap.size LP).cell? ⟨w.heap.size, 3, none⟩ = some (.int .i64 x) := by simp [World.cell?, hb6]
 have cs4 : ((w5.alloc (.cells zU16 93)).setRow w5.heap.size LP).cell? ⟨w.heap.size, 4, none⟩ = some (.int .i64 y) := by simp [World.cell?, hb6]
 have cs5 : ((w5.alloc (.cells zU16 93)).setRow w5.heap.size LP).cell? ⟨w.heap.size, 5, none⟩ = some (.int .i64 z) := by simp [World.cell?, hb6]
 go_wp2_with (refine wpList_store_row rfl 93 (.tmp 8) (.tmp 24) rfl w5.heap.size LP rfl rfl 93 zU16 hn5 hPI hP16.symm hP1 ?_)
 generalize ((w5.alloc (.cells zU16 93)).setRow w5.heap.size LP) = w6 at hb6 hr hA6 hP6 K8 cs0 cs1 cs2 cs3 cs4 cs5 ⊢; have hszp : ab < w5.heap.size := hl5; generalize w5.heap.size = pb at hP6 hszp ⊢; clear hn5 hb5 hr5 hA5 K7 hl5; have E8 := areTimers_any w6 t ht; rw [qt] at E8; refine Calls.mono E8 ?_; rintro xx w7 ⟨rfl, e7⟩; rw [e7]; clear e7 E8
 go_wp2_with fail
 have E9 := inBounds_any w6 x; rw [qqx] at E9; refine Calls.mono E9 ?_; rintro xx w7 ⟨rfl, e7⟩; rw [e7]; clear e7; clear E9
 go_wp2_with fail
 have E9 := inBounds_any w6 y; rw [qqy] at E9; refine Calls.mono E9 ?_; rintro xx w7 ⟨rfl, e7⟩; rw [e7]; clear e7; clear E9
 go_wp2_with fail
 have E9 := inBounds_any w6 z; rw [qqz] at E9; refine Calls.mono E9 ?_; rintro xx w7 ⟨rfl, e7⟩; rw [e7]; clear e7; clear E9; have KZ := K8.setRow (g := w.heap.size + 1) (fun x => by omega) M
 go_wp2_with (first | refine wpList_load_row rfl 91 (.tmp 6) rfl ab rfl 91 LA (0, 0) de hA6 hde (by cases de <;> simp_all [isAggD]) hAI ?_ | refine wpList_load_row rfl 93 (.tmp 8) rfl pb rfl 93 LP (0, 0) dm hP6 hdm (by cases dm <;> simp_all [isAggD]) hPI ?_ | (refine wpList_build_eq rfl 95 #[(0, .tmp 53), (1, .tmp 54), (2, .tmp 56), (3, .tmp 58), (4, .tmp 60), (5, .tmp 62)] rfl M [(0, .agg LA), (1, .agg LP), (2, .string t), (3, .int .i64 x), (4, .int .i64 y), (5, .int .i64 z)] ?_ HB.out ?_; rfl) | refine wpList_store_row rfl 95 (.tmp 4) (.tmp 63) rfl (w.heap.size + 1) M rfl rfl 95 zS36 hr hsI hs36.symm hs1 ?_)
 refine bodyPost_ret (results_cell_tmp rfl _ _ (w.heap.size + 1) 95 M (0, 0) ds rfl (setRow_heap _ _ _ _ _ _ hr) hds hda hsI) rfl ?_; rw [HV.out]; exact ⟨by rw [← HM.out]; rfl, KZ⟩
end
end Go.Proofs.YtnlbchmfcebeeaaGreat
