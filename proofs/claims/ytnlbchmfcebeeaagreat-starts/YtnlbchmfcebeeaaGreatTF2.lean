/- Walks: chart.Start. -/
import Derived.Test.YtnlbchmfcebeeaaGreatTF1
import Derived.Test.YtnlbchmfcebeeaaGreatTA7
namespace Go.Proofs.YtnlbchmfcebeeaaGreat
open Go.RowKit
namespace Ch
theorem mstart_ok (ol : Ol) : (mstart ol).1.Ok := finish_ok (enter_ok (m := ⟨blankSd ol.sts, [], []⟩) (blankSd_ok ol.sts) []) _
/-- A state as the caller has it. -/
structure As where
 act : ByteArray
 past : ByteArray
 tm : ByteArray
 x : Int
 y : Int
 z : Int
def as0 : As := ⟨⟨#[]⟩, ⟨#[]⟩, ⟨#[]⟩, 0, 0, 0⟩
def asOf (ss : List St) (s : Sd) : As := ⟨outAct ss s, outPast ss s, s.tm, s.x, s.y, s.z⟩
def cStart (t : ByteArray) : As × ByteArray × Int :=
 if (read t).1 != 0 then (as0, ⟨#[]⟩, (read t).1)
 else if (mstart (read t).2.2).2.2 != 0 then (as0, ⟨#[]⟩, (mstart (read t).2.2).2.2)
 else (asOf (read t).2.2.sts (mstart (read t).2.2).1, (mstart (read t).2.2).2.1, 0)
end Ch
theorem exec_build {P : Program} {o : Oper} {a : Act} {w : World} (t : TypeId) (parts : Array (Nat × Operand)) (ho : o.op = .build t parts)
 (cells : Array Value) (vals : List (Nat × Value)) (hv : parts.toList.map (fun p => (p.1, a.eval p.2)) = vals) (hb : P.built t vals = some cells) : (execOp a.eval o).run P w = .ok (.value (.agg cells)) w := by
 have e : (parts.map fun (i, x) => (i, a.eval x)).toList = vals := by rw [Array.toList_map]; exact hv
 unfold execOp
 simp only [ho, Sem.run_bind, run_build w t _ cells (by rw [e]; exact hb), Result.andThen_ok, Sem.run_pure]
def asA (a : Ch.As) : Array Value := #[.string a.act, .string a.past, .string a.tm, .int .i64 a.x, .int .i64 a.y, .int .i64 a.z]
theorem Tryz.sizeAs : (Tryz.prog.info? 26).map (·.size) = some 6 := by kernel_rfl
theorem Tryz.undAs : ∃ d, Tryz.prog.underlying 26 = some d ∧ isAggD d = true := ⟨_, Tryz.underlying26, rfl⟩
theorem asOne (a : Ch.As) : (asA a).all (fun x => x.oneCell') = true := by
 apply Array.all_eq_true_iff_forall_mem.2
 intro x hx
 simp only [asA, List.mem_toArray, List.mem_cons, List.not_mem_nil, or_false] at hx
 rcases hx with rfl | rfl | rfl | rfl | rfl | rfl <;> rfl
theorem kpOfBelow {w w' : World} (b : Below w.heap.size w w') : Kp (fun _ => False) w w' := ⟨b.os, b.tape, b.output, b.size, fun k hk _ => b.block k hk⟩
def olA (e f : Int) (sv tv bv : Value) : Array Value := #[.int .i64 e, .int .i64 f, sv, tv, bv]
theorem olOne {e f : Int} {sv tv bv : Value} (h1 : sv.oneCell' = true) (h2 : tv.oneCell' = true) (h3 : bv.oneCell' = true) : (olA e f sv tv bv).all (fun x => x.oneCell') = true := by
 apply Array.all_eq_true_iff_forall_mem.2
 intro x hx
 simp only [olA, List.mem_toArray, List.mem_cons, List.not_mem_nil, or_false] at hx
 rcases hx with rfl | rfl | rfl | rfl | rfl <;> first | rfl | assumption
theorem own_one {w : World} {base : Nat} {e : TypeId} {size : Nat} {v : Value} {n : Nat} {xs : List Value} (h : w.ownsRow base e size v n xs) : v.oneCell' = true := by
 obtain ⟨a, m, c, rfl⟩ := own_slice h; rfl
theorem OlF.keep0 {w w' : World} {B : Nat} {o : Ch.Ol} {sv tv bv : Value} {lt : List (Ch.Tr × Value)} {lb : List (Ch.Bl × Value)} (F : OlF w B o sv tv bv lt lb) (k : Kp (fun _ => False) w w') : OlF w' B o sv tv bv lt lb :=
 ⟨k.owns F.sts (fun _ _ x => x), F.mtr, k.owns F.trs (fun _ _ x => x), fun x hx => k.owns (F.tra x hx) (fun _ _ x => x), F.mbl, k.owns F.bls (fun _ _ x => x), fun x hx => k.owns (F.bla x hx) (fun _ _ x => x)⟩
theorem Pl.ofRow {w : World} {ob B : Nat} {ol : Ch.Ol} {e f : Int} {sv tv bv : Value} {lt : List (Ch.Tr × Value)} {lb : List (Ch.Bl × Value)} (h : w.heap[ob]? = some (.cells (olA e f sv tv bv) 87 (0, 0))) (F : OlF w B ol sv tv bv lt lb) : Pl w ob 0 ol :=
 ⟨sv, tv, bv, lt, lb, B, _, _, ⟨h, .inl rfl, rfl, rfl, rfl⟩, F⟩
section
variable (w : World)
set_option maxHeartbeats 1600000 in
set_option maxRecDepth 100000 in
theorem cStart_any (t : ByteArray) :
 Calls Tryz.prog 20 #[.string t] w fun x w' => x = .returned (.tuple #[.agg (asA (Ch.cStart t).1), .string (Ch.cStart t).2.1, .int .i64 (Ch.cStart t).2.2]) ∧ Kp (fun _ => False) w w' := by
 obtain ⟨ds, hds, hda⟩ := Tryz.undAs
 have hr1 := heap_alloc_new w (.cells #[.string ⟨#[]⟩, .string ⟨#[]⟩, .string ⟨#[]⟩, .int .i64 0, .int .i64 0, .int .i64 0] 26)
 have K1 : Kp (fun _ => False) w (w.alloc (.cells #[.string ⟨#[]⟩, .string ⟨#[]⟩, .string ⟨#[]⟩, .int .i64 0, .int .i64 0, .int .i64 0] 26)) := (Kp.refl _ _).alloc _
 have E0 := hid (read_any t (w.alloc (.cells #[.string ⟨#[]⟩, .string ⟨#[]⟩, .string ⟨#[]⟩, .int .i64 0, .int .i64 0, .int .i64 0] 26)))
 have hol := Ch.read_ok t
 have HU := hid (show Ch.cStart t = if (Ch.read t).1 != 0 then (Ch.as0, ⟨#[]⟩, (Ch.read t).1)
  else if (Ch.mstart (Ch.read t).2.2).2.2 != 0 then (Ch.as0, ⟨#[]⟩, (Ch.mstart (Ch.read t).2.2).2.2)
  else (Ch.asOf (Ch.read t).2.2.sts (Ch.mstart (Ch.read t).2.2).1, (Ch.mstart (Ch.read t).2.2).2.1, 0) from rfl)
 go_enter Tryz.func20, Tryz.ntmps20
 go_wp2_with fail
 refine Calls.mono (Hid.out E0) ?_
 rintro x w2 ⟨sv, tv, bv, lt, lb, rfl, F2, B2⟩
 have K2 := kpOfBelow B2
 have hr2 := K2.at_ hr1 (fun x => x)
 have KA := K1.trans K2
 clear E0 hr1 K1 K2 B2
 generalize hrd : Ch.read t = rd at *
 obtain ⟨re, rf, ol⟩ := rd
 clear hrd
 simp only at hol F2 HU
 have oOne := olOne (e := re) (f := rf) (own_one F2.sts) (own_one F2.trs) (own_one F2.bls)
 have hnew := heap_alloc_new w2 (.cells #[.int .i64 0, .int .i64 0, .slice none 0 0, .slice none 0 0, .slice none 0 0] 87)
 have hrow := setRow_heap (w2.alloc (.cells #[.int .i64 0, .int .i64 0, .slice none 0 0, .slice none 0 0, .slice none 0 0] 87)) w2.heap.size _ (olA re rf sv tv bv) 87 (0, 0) hnew
 have K3 : Kp (fun _ => False) w2 ((w2.alloc (.cells #[.int .i64 0, .int .i64 0, .slice none 0 0, .slice none 0 0, .slice none 0 0] 87)).setRow w2.heap.size (olA re rf sv tv bv)) := ((Kp.refl _ _).alloc _).setRow (fun x => by omega) _
 have hp3 := Pl.ofRow hrow (F2.keep0 K3)
 have hr3 := K3.at_ hr2 (fun x => x)
 have KB := KA.trans K3
 have HX := hid (And.intro hp3 (And.intro hr3 (And.intro KB hrow)))
 clear hr2 KA K3 hp3 hr3 KB hrow F2
 go_upto_region 2 with (refine wpList_store_row rfl 87 (.tmp 5) (.tmp 10) rfl w2.heap.size (olA re rf sv tv bv) rfl rfl 87 #[.int .i64 0, .int .i64 0, .slice none 0 0, .slice none 0 0, .slice none 0 0] hnew Tryz.sizeOl rfl oOne ?_)
 generalize (w2.alloc (.cells #[.int .i64 0, .int .i64 0, .slice none 0 0, .slice none 0 0, .slice none 0 0] 87)).setRow w2.heap.size (olA re rf sv tv bv) = w3 at *
 obtain ⟨hp3, hr3, KB, hrow⟩ := HX.out
 have z0 : w3.cell? ⟨w2.heap.size, 0, none⟩ = some (.int .i64 re) := by rw [World.cell?, hrow]; rfl
 clear hnew oOne hp3 hr3 KB hrow
 generalize w2.heap.size = ob at *
 cases q1 : re != 0 with
 | true =>
   have HF := hid (HU.out.trans (show _ = (Ch.as0, (⟨#[]⟩ : ByteArray), re) by rw [q1]; rfl))
   go_upto_region 3 with (fail)
   obtain ⟨hp3, hr3, KB, hrow⟩ := HX.out
   have r0 : w3.cell? ⟨w.heap.size, 0, none⟩ = some (.string ⟨#[]⟩) := by rw [World.cell?, hr3]; rfl
   have r1 : w3.cell? ⟨w.heap.size, 1, none⟩ = some (.string ⟨#[]⟩) := by rw [World.cell?, hr3]; rfl
   have r2 : w3.cell? ⟨w.heap.size, 2, none⟩ = some (.string ⟨#[]⟩) := by rw [World.cell?, hr3]; rfl
   have r3 : w3.cell? ⟨w.heap.size, 3, none⟩ = some (.int .i64 0) := by rw [World.cell?, hr3]; rfl
   have r4 : w3.cell? ⟨w.heap.size, 4, none⟩ = some (.int .i64 0) := by rw [World.cell?, hr3]; rfl
   have r5 : w3.cell? ⟨w.heap.size, 5, none⟩ = some (.int .i64 0) := by rw [World.cell?, hr3]; rfl
   have hS0 : w3.drew.heap[ob]? = some (.cells (olA re rf sv tv bv) 87 (0, 0)) := hrow
   have hne : ob ≠ w.heap.size := by intro e; rw [e, hr3] at hrow; simp at hrow
   have hS1 : (w3.drew.setRow w.heap.size #[.string ⟨#[]⟩, .string ⟨#[]⟩, .string ⟨#[]⟩, .int .i64 0, .int .i64 0, .int .i64 0]).heap[ob]? = some (.cells (olA re rf sv tv bv) 87 (0, 0)) := by rw [setRow_other _ _ _ _ hne]; exact hrow
   have KF : Kp (fun _ => False) w (w3.drew.setRow w.heap.size #[.string ⟨#[]⟩, .string ⟨#[]⟩, .string ⟨#[]⟩, .int .i64 0, .int .i64 0, .int .i64 0]) := (KB.drewN 1).setRow (fun x => by omega) _
   refine region_begin (fun w' => w'.heap[ob]? = some (.cells (olA re rf sv tv bv) 87 (0, 0))) (by kernel_rfl) ?_
   refine take_op 0 14 (.agg #[.string ⟨#[]⟩, .string ⟨#[]⟩, .string ⟨#[]⟩, .int .i64 0, .int .i64 0, .int .i64 0]) rfl (by kernel_rfl) (by kernel_rfl) (by kernel_rfl) rfl rfl (fun w' _ => exec_build 26 #[] rfl #[.string ⟨#[]⟩, .string ⟨#[]⟩, .string ⟨#[]⟩, .int .i64 0, .int .i64 0, .int .i64 0] [] rfl (by kernel_rfl)) hS0 ?_
   refine take_op 1 15 (.pointer (some ⟨ob, 0, none⟩)) rfl (by kernel_rfl) (by kernel_rfl) (by kernel_rfl) rfl rfl (fun w' _ => by simp [execOp, Act.eval, Act.put, go_sem]) hS0 ?_
   refine take_op 2 16 (.int .i64 re) rfl (by kernel_rfl) (by kernel_rfl) (by kernel_rfl) rfl rfl (fun w' hS => by have c : w'.cell? ⟨ob, 0, none⟩ = some (.int .i64 re) := (by rw [World.cell?, hS]; rfl)
                                                                                                                   simp [execOp, Act.eval, Act.put, go_sem, c]) hS0 ?_
   refine do_store 3 (by kernel_rfl) rfl rfl 26 (.tmp 2) (.tmp 14) rfl rfl w.heap.size #[.string ⟨#[]⟩, .string ⟨#[]⟩, .string ⟨#[]⟩, .int .i64 0, .int .i64 0, .int .i64 0] (by simp [Act.eval, Act.put]) (by simp [Act.eval, Act.put]) 26 #[.string ⟨#[]⟩, .string ⟨#[]⟩, .string ⟨#[]⟩, .int .i64 0, .int .i64 0, .int .i64 0] (by exact hr3) Tryz.sizeAs rfl (asOne Ch.as0) hS1 ?_
   refine take_op 4 3 (.string ⟨#[]⟩) rfl (by kernel_rfl) (by kernel_rfl) (by kernel_rfl) rfl rfl (fun w' _ => by rfl) hS1 ?_
   refine take_op 5 4 (.int .i64 re) rfl (by kernel_rfl) (by kernel_rfl) (by kernel_rfl) rfl rfl (fun w' _ => by simp [execOp, Act.eval, Act.put, go_sem]) hS1 ?_
   refine wpAnyH_done (by kernel_rfl) (NoPanic.normal ?_) _
   simp only [Act.put, List.setIfInBounds_toArray, List.set_cons_succ, List.set_cons_zero]
   go_wp2
   refine bodyPost_ret (results_cell_tmp2 rfl _ _ w.heap.size 26 #[.string ⟨#[]⟩, .string ⟨#[]⟩, .string ⟨#[]⟩, .int .i64 0, .int .i64 0, .int .i64 0] (0, 0) ds rfl (setRow_heap w3.drew _ _ _ _ _ (by exact hr3)) hds hda Tryz.sizeAs) rfl ?_
   rw [HF.out]
   exact ⟨rfl, KF⟩
 | false =>
   obtain ⟨hp3, hr3, KB, hrow⟩ := HX.out
   have E1 := hid (mstart_any w3 ob 0 ol hp3 hol)
   have hmok := Ch.mstart_ok ol
   have HV := hid (HU.out.trans (show _ = if (Ch.mstart ol).2.2 != 0 then (Ch.as0, (⟨#[]⟩ : ByteArray), (Ch.mstart ol).2.2) else (Ch.asOf ol.sts (Ch.mstart ol).1, (Ch.mstart ol).2.1, 0) by rw [q1]; rfl))
   clear hp3 hr3 KB hrow HU
   generalize hms : Ch.mstart ol = ms at *
   obtain ⟨fs, ft, fe⟩ := ms
   clear hms
   simp only at hmok HV E1
   have fI := sdInfo hmok.1
   have fS := sdSize hmok.1
   have fO := sdOne fs
   go_wp2_with fail
   refine Calls.mono (Hid.out E1) ?_
   rintro x w4 ⟨rfl, K4⟩
   obtain ⟨hp3, hr3, KB, hrow⟩ := HX.out
   have hp4 := hp3.keep K4 (fun _ _ _ _ _ x => x)
   have hr4 := K4.at_ hr3 (fun x => x)
   have KC := KB.trans K4
   have hnew := heap_alloc_new w4 (.cells yS36 95)
   have hrow5 := setRow_heap (w4.alloc (.cells yS36 95)) w4.heap.size yS36 (sdAll fs).toArray 95 (0, 0) hnew
   have K5 : Kp (fun _ => False) w4 ((w4.alloc (.cells yS36 95)).setRow w4.heap.size (sdAll fs).toArray) := ((Kp.refl _ _).alloc _).setRow (fun x => by omega) _
   have h5 := SdB.ofRowS hrow5
   have hp5 := hp4.keep K5 (fun _ _ _ _ _ x => x)
   have hr5 := K5.at_ hr4 (fun x => x)
   have KD := KC.trans K5
   have hlt : w.heap.size < w4.heap.size := lt_of_block hr4
   have HY := hid (And.intro h5 (And.intro hp5 (And.intro hr5 KD)))
   clear hp3 hr3 KB hrow hp4 hr4 KC K4 K5 h5 hp5 hr5 KD HX E1 hrow5
   generalize (sdAll fs).toArray = FA at *
   go_upto_region 5 with (refine wpList_store_row rfl 95 (.tmp 6) (.tmp 19) rfl w4.heap.size FA rfl rfl 95 yS36 hnew fI (by rw [fS]; rfl) fO ?_)
   generalize (w4.alloc (.cells yS36 95)).setRow w4.heap.size FA = w5 at *
   generalize w4.heap.size = fb at *
   clear fI fS fO hnew z0
   cases q2 : fe != 0 with
   | true =>
     obtain ⟨h5, hp5, hr5, KD⟩ := HY.out
     have HF := hid (HV.out.trans (show _ = (Ch.as0, (⟨#[]⟩ : ByteArray), fe) by rw [q2]; rfl))
     have KF : Kp (fun _ => False) w (w5.setRow w.heap.size #[.string ⟨#[]⟩, .string ⟨#[]⟩, .string ⟨#[]⟩, .int .i64 0, .int .i64 0, .int .i64 0]) := KD.setRow (fun x => by omega) _
     clear h5 hp5 KD HY HV
     go_wp2_with (refine wpList_store_row rfl 26 (.tmp 2) (.tmp 24) rfl w.heap.size #[.string ⟨#[]⟩, .string ⟨#[]⟩, .string ⟨#[]⟩, .int .i64 0, .int .i64 0, .int .i64 0] rfl rfl 26 #[.string ⟨#[]⟩, .string ⟨#[]⟩, .string ⟨#[]⟩, .int .i64 0, .int .i64 0, .int .i64 0] hr5 Tryz.sizeAs rfl (asOne Ch.as0) ?_)
     refine bodyPost_ret (results_cell_tmp2 rfl _ _ w.heap.size 26 #[.string ⟨#[]⟩, .string ⟨#[]⟩, .string ⟨#[]⟩, .int .i64 0, .int .i64 0, .int .i64 0] (0, 0) ds rfl (setRow_heap _ _ _ _ _ _ hr5) hds hda Tryz.sizeAs) rfl ?_
     rw [HF.out]
     exact ⟨rfl, KF⟩
   | false =>
     obtain ⟨h5, hp5, hr5, KD⟩ := HY.out
     have E2 := hid (state_out_any ob 0 w5 ol.sts fb 0 [] fs [] 95 hp5.str (by have := hol.sts; omega) h5 hmok.1 rfl)
     have HF := hid (HV.out.trans (show _ = (Ch.asOf ol.sts fs, ft, (0 : Int)) by rw [q2]; rfl))
     clear h5 hp5 KD hr5 HV
     go_wp2_with fail
     refine Calls.mono (Hid.out E2) ?_
     rintro x w6 ⟨rfl, K6⟩
     obtain ⟨h5, hp5, hr5, KD⟩ := HY.out
     have hr6 := K6.at_ hr5 (fun x => x)
     have KF : Kp (fun _ => False) w (w6.setRow w.heap.size (asA (Ch.asOf ol.sts fs))) := (KD.trans K6).setRow (fun x => by omega) _
     clear h5 hp5 KD hr5 HY E2
     go_wp2_with (refine wpList_store_row rfl 26 (.tmp 2) (.tmp 26) rfl w.heap.size (asA (Ch.asOf ol.sts fs)) rfl rfl 26 #[.string ⟨#[]⟩, .string ⟨#[]⟩, .string ⟨#[]⟩, .int .i64 0, .int .i64 0, .int .i64 0] hr6 Tryz.sizeAs rfl (asOne _) ?_)
     refine bodyPost_ret (results_cell_tmp2 rfl _ _ w.heap.size 26 (asA (Ch.asOf ol.sts fs)) (0, 0) ds rfl (setRow_heap _ _ _ _ _ _ hr6) hds hda Tryz.sizeAs) rfl ?_
     rw [HF.out]
     exact ⟨rfl, KF⟩
end
end Go.Proofs.YtnlbchmfcebeeaaGreat
