/- Walks: the reference's Check; a step that checks; the looks at the end of a script that has made nothing. -/
import Derived.Test.YtnlbchmfcebeeaaGreatTY1
import Derived.Test.YtnlbchmfcebeeaaGreatTXd
import Derived.Test.YtnlbchmfcebeeaaGreatTH1
namespace Go.Proofs.YtnlbchmfcebeeaaGreat
open Go.RowKit

/-- What a script has made: nothing yet. -/
def WlZ (wb : Nat) (W : World) : Prop := W.heap[wb]? = some (.cells #[.slice none 0 0, .slice none 0 0, .slice none 0 0, .slice none 0 0, .slice none 0 0, .int .i64 0] 77 (0, 0))

section
variable (w : World)

set_option maxHeartbeats 400000 in
theorem num_any (e : Int) :
    Calls Tryz.prog 93 #[.int .i64 e] w fun x w' => x = .returned (.int .i64 e) ∧ w' = w := by
  go_enter Tryz.func93, Tryz.ntmps93
  go_wp2
  go_ret
  exact ⟨rfl, rfl⟩

set_option maxHeartbeats 400000 in
theorem rCheck_any (t : ByteArray) :
    Calls Tryz.prog 92 #[.string t] w fun x w' => x = .returned (.tuple #[.int .i64 (Ch.read t).1, .int .i64 (Ch.read t).2.1]) ∧ Kp (fun _ => False) w w' := by
  have E := hid (rRead_any w t)
  generalize hr : Ch.read t = rd at *
  go_enter Tryz.func92, Tryz.ntmps92
  go_wp2_with fail
  refine Calls.mono (Hid.out E) ?_
  rintro x w2 ⟨p, rfl, hq⟩
  have K := hid hq.2.2
  clear E hq hr
  go_wp2
  go_ret2
  exact ⟨rfl, K.out⟩

end

section
variable (w : World) (wb : Nat)

set_option maxHeartbeats 1600000 in
set_option maxRecDepth 100000 in
theorem text_check_any (o : OpV) (hk : o.kind = 1) :
    Calls Tryz.prog 64 #[.pointer (some ⟨wb, 0, none⟩), .agg (opA o)] w fun x w' => x = .returned (.bool true) ∧ Kp (fun _ => False) w w' := by
  have hb1 := heap_alloc_new w (.cells (opA o) 81)
  have K1 : Kp (fun _ => False) w (w.alloc (.cells (opA o) 81)) := (Kp.refl _ _).alloc _
  go_enter Tryz.func64, Tryz.ntmps64
  go_upto_region 1 with (fail)
  generalize w.alloc (.cells (opA o) 81) = w1 at *
  generalize w.heap.size = ob at *
  have c0 : w1.cell? ⟨ob, 0, none⟩ = some (.int .i64 1) := by rw [World.cell?, hb1, ← hk]; rfl
  have c1 : w1.cell? ⟨ob, 1, none⟩ = some (.string o.t) := by rw [World.cell?, hb1]; rfl
  have E1 := hid (cCheck_any w1 o.t)
  go_wp2_with fail
  refine Calls.mono (Hid.out E1) ?_
  rintro x w2 ⟨rfl, K2⟩
  have c2 := K2.cellF c1
  have E2 := hid (rCheck_any w2 o.t)
  go_wp2_with fail
  refine Calls.mono (Hid.out E2) ?_
  rintro x w3 ⟨rfl, K3⟩
  have E3 := hid (num_any w3 (Ch.read o.t).1)
  go_wp2_with fail
  refine Calls.mono (Hid.out E3) ?_
  rintro x w4 ⟨rfl, e4⟩
  rw [e4]
  clear e4 w4
  go_wp2_with fail
  refine Calls.mono (Hid.out E3) ?_
  rintro x w4 ⟨rfl, e4⟩
  rw [e4]
  clear e4 w4
  go_wp2
  go_ret
  exact ⟨rfl, (K1.trans K2).trans K3⟩

set_option maxHeartbeats 1600000 in
set_option maxRecDepth 100000 in
theorem step_check_any (o : OpV) (hk : o.kind = 1) :
    Calls Tryz.prog 39 #[.pointer (some ⟨wb, 0, none⟩), .agg (opA o)] w fun x w' => x = .returned (.bool true) ∧ Kp (fun _ => False) w w' := by
  obtain ⟨d, hd, hda⟩ := Tryz.undOp
  have hb1 := heap_alloc_new w (.cells (opA o) 81)
  have K1 : Kp (fun _ => False) w (w.alloc (.cells (opA o) 81)) := (Kp.refl _ _).alloc _
  have E := hid (text_check_any (w.alloc (.cells (opA o) 81)) wb o hk)
  have hk0 : (opA o)[0]? = some (.int .i64 1) := by rw [← hk]; rfl
  have hsz := opA_size o
  generalize opA o = OA at *
  have aI : (Tryz.prog.info? 81).map (·.size) = some OA.size := by rw [hsz]; exact Tryz.sizeOp
  go_enter Tryz.func39, Tryz.ntmps39
  go_upto_region 1 with (fail)
  generalize w.alloc (.cells OA 81) = w1 at *
  generalize w.heap.size = ob at *
  have c0 : w1.cell? ⟨ob, 0, none⟩ = some (.int .i64 1) := by rw [World.cell?, hb1]; exact hk0
  go_wp2_with (refine wpList_load_row rfl 81 (.tmp 3) rfl ob rfl 81 OA (0, 0) d hb1 hd (by cases d <;> first | rfl | exact absurd hda (by simp [isAggD])) aI ?_)
  refine Calls.mono (Hid.out E) ?_
  rintro x w2 ⟨rfl, K2⟩
  go_wp2
  go_ret
  exact ⟨rfl, K1.trans K2⟩

set_option maxHeartbeats 400000 in
theorem ends_none_any (h : WlZ wb w) :
    Calls Tryz.prog 40 #[.pointer (some ⟨wb, 0, none⟩)] w fun x w' => x = .returned (.bool true) ∧ w' = w := by
  have c0 : w.cell? ⟨wb, 0, none⟩ = some (.slice none 0 0) := by rw [World.cell?, h]; rfl
  go_enter Tryz.func40, Tryz.ntmps40
  go_wp2
  go_loop [3] (fun i => i = .int .i64 0) (fun _ => 0)
  case atStart => rfl
  case round =>
    subst hrel
    go_wp2
    go_ret
    exact ⟨rfl, rfl⟩

set_option maxHeartbeats 400000 in
theorem looks_none_any (h : WlZ wb w) :
    Calls Tryz.prog 41 #[.pointer (some ⟨wb, 0, none⟩)] w fun x w' => x = .returned (.bool true) ∧ w' = w := by
  have c1 : w.cell? ⟨wb, 1, none⟩ = some (.slice none 0 0) := by rw [World.cell?, h]; rfl
  have c2 : w.cell? ⟨wb, 2, none⟩ = some (.slice none 0 0) := by rw [World.cell?, h]; rfl
  go_enter Tryz.func41, Tryz.ntmps41
  go_wp2
  go_loop [3] (fun i => i = .int .i64 0) (fun _ => 0)
  case atStart => rfl
  case round =>
    subst hrel
    go_wp2
    go_loop [5] (fun i => i = .int .i64 0) (fun _ => 0)
    case atStart => rfl
    case round =>
      subst hrel
      go_wp2
      go_ret
      exact ⟨rfl, rfl⟩

set_option maxHeartbeats 400000 in
theorem checks_any (v : Value) (ops : List OpV) (hs : ScR w v ops) (hl : ops.length ≤ maxLen) :
    Calls Tryz.prog 3 #[v] w fun x w' => x = .returned (.bool true) ∧ Kp (fun _ => False) w w' := by
  have E := hid (plays_any w v ops 1 1 (WlZ w.heap.size) hs hl (heap_alloc_new w _)
    (fun W o _ h1 h2 hW _ => (step_check_any W w.heap.size o (by omega)).mono (fun x W' ⟨hx, hk⟩ => ⟨hx, hk.at_ hW (fun x => x), hk.mono (fun _ _ x => x.elim)⟩))
    (fun W hW _ => (ends_none_any W w.heap.size hW).mono (fun x W' ⟨hx, hk⟩ => by subst hk; exact ⟨hx, hW, Kp.refl _ _⟩))
    (fun W hW _ => (looks_none_any W w.heap.size hW).mono (fun x W' ⟨hx, hk⟩ => by subst hk; exact ⟨hx, Kp.refl _ _⟩)))
  go_enter Tryz.func3, Tryz.ntmps3
  go_wp2_with fail
  refine Calls.mono (Hid.out E) ?_
  rintro x w2 ⟨rfl, K⟩
  go_wp2
  go_ret
  exact ⟨rfl, K⟩

end

end Go.Proofs.YtnlbchmfcebeeaaGreat
