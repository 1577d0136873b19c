/- Walks: which states are active, read from their names. Walks: the memory of histories. -/
import Derived.Test.YtnlbchmfcebeeaaGreatTB1
namespace Go.Proofs.YtnlbchmfcebeeaaGreat
open Go.RowKit
namespace Ch
def noSet : List Bool := List.replicate 16 false
def tkF (ss : List St) (t : ByteArray) : Nat → Nat → Int → List Bool → Option (List Bool)
 | 0, _, _, l => some l
 | f + 1, k, last, l => if place ss (peek t k) ≤ last then none else tkF ss t f (k + 1) (place ss (peek t k)) (putB l (place ss (peek t k)) true)
def allFit (ss : List St) (l : List Bool) (k : Nat) : Bool := (List.range k).all fun j => fits ss l (j : Int)
def takeAct (ss : List St) (t : ByteArray) : Option (List Bool) :=
 match tkF ss t t.size 0 (-1) noSet with
 | none => none
 | some l => if allFit ss l ss.length then some l else none
/-- What takeActive answers: the set and whether it is one. -/
def takeActV (ss : List St) (t : ByteArray) : List Bool × Bool := match takeAct ss t with | some l => (l, true) | none => (noSet, false)
end Ch
section
variable (ob oo : Nat) (w : World) (ss : List Ch.St)
end
end Go.Proofs.YtnlbchmfcebeeaaGreat
namespace Go.Proofs.YtnlbchmfcebeeaaGreat
open Go.RowKit
namespace Ch
def noPast : List Int := List.replicate 16 0
def hist (ss : List St) (j : Nat) : Bool := match ss[j]? with | some s => s.kind == 5 | none => false
def blankK (ss : List St) (k : Nat) : List Int := (List.range 16).map fun j => if decide (j < k) && hist ss j then 45 else 0
def blankP (ss : List St) : List Int := blankK ss 16
theorem blankK_len (ss : List St) (k : Nat) : (blankK ss k).length = 16 := by simp [blankK]
theorem blankK_yes {ss : List St} {k : Nat} (hk : k < 16) (h : hist ss k = true) : blankK ss (k + 1) = (blankK ss k).set k 45 := by
 apply List.ext_getElem?
 intro i
 by_cases hi : i < 16
 ·by_cases e : i = k
  ·subst e; simp [blankK, hi, h]
  ·rw [List.getElem?_set_ne (by omega)]
   simp [blankK, hi, show (i < k + 1) = (i < k) by simp; omega]
 ·rw [List.getElem?_eq_none (by rw [blankK_len]; omega), List.getElem?_eq_none (by rw [List.length_set, blankK_len]; omega)]
theorem blankK_no {ss : List St} {k : Nat} (h : hist ss k = false) : blankK ss (k + 1) = blankK ss k := by
 unfold blankK
 apply List.map_congr_left
 intro j _
 by_cases e : j = k
 ·subst e; simp [h]
 ·simp [show (j < k + 1) = (j < k) by simp; omega]
theorem blankK_end {ss : List St} {k : Nat} (h : ss.length ≤ k ∨ 16 ≤ k) : blankK ss k = blankP ss := by
 unfold blankP blankK
 apply List.map_congr_left
 intro j hj
 simp at hj
 by_cases e : j < k
 ·simp [e, hj]
 ·have : hist ss j = false := by
   unfold hist; rw [List.getElem?_eq_none (by omega)]
  simp [this]
theorem blankP_len (ss : List St) : (blankP ss).length = 16 := blankK_len _ _
end Ch
/-- A block that is a memory. -/
def MeB (w : World) (b : Nat) (l : List Int) : Prop := w.heap[b]? = some (.cells (pastCells l).toArray 93 (0, 0))
section
variable {w : World} {b : Nat} {l : List Int}
theorem MeB.cell (h : MeB w b l) (hl : l.length = 16) {k : Nat} (hk : k < 16) : w.cell? ⟨b, k, none⟩ = some (.int .u8 (l.getD k 0)) := by
 unfold MeB at h; simp [World.cell?, h, pastCells, show k < l.length by omega]
theorem MeB.free (h : MeB w b l) (i : Nat) : w.frozen? ⟨b, i, none⟩ = false := by unfold MeB at h; simp [World.frozen?, h]
theorem MeB.set (h : MeB w b l) (k : Nat) (v : Int) : MeB (w.setCell ⟨b, k, none⟩ (.int .u8 v)) b (l.set k v) := by
 unfold MeB at *
 rw [heap_set_same _ h]
 simp [pastCells, List.map_set]
end
theorem pastOne (l : List Int) : (pastCells l).toArray.all (fun x => x.oneCell') = true := by
 apply Array.all_eq_true_iff_forall_mem.2; intro x hx; simp only [pastCells, List.mem_toArray, List.mem_map] at hx; obtain ⟨a, _, rfl⟩ := hx; rfl
theorem pastSize {l : List Int} (hl : l.length = 16) : (pastCells l).toArray.size = 16 := by simp [pastCells, hl]
theorem Tryz.arrMem : Tryz.prog.underlying 93 = some (.array (Tryz.prog.arrayLen 93) (Tryz.prog.elem 93)) := by kernel_rfl
theorem Tryz.lenMem : Tryz.prog.arrayLen 93 = 16 := by kernel_rfl
theorem Tryz.elemMem : Tryz.prog.elem 93 = 5 := by kernel_rfl
theorem Tryz.sizeByte : (Tryz.prog.info? 5).map (·.size) = some 1 := by kernel_rfl
/-- A place in a memory. -/
theorem run_ixMem (w : World) (b o k : Nat) (hk : k < 16) : (Instr.indexAt 93 (.pointer (some ⟨b, o, none⟩)) (.int .i64 (k : Int))).run Tryz.prog w = .ok (.pointer (some ⟨b, o + k, none⟩)) w := by
 rw [run_indexAt_array (h := Tryz.arrMem), Tryz.lenMem, Tryz.elemMem, if_pos (by omega)]
 have hs : (sizeOf 5).run Tryz.prog w = .ok 1 w := by
  have h := Tryz.sizeByte
  cases hq : Tryz.prog.info? 5 with
  | none => simp [hq] at h
  | some i => simp [hq] at h; simp [sizeOf, typeInfo, hq, h]
 rw [hs]
 simp only [Result.andThen_ok, Int.toNat_natCast, Nat.mul_one, Addr.add]
 split
 ·rename_i h; simp [h]
 ·rfl
section
variable (ob oo : Nat) (w : World) (ss : List Ch.St)
set_option maxHeartbeats 3200000 in
set_option maxRecDepth 100000 in
theorem blankPast_any (hS : StR w ob oo ss) :
 Calls Tryz.prog 115 #[.pointer (some ⟨ob, oo, none⟩)] w fun x w' => x = .returned (.agg (pastCells (Ch.blankP ss)).toArray) ∧ Kp (fun _ => False) w w' := by
 obtain ⟨ds, hds, hda⟩ := Tryz.undMem
 have hS2 : StR ((w.alloc (.cells zU16 93)).alloc (.cells zU16 93)) ob oo ss := (hS.alloc _).alloc _
 have hr2 : ((w.alloc (.cells zU16 93)).alloc (.cells zU16 93)).heap[w.heap.size]? = some (.cells zU16 93) := by
  rw [Below.heap_alloc _ _ _ (by simp)]; exact heap_alloc_new _ _
 have ha2 : MeB ((w.alloc (.cells zU16 93)).alloc (.cells zU16 93)) (w.heap.size + 1) (Ch.blankK ss 0) := heap_alloc2_new w _ _
 have K2 : Kp (fun _ => False) w ((w.alloc (.cells zU16 93)).alloc (.cells zU16 93)) := ((Kp.refl _ _).alloc _).alloc _
 have hob : ob < w.heap.size := by obtain ⟨sv, base, hc, _⟩ := hS; exact World.block_lt_of_cell? w _ hc
 clear hS
 go_enter Tryz.func115, Tryz.ntmps115
 go_wp2_with fail
 generalize ((w.alloc (.cells zU16 93)).alloc (.cells zU16 93)) = w2 at hS2 hr2 ha2 K2 ⊢
 go_loopw [4] (fun i wr => ∃ k : Nat, i = .int .i64 k ∧ k ≤ 16 ∧ k ≤ ss.length ∧ MeB wr (w.heap.size + 1) (Ch.blankK ss k) ∧ Kp (fun k => k = w.heap.size + 1) w2 wr) (fun i _ => 16 - (intOf i).toNat)
 case atStart => exact ⟨0, rfl, Nat.zero_le _, Nat.zero_le _, ha2, Kp.refl _ _⟩
 case round =>
  obtain ⟨k, rfl, hk16, hkn, h1, K1⟩ := hrel
  have hSr : StR wr ob oo ss := hS2.keep K1 (fun x => by omega) (fun i cur hc x => by subst x; unfold MeB at ha2; rw [ha2] at hc; simp at hc)
  have hr : wr.heap[w.heap.size]? = some (.cells zU16 93) := K1.at_ hr2 (fun x => by omega)
  have KX : Kp (fun _ => False) w wr := K2.trans' K1 (fun i hi x => by omega)
  by_cases hgo : k < ss.length ∧ k < 16
  ·obtain ⟨hlt, h16⟩ := hgo
   obtain ⟨s, hs⟩ : ∃ s, ss[k]? = some s := ⟨_, List.getElem?_eq_getElem hlt⟩
   obtain ⟨g, cap, c2, a0, a1, a2, a3⟩ := hSr.at_ hs
   have hlt' : (k : Int) < (ss.length : Int) := by omega
   have h16' : (k : Int) < 16 := by omega
   have cw := h1.cell (Ch.blankK_len _ _) h16
   have fw := h1.free k
   have hix := fun w' => run_ixMem w' (w.heap.size + 1) 0 k h16
   simp only [Nat.zero_add] at hix
   have HH := hid (And.intro h1 K1)
   cases q : s.kind == 5 with
   | true =>
     have HS := hid (Ch.blankK_yes h16 (show Ch.hist ss k = true by simp [Ch.hist, hs, q]))
     clear h1 K1 KX hr hSr ha2 hS2 hs
     go_wp2
     go_roundw
     case rel => exact ⟨k + 1, by go_num, by omega, by omega, by rw [HS.out]; exact HH.out.1.set k 45, HH.out.2.setCell (by intro _; rfl) _⟩
     case measure => simp [intOf]; omega
   | false =>
     have HS := hid (Ch.blankK_no (show Ch.hist ss k = false by simp [Ch.hist, hs, q]))
     clear h1 K1 KX hr hSr ha2 hS2 hs
     go_wp2
     go_roundw
     case rel => exact ⟨k + 1, by go_num, by omega, by omega, by rw [HS.out]; exact HH.out.1, HH.out.2⟩
     case measure => simp [intOf]; omega
  ·have HE := hid (Ch.blankK_end (ss := ss) (k := k) (by omega))
   have hrow : wr.heap[w.heap.size + 1]? = some (.cells (pastCells (Ch.blankP ss)).toArray 93 (0, 0)) := by have := h1; rw [HE.out] at this; exact this
   have hszI : (Tryz.prog.info? 93).map (·.size) = some ((pastCells (Ch.blankP ss)).toArray).size := by rw [pastSize (Ch.blankP_len ss)]; exact Tryz.sizeMem
   have hsz := pastSize (Ch.blankP_len ss)
   have hone := pastOne (Ch.blankP ss)
   have KZ : Kp (fun _ => False) w (wr.setRow w.heap.size (pastCells (Ch.blankP ss)).toArray) := KX.setRow (fun x => by omega) _
   obtain ⟨ao, cap, c2⟩ := hSr.len
   clear h1 K1 KX hSr ha2 hS2
   generalize hL : (pastCells (Ch.blankP ss)).toArray = L at *
   have HL := hid hL
   clear hL
   by_cases hlt : k < ss.length
   ·have hlt' : (k : Int) < (ss.length : Int) := by omega
    have h16' : decide ((k : Int) < 16) = false := by simp; omega
    go_wp2_with (first | refine wpList_load_row rfl 93 (.tmp 3) rfl (w.heap.size + 1) rfl 93 L (0, 0) ds hrow hds (by cases ds <;> simp_all [isAggD]) hszI ?_ | refine wpList_store_row rfl 93 (.tmp 2) (.tmp 29) rfl w.heap.size L rfl rfl 93 zU16 hr hszI hsz.symm hone ?_)
    refine bodyPost_ret (results_cell_row rfl _ _ w.heap.size 93 L (0, 0) ds rfl (setRow_heap _ _ _ _ _ _ hr) hds (by cases ds <;> simp_all [isAggD]) hszI) rfl ?_
    rw [HL.out]
    exact ⟨rfl, KZ⟩
   ·have hlt' : decide ((k : Int) < (ss.length : Int)) = false := by simp; omega
    go_wp2_with (first | refine wpList_load_row rfl 93 (.tmp 3) rfl (w.heap.size + 1) rfl 93 L (0, 0) ds hrow hds (by cases ds <;> simp_all [isAggD]) hszI ?_ | refine wpList_store_row rfl 93 (.tmp 2) (.tmp 29) rfl w.heap.size L rfl rfl 93 zU16 hr hszI hsz.symm hone ?_)
    refine bodyPost_ret (results_cell_row rfl _ _ w.heap.size 93 L (0, 0) ds rfl (setRow_heap _ _ _ _ _ _ hr) hds (by cases ds <;> simp_all [isAggD]) hszI) rfl ?_
    rw [HL.out]
    exact ⟨rfl, KZ⟩
end
end Go.Proofs.YtnlbchmfcebeeaaGreat
