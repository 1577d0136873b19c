/- Walks: the memory of histories, read from a text. Walks: what was sent. -/
import Derived.Test.YtnlbchmfcebeeaaGreatTB2
namespace Go.Proofs.YtnlbchmfcebeeaaGreat
open Go.RowKit
namespace Ch
def tpF (ss : List St) (t : ByteArray) : Nat → Nat → Nat → List Int → Option (List Int × Nat)
 | 0, _, n, l => some (l, n)
 | f + 1, k, n, l =>
   if hist ss k then
    if decide (t.size ≤ n) || !isPast ss (k : Int) (peek t n) then none else tpF ss t f (k + 1) (n + 1) (l.set k (peek t n))
   else tpF ss t f (k + 1) n l
def takePastV (ss : List St) (t : ByteArray) : List Int × Bool :=
 match tpF ss t (min ss.length 16) 0 0 (blankP ss) with
 | some (l, n) => if (n : Int) != (t.size : Int) then (noPast, false) else (l, true)
 | none => (noPast, false)
end Ch
section
variable (ob oo : Nat) (w : World) (ss : List Ch.St)
end
end Go.Proofs.YtnlbchmfcebeeaaGreat
namespace Go.Proofs.YtnlbchmfcebeeaaGreat
open Go.RowKit
namespace Ch
def send (s : Sd) (ev d : Int) : Bool × Sd := if 16 ≤ s.tm.size then (false, s) else (true, { s with tm := s.tm ++ strOfNums [ev, 48 + d] })
end Ch
section
variable (w : World) (b o : Nat) (pre : List Value) (s : Ch.Sd) (post : List Value) (T : TypeId)
set_option maxHeartbeats 1600000 in
theorem send_any (ev d : Int) (h : SdB w b pre s post T) (hw : s.Wf) (ho : pre.length = o) (hd : 0 ≤ d) (hd' : d ≤ 9) :
 Calls Tryz.prog 223 #[.pointer (some ⟨b, o, none⟩), .int .u8 ev, .int .i64 d] w fun x w' => x = .returned (.bool (Ch.send s ev d).1) ∧ SdB w' b pre (Ch.send s ev d).2 post T ∧ Kp (fun k => k = b) w w' := by
 subst ho
 have ct := h.tm hw
 have hbl := h.lt
 have HH := hid h
 by_cases hb : 16 ≤ s.tm.size
 ·rw [show Ch.send s ev d = (false, s) by simp [Ch.send, hb]]
  have hb' : (16 : Int) ≤ (s.tm.size : Int) := by omega
  clear h
  go_enter Tryz.func223, Tryz.ntmps223
  go_wp2
  go_ret
  exact ⟨rfl, HH.out, Kp.refl _ _⟩
 ·rw [show Ch.send s ev d = (true, { s with tm := s.tm ++ strOfNums [ev, 48 + d] }) by simp [Ch.send, hb]]
  have hb' : ¬ (16 : Int) ≤ (s.tm.size : Int) := by omega
  have hcv := run_convert_bytes_arg (P := Tryz.prog) ((w.alloc (.cells #[.int .u8 ev, .int .u8 (48 + d)] 5)).drew) 47 5 Tryz.underlying47 Tryz.underlying5 w.heap.size 0 2 2 [ev, 48 + d] rfl (by
   intro i hi
   match i, hi with
   | 0, _ => simp
   | 1, _ => simp) 9 Tryz.underlying9
  have hadd := fun w' => run_string_add_sum (P := Tryz.prog) w' s.tm (strOfNums [ev, 48 + d]) (by rw [strOfNums_size]; simp; omega)
  have h2 : SdB ((w.alloc (.cells #[.int .u8 ev, .int .u8 (48 + d)] 5)).drew) b pre s post T := h.keep (S := fun _ => False) ((Kp.refl _ _).alloc _).drew (fun x => x)
  have ct2 := h2.tm hw
  have ct3 : ∀ o, (w.alloc o).cell? ⟨b, pre.length + 32, none⟩ = some (.string s.tm) := fun o => (h.keep (S := fun _ => False) ((Kp.refl _ _).alloc o) (fun x => x)).tm hw
  have ft3 : ∀ o, (w.alloc o).frozen? ⟨b, pre.length + 32, none⟩ = false := fun o => (h.keep (S := fun _ => False) ((Kp.refl _ _).alloc o) (fun x => x)).free _
  clear h h2 hb
  go_enter Tryz.func223, Tryz.ntmps223
  go_wp2
  go_region
  all_goals
   go_wp2
   go_ret
   exact ⟨rfl, (HH.out.setTm hw _).keep (S := fun _ => False) (((Kp.refl _ _).alloc _).drew) (fun x => x), (((Kp.refl _ _).setCell (by intro _; rfl) _).alloc _).drew⟩
end
end Go.Proofs.YtnlbchmfcebeeaaGreat
