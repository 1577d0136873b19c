/- Walks: a script of steps in memory; chartlaw's plays, by what its steps do. -/
import Derived.Test.YtnlbchmfcebeeaaGreatTF2
import Derived.Test.YtnlbchmfcebeeaaGreatTB1
namespace Go.Proofs.YtnlbchmfcebeeaaGreat
open Go.RowKit

/-- A step of a script. -/
structure OpV where
  kind : Int
  t : ByteArray
  e : ByteArray
  s : Ch.As
  n : Int
  at_ : Int
  rk : Int
  re : ByteArray
  ra : Int
def opL (o : OpV) : List Value := [.int .i64 o.kind, .string o.t, .string o.e, .string o.s.act, .string o.s.past, .string o.s.tm, .int .i64 o.s.x, .int .i64 o.s.y, .int .i64 o.s.z, .int .i64 o.n, .int .i64 o.at_, .int .i64 o.rk, .string o.re, .int .i64 o.ra]
def opA (o : OpV) : Array Value := (opL o).toArray
theorem opA_size (o : OpV) : (opA o).size = 14 := rfl
theorem opL_len (o : OpV) : (opL o).length = 14 := rfl
theorem Tryz.sizeOp : (Tryz.prog.info? 81).map (·.size) = some 14 := by kernel_rfl
theorem Tryz.undOp : ∃ d, Tryz.prog.underlying 81 = some d ∧ isAggD d = true := ⟨_, Tryz.underlying81, rfl⟩

/-- The script's row. -/
def ScR (w : World) (v : Value) (ops : List OpV) : Prop := ((∃ ao cap, v = .slice ao 0 cap) ∧ ops = []) ∨
  ∃ g off cap, v = .slice (some ⟨g, off, none⟩) ops.length cap ∧ ∀ (i : Nat) (o : OpV), ops[i]? = some o → ∀ (j : Nat) (u : Value), (opL o)[j]? = some u → w.cell? ⟨g, off + i * 14 + j, none⟩ = some u
theorem ScR.len {w : World} {v : Value} {ops : List OpV} (h : ScR w v ops) : ∃ ao cap, v = .slice ao ops.length cap := by
  rcases h with ⟨⟨ao, cap, rfl⟩, rfl⟩ | ⟨g, off, cap, rfl, _⟩
  · exact ⟨_, _, rfl⟩
  · exact ⟨_, _, rfl⟩
theorem ScR.at_ {w : World} {v : Value} {ops : List OpV} (h : ScR w v ops) {i : Nat} {o : OpV} (ho : ops[i]? = some o) : ∃ g off cap, v = .slice (some ⟨g, off, none⟩) ops.length cap ∧ ∀ (j : Nat) (u : Value), (opL o)[j]? = some u → w.cell? ⟨g, off + i * 14 + j, none⟩ = some u := by
  rcases h with ⟨_, rfl⟩ | ⟨g, off, cap, hv, hc⟩
  · simp at ho
  · exact ⟨g, off, cap, hv, hc i o ho⟩
/-- Only blocks from B on have turned. -/
def KB (B : Nat) (w w' : World) : Prop := Kp (fun i => B ≤ i) w w'
theorem ScR.keep {w w' : World} {v : Value} {ops : List OpV} (h : ScR w v ops) (k : KB w.heap.size w w') : ScR w' v ops := by
  rcases h with h | ⟨g, off, cap, hv, hc⟩
  · exact .inl h
  · refine .inr ⟨g, off, cap, hv, fun i o ho j u hu => ?_⟩
    have h1 := hc i o ho j u hu
    have hb : g < w.heap.size := World.block_lt_of_cell? w ⟨g, off + i * 14 + j, none⟩ h1
    rw [← h1]; exact World.cell?_of_block (k.block g hb (by omega))

section
variable (w : World)

set_option maxHeartbeats 1600000 in
set_option maxRecDepth 100000 in
/-- A script is played: every step that is played answers true, and so do the two looks at the end. -/
theorem plays_any (v : Value) (ops : List OpV) (lo hi : Int) (WI : World → Prop) (hs : ScR w v ops) (hl : ops.length ≤ maxLen)
    (h0 : WI (w.alloc (.cells #[.slice none 0 0, .slice none 0 0, .slice none 0 0, .slice none 0 0, .slice none 0 0, .int .i64 0] 77)))
    (hstep : ∀ (W : World) (o : OpV), o ∈ ops → lo ≤ o.kind → o.kind ≤ hi → WI W → KB w.heap.size w W → Calls Tryz.prog 39 #[.pointer (some ⟨w.heap.size, 0, none⟩), .agg (opA o)] W fun x W' => x = .returned (.bool true) ∧ WI W' ∧ KB w.heap.size W W')
    (hends : ∀ W : World, WI W → KB w.heap.size w W → Calls Tryz.prog 40 #[.pointer (some ⟨w.heap.size, 0, none⟩)] W fun x W' => x = .returned (.bool true) ∧ WI W' ∧ KB w.heap.size W W')
    (hlook : ∀ W : World, WI W → KB w.heap.size w W → Calls Tryz.prog 41 #[.pointer (some ⟨w.heap.size, 0, none⟩)] W fun x W' => x = .returned (.bool true) ∧ KB w.heap.size W W') :
    Calls Tryz.prog 19 #[v, .int .i64 lo, .int .i64 hi] w fun x w' => x = .returned (.bool true) ∧ Kp (fun _ => False) w w' := by
  unfold maxLen at hl
  obtain ⟨d, hd, hda⟩ := Tryz.undOp
  obtain ⟨ao, cap, rfl⟩ := hs.len
  have K0 : KB w.heap.size w (w.alloc (.cells #[.slice none 0 0, .slice none 0 0, .slice none 0 0, .slice none 0 0, .slice none 0 0, .int .i64 0] 77)) := (Kp.refl _ _).alloc _
  have HST := hid hstep
  have HEN := hid hends
  have HLK := hid hlook
  have HSC := hid hs
  clear hstep hends hlook hs
  go_enter Tryz.func19, Tryz.ntmps19
  go_upto_region 3 with (fail)
  generalize w.alloc (.cells #[.slice none 0 0, .slice none 0 0, .slice none 0 0, .slice none 0 0, .slice none 0 0, .int .i64 0] 77) = w1 at *
  go_loopw [8] (fun i wr => ∃ k : Nat, i = .int .i64 k ∧ k ≤ ops.length ∧ Hid (WI wr ∧ KB w.heap.size w wr)) (fun i _ => ops.length - (intOf i).toNat)
  case atStart => exact ⟨0, rfl, Nat.zero_le _, hid ⟨h0, K0⟩⟩
  case round =>
    obtain ⟨k, rfl, hk, HW⟩ := hrel
    by_cases hlt : k < ops.length
    · have hlt' : (k : Int) < (ops.length : Int) := by omega
      obtain ⟨o, ho⟩ : ∃ o, ops[k]? = some o := ⟨_, List.getElem?_eq_getElem hlt⟩
      obtain ⟨g, off, cap', hv, hc⟩ := (HSC.out.keep HW.out.2).at_ ho
      simp only [Value.slice.injEq, true_and] at hv
      obtain ⟨rfl, rfl⟩ := hv
      have z0 : wr.cell? ⟨g, off + k * 14, none⟩ = some (.int .i64 o.kind) := hc 0 _ rfl
      by_cases hlo : lo ≤ o.kind
      · by_cases hhi : o.kind ≤ hi
        · have E := hid (HST.out wr o (List.mem_of_getElem? ho) hlo hhi HW.out.1 HW.out.2)
          go_wp2_with (refine wpList_load_part rfl 81 (.tmp 38) rfl g (off + k * 14) rfl (opL o) d hc hd hda Tryz.sizeOp ?_)
          refine Calls.mono (Hid.out E) ?_
          rintro y w2 ⟨rfl, h2, K2⟩
          have HW2 := hid (show WI w2 ∧ KB w.heap.size w w2 from ⟨h2, Kp.trans HW.out.2 K2⟩)
          clear E h2 K2
          go_wp2
          go_roundw
          case rel => exact ⟨k + 1, by go_num, by omega, HW2⟩
          case measure => simp [intOf]; omega
        · go_wp2
          go_roundw
          case rel => exact ⟨k + 1, by go_num, by omega, HW⟩
          case measure => simp [intOf]; omega
      · go_wp2
        go_roundw
        case rel => exact ⟨k + 1, by go_num, by omega, HW⟩
        case measure => simp [intOf]; omega
    · have hge : ¬ (k : Int) < (ops.length : Int) := by omega
      have E1 := hid (HEN.out wr HW.out.1 HW.out.2)
      go_wp2_with fail
      refine Calls.mono (Hid.out E1) ?_
      rintro y w2 ⟨rfl, h2, K2⟩
      have K3 : KB w.heap.size w w2 := Kp.trans HW.out.2 K2
      have E2 := hid (HLK.out w2 h2 K3)
      go_wp2_with fail
      refine Calls.mono (Hid.out E2) ?_
      rintro y w3 ⟨rfl, K4⟩
      go_wp2
      go_ret
      exact ⟨rfl, (show KB w.heap.size w w3 from Kp.trans K3 K4).mono (fun i hi x => by omega)⟩

end

end Go.Proofs.YtnlbchmfcebeeaaGreat
