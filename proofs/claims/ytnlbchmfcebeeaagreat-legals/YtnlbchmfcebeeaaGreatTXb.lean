/- Walks: the first name that no state has (the reference). -/
import Derived.Test.YtnlbchmfcebeeaaGreatTXa
import Derived.Test.YtnlbchmfcebeeaaGreatTX4
import Derived.Test.YtnlbchmfcebeeaaGreatTX6
namespace Go.Proofs.YtnlbchmfcebeeaaGreat
open Go.RowKit

namespace Ch
/-- Of a chart's transitions: their texts are not empty, and lie low. -/
def TrBd (n : RN) : Prop := ∀ rt ∈ n.trans, 1 ≤ rt.text.size ∧ rt.text.size ≤ 300 ∧ 0 ≤ rt.pos ∧ rt.pos ≤ 300
/-- The error and the place of the first name that no state has. -/
def nmE (L : List RN) : Int := if 0 ≤ namesR L then 6 else 0
def nmP (L : List RN) : Int := if 0 ≤ namesR L then namesR L else 0
theorem bestS_no1 {L : List RN} {b c p : Int} (h : inR c 65 90 = false) : bestS L b ⟨c, p⟩ = b := by
  unfold bestS; rw [show isNm c = false from h]; rfl
theorem bestS_no2 {L : List RN} {b c p : Int} (h : seenR L c = true) : bestS L b ⟨c, p⟩ = b := by
  unfold bestS; simp only [h]; simp
theorem bestS_no3 {L : List RN} {b c p : Int} (h1 : ¬ b < 0) (h2 : ¬ p < b) : bestS L b ⟨c, p⟩ = b := by
  unfold bestS; simp [h1, h2]
theorem bestS_yes {L : List RN} {b c p : Int} (h1 : inR c 65 90 = true) (h2 : seenR L c = false) (h3 : b < 0 ∨ p < b) : bestS L b ⟨c, p⟩ = p := by
  unfold bestS; rw [show isNm c = true from h1, h2]; rcases h3 with h | h <;> simp [h]
theorem nAt_len {L : List RN} {i : Int} {n : RN} (h : nAt L i = some n) : i < L.length := by obtain ⟨k, rfl, _, h⟩ := nAt_some h; omega
def bestK (L : List RN) (k : Nat) : Int := ((L.take k).flatMap fun n => n.trans.flatMap candT).foldl (bestS L) (-1)
def bestT (L : List RN) (n : RN) (b : Int) (k : Nat) : Int := ((n.trans.take k).flatMap candT).foldl (bestS L) b
theorem bestK_succ {L : List RN} {k : Nat} {n : RN} (h : L[k]? = some n) : bestK L (k + 1) = bestT L n (bestK L k) n.trans.length := by
  unfold bestK bestT
  have hlt := (List.getElem?_eq_some_iff.1 h).1
  have e : L[k] = n := (List.getElem?_eq_some_iff.1 h).2
  rw [List.take_succ_eq_append_getElem hlt, List.flatMap_append, List.foldl_append, e, List.take_length]
  simp
theorem bestT_succ {L : List RN} {n : RN} {b : Int} {k : Nat} {rt : RT} (h : n.trans[k]? = some rt) : bestT L n b (k + 1) = (candT rt).foldl (bestS L) (bestT L n b k) := by
  unfold bestT
  have hlt := (List.getElem?_eq_some_iff.1 h).1
  have e : n.trans[k] = rt := (List.getElem?_eq_some_iff.1 h).2
  rw [List.take_succ_eq_append_getElem hlt, List.flatMap_append, List.foldl_append, e]
  simp
theorem namesR_K (L : List RN) : namesR L = bestK L L.length := by unfold namesR bestK cand; rw [List.take_length]
theorem bestS_bd {L : List RN} {b : Int} {u : Us} (h : -1 ≤ b ∧ b ≤ 1000) (hu : 0 ≤ u.pos ∧ u.pos ≤ 1000) : -1 ≤ bestS L b u ∧ bestS L b u ≤ 1000 := by unfold bestS; split <;> omega
theorem rtCells_at (l : List RT) (k : Nat) (x : RT) (h : l[k]? = some x) : (rtCells l)[k * 2]? = some (.string x.text) ∧ (rtCells l)[k * 2 + 1]? = some (.int .i64 x.pos) := by
  induction l generalizing k with
  | nil => simp at h
  | cons a l ih =>
    have e : rtCells (a :: l) = [.string a.text, .int .i64 a.pos] ++ rtCells l := by simp [rtCells]
    rw [e]
    cases k with
    | zero => simp at h; subst h; simp
    | succ k =>
      have := ih k (by simpa using h)
      rw [List.getElem?_append_right (by simp; omega), List.getElem?_append_right (by simp; omega)]
      simp only [List.length_cons, List.length_nil]
      rw [show (k + 1) * 2 - (0 + 1 + 1) = k * 2 by omega, show (k + 1) * 2 + 1 - (0 + 1 + 1) = k * 2 + 1 by omega]
      exact this
theorem rtCells_len (l : List RT) : (rtCells l).length = l.length * 2 := by
  induction l with
  | nil => rfl
  | cons a l ih => simp [rtCells] at ih ⊢; omega
end Ch

theorem Kp.cellF {w w' : World} (k : Kp (fun _ => False) w w') {p : Addr} {v : Value} (h : w.cell? p = some v) : w'.cell? p = some v := by
  have hb : p.block < w.heap.size := World.block_lt_of_cell? w p h
  rw [← h]; exact World.cell?_of_block (k.block _ hb (fun x => x))
/-- A set of names in a block. -/
def SnB (w : World) (sb : Nat) (f : Int → Bool) : Prop := ∃ C, w.heap[sb]? = some (.cells C 294 (0, 0)) ∧ C.size = 256 ∧ ∀ n : Nat, n < 256 → C[n]? = some (.bool (f n))
theorem SnB.cell {w : World} {sb : Nat} {f : Int → Bool} (h : SnB w sb f) (n : Nat) (hn : n < 256) : w.cell? ⟨sb, n, none⟩ = some (.bool (f n)) := by
  obtain ⟨C, hC, _, hf⟩ := h
  rw [cell_of_row w sb _ C _ _ hC]; exact hf n hn
theorem SnB.keep0 {w w' : World} {sb : Nat} {f : Int → Bool} (h : SnB w sb f) (k : Kp (fun _ => False) w w') : SnB w' sb f := by
  obtain ⟨C, hC, r⟩ := h; exact ⟨C, k.at_ hC (fun x => x), r⟩

section
variable (w : World) (B cb : Nat)

set_option maxHeartbeats 3200000 in
set_option maxRecDepth 100000 in
theorem rNames_any (l : List NV) (v : Value) (SA : Array Value) (hF : ChF w B cb l v) (hl : l.length ≤ 300) (hT : ∀ x ∈ l, x.n.trans.length ≤ 300 ∧ Ch.TrBd x.n) (hs : SA.size = 256) (hS : ∀ n : Nat, n < 256 → SA[n]? = some (.bool (Ch.seenR (Ch.mk l) n))) :
    Calls Tryz.prog 235 #[.pointer (some ⟨cb, 0, none⟩), .agg SA] w fun x w' => x = .returned (.tuple #[.int .i64 (Ch.nmE (Ch.mk l)), .int .i64 (Ch.nmP (Ch.mk l))]) ∧ Kp (fun _ => False) w w' := by
  have hb1 := heap_alloc_new w (.cells SA 294)
  have hS1 : SnB (w.alloc (.cells SA 294)) w.heap.size (Ch.seenR (Ch.mk l)) := ⟨SA, hb1, hs, hS⟩
  have K1 : Kp (fun _ => False) w (w.alloc (.cells SA 294)) := (Kp.refl _ _).alloc _
  have hF1 := hF.keep0 K1
  obtain ⟨ao, cap, rfl⟩ := hF.2.1.len
  go_enter Tryz.func235, Tryz.ntmps235
  go_upto_region 3 with (fail)
  generalize w.alloc (.cells SA 294) = w1 at *
  clear hF hs hS hb1
  go_loopw [6, 7] (fun b i wr => ∃ k : Nat, i = .int .i64 k ∧ k ≤ l.length ∧ b = .int .i64 (Ch.bestK (Ch.mk l) k) ∧ (-1 ≤ Ch.bestK (Ch.mk l) k ∧ Ch.bestK (Ch.mk l) k ≤ 1000) ∧ Kp (fun _ => False) w1 wr) (fun _ i _ => l.length - (intOf i).toNat)
  case atStart => exact ⟨0, rfl, Nat.zero_le _, rfl, by simp [Ch.bestK], Kp.refl _ _⟩
  case round =>
    obtain ⟨k, rfl, hk, rfl, hbb, KW⟩ := hrel
    have hFr := hF1.keep0 KW
    have zc := hFr.cell
    by_cases hlt : k < l.length
    · have hlt' : (k : Int) < (l.length : Int) := by omega
      obtain ⟨x, hx⟩ : ∃ x, l[k]? = some x := ⟨_, List.getElem?_eq_getElem hlt⟩
      have hxm := List.mem_of_getElem? hx
      have hxk : (Ch.mk l)[k]? = some x.n := by unfold Ch.mk; rw [List.getElem?_map, hx]; rfl
      obtain ⟨g, cap', hv, hBg, hcell, hfr⟩ := hFr.2.1.form hx
      simp only [Value.slice.injEq] at hv
      obtain ⟨rfl, -, rfl⟩ := hv
      obtain ⟨hTl, hTb⟩ := hT x hxm
      have HB := hid (Ch.bestK_succ hxk)
      generalize hbk : Ch.bestK (Ch.mk l) k = bk at *
      clear hbk
      have zt : wr.cell? ⟨g, k * 7 + 6, none⟩ = some x.tv := hcell 6 (by omega)
      have hown := hFr.2.1.tra x hxm
      obtain ⟨ta, tcap, htv⟩ := own_len hown
      have HS := hid hS1
      have HX := hid (And.intro hown (And.intro hFr KW))
      have hbx : ∀ j, -1 ≤ Ch.bestT (Ch.mk l) x.n bk j ∧ Ch.bestT (Ch.mk l) x.n bk j ≤ 1000 := by
        intro j
        unfold Ch.bestT
        have : ∀ (m : List Ch.RT) (b : Int), (∀ rt ∈ m, 0 ≤ rt.pos ∧ rt.pos ≤ 300 ∧ 1 ≤ rt.text.size ∧ rt.text.size ≤ 300) → -1 ≤ b ∧ b ≤ 1000 → -1 ≤ (m.flatMap Ch.candT).foldl (Ch.bestS (Ch.mk l)) b ∧ (m.flatMap Ch.candT).foldl (Ch.bestS (Ch.mk l)) b ≤ 1000 := by
          intro m
          induction m with
          | nil => intro b _ h; exact h
          | cons a m ih =>
            intro b hm hb
            have ha := hm a (by simp)
            rw [List.flatMap_cons, List.foldl_append]
            refine ih _ (fun rt hr => hm rt (by simp [hr])) ?_
            simp only [Ch.candT, List.foldl_cons, List.foldl_nil]
            exact Ch.bestS_bd (Ch.bestS_bd hb ⟨by simp only; omega, by simp only; omega⟩) ⟨by simp only; omega, by simp only; omega⟩
        exact this _ _ (fun rt hr => by have := hTb rt (List.mem_of_mem_take hr); omega) hbb
      clear hcell hfr hFr KW hown hS1
      go_wp2_with fail
      go_loopw [6, 8] (fun b j wq => ∃ m : Nat, j = .int .i64 m ∧ m ≤ x.n.trans.length ∧ b = .int .i64 (Ch.bestT (Ch.mk l) x.n bk m) ∧ Kp (fun _ => False) wr wq) (fun _ j _ => x.n.trans.length - (intOf j).toNat)
      case atStart => exact ⟨0, rfl, Nat.zero_le _, by simp [Ch.bestT], Kp.refl _ _⟩
      case round =>
        obtain ⟨m, rfl, hm, rfl, KQ⟩ := hrel
        obtain ⟨hown, hFr, KW⟩ := HX.out
        have zc2 := (hFr.keep0 KQ).cell
        have zt2 := Kp.cellF KQ zt
        by_cases hmlt : m < x.n.trans.length
        · have hmlt' : (m : Int) < (x.n.trans.length : Int) := by omega
          obtain ⟨rt, hrt⟩ : ∃ rt, x.n.trans[m]? = some rt := ⟨_, List.getElem?_eq_getElem hmlt⟩
          have hrb := hTb rt (List.mem_of_getElem? hrt)
          obtain ⟨tg, tcap2, htv2⟩ := own_form hown (by omega)
          rw [htv2] at htv zt2 zt
          simp only [Value.slice.injEq] at htv
          obtain ⟨rfl, -, rfl⟩ := htv
          have hown2 := KQ.owns hown (fun _ _ x => x)
          rw [htv2] at hown2
          have a0 := (hown2.cellAt (m * 2) (by omega)).trans (Ch.rtCells_at _ m rt hrt).1
          have a1 := (hown2.cellAt (m * 2 + 1) (by omega)).trans (Ch.rtCells_at _ m rt hrt).2
          have hsn := (HS.out.keep0 (KW.trans KQ))
          have hbm := hbx m
          have HBT := hid (Ch.bestT_succ (L := Ch.mk l) (b := bk) hrt)
          generalize Ch.bestT (Ch.mk l) x.n bk m = bm at *
          clear hown hFr hown2
          have K5 : Kp (fun _ => False) wr ((wr.alloc (.cells #[.string rt.text, .int .i64 rt.pos] 292)).alloc (.cells #[.int .i64 0, .int .i64 ((rt.text.size : Int) - 1)] 3)) := ((Kp.refl _ _).alloc _).alloc _
          have hb5 := (((Kp.refl (fun _ => False) _).alloc (.cells #[.int .i64 0, .int .i64 ((rt.text.size : Int) - 1)] 3)).at_ (heap_alloc_new wr (.cells #[.string rt.text, .int .i64 rt.pos] 292)) (fun x => x))
          have hd5 := heap_alloc_new (wr.alloc (.cells #[.string rt.text, .int .i64 rt.pos] 292)) (.cells #[.int .i64 0, .int .i64 ((rt.text.size : Int) - 1)] 3)
          have hs5 := hsn.keep0 K5
          have hsz : (wr.alloc (.cells #[.string rt.text, .int .i64 rt.pos] 292)).heap.size = wr.heap.size + 1 := by simp
          rw [hsz] at hd5
          go_upto_region 11 with (fail)
          generalize (wr.alloc (.cells #[.string rt.text, .int .i64 rt.pos] 292)).alloc (.cells #[.int .i64 0, .int .i64 ((rt.text.size : Int) - 1)] 3) = w5 at *
          have c0 : w5.cell? ⟨wr.heap.size, 0, none⟩ = some (.string rt.text) := by rw [World.cell?, hb5]; rfl
          have c1 : w5.cell? ⟨wr.heap.size, 1, none⟩ = some (.int .i64 rt.pos) := by rw [World.cell?, hb5]; rfl
          have d0 : w5.cell? ⟨wr.heap.size + 1, 0, none⟩ = some (.int .i64 0) := by rw [World.cell?, hd5]; rfl
          have d1 : w5.cell? ⟨wr.heap.size + 1, 1, none⟩ = some (.int .i64 ((rt.text.size : Int) - 1)) := by rw [World.cell?, hd5]; rfl
          generalize wr.heap.size = tb at *
          have hb1 := Ch.bestS_bd (L := Ch.mk l) (b := bm) (u := ⟨Ch.peek rt.text 0, rt.pos⟩) hbm ⟨by simp only; omega, by simp only; omega⟩
          have hb2 := Ch.bestS_bd (L := Ch.mk l) (u := ⟨Ch.peek rt.text (rt.text.size - 1), rt.pos + ((rt.text.size : Int) - 1)⟩) hb1 ⟨by simp only; omega, by simp only; omega⟩
          have HC := hid (show (Ch.candT rt).foldl (Ch.bestS (Ch.mk l)) bm = Ch.bestS (Ch.mk l) (Ch.bestS (Ch.mk l) bm ⟨Ch.peek rt.text 0, rt.pos⟩) ⟨Ch.peek rt.text (rt.text.size - 1), rt.pos + ((rt.text.size : Int) - 1)⟩ from rfl)
          have HY := hid (And.intro KW (And.intro KQ K5))
          have HU1 := hid (show Ch.bestS (Ch.mk l) bm ⟨Ch.peek rt.text 0, rt.pos⟩ = Ch.bestS (Ch.mk l) bm ⟨Ch.peek rt.text 0, rt.pos⟩ from rfl)
          generalize hB1 : Ch.bestS (Ch.mk l) bm ⟨Ch.peek rt.text 0, rt.pos⟩ = b1 at *
          have HB1 := hid hB1
          have HU2 := hid (show Ch.bestS (Ch.mk l) b1 ⟨Ch.peek rt.text (rt.text.size - 1), rt.pos + ((rt.text.size : Int) - 1)⟩ = Ch.bestS (Ch.mk l) b1 ⟨Ch.peek rt.text (rt.text.size - 1), rt.pos + ((rt.text.size : Int) - 1)⟩ from rfl)
          generalize hB2 : Ch.bestS (Ch.mk l) b1 ⟨Ch.peek rt.text (rt.text.size - 1), rt.pos + ((rt.text.size : Int) - 1)⟩ = b2 at *
          have HB2 := hid hB2
          clear hb5 hd5 hsn KW KQ K5 zc2 zt2 a0 a1 zc zt hsz hB1 hB2 HU1 HU2
          go_loop [6, 55] (fun b i => ∃ q : Nat, i = .int .i64 q ∧ q ≤ 2 ∧ b = .int .i64 (if q = 0 then bm else if q = 1 then b1 else b2)) (fun _ i => 2 - (intOf i).toNat)
          case atStart => exact ⟨0, rfl, by omega, rfl⟩
          case round =>
            obtain ⟨q, rfl, hq, rfl⟩ := hrel
            obtain rfl | rfl | rfl : q = 0 ∨ q = 1 ∨ q = 2 := by omega
            · simp only [if_true]
              have hix : 0 < rt.text.size := by omega
              obtain ⟨n, hn⟩ : ∃ n : Nat, (rt.text[0]'hix).toNat = n := ⟨_, rfl⟩
              have hn256 : n < 256 := by rw [← hn]; exact (rt.text[0]'hix).toNat_lt
              have hn' : (n : Int) < 256 := by omega
              have zs := hs5.cell n hn256
              have hu : Hid (Ch.peek rt.text (0) = (n : Int)) := hid (by rw [Ch.peek_get hix, hn])
              have E := hid (rIn_any w5 (n : Int) 65 90)
              cases q1 : Ch.inR (n : Int) 65 90 with
              | false =>
                rw [q1] at E
                have HV := hid (show b1 = bm by rw [← HB1.out, hu.out]; exact Ch.bestS_no1 q1)
                go_wp2_with fail
                refine Calls.mono (Hid.out E) ?_
                rintro y w6 ⟨rfl, e6⟩
                rw [e6]
                clear e6 w6
                go_wp2
                go_round
                case rel => exact ⟨1, rfl, by omega, by rw [HV.out]; rfl⟩
                case measure => simp [intOf]
              | true =>
                rw [q1] at E
                cases q2 : Ch.seenR (Ch.mk l) (n : Int) with
                | true =>
                  have HV := hid (show b1 = bm by rw [← HB1.out, hu.out]; exact Ch.bestS_no2 q2)
                  go_wp2_with fail
                  refine Calls.mono (Hid.out E) ?_
                  rintro y w6 ⟨rfl, e6⟩
                  rw [e6]
                  clear e6 w6
                  go_wp2
                  go_round
                  case rel => exact ⟨1, rfl, by omega, by rw [HV.out]; rfl⟩
                  case measure => simp [intOf]
                | false =>
                  by_cases h3 : bm < 0
                  · have HV := hid (show b1 = rt.pos by rw [← HB1.out, hu.out]; exact Ch.bestS_yes q1 q2 (.inl h3))
                    go_wp2_with fail
                    refine Calls.mono (Hid.out E) ?_
                    rintro y w6 ⟨rfl, e6⟩
                    rw [e6]
                    clear e6 w6
                    go_wp2
                    go_round
                    case rel => exact ⟨1, rfl, by omega, by rw [HV.out]; rfl⟩
                    case measure => simp [intOf]
                  · by_cases h4 : rt.pos < bm
                    · have HV := hid (show b1 = rt.pos by rw [← HB1.out, hu.out]; exact Ch.bestS_yes q1 q2 (.inr h4))
                      go_wp2_with fail
                      refine Calls.mono (Hid.out E) ?_
                      rintro y w6 ⟨rfl, e6⟩
                      rw [e6]
                      clear e6 w6
                      go_wp2
                      go_round
                      case rel => exact ⟨1, rfl, by omega, by rw [HV.out]; rfl⟩
                      case measure => simp [intOf]
                    · have HV := hid (show b1 = bm by rw [← HB1.out, hu.out]; exact Ch.bestS_no3 h3 h4)
                      go_wp2_with fail
                      refine Calls.mono (Hid.out E) ?_
                      rintro y w6 ⟨rfl, e6⟩
                      rw [e6]
                      clear e6 w6
                      go_wp2
                      go_round
                      case rel => exact ⟨1, rfl, by omega, by rw [HV.out]; rfl⟩
                      case measure => simp [intOf]
            · simp only [if_true, show ((1 : Nat) = 0) = False by simp, if_false]
              have hix : rt.text.size - 1 < rt.text.size := by omega
              obtain ⟨n, hn⟩ : ∃ n : Nat, (rt.text[rt.text.size - 1]'hix).toNat = n := ⟨_, rfl⟩
              have hn256 : n < 256 := by rw [← hn]; exact (rt.text[rt.text.size - 1]'hix).toNat_lt
              have hn' : (n : Int) < 256 := by omega
              have zs := hs5.cell n hn256
              have hu : Hid (Ch.peek rt.text (rt.text.size - 1) = (n : Int)) := hid (by rw [Ch.peek_get hix, hn])
              have E := hid (rIn_any w5 (n : Int) 65 90)
              cases q1 : Ch.inR (n : Int) 65 90 with
              | false =>
                rw [q1] at E
                have HV := hid (show b2 = b1 by rw [← HB2.out, hu.out]; exact Ch.bestS_no1 q1)
                go_wp2_with fail
                refine Calls.mono (Hid.out E) ?_
                rintro y w6 ⟨rfl, e6⟩
                rw [e6]
                clear e6 w6
                go_wp2
                go_round
                case rel => exact ⟨2, rfl, by omega, by rw [HV.out]; rfl⟩
                case measure => simp [intOf]
              | true =>
                rw [q1] at E
                cases q2 : Ch.seenR (Ch.mk l) (n : Int) with
                | true =>
                  have HV := hid (show b2 = b1 by rw [← HB2.out, hu.out]; exact Ch.bestS_no2 q2)
                  go_wp2_with fail
                  refine Calls.mono (Hid.out E) ?_
                  rintro y w6 ⟨rfl, e6⟩
                  rw [e6]
                  clear e6 w6
                  go_wp2
                  go_round
                  case rel => exact ⟨2, rfl, by omega, by rw [HV.out]; rfl⟩
                  case measure => simp [intOf]
                | false =>
                  by_cases h3 : b1 < 0
                  · have HV := hid (show b2 = (rt.pos + ((rt.text.size : Int) - 1)) by rw [← HB2.out, hu.out]; exact Ch.bestS_yes q1 q2 (.inl h3))
                    go_wp2_with fail
                    refine Calls.mono (Hid.out E) ?_
                    rintro y w6 ⟨rfl, e6⟩
                    rw [e6]
                    clear e6 w6
                    go_wp2
                    go_round
                    case rel => exact ⟨2, rfl, by omega, by rw [HV.out]; rfl⟩
                    case measure => simp [intOf]
                  · by_cases h4 : (rt.pos + ((rt.text.size : Int) - 1)) < b1
                    · have HV := hid (show b2 = (rt.pos + ((rt.text.size : Int) - 1)) by rw [← HB2.out, hu.out]; exact Ch.bestS_yes q1 q2 (.inr h4))
                      go_wp2_with fail
                      refine Calls.mono (Hid.out E) ?_
                      rintro y w6 ⟨rfl, e6⟩
                      rw [e6]
                      clear e6 w6
                      go_wp2
                      go_round
                      case rel => exact ⟨2, rfl, by omega, by rw [HV.out]; rfl⟩
                      case measure => simp [intOf]
                    · have HV := hid (show b2 = b1 by rw [← HB2.out, hu.out]; exact Ch.bestS_no3 h3 h4)
                      go_wp2_with fail
                      refine Calls.mono (Hid.out E) ?_
                      rintro y w6 ⟨rfl, e6⟩
                      rw [e6]
                      clear e6 w6
                      go_wp2
                      go_round
                      case rel => exact ⟨2, rfl, by omega, by rw [HV.out]; rfl⟩
                      case measure => simp [intOf]
            · simp only [show ((2 : Nat) = 0) = False by simp, show ((2 : Nat) = 1) = False by simp, if_false]
              go_wp2
              go_roundw
              case rel =>
                obtain ⟨KW, KQ, K5⟩ := HY.out
                refine ⟨m + 1, by go_num, by omega, ?_, KQ.trans K5⟩
                rw [HBT.out, HC.out]
              case measure => simp [intOf]; omega
        · have hmge : ¬ (m : Int) < (x.n.trans.length : Int) := by omega
          obtain rfl : m = x.n.trans.length := by omega
          have hbe := hbx x.n.trans.length
          clear hown hFr
          go_wp2
          go_roundw
          case rel => exact ⟨k + 1, by go_num, by omega, by rw [HB.out], by rw [HB.out]; exact hbe, HX.out.2.2.trans KQ⟩
          case measure => simp [intOf]; omega
    · have hge : ¬ (k : Int) < (l.length : Int) := by omega
      obtain rfl : k = l.length := by omega
      have hR : Ch.namesR (Ch.mk l) = Ch.bestK (Ch.mk l) l.length := by rw [Ch.namesR_K, Ch.mk_len]
      have K2 := K1.trans KW
      by_cases h0 : 0 ≤ Ch.bestK (Ch.mk l) l.length
      · have e1 := hid (show Ch.nmE (Ch.mk l) = 6 by unfold Ch.nmE; rw [hR, if_pos h0])
        have e2 := hid (show Ch.nmP (Ch.mk l) = Ch.bestK (Ch.mk l) l.length by unfold Ch.nmP; rw [hR, if_pos h0])
        clear hFr hR
        go_wp2
        go_ret2
        rw [e1.out, e2.out]
        exact ⟨rfl, K2⟩
      · have e1 := hid (show Ch.nmE (Ch.mk l) = 0 by unfold Ch.nmE; rw [hR, if_neg h0])
        have e2 := hid (show Ch.nmP (Ch.mk l) = 0 by unfold Ch.nmP; rw [hR, if_neg h0])
        clear hFr hR
        go_wp2
        go_ret2
        rw [e1.out, e2.out]
        exact ⟨rfl, K2⟩

end

end Go.Proofs.YtnlbchmfcebeeaaGreat
