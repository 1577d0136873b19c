/- Walks: the reference's small, named, histories. Walks: the reference's sent. Walks: the reference's count. Walks: the reference's fits and spread. Walks: the reference's spread. Walks: the reference's remembered. -/
import Derived.Test.YtnlbchmfcebeeaaGreatTXe
import Derived.Test.YtnlbchmfcebeeaaGreatTXa
import Derived.Test.YtnlbchmfcebeeaaGreatTX4
import Derived.Test.YtnlbchmfcebeeaaGreatTXc
import Derived.Deep.AppendLies
import Derived.Laws.OwnMore
import Derived.OwnWalk
import Derived.Deep.RegionHeld3
namespace Go.Proofs.YtnlbchmfcebeeaaGreat
open Go.RowKit

namespace Ch
theorem namedR_hit {L : List RN} {b : Int} {k : Nat} (hk : k < L.length) (h : ((rnAt L k).name == b) = true) (hb : ∀ j, j < k → ((rnAt L j).name == b) = false) : namedR L b = k := by
  unfold namedR
  have : (List.range L.length).find? (fun i => (rnAt L i).name == b) = some k := by
    rw [List.find?_range_eq_some]; exact ⟨h, by simpa using hk, fun j hj => by simp [hb j hj]⟩
  rw [this]
theorem namedR_miss {L : List RN} {b : Int} (hb : ∀ j, j < L.length → ((rnAt L j).name == b) = false) : namedR L b = -1 := by
  unfold namedR
  have : (List.range L.length).find? (fun i => (rnAt L i).name == b) = none := by
    rw [List.find?_eq_none]; intro j hj; simp [hb j (by simpa using hj)]
  rw [this]
theorem rnAt_mk {l : List NV} {k : Nat} {x : NV} (hx : l[k]? = some x) : rnAt (mk l) k = x.n := rnAt_of (by unfold mk; rw [List.getElem?_map, hx]; rfl)
def histK (L : List RN) (k : Nat) : List Nat := (List.range k).filter fun i => (rnAt L i).kind == 5
theorem histK_succ (L : List RN) (k : Nat) : histK L (k + 1) = if (rnAt L k).kind == 5 then histK L k ++ [k] else histK L k := by
  unfold histK; rw [List.range_succ, List.filter_append, List.filter_cons]; split <;> simp
theorem histK_len (L : List RN) (k : Nat) : (histK L k).length ≤ k := by
  unfold histK; have := List.length_filter_le (fun i => (rnAt L i).kind == 5) (List.range k); simpa using this
end Ch

section
variable (w : World) (B cb : Nat)

set_option maxHeartbeats 400000 in
theorem rSmall_any (v : Int) :
    Calls Tryz.prog 200 #[.int .i64 v] w fun x w' => x = .returned (.bool (Ch.inB v)) ∧ w' = w := by
  unfold Ch.inB
  cases q1 : decide (-99 ≤ v) <;> cases q2 : decide (v ≤ 99) <;>
    (go_enter Tryz.func200, Tryz.ntmps200
     go_wp2
     go_ret
     exact ⟨rfl, rfl⟩)

set_option maxHeartbeats 800000 in
theorem rNamed_any (l : List NV) (v : Value) (b : Int) (hF : ChF w B cb l v) (hl : l.length ≤ 1000) :
    Calls Tryz.prog 236 #[.pointer (some ⟨cb, 0, none⟩), .int .u8 b] w fun x w' => x = .returned (.int .i64 (Ch.namedR (Ch.mk l) b)) ∧ w' = w := by
  obtain ⟨ao, cap, rfl⟩ := hF.2.1.len
  have zc := hF.cell
  have hml := Ch.mk_len l
  have HF := hid hF
  clear hF
  go_enter Tryz.func236, Tryz.ntmps236
  go_wp2_with fail
  go_loop [5] (fun i => ∃ k : Nat, i = .int .i64 k ∧ k ≤ l.length ∧ Hid (∀ j, j < k → ((Ch.rnAt (Ch.mk l) j).name == b) = false)) (fun i => l.length - (intOf i).toNat)
  case atStart => exact ⟨0, rfl, Nat.zero_le _, hid (fun j h => absurd h (by omega))⟩
  case round =>
    obtain ⟨k, rfl, hk, HB⟩ := hrel
    by_cases hlt : k < l.length
    · have hlt' : (k : Int) < (l.length : Int) := by omega
      obtain ⟨x, hx⟩ : ∃ x, l[k]? = some x := ⟨_, List.getElem?_eq_getElem hlt⟩
      obtain ⟨g, cap', hv, _, hcell, _⟩ := HF.out.2.1.form hx
      simp only [Value.slice.injEq] at hv
      obtain ⟨rfl, -, rfl⟩ := hv
      have z0 : w.cell? ⟨g, k * 7, none⟩ = some (.int .u8 x.n.name) := hcell 0 (by omega)
      have hrn := Ch.rnAt_mk hx
      clear hcell
      cases q : x.n.name == b with
      | true =>
        have hR := hid (Ch.namedR_hit (L := Ch.mk l) (by omega) (by rw [hrn]; exact q) HB.out)
        go_wp2
        go_ret
        rw [hR.out]
        exact ⟨rfl, rfl⟩
      | false =>
        have HB2 := hid (show ∀ j, j < k + 1 → ((Ch.rnAt (Ch.mk l) j).name == b) = false from fun j hj => by
          rcases Nat.lt_or_eq_of_le (Nat.le_of_lt_succ hj) with h | h
          · exact HB.out j h
          · subst h; rw [hrn]; exact q)
        go_wp2
        go_round
        case rel => exact ⟨k + 1, by go_num, by omega, HB2⟩
        case measure => simp [intOf]; omega
    · have hge : ¬ (k : Int) < (l.length : Int) := by omega
      obtain rfl : k = l.length := by omega
      have hR := hid (Ch.namedR_miss (L := Ch.mk l) (b := b) (by rw [hml]; exact HB.out))
      go_wp2
      go_ret
      rw [hR.out]
      exact ⟨rfl, rfl⟩

set_option maxHeartbeats 1600000 in
set_option maxRecDepth 100000 in
theorem rHist_any (l : List NV) (v : Value) (hF : ChF w B cb l v) (hl : l.length ≤ 1000) :
    Calls Tryz.prog 201 #[.pointer (some ⟨cb, 0, none⟩)] w fun x w' => ∃ u, x = .returned u ∧ w'.ownsRow w.heap.size 3 1 u (Ch.histR (Ch.mk l)).length (inCells (Ch.natI (Ch.histR (Ch.mk l)))) ∧ Kp (fun _ => False) w w' := by
  obtain ⟨i0, hi, hz0, hz1, hz2⟩ := info_parts Tryz.infoInt
  obtain ⟨ao, cap, rfl⟩ := hF.2.1.len
  go_enter Tryz.func201, Tryz.ntmps201
  go_wp2_with fail
  go_loopw [3, 4] (fun fv j wr => ∃ k : Nat, j = .int .i64 k ∧ k ≤ l.length ∧ wr.ownsRow w.heap.size 3 1 fv (Ch.histK (Ch.mk l) k).length (inCells (Ch.natI (Ch.histK (Ch.mk l) k))) ∧ Kp (fun _ => False) w wr) (fun _ j _ => l.length - (intOf j).toNat)
  case atStart => exact ⟨0, rfl, Nat.zero_le _, World.ownsRow_nil _ _ _ _, Kp.refl _ _⟩
  case round =>
    obtain ⟨k, rfl, hk, ho, KW⟩ := hrel
    have hFr := hF.keep0 KW
    have zc := hFr.cell
    have hkl := Ch.histK_len (Ch.mk l) k
    by_cases hlt : k < l.length
    · have hlt' : (k : Int) < (l.length : Int) := by omega
      obtain ⟨x, hx⟩ : ∃ x, l[k]? = some x := ⟨_, List.getElem?_eq_getElem hlt⟩
      obtain ⟨g, cap', hv, hBg, hcell, hfr⟩ := hFr.2.1.form hx
      simp only [Value.slice.injEq] at hv
      obtain ⟨rfl, -, rfl⟩ := hv
      have z1 : wr.cell? ⟨g, k * 7 + 1, none⟩ = some (.int .i64 x.n.kind) := hcell 1 (by omega)
      have hkid := Ch.histK_succ (Ch.mk l) k
      rw [Ch.rnAt_mk hx] at hkid
      clear hFr hcell hfr
      cases q1 : x.n.kind == 5 with
      | false =>
        rw [q1] at hkid
        have HK := hid hkid
        clear hkid
        go_wp2
        go_roundw
        case rel => exact ⟨k + 1, by go_num, by omega, by rw [HK.out]; exact ho, KW⟩
        case measure => simp [intOf]; omega
      | true =>
        rw [q1] at hkid
        have HK := hid (hkid.trans (if_pos rfl))
        have hsz := KW.size
        clear hkid
        go_wp2_with (at_builtin; refine wpList_append_own (P := Tryz.prog) _ rfl (.tmp 23) (.tmp 25) 38 rfl w.heap.size 3 i0 (.int .i64 0) 1 8 Tryz.underlying38 hi hz0 hz1 hz2 rfl (by decide) u3 (Ch.histK (Ch.mk l) k).length (inCells (Ch.natI (Ch.histK (Ch.mk l) k))) rfl (by exact ho.alloc _) ⟨wr.heap.size, 0, none⟩ 1 1 [.int .i64 k] rfl rfl (by exact cell1_new _ _ _) (by intro u hu; simp at hu; subst hu; rfl) (by unfold maxLen; omega) (by omega) (by simp; omega) ?_)
        intro v' w9 o9 g9 _
        have K9 : Kp (fun _ => False) w w9 := (KW.alloc (.cells #[.int .i64 k] 3)).grown (by exact g9) (fun j hj hlt => by have := (ho.lt j hj).1; omega)
        have HO := hid (And.intro o9 K9)
        clear o9 g9 K9 ho KW zc z1
        go_wp2
        go_roundw
        case rel =>
          refine ⟨k + 1, by go_num, by omega, ?_, HO.out.2⟩
          rw [HK.out, Ch.natI_snoc]
          have := HO.out.1
          simpa [inCells] using this
        case measure => simp [intOf]; omega
    · have hge : ¬ (k : Int) < (l.length : Int) := by omega
      obtain rfl : k = l.length := by omega
      have HR := hid (show Ch.histR (Ch.mk l) = Ch.histK (Ch.mk l) l.length by unfold Ch.histR Ch.histK; rw [Ch.mk_len])
      clear hFr
      go_wp2
      go_ret
      rw [HR.out]
      exact ⟨_, rfl, ho, KW⟩

end

end Go.Proofs.YtnlbchmfcebeeaaGreat

namespace Go.Proofs.YtnlbchmfcebeeaaGreat
open Go.RowKit

namespace Ch
theorem sentR_no {t : ByteArray} {k : Nat} (hk : k < t.size) (h : sentK t k = false) : sentR t = false := by
  unfold sentR
  have : (List.range t.size).all (sentK t) = false := by
    rw [List.all_eq_false]; exact ⟨k, by simpa using hk, by simp [h]⟩
  rw [this]; simp
theorem sentR_yes {t : ByteArray} (h1 : (decide (16 < t.size) || t.size % 2 == 1) = false) (h : ∀ j, j < t.size → sentK t j = true) : sentR t = true := by
  unfold sentR
  rw [h1]
  simp only [Bool.not_false, Bool.true_and, List.all_eq_true, List.mem_range]
  exact h
theorem sentR_big {t : ByteArray} (h1 : (decide (16 < t.size) || t.size % 2 == 1) = true) : sentR t = false := by
  unfold sentR; rw [h1]; rfl
end Ch

section
variable (w : World)

set_option maxHeartbeats 800000 in
theorem rSent_any (t : ByteArray) (ht : t.size ≤ 9223372036854775807) :
    Calls Tryz.prog 199 #[.string t] w fun x w' => x = .returned (.bool (Ch.sentR t)) ∧ w' = w := by
  have hm : ((t.size : Int).tmod 2) = ((t.size % 2 : Nat) : Int) := (Int.ofNat_tmod t.size 2).symm
  by_cases h16 : 16 < t.size
  · have h16' : (16 : Int) < (t.size : Int) := by omega
    have HR := hid (Ch.sentR_big (t := t) (by simp [h16]))
    go_enter Tryz.func199, Tryz.ntmps199
    go_wp2
    go_ret
    rw [HR.out]
    exact ⟨rfl, rfl⟩
  · have h16' : ¬ (16 : Int) < (t.size : Int) := by omega
    rcases Nat.mod_two_eq_zero_or_one t.size with hp | hp
    · rw [hp] at hm
      have H1 := hid (show (decide (16 < t.size) || t.size % 2 == 1) = false by simp [h16, hp])
      go_enter Tryz.func199, Tryz.ntmps199
      go_wp2_with fail
      go_loop [3] (fun i => ∃ k : Nat, i = .int .i64 k ∧ k ≤ t.size ∧ Hid (∀ j, j < k → Ch.sentK t j = true)) (fun i => t.size - (intOf i).toNat)
      case atStart => exact ⟨0, rfl, Nat.zero_le _, hid (fun j h => absurd h (by omega))⟩
      case round =>
        obtain ⟨k, rfl, hk, HB⟩ := hrel
        by_cases hlt : k < t.size
        · have hlt' : (k : Int) < (t.size : Int) := by omega
          have hpk : Ch.peek t k = ((t[k]'hlt).toNat : Int) := by simp [Ch.peek, hlt]
          have hmk : ((k : Int).tmod 2) = ((k % 2 : Nat) : Int) := (Int.ofNat_tmod k 2).symm
          have E1 := hid (rIn_any w ((t[k]'hlt).toNat : Int) 97 122)
          have E2 := hid (rIn_any w ((t[k]'hlt).toNat : Int) 49 57)
          have HK := hid (show Ch.sentK t k = if k % 2 == 0 then Ch.inR ((t[k]'hlt).toNat : Int) 97 122 else Ch.inR ((t[k]'hlt).toNat : Int) 49 57 by unfold Ch.sentK; rw [hpk]; rfl)
          have HN := hid (fun h : Ch.sentK t k = false => Ch.sentR_no hlt h)
          have HY := hid (fun (h : Ch.sentK t k = true) => show ∀ j, j < k + 1 → Ch.sentK t j = true from fun j hj => by
            rcases Nat.lt_or_eq_of_le (Nat.le_of_lt_succ hj) with h' | h'
            · exact HB.out j h'
            · subst h'; exact h)
          clear hpk
          generalize Ch.inR ((t[k]'hlt).toNat : Int) 97 122 = e1 at E1 HK
          generalize Ch.inR ((t[k]'hlt).toNat : Int) 49 57 = e2 at E2 HK
          rcases Nat.mod_two_eq_zero_or_one k with hq | hq <;> rw [hq] at hmk <;> cases e1 <;> cases e2 <;>
          (go_wp2_with fail
           refine Calls.mono (Hid.out E1) ?_
           rintro x w1 ⟨rfl, rfl⟩
           go_wp2_with fail
           refine Calls.mono (Hid.out E2) ?_
           rintro x w1 ⟨rfl, rfl⟩
           go_wp2
           first
           | (go_ret
              rw [HN.out (by rw [HK.out, hq]; rfl)]
              exact ⟨rfl, rfl⟩)
           | (go_round
              case rel => exact ⟨k + 1, by go_num, by omega, hid (HY.out (by rw [HK.out, hq]; rfl))⟩
              case measure => simp [intOf]; omega))
        · have hge : ¬ (k : Int) < (t.size : Int) := by omega
          obtain rfl : k = t.size := by omega
          have HR := hid (Ch.sentR_yes H1.out HB.out)
          go_wp2
          go_ret
          rw [HR.out]
          exact ⟨rfl, rfl⟩
    · rw [hp] at hm
      have HR := hid (Ch.sentR_big (t := t) (by simp [hp]))
      go_enter Tryz.func199, Tryz.ntmps199
      go_wp2
      go_ret
      rw [HR.out]
      exact ⟨rfl, rfl⟩

end

end Go.Proofs.YtnlbchmfcebeeaaGreat

namespace Go.Proofs.YtnlbchmfcebeeaaGreat
open Go.RowKit

namespace Ch
theorem kidsR_lt {L : List RN} {i : Int} {j : Nat} (h : j ∈ kidsR L i) : j < L.length := by
  unfold kidsR at h; rw [List.mem_filter] at h; simpa using h.1
theorem kidsR_len (L : List RN) (i : Int) : (kidsR L i).length ≤ L.length := by
  unfold kidsR; have := List.length_filter_le (isKid L i) (List.range L.length); simpa using this
theorem countP_take_succ {l : List Nat} {p : Nat → Bool} {k j : Nat} (h : l[k]? = some j) : (l.take (k + 1)).countP p = (l.take k).countP p + if p j then 1 else 0 := by
  rw [List.take_add_one, h, List.countP_append]; simp [List.countP_cons]
end Ch
/-- A row of bools, whole in its block. -/
def OnB (w : World) (g : Nat) (on : List Bool) : Prop := w.heap[g]? = some (.cells (on.map Value.bool).toArray 4)
theorem OnB.cell {w : World} {g : Nat} {on : List Bool} (h : OnB w g on) {k : Nat} (hk : k < on.length) : w.cell? ⟨g, k, none⟩ = some (.bool (Ch.onAt on k)) := by
  unfold OnB at h; simp [World.cell?, h, Ch.onAt, hk]

section
variable (w : World) (B cb : Nat)

set_option maxHeartbeats 800000 in
theorem rCount_any (l : List NV) (v : Value) (i g : Nat) (on : List Bool) (hF : ChF w B cb l v) (hl : l.length ≤ 1000) (hon : OnB w g on) (hol : on.length = l.length) :
    Calls Tryz.prog 237 #[.pointer (some ⟨cb, 0, none⟩), .int .i64 i, .slice (some ⟨g, 0, none⟩) l.length l.length] w fun x w' => x = .returned (.int .i64 (Ch.onKids (Ch.mk l) on i)) ∧ Kp (fun _ => False) w w' := by
  have E := hid (rKids_any w B cb l v (i : Int) hF hl)
  have hkl := Ch.kidsR_len (Ch.mk l) (i : Int)
  rw [Ch.mk_len] at hkl
  have hlt := fun j (h : j ∈ Ch.kidsR (Ch.mk l) (i : Int)) => Ch.kidsR_lt h
  rw [Ch.mk_len] at hlt
  unfold Ch.onKids
  generalize Ch.kidsR (Ch.mk l) (i : Int) = ks at E hkl hlt ⊢
  have HF := hid hF
  have HL := hid hlt
  clear hF hlt
  go_enter Tryz.func237, Tryz.ntmps237
  go_wp2_with fail
  refine Calls.mono (Hid.out E) ?_
  rintro x w1 ⟨u, rfl, ho, K1⟩
  have hon1 : OnB w1 g on := K1.at_ hon (fun x => x)
  have HO := hid (And.intro ho (And.intro hon1 K1))
  clear ho hon1 K1 hon
  obtain ⟨a0, cap, rfl⟩ : ∃ a0 cap, u = .slice a0 ks.length cap := by
    rcases Nat.eq_zero_or_pos ks.length with h | h
    · rcases HO.out.1.2 with ⟨h1, h0⟩ | ⟨g, cap, cur, hv, _⟩
      · exact ⟨none, 0, by rw [h1, h]⟩
      · exact ⟨_, _, hv⟩
    · obtain ⟨g, cap, hv, _⟩ := World.ownsRow.form HO.out.1 h; exact ⟨_, _, hv⟩
  go_wp2_with fail
  go_loop [7, 9] (fun n j => ∃ k : Nat, j = .int .i64 k ∧ k ≤ ks.length ∧ n = .int .i64 ((ks.take k).countP (Ch.onAt on) : Nat)) (fun _ j => ks.length - (intOf j).toNat)
  case atStart => exact ⟨0, rfl, Nat.zero_le _, rfl⟩
  case round =>
    obtain ⟨k, rfl, hk, rfl⟩ := hrel
    have hcp : (ks.take k).countP (Ch.onAt on) ≤ k := Nat.le_trans List.countP_le_length (by simp; omega)
    by_cases hlt : k < ks.length
    · have hlt' : (k : Int) < (ks.length : Int) := by omega
      obtain ⟨j, hj⟩ : ∃ j, ks[k]? = some j := ⟨_, List.getElem?_eq_getElem hlt⟩
      have hjl := HL.out j (List.mem_of_getElem? hj)
      obtain ⟨g2, cap2, hv, _⟩ := World.ownsRow.form HO.out.1 (by omega)
      simp only [Value.slice.injEq] at hv
      obtain ⟨rfl, -, rfl⟩ := hv
      have z1 : w1.cell? ⟨g2, k, none⟩ = some (.int .i64 j) := by
        rw [World.ownsRow.cellAt HO.out.1 k (by omega)]; simp [inCells, Ch.natI, hj]
      have z2 := HO.out.2.1.cell (k := j) (by omega)
      have HC := hid (Ch.countP_take_succ (p := Ch.onAt on) hj)
      have hjl' : (j : Int) < (l.length : Int) := by omega
      cases q : Ch.onAt on j <;> rw [q] at z2 HC <;>
      (go_wp2
       go_round
       case rel => exact ⟨k + 1, by go_num, by omega, by rw [HC.out]; go_num⟩
       case measure => simp [intOf]; omega)
    · have hge : ¬ (k : Int) < (ks.length : Int) := by omega
      obtain rfl : k = ks.length := by omega
      go_wp2
      go_ret
      exact ⟨rfl, HO.out.2.2⟩

end

end Go.Proofs.YtnlbchmfcebeeaaGreat

namespace Go.Proofs.YtnlbchmfcebeeaaGreat
open Go.RowKit

namespace Ch
theorem fitsR_of {L : List RN} {on : List Bool} {i : Nat} {n : RN} (h : rnAt L i = n) : fitsR L on i = if !onAt on i then decide (0 ≤ n.parent)
  else if n.kind == 5 || (decide (0 ≤ n.parent) && !onAt on n.parent.toNat) then false
  else if n.kind == 2 then onKids L on i == 1
  else if n.kind == 3 then onKids L on i == (kidsR L (i : Int)).length
  else true := by unfold fitsR; rw [h]
theorem onKids_le (L : List RN) (on : List Bool) (i : Nat) : onKids L on i ≤ L.length := by
  unfold onKids; exact Nat.le_trans List.countP_le_length (kidsR_len L i)
end Ch
theorem OnB.free {w : World} {g : Nat} {on : List Bool} (h : OnB w g on) (k : Nat) : w.frozen? ⟨g, k, none⟩ = false := by unfold OnB at h; simp [World.frozen?, h]
theorem OnB.set {w : World} {g : Nat} {on : List Bool} (h : OnB w g on) (k : Nat) (b : Bool) : OnB (w.setCell ⟨g, k, none⟩ (.bool b)) g (on.set k b) := by
  unfold OnB at *; rw [heap_set_same _ h]; simp [List.map_set]
theorem OnB.made {w : World} {base g n : Nat} (h : w.ownsRow base 4 1 (.slice (some ⟨g, 0, none⟩) n n) n (madeCells #[Value.bool false] n).toList) : OnB w g (List.replicate n false) := by
  unfold OnB
  have hm : (madeCells #[Value.bool false] n).toList = (List.replicate n false).map Value.bool := by
    apply List.ext_getElem?
    intro j
    unfold madeCells
    simp only [Array.toList_map, List.getElem?_map, Array.toList_range, List.getElem?_replicate]
    by_cases c : j < n
    · rw [List.getElem?_range c, if_pos c]
      simp [Nat.mod_one]
    · rw [List.getElem?_eq_none (by simp; omega), if_neg c]; rfl
  rcases h.2 with ⟨e, _⟩ | ⟨g', cap, cur, e, _, hh, hc, _, hsz, hcur⟩
  · simp at e
  · simp only [Value.slice.injEq, Option.some.injEq, Addr.mk.injEq, and_true, true_and] at e
    obtain ⟨rfl, rfl⟩ := e
    rw [hh]
    have : cur = ((List.replicate n false).map Value.bool).toArray := by
      apply Array.toList_inj.1
      rw [hm] at hcur
      rw [← hcur, List.take_of_length_le (by rw [Array.length_toList, hsz]; exact Nat.le_refl _)]
    rw [this]

section
variable (w : World) (B cb : Nat)

set_option maxHeartbeats 800000 in
set_option maxRecDepth 100000 in
theorem rFits_any (l : List NV) (v : Value) (i g : Nat) (on : List Bool) (hF : ChF w B cb l v) (hl : l.length ≤ 1000) (hon : OnB w g on) (hol : on.length = l.length) (hi : i < l.length)
    (hpw : ∀ x, l[i]? = some x → -1 ≤ x.n.parent ∧ x.n.parent < i) :
    Calls Tryz.prog 197 #[.pointer (some ⟨cb, 0, none⟩), .int .i64 i, .slice (some ⟨g, 0, none⟩) l.length l.length] w fun x w' => x = .returned (.bool (Ch.fitsR (Ch.mk l) on i)) ∧ Kp (fun _ => False) w w' := by
  obtain ⟨ao, cap, rfl⟩ := hF.2.1.len
  have zc := hF.cell
  have hlt' : (i : Int) < (l.length : Int) := by omega
  obtain ⟨x, hx⟩ : ∃ x, l[i]? = some x := ⟨_, List.getElem?_eq_getElem hi⟩
  obtain ⟨g1, cap', hv, hBg, hcell, hfr⟩ := hF.2.1.form hx
  simp only [Value.slice.injEq] at hv
  obtain ⟨rfl, -, rfl⟩ := hv
  have hxm := List.mem_of_getElem? hx
  have z0 : w.cell? ⟨g1, i * 7, none⟩ = some (.int .u8 x.n.name) := hcell 0 (by omega)
  have z1 : w.cell? ⟨g1, i * 7 + 1, none⟩ = some (.int .i64 x.n.kind) := hcell 1 (by omega)
  have z2 : w.cell? ⟨g1, i * 7 + 2, none⟩ = some (.int .i64 x.n.parent) := hcell 2 (by omega)
  have z3 : w.cell? ⟨g1, i * 7 + 3, none⟩ = some (.int .i64 x.n.pos) := hcell 3 (by omega)
  have z4 : w.cell? ⟨g1, i * 7 + 4, none⟩ = some x.ev := hcell 4 (by omega)
  have z5 : w.cell? ⟨g1, i * 7 + 5, none⟩ = some x.lv := hcell 5 (by omega)
  have z6 : w.cell? ⟨g1, i * 7 + 6, none⟩ = some x.tv := hcell 6 (by omega)
  obtain ⟨ea, ec, hev⟩ := own_len (hF.2.1.ent x hxm)
  obtain ⟨la, lc, hlv⟩ := own_len (hF.2.1.lea x hxm)
  obtain ⟨ta, tc, htv⟩ := own_len (hF.2.1.tra x hxm)
  rw [hev] at z4
  rw [hlv] at z5
  rw [htv] at z6
  have hpx := hpw x hx
  have hR := Ch.fitsR_of (on := on) (Ch.rnAt_mk hx)
  have HQ := hid (And.intro hF (And.intro hon hR))
  clear hF hon hcell hfr hR
  have K3 : Kp (fun _ => False) w (w.alloc (.cells #[.int .u8 x.n.name, .int .i64 x.n.kind, .int .i64 x.n.parent, .int .i64 x.n.pos, .slice ea x.n.enter.length ec, .slice la x.n.leave.length lc, .slice ta x.n.trans.length tc] 223)) := (Kp.refl _ _).alloc _
  have hb3 := heap_alloc_new w (.cells #[.int .u8 x.n.name, .int .i64 x.n.kind, .int .i64 x.n.parent, .int .i64 x.n.pos, .slice ea x.n.enter.length ec, .slice la x.n.leave.length lc, .slice ta x.n.trans.length tc] 223)
  go_enter Tryz.func197, Tryz.ntmps197
  go_upto_region 2 with (fail)
  generalize w.alloc (.cells #[.int .u8 x.n.name, .int .i64 x.n.kind, .int .i64 x.n.parent, .int .i64 x.n.pos, .slice ea x.n.enter.length ec, .slice la x.n.leave.length lc, .slice ta x.n.trans.length tc] 223) = w3 at *
  generalize w.heap.size = nb at *
  have hF3 := HQ.out.1.keep0 K3
  have hon3 : OnB w3 g on := K3.at_ HQ.out.2.1 (fun x => x)
  have hR := HQ.out.2.2
  have zon := hon3.cell (k := i) (by omega)
  have c1 : w3.cell? ⟨nb, 1, none⟩ = some (.int .i64 x.n.kind) := by rw [World.cell?, hb3]; rfl
  have c2 : w3.cell? ⟨nb, 2, none⟩ = some (.int .i64 x.n.parent) := by rw [World.cell?, hb3]; rfl
  clear z0 z1 z2 z3 z4 z5 z6 zc hev hlv htv HQ
  cases qo : Ch.onAt on i with
  | false =>
    rw [qo] at hR zon
    simp only [Bool.not_false, if_true] at hR
    have HR := hid hR
    clear hR hF3 hon3 hb3
    by_cases c : 0 ≤ x.n.parent
    · go_wp2
      go_ret
      rw [HR.out, decide_eq_true c]
      exact ⟨rfl, K3⟩
    · go_wp2
      go_ret
      rw [HR.out, decide_eq_false (by omega)]
      exact ⟨rfl, K3⟩
  | true =>
    rw [qo] at hR zon
    simp only [Bool.not_true, Bool.false_eq_true, if_false] at hR
    cases q5 : x.n.kind == 5 with
    | true =>
      rw [q5] at hR
      simp only [Bool.true_or, if_true] at hR
      have HR := hid hR
      clear hR hF3 hon3 hb3
      go_wp2
      go_ret
      rw [HR.out]
      exact ⟨rfl, K3⟩
    | false =>
      rw [q5] at hR
      by_cases c : 0 ≤ x.n.parent
      · obtain ⟨p, hp⟩ : ∃ p : Nat, x.n.parent = p := ⟨x.n.parent.toNat, by omega⟩
        have hpl : (p : Int) < (l.length : Int) := by omega
        have zp := hon3.cell (k := p) (by omega)
        rw [hp] at hR c2
        have hp0 : (0 : Int) ≤ (p : Int) := by omega
        rw [decide_eq_true hp0, Int.toNat_natCast] at hR
        cases qp : Ch.onAt on p with
        | false =>
          rw [qp] at hR zp
          simp only [Bool.not_false, Bool.and_self, Bool.or_true, if_true] at hR
          have HR := hid hR
          clear hR hF3 hon3 hb3
          go_wp2
          go_ret
          rw [HR.out]
          exact ⟨rfl, K3⟩
        | true =>
          rw [qp] at hR zp
          simp only [Bool.not_true, Bool.and_false, Bool.or_self, Bool.false_eq_true, if_false] at hR
          have E1 := hid (rCount_any w3 B cb l _ i g on hF3 hl hon3 hol)
          have HR := hid (And.intro hR (And.intro hF3 hb3))
          clear hR hF3 hon3 hb3
          go_wp2_with fail
          refine Calls.mono (Hid.out E1) ?_
          rintro y w4 ⟨rfl, K4⟩
          have K34 := K3.trans K4
          have hF4 := HR.out.2.1.keep0 K4
          have hb4 := K4.at_ HR.out.2.2 (fun x => x)
          have E2 := hid (rKids_any w4 B cb l _ (i : Int) hF4 hl)
          have hok := Ch.onKids_le (Ch.mk l) on i
          have hkl := Ch.kidsR_len (Ch.mk l) (i : Int)
          rw [Ch.mk_len] at hok hkl
          have HR2 := hid HR.out.1
          clear HR E1 hF4 c1 c2 zon K3 K4
          generalize Ch.onKids (Ch.mk l) on i = kn at *
          generalize Ch.kidsR (Ch.mk l) (i : Int) = ks at *
          go_wp2_with fail
          refine Calls.mono (Hid.out E2) ?_
          rintro y w5 ⟨u, rfl, ho, K5⟩
          obtain ⟨ua, uc, rfl⟩ := own_len ho
          have hb5 := K5.at_ hb4 (fun x => x)
          have c1 : w5.cell? ⟨nb, 1, none⟩ = some (.int .i64 x.n.kind) := by rw [World.cell?, hb5]; rfl
          have K := K34.trans K5
          clear hb4 hb5 ho E2 K34 K5
          cases q2 : x.n.kind == 2 with
          | true =>
            rw [q2] at HR2
            have e2 : x.n.kind = 2 := by simpa using q2
            rw [e2] at c1
            by_cases c1' : kn = 1
            · subst c1'
              go_wp2
              go_ret
              rw [HR2.out]
              exact ⟨rfl, K⟩
            · have c2' : ((kn : Int) == 1) = false := by simp; omega
              go_wp2
              go_ret
              rw [HR2.out]
              refine ⟨?_, K⟩
              have : (kn == 1) = false := by simpa using c1'
              simp [this]
          | false =>
            rw [q2] at HR2
            cases q3 : x.n.kind == 3 with
            | true =>
              rw [q3] at HR2
              have e3 : x.n.kind = 3 := by simpa using q3
              rw [e3] at c1
              by_cases c1' : kn = ks.length
              · subst c1'
                go_wp2
                go_ret
                rw [HR2.out]
                exact ⟨by simp, K⟩
              · have c2' : ((kn : Int) == (ks.length : Int)) = false := by simp; omega
                go_wp2
                go_ret
                rw [HR2.out]
                refine ⟨?_, K⟩
                have : (kn == ks.length) = false := by simpa using c1'
                simp [this]
            | false =>
              rw [q3] at HR2
              go_wp2
              go_ret
              rw [HR2.out]
              exact ⟨by simp, K⟩
      · rw [decide_eq_false c] at hR
        simp only [Bool.false_and, Bool.or_self, Bool.false_eq_true, if_false] at hR
        have hp1 : x.n.parent < 0 := by omega
        have E1 := hid (rCount_any w3 B cb l _ i g on hF3 hl hon3 hol)
        have HR := hid (And.intro hR (And.intro hF3 hb3))
        clear hR hF3 hon3 hb3
        go_wp2_with fail
        refine Calls.mono (Hid.out E1) ?_
        rintro y w4 ⟨rfl, K4⟩
        have K34 := K3.trans K4
        have hF4 := HR.out.2.1.keep0 K4
        have hb4 := K4.at_ HR.out.2.2 (fun x => x)
        have E2 := hid (rKids_any w4 B cb l _ (i : Int) hF4 hl)
        have hok := Ch.onKids_le (Ch.mk l) on i
        have hkl := Ch.kidsR_len (Ch.mk l) (i : Int)
        rw [Ch.mk_len] at hok hkl
        have HR2 := hid HR.out.1
        clear HR E1 hF4 c1 c2 zon K3 K4
        generalize Ch.onKids (Ch.mk l) on i = kn at *
        generalize Ch.kidsR (Ch.mk l) (i : Int) = ks at *
        go_wp2_with fail
        refine Calls.mono (Hid.out E2) ?_
        rintro y w5 ⟨u, rfl, ho, K5⟩
        obtain ⟨ua, uc, rfl⟩ := own_len ho
        have hb5 := K5.at_ hb4 (fun x => x)
        have c1 : w5.cell? ⟨nb, 1, none⟩ = some (.int .i64 x.n.kind) := by rw [World.cell?, hb5]; rfl
        have K := K34.trans K5
        clear hb4 hb5 ho E2 K34 K5
        cases q2 : x.n.kind == 2 with
        | true =>
          rw [q2] at HR2
          have e2 : x.n.kind = 2 := by simpa using q2
          rw [e2] at c1
          by_cases c1' : kn = 1
          · subst c1'
            go_wp2
            go_ret
            rw [HR2.out]
            exact ⟨rfl, K⟩
          · have c2' : ((kn : Int) == 1) = false := by simp; omega
            go_wp2
            go_ret
            rw [HR2.out]
            refine ⟨?_, K⟩
            have : (kn == 1) = false := by simpa using c1'
            simp [this]
        | false =>
          rw [q2] at HR2
          cases q3 : x.n.kind == 3 with
          | true =>
            rw [q3] at HR2
            have e3 : x.n.kind = 3 := by simpa using q3
            rw [e3] at c1
            by_cases c1' : kn = ks.length
            · subst c1'
              go_wp2
              go_ret
              rw [HR2.out]
              exact ⟨by simp, K⟩
            · have c2' : ((kn : Int) == (ks.length : Int)) = false := by simp; omega
              go_wp2
              go_ret
              rw [HR2.out]
              refine ⟨?_, K⟩
              have : (kn == ks.length) = false := by simpa using c1'
              simp [this]
          | false =>
            rw [q3] at HR2
            go_wp2
            go_ret
            rw [HR2.out]
            exact ⟨by simp, K⟩

end

end Go.Proofs.YtnlbchmfcebeeaaGreat

namespace Go.Proofs.YtnlbchmfcebeeaaGreat
open Go.RowKit

theorem Tryz.infoBool : (Tryz.prog.info? 4).map (fun i => (i.zero, i.size, i.bytes)) = some (some (.bool false), 1, 1) := by kernel_rfl

namespace Ch
theorem spreadF_no {L : List RN} {t : ByteArray} {k : Nat} {last : Int} {on : List Bool} (hk : k < t.size) (h : namedR L (peek t k) ≤ last) : spreadF L t (t.size - k) k last on = none := by
  rw [show t.size - k = (t.size - (k + 1)) + 1 by omega]; simp only [spreadF]; rw [if_pos h]
theorem spreadF_go {L : List RN} {t : ByteArray} {k i : Nat} {last : Int} {on : List Bool} (hk : k < t.size) (hi : namedR L (peek t k) = i) (h : ¬ (i : Int) ≤ last) : spreadF L t (t.size - k) k last on = spreadF L t (t.size - (k + 1)) (k + 1) i (on.set i true) := by
  rw [show t.size - k = (t.size - (k + 1)) + 1 by omega]; simp only [spreadF]; rw [hi, if_neg h, Int.toNat_natCast]
theorem namedR_in (L : List RN) (b : Int) : namedR L b = -1 ∨ ∃ i : Nat, namedR L b = i ∧ i < L.length := by
  rcases named_place L b with ⟨h, _, _⟩ | ⟨i, hi, h, _, _⟩
  · exact .inl h
  · exact .inr ⟨i, h, hi⟩
end Ch
/-- What spread gives. -/
def SpQ (w w' : World) (l : List NV) (s : ByteArray) (u : Value) : Prop := Kp (fun _ => False) w w' ∧
  ∀ on, Ch.spreadR (Ch.mk l) s = some on → u = .slice (some ⟨w.heap.size, 0, none⟩) l.length l.length ∧ OnB w' w.heap.size on ∧ on.length = l.length

section
variable (w : World) (B cb : Nat)

set_option maxHeartbeats 800000 in
set_option maxRecDepth 100000 in
theorem rSpread_any (l : List NV) (v : Value) (s : ByteArray) (hF : ChF w B cb l v) (hl : l.length ≤ 1000) (hs : s.size ≤ maxLen) :
    Calls Tryz.prog 196 #[.pointer (some ⟨cb, 0, none⟩), .string s] w fun x w' => ∃ u, x = .returned (.tuple #[u, .bool (Ch.spreadR (Ch.mk l) s).isSome]) ∧ SpQ w w' l s u := by
  obtain ⟨i0, hi, hz0, hz1, hz2⟩ := info_parts Tryz.infoBool
  obtain ⟨ao, cap, rfl⟩ := hF.2.1.len
  have zc := hF.cell
  have hs' : s.size ≤ 9223372036854775807 := hs
  have HF := hid hF
  clear hF hs
  go_enter Tryz.func196, Tryz.ntmps196
  go_wp2_with (at_make; refine wpList_make_full w rfl (.tmp 14) (.tmp 14) 68 rfl w.heap.size 4 i0 (.bool false) 1 Tryz.underlying68 hi hz0 hz1 .i64 .i64 l.length l.length l.length rfl rfl rfl rfl ?c1 ?c2 (Nat.le_refl _) ?_)
  case c1 => rw [hz2]; omega
  case c2 => unfold maxLen; omega
  intro w4 o4 g4
  have K4 : Kp (fun _ => False) w w4 := (Kp.refl _ _).grown g4 (fun i hi _ => by simp at hi)
  have hon4 := OnB.made o4
  have hF4 := HF.out.keep0 K4
  have HQ := hid (And.intro hF4 K4)
  clear zc HF o4 g4 hF4 K4
  generalize hg : w.heap.size = g at *
  go_wp2_with fail
  go_loopw [7, 8] (fun lv kv wr => ∃ (k : Nat) (last : Int) (on : List Bool), lv = .int .i64 last ∧ kv = .int .i64 k ∧ k ≤ s.size ∧ -1 ≤ last ∧ last < l.length ∧ on.length = l.length ∧ OnB wr g on ∧ Hid (Ch.spreadR (Ch.mk l) s = Ch.spreadF (Ch.mk l) s (s.size - k) k last on) ∧ Kp (fun i => i = g) w4 wr) (fun _ kv _ => s.size - (intOf kv).toNat)
  case atStart => exact ⟨0, -1, List.replicate l.length false, rfl, rfl, Nat.zero_le _, by omega, by omega, by simp, hon4, hid (by unfold Ch.spreadR; rw [Ch.mk_len]; rfl), Kp.refl _ _⟩
  case round =>
    obtain ⟨k, last, on, rfl, rfl, hk, hl1, hl2, hol, hon, HS, KW⟩ := hrel
    have hFr : ChF wr B cb l (.slice ao l.length cap) := HQ.out.1.keepT KW (fun i cur T hi _ hT e => by
      subst e
      unfold OnB at hon4
      rw [hon4] at hi
      simp only [Option.some.injEq, Obj.cells.injEq] at hi
      rcases hT with h | h | h | h <;> rw [h] at hi <;> exact absurd hi.2.1 (by decide))
    have KZ := hid (HQ.out.2.trans' KW (fun i hi x => by omega))
    by_cases hlt : k < s.size
    · have hlt' : (k : Int) < (s.size : Int) := by omega
      have hpk : Ch.peek s k = ((s[k]'hlt).toNat : Int) := by simp [Ch.peek, hlt]
      have E := hid (rNamed_any wr B cb l _ ((s[k]'hlt).toNat : Int) hFr hl)
      have hno := fun h => Ch.spreadF_no (L := Ch.mk l) (on := on) hlt (last := last) h
      have hgo := fun i hi h => Ch.spreadF_go (L := Ch.mk l) (on := on) (i := i) hlt (last := last) hi h
      have hin := Ch.namedR_in (Ch.mk l) (Ch.peek s k)
      rw [hpk] at hno hgo hin
      rw [Ch.mk_len] at hin
      generalize Ch.namedR (Ch.mk l) ((s[k]'hlt).toNat : Int) = nr at *
      by_cases c : nr ≤ last
      · have HR := hid (HS.out.trans (hno c))
        clear hno hgo hin hpk hFr HS
        go_wp2_with fail
        refine Calls.mono (Hid.out E) ?_
        rintro x w5 ⟨rfl, e5⟩
        rw [e5]
        go_wp2
        go_ret2
        exact ⟨_, by rw [HR.out]; rfl, KZ.out, fun on' h => by rw [HR.out] at h; cases h⟩
      · obtain ⟨i, rfl, hil⟩ : ∃ i : Nat, nr = i ∧ i < l.length := by
          rcases hin with h | h
          · omega
          · exact h
        have HR := hid (HS.out.trans (hgo i rfl c))
        have hil' : (i : Int) < (l.length : Int) := by omega
        have c' : last < (i : Int) := by omega
        have zi := hon.cell (k := i) (by omega)
        have fi := hon.free i
        have HON := hid (hon.set i true)
        have HKW := hid (KW.setCell (p := ⟨g, i, none⟩) (fun _ => rfl) (.bool true))
        clear hno hgo hin hpk hFr HS hon KW KZ
        go_wp2_with fail
        refine Calls.mono (Hid.out E) ?_
        rintro x w5 ⟨rfl, e5⟩
        rw [e5]
        go_wp2
        go_roundw
        case rel => exact ⟨k + 1, i, on.set i true, rfl, by go_num, by omega, by omega, by omega, by simp [hol], HON.out, hid HR.out, HKW.out⟩
        case measure => simp [intOf]; omega
    · have hge : ¬ (k : Int) < (s.size : Int) := by omega
      obtain rfl : k = s.size := by omega
      have HR := hid (show Ch.spreadR (Ch.mk l) s = some on by rw [HS.out, Nat.sub_self]; rfl)
      clear hFr HS
      go_wp2
      go_ret2
      exact ⟨_, by rw [HR.out]; rfl, KZ.out, fun on' h => by
        rw [HR.out] at h
        obtain rfl : on = on' := by simpa using h
        subst hg
        exact ⟨rfl, hon, hol⟩⟩

end

end Go.Proofs.YtnlbchmfcebeeaaGreat

namespace Go.Proofs.YtnlbchmfcebeeaaGreat
open Go.RowKit

namespace Ch
theorem remR_len {L : List RN} {t : ByteArray} (h : (histR L).length ≠ t.size) : remR L t = false := by
  unfold remR; have : ((histR L).length == t.size) = false := by simpa using h
  rw [this]; rfl
theorem remR_no {L : List RN} {t : ByteArray} {k : Nat} (hk : k < (histR L).length) (h : pstP L t ((histR L).getD k 0) k = false) : remR L t = false := by
  unfold remR
  have : ((List.range (histR L).length).all fun k => pstP L t ((histR L).getD k 0) k) = false := by
    rw [List.all_eq_false]; exact ⟨k, by simpa using hk, by simp only [h]; decide⟩
  rw [this]; simp
theorem remR_yes {L : List RN} {t : ByteArray} (h0 : (histR L).length = t.size) (h : ∀ k, k < (histR L).length → pstP L t ((histR L).getD k 0) k = true) : remR L t = true := by
  unfold remR
  have h1 : ((histR L).length == t.size) = true := by simpa using h0
  rw [h1, Bool.true_and, List.all_eq_true]
  intro k hk
  exact h k (by simpa using hk)
theorem histR_lt {L : List RN} {j : Nat} (h : j ∈ histR L) : j < L.length := by
  unfold histR at h; rw [List.mem_filter] at h; simpa using h.1
theorem histR_len16 (L : List RN) : (histR L).length ≤ L.length := by
  unfold histR; have := List.length_filter_le (fun i => (rnAt L i).kind == 5) (List.range L.length); simpa using this
theorem any_take_succ {l : List Nat} {p : Nat → Bool} {k j : Nat} (h : l[k]? = some j) : (l.take (k + 1)).any p = ((l.take k).any p || p j) := by
  rw [List.take_add_one, h, List.any_append]; simp
end Ch

section
variable (w : World) (B cb : Nat)

set_option maxHeartbeats 1600000 in
set_option maxRecDepth 100000 in
theorem rRemembered_any (l : List NV) (v : Value) (s : ByteArray) (hF : ChF w B cb l v) (hl : l.length ≤ 1000) (hs : s.size ≤ maxLen) :
    Calls Tryz.prog 198 #[.pointer (some ⟨cb, 0, none⟩), .string s] w fun x w' => x = .returned (.bool (Ch.remR (Ch.mk l) s)) ∧ Kp (fun _ => False) w w' := by
  have E0 := hid (rHist_any w B cb l v hF hl)
  obtain ⟨ao, cap, rfl⟩ := hF.2.1.len
  have hlt0 := fun j (h : j ∈ Ch.histR (Ch.mk l)) => Ch.histR_lt h
  have hhl := Ch.histR_len16 (Ch.mk l)
  rw [Ch.mk_len] at hlt0 hhl
  have HNO := hid (fun h => Ch.remR_len (L := Ch.mk l) (t := s) h)
  have HN1 := hid (fun k hk h => Ch.remR_no (L := Ch.mk l) (t := s) (k := k) hk h)
  have HY := hid (fun h0 h => Ch.remR_yes (L := Ch.mk l) (t := s) h0 h)
  generalize Ch.histR (Ch.mk l) = hs' at *
  unfold maxLen at hs
  have HF := hid hF
  have HL := hid hlt0
  clear hF hlt0
  go_enter Tryz.func198, Tryz.ntmps198
  go_wp2_with fail
  refine Calls.mono (Hid.out E0) ?_
  rintro x w1 ⟨u, rfl, ho, K1⟩
  obtain ⟨ua, uc, rfl⟩ := own_len ho
  have HO := hid (And.intro ho K1)
  have hF1 := HF.out.keep0 K1
  have HF1 := hid hF1
  clear ho K1 hF1 E0 HF
  by_cases hne : hs'.length = s.size
  · have hne' : ((hs'.length : Int) != (s.size : Int)) = false := by simp; omega
    go_wp2_with fail
    go_loopw [6] (fun kv wr => ∃ k : Nat, kv = .int .i64 k ∧ k ≤ hs'.length ∧ Hid (∀ j, j < k → Ch.pstP (Ch.mk l) s (hs'.getD j 0) j = true) ∧ Kp (fun _ => False) w1 wr) (fun kv _ => hs'.length - (intOf kv).toNat)
    case atStart => exact ⟨0, rfl, Nat.zero_le _, hid (fun j h => absurd h (by omega)), Kp.refl _ _⟩
    case round =>
      obtain ⟨k, rfl, hk, HB, KW⟩ := hrel
      have hFr := HF1.out.keep0 KW
      have zc := hFr.cell
      have hor := KW.owns HO.out.1 (fun _ _ x => x)
      by_cases hlt : k < hs'.length
      · have hlt' : (k : Int) < (hs'.length : Int) := by omega
        have hks : k < s.size := by omega
        have hks' : (k : Int) < (s.size : Int) := by omega
        obtain ⟨j0, hj0⟩ : ∃ j0, hs'[k]? = some j0 := ⟨_, List.getElem?_eq_getElem hlt⟩
        have hjl := HL.out j0 (List.mem_of_getElem? hj0)
        have hjl' : (j0 : Int) < (l.length : Int) := by omega
        obtain ⟨x, hx⟩ : ∃ x, l[j0]? = some x := ⟨_, List.getElem?_eq_getElem hjl⟩
        obtain ⟨g, cap', hv, _, hcell, _⟩ := hFr.2.1.form hx
        simp only [Value.slice.injEq] at hv
        obtain ⟨rfl, -, rfl⟩ := hv
        have z2 : wr.cell? ⟨g, j0 * 7 + 2, none⟩ = some (.int .i64 x.n.parent) := hcell 2 (by omega)
        obtain ⟨g2, cap2, hv2, _⟩ := World.ownsRow.form hor (by omega)
        simp only [Value.slice.injEq] at hv2
        obtain ⟨rfl, -, rfl⟩ := hv2
        have zh : wr.cell? ⟨g2, k, none⟩ = some (.int .i64 j0) := by
          rw [World.ownsRow.cellAt hor k (by omega)]; simp [inCells, Ch.natI, hj0]
        have hpk : Ch.peek s k = ((s[k]'hks).toNat : Int) := by simp [Ch.peek, hks]
        have hP : Ch.pstP (Ch.mk l) s (hs'.getD k 0) k = (((s[k]'hks).toNat : Int) == 45 || (Ch.kidsR (Ch.mk l) x.n.parent).any fun j => (Ch.rnAt (Ch.mk l) j).name == ((s[k]'hks).toNat : Int)) := by
          unfold Ch.pstP; rw [hpk, List.getD_eq_getElem?_getD, hj0]; simp only [Option.getD_some]; rw [Ch.rnAt_mk hx]
        have HNX := hid (fun (h : Ch.pstP (Ch.mk l) s (hs'.getD k 0) k = true) => show ∀ j, j < k + 1 → Ch.pstP (Ch.mk l) s (hs'.getD j 0) j = true from fun j hj => by
          rcases Nat.lt_or_eq_of_le (Nat.le_of_lt_succ hj) with h' | h'
          · exact HB.out j h'
          · subst h'; exact h)
        cases q45 : (((s[k]'hks).toNat : Int) == 45) with
        | true =>
          rw [q45, Bool.true_or] at hP
          have HP := hid hP
          have HKW := hid KW
          clear hP hpk hFr hcell hor KW
          go_wp2
          go_roundw
          case rel => exact ⟨k + 1, by go_num, by omega, hid (HNX.out HP.out), HKW.out⟩
          case measure => simp [intOf]; omega
        | false =>
          rw [q45, Bool.false_or] at hP
          have E := hid (rKids_any wr.drew B cb l _ x.n.parent (hFr.keep0 (Kp.refl _ _).drew) hl)
          have hkl := Ch.kidsR_len (Ch.mk l) x.n.parent
          have hlt2 := fun j (h : j ∈ Ch.kidsR (Ch.mk l) x.n.parent) => Ch.kidsR_lt h
          rw [Ch.mk_len] at hkl hlt2
          generalize Ch.kidsR (Ch.mk l) x.n.parent = ks at *
          have HP := hid hP
          have HL2 := hid hlt2
          have HW := hid (And.intro hFr KW)
          clear hP hpk hFr hcell hor KW hlt2
          go_upto_region 8 with (fail)
          go_region_held3 (fun w' => w'.cell? ⟨cb, 0, none⟩ = some (.slice (some ⟨g, 0, none⟩) l.length cap) ∧ w'.cell? ⟨g2, k, none⟩ = some (.int .i64 j0) ∧ w'.cell? ⟨g, j0 * 7 + 2, none⟩ = some (.int .i64 x.n.parent)) (first | exact ⟨zc, zh, z2⟩ | exact HS.out) ((go_at_call 234; refine Calls.mono (Hid.out E) ?_; rintro y w5 ⟨u, rfl, ho5, K5⟩; obtain ⟨ua5, uc5, rfl⟩ := own_len ho5; have H := hid (And.intro ho5 K5); have HS := hid (And.intro (K5.cellF zc) (And.intro (K5.cellF zh) (K5.cellF z2))); clear E ho5 K5))
          obtain ⟨ho5, K5⟩ := H.out
          have hF5 := (HW.out.1.keep0 (Kp.refl _ _).drew).keep0 K5
          have zc5 := hF5.cell
          have HX := hid (And.intro ho5 (And.intro hF5 (HW.out.2.drew.trans K5)))
          clear ho5 hF5 K5 HW H HS zc z2 zh
          go_wp2_with fail
          go_loopw [8, 9] (fun okv jv wq => ∃ j : Nat, jv = .int .i64 j ∧ j ≤ ks.length ∧ okv = .bool ((ks.take j).any fun i => (Ch.rnAt (Ch.mk l) i).name == ((s[k]'hks).toNat : Int)) ∧ Kp (fun _ => False) w5 wq) (fun _ jv _ => ks.length - (intOf jv).toNat)
          case atStart => exact ⟨0, rfl, Nat.zero_le _, rfl, Kp.refl _ _⟩
          case round =>
            obtain ⟨j, rfl, hj, rfl, KQ⟩ := hrel
            have hFq := HX.out.2.1.keep0 KQ
            have zcq := hFq.cell
            have hoq := KQ.owns HX.out.1 (fun _ _ x => x)
            by_cases hjlt : j < ks.length
            · have hjlt' : (j : Int) < (ks.length : Int) := by omega
              obtain ⟨i, hi⟩ : ∃ i, ks[j]? = some i := ⟨_, List.getElem?_eq_getElem hjlt⟩
              have hil := HL2.out i (List.mem_of_getElem? hi)
              have hil' : (i : Int) < (l.length : Int) := by omega
              obtain ⟨y, hy⟩ : ∃ y, l[i]? = some y := ⟨_, List.getElem?_eq_getElem hil⟩
              obtain ⟨g3, cap3, hv3, _, hcell3, _⟩ := hFq.2.1.form hy
              simp only [Value.slice.injEq, Option.some.injEq, Addr.mk.injEq, true_and, and_true] at hv3
              obtain ⟨rfl, rfl⟩ := hv3
              have z0 : wr.cell? ⟨g, i * 7, none⟩ = some (.int .u8 y.n.name) := hcell3 0 (by omega)
              obtain ⟨g4, cap4, hv4, _⟩ := World.ownsRow.form hoq (by omega)
              simp only [Value.slice.injEq] at hv4
              obtain ⟨rfl, -, rfl⟩ := hv4
              have zk : wr.cell? ⟨g4, j, none⟩ = some (.int .i64 i) := by
                rw [World.ownsRow.cellAt hoq j (by omega)]; simp [inCells, Ch.natI, hi]
              have hN := Ch.any_take_succ (p := fun i => (Ch.rnAt (Ch.mk l) i).name == ((s[k]'hks).toNat : Int)) hi
              simp only [Ch.rnAt_mk hy] at hN
              generalize (ks.take j).any (fun i => (Ch.rnAt (Ch.mk l) i).name == ((s[k]'hks).toNat : Int)) = acc at *
              cases qn : y.n.name == ((s[k]'hks).toNat : Int) <;> cases acc <;> rw [qn] at hN <;>
              (have HN := hid hN
               clear hN hcell3 hFq hoq
               go_wp2
               go_quiet (fail)
               go_wp2
               go_roundw
               case rel => exact ⟨j + 1, by go_num, by omega, by rw [HN.out]; rfl, KQ.drewN _⟩
               case measure => simp [intOf]; omega)
            · have hjge : ¬ (j : Int) < (ks.length : Int) := by omega
              obtain rfl : j = ks.length := by omega
              rw [List.take_length, ← HP.out]
              cases qP : Ch.pstP (Ch.mk l) s (hs'.getD k 0) k with
              | false =>
                have HR := hid (HN1.out k hlt qP)
                go_wp2
                go_ret
                rw [HR.out]
                exact ⟨rfl, HO.out.2.trans (HX.out.2.2.trans KQ)⟩
              | true =>
                have HZ := hid (HNX.out qP)
                go_wp2
                go_roundw
                case rel => exact ⟨k + 1, by go_num, by omega, hid HZ.out, HX.out.2.2.trans KQ⟩
                case measure => simp [intOf]; omega
      · have hge : ¬ (k : Int) < (hs'.length : Int) := by omega
        obtain rfl : k = hs'.length := by omega
        have HR := hid (HY.out hne HB.out)
        clear hFr hor
        go_wp2
        go_ret
        rw [HR.out]
        exact ⟨rfl, HO.out.2.trans KW⟩
  · have hne' : ((hs'.length : Int) != (s.size : Int)) = true := by simp; omega
    have HR := hid (HNO.out hne)
    go_wp2
    go_ret
    rw [HR.out]
    exact ⟨rfl, HO.out.2⟩

end

end Go.Proofs.YtnlbchmfcebeeaaGreat
