/- The reference's Legal as plain functions, held equal to the program's (legal_eq). Walks: the reference's small, named, histories. Walks: the reference's sent. Walks: the reference's count. Walks: the reference's fits and spread. Walks: the reference's spread. Walks: the reference's remembered. -/
import Derived.Test.YtnlbchmfcebeeaaGreatTX2
import Derived.Test.YtnlbchmfcebeeaaGreatTB5
import Derived.Test.YtnlbchmfcebeeaaGreatTXa
import Derived.Test.YtnlbchmfcebeeaaGreatTX4
import Derived.Deep.AppendLies
import Derived.Laws.OwnMore
import Derived.OwnWalk
import Derived.Deep.RegionHeld3
namespace Go.Proofs.YtnlbchmfcebeeaaGreat
namespace Ch
/-- The reference's named: the state of a name, or -1. -/
def namedR (L : List RN) (b : Int) : Int := match (List.range L.length).find? (fun i => (rnAt L i).name == b) with | some i => (i : Int) | none => -1
def onAt (on : List Bool) (k : Nat) : Bool := on.getD k false
def histR (L : List RN) : List Nat := (List.range L.length).filter fun i => (rnAt L i).kind == 5
theorem named_place (L : List RN) (b : Int) : (namedR L b = -1 ∧ place (L.map RN.st) b = -2 ∧ ∀ i, i < L.length → (rnAt L i).name ≠ b) ∨ ∃ i : Nat, i < L.length ∧ namedR L b = i ∧ place (L.map RN.st) b = i ∧ (rnAt L i).name = b := by
 unfold namedR place
 rcases placeF_spec b (L.map RN.st) 0 with ⟨e, g⟩ | ⟨j, s, e1, e2, e3, e4⟩
 ·left
  have hne : ∀ i, i < L.length → (rnAt L i).name ≠ b := fun i hi => by
   rw [rnAt_of (List.getElem?_eq_getElem hi)]
   exact g _ (List.mem_map.2 ⟨L[i], List.getElem_mem hi, rfl⟩)
  refine ⟨?_, e, hne⟩
  rw [find_none_of]
  intro i hi
  have := hne i hi
  simpa using this
 ·right
  rw [List.getElem?_map, Option.map_eq_some_iff] at e1
  obtain ⟨m, hm, rfl⟩ := e1
  have hlt := (List.getElem?_eq_some_iff.1 hm).1
  have hb : (List.range L.length).find? (fun i => (rnAt L i).name == b) = some j := by
   rw [List.find?_range_eq_some]
   refine ⟨by rw [rnAt_of hm]; have h' : m.name = b := e2; simpa using h', by simpa using hlt, fun k hk => ?_⟩
   have hkl : k < L.length := by omega
   rw [rnAt_of (List.getElem?_eq_getElem hkl)]
   have := e4 k (L[k]).st hk (by rw [List.getElem?_map, List.getElem?_eq_getElem hkl]; rfl)
   have h' : (L[k]).name ≠ b := this
   simpa using h'
  rw [hb]
  exact ⟨j, hlt, rfl, by rw [e3]; simp, by rw [rnAt_of hm]; exact e2⟩
where
 find_none_of {n : Nat} {q : Nat → Bool} (h : ∀ i, i < n → q i = false) : (match (List.range n).find? q with | some i => ((i : Nat) : Int) | none => -1) = -1 := by
  have : (List.range n).find? q = none := by
   rw [List.find?_eq_none]; intro i hi; simp [h i (by simpa using hi)]
  rw [this]
def SameOn (n : Nat) (on l : List Bool) : Prop := on.length = n ∧ l.length = 16 ∧ ∀ k, onAt on k = bit l k
theorem SameOn.set {n i : Nat} {on l : List Bool} (h : SameOn n on l) (hi : i < n) (hn : n ≤ 16) : SameOn n (on.set i true) (putB l (i : Int) true) := by
 obtain ⟨h1, h2, h3⟩ := h
 refine ⟨by simp [h1], by show (l.set i true).length = 16; simp [h2], fun k => ?_⟩
 show (on.set i true).getD k false = (l.set i true).getD k false
 have := h3 k
 unfold onAt bit at this
 simp only [List.getD_eq_getElem?_getD, List.getElem?_set] at this ⊢
 by_cases e : i = k
 ·subst e; rw [if_pos rfl, if_pos rfl, if_pos (by omega), if_pos (by omega)]
 ·rw [if_neg e, if_neg e]; exact this
theorem kindAt_rn {L : List RN} {i : Nat} (hi : i < L.length) : kindAt (L.map RN.st) (i : Int) = (rnAt L i).kind := by
 unfold kindAt; rw [stAt_nat, List.getElem?_map, List.getElem?_eq_getElem hi, rnAt_of (List.getElem?_eq_getElem hi)]; rfl
theorem parAt_rn {L : List RN} {i : Nat} (hi : i < L.length) : parAt (L.map RN.st) (i : Int) = (rnAt L i).parent := by
 unfold parAt; rw [stAt_nat, List.getElem?_map, List.getElem?_eq_getElem hi, rnAt_of (List.getElem?_eq_getElem hi)]; rfl
theorem hist_rn {L : List RN} {i : Nat} (hi : i < L.length) : hist (L.map RN.st) i = ((rnAt L i).kind == 5) := by
 unfold hist; rw [List.getElem?_map, List.getElem?_eq_getElem hi, rnAt_of (List.getElem?_eq_getElem hi)]; rfl
def Uniq (L : List RN) : Prop := ∀ i j, i < L.length → j < L.length → (rnAt L i).name = (rnAt L j).name → i = j
theorem same0 (n : Nat) : SameOn n (List.replicate n false) noSet := by
 refine ⟨by simp, by simp [noSet], fun k => ?_⟩
 unfold onAt bit noSet
 simp only [List.getD_eq_getElem?_getD, List.getElem?_replicate]
 split <;> split <;> rfl
theorem uniq_of {L : List RN} (h : ∀ j, j < L.length → dupR L j = false) : Uniq L := by
 have key : ∀ i j, i < j → j < L.length → (rnAt L i).name ≠ (rnAt L j).name := by
  intro i j hij hj e
  have := h j hj
  unfold dupR at this
  rw [List.any_eq_false] at this
  have hi : i < L.length := by omega
  have := this L[i] (by rw [List.mem_take_iff_getElem]; exact ⟨i, by omega, rfl⟩)
  rw [rnAt_of (List.getElem?_eq_getElem hi)] at e
  simp [e] at this
 intro i j hi hj e
 rcases Nat.lt_trichotomy i j with h' | h' | h'
 ·exact absurd e (key i j h' hj)
 ·exact h'
 ·exact absurd e.symm (key j i h' hi)
theorem uniq_judge {L : List RN} {r : Rs} (hN : NR L r) (h : (judge r.sts r.uses).1 = 0) : Uniq L ∧ L.length ≤ 16 := by
 rw [← fault_eq hN] at h
 unfold faultR at h
 split at h
 ·simp at h
 ·rename_i c
  refine ⟨uniq_of ?_, by omega⟩
  cases e : (List.range L.length).find? (dupR L) with
  | some i => rw [e] at h; simp at h
  | none =>
    rw [List.find?_eq_none] at e
    intro j hj
    have := e j (by simpa using hj)
    simpa using this
end Ch
end Go.Proofs.YtnlbchmfcebeeaaGreat
namespace Go.Proofs.YtnlbchmfcebeeaaGreat
open Go.RowKit
namespace Ch
theorem namedR_hit {L : List RN} {b : Int} {k : Nat} (hk : k < L.length) (h : ((rnAt L k).name == b) = true) (hb : ∀ j, j < k → ((rnAt L j).name == b) = false) : namedR L b = k := by
 unfold namedR
 have : (List.range L.length).find? (fun i => (rnAt L i).name == b) = some k := by
  rw [List.find?_range_eq_some]; exact ⟨h, by simpa using hk, fun j hj => by simp [hb j hj]⟩
 rw [this]
theorem namedR_miss {L : List RN} {b : Int} (hb : ∀ j, j < L.length → ((rnAt L j).name == b) = false) : namedR L b = -1 := by
 unfold namedR
 have : (List.range L.length).find? (fun i => (rnAt L i).name == b) = none := by
  rw [List.find?_eq_none]; intro j hj; simp [hb j (by simpa using hj)]
 rw [this]
theorem rnAt_mk {l : List NV} {k : Nat} {x : NV} (hx : l[k]? = some x) : rnAt (mk l) k = x.n := rnAt_of (by unfold mk; rw [List.getElem?_map, hx]; rfl)
def histK (L : List RN) (k : Nat) : List Nat := (List.range k).filter fun i => (rnAt L i).kind == 5
theorem histK_succ (L : List RN) (k : Nat) : histK L (k + 1) = if (rnAt L k).kind == 5 then histK L k ++ [k] else histK L k := by
 unfold histK; rw [List.range_succ, List.filter_append, List.filter_cons]; split <;> simp
theorem histK_len (L : List RN) (k : Nat) : (histK L k).length ≤ k := by
 unfold histK; have := List.length_filter_le (fun i => (rnAt L i).kind == 5) (List.range k); simpa using this
end Ch
section
variable (w : World) (B cb : Nat)
set_option maxHeartbeats 400000 in
theorem rSmall_any (v : Int) :
 Calls Tryz.prog 200 #[.int .i64 v] w fun x w' => x = .returned (.bool (Ch.inB v)) ∧ w' = w := by
 unfold Ch.inB
 cases q1 : decide (-99 ≤ v) <;> cases q2 : decide (v ≤ 99) <;>
  (go_enter Tryz.func200, Tryz.ntmps200
   go_wp2
   go_ret
   exact ⟨rfl, rfl⟩)
set_option maxHeartbeats 800000 in
theorem rNamed_any (l : List NV) (v : Value) (b : Int) (hF : ChF w B cb l v) (hl : l.length ≤ 1000) :
 Calls Tryz.prog 236 #[.pointer (some ⟨cb, 0, none⟩), .int .u8 b] w fun x w' => x = .returned (.int .i64 (Ch.namedR (Ch.mk l) b)) ∧ w' = w := by
 obtain ⟨ao, cap, rfl⟩ := hF.2.1.len
 have zc := hF.cell
 have hml := Ch.mk_len l
 have HF := hid hF
 clear hF
 go_enter Tryz.func236, Tryz.ntmps236
 go_wp2_with fail
 go_loop [5] (fun i => ∃ k : Nat, i = .int .i64 k ∧ k ≤ l.length ∧ Hid (∀ j, j < k → ((Ch.rnAt (Ch.mk l) j).name == b) = false)) (fun i => l.length - (intOf i).toNat)
 case atStart => exact ⟨0, rfl, Nat.zero_le _, hid (fun j h => absurd h (by omega))⟩
 case round =>
  obtain ⟨k, rfl, hk, HB⟩ := hrel
  by_cases hlt : k < l.length
  ·have hlt' : (k : Int) < (l.length : Int) := by omega
   obtain ⟨x, hx⟩ : ∃ x, l[k]? = some x := ⟨_, List.getElem?_eq_getElem hlt⟩
   obtain ⟨g, cap', hv, _, hcell, _⟩ := HF.out.2.1.form hx
   simp only [Value.slice.injEq] at hv
   obtain ⟨rfl, -, rfl⟩ := hv
   have z0 : w.cell? ⟨g, k * 7, none⟩ = some (.int .u8 x.n.name) := hcell 0 (by omega)
   have hrn := Ch.rnAt_mk hx
   clear hcell
   cases q : x.n.name == b with
   | true =>
     have hR := hid (Ch.namedR_hit (L := Ch.mk l) (by omega) (by rw [hrn]; exact q) HB.out)
     go_wp2
     go_ret
     rw [hR.out]
     exact ⟨rfl, rfl⟩
   | false =>
     have HB2 := hid (show ∀ j, j < k + 1 → ((Ch.rnAt (Ch.mk l) j).name == b) = false from fun j hj => by
      rcases Nat.lt_or_eq_of_le (Nat.le_of_lt_succ hj) with h | h
      ·exact HB.out j h
      ·subst h; rw [hrn]; exact q)
     go_wp2
     go_round
     case rel => exact ⟨k + 1, by go_num, by omega, HB2⟩
     case measure => simp [intOf]; omega
  ·have hge : ¬ (k : Int) < (l.length : Int) := by omega
   obtain rfl : k = l.length := by omega
   have hR := hid (Ch.namedR_miss (L := Ch.mk l) (b := b) (by rw [hml]; exact HB.out))
   go_wp2
   go_ret
   rw [hR.out]
   exact ⟨rfl, rfl⟩
set_option maxHeartbeats 1600000 in
set_option maxRecDepth 100000 in
theorem rHist_any (l : List NV) (v : Value) (hF : ChF w B cb l v) (hl : l.length ≤ 1000) :
 Calls Tryz.prog 201 #[.pointer (some ⟨cb, 0, none⟩)] w fun x w' => ∃ u, x = .returned u ∧ w'.ownsRow w.heap.size 3 1 u (Ch.histR (Ch.mk l)).length (inCells (Ch.natI (Ch.histR (Ch.mk l)))) ∧ Kp (fun _ => False) w w' := by
 obtain ⟨i0, hi, hz0, hz1, hz2⟩ := info_parts Tryz.infoInt
 obtain ⟨ao, cap, rfl⟩ := hF.2.1.len
 go_enter Tryz.func201, Tryz.ntmps201
 go_wp2_with fail
 go_loopw [3, 4] (fun fv j wr => ∃ k : Nat, j = .int .i64 k ∧ k ≤ l.length ∧ wr.ownsRow w.heap.size 3 1 fv (Ch.histK (Ch.mk l) k).length (inCells (Ch.natI (Ch.histK (Ch.mk l) k))) ∧ Kp (fun _ => False) w wr) (fun _ j _ => l.length - (intOf j).toNat)
 case atStart => exact ⟨0, rfl, Nat.zero_le _, World.ownsRow_nil _ _ _ _, Kp.refl _ _⟩
 case round =>
  obtain ⟨k, rfl, hk, ho, KW⟩ := hrel
  have hFr := hF.keep0 KW
  have zc := hFr.cell
  have hkl := Ch.histK_len (Ch.mk l) k
  by_cases hlt : k < l.length
  ·have hlt' : (k : Int) < (l.length : Int) := by omega
   obtain ⟨x, hx⟩ : ∃ x, l[k]? = some x := ⟨_, List.getElem?_eq_getElem hlt⟩
   obtain ⟨g, cap', hv, hBg, hcell, hfr⟩ := hFr.2.1.form hx
   simp only [Value.slice.injEq] at hv
   obtain ⟨rfl, -, rfl⟩ := hv
   have z1 : wr.cell? ⟨g, k * 7 + 1, none⟩ = some (.int .i64 x.n.kind) := hcell 1 (by omega)
   have hkid := Ch.histK_succ (Ch.mk l) k
   rw [Ch.rnAt_mk hx] at hkid
   clear hFr hcell hfr
   cases q1 : x.n.kind == 5 with
   | false =>
     rw [q1] at hkid
     have HK := hid hkid
     clear hkid
     go_wp2
     go_roundw
     case rel => exact ⟨k + 1, by go_num, by omega, by rw [HK.out]; exact ho, KW⟩
     case measure => simp [intOf]; omega
   | true =>
     rw [q1] at hkid
     have HK := hid (hkid.trans (if_pos rfl))
     have hsz := KW.size
     clear hkid
     go_wp2_with (at_builtin; refine wpList_append_own (P := Tryz.prog) _ rfl (.tmp 23) (.tmp 25) 38 rfl w.heap.size 3 i0 (.int .i64 0) 1 8 Tryz.underlying38 hi hz0 hz1 hz2 rfl (by decide) u3 (Ch.histK (Ch.mk l) k).length (inCells (Ch.natI (Ch.histK (Ch.mk l) k))) rfl (by exact ho.alloc _) ⟨wr.heap.size, 0, none⟩ 1 1 [.int .i64 k] rfl rfl (by exact cell1_new _ _ _) (by intro u hu; simp at hu; subst hu; rfl) (by unfold maxLen; omega) (by omega) (by simp; omega) ?_)
     intro v' w9 o9 g9 _
     have K9 : Kp (fun _ => False) w w9 := (KW.alloc (.cells #[.int .i64 k] 3)).grown (by exact g9) (fun j hj hlt => by have := (ho.lt j hj).1; omega)
     have HO := hid (And.intro o9 K9)
     clear o9 g9 K9 ho KW zc z1
     go_wp2
     go_roundw
     case rel =>
      refine ⟨k + 1, by go_num, by omega, ?_, HO.out.2⟩
      rw [HK.out, Ch.natI_snoc]
      have := HO.out.1
      simpa [inCells] using this
     case measure => simp [intOf]; omega
  ·have hge : ¬ (k : Int) < (l.length : Int) := by omega
   obtain rfl : k = l.length := by omega
   have HR := hid (show Ch.histR (Ch.mk l) = Ch.histK (Ch.mk l) l.length by unfold Ch.histR Ch.histK; rw [Ch.mk_len])
   clear hFr
   go_wp2
   go_ret
   rw [HR.out]
   exact ⟨_, rfl, ho, KW⟩
end
end Go.Proofs.YtnlbchmfcebeeaaGreat
namespace Go.Proofs.YtnlbchmfcebeeaaGreat
open Go.RowKit
namespace Ch
end Ch
section
variable (w : World)
end
end Go.Proofs.YtnlbchmfcebeeaaGreat
namespace Go.Proofs.YtnlbchmfcebeeaaGreat
open Go.RowKit
namespace Ch
theorem kidsR_lt {L : List RN} {i : Int} {j : Nat} (h : j ∈ kidsR L i) : j < L.length := by
 unfold kidsR at h; rw [List.mem_filter] at h; simpa using h.1
theorem kidsR_len (L : List RN) (i : Int) : (kidsR L i).length ≤ L.length := by
 unfold kidsR; have := List.length_filter_le (isKid L i) (List.range L.length); simpa using this
end Ch
/-- A row of bools, whole in its block. -/
def OnB (w : World) (g : Nat) (on : List Bool) : Prop := w.heap[g]? = some (.cells (on.map Value.bool).toArray 4)
theorem OnB.cell {w : World} {g : Nat} {on : List Bool} (h : OnB w g on) {k : Nat} (hk : k < on.length) : w.cell? ⟨g, k, none⟩ = some (.bool (Ch.onAt on k)) := by
 unfold OnB at h; simp [World.cell?, h, Ch.onAt, hk]
section
variable (w : World) (B cb : Nat)
end
end Go.Proofs.YtnlbchmfcebeeaaGreat
namespace Go.Proofs.YtnlbchmfcebeeaaGreat
open Go.RowKit
namespace Ch
end Ch
theorem OnB.free {w : World} {g : Nat} {on : List Bool} (h : OnB w g on) (k : Nat) : w.frozen? ⟨g, k, none⟩ = false := by unfold OnB at h; simp [World.frozen?, h]
theorem OnB.set {w : World} {g : Nat} {on : List Bool} (h : OnB w g on) (k : Nat) (b : Bool) : OnB (w.setCell ⟨g, k, none⟩ (.bool b)) g (on.set k b) := by
 unfold OnB at *; rw [heap_set_same _ h]; simp [List.map_set]
theorem OnB.made {w : World} {base g n : Nat} (h : w.ownsRow base 4 1 (.slice (some ⟨g, 0, none⟩) n n) n (madeCells #[Value.bool false] n).toList) : OnB w g (List.replicate n false) := by
 unfold OnB
 have hm : (madeCells #[Value.bool false] n).toList = (List.replicate n false).map Value.bool := by
  apply List.ext_getElem?
  intro j
  unfold madeCells
  simp only [Array.toList_map, List.getElem?_map, Array.toList_range, List.getElem?_replicate]
  by_cases c : j < n
  ·rw [List.getElem?_range c, if_pos c]
   simp [Nat.mod_one]
  ·rw [List.getElem?_eq_none (by simp; omega), if_neg c]; rfl
 rcases h.2 with ⟨e, _⟩ | ⟨g', cap, cur, e, _, hh, hc, _, hsz, hcur⟩
 ·simp at e
 ·simp only [Value.slice.injEq, Option.some.injEq, Addr.mk.injEq, and_true, true_and] at e
  obtain ⟨rfl, rfl⟩ := e
  rw [hh]
  have : cur = ((List.replicate n false).map Value.bool).toArray := by
   apply Array.toList_inj.1
   rw [hm] at hcur
   rw [← hcur, List.take_of_length_le (by rw [Array.length_toList, hsz]; exact Nat.le_refl _)]
  rw [this]
section
variable (w : World) (B cb : Nat)
end
end Go.Proofs.YtnlbchmfcebeeaaGreat
namespace Go.Proofs.YtnlbchmfcebeeaaGreat
open Go.RowKit
theorem Tryz.infoBool : (Tryz.prog.info? 4).map (fun i => (i.zero, i.size, i.bytes)) = some (some (.bool false), 1, 1) := by kernel_rfl
namespace Ch
end Ch
section
variable (w : World) (B cb : Nat)
end
end Go.Proofs.YtnlbchmfcebeeaaGreat
namespace Go.Proofs.YtnlbchmfcebeeaaGreat
open Go.RowKit
namespace Ch
theorem histR_len16 (L : List RN) : (histR L).length ≤ L.length := by
 unfold histR; have := List.length_filter_le (fun i => (rnAt L i).kind == 5) (List.range L.length); simpa using this
theorem any_take_succ {l : List Nat} {p : Nat → Bool} {k j : Nat} (h : l[k]? = some j) : (l.take (k + 1)).any p = ((l.take k).any p || p j) := by
 rw [List.take_add_one, h, List.any_append]; simp
end Ch
section
variable (w : World) (B cb : Nat)
end
end Go.Proofs.YtnlbchmfcebeeaaGreat
