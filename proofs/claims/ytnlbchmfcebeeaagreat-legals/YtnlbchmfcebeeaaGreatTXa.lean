/- Walks: a state's children (the reference). -/
import Derived.Test.YtnlbchmfcebeeaaGreatTX5
import Derived.Test.YtnlbchmfcebeeaaGreatTC5
namespace Go.Proofs.YtnlbchmfcebeeaaGreat
open Go.RowKit

namespace Ch
def kidsK (L : List RN) (i : Int) (k : Nat) : List Nat := (List.range k).filter (isKid L i)
def natI (l : List Nat) : List Int := l.map fun (n : Nat) => (n : Int)
theorem kidsK_hit {L : List RN} {i : Int} {k : Nat} (h : isKid L i k = true) : kidsK L i (k + 1) = kidsK L i k ++ [k] := by
  unfold kidsK; rw [List.range_succ, List.filter_append]; simp [h]
theorem kidsK_miss {L : List RN} {i : Int} {k : Nat} (h : isKid L i k = false) : kidsK L i (k + 1) = kidsK L i k := by
  unfold kidsK; rw [List.range_succ, List.filter_append]; simp [h]
theorem kidsK_len (L : List RN) (i : Int) (k : Nat) : (kidsK L i k).length ≤ k := by
  unfold kidsK; have := List.length_filter_le (isKid L i) (List.range k); simpa using this
theorem natI_len (l : List Nat) : (natI l).length = l.length := by simp [natI]
theorem natI_snoc (l : List Nat) (k : Nat) : natI (l ++ [k]) = natI l ++ [(k : Int)] := by simp [natI]
theorem isKid_at {l : List NV} {k : Nat} {x : NV} (hx : l[k]? = some x) (i : Int) : isKid (mk l) i k = (x.n.parent == i && x.n.kind != 5) := by
  unfold isKid
  rw [rnAt_of (L := mk l) (n := x.n) (by unfold mk; rw [List.getElem?_map, hx]; rfl)]
theorem mk_len (l : List NV) : (mk l).length = l.length := by simp [mk]
end Ch

section
variable (w : World) (B cb : Nat)

set_option maxHeartbeats 1600000 in
set_option maxRecDepth 100000 in
theorem rKids_any (l : List NV) (v : Value) (i : Int) (hF : ChF w B cb l v) (hl : l.length ≤ 1000) :
    Calls Tryz.prog 234 #[.pointer (some ⟨cb, 0, none⟩), .int .i64 i] w fun x w' => ∃ u, x = .returned u ∧ w'.ownsRow w.heap.size 3 1 u (Ch.kidsR (Ch.mk l) i).length (inCells (Ch.natI (Ch.kidsR (Ch.mk l) i))) ∧ Kp (fun _ => False) w w' := by
  obtain ⟨i0, hi, hz0, hz1, hz2⟩ := info_parts Tryz.infoInt
  obtain ⟨ao, cap, rfl⟩ := hF.2.1.len
  go_enter Tryz.func234, Tryz.ntmps234
  go_wp2_with fail
  go_loopw [5, 6] (fun fv j wr => ∃ k : Nat, j = .int .i64 k ∧ k ≤ l.length ∧ wr.ownsRow w.heap.size 3 1 fv (Ch.kidsK (Ch.mk l) i k).length (inCells (Ch.natI (Ch.kidsK (Ch.mk l) i k))) ∧ Kp (fun _ => False) w wr) (fun _ j _ => l.length - (intOf j).toNat)
  case atStart => exact ⟨0, rfl, Nat.zero_le _, World.ownsRow_nil _ _ _ _, Kp.refl _ _⟩
  case round =>
    obtain ⟨k, rfl, hk, ho, KW⟩ := hrel
    have hFr := hF.keep0 KW
    have zc := hFr.cell
    have hkl := Ch.kidsK_len (Ch.mk l) i k
    by_cases hlt : k < l.length
    · have hlt' : (k : Int) < (l.length : Int) := by omega
      obtain ⟨x, hx⟩ : ∃ x, l[k]? = some x := ⟨_, List.getElem?_eq_getElem hlt⟩
      obtain ⟨g, cap', hv, hBg, hcell, hfr⟩ := hFr.2.1.form hx
      simp only [Value.slice.injEq] at hv
      obtain ⟨rfl, -, rfl⟩ := hv
      have z2 : wr.cell? ⟨g, k * 7 + 2, none⟩ = some (.int .i64 x.n.parent) := hcell 2 (by omega)
      have z1 : wr.cell? ⟨g, k * 7 + 1, none⟩ = some (.int .i64 x.n.kind) := hcell 1 (by omega)
      have hkid := Ch.isKid_at hx i
      clear hFr hcell hfr
      cases q1 : x.n.parent == i with
      | false =>
        rw [q1] at hkid
        have HK := hid (Ch.kidsK_miss hkid)
        clear hkid
        go_wp2
        go_roundw
        case rel => exact ⟨k + 1, by go_num, by omega, by rw [HK.out]; exact ho, KW⟩
        case measure => simp [intOf]; omega
      | true =>
        cases q2 : x.n.kind != 5 with
        | false =>
          rw [q1, q2] at hkid
          have HK := hid (Ch.kidsK_miss hkid)
          clear hkid
          go_wp2
          go_roundw
          case rel => exact ⟨k + 1, by go_num, by omega, by rw [HK.out]; exact ho, KW⟩
          case measure => simp [intOf]; omega
        | true =>
          rw [q1, q2] at hkid
          have HK := hid (Ch.kidsK_hit hkid)
          have hsz := KW.size
          clear hkid
          go_wp2_with (at_builtin; refine wpList_append_own (P := Tryz.prog) _ rfl (.tmp 37) (.tmp 39) 38 rfl w.heap.size 3 i0 (.int .i64 0) 1 8 Tryz.underlying38 hi hz0 hz1 hz2 rfl (by decide) u5 (Ch.kidsK (Ch.mk l) i k).length (inCells (Ch.natI (Ch.kidsK (Ch.mk l) i k))) rfl (by exact ho.alloc _) ⟨wr.heap.size, 0, none⟩ 1 1 [.int .i64 k] rfl rfl (by exact cell1_new _ _ _) (by intro u hu; simp at hu; subst hu; rfl) (by unfold maxLen; omega) (by omega) (by simp; omega) ?_)
          intro v' w9 o9 g9 _
          have K9 : Kp (fun _ => False) w w9 := (KW.alloc (.cells #[.int .i64 k] 3)).grown (by exact g9) (fun j hj hlt => by have := (ho.lt j hj).1; omega)
          have HO := hid (And.intro o9 K9)
          clear o9 g9 K9 ho KW zc z1 z2
          go_wp2
          go_roundw
          case rel =>
            refine ⟨k + 1, by go_num, by omega, ?_, HO.out.2⟩
            rw [HK.out, Ch.natI_snoc]
            have := HO.out.1
            simpa [inCells] using this
          case measure => simp [intOf]; omega
    · have hge : ¬ (k : Int) < (l.length : Int) := by omega
      obtain rfl : k = l.length := by omega
      have HR := hid (show Ch.kidsR (Ch.mk l) i = Ch.kidsK (Ch.mk l) i l.length by unfold Ch.kidsR Ch.kidsK; rw [Ch.mk_len])
      clear hFr
      go_wp2
      go_ret
      rw [HR.out]
      exact ⟨_, rfl, ho, KW⟩

end

end Go.Proofs.YtnlbchmfcebeeaaGreat
