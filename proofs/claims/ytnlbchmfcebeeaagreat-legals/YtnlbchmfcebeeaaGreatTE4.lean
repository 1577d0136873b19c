/- Walks: what all transitions leave. -/
import Derived.Test.YtnlbchmfcebeeaaGreatTE2
namespace Go.Proofs.YtnlbchmfcebeeaaGreat
open Go.RowKit

section
variable (w : World) (mb ob po : Nat) (s : Ch.Sd) (qv ov : Value) (ol : Ch.Ol)

set_option maxHeartbeats 3200000 in
set_option maxRecDepth 100000 in
theorem leftAll_any (v : Value) (list : List Int) (h : InR w v list) (hin : Ch.InT ol list) (hl : list.length ≤ 1000) (hm : MaB w mb ob po s qv ov) (hw : s.Wf) (hp : Pl w ob po ol) (hol : ol.Ok) :
    Calls Tryz.prog 131 #[.pointer (some ⟨mb, 0, none⟩), v] w fun x w' => x = .returned (.agg (setA (Ch.leftAll ol s list))) ∧ Kp (fun _ => False) w w' := by
  obtain ⟨ds, hds, hda⟩ := Tryz.undSet
  obtain ⟨ao, cap, rfl⟩ := h.len
  rw [show Ch.leftAll ol s list = Ch.leftF ol s list Ch.noSet from rfl]
  have K2 : Kp (fun _ => False) w ((w.alloc (.cells #[.bool false, .bool false, .bool false, .bool false, .bool false, .bool false, .bool false, .bool false, .bool false, .bool false, .bool false, .bool false, .bool false, .bool false, .bool false, .bool false] 91)).alloc (.cells #[.bool false, .bool false, .bool false, .bool false, .bool false, .bool false, .bool false, .bool false, .bool false, .bool false, .bool false, .bool false, .bool false, .bool false, .bool false, .bool false] 91)) := ((Kp.refl _ _).alloc _).alloc _
  have hr2 : ((w.alloc (.cells #[.bool false, .bool false, .bool false, .bool false, .bool false, .bool false, .bool false, .bool false, .bool false, .bool false, .bool false, .bool false, .bool false, .bool false, .bool false, .bool false] 91)).alloc (.cells #[.bool false, .bool false, .bool false, .bool false, .bool false, .bool false, .bool false, .bool false, .bool false, .bool false, .bool false, .bool false, .bool false, .bool false, .bool false, .bool false] 91)).heap[w.heap.size]? = some (.cells #[.bool false, .bool false, .bool false, .bool false, .bool false, .bool false, .bool false, .bool false, .bool false, .bool false, .bool false, .bool false, .bool false, .bool false, .bool false, .bool false] 91) := by
    rw [Below.heap_alloc _ _ _ (by simp)]; exact heap_alloc_new _ _
  have hv2 : ((w.alloc (.cells #[.bool false, .bool false, .bool false, .bool false, .bool false, .bool false, .bool false, .bool false, .bool false, .bool false, .bool false, .bool false, .bool false, .bool false, .bool false, .bool false] 91)).alloc (.cells #[.bool false, .bool false, .bool false, .bool false, .bool false, .bool false, .bool false, .bool false, .bool false, .bool false, .bool false, .bool false, .bool false, .bool false, .bool false, .bool false] 91)).heap[w.heap.size + 1]? = some (.cells #[.bool false, .bool false, .bool false, .bool false, .bool false, .bool false, .bool false, .bool false, .bool false, .bool false, .bool false, .bool false, .bool false, .bool false, .bool false, .bool false] 91) := heap_alloc2_new w _ _
  have hsz2 : ((w.alloc (.cells #[.bool false, .bool false, .bool false, .bool false, .bool false, .bool false, .bool false, .bool false, .bool false, .bool false, .bool false, .bool false, .bool false, .bool false, .bool false, .bool false] 91)).alloc (.cells #[.bool false, .bool false, .bool false, .bool false, .bool false, .bool false, .bool false, .bool false, .bool false, .bool false, .bool false, .bool false, .bool false, .bool false, .bool false, .bool false] 91)).heap.size = w.heap.size + 2 := by simp
  have hmb := hm.lt
  have hm2 : MaB ((w.alloc (.cells #[.bool false, .bool false, .bool false, .bool false, .bool false, .bool false, .bool false, .bool false, .bool false, .bool false, .bool false, .bool false, .bool false, .bool false, .bool false, .bool false] 91)).alloc (.cells #[.bool false, .bool false, .bool false, .bool false, .bool false, .bool false, .bool false, .bool false, .bool false, .bool false, .bool false, .bool false, .bool false, .bool false, .bool false, .bool false] 91)) mb ob po s qv ov := SdB.keep hm K2 (fun x => x)
  have hp2 : Pl ((w.alloc (.cells #[.bool false, .bool false, .bool false, .bool false, .bool false, .bool false, .bool false, .bool false, .bool false, .bool false, .bool false, .bool false, .bool false, .bool false, .bool false, .bool false] 91)).alloc (.cells #[.bool false, .bool false, .bool false, .bool false, .bool false, .bool false, .bool false, .bool false, .bool false, .bool false, .bool false, .bool false, .bool false, .bool false, .bool false, .bool false] 91)) ob po ol := hp.keep K2 (fun _ _ _ _ _ x => x)
  have h2 : InR ((w.alloc (.cells #[.bool false, .bool false, .bool false, .bool false, .bool false, .bool false, .bool false, .bool false, .bool false, .bool false, .bool false, .bool false, .bool false, .bool false, .bool false, .bool false] 91)).alloc (.cells #[.bool false, .bool false, .bool false, .bool false, .bool false, .bool false, .bool false, .bool false, .bool false, .bool false, .bool false, .bool false, .bool false, .bool false, .bool false, .bool false] 91)) (.slice ao list.length cap) list := h.keep K2 (fun _ _ _ x => x)
  clear hp hm h
  go_enter Tryz.func131, Tryz.ntmps131
  go_wp2_with fail
  generalize ((w.alloc (.cells #[.bool false, .bool false, .bool false, .bool false, .bool false, .bool false, .bool false, .bool false, .bool false, .bool false, .bool false, .bool false, .bool false, .bool false, .bool false, .bool false] 91)).alloc (.cells #[.bool false, .bool false, .bool false, .bool false, .bool false, .bool false, .bool false, .bool false, .bool false, .bool false, .bool false, .bool false, .bool false, .bool false, .bool false, .bool false] 91)) = w2 at *
  have hS2 : SeB w2 (w.heap.size + 1) [] Ch.noSet [] 91 := SeB.ofRow hv2
  have hnr : ∀ cur T, w2.heap[w.heap.size + 1]? = some (.cells cur T (0, 0)) → T = 91 := by
    intro cur T h; rw [hv2] at h; simp at h; exact h.2.symm
  go_loopw [6] (fun i wr => ∃ (k : Nat) (l : List Bool), i = .int .i64 k ∧ k ≤ list.length ∧ l.length = 16 ∧ Hid (Ch.leftF ol s list Ch.noSet = Ch.leftF ol s (list.drop k) l) ∧ SeB wr (w.heap.size + 1) [] l [] 91 ∧ Kp (fun k => k = w.heap.size + 1) w2 wr) (fun i _ => list.length - (intOf i).toNat)
  case atStart => exact ⟨0, Ch.noSet, rfl, Nat.zero_le _, rfl, hid rfl, hS2, Kp.refl _ _⟩
  case round =>
    obtain ⟨k, l, rfl, hk, h16, HE, h1, K1⟩ := hrel
    have hmr : MaB wr mb ob po s qv ov := SdB.keep hm2 K1 (fun x => by omega)
    have hpr : Pl wr ob po ol := hp2.keep K1 (fun i cur T hi hT x => by subst x; have := hnr _ _ hi; subst this; revert hT; unfold plT oT; decide)
    have hr : InR wr (.slice ao list.length cap) list := h2.keep K1 (fun i cur hi x => by subst x; have := hnr _ _ hi; revert this; decide)
    have hrr := K1.at_ hr2 (fun x => by omega)
    have KX : Kp (fun _ => False) w wr := K2.trans' K1 (fun i hi x => by omega)
    by_cases hlt : k < list.length
    · have hlt' : (k : Int) < (list.length : Int) := by omega
      obtain ⟨a, ha⟩ : ∃ s, list[k]? = some s := ⟨_, List.getElem?_eq_getElem hlt⟩
      obtain ⟨g, cap', hg, a0⟩ := hr.at_ ha
      simp only [Value.slice.injEq, true_and] at hg
      obtain ⟨rfl, rfl⟩ := hg
      have ed : list.drop k = a :: list.drop (k + 1) := by
        rw [List.drop_eq_getElem_cons hlt]; congr 1; exact (List.getElem?_eq_some_iff.1 ha).2
      obtain ⟨ha1, ha2⟩ := hin a (List.mem_of_getElem? ha)
      obtain ⟨j, rfl⟩ : ∃ j : Nat, a = j := ⟨a.toNat, by omega⟩
      have hj : j < ol.trs.length := by omega
      have E1 := hid (leaves_any wr mb ob po s qv ov ol j hj hmr hw hpr hol)
      have o16 := Ch.leaves_len ol s j
      have HF := hid (HE.out.trans (show _ = Ch.leftF ol s (list.drop (k + 1)) (Ch.join l (Ch.leaves ol s j)) by rw [ed]; simp only [Ch.leftF, Int.toNat_natCast]))
      have HX := hid (And.intro h1 K1)
      clear hmr hpr hr ed ha HE h1 K1 KX hrr
      go_wp2_with fail
      refine Calls.mono (Hid.out E1) ?_
      rintro x w3 ⟨rfl, K3⟩
      obtain ⟨h1, K1⟩ := HX.out
      have hs3 : w.heap.size + 2 ≤ w3.heap.size := by have := K3.size; have := K1.size; omega
      have hnew := heap_alloc_new w3 (.cells #[.bool false, .bool false, .bool false, .bool false, .bool false, .bool false, .bool false, .bool false, .bool false, .bool false, .bool false, .bool false, .bool false, .bool false, .bool false, .bool false] 91)
      have hO4 := SeB.ofRow (setRow_heap (w3.alloc (.cells #[.bool false, .bool false, .bool false, .bool false, .bool false, .bool false, .bool false, .bool false, .bool false, .bool false, .bool false, .bool false, .bool false, .bool false, .bool false, .bool false] 91)) w3.heap.size #[.bool false, .bool false, .bool false, .bool false, .bool false, .bool false, .bool false, .bool false, .bool false, .bool false, .bool false, .bool false, .bool false, .bool false, .bool false, .bool false] (setA (Ch.leaves ol s j)) 91 (0, 0) hnew)
      have K4 : Kp (fun _ => False) wr ((w3.alloc (.cells #[.bool false, .bool false, .bool false, .bool false, .bool false, .bool false, .bool false, .bool false, .bool false, .bool false, .bool false, .bool false, .bool false, .bool false, .bool false, .bool false] 91)).setRow w3.heap.size (setA (Ch.leaves ol s j))) := (K3.alloc _).setRow (fun x => by have := K3.size; omega) _
      have hsI := setA_info o16
      have hs16 := setA_size o16
      have hs1 := setA_one (Ch.leaves ol s j)
      clear K3 E1 h1 K1
      generalize hlv : setA (Ch.leaves ol s j) = LV at *
      go_wp2_with (refine wpList_store_row rfl 91 (.tmp 7) (.tmp 19) rfl w3.heap.size LV rfl rfl 91 #[.bool false, .bool false, .bool false, .bool false, .bool false, .bool false, .bool false, .bool false, .bool false, .bool false, .bool false, .bool false, .bool false, .bool false, .bool false, .bool false] hnew hsI hs16.symm hs1 ?_)
      generalize (w3.alloc (.cells #[.bool false, .bool false, .bool false, .bool false, .bool false, .bool false, .bool false, .bool false, .bool false, .bool false, .bool false, .bool false, .bool false, .bool false, .bool false, .bool false] 91)).setRow w3.heap.size LV = w4 at *
      generalize w3.heap.size = L4 at *
      clear hnew hsI hs16 hs1 hlv
      obtain ⟨h1, K1⟩ := HX.out
      have h4 := h1.keep K4 (fun x => x)
      have KW4 : Kp (fun k => k = w.heap.size + 1) w2 w4 := K1.trans' K4 (fun i hi x => x.elim)
      have E2 := hid (join_any w4 (w.heap.size + 1) 0 [] l [] 91 L4 0 [] (Ch.leaves ol s j) [] 91 h4 h16 rfl hO4 o16 rfl (by omega))
      clear h1 K1 K4 h4 HX hO4 a0
      go_wp2_with fail
      refine Calls.mono (Hid.out E2) ?_
      rintro x w5 ⟨rfl, h5, K5⟩
      have K6 := KW4.trans K5
      clear E2 K5 KW4
      go_wp2
      go_roundw
      case rel => exact ⟨k + 1, _, by go_num, by omega, Ch.join_len _ _, HF, h5, K6⟩
      case measure => simp [intOf]; omega
    · have hge : ¬ (k : Int) < (list.length : Int) := by omega
      have HF := hid (HE.out.trans (show _ = l by rw [List.drop_eq_nil_of_le (by omega)]; rfl))
      have hrow := h1.row
      have hszI := setA_info h16
      have hsz := setA_size h16
      have hone := setA_one l
      have KZ : Kp (fun _ => False) w (wr.setRow w.heap.size (setA l)) := KX.setRow (fun x => by omega) _
      clear HE h1 K1 KX hmr hpr hr
      generalize hL : setA l = L at *
      have HL := hid hL
      clear hL
      go_wp2_with (first | refine wpList_load_row rfl 91 (.tmp 5) rfl (w.heap.size + 1) rfl 91 L (0, 0) ds hrow hds (by cases ds <;> first | rfl | exact absurd hda (by simp [isAggD])) hszI ?_ | refine wpList_store_row rfl 91 (.tmp 4) (.tmp 21) rfl w.heap.size L rfl rfl 91 #[.bool false, .bool false, .bool false, .bool false, .bool false, .bool false, .bool false, .bool false, .bool false, .bool false, .bool false, .bool false, .bool false, .bool false, .bool false, .bool false] hrr hszI hsz.symm hone ?_)
      refine bodyPost_ret (results_cell_row rfl _ _ w.heap.size 91 L (0, 0) ds rfl (setRow_heap _ _ _ _ _ _ hrr) hds (by cases ds <;> first | rfl | exact absurd hda (by simp [isAggD])) hszI) rfl ?_
      rw [HF.out, HL.out]
      exact ⟨rfl, KZ⟩

end

end Go.Proofs.YtnlbchmfcebeeaaGreat
