/- The reference's Legal as plain functions, held equal to the program's (legal_eq). -/
import Derived.Test.YtnlbchmfcebeeaaGreatTX2
import Derived.Test.YtnlbchmfcebeeaaGreatTB5
namespace Go.Proofs.YtnlbchmfcebeeaaGreat
namespace Ch
/-- The reference's named: the state of a name, or -1. -/
def namedR (L : List RN) (b : Int) : Int := match (List.range L.length).find? (fun i => (rnAt L i).name == b) with | some i => (i : Int) | none => -1
def onAt (on : List Bool) (k : Nat) : Bool := on.getD k false
/-- The reference's spread: none where the text does not name states in their order. -/
def spreadF (L : List RN) (t : ByteArray) : Nat → Nat → Int → List Bool → Option (List Bool)
  | 0, _, _, on => some on
  | f + 1, k, last, on => if namedR L (peek t k) ≤ last then none else spreadF L t f (k + 1) (namedR L (peek t k)) (on.set (namedR L (peek t k)).toNat true)
def spreadR (L : List RN) (t : ByteArray) : Option (List Bool) := spreadF L t t.size 0 (-1) (List.replicate L.length false)
def onKids (L : List RN) (on : List Bool) (i : Nat) : Nat := (kidsR L (i : Int)).countP (onAt on)
def fitsR (L : List RN) (on : List Bool) (i : Nat) : Bool :=
  if !onAt on i then decide (0 ≤ (rnAt L i).parent)
  else if (rnAt L i).kind == 5 || (decide (0 ≤ (rnAt L i).parent) && !onAt on (rnAt L i).parent.toNat) then false
  else if (rnAt L i).kind == 2 then onKids L on i == 1
  else if (rnAt L i).kind == 3 then onKids L on i == (kidsR L (i : Int)).length
  else true
def histR (L : List RN) : List Nat := (List.range L.length).filter fun i => (rnAt L i).kind == 5
def pstP (L : List RN) (t : ByteArray) (h : Nat) (k : Nat) : Bool := peek t k == 45 || (kidsR L (rnAt L h).parent).any fun j => (rnAt L j).name == peek t k
def remR (L : List RN) (t : ByteArray) : Bool := (histR L).length == t.size && (List.range (histR L).length).all fun k => pstP L t ((histR L).getD k 0) k
def sentK (t : ByteArray) (k : Nat) : Bool := if k % 2 == 0 then isEv (peek t k) else isDg 49 (peek t k)
def sentR (t : ByteArray) : Bool := !(decide (16 < t.size) || t.size % 2 == 1) && (List.range t.size).all (sentK t)
def legalR (L : List RN) (a p tm : ByteArray) (x y z : Int) : Bool :=
  match spreadR L a with
  | none => false
  | some on => (List.range L.length).all (fitsR L on) && (remR L p && sentR tm && inB x && inB y && inB z)

theorem named_place (L : List RN) (b : Int) : (namedR L b = -1 ∧ place (L.map RN.st) b = -2 ∧ ∀ i, i < L.length → (rnAt L i).name ≠ b) ∨ ∃ i : Nat, i < L.length ∧ namedR L b = i ∧ place (L.map RN.st) b = i ∧ (rnAt L i).name = b := by
  unfold namedR place
  rcases placeF_spec b (L.map RN.st) 0 with ⟨e, g⟩ | ⟨j, s, e1, e2, e3, e4⟩
  · left
    have hne : ∀ i, i < L.length → (rnAt L i).name ≠ b := fun i hi => by
      rw [rnAt_of (List.getElem?_eq_getElem hi)]
      exact g _ (List.mem_map.2 ⟨L[i], List.getElem_mem hi, rfl⟩)
    refine ⟨?_, e, hne⟩
    rw [find_none_of]
    intro i hi
    have := hne i hi
    simpa using this
  · right
    rw [List.getElem?_map, Option.map_eq_some_iff] at e1
    obtain ⟨m, hm, rfl⟩ := e1
    have hlt := (List.getElem?_eq_some_iff.1 hm).1
    have hb : (List.range L.length).find? (fun i => (rnAt L i).name == b) = some j := by
      rw [List.find?_range_eq_some]
      refine ⟨by rw [rnAt_of hm]; have h' : m.name = b := e2; simpa using h', by simpa using hlt, fun k hk => ?_⟩
      have hkl : k < L.length := by omega
      rw [rnAt_of (List.getElem?_eq_getElem hkl)]
      have := e4 k (L[k]).st hk (by rw [List.getElem?_map, List.getElem?_eq_getElem hkl]; rfl)
      have h' : (L[k]).name ≠ b := this
      simpa using h'
    rw [hb]
    exact ⟨j, hlt, rfl, by rw [e3]; simp, by rw [rnAt_of hm]; exact e2⟩
where
  find_none_of {n : Nat} {q : Nat → Bool} (h : ∀ i, i < n → q i = false) : (match (List.range n).find? q with | some i => ((i : Nat) : Int) | none => -1) = -1 := by
    have : (List.range n).find? q = none := by
      rw [List.find?_eq_none]; intro i hi; simp [h i (by simpa using hi)]
    rw [this]

def SameOn (n : Nat) (on l : List Bool) : Prop := on.length = n ∧ l.length = 16 ∧ ∀ k, onAt on k = bit l k
theorem SameOn.set {n i : Nat} {on l : List Bool} (h : SameOn n on l) (hi : i < n) (hn : n ≤ 16) : SameOn n (on.set i true) (putB l (i : Int) true) := by
  obtain ⟨h1, h2, h3⟩ := h
  refine ⟨by simp [h1], by show (l.set i true).length = 16; simp [h2], fun k => ?_⟩
  show (on.set i true).getD k false = (l.set i true).getD k false
  have := h3 k
  unfold onAt bit at this
  simp only [List.getD_eq_getElem?_getD, List.getElem?_set] at this ⊢
  by_cases e : i = k
  · subst e; rw [if_pos rfl, if_pos rfl, if_pos (by omega), if_pos (by omega)]
  · rw [if_neg e, if_neg e]; exact this
theorem spreadF_eq {L : List RN} {t : ByteArray} (hn : L.length ≤ 16) : ∀ (f k : Nat) (last : Int) (on l : List Bool), SameOn L.length on l → -1 ≤ last →
    (spreadF L t f k last on = none ∧ tkF (L.map RN.st) t f k last l = none) ∨ ∃ on' l', spreadF L t f k last on = some on' ∧ tkF (L.map RN.st) t f k last l = some l' ∧ SameOn L.length on' l' := by
  intro f
  induction f with
  | zero => intro k last on l h _; exact .inr ⟨on, l, rfl, rfl, h⟩
  | succ f ih =>
    intro k last on l h hl
    simp only [spreadF, tkF]
    rcases named_place L (peek t k) with ⟨e1, e2, _⟩ | ⟨i, hi, e1, e2, _⟩
    · rw [e1, e2, if_pos (by omega), if_pos (by omega)]; exact .inl ⟨rfl, rfl⟩
    · rw [e1, e2]
      by_cases c : (i : Int) ≤ last
      · rw [if_pos c, if_pos c]; exact .inl ⟨rfl, rfl⟩
      · rw [if_neg c, if_neg c]
        exact ih (k + 1) i _ _ (h.set hi hn) (by omega)

theorem kindAt_rn {L : List RN} {i : Nat} (hi : i < L.length) : kindAt (L.map RN.st) (i : Int) = (rnAt L i).kind := by
  unfold kindAt; rw [stAt_nat, List.getElem?_map, List.getElem?_eq_getElem hi, rnAt_of (List.getElem?_eq_getElem hi)]; rfl
theorem parAt_rn {L : List RN} {i : Nat} (hi : i < L.length) : parAt (L.map RN.st) (i : Int) = (rnAt L i).parent := by
  unfold parAt; rw [stAt_nat, List.getElem?_map, List.getElem?_eq_getElem hi, rnAt_of (List.getElem?_eq_getElem hi)]; rfl
theorem count_on {L : List RN} {on l : List Bool} (h : SameOn L.length on l) (i : Nat) : countCh (L.map RN.st) l (i : Int) true = onKids L on i := by
  unfold countCh cntK onKids kidsR
  rw [List.countP_filter, List.length_map]
  apply List.countP_congr
  intro j hj
  have hj' : j < L.length := by simpa using hj
  unfold cntP
  rw [isChild_kid hj']
  have e : has l (j : Int) = onAt on j := (h.2.2 j).symm
  rw [e]
  cases onAt on j <;> cases isKid L (i : Int) j <;> simp
theorem count_split (l : List Nat) (p : Nat → Bool) : l.countP p + l.countP (fun j => !p j) = l.length := by
  induction l with
  | nil => rfl
  | cons a l ih => simp only [List.countP_cons, List.length_cons]; cases p a <;> simp <;> omega
theorem count_off {L : List RN} {on l : List Bool} (h : SameOn L.length on l) (i : Nat) : countCh (L.map RN.st) l (i : Int) false + onKids L on i = (kidsR L (i : Int)).length := by
  rw [← count_split (kidsR L (i : Int)) (onAt on), Nat.add_comm]
  unfold onKids
  congr 1
  unfold countCh cntK kidsR
  rw [List.countP_filter, List.length_map]
  apply List.countP_congr
  intro j hj
  have hj' : j < L.length := by simpa using hj
  unfold cntP
  rw [isChild_kid hj']
  have e : has l (j : Int) = onAt on j := (h.2.2 j).symm
  rw [e]
  cases onAt on j <;> cases isKid L (i : Int) j <;> simp
theorem fits_eq {L : List RN} {r : Rs} (hN : NR L r) {on l : List Bool} (h : SameOn L.length on l) {i : Nat} (hi : i < L.length) : fits (L.map RN.st) l (i : Int) = fitsR L on i := by
  have hw := hN.wf i _ (List.getElem?_eq_getElem hi)
  rw [← rnAt_of (List.getElem?_eq_getElem hi)] at hw
  unfold fits fitsR
  rw [kindAt_rn hi, parAt_rn hi]
  have e : has l (i : Int) = onAt on i := (h.2.2 i).symm
  rw [e, count_on h]
  have hoff := count_off h i
  generalize rnAt L i = n at *
  have hp : has l n.parent = (decide (0 ≤ n.parent) && onAt on n.parent.toNat) := by
    by_cases c : 0 ≤ n.parent
    · obtain ⟨p, hp⟩ : ∃ p : Nat, n.parent = p := ⟨n.parent.toNat, by omega⟩
      rw [hp]; simp only [Int.toNat_natCast]
      have : has l (p : Int) = onAt on p := (h.2.2 p).symm
      rw [this]; simp
    · have : n.parent = -1 := by omega
      rw [this]; rfl
  rw [hp]
  have hm : (n.parent != -1) = decide (0 ≤ n.parent) := by
    by_cases c : 0 ≤ n.parent
    · rw [decide_eq_true c]; simp; omega
    · rw [decide_eq_false c]; simp; omega
  rw [hm]
  cases ho : onAt on i with
  | false => simp
  | true =>
    simp only [Bool.not_true, Bool.false_eq_true, if_false, if_true]
    cases c1 : decide (0 ≤ n.parent) && !onAt on n.parent.toNat with
    | true =>
      have : (decide (0 ≤ n.parent) && !(decide (0 ≤ n.parent) && onAt on n.parent.toNat)) = true := by
        simp at c1 ⊢; exact ⟨c1.1, .inr c1.2⟩
      rw [this]; simp
    | false =>
      have : (decide (0 ≤ n.parent) && !(decide (0 ≤ n.parent) && onAt on n.parent.toNat)) = false := by
        cases q1 : decide (0 ≤ n.parent) with
        | false => rfl
        | true => rw [q1] at c1; simpa using c1
      rw [this]
      simp only [Bool.false_eq_true, if_false, Bool.or_false]
      cases c5 : n.kind == 5 with
      | true =>
        have e5 : n.kind = 5 := by simpa using c5
        rw [e5]; rfl
      | false =>
        simp only [Bool.false_eq_true, if_false]
        cases c2 : n.kind == 2 with
        | true => simp only [if_true]; rw [Bool.eq_iff_iff]; simp; omega
        | false =>
          simp only [Bool.false_eq_true, if_false]
          cases c3 : n.kind == 3 with
          | true =>
            simp only [if_true]
            rw [Bool.eq_iff_iff]; simp; omega
          | false => simp

/-- How many histories stand from a on, ahead of b. -/
def cntH (ss : List St) (a m : Nat) : Nat := (List.range' a m).countP (hist ss)
theorem cntH_cons (ss : List St) (a m : Nat) : cntH ss a (m + 1) = (if hist ss a then 1 else 0) + cntH ss (a + 1) m := by
  unfold cntH; rw [List.range'_succ, List.countP_cons]; omega
theorem tpF_spec (ss : List St) (t : ByteArray) : ∀ (f k n : Nat) (l : List Int),
    (tpF ss t f k n l = none ∧ ∃ j, k ≤ j ∧ j < k + f ∧ hist ss j = true ∧ (t.size ≤ n + cntH ss k (j - k) ∨ isPast ss (j : Int) (peek t (n + cntH ss k (j - k))) = false)) ∨
    (∃ l', tpF ss t f k n l = some (l', n + cntH ss k f) ∧ ∀ j, k ≤ j → j < k + f → hist ss j = true → n + cntH ss k (j - k) < t.size ∧ isPast ss (j : Int) (peek t (n + cntH ss k (j - k))) = true) := by
  intro f
  induction f with
  | zero => intro k n l; exact .inr ⟨l, by simp [tpF, cntH], fun j h1 h2 => by omega⟩
  | succ f ih =>
    intro k n l
    simp only [tpF]
    cases hk : hist ss k with
    | false =>
      simp only [Bool.false_eq_true, if_false]
      have hc : ∀ j, k < j → cntH ss k (j - k) = cntH ss (k + 1) (j - (k + 1)) := by
        intro j hj
        rw [show j - k = (j - (k + 1)) + 1 by omega, cntH_cons, hk]; simp
      rcases ih (k + 1) n l with ⟨e, j, h1, h2, h3, h4⟩ | ⟨l', e, g⟩
      · exact .inl ⟨e, j, by omega, by omega, h3, by rw [hc j (by omega)]; exact h4⟩
      · refine .inr ⟨l', by rw [e, cntH_cons, hk]; simp, fun j h1 h2 h3 => ?_⟩
        by_cases c : k = j
        · subst c; rw [hk] at h3; cases h3
        · rw [hc j (by omega)]; exact g j (by omega) (by omega) h3
    | true =>
      simp only [if_true]
      have h0 : cntH ss k (k - k) = 0 := by simp [cntH]
      have hc : ∀ j, k < j → n + cntH ss k (j - k) = (n + 1) + cntH ss (k + 1) (j - (k + 1)) := by
        intro j hj
        rw [show j - k = (j - (k + 1)) + 1 by omega, cntH_cons, hk]; simp; omega
      by_cases c : (decide (t.size ≤ n) || !isPast ss (k : Int) (peek t n)) = true
      · rw [if_pos c]
        refine .inl ⟨rfl, k, Nat.le_refl _, by omega, hk, ?_⟩
        rw [h0, Nat.add_zero]
        simpa using c
      · rw [if_neg c]
        have c' : n < t.size ∧ isPast ss (k : Int) (peek t n) = true := by simpa using c
        rcases ih (k + 1) (n + 1) (l.set k (peek t n)) with ⟨e, j, h1, h2, h3, h4⟩ | ⟨l', e, g⟩
        · exact .inl ⟨e, j, by omega, by omega, h3, by rw [hc j (by omega)]; exact h4⟩
        · refine .inr ⟨l', by rw [e, cntH_cons, hk]; simp; omega, fun j h1 h2 h3 => ?_⟩
          by_cases c2 : k = j
          · subst c2; rw [h0, Nat.add_zero]; exact c'
          · rw [hc j (by omega)]; exact g j (by omega) (by omega) h3

theorem hist_rn {L : List RN} {i : Nat} (hi : i < L.length) : hist (L.map RN.st) i = ((rnAt L i).kind == 5) := by
  unfold hist; rw [List.getElem?_map, List.getElem?_eq_getElem hi, rnAt_of (List.getElem?_eq_getElem hi)]; rfl
theorem histR_len (L : List RN) : (histR L).length = cntH (L.map RN.st) 0 L.length := by
  unfold histR cntH
  rw [← List.countP_eq_length_filter, List.range_eq_range']
  apply List.countP_congr
  intro i hi
  rw [hist_rn (by simp at hi; omega)]
/-- The history of a rank. -/
theorem histR_get {L : List RN} {j : Nat} (hj : j < L.length) (h : hist (L.map RN.st) j = true) : (histR L)[cntH (L.map RN.st) 0 j]? = some j := by
  unfold histR
  have e : List.range L.length = List.range j ++ (j :: List.range' (j + 1) (L.length - (j + 1))) := by
    rw [List.range_eq_range', List.range_eq_range', show L.length = j + (L.length - j) by omega, ← List.range'_append_1, Nat.zero_add]
    rw [show j + (L.length - j) - (j + 1) = L.length - j - 1 by omega]
    rw [show L.length - j = (L.length - j - 1) + 1 by omega, List.range'_succ]
    simp
  rw [e, List.filter_append, List.filter_cons]
  rw [hist_rn hj] at h
  rw [if_pos h]
  have hl : (List.filter (fun i => (rnAt L i).kind == 5) (List.range j)).length = cntH (L.map RN.st) 0 j := by
    unfold cntH
    rw [← List.countP_eq_length_filter, List.range_eq_range']
    apply List.countP_congr
    intro i hi
    rw [hist_rn (by simp at hi; omega)]
  rw [← hl, List.getElem?_append_right (Nat.le_refl _), Nat.sub_self]
  rfl

def Uniq (L : List RN) : Prop := ∀ i j, i < L.length → j < L.length → (rnAt L i).name = (rnAt L j).name → i = j
theorem past_eq {L : List RN} (hu : Uniq L) {j : Nat} (hj : j < L.length) (c : Int) : isPast (L.map RN.st) (j : Int) c = (c == 45 || (kidsR L (rnAt L j).parent).any fun i => (rnAt L i).name == c) := by
  unfold isPast
  rw [parAt_rn hj]
  cases hc : c == 45 with
  | true => simp
  | false =>
    simp only [Bool.false_eq_true, if_false, Bool.false_or]
    rcases named_place L c with ⟨_, e2, hne⟩ | ⟨i, hi, _, e2, hnm⟩
    · rw [e2]
      have h1 : isChild (L.map RN.st) (-2) (rnAt L j).parent = false := rfl
      rw [h1]
      symm
      rw [List.any_eq_false]
      intro i hi
      unfold kidsR at hi
      rw [List.mem_filter] at hi
      have := hne i (by simpa using hi.1)
      simpa using this
    · rw [e2, isChild_kid hi]
      rw [Bool.eq_iff_iff, List.any_eq_true]
      constructor
      · intro h
        exact ⟨i, by unfold kidsR; rw [List.mem_filter]; exact ⟨by simpa using hi, h⟩, by simpa using hnm⟩
      · rintro ⟨i', hi', hn'⟩
        unfold kidsR at hi'
        rw [List.mem_filter] at hi'
        have hn'' : (rnAt L i').name = c := by simpa using hn'
        have := hu i' i (by simpa using hi'.1) hi (by rw [hn'', hnm])
        subst this
        exact hi'.2

theorem cntH_lt {L : List RN} {j : Nat} (hj : j < L.length) (h : hist (L.map RN.st) j = true) : cntH (L.map RN.st) 0 j < (histR L).length :=
  (List.getElem?_eq_some_iff.1 (histR_get hj h)).1
theorem rem_eq {L : List RN} (hu : Uniq L) (h16 : L.length ≤ 16) (t : ByteArray) : (takePastV (L.map RN.st) t).2 = remR L t := by
  unfold takePastV remR
  rw [List.length_map, show min L.length 16 = L.length by omega]
  rcases tpF_spec (L.map RN.st) t L.length 0 0 (blankP (L.map RN.st)) with ⟨e, j, _, h2, h3, h4⟩ | ⟨l', e, g⟩
  · rw [e]
    simp only
    symm
    rw [Nat.zero_add] at h2 h4
    rw [Nat.sub_zero] at h4
    have hlt := cntH_lt h2 h3
    by_cases c : (histR L).length = t.size
    · have hr : ((histR L).length == t.size) = true := by simpa using c
      rw [hr, Bool.true_and, List.all_eq_false]
      refine ⟨cntH (L.map RN.st) 0 j, by simpa using hlt, ?_⟩
      rcases h4 with h4 | h4
      · omega
      · rw [past_eq hu h2] at h4
        unfold pstP
        rw [List.getD_eq_getElem?_getD, histR_get h2 h3]
        simpa using h4
    · have hr : ((histR L).length == t.size) = false := by simpa using c
      rw [hr, Bool.false_and]
  · rw [e]
    simp only [Nat.zero_add]
    rw [← histR_len]
    by_cases c : (histR L).length = t.size
    · have h1 : (((histR L).length : Int) != (t.size : Int)) = false := by simp; omega
      have hr : ((histR L).length == t.size) = true := by simpa using c
      rw [h1, hr, Bool.true_and]
      simp only [Bool.false_eq_true, if_false]
      symm
      rw [List.all_eq_true]
      intro k hk
      have hk' : k < (histR L).length := by simpa using hk
      have hg : (histR L)[k]? = some (histR L)[k] := List.getElem?_eq_getElem hk'
      have hm : (histR L)[k] ∈ histR L := List.getElem_mem hk'
      generalize (histR L)[k] = j at hm hg
      have hm2 := hm
      unfold histR at hm2
      rw [List.mem_filter] at hm2
      have hjl : j < L.length := by simpa using hm2.1
      have hjh : hist (L.map RN.st) j = true := by rw [hist_rn hjl]; exact hm2.2
      have hr2 := histR_get hjl hjh
      have hnd : (histR L).Nodup := by unfold histR; exact List.Pairwise.filter _ List.nodup_range
      have hkk : cntH (L.map RN.st) 0 j = k := (List.getElem?_inj (cntH_lt hjl hjh) hnd).1 (hr2.trans hg.symm)
      have := (g j (Nat.zero_le _) (by omega) hjh).2
      rw [Nat.sub_zero, hkk, Nat.zero_add, past_eq hu hjl] at this
      unfold pstP
      rw [List.getD_eq_getElem?_getD, hg]
      exact this
    · have h1 : (((histR L).length : Int) != (t.size : Int)) = true := by simp; omega
      have hr : ((histR L).length == t.size) = false := by simpa using c
      rw [h1, hr, Bool.false_and]
      simp

theorem tmF_spec (t : ByteArray) : ∀ (f k : Nat), t.size ≤ k + f → k % 2 = 0 → t.size % 2 = 0 → tmF t f k = (List.range' k (t.size - k)).all (sentK t) := by
  intro f
  induction f using Nat.strongRecOn with
  | ind f ih =>
    intro k h1 h2 h3
    match f, ih with
    | 0, _ =>
      have : t.size - k = 0 := by omega
      rw [this]; rfl
    | f + 1, ih =>
      simp only [tmF]
      by_cases c : k + 1 < t.size
      · rw [if_pos c]
        have e : t.size - k = (t.size - (k + 2)) + 1 + 1 := by omega
        rw [e, List.range'_succ, List.range'_succ, List.all_cons, List.all_cons]
        have s0 : sentK t k = isEv (peek t k) := by unfold sentK; rw [h2]; rfl
        have s1 : sentK t (k + 1) = isDg 49 (peek t (k + 1)) := by
          unfold sentK
          have : (k + 1) % 2 = 1 := by omega
          rw [this]; rfl
        rw [s0, s1]
        have hd : (!decide (peek t (k + 1) < 49) && !decide (57 < peek t (k + 1))) = isDg 49 (peek t (k + 1)) := by
          unfold isDg
          rw [Bool.eq_iff_iff]; simp
        rw [Bool.and_assoc, hd, ← Bool.and_assoc]
        have := ih f (by omega) (k + 2) (by omega) (by omega) h3
        rw [this]
        cases isEv (peek t k) && isDg 49 (peek t (k + 1)) <;> simp
      · rw [if_neg c]
        have : t.size - k = 0 := by omega
        rw [this]; rfl
theorem sent_eq (t : ByteArray) : areTm t = sentR t := by
  unfold areTm sentR
  have hm : (((t.size : Int) % 2 != 0) || decide (16 < t.size)) = (decide (16 < t.size) || t.size % 2 == 1) := by
    rw [Bool.or_comm]
    congr 1
    rw [Bool.eq_iff_iff]; simp; omega
  rw [hm]
  cases c : (decide (16 < t.size) || t.size % 2 == 1) with
  | true => simp
  | false =>
    simp only [Bool.false_eq_true, if_false, Bool.not_false, Bool.true_and]
    have : t.size % 2 = 0 := by
      simp at c; omega
    rw [tmF_spec t t.size 0 (by omega) rfl this, List.range_eq_range', Nat.sub_zero]

theorem same0 (n : Nat) : SameOn n (List.replicate n false) noSet := by
  refine ⟨by simp, by simp [noSet], fun k => ?_⟩
  unfold onAt bit noSet
  simp only [List.getD_eq_getElem?_getD, List.getElem?_replicate]
  split <;> split <;> rfl
/-- Is it a state of this chart: as the reference says, so says the program. -/
theorem legal_eq {L : List RN} {r : Rs} (hN : NR L r) (hu : Uniq L) (h16 : L.length ≤ 16) (a p tm : ByteArray) (x y z : Int) : (take (L.map RN.st) a p tm x y z).1 = legalR L a p tm x y z := by
  have hA : (takeActV (L.map RN.st) a).2 = match spreadR L a with | none => false | some on => (List.range L.length).all (fitsR L on) := by
    unfold takeActV takeAct spreadR
    rcases spreadF_eq (t := a) h16 a.size 0 (-1) _ _ (same0 L.length) (by omega) with ⟨e1, e2⟩ | ⟨on, l, e1, e2, hs⟩
    · rw [e1, e2]
    · rw [e1, e2]
      simp only
      have : allFit (L.map RN.st) l (L.map RN.st).length = (List.range L.length).all (fitsR L on) := by
        unfold allFit
        rw [List.length_map, Bool.eq_iff_iff, List.all_eq_true, List.all_eq_true]
        constructor
        · intro h i hi; rw [← fits_eq hN hs (by simpa using hi)]; exact h i hi
        · intro h i hi; rw [fits_eq hN hs (by simpa using hi)]; exact h i hi
      rw [this]
      cases (List.range L.length).all (fitsR L on) <;> rfl
  unfold take legalR
  rw [hA, rem_eq hu h16, sent_eq]
  cases spreadR L a with
  | none => rfl
  | some on =>
    have key : ∀ (b1 b2 b3 b4 b5 b6 : Bool) (s1 s2 : Sd), (if b1 = true then if b2 = true then if (b3 && b4 && b5 && b6) = true then (true, s1) else (false, s2) else (false, s2) else (false, s2)).1 = (b1 && (b2 && b3 && b4 && b5 && b6)) := by
      intro b1 b2 b3 b4 b5 b6 s1 s2
      cases b1 <;> cases b2 <;> cases b3 <;> cases b4 <;> cases b5 <;> cases b6 <;> rfl
    exact key _ _ _ _ _ _ _ _
theorem uniq_of {L : List RN} (h : ∀ j, j < L.length → dupR L j = false) : Uniq L := by
  have key : ∀ i j, i < j → j < L.length → (rnAt L i).name ≠ (rnAt L j).name := by
    intro i j hij hj e
    have := h j hj
    unfold dupR at this
    rw [List.any_eq_false] at this
    have hi : i < L.length := by omega
    have := this L[i] (by rw [List.mem_take_iff_getElem]; exact ⟨i, by omega, rfl⟩)
    rw [rnAt_of (List.getElem?_eq_getElem hi)] at e
    simp [e] at this
  intro i j hi hj e
  rcases Nat.lt_trichotomy i j with h' | h' | h'
  · exact absurd e (key i j h' hj)
  · exact h'
  · exact absurd e.symm (key j i h' hi)
theorem uniq_judge {L : List RN} {r : Rs} (hN : NR L r) (h : (judge r.sts r.uses).1 = 0) : Uniq L ∧ L.length ≤ 16 := by
  rw [← fault_eq hN] at h
  unfold faultR at h
  split at h
  · simp at h
  · rename_i c
    refine ⟨uniq_of ?_, by omega⟩
    cases e : (List.range L.length).find? (dupR L) with
    | some i => rw [e] at h; simp at h
    | none =>
      rw [List.find?_eq_none] at e
      intro j hj
      have := e j (by simpa using hj)
      simpa using this
end Ch
end Go.Proofs.YtnlbchmfcebeeaaGreat
