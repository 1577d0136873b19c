import Derived.Test.YtnlbchmfcebeeaaGreatTXe
import Derived.Test.YtnlbchmfcebeeaaGreatTE1
import Derived.Test.YtnlbchmfcebeeaaGreatTF2
set_option maxHeartbeats 12800000
set_option maxRecDepth 100000
namespace Go.Proofs.YtnlbchmfcebeeaaGreat
namespace Ch
/-! Above and below. -/
theorem abvF_more {ss : List St} (hu : Up ss) (h : Int) : ∀ (f : Nat) (i : Int), (i + 1).toNat ≤ f → abvF ss h f i = isAbove ss h i := by
 have key : ∀ (n f g : Nat) (i : Int), (i + 1).toNat ≤ n → (i + 1).toNat ≤ f → (i + 1).toNat ≤ g → abvF ss h f i = abvF ss h g i := by
  intro n
  induction n with
  | zero =>
    intro f g i h0 _ _; rw [abvF_end ss h f (by omega), abvF_end ss h g (by omega)]
  | succ n ih => ?_
  intro f g i h0 h1 h2
  by_cases c : -1 < i
  ·match f, g, h1, h2 with
   | 0, _, h1, _ => omega
   | _ + 1, 0, _, h2 => omega
   | f + 1, g + 1, h1, h2 =>
     simp only [abvF, c, decide_true, if_true]; have := par_lt hu c; rw [ih f g (parAt ss i) (by omega) (by omega) (by omega)]
  rw [abvF_end ss h f c, abvF_end ss h g c]
 intro f i hf; exact key f f _ i hf hf (Nat.le_refl _)
theorem abv_step {ss : List St} (hu : Up ss) (h : Int) {i : Int} (hi : 0 ≤ i) : isAbove ss h i = (parAt ss i == h || isAbove ss h (parAt ss i)) := by
 have e : isAbove ss h i = abvF ss h (i.toNat + 1) i := by unfold isAbove; rw [show (i + 1).toNat = i.toNat + 1 by omega]
 rw [e]; simp only [abvF, show -1 < i by omega, decide_true, if_true]; have := par_lt hu (i := i) (by omega); rw [abvF_more hu h _ _ (by omega)]
 cases parAt ss i == h <;> simp
theorem abv_neg (ss : List St) (h : Int) {i : Int} (hi : i < 0) : isAbove ss h i = false := abvF_end ss h _ (by omega)
theorem up_ind {ss : List St} (hu : Up ss) {P : Int → Prop} (h0 : P (-1)) (h1 : ∀ i, 0 ≤ i → P (parAt ss i) → P i) : ∀ i, -1 ≤ i → P i := by
 have : ∀ (n : Nat) (i : Int), -1 ≤ i → i < n → P i := by
  intro n
  induction n with
  | zero => intro i h2 h3; have : i = -1 := by omega
            rw [this]; exact h0
  | succ n ih => ?_
  intro i h2 h3
  by_cases c : 0 ≤ i
  ·have a := par_lt hu (i := i) (by omega)
   have b := par_low hu i; exact h1 i c (ih _ b (by omega))
  have : i = -1 := by omega
  rw [this]; exact h0
 intro i hi; exact this (i + 1).toNat i hi (by omega)
theorem abv_lt {ss : List St} (hu : Up ss) {h i : Int} (hi : -1 ≤ i) : isAbove ss h i = true → -1 ≤ h ∧ h < i := by
 refine up_ind hu (P := fun i => isAbove ss h i = true → -1 ≤ h ∧ h < i) ?_ ?_ i hi
 ·intro e; rw [abv_neg ss h (by omega)] at e; cases e
 intro i h0 ih e; rw [abv_step hu h h0] at e; have a := par_lt hu (i := i) (by omega); have b := par_low hu i
 rcases Bool.or_eq_true _ _ ▸ e with e | e
 ·have : parAt ss i = h := by simpa using e
  omega
 have := ih e; omega
theorem abv_lt' {ss : List St} (hu : Up ss) {h i : Int} (e : isAbove ss h i = true) : -1 ≤ h ∧ h < i := by
 by_cases c : 0 ≤ i
 ·exact abv_lt hu (by omega) e
 rw [abv_neg ss h (by omega)] at e; cases e
theorem abv_trans {ss : List St} (hu : Up ss) {a b c : Int} (hab : isAbove ss a b = true) (hc : -1 ≤ c) : isAbove ss b c = true → isAbove ss a c = true := by
 refine up_ind hu (P := fun c => isAbove ss b c = true → isAbove ss a c = true) ?_ ?_ c hc
 ·intro e; rw [abv_neg ss b (by omega)] at e; cases e
 intro i h0 ih e; rw [abv_step hu b h0] at e; rw [abv_step hu a h0]
 rcases Bool.or_eq_true _ _ ▸ e with e | e
 ·have : parAt ss i = b := by simpa using e
  rw [this, hab]; simp
 rw [ih e]; simp
theorem abv_tr {ss : List St} (hu : Up ss) {a b c : Int} (hab : isAbove ss a b = true) (hbc : isAbove ss b c = true) : isAbove ss a c = true :=
 abv_trans hu hab (by have := abv_lt' hu hbc; omega) hbc
theorem abv_comp {ss : List St} (hu : Up ss) {a b c : Int} (hc : -1 ≤ c) : isAbove ss a c = true → isAbove ss b c = true → a = b ∨ isAbove ss a b = true ∨ isAbove ss b a = true := by
 refine up_ind hu (P := fun c => isAbove ss a c = true → isAbove ss b c = true → a = b ∨ isAbove ss a b = true ∨ isAbove ss b a = true) ?_ ?_ c hc
 ·intro e; rw [abv_neg ss a (by omega)] at e; cases e
 intro i h0 ih e1 e2; rw [abv_step hu a h0] at e1; rw [abv_step hu b h0] at e2
 rcases Bool.or_eq_true _ _ ▸ e1 with e1 | e1 <;> rcases Bool.or_eq_true _ _ ▸ e2 with e2 | e2
 ·left; have p1 : parAt ss i = a := by simpa using e1
  have p2 : parAt ss i = b := by simpa using e2
  omega
 ·have p1 : parAt ss i = a := by simpa using e1
  rw [p1] at e2; exact .inr (.inr e2)
 ·have p2 : parAt ss i = b := by simpa using e2
  rw [p2] at e1; exact .inr (.inl e1)
 exact ih e1 e2
theorem abv_cmp {ss : List St} (hu : Up ss) {a b c : Int} (h1 : isAbove ss a c = true) (h2 : isAbove ss b c = true) : a = b ∨ isAbove ss a b = true ∨ isAbove ss b a = true :=
 abv_comp hu (by have := abv_lt' hu h1; omega) h1 h2
theorem abv_doc {ss : List St} (hu : Up ss) {i : Int} (hi : -1 ≤ i) : 0 ≤ i → isAbove ss (-1) i = true := by
 refine up_ind hu (P := fun i => 0 ≤ i → isAbove ss (-1) i = true) ?_ ?_ i hi
 ·intro h; omega
 intro i h0 ih _; rw [abv_step hu _ h0]
 by_cases c : parAt ss i = -1
 ·rw [c]; rfl
 have := par_low hu i; rw [ih (by omega)]; simp
structure Shp (ss : List St) : Prop where
 up : Up ss
 ne : 0 < ss.length
 root : ∀ k : Nat, k < ss.length → parAt ss k = -1 → k = 0
 pre : ∀ k : Nat, k + 1 < ss.length → parAt ss ((k + 1 : Nat) : Int) = k ∨ isAbove ss (parAt ss ((k + 1 : Nat) : Int)) k = true
 pk : ∀ k : Nat, 0 < k → k < ss.length → kindAt ss (parAt ss k) = 2 ∨ kindAt ss (parAt ss k) = 3
 kid : ∀ k : Nat, k < ss.length → kindAt ss k = 2 ∨ kindAt ss k = 3 → ∃ j : Nat, j < ss.length ∧ isChild ss j k = true
 hs : ∀ k : Nat, k < ss.length → kindAt ss k = 5 ∨ kindAt ss k = 4 → 0 < k ∧ kindAt ss (parAt ss k) = 2
theorem child_iff {ss : List St} {k : Nat} (hk : k < ss.length) (p : Int) : isChild ss k p = (parAt ss k == p && kindAt ss k != 5) := by
 unfold isChild parAt kindAt; rw [stAt_nat, List.getElem?_eq_getElem hk]
theorem child_in {ss : List St} {k : Nat} {p : Int} (h : isChild ss k p = true) : k < ss.length ∧ parAt ss k = p ∧ kindAt ss k ≠ 5 := by
 have hk : k < ss.length := by
  unfold isChild at h; rw [stAt_nat] at h
  cases q : ss[k]? with
  | none => rw [q] at h; cases h
  | some s => exact (List.getElem?_eq_some_iff.1 q).1
 rw [child_iff hk] at h; simp only [Bool.and_eq_true, beq_iff_eq, bne_iff_ne] at h; exact ⟨hk, h.1, h.2⟩
theorem child_of {ss : List St} {k : Nat} {p : Int} (hk : k < ss.length) (h1 : parAt ss k = p) (h2 : kindAt ss k ≠ 5) : isChild ss k p = true := by
 rw [child_iff hk]; simp [h1, h2]
theorem Shp.par {ss : List St} (h : Shp ss) {k : Nat} (h0 : 0 < k) (hk : k < ss.length) : ∃ p : Nat, parAt ss k = p ∧ p < k := by
 have a := par_low h.up k; have b := par_lt h.up (i := k) (by omega)
 have c : parAt ss k ≠ -1 := fun e => by have := h.root k hk e; omega
 exact ⟨(parAt ss k).toNat, by omega, by omega⟩
theorem Shp.root0 {ss : List St} (h : Shp ss) : parAt ss ((0 : Nat) : Int) = -1 := by
 have a := par_low h.up ((0 : Nat) : Int); have b := par_lt h.up (i := ((0 : Nat) : Int)) (by omega); omega
theorem Shp.mid {ss : List St} (h : Shp ss) (i : Int) : ∀ (d k j : Nat), k < ss.length → k = j + d → isAbove ss i k = true → i < j → isAbove ss i j = true := by
 intro d
 induction d with
 | zero => intro k j _ e ha _; have : k = j := by omega
           rw [← this]; exact ha
 | succ d ih => ?_
 intro k j hk e ha hi
 obtain ⟨m, rfl⟩ : ∃ m, k = m + 1 := ⟨k - 1, by omega⟩
 refine ih m j (by omega) (by omega) ?_ hi; rw [abv_step h.up _ (by omega)] at ha
 rcases h.pre m hk with hp | hp
 ·rw [hp] at ha
  rcases Bool.or_eq_true _ _ ▸ ha with ha | ha
  ·have : (m : Int) = i := by simpa using ha
   omega
  exact ha
 rcases Bool.or_eq_true _ _ ▸ ha with ha | ha
 ·have : parAt ss ((m + 1 : Nat) : Int) = i := by simpa using ha
  rw [this] at hp; exact hp
 exact abv_tr h.up ha hp
theorem Shp.sib {ss : List St} (h : Shp ss) {a b x : Nat} {p : Int} (ha : isChild ss a p = true) (hb : isChild ss b p = true) (hab : a < b) (hx : x = a ∨ isAbove ss a x = true) (hxl : x < ss.length) : x < b := by
 rcases Nat.lt_or_ge x b with q | q
 ·exact q
 exfalso
 have hab' : isAbove ss (a : Int) b = true := by
  rcases hx with rfl | hx
  ·omega
  exact h.mid a (x - b) x b hxl (by omega) hx (by omega)
 rw [abv_step h.up _ (by omega), (child_in hb).2.1, ← (child_in ha).2.1] at hab'; have hl := par_lt h.up (i := (a : Int)) (by omega)
 rcases Bool.or_eq_true _ _ ▸ hab' with e | e
 ·have : parAt ss a = a := by simpa using e
  omega
 have := abv_lt' h.up e; omega
theorem Shp.toward {ss : List St} (h : Shp ss) {p : Int} {g : Int} (hg : -1 ≤ g) : isAbove ss p g = true → g < ss.length → (0 ≤ g → kindAt ss g ≠ 5) → ∃ c : Nat, isChild ss c p = true ∧ ((c : Int) = g ∨ isAbove ss c g = true) := by
 refine up_ind h.up (P := fun g => isAbove ss p g = true → g < ss.length → (0 ≤ g → kindAt ss g ≠ 5) → ∃ c : Nat, isChild ss c p = true ∧ ((c : Int) = g ∨ isAbove ss c g = true)) ?_ ?_ g hg
 ·intro e; rw [abv_neg ss p (by omega)] at e; cases e
 intro i h0 ih e hl hk; rw [abv_step h.up _ h0] at e
 obtain ⟨k, rfl⟩ : ∃ k : Nat, i = k := ⟨i.toNat, by omega⟩
 rcases Bool.or_eq_true _ _ ▸ e with e | e
 ·exact ⟨k, child_of (by omega) (by simpa using e) (hk (by omega)), .inl rfl⟩
 have hlt := par_lt h.up (i := (k : Int)) (by omega)
 have hp : kindAt ss (parAt ss k) ≠ 5 := by
  by_cases c : k = 0
  ·subst c; rw [h.root0] at e; rw [abv_neg ss p (by omega)] at e; cases e
  have := h.pk k (by omega) (by omega); omega
 obtain ⟨c, hc, hcg⟩ := ih e (by omega) (fun _ => hp); refine ⟨c, hc, .inr ?_⟩; rw [abv_step h.up _ (by omega)]
 rcases hcg with hcg | hcg
 ·rw [hcg]; simp
 rw [hcg]; simp
theorem Shp.toward_one {ss : List St} (h : Shp ss) {p : Int} {a b : Nat} {g : Int} (ha : isChild ss a p = true) (hb : isChild ss b p = true) (hag : (a : Int) = g ∨ isAbove ss a g = true) (hbg : (b : Int) = g ∨ isAbove ss b g = true) (hl : g < ss.length) : a = b := by
 have hg : 0 ≤ g := by
  rcases hag with e | e
  ·omega
  have := abv_lt' h.up e; omega
 obtain ⟨k, rfl⟩ : ∃ k : Nat, g = k := ⟨g.toNat, by omega⟩
 rcases Nat.lt_trichotomy a b with q | q | q
 ·have := h.sib ha hb q (x := k) (by rcases hag with e | e; exact .inl (by omega); exact .inr e) (by omega)
  rcases hbg with e | e
  ·omega
  have := abv_lt' h.up e; omega
 ·exact q
 have := h.sib hb ha q (x := k) (by rcases hbg with e | e; exact .inl (by omega); exact .inr e) (by omega)
 rcases hag with e | e
 ·omega
 have := abv_lt' h.up e; omega
/-! The reference's next: all that is active in the end. -/
def kidsS (ss : List St) (i : Nat) : List Nat := (List.range ss.length).filter fun (j : Nat) => isChild ss j i
def hitG (ss : List St) (goals : List Int) (k : Nat) : Bool := goals.any fun g => decide (0 ≤ g) && (g == (k : Int) || isAbove ss k g)
def lastP (p : Nat → Bool) (c : Nat) (l : List Nat) : Nat := l.foldl (fun c k => if p k then k else c) c
def pickR (ss : List St) (S : Nat → Bool) (goals : List Int) (i : Nat) : Nat := lastP S (lastP (hitG ss goals) ((kidsS ss i).headD 0) (kidsS ss i)) (kidsS ss i)
def nextR (ss : List St) (S : Nat → Bool) (goals : List Int) : Nat → Nat → List Nat
 | 0, _ => []
 | f + 1, i => i :: (if kindAt ss i == 2 then nextR ss S goals f (pickR ss S goals i) else if kindAt ss i == 3 then (kidsS ss i).flatMap (nextR ss S goals f) else [])
theorem lastP_cases (p : Nat → Bool) : ∀ (l : List Nat) (c : Nat), (lastP p c l = c ∧ ∀ k ∈ l, p k = false) ∨ (lastP p c l ∈ l ∧ p (lastP p c l) = true) := by
 intro l
 induction l with
 | nil => intro c; exact .inl ⟨rfl, by simp⟩
 | cons a l ih => ?_
 intro c; show (lastP p (if p a then a else c) l = c ∧ _) ∨ (lastP p (if p a then a else c) l ∈ a :: l ∧ p (lastP p (if p a then a else c) l) = true)
 rcases ih (if p a then a else c) with ⟨e, h⟩ | ⟨h1, h2⟩
 ·cases q : p a with
  | true =>
    rw [q] at e; simp only [if_true] at e ⊢; rw [e]; exact .inr ⟨by simp, q⟩
  | false =>
    rw [q] at e; simp only [Bool.false_eq_true, if_false] at e ⊢; refine .inl ⟨e, fun k hk => ?_⟩
    rcases List.mem_cons.1 hk with rfl | hk
    ·exact q
    exact h k hk
 exact .inr ⟨List.mem_cons_of_mem _ h1, h2⟩
theorem mem_kids {ss : List St} {i j : Nat} : j ∈ kidsS ss i ↔ isChild ss j i = true := by
 unfold kidsS; rw [List.mem_filter]; exact ⟨fun h => h.2, fun h => ⟨by simpa using (child_in h).1, h⟩⟩
theorem kids_sorted (ss : List St) (i : Nat) : (kidsS ss i).Pairwise (· < ·) := by
 unfold kidsS; exact List.Pairwise.filter _ List.pairwise_lt_range
def Goes (ss : List St) (S : Nat → Bool) (goals : List Int) (p c : Nat) : Prop := isChild ss c p = true ∧ (kindAt ss p = 3 ∨ (kindAt ss p = 2 ∧ c = pickR ss S goals p))
theorem pick_kid {ss : List St} (h : Shp ss) (S : Nat → Bool) (goals : List Int) {i : Nat} (hi : i < ss.length) (hk : kindAt ss i = 2) : isChild ss (pickR ss S goals i) i = true := by
 obtain ⟨j, hj, hc⟩ := h.kid i hi (.inl hk); have hj' := mem_kids.2 hc
 have hh : (kidsS ss i).headD 0 ∈ kidsS ss i := by
  cases q : kidsS ss i with
  | nil => rw [q] at hj'; cases hj'
  | cons a l => simp
 rw [← mem_kids]; unfold pickR
 rcases lastP_cases (hitG ss goals) (kidsS ss i) ((kidsS ss i).headD 0) with ⟨e, _⟩ | ⟨e, _⟩
 ·rw [e]
  rcases lastP_cases S (kidsS ss i) ((kidsS ss i).headD 0) with ⟨e, _⟩ | ⟨e, _⟩
  ·rw [e]; exact hh
  exact e
 rcases lastP_cases S (kidsS ss i) (lastP (hitG ss goals) ((kidsS ss i).headD 0) (kidsS ss i)) with ⟨e2, _⟩ | ⟨e2, _⟩
 ·rw [e2]; exact e
 exact e2
theorem kid_lt {ss : List St} (h : Shp ss) {c i : Nat} (hc : isChild ss c i = true) : i < c ∧ c < ss.length := by
 obtain ⟨h1, h2, _⟩ := child_in hc; have := par_lt h.up (i := (c : Int)) (by omega); omega
theorem kid_abv {ss : List St} (h : Shp ss) {c i : Nat} (hc : isChild ss c i = true) : isAbove ss i c = true := by
 rw [abv_step h.up _ (by omega), (child_in hc).2.1]; simp
theorem next_mem {ss : List St} (h : Shp ss) (S : Nat → Bool) (goals : List Int) : ∀ (f i : Nat), i < ss.length → ss.length ≤ i + f →
 (∀ j ∈ nextR ss S goals f i, j = i ∨ ∃ p ∈ nextR ss S goals f i, Goes ss S goals p j) ∧
 (∀ p ∈ nextR ss S goals f i, ∀ c, Goes ss S goals p c → c ∈ nextR ss S goals f i) ∧
 (∀ j ∈ nextR ss S goals f i, j < ss.length ∧ (j = i ∨ isAbove ss i j = true)) ∧ i ∈ nextR ss S goals f i ∧ (nextR ss S goals f i).Pairwise (· < ·) := by
 intro f
 induction f with
 | zero => intro i h1 h2; omega
 | succ f ih => ?_
 intro i hi hf; simp only [nextR]
 by_cases k2 : kindAt ss i = 2
 ·have hkid := pick_kid h S goals hi k2
  have hlt := kid_lt h hkid; obtain ⟨a1, a2, a3, a4, a5⟩ := ih (pickR ss S goals i) hlt.2 (by omega); rw [if_pos (by simpa using k2)]; refine ⟨?_, ?_, ?_, by simp, ?_⟩
  ·intro j hj
   rcases List.mem_cons.1 hj with rfl | hj
   ·exact .inl rfl
   rcases a1 j hj with rfl | ⟨p, hp, hg⟩
   ·exact .inr ⟨i, by simp, hkid, .inr ⟨k2, rfl⟩⟩
   exact .inr ⟨p, List.mem_cons_of_mem _ hp, hg⟩
  ·intro p hp c hg
   rcases List.mem_cons.1 hp with rfl | hp
   ·rcases hg.2 with e | ⟨_, e⟩
    ·omega
    rw [e]; exact List.mem_cons_of_mem _ a4
   exact List.mem_cons_of_mem _ (a2 p hp c hg)
  ·intro j hj
   rcases List.mem_cons.1 hj with rfl | hj
   ·exact ⟨hi, .inl rfl⟩
   refine ⟨(a3 j hj).1, .inr ?_⟩
   rcases (a3 j hj).2 with e | e
   ·rw [e]; exact kid_abv h hkid
   exact abv_tr h.up (kid_abv h hkid) e
  rw [List.pairwise_cons]; refine ⟨fun j hj => ?_, a5⟩
  rcases (a3 j hj).2 with e | e
  ·omega
  have := abv_lt' h.up e; omega
 by_cases k3 : kindAt ss i = 3
 ·rw [if_neg (by simpa using k2), if_pos (by simpa using k3)]
  have ih' : ∀ c, c ∈ kidsS ss i → _ := fun c hc => ih c (kid_lt h (mem_kids.1 hc)).2 (by have := kid_lt h (mem_kids.1 hc); omega)
  refine ⟨?_, ?_, ?_, by simp, ?_⟩
  ·intro j hj
   rcases List.mem_cons.1 hj with rfl | hj
   ·exact .inl rfl
   obtain ⟨c, hc, hj⟩ := List.mem_flatMap.1 hj
   rcases (ih' c hc).1 j hj with rfl | ⟨p, hp, hg⟩
   ·exact .inr ⟨i, by simp, mem_kids.1 hc, .inl k3⟩
   exact .inr ⟨p, List.mem_cons_of_mem _ (List.mem_flatMap.2 ⟨c, hc, hp⟩), hg⟩
  ·intro p hp c hg
   rcases List.mem_cons.1 hp with rfl | hp
   ·exact List.mem_cons_of_mem _ (List.mem_flatMap.2 ⟨c, mem_kids.2 hg.1, (ih' c (mem_kids.2 hg.1)).2.2.2.1⟩)
   obtain ⟨d, hd, hp⟩ := List.mem_flatMap.1 hp; exact List.mem_cons_of_mem _ (List.mem_flatMap.2 ⟨d, hd, (ih' d hd).2.1 p hp c hg⟩)
  ·intro j hj
   rcases List.mem_cons.1 hj with rfl | hj
   ·exact ⟨hi, .inl rfl⟩
   obtain ⟨c, hc, hj⟩ := List.mem_flatMap.1 hj; have a3 := (ih' c hc).2.2.1 j hj; refine ⟨a3.1, .inr ?_⟩
   rcases a3.2 with e | e
   ·rw [e]; exact kid_abv h (mem_kids.1 hc)
   exact abv_tr h.up (kid_abv h (mem_kids.1 hc)) e
  rw [List.pairwise_cons]; refine ⟨fun j hj => ?_, ?_⟩
  ·obtain ⟨c, hc, hj⟩ := List.mem_flatMap.1 hj
   have a3 := (ih' c hc).2.2.1 j hj; have := kid_lt h (mem_kids.1 hc)
   rcases a3.2 with e | e
   ·omega
   have := abv_lt' h.up e; omega
  rw [List.pairwise_flatMap]; refine ⟨fun c hc => (ih' c hc).2.2.2.2, ?_⟩; have hs := kids_sorted ss i; refine List.Pairwise.imp_of_mem (fun {a b} ha hb hab x hx y hy => ?_) hs; have hx' := (ih' a ha).2.2.1 x hx; have hy' := (ih' b hb).2.2.1 y hy; have := h.sib (mem_kids.1 ha) (mem_kids.1 hb) hab hx'.2 hx'.1
  rcases hy'.2 with e | e
  ·omega
  have := abv_lt' h.up e; omega
 rw [if_neg (by simpa using k2), if_neg (by simpa using k3)]; refine ⟨?_, ?_, ?_, by simp, by simp⟩
 ·intro j hj; simp at hj; exact .inl hj
 ·intro p hp c hg; simp at hp; subst hp; rcases hg.2 with e | ⟨e, _⟩ <;> omega
 intro j hj; simp at hj; subst hj; exact ⟨hi, .inl rfl⟩
structure Ent (ss : List St) (S : Nat → Bool) (goals : List Int) : Prop where
 lt : ∀ i, S i = true → i < ss.length
 upc : ∀ i p : Nat, S i = true → parAt ss i = p → S p = true
 hist : ∀ i, S i = true → kindAt ss i ≠ 5
 one : ∀ p i j : Nat, kindAt ss p = 2 → isChild ss i p = true → isChild ss j p = true → S i = true → S j = true → i = j
 rng : ∀ g ∈ goals, 0 ≤ g ∧ g < ss.length ∧ kindAt ss g ≠ 5
 uni : ∀ p : Nat, kindAt ss p = 2 → (∀ i : Nat, isChild ss i p = true → S i = false) → ∀ g1 ∈ goals, ∀ g2 ∈ goals, isAbove ss p g1 = true → isAbove ss p g2 = true → g1 = g2
def inN (ss : List St) (S : Nat → Bool) (goals : List Int) (k : Nat) : Bool := (nextR ss S goals ss.length 0).contains k
theorem inN_mem {ss : List St} {S : Nat → Bool} {goals : List Int} {k : Nat} : inN ss S goals k = true ↔ k ∈ nextR ss S goals ss.length 0 := by
 unfold inN; exact List.contains_iff_mem
theorem inN_root {ss : List St} (h : Shp ss) (S : Nat → Bool) (goals : List Int) : inN ss S goals 0 = true :=
 inN_mem.2 (next_mem h S goals ss.length 0 h.ne (by omega)).2.2.2.1
theorem inN_step {ss : List St} (h : Shp ss) (S : Nat → Bool) (goals : List Int) {k p : Nat} (hp : parAt ss k = p) : inN ss S goals k = true ↔ inN ss S goals p = true ∧ Goes ss S goals p k := by
 obtain ⟨a1, a2, a3, _, _⟩ := next_mem h S goals ss.length 0 h.ne (by omega); rw [inN_mem, inN_mem]
 constructor
 ·intro hk
  rcases a1 k hk with rfl | ⟨q, hq, hg⟩
  ·rw [h.root0] at hp; omega
  have := (child_in hg.1).2.1; rw [hp] at this
  have : p = q := by omega
  subst this; exact ⟨hq, hg⟩
 rintro ⟨h1, h2⟩; exact a2 p h1 k h2
theorem inN_lt {ss : List St} (h : Shp ss) {S : Nat → Bool} {goals : List Int} {k : Nat} (hk : inN ss S goals k = true) : k < ss.length :=
 ((next_mem h S goals ss.length 0 h.ne (by omega)).2.2.1 k (inN_mem.1 hk)).1
theorem next_eq {ss : List St} (h : Shp ss) (S : Nat → Bool) (goals : List Int) : nextR ss S goals ss.length 0 = (List.range ss.length).filter (inN ss S goals) := by
 have hs := (next_mem h S goals ss.length 0 h.ne (by omega)).2.2.2.2; have hr : ((List.range ss.length).filter (inN ss S goals)).Pairwise (· < ·) := List.Pairwise.filter _ List.pairwise_lt_range; refine List.Perm.eq_of_pairwise (le := (· < ·)) (fun a b _ _ h1 h2 => by omega) hs hr ?_; rw [List.perm_ext_iff_of_nodup (hs.imp (fun h => by omega)) (hr.imp (fun h => by omega))]; intro a; rw [List.mem_filter, inN_mem]
 constructor
 ·intro ha; exact ⟨by simpa using ((next_mem h S goals ss.length 0 h.ne (by omega)).2.2.1 a ha).1, ha⟩
 intro ha; exact ha.2
theorem pick_kept {ss : List St} {S : Nat → Bool} {goals : List Int} (hE : Ent ss S goals) {p c : Nat} (hk : kindAt ss p = 2) (hc : isChild ss c p = true) (hs : S c = true) : pickR ss S goals p = c := by
 unfold pickR
 rcases lastP_cases S (kidsS ss p) (lastP (hitG ss goals) ((kidsS ss p).headD 0) (kidsS ss p)) with ⟨_, e2⟩ | ⟨e1, e2⟩
 ·rw [e2 c (mem_kids.2 hc)] at hs; cases hs
 exact hE.one p _ c hk (mem_kids.1 e1) hc e2 hs
theorem stay_in {ss : List St} (h : Shp ss) {S : Nat → Bool} {goals : List Int} (hE : Ent ss S goals) : ∀ (n k : Nat), k < n → S k = true → inN ss S goals k = true := by
 intro n
 induction n with
 | zero => intro k hk; omega
 | succ n ih => ?_
 intro k hk hs; have hkl := hE.lt k hs
 by_cases c : k = 0
 ·subst c; exact inN_root h S goals
 obtain ⟨p, hp, hlt⟩ := h.par (by omega) hkl
 have hpl : p < ss.length := by omega
 have hc : isChild ss k p = true := child_of hkl hp (hE.hist k hs); refine (inN_step h S goals hp).2 ⟨ih p (by omega) (hE.upc k p hs hp), hc, ?_⟩
 rcases h.pk k (by omega) hkl with e | e <;> rw [hp] at e
 ·exact .inr ⟨e, (pick_kept hE e hc hs).symm⟩
 exact .inl e
theorem firstF_spec (ss : List St) (p : Int) : ∀ (f k : Nat), firstChildF ss p f k = match (List.range' k f).filter (fun (j : Nat) => isChild ss j p) with | [] => -2 | a :: _ => ((a : Nat) : Int) := by
 intro f
 induction f with
 | zero => intro k; rfl
 | succ f ih => ?_
 intro k; rw [List.range'_succ, List.filter_cons]; simp only [firstChildF]
 cases q : isChild ss k p with
 | true => simp
 | false => simp only [Bool.false_eq_true, if_false]; exact ih (k + 1)
theorem first_head {ss : List St} {p : Nat} (hne : kidsS ss p ≠ []) : firstChild ss p = ((kidsS ss p).headD 0 : Nat) := by
 unfold firstChild; rw [firstF_spec, ← List.range_eq_range']; show (match kidsS ss p with | [] => (-2 : Int) | a :: _ => ((a : Nat) : Int)) = _
 cases q : kidsS ss p with
 | nil => exact absurd q hne
 | cons a l => rfl
theorem pick_eq {ss : List St} (h : Shp ss) {S : Nat → Bool} {goals : List Int} (hE : Ent ss S goals) {p k : Nat} (_hp : p < ss.length) (hk2 : kindAt ss p = 2) (hc : isChild ss k p = true)
 (hno : ∀ i : Nat, isChild ss i p = true → S i = false) : pickF ss k p goals = decide (k = pickR ss S goals p) := by
 have hpick : pickR ss S goals p = lastP (hitG ss goals) ((kidsS ss p).headD 0) (kidsS ss p) := by
  unfold pickR
  rcases lastP_cases S (kidsS ss p) (lastP (hitG ss goals) ((kidsS ss p).headD 0) (kidsS ss p)) with ⟨e, _⟩ | ⟨e1, e2⟩
  ·exact e
  rw [hno _ (mem_kids.1 e1)] at e2; cases e2
 rw [hpick]
 have hne : kidsS ss p ≠ [] := fun e => by have := mem_kids.2 hc; rw [e] at this; cases this
 -- a child that is a goal or above one
 have hhit : ∀ j : Nat, isChild ss j p = true → hitG ss goals j = true → ∃ g ∈ goals, isAbove ss p g = true ∧ ((j : Int) = g ∨ isAbove ss j g = true) := by
  intro j hj hh; unfold hitG at hh; rw [List.any_eq_true] at hh; obtain ⟨g, hg, hh⟩ := hh; simp only [Bool.and_eq_true, decide_eq_true_eq, Bool.or_eq_true, beq_iff_eq] at hh; refine ⟨g, hg, ?_, by rcases hh.2 with e | e; exact .inl e.symm; exact .inr e⟩
  rcases hh.2 with e | e
  ·rw [e]; exact kid_abv h hj
  exact abv_tr h.up (kid_abv h hj) e
 have main : ∀ (l : List Int), (∀ g ∈ l, g ∈ goals) → (pickF ss k p l = true ↔ ((∀ g ∈ l, isAbove ss p g = false) ∧ (k : Int) = firstChild ss p) ∨ ∃ g ∈ l, isAbove ss p g = true ∧ ((k : Int) = g ∨ isAbove ss k g = true)) := by
  intro l
  induction l with
  | nil => intro _; simp [pickF]
  | cons g l ih => ?_
  intro hl; have ih := ih (fun x hx => hl x (by simp [hx])); simp only [pickF]
  cases q : isAbove ss p g with
  | true =>
    simp only [if_true, Bool.or_eq_true, beq_iff_eq]
    constructor
    ·intro hh; exact .inr ⟨g, by simp, q, hh⟩
    rintro (⟨h1, _⟩ | ⟨x, hx, h1, h2⟩)
    ·have := h1 g (by simp); rw [q] at this; cases this
    have : x = g := hE.uni p hk2 hno x (hl x hx) g (hl g (by simp)) h1 q; rw [this] at h2; exact h2
  | false => ?_
  simp only [Bool.false_eq_true, if_false]; rw [ih]
  constructor
  ·rintro (⟨h1, h2⟩ | ⟨x, hx, h1, h2⟩)
   ·exact .inl ⟨fun y hy => by rcases List.mem_cons.1 hy with rfl | hy; exact q; exact h1 y hy, h2⟩
   exact .inr ⟨x, by simp [hx], h1, h2⟩
  rintro (⟨h1, h2⟩ | ⟨x, hx, h1, h2⟩)
  ·exact .inl ⟨fun y hy => h1 y (by simp [hy]), h2⟩
  rcases List.mem_cons.1 hx with rfl | hx
  ·rw [q] at h1; cases h1
  exact .inr ⟨x, hx, h1, h2⟩
 have hm := main goals (fun _ h => h); rw [Bool.eq_iff_iff, hm, decide_eq_true_eq]
 rcases lastP_cases (hitG ss goals) (kidsS ss p) ((kidsS ss p).headD 0) with ⟨e, hz⟩ | ⟨e1, e2⟩
 ·rw [e]
  have hnone : ∀ g ∈ goals, isAbove ss p g = false := by
   intro g hg
   cases q : isAbove ss p g with
   | false => rfl
   | true => ?_
   have hr := hE.rng g hg; obtain ⟨c, hc', hcg⟩ := h.toward (by omega) q hr.2.1 (fun _ => hr.2.2)
   have : hitG ss goals c = true := by
    unfold hitG; rw [List.any_eq_true]; refine ⟨g, hg, ?_⟩; simp only [Bool.and_eq_true, decide_eq_true_eq, Bool.or_eq_true, beq_iff_eq]; exact ⟨hr.1, by rcases hcg with e | e; exact .inl e.symm; exact .inr e⟩
   rw [hz c (mem_kids.2 hc')] at this; cases this
  rw [first_head hne]
  constructor
  ·rintro (⟨_, h2⟩ | ⟨x, hx, h1, _⟩)
   ·omega
   rw [hnone x hx] at h1; cases h1
  intro hh; exact .inl ⟨hnone, by omega⟩
 obtain ⟨g, hg, hgp, hgc⟩ := hhit _ (mem_kids.1 e1) e2; have hr := hE.rng g hg
 constructor
 ·rintro (⟨h1, _⟩ | ⟨x, hx, h1, h2⟩)
  ·rw [h1 g hg] at hgp; cases hgp
  have : x = g := hE.uni p hk2 hno x hx g hg h1 hgp; subst this; exact h.toward_one hc (mem_kids.1 e1) h2 hgc hr.2.1
 intro hh; rw [← hh] at hgc; exact .inr ⟨g, hg, hgp, hgc⟩
/-! Acts turn neither what is active nor what is remembered. -/
def SameAP (a b : Sd) : Prop := a.act = b.act ∧ a.past = b.past
theorem SameAP.refl (a : Sd) : SameAP a a := ⟨rfl, rfl⟩
theorem SameAP.trans {a b c : Sd} (h : SameAP a b) (g : SameAP b c) : SameAP a c := ⟨h.1.trans g.1, h.2.trans g.2⟩
theorem setV_ap (s : Sd) (c n : Int) : SameAP (setV s c n) s := by
 unfold setV setVar
 split
 ·split
  ·exact .refl _
  split <;> exact ⟨rfl, rfl⟩
 exact .refl _
theorem doAct_ap (m : Ma) (a : Ac) : SameAP (doAct m a).2.s m.s := by
 unfold doAct
 split
 ·exact .refl _
 split
 ·unfold send; split <;> exact ⟨rfl, rfl⟩
 split
 ·exact ⟨rfl, rfl⟩
 split
 ·exact .refl _
 exact setV_ap _ _ _
theorem doActs_ap : ∀ (l : List Ac) (m : Ma), SameAP (doActs l m).s m.s := by
 intro l
 induction l with
 | nil => intro m; exact .refl _
 | cons a l ih => ?_
 intro m; simp only [doActs]
 split
 ·exact (ih _).trans (doAct_ap m a)
 exact doAct_ap m a
theorem doBls_ap (state sign : Int) : ∀ (l : List Bl) (m : Ma), SameAP (doBls state sign l m).s m.s := by
 intro l
 induction l with
 | nil => intro m; exact .refl _
 | cons b l ih => ?_
 intro m; simp only [doBls]; refine (ih _).trans ?_
 split
 ·exact doActs_ap _ _
 exact .refl _
theorem doTrs_ap (ol : Ol) : ∀ (l : List Int) (m : Ma), SameAP (doTrs ol l m).s m.s := by
 intro l
 induction l with
 | nil => intro m; exact .refl _
 | cons x l ih => intro m; simp only [doTrs]; exact (ih _).trans (doActs_ap _ _)
theorem bit_put {l : List Bool} {k : Nat} (hk : k < l.length) (v : Bool) (j : Nat) : bit (putB l (k : Int) v) j = if k = j then v else bit l j := by
 show (l.set k v).getD j false = _; unfold bit; simp only [List.getD_eq_getElem?_getD, List.getElem?_set]
 by_cases e : k = j
 ·subst e; rw [if_pos rfl, if_pos hk, if_pos rfl]; rfl
 rw [if_neg e, if_neg e]
theorem enterSt_act (ol : Ol) (m : Ma) (k : Nat) : (enterSt ol m k).s.act = putB m.s.act k true ∧ (enterSt ol m k).s.past = m.s.past := by
 have h := doBls_ap k 94 ol.bls (setAct m k true); unfold enterSt
 split
 ·rw [(tellEnd_s _ _ _).1]; exact h
 exact h
/-! Due is what is in the end and does not stay. -/
theorem kept_no {ss : List St} {stayed : List Bool} {p : Int} : kept ss stayed p = false ↔ ∀ i : Nat, isChild ss i p = true → bit stayed i = false := by
 unfold kept anyK; rw [List.any_eq_false]
 constructor
 ·intro h i hi
  have := h i (by simpa using (child_in hi).1); rw [has_nat, hi] at this; simpa using this
 intro h i _ hh; rw [has_nat] at hh; simp only [Bool.and_eq_true] at hh; rw [h i hh.2] at hh; simp at hh
theorem due_eq {ss : List St} (h : Shp ss) {act stayed : List Bool} {goals : List Int} (hE : Ent ss (bit stayed) goals) {k : Nat} (hk : k < ss.length)
 (ha : ∀ j : Nat, j < k → bit act j = inN ss (bit stayed) goals j) : isDue ss act stayed goals k = (inN ss (bit stayed) goals k && !bit stayed k) := by
 unfold isDue; rw [has_nat]
 cases hs : bit stayed k with
 | true => simp
 | false => ?_
 simp only [Bool.false_or, Bool.not_false, Bool.and_true]
 by_cases k0 : k = 0
 ·subst k0
  rw [h.root0, inN_root h]; have hc : isChild ss ((0 : Nat) : Int) (-1) = true := child_of hk h.root0 (fun e => by have := (h.hs 0 hk (.inl e)).1; omega); rw [hc]; have hkn : kindAt ss (-1) = 2 := rfl; rw [hkn]
  have hkept : kept ss stayed (-1) = false := by
   rw [kept_no]; intro i hi; have := h.root i (child_in hi).1 (child_in hi).2.1; subst this; exact hs
  rw [hkept]
  have hp : pickF ss ((0 : Nat) : Int) (-1) goals = true := by
   have : ∀ l : List Int, (∀ g ∈ l, 0 ≤ g ∧ g < ss.length) → pickF ss ((0 : Nat) : Int) (-1) l = true := by
    intro l hl
    cases l with
    | nil =>
      simp only [pickF, beq_iff_eq]; unfold firstChild
      obtain ⟨n, hn⟩ : ∃ n, ss.length = n + 1 := ⟨ss.length - 1, by have := h.ne; omega⟩
      rw [hn]; simp only [firstChildF]; rw [if_pos hc]
    | cons g l => ?_
    obtain ⟨hg, hgl⟩ := hl g (by simp); simp only [pickF]; rw [abv_doc h.up (by omega) hg, if_pos rfl]
    by_cases c : g = 0
    ·rw [c]; rfl
    have h1 := abv_doc h.up (i := g) (by omega) hg
    have : isAbove ss ((0 : Nat) : Int) g = true := by
     have key : ∀ i : Int, -1 ≤ i → 0 < i → i < ss.length → isAbove ss ((0 : Nat) : Int) i = true := by
      refine up_ind h.up (P := fun i => 0 < i → i < ss.length → isAbove ss ((0 : Nat) : Int) i = true) (fun h => by omega) ?_; intro i hi ih h0 hil; have b := par_lt h.up (i := i) (by omega); rw [abv_step h.up _ hi]; have a := par_low h.up i
      by_cases c1 : parAt ss i = 0
      ·rw [c1]; rfl
      by_cases c2 : parAt ss i = -1
      ·exfalso
       obtain ⟨n, rfl⟩ : ∃ n : Nat, i = n := ⟨i.toNat, by omega⟩
       have := h.root n (by omega) c2; omega
      rw [ih (by omega) (by omega)]; simp
     exact key g (by omega) (by omega) hgl
    rw [this]; simp
   exact this goals (fun g hg => ⟨(hE.rng g hg).1, (hE.rng g hg).2.1⟩)
  rw [hp]; rfl
 obtain ⟨p, hp, hlt⟩ := h.par (by omega) hk
 have hpl : p < ss.length := by omega
 rw [hp]
 have hne : ((p : Int) != -1) = true := by simp
 rw [hne, has_nat, ha p hlt]; have hst := inN_step h (bit stayed) goals hp
 cases hc : isChild ss k p with
 | false =>
   have : inN ss (bit stayed) goals k = false := by
    cases q : inN ss (bit stayed) goals k with
    | false => rfl
    | true => have := (hst.1 q).2.1; rw [hc] at this; cases this
   rw [this]; rfl
 | true => ?_
 simp only [Bool.not_true, Bool.false_eq_true, if_false, Bool.true_and]
 cases hN : inN ss (bit stayed) goals p with
 | false =>
   have : inN ss (bit stayed) goals k = false := by
    cases q : inN ss (bit stayed) goals k with
    | false => rfl
    | true => have := (hst.1 q).1; rw [hN] at this; cases this
   rw [this]; rfl
 | true => ?_
 simp only [Bool.not_true, Bool.false_eq_true, if_false]
 rcases h.pk k (by omega) hk with e | e <;> rw [hp] at e
 ·rw [e]
  simp only [show ((2 : Int) == 3) = false from rfl, Bool.false_eq_true, if_false]
  cases hkp : kept ss stayed p with
  | true =>
    have : inN ss (bit stayed) goals k = false := by
     cases q : inN ss (bit stayed) goals k with
     | false => rfl
     | true => ?_
     rcases (hst.1 q).2.2 with e3 | ⟨_, e3⟩
     ·omega
     unfold kept anyK at hkp; rw [List.any_eq_true] at hkp; obtain ⟨i, _, hi⟩ := hkp; rw [has_nat] at hi; simp only [Bool.and_eq_true] at hi; have := pick_kept hE e hi.2 hi.1; rw [← e3] at this; subst this; rw [hs] at hi; simp at hi
    rw [this]; rfl
  | false => ?_
  have hno := kept_no.1 hkp; rw [pick_eq h hE hpl e hc hno]; simp only [Bool.not_false, Bool.true_and]; rw [Bool.eq_iff_iff, decide_eq_true_eq]
  constructor
  ·intro q; exact hst.2 ⟨hN, hc, .inr ⟨e, q⟩⟩
  intro q
  rcases (hst.1 q).2.2 with e3 | ⟨_, e3⟩
  ·omega
  exact e3
 rw [e]; simp only [show ((3 : Int) == 3) = true from rfl, if_true]; exact (hst.2 ⟨hN, hc, .inl e⟩).symm
def entL (ol : Ol) : List Nat → Ma → Ma
 | [], m => m
 | k :: l, m => entL ol l (if bit m.s.act k then m else enterSt ol m k)
theorem enterF_eq {ol : Ol} (h : Shp ol.sts) (h16 : ol.sts.length ≤ 16) {stayed : List Bool} {goals : List Int} (hE : Ent ol.sts (bit stayed) goals) : ∀ (f k : Nat) (m : Ma), k + f = ol.sts.length → m.s.act.length = 16 →
 (∀ j : Nat, bit m.s.act j = (bit stayed j || (decide (j < k) && inN ol.sts (bit stayed) goals j))) →
 enterF ol stayed goals f k m = entL ol ((List.range' k f).filter (inN ol.sts (bit stayed) goals)) m ∧
 (∀ j : Nat, bit (enterF ol stayed goals f k m).s.act j = inN ol.sts (bit stayed) goals j) ∧ (enterF ol stayed goals f k m).s.past = m.s.past ∧ (enterF ol stayed goals f k m).s.act.length = 16 := by
 intro f
 induction f with
 | zero =>
   intro k m hk hl ha; refine ⟨rfl, fun j => ?_, rfl, hl⟩; show bit m.s.act j = _; rw [ha j]
   cases q : inN ol.sts (bit stayed) goals j with
   | true => have := inN_lt h q; rw [decide_eq_true (by omega)]; simp
   | false => ?_
   cases q2 : bit stayed j with
   | false => simp
   | true => rw [stay_in h hE (j + 1) j (by omega) q2] at q; cases q
 | succ f ih => ?_
 intro k m hk hl ha
 have hkl : k < ol.sts.length := by omega
 have hact : ∀ j : Nat, j < k → bit m.s.act j = inN ol.sts (bit stayed) goals j := by
  intro j hj; rw [ha j, decide_eq_true hj]
  cases q : inN ol.sts (bit stayed) goals j with
  | true => simp
  | false => ?_
  cases q2 : bit stayed j with
  | false => rfl
  | true => rw [stay_in h hE (j + 1) j (by omega) q2] at q; cases q
 have hd := due_eq h hE hkl hact
 have hk' : bit m.s.act k = bit stayed k := by rw [ha k]; simp
 rw [List.range'_succ, List.filter_cons]; simp only [enterF]; rw [hd]
 cases qN : inN ol.sts (bit stayed) goals k with
 | false =>
   simp only [Bool.false_and, Bool.false_eq_true, if_false]; refine ih (k + 1) m (by omega) hl (fun j => ?_); rw [ha j]
   by_cases c : j = k
   ·subst c; rw [qN]; simp
   have : decide (j < k) = decide (j < k + 1) := by rw [Bool.eq_iff_iff]; simp; omega
   rw [this]
 | true => ?_
 simp only [Bool.true_and, if_true, entL]; rw [hk']
 cases qS : bit stayed k with
 | true =>
   simp only [Bool.not_true, Bool.false_eq_true, if_false, if_true]; refine ih (k + 1) m (by omega) hl (fun j => ?_); rw [ha j]
   by_cases c : j = k
   ·subst c; rw [qS]; rfl
   have : decide (j < k) = decide (j < k + 1) := by rw [Bool.eq_iff_iff]; simp; omega
   rw [this]
 | false => ?_
 simp only [Bool.not_false, if_true, Bool.false_eq_true, if_false]; have hes := enterSt_act ol m k
 have hbit : ∀ j : Nat, bit (enterSt ol m k).s.act j = (bit stayed j || (decide (j < k + 1) && inN ol.sts (bit stayed) goals j)) := by
  intro j; rw [hes.1, bit_put (by omega), ha j]
  by_cases c : k = j
  ·subst c; rw [if_pos rfl, qN]; simp
  rw [if_neg c]
  have : decide (j < k) = decide (j < k + 1) := by rw [Bool.eq_iff_iff]; simp; omega
  rw [this]
 obtain ⟨e1, e2, e3, e4⟩ := ih (k + 1) (enterSt ol m k) (by omega) (by rw [hes.1, putB_len]; exact hl) hbit; exact ⟨e1, e2, e3.trans hes.2, e4⟩
theorem enter_eq {ol : Ol} (h : Shp ol.sts) (h16 : ol.sts.length ≤ 16) {m : Ma} {list : List Int} (hl : m.s.act.length = 16) (hE : Ent ol.sts (bit m.s.act) (goalsF ol m.s list)) :
 enter ol m list = entL ol (nextR ol.sts (bit m.s.act) (goalsF ol m.s list) ol.sts.length 0) m ∧
 (∀ j : Nat, bit (enter ol m list).s.act j = inN ol.sts (bit m.s.act) (goalsF ol m.s list) j) ∧ (enter ol m list).s.past = m.s.past ∧ (enter ol m list).s.act.length = 16 := by
 rw [next_eq h, List.range_eq_range']; exact enterF_eq h h16 hE ol.sts.length 0 m (by omega) hl (fun j => by simp)
structure Conf (ss : List St) (S : Nat → Bool) : Prop where
 root : S 0 = true
 lt : ∀ i, S i = true → i < ss.length
 upc : ∀ i p : Nat, S i = true → parAt ss i = p → S p = true
 hist : ∀ i, S i = true → kindAt ss i ≠ 5
 one : ∀ p i j : Nat, kindAt ss p = 2 → isChild ss i p = true → isChild ss j p = true → S i = true → S j = true → i = j
 some2 : ∀ p : Nat, S p = true → kindAt ss p = 2 → ∃ i : Nat, isChild ss i p = true ∧ S i = true
 all3 : ∀ p i : Nat, S p = true → kindAt ss p = 3 → isChild ss i p = true → S i = true
theorem conf_next {ss : List St} (h : Shp ss) (S : Nat → Bool) (goals : List Int) : Conf ss (inN ss S goals) where
 root := inN_root h S goals
 lt := fun i hi => inN_lt h hi
 upc := fun i p hi hp => ((inN_step h S goals hp).1 hi).1
 hist := fun i hi => by
  by_cases c : i = 0
  ·subst c; intro e; have := (h.hs 0 h.ne (.inl e)).1; omega
  obtain ⟨p, hp, _⟩ := h.par (k := i) (by omega) (inN_lt h hi); exact (child_in ((inN_step h S goals hp).1 hi).2.1).2.2
 one := fun p i j hk hi hj hsi hsj => by
  have a := ((inN_step h S goals (child_in hi).2.1).1 hsi).2.2; have b := ((inN_step h S goals (child_in hj).2.1).1 hsj).2.2
  rcases a with a | a
  ·omega
  rcases b with b | b
  ·omega
  rw [a.2, b.2]
 some2 := fun p hs hk => by
  have hc := pick_kid h S goals (inN_lt h hs) hk; exact ⟨pickR ss S goals p, hc, (inN_step h S goals (child_in hc).2.1).2 ⟨hs, hc, .inr ⟨hk, rfl⟩⟩⟩
 all3 := fun p i hs hk hc => (inN_step h S goals (child_in hc).2.1).2 ⟨hs, hc, .inl hk⟩
theorem conf_full {ss : List St} (h : Shp ss) {S : Nat → Bool} {goals : List Int} (hC : Conf ss S) (hE : Ent ss S goals) (k : Nat) : inN ss S goals k = S k := by
 have : ∀ (n k : Nat), k < n → inN ss S goals k = true → S k = true := by
  intro n
  induction n with
  | zero => intro k hk; omega
  | succ n ih => ?_
  intro k hk hN
  by_cases c : k = 0
  ·subst c; exact hC.root
  obtain ⟨p, hp, hlt⟩ := h.par (k := k) (by omega) (inN_lt h hN); obtain ⟨h1, h2, h3⟩ := (inN_step h S goals hp).1 hN; have hsp := ih p (by omega) h1
  rcases h3 with e | ⟨e, e2⟩
  ·exact hC.all3 p k hsp e h2
  obtain ⟨i, hi, hsi⟩ := hC.some2 p hsp e; rw [e2, pick_kept hE e hi hsi]; exact hsi
 cases q : S k with
 | true => exact stay_in h hE (k + 1) k (by omega) q
 | false => ?_
 cases q2 : inN ss S goals k with
 | false => rfl
 | true => rw [this (k + 1) k (by omega) q2] at q; cases q
/-! What a transition leaves. -/
def lv (ol : Ol) (s : Sd) (t : Int) (j : Nat) : Bool := match ol.trs[t.toNat]? with
 | some x => !(x.target == 45) && (decide (j < ol.sts.length) && (bit s.act j && isAbove ol.sts (dom ol.sts x.state x.target) j))
 | none => false
theorem leavesF_bit (ss : List St) (act : List Bool) (d : Int) : ∀ (f k : Nat) (l : List Bool), k + f ≤ l.length → ∀ j : Nat,
 bit (leavesF ss act d f k l) j = (bit l j || (decide (k ≤ j ∧ j < k + f) && (bit act j && isAbove ss d j))) := by
 intro f
 induction f with
 | zero => intro k l _ j; have : decide (k ≤ j ∧ j < k + 0) = false := by rw [decide_eq_false]; omega
           rw [this]; simp [leavesF]
 | succ f ih => ?_
 intro k l hl j; simp only [leavesF]; rw [has_nat]
 have hlen : (if (bit act k && isAbove ss d k) = true then putB l k true else l : List Bool).length = l.length := by split <;> simp [putB_len]
 rw [ih (k + 1) _ (by rw [hlen]; omega) j]
 by_cases c : k = j
 ·subst c
  have h1 : decide (k + 1 ≤ k ∧ k < k + 1 + f) = false := by simp; omega
  have h2 : decide (k ≤ k ∧ k < k + (f + 1)) = true := by simp
  rw [h1, h2]
  cases q : bit act k && isAbove ss d k with
  | true => rw [if_pos rfl, bit_put (by omega)]; simp
  | false => simp
 have h1 : decide (k + 1 ≤ j ∧ j < k + 1 + f) = decide (k ≤ j ∧ j < k + (f + 1)) := by rw [Bool.eq_iff_iff]; simp; omega
 rw [h1]
 congr 1
 split
 ·rw [bit_put (by omega), if_neg c]
 rfl
theorem bit_noSet (j : Nat) : bit noSet j = false := by
 unfold bit noSet; simp only [List.getD_eq_getElem?_getD, List.getElem?_replicate]
 split <;> rfl
theorem leaves_bit {ol : Ol} (h16 : ol.sts.length ≤ 16) (s : Sd) (t : Int) (j : Nat) : bit (leaves ol s t.toNat) j = lv ol s t j := by
 unfold leaves lv
 cases ol.trs[t.toNat]? with
 | none => exact bit_noSet j
 | some x => ?_
 simp only
 cases x.target == 45 with
 | true => simp [bit_noSet]
 | false => ?_
 simp only [Bool.false_eq_true, if_false, Bool.not_false, Bool.true_and]; rw [leavesF_bit _ _ _ _ _ _ (by simp [noSet]; omega), bit_noSet]
 have : decide (0 ≤ j ∧ j < 0 + ol.sts.length) = decide (j < ol.sts.length) := by rw [Bool.eq_iff_iff]; simp
 rw [this]; simp
theorem join_bit (l m : List Bool) (j : Nat) (hl : l.length = 16) (hm : m.length = 16) : bit (join l m) j = (bit l j || bit m j) := by
 by_cases c : j < 16
 ·unfold join
  have : bit ((List.range 16).map fun k => bit l k || bit m k) j = (bit l j || bit m j) := by
   show (((List.range 16).map fun k => bit l k || bit m k)).getD j false = _; simp [List.getD_eq_getElem?_getD, List.getElem?_range c]
  exact this
 rw [bit_big (l := join l m) (by rw [join_len]; omega), bit_big (l := l) (by omega), bit_big (l := m) (by omega)]; rfl
theorem leftF_bit {ol : Ol} (h16 : ol.sts.length ≤ 16) (s : Sd) : ∀ (r : List Int) (l : List Bool) (j : Nat), l.length = 16 → bit (leftF ol s r l) j = (bit l j || r.any fun t => lv ol s t j) := by
 intro r
 induction r with
 | nil => intro l j _; simp [leftF]
 | cons x r ih => ?_
 intro l j hl; simp only [leftF, List.any_cons]; rw [ih _ j (join_len _ _), join_bit _ _ _ hl (leaves_len _ _ _), leaves_bit h16, Bool.or_assoc]
theorem left_bit {ol : Ol} (h16 : ol.sts.length ≤ 16) (s : Sd) (r : List Int) (j : Nat) : bit (leftAll ol s r) j = r.any fun t => lv ol s t j := by
 unfold leftAll; rw [leftF_bit h16 s r noSet j rfl, bit_noSet]; rfl
theorem meets_no {ol : Ol} (h16 : ol.sts.length ≤ 16) {s : Sd} {a b : Int} : meets (leaves ol s a.toNat) (leaves ol s b.toNat) = false ↔ ∀ j, ¬ (lv ol s a j = true ∧ lv ol s b j = true) := by
 unfold meets; rw [List.any_eq_false]
 constructor
 ·intro h j hj
  have h1 : j < 16 := by
   rcases Nat.lt_or_ge j 16 with q | q
   ·exact q
   have := hj.1; rw [← leaves_bit h16, bit_big (by rw [leaves_len]; omega)] at this; cases this
  have := h j (by simpa using h1); rw [leaves_bit h16, leaves_bit h16, hj.1, hj.2] at this; simp at this
 intro h j _ hj; rw [leaves_bit h16, leaves_bit h16] at hj; exact h j (by simpa using hj)
def Clear (ol : Ol) (s : Sd) (l : List Int) : Prop := ∀ a ∈ l, ∀ b ∈ l, a ≠ b → ∀ j, ¬ (lv ol s a j = true ∧ lv ol s b j = true)
theorem admitF_clear {ol : Ol} (h16 : ol.sts.length ≤ 16) {s : Sd} {t : Nat} : ∀ (l kept r : List Int), admitF ol s t l kept = some r → ∃ l', (∀ x ∈ l', x ∈ l ∧ ∀ j, ¬ (lv ol s t j = true ∧ lv ol s x j = true)) ∧ r = kept ++ l' ++ [(t : Int)] := by
 intro l
 induction l with
 | nil => intro kept r h; simp only [admitF, Option.some.injEq] at h; exact ⟨[], by simp, by simp [h]⟩
 | cons x l ih => ?_
 intro kept r h; simp only [admitF] at h
 split at h
 ·split at h
  ·obtain ⟨l', h1, h2⟩ := ih kept r h
   exact ⟨l', fun y hy => ⟨List.mem_cons_of_mem _ (h1 y hy).1, (h1 y hy).2⟩, h2⟩
  cases h
 rename_i q; obtain ⟨l', h1, h2⟩ := ih (kept ++ [x]) r h; refine ⟨x :: l', fun y hy => ?_, by simp [h2]⟩
 rcases List.mem_cons.1 hy with rfl | hy
 ·refine ⟨by simp, ?_⟩
  have q' : meets (leaves ol s ((t : Int)).toNat) (leaves ol s y.toNat) = false := by simpa using q
  exact (meets_no h16).1 q'
 exact ⟨List.mem_cons_of_mem _ (h1 y hy).1, (h1 y hy).2⟩
theorem admit_clear {ol : Ol} (h16 : ol.sts.length ≤ 16) {s : Sd} {t : Nat} {l : List Int} (h : Clear ol s l) : Clear ol s (admis ol s l t) ∧ ∀ x ∈ admis ol s l t, x ∈ l ∨ x = t := by
 unfold admis
 cases q : admitF ol s t l [] with
 | none => exact ⟨h, fun x hx => .inl hx⟩
 | some r => ?_
 obtain ⟨l', h1, rfl⟩ := admitF_clear h16 l [] r q; simp only [List.nil_append]; refine ⟨?_, ?_⟩
 ·intro a ha b hb hab j hj
  rcases List.mem_append.1 ha with ha | ha <;> rcases List.mem_append.1 hb with hb | hb
  ·exact h a (h1 a ha).1 b (h1 b hb).1 hab j hj
  ·simp at hb; subst hb; exact (h1 a ha).2 j ⟨hj.2, hj.1⟩
  ·simp at ha; subst ha; exact (h1 b hb).2 j hj
  simp at ha hb; exact hab (ha.trans hb.symm)
 intro x hx
 rcases List.mem_append.1 hx with hx | hx
 ·exact .inl (h1 x hx).1
 simp at hx; exact .inr hx
theorem chooseF_clear {ol : Ol} (h16 : ol.sts.length ≤ 16) {s : Sd} : ∀ (l acc : List Int), (∀ x ∈ l, 0 ≤ x) → Clear ol s acc → Clear ol s (chooseF ol s l acc) ∧ ∀ x ∈ chooseF ol s l acc, x ∈ acc ∨ x ∈ l := by
 intro l
 induction l with
 | nil => intro acc _ h; exact ⟨h, fun x hx => .inl hx⟩
 | cons a l ih => ?_
 intro acc h0 h; simp only [chooseF]; obtain ⟨h1, h2⟩ := admit_clear h16 (t := a.toNat) h; obtain ⟨h3, h4⟩ := ih _ (fun x hx => h0 x (by simp [hx])) h1; refine ⟨h3, fun x hx => ?_⟩; have ha := h0 a (by simp)
 rcases h4 x hx with e | e
 ·rcases h2 x e with e | e
  ·exact .inl e
  right; rw [e, Int.toNat_of_nonneg ha]; simp
 exact .inr (by simp [e])
def Src (ol : Ol) (s : Sd) (t : Int) : Prop := ∃ x, ol.trs[t.toNat]? = some x ∧ ∃ k : Nat, x.state = k ∧ bit s.act k = true
theorem findInF_state (s : Sd) (st trg : Int) : ∀ (l : List Tr) (k j : Nat), findInF s st trg l k = j → ∃ x, k ≤ j ∧ l[j - k]? = some x ∧ x.state = st := by
 intro l
 induction l with
 | nil => intro k j h; simp [findInF] at h
 | cons t l ih => ?_
 intro k j h; simp only [findInF] at h
 split at h
 ·rename_i q
  have : k = j := by omega
  subst this; refine ⟨t, Nat.le_refl _, by simp, ?_⟩; unfold findP at q; simp only [Bool.and_eq_true, beq_iff_eq] at q; exact q.1.1
 obtain ⟨x, h1, h2, h3⟩ := ih (k + 1) j h; refine ⟨x, by omega, ?_, h3⟩; rw [show j - k = (j - (k + 1)) + 1 by omega]; simpa using h2
theorem findFromF_src {ol : Ol} {s : Sd} (hu : Up ol.sts) (hup : ∀ i p : Nat, bit s.act i = true → parAt ol.sts i = p → bit s.act p = true) (trg : Int) : ∀ (f i : Nat) (j : Nat), bit s.act i = true → findFromF ol s trg f i = j → Src ol s j := by
 intro f
 induction f with
 | zero => intro i j _ h; simp [findFromF] at h
 | succ f ih => ?_
 intro i j hi h; simp only [findFromF] at h
 have hne : ((i : Int) == -1) = false := by simp
 rw [hne] at h; simp only [Bool.false_eq_true, if_false] at h
 split at h
 ·obtain ⟨x, _, h2, h3⟩ := findInF_state s i trg ol.trs 0 j h
  exact ⟨x, by simpa using h2, i, h3, hi⟩
 have a := par_low hu i
 by_cases c : parAt ol.sts i = -1
 ·rw [c] at h
  cases f with
  | zero => simp [findFromF] at h
  | succ f => simp [findFromF] at h
 obtain ⟨p, hp⟩ : ∃ p : Nat, parAt ol.sts i = p := ⟨(parAt ol.sts i).toNat, by omega⟩
 rw [hp] at h; exact ih p j (hup i p hi hp) h
theorem findF_src {ol : Ol} {s : Sd} (hu : Up ol.sts) (hup : ∀ i p : Nat, bit s.act i = true → parAt ol.sts i = p → bit s.act p = true) (trg : Int) : ∀ (f k : Nat) (fl : List Int), (∀ t ∈ fl, Src ol s t) → ∀ t ∈ findF ol s trg f k fl, Src ol s t := by
 intro f
 induction f with
 | zero => intro k fl h; exact h
 | succ f ih => ?_
 intro k fl h; simp only [findF]; refine ih (k + 1) _ ?_; unfold findStep
 split
 ·rename_i q
  intro t ht
  rcases List.mem_append.1 ht with ht | ht
  ·exact h t ht
  simp at ht; subst ht; simp only [Bool.and_eq_true, bne_iff_ne] at q
  have hl : bit s.act k = true := by
   have := q.1.1; unfold isLeaf at this; simp only [Bool.and_eq_true] at this; exact this.1
  rcases findFrom_at ol s trg ((k : Int) + 2).toNat k with e | ⟨j, e, _⟩
  ·exact absurd e q.1.2
  unfold findFrom; rw [e]; exact findFromF_src hu hup trg _ k j hl e
 exact h
theorem choose_clear {ol : Ol} (h16 : ol.sts.length ≤ 16) (hu : Up ol.sts) {s : Sd} (hup : ∀ i p : Nat, bit s.act i = true → parAt ol.sts i = p → bit s.act p = true) (trg : Int) : Clear ol s (choose ol s trg) ∧ ∀ t ∈ choose ol s trg, Src ol s t := by
 have h0 := (find_in ol s trg).1; obtain ⟨h1, h2⟩ := chooseF_clear h16 (s := s) (find ol s trg) [] (fun x hx => (h0 x hx).1) (by intro a ha; cases ha); refine ⟨h1, fun t ht => ?_⟩
 rcases h2 t ht with e | e
 ·cases e
 exact findF_src hu hup trg _ _ [] (by intro t ht; cases ht) t e
/-! The domain, the goal. -/
theorem domF_spec {ss : List St} (hu : Up ss) (target : Int) : ∀ (f : Nat) (d : Int), -1 ≤ d → (d + 1).toNat ≤ f → (domF ss target f d = -1 ∨ (0 ≤ domF ss target f d ∧ encl ss (domF ss target f d) target = true)) ∧ (domF ss target f d = d ∨ isAbove ss (domF ss target f d) d = true) := by
 intro f
 induction f with
 | zero => intro d h1 h2; exact ⟨.inl (by simp only [domF]; omega), .inl rfl⟩
 | succ f ih => ?_
 intro d h1 h2; simp only [domF]
 split
 ·rename_i q
  have hd : d ≠ -1 := by simp at q; exact q.1
  have a := par_low hu d; have b := par_lt hu (i := d) (by omega); obtain ⟨e1, e2⟩ := ih (parAt ss d) a (by omega); refine ⟨e1, .inr ?_⟩; rw [abv_step hu _ (by omega)]
  rcases e2 with e2 | e2
  ·rw [e2]; simp
  rw [e2]; simp
 rename_i q; refine ⟨?_, .inl rfl⟩
 by_cases c : d = -1
 ·exact .inl c
 right
 refine ⟨by omega, ?_⟩; simp [c] at q; exact q
theorem dom_spec {ss : List St} (hu : Up ss) {state : Nat} (target : Int) : (dom ss state target = -1 ∨ (0 ≤ dom ss state target ∧ kindAt ss (dom ss state target) = 2 ∧ isAbove ss (dom ss state target) (place ss target) = true)) ∧ isAbove ss (dom ss state target) state = true := by
 obtain ⟨e1, e2⟩ := domF_spec hu (place ss target) (parAt ss state + 1).toNat (parAt ss state) (par_low hu _) (Nat.le_refl _); refine ⟨?_, ?_⟩
 ·rcases e1 with e1 | ⟨h0, e1⟩
  ·exact .inl e1
  unfold encl at e1; simp only [Bool.and_eq_true, beq_iff_eq] at e1; exact .inr ⟨h0, e1.1, e1.2⟩
 rw [abv_step hu _ (by omega)]
 rcases e2 with e2 | e2
 ·have : dom ss state target = parAt ss state := e2
  rw [this]; simp
 have : isAbove ss (dom ss state target) (parAt ss state) = true := e2; rw [this]; simp
def PastOk (ss : List St) (s : Sd) : Prop := ∀ k : Nat, k < ss.length → hist ss k = true → isPast ss k (pastAt s k) = true
structure OlS (ol : Ol) : Prop where
 shp : Shp ol.sts
 le : ol.sts.length ≤ 16
 tgt : ∀ x ∈ ol.trs, x.target ≠ 45 → ∃ g : Nat, place ol.sts x.target = g ∧ g < ol.sts.length
 src : ∀ x ∈ ol.trs, ∃ k : Nat, x.state = k ∧ k < ol.sts.length
 nm : ∀ k : Nat, k < ol.sts.length → place ol.sts (nmAt ol.sts k) = k ∧ nmAt ol.sts k ≠ 45
theorem hist_kind {ss : List St} {k : Nat} (hk : k < ss.length) : hist ss k = (kindAt ss k == 5) := by
 unfold hist kindAt; rw [stAt_nat, List.getElem?_eq_getElem hk]
theorem goal_spec {ss : List St} (h : Shp ss) (h16 : ss.length ≤ 16) {s : Sd} (hP : PastOk ss s) {g : Nat} (hg : g < ss.length) : (kindAt ss g ≠ 5 ∧ goal ss s g = g) ∨ (kindAt ss g = 5 ∧ ∃ c : Nat, goal ss s g = c ∧ isChild ss c (parAt ss g) = true) := by
 unfold goal
 have h1 : decide ((g : Int) < 0) = false := by rw [decide_eq_false]; omega
 have h2 : decide (16 ≤ (g : Int)) = false := by rw [decide_eq_false]; omega
 rw [h1, h2]
 by_cases c : kindAt ss g = 5
 ·right
  refine ⟨c, ?_⟩; rw [c]; simp only [show ((5 : Int) != 5) = false from rfl, Bool.or_false, Bool.false_eq_true, if_false, Int.toNat_natCast]; have hp := hP g hg (by rw [hist_kind hg, c]; rfl); have hs := h.hs g hg (.inl c); obtain ⟨p, hpp, hlt⟩ := h.par hs.1 hg
  cases q : pastAt s g == 45 with
  | true =>
    simp only [if_true]; rw [hpp] at hs ⊢; obtain ⟨j, _, hj⟩ := h.kid p (by omega) (.inl hs.2)
    have hne : kidsS ss p ≠ [] := fun e => by have := mem_kids.2 hj; rw [e] at this; cases this
    refine ⟨(kidsS ss p).headD 0, first_head hne, mem_kids.1 ?_⟩
    cases q2 : kidsS ss p with
    | nil => exact absurd q2 hne
    | cons a l => simp
  | false => ?_
  simp only [Bool.false_eq_true, if_false]; unfold isPast at hp; rw [q] at hp; simp only [Bool.false_eq_true, if_false] at hp
  have hpl : 0 ≤ place ss (pastAt s g) := by
   unfold isChild at hp
   cases q2 : stAt ss (place ss (pastAt s g)) with
   | none => rw [q2] at hp; cases hp
   | some x => obtain ⟨k, e, _⟩ := stAt_some q2; omega
  refine ⟨(place ss (pastAt s g)).toNat, by omega, ?_⟩; rw [Int.toNat_of_nonneg hpl]; exact hp
 left
 refine ⟨c, ?_⟩
 have : (kindAt ss g != 5) = true := by simpa using c
 rw [this]; simp
theorem goalsF_mem {ol : Ol} {s : Sd} : ∀ (l : List Int) (g : Int), g ∈ goalsF ol s l → ∃ t ∈ l, ∃ x, ol.trs[t.toNat]? = some x ∧ x.target ≠ 45 ∧ g = goal ol.sts s (place ol.sts x.target) := by
 intro l
 induction l with
 | nil => intro g h; simp [goalsF] at h
 | cons t l ih => ?_
 intro g h; simp only [goalsF] at h
 have back : g ∈ goalsF ol s l → ∃ t' ∈ t :: l, ∃ x, ol.trs[t'.toNat]? = some x ∧ x.target ≠ 45 ∧ g = goal ol.sts s (place ol.sts x.target) := fun h => by
  obtain ⟨t', ht', r⟩ := ih g h; exact ⟨t', List.mem_cons_of_mem _ ht', r⟩
 cases q : ol.trs[t.toNat]? with
 | none => rw [q] at h; exact back h
 | some x => ?_
 rw [q] at h; simp only at h
 split at h
 ·exact back h
 rename_i q2
 rcases List.mem_cons.1 h with e | e
 ·exact ⟨t, by simp, x, q, by simpa using q2, e⟩
 exact back e
theorem act_up {ss : List St} (hu : Up ss) {S : Nat → Bool} (hup : ∀ i p : Nat, S i = true → parAt ss i = p → S p = true) (a : Nat) : ∀ (n k : Nat), k < n → S k = true → isAbove ss a k = true → S a = true := by
 intro n
 induction n with
 | zero => intro k hk; omega
 | succ n ih => ?_
 intro k hk hs ha; rw [abv_step hu _ (by omega)] at ha; have hl := par_lt hu (i := (k : Int)) (by omega)
 rcases Bool.or_eq_true _ _ ▸ ha with e | e
 ·exact hup k a hs (by simpa using e)
 have := abv_lt' hu e
 obtain ⟨p, hp⟩ : ∃ p : Nat, parAt ss k = p := ⟨(parAt ss k).toNat, by omega⟩
 rw [hp] at e; exact ih p (by omega) (hup k p hs hp) e
theorem lv_at {ol : Ol} {s : Sd} {t : Int} {x : Tr} (hx : ol.trs[t.toNat]? = some x) (j : Nat) : lv ol s t j = (!(x.target == 45) && (decide (j < ol.sts.length) && (bit s.act j && isAbove ol.sts (dom ol.sts x.state x.target) j))) := by
 unfold lv; rw [hx]
theorem lv_iff {ol : Ol} {s : Sd} {t : Int} {x : Tr} (hx : ol.trs[t.toNat]? = some x) (j : Nat) : lv ol s t j = true ↔ x.target ≠ 45 ∧ j < ol.sts.length ∧ bit s.act j = true ∧ isAbove ol.sts (dom ol.sts x.state x.target) j = true := by
 rw [lv_at hx]; simp
theorem lv_some {ol : Ol} {s : Sd} {t : Int} {j : Nat} (h : lv ol s t j = true) : ∃ x, ol.trs[t.toNat]? = some x := by
 unfold lv at h
 cases q : ol.trs[t.toNat]? with
 | none => rw [q] at h; cases h
 | some x => exact ⟨x, rfl⟩
theorem ent_micro {ol : Ol} (hO : OlS ol) {s : Sd} (hC : Conf ol.sts (bit s.act)) {list : List Int} (hsrc : ∀ t ∈ list, Src ol s t) (hcl : Clear ol s list) {s' : Sd}
 (hs' : ∀ j, bit s'.act j = (bit s.act j && !(list.any fun t => lv ol s t j))) (hP' : PastOk ol.sts s') : Ent ol.sts (bit s'.act) (goalsF ol s' list) := by
 have hsub : ∀ j, bit s'.act j = true → bit s.act j = true := fun j hj => by rw [hs' j] at hj; simp only [Bool.and_eq_true] at hj; exact hj.1
 have hu := hO.shp.up
 -- a goal's transition
 have hgoal : ∀ g ∈ goalsF ol s' list, ∃ t ∈ list, ∃ x, ol.trs[t.toNat]? = some x ∧ x.target ≠ 45 ∧ g = goal ol.sts s' (place ol.sts x.target) ∧ (∃ k : Nat, x.state = k ∧ bit s.act k = true ∧ lv ol s t k = true) ∧
  (0 ≤ g ∧ g < ol.sts.length ∧ kindAt ol.sts g ≠ 5) ∧ isAbove ol.sts (dom ol.sts x.state x.target) g = true ∧ isAbove ol.sts (dom ol.sts x.state x.target) x.state = true ∧ (dom ol.sts x.state x.target = -1 ∨ (0 ≤ dom ol.sts x.state x.target ∧ kindAt ol.sts (dom ol.sts x.state x.target) = 2)) := by
  intro g hg; obtain ⟨t, ht, x, hx, hta, rfl⟩ := goalsF_mem list g hg; obtain ⟨x', hx', k, hk, hka⟩ := hsrc t ht; rw [hx] at hx'
  obtain rfl : x = x' := by simpa using hx'
  obtain ⟨pg, hpg, hpl⟩ := hO.tgt x (List.mem_of_getElem? hx) hta; obtain ⟨d1, d2⟩ := dom_spec hu (ss := ol.sts) (state := k) x.target; rw [← hk] at d1 d2; have hkl := hC.lt k hka; refine ⟨t, ht, x, hx, hta, rfl, ⟨k, hk, hka, (lv_iff hx k).2 ⟨hta, hkl, hka, by rw [← hk]; exact d2⟩⟩, ?_, ?_, d2, ?_⟩
  ·rw [hpg]
   rcases goal_spec hO.shp hO.le hP' hpl with ⟨h1, h2⟩ | ⟨_, c, h2, h3⟩
   ·rw [h2]; exact ⟨by omega, by omega, h1⟩
   rw [h2]; exact ⟨by omega, by have := (child_in h3).1; omega, (child_in h3).2.2⟩
  ·rw [hpg] at d1 ⊢
   rcases d1 with d1 | ⟨d0, dk, dabv⟩
   ·rw [d1]
    refine abv_doc hu ?_ ?_ <;>
    (rcases goal_spec hO.shp hO.le hP' hpl with ⟨_, h2⟩ | ⟨_, c, h2, _⟩ <;> rw [h2] <;> omega)
   rcases goal_spec hO.shp hO.le hP' hpl with ⟨_, h2⟩ | ⟨_, c, h2, h3⟩
   ·rw [h2]; exact dabv
   rw [h2, abv_step hu _ (by omega), (child_in h3).2.1]; rw [abv_step hu _ (by omega)] at dabv; exact dabv
  rcases d1 with d1 | ⟨d0, dk, _⟩
  ·exact .inl d1
  exact .inr ⟨d0, dk⟩
 refine ⟨fun i hi => hC.lt i (hsub i hi), ?_, fun i hi => hC.hist i (hsub i hi), fun p i j hk hi hj h1 h2 => hC.one p i j hk hi hj (hsub i h1) (hsub j h2), ?_, ?_⟩
 ·-- what stays, stays upwards
  intro i p hi hp; have hsi := hsub i hi; have hsp := hC.upc i p hsi hp; rw [hs' p, hsp]
  cases q : list.any fun t => lv ol s t p with
  | false => rfl
  | true => ?_
  exfalso; rw [List.any_eq_true] at q; obtain ⟨t, ht, hl⟩ := q; obtain ⟨x, hx⟩ := lv_some hl; obtain ⟨h1, h2, h3, h4⟩ := (lv_iff hx p).1 hl; have : lv ol s t i = true := (lv_iff hx i).2 ⟨h1, hC.lt i hsi, hsi, by rw [abv_step hu _ (by omega), hp, h4]; simp⟩; rw [hs' i] at hi; have hany : (list.any fun t => lv ol s t i) = true := List.any_eq_true.2 ⟨t, ht, this⟩; rw [hany] at hi; simp at hi
 ·intro g hg
  obtain ⟨_, _, _, _, _, _, _, h, _⟩ := hgoal g hg; exact h
 intro p hk hno g1 hg1 g2 hg2 ha1 ha2; obtain ⟨t1, ht1, x1, hx1, hta1, e1, ⟨k1, hk1, hka1, hl1⟩, r1, dg1, ds1, dd1⟩ := hgoal g1 hg1; obtain ⟨t2, ht2, x2, hx2, hta2, e2, ⟨k2, hk2, hka2, hl2⟩, r2, dg2, ds2, dd2⟩ := hgoal g2 hg2
 -- the domain is p, or above it
 have claim : ∀ (t : Int) (x : Tr) (k : Nat) (g : Int), t ∈ list → ol.trs[t.toNat]? = some x → x.target ≠ 45 → x.state = k → bit s.act k = true → lv ol s t k = true → isAbove ol.sts (dom ol.sts x.state x.target) g = true → isAbove ol.sts (dom ol.sts x.state x.target) x.state = true →
  (dom ol.sts x.state x.target = -1 ∨ (0 ≤ dom ol.sts x.state x.target ∧ kindAt ol.sts (dom ol.sts x.state x.target) = 2)) → isAbove ol.sts p g = true → g < ol.sts.length → dom ol.sts x.state x.target = p ∨ isAbove ol.sts (dom ol.sts x.state x.target) p = true := by
  intro t x k g ht hx hta hxk hka hl dg ds dd ha hgl
  rcases abv_cmp hu dg ha with c | c | c
  ·exact .inl c
  ·exact .inr c
  exfalso; generalize hd : dom ol.sts x.state x.target = d at *; have hd0 := abv_lt' hu c
  rcases dd with dd | ⟨_, dk⟩
  ·omega
  obtain ⟨dn, rfl⟩ : ∃ dn : Nat, d = dn := ⟨d.toNat, by omega⟩
  have hdl := abv_lt' hu dg; rw [hxk] at ds; have hsd : bit s.act dn = true := act_up hu hC.upc dn (k + 1) k (by omega) hka ds; obtain ⟨c', hc', hcd⟩ := hO.shp.toward (p := (p : Int)) (g := (dn : Int)) (by omega) c (by omega) (fun _ => by omega); have hcl' := (child_in hc').1
  have hsc : bit s.act c' = true := by
   rcases hcd with e | e
   ·have : c' = dn := by omega
    rw [this]; exact hsd
   exact act_up hu hC.upc c' (dn + 1) dn (by omega) hsd e
  have hno' := hno c' hc'; rw [hs' c', hsc] at hno'
  have hany : (list.any fun t => lv ol s t c') = true := by simpa using hno'
  rw [List.any_eq_true] at hany; obtain ⟨t3, ht3, hl3⟩ := hany; obtain ⟨x3, hx3⟩ := lv_some hl3; obtain ⟨h31, h32, h33, h34⟩ := (lv_iff hx3 c').1 hl3
  have hd3k : isAbove ol.sts (dom ol.sts x3.state x3.target) k = true := by
   rcases hcd with e | e
   ·rw [e] at h34; exact abv_tr hu h34 ds
   exact abv_tr hu (abv_tr hu h34 e) ds
  have hl3k : lv ol s t3 k = true := (lv_iff hx3 k).2 ⟨h31, hC.lt k hka, hka, hd3k⟩
  have : t3 = t := by
   by_cases q : t3 = t
   ·exact q
   exact absurd ⟨hl3k, hl⟩ (hcl t3 ht3 t ht q k)
  subst this; rw [hx] at hx3
  obtain rfl : x = x3 := by simpa using hx3
  rw [hd] at h34; have h5 := abv_lt' hu h34
  rcases hcd with e | e
  ·omega
  have := abv_lt' hu e; omega
 have c1 := claim t1 x1 k1 g1 ht1 hx1 hta1 hk1 hka1 hl1 dg1 ds1 dd1 ha1 r1.2.1; have c2 := claim t2 x2 k2 g2 ht2 hx2 hta2 hk2 hka2 hl2 dg2 ds2 dd2 ha2 r2.2.1
 have hcmp : dom ol.sts x1.state x1.target = dom ol.sts x2.state x2.target ∨ isAbove ol.sts (dom ol.sts x1.state x1.target) (dom ol.sts x2.state x2.target) = true ∨ isAbove ol.sts (dom ol.sts x2.state x2.target) (dom ol.sts x1.state x1.target) = true := by
  rcases c1 with c1 | c1 <;> rcases c2 with c2 | c2
  ·exact .inl (c1.trans c2.symm)
  ·rw [c1]; exact .inr (.inr c2)
  ·rw [c2]; exact .inr (.inl c1)
  exact abv_cmp hu c1 c2
 have heq : t1 = t2 := by
  by_cases q : t1 = t2
  ·exact q
  exfalso; rw [hk1] at ds1; rw [hk2] at ds2
  rcases hcmp with e | e | e
  ·have : lv ol s t1 k2 = true := (lv_iff hx1 k2).2 ⟨hta1, hC.lt k2 hka2, hka2, by rw [e, hk2]; exact ds2⟩
   exact hcl t1 ht1 t2 ht2 q k2 ⟨this, hl2⟩
  ·have : lv ol s t1 k2 = true := (lv_iff hx1 k2).2 ⟨hta1, hC.lt k2 hka2, hka2, abv_tr hu e (by rw [hk2]; exact ds2)⟩
   exact hcl t1 ht1 t2 ht2 q k2 ⟨this, hl2⟩
  have : lv ol s t2 k1 = true := (lv_iff hx2 k1).2 ⟨hta2, hC.lt k1 hka1, hka1, abv_tr hu e (by rw [hk1]; exact ds1)⟩; exact hcl t1 ht1 t2 ht2 q k1 ⟨hl1, this⟩
 subst heq; rw [hx1] at hx2
 obtain rfl : x1 = x2 := by simpa using hx2
 rw [e1, e2]
/-! Leaving, remembering. -/
theorem leaveF_bit (ol : Ol) (left : List Bool) : ∀ (k : Nat) (m : Ma), k ≤ m.s.act.length → (∀ j : Nat, bit (leaveF ol left k m).s.act j = (bit m.s.act j && !(decide (j < k) && bit left j))) ∧ (leaveF ol left k m).s.past = m.s.past ∧ (leaveF ol left k m).s.act.length = m.s.act.length := by
 intro k
 induction k with
 | zero => intro m _; exact ⟨fun j => by simp [leaveF], rfl, rfl⟩
 | succ k ih => ?_
 intro m hk; simp only [leaveF]; rw [has_nat]
 cases q : bit left k with
 | false =>
   simp only [Bool.false_eq_true, if_false]; obtain ⟨h1, h2, h3⟩ := ih m (by omega); refine ⟨fun j => ?_, h2, h3⟩; rw [h1 j]
   by_cases c : j = k
   ·subst c; rw [q]; simp
   have : decide (j < k) = decide (j < k + 1) := by rw [Bool.eq_iff_iff]; simp; omega
   rw [this]
 | true => ?_
 simp only [if_true]; have hb := doBls_ap k 36 ol.bls m
 have hact : (setAct (doBls k 36 ol.bls m) k false).s.act = putB m.s.act k false := by show putB (doBls k 36 ol.bls m).s.act k false = _; rw [hb.1]
 obtain ⟨h1, h2, h3⟩ := ih (setAct (doBls k 36 ol.bls m) k false) (by rw [hact, putB_len]; omega); refine ⟨fun j => ?_, h2.trans hb.2, by rw [h3, hact, putB_len]⟩; rw [h1 j, hact, bit_put (by omega)]
 by_cases c : k = j
 ·subst c; rw [if_pos rfl, q]; simp
 rw [if_neg c]
 have : decide (j < k) = decide (j < k + 1) := by rw [Bool.eq_iff_iff]; simp; omega
 rw [this]
theorem remF_get (ss : List St) (act left : List Bool) : ∀ (f k : Nat) (p : List Int), k + f ≤ p.length → ∀ j : Nat, (remF ss act left f k p).getD j 0 = if k ≤ j ∧ j < k + f ∧ remP ss act left j = true then nmAt ss (actCh ss act (parAt ss j)).toNat else p.getD j 0 := by
 intro f
 induction f with
 | zero => intro k p _ j; rw [if_neg (by omega)]; rfl
 | succ f ih => ?_
 intro k p hp j; simp only [remF]
 have hlen : (if remP ss act left k = true then p.set k (nmAt ss (actCh ss act (parAt ss k)).toNat) else p : List Int).length = p.length := by split <;> simp
 rw [ih (k + 1) _ (by rw [hlen]; omega) j]
 by_cases c : k = j
 ·subst c
  rw [if_neg (by omega)]
  cases q : remP ss act left k with
  | true =>
    rw [if_pos rfl, if_pos ⟨Nat.le_refl _, by omega, rfl⟩]; simp only [List.getD_eq_getElem?_getD]; rw [List.getElem?_set_self (by omega)]; rfl
  | false => simp
 have e : (k + 1 ≤ j ∧ j < k + 1 + f ∧ remP ss act left j = true) ↔ (k ≤ j ∧ j < k + (f + 1) ∧ remP ss act left j = true) := by
  constructor <;> (rintro ⟨h1, h2, h3⟩; exact ⟨by omega, by omega, h3⟩)
 have hset : (if remP ss act left k = true then p.set k (nmAt ss (actCh ss act (parAt ss k)).toNat) else p : List Int).getD j 0 = p.getD j 0 := by
  split
  ·simp only [List.getD_eq_getElem?_getD]; rw [List.getElem?_set_ne c]
  rfl
 rw [hset]
 by_cases c2 : k + 1 ≤ j ∧ j < k + 1 + f ∧ remP ss act left j = true
 ·rw [if_pos c2, if_pos (e.1 c2)]
 rw [if_neg c2, if_neg (fun h => c2 (e.2 h))]
theorem actChF_spec (ss : List St) (l : List Bool) (p : Int) : ∀ (f k : Nat), (actChF ss l p f k = -2 ∧ ∀ j, k ≤ j → j < k + f → bit l j = true → isChild ss j p = false) ∨ ∃ j : Nat, actChF ss l p f k = j ∧ bit l j = true ∧ isChild ss j p = true := by
 intro f
 induction f with
 | zero => intro k; exact .inl ⟨rfl, fun j h1 h2 => by omega⟩
 | succ f ih => ?_
 intro k; simp only [actChF]; rw [has_nat]
 cases q : bit l k && isChild ss k p with
 | true => rw [if_pos rfl]; simp only [Bool.and_eq_true] at q; exact .inr ⟨k, rfl, q.1, q.2⟩
 | false => ?_
 rw [if_neg (by simp)]
 rcases ih (k + 1) with ⟨e, h⟩ | h
 ·refine .inl ⟨e, fun j h1 h2 h3 => ?_⟩
  by_cases c : j = k
  ·subst c; rw [h3] at q; simpa using q
  exact h j (by omega) (by omega) h3
 exact .inr h
theorem actCh_spec (ss : List St) (l : List Bool) (p : Int) : (actCh ss l p = -2 ∧ ∀ j : Nat, bit l j = true → isChild ss j p = false) ∨ ∃ j : Nat, actCh ss l p = j ∧ bit l j = true ∧ isChild ss j p = true := by
 rcases actChF_spec ss l p ss.length 0 with ⟨e, h⟩ | h
 ·refine .inl ⟨e, fun j hj => ?_⟩
  cases q : isChild ss j p with
  | false => rfl
  | true => have := h j (by omega) (by have := (child_in q).1; omega) hj; rw [this] at q; cases q
 exact .inr h
theorem rem_past {ol : Ol} (hO : OlS ol) {s : Sd} (hP : PastOk ol.sts s) (hl : s.past.length = 16) (left : List Bool) : PastOk ol.sts (rem ol.sts s left) := by
 intro k hk hh; have h16 := hO.le; have e : pastAt (rem ol.sts s left) k = (remF ol.sts s.act left (min ol.sts.length 16) 0 s.past).getD k 0 := rfl; rw [e, remF_get _ _ _ _ _ _ (by omega)]
 split
 ·rename_i c
  have hr := c.2.2; unfold remP at hr; simp only [Bool.and_eq_true, bne_iff_ne] at hr
  rcases actCh_spec ol.sts s.act (parAt ol.sts k) with ⟨e2, _⟩ | ⟨j, e2, _, hj⟩
  ·exact absurd e2 hr.2
  rw [e2, Int.toNat_natCast]; have hn := hO.nm j (child_in hj).1; unfold isPast
  have : (nmAt ol.sts j == 45) = false := by simpa using hn.2
  rw [this]; simp only [Bool.false_eq_true, if_false]; rw [hn.1]; exact hj
 exact hP k hk hh
structure Inv (ol : Ol) (s : Sd) : Prop where
 conf : Conf ol.sts (bit s.act)
 past : PastOk ol.sts s
 la : s.act.length = 16
 lp : s.past.length = 16
theorem Inv.same {ol : Ol} {s s' : Sd} (h : Inv ol s) (e : SameAP s' s) : Inv ol s' := by
 obtain ⟨e1, e2⟩ := e; refine ⟨by rw [e1]; exact h.conf, fun k hk hh => ?_, by rw [e1]; exact h.la, by rw [e2]; exact h.lp⟩; have := h.past k hk hh; unfold pastAt at this ⊢; rw [e2]; exact this
theorem PastOk.same {ss : List St} {s s' : Sd} (h : PastOk ss s) (e : s'.past = s.past) : PastOk ss s' := fun k hk hh => by
 have := h k hk hh; unfold pastAt at this ⊢; rw [e]; exact this
def mid (ol : Ol) (m : Ma) (list : List Int) : Ma := doTrs ol list (leaveF ol (leftAll ol m.s list) ol.sts.length { m with s := rem ol.sts m.s (leftAll ol m.s list) })
theorem mid_spec {ol : Ol} (hO : OlS ol) {m : Ma} (hI : Inv ol m.s) (list : List Int) : (∀ j, bit (mid ol m list).s.act j = (bit m.s.act j && !(list.any fun t => lv ol m.s t j))) ∧ PastOk ol.sts (mid ol m list).s ∧ (mid ol m list).s.act.length = 16 ∧ (mid ol m list).s.past.length = 16 := by
 have h16 := hO.le; have h1 := doTrs_ap ol list (leaveF ol (leftAll ol m.s list) ol.sts.length { m with s := rem ol.sts m.s (leftAll ol m.s list) }); obtain ⟨h2, h3, h4⟩ := leaveF_bit ol (leftAll ol m.s list) ol.sts.length { m with s := rem ol.sts m.s (leftAll ol m.s list) } (by show ol.sts.length ≤ m.s.act.length; rw [hI.la]; exact h16); have hp := rem_past hO hI.past hI.lp (leftAll ol m.s list); refine ⟨fun j => ?_, ?_, ?_, ?_⟩
 ·unfold mid
  rw [h1.1, h2 j, left_bit h16]; show (bit m.s.act j && _) = _
  cases q : bit m.s.act j with
  | false => rfl
  | true => rw [decide_eq_true (hI.conf.lt j q)]; simp
 ·exact hp.same (h1.2.trans h3)
 ·unfold mid; rw [h1.1, h4]; exact hI.la
 unfold mid; rw [h1.2, h3]; show (rem ol.sts m.s _).past.length = 16; unfold rem; rw [remF_len]; exact hI.lp
theorem micro_ref {ol : Ol} (hO : OlS ol) {m : Ma} (hI : Inv ol m.s) {list : List Int} (hsrc : ∀ t ∈ list, Src ol m.s t) (hcl : Clear ol m.s list) :
 micro ol m list = entL ol (nextR ol.sts (bit (mid ol m list).s.act) (goalsF ol (mid ol m list).s list) ol.sts.length 0) (mid ol m list) ∧ Inv ol (micro ol m list).s ∧ Ent ol.sts (bit (mid ol m list).s.act) (goalsF ol (mid ol m list).s list) := by
 obtain ⟨h1, h2, h3, h4⟩ := mid_spec hO hI list; have hE := ent_micro hO hI.conf hsrc hcl h1 h2; obtain ⟨e1, e2, e3, e4⟩ := enter_eq hO.shp hO.le (list := list) h3 hE; refine ⟨e1, ⟨?_, h2.same e3, e4, by show (enter ol (mid ol m list) list).s.past.length = 16; rw [e3]; exact h4⟩, hE⟩; have hb : bit (micro ol m list).s.act = inN ol.sts (bit (mid ol m list).s.act) (goalsF ol (mid ol m list).s list) := funext e2; rw [hb]; exact conf_next hO.shp _ _
theorem entL_none (ol : Ol) : ∀ (l : List Nat) (m : Ma), (∀ k ∈ l, bit m.s.act k = true) → entL ol l m = m := by
 intro l
 induction l with
 | nil => intro m _; rfl
 | cons a l ih => intro m h; simp only [entL]; rw [h a (by simp), if_pos rfl]; exact ih m (fun k hk => h k (by simp [hk]))
theorem remF_none (ss : List St) (act : List Bool) : ∀ (f k : Nat) (p : List Int), remF ss act noSet f k p = p := by
 intro f
 induction f with
 | zero => intro k p; rfl
 | succ f ih => ?_
 intro k p; simp only [remF]
 have : remP ss act noSet k = false := by
  unfold remP
  have : has noSet (parAt ss k) = false := by
   cases parAt ss k with
   | ofNat n => exact bit_noSet n
   | negSucc n => rfl
  rw [this]; simp
 rw [this]; simp only [Bool.false_eq_true, if_false]; exact ih (k + 1) p
theorem leaveF_none (ol : Ol) : ∀ (k : Nat) (m : Ma), leaveF ol noSet k m = m := by
 intro k
 induction k with
 | zero => intro m; rfl
 | succ k ih => ?_
 intro m; simp only [leaveF]; rw [has_nat, bit_noSet, if_neg (by simp)]; exact ih m
theorem micro_nil {ol : Ol} (hO : OlS ol) {m : Ma} (hI : Inv ol m.s) : micro ol m [] = m := by
 obtain ⟨e1, _, hE⟩ := micro_ref hO hI (list := []) (by intro t ht; cases ht) (by intro a ha; cases ha)
 have hm : mid ol m [] = m := by
  unfold mid; show leaveF ol noSet ol.sts.length { m with s := { m.s with past := remF ol.sts m.s.act noSet (min ol.sts.length 16) 0 m.s.past } } = m; rw [leaveF_none, remF_none]
 rw [e1]; rw [hm] at hE ⊢; refine entL_none ol _ m (fun k hk => ?_); rw [next_eq hO.shp, List.mem_filter] at hk; rw [← conf_full hO.shp hI.conf hE k]; exact hk.2
theorem choose_ok {ol : Ol} (hO : OlS ol) {s : Sd} (hI : Inv ol s) (trg : Int) : Clear ol s (choose ol s trg) ∧ ∀ t ∈ choose ol s trg, Src ol s t := choose_clear hO.le hO.shp.up hI.conf.upc trg
theorem micro_inv {ol : Ol} (hO : OlS ol) {m : Ma} (hI : Inv ol m.s) (trg : Int) : Inv ol (micro ol m (choose ol m.s trg)).s :=
 (micro_ref hO hI (choose_ok hO hI trg).2 (choose_ok hO hI trg).1).2.1
theorem round_inv {ol : Ol} (hO : OlS ol) {m : Ma} (hI : Inv ol m.s) : Inv ol (round ol m).s := by
 unfold round
 split
 ·split
  ·exact micro_inv hO hI 46
  rename_i a q e; exact micro_inv hO (m := { m with q := q }) hI a
 exact micro_inv hO hI 46
def roundsR (ol : Ol) : Nat → Ma → Bool × Ma
 | 0, m => (!busy ol m, m)
 | n + 1, m => if busy ol m then roundsR ol n (round ol m) else (true, m)
theorem roundsR_eq (ol : Ol) : ∀ (n : Nat) (m : Ma), roundsR ol n m = (!busy ol (rounds ol n m), rounds ol n m) := by
 intro n
 induction n with
 | zero => intro m; rfl
 | succ n ih => ?_
 intro m; simp only [roundsR, rounds]
 cases q : busy ol m with
 | true => simp only [if_true]; exact ih _
 | false => simp only [Bool.false_eq_true, if_false]; rw [q]; rfl
theorem rounds_inv {ol : Ol} (hO : OlS ol) : ∀ (n : Nat) {m : Ma}, Inv ol m.s → Inv ol (rounds ol n m).s := by
 intro n
 induction n with
 | zero => intro m h; exact h
 | succ n ih => ?_
 intro m h; simp only [rounds]
 split
 ·exact ih (round_inv hO h)
 exact h
/-! What the reader gives stands in the order of the text. -/
theorem abv_congr {ss ss' : List St} (hu : Up ss) (hu' : Up ss') {n : Nat} (hp : ∀ k : Nat, k < n → parAt ss' k = parAt ss k) (a : Int) : ∀ (d k : Nat), k < d → k < n → isAbove ss' a k = isAbove ss a k := by
 intro d
 induction d with
 | zero => intro k h; omega
 | succ d ih => ?_
 intro k h1 h2; rw [abv_step hu' _ (by omega), abv_step hu _ (by omega), hp k h2]; have hl := par_lt hu (i := (k : Int)) (by omega); have hm := par_low hu (k : Int)
 by_cases c : parAt ss k = -1
 ·rw [c, abv_neg ss' a (by omega), abv_neg ss a (by omega)]
 obtain ⟨p, e⟩ : ∃ p : Nat, parAt ss k = p := ⟨(parAt ss k).toNat, by omega⟩
 rw [e] at hl ⊢; rw [ih p (by omega) (by omega)]
structure Zi (ss : List St) : Prop where
 up : Up ss
 root : ∀ k : Nat, 0 < k → k < ss.length → 0 ≤ parAt ss k
 pre : ∀ k : Nat, k + 1 < ss.length → parAt ss ((k + 1 : Nat) : Int) = k ∨ isAbove ss (parAt ss ((k + 1 : Nat) : Int)) k = true
def Last (ss : List St) (i : Nat) : Prop := i + 1 = ss.length ∨ (i + 1 < ss.length ∧ isAbove ss i ((ss.length - 1 : Nat) : Int) = true)
def Gr (ss ss' : List St) : Prop := ss.length ≤ ss'.length ∧ ∀ k : Nat, k < ss.length → parAt ss' k = parAt ss k
theorem Gr.refl (ss : List St) : Gr ss ss := ⟨Nat.le_refl _, fun _ _ => rfl⟩
theorem Gr.trans {a b c : List St} (h : Gr a b) (g : Gr b c) : Gr a c := ⟨Nat.le_trans h.1 g.1, fun k hk => (g.2 k (by have := h.1; omega)).trans (h.2 k hk)⟩
theorem mark_par (p : Int) (ss : List St) (i : Int) : parAt (markParent p ss) i = parAt ss i := by
 unfold markParent
 split
 ·rename_i k
  split
  ·rename_i s hs
   split
   ·unfold parAt
    cases i with
    | negSucc n => rfl
    | ofNat j => ?_
    show (match (ss.set k { s with kind := 2 })[j]? with | some s => s.parent | none => -1) = (match ss[j]? with | some s => s.parent | none => -1)
    by_cases c : k = j
    ·subst c
     rw [List.getElem?_set_self (List.getElem?_eq_some_iff.1 hs).1, hs]
    rw [List.getElem?_set_ne c]
   rfl
  rfl
 rfl
theorem push_par (ss : List St) (s : St) : (∀ k : Nat, k < ss.length → parAt (ss ++ [s]) k = parAt ss k) ∧ parAt (ss ++ [s]) (ss.length : Nat) = s.parent := by
 constructor
 ·intro k hk
  unfold parAt; rw [stAt_nat, stAt_nat, List.getElem?_append_left hk]
 unfold parAt; rw [stAt_nat, List.getElem?_append_right (Nat.le_refl _)]; simp
theorem zi_push {ss : List St} (h : Zi ss) {s : St} (hp : (ss = [] ∧ s.parent = -1) ∨ ∃ i : Nat, s.parent = i ∧ Last ss i) : Zi (markParent s.parent (ss ++ [s])) ∧ Last (markParent s.parent (ss ++ [s])) ss.length ∧ Gr ss (markParent s.parent (ss ++ [s])) ∧ parAt (markParent s.parent (ss ++ [s])) (ss.length : Nat) = s.parent := by
 have hb : -1 ≤ s.parent ∧ s.parent < ss.length := by
  rcases hp with ⟨rfl, e⟩ | ⟨i, e, hl⟩
  ·rw [e]; simp
  rw [e]; rcases hl with hl | hl <;> omega
 have hu : Up (markParent s.parent (ss ++ [s])) := Up.mark (Up.push h.up hb.1 hb.2) _
 have hlen : (markParent s.parent (ss ++ [s])).length = ss.length + 1 := by rw [markParent_len]; simp
 have hpar : ∀ k : Nat, k < ss.length → parAt (markParent s.parent (ss ++ [s])) k = parAt ss k := fun k hk => by rw [mark_par]; exact (push_par ss s).1 k hk
 have hnew : parAt (markParent s.parent (ss ++ [s])) (ss.length : Nat) = s.parent := by rw [mark_par]; exact (push_par ss s).2
 refine ⟨⟨hu, ?_, ?_⟩, .inl hlen.symm, ⟨by omega, hpar⟩, hnew⟩
 ·intro k h0 hk
  rcases Nat.lt_or_ge k ss.length with q | q
  ·rw [hpar k q]; exact h.root k h0 q
  have : k = ss.length := by omega
  rw [this, hnew]
  rcases hp with ⟨rfl, _⟩ | ⟨i, e, _⟩
  ·simp at this; omega
  omega
 intro k hk; rw [hlen] at hk
 rcases Nat.lt_or_ge (k + 1) ss.length with q | q
 ·rw [hpar (k + 1) q, abv_congr h.up hu hpar _ (k + 1) k (by omega) (by omega)]; exact h.pre k q
 have e1 : k + 1 = ss.length := by omega
 rw [e1, hnew]
 rcases hp with ⟨rfl, _⟩ | ⟨i, e, hl⟩
 ·simp at e1
 rcases hl with hl | ⟨hl, ha⟩
 ·left; omega
 right
 rw [abv_congr h.up hu hpar _ (k + 1) k (by omega) (by omega), e]; rw [show ss.length - 1 = k by omega] at ha; exact ha
theorem transition_sts (t : ByteArray) (self : Int) (r : Rs) : (transition t self r).2.sts = r.sts := by
 unfold transition
 split
 ·split
  ·split <;> rfl
  rfl
 rfl
theorem block_sts (t : ByteArray) (self : Int) (r : Rs) : (block t self r).2.sts = r.sts := by
 unfold block; split <;> rfl
def ItZ (it : Int → Int → Rs → Bool × Rs) : Prop := ∀ (i : Nat) (cl : Int) (r : Rs), Zi r.sts → Last r.sts i → (it i cl r).1 = true → Zi (it i cl r).2.sts ∧ Last (it i cl r).2.sts i ∧ Gr r.sts (it i cl r).2.sts
theorem stateW_zi {t : ByteArray} {it : Int → Int → Rs → Bool × Rs} (hit : ItZ it) {parent : Int} {r : Rs} (h : Zi r.sts) (hp : (r.sts = [] ∧ parent = -1) ∨ ∃ i : Nat, parent = i ∧ Last r.sts i) (hok : (stateW t it parent r).1 = true) :
 Zi (stateW t it parent r).2.sts ∧ Last (stateW t it parent r).2.sts r.sts.length ∧ Gr r.sts (stateW t it parent r).2.sts ∧ parAt (stateW t it parent r).2.sts (r.sts.length : Nat) = parent := by
 unfold stateW at hok ⊢
 by_cases q : isNm (peek t (r.pos + 1)) = true
 ·have hn : stateName t (peek t r.pos) parent { r with pos := r.pos + 1 } = (true, { r with pos := r.pos + 1 + 1, sts := markParent parent (r.sts ++ [⟨peek t (r.pos + 1), ((r.pos + 1 : Nat) : Int), kindOf (peek t r.pos), parent⟩]) }) := by
   unfold stateName; simp only; rw [if_pos q]
  obtain ⟨z1, z2, z3, z4⟩ := zi_push h (s := ⟨peek t (r.pos + 1), ((r.pos + 1 : Nat) : Int), kindOf (peek t r.pos), parent⟩) hp
  have hlen : (markParent parent (r.sts ++ [⟨peek t (r.pos + 1), ((r.pos + 1 : Nat) : Int), kindOf (peek t r.pos), parent⟩])).length = r.sts.length + 1 := by rw [markParent_len]; simp
  rw [hn] at hok ⊢; simp only [if_true] at hok ⊢
  split at hok
  ·rename_i c1
   rw [if_pos c1]; obtain ⟨a1, a2, a3⟩ := hit r.sts.length 41 _ z1 z2 hok; exact ⟨a1, a2, z3.trans a3, (a3.2 r.sts.length (by simp only; omega)).trans z4⟩
  rename_i c1; rw [if_neg c1]
  split at hok
  ·rename_i c2
   rw [if_pos c2]; obtain ⟨a1, a2, a3⟩ := hit r.sts.length 93 _ z1 z2 hok; exact ⟨a1, a2, z3.trans a3, (a3.2 r.sts.length (by simp only; omega)).trans z4⟩
  rename_i c2; rw [if_neg c2]
  split
  ·exact ⟨z1, z2, z3, z4⟩
  exact ⟨z1, z2, z3, z4⟩
 have hn : stateName t (peek t r.pos) parent { r with pos := r.pos + 1 } = (false, { r with pos := r.pos + 1 }) := by
  unfold stateName; simp only; rw [if_neg q]
 rw [hn] at hok; simp at hok
theorem itemsF_zi (t : ByteArray) : ∀ n, ItZ (itemsF t n) := by
 intro n
 induction n with
 | zero => intro i cl r _ _ h; simp [itemsF] at h
 | succ n ih => ?_
 intro i cl r hz hl hok; simp only [itemsF] at hok ⊢
 split at hok
 ·rename_i c1
  rw [if_pos c1]
  split at hok
  ·rename_i c2
   rw [if_pos c2]; obtain ⟨z1, z2, z3, z4⟩ := stateW_zi ih hz (.inr ⟨i, rfl, hl⟩) c2; generalize (stateW t (itemsF t n) i r).2 = r2 at *
   have hil : i < r.sts.length := by rcases hl with e | e <;> omega
   have hl2 : Last r2.sts i := by
    right
    have hln : r.sts.length < r2.sts.length := by rcases z2 with e | e <;> omega
    refine ⟨by omega, ?_⟩
    have hin : isAbove r2.sts (i : Int) (r.sts.length : Nat) = true := by rw [abv_step z1.up _ (by omega), z4]; simp
    rcases z2 with e | ⟨_, e⟩
    ·rw [show r2.sts.length - 1 = r.sts.length by omega]; exact hin
    exact abv_tr z1.up hin e
   obtain ⟨a1, a2, a3⟩ := ih i cl r2 z1 hl2 hok; exact ⟨a1, a2, z3.trans a3⟩
  cases hok
 rename_i c1; rw [if_neg c1]
 split at hok
 ·rename_i c2
  rw [if_pos c2]
  split at hok
  ·rename_i c3
   rw [if_pos c3]; have hs := transition_sts t i r; generalize (transition t i r).2 = r2 at *; have := ih i cl r2 (by rw [hs]; exact hz) (by rw [hs]; exact hl) hok; rw [hs] at this; exact this
  cases hok
 rename_i c2; rw [if_neg c2]
 split at hok
 ·rename_i c3
  rw [if_pos c3]
  split at hok
  ·rename_i c4
   rw [if_pos c4]; have hs := block_sts t i r; generalize (block t i r).2 = r2 at *; have := ih i cl r2 (by rw [hs]; exact hz) (by rw [hs]; exact hl) hok; rw [hs] at this; exact this
  cases hok
 rename_i c3; rw [if_neg c3]; exact ⟨hz, hl, Gr.refl _⟩
theorem chart_zi {t : ByteArray} (h : (chart t).1 = true) : Zi (chart t).2.sts ∧ 0 < (chart t).2.sts.length := by
 unfold chart at h ⊢
 split at h
 ·rename_i c1
  rw [if_pos c1]
  split at h
  ·rename_i c2
   rw [if_pos c2]
   have z0 : Zi r0.sts := ⟨by intro k s h; simp [r0] at h, by intro k h1 h2; simp [r0] at h2, by intro k h2; simp [r0] at h2⟩
   obtain ⟨z1, z2, z3, _⟩ := stateW_zi (itemsF_zi t (t.size + 1)) z0 (.inl ⟨rfl, rfl⟩) c2
   have hpos : 0 < (stateW t (itemsF t (t.size + 1)) (-1) r0).2.sts.length := by rcases z2 with e | e <;> omega
   exact ⟨z1, hpos⟩
  cases h
 cases h
def T0 (r : Rs) : Prop := ∀ x ∈ r.trs, 0 ≤ x.state
theorem transition_t0 (t : ByteArray) (i : Nat) {r : Rs} (h : T0 r) : T0 (transition t i r).2 := by
 unfold transition
 split
 ·split
  ·split
   ·intro x hx
    rcases List.mem_append.1 hx with hx | hx
    ·exact h x hx
    simp at hx; subst hx; simp only; omega
   exact h
  exact h
 exact h
theorem block_t0 (t : ByteArray) (i : Nat) {r : Rs} (h : T0 r) : T0 (block t i r).2 := by
 unfold block; split <;> exact h
theorem stateW_t0 {t : ByteArray} {it : Int → Int → Rs → Bool × Rs} (hit : ∀ (i : Nat) (cl : Int) (r : Rs), T0 r → T0 (it i cl r).2) {parent : Int} {r : Rs} (h : T0 r) : T0 (stateW t it parent r).2 := by
 have hn : T0 (stateName t (peek t r.pos) parent { r with pos := r.pos + 1 }).2 := by unfold stateName; split <;> exact h
 unfold stateW
 split
 ·split
  ·exact hit _ _ _ hn
  split
  ·exact hit _ _ _ hn
  split
  ·exact hn
  exact hn
 exact hn
theorem itemsF_t0 (t : ByteArray) : ∀ (n i : Nat) (cl : Int) (r : Rs), T0 r → T0 (itemsF t n i cl r).2 := by
 intro n
 induction n with
 | zero => intro i cl r h; exact h
 | succ n ih => ?_
 intro i cl r h; simp only [itemsF]
 split
 ·have := stateW_t0 (t := t) (parent := i) ih h
  split
  ·exact ih _ _ _ this
  exact this
 split
 ·have := transition_t0 t i h
  split
  ·exact ih _ _ _ this
  exact this
 split
 ·have := block_t0 t i h
  split
  ·exact ih _ _ _ this
  exact this
 exact h
theorem chart_t0 (t : ByteArray) : T0 (chart t).2 := by
 have h0 : T0 r0 := by intro x hx; simp [r0] at hx
 have := stateW_t0 (t := t) (parent := -1) (itemsF_t0 t (t.size + 1)) h0; unfold chart
 split
 ·split
  ·exact this
  exact this
 exact h0
/-! A chart without faults. -/
theorem Fa2.right {α β : Type} {R : α → β → Prop} {l : List α} {m : List β} (h : Fa2 R l m) {b : β} (hb : b ∈ m) : ∃ a ∈ l, R a b := by
 induction h with
 | nil => cases hb
 | cons hab _ ih => ?_
 rcases List.mem_cons.1 hb with rfl | hb
 ·exact ⟨_, by simp, hab⟩
 obtain ⟨a, ha, hr⟩ := ih hb; exact ⟨a, by simp [ha], hr⟩
theorem firstUnk_none {ss : List St} : ∀ (us : List Us), firstUnk ss us = -2 → (∀ u ∈ us, -2 < u.pos) → ∀ u ∈ us, place ss u.name ≠ -2 := by
 intro us
 induction us with
 | nil => intro _ _ u hu; cases hu
 | cons a us ih => ?_
 intro h hp u hu; simp only [firstUnk] at h
 split at h
 ·have := hp a (by simp); omega
 rename_i q
 rcases List.mem_cons.1 hu with rfl | hu
 ·simpa using q
 exact ih h (fun u hu => hp u (by simp [hu])) u hu
theorem place_in {ss : List St} {c : Int} (h : place ss c ≠ -2) : ∃ g : Nat, place ss c = g ∧ g < ss.length := by
 rcases placeF_spec c ss 0 with ⟨e, _⟩ | ⟨i, s, h1, _, h3, _⟩
 ·exact absurd e h
 exact ⟨i, by unfold place; rw [h3]; simp, (List.getElem?_eq_some_iff.1 h1).1⟩
theorem nmAt_rn {L : List RN} {k : Nat} (hk : k < L.length) : nmAt (L.map RN.st) k = (rnAt L k).name := by
 unfold nmAt; rw [List.getElem?_map, List.getElem?_eq_getElem hk, rnAt_of (List.getElem?_eq_getElem hk)]; rfl
theorem ols_of {L : List RN} {r : Rs} (hN : NR L r) (hz : Zi r.sts) (hne : 0 < r.sts.length) (hj : (judge r.sts r.uses).1 = 0) (hT : ∀ x ∈ r.trs, 0 ≤ x.state) : OlS ⟨r.sts, r.trs, r.bls⟩ := by
 obtain ⟨hu, h16⟩ := uniq_judge hN hj; have hsts := hN.sts
 have hlen : r.sts.length = L.length := by rw [← hsts]; simp
 have hmis : ∀ k, k < L.length → misR L k = false := by
  rw [← fault_eq hN] at hj; unfold faultR at hj; rw [if_neg (by omega)] at hj
  cases e : (List.range L.length).find? (dupR L) with
  | some i => rw [e] at hj; simp at hj
  | none => ?_
  rw [e] at hj; simp only at hj
  cases e2 : (List.range L.length).find? (misR L) with
  | some i => rw [e2] at hj; simp at hj
  | none => ?_
  rw [List.find?_eq_none] at e2; intro k hk; have := e2 k (by simpa using hk); simpa using this
 have hunk : firstUnk r.sts r.uses = -2 := by
  unfold judge at hj; rw [if_neg (by omega)] at hj
  split at hj
  ·simp at hj
  split at hj
  ·simp at hj
  split at hj
  ·simp at hj
  rename_i q; simpa using q
 have hupos : ∀ u ∈ r.uses, -2 < u.pos := by
  intro u hu'; obtain ⟨k, n, rt, x, _, _, ht, hx⟩ := (hN.us u).1 hu'; have h0 := ht.pos; unfold usesT at hx
  rcases List.mem_append.1 hx with hx | hx
  ·split at hx
   ·simp at hx; subst hx; simp only; omega
   cases hx
  split at hx
  ·simp at hx; subst hx; simp only
   omega
  cases hx
 have hplace := firstUnk_none r.uses hunk hupos
 have kd : ∀ k : Nat, k < L.length → kindAt r.sts k = (rnAt L k).kind := fun k hk => by rw [← hsts]; exact kindAt_rn hk
 have pr : ∀ k : Nat, k < L.length → parAt r.sts k = (rnAt L k).parent := fun k hk => by rw [← hsts]; exact parAt_rn hk
 have wf : ∀ (k : Nat) (hk : k < L.length), -1 ≤ (L[k]).parent ∧ (L[k]).parent < k ∧ isNm (L[k]).name = true ∧ (((L[k]).kind = 4 ∨ (L[k]).kind = 5) → 0 ≤ (L[k]).parent) ∧ 1 ≤ (L[k]).kind ∧ (L[k]).kind ≤ 5 ∧ 0 ≤ (L[k]).pos := fun k hk => hN.wf k _ (List.getElem?_eq_getElem hk)
 have hch : ∀ (j : Nat) (p : Int), j < L.length → isChild r.sts j p = isKid L p j := fun j p hj' => by rw [← hsts]; exact isChild_kid hj'
 refine ⟨⟨hz.up, hne, ?_, hz.pre, ?_, ?_, ?_⟩, by rw [hlen]; exact h16, ?_, ?_, ?_⟩
 ·intro k hk e
  by_cases c : k = 0
  ·exact c
  have := hz.root k (by omega) hk; simp only at e; omega
 ·intro k h0 hk
  simp only at hk ⊢; have hp := hz.root k h0 hk; rw [hlen] at hk; have hw := wf k hk; rw [pr k hk] at hp ⊢; have e1 := rnAt_of (List.getElem?_eq_getElem hk); rw [e1] at hp ⊢
  obtain ⟨p, hpp⟩ : ∃ p : Nat, (L[k]).parent = p := ⟨(L[k]).parent.toNat, by omega⟩
  have hpl : p < L.length := by omega
  have := hN.pk k _ L[p] (List.getElem?_eq_getElem hk) (by rw [hpp]; exact List.getElem?_eq_getElem hpl); rw [hpp, kd p hpl, rnAt_of (List.getElem?_eq_getElem hpl)]; exact this
 ·intro k hk hkk
  simp only at hk hkk ⊢; rw [hlen] at hk; rw [kd k hk] at hkk; have hm := hmis k hk; unfold misR at hm; rw [if_neg (by simp; omega)] at hm
  have h3 : ((rnAt L k).kind == 3 || (rnAt L k).kind == 2) = true := by simp; omega
  rw [h3] at hm; simp only [Bool.true_and] at hm
  cases q : kidsR L (k : Int) with
  | nil => rw [q] at hm; simp at hm
  | cons a l => ?_
  have ha : a ∈ kidsR L (k : Int) := by rw [q]; simp
  unfold kidsR at ha; rw [List.mem_filter] at ha
  have hal : a < L.length := by simpa using ha.1
  exact ⟨a, by omega, by rw [hch a _ hal]; exact ha.2⟩
 ·intro k hk hkk
  simp only at hk hkk ⊢; rw [hlen] at hk; rw [kd k hk] at hkk; have hw := wf k hk; have e1 := rnAt_of (List.getElem?_eq_getElem hk); rw [e1] at hkk; have hp := hw.2.2.2.1 (by omega); have hm := hmis k hk; unfold misR at hm; rw [e1, if_pos (by simp; omega)] at hm
  obtain ⟨p, hpp⟩ : ∃ p : Nat, (L[k]).parent = p := ⟨(L[k]).parent.toNat, by omega⟩
  have hpl : p < L.length := by omega
  have h23 := hN.pk k _ L[p] (List.getElem?_eq_getElem hk) (by rw [hpp]; exact List.getElem?_eq_getElem hpl); refine ⟨by omega, ?_⟩; rw [pr k hk, e1, hpp, kd p hpl]; rw [hpp, Int.toNat_natCast] at hm; have e2 := rnAt_of (List.getElem?_eq_getElem hpl); rw [e2] at hm ⊢
  have : (L[p]).kind ≠ 3 := by simpa using hm
  omega
 ·intro x hx hta
  simp only at hx ⊢
  obtain ⟨k, hk⟩ : ∃ k : Nat, x.state = k := by
   have := hN.ts x hx; exact ⟨x.state.toNat, by have := (hT x hx); omega⟩
  have hkl : k < L.length := by have := hN.ts x hx; omega
  obtain ⟨rt, hrt, hok⟩ := (hN.trs k _ (List.getElem?_eq_getElem hkl)).right (b := x) (by rw [List.mem_filter]; exact ⟨hx, by unfold inS; rw [hk]; simp⟩)
  have hnm : isNm x.target = true := by
   have := hok.ta; unfold isTa at this; simp only [Bool.or_eq_true, beq_iff_eq] at this
   rcases this with e | e
   ·exact absurd e hta
   exact e
  have hu1 : (⟨x.target, rt.pos + (bys rt.text).length - 1⟩ : Us) ∈ r.uses := (hN.us _).2 ⟨k, _, rt, x, List.getElem?_eq_getElem hkl, hrt, hok, by unfold usesT; rw [if_pos hnm]; simp⟩; exact place_in (hplace _ hu1)
 ·intro x hx
  simp only at hx ⊢; have h1 := hN.ts x hx; have h0 := hT x hx; exact ⟨x.state.toNat, by omega, by omega⟩
 intro k hk; simp only at hk ⊢; rw [hlen] at hk; rw [← hsts, nmAt_rn hk]
 constructor
 ·rcases named_place L (rnAt L k).name with ⟨_, _, h3⟩ | ⟨i, hi, _, h3, h4⟩
  ·exact absurd rfl (h3 k hk)
  rw [h3]; have := hu i k hi hk h4; omega
 have hw := (wf k hk).2.2.1; rw [← rnAt_of (List.getElem?_eq_getElem hk)] at hw; unfold isNm at hw; simp only [Bool.and_eq_true, decide_eq_true_eq] at hw; omega
theorem read_ols {t : ByteArray} (h : (read t).1 = 0) : OlS (read t).2.2 ∧ (read t).2.2 = ⟨(chart t).2.sts, (chart t).2.trs, (chart t).2.bls⟩ ∧ (chart t).1 = true ∧ (judge (chart t).2.sts (chart t).2.uses).1 = 0 := by
 unfold read at h ⊢
 split at h
 ·cases h
 rename_i c0; rw [if_neg c0]
 split at h
 ·rename_i c1
  rw [if_pos c1]
  split at h
  ·rename_i c2
   rw [if_pos c2]
   have hj : (judge (chart t).2.sts (chart t).2.uses).1 = 0 := by simpa using c2
   obtain ⟨L, _, hN⟩ := sim_chart c1; obtain ⟨hz, hne⟩ := chart_zi c1; exact ⟨ols_of hN hz hne hj (chart_t0 t), rfl, c1, hj⟩
  rename_i c2; simp only at h; rw [h] at c2; simp at c2
 cases h
/-! A state that is one of the chart's stands as it should. -/
theorem countP_one {p : Nat → Bool} : ∀ (l : List Nat), l.Nodup → l.countP p = 1 → ∀ i ∈ l, ∀ j ∈ l, p i = true → p j = true → i = j := by
 intro l
 induction l with
 | nil => intro _ h; cases h
 | cons a l ih => ?_
 intro hd hc i hi j hj hpi hpj; rw [List.nodup_cons] at hd; rw [List.countP_cons] at hc
 have hz : ∀ (h : l.countP p = 0) (k : Nat), k ∈ l → p k = true → False := fun h k hk hpk => by
  rw [List.countP_eq_zero] at h; exact h k hk hpk
 cases q : p a with
 | true =>
   rw [q] at hc; simp only [if_true] at hc
   have h0 : l.countP p = 0 := by omega
   rcases List.mem_cons.1 hi with rfl | hi
   ·rcases List.mem_cons.1 hj with rfl | hj
    ·rfl
    exact (hz h0 j hj hpj).elim
   exact (hz h0 i hi hpi).elim
 | false => ?_
 rw [q] at hc; simp only [Bool.false_eq_true, if_false, Nat.add_zero] at hc
 rcases List.mem_cons.1 hi with rfl | hi
 ·rw [q] at hpi; cases hpi
 rcases List.mem_cons.1 hj with rfl | hj
 ·rw [q] at hpj; cases hpj
 exact ih hd.2 hc i hi j hj hpi hpj
theorem tkF_lt {ss : List St} {t : ByteArray} : ∀ (f k : Nat) (last : Int) (l m : List Bool), -1 ≤ last → (∀ j, bit l j = true → j < ss.length) → tkF ss t f k last l = some m → ∀ j, bit m j = true → j < ss.length := by
 intro f
 induction f with
 | zero => intro k last l m _ h e; simp [tkF] at e; rw [← e]; exact h
 | succ f ih => ?_
 intro k last l m hl h e; simp only [tkF] at e
 split at e
 ·cases e
 rename_i q; obtain ⟨g, hg, hgl⟩ := place_in (ss := ss) (c := peek t k) (by omega); refine ih _ _ _ _ (by omega) ?_ e; intro j hj; rw [hg] at hj
 by_cases c : g < l.length
 ·rw [bit_put c] at hj
  split at hj
  ·omega
  exact h j hj
 have : putB l (g : Int) true = l := by show l.set g true = l; rw [List.set_eq_of_length_le (by omega)]
 rw [this] at hj; exact h j hj
theorem conf_fit {ss : List St} (h : Shp ss) {l : List Bool} (hlt : ∀ j, bit l j = true → j < ss.length) (hf : allFit ss l ss.length = true) : Conf ss (bit l) := by
 have hfit : ∀ i : Nat, i < ss.length → fits ss l i = true := by
  unfold allFit at hf; rw [List.all_eq_true] at hf; intro i hi; exact hf i (by simpa using hi)
 have hon : ∀ i : Nat, bit l i = true → ((parAt ss i != -1) && !has l (parAt ss i)) = false ∧ (kindAt ss i = 2 → countCh ss l i true = 1) ∧ (kindAt ss i = 3 → countCh ss l i false = 0) ∧ kindAt ss i ≠ 5 := by
  intro i hi; have := hfit i (hlt i hi); unfold fits at this; rw [has_nat, hi] at this; simp only [if_true] at this
  split at this
  ·cases this
  rename_i c1; refine ⟨by simpa using c1, ?_, ?_, ?_⟩
  ·intro k2; rw [k2] at this; simp at this; omega
  ·intro k3; rw [k3] at this; simp at this; omega
  intro k5; rw [k5] at this; simp at this
 have upc : ∀ i p : Nat, bit l i = true → parAt ss i = p → bit l p = true := by
  intro i p hi hp; have := (hon i hi).1; rw [hp, has_nat] at this
  have hne : ((p : Int) != -1) = true := by simp
  rw [hne] at this; simpa using this
 refine ⟨?_, hlt, upc, fun i hi => (hon i hi).2.2.2, ?_, ?_, ?_⟩
 ·have := hfit 0 h.ne
  unfold fits at this; rw [has_nat, h.root0] at this
  cases q : bit l 0 with
  | true => rfl
  | false => rw [q] at this; simp at this
 ·intro p i j hk hi hj hsi hsj
  have hp : bit l p = true := upc i p hsi (child_in hi).2.1; have hc := (hon p hp).2.1 hk; unfold countCh cntK at hc; refine countP_one _ List.nodup_range hc i (by simpa using (child_in hi).1) j (by simpa using (child_in hj).1) ?_ ?_
  ·unfold cntP; rw [has_nat, hsi, hi]; rfl
  unfold cntP; rw [has_nat, hsj, hj]; rfl
 ·intro p hp hk
  have hc := (hon p hp).2.1 hk; unfold countCh cntK at hc
  have : 0 < (List.range ss.length).countP (cntP ss l p true) := by omega
  rw [List.countP_pos_iff] at this; obtain ⟨i, _, hi⟩ := this; unfold cntP at hi; rw [has_nat] at hi; simp only [Bool.and_eq_true, beq_iff_eq] at hi; exact ⟨i, hi.2, hi.1⟩
 intro p i hp hk hi; have hc := (hon p hp).2.2.1 hk; unfold countCh cntK at hc; rw [List.countP_eq_zero] at hc; have := hc i (by simpa using (child_in hi).1); unfold cntP at this; rw [has_nat, hi] at this
 cases q : bit l i with
 | true => rfl
 | false => rw [q] at this; simp at this
theorem tpF_past {ss : List St} {t : ByteArray} : ∀ (f k n : Nat) (l : List Int) (r : List Int × Nat), tpF ss t f k n l = some r → k + f ≤ l.length →
 (∀ j, j < k → r.1.getD j 0 = l.getD j 0) ∧ ∀ j, k ≤ j → j < k + f → hist ss j = true → isPast ss j (r.1.getD j 0) = true := by
 intro f
 induction f with
 | zero => intro k n l r h _; simp [tpF] at h; subst h; exact ⟨fun _ _ => rfl, fun j h1 h2 => by omega⟩
 | succ f ih => ?_
 intro k n l r h hl; simp only [tpF] at h
 split at h
 ·rename_i q
  split at h
  ·cases h
  rename_i c; obtain ⟨h1, h2⟩ := ih (k + 1) (n + 1) _ r h (by simp; omega); refine ⟨fun j hj => ?_, fun j hj1 hj2 hh => ?_⟩
  ·rw [h1 j (by omega)]
   simp only [List.getD_eq_getElem?_getD]; rw [List.getElem?_set_ne (by omega)]
  by_cases e : j = k
  ·subst e
   rw [h1 j (by omega)]; simp only [List.getD_eq_getElem?_getD]; rw [List.getElem?_set_self (by omega)]; simp at c; exact c.2
  exact h2 j (by omega) (by omega) hh
 rename_i q; obtain ⟨h1, h2⟩ := ih (k + 1) n l r h (by omega); refine ⟨fun j hj => h1 j (by omega), fun j hj1 hj2 hh => ?_⟩
 by_cases e : j = k
 ·subst e; rw [hh] at q; simp at q
 exact h2 j (by omega) (by omega) hh
theorem take_inv {ol : Ol} (hO : OlS ol) {a p t : ByteArray} {x y z : Int} (h : (take ol.sts a p t x y z).1 = true) : Inv ol (take ol.sts a p t x y z).2 := by
 unfold take at h ⊢
 split at h
 ·rename_i c1
  rw [if_pos c1]
  split at h
  ·rename_i c2
   rw [if_pos c2]
   split at h
   ·rename_i c3
    rw [if_pos c3]; refine ⟨?_, ?_, takeActV_len _ _, takePastV_len _ _⟩
    ·show Conf ol.sts (bit (takeActV ol.sts a).1)
     unfold takeActV takeAct at c1 ⊢
     cases q : tkF ol.sts a a.size 0 (-1) noSet with
     | none => rw [q] at c1; simp at c1
     | some l => ?_
     rw [q] at c1; simp only at c1 ⊢
     cases q2 : allFit ol.sts l ol.sts.length with
     | false => rw [q2] at c1; simp at c1
     | true => ?_
     simp only [if_true]; exact conf_fit hO.shp (tkF_lt _ _ _ _ _ (by omega) (fun j hj => by rw [bit_noSet] at hj; cases hj) q) q2
    intro k hk hh; show isPast ol.sts k ((takePastV ol.sts p).1.getD k 0) = true; unfold takePastV at c2 ⊢; have h16 := hO.le
    cases q : tpF ol.sts p (min ol.sts.length 16) 0 0 (blankP ol.sts) with
    | none => rw [q] at c2; simp at c2
    | some r => ?_
    rw [q] at c2; obtain ⟨l, n⟩ := r; simp only at c2 ⊢
    split at c2
    ·cases c2
    rename_i c4; rw [if_neg c4]; exact (tpF_past _ _ _ _ _ q (by rw [blankP_len]; omega)).2 k (by omega) (by omega) hh
   cases h
  cases h
 cases h
/-! Texts. -/
theorem bys_at {t : ByteArray} {l : List Int} (h : bys t = l) {k : Nat} {x : Int} (hk : l[k]? = some x) : peek t k = x ∧ k < t.size := by
 have hlt : k < t.size := by have := (List.getElem?_eq_some_iff.1 hk).1; rw [← h, bys_len] at this; exact this
 refine ⟨?_, hlt⟩; have := bys_get t k hlt; rw [h, hk] at this; simpa using this.symm
theorem bys_ext (t : ByteArray) (p q : Nat) : bys (t.extract p q) = ((bys t).drop p).take (q - p) := by
 unfold bys; rw [ByteArray.data_extract, Array.toList_extract, List.extract_eq_take_drop, List.map_take, List.map_drop]
theorem bys_inj {a b : ByteArray} (h : bys a = bys b) : a = b := by
 unfold bys at h
 have hh : a.data.toList = b.data.toList := by
  apply List.ext_getElem?; intro k; have := congrArg (fun l => l[k]?) h; simp only [List.getElem?_map] at this
  cases h1 : a.data.toList[k]? <;> cases h2 : b.data.toList[k]? <;> rw [h1, h2] at this <;> simp at this ⊢
  exact UInt8.toNat_inj.1 (by omega)
 have : a.data = b.data := Array.toList_inj.1 hh
 cases a; cases b; simp at this; rw [this]
theorem bys_str {l : List Int} (h : ∀ x ∈ l, 0 ≤ x ∧ x < 256) : bys (strOfNums l) = l := by
 unfold bys strOfNums; simp only [List.map_map]; rw [show (List.map ((fun b : UInt8 => (b.toNat : Int)) ∘ fun n : Int => UInt8.ofNat n.toNat) l) = l.map id from List.map_congr_left (fun x hx => ?_)]
 ·simp
 have := h x hx; simp only [Function.comp, id, UInt8.toNat_ofNat']; omega
theorem bys_append (a b : ByteArray) : bys (a ++ b) = bys a ++ bys b := by
 unfold bys; rw [ByteArray.data_append]; simp
theorem str_append (a b : List Int) : strOfNums (a ++ b) = strOfNums a ++ strOfNums b := by
 unfold strOfNums; apply ByteArray.ext; rw [ByteArray.data_append]; simp
theorem ev_byte {c : Int} (h : isEv c = true) : 97 ≤ c ∧ c ≤ 122 := by unfold isEv at h; simpa using h
theorem vr_byte {c : Int} (h : isVr c = true) : 120 ≤ c ∧ c ≤ 122 := by have := isVr_or h; omega
theorem AcV.byte {a : Ac} (h : AcV a) : 97 ≤ a.letter ∧ a.letter ≤ 122 ∧ 0 ≤ a.digit ∧ a.digit ≤ 9 := by
 rcases h with ⟨_, h2, h3⟩ | ⟨_, h2, h3⟩ | ⟨_, h2, h3⟩
 ·have := ev_byte h2; omega
 ·have := ev_byte h2; omega
 have := vr_byte h2; omega
theorem put_text {s : ByteArray} {a : Ac} {r : List Int} (h : bys s = encA a ++ r) : peek s 0 = a.sign ∧ peek s 1 = a.letter ∧ 2 ≤ s.size ∧
 (hasDg a.sign = true → peek s 2 = 48 + a.digit ∧ 3 ≤ s.size ∧ bys (s.extract 3 s.size) = r) ∧ (hasDg a.sign = false → bys (s.extract 2 s.size) = r) := by
 unfold encA at h
 cases q : hasDg a.sign with
 | true =>
   rw [q] at h; simp only [if_true] at h; have h0 := bys_at h (k := 0) (x := a.sign) rfl; have h1 := bys_at h (k := 1) (x := a.letter) rfl; have h2 := bys_at h (k := 2) (x := 48 + a.digit) rfl; refine ⟨h0.1, h1.1, by omega, fun _ => ⟨h2.1, by omega, ?_⟩, (fun e => by cases e)⟩; rw [bys_ext, h]; have hl := congrArg List.length h; rw [bys_len] at hl; simp at hl; show List.take (s.size - 3) r = r; exact List.take_of_length_le (by omega)
 | false => ?_
 rw [q] at h; simp only [Bool.false_eq_true, if_false] at h; have h0 := bys_at h (k := 0) (x := a.sign) rfl; have h1 := bys_at h (k := 1) (x := a.letter) rfl; refine ⟨h0.1, h1.1, by omega, (fun e => by cases e), fun _ => ?_⟩; rw [bys_ext, h]; have hl := congrArg List.length h; rw [bys_len] at hl; simp at hl; show List.take (s.size - 2) r = r; exact List.take_of_length_le (by omega)
theorem ext_one {t : ByteArray} {k : Nat} (h : k + 1 ≤ t.size) : t.extract k (k + 1) = strOfNums [peek t k] := by
 have hp : 0 ≤ peek t k ∧ peek t k < 256 := by
  unfold peek; rw [dif_pos (by omega)]; have := UInt8.toNat_lt (t[k]'(by omega)); omega
 apply bys_inj; rw [bys_ext, bys_str (by intro x hx; simp at hx; rw [hx]; exact hp)]; apply List.ext_getElem?; intro j; rw [show k + 1 - k = 1 by omega, List.getElem?_take]
 by_cases c : j < 1
 ·have : j = 0 := by omega
  subst this; rw [if_pos (by omega), List.getElem?_drop, Nat.add_zero, bys_get t k (by omega)]; rfl
 rw [if_neg c, List.getElem?_eq_none (by simp; omega)]
theorem ext_two {t : ByteArray} {k : Nat} (h : k + 2 ≤ t.size) : t.extract k (k + 2) = strOfNums [peek t k, peek t (k + 1)] := by
 have hp : ∀ j, j < t.size → 0 ≤ peek t j ∧ peek t j < 256 := by
  intro j hj; unfold peek; rw [dif_pos hj]; have := UInt8.toNat_lt (t[j]'hj); omega
 apply bys_inj; rw [bys_ext, bys_str (by intro x hx; simp at hx; rcases hx with rfl | rfl; exact hp _ (by omega); exact hp _ (by omega))]; apply List.ext_getElem?; intro j; rw [show k + 2 - k = 2 by omega, List.getElem?_take]
 by_cases c : j < 2
 ·rw [if_pos c, List.getElem?_drop, bys_get t (k + j) (by omega)]
  rcases (by omega : j = 0 ∨ j = 1) with rfl | rfl <;> rfl
 rw [if_neg c, List.getElem?_eq_none (by simp; omega)]
theorem tr_text {rt : RT} {x : Tr} (h : TrOk rt x) : 3 ≤ rt.text.size ∧
 ((x.guard.sign = 0 ∧ peek rt.text 1 ≠ 63 ∧ bys (rt.text.extract 1 (rt.text.size - 2)) = enc x.acts) ∨
  (isVr x.guard.var = true ∧ isSg x.guard.sign = true ∧ 0 ≤ x.guard.digit ∧ x.guard.digit ≤ 9 ∧ 7 ≤ rt.text.size ∧ peek rt.text 1 = 63 ∧ peek rt.text 2 = x.guard.var ∧ peek rt.text 3 = x.guard.sign ∧ peek rt.text 4 = 48 + x.guard.digit ∧ bys (rt.text.extract 5 (rt.text.size - 2)) = enc x.acts)) := by
 have htxt := h.txt; have hl := congrArg List.length htxt; rw [bys_len] at hl
 rcases h.gd with e | ⟨h1, h2, h3, h4⟩
 ·have hs : x.guard.sign = 0 := by rw [e]
  have he : encG x.guard = [] := by unfold encG; rw [hs]; rfl
  rw [he] at htxt hl; simp only [List.nil_append, List.length_cons, List.length_append, List.length_nil] at hl; refine ⟨by omega, .inl ⟨hs, ?_, ?_⟩⟩
  ·cases hq : enc x.acts with
   | nil =>
     rw [hq] at htxt; have := (bys_at htxt (k := 1) (x := 62) rfl).1; omega
   | cons b l =>
     rw [hq] at htxt; have h5 := (bys_at htxt (k := 1) (x := b) rfl).1; have := (enc_no h.ac b (by rw [hq]; simp)).2.2; omega
  rw [bys_ext, htxt]; show List.take (rt.text.size - 2 - 1) (enc x.acts ++ [62, x.target]) = enc x.acts; rw [show rt.text.size - 2 - 1 = (enc x.acts).length by omega]; exact List.take_left
 have hs0 : (x.guard.sign == 0) = false := by
  unfold isSg at h2; simp at h2 ⊢; omega
 have he : encG x.guard = [63, x.guard.var, x.guard.sign, 48 + x.guard.digit] := by unfold encG; rw [hs0]; rfl
 rw [he] at htxt hl; simp only [List.cons_append, List.nil_append, List.length_cons, List.length_append, List.length_nil] at hl htxt; refine ⟨by omega, .inr ⟨h1, h2, h3, h4, by omega, (bys_at htxt (k := 1) rfl).1, (bys_at htxt (k := 2) rfl).1, (bys_at htxt (k := 3) rfl).1, (bys_at htxt (k := 4) rfl).1, ?_⟩⟩; rw [bys_ext, htxt]; show List.take (rt.text.size - 2 - 5) (enc x.acts ++ [62, x.target]) = enc x.acts; rw [show rt.text.size - 2 - 5 = (enc x.acts).length by omega]; exact List.take_left
/-! Moves: of which state, and which of its transitions. -/
def posF (j : Nat) : List Tr → Nat → List Nat
 | [], _ => []
 | x :: l, n => if inS j x then n :: posF j l (n + 1) else posF j l (n + 1)
theorem posF_get (j : Nat) : ∀ (l : List Tr) (n k t : Nat), (posF j l n)[k]? = some t → n ≤ t ∧ ∃ x, l[t - n]? = some x ∧ x.state = j ∧ (l.filter (inS j))[k]? = some x ∧ k = (l.take (t - n)).countP (inS j) := by
 intro l
 induction l with
 | nil => intro n k t h; simp [posF] at h
 | cons x l ih => ?_
 intro n k t h; simp only [posF] at h
 cases q : inS j x with
 | true =>
   rw [q] at h; simp only [if_true] at h
   cases k with
   | zero =>
     simp at h; subst h; refine ⟨Nat.le_refl _, x, by simp, by unfold inS at q; simpa using q, by simp [q], by simp⟩
   | succ k => ?_
   obtain ⟨h1, y, h2, h3, h4, h5⟩ := ih (n + 1) k t (by simpa using h)
   have e : t - n = (t - (n + 1)) + 1 := by omega
   refine ⟨by omega, y, by rw [e]; simpa using h2, h3, by simp [q]; exact h4, ?_⟩; rw [e, List.take_succ_cons, List.countP_cons, q, ← h5]; simp
 | false => ?_
 rw [q] at h; simp only [Bool.false_eq_true, if_false] at h; obtain ⟨h1, y, h2, h3, h4, h5⟩ := ih (n + 1) k t h
 have e : t - n = (t - (n + 1)) + 1 := by omega
 refine ⟨by omega, y, by rw [e]; simpa using h2, h3, by simp [q]; exact h4, ?_⟩; rw [e, List.take_succ_cons, List.countP_cons, q, ← h5]; simp
def hitT (s : Sd) (trg : Int) (x : Tr) : Bool := (x.trig == trg) && holds s x.guard
theorem findP_hit (s : Sd) (j : Nat) (trg : Int) (x : Tr) : findP s j trg x = (inS j x && hitT s trg x) := by
 unfold findP inS hitT; rw [Bool.and_assoc]
theorem findInF_none (s : Sd) (j : Nat) (trg : Int) : ∀ (l : List Tr) (n : Nat), (∀ x ∈ l.filter (inS j), hitT s trg x = false) → findInF s j trg l n = -2 := by
 intro l
 induction l with
 | nil => intro n _; rfl
 | cons x l ih => ?_
 intro n h; simp only [findInF]; rw [findP_hit]
 cases q : inS j x with
 | false =>
   simp only [Bool.false_and, Bool.false_eq_true, if_false]; exact ih (n + 1) (fun y hy => h y (by simp [q]; exact (by simpa using hy)))
 | true => ?_
 rw [h x (by simp [q])]; simp only [Bool.and_false, Bool.false_eq_true, if_false]; exact ih (n + 1) (fun y hy => h y (by rw [List.filter_cons, q]; simp only [if_true]; exact List.mem_cons_of_mem _ hy))
theorem findInF_hit (s : Sd) (j : Nat) (trg : Int) : ∀ (l : List Tr) (n k : Nat) (x : Tr), (l.filter (inS j))[k]? = some x → hitT s trg x = true → (∀ (i : Nat) (y : Tr), i < k → (l.filter (inS j))[i]? = some y → hitT s trg y = false) →
 ∃ t : Nat, (posF j l n)[k]? = some t ∧ findInF s j trg l n = t := by
 intro l
 induction l with
 | nil => intro n k x h; simp at h
 | cons a l ih => ?_
 intro n k x h hx hb; simp only [findInF, posF]; rw [findP_hit]
 cases q : inS j a with
 | false =>
   rw [List.filter_cons, q] at h; simp only [Bool.false_eq_true, if_false] at h; simp only [Bool.false_and, Bool.false_eq_true, if_false]; exact ih (n + 1) k x h hx (fun i y hi hy => hb i y hi (by rw [List.filter_cons, q]; simpa using hy))
 | true => ?_
 rw [List.filter_cons, q] at h; simp only [if_true] at h
 cases k with
 | zero =>
   simp at h; subst h; rw [hx]; exact ⟨n, by simp, by simp⟩
 | succ k => ?_
 have ha := hb 0 a (by omega) (by rw [List.filter_cons, q]; simp); rw [ha]; simp only [Bool.and_false, Bool.false_eq_true, if_false, if_true]; obtain ⟨t, h1, h2⟩ := ih (n + 1) k x (by simpa using h) hx (fun i y hi hy => hb (i + 1) y (by omega) (by rw [List.filter_cons, q]; simpa using hy)); exact ⟨t, by simpa using h1, h2⟩
def mvK (ol : Ol) (t : Nat) : Nat := match ol.trs[t]? with | some x => (ol.trs.take t).countP (inS x.state.toNat) | none => 0
structure MvOf (ol : Ol) (t a k : Nat) : Prop where
 tr : ∃ x, ol.trs[t]? = some x ∧ x.state = a ∧ (ol.trs.filter (inS a))[k]? = some x
 st : stateOf ol t = a
 rk : mvK ol t = k
theorem mv_of {ol : Ol} {t a k : Nat} (h : (posF a ol.trs 0)[k]? = some t) : MvOf ol t a k := by
 obtain ⟨_, x, h2, h3, h4, h5⟩ := posF_get a ol.trs 0 k t h; rw [Nat.sub_zero] at h2 h5; refine ⟨⟨x, h2, h3, h4⟩, by unfold stateOf; rw [h2]; exact h3, ?_⟩; unfold mvK; rw [h2]; simp only; rw [h3, h5]; rfl
theorem findIn_none {ol : Ol} {s : Sd} {j : Nat} {trg : Int} (h : ∀ x ∈ ol.trs.filter (inS j), hitT s trg x = false) : findIn ol s j trg = -2 := findInF_none s j trg ol.trs 0 h
theorem findIn_hit {ol : Ol} {s : Sd} {j : Nat} {trg : Int} {k : Nat} {x : Tr} (h : (ol.trs.filter (inS j))[k]? = some x) (hx : hitT s trg x = true) (hb : ∀ (i : Nat) (y : Tr), i < k → (ol.trs.filter (inS j))[i]? = some y → hitT s trg y = false) :
 ∃ t : Nat, MvOf ol t j k ∧ findIn ol s j trg = t := by
 obtain ⟨t, h1, h2⟩ := findInF_hit s j trg ol.trs 0 k x h hx hb; exact ⟨t, mv_of h1, h2⟩
theorem mv_inj {ol : Ol} {t u : Nat} {x y : Tr} (ht : ol.trs[t]? = some x) (hu : ol.trs[u]? = some y) (hs : x.state = y.state) (h0 : 0 ≤ x.state) (hk : mvK ol t = mvK ol u) : t = u := by
 unfold mvK at hk; rw [ht, hu] at hk; simp only at hk; rw [← hs] at hk
 have hx : inS x.state.toNat x = true := by unfold inS; rw [Int.toNat_of_nonneg h0]; simp
 have hy : inS x.state.toNat y = true := by unfold inS; rw [Int.toNat_of_nonneg h0, hs]; simp
 have key : ∀ (a b : Nat) (z : Tr), ol.trs[a]? = some z → inS x.state.toNat z = true → a < b → (ol.trs.take a).countP (inS x.state.toNat) < (ol.trs.take b).countP (inS x.state.toNat) := by
  intro a b z hz hi hab
  have e : (ol.trs.take b) = ol.trs.take a ++ (ol.trs.take b).drop a := by
   have := List.take_append_drop a (ol.trs.take b); rw [List.take_take, Nat.min_eq_left (by omega)] at this; exact this.symm
  rw [e, List.countP_append]
  have hm : z ∈ (ol.trs.take b).drop a := by
   rw [List.mem_iff_getElem?]; exact ⟨0, by rw [List.getElem?_drop, Nat.add_zero, List.getElem?_take, if_pos hab]; exact hz⟩
  have : 0 < ((ol.trs.take b).drop a).countP (inS x.state.toNat) := by rw [List.countP_pos_iff]; exact ⟨z, hm, hi⟩
  omega
 rcases Nat.lt_trichotomy t u with c | c | c
 ·have := key t u x ht hx c; omega
 ·exact c
 have := key u t y hu hy c; omega
theorem Fa2.get {α β : Type} {R : α → β → Prop} {l : List α} {m : List β} (h : Fa2 R l m) {k : Nat} {b : β} (hb : m[k]? = some b) : ∃ a, l[k]? = some a ∧ R a b := by
 induction h generalizing k with
 | nil => simp at hb
 | cons hab _ ih => ?_
 cases k with
 | zero => simp at hb; subst hb; exact ⟨_, by simp, hab⟩
 | succ k => simpa using ih (by simpa using hb)
theorem Fa2.getL {α β : Type} {R : α → β → Prop} {l : List α} {m : List β} (h : Fa2 R l m) {k : Nat} {a : α} (ha : l[k]? = some a) : ∃ b, m[k]? = some b ∧ R a b := by
 induction h generalizing k with
 | nil => simp at ha
 | cons hab _ ih => ?_
 cases k with
 | zero => simp at ha; subst ha; exact ⟨_, by simp, hab⟩
 | succ k => simpa using ih (by simpa using ha)
theorem admitF_eq (ol : Ol) (s : Sd) (t : Nat) : ∀ (l kept : List Int), admitF ol s t l kept = if l.all (fun x => !(meets (leaves ol s t) (leaves ol s x.toNat)) || within ol t x.toNat) then some (kept ++ l.filter (fun x => !(meets (leaves ol s t) (leaves ol s x.toNat))) ++ [(t : Int)]) else none := by
 intro l
 induction l with
 | nil => intro kept; simp [admitF]
 | cons x l ih => ?_
 intro kept; simp only [admitF, List.all_cons, List.filter_cons]
 cases q : meets (leaves ol s t) (leaves ol s x.toNat) with
 | true =>
   cases q2 : within ol t x.toNat with
   | true => simp only [Bool.not_true, Bool.false_or, Bool.true_and, if_true, Bool.false_eq_true, if_false]; exact ih kept
   | false => simp
 | false => ?_
 simp only [Bool.not_false, Bool.true_or, Bool.true_and, if_true, Bool.false_eq_true, if_false]; rw [ih]; simp
/-! Fuel does not matter. -/
theorem atEndF_more {ss : List St} (h : Shp ss) (l : List Bool) : ∀ (f g i : Nat), ss.length ≤ i + f → ss.length ≤ i + g → i < ss.length → atEndF ss l f i = atEndF ss l g i := by
 intro f
 induction f with
 | zero => intro g i h1 _ h3; omega
 | succ f ih => ?_
 intro g i h1 h2 h3
 match g, h2 with
 | 0, h2 => omega
 | g + 1, h2 =>
   simp only [atEndF]
   have : allK (fun (j : Nat) => !isChild ss j i || atEndF ss l f j) ss.length = allK (fun (j : Nat) => !isChild ss j i || atEndF ss l g j) ss.length := by
    unfold allK; rw [Bool.eq_iff_iff, List.all_eq_true, List.all_eq_true]
    have key : ∀ j : Nat, (!isChild ss j i || atEndF ss l f j) = (!isChild ss j i || atEndF ss l g j) := by
     intro j
     cases q : isChild ss j i with
     | false => rfl
     | true => ?_
     have := kid_lt h q; rw [ih g j (by omega) (by omega) this.2]
    constructor <;> (intro hh j hj; have := hh j hj; rw [key j] at * ; exact this)
   rw [this]
theorem atEnd_step {ss : List St} (h : Shp ss) (l : List Bool) (i : Nat) : atEnd ss l i = if kindAt ss i == 2 then hasFin ss l i else if kindAt ss i == 3 then (kidsS ss i).all (fun j => atEnd ss l j) else false := by
 have e : atEnd ss l i = if kindAt ss i == 2 then hasFin ss l i else if kindAt ss i == 3 then allK (fun (j : Nat) => !isChild ss j i || atEndF ss l (ss.length + 1) j) ss.length else false := rfl
 rw [e]
 have : allK (fun (j : Nat) => !isChild ss j i || atEndF ss l (ss.length + 1) j) ss.length = (kidsS ss i).all (fun j => atEnd ss l j) := by
  unfold allK; rw [Bool.eq_iff_iff, List.all_eq_true, List.all_eq_true]
  constructor
  ·intro hh j hj
   have hc := mem_kids.1 hj; have := hh j (by simpa using (child_in hc).1); rw [hc] at this; simp only [Bool.not_true, Bool.false_or] at this; unfold atEnd; rw [atEndF_more h l (ss.length + 2) (ss.length + 1) j (by omega) (by omega) (child_in hc).1]; exact this
  intro hh j _
  cases q : isChild ss j i with
  | false => rfl
  | true => ?_
  have := hh j (mem_kids.2 q); unfold atEnd at this; rw [atEndF_more h l (ss.length + 2) (ss.length + 1) j (by omega) (by omega) (child_in q).1] at this; simpa using this
 rw [this]
theorem hasFin_kids {ss : List St} (l : List Bool) (i : Nat) : hasFin ss l i = (kidsS ss i).any (fun j => (kindAt ss j == 4) && bit l j) := by
 unfold hasFin anyK; rw [Bool.eq_iff_iff, List.any_eq_true, List.any_eq_true]
 constructor
 ·rintro ⟨j, hj, hp⟩
  unfold finP at hp; rw [has_nat] at hp; simp only [Bool.and_eq_true, beq_iff_eq] at hp; refine ⟨j, mem_kids.2 (child_of (by simpa using hj) hp.1.2 (by rw [hp.1.1]; decide)), ?_⟩; rw [hp.2, hp.1.1]; rfl
 rintro ⟨j, hj, hp⟩; have hc := child_in (mem_kids.1 hj); refine ⟨j, by simpa using hc.1, ?_⟩; unfold finP; rw [has_nat, hc.2.1]; simp only [Bool.and_eq_true, beq_iff_eq] at hp ⊢; exact ⟨⟨hp.1, trivial⟩, hp.2⟩
theorem next_more {ss : List St} (h : Shp ss) (S : Nat → Bool) (goals : List Int) : ∀ (f g i : Nat), ss.length ≤ i + f → ss.length ≤ i + g → i < ss.length → nextR ss S goals f i = nextR ss S goals g i := by
 intro f
 induction f with
 | zero => intro g i h1 _ h3; omega
 | succ f ih => ?_
 intro g i h1 h2 h3
 match g, h2 with
 | 0, h2 => omega
 | g + 1, h2 =>
   simp only [nextR]
   congr 1
   split
   ·rename_i q
    have := kid_lt h (pick_kid h S goals h3 (by simpa using q)); exact ih g _ (by omega) (by omega) this.2
   split
   ·unfold List.flatMap
    congr 1
    refine List.map_congr_left (fun j hj => ?_); have := kid_lt h (mem_kids.1 hj); exact ih g j (by omega) (by omega) this.2
   rfl
theorem next_step {ss : List St} (h : Shp ss) (S : Nat → Bool) (goals : List Int) {i : Nat} (hi : i < ss.length) :
 nextR ss S goals ss.length i = i :: (if kindAt ss i == 2 then nextR ss S goals ss.length (pickR ss S goals i) else if kindAt ss i == 3 then (kidsS ss i).flatMap (nextR ss S goals ss.length) else []) := by
 have e : nextR ss S goals ss.length i = nextR ss S goals (ss.length + 1) i := next_more h S goals _ _ i (by omega) (by omega) hi; rw [e]; rfl
theorem next_congr {ss : List St} {S : Nat → Bool} {g1 g2 : List Int} (hg : ∀ k, hitG ss g1 k = hitG ss g2 k) : ∀ (f i : Nat), nextR ss S g1 f i = nextR ss S g2 f i := by
 have hp : ∀ i, pickR ss S g1 i = pickR ss S g2 i := by
  intro i; unfold pickR; rw [show hitG ss g1 = hitG ss g2 from funext hg]
 intro f
 induction f with
 | zero => intro i; rfl
 | succ f ih => ?_
 intro i; simp only [nextR]; rw [hp i, ih, show nextR ss S g1 f = nextR ss S g2 f from funext ih]
def goalR (ol : Ol) (s : Sd) (t : Int) : Int := match ol.trs[t.toNat]? with | some x => if x.target == 45 then -1 else goal ol.sts s (place ol.sts x.target) | none => -1
theorem goals_hit {ol : Ol} (s : Sd) (k : Nat) : ∀ (l : List Int), hitG ol.sts (l.map (goalR ol s)) k = hitG ol.sts (goalsF ol s l) k := by
 intro l
 induction l with
 | nil => rfl
 | cons t l ih => ?_
 unfold hitG at ih ⊢; rw [List.map_cons, List.any_cons, ih]
 rcases hq : ol.trs[t.toNat]? with _ | x
 ·have h1 : goalR ol s t = -1 := by unfold goalR; rw [hq]
  have h2 : goalsF ol s (t :: l) = goalsF ol s l := by simp only [goalsF]; rw [hq]
  rw [h1, h2]; simp
 by_cases c : (x.target == 45) = true
 ·have h1 : goalR ol s t = -1 := by unfold goalR; rw [hq]; simp only; rw [if_pos c]
  have h2 : goalsF ol s (t :: l) = goalsF ol s l := by simp only [goalsF]; rw [hq]; simp only; rw [if_pos c]
  rw [h1, h2]; simp
 have h1 : goalR ol s t = goal ol.sts s (place ol.sts x.target) := by unfold goalR; rw [hq]; simp only; rw [if_neg c]
 have h2 : goalsF ol s (t :: l) = goal ol.sts s (place ol.sts x.target) :: goalsF ol s l := by simp only [goalsF]; rw [hq]; simp only; rw [if_neg c]
 rw [h1, h2, List.any_cons]
def pastR (ss : List St) (s : Sd) : List Int := ((List.range ss.length).filter (hist ss)).map (pastAt s)
theorem fold_last (p : Nat → Bool) (nm : Nat → Int) : ∀ (l : List Nat) (c : Int), (∀ k ∈ l, p k = false) ∧ l.foldl (fun c k => if p k then nm k else c) c = c ∨ ∃ k ∈ l, p k = true ∧ l.foldl (fun c k => if p k then nm k else c) c = nm k := by
 intro l
 induction l with
 | nil => intro c; exact .inl ⟨by simp, rfl⟩
 | cons a l ih => ?_
 intro c; simp only [List.foldl_cons]
 rcases ih (if p a then nm a else c) with ⟨h1, h2⟩ | ⟨k, hk, h1, h2⟩
 ·cases q : p a with
  | true =>
    rw [q] at h2; simp only [if_true] at h2 ⊢; exact .inr ⟨a, by simp, q, h2⟩
  | false =>
    rw [q] at h2; simp only [Bool.false_eq_true, if_false] at h2 ⊢; refine .inl ⟨fun k hk => ?_, h2⟩
    rcases List.mem_cons.1 hk with rfl | hk
    ·exact q
    exact h1 k hk
 exact .inr ⟨k, by simp [hk], h1, h2⟩
theorem rem_fold {ol : Ol} (hO : OlS ol) {s : Sd} (hI : Inv ol s) (left : List Bool) {k p : Nat} (hk : k < ol.sts.length) (hh : hist ol.sts k = true) (hp : parAt ol.sts k = p) :
 pastAt (rem ol.sts s left) k = (kidsS ol.sts p).foldl (fun c j => if bit left p && bit s.act j then nmAt ol.sts j else c) (pastAt s k) := by
 have h16 := hO.le; have e : pastAt (rem ol.sts s left) k = (remF ol.sts s.act left (min ol.sts.length 16) 0 s.past).getD k 0 := rfl; rw [e, remF_get _ _ _ _ _ _ (by have := hI.lp; omega)]
 have hk2 : kindAt ol.sts p = 2 := by
  have := (hO.shp.hs k hk (.inl (by rw [hist_kind hk] at hh; simpa using hh))).2; rw [hp] at this; exact this
 unfold remP; rw [hh, hp, has_nat]
 rcases fold_last (fun j => bit left p && bit s.act j) (nmAt ol.sts) (kidsS ol.sts p) (pastAt s k) with ⟨h1, h2⟩ | ⟨j, hj, h1, h2⟩
 ·rw [h2]
  split
  ·rename_i c
   exfalso; have hc := c.2.2; simp only [Bool.true_and, Bool.and_eq_true, bne_iff_ne] at hc
   rcases actCh_spec ol.sts s.act (p : Int) with ⟨e2, _⟩ | ⟨j, e2, hj1, hj2⟩
   ·exact hc.2 e2
   have := h1 j (mem_kids.2 hj2); rw [hc.1, hj1] at this; cases this
  rfl
 rw [h2]; simp only [Bool.and_eq_true] at h1
 rcases actCh_spec ol.sts s.act (p : Int) with ⟨e2, hz⟩ | ⟨i, e2, hi1, hi2⟩
 ·have := hz j h1.2; rw [mem_kids.1 hj] at this; cases this
 have hij : i = j := hI.conf.one p i j hk2 hi2 (mem_kids.1 hj) hi1 h1.2; subst hij; rw [e2, h1.1, if_pos ⟨by omega, by omega, by simp⟩, Int.toNat_natCast]
/-! A tick ends: of the timers that are due none comes in again. -/
def dcL : List Int → Nat
 | _ :: b :: l => (if b == 48 then 1 else 0) + dcL l
 | _ => 0
theorem dcL_append : ∀ (n : Nat) (a b : List Int), a.length = 2 * n → dcL (a ++ b) = dcL a + dcL b := by
 intro n
 induction n with
 | zero => intro a b h; have : a = [] := List.length_eq_zero_iff.1 (by omega); subst this; simp [dcL]
 | succ n ih => ?_
 intro a b h
 match a, h with
 | x :: y :: a, h =>
   simp only [List.cons_append, dcL]; rw [ih a b (by simp at h; omega)]; omega
 | [_], h => simp at h; omega
 | [], h => simp at h
theorem dcL_app {a b : List Int} (h : a.length % 2 = 0) : dcL (a ++ b) = dcL a + dcL b := dcL_append (a.length / 2) a b (by omega)
theorem peek_byte (t : ByteArray) (k : Nat) : 0 ≤ peek t k ∧ peek t k < 256 := by
 unfold peek
 split
 ·have := UInt8.toNat_lt (t[k]'(by assumption)); omega
 omega
theorem bys_drop2 {t : ByteArray} {k : Nat} (h : k + 1 < t.size) : (bys t).drop k = peek t k :: peek t (k + 1) :: (bys t).drop (k + 2) := by
 have h1 := bys_get t k (by omega); have h2 := bys_get t (k + 1) h; have hl := bys_len t; rw [List.drop_eq_getElem_cons (by omega), List.drop_eq_getElem_cons (i := k + 1) (by omega)]; rw [List.getElem?_eq_getElem (by omega)] at h1 h2; simp only [Option.some.injEq] at h1 h2; rw [h1, h2]
theorem cbF_dc (t : ByteArray) (c : Int) : ∀ (f k : Nat) (acc : List Int), acc.length % 2 = 0 → (∀ x ∈ acc, 0 ≤ x ∧ x < 256) →
 (cbF t c f k acc).length % 2 = 0 ∧ dcL (cbF t c f k acc) ≤ dcL acc + dcL ((bys t).drop k) ∧ ∀ x ∈ cbF t c f k acc, 0 ≤ x ∧ x < 256 := by
 intro f
 induction f with
 | zero => intro k acc h hb; exact ⟨h, by simp only [cbF]; omega, hb⟩
 | succ f ih => ?_
 intro k acc h hb; simp only [cbF]
 split
 ·rename_i c1
  rw [bys_drop2 c1]; simp only [dcL]
  split
  ·obtain ⟨h1, h2, h3⟩ := ih (k + 2) (acc ++ [peek t k, peek t (k + 1)]) (by simp; omega) (by
    intro x hx
    rcases List.mem_append.1 hx with hx | hx
    ·exact hb x hx
    simp at hx; rcases hx with rfl | rfl <;> exact peek_byte _ _)
   refine ⟨h1, ?_, h3⟩; rw [dcL_app h] at h2; simp only [dcL] at h2; omega
  obtain ⟨h1, h2, h3⟩ := ih (k + 2) acc h hb; exact ⟨h1, by omega, h3⟩
 exact ⟨h, by omega, hb⟩
structure AcA (ol : Ol) : Prop where
 tr : ∀ x ∈ ol.trs, ∀ a ∈ x.acts, AcV a
 bl : ∀ b ∈ ol.bls, ∀ k : Nat, ∀ sg : Int, b.state = k → b.sign = sg → (sg = 94 ∨ sg = 36) → ∀ a ∈ b.acts, AcV a
theorem aca_of {L : List RN} {r : Rs} (hN : NR L r) (hT : T0 r) : AcA ⟨r.sts, r.trs, r.bls⟩ := by
 refine ⟨fun x hx => ?_, fun b hb k sg hk hs hsg => ?_⟩
 ·simp only at hx
  have h0 := hT x hx; have h1 := hN.ts x hx
  obtain ⟨k, hk⟩ : ∃ k : Nat, x.state = k := ⟨x.state.toNat, by omega⟩
  have hkl : k < L.length := by omega
  obtain ⟨rt, _, hok⟩ := (hN.trs k _ (List.getElem?_eq_getElem hkl)).right (b := x) (by rw [List.mem_filter]; exact ⟨hx, by unfold inS; rw [hk]; simp⟩); exact hok.ac
 simp only at hb; have h1 := hN.bs b hb
 have hkl : k < L.length := by omega
 have hm : b ∈ r.bls.filter (inB_ k sg) := by rw [List.mem_filter]; exact ⟨hb, by unfold inB_; rw [hk, hs]; simp⟩
 rcases hsg with rfl | rfl
 ·obtain ⟨_, _, hok⟩ := (hN.ent k _ (List.getElem?_eq_getElem hkl)).right hm
  exact hok.ac
 obtain ⟨_, _, hok⟩ := (hN.lea k _ (List.getElem?_eq_getElem hkl)).right hm; exact hok.ac
end Ch
end Go.Proofs.YtnlbchmfcebeeaaGreat
