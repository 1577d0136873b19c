/- What acts keep, a chart in motion keeps (plain). A stand told and taken again is that stand (plain). A chart at rest, and an event that none waits for (plain). -/
import Derived.Test.YtnlbchmfcebeeaaGreatTXp
namespace Go.Proofs.YtnlbchmfcebeeaaGreat
namespace Ch
/-! What a stand tells is one of the chart's states, and that stand again. -/
def TL (lo : Int) : List Int → Prop
 | a :: b :: l => (isEv a = true ∧ lo ≤ b ∧ b ≤ 57) ∧ TL lo l
 | [_] => False
 | [] => True
theorem TL.even {lo : Int} : ∀ (n : Nat) {l : List Int}, l.length ≤ n → TL lo l → l.length % 2 = 0 := by
 intro n
 induction n with
 | zero => intro l hl _; have : l = [] := List.length_eq_zero_iff.1 (by omega); subst this; rfl
 | succ n ih =>
   intro l hl h
   match l, h with
   | [], _ => rfl
   | a :: b :: l, h => have := ih (l := l) (by simp at hl; omega) h.2; simp; omega
theorem TL.append {lo : Int} : ∀ (n : Nat) {a b : List Int}, a.length ≤ n → TL lo a → TL lo b → TL lo (a ++ b) := by
 intro n
 induction n with
 | zero => intro a b hl _ hb; have : a = [] := List.length_eq_zero_iff.1 (by omega); subst this; exact hb
 | succ n ih =>
   intro a b hl ha hb
   match a, ha with
   | [], _ => exact hb
   | x :: y :: a, ha => exact ⟨ha.1, ih (by simp at hl; omega) ha.2 hb⟩
def TmL (lo : Int) (s : Sd) : Prop := TL lo (bys s.tm) ∧ s.tm.size ≤ 16
theorem cbF_tl {lo : Int} (t : ByteArray) (c : Int) : ∀ (f k : Nat) (acc : List Int), TL lo acc → TL lo ((bys t).drop k) → TL lo (cbF t c f k acc) := by
 intro f
 induction f with
 | zero => intro k acc h _; exact h
 | succ f ih =>
   intro k acc h hb
   simp only [cbF]
   split
   ·rename_i c1
    rw [bys_drop2 c1] at hb
    split
    ·exact ih _ _ (TL.append acc.length (Nat.le_refl _) h ⟨hb.1, trivial⟩) hb.2
    ·exact ih _ _ h hb.2
   ·exact h
theorem doAct_tl {lo : Int} (hlo : lo ≤ 49) {m : Ma} (h : TmL lo m.s) {a : Ac} (ha : AcV a) : TmL lo (doAct m a).2.s := by
 unfold doAct
 split
 ·exact h
 ·split
  ·rename_i c2
   unfold send
   split
   ·exact h
   ·rename_i c3
    obtain ⟨h1, h2⟩ := h
    have e : a.sign = 64 := by simpa using c2
    have hd : isEv a.letter = true ∧ 1 ≤ a.digit ∧ a.digit ≤ 9 := by
     rcases ha with ⟨hs, _⟩ | ⟨_, h3⟩ | ⟨hs, _⟩
     ·omega
     ·exact h3
     ·omega
    have hb := ha.byte
    have hev : m.s.tm.size % 2 = 0 := by rw [← bys_len]; exact TL.even _ (Nat.le_refl _) h1
    refine ⟨?_, ?_⟩
    ·show TL lo (bys (m.s.tm ++ strOfNums [a.letter, 48 + a.digit]))
     rw [bys_append, bys_str (by intro x hx; simp at hx; omega)]
     exact TL.append _ (Nat.le_refl _) h1 ⟨⟨hd.1, by omega, by omega⟩, trivial⟩
    ·show (m.s.tm ++ strOfNums [a.letter, 48 + a.digit]).size ≤ 16
     rw [ByteArray.size_append, strOfNums_size]; simp; omega
  ·split
   ·obtain ⟨h1, h2⟩ := h
    obtain ⟨_, _, g3⟩ := cbF_dc m.s.tm a.letter m.s.tm.size 0 [] rfl (by simp)
    refine ⟨?_, ?_⟩
    ·show TL lo (bys (strOfNums (cbF m.s.tm a.letter m.s.tm.size 0 [])))
     rw [bys_str g3]
     exact cbF_tl _ _ _ _ _ trivial (by simpa using h1)
    ·show (strOfNums (cbF m.s.tm a.letter m.s.tm.size 0 [])).size ≤ 16
     rw [strOfNums_size]
     have := cbF_len m.s.tm a.letter m.s.tm.size 0 [] (Nat.le_refl _) (Nat.zero_le _)
     omega
   ·split
    ·exact h
    ·have : (setV m.s a.letter (newVal m.s a)).tm = m.s.tm := by
      unfold setV setVar
      split
      ·split
       ·rfl
       ·split <;> rfl
      ·rfl
     show TmL lo (setV m.s a.letter (newVal m.s a))
     unfold TmL
     rw [this]; exact h
/-- Whatever acts keep, a chart in motion keeps. -/
structure Keeps (ol : Ol) (P : Sd → Prop) : Prop where
 act : ∀ (m : Ma) (a : Ac), AcV a → P m.s → P (doAct m a).2.s
 set : ∀ (m : Ma) (i : Int) (v : Bool), P m.s → P (setAct m i v).s
 rm : ∀ (s : Sd) (left : List Bool), P s → P (rem ol.sts s left)
section
variable {ol : Ol} {P : Sd → Prop}
theorem Keeps.acts (h : Keeps ol P) : ∀ (l : List Ac) {m : Ma}, P m.s → (∀ a ∈ l, AcV a) → P (doActs l m).s := by
 intro l
 induction l with
 | nil => intro m hp _; exact hp
 | cons a l ih =>
   intro m hp ha
   simp only [doActs]
   have h1 := h.act m a (ha a (by simp)) hp
   split
   ·exact ih h1 (fun b hb => ha b (by simp [hb]))
   ·exact h1
theorem Keeps.bls (h : Keeps ol P) {k : Nat} {sg : Int} (hsg : sg = 94 ∨ sg = 36) : ∀ (l : List Bl) {m : Ma}, (∀ b ∈ l, ∀ k : Nat, ∀ sg : Int, b.state = k → b.sign = sg → (sg = 94 ∨ sg = 36) → ∀ a ∈ b.acts, AcV a) → P m.s → P (doBls k sg l m).s := by
 intro l
 induction l with
 | nil => intro m _ hp; exact hp
 | cons b l ih =>
   intro m hA hp
   simp only [doBls]
   refine ih (fun b hb => hA b (by simp [hb])) ?_
   split
   ·rename_i c
    simp only [Bool.and_eq_true, beq_iff_eq] at c
    exact h.acts _ hp (hA b (by simp) k sg c.1 c.2 hsg)
   ·exact hp
theorem Keeps.enterSt (h : Keeps ol P) (hA : AcA ol) {m : Ma} (hp : P m.s) (k : Nat) : P (enterSt ol m k).s := by
 have h1 := h.bls (k := k) (.inl rfl) ol.bls hA.bl (h.set m k true hp)
 unfold Ch.enterSt
 split
 ·rw [(tellEnd_s _ _ _).1]; exact h1
 ·exact h1
theorem Keeps.enterF (h : Keeps ol P) (hA : AcA ol) (st : List Bool) (gl : List Int) : ∀ (f k : Nat) {m : Ma}, P m.s → P (enterF ol st gl f k m).s := by
 intro f
 induction f with
 | zero => intro k m hp; exact hp
 | succ f ih =>
   intro k m hp
   simp only [Ch.enterF]
   refine ih _ ?_
   split
   ·exact h.enterSt hA hp k
   ·exact hp
theorem Keeps.leaveF (h : Keeps ol P) (hA : AcA ol) (left : List Bool) : ∀ (k : Nat) {m : Ma}, P m.s → P (leaveF ol left k m).s := by
 intro k
 induction k with
 | zero => intro m hp; exact hp
 | succ k ih =>
   intro m hp
   simp only [Ch.leaveF]
   refine ih ?_
   split
   ·exact h.set _ _ _ (h.bls (.inr rfl) ol.bls hA.bl hp)
   ·exact hp
theorem Keeps.doTrs (h : Keeps ol P) (hA : AcA ol) : ∀ (l : List Int) {m : Ma}, P m.s → P (doTrs ol l m).s := by
 intro l
 induction l with
 | nil => intro m hp; exact hp
 | cons x l ih =>
   intro m hp
   simp only [Ch.doTrs]
   refine ih (h.acts _ hp ?_)
   unfold actsOf
   split
   ·rename_i y hy; exact hA.tr y (List.mem_of_getElem? hy)
   ·simp
theorem Keeps.micro (h : Keeps ol P) (hA : AcA ol) {m : Ma} (hp : P m.s) (l : List Int) : P (micro ol m l).s :=
 h.enterF hA _ _ _ _ (h.doTrs hA l (h.leaveF hA _ _ (m := { m with s := Ch.rem ol.sts m.s (leftAll ol m.s l) }) (h.rm _ _ hp)))
theorem Keeps.rounds (h : Keeps ol P) (hA : AcA ol) : ∀ (n : Nat) {m : Ma}, P m.s → P (rounds ol n m).s := by
 intro n
 induction n with
 | zero => intro m hp; exact hp
 | succ n ih =>
   intro m hp
   simp only [Ch.rounds]
   split
   ·refine ih ?_
    unfold round
    split
    ·split
     ·exact h.micro hA hp _
     ·rename_i a q _; exact h.micro hA (m := { m with q := q }) hp _
    ·exact h.micro hA hp _
   ·exact hp
end
theorem keeps_tl {lo : Int} (hlo : lo ≤ 49) (ol : Ol) : Keeps ol (TmL lo) := ⟨fun _ _ ha h => doAct_tl hlo h ha, fun _ _ _ h => h, fun _ _ h => h⟩
end Ch
end Go.Proofs.YtnlbchmfcebeeaaGreat
namespace Go.Proofs.YtnlbchmfcebeeaaGreat
namespace Ch
end Ch
end Go.Proofs.YtnlbchmfcebeeaaGreat
namespace Go.Proofs.YtnlbchmfcebeeaaGreat
namespace Ch
/-! A chart at rest; an event that none waits for. -/
def SameAV (a b : Sd) : Prop := a.act = b.act ∧ a.x = b.x ∧ a.y = b.y ∧ a.z = b.z
theorem holds_av {a b : Sd} (h : SameAV a b) (g : Gd) : holds a g = holds b g := by
 obtain ⟨_, h1, h2, h3⟩ := h
 unfold holds var; rw [h1, h2, h3]
theorem findInF_av {a b : Sd} (h : SameAV a b) (st trg : Int) : ∀ (l : List Tr) (k : Nat), findInF a st trg l k = findInF b st trg l k := by
 intro l
 induction l with
 | nil => intro k; rfl
 | cons t l ih => intro k; simp only [findInF]; unfold findP; rw [holds_av h, ih]
theorem findFromF_av {a b : Sd} (h : SameAV a b) (ol : Ol) (trg : Int) : ∀ (f : Nat) (i : Int), findFromF ol a trg f i = findFromF ol b trg f i := by
 intro f
 induction f with
 | zero => intro i; rfl
 | succ f ih => intro i; simp only [findFromF]; unfold findIn; rw [findInF_av h, ih]
theorem findF_av {a b : Sd} (h : SameAV a b) (ol : Ol) (trg : Int) : ∀ (f k : Nat) (fl : List Int), findF ol a trg f k fl = findF ol b trg f k fl := by
 intro f
 induction f with
 | zero => intro k fl; rfl
 | succ f ih =>
   intro k fl
   simp only [findF]
   have : findStep ol a trg fl k = findStep ol b trg fl k := by
    unfold findStep findFrom; rw [h.1, findFromF_av h]
   rw [this, ih]
theorem leaves_av {a b : Sd} (h : SameAV a b) (ol : Ol) (t : Nat) : leaves ol a t = leaves ol b t := by unfold leaves; rw [h.1]
theorem admitF_av {a b : Sd} (h : SameAV a b) (ol : Ol) (t : Nat) : ∀ (l kept : List Int), admitF ol a t l kept = admitF ol b t l kept := by
 intro l
 induction l with
 | nil => intro kept; rfl
 | cons x l ih => intro kept; simp only [admitF]; rw [leaves_av h, leaves_av h, ih, ih]
theorem chooseF_av {a b : Sd} (h : SameAV a b) (ol : Ol) : ∀ (l acc : List Int), chooseF ol a l acc = chooseF ol b l acc := by
 intro l
 induction l with
 | nil => intro acc; rfl
 | cons x l ih =>
   intro acc
   simp only [chooseF]
   have : admis ol a acc x.toNat = admis ol b acc x.toNat := by unfold admis; rw [admitF_av h]
   rw [this, ih]
theorem choose_av {a b : Sd} (h : SameAV a b) (ol : Ol) (trg : Int) : choose ol a trg = choose ol b trg := by
 unfold choose find; rw [findF_av h, chooseF_av h]
def Stb (ol : Ol) (s : Sd) : Prop := choose ol s 46 = []
theorem Stb.av {ol : Ol} {a b : Sd} (h : Stb ol b) (e : SameAV a b) : Stb ol a := by unfold Stb; rw [choose_av e]; exact h
end Ch
end Go.Proofs.YtnlbchmfcebeeaaGreat
