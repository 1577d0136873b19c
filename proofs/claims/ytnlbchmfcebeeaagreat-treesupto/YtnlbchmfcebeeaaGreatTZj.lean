import Derived.Test.YtnlbchmfcebeeaaGreatTZi
set_option maxHeartbeats 12800000
set_option maxRecDepth 100000
namespace Go.Proofs.YtnlbchmfcebeeaaGreat
open Go.RowKit
namespace Ch
theorem MOk.leave {ol : Ol} (hol : ol.Ok) (hA : AcA ol) {m : Ma} {N : Nat} (h : MOk m N) (left : List Bool) (k : Nat) : MOk (leaveF ol left k m) (N + 115200 * k) :=
 ⟨leaveF_ok _ _ _ h.ok,(keeps_tl (by omega) ol).leaveF hA left k h.tm,leaveF_sz hol left k h.sz⟩
def QB (m : Ma) : Prop:=∀ a ∈ m.q,0 ≤ a ∧ a < 256
theorem QB.push {m : Ma} (h : QB m) {c : Int} (h0 : 0 ≤ c) (h1 : c < 256) : QB { m with q:=m.q ++ [c] }:=by
 intro a ha
 rcases List.mem_append.1 ha with ha | ha
 ·exact h a ha
 obtain rfl : a = c:=by simpa using ha
 exact ⟨h0,h1⟩
theorem QB.act {m : Ma} (h : QB m) {a : Ac} (ha : AcV a) : QB (doAct m a).2:=by
 unfold doAct
 split
 ·exact h.push (by have:=ha.byte;omega) (by have:=ha.byte;omega)
 split
 ·exact h
 split
 ·exact h
 split
 ·exact h
 exact h
theorem QB.acts : ∀ (l : List Ac) {m : Ma},QB m → (∀ a ∈ l,AcV a) → QB (doActs l m):=by
 intro l
 induction l with
 | nil=>intro m hp _;exact hp
 | cons a l ih=>?_
 intro m hp ha;simp only [doActs];have h1:=hp.act (ha a (by simp))
 split
 ·exact ih h1 (fun b hb=>ha b (by simp [hb]))
 exact h1.push (by omega) (by omega)
theorem QB.bls {k : Nat} {sg : Int} (hsg : sg = 94 ∨ sg = 36) : ∀ (l : List Bl) {m : Ma},(∀ b ∈ l,∀ k : Nat,∀ sg : Int,b.state = k → b.sign = sg → (sg = 94 ∨ sg = 36) → ∀ a ∈ b.acts,AcV a) → QB m → QB (doBls k sg l m):=by
 intro l
 induction l with
 | nil=>intro m _ hp;exact hp
 | cons b l ih=>?_
 intro m hA hp;simp only [doBls];refine ih (fun b hb=>hA b (by simp [hb])) ?_
 split
 ·rename_i c
  simp only [Bool.and_eq_true,beq_iff_eq] at c;exact hp.acts _ (hA b (by simp) k sg c.1 c.2 hsg)
 exact hp
def NmB (ol : Ol) : Prop:=∀ k,0 ≤ nmAt ol.sts k ∧ nmAt ol.sts k < 256
theorem QB.enterSt {ol : Ol} (hn : NmB ol) (hA : AcA ol) {m : Ma} (hp : QB m) (k : Nat) : QB (enterSt ol m k):=by
 have h1 : QB (doBls k 94 ol.bls (setAct m k true)):=QB.bls (k:=k) (.inl rfl) ol.bls hA.bl hp;unfold Ch.enterSt
 split
 ·unfold tellEnd
  split
  ·exact h1
  split
  ·exact (h1.push (hn _).1 (hn _).2).push (hn _).1 (hn _).2
  exact h1.push (hn _).1 (hn _).2
 exact h1
theorem QB.leaveF {ol : Ol} (hA : AcA ol) (left : List Bool) : ∀ (k : Nat) {m : Ma},QB m → QB (leaveF ol left k m):=by
 intro k
 induction k with
 | zero=>intro m hp;exact hp
 | succ k ih=>?_
 intro m hp;simp only [Ch.leaveF];refine ih ?_
 split
 ·exact (QB.bls (k:=k) (.inr rfl) ol.bls hA.bl hp : QB (doBls k 36 ol.bls m))
 exact hp
end Ch
end Go.Proofs.YtnlbchmfcebeeaaGreat
