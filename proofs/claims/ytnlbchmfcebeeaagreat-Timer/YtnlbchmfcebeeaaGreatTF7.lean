/- Charts that stand written out: what they answer, reckoned by the kernel. -/
import Derived.Test.YtnlbchmfcebeeaaGreatTF6
namespace Go.Proofs.YtnlbchmfcebeeaaGreat
namespace Ch
def beqB (a b : ByteArray) : Bool := a.data.toList == b.data.toList
def beqAs (a b : As) : Bool := beqB a.act b.act && beqB a.past b.past && beqB a.tm b.tm && (a.x == b.x) && (a.y == b.y) && (a.z == b.z)
theorem beqB_eq {a b : ByteArray} (h : beqB a b = true) : a = b := by
  unfold beqB at h
  have h2 : a.data.toList = b.data.toList := by simpa using h
  obtain ⟨x⟩ := a
  obtain ⟨y⟩ := b
  simp only [ByteArray.mk.injEq]
  exact Array.ext' h2
theorem beqAs_eq {a b : As} (h : beqAs a b = true) : a = b := by
  unfold beqAs at h
  simp only [Bool.and_eq_true, beq_iff_eq] at h
  obtain ⟨⟨⟨⟨⟨h1, h2⟩, h3⟩, h4⟩, h5⟩, h6⟩ := h
  obtain ⟨a1, a2, a3, a4, a5, a6⟩ := a
  obtain ⟨b1, b2, b3, b4, b5, b6⟩ := b
  simp only at *
  rw [beqB_eq h1, beqB_eq h2, beqB_eq h3, h4, h5, h6]
def fireO (ol : Ol) (a : As) (ev : Int) : As × ByteArray × Int :=
  if (takeA ol.sts a).1 then (if (mfire ol (takeA ol.sts a).2 ev).2.2 != 0 then (as0, ⟨#[]⟩, (mfire ol (takeA ol.sts a).2 ev).2.2)
      else (asOf ol.sts (mfire ol (takeA ol.sts a).2 ev).1, (mfire ol (takeA ol.sts a).2 ev).2.1, 0)) else (as0, ⟨#[]⟩, 7)
def waitO (n : Nat) (ol : Ol) (a : As) : As × ByteArray × Int :=
  if (takeA ol.sts a).1 then (match waitF ol n (tick (takeA ol.sts a).2) [] with
    | some r => (asOf ol.sts r.1, r.2, 0)
    | none => (as0, ⟨#[]⟩, 8)) else (as0, ⟨#[]⟩, 7)
def okR (r : As × ByteArray × Int) (want : As) (out : ByteArray) : Bool := beqAs r.1 want && beqB r.2.1 out && (r.2.2 == 0)
theorem okR_eq {r : As × ByteArray × Int} {want : As} {out : ByteArray} (h : okR r want out = true) : r = (want, out, 0) := by
  unfold okR at h
  simp only [Bool.and_eq_true, beq_iff_eq] at h
  obtain ⟨⟨h1, h2⟩, h3⟩ := h
  obtain ⟨a, b, c⟩ := r
  simp only at *
  rw [beqAs_eq h1, beqB_eq h2, h3]
theorem lg_of {t : ByteArray} {ol : Ol} (hr : read t = (0, 0, ol)) {a : As} (ht : (takeA ol.sts a).1 = true) : lgE t a = 0 ∧ lgS t a = (takeA ol.sts a).2 := by
  unfold lgE lgS
  rw [hr]
  simp [ht]
theorem peek_one (b : Int) (h1 : 0 ≤ b) (h2 : b < 256) : peek (strOfNums [b]) 0 = b := by
  have hs : (strOfNums [b]).size = 1 := strOfNums_size [b]
  unfold peek
  rw [dif_pos (by omega)]
  have e : (strOfNums [b])[0]'(by omega) = UInt8.ofNat b.toNat := rfl
  rw [e]
  simp
  omega
theorem goes_fire {t : ByteArray} {ol : Ol} (hr : read t = (0, 0, ol)) (n : Nat) {a : As} {b : Int} (hb : isEv b = true) {want : As} {out : ByteArray} (h : okR (fireO ol a b) want out = true) : goes n t a b = (want, out, 0) := by
  have h2 := okR_eq h
  have ht : (takeA ol.sts a).1 = true := by
    cases q : (takeA ol.sts a).1 with
    | true => rfl
    | false => unfold fireO at h2; rw [q] at h2; simp at h2
  obtain ⟨e1, e2⟩ := lg_of hr ht
  have hb' := hb
  simp only [isEv, Bool.and_eq_true, decide_eq_true_eq] at hb'
  have hp := peek_one b (by omega) (by omega)
  have hs : (strOfNums [b]).size = 1 := strOfNums_size [b]
  unfold goes cFire
  rw [hb, e1, e2, hp, hs, hb, hr]
  rw [← h2]
  unfold fireO
  rw [ht]
  simp
theorem goes_wait {t : ByteArray} {ol : Ol} (hr : read t = (0, 0, ol)) (n : Nat) {a : As} {b : Int} (hb : isEv b = false) {want : As} {out : ByteArray} (h : okR (waitO n ol a) want out = true) :
    goes n t a b = (want, out, 0) ∧ (waitF (read t).2.2 n (tick (lgS t a)) []).isSome = true := by
  have h2 := okR_eq h
  have ht : (takeA ol.sts a).1 = true := by
    cases q : (takeA ol.sts a).1 with
    | true => rfl
    | false => unfold waitO at h2; rw [q] at h2; simp at h2
  obtain ⟨e1, e2⟩ := lg_of hr ht
  unfold waitO at h2
  rw [ht] at h2
  simp only [if_true] at h2
  unfold goes cWait
  rw [hb, e1, e2, hr]
  cases q : waitF ol n (tick (takeA ol.sts a).2) [] with
  | none => rw [q] at h2; simp at h2
  | some r => rw [q] at h2; simp only at h2; simp [h2]

def tBack : ByteArray := ⟨#[40, 82, 40, 80, 42, 72, 40, 65, 58, 97, 62, 66, 41, 40, 66, 58, 97, 62, 67, 41, 40, 67, 58, 97, 62, 65, 41, 41, 58, 113, 62, 81, 40, 81, 58, 104, 62, 72, 58, 112, 62, 80, 41, 41]⟩
def olB : Ol := ⟨[⟨82, 1, 2, -1⟩, ⟨80, 3, 2, 0⟩, ⟨72, 5, 5, 1⟩, ⟨65, 7, 1, 1⟩, ⟨66, 14, 1, 1⟩, ⟨67, 21, 1, 1⟩, ⟨81, 33, 1, 0⟩], [⟨3, 97, ⟨0, 0, 0⟩, [], 66⟩, ⟨4, 97, ⟨0, 0, 0⟩, [], 67⟩, ⟨5, 97, ⟨0, 0, 0⟩, [], 65⟩, ⟨0, 113, ⟨0, 0, 0⟩, [], 81⟩, ⟨6, 104, ⟨0, 0, 0⟩, [], 72⟩, ⟨6, 112, ⟨0, 0, 0⟩, [], 80⟩], []⟩
set_option maxRecDepth 100000 in
theorem readB : read tBack = (0, 0, olB) := by kernel_rfl
def ringB (k : Nat) : UInt8 := if k == 0 then 65 else if k == 1 then 66 else 67
def actB (k : Nat) (away : Bool) : ByteArray := if away then ⟨#[82, 81]⟩ else ⟨#[82, 80, ringB k]⟩
def pastB (p : Nat) : ByteArray := if p == 3 then ⟨#[45]⟩ else ⟨#[ringB p]⟩
def asB (k : Nat) (away : Bool) (p : Nat) : As := ⟨actB k away, pastB p, ⟨#[]⟩, 0, 0, 0⟩
/-- Where one is, whether away, what is remembered (3: nothing). -/
def nextB (k : Nat) (away : Bool) (p : Nat) (b : Nat) : Nat × Bool × Nat :=
  if b == 97 && !away then ((k + 1) % 3, false, p)
  else if b == 113 && !away then (k, true, k)
  else if b == 104 && away then (k, false, p)
  else if b == 112 && away then (0, false, p)
  else (k, away, p)
def statesB : List (Nat × Bool × Nat) := (List.range 3).flatMap fun k => (k, true, k) :: (List.range 4).map fun p => (k, false, p)
def asB' (s : Nat × Bool × Nat) : As := asB s.1 s.2.1 s.2.2
set_option maxRecDepth 100000 in
theorem tableB : statesB.all (fun s => (List.range 26).all (fun b => okR (fireO olB (asB' s) (97 + b : Nat)) (asB' (nextB s.1 s.2.1 s.2.2 (97 + b))) ⟨#[]⟩)) = true := by kernel_rfl
set_option maxRecDepth 100000 in
theorem tableBw : statesB.all (fun s => okR (waitO 1 olB (asB' s)) (asB' s) ⟨#[]⟩) = true := by kernel_rfl
set_option maxRecDepth 100000 in
theorem closedB : statesB.all (fun s => (List.range 256).all (fun b => statesB.contains (nextB s.1 s.2.1 s.2.2 b))) = true := by kernel_rfl
set_option maxRecDepth 100000 in
theorem startB : cStart tBack = (asB 0 false 3, ⟨#[]⟩, 0) := okR_eq (by kernel_rfl)
theorem nextB_other {k p b : Nat} {away : Bool} (h : ¬ (97 ≤ b ∧ b ≤ 122)) : nextB k away p b = (k, away, p) := by
  unfold nextB
  rw [if_neg (by simp; omega), if_neg (by simp; omega), if_neg (by simp; omega), if_neg (by simp; omega)]
theorem goesB {s : Nat × Bool × Nat} (hs : s ∈ statesB) {b : Nat} (hb : b < 256) : goes 1 tBack (asB' s) b = (asB' (nextB s.1 s.2.1 s.2.2 b), ⟨#[]⟩, 0) ∧ (isEv b = false → lgE tBack (asB' s) = 0 → (waitF (read tBack).2.2 1 (tick (lgS tBack (asB' s))) []).isSome = true) ∧ nextB s.1 s.2.1 s.2.2 b ∈ statesB := by
  have hc := List.all_eq_true.1 (List.all_eq_true.1 closedB s hs) b (by simpa using hb)
  have hw := List.all_eq_true.1 tableBw s hs
  by_cases q : isEv b = true
  · have q' := q
    simp only [isEv, Bool.and_eq_true, decide_eq_true_eq] at q'
    have ht := List.all_eq_true.1 (List.all_eq_true.1 tableB s hs) (b - 97) (by simp; omega)
    rw [show 97 + (b - 97) = b by omega] at ht
    exact ⟨goes_fire readB 1 q ht, fun h => absurd q (by rw [h]; simp), by simpa using hc⟩
  · have q0 : isEv b = false := by simpa using q
    have hn : nextB s.1 s.2.1 s.2.2 b = s := nextB_other (fun h => q (by simp [isEv]; omega))
    obtain ⟨h1, h2⟩ := goes_wait readB 1 q0 hw
    rw [hn]
    exact ⟨h1, fun _ _ => h2, hs⟩
theorem smB (s : Nat × Bool × Nat) : (asB' s).Sm := by
  obtain ⟨k, a, p⟩ := s
  have h : ∀ n m : Nat, n ≤ 3 → n ≤ 140737488355328 := fun n m h => by omega
  refine ⟨?_, ?_, ?_⟩
  · show (actB k a).size ≤ _
    unfold actB; split <;> exact h _ 0 (by simp [ByteArray.size])
  · show (pastB p).size ≤ _
    unfold pastB; split <;> exact h _ 0 (by simp [ByteArray.size])
  · exact h 0 0 (by decide)
end Ch
end Go.Proofs.YtnlbchmfcebeeaaGreat
