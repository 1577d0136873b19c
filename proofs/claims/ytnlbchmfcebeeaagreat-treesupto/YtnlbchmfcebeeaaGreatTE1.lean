import Derived.Test.YtnlbchmfcebeeaaGreatTC6
import Derived.Test.YtnlbchmfcebeeaaGreatTC2
import Derived.Test.YtnlbchmfcebeeaaGreatTB4
import Derived.Deep.CutRange
import Derived.Deep.RegionHeld3
set_option maxHeartbeats 12800000
set_option maxRecDepth 100000
namespace Go.Proofs.YtnlbchmfcebeeaaGreat
open Go.RowKit
namespace Ch
def leavesF (ss : List St) (act : List Bool) (d : Int) : Nat → Nat → List Bool → List Bool
 | 0,_,l=>l
 | f + 1,k,l=>leavesF ss act d f (k + 1) (if has act (k : Int) && isAbove ss d (k : Int) then putB l (k : Int) true else l)
def leaves (ol : Ol) (s : Sd) (t : Nat) : List Bool:=match ol.trs[t]? with
 | some x=>if x.target == 45 then noSet else leavesF ol.sts s.act (dom ol.sts x.state x.target) ol.sts.length 0 noSet
 | none=>noSet
def admitF (ol : Ol) (s : Sd) (t : Nat) : List Int → List Int → Option (List Int)
 | [],kept=>some (kept ++ [(t : Int)])
 | x :: l,kept=>if meets (leaves ol s t) (leaves ol s x.toNat) then (if within ol t x.toNat then admitF ol s t l kept else none) else admitF ol s t l (kept ++ [x])
def admis (ol : Ol) (s : Sd) (list : List Int) (t : Nat) : List Int:=match admitF ol s t list [] with | some l=>l | none=>list
def chooseF (ol : Ol) (s : Sd) : List Int → List Int → List Int
 | [],acc=>acc
 | x :: l,acc=>chooseF ol s l (admis ol s acc x.toNat)
def choose (ol : Ol) (s : Sd) (trg : Int) : List Int:=chooseF ol s (find ol s trg) []
def leftF (ol : Ol) (s : Sd) : List Int → List Bool → List Bool
 | [],l=>l
 | x :: r,l=>leftF ol s r (join l (leaves ol s x.toNat))
def leftAll (ol : Ol) (s : Sd) (list : List Int) : List Bool:=leftF ol s list noSet
def actsOf (ol : Ol) (t : Nat) : List Ac:=match ol.trs[t]? with | some x=>x.acts | none=>[]
def doTrs (ol : Ol) : List Int → Ma → Ma
 | [],m=>m
 | x :: l,m=>doTrs ol l (doActs (actsOf ol x.toNat) m)
def enterF (ol : Ol) (stayed : List Bool) (goals : List Int) : Nat → Nat → Ma → Ma
 | 0,_,m=>m
 | f + 1,k,m=>enterF ol stayed goals f (k + 1) (if isDue ol.sts m.s.act stayed goals (k : Int) then enterSt ol m k else m)
def enter (ol : Ol) (m : Ma) (list : List Int) : Ma:=enterF ol m.s.act (goalsF ol m.s list) ol.sts.length 0 m
def micro (ol : Ol) (m : Ma) (list : List Int) : Ma :=
 enter ol (doTrs ol list (leaveF ol (leftAll ol m.s list) ol.sts.length { m with s:=rem ol.sts m.s (leftAll ol m.s list) })) list
def round (ol : Ol) (m : Ma) : Ma :=
 if (choose ol m.s 46).length == 0 then match m.q with
  | []=>micro ol m (choose ol m.s 46)
  | a :: q=>micro ol { m with q:=q } (choose ol m.s a)
 else micro ol m (choose ol m.s 46)
theorem Ma.Sz.le {m : Ma} {a b : Nat} (h : m.Sz a) (hab : a ≤ b) : m.Sz b:=⟨Nat.le_trans h.1 hab,Nat.le_trans h.2 hab⟩
theorem leaveF_ok (ol : Ol) (left : List Bool) : ∀ (k : Nat) {m : Ma},m.s.Ok → (leaveF ol left k m).s.Ok:=by
 intro k
 induction k with
 | zero=>intro m h;exact h
 | succ k ih=>?_
 intro m h;simp only [leaveF];refine ih ?_
 split
 ·exact setAct_ok (doBls_ok _ _ _ h) _ _
 exact h
theorem leaveF_sz {ol : Ol} (hol : ol.Ok) (left : List Bool) : ∀ (k : Nat) {m : Ma} {n : Nat},m.Sz n → (leaveF ol left k m).Sz (n + 115200 * k):=by
 intro k
 induction k with
 | zero=>intro m n h;simpa [leaveF] using h
 | succ k ih=>?_
 intro m n h;simp only [leaveF]
 have h1 : (if has left (k : Int) then setAct (doBls k 36 ol.bls m) k false else m : Ma).Sz (n + 115200):=by
  split
  ·exact doBls_sz' hol _ _ h
  exact h.le (by omega)
 exact (ih h1).le (by omega)
end Ch
def setA (l : List Bool) : Array Value:=(l.map Value.bool).toArray
section
variable {w : World} {b : Nat} {l : List Bool}
theorem SeB.row (h : SeB w b [] l [] 91) : w.heap[b]? = some (.cells (setA l) 91 (0,0)):=by unfold SeB at h;simpa [setA] using h
theorem SeB.ofRow (h : w.heap[b]? = some (.cells (setA l) 91 (0,0))) : SeB w b [] l [] 91:=by unfold SeB;simpa [setA] using h
end
end Go.Proofs.YtnlbchmfcebeeaaGreat
