/- A region that draws its order, by hand: two more laws. -/
import Derived.Test.YtnlbchmfcebeeaaGreatTE7
namespace Go.Proofs.YtnlbchmfcebeeaaGreat
open Go.RowKit
section
variable {P : Program} {o : Oper} {a : Act} {w : World} {K : Act → World → Prop} {Q : Exit → Act → World → Prop}
theorem wpr (d : Option Tmp) (hd : o.dst = d) (v : Value) (w' : World) (hrun : (execOp a.eval o).run P w = .ok (.value v) w') (h : K (a.put d v) w') : o.wp P a w K Q := by
  subst hd
  unfold Oper.wp
  rw [hrun, Oper.upon_value]
  exact h
theorem do_pair {S : World → Prop} {ops : Array Oper} (i j : Nat) {oi oj : Oper} {fuel : Nat} {listed : Array Bool} (hr : Region.ready .any ops listed = [i, j]) (hi : ops[i]? = some oi) (hj : ops[j]? = some oj) (hgi : oi.guard = none) (hgj : oj.guard = none)
    (h1 : oi.wp P a w (fun a' w' => S w' ∧ wpAnyH P .any ops (NoPanic Q) S fuel (listed.setIfInBounds i true) a' w') (NoPanic Q))
    (h2 : oj.wp P a w (fun a' w' => S w' ∧ wpAnyH P .any ops (NoPanic Q) S fuel (listed.setIfInBounds j true) a' w') (NoPanic Q)) : wpAnyH P .any ops (NoPanic Q) S (fuel + 1) listed a w :=
  wpAnyH_all hr (by simp) (fun k hk => by
    simp only [List.mem_cons, List.not_mem_nil, or_false] at hk
    rcases hk with rfl | rfl
    · have hw : Region.wanted oi (yielded ops a.tmps) = true := by simp [Region.wanted, hgi]
      simp only [wpOp, hi, hw, if_true]
      exact .inl h1
    · have hw : Region.wanted oj (yielded ops a.tmps) = true := by simp [Region.wanted, hgj]
      simp only [wpOp, hj, hw, if_true]
      exact .inl h2)
/-- A read and a making, in either order. -/
theorem do_la {S : World → Prop} {ops : Array Oper} (i j : Nat) {oi oj : Oper} {fuel : Nat} {listed : Array Bool} (di dj : Tmp) (v u : Value) (w' : World) (hdd : di ≠ dj)
    (hr : Region.ready .any ops listed = [i, j]) (hr1 : Region.ready .any ops (listed.setIfInBounds i true) = [j]) (hr2 : Region.ready .any ops (listed.setIfInBounds j true) = [i])
    (hi : ops[i]? = some oi) (hj : ops[j]? = some oj) (hgi : oi.guard = none) (hgj : oj.guard = none) (hdi : oi.dst = some di) (hdj : oj.dst = some dj)
    (r1 : (execOp a.eval oi).run P w = .ok (.value v) w) (r2 : (execOp (a.put (some di) v).eval oj).run P w = .ok (.value u) w') (r3 : (execOp a.eval oj).run P w = .ok (.value u) w') (r4 : (execOp (a.put (some dj) u).eval oi).run P w' = .ok (.value v) w')
    (hS : S w) (hS' : S w') (h : wpAnyH P .any ops (NoPanic Q) S fuel ((listed.setIfInBounds i true).setIfInBounds j true) ((a.put (some di) v).put (some dj) u) w') : wpAnyH P .any ops (NoPanic Q) S (fuel + 1 + 1) listed a w := by
  refine do_pair i j hr hi hj hgi hgj ?_ ?_
  · exact wpr (some di) hdi v w r1 ⟨hS, do_op j hr1 hj hgj (wpr (some dj) hdj u w' r2 ⟨hS', h⟩)⟩
  · refine wpr (some dj) hdj u w' r3 ⟨hS', do_op i hr2 hi hgi (wpr (some di) hdi v w' r4 ⟨hS', ?_⟩)⟩
    have e1 : (listed.setIfInBounds j true).setIfInBounds i true = (listed.setIfInBounds i true).setIfInBounds j true := by
      apply Array.ext_getElem?
      intro k
      simp only [Array.getElem?_setIfInBounds, Array.size_setIfInBounds]
      by_cases e : i = k <;> by_cases e' : j = k <;> simp [e, e'] <;> omega
    rw [e1, ← Act.put_comm a (x := some di) (y := some dj) v u (fun d hd hd' => hdd ((Option.some.inj hd).trans (Option.some.inj hd').symm))]
    exact h
end
end Go.Proofs.YtnlbchmfcebeeaaGreat
