import Derived.Test.YtnlbchmfcebeeaaGreatTC0
import Derived.Deep.RegionHeld3
set_option maxHeartbeats 12800000
set_option maxRecDepth 100000
namespace Go.Proofs.YtnlbchmfcebeeaaGreat
open Go.RowKit
theorem Tryz.sizeOl : (Tryz.prog.info? 87).map (·.size) = some 5:=by kernel_rfl
def maA (q : Option Addr) (s : Ch.Sd) : Array Value:=([Value.pointer q] ++ s.act.map Value.bool ++ (sdTail s ++ [Value.slice none 0 0,Value.slice none 0 0])).toArray
theorem MaB.ofRow {w : World} {mb ob po : Nat} {s : Ch.Sd} (h : w.heap[mb]? = some (.cells (maA (some ⟨ob,po,none⟩) s) 149 (0,0))) : MaB w mb ob po s (.slice none 0 0) (.slice none 0 0):=h
theorem pA {α : Type} (l : List α) (i : Nat) (a : α) : l.toArray.setIfInBounds i a = (l.set i a).toArray:=List.setIfInBounds_toArray ..
theorem pB {α : Type} (x : α) (l : List α) (i : Nat) (a : α) : (x :: l).set (i + 1) a = x :: l.set i a:=rfl
theorem pC {α : Type} (x : α) (l : List α) (a : α) : (x :: l).set 0 a = a :: l:=rfl
section
variable {P : Program} {Q : Exit → Act → World → Prop} {S : World → Prop}
theorem region_begin (S : World → Prop) {id : Nat} {l : List Oper} {a : Act} {w : World} (hm : P.follows .mixedOrders = true)
 (h : wpAnyH P .any l.toArray (NoPanic Q) S l.length (Array.replicate l.length false) a w.drew) : (Code.region id l.toArray true).wp P Q a w :=
 wp_region_noPanic (wp_region_held (S:=S) hm (by simpa using h))
theorem take_op {ops : Array Oper} (i d : Nat) {oi : Oper} (v : Value) {fuel : Nat} {listed : Array Bool} {a : Act} {w : World} (hi : ops[i]? = some oi) (hs : Region.noSelect ops = true)
 (hf : Region.free .any ops listed i = true) (hr : (Region.ready .any ops listed).contains i = true) (hg : oi.guard = none) (hd : oi.dst = some d) (hv : ∀ w',S w' → (execOp a.eval oi).run P w' = .ok (.value v) w') (hS : S w)
 (h : wpAnyH P .any ops (NoPanic Q) S fuel (listed.setIfInBounds i true) (a.put (some d) v) w) : wpAnyH P .any ops (NoPanic Q) S (fuel + 1) listed a w :=
 wpAnyH_take hi hs hf hr (fun _ _ _ h=>h) (.inl ⟨by simp [Region.wanted,hg],hv⟩) hS (by rw [hd];exact h)
theorem tk {ops : Array Oper} (i d : Nat) {oi : Oper} (v : Value) {fuel : Nat} {listed : Array Bool} {a : Act} {w : World} (hi : ops[i]? = some oi) (hb : (Region.noSelect ops && Region.free .any ops listed i && (Region.ready .any ops listed).contains i) = true)
 (hg : oi.guard = none) (hd : oi.dst = some d) (hv : ∀ w',S w' → (execOp a.eval oi).run P w' = .ok (.value v) w') (hS : S w)
 (h : wpAnyH P .any ops (NoPanic Q) S fuel (listed.setIfInBounds i true) (a.put (some d) v) w) : wpAnyH P .any ops (NoPanic Q) S (fuel + 1) listed a w:=by
 simp only [Bool.and_eq_true] at hb;exact take_op i d v hi hb.1.1 hb.1.2 hb.2 hg hd hv hS h
theorem do_op {ops : Array Oper} (i : Nat) {oi : Oper} {fuel : Nat} {listed : Array Bool} {a : Act} {w : World} (hr : Region.ready .any ops listed = [i]) (hi : ops[i]? = some oi) (hg : oi.guard = none)
 (h : oi.wp P a w (fun a' w'=>S w' ∧ wpAnyH P .any ops (NoPanic Q) S fuel (listed.setIfInBounds i true) a' w') (NoPanic Q)) : wpAnyH P .any ops (NoPanic Q) S (fuel + 1) listed a w :=
 wpAnyH_all hr (by simp) (fun j hj=>by
  simp at hj;subst hj
  have hw : Region.wanted oi (yielded ops a.tmps) = true:=by simp [Region.wanted,hg]
  simp only [wpOp,hi,hw,if_true]
  exact .inl h)
end
section
variable {P : Program} {o : Oper} {a : Act} {w : World} {K : Act → World → Prop} {Q : Exit → Act → World → Prop}
theorem wpr (d : Option Tmp) (hd : o.dst = d) (v : Value) (w' : World) (hrun : (execOp a.eval o).run P w = .ok (.value v) w') (h : K (a.put d v) w') : o.wp P a w K Q:=by
 subst hd;unfold Oper.wp;rw [hrun,Oper.upon_value];exact h
theorem do_pair {S : World → Prop} {ops : Array Oper} (i j : Nat) {oi oj : Oper} {fuel : Nat} {listed : Array Bool} (hr : Region.ready .any ops listed = [i,j]) (hi : ops[i]? = some oi) (hj : ops[j]? = some oj) (hgi : oi.guard = none) (hgj : oj.guard = none)
 (h1 : oi.wp P a w (fun a' w'=>S w' ∧ wpAnyH P .any ops (NoPanic Q) S fuel (listed.setIfInBounds i true) a' w') (NoPanic Q))
 (h2 : oj.wp P a w (fun a' w'=>S w' ∧ wpAnyH P .any ops (NoPanic Q) S fuel (listed.setIfInBounds j true) a' w') (NoPanic Q)) : wpAnyH P .any ops (NoPanic Q) S (fuel + 1) listed a w :=
 wpAnyH_all hr (by simp) (fun k hk=>by
  simp only [List.mem_cons,List.not_mem_nil,or_false] at hk
  rcases hk with rfl | rfl
  ·have hw : Region.wanted oi (yielded ops a.tmps) = true:=by simp [Region.wanted,hgi]
   simp only [wpOp,hi,hw,if_true];exact .inl h1
  have hw : Region.wanted oj (yielded ops a.tmps) = true:=by simp [Region.wanted,hgj]
  simp only [wpOp,hj,hw,if_true]
  exact .inl h2)
theorem do_la {S : World → Prop} {ops : Array Oper} (i j : Nat) {oi oj : Oper} {fuel : Nat} {listed : Array Bool} (di dj : Tmp) (v u : Value) (w' : World) (hdd : di ≠ dj)
 (hr : Region.ready .any ops listed = [i,j]) (hr1 : Region.ready .any ops (listed.setIfInBounds i true) = [j]) (hr2 : Region.ready .any ops (listed.setIfInBounds j true) = [i])
 (hi : ops[i]? = some oi) (hj : ops[j]? = some oj) (hgi : oi.guard = none) (hgj : oj.guard = none) (hdi : oi.dst = some di) (hdj : oj.dst = some dj)
 (r1 : (execOp a.eval oi).run P w = .ok (.value v) w) (r2 : (execOp (a.put (some di) v).eval oj).run P w = .ok (.value u) w') (r3 : (execOp a.eval oj).run P w = .ok (.value u) w') (r4 : (execOp (a.put (some dj) u).eval oi).run P w' = .ok (.value v) w')
 (hS : S w) (hS' : S w') (h : wpAnyH P .any ops (NoPanic Q) S fuel ((listed.setIfInBounds i true).setIfInBounds j true) ((a.put (some di) v).put (some dj) u) w') : wpAnyH P .any ops (NoPanic Q) S (fuel + 1 + 1) listed a w:=by
 refine do_pair i j hr hi hj hgi hgj ?_ ?_
 ·exact wpr (some di) hdi v w r1 ⟨hS,do_op j hr1 hj hgj (wpr (some dj) hdj u w' r2 ⟨hS',h⟩)⟩
 refine wpr (some dj) hdj u w' r3 ⟨hS',do_op i hr2 hi hgi (wpr (some di) hdi v w' r4 ⟨hS',?_⟩)⟩
 have e1 : (listed.setIfInBounds j true).setIfInBounds i true = (listed.setIfInBounds i true).setIfInBounds j true:=by
  apply Array.ext_getElem?;intro k;simp only [Array.getElem?_setIfInBounds,Array.size_setIfInBounds]
  by_cases e : i = k <;> by_cases e' : j = k <;> simp [e,e'] <;> omega
 rw [e1,← Act.put_comm a (x:=some di) (y:=some dj) v u (fun d hd hd'=>hdd ((Option.some.inj hd).trans (Option.some.inj hd').symm))];exact h
end
end Go.Proofs.YtnlbchmfcebeeaaGreat
