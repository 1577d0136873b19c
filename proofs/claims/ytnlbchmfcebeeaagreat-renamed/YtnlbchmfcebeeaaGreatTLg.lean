import Derived.Test.YtnlbchmfcebeeaaGreatTA1
import Derived.Deep.RegionHeld3
set_option maxHeartbeats 12800000
set_option maxRecDepth 100000
namespace Go.Proofs.YtnlbchmfcebeeaaGreat
open Go.RowKit
theorem pA {α : Type} (l : List α) (i : Nat) (a : α) : l.toArray.setIfInBounds i a = (l.set i a).toArray:=List.setIfInBounds_toArray ..
theorem pB {α : Type} (x : α) (l : List α) (i : Nat) (a : α) : (x :: l).set (i + 1) a = x :: l.set i a:=rfl
theorem pC {α : Type} (x : α) (l : List α) (a : α) : (x :: l).set 0 a = a :: l:=rfl
section
variable {P : Program} {Q : Exit → Act → World → Prop} {S : World → Prop}
theorem region_begin (S : World → Prop) {id : Nat} {l : List Oper} {a : Act} {w : World} (hm : P.follows .mixedOrders = true)
 (h : wpAnyH P .any l.toArray (NoPanic Q) S l.length (Array.replicate l.length false) a w.drew) : (Code.region id l.toArray true).wp P Q a w :=
 wp_region_noPanic (wp_region_held (S:=S) hm (by simpa using h))
theorem take_op {ops : Array Oper} (i d : Nat) {oi : Oper} (v : Value) {fuel : Nat} {listed : Array Bool} {a : Act} {w : World} (hi : ops[i]? = some oi) (hs : Region.noSelect ops = true)
 (hf : Region.free .any ops listed i = true) (hr : (Region.ready .any ops listed).contains i = true) (hg : oi.guard = none) (hd : oi.dst = some d) (hv : ∀ w',S w' → (execOp a.eval oi).run P w' = .ok (.value v) w') (hS : S w)
 (h : wpAnyH P .any ops (NoPanic Q) S fuel (listed.setIfInBounds i true) (a.put (some d) v) w) : wpAnyH P .any ops (NoPanic Q) S (fuel + 1) listed a w :=
 wpAnyH_take hi hs hf hr (fun _ _ _ h=>h) (.inl ⟨by simp [Region.wanted,hg],hv⟩) hS (by rw [hd];exact h)
theorem tk {ops : Array Oper} (i d : Nat) {oi : Oper} (v : Value) {fuel : Nat} {listed : Array Bool} {a : Act} {w : World} (hi : ops[i]? = some oi) (hb : (Region.noSelect ops && Region.free .any ops listed i && (Region.ready .any ops listed).contains i) = true)
 (hg : oi.guard = none) (hd : oi.dst = some d) (hv : ∀ w',S w' → (execOp a.eval oi).run P w' = .ok (.value v) w') (hS : S w)
 (h : wpAnyH P .any ops (NoPanic Q) S fuel (listed.setIfInBounds i true) (a.put (some d) v) w) : wpAnyH P .any ops (NoPanic Q) S (fuel + 1) listed a w:=by
 simp only [Bool.and_eq_true] at hb;exact take_op i d v hi hb.1.1 hb.1.2 hb.2 hg hd hv hS h
theorem do_op {ops : Array Oper} (i : Nat) {oi : Oper} {fuel : Nat} {listed : Array Bool} {a : Act} {w : World} (hr : Region.ready .any ops listed = [i]) (hi : ops[i]? = some oi) (hg : oi.guard = none)
 (h : oi.wp P a w (fun a' w'=>S w' ∧ wpAnyH P .any ops (NoPanic Q) S fuel (listed.setIfInBounds i true) a' w') (NoPanic Q)) : wpAnyH P .any ops (NoPanic Q) S (fuel + 1) listed a w :=
 wpAnyH_all hr (by simp) (fun j hj=>by
  simp at hj;subst hj
  have hw : Region.wanted oi (yielded ops a.tmps) = true:=by simp [Region.wanted,hg]
  simp only [wpOp,hi,hw,if_true]
  exact .inl h)
end
section
variable {P : Program} {o : Oper} {a : Act} {w : World} {K : Act → World → Prop} {Q : Exit → Act → World → Prop}
theorem wp_enter (d : Option Tmp) (hd : o.dst = d) (f : FuncId) (args : Array Value) (hrun : (execOp a.eval o).run P w = .ok (.enter f args) w) (v : Value) (R : World → Prop)
 (hc : Calls P f args w fun e w'=>e = .returned v ∧ R w') (h : ∀ w',R w' → K (a.put d v) w') : o.wp P a w K Q:=by
 subst hd;unfold Oper.wp;rw [hrun,Oper.upon_enter]
 refine hc.mono fun e w' hh=>?_
 obtain ⟨rfl,hr⟩:=hh;exact h w' hr
theorem wp_run (d : Option Tmp) (hd : o.dst = d) (v : Value) (w' : World) (hrun : (execOp a.eval o).run P w = .ok (.value v) w') (h : K (a.put d v) w') : o.wp P a w K Q:=by
 subst hd;unfold Oper.wp;rw [hrun,Oper.upon_value];exact h
theorem do_two {S : World → Prop} {ops : Array Oper} (i j : Nat) {oi oj : Oper} {fuel : Nat} {listed : Array Bool} (hr : Region.ready .any ops listed = [i,j]) (hi : ops[i]? = some oi) (hj : ops[j]? = some oj) (hgi : oi.guard = none) (hgj : oj.guard = none)
 (h1 : oi.wp P a w (fun a' w'=>S w' ∧ wpAnyH P .any ops (NoPanic Q) S fuel (listed.setIfInBounds i true) a' w') (NoPanic Q))
 (h2 : oj.wp P a w (fun a' w'=>S w' ∧ wpAnyH P .any ops (NoPanic Q) S fuel (listed.setIfInBounds j true) a' w') (NoPanic Q)) : wpAnyH P .any ops (NoPanic Q) S (fuel + 1) listed a w :=
 wpAnyH_all hr (by simp) (fun k hk=>by
  simp only [List.mem_cons,List.not_mem_nil,or_false] at hk
  rcases hk with rfl | rfl
  ·have hw : Region.wanted oi (yielded ops a.tmps) = true:=by simp [Region.wanted,hgi]
   simp only [wpOp,hi,hw,if_true];exact .inl h1
  have hw : Region.wanted oj (yielded ops a.tmps) = true:=by simp [Region.wanted,hgj]
  simp only [wpOp,hj,hw,if_true]
  exact .inl h2)
theorem wp_enterX (d : Option Tmp) (hd : o.dst = d) (f : FuncId) (args : Array Value) (hrun : (execOp a.eval o).run P w = .ok (.enter f args) w) (R : Value → World → Prop)
 (hc : Calls P f args w fun e w'=>∃ v,e = .returned v ∧ R v w') (h : ∀ v w',R v w' → K (a.put d v) w') : o.wp P a w K Q:=by
 subst hd;unfold Oper.wp;rw [hrun,Oper.upon_enter]
 refine hc.mono fun e w' hh=>?_
 obtain ⟨v,rfl,hr⟩:=hh;exact h v w' hr
end
end Go.Proofs.YtnlbchmfcebeeaaGreat
