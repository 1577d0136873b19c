import Derived.Test.YtnlbchmfcebeeaaGreatTXe
import Derived.Test.YtnlbchmfcebeeaaGreatTXp
import Derived.Test.YtnlbchmfcebeeaaGreatTXq
import Derived.Test.YtnlbchmfcebeeaaGreatTC0
import Derived.Test.YtnlbchmfcebeeaaGreatTX5
import Derived.Test.YtnlbchmfcebeeaaGreatTX2
import Derived.Test.YtnlbchmfcebeeaaGreatTA1
import Derived.Test.YtnlbchmfcebeeaaGreatTXa
import Derived.Test.YtnlbchmfcebeeaaGreatTE7
import Derived.Deep.CutRange
import Derived.Deep.RegionHeld3
import Derived.Deep.QuietTactic
import Derived.BigQuiet
import Derived.OwnWalk
set_option maxHeartbeats 12800000
set_option maxRecDepth 100000
namespace Go.Proofs.YtnlbchmfcebeeaaGreat
open Go.RowKit
def nwA (cb g n : Nat) (pv : Value) (m : Ch.Ma) : Array Value:=#[.pointer (some ⟨cb,0,none⟩),.slice (some ⟨g,0,none⟩) n n,pv,.string m.s.tm,.int .i64 m.s.x,.int .i64 m.s.y,.int .i64 m.s.z,.string (strOfNums m.q),.string (strOfNums m.out)]
def NwB (w : World) (xb cb g n : Nat) (pv : Value) (m : Ch.Ma) : Prop:=w.heap[xb]? = some (.cells (nwA cb g n pv m) 274 (0,0))
section
variable {w w' : World} {xb cb g n : Nat} {pv : Value} {m : Ch.Ma}
theorem NwB.cell (h : NwB w xb cb g n pv m) (i : Nat) : w.cell? ⟨xb,i,none⟩ = (nwA cb g n pv m)[i]?:=by unfold NwB at h;rw [World.cell?,h];rfl
theorem NwB.free (h : NwB w xb cb g n pv m) (i : Nat) : w.frozen? ⟨xb,i,none⟩ = false:=by unfold NwB at h;simp [World.frozen?,h]
theorem NwB.keep {S : Nat → Prop} (h : NwB w xb cb g n pv m) (k : Kp S w w') (hS : ¬ S xb) : NwB w' xb cb g n pv m:=k.at_ h hS
theorem NwB.setX (h : NwB w xb cb g n pv m) (v : Int) : NwB (w.setCell ⟨xb,4,none⟩ (.int .i64 v)) xb cb g n pv { m with s:={ m.s with x:=v } }:=by unfold NwB at *;rw [heap_set_same _ h];rfl
theorem NwB.setY (h : NwB w xb cb g n pv m) (v : Int) : NwB (w.setCell ⟨xb,5,none⟩ (.int .i64 v)) xb cb g n pv { m with s:={ m.s with y:=v } }:=by unfold NwB at *;rw [heap_set_same _ h];rfl
theorem NwB.setZ (h : NwB w xb cb g n pv m) (v : Int) : NwB (w.setCell ⟨xb,6,none⟩ (.int .i64 v)) xb cb g n pv { m with s:={ m.s with z:=v } }:=by unfold NwB at *;rw [heap_set_same _ h];rfl
theorem NwB.setQ (h : NwB w xb cb g n pv m) (q : List Int) : NwB (w.setCell ⟨xb,7,none⟩ (.string (strOfNums q))) xb cb g n pv { m with q:=q }:=by unfold NwB at *;rw [heap_set_same _ h];rfl
theorem NwB.setO (h : NwB w xb cb g n pv m) (q : List Int) : NwB (w.setCell ⟨xb,8,none⟩ (.string (strOfNums q))) xb cb g n pv { m with out:=q }:=by unfold NwB at *;rw [heap_set_same _ h];rfl
end
namespace Ch
def sts (l : List NV) : List St:=(mk l).map RN.st
theorem sts_len (l : List NV) : (sts l).length = l.length:=by simp [sts,mk]
theorem sts_par {l : List NV} {i : Nat} {x : NV} (h : l[i]? = some x) : parAt (sts l) i = x.n.parent:=by
 have hlt:=(List.getElem?_eq_some_iff.1 h).1;unfold sts;rw [parAt_rn (by rw [mk_len];exact hlt),rnAt_mk h]
theorem sts_kind {l : List NV} {i : Nat} {x : NV} (h : l[i]? = some x) : kindAt (sts l) i = x.n.kind:=by
 have hlt:=(List.getElem?_eq_some_iff.1 h).1;unfold sts;rw [kindAt_rn (by rw [mk_len];exact hlt),rnAt_mk h]
end Ch
def NvBd (l : List NV) (k : Nat) : Prop:=l.length ≤ k ∧ ∀ x ∈ l,x.n.enter.length ≤ k ∧ x.n.leave.length ≤ k ∧ x.n.trans.length ≤ k
theorem NvBd.mono {l : List NV} {k j : Nat} (h : NvBd l k) (hk : k ≤ j) : NvBd l j:=⟨by have:=h.1;omega,fun x hx=>by have:=h.2 x hx;omega⟩
theorem NvBd.push {l : List NV} {k : Nat} (h : NvBd l k) {n : Ch.RN} (hn : n.enter = [] ∧ n.leave = [] ∧ n.trans = []) {a b c : Value} : NvBd (l ++ [⟨n,a,b,c⟩]) (k + 1):=by
 refine ⟨by have:=h.1;simp;omega,fun x hx=>?_⟩
 rcases List.mem_append.1 hx with hx | hx
 ·have:=h.2 x hx;omega
 simp at hx;subst hx;simp [hn.1,hn.2.1,hn.2.2]
theorem NvBd.set {l : List NV} {k j m : Nat} (h : NvBd l k) (hk : k ≤ j) {y : NV} (hy : y.n.enter.length ≤ j ∧ y.n.leave.length ≤ j ∧ y.n.trans.length ≤ j) : NvBd (l.set m y) j:=by
 refine ⟨by have:=h.1;simp;omega,fun x hx=>?_⟩
 rcases mem_set_or hx with hx | rfl
 ·have:=h.2 x hx;omega
 exact hy
theorem NvBd.kind {l : List NV} {k m : Nat} {x : NV} (h : NvBd l k) (hx : l[m]? = some x) (c : Int) : NvBd (l.set m { x with n:={ x.n with kind:=c } }) k :=
 h.set (Nat.le_refl _) (h.2 x (List.mem_of_getElem? hx))
namespace Ch
def TB (L : List RN) : Prop:=∀ n ∈ L,∀ rt ∈ n.trans,rt.text.size ≤ 300 ∧ rt.pos ≤ 300
theorem TB.mod {L : List RN} (h : TB L) {i : Int} {f : RN → RN} (hf : ∀ n,∀ rt ∈ (f n).trans,rt ∈ n.trans ∨ (rt.text.size ≤ 300 ∧ rt.pos ≤ 300)) : TB (nMod L i f):=by
 intro n hn rt hr
 cases i with
 | negSucc j=>exact h n hn rt hr
 | ofNat j=>?_
 obtain ⟨k,hk⟩:=List.getElem?_of_mem hn;rw [show (nMod L (Int.ofNat j) f)[k]? = _ from nMod_get (L:=L) (k:=j) (f:=f) k] at hk
 split at hk
 ·rw [Option.map_eq_some_iff] at hk
  obtain ⟨m,hm,rfl⟩:=hk
  rcases hf m rt hr with h' | h'
  ·exact h m (List.mem_of_getElem? hm) rt h'
  exact h'
 exact h n (List.mem_of_getElem? hk) rt hr
theorem TB.mark {L : List RN} (h : TB L) (i : Int) : TB (nMark L i):=by
 intro n hn rt hr;obtain ⟨k,hk⟩:=List.getElem?_of_mem hn;obtain ⟨m,hm,e,_⟩:=nMark_get L i k n hk;exact h m (List.mem_of_getElem? hm) rt (by rw [← e];exact hr)
end Ch
end Go.Proofs.YtnlbchmfcebeeaaGreat
