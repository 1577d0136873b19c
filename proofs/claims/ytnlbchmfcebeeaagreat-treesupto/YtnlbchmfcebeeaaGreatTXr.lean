import Derived.Test.YtnlbchmfcebeeaaGreatTXe
import Derived.Test.YtnlbchmfcebeeaaGreatTXp
import Derived.Test.YtnlbchmfcebeeaaGreatTXq
import Derived.Test.YtnlbchmfcebeeaaGreatTC0
set_option maxHeartbeats 12800000
set_option maxRecDepth 100000
namespace Go.Proofs.YtnlbchmfcebeeaaGreat
open Go.RowKit
def nwA (cb g n : Nat) (pv : Value) (m : Ch.Ma) : Array Value:=#[.pointer (some ⟨cb,0,none⟩),.slice (some ⟨g,0,none⟩) n n,pv,.string m.s.tm,.int .i64 m.s.x,.int .i64 m.s.y,.int .i64 m.s.z,.string (strOfNums m.q),.string (strOfNums m.out)]
def NwB (w : World) (xb cb g n : Nat) (pv : Value) (m : Ch.Ma) : Prop:=w.heap[xb]? = some (.cells (nwA cb g n pv m) 274 (0,0))
section
variable {w w' : World} {xb cb g n : Nat} {pv : Value} {m : Ch.Ma}
theorem NwB.cell (h : NwB w xb cb g n pv m) (i : Nat) : w.cell? ⟨xb,i,none⟩ = (nwA cb g n pv m)[i]?:=by unfold NwB at h;rw [World.cell?,h];rfl
theorem NwB.free (h : NwB w xb cb g n pv m) (i : Nat) : w.frozen? ⟨xb,i,none⟩ = false:=by unfold NwB at h;simp [World.frozen?,h]
theorem NwB.keep {S : Nat → Prop} (h : NwB w xb cb g n pv m) (k : Kp S w w') (hS : ¬ S xb) : NwB w' xb cb g n pv m:=k.at_ h hS
theorem NwB.setQ (h : NwB w xb cb g n pv m) (q : List Int) : NwB (w.setCell ⟨xb,7,none⟩ (.string (strOfNums q))) xb cb g n pv { m with q:=q }:=by unfold NwB at *;rw [heap_set_same _ h];rfl
theorem NwB.setO (h : NwB w xb cb g n pv m) (q : List Int) : NwB (w.setCell ⟨xb,8,none⟩ (.string (strOfNums q))) xb cb g n pv { m with out:=q }:=by unfold NwB at *;rw [heap_set_same _ h];rfl
end
namespace Ch
def sts (l : List NV) : List St:=(mk l).map RN.st
theorem sts_len (l : List NV) : (sts l).length = l.length:=by simp [sts,mk]
theorem sts_kind {l : List NV} {i : Nat} {x : NV} (h : l[i]? = some x) : kindAt (sts l) i = x.n.kind:=by
 have hlt:=(List.getElem?_eq_some_iff.1 h).1;unfold sts;rw [kindAt_rn (by rw [mk_len];exact hlt),rnAt_mk h]
end Ch
end Go.Proofs.YtnlbchmfcebeeaaGreat
