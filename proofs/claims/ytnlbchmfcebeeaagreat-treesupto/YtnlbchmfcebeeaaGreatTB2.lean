import Derived.Test.YtnlbchmfcebeeaaGreatTB1
set_option maxHeartbeats 12800000
set_option maxRecDepth 100000
namespace Go.Proofs.YtnlbchmfcebeeaaGreat
open Go.RowKit
namespace Ch
def noSet : List Bool:=List.replicate 16 false
def hist (ss : List St) (j : Nat) : Bool:=match ss[j]? with | some s=>s.kind == 5 | none=>false
def blankK (ss : List St) (k : Nat) : List Int:=(List.range 16).map fun j=>if decide (j < k) && hist ss j then 45 else 0
def blankP (ss : List St) : List Int:=blankK ss 16
end Ch
def MeB (w : World) (b : Nat) (l : List Int) : Prop:=w.heap[b]? = some (.cells (pastCells l).toArray 93 (0,0))
section
variable {w : World} {b : Nat} {l : List Int}
theorem MeB.cell (h : MeB w b l) (hl : l.length = 16) {k : Nat} (hk : k < 16) : w.cell? ⟨b,k,none⟩ = some (.int .u8 (l.getD k 0)):=by
 unfold MeB at h;simp [World.cell?,h,pastCells,show k < l.length by omega]
theorem MeB.free (h : MeB w b l) (i : Nat) : w.frozen? ⟨b,i,none⟩ = false:=by unfold MeB at h;simp [World.frozen?,h]
theorem MeB.set (h : MeB w b l) (k : Nat) (v : Int) : MeB (w.setCell ⟨b,k,none⟩ (.int .u8 v)) b (l.set k v):=by
 unfold MeB at *;rw [heap_set_same _ h];simp [pastCells,List.map_set]
end
end Go.Proofs.YtnlbchmfcebeeaaGreat
