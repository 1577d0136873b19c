import Derived.Test.YtnlbchmfcebeeaaGreatTY1
import Derived.Test.YtnlbchmfcebeeaaGreatTZl
set_option maxHeartbeats 12800000
set_option maxRecDepth 100000
namespace Go.Proofs.YtnlbchmfcebeeaaGreat
open Go.RowKit
section
variable (w : World) (wb : Nat)
theorem same_any (a : Ch.As) :
 Calls Tryz.prog 99 #[.agg (asA a),.agg (asA a)] w fun x w'=>x = .returned (.bool true) ∧ Kp (fun _=>False) w w':=by
 have K1 : Kp (fun _=>False) w ((w.alloc (.cells (asA a) 26)).alloc (.cells (asA a) 26)):=((Kp.refl _ _).alloc _).alloc _
 have hb1 : ((w.alloc (.cells (asA a) 26)).alloc (.cells (asA a) 26)).heap[w.heap.size]? = some (.cells (asA a) 26):=by rw [Below.heap_alloc _ _ _ (by simp)];exact heap_alloc_new _ _
 have hb2 : ((w.alloc (.cells (asA a) 26)).alloc (.cells (asA a) 26)).heap[w.heap.size + 1]? = some (.cells (asA a) 26):=by
  have:=heap_alloc_new (w.alloc (.cells (asA a) 26)) (.cells (asA a) 26);simpa using this
 go_enter Tryz.func99,Tryz.ntmps99
 go_upto_region 1 with (fail)
 generalize (w.alloc (.cells (asA a) 26)).alloc (.cells (asA a) 26) = w1 at *;generalize w.heap.size = ob at *
 have c0 : w1.cell? ⟨ob,0,none⟩ = some (.string a.act):=by rw [World.cell?,hb1];rfl
 have d0 : w1.cell? ⟨ob + 1,0,none⟩ = some (.string a.act):=by rw [World.cell?,hb2];rfl
 have c1 : w1.cell? ⟨ob,1,none⟩ = some (.string a.past):=by rw [World.cell?,hb1];rfl
 have d1 : w1.cell? ⟨ob + 1,1,none⟩ = some (.string a.past):=by rw [World.cell?,hb2];rfl
 have c2 : w1.cell? ⟨ob,2,none⟩ = some (.string a.tm):=by rw [World.cell?,hb1];rfl
 have d2 : w1.cell? ⟨ob + 1,2,none⟩ = some (.string a.tm):=by rw [World.cell?,hb2];rfl
 have c3 : w1.cell? ⟨ob,3,none⟩ = some (.int .i64 a.x):=by rw [World.cell?,hb1];rfl
 have d3 : w1.cell? ⟨ob + 1,3,none⟩ = some (.int .i64 a.x):=by rw [World.cell?,hb2];rfl
 have c4 : w1.cell? ⟨ob,4,none⟩ = some (.int .i64 a.y):=by rw [World.cell?,hb1];rfl
 have d4 : w1.cell? ⟨ob + 1,4,none⟩ = some (.int .i64 a.y):=by rw [World.cell?,hb2];rfl
 have c5 : w1.cell? ⟨ob,5,none⟩ = some (.int .i64 a.z):=by rw [World.cell?,hb1];rfl
 have d5 : w1.cell? ⟨ob + 1,5,none⟩ = some (.int .i64 a.z):=by rw [World.cell?,hb2];rfl
 clear hb1 hb2;go_wp2;go_ret;exact ⟨rfl,K1⟩
end
end Go.Proofs.YtnlbchmfcebeeaaGreat
