import Derived.Test.YtnlbchmfcebeeaaGreatTBb
import Derived.Test.YtnlbchmfcebeeaaGreatRows
import Derived.ProofKit
import Derived.OpenShut
import Derived.ShutString
import Derived.ChangeOld
import Derived.Below
import Derived.Deep.Slices
set_option maxHeartbeats 12800000
set_option maxRecDepth 100000
namespace Go.Proofs.YtnlbchmfcebeeaaGreat
open Go.Proofs.Tryz Ch
open Go.ChangeShapes Go.WideShapes Go.ChangeAt Go.RowKit Go.Deep
theorem uh : ownKnob prog.godebug = none:=by kernel_rfl
theorem lX : laidOutB prog = true:=by kernel_rfl
theorem ri : prog.cellsOf 3 = 1:=by kernel_rfl
theorem open_ints {H : Type} {enc : TypeId × Value -> H} {W : World} {base : Nat} {v : Value} {d : DataW H} {p : List MemPlace} (hv : Value.okWide prog W .any base 38 v)
 (h : DataW.Trod enc prog W 0 (fun _=>true) true 38 v d p) : ∃ n,kY W W.heap.size v n /\ n <= maxLen:=by
 obtain ⟨fuel,hf⟩:=h;obtain ⟨a0,len,cap,rfl⟩:=okWide_slice underlying38 hv
 rcases open_slice underlying38 hf with ⟨hcs,_⟩ | ⟨a,len',cap',m,n,D,Pl,hcs,hb,hl,hm,hmm,_,hel⟩
 ·simp [Value.cells] at hcs
  obtain ⟨rfl,rfl,rfl⟩:=hcs;exact ⟨0,.inl ⟨⟨_,_,rfl⟩,rfl⟩,Nat.zero_le _⟩
 simp [Value.cells] at hcs;obtain ⟨rfl,rfl,rfl⟩:=hcs;simp only [if_true] at hmm;subst hmm;rw [ri] at hel
 by_cases hz : len = 0
 ·subst hz
  exact ⟨0,.inl ⟨⟨_,_,rfl⟩,rfl⟩,Nat.zero_le _⟩
 have hex : ∀ i,i < len -> ∃ x : Int,W.cell? (a.add i) = some (.int .i64 x) /\ -9223372036854775808 <= x /\ x <= 9223372036854775807:=by
  intro i hi;obtain ⟨cs',hc,ht⟩:=hel i (by omega);obtain ⟨x,rfl,_,hw⟩:=DataW.trod_int underlying3 ht;obtain ⟨_,_,hcell⟩:=World.cells?_some hc;have:=hcell 0 (by omega);rw [Go.Deep.add_add] at this;exact ⟨x,by simpa using this,bounds_i64 hw⟩
 obtain ⟨b,off,spot⟩:=a
 have hspot : spot = none:=by
  obtain ⟨x,hx,_⟩:=hex 0 (by omega);simpa [Addr.add] using World.cell?_spot hx
 subst hspot
 have hlt : b < W.heap.size:=by
  obtain ⟨x,hx,_⟩:=hex 0 (by omega)
  by_cases q : b < W.heap.size
  ·exact q
  rw [World.cell?] at hx;simp [Addr.add,Array.getElem?_eq_none (Nat.le_of_not_lt q)] at hx
 refine ⟨len,.inr ⟨b,off,m,rfl,hlt,fun j hj=>?_⟩,by omega⟩;obtain ⟨x,hx,hb1⟩:=hex j hj;refine ⟨x,?_,hb1⟩;unfold Addr.add at hx
 split at hx <;> simp_all
end Go.Proofs.YtnlbchmfcebeeaaGreat
