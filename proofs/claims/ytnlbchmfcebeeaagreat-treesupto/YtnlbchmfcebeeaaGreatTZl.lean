import Derived.Test.YtnlbchmfcebeeaaGreatTZj
import Derived.Test.YtnlbchmfcebeeaaGreatTC2
import Derived.Test.YtnlbchmfcebeeaaGreatTF2
import Derived.Test.YtnlbchmfcebeeaaGreatTXw
import Derived.Test.YtnlbchmfcebeeaaGreatTXp
import Derived.Test.YtnlbchmfcebeeaaGreatTXd
set_option maxHeartbeats 12800000
set_option maxRecDepth 100000
namespace Go.Proofs.YtnlbchmfcebeeaaGreat
open Go.RowKit
namespace Ch
def m0 (ol : Ol) : Ma:=⟨blankSd ol.sts,[],[]⟩
end Ch
theorem rf_read {t : ByteArray} {l : List NV} (h0 : (Ch.read t).1 = 0) (hN : Ch.NR (Ch.mk l) (Ch.chart t).2) (hT : Ch.TB (Ch.mk l)) : Rf l (Ch.read t).2.2:=by
 obtain ⟨hO,e,_,_⟩:=Ch.read_ols h0;have hA:=Ch.aca_of hN (Ch.chart_t0 t);have hok:=Ch.read_ok t;rw [e] at hO hok ⊢
 have at_ : ∀ (k : Nat) (x : NV),l[k]? = some x → (Ch.mk l)[k]? = some x.n:=fun k x hx=>by unfold Ch.mk;rw [List.getElem?_map,hx];rfl
 refine ⟨hN.sts,fun k x hx=>hN.trs k _ (at_ k x hx),fun k x hx=>hN.ent k _ (at_ k x hx),fun k x hx=>hN.lea k _ (at_ k x hx),hO,hA,hok,fun k x hx=>?_,fun x hx rt hr=>?_,fun k x hx=>?_⟩
 ·have:=(hN.wf k _ (at_ k x hx)).2.2.1
  unfold Ch.isNm at this;simpa using this
 ·obtain ⟨k,hk⟩:=List.getElem?_of_mem hx
  exact (hT x.n (List.mem_of_getElem? (at_ k x hk)) rt hr).1
 have:=hN.wf k _ (at_ k x hx);exact ⟨this.2.2.2.2.1,this.2.2.2.2.2.1⟩
end Go.Proofs.YtnlbchmfcebeeaaGreat
