/- The Go function chartlaw.Trees answers true for every script, and leaves it as it was: every Tree of the program gives the document's nodes and error, and the list is the caller's own. No condition. -/
import Derived.Test.YtnlbchmfcebeeaaGreatTY8
import Derived.Test.YtnlbchmfcebeeaaGreatTTrK
import Derived.SizedLaws
set_option maxHeartbeats 12800000
set_option maxRecDepth 100000
namespace Go.Proofs.YtnlbchmfcebeeaaGreat
open Go.Proofs.Tryz Ch
open Go.ChangeShapes Go.WideShapes Go.ChangeAt Go.RowKit
theorem Pn{H:Type}{enc:TypeId×Value->H}{W:World}{ao:Option Addr}{n cap:Nat}{d:DataW H}{p:List MemPlace}
 (h:DataW.Trod enc prog W 0 (λ_=>true) true 22 (.slice ao n cap) d p)
 (hz:(DataW.weightsEach prog [22] [d]).all (·<=reachBytes)=true):n*160<=reachBytes:=by
 obtain⟨fuel,hf⟩:=h
 rcases Go.Deep.open_slice underlying22 hf with⟨hcs,_⟩|⟨a,len',cap',m,q,D,Pl,hcs,_,_,_,_,hx,_⟩
 ·simp[Value.cells]at hcs
  omega
 simp[Value.cells]at hcs;obtain⟨rfl,rfl,rfl⟩:=hcs;have hd:=congrArg Prod.fst hx;simp only at hd;subst hd
 have h2:=sized_slice hz (j:=0) rfl rfl underlying22
 have e:prog.bytesOf 81=160:=by kernel_rfl
 rw[e]at h2;simp only[List.length_map,List.length_range]at h2
 exact Nat.le_trans (Nat.mul_le_mul_right _ (Nat.le_add_right _ _)) h2
theorem Ie(os:Os)(started:os.Started)(H:Type)(enc:TypeId×Value->H):
 ReturnsInHanded {} Tryz.checked os 4 .any (Rows.treesSpec.pre6 enc prog Tryz.f4 Rows.treesRow.domain false) (Rows.treesSpec.post enc prog Tryz.f4 false true false false):=by
 refine returnsInHanded_of_change_sized (C:=Tryz.checked) np started (by kernel_rfl) func4
  (ChangeSpec.witness6 (enc:=enc) (C:=Tryz.checked) false ⟨#[],#[.slice none 0 0],[]⟩ 8 (by kernel_rfl) (by kernel_rfl) (by kernel_rfl) (by kernel_rfl)) ?_
 intro W base args ds gs before hval0 hW hcnd hwt _;have hval:∀(j:Nat) t v,Tryz.f4.params[j]? =some t->args[j]? =some v->Value.okWide prog W .any base t v:=hval0;have hW':=hW;obtain⟨p,q,hA0,hV,rfl,hfz,hnd⟩:=hW;have hA:DataW.TrodAll enc prog W 0 (λ_=>true) true Tryz.f4.params.toList args.toList ds p:=hA0;rw[params4]at hA hval hwt;obtain⟨v0,d0,rfl,rfl,h0⟩:=trodAll_one hA;obtain⟨rfl,rfl⟩:=trodVars_none hV;obtain⟨ops,hs,_,_⟩:=kb (hval 0 22 v0 rfl rfl) h0;clear hA0 hval0;simp only[List.append_nil]at hW'
 have hlt:∀x∈p,x.block<W.heap.size:=λx hx=>by simpa using hW'.lt x hx
 have hl:ops.length<=900000000000:=by
  obtain⟨ao,cap,rfl⟩:=hs.len;have h1:=Pn h0 hwt;unfold reachBytes at h1;omega
 refine(UA W v0 ops hs hl).mono λe W' ⟨he,hk⟩=>?_
 subst he;have mY:=qK hk;exact⟨_,rfl,⟨_,_,_,[],_,[],hW',trodAll_mk1 (shut_bool underlying4 true),trodAll_mk1 (Below.trod qL (by kernel_rfl) (of_decide_eq_true (by kernel_rfl)) h0 mY hlt),rfl,mY.frame _,λh=>by cases h⟩⟩
theorem Lx:prog.funcNamed Rows.treesRow.func=some 4:=by kernel_rfl
theorem Po:Tryz.f4.isInstance prog Rows.treesRow.origin Rows.treesRow.targs:=of_decide_eq_true (by kernel_rfl)
theorem Pp:Tryz.f4.isWrapper prog Rows.treesRow.wrapper Rows.treesRow.mainSum:=by unfold Func.isWrapper;first|(rw[if_pos (by decide+kernel)];kernel_rfl)|(rw[if_neg (by decide+kernel)];exact⟨rfl,rfl⟩)
theorem Pq:Rows.treesRow.holds Tryz.pinned (OpenSpec.ofChange Rows.treesSpec):=
 OpenClaim.holds_of_wide 4 Tryz.f4 rfl rfl rfl rfl rfl rfl rfl ⟨rfl,rfl,rfl,rfl,rfl⟩ rfl rfl rfl rfl rfl Lx func4 Ic
  Po Pp (λos started H enc _=>Ie os started H enc)
theorem trees_proved:Rows.TreesSaid:=Pq
end Go.Proofs.YtnlbchmfcebeeaaGreat
