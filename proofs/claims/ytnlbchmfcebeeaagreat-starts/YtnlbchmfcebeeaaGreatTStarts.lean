/- The Go function chartlaw.Starts answers true for every script, and leaves it as it was: every Start of the program gives the document's state, what it hands out, and error. No condition. -/
import Derived.Test.YtnlbchmfcebeeaaGreatTY5
import Derived.Test.YtnlbchmfcebeeaaGreatTStK
set_option maxHeartbeats 12800000
set_option maxRecDepth 100000
namespace Go.Proofs.YtnlbchmfcebeeaaGreat
open Go.Proofs.Tryz Ch
open Go.ChangeShapes Go.WideShapes Go.ChangeAt Go.RowKit
theorem DN(os:Os)(started:os.Started)(H:Type)(enc:TypeId×Value->H):
 ReturnsInHanded {} Tryz.checked os 6 .any (Rows.startsSpec.pre6 enc prog Tryz.f6 Rows.startsRow.domain false) (Rows.startsSpec.post enc prog Tryz.f6 false true false false):=by
 refine returnsInHanded_of_change (C:=Tryz.checked) np started (by kernel_rfl) func6
  (ChangeSpec.witness6 (enc:=enc) (C:=Tryz.checked) false ⟨#[],#[.slice none 0 0],[]⟩ 8 (by kernel_rfl) (by kernel_rfl) (by kernel_rfl) (by kernel_rfl)) ?_
 intro W base args ds gs before hval0 hW hcnd _;have hval:∀(j:Nat) t v,Tryz.f6.params[j]? =some t->args[j]? =some v->Value.okWide prog W .any base t v:=hval0;have hW':=hW;obtain⟨p,q,hA0,hV,rfl,hfz,hnd⟩:=hW;have hA:DataW.TrodAll enc prog W 0 (λ_=>true) true Tryz.f6.params.toList args.toList ds p:=hA0;rw[params6]at hA hval;obtain⟨v0,d0,rfl,rfl,h0⟩:=trodAll_one hA;obtain⟨rfl,rfl⟩:=trodVars_none hV;obtain⟨ops,hs,hl,_⟩:=kb (hval 0 22 v0 rfl rfl) h0;clear hA0 hval0;simp only[List.append_nil]at hW'
 have hlt:∀x∈p,x.block<W.heap.size:=λx hx=>by simpa using hW'.lt x hx
 refine(O9 W v0 ops hs hl).mono λe W' ⟨he,hk⟩=>?_
 subst he;have mY:=qK hk;exact⟨_,rfl,⟨_,_,_,[],_,[],hW',trodAll_mk1 (shut_bool underlying4 true),trodAll_mk1 (Below.trod qL (by kernel_rfl) (of_decide_eq_true (by kernel_rfl)) h0 mY hlt),rfl,mY.frame _,λh=>by cases h⟩⟩
theorem Hy:prog.funcNamed Rows.startsRow.func=some 6:=by kernel_rfl
theorem Lq:Tryz.f6.isInstance prog Rows.startsRow.origin Rows.startsRow.targs:=of_decide_eq_true (by kernel_rfl)
theorem Lr:Tryz.f6.isWrapper prog Rows.startsRow.wrapper Rows.startsRow.mainSum:=by unfold Func.isWrapper;first|(rw[if_pos (by decide+kernel)];kernel_rfl)|(rw[if_neg (by decide+kernel)];exact⟨rfl,rfl⟩)
theorem Ls:Rows.startsRow.holds Tryz.pinned (OpenSpec.ofChange Rows.startsSpec):=
 OpenClaim.holds_of_wide 6 Tryz.f6 rfl rfl rfl rfl rfl rfl rfl ⟨rfl,rfl,rfl,rfl,rfl⟩ rfl rfl rfl rfl rfl Hy func6 DM
  Lq Lr (λos started H enc _=>DN os started H enc)
theorem starts_proved:Rows.StartsSaid:=Ls
end Go.Proofs.YtnlbchmfcebeeaaGreat
