/- The Go function chartlaw.Fires answers true for every script, and leaves it as it was: every Fire of the program gives the document's state, what it hands out, and error. No condition. -/
import Derived.Test.YtnlbchmfcebeeaaGreatTY6
import Derived.Test.YtnlbchmfcebeeaaGreatTFiK
set_option maxHeartbeats 12800000
set_option maxRecDepth 100000
namespace Go.Proofs.YtnlbchmfcebeeaaGreat
open Go.Proofs.Tryz Ch
open Go.ChangeShapes Go.WideShapes Go.ChangeAt Go.RowKit
theorem H4(os:Os)(started:os.Started)(H:Type)(enc:TypeId×Value->H):
 ReturnsInHanded {} Tryz.checked os 7 .any (Rows.firesSpec.pre6 enc prog Tryz.f7 Rows.firesRow.domain false) (Rows.firesSpec.post enc prog Tryz.f7 false true false false):=by
 refine returnsInHanded_of_change (C:=Tryz.checked) np started (by kernel_rfl) func7
  (ChangeSpec.witness6 (enc:=enc) (C:=Tryz.checked) false ⟨#[],#[.slice none 0 0],[]⟩ 8 (by kernel_rfl) (by kernel_rfl) (by kernel_rfl) (by kernel_rfl)) ?_
 intro W base args ds gs before hval0 hW hcnd _;have hval:∀(j:Nat) t v,Tryz.f7.params[j]? =some t->args[j]? =some v->Value.okWide prog W .any base t v:=hval0;have hW':=hW;obtain⟨p,q,hA0,hV,rfl,hfz,hnd⟩:=hW;have hA:DataW.TrodAll enc prog W 0 (λ_=>true) true Tryz.f7.params.toList args.toList ds p:=hA0;rw[params7]at hA hval;obtain⟨v0,d0,rfl,rfl,h0⟩:=trodAll_one hA;obtain⟨rfl,rfl⟩:=trodVars_none hV;obtain⟨ops,hs,hl,hsm⟩:=kb (hval 0 22 v0 rfl rfl) h0;clear hA0 hval0;simp only[List.append_nil]at hW'
 have hlt:∀x∈p,x.block<W.heap.size:=λx hx=>by simpa using hW'.lt x hx
 refine(Uu W v0 ops hs hl hsm).mono λe W' ⟨he,hk⟩=>?_
 subst he;have mY:=qK hk;exact⟨_,rfl,⟨_,_,_,[],_,[],hW',trodAll_mk1 (shut_bool underlying4 true),trodAll_mk1 (Below.trod qL (by kernel_rfl) (of_decide_eq_true (by kernel_rfl)) h0 mY hlt),rfl,mY.frame _,λh=>by cases h⟩⟩
theorem Lt:prog.funcNamed Rows.firesRow.func=some 7:=by kernel_rfl
theorem O_:Tryz.f7.isInstance prog Rows.firesRow.origin Rows.firesRow.targs:=of_decide_eq_true (by kernel_rfl)
theorem Pa:Tryz.f7.isWrapper prog Rows.firesRow.wrapper Rows.firesRow.mainSum:=by unfold Func.isWrapper;first|(rw[if_pos (by decide+kernel)];kernel_rfl)|(rw[if_neg (by decide+kernel)];exact⟨rfl,rfl⟩)
theorem Pb:Rows.firesRow.holds Tryz.pinned (OpenSpec.ofChange Rows.firesSpec):=
 OpenClaim.holds_of_wide 7 Tryz.f7 rfl rfl rfl rfl rfl rfl rfl ⟨rfl,rfl,rfl,rfl,rfl⟩ rfl rfl rfl rfl rfl Lt func7 Hz
  O_ Pa (λos started H enc _=>H4 os started H enc)
theorem fires_proved:Rows.FiresSaid:=Pb
end Go.Proofs.YtnlbchmfcebeeaaGreat
