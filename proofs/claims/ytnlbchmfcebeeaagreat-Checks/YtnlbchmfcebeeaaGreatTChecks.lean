/- The Go function chartlaw.Checks answers true for every script, and leaves it as it was: every Check of the program gives the document's error and place. No condition. -/
import Derived.Test.YtnlbchmfcebeeaaGreatTZp
import Derived.Test.YtnlbchmfcebeeaaGreatTChK
set_option maxHeartbeats 12800000
set_option maxRecDepth 100000
namespace Go.Proofs.YtnlbchmfcebeeaaGreat
open Go.Proofs.Tryz Ch
open Go.ChangeShapes Go.WideShapes Go.ChangeAt Go.RowKit
theorem DJ(os:Os)(started:os.Started)(H:Type)(enc:TypeId×Value->H):
 ReturnsInHanded {} Tryz.checked os 3 .any (Rows.checksSpec.pre6 enc prog Tryz.f3 Rows.checksRow.domain false) (Rows.checksSpec.post enc prog Tryz.f3 false true false false):=by
 refine returnsInHanded_of_change (C:=Tryz.checked) np started (by kernel_rfl) func3
  (ChangeSpec.witness6 (enc:=enc) (C:=Tryz.checked) false ⟨#[],#[.slice none 0 0],[]⟩ 8 (by kernel_rfl) (by kernel_rfl) (by kernel_rfl) (by kernel_rfl)) ?_
 intro W base args ds gs before hval0 hW hcnd _;have hval:∀(j:Nat) t v,Tryz.f3.params[j]? =some t->args[j]? =some v->Value.okWide prog W .any base t v:=hval0;have hW':=hW;obtain⟨p,q,hA0,hV,rfl,hfz,hnd⟩:=hW;have hA:DataW.TrodAll enc prog W 0 (λ_=>true) true Tryz.f3.params.toList args.toList ds p:=hA0;rw[params3]at hA hval;obtain⟨v0,d0,rfl,rfl,h0⟩:=trodAll_one hA;obtain⟨rfl,rfl⟩:=trodVars_none hV;obtain⟨ops,hs,hl,_⟩:=kb (hval 0 22 v0 rfl rfl) h0;clear hA0 hval0;simp only[List.append_nil]at hW'
 have hlt:∀x∈p,x.block<W.heap.size:=λx hx=>by simpa using hW'.lt x hx
 refine(OX W v0 ops hs hl).mono λe W' ⟨he,hk⟩=>?_
 subst he;have mY:=qK hk;exact⟨_,rfl,⟨_,_,_,[],_,[],hW',trodAll_mk1 (shut_bool underlying4 true),trodAll_mk1 (Below.trod qL (by kernel_rfl) (of_decide_eq_true (by kernel_rfl)) h0 mY hlt),rfl,mY.frame _,λh=>by cases h⟩⟩
theorem Hw:prog.funcNamed Rows.checksRow.func=some 3:=by kernel_rfl
theorem Li:Tryz.f3.isInstance prog Rows.checksRow.origin Rows.checksRow.targs:=of_decide_eq_true (by kernel_rfl)
theorem Lj:Tryz.f3.isWrapper prog Rows.checksRow.wrapper Rows.checksRow.mainSum:=by unfold Func.isWrapper;first|(rw[if_pos (by decide+kernel)];kernel_rfl)|(rw[if_neg (by decide+kernel)];exact⟨rfl,rfl⟩)
theorem Lk:Rows.checksRow.holds Tryz.pinned (OpenSpec.ofChange Rows.checksSpec):=
 OpenClaim.holds_of_wide 3 Tryz.f3 rfl rfl rfl rfl rfl rfl rfl ⟨rfl,rfl,rfl,rfl,rfl⟩ rfl rfl rfl rfl rfl Hw func3 DI
  Li Lj (λos started H enc _=>DJ os started H enc)
theorem checks_proved:Rows.ChecksSaid:=Lk
end Go.Proofs.YtnlbchmfcebeeaaGreat
