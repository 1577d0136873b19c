/- The Go function chartkeep.Sound answers true for all numbers that a chart is built of and all texts of events, and leaves its arguments as they were: the tree of a chart is what was built, and wherever events and ticks bring it, it is in a state in which a chart may be. No condition. -/
import Derived.Test.YtnlbchmfcebeeaaGreatTW6
import Derived.Test.YtnlbchmfcebeeaaGreatTSoK
import Derived.SizedLaws
set_option maxHeartbeats 12800000
set_option maxRecDepth 100000
namespace Go.Proofs.YtnlbchmfcebeeaaGreat
open Go.Proofs.Tryz Ch
open Go.ChangeShapes Go.WideShapes Go.ChangeAt Go.RowKit
open Go.ChangeMaps (open_string shut_string)
theorem GZ(os:Os)(started:os.Started)(H:Type)(enc:TypeId×Value->H):
 ReturnsInHanded {} Tryz.checked os 12 .any (Rows.soundSpec.pre6 enc prog Tryz.f12 Rows.soundRow.domain false) (Rows.soundSpec.post enc prog Tryz.f12 false true false false):=by
 refine returnsInHanded_of_change_sized (C:=Tryz.checked) qu started (by kernel_rfl) func12
  (ChangeSpec.witness6 (enc:=enc) (C:=Tryz.checked) false ⟨#[],#[.slice none 0 0,.string ⟨#[]⟩],[]⟩ 8 (by kernel_rfl) (by kernel_rfl) (by kernel_rfl) (by kernel_rfl)) ?_
 intro W base args ds gs before hval0 hW hcnd hwt _;have hval:∀(j:Nat) t v,Tryz.f12.params[j]? =some t->args[j]? =some v->Value.okWide prog W .any base t v:=hval0;have hW':=hW;obtain⟨p,q,hA0,hV,rfl,hfz,hnd⟩:=hW;have hA:DataW.TrodAll enc prog W 0 (λ_=>true) true Tryz.f12.params.toList args.toList ds p:=hA0;rw[params12]at hA hval hwt;obtain⟨v0,vs0,d0,ds0,p0,q0,hargs,rfl,rfl,h0,r0⟩:=trodAll_cons hA;obtain⟨v1,vs1,d1,ds1,p1,q1,rfl,rfl,rfl,h1,r1⟩:=trodAll_cons r0;obtain⟨rfl,rfl,rfl⟩:=trodAll_nil r1
 obtain rfl:args= #[v0,v1]:=by cases args;simp_all
 obtain⟨rfl,rfl⟩:=trodVars_none hV;obtain⟨n,hI,hn⟩:=open_ints (hval 0 38 v0 rfl rfl) h0;obtain⟨a1,rfl,rfl,rfl,w1⟩:=open_string underlying9 (hval 1 9 v1 rfl rfl) h1
 have hev:a1.size<=140737488351232:=by
  have hwm:=List.all_eq_true.1 hwt a1.data.toList.length (List.mem_append_right _ (List.mem_append_left _ (List.mem_singleton.2 rfl)));have hd:=of_decide_eq_true hwm;simpa[reachBytes]using hd
 clear hA0 hval0;simp only[List.append_nil]at hW'
 have hlt:∀x∈p0,x.block<W.heap.size:=λx hx=>by simpa using hW'.lt x hx
 refine(S8 W hI hn a1 hev).mono λe W' ⟨he,mY⟩=>?_
 subst he;exact⟨_,rfl,_,_,_,[],_,[],hW',trodAll_mk1 (shut_bool underlying4 _),(trodAll_cons_mk (Below.trod lx (by kernel_rfl) (of_decide_eq_true (by kernel_rfl)) h0 mY hlt) (trodAll_cons_mk (shut_string underlying9 w1) trodAll_mk0)),rfl,mY.frame _,λh=>by cases h⟩
theorem JQ:prog.funcNamed Rows.soundRow.func=some 12:=by kernel_rfl
theorem NS:Tryz.f12.isInstance prog Rows.soundRow.origin Rows.soundRow.targs:=of_decide_eq_true (by kernel_rfl)
theorem NT:Tryz.f12.isWrapper prog Rows.soundRow.wrapper Rows.soundRow.mainSum:=by unfold Func.isWrapper;first|(rw[if_pos (by decide+kernel)];kernel_rfl)|(rw[if_neg (by decide+kernel)];exact⟨rfl,rfl⟩)
theorem NU:Rows.soundRow.holds Tryz.pinned (OpenSpec.ofChange Rows.soundSpec):=
 OpenClaim.holds_of_wide 12 Tryz.f12 rfl rfl rfl rfl rfl rfl rfl ⟨rfl,rfl,rfl,rfl,rfl⟩ rfl rfl rfl rfl rfl JQ func12 GY
  NS NT (λos started H enc _=>GZ os started H enc)
theorem sound_proved:Rows.SoundSaid:=NU
end Go.Proofs.YtnlbchmfcebeeaaGreat
