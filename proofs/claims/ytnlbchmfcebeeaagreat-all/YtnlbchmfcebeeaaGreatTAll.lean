/- The Go function chartlaw.All answers true for every script, and leaves it as it was: every call, of every kind and in every order, answers as the document's does, and the lists are the caller's own. No condition. -/
import Derived.Test.YtnlbchmfcebeeaaGreatTRf
import Derived.Test.YtnlbchmfcebeeaaGreatTAlK
import Derived.SizedLaws
set_option maxHeartbeats 12800000
set_option maxRecDepth 100000
namespace Go.Proofs.YtnlbchmfcebeeaaGreat
open Go.Proofs.Tryz Ch
open Go.ChangeShapes Go.WideShapes Go.ChangeAt Go.RowKit
theorem NA{H:Type}{enc:TypeId×Value->H}{W:World}{Q:Option Addr}{n F:Nat}{d:DataW H}{p:List MemPlace}
 (h:DataW.Trod enc prog W 0 (λ_=>true) true 22 (.slice Q n F) d p)
 (hz:(DataW.weightsEach prog [22] [d]).all (·<=reachBytes)=true):n*160<=reachBytes:=by
 obtain⟨I,R⟩:=h;rcases Go.Deep.open_slice underlying22 R with⟨E,_⟩|⟨a,O,G,m,q,D,Pl,E,_,_,_,_,U,_⟩
 ·simp[Value.cells]at E;omega
 simp[Value.cells]at E;obtain⟨rfl,rfl,rfl⟩:=E;have J:=iw Prod.fst U;simp only at J;subst J
 have h2:=sized_slice hz (j:=0) rfl rfl underlying22
 have e:prog.bytesOf 81=160:=bZ
 rw[e]at h2;simp only[fN,List.length_range]at h2
 exact Nat.le_trans (Nat.mul_le_mul_right _ (Nat.le_add_right _ _)) h2
theorem NB(os:Os)(E:os.Started)(H:Type)(enc:TypeId×Value->H):
 ReturnsInHanded {} Tryz.checked os 18 .any (Rows.allSpec.pre6 enc prog Tryz.f18 Rows.allRow.domain false) (Rows.allSpec.post enc prog Tryz.f18 false true false false):=by
 refine returnsInHanded_of_change_sized (C:=Tryz.checked) Pt E bZ func18
  (ChangeSpec.witness6 (enc:=enc) (C:=Tryz.checked) false ⟨#[],#[.slice none 0 0],[]⟩ 8 bZ bZ bZ bZ) ?_
 intro W base args ds gs R D hW aa hwt _;have G:∀(j:Nat) t v,Tryz.f18.params[j]? =some t->args[j]? =some v->Value.okWide prog W .any base t v:=D;have I:=hW;obtain⟨p,q,O,hV,rfl,ad,nP⟩:=hW;have Z:DataW.TrodAll enc prog W 0 (λ_=>true) true Tryz.f18.params.toList args.toList ds p:=O;rw[params18]at Z G hwt;obtain⟨v0,d0,rfl,rfl,U⟩:=trodAll_one Z;obtain⟨rfl,rfl⟩:=trodVars_none hV;obtain⟨Q,hs,_,Y⟩:=Is (G 0 22 v0 rfl rfl) U;clear O D;simp only[iz]at I;have X:∀x∈p,x.block<W.heap.size:=λx hx=>by simpa using I.lt x hx
 have hl:Q.length<=900000000000:=by
  obtain⟨ao,ab,rfl⟩:=hs.len;have h1:=NA U hwt;unfold reachBytes at h1;omega
 refine(XB W v0 Q hs hl Y).mono λe W' ⟨he,hk⟩=>?_;subst he;have J:=SU hk;exact⟨_,rfl,⟨_,_,_,[],_,[],I,trodAll_mk1 (shut_bool underlying4 true),trodAll_mk1 (Below.trod SW bZ (of_decide_eq_true bZ) U J X),rfl,J.frame _,λh=>by cases h⟩⟩
theorem RG:prog.funcNamed Rows.allRow.func=some 18:=bZ
theorem Vh:Tryz.f18.isInstance prog Rows.allRow.origin Rows.allRow.targs:=of_decide_eq_true bZ
theorem Vi:Tryz.f18.isWrapper prog Rows.allRow.wrapper Rows.allRow.mainSum:=by unfold Func.isWrapper;first|(rw[aq (by decide+kernel)];kernel_rfl)|(rw[ax (by decide+kernel)];exact⟨rfl,rfl⟩)
theorem Vj:Rows.allRow.holds Tryz.pinned (OpenSpec.ofChange Rows.allSpec):=
 OpenClaim.holds_of_wide 18 Tryz.f18 rfl rfl rfl rfl rfl rfl rfl ⟨rfl,rfl,rfl,rfl,rfl⟩ rfl rfl rfl rfl rfl RG func18 Nz
  Vh Vi (λos started H enc _=>NB os started H enc)
theorem all_proved:Rows.AllSaid:=Vj
end Go.Proofs.YtnlbchmfcebeeaaGreat
