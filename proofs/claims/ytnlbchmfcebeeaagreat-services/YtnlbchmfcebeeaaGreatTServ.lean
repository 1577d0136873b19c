/- The Go function chartlaw.Services answers true for every script, and leaves it as it was: every call on every service (New, Ask, Step, Versions), in every order, answers as the document's does, and the lists are the caller's own. No condition. -/
import Derived.Test.YtnlbchmfcebeeaaGreatTRf
import Derived.Test.YtnlbchmfcebeeaaGreatTSvK
import Derived.SizedLaws
set_option maxHeartbeats 12800000
set_option maxRecDepth 100000
namespace Go.Proofs.YtnlbchmfcebeeaaGreat
section
open Go.Proofs.Tryz Ch
open Go.RowKit
open Value(int slice bool pointer string agg tuple)
open IntKind(i64)
open Obj(cells)
open Ending(returned)
open Operand(tmp)
open Or(inl inr)
theorem XBS w v D(hs:Vn w v D)(G:D.length<=900000000000)(F:∀o∈D,o.Sm):
 Calls prog 15 #[v] w λx w'=>x=returned (bool true)/\Kp bA w w':=by
 have E:=ag (Nw w v D 7 10 (λK W=>RZ w.heap.size w.heap.size K K W) (RZ w.heap.size w.heap.size D.length (2*D.length)) hs wY (λ_ _ h=>h.up (cT _) (cT _))
  ⟨_,_,[],slice none 0 0,slice none 0 0,slice none 0 0,[],0,ak w _,cd _ _ _ _,λ_ _ h=>by simp at h,λ_ _ _ _ h=>by simp at h,λ_ _ h=>by simp at h,λ_ _ h=>by simp at h,aC _,cd _ _ _ _,cd _ _ _ _,dy,Int.le_refl _,Int.le_refl _,aC _,aC _,[],aC _,cd _ _ _ _,cd _ _ _ _,dy,λ_ h=>by simp[Value.ownBlock]at h⟩
  (λK W o hk ho h1 h2 hW _=>RD W w.heap.size w.heap.size o K (Int.le_trans (by decide) h1) h2 (F o ho) hW oQ)
  (λW hW _=>RE W w.heap.size w.heap.size D.length hW oQ)
  (λW hW _=>(Ny W w.heap.size w.heap.size D.length (2*D.length) hW oQ).mono (λx W' ⟨hx,hk⟩=>⟨hx,hk.mono gM⟩)))
 go_in;go_wp2_with fail;refine fu E ?_;rintro x I ⟨rfl,K⟩;go_wp2;go_ret;exact⟨rfl,K⟩
end
open Go.Proofs.Tryz Ch
open Go.ChangeShapes Go.WideShapes Go.ChangeAt Go.RowKit
theorem NA{H:Type}{enc:TypeId×Value->H}{W:World}{Q:Option Addr}{n F:Nat}{d:DataW H}{p:List MemPlace}
 (h:DataW.Trod enc prog W 0 (λ_=>true) true 22 (.slice Q n F) d p)
 (hz:(DataW.weightsEach prog [22] [d]).all (·<=reachBytes)=true):n*160<=reachBytes:=by
 obtain⟨I,R⟩:=h;rcases Go.Deep.open_slice underlying22 R with⟨E,_⟩|⟨a,O,G,m,q,D,Pl,E,_,_,_,_,U,_⟩
 ·simp[Value.cells]at E;omega
 simp[Value.cells]at E;obtain⟨rfl,rfl,rfl⟩:=E;have J:=iw Prod.fst U;simp only at J;subst J
 have h2:=sized_slice hz (j:=0) rfl rfl underlying22
 have e:prog.bytesOf 81=160:=bZ
 rw[e]at h2;simp only[fN,List.length_range]at h2
 exact Nat.le_trans (Nat.mul_le_mul_right _ (Nat.le_add_right _ _)) h2
theorem NB(os:Os)(E:os.Started)(H:Type)(enc:TypeId×Value->H):
 ReturnsInHanded {} Tryz.checked os 15 .any (Rows.servicesSpec.pre6 enc prog Tryz.f15 Rows.servicesRow.domain false) (Rows.servicesSpec.post enc prog Tryz.f15 false true false false):=by
 refine returnsInHanded_of_change_sized (C:=Tryz.checked) Pt E bZ func15
  (ChangeSpec.witness6 (enc:=enc) (C:=Tryz.checked) false ⟨#[],#[.slice none 0 0],[]⟩ 8 bZ bZ bZ bZ) ?_
 intro W base args ds gs R D hW aa hwt _;have G:∀(j:Nat) t v,Tryz.f15.params[j]? =some t->args[j]? =some v->Value.okWide prog W .any base t v:=D;have I:=hW;obtain⟨p,q,O,hV,rfl,ad,nP⟩:=hW;have Z:DataW.TrodAll enc prog W 0 (λ_=>true) true Tryz.f15.params.toList args.toList ds p:=O;rw[params15]at Z G hwt;obtain⟨v0,d0,rfl,rfl,U⟩:=trodAll_one Z;obtain⟨rfl,rfl⟩:=trodVars_none hV;obtain⟨Q,hs,_,Y⟩:=Is (G 0 22 v0 rfl rfl) U;clear O D;simp only[iz]at I;have X:∀x∈p,x.block<W.heap.size:=λx hx=>by simpa using I.lt x hx
 have hl:Q.length<=900000000000:=by
  obtain⟨ao,ab,rfl⟩:=hs.len;have h1:=NA U hwt;unfold reachBytes at h1;omega
 refine(XBS W v0 Q hs hl Y).mono λe W' ⟨he,hk⟩=>?_;subst he;have J:=SU hk;exact⟨_,rfl,⟨_,_,_,[],_,[],I,trodAll_mk1 (shut_bool underlying4 true),trodAll_mk1 (Below.trod SW bZ (of_decide_eq_true bZ) U J X),rfl,J.frame _,λh=>by cases h⟩⟩
theorem RG:prog.funcNamed Rows.servicesRow.func=some 15:=bZ
theorem Vh:Tryz.f15.isInstance prog Rows.servicesRow.origin Rows.servicesRow.targs:=of_decide_eq_true bZ
theorem Vi:Tryz.f15.isWrapper prog Rows.servicesRow.wrapper Rows.servicesRow.mainSum:=by unfold Func.isWrapper;first|(rw[aq (by decide+kernel)];kernel_rfl)|(rw[ax (by decide+kernel)];exact⟨rfl,rfl⟩)
theorem Vj:Rows.servicesRow.holds Tryz.pinned (OpenSpec.ofChange Rows.servicesSpec):=
 OpenClaim.holds_of_wide 15 Tryz.f15 rfl rfl rfl rfl rfl rfl rfl ⟨rfl,rfl,rfl,rfl,rfl⟩ rfl rfl rfl rfl rfl RG func15 NzS
  Vh Vi (λos started H enc _=>NB os started H enc)
theorem services_proved:Rows.ServicesSaid:=Vj
end Go.Proofs.YtnlbchmfcebeeaaGreat
