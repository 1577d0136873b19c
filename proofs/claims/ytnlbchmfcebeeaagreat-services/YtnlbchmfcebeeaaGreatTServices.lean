/- The Go function chartlaw.Services answers true for every script of bulk at most 1048576, and leaves it as it was: every New, Ask, Step and Versions of every service answers as the document's does, and the lists are the caller's own. -/
import Derived.Test.YtnlbchmfcebeeaaGreatTIj
import Derived.Test.YtnlbchmfcebeeaaGreatTSvK
set_option maxHeartbeats 12800000
set_option maxRecDepth 100000
namespace Go.Proofs.YtnlbchmfcebeeaaGreat
open Go.Proofs.Tryz Ch
open Go.ChangeShapes Go.WideShapes Go.ChangeAt Go.RowKit
theorem Qu{H:Type}(d:DataW H):0<Rows.uptoBulk d:=by
 cases d with
 |lit l=>cases l<;>(simp only[Rows.uptoBulk];omega)
 |_=>simp only[Rows.uptoBulk];omega
theorem F7{H:Type}:∀l:List (DataW H),l.length<=Rows.uptoBulkAll l
 | []=>aG _
 |d::l=>by
  have D:=Qu d;have E:=F7 l;simp only[Rows.uptoBulkAll,eh];omega
theorem I5{H:Type}{enc:TypeId×Value->H}{W:World}{O:Option Addr}{n cap:Nat}{d:DataW H}{p:List MemPlace}
 (h:DataW.Trod enc prog W 0 (λ_=>true) true 22 (.slice O n cap) d p):n<=Rows.uptoBulk d:=by
 obtain⟨G,U⟩:=h
 rcases Go.Deep.open_slice underlying22 U with⟨E,_⟩|⟨a,J,F,m,q,D,Pl,E,_,_,_,_,X,_⟩
 ·simp[Value.cells]at E
  omega
 simp[Value.cells]at E;obtain⟨rfl,rfl,rfl⟩:=E;have I:=gr Prod.fst X;simp only at I;rw[I];have:=F7 ((List.range n).map D);simp only[gx,List.length_range]at this;simp only[Rows.uptoBulk];omega
theorem xL(os:Os)(E:os.Started)(H:Type)(enc:TypeId×Value->H)(F:Stop.Interp):
 ReturnsInHanded {} Tryz.checked os 15 .any ((Rows.OpenSpec.upto Rows.servicesSpec).pre6 enc prog Tryz.f15 Rows.servicesUptoRow.domain false) (((Rows.OpenSpec.upto Rows.servicesSpec).at F).post enc prog Tryz.f15 false true false false):=by
 refine returnsInHanded_of_cond (C:=Tryz.checked) (s:=Rows.OpenSpec.upto Rows.servicesSpec) (k:=Rows.uptoSmall) rfl Le E (by kernel_rfl) func15
  (OpenSpec.witness (enc:=enc) (C:=Tryz.checked) (s:=Rows.OpenSpec.upto Rows.servicesSpec) (k:=Rows.uptoSmall) rfl false ⟨#[],#[.slice none 0 0],[]⟩ 8 (by kernel_rfl) (by kernel_rfl) (by kernel_rfl)
   (x:=([.nil],[],[])) (by kernel_rfl) rfl (by kernel_rfl)) ?_
 intro W base args ds gs X D hW aa hk _;have G:∀(j:Nat) t v,Tryz.f15.params[j]? =some t->args[j]? =some v->Value.okWide prog W .any base t v:=D;have I:=hW;obtain⟨p,q,O,hV,rfl,ad,lG⟩:=hW;have hA:DataW.TrodAll enc prog W 0 (λ_=>true) true Tryz.f15.params.toList args.toList ds p:=O;rw[params15]at hA G;obtain⟨v0,d0,rfl,rfl,Y⟩:=trodAll_one hA;obtain⟨rfl,rfl⟩:=trodVars_none hV;obtain⟨U,hs,_,_⟩:=DP (G 0 22 v0 rfl rfl) Y;clear O D;simp only[i_]at I hk
 have Z:∀x∈p,x.block<W.heap.size:=λx hx=>by simpa using I.lt x hx
 have hl:U.length<=1048576:=by
  obtain⟨ao,cap,rfl⟩:=hs.len;have h1:=I5 Y;have h2:Rows.uptoBulkAll [d0]<=1048576:=of_decide_eq_true hk;simp only[Rows.uptoBulkAll]at h2;omega
 refine(Dg W v0 U hs hl).mono λe W' ⟨he,hk⟩=>?_
 subst he;have J:=Oi hk;exact⟨_,rfl,⟨_,_,_,[],_,[],I,trodAll_mk1 (shut_bool underlying4 true),trodAll_mk1 (Below.trod Oj (by kernel_rfl) (of_decide_eq_true (by kernel_rfl)) Y J Z),rfl,J.frame _,λh=>by cases h⟩⟩
theorem zW:prog.funcNamed Rows.servicesUptoRow.func=some 15:=by kernel_rfl
theorem AQ:Tryz.f15.isInstance prog Rows.servicesUptoRow.origin Rows.servicesUptoRow.targs:=of_decide_eq_true (by kernel_rfl)
theorem AR:Tryz.f15.isWrapper prog Rows.servicesUptoRow.wrapper Rows.servicesUptoRow.mainSum:=by unfold Func.isWrapper;first|(rw[aq (by decide+kernel)];kernel_rfl)|(rw[ay (by decide+kernel)];exact⟨rfl,rfl⟩)
theorem AT:Rows.ServicesUptoSaid:=
 OpenClaim.holds_of_cond 15 Tryz.f15 rfl rfl rfl rfl rfl rfl rfl ⟨rfl,rfl,rfl,rfl,rfl⟩ rfl rfl rfl rfl rfl zW func15 xK
  AQ AR (λos started H enc _ F=>xL os started H enc F)
theorem services_proved:Rows.ServicesUptoSaid:=AT
end Go.Proofs.YtnlbchmfcebeeaaGreat
