/- The Go function chartlaw.All answers true for every script of bulk at most 1048576, and leaves it as it was: every call, of every kind and in every order, answers as the document's does, and the lists are the caller's own. -/
import Derived.Test.YtnlbchmfcebeeaaGreatTRf
import Derived.Test.YtnlbchmfcebeeaaGreatTAlK
set_option maxHeartbeats 12800000
set_option maxRecDepth 100000
namespace Go.Proofs.YtnlbchmfcebeeaaGreat
open Go.Proofs.Tryz Ch
open Go.ChangeShapes Go.WideShapes Go.ChangeAt Go.RowKit
theorem Vg{H:Type}(d:DataW H):0<Rows.uptoBulk d:=by
 cases d with
 |lit l=>cases l<;>(simp only[Rows.uptoBulk];omega)
 |_=>simp only[Rows.uptoBulk];omega
theorem Kh{H:Type}:∀l:List (DataW H),l.length<=Rows.uptoBulkAll l
 | []=>aA _
 |d::l=>by
  have D:=Vg d;have E:=Kh l;simp only[Rows.uptoBulkAll,e_];omega
theorem NA{H:Type}{enc:TypeId×Value->H}{W:World}{Q:Option Addr}{n F:Nat}{d:DataW H}{p:List MemPlace}
 (h:DataW.Trod enc prog W 0 (λ_=>true) true 22 (.slice Q n F) d p):n<=Rows.uptoBulk d:=by
 obtain⟨I,R⟩:=h;rcases Go.Deep.open_slice underlying22 R with⟨E,_⟩|⟨a,O,G,m,q,D,Pl,E,_,_,_,_,U,_⟩
 ·simp[Value.cells]at E;omega
 simp[Value.cells]at E;obtain⟨rfl,rfl,rfl⟩:=E;have J:=iw Prod.fst U;simp only at J;rw[J];have:=Kh ((List.range n).map D);simp only[fN,List.length_range]at this;simp only[Rows.uptoBulk];omega
theorem NB(os:Os)(E:os.Started)(H:Type)(enc:TypeId×Value->H)(F:Stop.Interp):
 ReturnsInHanded {} Tryz.checked os 18 .any ((Rows.OpenSpec.upto Rows.allSpec).pre6 enc prog Tryz.f18 Rows.allUptoRow.domain false) (((Rows.OpenSpec.upto Rows.allSpec).at F).post enc prog Tryz.f18 false true false false):=by
 refine returnsInHanded_of_cond (C:=Tryz.checked) (s:=Rows.OpenSpec.upto Rows.allSpec) (k:=Rows.uptoSmall) rfl Pt E bZ func18
  (OpenSpec.witness (enc:=enc) (C:=Tryz.checked) (s:=Rows.OpenSpec.upto Rows.allSpec) (k:=Rows.uptoSmall) rfl false ⟨#[],#[.slice none 0 0],[]⟩ 8 bZ bZ bZ
   (x:=([.nil],[],[])) bZ rfl bZ) ?_
 intro W base args ds gs R D hW aa hk _;have G:∀(j:Nat) t v,Tryz.f18.params[j]? =some t->args[j]? =some v->Value.okWide prog W .any base t v:=D;have I:=hW;obtain⟨p,q,O,hV,rfl,ad,nP⟩:=hW;have Z:DataW.TrodAll enc prog W 0 (λ_=>true) true Tryz.f18.params.toList args.toList ds p:=O;rw[params18]at Z G;obtain⟨v0,d0,rfl,rfl,U⟩:=trodAll_one Z;obtain⟨rfl,rfl⟩:=trodVars_none hV;obtain⟨Q,hs,_,Y⟩:=Is (G 0 22 v0 rfl rfl) U;clear O D;simp only[iz]at I hk;have X:∀x∈p,x.block<W.heap.size:=λx hx=>by simpa using I.lt x hx
 have hl:Q.length<=1048576:=by
  obtain⟨ao,ab,rfl⟩:=hs.len;have h1:=NA U;have h2:Rows.uptoBulkAll [d0]<=1048576:=of_decide_eq_true hk;simp only[Rows.uptoBulkAll]at h2;omega
 refine(XB W v0 Q hs hl Y).mono λe W' ⟨he,hk⟩=>?_;subst he;have J:=SU hk;exact⟨_,rfl,⟨_,_,_,[],_,[],I,trodAll_mk1 (shut_bool underlying4 true),trodAll_mk1 (Below.trod SW bZ (of_decide_eq_true bZ) U J X),rfl,J.frame _,λh=>by cases h⟩⟩
theorem RG:prog.funcNamed Rows.allUptoRow.func=some 18:=bZ
theorem Vh:Tryz.f18.isInstance prog Rows.allUptoRow.origin Rows.allUptoRow.targs:=of_decide_eq_true bZ
theorem Vi:Tryz.f18.isWrapper prog Rows.allUptoRow.wrapper Rows.allUptoRow.mainSum:=by unfold Func.isWrapper;first|(rw[aq (by decide+kernel)];kernel_rfl)|(rw[ax (by decide+kernel)];exact⟨rfl,rfl⟩)
theorem Vj:Rows.AllUptoSaid:=
 OpenClaim.holds_of_cond 18 Tryz.f18 rfl rfl rfl rfl rfl rfl rfl ⟨rfl,rfl,rfl,rfl,rfl⟩ rfl rfl rfl rfl rfl RG func18 Nz
  Vh Vi (λos started H enc _ F=>NB os started H enc F)
theorem all_proved:Rows.AllUptoSaid:=Vj
end Go.Proofs.YtnlbchmfcebeeaaGreat
