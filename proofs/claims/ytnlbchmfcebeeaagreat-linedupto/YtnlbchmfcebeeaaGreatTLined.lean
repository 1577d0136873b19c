/- The Go function chartkeep.Lined answers true for all numbers that a chart is built of, every number of clients and every script of small steps, of bulk at most 1048576 together, and leaves its arguments as they were: in whatever order the steps of several clients come, all requests that are done can be set in one row such that each reply is what follows from that row; no Read tells the middle of a Send; polls tell what was put out; kept are the last versions and those that a Read needs. -/
import Derived.Test.YtnlbchmfcebeeaaGreatTOi
import Derived.Test.YtnlbchmfcebeeaaGreatTLiK
set_option maxHeartbeats 12800000
set_option maxRecDepth 100000
namespace Go.Proofs.YtnlbchmfcebeeaaGreat
open Go.Proofs.Tryz Ch
open Go.ChangeShapes Go.WideShapes Go.ChangeAt Go.RowKit
theorem U7{H:Type}(d:DataW H):0<Rows.uptoBulk d:=by
 cases d with
 |lit l=>cases l<;>(simp only[Rows.uptoBulk];omega)
 |_=>simp only[Rows.uptoBulk];omega
theorem FY{H:Type}:∀l:List (DataW H),l.length<=Rows.uptoBulkAll l
 | []=>Nat.zero_le _
 |d::l=>by
  have h1:=U7 d;have h2:=FY l;simp only[Rows.uptoBulkAll,List.length_cons];omega
theorem U8{H:Type}{enc:TypeId×Value->H}{W:World}{ao:Option Addr}{n cap:Nat}{d:DataW H}{p:List MemPlace}
 (h:DataW.Trod enc prog W 0 (λ_=>true) true 52 (.slice ao n cap) d p):n<=Rows.uptoBulk d:=by
 obtain⟨fuel,hf⟩:=h
 rcases Go.Deep.open_slice underlying52 hf with⟨hcs,_⟩|⟨a,len',cap',m,q,D,Pl,hcs,_,_,_,_,hx,_⟩
 ·simp[Value.cells]at hcs
  omega
 simp[Value.cells]at hcs;obtain⟨rfl,rfl,rfl⟩:=hcs;have hd:=congrArg Prod.fst hx;simp only at hd;rw[hd];have:=FY ((List.range n).map D);simp only[List.length_map,List.length_range]at this;simp only[Rows.uptoBulk];omega
theorem Iv(os:Os)(started:os.Started)(H:Type)(enc:TypeId×Value->H)(F:Stop.Interp):
 ReturnsInHanded {} Tryz.checked os 16 .any ((Rows.OpenSpec.upto Rows.linedSpec).pre6 enc prog Tryz.f16 Rows.linedUptoRow.domain false) (((Rows.OpenSpec.upto Rows.linedSpec).at F).post enc prog Tryz.f16 false true false false):=by
 refine returnsInHanded_of_cond (C:=Tryz.checked) (s:=Rows.OpenSpec.upto Rows.linedSpec) (k:=Rows.uptoSmall) rfl qu started (by kernel_rfl) func16
  (OpenSpec.witness (enc:=enc) (C:=Tryz.checked) (s:=Rows.OpenSpec.upto Rows.linedSpec) (k:=Rows.uptoSmall) rfl false ⟨#[],#[.slice none 0 0,.int .i64 0,.slice none 0 0],[]⟩ 8 (by kernel_rfl) (by kernel_rfl) (by kernel_rfl)
   (x:=([.nil,.lit (.int .i64 0),.nil],[],[])) (by kernel_rfl) rfl (by kernel_rfl)) ?_
 intro W base args ds gs before hval0 hW hcnd hk _;have hval:∀(j:Nat) t v,Tryz.f16.params[j]? =some t->args[j]? =some v->Value.okWide prog W .any base t v:=hval0;have hW':=hW;obtain⟨p,q,hA0,hV,rfl,hfz,hnd⟩:=hW;have hA:DataW.TrodAll enc prog W 0 (λ_=>true) true Tryz.f16.params.toList args.toList ds p:=hA0;rw[params16]at hA hval;obtain⟨v0,vs0,d0,ds0,p0,q0,hargs,rfl,rfl,h0,r0⟩:=trodAll_cons hA;obtain⟨v1,vs1,d1,ds1,p1,q1,rfl,rfl,rfl,h1,r1⟩:=trodAll_cons r0;obtain⟨v2,vs2,d2,ds2,p2,q2,rfl,rfl,rfl,h2,r2⟩:=trodAll_cons r1;obtain⟨rfl,rfl,rfl⟩:=trodAll_nil r2
 obtain rfl:args= #[v0,v1,v2]:=by cases args;simp_all
 obtain⟨rfl,rfl⟩:=trodVars_none hV;obtain⟨n,hI,hn⟩:=open_ints (hval 0 38 v0 rfl rfl) h0;obtain⟨a1,rfl,rfl,rfl,w1⟩:=open_int underlying3 (hval 1 3 v1 rfl rfl) h1;obtain⟨sn,hS,_⟩:=C4 (hval 2 52 v2 rfl rfl) h2;clear hA0 hval0;simp only[List.append_nil]at hW' hk
 have hlt:∀x,x∈p0\/x∈p2->x.block<W.heap.size:=λx hx=>hW'.lt x (by simpa using hx)
 have hsn:sn<=1048576:=by
  obtain⟨ao,cap,rfl⟩:=hS.len;have h3:=U8 h2;have h4:Rows.uptoBulkAll [d0,_,d2]<=1048576:=of_decide_eq_true hk;simp only[Rows.uptoBulkAll]at h4;omega
 refine(U3 W hI hn a1 (bounds_i64 w1) hS hsn).mono λe W' ⟨he,mY⟩=>?_
 subst he;exact⟨_,rfl,⟨_,_,_,[],_,[],hW',trodAll_mk1 (shut_bool underlying4 true),(trodAll_cons_mk (Below.trod lx (by kernel_rfl) (of_decide_eq_true (by kernel_rfl)) h0 mY (λx hx=>hlt x (.inl hx))) (trodAll_cons_mk (shut_int underlying3 w1) (trodAll_cons_mk (Below.trod lx (by kernel_rfl) (of_decide_eq_true (by kernel_rfl)) h2 mY (λx hx=>hlt x (.inr hx))) trodAll_mk0))),rfl,mY.frame _,λh=>by cases h⟩⟩
theorem Mi:prog.funcNamed Rows.linedUptoRow.func=some 16:=by kernel_rfl
theorem PY:Tryz.f16.isInstance prog Rows.linedUptoRow.origin Rows.linedUptoRow.targs:=of_decide_eq_true (by kernel_rfl)
theorem PZ:Tryz.f16.isWrapper prog Rows.linedUptoRow.wrapper Rows.linedUptoRow.mainSum:=by unfold Func.isWrapper;first|(rw[if_pos (by decide+kernel)];kernel_rfl)|(rw[if_neg (by decide+kernel)];exact⟨rfl,rfl⟩)
theorem P0:Rows.LinedUptoSaid:=
 OpenClaim.holds_of_cond 16 Tryz.f16 rfl rfl rfl rfl rfl rfl rfl ⟨rfl,rfl,rfl,rfl,rfl⟩ rfl rfl rfl rfl rfl Mi func16 Iu
  PY PZ (λos started H enc _ F=>Iv os started H enc F)
theorem lined_proved:Rows.LinedUptoSaid:=P0
end Go.Proofs.YtnlbchmfcebeeaaGreat
