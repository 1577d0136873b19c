/- The Go function chartkeep.Lined answers true for all numbers that a chart is built of, every number of clients and every script of small steps, and leaves its arguments as they were: in whatever order the steps of several clients come, all requests that are done can be set in one row such that each reply is what follows from that row; no Read tells the middle of a Send; polls tell what was put out; kept are the last versions and those that a Read needs. No condition. -/
import Derived.Test.YtnlbchmfcebeeaaGreatTOh
import Derived.Test.YtnlbchmfcebeeaaGreatTLiK
import Derived.SizedLaws
set_option maxHeartbeats 12800000
set_option maxRecDepth 100000
namespace Go.Proofs.YtnlbchmfcebeeaaGreat
open Go.Proofs.Tryz Ch
open Go.ChangeShapes Go.WideShapes Go.ChangeAt Go.RowKit
theorem U8{H:Type}{enc:TypeId×Value->H}{W:World}{ao:Option Addr}{n cap:Nat}{d:DataW H}{p:List MemPlace}{ts:List TypeId}{ds:List (DataW H)}
 (h:DataW.Trod enc prog W 0 (λ_=>true) true 52 (.slice ao n cap) d p)(j:Nat)(ht:ts[j]? =some 52)(hd:ds[j]? =some d)
 (hz:(DataW.weightsEach prog ts ds).all (·<=reachBytes)=true):n*40<=reachBytes:=by
 obtain⟨fuel,hf⟩:=h
 rcases Go.Deep.open_slice underlying52 hf with⟨hcs,_⟩|⟨a,len',cap',m,q,D,Pl,hcs,_,_,_,_,hx,_⟩
 ·simp[Value.cells]at hcs
  omega
 simp[Value.cells]at hcs;obtain⟨rfl,rfl,rfl⟩:=hcs;have hd2:=congrArg Prod.fst hx;simp only at hd2;subst hd2
 have h2:=sized_slice hz (j:=j) ht hd underlying52
 have e:prog.bytesOf 58=40:=by kernel_rfl
 rw[e]at h2;simp only[List.length_map,List.length_range]at h2
 exact Nat.le_trans (Nat.mul_le_mul_right _ (Nat.le_add_right _ _)) h2
theorem Iv(os:Os)(started:os.Started)(H:Type)(enc:TypeId×Value->H):
 ReturnsInHanded {} Tryz.checked os 16 .any (Rows.linedSpec.pre6 enc prog Tryz.f16 Rows.linedRow.domain false) (Rows.linedSpec.post enc prog Tryz.f16 false true false false):=by
 refine returnsInHanded_of_change_sized (C:=Tryz.checked) qu started (by kernel_rfl) func16
  (ChangeSpec.witness6 (enc:=enc) (C:=Tryz.checked) false ⟨#[],#[.slice none 0 0,.int .i64 0,.slice none 0 0],[]⟩ 8 (by kernel_rfl) (by kernel_rfl) (by kernel_rfl) (by kernel_rfl)) ?_
 intro W base args ds gs before hval0 hW hcnd hwt _;have hval:∀(j:Nat) t v,Tryz.f16.params[j]? =some t->args[j]? =some v->Value.okWide prog W .any base t v:=hval0;have hW':=hW;obtain⟨p,q,hA0,hV,rfl,hfz,hnd⟩:=hW;have hA:DataW.TrodAll enc prog W 0 (λ_=>true) true Tryz.f16.params.toList args.toList ds p:=hA0;rw[params16]at hA hval hwt;obtain⟨v0,vs0,d0,ds0,p0,q0,hargs,rfl,rfl,h0,r0⟩:=trodAll_cons hA;obtain⟨v1,vs1,d1,ds1,p1,q1,rfl,rfl,rfl,h1,r1⟩:=trodAll_cons r0;obtain⟨v2,vs2,d2,ds2,p2,q2,rfl,rfl,rfl,h2,r2⟩:=trodAll_cons r1;obtain⟨rfl,rfl,rfl⟩:=trodAll_nil r2
 obtain rfl:args= #[v0,v1,v2]:=by cases args;simp_all
 obtain⟨rfl,rfl⟩:=trodVars_none hV;obtain⟨n,hI,hn⟩:=open_ints (hval 0 38 v0 rfl rfl) h0;obtain⟨a1,rfl,rfl,rfl,w1⟩:=open_int underlying3 (hval 1 3 v1 rfl rfl) h1;obtain⟨sn,hS,_⟩:=C4 (hval 2 52 v2 rfl rfl) h2;clear hA0 hval0;simp only[List.append_nil]at hW'
 have hlt:∀x,x∈p0\/x∈p2->x.block<W.heap.size:=λx hx=>hW'.lt x (by simpa using hx)
 have hsn:sn<=3600000000000:=by
  obtain⟨ao,cap,rfl⟩:=hS.len;have h3:=U8 h2 2 rfl rfl hwt;unfold reachBytes at h3;omega
 refine(U3 W hI hn a1 (bounds_i64 w1) hS hsn).mono λe W' ⟨he,mY⟩=>?_
 subst he;exact⟨_,rfl,⟨_,_,_,[],_,[],hW',trodAll_mk1 (shut_bool underlying4 true),(trodAll_cons_mk (Below.trod lx (by kernel_rfl) (of_decide_eq_true (by kernel_rfl)) h0 mY (λx hx=>hlt x (.inl hx))) (trodAll_cons_mk (shut_int underlying3 w1) (trodAll_cons_mk (Below.trod lx (by kernel_rfl) (of_decide_eq_true (by kernel_rfl)) h2 mY (λx hx=>hlt x (.inr hx))) trodAll_mk0))),rfl,mY.frame _,λh=>by cases h⟩⟩
theorem Mi:prog.funcNamed Rows.linedRow.func=some 16:=by kernel_rfl
theorem PY:Tryz.f16.isInstance prog Rows.linedRow.origin Rows.linedRow.targs:=of_decide_eq_true (by kernel_rfl)
theorem PZ:Tryz.f16.isWrapper prog Rows.linedRow.wrapper Rows.linedRow.mainSum:=by unfold Func.isWrapper;first|(rw[if_pos (by decide+kernel)];kernel_rfl)|(rw[if_neg (by decide+kernel)];exact⟨rfl,rfl⟩)
theorem P0:Rows.linedRow.holds Tryz.pinned (OpenSpec.ofChange Rows.linedSpec):=
 OpenClaim.holds_of_wide 16 Tryz.f16 rfl rfl rfl rfl rfl rfl rfl ⟨rfl,rfl,rfl,rfl,rfl⟩ rfl rfl rfl rfl rfl Mi func16 Iu
  PY PZ (λos started H enc _=>Iv os started H enc)
theorem lined_proved:Rows.LinedSaid:=P0
end Go.Proofs.YtnlbchmfcebeeaaGreat
