/- The Go function chartkeep.Fair answers true for all numbers that a chart is built of, every number of clients and every script of requests, and leaves its arguments as they were: if all clients ask and then step in turn, all requests are done behind 4 rounds for each client and 3 more. No condition. -/
import Derived.Test.YtnlbchmfcebeeaaGreatTOi
import Derived.Test.YtnlbchmfcebeeaaGreatTFaK
set_option maxHeartbeats 12800000
set_option maxRecDepth 100000
namespace Go.Proofs.YtnlbchmfcebeeaaGreat
open Go.Proofs.Tryz Ch
open Go.ChangeShapes Go.WideShapes Go.ChangeAt Go.RowKit
open Go.ChangeMaps (open_string shut_string)
theorem Mh(os:Os)(started:os.Started)(H:Type)(enc:TypeId×Value->H):
 ReturnsInHanded {} Tryz.checked os 17 .any (Rows.fairSpec.pre6 enc prog Tryz.f17 Rows.fairRow.domain false) (Rows.fairSpec.post enc prog Tryz.f17 false true false false):=by
 refine returnsInHanded_of_change (C:=Tryz.checked) qu started (by kernel_rfl) func17
  (ChangeSpec.witness6 (enc:=enc) (C:=Tryz.checked) false ⟨#[],#[.slice none 0 0,.int .i64 0,.slice none 0 0],[]⟩ 8 (by kernel_rfl) (by kernel_rfl) (by kernel_rfl) (by kernel_rfl)) ?_
 intro W base args ds gs before hval0 hW hcnd _;have hval:∀(j:Nat) t v,Tryz.f17.params[j]? =some t->args[j]? =some v->Value.okWide prog W .any base t v:=hval0;have hW':=hW;obtain⟨p,q,hA0,hV,rfl,hfz,hnd⟩:=hW;have hA:DataW.TrodAll enc prog W 0 (λ_=>true) true Tryz.f17.params.toList args.toList ds p:=hA0;rw[params17]at hA hval;obtain⟨v0,vs0,d0,ds0,p0,q0,hargs,rfl,rfl,h0,r0⟩:=trodAll_cons hA;obtain⟨v1,vs1,d1,ds1,p1,q1,rfl,rfl,rfl,h1,r1⟩:=trodAll_cons r0;obtain⟨v2,vs2,d2,ds2,p2,q2,rfl,rfl,rfl,h2,r2⟩:=trodAll_cons r1;obtain⟨rfl,rfl,rfl⟩:=trodAll_nil r2
 obtain rfl:args= #[v0,v1,v2]:=by cases args;simp_all
 obtain⟨rfl,rfl⟩:=trodVars_none hV;obtain⟨n,hI,hn⟩:=open_ints (hval 0 38 v0 rfl rfl) h0;obtain⟨a1,rfl,rfl,rfl,w1⟩:=open_int underlying3 (hval 1 3 v1 rfl rfl) h1;obtain⟨sn,hS,hsn⟩:=C4 (hval 2 52 v2 rfl rfl) h2;clear hA0 hval0;simp only[List.append_nil]at hW'
 have hlt:∀x,x∈p0\/x∈p2->x.block<W.heap.size:=λx hx=>hW'.lt x (by simpa using hx)
 refine(YQ W hI hn a1 (bounds_i64 w1) hS hsn).mono λe W' ⟨he,mY⟩=>?_
 subst he;exact⟨_,rfl,_,_,_,[],_,[],hW',trodAll_mk1 (shut_bool underlying4 _),(trodAll_cons_mk (Below.trod lx (by kernel_rfl) (of_decide_eq_true (by kernel_rfl)) h0 mY (λx hx=>hlt x (.inl hx))) (trodAll_cons_mk (shut_int underlying3 w1) (trodAll_cons_mk (Below.trod lx (by kernel_rfl) (of_decide_eq_true (by kernel_rfl)) h2 mY (λx hx=>hlt x (.inr hx))) trodAll_mk0))),rfl,mY.frame _,λh=>by cases h⟩
theorem PX:prog.funcNamed Rows.fairRow.func=some 17:=by kernel_rfl
theorem U4:Tryz.f17.isInstance prog Rows.fairRow.origin Rows.fairRow.targs:=of_decide_eq_true (by kernel_rfl)
theorem U5:Tryz.f17.isWrapper prog Rows.fairRow.wrapper Rows.fairRow.mainSum:=by unfold Func.isWrapper;first|(rw[if_pos (by decide+kernel)];kernel_rfl)|(rw[if_neg (by decide+kernel)];exact⟨rfl,rfl⟩)
theorem U6:Rows.fairRow.holds Tryz.pinned (OpenSpec.ofChange Rows.fairSpec):=
 OpenClaim.holds_of_wide 17 Tryz.f17 rfl rfl rfl rfl rfl rfl rfl ⟨rfl,rfl,rfl,rfl,rfl⟩ rfl rfl rfl rfl rfl PX func17 Mg
  U4 U5 (λos started H enc _=>Mh os started H enc)
theorem fair_proved:Rows.FairSaid:=U6
end Go.Proofs.YtnlbchmfcebeeaaGreat
