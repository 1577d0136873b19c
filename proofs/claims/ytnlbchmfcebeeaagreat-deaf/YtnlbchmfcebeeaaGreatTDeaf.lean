/- The Go function chartkeep.Deaf answers true for all numbers that a chart is built of, all texts of events and all numbers, and leaves its arguments as they were: wherever a chart has come to, an event that none of its transitions waits for changes nothing and puts nothing out. No condition. -/
import Derived.Test.YtnlbchmfcebeeaaGreatTV3
import Derived.Test.YtnlbchmfcebeeaaGreatTDeK
import Derived.SizedLaws
set_option maxHeartbeats 12800000
set_option maxRecDepth 100000
namespace Go.Proofs.YtnlbchmfcebeeaaGreat
open Go.Proofs.Tryz Ch
open Go.ChangeShapes Go.WideShapes Go.ChangeAt Go.RowKit
open Go.ChangeMaps (open_string shut_string)
theorem JN(os:Os)(started:os.Started)(H:Type)(enc:TypeId×Value->H):
 ReturnsInHanded {} Tryz.checked os 13 .any (Rows.deafSpec.pre6 enc prog Tryz.f13 Rows.deafRow.domain false) (Rows.deafSpec.post enc prog Tryz.f13 false true false false):=by
 refine returnsInHanded_of_change_sized (C:=Tryz.checked) qu started (by kernel_rfl) func13
  (ChangeSpec.witness6 (enc:=enc) (C:=Tryz.checked) false ⟨#[],#[.slice none 0 0,.string ⟨#[]⟩,.int .i64 0],[]⟩ 8 (by kernel_rfl) (by kernel_rfl) (by kernel_rfl) (by kernel_rfl)) ?_
 intro W base args ds gs before hval0 hW hcnd hwt _;have hval:∀(j:Nat) t v,Tryz.f13.params[j]? =some t->args[j]? =some v->Value.okWide prog W .any base t v:=hval0;have hW':=hW;obtain⟨p,q,hA0,hV,rfl,hfz,hnd⟩:=hW;have hA:DataW.TrodAll enc prog W 0 (λ_=>true) true Tryz.f13.params.toList args.toList ds p:=hA0;rw[params13]at hA hval hwt;obtain⟨v0,vs0,d0,ds0,p0,q0,hargs,rfl,rfl,h0,r0⟩:=trodAll_cons hA;obtain⟨v1,vs1,d1,ds1,p1,q1,rfl,rfl,rfl,h1,r1⟩:=trodAll_cons r0;obtain⟨v2,vs2,d2,ds2,p2,q2,rfl,rfl,rfl,h2,r2⟩:=trodAll_cons r1;obtain⟨rfl,rfl,rfl⟩:=trodAll_nil r2
 obtain rfl:args= #[v0,v1,v2]:=by cases args;simp_all
 obtain⟨rfl,rfl⟩:=trodVars_none hV;obtain⟨n,hI,hn⟩:=open_ints (hval 0 38 v0 rfl rfl) h0;obtain⟨a1,rfl,rfl,rfl,w1⟩:=open_string underlying9 (hval 1 9 v1 rfl rfl) h1;obtain⟨a2,rfl,rfl,rfl,w2⟩:=open_int underlying3 (hval 2 3 v2 rfl rfl) h2
 have hev:a1.size<=140737488351232:=by
  have hwm:=List.all_eq_true.1 hwt a1.data.toList.length (List.mem_append_right _ (List.mem_append_left _ (List.mem_singleton.2 rfl)));have hd:=of_decide_eq_true hwm;simpa[reachBytes]using hd
 clear hA0 hval0;simp only[List.append_nil]at hW'
 have hlt:∀x∈p0,x.block<W.heap.size:=λx hx=>by simpa using hW'.lt x hx
 refine(WC W hI hn a1 hev a2 (bounds_i64 w2).1 (bounds_i64 w2).2).mono λe W' ⟨he,mY⟩=>?_
 subst he;exact⟨_,rfl,_,_,_,[],_,[],hW',trodAll_mk1 (shut_bool underlying4 _),(trodAll_cons_mk (Below.trod lx (by kernel_rfl) (of_decide_eq_true (by kernel_rfl)) h0 mY hlt) (trodAll_cons_mk (shut_string underlying9 w1) (trodAll_cons_mk (shut_int underlying3 w2) trodAll_mk0))),rfl,mY.frame _,λh=>by cases h⟩
theorem NL:prog.funcNamed Rows.deafRow.func=some 13:=by kernel_rfl
theorem S0:Tryz.f13.isInstance prog Rows.deafRow.origin Rows.deafRow.targs:=of_decide_eq_true (by kernel_rfl)
theorem S1:Tryz.f13.isWrapper prog Rows.deafRow.wrapper Rows.deafRow.mainSum:=by unfold Func.isWrapper;first|(rw[if_pos (by decide+kernel)];kernel_rfl)|(rw[if_neg (by decide+kernel)];exact⟨rfl,rfl⟩)
theorem S2:Rows.deafRow.holds Tryz.pinned (OpenSpec.ofChange Rows.deafSpec):=
 OpenClaim.holds_of_wide 13 Tryz.f13 rfl rfl rfl rfl rfl rfl rfl ⟨rfl,rfl,rfl,rfl,rfl⟩ rfl rfl rfl rfl rfl NL func13 JM
  S0 S1 (λos started H enc _=>JN os started H enc)
theorem deaf_proved:Rows.DeafSaid:=S2
end Go.Proofs.YtnlbchmfcebeeaaGreat
