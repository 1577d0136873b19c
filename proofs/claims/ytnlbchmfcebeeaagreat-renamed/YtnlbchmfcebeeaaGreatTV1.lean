import Derived.Test.YtnlbchmfcebeeaaGreatTV2
import Derived.Test.YtnlbchmfcebeeaaGreatTHr
import Derived.Deep.CutRange
import Derived.Test.YtnlbchmfcebeeaaGreatTA7
import Derived.Test.YtnlbchmfcebeeaaGreatTE7
set_option maxHeartbeats 12800000
set_option maxRecDepth 100000
namespace Go.Proofs.YtnlbchmfcebeeaaGreat
open Go.RowKit
namespace Ch
structure J3 where
 a : Bool
 b : Bool
 c : Bool
def J3.act (s : J3) : ByteArray:=⟨#[82,80,65,if s.a then 67 else 66,68,if s.b then 70 else 69,71,if s.c then 73 else 72]⟩
def plainA (s : ByteArray) : As:=⟨s,⟨#[]⟩,⟨#[]⟩,0,0,0⟩
end Ch
def DbR (w : World) (b : Nat) (s : Ch.J3) : Prop:=w.heap[b]? = some (.cells #[.bool s.a,.bool s.b,.bool s.c] 34 (0,0))
section
variable {w : World} {b : Nat} {s : Ch.J3}
theorem DbR.c0 (h : DbR w b s) : w.cell? ⟨b,0,none⟩ = some (.bool s.a):=by rw [World.cell?,h];rfl
theorem DbR.c1 (h : DbR w b s) : w.cell? ⟨b,1,none⟩ = some (.bool s.b):=by rw [World.cell?,h];rfl
theorem DbR.c2 (h : DbR w b s) : w.cell? ⟨b,2,none⟩ = some (.bool s.c):=by rw [World.cell?,h];rfl
theorem DbR.fz (h : DbR w b s) (i : Nat) : w.frozen? ⟨b,i,none⟩ = false:=by unfold DbR at h;simp [World.frozen?,h]
theorem DbR.set0 (h : DbR w b s) (v : Bool) : DbR (w.setCell ⟨b,0,none⟩ (.bool v)) b ⟨v,s.b,s.c⟩:=by unfold DbR at *;rw [heap_setCell_same _ _ _ _ _ _ h];rfl
theorem DbR.set1 (h : DbR w b s) (v : Bool) : DbR (w.setCell ⟨b,1,none⟩ (.bool v)) b ⟨s.a,v,s.c⟩:=by unfold DbR at *;rw [heap_setCell_same _ _ _ _ _ _ h];rfl
theorem DbR.set2 (h : DbR w b s) (v : Bool) : DbR (w.setCell ⟨b,2,none⟩ (.bool v)) b ⟨s.a,s.b,v⟩:=by unfold DbR at *;rw [heap_setCell_same _ _ _ _ _ _ h];rfl
end
theorem built_plain (s : ByteArray) : Tryz.prog.built 26 [(0,.string s)] = some (asA (Ch.plainA s)):=by kernel_rfl
section
variable (w : World)
theorem plain_any (s : ByteArray) :
 Calls Tryz.prog 23 #[.string s] w fun x w'=>x = .returned (.agg (asA (Ch.plainA s))) ∧ Kp (fun _=>False) w w':=by
 obtain ⟨da,hdA,hdAa⟩:=Tryz.undAs;have HB:=hid (built_plain s);have rO:=asOne (Ch.plainA s);have rI:=asInfo (Ch.plainA s);have rS : (asA (Ch.plainA s)).size = 6:=rfl;have hnew:=heap_alloc_new w (.cells y6S 26);have KF : Kp (fun _=>False) w ((w.alloc (.cells y6S 26)).setRow w.heap.size (asA (Ch.plainA s))):=((Kp.refl _ _).alloc _).setRow (fun x=>by omega) _;generalize asA (Ch.plainA s) = PA at *
 go_enter Tryz.func23,Tryz.ntmps23
 go_wp2_with (first | (refine wpList_build_eq rfl 26 #[(0,.tmp 3)] rfl PA [(0,.string s)] ?_ HB.out ?_;rfl) | refine wpList_store_row rfl 26 (.tmp 2) (.tmp 4) rfl w.heap.size PA rfl rfl 26 y6S hnew rI (by rw [rS];rfl) rO ?_)
 refine bodyPost_ret (results_cell_row rfl _ _ w.heap.size 26 PA (0,0) da rfl (setRow_heap _ _ _ _ _ _ hnew) hdA (by cases da <;> first | rfl | exact absurd hdAa (by simp [isAggD])) rI) rfl ?_;exact ⟨rfl,KF⟩
end
namespace Ch
def tHead : ByteArray:=⟨#[40,82,40,65,58,97,64,98,49,35,107,62,66,41,40,66,41,41]⟩
def asH1 : As:=plainA ⟨#[82,65]⟩
def asH2 : As:=⟨⟨#[82,66]⟩,⟨#[]⟩,⟨#[98,49]⟩,0,0,0⟩
def asH3 : As:=plainA ⟨#[82,66]⟩
theorem headR : (read tHead).1 = 0 ∧ (read tHead).2.1 = 0:=⟨by kernel_rfl,by kernel_rfl⟩
theorem headS : cStart tHead = (asH1,⟨#[]⟩,0):=okR_eq (by kernel_rfl)
theorem headF : cFire tHead asH1 ⟨#[97]⟩ = (asH2,⟨#[107]⟩,0):=okR_eq (by kernel_rfl)
theorem headW : cWait 3 tHead asH2 = (asH3,⟨#[]⟩,0):=okR_eq (by kernel_rfl)
theorem headN : (waitF (read tHead).2.2 3 (tick (lgS tHead asH2)) []).isSome = true:=by kernel_rfl
theorem smH1 : asH1.Sm:=⟨by decide,by decide,by decide⟩
theorem smH2 : asH2.Sm:=⟨by decide,by decide,by decide⟩
end Ch
section
variable (w : World)
theorem head_any : Calls Tryz.prog 27 #[] w fun x w'=>x = .returned (.bool true) ∧ Kp (fun _=>False) w w':=by
 obtain ⟨da,hdA,hdAa⟩:=Tryz.undAs;have E1:=cCheck_any w Ch.tHead;rw [Ch.headR.1,Ch.headR.2] at E1;replace E1:=hid E1
 have E2:=fun W=>cStart_any W Ch.tHead
 rw [Ch.headS] at E2
 have E3:=fun W=>cFire_any W Ch.tHead Ch.asH1 ⟨#[97]⟩ Ch.smH1
 rw [Ch.headF] at E3
 have E4:=fun W=>cWait_any W 3 (by omega) Ch.tHead Ch.asH2 Ch.smH2 (fun _=>Ch.headN)
 rw [Ch.headW] at E4;simp only at E2 E3 E4
 replace E2:=fun W=>hid (E2 W)
 replace E3:=fun W=>hid (E3 W)
 replace E4:=fun W=>hid (E4 W)
 have EP1 : ∀ W,Hid (Calls Tryz.prog 23 #[.string ⟨#[82,65]⟩] W fun x w'=>x = .returned (.agg (asA Ch.asH1)) ∧ Kp (fun _=>False) W w'):=fun W=>hid (plain_any W ⟨#[82,65]⟩)
 have EP3 : ∀ W,Hid (Calls Tryz.prog 23 #[.string ⟨#[82,66]⟩] W fun x w'=>x = .returned (.agg (asA Ch.asH3)) ∧ Kp (fun _=>False) W w'):=fun W=>hid (plain_any W ⟨#[82,66]⟩)
 have HB:=hid (show Tryz.prog.built 26 [(0,.string ⟨#[82,66]⟩),(2,.string ⟨#[98,49]⟩)] = some (asA Ch.asH2) by kernel_rfl)
 have ES1:=fun W=>hid (same_any W Ch.asH1)
 have rO1:=asOne Ch.asH1;have rI1:=asInfo Ch.asH1;have rS1 : (asA Ch.asH1).size = 6:=rfl;generalize asA Ch.asH1 = A1 at *
 have ES2:=fun W=>hid (same_any W Ch.asH2)
 have rO2:=asOne Ch.asH2;have rI2:=asInfo Ch.asH2;have rS2 : (asA Ch.asH2).size = 6:=rfl;generalize asA Ch.asH2 = A2 at *
 have ES3:=fun W=>hid (same_any W Ch.asH3)
 have rO3:=asOne Ch.asH3;have rI3:=asInfo Ch.asH3;have rS3 : (asA Ch.asH3).size = 6:=rfl;generalize asA Ch.asH3 = A3 at *;unfold Ch.tHead at E1 E2 E3 E4
 go_enter Tryz.func27,Tryz.ntmps27
 go_wp2_with fail
 refine hm E1 ?_;rintro x w1 ⟨rfl,K1⟩;clear E1
 go_wp2_with fail
 refine Calls.mono (Hid.out (E2 _)) ?_;rintro x w2 ⟨rfl,K2⟩;replace K2:=K1.trans K2;clear E2 K1;have hnew:=heap_alloc_new w2 (.cells y6S 26);have h3s:=setRow_heap (w2.alloc (.cells y6S 26)) w2.heap.size y6S A1 26 (0,0) hnew;have K3 : Kp (fun _=>False) w ((w2.alloc (.cells y6S 26)).setRow w2.heap.size A1):=(K2.alloc _).setRow (fun x=>by have:=K2.size;omega) _
 go_upto_region 4 with (refine wpList_store_row rfl 26 (.tmp 4) (.tmp 24) rfl w2.heap.size A1 rfl rfl 26 y6S hnew rI1 (by rw [rS1];rfl) rO1 ?_)
 generalize (w2.alloc (.cells y6S 26)).setRow w2.heap.size A1 = w3 at *;generalize w2.heap.size = sb at *;clear hnew K2
 go_wp2_with (refine wpList_load_row rfl 26 (.tmp 4) rfl sb rfl 26 A1 (0,0) da h3s hdA (by cases da <;> first | rfl | exact absurd hdAa (by simp [isAggD])) rI1 ?_)
 refine Calls.mono (Hid.out (E3 _)) ?_;rintro x w4 ⟨rfl,K4⟩;have h4s:=K4.at_ h3s (fun x=>x);replace K4:=K3.trans K4;clear E3 K3 h3s;have hnew:=heap_alloc_new w4 (.cells y6S 26);have h5t:=setRow_heap (w4.alloc (.cells y6S 26)) w4.heap.size y6S A2 26 (0,0) hnew;have K5 : Kp (fun _=>False) w ((w4.alloc (.cells y6S 26)).setRow w4.heap.size A2):=(K4.alloc _).setRow (fun x=>by have:=K4.size;omega) _;have h5s : ((w4.alloc (.cells y6S 26)).setRow w4.heap.size A2).heap[sb]? = _:=(setRow_other _ _ _ _ (by have:=lt_of_block h4s;omega)).trans ((Below.heap_alloc _ _ _ (lt_of_block h4s)).trans h4s)
 go_upto_region 5 with (refine wpList_store_row rfl 26 (.tmp 7) (.tmp 31) rfl w4.heap.size A2 rfl rfl 26 y6S hnew rI2 (by rw [rS2];rfl) rO2 ?_)
 generalize (w4.alloc (.cells y6S 26)).setRow w4.heap.size A2 = w5 at *;generalize w4.heap.size = tb at *;clear hnew K4;clear h4s
 go_wp2_with (refine wpList_load_row rfl 26 (.tmp 7) rfl tb rfl 26 A2 (0,0) da h5t hdA (by cases da <;> first | rfl | exact absurd hdAa (by simp [isAggD])) rI2 ?_)
 refine Calls.mono (Hid.out (E4 _)) ?_;rintro x w6 ⟨rfl,K6⟩;have h6s:=K6.at_ h5s (fun x=>x);have h6t:=K6.at_ h5t (fun x=>x);replace K6:=K5.trans K6;clear E4 K5 h5s h5t;have hnew:=heap_alloc_new w6 (.cells y6S 26);have h7u:=setRow_heap (w6.alloc (.cells y6S 26)) w6.heap.size y6S A3 26 (0,0) hnew;have K7 : Kp (fun _=>False) w ((w6.alloc (.cells y6S 26)).setRow w6.heap.size A3):=(K6.alloc _).setRow (fun x=>by have:=K6.size;omega) _;have h7s : ((w6.alloc (.cells y6S 26)).setRow w6.heap.size A3).heap[sb]? = _:=(setRow_other _ _ _ _ (by have:=lt_of_block h6s;omega)).trans ((Below.heap_alloc _ _ _ (lt_of_block h6s)).trans h6s);have h7t : ((w6.alloc (.cells y6S 26)).setRow w6.heap.size A3).heap[tb]? = _:=(setRow_other _ _ _ _ (by have:=lt_of_block h6t;omega)).trans ((Below.heap_alloc _ _ _ (lt_of_block h6t)).trans h6t)
 go_upto_region 6 with (refine wpList_store_row rfl 26 (.tmp 10) (.tmp 38) rfl w6.heap.size A3 rfl rfl 26 y6S hnew rI3 (by rw [rS3];rfl) rO3 ?_)
 generalize (w6.alloc (.cells y6S 26)).setRow w6.heap.size A3 = w7 at *;generalize w6.heap.size = ub at *;clear hnew K6;clear h6s h6t
 go_upto_region 8 with (fail)
 refine region_begin (fun w'=>w'.heap[sb]? = some (.cells A1 26 (0,0))) (by kernel_rfl) ?_;refine tk 0 59 (.agg A1) rfl (by kernel_rfl) rfl rfl (fun w' hS=>exec_load_row 26 (.tmp 4) rfl sb rfl 26 A1 (0,0) da hS hdA (by cases da <;> first | rfl | exact absurd hdAa (by simp [isAggD])) rI1) h7s ?_;simp only [Act.put,pA,pB,pC];refine do_op 1 (by kernel_rfl) rfl rfl ?_;refine wp_enter (some 60) rfl 23 #[.string ⟨#[82,65]⟩] (by simp [execOp,Act.eval,go_sem]) _ (fun w'=>Kp (fun _=>False) w7.drew w') (EP1 _).out ?_;intro w8a Kw8a;have hSw8a:=Kw8a.at_ (show w7.drew.heap[sb]? = _ from h7s) (fun x=>x);refine ⟨hSw8a,?_⟩;simp only [Act.put,pA,pB,pC];refine do_op 2 (by kernel_rfl) rfl rfl ?_;refine wp_enter (some 61) rfl 21 #[.agg A1,.agg A1] (by simp [execOp,Act.eval,go_sem]) _ (fun w'=>Kp (fun _=>False) w8a w') (ES1 _).out ?_;intro w8b Kw8b;have hSw8b:=Kw8b.at_ hSw8a (fun x=>x);refine ⟨hSw8b,?_⟩;simp only [Act.put,pA,pB,pC];refine tk 3 13 (.bool true) rfl (by kernel_rfl) rfl rfl (fun w' _=>by simp [execOp,Act.eval,go_sem]) hSw8b ?_;simp only [Act.put,pA,pB,pC];refine wpAnyH_done (by kernel_rfl) (NoPanic.normal ?_) _;have K8:=((K7.drew).trans Kw8a).trans Kw8b;have h8t:=Kw8b.at_ (Kw8a.at_ (show w7.drew.heap[tb]? = _ from h7t) (fun x=>x)) (fun x=>x);have h8u:=Kw8b.at_ (Kw8a.at_ (show w7.drew.heap[ub]? = _ from h7u) (fun x=>x)) (fun x=>x);clear K7 Kw8a Kw8b hSw8a hSw8b h7s h7t h7u
 go_wp2_with (first | (refine wpList_build_eq rfl 26 #[(0,.const (.string ⟨#[82,66]⟩)),(2,.const (.string ⟨#[98,49]⟩))] rfl A2 [(0,.string ⟨#[82,66]⟩),(2,.string ⟨#[98,49]⟩)] ?_ HB.out ?_;rfl) | refine wpList_load_row rfl 26 (.tmp 7) rfl tb rfl 26 A2 (0,0) da h8t hdA (by cases da <;> first | rfl | exact absurd hdAa (by simp [isAggD])) rI2 ?_)
 refine Calls.mono (Hid.out (ES2 _)) ?_;rintro x w9 ⟨rfl,K9⟩;have h9u:=K9.at_ h8u (fun x=>x);replace K9:=K8.trans K9;clear K8 h8t h8u ES2
 go_upto_region 10 with (fail)
 refine region_begin (fun w'=>w'.heap[ub]? = some (.cells A3 26 (0,0))) (by kernel_rfl) ?_;refine tk 0 65 (.agg A3) rfl (by kernel_rfl) rfl rfl (fun w' hS=>exec_load_row 26 (.tmp 10) rfl ub rfl 26 A3 (0,0) da hS hdA (by cases da <;> first | rfl | exact absurd hdAa (by simp [isAggD])) rI3) h9u ?_;simp only [Act.put,pA,pB,pC];refine do_op 1 (by kernel_rfl) rfl rfl ?_;refine wp_enter (some 66) rfl 23 #[.string ⟨#[82,66]⟩] (by simp [execOp,Act.eval,go_sem]) _ (fun w'=>Kp (fun _=>False) w9.drew w') (EP3 _).out ?_;intro w10a Kw10a;have hSw10a:=Kw10a.at_ (show w9.drew.heap[ub]? = _ from h9u) (fun x=>x);refine ⟨hSw10a,?_⟩;simp only [Act.put,pA,pB,pC];refine do_op 2 (by kernel_rfl) rfl rfl ?_;refine wp_enter (some 67) rfl 21 #[.agg A3,.agg A3] (by simp [execOp,Act.eval,go_sem]) _ (fun w'=>Kp (fun _=>False) w10a w') (ES3 _).out ?_;intro w10b Kw10b;have hSw10b:=Kw10b.at_ hSw10a (fun x=>x);refine ⟨hSw10b,?_⟩;simp only [Act.put,pA,pB,pC];refine tk 3 15 (.bool true) rfl (by kernel_rfl) rfl rfl (fun w' _=>by simp [execOp,Act.eval,go_sem]) hSw10b ?_;simp only [Act.put,pA,pB,pC];refine wpAnyH_done (by kernel_rfl) (NoPanic.normal ?_) _;have K10:=((K9.drew).trans Kw10a).trans Kw10b;clear K9 Kw10a Kw10b hSw10a hSw10b h9u;go_wp2;go_ret;exact ⟨rfl,K10⟩
end
end Go.Proofs.YtnlbchmfcebeeaaGreat
