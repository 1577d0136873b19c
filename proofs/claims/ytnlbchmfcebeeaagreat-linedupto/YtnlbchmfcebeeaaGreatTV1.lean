import Derived.Test.YtnlbchmfcebeeaaGreatTHr
set_option maxHeartbeats 12800000
set_option maxRecDepth 100000
namespace Go.Proofs.YtnlbchmfcebeeaaGreat
open Go.Proofs.Tryz Ch
open Go.RowKit
namespace Ch
def ku (s : ByteArray) : As:=⟨s,⟨#[]⟩,⟨#[]⟩,0,0,0⟩
end Ch
theorem yT (s : ByteArray) : prog.built 26 [(0,.string s)] = some (bq (ku s)):=by kernel_rfl
section
variable (w : World)
theorem va (s : ByteArray) :
 Calls prog 23 #[.string s] w fun x w'=>x = .returned (.agg (bq (ku s))) /\ Kp (fun _=>False) w w':=by
 obtain ⟨da,j5,dV⟩:=jS;have HB:=hid (yT s);have rO:=fA (ku s);have rI:=wq (ku s);have rS : (bq (ku s)).size = 6:=rfl;have hnew:=heap_alloc_new w (.cells cf 26);have KF : Kp (fun _=>False) w ((w.alloc (.cells cf 26)).setRow w.heap.size (bq (ku s))):=((Kp.refl _ _).alloc _).setRow (fun x=>by omega) _;generalize bq (ku s) = PA at *
 go_enter func23,ntmps23
 go_wp2_with (first | (refine bn rfl 26 #[(0,.tmp 3)] rfl PA [(0,.string s)] ?_ HB.out ?_;rfl) | refine wpList_store_row rfl 26 (.tmp 2) (.tmp 4) rfl w.heap.size PA rfl rfl 26 cf hnew rI (by rw [rS];rfl) rO ?_)
 refine bodyPost_ret (results_cell_row rfl _ _ w.heap.size 26 PA (0,0) da rfl (setRow_heap _ _ _ _ _ _ hnew) j5 (by cases da <;> first | rfl | exact absurd dV (by simp [ar])) rI) rfl ?_;exact ⟨rfl,KF⟩
end
namespace Ch
def kF : ByteArray:=⟨#[40,82,40,65,58,97,64,98,49,35,107,62,66,41,40,66,41,41]⟩
def tZ : As:=ku ⟨#[82,65]⟩
def sR : As:=⟨⟨#[82,66]⟩,⟨#[]⟩,⟨#[98,49]⟩,0,0,0⟩
def AU : As:=ku ⟨#[82,66]⟩
theorem J3 : (read kF).1 = 0 /\ (read kF).2.1 = 0:=⟨by kernel_rfl,by kernel_rfl⟩
theorem Oy : mM kF = (tZ,⟨#[]⟩,0):=Aq (by kernel_rfl)
theorem Oz : pL kF tZ ⟨#[97]⟩ = (sR,⟨#[107]⟩,0):=Aq (by kernel_rfl)
theorem headW : pK 3 kF sR = (AU,⟨#[]⟩,0):=Aq (by kernel_rfl)
theorem OB : (cN (read kF).2.2 3 (tick (nV kF sR)) []).isSome = true:=by kernel_rfl
theorem Rw : tZ.Sm:=⟨by decide,by decide,by decide⟩
theorem Rx : sR.Sm:=⟨by decide,by decide,by decide⟩
end Ch
section
variable (w : World)
theorem sT : Calls prog 27 #[] w fun x w'=>x = .returned (.bool true) /\ Kp (fun _=>False) w w':=by
 obtain ⟨da,j5,dV⟩:=jS;have E1:=zn w kF;rw [J3.1,J3.2] at E1;replace E1:=hid E1
 have E2:=fun W=>rN W kF
 rw [Oy] at E2
 have E3:=fun W=>pe W kF tZ ⟨#[97]⟩ Rw
 rw [Oz] at E3
 have E4:=fun W=>uT W 3 (by omega) kF sR Rx (fun _=>OB)
 rw [headW] at E4;simp only at E2 E3 E4
 replace E2:=fun W=>hid (E2 W)
 replace E3:=fun W=>hid (E3 W)
 replace E4:=fun W=>hid (E4 W)
 have Vl : ∀ W,Hid (Calls prog 23 #[.string ⟨#[82,65]⟩] W fun x w'=>x = .returned (.agg (bq tZ)) /\ Kp (fun _=>False) W w'):=fun W=>hid (va W ⟨#[82,65]⟩)
 have Vm : ∀ W,Hid (Calls prog 23 #[.string ⟨#[82,66]⟩] W fun x w'=>x = .returned (.agg (bq AU)) /\ Kp (fun _=>False) W w'):=fun W=>hid (va W ⟨#[82,66]⟩)
 have HB:=hid (show prog.built 26 [(0,.string ⟨#[82,66]⟩),(2,.string ⟨#[98,49]⟩)] = some (bq sR) by kernel_rfl)
 have Vn:=fun W=>hid (iV W tZ)
 have Vo:=fA tZ;have Ry:=wq tZ;have Vp : (bq tZ).size = 6:=rfl;generalize bq tZ = A1 at *
 have Ta:=fun W=>hid (iV W sR)
 have Vq:=fA sR;have Rz:=wq sR;have Vs : (bq sR).size = 6:=rfl;generalize bq sR = A2 at *
 have Vt:=fun W=>hid (iV W AU)
 have Vu:=fA AU;have Tb:=wq AU;have Vv : (bq AU).size = 6:=rfl;generalize bq AU = A3 at *;unfold kF at E1 E2 E3 E4
 go_enter func27,ntmps27
 go_wp2_with fail
 refine hm E1 ?_;rintro x w1 ⟨rfl,K1⟩;clear E1
 go_wp2_with fail
 refine Calls.mono (Hid.out (E2 _)) ?_;rintro x w2 ⟨rfl,K2⟩;replace K2:=K1.trans K2;clear E2 K1;have hnew:=heap_alloc_new w2 (.cells cf 26);have RB:=setRow_heap (w2.alloc (.cells cf 26)) w2.heap.size cf A1 26 (0,0) hnew;have K3 : Kp (fun _=>False) w ((w2.alloc (.cells cf 26)).setRow w2.heap.size A1):=(K2.alloc _).setRow (fun x=>by have:=K2.size;omega) _
 go_upto_region 4 with (refine wpList_store_row rfl 26 (.tmp 4) (.tmp 24) rfl w2.heap.size A1 rfl rfl 26 cf hnew Ry (by rw [Vp];rfl) Vo ?_)
 generalize (w2.alloc (.cells cf 26)).setRow w2.heap.size A1 = w3 at *;generalize w2.heap.size = sb at *;clear hnew K2
 go_wp2_with (refine wpList_load_row rfl 26 (.tmp 4) rfl sb rfl 26 A1 (0,0) da RB j5 (by cases da <;> first | rfl | exact absurd dV (by simp [ar])) Ry ?_)
 refine Calls.mono (Hid.out (E3 _)) ?_;rintro x w4 ⟨rfl,K4⟩;have Py:=K4.at_ RB (fun x=>x);replace K4:=K3.trans K4;clear E3 K3 RB;have hnew:=heap_alloc_new w4 (.cells cf 26);have RC:=setRow_heap (w4.alloc (.cells cf 26)) w4.heap.size cf A2 26 (0,0) hnew;have K5 : Kp (fun _=>False) w ((w4.alloc (.cells cf 26)).setRow w4.heap.size A2):=(K4.alloc _).setRow (fun x=>by have:=K4.size;omega) _;have Tc : ((w4.alloc (.cells cf 26)).setRow w4.heap.size A2).heap[sb]? = _:=(setRow_other _ _ _ _ (by have:=lt_of_block Py;omega)).trans ((Below.heap_alloc _ _ _ (lt_of_block Py)).trans Py)
 go_upto_region 5 with (refine wpList_store_row rfl 26 (.tmp 7) (.tmp 31) rfl w4.heap.size A2 rfl rfl 26 cf hnew Rz (by rw [Vs];rfl) Vq ?_)
 generalize (w4.alloc (.cells cf 26)).setRow w4.heap.size A2 = w5 at *;generalize w4.heap.size = tb at *;clear hnew K4;clear Py
 go_wp2_with (refine wpList_load_row rfl 26 (.tmp 7) rfl tb rfl 26 A2 (0,0) da RC j5 (by cases da <;> first | rfl | exact absurd dV (by simp [ar])) Rz ?_)
 refine Calls.mono (Hid.out (E4 _)) ?_;rintro x w6 ⟨rfl,K6⟩;have Pz:=K6.at_ Tc (fun x=>x);have PB:=K6.at_ RC (fun x=>x);replace K6:=K5.trans K6;clear E4 K5 Tc RC;have hnew:=heap_alloc_new w6 (.cells cf 26);have Td:=setRow_heap (w6.alloc (.cells cf 26)) w6.heap.size cf A3 26 (0,0) hnew;have K7 : Kp (fun _=>False) w ((w6.alloc (.cells cf 26)).setRow w6.heap.size A3):=(K6.alloc _).setRow (fun x=>by have:=K6.size;omega) _;have RD : ((w6.alloc (.cells cf 26)).setRow w6.heap.size A3).heap[sb]? = _:=(setRow_other _ _ _ _ (by have:=lt_of_block Pz;omega)).trans ((Below.heap_alloc _ _ _ (lt_of_block Pz)).trans Pz);have Te : ((w6.alloc (.cells cf 26)).setRow w6.heap.size A3).heap[tb]? = _:=(setRow_other _ _ _ _ (by have:=lt_of_block PB;omega)).trans ((Below.heap_alloc _ _ _ (lt_of_block PB)).trans PB)
 go_upto_region 6 with (refine wpList_store_row rfl 26 (.tmp 10) (.tmp 38) rfl w6.heap.size A3 rfl rfl 26 cf hnew Tb (by rw [Vv];rfl) Vu ?_)
 generalize (w6.alloc (.cells cf 26)).setRow w6.heap.size A3 = w7 at *;generalize w6.heap.size = ub at *;clear hnew K6;clear Pz PB
 go_upto_region 8 with (fail)
 refine aB (fun w'=>w'.heap[sb]? = some (.cells A1 26 (0,0))) (by kernel_rfl) ?_;refine tl 0 59 (.agg A1) rfl (fun w' hS=>aU 26 (.tmp 4) rfl sb rfl 26 A1 (0,0) da hS j5 (by cases da <;> first | rfl | exact absurd dV (by simp [ar])) Ry) RD ?_;refine dO 1 ?_;refine bD (some 60) rfl 23 #[.string ⟨#[82,65]⟩] (by simp [execOp,Act.eval,go_sem]) _ (fun w'=>Kp (fun _=>False) w7.drew w') (Vl _).out ?_;intro Vw Hd;have He:=Hd.at_ (show w7.drew.heap[sb]? = _ from RD) (fun x=>x);refine ⟨He,?_⟩;simp only [Act.put,pA,pB,pC];refine dO 2 ?_;refine bD (some 61) rfl 21 #[.agg A1,.agg A1] (by simp [execOp,Act.eval,go_sem]) _ (fun w'=>Kp (fun _=>False) Vw w') (Vn _).out ?_;intro Wi Hf;have Hg:=Hf.at_ He (fun x=>x);refine ⟨Hg,?_⟩;simp only [Act.put,pA,pB,pC];refine tj 3 13 (.bool true) Hg ?_;refine wpAnyH_done (by kernel_rfl) (NoPanic.normal ?_) _;have K8:=((K7.drew).trans Hd).trans Hf;have Tf:=Hf.at_ (Hd.at_ (show w7.drew.heap[tb]? = _ from Te) (fun x=>x)) (fun x=>x);have Tg:=Hf.at_ (Hd.at_ (show w7.drew.heap[ub]? = _ from Td) (fun x=>x)) (fun x=>x);clear K7 Hd Hf He Hg RD Te Td
 go_wp2_with (first | (refine bn rfl 26 #[(0,.const (.string ⟨#[82,66]⟩)),(2,.const (.string ⟨#[98,49]⟩))] rfl A2 [(0,.string ⟨#[82,66]⟩),(2,.string ⟨#[98,49]⟩)] ?_ HB.out ?_;rfl) | refine wpList_load_row rfl 26 (.tmp 7) rfl tb rfl 26 A2 (0,0) da Tf j5 (by cases da <;> first | rfl | exact absurd dV (by simp [ar])) Rz ?_)
 refine Calls.mono (Hid.out (Ta _)) ?_;rintro x w9 ⟨rfl,K9⟩;have RE:=K9.at_ Tg (fun x=>x);replace K9:=K8.trans K9;clear K8 Tf Tg Ta
 go_upto_region 10 with (fail)
 refine aB (fun w'=>w'.heap[ub]? = some (.cells A3 26 (0,0))) (by kernel_rfl) ?_;refine tl 0 65 (.agg A3) rfl (fun w' hS=>aU 26 (.tmp 10) rfl ub rfl 26 A3 (0,0) da hS j5 (by cases da <;> first | rfl | exact absurd dV (by simp [ar])) Tb) RE ?_;refine dO 1 ?_;refine bD (some 66) rfl 23 #[.string ⟨#[82,66]⟩] (by simp [execOp,Act.eval,go_sem]) _ (fun w'=>Kp (fun _=>False) w9.drew w') (Vm _).out ?_;intro RG Hh;have AV:=Hh.at_ (show w9.drew.heap[ub]? = _ from RE) (fun x=>x);refine ⟨AV,?_⟩;simp only [Act.put,pA,pB,pC];refine dO 2 ?_;refine bD (some 67) rfl 21 #[.agg A3,.agg A3] (by simp [execOp,Act.eval,go_sem]) _ (fun w'=>Kp (fun _=>False) RG w') (Vt _).out ?_;intro Vx Hi;have AW:=Hi.at_ AV (fun x=>x);refine ⟨AW,?_⟩;simp only [Act.put,pA,pB,pC];refine tj 3 15 (.bool true) AW ?_;refine wpAnyH_done (by kernel_rfl) (NoPanic.normal ?_) _;have Bx:=((K9.drew).trans Hh).trans Hi;clear K9 Hh Hi AV AW RE;go_wp2;go_ret;exact ⟨rfl,Bx⟩
end
end Go.Proofs.YtnlbchmfcebeeaaGreat
