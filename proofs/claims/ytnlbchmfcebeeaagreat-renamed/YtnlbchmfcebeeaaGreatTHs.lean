import Derived.Test.YtnlbchmfcebeeaaGreatTHr
import Derived.Test.YtnlbchmfcebeeaaGreatTV3
set_option maxHeartbeats 12800000
set_option maxRecDepth 100000
namespace Go.Proofs.YtnlbchmfcebeeaaGreat
open Go.RowKit
section
variable (w : World)
theorem renamed_any {lv : Value} {n : Nat} (hI : IntsR w w.heap.size lv n) (hn : n ≤ maxLen) (ev : ByteArray) (hsz : ev.size ≤ 140737488351232) (by_ : Int) (hw1 : -9223372036854775808 ≤ by_) (hw2 : by_ ≤ 9223372036854775807) :
 Calls Tryz.prog 14 #[lv,.string ev,.int .i64 by_] w fun x w'=>x = .returned (.bool true) ∧ Below w.heap.size w w':=by
 obtain ⟨da,hdA,hdAa⟩:=Tryz.undAs;have E0:=hid (mbuild_any w hI hn);clear hI hn
 go_enter Tryz.func14,Tryz.ntmps14
 go_wp2_with fail
 refine hm E0 ?_;rintro x w1 ⟨L,P,pv,rfl,_,B1,hP,hW,hL⟩;obtain ⟨ol,hR,_⟩:=Ch.built_rdc hP hW hL
 have hTs : (strOfNums L).size ≤ 1000000:=by rw [strOfNums_size];omega
 have HR:=hid hR;generalize strOfNums L = T at HR hTs;clear E0 hP hW hL hR;have E1:=hid (head_any w1)
 go_wp2_with fail
 refine hm E1 ?_;rintro x w2 ⟨rfl,K2⟩;have B2:=B1.trans (kp0_below K2 B1.size);have E2:=hid (mpick_any w2 by_ hw1 hw2 26 (by omega) (by omega));have hr:=Ch.pickV_lt by_ (n:=26) (by omega);generalize Ch.pickV by_ 26 = r at hr E2;clear E1 K2 B1
 go_wp2_with fail
 refine hm E2 ?_;rintro x w3 ⟨rfl,rfl⟩;have E3:=hid (turned_any w3 T hTs r hr);clear E2
 go_wp2_with fail
 refine hm E3 ?_;rintro x w4 ⟨rfl,K4⟩;have B4:=B2.trans (kp0_below K4 B2.size);clear E3 K4 B2
 have E4:=fun W=>cStart_any W T
 have E5:=fun W=>cStart_any W (Ch.tnT r T)
 have ETW:=fun W (a : Ch.As) (q1 : a.act.size ≤ 1000) (q2 : a.past.size ≤ 1000)=>hid (twin_any W a q1 q2 r hr)
 have hst:=Ch.start_ren (n:=r) HR.out;have HT:=hid (show Ch.RdC (Ch.tnT r T) (Ch.mOl r ol) from Ch.rdC_ren HR.out);have HGO:=hid (fun (s : Ch.Sd) (g : Ch.Good ol s) (g' : Ch.Good (Ch.mOl r ol) (Ch.mSd r s)) (y : Int) (h0 : 0 ≤ y) (h1 : y < 256)=>Ch.goes_ren (n:=r) HR.out g g' h0 h1);have HAS:=hid (fun (s : Ch.Sd) (g : Ch.Good ol s)=>Ch.asOf_ren (n:=r) HR.out g.inv);generalize Ch.tnT r T = T2 at *
 rcases hst with ⟨s0,o0,hs1,hs2,hg,hg'⟩ | ⟨hs1,hs2⟩
 rotate_left
 ·rw [hs1] at E4
  rw [hs2] at E5;simp only at E4 E5
  replace E4:=fun W=>hid (E4 W)
  replace E5:=fun W=>hid (E5 W)
  have ET:=ETW;clear ETW
  have ET0 : ∀ W,Hid (Calls Tryz.prog 33 #[.agg (asA Ch.as0),.agg (asA Ch.as0),.int .i64 r] W fun x w'=>x = .returned (.bool true) ∧ Kp (fun _=>False) W w'):=fun W=>ET W Ch.as0 (by decide) (by decide)
  have rO:=asOne Ch.as0;have rI:=asInfo Ch.as0;have rS : (asA Ch.as0).size = 6:=rfl;clear ET;generalize asA Ch.as0 = A0 at *
  go_wp2_with fail
  refine Calls.mono (Hid.out (E4 _)) ?_;rintro x w5 ⟨rfl,K5⟩;have hnew:=heap_alloc_new w5 (.cells y6S 26);have h6s:=setRow_heap (w5.alloc (.cells y6S 26)) w5.heap.size y6S A0 26 (0,0) hnew;have K6 : Kp (fun _=>False) w5 ((w5.alloc (.cells y6S 26)).setRow w5.heap.size A0):=((Kp.refl _ _).alloc _).setRow (fun x=>by omega) _;have B6:=B4.trans (kp0_below (K5.trans K6) B4.size);clear E4 K5 K6
  go_upto_region 8 with (refine wpList_store_row rfl 26 (.tmp 12) (.tmp 42) rfl w5.heap.size A0 rfl rfl 26 y6S hnew rI (by rw [rS];rfl) rO ?_)
  generalize (w5.alloc (.cells y6S 26)).setRow w5.heap.size A0 = w6 at *;generalize w5.heap.size = sb at *;clear hnew
  go_wp2_with fail
  refine Calls.mono (Hid.out (E5 _)) ?_;rintro x w7 ⟨rfl,K7⟩;have h7s:=K7.at_ h6s (fun x=>x);have hlt:=lt_of_block h7s;have hnew:=heap_alloc_new w7 (.cells y6S 26);have h8t:=setRow_heap (w7.alloc (.cells y6S 26)) w7.heap.size y6S A0 26 (0,0) hnew;have K8 : Kp (fun _=>False) w7 ((w7.alloc (.cells y6S 26)).setRow w7.heap.size A0):=((Kp.refl _ _).alloc _).setRow (fun x=>by omega) _;have h8s:=K8.at_ h7s (fun x=>x);have B8:=B6.trans (kp0_below (K7.trans K8) B6.size);clear E5 K7 K8 h6s h7s B6
  go_upto_region 9 with (refine wpList_store_row rfl 26 (.tmp 15) (.tmp 48) rfl w7.heap.size A0 rfl rfl 26 y6S hnew rI (by rw [rS];rfl) rO ?_)
  generalize (w7.alloc (.cells y6S 26)).setRow w7.heap.size A0 = w8 at *;generalize w7.heap.size = tb at *;clear hnew
  go_wp2_with (first | refine wpList_load_row rfl 26 (.tmp 12) rfl sb rfl 26 A0 (0,0) da h8s hdA (by cases da <;> first | rfl | exact absurd hdAa (by simp [isAggD])) rI ?_ | refine wpList_load_row rfl 26 (.tmp 15) rfl tb rfl 26 A0 (0,0) da h8t hdA (by cases da <;> first | rfl | exact absurd hdAa (by simp [isAggD])) rI ?_)
  refine Calls.mono (Hid.out (ET0 _)) ?_;rintro x w9 ⟨rfl,K9⟩;have B9:=B8.trans (kp0_below K9 B8.size);clear ET0 K9;go_wp2;go_ret;exact ⟨rfl,B9⟩
 rw [hs1] at E4;rw [hs2] at E5;simp only at E4 E5
 replace E4:=fun W=>hid (E4 W)
 replace E5:=fun W=>hid (E5 W)
 have HG:=hid (And.intro hg hg')
 have ha16 : (Ch.asOf ol.sts s0).act.size ≤ 1000:=by
  show (Ch.outAct ol.sts s0).size ≤ 1000;unfold Ch.outAct;rw [strOfNums_size];have:=Ch.actK_len ol.sts s0 (min ol.sts.length 16);omega
 have hp16 : (Ch.asOf ol.sts s0).past.size ≤ 1000:=by
  show (Ch.outPast ol.sts s0).size ≤ 1000;unfold Ch.outPast;rw [strOfNums_size];have:=Ch.pstK_len ol.sts s0 (min ol.sts.length 16);omega
 have ET0:=fun W=>ETW W (Ch.asOf ol.sts s0) ha16 hp16
 have HTW:=hid ETW;clear ETW hg hg' hs1 hs2 ha16 hp16;have rO:=asOne (Ch.asOf ol.sts s0);have rI:=asInfo (Ch.asOf ol.sts s0);have rS : (asA (Ch.asOf ol.sts s0)).size = 6:=rfl;have pO:=asOne (Ch.mAs r (Ch.asOf ol.sts s0));have pI:=asInfo (Ch.mAs r (Ch.asOf ol.sts s0));have pS : (asA (Ch.mAs r (Ch.asOf ol.sts s0))).size = 6:=rfl;generalize hA0 : asA (Ch.asOf ol.sts s0) = A0 at *;generalize hC0 : asA (Ch.mAs r (Ch.asOf ol.sts s0)) = C0 at *;have HA0:=hid (And.intro hA0 hC0);clear hA0 hC0
 go_wp2_with fail
 refine Calls.mono (Hid.out (E4 _)) ?_;rintro x w5 ⟨rfl,K5⟩;have hnew:=heap_alloc_new w5 (.cells y6S 26);have h6s:=setRow_heap (w5.alloc (.cells y6S 26)) w5.heap.size y6S A0 26 (0,0) hnew;have K6 : Kp (fun _=>False) w5 ((w5.alloc (.cells y6S 26)).setRow w5.heap.size A0):=((Kp.refl _ _).alloc _).setRow (fun x=>by omega) _;have B6:=B4.trans (kp0_below (K5.trans K6) B4.size)
 have hsb : w.heap.size ≤ w5.heap.size:=by have:=B4.size;have:=K5.size;omega
 clear E4 K5 K6 B4
 go_upto_region 8 with (refine wpList_store_row rfl 26 (.tmp 12) (.tmp 42) rfl w5.heap.size A0 rfl rfl 26 y6S hnew rI (by rw [rS];rfl) rO ?_)
 generalize (w5.alloc (.cells y6S 26)).setRow w5.heap.size A0 = w6 at *;generalize w5.heap.size = sb at *;clear hnew
 go_wp2_with fail
 refine Calls.mono (Hid.out (E5 _)) ?_;rintro x w7 ⟨rfl,K7⟩;have h7s:=K7.at_ h6s (fun x=>x);have hlt:=lt_of_block h7s;have hnew:=heap_alloc_new w7 (.cells y6S 26);have h8t:=setRow_heap (w7.alloc (.cells y6S 26)) w7.heap.size y6S C0 26 (0,0) hnew;have K8 : Kp (fun _=>False) w7 ((w7.alloc (.cells y6S 26)).setRow w7.heap.size C0):=((Kp.refl _ _).alloc _).setRow (fun x=>by omega) _;have h8s:=K8.at_ h7s (fun x=>x);have B8:=B6.trans (kp0_below (K7.trans K8) B6.size)
 have hst2 : sb ≠ w7.heap.size:=by omega
 have htb : w.heap.size ≤ w7.heap.size:=by omega
 clear E5 K7 K8 h6s h7s B6
 go_upto_region 9 with (refine wpList_store_row rfl 26 (.tmp 15) (.tmp 48) rfl w7.heap.size C0 rfl rfl 26 y6S hnew pI (by rw [pS];rfl) pO ?_)
 generalize (w7.alloc (.cells y6S 26)).setRow w7.heap.size C0 = w8 at *;generalize w7.heap.size = tb at *;clear hnew
 go_wp2_with (first | refine wpList_load_row rfl 26 (.tmp 12) rfl sb rfl 26 A0 (0,0) da h8s hdA (by cases da <;> first | rfl | exact absurd hdAa (by simp [isAggD])) rI ?_ | refine wpList_load_row rfl 26 (.tmp 15) rfl tb rfl 26 C0 (0,0) da h8t hdA (by cases da <;> first | rfl | exact absurd hdAa (by simp [isAggD])) pI ?_)
 refine Calls.mono (Hid.out (ET0 _)) ?_;rintro x w9 ⟨rfl,K9⟩
 have h9s : AsR w9 sb (Ch.asOf ol.sts s0):=by unfold AsR;rw [HA0.out.1];exact K9.at_ h8s (fun x=>x)
 have h9t : AsR w9 tb (Ch.mAs r (Ch.asOf ol.sts s0)):=by unfold AsR;rw [HA0.out.2];exact K9.at_ h8t (fun x=>x)
 have B9:=B8.trans (kp0_below K9 B8.size);have HS:=hid (And.intro h9s (And.intro h9t B9));clear ET0 K9 h8s h8t B8 HA0 rO rI rS pO pI pS h9s h9t B9
 go_wp2_with fail
 go_loopw [19] (fun i wr=>∃ (k : Nat) (s : Ch.Sd),i = .int .i64 k ∧ k ≤ ev.size ∧ Hid (Ch.Good ol s ∧ Ch.Good (Ch.mOl r ol) (Ch.mSd r s) ∧ AsR wr sb (Ch.asOf ol.sts s) ∧ AsR wr tb (Ch.mAs r (Ch.asOf ol.sts s)) ∧ Below w.heap.size w wr)) (fun i _=>ev.size - (intOf i).toNat)
 case atStart=>exact ⟨0,s0,rfl,Nat.zero_le _,hid ⟨HG.out.1,HG.out.2,HS.out.1,HS.out.2.1,HS.out.2.2⟩⟩
 case round =>
  obtain ⟨k,s,rfl,hk,HH⟩:=hrel;clear HS HG;obtain ⟨g,g',hsr,htr,BR⟩:=HH.out;clear HH
  by_cases hkl : k < ev.size
  ·have hkl' : (k : Int) < (ev.size : Int):=by omega
   have hy0 : (0 : Int) ≤ (((ev[k]'hkl).toNat : Nat) : Int):=by omega
   have hy1 : (((ev[k]'hkl).toNat : Nat) : Int) < 256:=by have:=(ev[k]'hkl).toNat_lt;omega
   have EG1:=fun W=>hid (goes_any W 17 (by omega) T (Ch.asOf ol.sts s) (((ev[k]'hkl).toNat : Nat) : Int) g.sm (fun _ _=>(Ch.goes_good HR.out g hy0 hy1).2))
   have EG2:=fun W=>goes_any W 17 (by omega) T2 (Ch.asOf (Ch.mOl r ol).sts (Ch.mSd r s)) (((ev[k]'hkl).toNat : Nat) : Int) g'.sm (fun _ _=>(Ch.goes_good HT.out g' hy0 hy1).2)
   rw [HAS.out s g] at EG2
   replace EG2:=fun W=>hid (EG2 W)
   have HG1:=hid (HGO.out s g g' _ hy0 hy1);have HG:=hid (And.intro g g');clear g g';have rO:=asOne (Ch.asOf ol.sts s);have rI:=asInfo (Ch.asOf ol.sts s);have rS : (asA (Ch.asOf ol.sts s)).size = 6:=rfl;have pO:=asOne (Ch.mAs r (Ch.asOf ol.sts s));have pI:=asInfo (Ch.mAs r (Ch.asOf ol.sts s));have pS : (asA (Ch.mAs r (Ch.asOf ol.sts s))).size = 6:=rfl;unfold AsR at hsr htr;generalize hA : asA (Ch.asOf ol.sts s) = A at *;generalize hC : asA (Ch.mAs r (Ch.asOf ol.sts s)) = C at *;have HA:=hid (And.intro hA hC);clear hA hC;generalize hb : (((ev[k]'hkl).toNat : Nat) : Int) = y at *;generalize hgr1 : Ch.goes 17 T (Ch.asOf ol.sts s) y = r3 at EG1 HG1;generalize hgr2 : Ch.goes 17 T2 (Ch.mAs r (Ch.asOf ol.sts s)) y = r4 at EG2 HG1;obtain ⟨ra,ro,re⟩:=r3;obtain ⟨rb,rp,rf⟩:=r4;simp only at EG1 EG2;have qO:=asOne ra;have qI:=asInfo ra;have qS : (asA ra).size = 6:=rfl;have vO:=asOne rb;have vI:=asInfo rb;have vS : (asA rb).size = 6:=rfl;generalize hRA : asA ra = RA at *;generalize hRB : asA rb = RB at *;have HRA:=hid (And.intro hRA hRB);clear hRA hRB hgr1 hgr2
   go_upto_region 17 with (fail)
   go_cut [20,21,22] from 77 to 86 (fun v14 v15 v16 wx=>∃ ub,v14 = .pointer (some ⟨ub,0,none⟩) ∧ v15 = .string ro ∧ v16 = .int .i64 re ∧ wx.heap[ub]? = some (.cells RA 26 (0,0)) ∧ wx.heap[sb]? = some (.cells A 26 (0,0)) ∧ wx.heap[tb]? = some (.cells C 26 (0,0)) ∧ Below w.heap.size w wx)
   case first =>
    have BD : Below w.heap.size w wr.drew:=BR.trans (kp0_below ((Kp.refl (fun _=>False) wr).drew) BR.size);have hS0 : wr.drew.heap[sb]? = some (.cells A 26 (0,0)):=hsr;have hT0 : wr.drew.heap[tb]? = some (.cells C 26 (0,0)):=htr;refine region_begin (fun w'=>w'.heap[sb]? = some (.cells A 26 (0,0))) (by kernel_rfl) ?_;refine tk 0 78 (.string T) rfl (by kernel_rfl) rfl rfl (fun w' _=>by simp [execOp,Act.eval,go_sem]) hS0 ?_;simp only [Act.put,pA,pB,pC];refine tk 1 79 (.agg A) rfl (by kernel_rfl) rfl rfl (fun w' hS=>exec_load_row 26 (.tmp 12) rfl sb rfl 26 A (0,0) da hS hdA (by cases da <;> first | rfl | exact absurd hdAa (by simp [isAggD])) rI) hS0 ?_;simp only [Act.put,pA,pB,pC];refine tk 2 80 (.string ev) rfl (by kernel_rfl) rfl rfl (fun w' _=>by simp [execOp,Act.eval,go_sem]) hS0 ?_;simp only [Act.put,pA,pB,pC];refine tk 3 81 (.int .i64 (k : Int)) rfl (by kernel_rfl) rfl rfl (fun w' _=>by simp [execOp,Act.eval,go_sem]) hS0 ?_;simp only [Act.put,pA,pB,pC];refine tk 4 82 (.int .u8 y) rfl (by kernel_rfl) rfl rfl (fun w' _=>by simp [execOp,Act.eval,go_sem,hkl',hb]) hS0 ?_;simp only [Act.put,pA,pB,pC];refine do_two 5 10 (by kernel_rfl) rfl rfl rfl rfl ?_ ?_
    ·refine wp_enter (some 83) rfl 30 #[.string T,.agg A,.int .u8 y] (by simp [execOp,Act.eval,go_sem]) _ (fun w'=>Kp (fun _=>False) wr.drew w') (EG1 _).out ?_
     intro w7 K7;have hS7:=K7.at_ hS0 (fun x=>x);have hT7:=K7.at_ hT0 (fun x=>x);have hlt7:=lt_of_block hS7;have hnew:=heap_alloc_new w7 (.cells y6S 26);have KA : Kp (fun _=>False) w7 ((w7.alloc (.cells y6S 26)).setRow w7.heap.size RA):=((Kp.refl _ _).alloc _).setRow (fun x=>by omega) _;have h8:=((Kp.refl (fun _=>False) w7).alloc (.cells y6S 26)).at_ hS7 (fun x=>x);have hS9:=KA.at_ hS7 (fun x=>x);have hT9:=KA.at_ hT7 (fun x=>x);have h9n:=setRow_heap (w7.alloc (.cells y6S 26)) w7.heap.size y6S RA 26 (0,0) hnew;have B9:=BD.trans (kp0_below (K7.trans KA) BD.size);refine ⟨hS7,?_⟩;simp only [Act.put,pA,pB,pC];refine tk 6 77 (.tuple #[.agg RA,.string ro,.int .i64 re]) rfl (by kernel_rfl) rfl rfl (fun w' _=>by simp [execOp,Act.eval,go_sem]) hS7 ?_;simp only [Act.put,pA,pB,pC];refine tk 7 84 (.agg RA) rfl (by kernel_rfl) rfl rfl (fun w' _=>by simp [execOp,Act.eval,go_sem]) hS7 ?_;simp only [Act.put,pA,pB,pC];refine tk 8 85 (.string ro) rfl (by kernel_rfl) rfl rfl (fun w' _=>by simp [execOp,Act.eval,go_sem]) hS7 ?_;simp only [Act.put,pA,pB,pC];refine tk 9 86 (.int .i64 re) rfl (by kernel_rfl) rfl rfl (fun w' _=>by simp [execOp,Act.eval,go_sem]) hS7 ?_;simp only [Act.put,pA,pB,pC];refine do_op 10 (by kernel_rfl) rfl rfl ?_;refine wp_run (some 20) rfl (.pointer (some ⟨w7.heap.size,0,none⟩)) (w7.alloc (.cells y6S 26)) (by simp [execOp,go_sem]) ?_;refine ⟨h8,?_⟩;simp only [Act.put,pA,pB,pC];refine do_store 11 (by kernel_rfl) rfl rfl 26 (.tmp 20) (.tmp 84) rfl rfl w7.heap.size RA (by simp [Act.eval]) (by simp [Act.eval]) 26 y6S hnew qI (by rw [qS];rfl) qO hS9 ?_;refine tk 12 21 (.string ro) rfl (by kernel_rfl) rfl rfl (fun w' _=>by simp [execOp,Act.eval,go_sem]) hS9 ?_;simp only [Act.put,pA,pB,pC];refine tk 13 22 (.int .i64 re) rfl (by kernel_rfl) rfl rfl (fun w' _=>by simp [execOp,Act.eval,go_sem]) hS9 ?_;simp only [Act.put,pA,pB,pC];refine wpAnyH_done (by kernel_rfl) (NoPanic.normal ?_) _
     go_wp2_with fail
     go_meet
     exact ⟨w7.heap.size,rfl,rfl,rfl,h9n,hS9,hT9,B9⟩
    refine wp_run (some 20) rfl (.pointer (some ⟨wr.heap.size,0,none⟩)) (wr.drew.alloc (.cells y6S 26)) (by simp [execOp,go_sem]) ?_;have hnew:=heap_alloc_new wr.drew (.cells y6S 26);have KA:=(Kp.refl (fun _=>False) wr.drew).alloc (.cells y6S 26);have hS6:=KA.at_ hS0 (fun x=>x);have hT6:=KA.at_ hT0 (fun x=>x);refine ⟨hS6,?_⟩;simp only [Act.put,pA,pB,pC];refine do_op 5 (by kernel_rfl) rfl rfl ?_;refine wp_enter (some 83) rfl 30 #[.string T,.agg A,.int .u8 y] (by simp [execOp,Act.eval,go_sem]) _ (fun w'=>Kp (fun _=>False) (wr.drew.alloc (.cells y6S 26)) w') (EG1 _).out ?_;intro w7 K7;have hS7:=K7.at_ hS6 (fun x=>x);have hT7:=K7.at_ hT6 (fun x=>x);have h7n:=K7.at_ hnew (fun x=>x);have hS9 : (w7.setRow wr.drew.heap.size RA).heap[sb]? = some (.cells A 26 (0,0)):=(setRow_other _ _ _ _ (by have:=lt_of_block hS0;omega)).trans hS7;have hT9 : (w7.setRow wr.drew.heap.size RA).heap[tb]? = some (.cells C 26 (0,0)):=(setRow_other _ _ _ _ (by have:=lt_of_block hT0;omega)).trans hT7;have h9n:=setRow_heap w7 wr.drew.heap.size _ RA 26 (0,0) h7n;have KB : Kp (fun _=>False) wr.drew (w7.setRow wr.drew.heap.size RA):=(KA.trans K7).setRow (fun x=>by omega) _;have B9:=BD.trans (kp0_below KB BD.size);refine ⟨hS7,?_⟩;simp only [Act.put,pA,pB,pC];refine tk 6 77 (.tuple #[.agg RA,.string ro,.int .i64 re]) rfl (by kernel_rfl) rfl rfl (fun w' _=>by simp [execOp,Act.eval,go_sem]) hS7 ?_;simp only [Act.put,pA,pB,pC];refine tk 7 84 (.agg RA) rfl (by kernel_rfl) rfl rfl (fun w' _=>by simp [execOp,Act.eval,go_sem]) hS7 ?_;simp only [Act.put,pA,pB,pC];refine tk 8 85 (.string ro) rfl (by kernel_rfl) rfl rfl (fun w' _=>by simp [execOp,Act.eval,go_sem]) hS7 ?_;simp only [Act.put,pA,pB,pC];refine tk 9 86 (.int .i64 re) rfl (by kernel_rfl) rfl rfl (fun w' _=>by simp [execOp,Act.eval,go_sem]) hS7 ?_;simp only [Act.put,pA,pB,pC];refine do_store 11 (by kernel_rfl) rfl rfl 26 (.tmp 20) (.tmp 84) rfl rfl wr.drew.heap.size RA (by simp [Act.eval]) (by simp [Act.eval]) 26 y6S h7n qI (by rw [qS];rfl) qO hS9 ?_;refine tk 12 21 (.string ro) rfl (by kernel_rfl) rfl rfl (fun w' _=>by simp [execOp,Act.eval,go_sem]) hS9 ?_;simp only [Act.put,pA,pB,pC];refine tk 13 22 (.int .i64 re) rfl (by kernel_rfl) rfl rfl (fun w' _=>by simp [execOp,Act.eval,go_sem]) hS9 ?_;simp only [Act.put,pA,pB,pC];refine wpAnyH_done (by kernel_rfl) (NoPanic.normal ?_) _
    go_wp2_with fail
    go_meet
    exact ⟨wr.drew.heap.size,rfl,rfl,rfl,h9n,hS9,hT9,B9⟩
   case rest =>
    obtain ⟨ub,rfl,rfl,rfl,hu1,hs1,ht1,BR1⟩:=hcut;clear EG1 hsr htr BR
    go_upto_region 18 with (fail)
    go_cut [23,24,25] from 87 to 96 (fun v14 v15 v16 wx=>∃ vb,v14 = .pointer (some ⟨vb,0,none⟩) ∧ vb ≠ sb ∧ v15 = .string rp ∧ v16 = .int .i64 rf ∧ wx.heap[vb]? = some (.cells RB 26 (0,0)) ∧ wx.heap[ub]? = some (.cells RA 26 (0,0)) ∧ wx.heap[sb]? = some (.cells A 26 (0,0)) ∧ wx.heap[tb]? = some (.cells C 26 (0,0)) ∧ Below w.heap.size w wx)
    case first =>
     have BD : Below w.heap.size w wc.drew:=BR1.trans (kp0_below ((Kp.refl (fun _=>False) wc).drew) BR1.size);have hS0 : wc.drew.heap[sb]? = some (.cells A 26 (0,0)):=hs1;have hT0 : wc.drew.heap[tb]? = some (.cells C 26 (0,0)):=ht1;have hU0 : wc.drew.heap[ub]? = some (.cells RA 26 (0,0)):=hu1;refine region_begin (fun w'=>w'.heap[tb]? = some (.cells C 26 (0,0))) (by kernel_rfl) ?_;refine tk 0 88 (.string T2) rfl (by kernel_rfl) rfl rfl (fun w' _=>by simp [execOp,Act.eval,go_sem]) hT0 ?_;simp only [Act.put,pA,pB,pC];refine tk 1 89 (.agg C) rfl (by kernel_rfl) rfl rfl (fun w' hS=>exec_load_row 26 (.tmp 15) rfl tb rfl 26 C (0,0) da hS hdA (by cases da <;> first | rfl | exact absurd hdAa (by simp [isAggD])) pI) hT0 ?_;simp only [Act.put,pA,pB,pC];refine tk 2 90 (.string ev) rfl (by kernel_rfl) rfl rfl (fun w' _=>by simp [execOp,Act.eval,go_sem]) hT0 ?_;simp only [Act.put,pA,pB,pC];refine tk 3 91 (.int .i64 (k : Int)) rfl (by kernel_rfl) rfl rfl (fun w' _=>by simp [execOp,Act.eval,go_sem]) hT0 ?_;simp only [Act.put,pA,pB,pC];refine tk 4 92 (.int .u8 y) rfl (by kernel_rfl) rfl rfl (fun w' _=>by simp [execOp,Act.eval,go_sem,hkl',hb]) hT0 ?_;simp only [Act.put,pA,pB,pC];refine do_two 5 10 (by kernel_rfl) rfl rfl rfl rfl ?_ ?_
     ·refine wp_enter (some 93) rfl 30 #[.string T2,.agg C,.int .u8 y] (by simp [execOp,Act.eval,go_sem]) _ (fun w'=>Kp (fun _=>False) wc.drew w') (EG2 _).out ?_
      intro w7 K7;have hT7:=K7.at_ hT0 (fun x=>x);have hS7:=K7.at_ hS0 (fun x=>x);have hU7:=K7.at_ hU0 (fun x=>x);have hlt7:=lt_of_block hT7;have hnew:=heap_alloc_new w7 (.cells y6S 26);have KA : Kp (fun _=>False) w7 ((w7.alloc (.cells y6S 26)).setRow w7.heap.size RB):=((Kp.refl _ _).alloc _).setRow (fun x=>by omega) _;have h8:=((Kp.refl (fun _=>False) w7).alloc (.cells y6S 26)).at_ hT7 (fun x=>x);have hT9:=KA.at_ hT7 (fun x=>x);have hS9:=KA.at_ hS7 (fun x=>x);have hU9:=KA.at_ hU7 (fun x=>x);have h9n:=setRow_heap (w7.alloc (.cells y6S 26)) w7.heap.size y6S RB 26 (0,0) hnew;have B9:=BD.trans (kp0_below (K7.trans KA) BD.size);refine ⟨hT7,?_⟩;simp only [Act.put,pA,pB,pC];refine tk 6 87 (.tuple #[.agg RB,.string rp,.int .i64 rf]) rfl (by kernel_rfl) rfl rfl (fun w' _=>by simp [execOp,Act.eval,go_sem]) hT7 ?_;simp only [Act.put,pA,pB,pC];refine tk 7 94 (.agg RB) rfl (by kernel_rfl) rfl rfl (fun w' _=>by simp [execOp,Act.eval,go_sem]) hT7 ?_;simp only [Act.put,pA,pB,pC];refine tk 8 95 (.string rp) rfl (by kernel_rfl) rfl rfl (fun w' _=>by simp [execOp,Act.eval,go_sem]) hT7 ?_;simp only [Act.put,pA,pB,pC];refine tk 9 96 (.int .i64 rf) rfl (by kernel_rfl) rfl rfl (fun w' _=>by simp [execOp,Act.eval,go_sem]) hT7 ?_;simp only [Act.put,pA,pB,pC];refine do_op 10 (by kernel_rfl) rfl rfl ?_;refine wp_run (some 23) rfl (.pointer (some ⟨w7.heap.size,0,none⟩)) (w7.alloc (.cells y6S 26)) (by simp [execOp,go_sem]) ?_;refine ⟨h8,?_⟩;simp only [Act.put,pA,pB,pC];refine do_store 11 (by kernel_rfl) rfl rfl 26 (.tmp 23) (.tmp 94) rfl rfl w7.heap.size RB (by simp [Act.eval]) (by simp [Act.eval]) 26 y6S hnew vI (by rw [vS];rfl) vO hT9 ?_;refine tk 12 24 (.string rp) rfl (by kernel_rfl) rfl rfl (fun w' _=>by simp [execOp,Act.eval,go_sem]) hT9 ?_;simp only [Act.put,pA,pB,pC];refine tk 13 25 (.int .i64 rf) rfl (by kernel_rfl) rfl rfl (fun w' _=>by simp [execOp,Act.eval,go_sem]) hT9 ?_;simp only [Act.put,pA,pB,pC];refine wpAnyH_done (by kernel_rfl) (NoPanic.normal ?_) _
      go_wp2_with fail
      go_meet
      exact ⟨w7.heap.size,rfl,(by have:=lt_of_block hS7;omega),rfl,rfl,h9n,hU9,hS9,hT9,B9⟩
     refine wp_run (some 23) rfl (.pointer (some ⟨wc.heap.size,0,none⟩)) (wc.drew.alloc (.cells y6S 26)) (by simp [execOp,go_sem]) ?_;have hnew:=heap_alloc_new wc.drew (.cells y6S 26);have KA:=(Kp.refl (fun _=>False) wc.drew).alloc (.cells y6S 26);have hT6:=KA.at_ hT0 (fun x=>x);have hS6:=KA.at_ hS0 (fun x=>x);have hU6:=KA.at_ hU0 (fun x=>x);refine ⟨hT6,?_⟩;simp only [Act.put,pA,pB,pC];refine do_op 5 (by kernel_rfl) rfl rfl ?_;refine wp_enter (some 93) rfl 30 #[.string T2,.agg C,.int .u8 y] (by simp [execOp,Act.eval,go_sem]) _ (fun w'=>Kp (fun _=>False) (wc.drew.alloc (.cells y6S 26)) w') (EG2 _).out ?_;intro w7 K7;have hT7:=K7.at_ hT6 (fun x=>x);have hS7:=K7.at_ hS6 (fun x=>x);have hU7:=K7.at_ hU6 (fun x=>x);have h7n:=K7.at_ hnew (fun x=>x);have hT9 : (w7.setRow wc.drew.heap.size RB).heap[tb]? = some (.cells C 26 (0,0)):=(setRow_other _ _ _ _ (by have:=lt_of_block hT0;omega)).trans hT7;have hS9 : (w7.setRow wc.drew.heap.size RB).heap[sb]? = some (.cells A 26 (0,0)):=(setRow_other _ _ _ _ (by have:=lt_of_block hS0;omega)).trans hS7;have hU9 : (w7.setRow wc.drew.heap.size RB).heap[ub]? = some (.cells RA 26 (0,0)):=(setRow_other _ _ _ _ (by have:=lt_of_block hU0;omega)).trans hU7;have h9n:=setRow_heap w7 wc.drew.heap.size _ RB 26 (0,0) h7n;have KB : Kp (fun _=>False) wc.drew (w7.setRow wc.drew.heap.size RB):=(KA.trans K7).setRow (fun x=>by omega) _;have B9:=BD.trans (kp0_below KB BD.size);refine ⟨hT7,?_⟩;simp only [Act.put,pA,pB,pC];refine tk 6 87 (.tuple #[.agg RB,.string rp,.int .i64 rf]) rfl (by kernel_rfl) rfl rfl (fun w' _=>by simp [execOp,Act.eval,go_sem]) hT7 ?_;simp only [Act.put,pA,pB,pC];refine tk 7 94 (.agg RB) rfl (by kernel_rfl) rfl rfl (fun w' _=>by simp [execOp,Act.eval,go_sem]) hT7 ?_;simp only [Act.put,pA,pB,pC];refine tk 8 95 (.string rp) rfl (by kernel_rfl) rfl rfl (fun w' _=>by simp [execOp,Act.eval,go_sem]) hT7 ?_;simp only [Act.put,pA,pB,pC];refine tk 9 96 (.int .i64 rf) rfl (by kernel_rfl) rfl rfl (fun w' _=>by simp [execOp,Act.eval,go_sem]) hT7 ?_;simp only [Act.put,pA,pB,pC];refine do_store 11 (by kernel_rfl) rfl rfl 26 (.tmp 23) (.tmp 94) rfl rfl wc.drew.heap.size RB (by simp [Act.eval]) (by simp [Act.eval]) 26 y6S h7n vI (by rw [vS];rfl) vO hT9 ?_;refine tk 12 24 (.string rp) rfl (by kernel_rfl) rfl rfl (fun w' _=>by simp [execOp,Act.eval,go_sem]) hT9 ?_
     simp only [Act.put,pA,pB,pC];refine tk 13 25 (.int .i64 rf) rfl (by kernel_rfl) rfl rfl (fun w' _=>by simp [execOp,Act.eval,go_sem]) hT9 ?_;simp only [Act.put,pA,pB,pC];refine wpAnyH_done (by kernel_rfl) (NoPanic.normal ?_) _
     go_wp2_with fail
     go_meet
     exact ⟨wc.drew.heap.size,rfl,(by have:=lt_of_block hS0;omega),rfl,rfl,h9n,hU9,hS9,hT9,B9⟩
    case rest =>
     obtain ⟨vb,rfl,hvs,rfl,rfl,hv2,hu2,hs2,ht2,BR2⟩:=hcut;clear EG2 hs1 ht1 hu1 BR1;rename_i wc1 wc2
     rcases HG1.out with ⟨s2,o2,hgo1,hgo2,hg2,hg2'⟩ | ⟨hgo1,hgo2⟩
     ·simp only [Prod.mk.injEq] at hgo1 hgo2
      obtain ⟨rfl,rfl,rfl⟩:=hgo1;obtain ⟨rfl,rfl,rfl⟩:=hgo2
      have ha16 : (Ch.asOf ol.sts s2).act.size ≤ 1000:=by
       show (Ch.outAct ol.sts s2).size ≤ 1000;unfold Ch.outAct;rw [strOfNums_size];have:=Ch.actK_len ol.sts s2 (min ol.sts.length 16);omega
      have hp16 : (Ch.asOf ol.sts s2).past.size ≤ 1000:=by
       show (Ch.outPast ol.sts s2).size ≤ 1000;unfold Ch.outPast;rw [strOfNums_size];have:=Ch.pstK_len ol.sts s2 (min ol.sts.length 16);omega
      have ET:=fun W=>HTW.out W (Ch.asOf ol.sts s2) ha16 hp16
      rw [HRA.out.1,HRA.out.2] at ET;have HG2:=hid (And.intro hg2 hg2');clear hg2 hg2' ha16 hp16
      go_wp2_with (first | refine wpList_load_row rfl 26 (.tmp 20) rfl ub rfl 26 RA (0,0) da hu2 hdA (by cases da <;> first | rfl | exact absurd hdAa (by simp [isAggD])) qI ?_ | refine wpList_load_row rfl 26 (.tmp 23) rfl vb rfl 26 RB (0,0) da hv2 hdA (by cases da <;> first | rfl | exact absurd hdAa (by simp [isAggD])) vI ?_)
      refine Calls.mono (Hid.out (ET _)) ?_;rintro x w11 ⟨rfl,K11⟩;have hu3:=K11.at_ hu2 (fun x=>x);have hv3:=K11.at_ hv2 (fun x=>x);have hs3:=K11.at_ hs2 (fun x=>x);have ht3:=K11.at_ ht2 (fun x=>x);have B11:=BR2.trans (kp0_below K11 BR2.size);have h12s : (w11.setRow sb RA).heap[sb]? = some (.cells RA 26 (0,0)):=setRow_heap _ _ _ _ _ _ hs3;have h12t : (w11.setRow sb RA).heap[tb]? = some (.cells C 26 (0,0)):=(setRow_other _ _ _ _ hst2.symm).trans ht3;have h12v : (w11.setRow sb RA).heap[vb]? = some (.cells RB 26 (0,0)):=(setRow_other _ _ _ _ hvs).trans hv3;have h13t : ((w11.setRow sb RA).setRow tb RB).heap[tb]? = some (.cells RB 26 (0,0)):=setRow_heap _ _ _ _ _ _ h12t;have h13s : ((w11.setRow sb RA).setRow tb RB).heap[sb]? = some (.cells RA 26 (0,0)):=(setRow_other _ _ _ _ hst2).trans h12s;have B12:=B11.trans (((Kp.refl (fun k=>k = sb) w11).setRow (g:=sb) (fun _=>rfl) RA).below B11.size (fun i x=>by omega));have B13:=B12.trans (((Kp.refl (fun k=>k = tb) (w11.setRow sb RA)).setRow (g:=tb) (fun _=>rfl) RB).below B12.size (fun i x=>by omega));have HF:=hid (And.intro h13s (And.intro h13t B13));clear ET K11 hu2 hv2 hs2 ht2 BR2 h13s h13t B12 B13 B11 hv3
      go_wp2_with (first | refine wpList_load_row rfl 26 (.tmp 20) rfl ub rfl 26 RA (0,0) da hu3 hdA (by cases da <;> first | rfl | exact absurd hdAa (by simp [isAggD])) qI ?_ | refine wpList_store_row rfl 26 (.tmp 12) (.tmp 115) rfl sb RA rfl rfl 26 A hs3 qI (by rw [rS,qS]) qO ?_ | refine wpList_load_row rfl 26 (.tmp 23) rfl vb rfl 26 RB (0,0) da h12v hdA (by cases da <;> first | rfl | exact absurd hdAa (by simp [isAggD])) vI ?_ | refine wpList_store_row rfl 26 (.tmp 15) (.tmp 116) rfl tb RB rfl rfl 26 C h12t vI (by rw [pS,vS]) vO ?_)
      go_roundw
      case rel=>exact ⟨k + 1,s2,by go_num,by omega,hid ⟨HG2.out.1,HG2.out.2,by unfold AsR;rw [HRA.out.1];exact HF.out.1,by unfold AsR;rw [HRA.out.2];exact HF.out.2.1,HF.out.2.2⟩⟩
      case measure=>simp [intOf];omega
     simp only [Prod.mk.injEq] at hgo1 hgo2;obtain ⟨rfl,rfl,rfl⟩:=hgo1;obtain ⟨rfl,rfl,rfl⟩:=hgo2
     have ET : ∀ W,Hid (Calls Tryz.prog 33 #[.agg (asA Ch.as0),.agg (asA Ch.as0),.int .i64 r] W fun x w'=>x = .returned (.bool true) ∧ Kp (fun _=>False) W w'):=fun W=>HTW.out W Ch.as0 (by decide) (by decide)
     obtain rfl : RA = RB:=by rw [← HRA.out.1,HRA.out.2]
     rw [HRA.out.1] at ET
     go_wp2_with (first | refine wpList_load_row rfl 26 (.tmp 20) rfl ub rfl 26 RA (0,0) da hu2 hdA (by cases da <;> first | rfl | exact absurd hdAa (by simp [isAggD])) qI ?_ | refine wpList_load_row rfl 26 (.tmp 23) rfl vb rfl 26 RA (0,0) da hv2 hdA (by cases da <;> first | rfl | exact absurd hdAa (by simp [isAggD])) vI ?_)
     refine Calls.mono (Hid.out (ET _)) ?_;rintro x w11 ⟨rfl,K11⟩;have hs3:=K11.at_ hs2 (fun x=>x);have ht3:=K11.at_ ht2 (fun x=>x);have B11:=BR2.trans (kp0_below K11 BR2.size);have HF:=hid (And.intro hs3 (And.intro ht3 B11));clear ET K11 hu2 hv2 hs2 ht2 BR2 hs3 ht3 B11
     go_wp2_with fail
     go_roundw
     case rel=>exact ⟨k + 1,s,by go_num,by omega,hid ⟨HG.out.1,HG.out.2,by unfold AsR;rw [HA.out.1];exact HF.out.1,by unfold AsR;rw [HA.out.2];exact HF.out.2.1,HF.out.2.2⟩⟩
     case measure=>simp [intOf];omega
  have hkl' : ¬ (k : Int) < (ev.size : Int):=by omega
  go_wp2;go_ret;exact ⟨rfl,BR⟩
end
end Go.Proofs.YtnlbchmfcebeeaaGreat
