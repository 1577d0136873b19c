import Derived.Test.YtnlbchmfcebeeaaGreatTV1
import Derived.Test.YtnlbchmfcebeeaaGreatTV2
import Derived.Test.YtnlbchmfcebeeaaGreatTH1
import Derived.Test.YtnlbchmfcebeeaaGreatTBc
import Derived.Test.YtnlbchmfcebeeaaGreatTBa
set_option maxHeartbeats 12800000
set_option maxRecDepth 100000
namespace Go.Proofs.YtnlbchmfcebeeaaGreat
open Go.RowKit
namespace Ch
theorem built_rdc {P : List (Int × Int)} {L : List Int} (hP : PtOk P) (hW : Wr P none 0 P.length L) (hL : L.length ≤ 215) : ∃ ol,RdC (strOfNums L) ol ∧ RdOk P ol:=by
 have hs : (strOfNums L).size = L.length:=strOfNums_size L;obtain ⟨_,ol,hr,ho⟩:=built_read hP hW (has_str (hW.byte hP.len)) hs.symm (by omega);refine ⟨ol,rdC_of hr (fun k=>?_),ho⟩;unfold nmAt
 cases q : ol.sts[k]? with
 | none=>simp
 | some s=>?_
 have h1:=(ho.at_ k s q).2;have h2:=(List.getElem?_eq_some_iff.1 q).1;have:=hP.len;have:=ho.len;simp only;omega
theorem tg_deaf {n : Nat} (hn : n ≤ 16) {c : Int} (h : TgT n c) {r : Nat} (hr : r < 21) : c ≠ 101 + (r : Int):=by
 unfold TgT at h;omega
end Ch
section
variable (w : World)
theorem deaf_any {lv : Value} {n : Nat} (hI : IntsR w w.heap.size lv n) (hn : n ≤ maxLen) (ev : ByteArray) (hsz : ev.size ≤ 140737488351232) (what : Int) (hw1 : -9223372036854775808 ≤ what) (hw2 : what ≤ 9223372036854775807) :
 Calls Tryz.prog 13 #[lv,.string ev,.int .i64 what] w fun x w'=>x = .returned (.bool true) ∧ Below w.heap.size w w':=by
 obtain ⟨da,hdA,hdAa⟩:=Tryz.undAs;have E0:=hid (mbuild_any w hI hn);clear hI hn
 go_enter Tryz.func13,Tryz.ntmps13
 go_wp2_with fail
 refine hm E0 ?_;rintro x w1 ⟨L,P,pv,rfl,_,B1,hP,hW,hL⟩;obtain ⟨ol,hR,hRd⟩:=Ch.built_rdc hP hW hL;have HN:=hid (show ∀ r : Nat,r < 21 → ∀ x ∈ ol.trs,x.trig ≠ 101 + (r : Int) from fun r hr x hx=>Ch.tg_deaf hP.len (hRd.trs x hx) hr);have HR:=hid hR;generalize strOfNums L = T at HR;clear E0 hP hW hL hR hRd;have E1:=hid (head_any w1)
 go_wp2_with fail
 refine hm E1 ?_;rintro x w2 ⟨rfl,K2⟩;have B2:=B1.trans (kp0_below K2 B1.size);clear E1 K2 B1;have E2:=cStart_any w2 T
 rcases Ch.cStart_good HR.out with ⟨s0,o0,hs,hg⟩ | ⟨o0,hs⟩
 rotate_left
 ·rw [hs] at E2
  simp only at E2;replace E2:=hid E2;have rO:=asOne Ch.as0;have rI:=asInfo Ch.as0;have rS : (asA Ch.as0).size = 6:=rfl;generalize asA Ch.as0 = A0 at *
  go_wp2_with fail
  refine hm E2 ?_;rintro x w3 ⟨rfl,K3⟩;have hnew:=heap_alloc_new w3 (.cells y6S 26);have K4 : Kp (fun _=>False) w3 ((w3.alloc (.cells y6S 26)).setRow w3.heap.size A0):=((Kp.refl _ _).alloc _).setRow (fun x=>by omega) _;have B4:=B2.trans (kp0_below (K3.trans K4) B2.size);clear E2 K3 K4
  go_wp2_with (refine wpList_store_row rfl 26 (.tmp 10) (.tmp 30) rfl w3.heap.size A0 rfl rfl 26 y6S hnew rI (by rw [rS];rfl) rO ?_)
  go_ret;exact ⟨rfl,B4⟩
 rw [hs] at E2;simp only at E2;replace E2:=hid E2;have HG:=hid hg;clear hs hg;have rO:=asOne (Ch.asOf ol.sts s0);have rI:=asInfo (Ch.asOf ol.sts s0);have rS : (asA (Ch.asOf ol.sts s0)).size = 6:=rfl;generalize hA0 : asA (Ch.asOf ol.sts s0) = A0 at *;have HA0:=hid hA0;clear hA0
 go_wp2_with fail
 refine hm E2 ?_;rintro x w3 ⟨rfl,K3⟩;have hnew:=heap_alloc_new w3 (.cells y6S 26);have h4s:=setRow_heap (w3.alloc (.cells y6S 26)) w3.heap.size y6S A0 26 (0,0) hnew;have K4 : Kp (fun _=>False) w3 ((w3.alloc (.cells y6S 26)).setRow w3.heap.size A0):=((Kp.refl _ _).alloc _).setRow (fun x=>by omega) _;have B4:=B2.trans (kp0_below (K3.trans K4) B2.size)
 have hsb : w.heap.size ≤ w3.heap.size:=by have:=B2.size;have:=K3.size;omega
 clear E2 K3 K4 B2
 go_upto_region 8 with (refine wpList_store_row rfl 26 (.tmp 10) (.tmp 30) rfl w3.heap.size A0 rfl rfl 26 y6S hnew rI (by rw [rS];rfl) rO ?_)
 generalize (w3.alloc (.cells y6S 26)).setRow w3.heap.size A0 = w4 at *;generalize w3.heap.size = sb at *;clear hnew rO rI rS;have E3:=hid (mpick_any w4 what hw1 hw2 21 (by omega) (by omega));have hr:=Ch.pickV_lt what (n:=21) (by omega);generalize Ch.pickV what 21 = r at hr E3
 go_wp2_with fail
 refine hm E3 ?_;rintro x w5 ⟨rfl,rfl⟩;have hcv:=one_text w5 (101 + (r : Int));have hw8 : IntKind.wrap .u8 (101 + (r : Int)) = 101 + (r : Int):=wrap_u8 (by omega) (by omega);have K5 : Kp (fun _=>False) w5 (w5.alloc (.cells #[.int .u8 (101 + (r : Int))] 5)):=(Kp.refl _ _).alloc _
 have h5s : AsR (w5.alloc (.cells #[.int .u8 (101 + (r : Int))] 5)) sb (Ch.asOf ol.sts s0):=by unfold AsR;rw [HA0.out];exact K5.at_ h4s (fun x=>x)
 have B5:=B4.trans (kp0_below K5 B4.size);clear E3 K5 h4s B4 HA0
 go_wp2_with fail
 generalize w5.alloc (.cells #[.int .u8 (101 + (r : Int))] 5) = w6 at *
 have hbe : Ch.isEv (101 + (r : Int)) = true:=by unfold Ch.isEv;simp;omega
 have HE:=hid (And.intro hbe (HN.out r hr));clear hcv hw8 hbe HN
 have hr0 : 0 ≤ 101 + (r : Int):=by omega
 have hr1 : 101 + (r : Int) < 256:=by omega
 generalize 101 + (r : Int) = b at *;have HS:=hid h5s;clear h5s
 go_loopw [14] (fun i wr=>∃ (k : Nat) (s : Ch.Sd),i = .int .i64 k ∧ k ≤ ev.size + 1 ∧ Hid (Ch.Good ol s ∧ AsR wr sb (Ch.asOf ol.sts s) ∧ Below w.heap.size w wr)) (fun i _=>ev.size + 1 - (intOf i).toNat)
 case atStart=>exact ⟨0,s0,rfl,Nat.zero_le _,hid ⟨HG.out,HS.out,B5⟩⟩
 case round =>
  obtain ⟨k,s,rfl,hk,HH⟩:=hrel;clear HS HG B5;obtain ⟨g,hsr,BR⟩:=HH.out;clear HH
  by_cases hkl : k ≤ ev.size
  ·have hkl' : (k : Int) ≤ (ev.size : Int):=by omega
   have E4:=cFire_any wr T (Ch.asOf ol.sts s) (strOfNums [b]) g.sm;rw [Ch.fire_deaf HR.out g HE.out.1 hr0 hr1 HE.out.2] at E4;simp only at E4;replace E4:=hid E4
   have ES:=fun W=>hid (same_any W (Ch.asOf ol.sts s))
   have EG:=fun (W : World) (y : Int) (h0 : 0 ≤ y) (h1 : y < 256)=>hid (goes_any W 17 (by omega) T (Ch.asOf ol.sts s) y g.sm (fun _ _=>(Ch.goes_good HR.out g h0 h1).2))
   have hgo:=fun (y : Int) (h0 : 0 ≤ y) (h1 : y < 256)=>(Ch.goes_good HR.out g h0 h1).1
   have HGO:=hid hgo;have HG:=hid g;clear hgo g;have rO:=asOne (Ch.asOf ol.sts s);have rI:=asInfo (Ch.asOf ol.sts s);have rS : (asA (Ch.asOf ol.sts s)).size = 6:=rfl;unfold AsR at hsr;generalize hA : asA (Ch.asOf ol.sts s) = A at *;have HA:=hid hA;clear hA
   go_wp2_with (refine wpList_load_row rfl 26 (.tmp 10) rfl sb rfl 26 A (0,0) da hsr hdA (by cases da <;> first | rfl | exact absurd hdAa (by simp [isAggD])) rI ?_)
   refine hm E4 ?_;rintro x w7 ⟨rfl,K7⟩;have h7s:=K7.at_ hsr (fun x=>x);have hlt:=lt_of_block h7s;have hnew:=heap_alloc_new w7 (.cells y6S 26);have h8t:=setRow_heap (w7.alloc (.cells y6S 26)) w7.heap.size y6S A 26 (0,0) hnew;have K8 : Kp (fun _=>False) w7 ((w7.alloc (.cells y6S 26)).setRow w7.heap.size A):=((Kp.refl _ _).alloc _).setRow (fun x=>by omega) _;have h8s:=K8.at_ h7s (fun x=>x);have B8:=BR.trans (kp0_below (K7.trans K8) BR.size);clear E4 K7 K8 hsr h7s BR
   go_upto_region 13 with (refine wpList_store_row rfl 26 (.tmp 15) (.tmp 54) rfl w7.heap.size A rfl rfl 26 y6S hnew rI (by rw [rS];rfl) rO ?_)
   have hne : w7.heap.size ≠ sb:=by omega
   have htb : w.heap.size ≤ w7.heap.size:=by omega
   generalize (w7.alloc (.cells y6S 26)).setRow w7.heap.size A = w8 at *;generalize w7.heap.size = tb at *;clear hnew
   go_wp2_with (first | refine wpList_load_row rfl 26 (.tmp 10) rfl sb rfl 26 A (0,0) da h8s hdA (by cases da <;> first | rfl | exact absurd hdAa (by simp [isAggD])) rI ?_ | refine wpList_load_row rfl 26 (.tmp 15) rfl tb rfl 26 A (0,0) da h8t hdA (by cases da <;> first | rfl | exact absurd hdAa (by simp [isAggD])) rI ?_)
   refine Calls.mono (Hid.out (ES _)) ?_;rintro x w9 ⟨rfl,K9⟩;have h9s:=K9.at_ h8s (fun x=>x);have h9t:=K9.at_ h8t (fun x=>x);have B9:=B8.trans (kp0_below K9 B8.size);clear ES K9 h8s h8t B8
   by_cases hkl2 : k < ev.size
   ·have hkl2' : (k : Int) < (ev.size : Int):=by omega
    have hy0 : (0 : Int) ≤ (((ev[k]'hkl2).toNat : Nat) : Int):=by omega
    have hy1 : (((ev[k]'hkl2).toNat : Nat) : Int) < 256:=by have:=(ev[k]'hkl2).toNat_lt;omega
    have EG1:=EG w9.drew _ hy0 hy1;have HG1:=hid (HGO.out _ hy0 hy1);clear EG HGO
    go_upto_region 17 with (fail)
    generalize hb : (((ev[k]'hkl2).toNat : Nat) : Int) = y at *
    have hS0 : w9.drew.heap[sb]? = some (.cells A 26 (0,0)) ∧ w9.drew.heap[tb]? = some (.cells A 26 (0,0)):=⟨h9s,h9t⟩
    refine region_begin (fun w'=>w'.heap[sb]? = some (.cells A 26 (0,0)) ∧ ∃ X,w'.heap[tb]? = some (.cells X 26 (0,0)) ∧ X.size = 6) (by kernel_rfl) ?_
    have hS1 : w9.drew.heap[sb]? = some (.cells A 26 (0,0)) ∧ ∃ X,w9.drew.heap[tb]? = some (.cells X 26 (0,0)) ∧ X.size = 6:=⟨hS0.1,A,hS0.2,rS⟩
    refine tk 0 75 (.string T) rfl (by kernel_rfl) rfl rfl (fun w' _=>by simp [execOp,Act.eval,go_sem]) hS1 ?_;simp only [Act.put,pA,pB,pC];refine tk 1 76 (.agg A) rfl (by kernel_rfl) rfl rfl (fun w' hS=>exec_load_row 26 (.tmp 10) rfl sb rfl 26 A (0,0) da hS.1 hdA (by cases da <;> first | rfl | exact absurd hdAa (by simp [isAggD])) rI) hS1 ?_;simp only [Act.put,pA,pB,pC];refine tk 2 77 (.string ev) rfl (by kernel_rfl) rfl rfl (fun w' _=>by simp [execOp,Act.eval,go_sem]) hS1 ?_;simp only [Act.put,pA,pB,pC];refine tk 3 78 (.int .i64 (k : Int)) rfl (by kernel_rfl) rfl rfl (fun w' _=>by simp [execOp,Act.eval,go_sem]) hS1 ?_;simp only [Act.put,pA,pB,pC];refine tk 4 79 (.int .u8 y) rfl (by kernel_rfl) rfl rfl (fun w' _=>by simp [execOp,Act.eval,go_sem,hkl2',hb]) hS1 ?_;simp only [Act.put,pA,pB,pC];generalize hgr : Ch.goes 17 T (Ch.asOf ol.sts s) y = r3 at EG1 HG1;obtain ⟨ra,ro,re⟩:=r3;simp only at EG1;have qO:=asOne ra;have qI:=asInfo ra;have qS : (asA ra).size = 6:=rfl;generalize hRA : asA ra = RA at *;have HRA:=hid hRA;clear hRA hgr;refine do_op 5 (by kernel_rfl) rfl rfl ?_;refine wp_enter (some 80) rfl 30 #[.string T,.agg A,.int .u8 y] (by simp [execOp,Act.eval,go_sem]) _ (fun w'=>Kp (fun _=>False) w9.drew w') EG1.out ?_;intro w10 K10;have h10s:=K10.at_ hS0.1 (fun x=>x);have h10t:=K10.at_ hS0.2 (fun x=>x)
    have hS2 : w10.heap[sb]? = some (.cells A 26 (0,0)) ∧ ∃ X,w10.heap[tb]? = some (.cells X 26 (0,0)) ∧ X.size = 6:=⟨h10s,A,h10t,rS⟩
    refine ⟨hS2,?_⟩;simp only [Act.put,pA,pB,pC];refine tk 6 74 (.tuple #[.agg RA,.string ro,.int .i64 re]) rfl (by kernel_rfl) rfl rfl (fun w' _=>by simp [execOp,Act.eval,go_sem]) hS2 ?_;simp only [Act.put,pA,pB,pC];refine tk 7 81 (.agg RA) rfl (by kernel_rfl) rfl rfl (fun w' _=>by simp [execOp,Act.eval,go_sem]) hS2 ?_;simp only [Act.put,pA,pB,pC];refine tk 8 82 (.string ro) rfl (by kernel_rfl) rfl rfl (fun w' _=>by simp [execOp,Act.eval,go_sem]) hS2 ?_;simp only [Act.put,pA,pB,pC];refine tk 9 83 (.int .i64 re) rfl (by kernel_rfl) rfl rfl (fun w' _=>by simp [execOp,Act.eval,go_sem]) hS2 ?_;simp only [Act.put,pA,pB,pC];have h11s : (w10.setRow tb RA).heap[sb]? = some (.cells A 26 (0,0)):=(setRow_other _ _ _ _ hne.symm).trans h10s;have h11t : (w10.setRow tb RA).heap[tb]? = some (.cells RA 26 (0,0)):=setRow_heap _ _ _ _ _ _ h10t
    have hS3 : (w10.setRow tb RA).heap[sb]? = some (.cells A 26 (0,0)) ∧ ∃ X,(w10.setRow tb RA).heap[tb]? = some (.cells X 26 (0,0)) ∧ X.size = 6:=⟨h11s,RA,h11t,qS⟩
    refine do_store 10 (by kernel_rfl) rfl rfl 26 (.tmp 15) (.tmp 81) rfl rfl tb RA (by simp [Act.eval]) (by simp [Act.eval]) 26 A h10t qI (by rw [rS,qS]) qO hS3 ?_;refine tk 11 17 (.int .i64 re) rfl (by kernel_rfl) rfl rfl (fun w' _=>by simp [execOp,Act.eval,go_sem]) hS3 ?_;simp only [Act.put,pA,pB,pC];refine wpAnyH_done (by kernel_rfl) (NoPanic.normal ?_) _;have B10:=B9.trans (kp0_below (((Kp.refl (fun _=>False) w9).drew).trans K10) B9.size);have B11:=B10.trans (((Kp.refl (fun k=>k = tb) w10).setRow (fun _=>rfl) RA).below B10.size (fun i x=>by omega));have B12 : Below w.heap.size w ((w10.setRow tb RA).setRow sb RA):=B11.trans (((Kp.refl (fun k=>k = sb) (w10.setRow tb RA)).setRow (fun _=>rfl) RA).below B11.size (fun i x=>by omega));have h12s : ((w10.setRow tb RA).setRow sb RA).heap[sb]? = some (.cells RA 26 (0,0)):=setRow_heap _ _ _ _ _ _ h11s;generalize w10.setRow tb RA = w11 at *;clear K10 h10s h10t hS0 hS1 hS2 hS3 EG1 h9s h9t B9 B10
    rcases HG1.out with ⟨s',o',hgo,hg'⟩ | ⟨o',hgo⟩
    ·simp only [Prod.mk.injEq] at hgo
     obtain ⟨rfl,rfl,rfl⟩:=hgo;have HG':=hid hg';clear hg'
     go_wp2_with (first | refine wpList_load_row rfl 26 (.tmp 15) rfl tb rfl 26 RA (0,0) da h11t hdA (by cases da <;> first | rfl | exact absurd hdAa (by simp [isAggD])) qI ?_ | refine wpList_store_row rfl 26 (.tmp 10) (.tmp 86) rfl sb RA rfl rfl 26 A h11s qI (by rw [rS,qS]) qO ?_)
     go_roundw
     case rel=>exact ⟨k + 1,s',by go_num,by omega,hid ⟨HG'.out,by unfold AsR;rw [HRA.out];exact h12s,B12⟩⟩
     case measure=>simp [intOf];omega
    simp only [Prod.mk.injEq] at hgo;obtain ⟨rfl,rfl,rfl⟩:=hgo
    go_wp2_with fail
    go_roundw
    case rel=>exact ⟨k + 1,s,by go_num,by omega,hid ⟨HG.out,by unfold AsR;rw [HA.out];exact h11s,B11⟩⟩
    case measure=>simp [intOf];omega
   have hkl2' : ¬ (k : Int) < (ev.size : Int):=by omega
   clear EG HGO
   go_wp2_with fail
   go_roundw
   case rel=>exact ⟨k + 1,s,by go_num,by omega,hid ⟨HG.out,by unfold AsR;rw [HA.out];exact h9s,B9⟩⟩
   case measure=>simp [intOf];omega
  have hkl' : ¬ (k : Int) ≤ (ev.size : Int):=by omega
  go_wp2;go_ret;exact ⟨rfl,BR⟩
end
end Go.Proofs.YtnlbchmfcebeeaaGreat
