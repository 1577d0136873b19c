import Derived.Test.YtnlbchmfcebeeaaGreatTW4
import Derived.Test.YtnlbchmfcebeeaaGreatTH1
import Derived.Test.YtnlbchmfcebeeaaGreatTU2
set_option maxHeartbeats 12800000
set_option maxRecDepth 100000
namespace Go.Proofs.YtnlbchmfcebeeaaGreat
open Go.RowKit
section
variable {w : World} {b : Nat} {a : Ch.As}
theorem AsR.c2 (h : AsR w b a) : w.cell? ⟨b,2,none⟩ = some (.string a.tm):=by rw [World.cell?,h];rfl
theorem AsR.c3 (h : AsR w b a) : w.cell? ⟨b,3,none⟩ = some (.int .i64 a.x):=by rw [World.cell?,h];rfl
theorem AsR.c4 (h : AsR w b a) : w.cell? ⟨b,4,none⟩ = some (.int .i64 a.y):=by rw [World.cell?,h];rfl
theorem AsR.c5 (h : AsR w b a) : w.cell? ⟨b,5,none⟩ = some (.int .i64 a.z):=by rw [World.cell?,h];rfl
end
section
variable (w : World)
theorem fine_any {T : ByteArray} {ol : Ch.Ol} {P : List (Int × Int)} {pg pcap : Nat} {s : Ch.Sd} (hR : Ch.RdC T ol) (hP : Ch.PtOk P) (hO : Ch.RdOk P ol) (g : Ch.Good ol s) (hp : PtB w pg P) :
 Calls Tryz.prog 29 #[.string T,.agg (asA (Ch.asOf ol.sts s)),.slice (some ⟨pg,0,none⟩) P.length pcap] w fun x w'=>x = .returned (.bool true) ∧ Kp (fun _=>False) w w':=by
 obtain ⟨da,hdA,hdAa⟩:=Tryz.undAs;have h16:=hP.len;have hea:=Ch.out_act hO h16 s;have hnm:=Ch.actL_names s h16;rw [← hea] at hnm;have hall:=Ch.actL_len s P.length;have hru:=Ch.good_rules hP hO g.inv.conf;have hpa:=Ch.good_past hP hO g.inv.past;have hlg:=(g.lg hR).1;have hsm:=g.sm;have hx:=g.ok.2.1.1;have hy:=g.ok.2.1.2.1;have hz:=g.ok.2.1.2.2;have ht16:=g.tl.2
 have hte : (s.tm.size : Int).tmod 2 = 0:=by
  have:=Ch.TL.even _ (Nat.le_refl _) g.tl.1;rw [Ch.bys_len] at this;rw [Int.tmod_eq_emod_of_nonneg (by omega)];omega
 have hb1 : AsR (w.alloc (.cells (asA (Ch.asOf ol.sts s)) 26)) w.heap.size (Ch.asOf ol.sts s):=heap_alloc_new w _;have K1 : Kp (fun _=>False) w (w.alloc (.cells (asA (Ch.asOf ol.sts s)) 26)):=(Kp.refl _ _).alloc _;have hp1:=hp.keep0 K1;have aI:=asInfo (Ch.asOf ol.sts s)
 have E1:=fun W=>hid (active_any W (pg:=pg) (pcap:=pcap) hnm (by omega))
 have E2:=fun W g' h1 h2=>hid (rules_any W (g:=g') (pg:=pg) (pcap:=pcap) hru h1 h2)
 have E3:=fun W h1=>hid (remembers_any W (pg:=pg) (pcap:=pcap) hpa h1)
 have E4:=fun W=>cLegal_any W T (Ch.asOf ol.sts s) hsm
 rw [hlg] at E4
 replace E4:=fun W=>hid (E4 W)
 have e0 : (Ch.asOf ol.sts s).act = Ch.outAct ol.sts s:=rfl;have e1 : (Ch.asOf ol.sts s).past = Ch.outPast ol.sts s:=rfl;have e2 : (Ch.asOf ol.sts s).tm = s.tm:=rfl;have e3 : (Ch.asOf ol.sts s).x = s.x:=rfl;have e4 : (Ch.asOf ol.sts s).y = s.y:=rfl;have e5 : (Ch.asOf ol.sts s).z = s.z:=rfl;have c0:=hb1.c0;have c1:=hb1.c1;have c2:=hb1.c2;have c3:=hb1.c3;have c4:=hb1.c4;have c5:=hb1.c5;rw [e0] at c0;rw [e1] at c1;rw [e2] at c2;rw [e3] at c3;rw [e4] at c4;rw [e5] at c5;clear hea hnm hru hpa hlg hsm hp g hR hP hO e0 e1 e2 e3 e4 e5;unfold AsR at hb1;generalize Ch.outAct ol.sts s = OA at *;generalize Ch.outPast ol.sts s = OP at *;generalize asA (Ch.asOf ol.sts s) = AA at *;generalize s.tm = tm at *;generalize s.x = sx at *;generalize s.y = sy at *;generalize s.z = sz at *;generalize Ch.onL (Ch.actL s P.length) P.length = on at *
 go_enter Tryz.func29,Tryz.ntmps29
 go_upto_region 1 with (fail)
 generalize w.alloc (.cells AA 26) = w1 at *;generalize w.heap.size = sb at *
 go_wp2_with fail
 refine Calls.mono (Hid.out (E1 w1)) ?_;rintro x w2 ⟨rfl,hon,K2⟩;generalize w1.heap.size = og at *;have hp2:=hp1.keep0 K2;have EE2:=E2 w2 og hon hp2;replace hb1:=K2.at_ hb1 (fun x=>x);replace c1:=K2.cellF c1;replace c2:=K2.cellF c2;replace c3:=K2.cellF c3;replace c4:=K2.cellF c4;replace c5:=K2.cellF c5;replace K2:=K1.trans K2;clear E1 E2 hp1 hon c0 K1
 go_wp2_with fail
 refine hm EE2 ?_;rintro x w3 ⟨rfl,K3⟩;have EE3:=E3 w3 (hp2.keep0 K3);replace hb1:=K3.at_ hb1 (fun x=>x);replace c1:=K3.cellF c1;replace c2:=K3.cellF c2;replace c3:=K3.cellF c3;replace c4:=K3.cellF c4;replace c5:=K3.cellF c5;replace K3:=K2.trans K3;clear EE2 E3 hp2 K2
 go_wp2_with fail
 refine hm EE3 ?_;rintro x w4 ⟨rfl,K4⟩;replace hb1:=K4.at_ hb1 (fun x=>x);replace c2:=K4.cellF c2;replace c3:=K4.cellF c3;replace c4:=K4.cellF c4;replace c5:=K4.cellF c5;replace K4:=K3.trans K4;clear EE3 K3 c1
 go_wp2_with (refine wpList_load_row rfl 26 (.tmp 4) rfl sb rfl 26 AA (0,0) da hb1 hdA (by cases da <;> first | rfl | exact absurd hdAa (by simp [isAggD])) aI ?_)
 refine Calls.mono (Hid.out (E4 _)) ?_;rintro x w5 ⟨rfl,K5⟩;replace c2:=K5.cellF c2;replace c3:=K5.cellF c3;replace c4:=K5.cellF c4;replace c5:=K5.cellF c5;replace K5:=K4.trans K5;clear E4 hb1 K4;obtain ⟨hx1,hx2⟩:=hx;obtain ⟨hy1,hy2⟩:=hy;obtain ⟨hz1,hz2⟩:=hz
 have ht16' : (tm.size : Int) ≤ 16:=by omega
 go_wp2;go_ret;exact ⟨rfl,K5⟩
theorem sound_any {lv : Value} {n : Nat} (hI : IntsR w w.heap.size lv n) (hn : n ≤ maxLen) (ev : ByteArray) (hsz : ev.size ≤ 140737488351232) :
 Calls Tryz.prog 12 #[lv,.string ev] w fun x w'=>x = .returned (.bool true) ∧ Below w.heap.size w w':=by
 obtain ⟨da,hdA,hdAa⟩:=Tryz.undAs;have E0:=hid (mbuild_any w hI hn);clear hI hn
 go_enter Tryz.func12,Tryz.ntmps12
 go_wp2_with fail
 refine hm E0 ?_;rintro x w1 ⟨L,P,pv,rfl,ho1,B1,hP,hW,hL⟩;obtain ⟨ol,hR,hRd⟩:=Ch.built_rdc hP hW hL;obtain ⟨pg,pcap,rfl,hp1⟩:=PtB.of ho1 (by obtain ⟨k,h1,_⟩:=hP.root;exact (List.getElem?_eq_some_iff.1 h1).1);have HR:=hid (And.intro hR (And.intro hP hRd));generalize strOfNums L = T at HR;clear E0 hP hW hL hR hRd ho1;have E1:=hid (head_any w1)
 go_wp2_with fail
 refine hm E1 ?_;rintro x w2 ⟨rfl,K2⟩;have B2:=B1.trans (kp0_below K2 B1.size);have hp2:=hp1.keep0 K2;have E2:=hid (grown_any w2 (pcap:=pcap) HR.out.1 HR.out.2.2 hp2);clear E1 K2 B1 hp1
 go_wp2_with fail
 refine hm E2 ?_;rintro x w3 ⟨rfl,K3⟩;have B3:=B2.trans (kp0_below K3 B2.size);have hp3:=hp2.keep0 K3;clear E2 K3 B2 hp2;have E3:=cStart_any w3 T
 rcases Ch.cStart_good HR.out.1 with ⟨s0,o0,hs,hg⟩ | ⟨o0,hs⟩
 rotate_left
 ·rw [hs] at E3
  simp only at E3;replace E3:=hid E3;have rO:=asOne Ch.as0;have rI:=asInfo Ch.as0;have rS : (asA Ch.as0).size = 6:=rfl
  have ES:=fun W=>hid (same_any W Ch.as0)
  have HB:=hid (show Tryz.prog.built 26 [] = some (asA Ch.as0) by kernel_rfl);generalize asA Ch.as0 = A0 at *
  go_wp2_with fail
  refine hm E3 ?_;rintro x w4 ⟨rfl,K4⟩;have hnew:=heap_alloc_new w4 (.cells y6S 26);have h5s:=setRow_heap (w4.alloc (.cells y6S 26)) w4.heap.size y6S A0 26 (0,0) hnew;have K5 : Kp (fun _=>False) w4 ((w4.alloc (.cells y6S 26)).setRow w4.heap.size A0):=((Kp.refl _ _).alloc _).setRow (fun x=>by omega) _;have B5:=B3.trans (kp0_below (K4.trans K5) B3.size);clear E3 K4 K5
  go_upto_region 7 with (refine wpList_store_row rfl 26 (.tmp 9) (.tmp 35) rfl w4.heap.size A0 rfl rfl 26 y6S hnew rI (by rw [rS];rfl) rO ?_)
  generalize (w4.alloc (.cells y6S 26)).setRow w4.heap.size A0 = w5 at *;generalize w4.heap.size = sb at *;clear hnew
  go_wp2_with (first | (refine wpList_build_eq rfl 26 #[] rfl A0 [] ?_ HB.out ?_;rfl) | refine wpList_load_row rfl 26 (.tmp 9) rfl sb rfl 26 A0 (0,0) da h5s hdA (by cases da <;> first | rfl | exact absurd hdAa (by simp [isAggD])) rI ?_)
  refine Calls.mono (Hid.out (ES _)) ?_;rintro x w6 ⟨rfl,K6⟩;have B6:=B5.trans (kp0_below K6 B5.size);clear ES K6;go_wp2;go_ret;exact ⟨rfl,B6⟩
 rw [hs] at E3;simp only at E3;replace E3:=hid E3;have HG:=hid hg
 have EF:=fun W h=>hid (fine_any W (pcap:=pcap) HR.out.1 HR.out.2.1 HR.out.2.2 hg (pg:=pg) h)
 clear hs hg;have rO:=asOne (Ch.asOf ol.sts s0);have rI:=asInfo (Ch.asOf ol.sts s0);have rS : (asA (Ch.asOf ol.sts s0)).size = 6:=rfl;generalize hA0 : asA (Ch.asOf ol.sts s0) = A0 at *;have HA0:=hid hA0;clear hA0
 go_wp2_with fail
 refine hm E3 ?_;rintro x w4 ⟨rfl,K4⟩;have hnew:=heap_alloc_new w4 (.cells y6S 26);have h5s:=setRow_heap (w4.alloc (.cells y6S 26)) w4.heap.size y6S A0 26 (0,0) hnew;have K5 : Kp (fun _=>False) w4 ((w4.alloc (.cells y6S 26)).setRow w4.heap.size A0):=((Kp.refl _ _).alloc _).setRow (fun x=>by omega) _;have hp5:=hp3.keep0 (K4.trans K5);have B5:=B3.trans (kp0_below (K4.trans K5) B3.size)
 have hsb : w.heap.size ≤ w4.heap.size:=by have:=B3.size;have:=K4.size;omega
 clear E3 K4 K5 B3 hp3
 go_upto_region 9 with (refine wpList_store_row rfl 26 (.tmp 9) (.tmp 35) rfl w4.heap.size A0 rfl rfl 26 y6S hnew rI (by rw [rS];rfl) rO ?_)
 generalize (w4.alloc (.cells y6S 26)).setRow w4.heap.size A0 = w5 at *;generalize w4.heap.size = sb at *;clear hnew
 go_wp2_with (refine wpList_load_row rfl 26 (.tmp 9) rfl sb rfl 26 A0 (0,0) da h5s hdA (by cases da <;> first | rfl | exact absurd hdAa (by simp [isAggD])) rI ?_)
 refine Calls.mono (Hid.out (EF _ hp5)) ?_;rintro x w6 ⟨rfl,K6⟩
 have h6s : AsR w6 sb (Ch.asOf ol.sts s0):=by unfold AsR;rw [HA0.out];exact K6.at_ h5s (fun x=>x)
 have hp6:=hp5.keep0 K6;have B6:=B5.trans (kp0_below K6 B5.size);clear EF K6 h5s hp5 B5 HA0 rO rI rS;have HS:=hid (And.intro h6s (And.intro hp6 B6));clear h6s hp6 B6
 go_wp2_with fail
 go_loopw [13] (fun i wr=>∃ (k : Nat) (s : Ch.Sd),i = .int .i64 k ∧ k ≤ ev.size ∧ Hid (Ch.Good ol s ∧ AsR wr sb (Ch.asOf ol.sts s) ∧ PtB wr pg P ∧ Below w.heap.size w wr)) (fun i _=>ev.size - (intOf i).toNat)
 case atStart=>exact ⟨0,s0,rfl,Nat.zero_le _,hid ⟨HG.out,HS.out.1,HS.out.2.1,HS.out.2.2⟩⟩
 case round =>
  obtain ⟨k,s,rfl,hk,HH⟩:=hrel;clear HS HG;obtain ⟨g,hsr,hpr,BR⟩:=HH.out;clear HH
  by_cases hkl : k < ev.size
  ·have hkl' : (k : Int) < (ev.size : Int):=by omega
   have hy0 : (0 : Int) ≤ (((ev[k]'hkl).toNat : Nat) : Int):=by omega
   have hy1 : (((ev[k]'hkl).toNat : Nat) : Int) < 256:=by have:=(ev[k]'hkl).toNat_lt;omega
   have EG1:=fun W=>hid (goes_any W 17 (by omega) T (Ch.asOf ol.sts s) (((ev[k]'hkl).toNat : Nat) : Int) g.sm (fun _ _=>(Ch.goes_good HR.out.1 g hy0 hy1).2))
   have HG1:=hid (Ch.goes_good HR.out.1 g hy0 hy1).1;have HG:=hid g;clear g;have rO:=asOne (Ch.asOf ol.sts s);have rI:=asInfo (Ch.asOf ol.sts s);have rS : (asA (Ch.asOf ol.sts s)).size = 6:=rfl;have hnp:=hpr.ne hsr;unfold AsR at hsr;generalize hA : asA (Ch.asOf ol.sts s) = A at *;have HA:=hid hA;clear hA;generalize hb : (((ev[k]'hkl).toNat : Nat) : Int) = y at *;generalize hgr : Ch.goes 17 T (Ch.asOf ol.sts s) y = r3 at EG1 HG1;obtain ⟨ra,ro,re⟩:=r3;simp only at EG1;have qO:=asOne ra;have qI:=asInfo ra;have qS : (asA ra).size = 6:=rfl;generalize hRA : asA ra = RA at *;have HRA:=hid hRA;clear hRA hgr
   go_upto_region 15 with (fail)
   go_cut [14,15,16] from 59 to 68 (fun v14 v15 v16 wx=>∃ tb,v14 = .pointer (some ⟨tb,0,none⟩) ∧ v15 = .string ro ∧ v16 = .int .i64 re ∧ wx.heap[tb]? = some (.cells RA 26 (0,0)) ∧ wx.heap[sb]? = some (.cells A 26 (0,0)) ∧ PtB wx pg P ∧ Below w.heap.size w wx)
   case first =>
    have hS0 : wr.drew.heap[sb]? = some (.cells A 26 (0,0)):=hsr;have BD : Below w.heap.size w wr.drew:=BR.trans (kp0_below ((Kp.refl (fun _=>False) wr).drew) BR.size);have hpd : PtB wr.drew pg P:=hpr.keep0 ((Kp.refl (fun _=>False) wr).drew);refine region_begin (fun w'=>w'.heap[sb]? = some (.cells A 26 (0,0))) (by kernel_rfl) ?_;refine tk 0 60 (.string T) rfl (by kernel_rfl) rfl rfl (fun w' _=>by simp [execOp,Act.eval,go_sem]) hS0 ?_;simp only [Act.put,pA,pB,pC];refine tk 1 61 (.agg A) rfl (by kernel_rfl) rfl rfl (fun w' hS=>exec_load_row 26 (.tmp 9) rfl sb rfl 26 A (0,0) da hS hdA (by cases da <;> first | rfl | exact absurd hdAa (by simp [isAggD])) rI) hS0 ?_;simp only [Act.put,pA,pB,pC];refine tk 2 62 (.string ev) rfl (by kernel_rfl) rfl rfl (fun w' _=>by simp [execOp,Act.eval,go_sem]) hS0 ?_;simp only [Act.put,pA,pB,pC];refine tk 3 63 (.int .i64 (k : Int)) rfl (by kernel_rfl) rfl rfl (fun w' _=>by simp [execOp,Act.eval,go_sem]) hS0 ?_;simp only [Act.put,pA,pB,pC];refine tk 4 64 (.int .u8 y) rfl (by kernel_rfl) rfl rfl (fun w' _=>by simp [execOp,Act.eval,go_sem,hkl',hb]) hS0 ?_;simp only [Act.put,pA,pB,pC];refine do_two 5 10 (by kernel_rfl) rfl rfl rfl rfl ?_ ?_
    ·refine wp_enter (some 65) rfl 30 #[.string T,.agg A,.int .u8 y] (by simp [execOp,Act.eval,go_sem]) _ (fun w'=>Kp (fun _=>False) wr.drew w') (EG1 _).out ?_
     intro w7 K7;have h7s:=K7.at_ hS0 (fun x=>x);have hlt:=lt_of_block h7s;have hnew:=heap_alloc_new w7 (.cells y6S 26);have KA : Kp (fun _=>False) w7 ((w7.alloc (.cells y6S 26)).setRow w7.heap.size RA):=((Kp.refl _ _).alloc _).setRow (fun x=>by omega) _;have h8s:=((Kp.refl (fun _=>False) w7).alloc (.cells y6S 26)).at_ h7s (fun x=>x);have h9s:=KA.at_ h7s (fun x=>x);have h9t:=setRow_heap (w7.alloc (.cells y6S 26)) w7.heap.size y6S RA 26 (0,0) hnew;have hp9:=hpd.keep0 (K7.trans KA);have B9:=BD.trans (kp0_below (K7.trans KA) BD.size);refine ⟨h7s,?_⟩;simp only [Act.put,pA,pB,pC];refine tk 6 59 (.tuple #[.agg RA,.string ro,.int .i64 re]) rfl (by kernel_rfl) rfl rfl (fun w' _=>by simp [execOp,Act.eval,go_sem]) h7s ?_;simp only [Act.put,pA,pB,pC];refine tk 7 66 (.agg RA) rfl (by kernel_rfl) rfl rfl (fun w' _=>by simp [execOp,Act.eval,go_sem]) h7s ?_;simp only [Act.put,pA,pB,pC];refine tk 8 67 (.string ro) rfl (by kernel_rfl) rfl rfl (fun w' _=>by simp [execOp,Act.eval,go_sem]) h7s ?_;simp only [Act.put,pA,pB,pC];refine tk 9 68 (.int .i64 re) rfl (by kernel_rfl) rfl rfl (fun w' _=>by simp [execOp,Act.eval,go_sem]) h7s ?_;simp only [Act.put,pA,pB,pC];refine do_op 10 (by kernel_rfl) rfl rfl ?_;refine wp_run (some 14) rfl (.pointer (some ⟨w7.heap.size,0,none⟩)) (w7.alloc (.cells y6S 26)) (by simp [execOp,go_sem]) ?_;refine ⟨h8s,?_⟩;simp only [Act.put,pA,pB,pC];refine do_store 11 (by kernel_rfl) rfl rfl 26 (.tmp 14) (.tmp 66) rfl rfl w7.heap.size RA (by simp [Act.eval]) (by simp [Act.eval]) 26 y6S hnew qI (by rw [qS];rfl) qO h9s ?_;refine tk 12 15 (.string ro) rfl (by kernel_rfl) rfl rfl (fun w' _=>by simp [execOp,Act.eval,go_sem]) h9s ?_;simp only [Act.put,pA,pB,pC];refine tk 13 16 (.int .i64 re) rfl (by kernel_rfl) rfl rfl (fun w' _=>by simp [execOp,Act.eval,go_sem]) h9s ?_;simp only [Act.put,pA,pB,pC];refine wpAnyH_done (by kernel_rfl) (NoPanic.normal ?_) _
     go_wp2_with fail
     go_meet
     exact ⟨w7.heap.size,rfl,rfl,rfl,h9t,h9s,hp9,B9⟩
    refine wp_run (some 14) rfl (.pointer (some ⟨wr.heap.size,0,none⟩)) (wr.drew.alloc (.cells y6S 26)) (by simp [execOp,go_sem]) ?_;have hnew:=heap_alloc_new wr.drew (.cells y6S 26);have KA:=(Kp.refl (fun _=>False) wr.drew).alloc (.cells y6S 26);have h6s:=KA.at_ hS0 (fun x=>x);refine ⟨h6s,?_⟩;simp only [Act.put,pA,pB,pC];refine do_op 5 (by kernel_rfl) rfl rfl ?_;refine wp_enter (some 65) rfl 30 #[.string T,.agg A,.int .u8 y] (by simp [execOp,Act.eval,go_sem]) _ (fun w'=>Kp (fun _=>False) (wr.drew.alloc (.cells y6S 26)) w') (EG1 _).out ?_;intro w7 K7;have h7s:=K7.at_ h6s (fun x=>x);have h7t:=K7.at_ hnew (fun x=>x);have hlt:=lt_of_block hsr
    have hne : sb ≠ wr.drew.heap.size:=by show sb ≠ wr.heap.size;omega
    have h9s : (w7.setRow wr.drew.heap.size RA).heap[sb]? = some (.cells A 26 (0,0)):=(setRow_other _ _ _ _ hne).trans h7s;have h9t:=setRow_heap w7 wr.drew.heap.size _ RA 26 (0,0) h7t;have KB : Kp (fun _=>False) wr.drew (w7.setRow wr.drew.heap.size RA):=(KA.trans K7).setRow (fun x=>by omega) _;have hp9:=hpd.keep0 KB;have B9:=BD.trans (kp0_below KB BD.size);refine ⟨h7s,?_⟩;simp only [Act.put,pA,pB,pC];refine tk 6 59 (.tuple #[.agg RA,.string ro,.int .i64 re]) rfl (by kernel_rfl) rfl rfl (fun w' _=>by simp [execOp,Act.eval,go_sem]) h7s ?_;simp only [Act.put,pA,pB,pC];refine tk 7 66 (.agg RA) rfl (by kernel_rfl) rfl rfl (fun w' _=>by simp [execOp,Act.eval,go_sem]) h7s ?_;simp only [Act.put,pA,pB,pC];refine tk 8 67 (.string ro) rfl (by kernel_rfl) rfl rfl (fun w' _=>by simp [execOp,Act.eval,go_sem]) h7s ?_;simp only [Act.put,pA,pB,pC];refine tk 9 68 (.int .i64 re) rfl (by kernel_rfl) rfl rfl (fun w' _=>by simp [execOp,Act.eval,go_sem]) h7s ?_;simp only [Act.put,pA,pB,pC];refine do_store 11 (by kernel_rfl) rfl rfl 26 (.tmp 14) (.tmp 66) rfl rfl wr.drew.heap.size RA (by simp [Act.eval]) (by simp [Act.eval]) 26 y6S h7t qI (by rw [qS];rfl) qO h9s ?_;refine tk 12 15 (.string ro) rfl (by kernel_rfl) rfl rfl (fun w' _=>by simp [execOp,Act.eval,go_sem]) h9s ?_;simp only [Act.put,pA,pB,pC];refine tk 13 16 (.int .i64 re) rfl (by kernel_rfl) rfl rfl (fun w' _=>by simp [execOp,Act.eval,go_sem]) h9s ?_;simp only [Act.put,pA,pB,pC];refine wpAnyH_done (by kernel_rfl) (NoPanic.normal ?_) _
    go_wp2_with fail
    go_meet
    exact ⟨wr.drew.heap.size,rfl,rfl,rfl,h9t,h9s,hp9,B9⟩
   case rest =>
    obtain ⟨tb,rfl,rfl,rfl,h9t,h9s,hp9,B9⟩:=hcut;clear EG1 hsr hpr BR
    rcases HG1.out with ⟨s',o',hgo,hg'⟩ | ⟨o',hgo⟩
    ·simp only [Prod.mk.injEq] at hgo
     obtain ⟨rfl,rfl,rfl⟩:=hgo;have EF:=hid (fine_any wc (pcap:=pcap) HR.out.1 HR.out.2.1 HR.out.2.2 hg' hp9);rw [HRA.out] at EF;have HG':=hid hg';clear hg'
     go_wp2_with (refine wpList_load_row rfl 26 (.tmp 14) rfl tb rfl 26 RA (0,0) da h9t hdA (by cases da <;> first | rfl | exact absurd hdAa (by simp [isAggD])) qI ?_)
     refine hm EF ?_;rintro x w10 ⟨rfl,K10⟩;have h10t:=K10.at_ h9t (fun x=>x);have h10s:=K10.at_ h9s (fun x=>x);have hp10:=hp9.keep0 K10;have B10:=B9.trans (kp0_below K10 B9.size);have h12s : (w10.setRow sb RA).heap[sb]? = some (.cells RA 26 (0,0)):=setRow_heap _ _ _ _ _ _ h10s;have KS:=(Kp.refl (fun k=>k = sb) w10).setRow (g:=sb) (fun _=>rfl) RA;have hp12:=hp10.keep KS hnp;have B12:=B10.trans (KS.below B10.size (fun i x=>by omega));clear EF K10 h9t h9s hp9 B9 hp10 B10 KS
     go_wp2_with (first | refine wpList_load_row rfl 26 (.tmp 14) rfl tb rfl 26 RA (0,0) da h10t hdA (by cases da <;> first | rfl | exact absurd hdAa (by simp [isAggD])) qI ?_ | refine wpList_store_row rfl 26 (.tmp 9) (.tmp 81) rfl sb RA rfl rfl 26 A h10s qI (by rw [rS,qS]) qO ?_)
     go_roundw
     case rel=>exact ⟨k + 1,s',by go_num,by omega,hid ⟨HG'.out,by unfold AsR;rw [HRA.out];exact h12s,hp12,B12⟩⟩
     case measure=>simp [intOf];omega
    simp only [Prod.mk.injEq] at hgo;obtain ⟨rfl,rfl,rfl⟩:=hgo
    go_wp2_with fail
    go_roundw
    case rel=>exact ⟨k + 1,s,by go_num,by omega,hid ⟨HG.out,by unfold AsR;rw [HA.out];exact h9s,hp9,B9⟩⟩
    case measure=>simp [intOf];omega
  have hkl' : ¬ (k : Int) < (ev.size : Int):=by omega
  go_wp2;go_ret;exact ⟨rfl,BR⟩
end
open Go.ChangeShapes Go.WideShapes Go.ChangeAt Go.RowKit
theorem sound_closed : joinedFacts Tryz.prog 12 Tryz.f12 Rows.soundSpec Rows.soundRow = true:=by
 unfold joinedFacts
 repeat' (with_reducible refine Bool.and_eq_true_iff.2 ⟨?_,?_⟩)
 all_goals (as_aux_lemma=>kernel_rfl)
end Go.Proofs.YtnlbchmfcebeeaaGreat
