import Derived.Test.YtnlbchmfcebeeaaGreatTE6
import Derived.Test.YtnlbchmfcebeeaaGreatTE7
set_option maxHeartbeats 12800000
set_option maxRecDepth 100000
namespace Go.Proofs.YtnlbchmfcebeeaaGreat
open Go.RowKit
namespace Ch
theorem rounds_succ (ol : Ol) (n : Nat) (m : Ma) : rounds ol (n + 1) m = if busy ol m then rounds ol n (round ol m) else m:=rfl
theorem rounds_idle {ol : Ol} {m : Ma} (h : busy ol m = false) : ∀ n,rounds ol n m = m:=by
 intro n
 cases n with
 | zero=>rfl
 | succ n=>rw [rounds_succ,h];rfl
end Ch
section
variable (w : World) (B mb ob po : Nat) (ol : Ch.Ol)
theorem finish_any (m : Ch.Ma) (n : Nat) (hn : n ≤ 30) (hp : Pl w ob po ol) (hol : ol.Ok) (hm : Mm w B mb ob po m) (hs : m.s.Ok) (hB : B ≤ w.heap.size) (hz : m.Sz 500000000) :
 Calls Tryz.prog 72 #[.pointer (some ⟨mb,0,none⟩),.int .i64 n] w fun x w' =>
  x = .returned (.tuple #[.agg (sdAll (Ch.finish ol n m).1).toArray,.string (Ch.finish ol n m).2.1,.int .i64 (Ch.finish ol n m).2.2]) ∧ Kp (km B mb w) w w':=by
 obtain ⟨ds,hds,hda⟩:=Tryz.undStand;have hr1:=heap_alloc_new w (.cells yS36 95);have K1 : Kp (fun _=>False) w (w.alloc (.cells yS36 95)):=(Kp.refl _ _).alloc _;have hM1:=hm.still K1;have hp1 : Pl (w.alloc (.cells yS36 95)) ob po ol:=hp.keep K1 (fun _ _ _ _ _ x=>x);have hmlt:=hm.lt;clear hp hm
 go_enter Tryz.func72,Tryz.ntmps72
 go_wp2_with fail
 generalize w.alloc (.cells yS36 95) = w1 at *;generalize hrb : w.heap.size = rb at *
 go_loopw [7] (fun i wr=>∃ (k : Nat) (m' : Ch.Ma),i = .int .i64 k ∧ k ≤ n ∧ Hid (Ch.rounds ol n m = Ch.rounds ol (n - k) m') ∧ Mm wr B mb ob po m' ∧ m'.s.Ok ∧ m'.Sz (500000000 + 3900000 * k) ∧ Kp (km B mb w1) w1 wr) (fun i _=>n - (intOf i).toNat)
 case atStart=>exact ⟨0,m,rfl,Nat.zero_le _,hid rfl,hM1,hs,hz,Kp.refl _ _⟩
 case round =>
  obtain ⟨k,m',rfl,hk,HE,hm',hs',hz',KW⟩:=hrel;have hpr : Pl wr ob po ol:=hM1.pl KW hp1;have hrr:=hM1.at_ KW hr1 (by decide) (by decide)
  have hBr : B ≤ wr.heap.size:=by have:=KW.size;have:=K1.size;omega
  have E1:=hid (busy_any wr B mb ob po ol m' hpr hol hm' hs');have HX:=hid (And.intro hm' (And.intro hpr (And.intro hrr KW)));clear hm' hpr hrr KW
  by_cases hlt : k < n
  ·have hlt' : (k : Int) < (n : Int):=by omega
   have ef : n - k = (n - (k + 1)) + 1:=by omega
   cases q : Ch.busy ol m' with
   | true =>
     rw [q] at E1;have HF:=hid (HE.out.trans (show _ = Ch.rounds ol (n - (k + 1)) (Ch.round ol m') by rw [ef,Ch.rounds_succ,q];rfl));have hs2:=Ch.round_ok (ol:=ol) hs';have hz2:=Ch.round_sz hol hz';clear HE ef
     go_wp2_with fail
     refine cMo E1 ?_;rintro x w2 ⟨rfl,K2⟩;obtain ⟨hm',hpr,hrr,KW⟩:=HX.out;have M2:=hm'.still K2;have hp2 : Pl w2 ob po ol:=hpr.keep K2 (fun _ _ _ _ _ x=>x);have E2:=hid (round_any w2 B mb ob po ol m' hp2 hol M2 hs' (by have:=K2.size;omega) (hz'.le (by omega)));have K3:=Km.trans KW (Kp.km K2);clear hm' hpr hrr KW HX E1 M2 hp2 K2
     go_wp2_with fail
     refine cMo E2 ?_;rintro x w3 ⟨rfl,M3,K4⟩;have K5:=Km.trans K3 K4;clear E2 K3 K4;go_wp2
     go_roundw
     case rel=>exact ⟨k + 1,_,by go_num,by omega,HF,M3,hs2,hz2.le (by omega),K5⟩
     case measure=>simp [intOf];omega
   | false=>?_
   rw [q] at E1
   have HF:=hid (show Ch.finish ol n m = (m'.s,strOfNums m'.out,0) by
    have e:=HE.out.trans (Ch.rounds_idle q _)
    unfold Ch.finish;rw [e,q];rfl)
   clear HE ef
   go_wp2_with fail
   refine cMo E1 ?_;rintro x w2 ⟨rfl,K2⟩;obtain ⟨hm',hpr,hrr,KW⟩:=HX.out;have M2:=hm'.still K2;have hp2 : Pl w2 ob po ol:=hpr.keep K2 (fun _ _ _ _ _ x=>x);have hr2:=K2.at_ hrr (fun x=>x);have E2:=hid (busy_any w2 B mb ob po ol m' hp2 hol M2 hs');rw [q] at E2;have K3:=Km.trans KW (Kp.km K2);have HY:=hid (And.intro M2 (And.intro hr2 K3));clear hm' hpr hrr KW HX E1 M2 hp2 K2 hr2 K3
   go_wp2_with fail
   refine cMo E2 ?_;rintro x w3 ⟨rfl,K4⟩;obtain ⟨M2,hr2,K3⟩:=HY.out;have M3:=M2.still K4;have hr3:=K4.at_ hr2 (fun x=>x);have K5:=Km.trans K3 (Kp.km K4);obtain ⟨qv,ov,hmb,oq,oo,ap⟩:=id M3;clear HY E2 M2 hr2 K3 K4
   go_upto_region 7 with (fail)
   refine region_begin (fun w'=>MaB w' mb ob po m'.s qv ov ∧ OwnsQ w' B ov (byCells m'.out)) (by kernel_rfl) ?_
   have hS0 : MaB w3.drew mb ob po m'.s qv ov ∧ OwnsQ w3.drew B ov (byCells m'.out):=⟨hmb,oo⟩
   have hlI : (Tryz.prog.info? 95).map (·.size) = some (sdAll m'.s).length:=by rw [sdAll_len hs'.1];exact Tryz.sizeStand
   have hne : mb ≠ rb:=by
    intro e;have h1 : w3.heap[mb]? = some (.cells _ 149 (0,0)):=hmb;rw [e,hr3] at h1;simp at h1
   have hS1 : MaB (w3.drew.setRow rb (sdAll m'.s).toArray) mb ob po m'.s qv ov ∧ OwnsQ (w3.drew.setRow rb (sdAll m'.s).toArray) B ov (byCells m'.out):=by
    have n1:=oo.ne hr3 (by decide);have KR : Kp (fun k=>k = rb) w3.drew (w3.drew.setRow rb (sdAll m'.s).toArray):=Kp.setRow (S:=fun k=>k = rb) (Kp.refl _ _) (g:=rb) (fun _=>rfl) _;exact ⟨SdB.keep (w:=w3.drew) hmb KR hne,OwnsQ.keep (w:=w3.drew) oo KR (fun i hi x=>by subst x;exact n1 hi)⟩
   have KF : Kp (km B mb w) w (w3.drew.setRow rb (sdAll m'.s).toArray):=((Km.trans (Kp.km K1) K5).drewN 1).setRow (fun x=>by omega) _;refine tk 0 22 (.pointer (some ⟨mb,0,none⟩)) rfl (by kernel_rfl) rfl rfl (fun w' _=>by rfl) hS0 ?_;refine tk 1 23 (.pointer (some ⟨mb,0,none⟩)) rfl (by kernel_rfl) rfl rfl (fun w' _=>by simp [execOp,Act.eval,Act.put,go_sem]) hS0 ?_;refine tk 2 24 (.pointer (some ⟨mb,1,none⟩)) rfl (by kernel_rfl) rfl rfl (fun w' _=>by simp [execOp,Act.eval,Act.put,go_sem]) hS0 ?_;refine tk 3 25 (.agg (sdAll m'.s).toArray) rfl (by kernel_rfl) rfl rfl (fun w' hS=>exec_load_part 95 (.tmp 24) rfl mb 1 (by simp [Act.eval,Act.put]) (sdAll m'.s) ds hS.1.stand hds hda hlI) hS0 ?_;refine tk 4 26 (.pointer (some ⟨mb,0,none⟩)) rfl (by kernel_rfl) rfl rfl (fun w' _=>by simp [execOp,Act.eval,Act.put,go_sem]) hS0 ?_;refine tk 5 27 (.pointer (some ⟨mb,0,none⟩)) rfl (by kernel_rfl) rfl rfl (fun w' _=>by simp [execOp,Act.eval,Act.put,go_sem]) hS0 ?_;refine tk 6 28 (.pointer (some ⟨mb,38,none⟩)) rfl (by kernel_rfl) rfl rfl (fun w' _=>by simp [execOp,Act.eval,Act.put,go_sem]) hS0 ?_;refine tk 7 29 ov rfl (by kernel_rfl) rfl rfl (fun w' hS=>by have c:=hS.1.out hs'.1;simp [execOp,Act.eval,Act.put,go_sem,c]) hS0 ?_;refine tk 8 30 (.string (strOfNums m'.out)) rfl (by kernel_rfl) rfl rfl (fun w' hS=>exec_convert 47 9 (.tmp 29) rfl ov _ (by simp [Act.eval,Act.put]) (run_textQ hS.2)) hS0 ?_;refine do_store 9 (by kernel_rfl) rfl rfl 95 (.tmp 4) (.tmp 25) rfl rfl rb (sdAll m'.s).toArray (by simp [Act.eval,Act.put]) (by simp [Act.eval,Act.put]) 95 yS36 (by exact hr3) (sdInfo hs'.1) (by rw [sdSize hs'.1];rfl) (sdOne _) hS1 ?_;refine tk 10 5 (.string (strOfNums m'.out)) rfl (by kernel_rfl) rfl rfl (fun w' _=>by simp [execOp,Act.eval,Act.put,go_sem]) hS1 ?_;refine tk 11 6 (.int .i64 0) rfl (by kernel_rfl) rfl rfl (fun w' _=>by rfl) hS1 ?_;refine wpAnyH_done (by kernel_rfl) (NoPanic.normal ?_) _;simp only [Act.put,pA,pB,pC];go_wp2;refine bodyPost_ret (results_cell_tmp2 rfl _ _ rb 95 (sdAll m'.s).toArray (0,0) ds rfl (setRow_heap w3.drew _ _ _ _ _ (by exact hr3)) hds hda (sdInfo hs'.1)) rfl ?_;rw [HF.out];exact ⟨rfl,KF⟩
  have hge : ¬ (k : Int) < (n : Int):=by omega
  have ek : n - k = 0:=by omega
  cases q : Ch.busy ol m' with
  | true =>
    rw [q] at E1
    have HF:=hid (show Ch.finish ol n m = (Ch.noSd,ByteArray.empty,9) by
     have e : Ch.rounds ol n m = m':=HE.out.trans (by rw [ek];rfl)
     unfold Ch.finish;rw [e,q];rfl)
    clear HE ek
    go_wp2_with fail
    refine cMo E1 ?_;rintro x w2 ⟨rfl,K2⟩;obtain ⟨hm',hpr,hrr,KW⟩:=HX.out;have hr2:=K2.at_ hrr (fun x=>x);have K3:=Km.trans (Kp.km K1) (Km.trans KW (Kp.km K2));have KF : Kp (km B mb w) w (w2.setRow rb yS36):=K3.setRow (fun x=>by omega) _;clear hm' hpr hrr KW HX E1 K2 K3
    go_wp2_with (refine wpList_store_row rfl 95 (.tmp 4) (.tmp 21) rfl rb yS36 rfl rfl 95 yS36 hr2 Tryz.sizeStand rfl zsdOne ?_)
    refine bodyPost_ret (results_cell_tmp2 rfl _ _ rb 95 yS36 (0,0) ds rfl (setRow_heap _ _ _ _ _ _ hr2) hds hda Tryz.sizeStand) rfl ?_;rw [HF.out];exact ⟨rfl,KF⟩
  | false=>?_
  rw [q] at E1
  have HF:=hid (show Ch.finish ol n m = (m'.s,strOfNums m'.out,0) by
   have e : Ch.rounds ol n m = m':=HE.out.trans (by rw [ek];rfl)
   unfold Ch.finish;rw [e,q];rfl)
  clear HE ek
  go_wp2_with fail
  refine cMo E1 ?_;rintro x w3 ⟨rfl,K4⟩;obtain ⟨hm',hpr,hrr,KW⟩:=HX.out;have M3:=hm'.still K4;have hr3:=K4.at_ hrr (fun x=>x);have K5:=Km.trans KW (Kp.km K4);obtain ⟨qv,ov,hmb,oq,oo,ap⟩:=id M3;clear HX E1 hm' hpr hrr KW K4
  go_upto_region 7 with (fail)
  refine region_begin (fun w'=>MaB w' mb ob po m'.s qv ov ∧ OwnsQ w' B ov (byCells m'.out)) (by kernel_rfl) ?_
  have hS0 : MaB w3.drew mb ob po m'.s qv ov ∧ OwnsQ w3.drew B ov (byCells m'.out):=⟨hmb,oo⟩
  have hlI : (Tryz.prog.info? 95).map (·.size) = some (sdAll m'.s).length:=by rw [sdAll_len hs'.1];exact Tryz.sizeStand
  have hne : mb ≠ rb:=by
   intro e;have h1 : w3.heap[mb]? = some (.cells _ 149 (0,0)):=hmb;rw [e,hr3] at h1;simp at h1
  have hS1 : MaB (w3.drew.setRow rb (sdAll m'.s).toArray) mb ob po m'.s qv ov ∧ OwnsQ (w3.drew.setRow rb (sdAll m'.s).toArray) B ov (byCells m'.out):=by
   have n1:=oo.ne hr3 (by decide);have KR : Kp (fun k=>k = rb) w3.drew (w3.drew.setRow rb (sdAll m'.s).toArray):=Kp.setRow (S:=fun k=>k = rb) (Kp.refl _ _) (g:=rb) (fun _=>rfl) _;exact ⟨SdB.keep (w:=w3.drew) hmb KR hne,OwnsQ.keep (w:=w3.drew) oo KR (fun i hi x=>by subst x;exact n1 hi)⟩
  have KF : Kp (km B mb w) w (w3.drew.setRow rb (sdAll m'.s).toArray):=((Km.trans (Kp.km K1) K5).drewN 1).setRow (fun x=>by omega) _;refine tk 0 22 (.pointer (some ⟨mb,0,none⟩)) rfl (by kernel_rfl) rfl rfl (fun w' _=>by rfl) hS0 ?_;refine tk 1 23 (.pointer (some ⟨mb,0,none⟩)) rfl (by kernel_rfl) rfl rfl (fun w' _=>by simp [execOp,Act.eval,Act.put,go_sem]) hS0 ?_;refine tk 2 24 (.pointer (some ⟨mb,1,none⟩)) rfl (by kernel_rfl) rfl rfl (fun w' _=>by simp [execOp,Act.eval,Act.put,go_sem]) hS0 ?_;refine tk 3 25 (.agg (sdAll m'.s).toArray) rfl (by kernel_rfl) rfl rfl (fun w' hS=>exec_load_part 95 (.tmp 24) rfl mb 1 (by simp [Act.eval,Act.put]) (sdAll m'.s) ds hS.1.stand hds hda hlI) hS0 ?_;refine tk 4 26 (.pointer (some ⟨mb,0,none⟩)) rfl (by kernel_rfl) rfl rfl (fun w' _=>by simp [execOp,Act.eval,Act.put,go_sem]) hS0 ?_;refine tk 5 27 (.pointer (some ⟨mb,0,none⟩)) rfl (by kernel_rfl) rfl rfl (fun w' _=>by simp [execOp,Act.eval,Act.put,go_sem]) hS0 ?_;refine tk 6 28 (.pointer (some ⟨mb,38,none⟩)) rfl (by kernel_rfl) rfl rfl (fun w' _=>by simp [execOp,Act.eval,Act.put,go_sem]) hS0 ?_;refine tk 7 29 ov rfl (by kernel_rfl) rfl rfl (fun w' hS=>by have c:=hS.1.out hs'.1;simp [execOp,Act.eval,Act.put,go_sem,c]) hS0 ?_;refine tk 8 30 (.string (strOfNums m'.out)) rfl (by kernel_rfl) rfl rfl (fun w' hS=>exec_convert 47 9 (.tmp 29) rfl ov _ (by simp [Act.eval,Act.put]) (run_textQ hS.2)) hS0 ?_;refine do_store 9 (by kernel_rfl) rfl rfl 95 (.tmp 4) (.tmp 25) rfl rfl rb (sdAll m'.s).toArray (by simp [Act.eval,Act.put]) (by simp [Act.eval,Act.put]) 95 yS36 (by exact hr3) (sdInfo hs'.1) (by rw [sdSize hs'.1];rfl) (sdOne _) hS1 ?_;refine tk 10 5 (.string (strOfNums m'.out)) rfl (by kernel_rfl) rfl rfl (fun w' _=>by simp [execOp,Act.eval,Act.put,go_sem]) hS1 ?_;refine tk 11 6 (.int .i64 0) rfl (by kernel_rfl) rfl rfl (fun w' _=>by rfl) hS1 ?_;refine wpAnyH_done (by kernel_rfl) (NoPanic.normal ?_) _;simp only [Act.put,pA,pB,pC];go_wp2;refine bodyPost_ret (results_cell_tmp2 rfl _ _ rb 95 (sdAll m'.s).toArray (0,0) ds rfl (setRow_heap w3.drew _ _ _ _ _ (by exact hr3)) hds hda (sdInfo hs'.1)) rfl ?_;rw [HF.out];exact ⟨rfl,KF⟩
end
theorem kpOfKm {B mb : Nat} {w0 w w' : World} (hA : Kp (fun _=>False) w0 w) (k : Kp (km B mb w) w w') (hB : w0.heap.size ≤ B) (hm : w0.heap.size ≤ mb) : Kp (fun _=>False) w0 w' :=
 hA.trans' k (fun i hi x=>by rcases x with x | ⟨x,_⟩ <;> omega)
theorem Mm.new {w : World} {B mb ob po : Nat} {s : Ch.Sd} (h : w.heap[mb]? = some (.cells (maA (some ⟨ob,po,none⟩) s) 149 (0,0))) : Mm w B mb ob po ⟨s,[],[]⟩ :=
 ⟨.slice none 0 0,.slice none 0 0,MaB.ofRow h,.inl ⟨rfl,rfl⟩,.inl ⟨rfl,rfl⟩,fun i hi=>by simp [Value.ownBlock] at hi⟩
theorem InT_nil (ol : Ch.Ol) : Ch.InT ol []:=by intro n hn;simp at hn
namespace Ch
theorem rounds_ok {ol : Ol} : ∀ (n : Nat) {m : Ma},m.s.Ok → (rounds ol n m).s.Ok:=by
 intro n
 induction n with
 | zero=>intro m h;exact h
 | succ n ih=>?_
 intro m h;rw [rounds_succ]
 split
 ·exact ih (round_ok h)
 exact h
theorem noSd_ok : noSd.Ok:=⟨noSd_wf,by simp [noSd],by simp [noSd]⟩
theorem finish_ok {ol : Ol} {m : Ma} (h : m.s.Ok) (n : Nat) : (finish ol n m).1.Ok:=by
 unfold finish
 split
 ·exact noSd_ok
 exact rounds_ok n h
theorem finish_wf {ol : Ol} {m : Ma} (h : m.s.Ok) (n : Nat) : (finish ol n m).1.Wf:=(finish_ok h n).1
end Ch
section
variable (w : World) (ob po : Nat) (ol : Ch.Ol)
theorem mstart_any (hp : Pl w ob po ol) (hol : ol.Ok) :
 Calls Tryz.prog 43 #[.pointer (some ⟨ob,po,none⟩)] w fun x w' =>
  x = .returned (.tuple #[.agg (sdAll (Ch.mstart ol).1).toArray,.string (Ch.mstart ol).2.1,.int .i64 (Ch.mstart ol).2.2]) ∧ Kp (fun _=>False) w w':=by
 obtain ⟨ds,hds,hda⟩:=Tryz.undStand;have hwf:=Ch.blankSd_wf ol.sts;have hok:=Ch.blankSd_ok ol.sts;have HB:=hid (built_mach (some ⟨ob,po,none⟩) (Ch.blankSd ol.sts) hwf);have hr1:=heap_alloc_new w (.cells yS36 95);have K1 : Kp (fun _=>False) w (w.alloc (.cells yS36 95)):=(Kp.refl _ _).alloc _;have hp1 : Pl (w.alloc (.cells yS36 95)) ob po ol:=hp.keep K1 (fun _ _ _ _ _ x=>x);have E0:=hid (blank_any ob po (w.alloc (.cells yS36 95)) ol.sts hp1.str);have HU:=hid (show Ch.mstart ol = Ch.finish ol 30 (Ch.enter ol ⟨Ch.blankSd ol.sts,[],[]⟩ []) from rfl);have mI:=maA_info (some ⟨ob,po,none⟩) hwf;have mS:=maA_size (some ⟨ob,po,none⟩) hwf;have mO:=maA_one (some ⟨ob,po,none⟩) (Ch.blankSd ol.sts);clear hp
 go_enter Tryz.func43,Tryz.ntmps43
 go_wp2_with fail
 refine cMo E0 ?_;rintro x w2 ⟨rfl,K2⟩;have hr2:=K2.at_ hr1 (fun x=>x);have hp2 : Pl w2 ob po ol:=hp1.keep K2 (fun _ _ _ _ _ x=>x);have KA:=K1.trans K2;have hsz2 : w.heap.size < w2.heap.size:=lt_of_block hr2;have hnew:=heap_alloc_new w2 (.cells yP39 149);have hmr:=setRow_heap (w2.alloc (.cells yP39 149)) w2.heap.size yP39 (maA (some ⟨ob,po,none⟩) (Ch.blankSd ol.sts)) 149 (0,0) hnew;have K3 : Kp (fun _=>False) w2 ((w2.alloc (.cells yP39 149)).setRow w2.heap.size (maA (some ⟨ob,po,none⟩) (Ch.blankSd ol.sts))):=((Kp.refl _ _).alloc _).setRow (fun x=>by omega) _;have M3:=Mm.new (B:=w.heap.size) hmr;have hp3:=hp2.keep K3 (fun _ _ _ _ _ x=>x);have hr3:=K3.at_ hr2 (fun x=>x);have KB:=KA.trans K3;clear hr1 hp1 hr2 hp2 K1 K2 KA K3 E0 hmr;generalize (sdAll (Ch.blankSd ol.sts)).toArray = BL at *;generalize maA (some ⟨ob,po,none⟩) (Ch.blankSd ol.sts) = MA at *
 go_wp2_with (first | (refine wpList_build_eq rfl 149 #[(0,.tmp 6),(1,.tmp 8)] rfl MA [(0,.pointer (some ⟨ob,po,none⟩)),(1,.agg BL)] ?_ HB.out ?_;rfl) | refine wpList_store_row rfl 149 (.tmp 5) (.tmp 9) rfl w2.heap.size MA rfl rfl 149 yP39 hnew mI (by rw [mS];rfl) mO ?_)
 generalize (w2.alloc (.cells yP39 149)).setRow w2.heap.size MA = w3 at *;generalize w2.heap.size = mb at *;have hB3 : w.heap.size ≤ w3.heap.size:=KB.size;have E1:=hid (enter_any w3 w.heap.size mb ob po ol ⟨Ch.blankSd ol.sts,[],[]⟩ (.slice none 0 0) [] ⟨0,World.ownsRow_nil _ _ _ _⟩ (InT_nil ol) (by simp) hp3 hol M3 hok hB3 ⟨by simp,by simp⟩);have hok4:=Ch.enter_ok (ol:=ol) (m:=⟨Ch.blankSd ol.sts,[],[]⟩) hok [];have hz4:=Ch.enter_sz hol (m:=⟨Ch.blankSd ol.sts,[],[]⟩) (n:=0) ⟨by simp,by simp⟩ [];have HX:=hid (And.intro M3 (And.intro hp3 (And.intro hr3 KB)));clear hnew mI mS mO HB M3 hp3 hr3 KB
 go_wp2_with fail
 refine cMo E1 ?_;rintro x w4 ⟨rfl,M4,K4⟩;obtain ⟨M3,hp3,hr3,KB⟩:=HX.out;have hp4:=M3.pl K4 hp3;have hr4:=M3.at_ K4 hr3 (by decide) (by decide);have KC:=kpOfKm KB K4 (Nat.le_refl _) (by omega);generalize hm4 : Ch.enter ol ⟨Ch.blankSd ol.sts,[],[]⟩ [] = m4 at *;have HM4:=hid hm4;clear hm4;have E2:=hid (finish_any w4 w.heap.size mb ob po ol m4 30 (by omega) hp4 hol M4 hok4 KC.size (hz4.le (by omega)));have HY:=hid (And.intro M4 (And.intro hr4 KC));clear M3 hp3 hr3 KB HX K4 E1 hp4 M4 hr4 KC
 go_wp2_with fail
 refine cMo E2 ?_;rintro x w5 ⟨rfl,K5⟩;obtain ⟨M4,hr4,KC⟩:=HY.out;have hr5:=M4.at_ K5 hr4 (by decide) (by decide);have KD:=kpOfKm KC K5 (Nat.le_refl _) (by omega);clear M4 hr4 KC HY K5 E2;generalize hf : Ch.finish ol 30 m4 = fr at *;obtain ⟨fs,ft,fe⟩:=fr
 have hfw : fs.Wf:=by
  have : (Ch.finish ol 30 m4).1 = fs:=by rw [hf]
  rw [← this];exact Ch.finish_wf hok4 _
 have HF:=hid hf;clear hf;have fI:=sdInfo hfw;have fS:=sdSize hfw;have fO:=sdOne fs;have KF : Kp (fun _=>False) w (w5.setRow w.heap.size (sdAll fs).toArray):=KD.setRow (fun x=>by omega) _;simp only;generalize hFA : (sdAll fs).toArray = FA at *;have HA:=hid hFA;clear hFA
 go_wp2_with (refine wpList_store_row rfl 95 (.tmp 2) (.tmp 12) rfl w.heap.size FA rfl rfl 95 yS36 hr5 fI (by rw [fS];rfl) fO ?_)
 refine bodyPost_ret (results_cell_tmp2 rfl _ _ w.heap.size 95 FA (0,0) ds rfl (setRow_heap _ _ _ _ _ _ hr5) hds hda fI) rfl ?_
 first | rw [HU.out,HM4.out,HF.out,← HA.out] | rw [HU.out,HF.out,← HA.out] | rw [HU.out,← HA.out]
 exact ⟨rfl,by rw [HA.out];exact KF⟩
theorem mfire_any (s : Ch.Sd) (ev : Int) (hok : s.Ok) (hp : Pl w ob po ol) (hol : ol.Ok) :
 Calls Tryz.prog 57 #[.pointer (some ⟨ob,po,none⟩),.agg (sdAll s).toArray,.int .u8 ev] w fun x w' =>
  x = .returned (.tuple #[.agg (sdAll (Ch.mfire ol s ev).1).toArray,.string (Ch.mfire ol s ev).2.1,.int .i64 (Ch.mfire ol s ev).2.2]) ∧ Kp (fun _=>False) w w':=by
 obtain ⟨ds,hds,hda⟩:=Tryz.undStand;have hwf:=hok.1;have HB:=hid (built_mach (some ⟨ob,po,none⟩) s hwf);have HU:=hid (show Ch.mfire ol s ev = Ch.finish ol 29 (Ch.micro ol ⟨s,[],[]⟩ (Ch.choose ol s ev)) from rfl);have mI:=maA_info (some ⟨ob,po,none⟩) hwf;have mS:=maA_size (some ⟨ob,po,none⟩) hwf;have mO:=maA_one (some ⟨ob,po,none⟩) s;have sI:=sdInfo hwf
 have hb1 : ((w.alloc (.cells (sdAll s).toArray 95)).alloc (.cells yS36 95)).heap[w.heap.size]? = some (.cells (sdAll s).toArray 95):=by
  rw [Below.heap_alloc _ _ _ (by simp)];exact heap_alloc_new _ _
 have hr1 : ((w.alloc (.cells (sdAll s).toArray 95)).alloc (.cells yS36 95)).heap[w.heap.size + 1]? = some (.cells yS36 95):=heap_alloc2_new w _ _;have K1 : Kp (fun _=>False) w ((w.alloc (.cells (sdAll s).toArray 95)).alloc (.cells yS36 95)):=((Kp.refl _ _).alloc _).alloc _
 have hs1 : w.heap.size + 1 < ((w.alloc (.cells (sdAll s).toArray 95)).alloc (.cells yS36 95)).heap.size:=by simp
 have hp1:=hp.keep K1 (fun _ _ _ _ _ x=>x);obtain ⟨hin,h16⟩:=Ch.choose_in ol s ev;have hl16:=hol.sts;clear hp;generalize hSA : (sdAll s).toArray = SA at *;generalize hMA : maA (some ⟨ob,po,none⟩) s = MA at *;have HMA:=hid hMA;clear hSA hMA
 go_enter Tryz.func57,Tryz.ntmps57
 go_upto_region 1 with (fail)
 generalize (w.alloc (.cells SA 95)).alloc (.cells yS36 95) = w2 at *;have hnew:=heap_alloc_new w2 (.cells yP39 149);have hmr:=setRow_heap (w2.alloc (.cells yP39 149)) w2.heap.size yP39 MA 149 (0,0) hnew;have K3 : Kp (fun _=>False) w2 ((w2.alloc (.cells yP39 149)).setRow w2.heap.size MA):=((Kp.refl _ _).alloc _).setRow (fun x=>by omega) _;have M3 : Mm ((w2.alloc (.cells yP39 149)).setRow w2.heap.size MA) w.heap.size w2.heap.size ob po ⟨s,[],[]⟩:=Mm.new (by rw [HMA.out];exact hmr);have hp3:=hp1.keep K3 (fun _ _ _ _ _ x=>x);have hr3:=K3.at_ hr1 (fun x=>x);have KB:=K1.trans K3;have HX:=hid (And.intro M3 (And.intro hp3 (And.intro hr3 KB)));clear hr1 hp1 K1 K3 hmr M3 hp3 hr3 KB
 go_wp2_with (first | refine wpList_load_row rfl 95 (.tmp 4) rfl w.heap.size rfl 95 SA (0,0) ds hb1 hds (by cases ds <;> first | rfl | exact absurd hda (by simp [isAggD])) sI ?_ | (refine wpList_build_eq rfl 149 #[(0,.tmp 11),(1,.tmp 12)] rfl MA [(0,.pointer (some ⟨ob,po,none⟩)),(1,.agg SA)] ?_ HB.out ?_;rfl) | refine wpList_store_row rfl 149 (.tmp 9) (.tmp 13) rfl w2.heap.size MA rfl rfl 149 yP39 hnew mI (by rw [mS];rfl) mO ?_)
 generalize (w2.alloc (.cells yP39 149)).setRow w2.heap.size MA = w3 at *;generalize w2.heap.size = mb at *;obtain ⟨M3,hp3,hr3,KB⟩:=HX.out;obtain ⟨qv,ov,hmm,_⟩:=id M3;have E0:=hid (choose_any w3 mb ob po s qv ov ol ev hmm hwf hp3 hol);clear hnew mI mS mO HB M3 hp3 hr3 KB hb1 sI hmm
 go_wp2_with fail
 refine cMo E0 ?_;rintro x w4 ⟨v4,rfl,h4,K4⟩;obtain ⟨M3,hp3,hr3,KB⟩:=HX.out;have M4:=M3.still K4;have hp4:=hp3.keep K4 (fun _ _ _ _ _ x=>x);have hr4:=K4.at_ hr3 (fun x=>x);have KC:=KB.trans K4;generalize hch : Ch.choose ol s ev = list at *;have HCH:=hid hch;clear hch;have E1:=hid (micro_any w4 w.heap.size mb ob po ol ⟨s,[],[]⟩ v4 list h4 hin (by omega) hp4 hol M4 hok KC.size ⟨by simp,by simp⟩);have hok5:=Ch.micro_ok (ol:=ol) (m:=⟨s,[],[]⟩) hok list;have hz5:=Ch.micro_sz hol (m:=⟨s,[],[]⟩) (n:=0) ⟨by simp,by simp⟩ (list:=list) (by omega);have HY:=hid (And.intro M4 (And.intro hp4 (And.intro hr4 KC)));clear M3 hp3 hr3 KB HX K4 E0 M4 hp4 hr4 KC h4
 go_wp2_with fail
 refine cMo E1 ?_;rintro x w5 ⟨rfl,M5,K5⟩;obtain ⟨M4,hp4,hr4,KC⟩:=HY.out;have hp5:=M4.pl K5 hp4;have hr5:=M4.at_ K5 hr4 (by decide) (by decide);have KD:=kpOfKm KC K5 (Nat.le_refl _) (by omega);generalize hm4 : Ch.micro ol ⟨s,[],[]⟩ list = m4 at *;have HM4:=hid hm4;clear hm4;have E2:=hid (finish_any w5 w.heap.size mb ob po ol m4 29 (by omega) hp5 hol M5 hok5 KD.size (hz5.le (by omega)));have HZ:=hid (And.intro M5 (And.intro hr5 KD));clear M4 hp4 hr4 KC HY K5 E1 hp5 M5 hr5 KD
 go_wp2_with fail
 refine cMo E2 ?_;rintro x w6 ⟨rfl,K6⟩;obtain ⟨M5,hr5,KD⟩:=HZ.out;have hr6:=M5.at_ K6 hr5 (by decide) (by decide);have KE:=kpOfKm KD K6 (Nat.le_refl _) (by omega);clear M5 hr5 KD HZ K6 E2;generalize hf : Ch.finish ol 29 m4 = fr at *;obtain ⟨fs,ft,fe⟩:=fr
 have hfw : fs.Wf:=by
  have : (Ch.finish ol 29 m4).1 = fs:=by rw [hf]
  rw [← this];exact Ch.finish_wf hok5 _
 have HF:=hid hf;clear hf;have fI:=sdInfo hfw;have fS:=sdSize hfw;have fO:=sdOne fs;have KF : Kp (fun _=>False) w (w6.setRow (w.heap.size + 1) (sdAll fs).toArray):=KE.setRow (fun x=>by omega) _;simp only;generalize hFA : (sdAll fs).toArray = FA at *;have HA:=hid hFA;clear hFA
 go_wp2_with (refine wpList_store_row rfl 95 (.tmp 6) (.tmp 19) rfl (w.heap.size + 1) FA rfl rfl 95 yS36 hr6 fI (by rw [fS];rfl) fO ?_)
 refine bodyPost_ret (results_cell_tmp2 rfl _ _ (w.heap.size + 1) 95 FA (0,0) ds rfl (setRow_heap _ _ _ _ _ _ hr6) hds hda fI) rfl ?_
 first | rw [HU.out,HCH.out,HM4.out,HF.out,← HA.out] | rw [HU.out,HM4.out,HF.out,← HA.out] | rw [HU.out,HF.out,← HA.out] | rw [HU.out,← HA.out]
 exact ⟨rfl,by rw [HA.out];exact KF⟩
end
end Go.Proofs.YtnlbchmfcebeeaaGreat
