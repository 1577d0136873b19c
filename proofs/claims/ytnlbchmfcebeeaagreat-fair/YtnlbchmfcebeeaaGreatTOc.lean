import Derived.Test.YtnlbchmfcebeeaaGreatTOb
set_option maxHeartbeats 12800000
set_option maxRecDepth 100000
namespace Go.Proofs.YtnlbchmfcebeeaaGreat
open Go.Proofs.Tryz Ch
open Go.RowKit
namespace Ch
def kE (len n m : Nat) (o : ByteArray) : Rp :=
 if m = n then { b8 with dT:=(len : Int),idx:=(n : Int),text:=o } else { b8 with err:=9,dT:=(len : Int) - 1,idx:=(m : Int) }
end Ch
section
variable (w : World) {p : Lp} {t : ByteArray} {L : Ln} {av : Value}
theorem DR (h : dU w p t L av) (r : Rq) (h0 : 0 <= r.at_) (h1 : r.at_ ≠ (L.all.length : Int) - 1) (hal : L.all.length <= 1000000000000) :
 Calls prog 86 #[.pointer (some ⟨p.wb,0,none⟩),.agg (cn r),.agg (aZ { b8 with err:=14,dT:=(L.all.length : Int) - 1 })] w fun x w'=>x = .returned (.bool true) /\ Kp (fun _=>False) w w':=by
 obtain ⟨ao,cap,mo⟩:=b7 h.row;have K1 : Kp (fun _=>False) w ((w.alloc (.cells (cn r) 79)).alloc (.cells (aZ { b8 with err:=14,dT:=(L.all.length : Int) - 1 }) 64)):=((Kp.refl _ _).alloc _).alloc _
 have hb1 : ((w.alloc (.cells (cn r) 79)).alloc (.cells (aZ { b8 with err:=14,dT:=(L.all.length : Int) - 1 }) 64)).heap[w.heap.size]? = some (.cells (cn r) 79):=by
  rw [Below.heap_alloc _ _ _ (by simp)];exact heap_alloc_new _ _
 have hb2 : ((w.alloc (.cells (cn r) 79)).alloc (.cells (aZ { b8 with err:=14,dT:=(L.all.length : Int) - 1 }) 64)).heap[w.heap.size + 1]? = some (.cells (aZ { b8 with err:=14,dT:=(L.all.length : Int) - 1 }) 64):=heap_alloc2_new w _ _
 have x1 : ((w.alloc (.cells (cn r) 79)).alloc (.cells (aZ { b8 with err:=14,dT:=(L.all.length : Int) - 1 }) 64)).cell? ⟨p.wb,1,none⟩ = some (.slice ao L.all.length cap):=by rw [<- mo];exact (h.au K1).cell 1
 have HK:=hid K1;clear K1 h mo;generalize kB : aZ { b8 with err:=14,dT:=(L.all.length : Int) - 1 } = RP at *;have ij:=hid kB;generalize pT : cn r = RQ at *;have yP:=hid pT;clear kB pT
 go_enter func86,ntmps86
 go_upto_region 1 with (fail)
 generalize (w.alloc (.cells RQ 79)).alloc (.cells RP 64) = w1 at *
 have q2 : w1.cell? ⟨w.heap.size,2,none⟩ = some (.int .i64 r.at_):=by rw [World.cell?,hb1,<- yP.out];rfl
 have r0 : w1.cell? ⟨w.heap.size + 1,0,none⟩ = some (.int .i64 14):=by rw [World.cell?,hb2,<- ij.out];rfl
 have r1 : w1.cell? ⟨w.heap.size + 1,1,none⟩ = some (.int .i64 ((L.all.length : Int) - 1)):=by rw [World.cell?,hb2,<- ij.out];rfl
 have r2 : w1.cell? ⟨w.heap.size + 1,2,none⟩ = some (.int .i64 0):=by rw [World.cell?,hb2,<- ij.out];rfl
 have r5 : w1.cell? ⟨w.heap.size + 1,10,none⟩ = some (.string ⟨#[]⟩):=by rw [World.cell?,hb2,<- ij.out];rfl
 have h1' : (r.at_ != (L.all.length : Int) - 1) = true:=by simpa using h1
 clear hb1 hb2;go_wp2;go_ret;exact ⟨rfl,HK.out⟩
theorem u3 (h : dU w p t L av) (r : Rq) (hat : r.at_ < 0 \/ r.at_ = (L.all.length : Int) - 1) {a : As} (hl : L.all[L.all.length - 1]? = some a) (hal : L.all.length <= 1000000000000) {m : Nat} {S : Nat -> As} {D O : Nat -> ByteArray}
 (gB : r.events.size <= 1000) (Hu : m <= r.events.size) (hS0 : S 0 = a) (U9 : O 0 = ⟨#[]⟩) (SX : ∀ i,O (i + 1) = O i ++ D i) (hOb : ∀ i,i <= m -> (O i).size <= 1000000000000) (lR : L.log.size <= 10000000000000000)
 (EF : ∀ i,i < m -> ∀ W,Hid (Calls prog 31 #[.string t,.agg (bq (S i)),.string (r.events.extract i (i + 1))] W fun x w'=>x = .returned (.tuple #[.agg (bq (S (i + 1))),.string (D i),.int .i64 0]) /\ Kp (fun _=>False) W w'))
 (EX : m < r.events.size -> ∀ W,Hid (Calls prog 31 #[.string t,.agg (bq (S m)),.string (r.events.extract m (m + 1))] W fun x w'=>x = .returned (.tuple #[.agg (bq gw),.string ⟨#[]⟩,.int .i64 9]) /\ Kp (fun _=>False) W w')) :
 Calls prog 86 #[.pointer (some ⟨p.wb,0,none⟩),.agg (cn r),.agg (aZ (kE L.all.length r.events.size m (O m)))] w fun x w'=>x = .returned (.bool true) /\ sG w w' p t av (if m = r.events.size then { L with all:=L.all ++ [S m],log:=L.log ++ O m } else L):=by
 obtain ⟨da,j5,dV⟩:=jS;obtain ⟨i0,hi0,hz0,hz1,hz2⟩:=info_parts AK
 have hpos : 0 < L.all.length:=by have:=(List.getElem?_eq_some_iff.1 hl).1;omega
 obtain ⟨g,cap,mo⟩:=h.rowAt hpos;subst mo;have hlow:=h.low;have K1 : Kp (fun _=>False) w ((w.alloc (.cells (cn r) 79)).alloc (.cells (aZ (kE L.all.length r.events.size m (O m))) 64)):=((Kp.refl _ _).alloc _).alloc _
 have hb1 : ((w.alloc (.cells (cn r) 79)).alloc (.cells (aZ (kE L.all.length r.events.size m (O m))) 64)).heap[w.heap.size]? = some (.cells (cn r) 79):=by
  rw [Below.heap_alloc _ _ _ (by simp)];exact heap_alloc_new _ _
 have hb2 : ((w.alloc (.cells (cn r) 79)).alloc (.cells (aZ (kE L.all.length r.events.size m (O m))) 64)).heap[w.heap.size + 1]? = some (.cells (aZ (kE L.all.length r.events.size m (O m))) 64):=heap_alloc2_new w _ _;have h1:=h.au K1;have Pv:=hid (ae EF (ae EX SX));clear h EF EX SX;generalize kB : aZ (kE L.all.length r.events.size m (O m)) = RP at *;have ij:=hid kB;generalize pT : cn r = RQ at *;have yP:=hid pT;clear kB pT
 go_enter func86,ntmps86
 go_upto_region 1 with (fail)
 have hsz1 : w.heap.size + 1 < ((w.alloc (.cells RQ 79)).alloc (.cells RP 64)).heap.size:=lt_of_block hb2;generalize (w.alloc (.cells RQ 79)).alloc (.cells RP 64) = w1 at *
 have q2 : w1.cell? ⟨w.heap.size,2,none⟩ = some (.int .i64 r.at_):=by rw [World.cell?,hb1,<- yP.out];rfl
 have x1 : w1.cell? ⟨p.wb,1,none⟩ = some (.slice (some ⟨g,0,none⟩) L.all.length cap):=h1.cell 1;have xc : ∀ j u,(dp a)[j]? = some u -> w1.cell? ⟨g,(L.all.length - 1) * 6 + j,none⟩ = some u:=h1.at_ rfl hl
 have h0l : (1 : Int) <= (L.all.length : Int):=by omega
 have Pn : ¬ (L.all.length : Int) <= (L.all.length : Int) - 1:=by omega
 have sL : (prog.info? 26).map (·.size) = some (dp a).length:=bo;have hnb:=heap_alloc_new w1 (.cells cf 26);have hx2:=setRow_heap (w1.alloc (.cells cf 26)) w1.heap.size cf (bq a) 26 (0,0) hnb;have K2 : Kp (fun _=>False) w1 ((w1.alloc (.cells cf 26)).setRow w1.heap.size (bq a)):=((Kp.refl _ _).alloc _).setRow (fun x=>by omega) _;have h2:=h1.au K2;have QU:=K2.at_ hb1 (fun x=>x);have QV:=K2.at_ hb2 (fun x=>x);have KA:=K1.trans K2
 have U_ : ¬ (L.all.length : Int) - 1 < 0:=by omega
 clear K1 K2 h1 hb1 hb2
 go_upto_region 2 with (fail)
 go_cut [28] from 20 to 28 (fun v wx=>v = .bool false /\ wx = w1)
 case first =>
  by_cases q : 0 <= r.at_
  ·have q' : (r.at_ != (L.all.length : Int) - 1) = false:=by simp;omega
   go_wp2_with fail
   go_meet
   exact ⟨rfl,by first | rfl | trivial⟩
  go_wp2_with fail
  go_meet
  exact ⟨rfl,by first | rfl | trivial⟩
 case rest =>
  obtain ⟨rfl,rfl⟩:=hcut
  go_upto_region 5 with (first | refine a_ rfl 26 (.tmp 53) rfl g ((L.all.length - 1) * 6) rfl (dp a) da xc j5 dV sL ?_ | refine wpList_store_row rfl 26 (.tmp 8) (.tmp 54) rfl wc.heap.size (bq a) rfl rfl 26 cf hnb bo rfl (fA _) ?_)
  generalize (wc.alloc (.cells cf 26)).setRow wc.heap.size (bq a) = w2 at *;generalize wc.heap.size = sb at *;clear hnb x1 xc q2;have HX:=hid (ae h2 KA);clear h2 KA
  go_wp2_with fail
  go_loopw [9,10] (fun ov iv wr=>∃ i : Nat,iv = .int .i64 i /\ ov = .string (O i) /\ i <= m /\ wr.heap[sb]? = some (.cells (bq (S i)) 26 (0,0)) /\ Kp (fun k=>k = sb) w2 wr) (fun _ iv _=>r.events.size - (intOf iv).toNat)
  case atStart=>exact ⟨0,rfl,by rw [U9],Nat.zero_le _,by rw [hS0];exact hx2,Kp.refl _ _⟩
  case round =>
   obtain ⟨i,rfl,rfl,him,hsb,KW⟩:=hrel;have KF : Kp (fun _=>False) w wr:=HX.out.2.trans' KW (fun k hk e=>by omega);have hbr:=KW.at_ QU (by show ¬ w.heap.size = sb;omega);have hbp:=KW.at_ QV (by show ¬ w.heap.size + 1 = sb;omega);have xm : dU wr p t L (.slice (some ⟨g,0,none⟩) L.all.length cap):=HX.out.1.keep KW (fun k hk e=>by have:=hlow k hk;omega)
   have y1 : wr.cell? ⟨w.heap.size,1,none⟩ = some (.string r.events):=by rw [World.cell?,hbr,<- yP.out];rfl
   have yt : wr.cell? ⟨p.wb,0,none⟩ = some (.string t):=xm.cell 0;have QA : sb < wr.heap.size:=lt_of_block hsb
   by_cases hlt : i < r.events.size
   ·have hlt' : (i : Int) < (r.events.size : Int):=by omega
    obtain ⟨B,dd,ee,EI,hcs⟩ : ∃ (B : As) (dd : ByteArray) (ee : Int),(∀ W,Hid (Calls prog 31 #[.string t,.agg (bq (S i)),.string (r.events.extract i (i + 1))] W fun x w'=>x = .returned (.tuple #[.agg (bq B),.string dd,.int .i64 ee]) /\ Kp (fun _=>False) W w')) /\ ((i < m /\ B = S (i + 1) /\ dd = D i /\ ee = 0) \/ (i = m /\ ee = 9)):=by
     by_cases q : i < m
     ·exact ⟨_,_,_,Pv.out.1 i q,.inl ⟨q,rfl,rfl,rfl⟩⟩
     obtain rfl : i = m:=by omega
     exact ⟨_,_,_,Pv.out.2.1 hlt,.inr ⟨rfl,rfl⟩⟩
    have QW:=hid EI
    have hsl1 : (i : Int) + 1 <= (r.events.size : Int):=by omega
    have hle1 : (i : Int) <= (i : Int) + 1:=by omega
    have hwr : IntKind.i64.wrap ((i : Int) + 1) = (i : Int) + 1:=by rw [IntKind.wrap_i64];omega
    have HF:=hid (ae KF (ae KW xm));clear EI KF KW xm
    go_upto_region 9 with (fail)
    go_cut [11,12,13] from 62 to 77 (fun q e f wx=>∃ fb,q = .pointer (some ⟨fb,0,none⟩) /\ e = .string dd /\ f = .int .i64 ee /\ wx.heap[fb]? = some (.cells (bq B) 26 (0,0)) /\ Kp (fun _=>False) wr wx /\ wr.heap.size <= fb)
    case first =>
     have sM : wr.drew.cell? ⟨p.wb,0,none⟩ = some (.string t) /\ wr.drew.heap[sb]? = some (.cells (bq (S i)) 26 (0,0)) /\ wr.drew.cell? ⟨w.heap.size,1,none⟩ = some (.string r.events):=⟨yt,hsb,y1⟩
     have jF : Kp (fun _=>False) wr wr.drew:=(Kp.refl _ _).drewN 1;refine aB (fun w'=>w'.cell? ⟨p.wb,0,none⟩ = some (.string t) /\ w'.heap[sb]? = some (.cells (bq (S i)) 26 (0,0)) /\ w'.cell? ⟨w.heap.size,1,none⟩ = some (.string r.events)) (by kernel_rfl) ?_;refine tk 0 63 (.pointer (some ⟨p.wb,0,none⟩)) rfl (by kernel_rfl) rfl rfl (fun w' _=>by simp [execOp,Act.eval,go_sem]) sM ?_;simp only [Act.put,pA,pB,pC];refine tk 1 64 (.pointer (some ⟨p.wb,0,none⟩)) rfl (by kernel_rfl) rfl rfl (fun w' _=>by simp [execOp,Act.eval,go_sem]) sM ?_;simp only [Act.put,pA,pB,pC];refine tk 2 65 (.pointer (some ⟨p.wb,0,none⟩)) rfl (by kernel_rfl) rfl rfl (fun w' _=>by simp [execOp,Act.eval,go_sem]) sM ?_;simp only [Act.put,pA,pB,pC];refine tk 3 66 (.string t) rfl (by kernel_rfl) rfl rfl (fun w' hS=>by simp [execOp,Act.eval,go_sem,hS.1]) sM ?_;simp only [Act.put,pA,pB,pC];refine tk 4 67 (.agg (bq (S i))) rfl (by kernel_rfl) rfl rfl (fun w' hS=>aU 26 (.tmp 8) rfl sb rfl 26 (bq (S i)) (0,0) da hS.2.1 j5 dV bo) sM ?_;simp only [Act.put,pA,pB,pC];refine tk 5 68 (.pointer (some ⟨w.heap.size,1,none⟩)) rfl (by kernel_rfl) rfl rfl (fun w' _=>by simp [execOp,Act.eval,go_sem]) sM ?_;simp only [Act.put,pA,pB,pC];refine tk 6 69 (.string r.events) rfl (by kernel_rfl) rfl rfl (fun w' hS=>by simp [execOp,Act.eval,go_sem,hS.2.2]) sM ?_;simp only [Act.put,pA,pB,pC];refine tk 7 70 (.int .i64 i) rfl (by kernel_rfl) rfl rfl (fun w' _=>by simp [execOp,Act.eval,go_sem]) sM ?_;simp only [Act.put,pA,pB,pC];refine tk 8 71 (.int .i64 i) rfl (by kernel_rfl) rfl rfl (fun w' _=>by simp [execOp,Act.eval,go_sem]) sM ?_;simp only [Act.put,pA,pB,pC];refine tk 9 72 (.int .i64 ((i : Int) + 1)) rfl (by kernel_rfl) rfl rfl (fun w' _=>by simp [execOp,Act.eval,go_sem,hwr]) sM ?_;simp only [Act.put,pA,pB,pC];refine tk 10 73 (.string (r.events.extract i (i + 1))) rfl (by kernel_rfl) rfl rfl (fun w' _=>by simp [execOp,Act.eval,go_sem,hsl1,hle1]) sM ?_;simp only [Act.put,pA,pB,pC]
     have bP : ∀ W : World,Kp (fun _=>False) wr W -> W.cell? ⟨p.wb,0,none⟩ = some (.string t) /\ W.heap[sb]? = some (.cells (bq (S i)) 26 (0,0)) /\ W.cell? ⟨w.heap.size,1,none⟩ = some (.string r.events) :=
      fun W K=>⟨K.cell0 yt,K.at_ hsb (fun x=>x),K.cell0 y1⟩
     refine iJ 11 16 (by kernel_rfl) rfl rfl rfl rfl ?_ ?_
     ·refine bD (some 74) rfl 31 #[.string t,.agg (bq (S i)),.string (r.events.extract i (i + 1))] (by simp [execOp,Act.eval,go_sem]) _ (fun w'=>Kp (fun _=>False) wr.drew w') (QW.out wr.drew).out ?_
      intro w5 K5;have KQ:=jF.trans K5;have j4:=heap_alloc_new w5 (.cells cf 26);refine ⟨bP _ KQ,?_⟩;refine tm 12 62 (.tuple #[.agg (bq B),.string dd,.int .i64 ee]) rfl (fun w' _=>by simp [execOp,Act.eval,Act.put,go_sem]) (bP _ KQ) ?_;refine tm 13 75 (.agg (bq B)) rfl (fun w' _=>by simp [execOp,Act.eval,Act.put,go_sem]) (bP _ KQ) ?_;refine tm 14 76 (.string dd) rfl (fun w' _=>by simp [execOp,Act.eval,Act.put,go_sem]) (bP _ KQ) ?_;refine tm 15 77 (.int .i64 ee) rfl (fun w' _=>by simp [execOp,Act.eval,Act.put,go_sem]) (bP _ KQ) ?_;refine dO 16 ?_;refine cP (some 11) rfl (.pointer (some ⟨w5.heap.size,0,none⟩)) (w5.alloc (.cells cf 26)) (by simp [execOp,go_sem]) ?_;have K6:=KQ.alloc (.cells cf 26);have hsz:=KQ.size;have K7:=K6.setRow (g:=w5.heap.size) (fun x=>by omega) (bq B);refine ⟨bP _ K6,?_⟩;refine bE 17 (by kernel_rfl) rfl rfl 26 (.tmp 11) (.tmp 75) rfl rfl w5.heap.size (bq B) (by simp [Act.eval,Act.put]) (by simp [Act.eval,Act.put]) 26 cf j4 bo rfl (fA _) (bP _ K7) ?_;refine tm 18 12 (.string dd) rfl (fun w' _=>by simp [execOp,Act.eval,Act.put,go_sem]) (bP _ K7) ?_;refine tm 19 13 (.int .i64 ee) rfl (fun w' _=>by simp [execOp,Act.eval,Act.put,go_sem]) (bP _ K7) ?_;refine wpAnyH_done (by kernel_rfl) (NoPanic.normal ?_) _;simp only [Act.put,pA,pB,pC]
      go_wp2_with fail
      go_meet
      exact ⟨w5.heap.size,rfl,rfl,rfl,setRow_heap _ _ _ _ _ _ j4,K7,hsz⟩
     refine cP (some 11) rfl (.pointer (some ⟨wr.heap.size,0,none⟩)) (wr.drew.alloc (.cells cf 26)) (by simp [execOp,go_sem]) ?_;have gB:=heap_alloc_new wr.drew (.cells cf 26);have K4:=jF.alloc (.cells cf 26);refine ⟨bP _ K4,?_⟩;refine dO 11 ?_;simp only [Act.put,pA,pB,pC];refine bD (some 74) rfl 31 #[.string t,.agg (bq (S i)),.string (r.events.extract i (i + 1))] (by simp [execOp,Act.eval,go_sem]) _ (fun w'=>Kp (fun _=>False) (wr.drew.alloc (.cells cf 26)) w') (QW.out _).out ?_;intro w5 K5;have KQ:=K4.trans K5;have j4 : w5.heap[wr.heap.size]? = some (.cells cf 26 (0,0)):=K5.at_ (k:=wr.heap.size) (by exact gB) (fun x=>x);have K7:=KQ.setRow (g:=wr.heap.size) (fun x=>by omega) (bq B);refine ⟨bP _ KQ,?_⟩;refine tm 12 62 (.tuple #[.agg (bq B),.string dd,.int .i64 ee]) rfl (fun w' _=>by simp [execOp,Act.eval,Act.put,go_sem]) (bP _ KQ) ?_;refine tm 13 75 (.agg (bq B)) rfl (fun w' _=>by simp [execOp,Act.eval,Act.put,go_sem]) (bP _ KQ) ?_;refine tm 14 76 (.string dd) rfl (fun w' _=>by simp [execOp,Act.eval,Act.put,go_sem]) (bP _ KQ) ?_;refine tm 15 77 (.int .i64 ee) rfl (fun w' _=>by simp [execOp,Act.eval,Act.put,go_sem]) (bP _ KQ) ?_;refine bE 17 (by kernel_rfl) rfl rfl 26 (.tmp 11) (.tmp 75) rfl rfl wr.heap.size (bq B) (by simp [Act.eval,Act.put]) (by simp [Act.eval,Act.put]) 26 cf j4 bo rfl (fA _) (bP _ K7) ?_;refine tm 18 12 (.string dd) rfl (fun w' _=>by simp [execOp,Act.eval,Act.put,go_sem]) (bP _ K7) ?_;refine tm 19 13 (.int .i64 ee) rfl (fun w' _=>by simp [execOp,Act.eval,Act.put,go_sem]) (bP _ K7) ?_;refine wpAnyH_done (by kernel_rfl) (NoPanic.normal ?_) _;simp only [Act.put,pA,pB,pC]
     go_wp2_with fail
     go_meet
     exact ⟨wr.heap.size,rfl,rfl,rfl,setRow_heap _ _ _ _ _ _ j4,K7,Nat.le_refl _⟩
    case rest =>
     obtain ⟨fb,rfl,rfl,rfl,vU,KC,QS⟩:=hcut
     rcases hcs with ⟨hi,rfl,rfl,rfl⟩ | ⟨rfl,rfl⟩
     ·have N0:=KC.at_ hsb (fun x=>x)
      have QX:=Pv.out.2.2 i;have ho1:=hOb i (by omega);have ho2:=hOb (i + 1) (by omega);rw [QX,ByteArray.size_append] at ho2
      have hadd:=fun w'=>run_string_add_sum (P:=prog) w' (O i) (D i) (by omega)
      have K8 : Kp (fun k=>k = sb) w2 (wc.setRow sb (bq (S (i + 1)))):=(HF.out.2.1.trans' KC (fun _ _ x=>x.elim)).setRow (fun _=>rfl) _;have N1:=setRow_heap wc sb (bq (S i)) (bq (S (i + 1))) 26 (0,0) N0;have QY:=hid (ae K8 (ae N1 QX));clear K8 N1 KC QX yt y1 HF QW hbr hbp
      go_wp2_with (first | refine wpList_load_row rfl 26 (.tmp 11) rfl fb rfl 26 (bq (S (i + 1))) (0,0) da vU j5 (by cases da <;> first | rfl | exact absurd dV (by simp [ar])) bo ?_ | refine wpList_store_row rfl 26 (.tmp 8) (.tmp 100) rfl sb (bq (S (i + 1))) rfl rfl 26 (bq (S i)) N0 bo rfl (fA _) ?_)
      go_roundw
      case rel=>exact ⟨i + 1,by go_num,by rw [QY.out.2.2],by omega,QY.out.2.1,QY.out.1⟩
      case measure=>simp [intOf];omega
     have QZ : ¬ i = r.events.size:=by omega
     have hbq:=KC.at_ hbp (fun x=>x);have SY:=HF.out.2.2.au KC;have KQ:=HF.out.1.trans KC;have HZ:=hid (sG.of (w:=w) SY (KQ.mono (fun _ _ x=>x.elim)));have HRR:=hid (ij.out.symm.trans (congrArg aZ (show kE L.all.length r.events.size i (O i) = { b8 with err:=9,dT:=(L.all.length : Int) - 1,idx:=(i : Int) } by unfold kE;rw [if_neg QZ])))
     have r0 : wc.cell? ⟨w.heap.size + 1,0,none⟩ = some (.int .i64 9):=by rw [World.cell?,hbq,HRR.out];rfl
     have r1 : wc.cell? ⟨w.heap.size + 1,1,none⟩ = some (.int .i64 ((L.all.length : Int) - 1)):=by rw [World.cell?,hbq,HRR.out];rfl
     have r2 : wc.cell? ⟨w.heap.size + 1,2,none⟩ = some (.int .i64 i):=by rw [World.cell?,hbq,HRR.out];rfl
     have r5 : wc.cell? ⟨w.heap.size + 1,10,none⟩ = some (.string ⟨#[]⟩):=by rw [World.cell?,hbq,HRR.out];rfl
     clear hbq SY KQ KC hbp hbr HF;go_wp2;go_ret;exact ⟨rfl,HZ.out⟩
   have hlt' : ¬ (i : Int) < (r.events.size : Int):=by omega
   obtain rfl : i = m:=by omega
   obtain hie : i = r.events.size:=by omega
   have hW:=xm;have vU:=hsb
   have hfl : ∀ k,jb p (.slice (some ⟨g,0,none⟩) L.all.length cap) k -> k < sb:=fun k hk=>by have:=hlow k hk;omega
   have ho1:=hOb i (Nat.le_refl _);have HRR:=hid (ij.out.symm.trans (congrArg aZ (show kE L.all.length r.events.size i (O i) = { b8 with dT:=(L.all.length : Int),idx:=(r.events.size : Int),text:=O i } by unfold kE;rw [if_pos hie])));generalize SZ : O i = oo at *;generalize hbb : S i = b at *;have HO:=hid (ae SZ (ae hbb hie));clear SZ hbb;clear KW xm hsb yt Pv;generalize hao : (some (⟨g,0,none⟩ : Addr)) = ao at *
   obtain ⟨mm,hmm⟩ : ∃ mm,mm = L.all.length:=⟨_,rfl⟩
   rw [<- hmm] at hW hfl
   go_upto_region 14 with (fail)
   have hS0 : wr.drew.heap[sb]? = some (.cells (bq b) 26 (0,0)):=vU;refine aB (fun w'=>w'.heap[sb]? = some (.cells (bq b) 26 (0,0))) (by kernel_rfl) ?_;refine tj 0 104 (.pointer (some ⟨p.wb,0,none⟩)) hS0 ?_;refine tj 1 105 (.pointer (some ⟨p.wb,0,none⟩)) hS0 ?_;refine tj 2 106 (.pointer (some ⟨p.wb,0,none⟩)) hS0 ?_;refine tj 3 107 (.pointer (some ⟨p.wb,1,none⟩)) hS0 ?_;refine tl 5 109 (.agg (bq b)) rfl (fun w' hS=>aU 26 (.tmp 8) rfl sb rfl 26 (bq b) (0,0) da hS j5 dV bo) hS0 ?_;have KA : Kp (fun _=>False) wr.drew (wr.drew.alloc (.cells (bq b) 26)):=(Kp.refl _ _).alloc _;have jF : Kp (fun _=>False) wr wr.drew:=(Kp.refl _ _).drewN 1;have hA:=hW.au (jF.trans KA);have hfA:=KA.at_ hS0 (fun x=>x);have x1 : wr.drew.cell? ⟨p.wb,1,none⟩ = some (.slice ao mm cap):=hW.cell 1;have y1 : (wr.alloc (.cells (bq b) 26)).drew.cell? ⟨p.wb,1,none⟩ = some (.slice ao mm cap):=hA.cell 1
   refine Ey 4 6 108 110 (.slice ao mm cap) (.slice (some ⟨wr.drew.heap.size,0,none⟩) 1 1) (wr.drew.alloc (.cells (bq b) 26)) (by decide) (by kernel_rfl) (by kernel_rfl) (by kernel_rfl) rfl rfl rfl rfl rfl rfl (by simp [execOp,Act.eval,go_sem,x1])
    (cB 67 (.tmp 109) rfl 26 i0 (.agg cf) underlying67 hi0 hz0 (by omega) (by omega) (bq b) rfl (by rw [hz1];rfl))
    (cB 67 (.tmp 109) rfl 26 i0 (.agg cf) underlying67 hi0 hz0 (by omega) (by omega) (bq b) rfl (by rw [hz1];rfl))
    (by simp [execOp,Act.eval,go_sem,y1]) hS0 hfA ?_
   simp only [Act.put,pA,pB,pC];have kM:=heap_alloc_new wr.drew (.cells (bq b) 26)
   have hc6 : ∀ j u,(dp b)[j]? = some u -> (wr.drew.alloc (.cells (bq b) 26)).cell? ((⟨wr.drew.heap.size,0,none⟩ : Addr).add j) = some u:=by
    intro j u hj;rw [jU,World.cell?,kM];show (bq b)[j]? = some u;rw [<- BY,List.getElem?_toArray];exact hj
   refine dO 7 ?_;refine u2 (.tmp 108) (.tmp 110) 67 rfl 0 26 i0 (.agg cf) 6 72 underlying67 hi0 hz0 hz1 hz2 rfl (by decide) _ _ _ rfl hA.row ⟨wr.drew.heap.size,0,none⟩ 1 1 (dp b) rfl rfl hc6 (B_ _) (by decide) ?c3 ?c4 (Nat.zero_le _) ?_
   case c3=>unfold maxLen;omega
   case c4=>omega
   intro gg cc w8 o8 g8 n8;have KG : Kp (fun k=>(Value.slice ao mm cap).ownBlock = some k) (wr.drew.alloc (.cells (bq b) 26)) w8:=(Kp.refl _ _).grown g8 (fun k hk _=>hk);have hrw : (Value.slice ao mm cap).ownBlock ≠ some p.wb:=own_ne hA.row hA.blk (by decide);have tF:=KG.at_ hA.blk hrw;have Bw : w8.heap[sb]? = some (.cells (bq b) 26 (0,0)):=KG.at_ hfA (fun e=>by have:=hfl _ (.inr (.inr (.inr (.inr (.inr e)))));omega);refine ⟨Bw,?_⟩;refine tm 8 112 (.pointer (some ⟨p.wb,0,none⟩)) rfl (fun w' _=>by simp [execOp,Act.eval,go_sem,Act.put]) Bw ?_;refine tm 9 113 (.pointer (some ⟨p.wb,1,none⟩)) rfl (fun w' _=>by simp [execOp,Act.eval,go_sem,Act.put]) Bw ?_
   have JF : w8.cell? ⟨p.wb,1,none⟩ = some (.slice ao mm cap):=by rw [World.cell?,tF];rfl
   have NZ : w8.frozen? ⟨p.wb,1,none⟩ = false:=by simp [World.frozen?,tF]
   have KS : Kp (fun k=>k = p.wb) w8 (w8.setCell ⟨p.wb,1,none⟩ (.slice (some ⟨gg,0,none⟩) (L.all.length + 1) cc)):=(Kp.refl (fun k=>k = p.wb) w8).setCell (p:=⟨p.wb,1,none⟩) (fun _=>rfl) _;have QT : (w8.setCell ⟨p.wb,1,none⟩ (.slice (some ⟨gg,0,none⟩) (L.all.length + 1) cc)).heap[sb]? = some (.cells (bq b) 26 (0,0)):=KS.at_ Bw (fun e=>by have:=hfl _ (.inl rfl);omega);have KR : Kp (jb p (.slice ao mm cap)) wr w8:=((jF.trans KA).mono (fun _ _ x=>x.elim)).trans' KG (fun i _ x=>.inr (.inr (.inr (.inr (.inr x)))));have K9 : Kp (jb p (.slice ao mm cap)) wr (w8.setCell ⟨p.wb,1,none⟩ (.slice (some ⟨gg,0,none⟩) (L.all.length + 1) cc)):=KR.trans' KS (fun i _ x=>.inl x);have h9 : dU (w8.setCell ⟨p.wb,1,none⟩ (.slice (some ⟨gg,0,none⟩) (L.all.length + 1) cc)) p t { L with all:=L.all ++ [b] } (.slice (some ⟨gg,0,none⟩) (L.all.length + 1) cc):=hA.snoc KG o8
   have n9 : ∀ k,(Value.slice (some ⟨gg,0,none⟩) (L.all.length + 1) cc).ownBlock = some k -> (Value.slice ao mm cap).ownBlock = some k \/ wr.heap.size <= k:=by
    intro k e
    obtain rfl : gg = k:=by simpa [Value.ownBlock] using e
    exact n8.imp id (Nat.le_trans (jF.trans KA).size)
   refine dO 10 ?_;unfold Oper.wp;simp only [execOp,Act.eval,Act.put];simp [go_sem,JF,NZ];refine ⟨QT,?_⟩;refine wpAnyH_done (by kernel_rfl) (NoPanic.normal ?_) _;clear hS0 KA jF hA hfA x1 y1 kM hc6 o8 g8 n8 KG hrw tF Bw JF NZ KS KR;generalize w8.setCell ⟨p.wb,1,none⟩ (.slice (some ⟨gg,0,none⟩) (L.all.length + 1) cc) = w9 at *;have Ke : w9.heap[w.heap.size + 1]? = some (.cells RP 64 (0,0)):=K9.at_ hbp (fun x=>by subst hmm;subst hao;have:=hlow _ x;omega);have S0 : w9.heap[w.heap.size]? = some (.cells RQ 79 (0,0)):=K9.at_ hbr (fun x=>by subst hmm;subst hao;have:=hlow _ x;omega);have y2 : w9.cell? ⟨p.wb,2,none⟩ = some (.string L.log):=h9.cell 2;have f2:=h9.free 2
   have hadd:=fun w'=>run_string_add_sum (P:=prog) w' L.log oo (by omega)
   have h10:=h9.GU (L.log ++ oo);have Bx : Kp (jb p (.slice ao mm cap)) wr (w9.setCell ⟨p.wb,2,none⟩ (.string (L.log ++ oo))):=K9.setCell (p:=⟨p.wb,2,none⟩) (fun _=>.inl rfl) _;have hwb:=hlow p.wb (.inl rfl)
   have sK : (w9.setCell ⟨p.wb,2,none⟩ (.string (L.log ++ oo))).heap[w.heap.size + 1]? = some (.cells RP 64 (0,0)):=by
    rw [Below.heap_setCell _ _ _ _ (by show w.heap.size + 1 ≠ p.wb;omega)];exact Ke
   have N2 : (w9.setCell ⟨p.wb,2,none⟩ (.string (L.log ++ oo))).heap[w.heap.size]? = some (.cells RQ 79 (0,0)):=by
    rw [Below.heap_setCell _ _ _ _ (by show w.heap.size ≠ p.wb;omega)];exact S0
   have HQ:=hid (sG.trans (p:=p) (KF.mono (fun _ _ x=>x.elim)) (fun _ e=>.inl e) ⟨_,h10,n9,Bx⟩);clear h9 n9 K9 h10 Bx hW hfl vU KF hbr hbp y1 hwb;generalize hLO : L.log ++ oo = LO at *;have NS:=hid hLO;clear hLO
   go_upto_region 16 with (fail)
   generalize w9.setCell ⟨p.wb,2,none⟩ (.string LO) = D9 at *
   have r0 : D9.cell? ⟨w.heap.size + 1,0,none⟩ = some (.int .i64 0):=by rw [World.cell?,sK,HRR.out];rfl
   have r1 : D9.cell? ⟨w.heap.size + 1,1,none⟩ = some (.int .i64 L.all.length):=by rw [World.cell?,sK,HRR.out];rfl
   have r2 : D9.cell? ⟨w.heap.size + 1,2,none⟩ = some (.int .i64 r.events.size):=by rw [World.cell?,sK,HRR.out];rfl
   have r5 : D9.cell? ⟨w.heap.size + 1,10,none⟩ = some (.string oo):=by rw [World.cell?,sK,HRR.out];rfl
   have s1 : D9.cell? ⟨w.heap.size,1,none⟩ = some (.string r.events):=by rw [World.cell?,N2,<- yP.out];rfl
   clear sK Ke S0 N2 y2 f2 hadd;go_wp2;go_ret;rw [hmm] at HQ;exact ⟨rfl,by rw [<- HO.out.2.2,HO.out.1,HO.out.2.1,NS.out];exact HQ.out⟩
end
end Go.Proofs.YtnlbchmfcebeeaaGreat
