import Derived.Test.YtnlbchmfcebeeaaGreatTE6
set_option maxHeartbeats 12800000
set_option maxRecDepth 100000
namespace Go.Proofs.YtnlbchmfcebeeaaGreat
open Go.Proofs.Tryz Ch
open Go.RowKit
namespace Ch
theorem rounds_succ (ol : Ol) (n : Nat) (m : Ma) : rounds ol (n + 1) m = if busy ol m then rounds ol n (round ol m) else m:=rfl
theorem xI {ol : Ol} {m : Ma} (h : busy ol m = false) : ∀ n,rounds ol n m = m:=by
 intro n
 cases n with
 | zero=>rfl
 | succ n=>rw [rounds_succ,h];rfl
end Ch
section
variable (w : World) (B mb ob po : Nat) (ol : Ol)
theorem rK (m : Ma) (n : Nat) (hn : n <= 30) (hp : Pl w ob po ol) (hol : ol.Ok) (hm : Mm w B mb ob po m) (hs : m.s.Ok) (hB : B <= w.heap.size) (hz : m.Sz 500000000) :
 Calls prog 72 #[.pointer (some ⟨mb,0,none⟩),.int .i64 n] w fun x w' =>
  x = .returned (.tuple #[.agg (aj (Ch.finish ol n m).1).toArray,.string (Ch.finish ol n m).2.1,.int .i64 (Ch.finish ol n m).2.2]) /\ Kp (km B mb w) w w':=by
 obtain ⟨ds,hds,eH⟩:=cQ;have hr1:=heap_alloc_new w (.cells aF 95);have K1 : Kp (fun _=>False) w (w.alloc (.cells aF 95)):=(Kp.refl _ _).alloc _;have hM1:=hm.still K1;have hp1 : Pl (w.alloc (.cells aF 95)) ob po ol:=hp.keep K1 (fun _ _ _ _ _ x=>x);have Um:=hm.lt;clear hp hm
 go_enter func72,ntmps72
 go_wp2_with fail
 generalize w.alloc (.cells aF 95) = w1 at *;generalize hrb : w.heap.size = rb at *
 go_loopw [7] (fun i wr=>∃ (k : Nat) (m' : Ma),i = .int .i64 k /\ k <= n /\ Hid (Ch.rounds ol n m = Ch.rounds ol (n - k) m') /\ Mm wr B mb ob po m' /\ m'.s.Ok /\ m'.Sz (500000000 + 3900000 * k) /\ Kp (km B mb w1) w1 wr) (fun i _=>n - (intOf i).toNat)
 case atStart=>exact ⟨0,m,rfl,Nat.zero_le _,hid rfl,hM1,hs,hz,Kp.refl _ _⟩
 case round =>
  obtain ⟨k,m',rfl,hk,HE,hm',hs',hz',KW⟩:=hrel;have hpr : Pl wr ob po ol:=hM1.pl KW hp1;have hrr:=hM1.at_ KW hr1 (by decide) (by decide)
  have hBr : B <= wr.heap.size:=by have:=KW.size;have:=K1.size;omega
  have E1:=hid (xH wr B mb ob po ol m' hpr hol hm' hs');have HX:=hid (ae hm' (ae hpr (ae hrr KW)));clear hm' hpr hrr KW
  by_cases hlt : k < n
  ·have hlt' : (k : Int) < (n : Int):=by omega
   have ef : n - k = (n - (k + 1)) + 1:=by omega
   cases q : Ch.busy ol m' with
   | true =>
     rw [q] at E1;have HF:=hid (HE.out.trans (show _ = Ch.rounds ol (n - (k + 1)) (Ch.round ol m') by rw [ef,Ch.rounds_succ,q];rfl));have hs2:=xD (ol:=ol) hs';have hz2:=xE hol hz';clear HE ef
     go_wp2_with fail
     refine br E1 ?_;rintro x w2 ⟨rfl,K2⟩;obtain ⟨hm',hpr,hrr,KW⟩:=HX.out;have M2:=hm'.still K2;have hp2 : Pl w2 ob po ol:=hpr.keep K2 (fun _ _ _ _ _ x=>x);have E2:=hid (CV w2 B mb ob po ol m' hp2 hol M2 hs' (by have:=K2.size;omega) (hz'.le (by omega)));have K3:=Km.trans KW (Kp.km K2);clear hm' hpr hrr KW HX E1 M2 hp2 K2
     go_wp2_with fail
     refine br E2 ?_;rintro x w3 ⟨rfl,M3,K4⟩;have K5:=Km.trans K3 K4;clear E2 K3 K4;go_wp2
     go_roundw
     case rel=>exact ⟨k + 1,_,by go_num,by omega,HF,M3,hs2,hz2.le (by omega),K5⟩
     case measure=>simp [intOf];omega
   | false=>?_
   rw [q] at E1
   have HF:=hid (show Ch.finish ol n m = (m'.s,strOfNums m'.out,0) by
    have e:=HE.out.trans (xI q _)
    unfold Ch.finish;rw [e,q];rfl)
   clear HE ef
   go_wp2_with fail
   refine br E1 ?_;rintro x w2 ⟨rfl,K2⟩;obtain ⟨hm',hpr,hrr,KW⟩:=HX.out;have M2:=hm'.still K2;have hp2 : Pl w2 ob po ol:=hpr.keep K2 (fun _ _ _ _ _ x=>x);have hr2:=K2.at_ hrr (fun x=>x);have E2:=hid (xH w2 B mb ob po ol m' hp2 hol M2 hs');rw [q] at E2;have K3:=Km.trans KW (Kp.km K2);have HY:=hid (ae M2 (ae hr2 K3));clear hm' hpr hrr KW HX E1 M2 hp2 K2 hr2 K3
   go_wp2_with fail
   refine br E2 ?_;rintro x w3 ⟨rfl,K4⟩;obtain ⟨M2,hr2,K3⟩:=HY.out;have M3:=M2.still K4;have hr3:=K4.at_ hr2 (fun x=>x);have K5:=Km.trans K3 (Kp.km K4);obtain ⟨qv,ov,hmb,oq,oo,ap⟩:=id M3;clear HY E2 M2 hr2 K3 K4
   go_upto_region 7 with (fail)
   refine aB (fun w'=>eF w' mb ob po m'.s qv ov /\ bA w' B ov (ax m'.out)) (by kernel_rfl) ?_
   have hS0 : eF w3.drew mb ob po m'.s qv ov /\ bA w3.drew B ov (ax m'.out):=⟨hmb,oo⟩
   have y_ : (prog.info? 95).map (·.size) = some (aj m'.s).length:=by rw [aT hs'.1];exact aY
   have hne : mb ≠ rb:=by
    intro e;have h1 : w3.heap[mb]? = some (.cells _ 149 (0,0)):=hmb;rw [e,hr3] at h1;simp at h1
   have hS1 : eF (w3.drew.setRow rb (aj m'.s).toArray) mb ob po m'.s qv ov /\ bA (w3.drew.setRow rb (aj m'.s).toArray) B ov (ax m'.out):=by
    have n1:=oo.ne hr3 (by decide);have KR : Kp (fun k=>k = rb) w3.drew (w3.drew.setRow rb (aj m'.s).toArray):=Kp.setRow (S:=fun k=>k = rb) (Kp.refl _ _) (g:=rb) (fun _=>rfl) _;exact ⟨bM.keep (w:=w3.drew) hmb KR hne,bA.keep (w:=w3.drew) oo KR (fun i hi x=>by subst x;exact n1 hi)⟩
   have KF : Kp (km B mb w) w (w3.drew.setRow rb (aj m'.s).toArray):=((Km.trans (Kp.km K1) K5).drewN 1).setRow (fun x=>by omega) _;refine tm 0 22 (.pointer (some ⟨mb,0,none⟩)) rfl (fun w' _=>by rfl) hS0 ?_;refine tm 1 23 (.pointer (some ⟨mb,0,none⟩)) rfl (fun w' _=>by simp [execOp,Act.eval,Act.put,go_sem]) hS0 ?_;refine tm 2 24 (.pointer (some ⟨mb,1,none⟩)) rfl (fun w' _=>by simp [execOp,Act.eval,Act.put,go_sem]) hS0 ?_;refine tm 3 25 (.agg (aj m'.s).toArray) rfl (fun w' hS=>cr 95 (.tmp 24) rfl mb 1 (by simp [Act.eval,Act.put]) (aj m'.s) ds hS.1.stand hds eH y_) hS0 ?_;refine tm 4 26 (.pointer (some ⟨mb,0,none⟩)) rfl (fun w' _=>by simp [execOp,Act.eval,Act.put,go_sem]) hS0 ?_;refine tm 5 27 (.pointer (some ⟨mb,0,none⟩)) rfl (fun w' _=>by simp [execOp,Act.eval,Act.put,go_sem]) hS0 ?_;refine tm 6 28 (.pointer (some ⟨mb,38,none⟩)) rfl (fun w' _=>by simp [execOp,Act.eval,Act.put,go_sem]) hS0 ?_;refine tk 7 29 ov rfl (by kernel_rfl) rfl rfl (fun w' hS=>by have c:=hS.1.out hs'.1;simp [execOp,Act.eval,Act.put,go_sem,c]) hS0 ?_;refine tm 8 30 (.string (strOfNums m'.out)) rfl (fun w' hS=>kf 47 9 (.tmp 29) rfl ov _ (by simp [Act.eval,Act.put]) (gK hS.2)) hS0 ?_;refine bE 9 (by kernel_rfl) rfl rfl 95 (.tmp 4) (.tmp 25) rfl rfl rb (aj m'.s).toArray (by simp [Act.eval,Act.put]) (by simp [Act.eval,Act.put]) 95 aF (by exact hr3) (cY hs'.1) (by rw [dy hs'.1];rfl) (fT _) hS1 ?_;refine tm 10 5 (.string (strOfNums m'.out)) rfl (fun w' _=>by simp [execOp,Act.eval,Act.put,go_sem]) hS1 ?_;refine tm 11 6 (.int .i64 0) rfl (fun w' _=>by rfl) hS1 ?_;refine wpAnyH_done (by kernel_rfl) (NoPanic.normal ?_) _;simp only [Act.put,pA,pB,pC];go_wp2;refine bodyPost_ret (aC rfl _ _ rb 95 (aj m'.s).toArray (0,0) ds rfl (setRow_heap w3.drew _ _ _ _ _ (by exact hr3)) hds eH (cY hs'.1)) rfl ?_;rw [HF.out];exact ⟨rfl,KF⟩
  have hge : ¬ (k : Int) < (n : Int):=by omega
  have ek : n - k = 0:=by omega
  cases q : Ch.busy ol m' with
  | true =>
    rw [q] at E1
    have HF:=hid (show Ch.finish ol n m = (fY,ByteArray.empty,9) by
     have e : Ch.rounds ol n m = m':=HE.out.trans (by rw [ek];rfl)
     unfold Ch.finish;rw [e,q];rfl)
    clear HE ek
    go_wp2_with fail
    refine br E1 ?_;rintro x w2 ⟨rfl,K2⟩;obtain ⟨hm',hpr,hrr,KW⟩:=HX.out;have hr2:=K2.at_ hrr (fun x=>x);have K3:=Km.trans (Kp.km K1) (Km.trans KW (Kp.km K2));have KF : Kp (km B mb w) w (w2.setRow rb aF):=K3.setRow (fun x=>by omega) _;clear hm' hpr hrr KW HX E1 K2 K3
    go_wp2_with (refine wpList_store_row rfl 95 (.tmp 4) (.tmp 21) rfl rb aF rfl rfl 95 aF hr2 aY rfl mH ?_)
    refine bodyPost_ret (aC rfl _ _ rb 95 aF (0,0) ds rfl (setRow_heap _ _ _ _ _ _ hr2) hds eH aY) rfl ?_;rw [HF.out];exact ⟨rfl,KF⟩
  | false=>?_
  rw [q] at E1
  have HF:=hid (show Ch.finish ol n m = (m'.s,strOfNums m'.out,0) by
   have e : Ch.rounds ol n m = m':=HE.out.trans (by rw [ek];rfl)
   unfold Ch.finish;rw [e,q];rfl)
  clear HE ek
  go_wp2_with fail
  refine br E1 ?_;rintro x w3 ⟨rfl,K4⟩;obtain ⟨hm',hpr,hrr,KW⟩:=HX.out;have M3:=hm'.still K4;have hr3:=K4.at_ hrr (fun x=>x);have K5:=Km.trans KW (Kp.km K4);obtain ⟨qv,ov,hmb,oq,oo,ap⟩:=id M3;clear HX E1 hm' hpr hrr KW K4
  go_upto_region 7 with (fail)
  refine aB (fun w'=>eF w' mb ob po m'.s qv ov /\ bA w' B ov (ax m'.out)) (by kernel_rfl) ?_
  have hS0 : eF w3.drew mb ob po m'.s qv ov /\ bA w3.drew B ov (ax m'.out):=⟨hmb,oo⟩
  have y_ : (prog.info? 95).map (·.size) = some (aj m'.s).length:=by rw [aT hs'.1];exact aY
  have hne : mb ≠ rb:=by
   intro e;have h1 : w3.heap[mb]? = some (.cells _ 149 (0,0)):=hmb;rw [e,hr3] at h1;simp at h1
  have hS1 : eF (w3.drew.setRow rb (aj m'.s).toArray) mb ob po m'.s qv ov /\ bA (w3.drew.setRow rb (aj m'.s).toArray) B ov (ax m'.out):=by
   have n1:=oo.ne hr3 (by decide);have KR : Kp (fun k=>k = rb) w3.drew (w3.drew.setRow rb (aj m'.s).toArray):=Kp.setRow (S:=fun k=>k = rb) (Kp.refl _ _) (g:=rb) (fun _=>rfl) _;exact ⟨bM.keep (w:=w3.drew) hmb KR hne,bA.keep (w:=w3.drew) oo KR (fun i hi x=>by subst x;exact n1 hi)⟩
  have KF : Kp (km B mb w) w (w3.drew.setRow rb (aj m'.s).toArray):=((Km.trans (Kp.km K1) K5).drewN 1).setRow (fun x=>by omega) _;refine tm 0 22 (.pointer (some ⟨mb,0,none⟩)) rfl (fun w' _=>by rfl) hS0 ?_;refine tm 1 23 (.pointer (some ⟨mb,0,none⟩)) rfl (fun w' _=>by simp [execOp,Act.eval,Act.put,go_sem]) hS0 ?_;refine tm 2 24 (.pointer (some ⟨mb,1,none⟩)) rfl (fun w' _=>by simp [execOp,Act.eval,Act.put,go_sem]) hS0 ?_;refine tm 3 25 (.agg (aj m'.s).toArray) rfl (fun w' hS=>cr 95 (.tmp 24) rfl mb 1 (by simp [Act.eval,Act.put]) (aj m'.s) ds hS.1.stand hds eH y_) hS0 ?_;refine tm 4 26 (.pointer (some ⟨mb,0,none⟩)) rfl (fun w' _=>by simp [execOp,Act.eval,Act.put,go_sem]) hS0 ?_;refine tm 5 27 (.pointer (some ⟨mb,0,none⟩)) rfl (fun w' _=>by simp [execOp,Act.eval,Act.put,go_sem]) hS0 ?_;refine tm 6 28 (.pointer (some ⟨mb,38,none⟩)) rfl (fun w' _=>by simp [execOp,Act.eval,Act.put,go_sem]) hS0 ?_;refine tk 7 29 ov rfl (by kernel_rfl) rfl rfl (fun w' hS=>by have c:=hS.1.out hs'.1;simp [execOp,Act.eval,Act.put,go_sem,c]) hS0 ?_;refine tm 8 30 (.string (strOfNums m'.out)) rfl (fun w' hS=>kf 47 9 (.tmp 29) rfl ov _ (by simp [Act.eval,Act.put]) (gK hS.2)) hS0 ?_;refine bE 9 (by kernel_rfl) rfl rfl 95 (.tmp 4) (.tmp 25) rfl rfl rb (aj m'.s).toArray (by simp [Act.eval,Act.put]) (by simp [Act.eval,Act.put]) 95 aF (by exact hr3) (cY hs'.1) (by rw [dy hs'.1];rfl) (fT _) hS1 ?_;refine tm 10 5 (.string (strOfNums m'.out)) rfl (fun w' _=>by simp [execOp,Act.eval,Act.put,go_sem]) hS1 ?_;refine tm 11 6 (.int .i64 0) rfl (fun w' _=>by rfl) hS1 ?_;refine wpAnyH_done (by kernel_rfl) (NoPanic.normal ?_) _;simp only [Act.put,pA,pB,pC];go_wp2;refine bodyPost_ret (aC rfl _ _ rb 95 (aj m'.s).toArray (0,0) ds rfl (setRow_heap w3.drew _ _ _ _ _ (by exact hr3)) hds eH (cY hs'.1)) rfl ?_;rw [HF.out];exact ⟨rfl,KF⟩
end
theorem vM {B mb : Nat} {w0 w w' : World} (hA : Kp (fun _=>False) w0 w) (k : Kp (km B mb w) w w') (hB : w0.heap.size <= B) (hm : w0.heap.size <= mb) : Kp (fun _=>False) w0 w' :=
 hA.trans' k (fun i hi x=>by rcases x with x | ⟨x,_⟩ <;> omega)
theorem Mm.new {w : World} {B mb ob po : Nat} {s : Sd} (h : w.heap[mb]? = some (.cells (D_ (some ⟨ob,po,none⟩) s) 149 (0,0))) : Mm w B mb ob po ⟨s,[],[]⟩ :=
 ⟨.slice none 0 0,.slice none 0 0,eF.ofRow h,.inl ⟨rfl,rfl⟩,.inl ⟨rfl,rfl⟩,fun i hi=>by simp [Value.ownBlock] at hi⟩
theorem Iz (ol : Ol) : InT ol []:=by intro n hn;simp at hn
namespace Ch
theorem CW {ol : Ol} : ∀ (n : Nat) {m : Ma},m.s.Ok -> (rounds ol n m).s.Ok:=by
 intro n
 induction n with
 | zero=>intro m h;exact h
 | succ n ih=>?_
 intro m h;rw [rounds_succ]
 split
 ·exact ih (xD h)
 exact h
theorem vN : fY.Ok:=⟨l7,by simp [fY],by simp [fY]⟩
theorem me {ol : Ol} {m : Ma} (h : m.s.Ok) (n : Nat) : (finish ol n m).1.Ok:=by
 unfold finish
 split
 ·exact vN
 exact CW n h
theorem uy {ol : Ol} {m : Ma} (h : m.s.Ok) (n : Nat) : (finish ol n m).1.Wf:=(me h n).1
end Ch
section
variable (w : World) (ob po : Nat) (ol : Ol)
theorem rL (hp : Pl w ob po ol) (hol : ol.Ok) :
 Calls prog 43 #[.pointer (some ⟨ob,po,none⟩)] w fun x w' =>
  x = .returned (.tuple #[.agg (aj (Ch.mstart ol).1).toArray,.string (Ch.mstart ol).2.1,.int .i64 (Ch.mstart ol).2.2]) /\ Kp (fun _=>False) w w':=by
 obtain ⟨ds,hds,eH⟩:=cQ;have hwf:=iL ol.ag;have hok:=mJ ol.ag;have HB:=hid (rB (some ⟨ob,po,none⟩) (bp ol.ag) hwf);have hr1:=heap_alloc_new w (.cells aF 95);have K1 : Kp (fun _=>False) w (w.alloc (.cells aF 95)):=(Kp.refl _ _).alloc _;have hp1 : Pl (w.alloc (.cells aF 95)) ob po ol:=hp.keep K1 (fun _ _ _ _ _ x=>x);have E0:=hid (CB ob po (w.alloc (.cells aF 95)) ol.ag hp1.str);have HU:=hid (show Ch.mstart ol = Ch.finish ol 30 (Ch.enter ol ⟨bp ol.ag,[],[]⟩ []) from rfl);have mI:=xo (some ⟨ob,po,none⟩) hwf;have mS:=rC (some ⟨ob,po,none⟩) hwf;have mO:=Br (some ⟨ob,po,none⟩) (bp ol.ag);clear hp
 go_enter func43,ntmps43
 go_wp2_with fail
 refine br E0 ?_;rintro x w2 ⟨rfl,K2⟩;have hr2:=K2.at_ hr1 (fun x=>x);have hp2 : Pl w2 ob po ol:=hp1.keep K2 (fun _ _ _ _ _ x=>x);have KA:=K1.trans K2;have hsz2 : w.heap.size < w2.heap.size:=lt_of_block hr2;have hnew:=heap_alloc_new w2 (.cells ox 149);have hmr:=setRow_heap (w2.alloc (.cells ox 149)) w2.heap.size ox (D_ (some ⟨ob,po,none⟩) (bp ol.ag)) 149 (0,0) hnew;have K3 : Kp (fun _=>False) w2 ((w2.alloc (.cells ox 149)).setRow w2.heap.size (D_ (some ⟨ob,po,none⟩) (bp ol.ag))):=((Kp.refl _ _).alloc _).setRow (fun x=>by omega) _;have M3:=Mm.new (B:=w.heap.size) hmr;have hp3:=hp2.keep K3 (fun _ _ _ _ _ x=>x);have hr3:=K3.at_ hr2 (fun x=>x);have KB:=KA.trans K3;clear hr1 hp1 hr2 hp2 K1 K2 KA K3 E0 hmr;generalize (aj (bp ol.ag)).toArray = BL at *;generalize D_ (some ⟨ob,po,none⟩) (bp ol.ag) = MA at *
 go_wp2_with (first | (refine bn rfl 149 #[(0,.tmp 6),(1,.tmp 8)] rfl MA [(0,.pointer (some ⟨ob,po,none⟩)),(1,.agg BL)] ?_ HB.out ?_;rfl) | refine wpList_store_row rfl 149 (.tmp 5) (.tmp 9) rfl w2.heap.size MA rfl rfl 149 ox hnew mI (by rw [mS];rfl) mO ?_)
 generalize (w2.alloc (.cells ox 149)).setRow w2.heap.size MA = w3 at *;generalize w2.heap.size = mb at *;have hB3 : w.heap.size <= w3.heap.size:=KB.size;have E1:=hid (ux w3 w.heap.size mb ob po ol ⟨bp ol.ag,[],[]⟩ (.slice none 0 0) [] ⟨0,World.ownsRow_nil _ _ _ _⟩ (Iz ol) (by simp) hp3 hol M3 hok hB3 ⟨by simp,by simp⟩);have MV:=nK (ol:=ol) (m:=⟨bp ol.ag,[],[]⟩) hok [];have Iw:=rJ hol (m:=⟨bp ol.ag,[],[]⟩) (n:=0) ⟨by simp,by simp⟩ [];have HX:=hid (ae M3 (ae hp3 (ae hr3 KB)));clear hnew mI mS mO HB M3 hp3 hr3 KB
 go_wp2_with fail
 refine br E1 ?_;rintro x w4 ⟨rfl,M4,K4⟩;obtain ⟨M3,hp3,hr3,KB⟩:=HX.out;have mL:=M3.pl K4 hp3;have hr4:=M3.at_ K4 hr3 (by decide) (by decide);have KC:=vM KB K4 (Nat.le_refl _) (by omega);generalize Iv : Ch.enter ol ⟨bp ol.ag,[],[]⟩ [] = m4 at *;have Pa:=hid Iv;clear Iv;have E2:=hid (rK w4 w.heap.size mb ob po ol m4 30 (by omega) mL hol M4 MV KC.size (Iw.le (by omega)));have HY:=hid (ae M4 (ae hr4 KC));clear M3 hp3 hr3 KB HX K4 E1 mL M4 hr4 KC
 go_wp2_with fail
 refine br E2 ?_;rintro x w5 ⟨rfl,K5⟩;obtain ⟨M4,hr4,KC⟩:=HY.out;have gb:=M4.at_ K5 hr4 (by decide) (by decide);have KD:=vM KC K5 (Nat.le_refl _) (by omega);clear M4 hr4 KC HY K5 E2;generalize hf : Ch.finish ol 30 m4 = fr at *;obtain ⟨fs,ft,fe⟩:=fr
 have hfw : fs.Wf:=by
  have : (Ch.finish ol 30 m4).1 = fs:=by rw [hf]
  rw [<- this];exact uy MV _
 have HF:=hid hf;clear hf;have fI:=cY hfw;have fS:=dy hfw;have fO:=fT fs;have KF : Kp (fun _=>False) w (w5.setRow w.heap.size (aj fs).toArray):=KD.setRow (fun x=>by omega) _;simp only;generalize xJ : (aj fs).toArray = FA at *;have HA:=hid xJ;clear xJ
 go_wp2_with (refine wpList_store_row rfl 95 (.tmp 2) (.tmp 12) rfl w.heap.size FA rfl rfl 95 aF gb fI (by rw [fS];rfl) fO ?_)
 refine bodyPost_ret (aC rfl _ _ w.heap.size 95 FA (0,0) ds rfl (setRow_heap _ _ _ _ _ _ gb) hds eH fI) rfl ?_
 first | rw [HU.out,Pa.out,HF.out,<- HA.out] | rw [HU.out,HF.out,<- HA.out] | rw [HU.out,<- HA.out]
 exact ⟨rfl,by rw [HA.out];exact KF⟩
theorem oV (s : Sd) (ev : Int) (hok : s.Ok) (hp : Pl w ob po ol) (hol : ol.Ok) :
 Calls prog 57 #[.pointer (some ⟨ob,po,none⟩),.agg (aj s).toArray,.int .u8 ev] w fun x w' =>
  x = .returned (.tuple #[.agg (aj (aL ol s ev).1).toArray,.string (aL ol s ev).2.1,.int .i64 (aL ol s ev).2.2]) /\ Kp (fun _=>False) w w':=by
 obtain ⟨ds,hds,eH⟩:=cQ;have hwf:=hok.1;have HB:=hid (rB (some ⟨ob,po,none⟩) s hwf);have HU:=hid (show aL ol s ev = Ch.finish ol 29 (dE ol ⟨s,[],[]⟩ (Ch.choose ol s ev)) from rfl);have mI:=xo (some ⟨ob,po,none⟩) hwf;have mS:=rC (some ⟨ob,po,none⟩) hwf;have mO:=Br (some ⟨ob,po,none⟩) s;have sI:=cY hwf
 have hb1 : ((w.alloc (.cells (aj s).toArray 95)).alloc (.cells aF 95)).heap[w.heap.size]? = some (.cells (aj s).toArray 95):=by
  rw [Below.heap_alloc _ _ _ (by simp)];exact heap_alloc_new _ _
 have hr1 : ((w.alloc (.cells (aj s).toArray 95)).alloc (.cells aF 95)).heap[w.heap.size + 1]? = some (.cells aF 95):=heap_alloc2_new w _ _;have K1 : Kp (fun _=>False) w ((w.alloc (.cells (aj s).toArray 95)).alloc (.cells aF 95)):=((Kp.refl _ _).alloc _).alloc _
 have hs1 : w.heap.size + 1 < ((w.alloc (.cells (aj s).toArray 95)).alloc (.cells aF 95)).heap.size:=by simp
 have hp1:=hp.keep K1 (fun _ _ _ _ _ x=>x);obtain ⟨hin,h16⟩:=jO ol s ev;have mE:=hol.ag;clear hp;generalize m9 : (aj s).toArray = SA at *;generalize Sl : D_ (some ⟨ob,po,none⟩) s = MA at *;have Un:=hid Sl;clear m9 Sl
 go_enter func57,ntmps57
 go_upto_region 1 with (fail)
 generalize (w.alloc (.cells SA 95)).alloc (.cells aF 95) = w2 at *;have hnew:=heap_alloc_new w2 (.cells ox 149);have hmr:=setRow_heap (w2.alloc (.cells ox 149)) w2.heap.size ox MA 149 (0,0) hnew;have K3 : Kp (fun _=>False) w2 ((w2.alloc (.cells ox 149)).setRow w2.heap.size MA):=((Kp.refl _ _).alloc _).setRow (fun x=>by omega) _;have M3 : Mm ((w2.alloc (.cells ox 149)).setRow w2.heap.size MA) w.heap.size w2.heap.size ob po ⟨s,[],[]⟩:=Mm.new (by rw [Un.out];exact hmr);have hp3:=hp1.keep K3 (fun _ _ _ _ _ x=>x);have hr3:=K3.at_ hr1 (fun x=>x);have KB:=K1.trans K3;have HX:=hid (ae M3 (ae hp3 (ae hr3 KB)));clear hr1 hp1 K1 K3 hmr M3 hp3 hr3 KB
 go_wp2_with (first | refine wpList_load_row rfl 95 (.tmp 4) rfl w.heap.size rfl 95 SA (0,0) ds hb1 hds (by cases ds <;> first | rfl | exact absurd eH (by simp [ar])) sI ?_ | (refine bn rfl 149 #[(0,.tmp 11),(1,.tmp 12)] rfl MA [(0,.pointer (some ⟨ob,po,none⟩)),(1,.agg SA)] ?_ HB.out ?_;rfl) | refine wpList_store_row rfl 149 (.tmp 9) (.tmp 13) rfl w2.heap.size MA rfl rfl 149 ox hnew mI (by rw [mS];rfl) mO ?_)
 generalize (w2.alloc (.cells ox 149)).setRow w2.heap.size MA = w3 at *;generalize w2.heap.size = mb at *;obtain ⟨M3,hp3,hr3,KB⟩:=HX.out;obtain ⟨qv,ov,hmm,_⟩:=id M3;have E0:=hid (iQ w3 mb ob po s qv ov ol ev hmm hwf hp3 hol);clear hnew mI mS mO HB M3 hp3 hr3 KB hb1 sI hmm
 go_wp2_with fail
 refine br E0 ?_;rintro x w4 ⟨v4,rfl,h4,K4⟩;obtain ⟨M3,hp3,hr3,KB⟩:=HX.out;have M4:=M3.still K4;have mL:=hp3.keep K4 (fun _ _ _ _ _ x=>x);have hr4:=K4.at_ hr3 (fun x=>x);have KC:=KB.trans K4;generalize hch : Ch.choose ol s ev = list at *;have Uo:=hid hch;clear hch;have E1:=hid (jQ w4 w.heap.size mb ob po ol ⟨s,[],[]⟩ v4 list h4 hin (by omega) mL hol M4 hok KC.size ⟨by simp,by simp⟩);have MW:=jP (ol:=ol) (m:=⟨s,[],[]⟩) hok list;have Uq:=lf hol (m:=⟨s,[],[]⟩) (n:=0) ⟨by simp,by simp⟩ (list:=list) (by omega);have HY:=hid (ae M4 (ae mL (ae hr4 KC)));clear M3 hp3 hr3 KB HX K4 E0 M4 mL hr4 KC h4
 go_wp2_with fail
 refine br E1 ?_;rintro x w5 ⟨rfl,M5,K5⟩;obtain ⟨M4,mL,hr4,KC⟩:=HY.out;have qE:=M4.pl K5 mL;have gb:=M4.at_ K5 hr4 (by decide) (by decide);have KD:=vM KC K5 (Nat.le_refl _) (by omega);generalize Iv : dE ol ⟨s,[],[]⟩ list = m4 at *;have Pa:=hid Iv;clear Iv;have E2:=hid (rK w5 w.heap.size mb ob po ol m4 29 (by omega) qE hol M5 MW KD.size (Uq.le (by omega)));have HZ:=hid (ae M5 (ae gb KD));clear M4 mL hr4 KC HY K5 E1 qE M5 gb KD
 go_wp2_with fail
 refine br E2 ?_;rintro x w6 ⟨rfl,K6⟩;obtain ⟨M5,gb,KD⟩:=HZ.out;have mw:=M5.at_ K6 gb (by decide) (by decide);have KE:=vM KD K6 (Nat.le_refl _) (by omega);clear M5 gb KD HZ K6 E2;generalize hf : Ch.finish ol 29 m4 = fr at *;obtain ⟨fs,ft,fe⟩:=fr
 have hfw : fs.Wf:=by
  have : (Ch.finish ol 29 m4).1 = fs:=by rw [hf]
  rw [<- this];exact uy MW _
 have HF:=hid hf;clear hf;have fI:=cY hfw;have fS:=dy hfw;have fO:=fT fs;have KF : Kp (fun _=>False) w (w6.setRow (w.heap.size + 1) (aj fs).toArray):=KE.setRow (fun x=>by omega) _;simp only;generalize xJ : (aj fs).toArray = FA at *;have HA:=hid xJ;clear xJ
 go_wp2_with (refine wpList_store_row rfl 95 (.tmp 6) (.tmp 19) rfl (w.heap.size + 1) FA rfl rfl 95 aF mw fI (by rw [fS];rfl) fO ?_)
 refine bodyPost_ret (aC rfl _ _ (w.heap.size + 1) 95 FA (0,0) ds rfl (setRow_heap _ _ _ _ _ _ mw) hds eH fI) rfl ?_
 first | rw [HU.out,Uo.out,Pa.out,HF.out,<- HA.out] | rw [HU.out,Pa.out,HF.out,<- HA.out] | rw [HU.out,HF.out,<- HA.out] | rw [HU.out,<- HA.out]
 exact ⟨rfl,by rw [HA.out];exact KF⟩
end
end Go.Proofs.YtnlbchmfcebeeaaGreat
