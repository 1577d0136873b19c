import Derived.Test.YtnlbchmfcebeeaaGreatTX5
import Derived.Test.YtnlbchmfcebeeaaGreatTX6
import Derived.Test.YtnlbchmfcebeeaaGreatTE7
import Derived.Deep.CutRange
import Derived.Deep.RegionHeld3
import Derived.Deep.QuietTactic
import Derived.BigQuiet
set_option maxHeartbeats 12800000
set_option maxRecDepth 100000
namespace Go.Proofs.YtnlbchmfcebeeaaGreat
open Go.RowKit
def NvBd (l : List NV) (k : Nat) : Prop:=l.length ≤ k ∧ ∀ x ∈ l,x.n.enter.length ≤ k ∧ x.n.leave.length ≤ k ∧ x.n.trans.length ≤ k
theorem NvBd.mono {l : List NV} {k j : Nat} (h : NvBd l k) (hk : k ≤ j) : NvBd l j:=⟨by have:=h.1;omega,fun x hx=>by have:=h.2 x hx;omega⟩
theorem NvBd.push {l : List NV} {k : Nat} (h : NvBd l k) {n : Ch.RN} (hn : n.enter = [] ∧ n.leave = [] ∧ n.trans = []) {a b c : Value} : NvBd (l ++ [⟨n,a,b,c⟩]) (k + 1):=by
 refine ⟨by have:=h.1;simp;omega,fun x hx=>?_⟩
 rcases List.mem_append.1 hx with hx | hx
 ·have:=h.2 x hx;omega
 simp at hx;subst hx;simp [hn.1,hn.2.1,hn.2.2]
theorem NvBd.set {l : List NV} {k j m : Nat} (h : NvBd l k) (hk : k ≤ j) {y : NV} (hy : y.n.enter.length ≤ j ∧ y.n.leave.length ≤ j ∧ y.n.trans.length ≤ j) : NvBd (l.set m y) j:=by
 refine ⟨by have:=h.1;simp;omega,fun x hx=>?_⟩
 rcases mem_set_or hx with hx | rfl
 ·have:=h.2 x hx;omega
 exact hy
def NodI (t : ByteArray) (B : Nat) (res : List Ch.RN) (w1 wr : World) (u4 u5 : Value) : Prop :=
 ∃ (k : Nat) (up : Int) (l : List NV) (v : Value),u4 = .int .i64 up ∧ u5 = .int .i64 k ∧ ChF wr B B l v ∧ Ch.NRun t k up (Ch.mk l) res ∧ NvBd l k ∧ Kp (fun i=>B ≤ i) w1 wr ∧ k ≤ 300
def NodR (w' : World) (B cb : Nat) (res : List Ch.RN) : Prop:=∃ l v,ChF w' B cb l v ∧ Ch.mk l = res ∧ NvBd l 300
theorem ChF.behind {w w9 : World} {B cb : Nat} {l : List NV} {g ln cap : Nat} (h : ChF w B cb l (.slice (some ⟨g,0,none⟩) ln cap)) {u : Value} (K : Kp (fun i=>u.ownBlock = some i) w w9) {e : TypeId} {size n : Nat} {xs : List Value} (hu : w.ownsRow B e size u n xs)
 (he : e ≠ 223) (he2 : e ≠ 219) {k : Nat} {x : NV} (hk : l[k]? = some x) :
 w9.cell? ⟨cb,0,none⟩ = some (.slice (some ⟨g,0,none⟩) ln cap) ∧ (∀ j,j < 7 → w9.cell? ⟨g,k * 7 + j,none⟩ = (nvRow x)[j]?) ∧ (∀ o,w9.frozen? ⟨g,o,none⟩ = false):=by
 have hlt:=(List.getElem?_eq_some_iff.1 hk).1;have h1:=K.at_ h.1 (own_ne hu h.1 he2);have h2:=K.owns h.2.1.row (fun i hi x=>own_apart hu h.2.1.row he i x hi);obtain rfl:=row_len h2;refine ⟨by rw [World.cell?,h1];rfl,fun j hj=>?_,fun o=>h2.frozenAt o⟩;rw [← nvCells_at l k x hk j hj];exact h2.cellAt (k * 7 + j) (by omega)
def MarkR (B k : Nat) (up : Int) (l : List NV) (v : Value) (w1 wx : World) : Prop:=∃ l1,ChF wx B B l1 v ∧ Ch.mk l1 = Ch.nMark (Ch.mk l) up ∧ NvBd l1 k ∧ l1.length = l.length ∧ Kp (fun i=>B ≤ i) w1 wx
def needB (l : List NV) (up : Int) : Bool:=match Ch.nAt (Ch.mk l) up with | some n=>n.kind == 1 | none=>false
theorem needB_neg (l : List NV) {up : Int} (h : up < 0) : needB l up = false:=by
 unfold needB
 cases up with
 | ofNat k=>exact absurd h (by simp)
 | negSucc k=>rfl
theorem needB_at {l : List NV} {m : Nat} {x : NV} (hx : l[m]? = some x) : needB l (m : Int) = (x.n.kind == 1):=by
 have : Ch.nAt (Ch.mk l) (m : Int) = some x.n:=by show (Ch.mk l)[m]? = _;unfold Ch.mk;rw [List.getElem?_map,hx];rfl
 unfold needB;rw [this]
theorem Ch.nMark_neg (L : List Ch.RN) {up : Int} (h : up < 0) : Ch.nMark L up = L:=by
 unfold Ch.nMark
 cases up with
 | ofNat k=>exact absurd h (by simp)
 | negSucc k=>rfl
theorem Ch.nMark_at {l : List NV} {m : Nat} {x : NV} (hx : l[m]? = some x) : Ch.nMark (Ch.mk l) (m : Int) = if x.n.kind == 1 then Ch.mk (l.set m { x with n:={ x.n with kind:=2 } }) else Ch.mk l:=by
 have : Ch.nAt (Ch.mk l) (m : Int) = some x.n:=by show (Ch.mk l)[m]? = _;unfold Ch.mk;rw [List.getElem?_map,hx];rfl
 unfold Ch.nMark;rw [this];simp only
 split
 ·exact (Ch.mk_set hx rfl).symm
 rfl
theorem Ch.mk_push (l : List NV) (n : Ch.RN) (a b c : Value) : Ch.mk (l ++ [⟨n,a,b,c⟩]) = Ch.mk l ++ [n]:=by simp [Ch.mk]
theorem NvBd.kind {l : List NV} {k m : Nat} {x : NV} (h : NvBd l k) (hx : l[m]? = some x) (c : Int) : NvBd (l.set m { x with n:={ x.n with kind:=c } }) k :=
 h.set (Nat.le_refl _) (h.2 x (List.mem_of_getElem? hx))
section
variable (w : World)
theorem rNodes_any (t : ByteArray) (res : List Ch.RN) (ht : t.size ≤ 240) (hR : Ch.NRun t 0 (-1) [] res) :
 Calls Tryz.prog 194 #[.string t] w fun x w'=>x = .returned (.pointer (some ⟨w.heap.size,0,none⟩)) ∧ NodR w' w.heap.size w.heap.size res ∧ Kp (fun _=>False) w w':=by
 have hC : ChF (w.alloc (.cells #[.slice none 0 0] 219)) w.heap.size w.heap.size [] (.slice none 0 0) :=
  ⟨heap_alloc_new w _,⟨World.ownsRow_nil _ _ _ _,by simp,by simp,by simp,by simp,by simp,by simp,by simp⟩,Nat.le_refl _⟩
 have K0 : Kp (fun _=>False) w (w.alloc (.cells #[.slice none 0 0] 219)):=(Kp.refl _ _).alloc _
 go_enter Tryz.func194,Tryz.ntmps194
 go_upto_region 4 with (fail)
 generalize w.alloc (.cells #[.slice none 0 0] 219) = w1 at *;generalize hB : w.heap.size = B at *
 go_loopw [4,5] (fun u4 u5 wr=>Hid (NodI t B res w1 wr u4 u5)) (fun _ i _=>300 - (intOf i).toNat)
 case atStart=>exact hid ⟨0,-1,[],.slice none 0 0,rfl,rfl,hC,hR,⟨Nat.zero_le _,by simp⟩,Kp.refl _ _,by omega⟩
 case round =>
  obtain ⟨k,up,l,v,rfl,rfl,hF,hN,hbd,KW,hk300⟩:=hrel.out;clear hrel;have zc:=hF.cell;have fc:=hF.free 0;have hlen:=hbd.1
  by_cases hlt : k < t.size
  ·have hlt' : (k : Int) < (t.size : Int):=by omega
   obtain ⟨c,hc⟩ : ∃ c : Int,(t[k].toNat : Int) = c:=⟨_,rfl⟩
   have hpk:=hid ((Ch.peek_get hlt).trans hc)
   cases qo : Ch.isOpen c with
   | true =>
     obtain ⟨hk1,hup,hN'⟩:=hN.open hlt (by rw [hpk.out];exact qo);rw [hpk.out,Ch.peek_get hk1] at hN';have E:=hid (rOpened_any wr c)
     have hk1' : (k : Int) + 1 < (t.size : Int):=by omega
     obtain ⟨kd,hkd,hkc⟩ : ∃ kd,Ch.kindOf c = kd ∧ ((c = 40 ∧ kd = 1) ∨ (c = 91 ∧ kd = 3) ∨ (c = 60 ∧ kd = 4) ∨ (c = 42 ∧ kd = 5)):=by
      rcases Ch.isOpen_cases _ qo with rfl | rfl | rfl | rfl
      ·exact ⟨1,rfl,.inl ⟨rfl,rfl⟩⟩
      ·exact ⟨3,rfl,.inr (.inl ⟨rfl,rfl⟩)⟩
      ·exact ⟨4,rfl,.inr (.inr (.inl ⟨rfl,rfl⟩))⟩
      exact ⟨5,rfl,.inr (.inr (.inr ⟨rfl,rfl⟩))⟩
     rw [hkd] at E hN';have HN':=hid hN';have HH:=hid (And.intro hF (And.intro hbd (And.intro KW hup)));clear hF hN hN' hbd KW hup hkd
     obtain ⟨nm,hnm⟩ : ∃ nm : Int,((t[k + 1]'hk1).toNat : Int) = nm:=⟨_,rfl⟩
     have wk1 : IntKind.i64.wrap ((k : Int) + 1) = (k : Int) + 1:=i64_wrap_in (by omega)
     have tk1 : ((k : Int) + 1).toNat = k + 1:=by omega
     have hgB0 : (0 : Int) ≤ (k : Int) + 1:=by omega
     have HKC:=hid hkc;have hop:=hid qo;clear hkc qo
     go_upto_region 7 with (fail)
     go_cut [20] from 20 to 21 (fun b wx=>b = .bool (c == 40) ∧ wx = wr)
     case first =>
      go_wp2_with fail
      go_meet
      exact ⟨rfl,rfl⟩
     case rest =>
     obtain ⟨rfl,e2⟩:=hcut;rw [e2];clear e2;generalize hq0 : (c == 40) = q0;have HQ:=hid hq0;clear hq0
     go_upto_if 20 with (fail)
     go_cut [20,22] from 22 to 24 (fun b _ wx=>b = .bool true ∧ wx = wr)
     case first =>
      rcases Ch.isOpen_cases _ hop.out with rfl | rfl | rfl | rfl
      all_goals
       obtain rfl:=HQ.out
       go_wp2_with fail
       go_meet
       exact ⟨rfl,rfl⟩
     case rest =>
     obtain ⟨rfl,e2⟩:=hcut;rw [e2];clear e2
     go_wp2_with fail
     refine cMo E ?_;rintro y w2 ⟨rfl,e2⟩;rw [e2];clear E e2 w2
     go_upto_region 12 with (fail)
     go_cut [41] from 29 to 40 (fun b wx=>b = .bool (needB l up) ∧ wx = wr)
     case first =>
      obtain ⟨hF,hbd,KW,hup⟩:=HH.out
      by_cases hneg : up < 0
      ·have hneg' : ¬ (0 : Int) ≤ up:=by omega
       have hM:=hid (needB_neg l hneg);clear hF hbd KW hup
       go_wp2_with fail
       go_meet
       rw [hM.out];exact ⟨rfl,rfl⟩
      obtain ⟨n,hn⟩:=Option.isSome_iff_exists.1 (hup.resolve_left hneg);obtain ⟨m,x,rfl,hx,rfl,hml⟩:=Ch.nAt_mk hn;obtain ⟨g,cap,rfl,hBg,hcell,hfr⟩:=hF.2.1.form hx;have z1 : wr.cell? ⟨g,m * 7 + 1,none⟩ = some (.int .i64 x.n.kind):=hcell 1 (by omega)
      have hm' : (m : Int) < (l.length : Int):=by omega
      have hM:=hid (needB_at hx);clear hF hbd KW hup hn hcell hfr hneg
      go_wp2_with fail
      go_meet
      rw [hM.out];exact ⟨rfl,rfl⟩
     case rest =>
     obtain ⟨rfl,rfl⟩:=hcut;generalize hnb : needB l up = nb;have HNB:=hid hnb;clear hnb
     go_upto_if 41 with (fail)
     go_cut [42] from 42 to 48 (fun _ wx=>MarkR B k up l v w1 wx)
     case first =>
      obtain ⟨hF,hbd,KW,hup⟩:=HH.out
      by_cases hneg : up < 0
      ·have hM:=hid (show MarkR B k up l v w1 wc from ⟨l,hF,(Ch.nMark_neg _ hneg).symm,hbd,rfl,KW⟩)
       obtain rfl : nb = false:=HNB.out.symm.trans (needB_neg l hneg);clear hF hbd KW hup
       go_wp2_with fail
       go_meet
       exact hM.out
      obtain ⟨n,hn⟩:=Option.isSome_iff_exists.1 (hup.resolve_left hneg);obtain ⟨m,x,rfl,hx,rfl,hml⟩:=Ch.nAt_mk hn;obtain ⟨g,cap,rfl,hBg,hcell,hfr⟩:=hF.2.1.form hx;have z1 : wc.cell? ⟨g,m * 7 + 1,none⟩ = some (.int .i64 x.n.kind):=hcell 1 (by omega);have f1:=hfr (m * 7 + 1)
      have hm' : (m : Int) < (l.length : Int):=by omega
      have hat:=Ch.nMark_at hx;have hq:=needB_at hx
      cases qk : x.n.kind == 1 with
      | true =>
        rw [qk] at hat hq;have hM:=hid (show MarkR B k (m : Int) l _ w1 (wc.setCell ⟨g,m * 7 + 1,none⟩ (.int .i64 2)) from ⟨_,hF.setKind hx 2,hat.symm,hbd.kind hx 2,by simp,KW.setCell (p:=⟨g,m * 7 + 1,none⟩) (fun _=>hBg) _⟩);obtain rfl : nb = true:=HNB.out.symm.trans hq;clear hF hbd KW hup hat hn hcell hfr hneg qk hq
        go_wp2_with fail
        go_meet
        exact hM.out
      | false=>?_
      rw [qk] at hat hq;have hM:=hid (show MarkR B k (m : Int) l _ w1 wc from ⟨l,hF,hat.symm,hbd,rfl,KW⟩);obtain rfl : nb = false:=HNB.out.symm.trans hq;clear hF hbd KW hup hat hn hcell hfr hneg qk hq
      go_wp2_with fail
      go_meet
      exact hM.out
     case rest =>
      obtain ⟨l1,hF1,hmk,hbd1,hl1,KW1⟩:=hcut;clear zc fc HH;have zc:=hF1.cell;have hzc:=(hF1.keep0 ((Kp.refl _ _).alloc (.cells #[.int .u8 nm,.int .i64 kd,.int .i64 up,.int .i64 ((k : Int) + 1),.slice none 0 0,.slice none 0 0,.slice none 0 0] 223))).cell;have hlow:=hF1.low;have hlen1:=hbd1.1;obtain ⟨i0,hi,hz0,hz1,hz2⟩:=info_parts Tryz.infoNdR;obtain ⟨g1,c1,w9,hr9,o9,g9,hw9⟩:=run_append_where (P:=Tryz.prog) (wc.drew.alloc (.cells #[.int .u8 nm,.int .i64 kd,.int .i64 up,.int .i64 ((k : Int) + 1),.slice none 0 0,.slice none 0 0,.slice none 0 0] 223)) B 217 217 223 i0 (.agg #[.int .u8 0,.int .i64 0,.int .i64 0,.int .i64 0,.slice none 0 0,.slice none 0 0,.slice none 0 0]) 7 104 Tryz.underlying217 hi hz0 hz1 hz2 rfl (by decide) v l1.length (nvCells l1) (by exact hF1.2.1.row.alloc _) ⟨wc.heap.size,0,none⟩ 1 1 [.int .u8 nm,.int .i64 kd,.int .i64 up,.int .i64 ((k : Int) + 1),.slice none 0 0,.slice none 0 0,.slice none 0 0] rfl (by exact cells_new _ _ _) (by intro u hu;simp at hu;rcases hu with rfl | rfl | rfl | rfl | rfl <;> rfl) (by decide) (by unfold maxLen;omega) (by omega) (by simp;omega);have K9 : Kp (fun i=>v.ownBlock = some i) wc w9:=Kp.grown (by exact ((Kp.refl _ _).alloc (.cells #[.int .u8 nm,.int .i64 kd,.int .i64 up,.int .i64 ((k : Int) + 1),.slice none 0 0,.slice none 0 0,.slice none 0 0] 223)).drew) g9 (fun i hi _=>hi);have hc9:=K9.at_ hF1.1 hF1.ne
      have y1 : w9.cell? ⟨B,0,none⟩ = some v:=by rw [World.cell?,hc9];rfl
      have yf : w9.frozen? ⟨B,0,none⟩ = false:=by simp [World.frozen?,hc9]
      have hFz : ChF (w9.setCell ⟨B,0,none⟩ (.slice (some ⟨g1,0,none⟩) (l1.length + 1) c1)) B B (l1 ++ [⟨⟨nm,kd,up,(k : Int) + 1,[],[],[]⟩,.slice none 0 0,.slice none 0 0,.slice none 0 0⟩]) (.slice (some ⟨g1,0,none⟩) (l1.length + 1) c1):=ChF.push (w:=(wc.alloc (.cells #[.int .u8 nm,.int .i64 kd,.int .i64 up,.int .i64 ((k : Int) + 1),.slice none 0 0,.slice none 0 0,.slice none 0 0] 223)).drew) (hF1.keep0 ((Kp.refl (fun _=>False) wc).alloc (.cells #[.int .u8 nm,.int .i64 kd,.int .i64 up,.int .i64 ((k : Int) + 1),.slice none 0 0,.slice none 0 0,.slice none 0 0] 223)).drew) (by exact g9) ⟨rfl,rfl,rfl⟩ o9;have KZ : Kp (fun i=>B ≤ i) w1 (w9.setCell ⟨B,0,none⟩ (.slice (some ⟨g1,0,none⟩) (l1.length + 1) c1)):=(KW1.trans' K9 (fun i _ hi=>(hF1.2.1.row.lt i hi).1)).setCell (p:=⟨B,0,none⟩) (fun _=>Nat.le_refl _) _;have H9:=hid (And.intro hFz (And.intro KZ (And.intro hmk (And.intro (hbd1.push (n:=⟨nm,kd,up,(k : Int) + 1,[],[],[]⟩) ⟨rfl,rfl,rfl⟩ (a:=.slice none 0 0) (b:=.slice none 0 0) (c:=.slice none 0 0)) hl1))));clear o9 g9 hw9 K9 hc9 hFz KZ hF1 hmk hbd1 KW1
      go_upto_region 14 with (fail)
      refine region_begin (fun _=>True) (by kernel_rfl) ?_;refine tk 0 49 (.pointer (some ⟨B,0,none⟩)) rfl (by kernel_rfl) rfl rfl (fun w' _=>by simp [execOp,Act.eval,go_sem]) trivial ?_;simp only [Act.put,pA,pB,pC];refine tk 1 50 (.pointer (some ⟨B,0,none⟩)) rfl (by kernel_rfl) rfl rfl (fun w' _=>by simp [execOp,Act.eval,go_sem]) trivial ?_;simp only [Act.put,pA,pB,pC];refine tk 2 51 (.pointer (some ⟨B,0,none⟩)) rfl (by kernel_rfl) rfl rfl (fun w' _=>by simp [execOp,Act.eval,go_sem]) trivial ?_;simp only [Act.put,pA,pB,pC];refine tk 3 52 (.pointer (some ⟨B,0,none⟩)) rfl (by kernel_rfl) rfl rfl (fun w' _=>by simp [execOp,Act.eval,go_sem]) trivial ?_;simp only [Act.put,pA,pB,pC];refine tk 5 54 (.string t) rfl (by kernel_rfl) rfl rfl (fun w' _=>by simp [execOp,Act.eval,go_sem]) trivial ?_;simp only [Act.put,pA,pB,pC];refine tk 6 55 (.int .i64 (k : Int)) rfl (by kernel_rfl) rfl rfl (fun w' _=>by simp [execOp,Act.eval,go_sem]) trivial ?_;simp only [Act.put,pA,pB,pC];refine tk 7 56 (.int .i64 ((k : Int) + 1)) rfl (by kernel_rfl) rfl rfl (fun w' _=>by simp [execOp,Act.eval,go_sem,wk1]) trivial ?_;simp only [Act.put,pA,pB,pC];refine tk 8 57 (.int .u8 nm) rfl (by kernel_rfl) rfl rfl (fun w' _=>by simp [execOp,Act.eval,go_sem,hk1',hgB0,tk1,hnm]) trivial ?_;simp only [Act.put,pA,pB,pC];refine tk 9 58 (.int .i64 kd) rfl (by kernel_rfl) rfl rfl (fun w' _=>by simp [execOp,Act.eval,go_sem]) trivial ?_;simp only [Act.put,pA,pB,pC];refine tk 10 59 (.int .i64 up) rfl (by kernel_rfl) rfl rfl (fun w' _=>by simp [execOp,Act.eval,go_sem]) trivial ?_;simp only [Act.put,pA,pB,pC];refine tk 11 60 (.int .i64 (k : Int)) rfl (by kernel_rfl) rfl rfl (fun w' _=>by simp [execOp,Act.eval,go_sem]) trivial ?_;simp only [Act.put,pA,pB,pC];refine tk 12 61 (.int .i64 ((k : Int) + 1)) rfl (by kernel_rfl) rfl rfl (fun w' _=>by simp [execOp,Act.eval,go_sem,wk1]) trivial ?_;simp only [Act.put,pA,pB,pC];refine tk 13 62 (.agg #[.int .u8 nm,.int .i64 kd,.int .i64 up,.int .i64 ((k : Int) + 1),.slice none 0 0,.slice none 0 0,.slice none 0 0]) rfl (by kernel_rfl) rfl rfl (fun w' _=>by simp [execOp,Act.eval,go_sem]) trivial ?_;simp only [Act.put,pA,pB,pC]
      refine do_la 4 14 53 63 v (.slice (some ⟨wc.heap.size,0,none⟩) 1 1) (wc.drew.alloc (.cells #[.int .u8 nm,.int .i64 kd,.int .i64 up,.int .i64 ((k : Int) + 1),.slice none 0 0,.slice none 0 0,.slice none 0 0] 223)) (by decide) (by kernel_rfl) (by kernel_rfl) (by kernel_rfl) rfl rfl rfl rfl rfl rfl (by simp [execOp,Act.eval,go_sem,zc]) (by simp [execOp,Act.eval,Act.put,go_sem]) (by simp [execOp,Act.eval,go_sem]) (by simp [execOp,Act.eval,Act.put,go_sem,hzc]) trivial trivial ?_;simp only [Act.put,pA,pB,pC];refine do_op 15 (by kernel_rfl) rfl rfl ?_;refine wpr (some 64) rfl (.slice (some ⟨g1,0,none⟩) (l1.length + 1) c1) w9 (by simp [execOp,resolve,invoke,builtin,Act.eval,hr9]) ?_;simp only [Act.put,pA,pB,pC];refine ⟨trivial,?_⟩;refine tk 16 65 (.pointer (some ⟨B,0,none⟩)) rfl (by kernel_rfl) rfl rfl (fun w' _=>by simp [execOp,Act.eval,go_sem]) trivial ?_;simp only [Act.put,pA,pB,pC];refine tk 17 66 (.pointer (some ⟨B,0,none⟩)) rfl (by kernel_rfl) rfl rfl (fun w' _=>by simp [execOp,Act.eval,go_sem]) trivial ?_;simp only [Act.put,pA,pB,pC];refine do_op 18 (by kernel_rfl) rfl rfl ?_;unfold Oper.wp;simp [execOp,Act.eval,go_sem,y1,yf];refine wpAnyH_done (by kernel_rfl) (NoPanic.normal ?_) _;generalize w9.setCell ⟨B,0,none⟩ (.slice (some ⟨g1,0,none⟩) (l1.length + 1) c1) = wz at *;have zz:=H9.out.1.cell;clear y1 yf hr9 zc hzc
      rcases HKC.out with ⟨rfl,rfl⟩ | ⟨rfl,rfl⟩ | ⟨rfl,rfl⟩ | ⟨rfl,rfl⟩
      all_goals
       go_wp2
       go_roundw
       case rel =>
        obtain ⟨hFz,KZ,hmk,hpp,hl1⟩:=H9.out;have hRR:=HN'.out
        have hml : ((Ch.mk l).length : Int) = (l1.length : Int):=by simp [Ch.mk,hl1]
        rw [← hmk,hml,hnm] at hRR;rw [← Ch.mk_push l1 _ (.slice none 0 0) (.slice none 0 0) (.slice none 0 0)] at hRR
        first
         | exact hid ⟨k + 1 + 1,(l1.length : Int),_,_,by first | rfl | go_num,by go_num,hFz,hRR,hpp.mono (by omega),KZ,by omega⟩
         | exact hid ⟨k + 2 + 1,up,_,_,rfl,by go_num,hFz,hRR,hpp.mono (by omega),KZ,by omega⟩
         | exact hid ⟨k + 1 + 1,up,_,_,rfl,by go_num,hFz,hRR,hpp.mono (by omega),KZ,by omega⟩
       case measure=>simp [intOf];omega
   | false=>?_
   have qo' : (c == 40) = false ∧ (c == 91) = false ∧ (c == 60) = false ∧ (c == 42) = false:=by
    simp only [Ch.isOpen,Bool.or_eq_false_iff] at qo;exact ⟨qo.1.1.1,qo.1.1.2,qo.1.2,qo.2⟩
   obtain ⟨b40,b91,b60,b42⟩:=qo'
   cases qc : (c == 41 || c == 93) with
   | true =>
     obtain ⟨n,hn,hN'⟩:=hN.close hlt (by rw [hpk.out];exact qc);obtain ⟨m,x,rfl,hx,rfl,hml⟩:=Ch.nAt_mk hn;obtain ⟨g,cap,rfl,hBg,hcell,hfr⟩:=hF.2.1.form hx;have z2 : wr.cell? ⟨g,m * 7 + 2,none⟩ = some (.int .i64 x.n.parent):=hcell 2 (by omega);have HH:=hid (And.intro hF (And.intro hN' (And.intro hbd KW)));clear hF hN hN' hbd KW hcell hfr qo hn
     have hm' : (m : Int) < (l.length : Int):=by omega
     rcases (by simpa using qc : c = 41 ∨ c = 93) with rfl | rfl
     all_goals
      clear qc;go_wp2
      go_roundw
      case rel =>
       obtain ⟨hF,hN',hbd,KW⟩:=HH.out;exact hid ⟨k + 1,x.n.parent,l,_,rfl,by go_num,hF,hN',hbd.mono (by omega),KW,by omega⟩
      case measure=>simp [intOf];omega
   | false=>?_
   have qc' : (c == 41) = false ∧ (c == 93) = false:=by simpa using qc
   obtain ⟨b41,b93⟩:=qc'
   cases q58 : c == 58 with
   | true =>
     obtain rfl : c = 58:=by simpa using q58
     obtain ⟨n,hn,hk2,hre,_,hN'⟩:=hN.colon hlt hpk.out;obtain ⟨m,x,rfl,hx,rfl,hml⟩:=Ch.nAt_mk hn;obtain ⟨g,cap,rfl,hBg,hcell,hfr⟩:=hF.2.1.form hx;have hxm:=List.mem_of_getElem? hx;have z6 : wr.cell? ⟨g,m * 7 + 6,none⟩ = some x.tv:=hcell 6 (by omega);have HN':=hid hN';have E:=hid (rReaches_any wr t (k + 1) ht hk2)
     have hre2 : k + 1 ≤ Ch.reachesR t (k + 1) + 1:=by assumption
     generalize Ch.reachesR t (k + 1) = e at *
     have hzc : ∀ o,(wr.alloc o).cell? ⟨B,0,none⟩ = some (.slice (some ⟨g,0,none⟩) l.length cap):=fun o=>(hF.keep0 ((Kp.refl _ _).alloc o)).cell
     obtain ⟨g',cap',hv',_,hcell',_⟩:=(hF.2.1.keep0 ((Kp.refl _ _).alloc (.cells #[.string (t.extract (k + 1) (e + 1)),.int .i64 ((k : Int) + 1)] 292))).form hx;simp only [Value.slice.injEq,Option.some.injEq,Addr.mk.injEq,true_and,and_true] at hv';obtain ⟨rfl,rfl⟩:=hv';have z6a : (wr.alloc (.cells #[.string (t.extract (k + 1) (e + 1)),.int .i64 ((k : Int) + 1)] 292)).cell? ⟨g,m * 7 + 6,none⟩ = some x.tv:=hcell' 6 (by omega)
     have hm' : (m : Int) < (l.length : Int):=by omega
     have wk1 : IntKind.i64.wrap ((k : Int) + 1) = (k : Int) + 1:=i64_wrap_in (by omega);have we1 : IntKind.i64.wrap ((e : Int) + 1) = (e : Int) + 1:=i64_wrap_in (by omega)
     have tk1 : ((k : Int) + 1).toNat = k + 1:=by omega
     have te1 : ((e : Int) + 1).toNat = e + 1:=by omega
     have he1 : (e : Int) + 1 ≤ (t.size : Int):=by omega
     have hke : (k : Int) + 1 ≤ (e : Int) + 1:=by omega
     have hk0 : (0 : Int) ≤ (k : Int) + 1:=by omega
     have he0 : (0 : Int) ≤ (e : Int) + 1:=by omega
     have hb3:=(hbd.2 x hxm).2.2;have hlow:=hF.low
     have hgB : g ≠ B:=fun e=>hF.ne (by simp [Value.ownBlock,e])
     have HH:=hid (And.intro hF (And.intro hbd KW));obtain ⟨i0,hi,hz0,hz1,hz2⟩:=info_parts Tryz.infoTrR;clear hF hN hN' hbd KW hcell hcell' hfr qo qc hn q58
     go_wp2_with fail
     refine cMo E ?_;rintro y w2 ⟨rfl,e2⟩;rw [e2];clear E e2 w2
     go_upto_region 25 with (fail)
     have hS0 : wr.drew.cell? ⟨B,0,none⟩ = some (.slice (some ⟨g,0,none⟩) l.length cap):=zc;have hS1 : (wr.drew.alloc (.cells #[.string (t.extract (k + 1) (e + 1)),.int .i64 ((k : Int) + 1)] 292)).cell? ⟨B,0,none⟩ = some (.slice (some ⟨g,0,none⟩) l.length cap):=hzc _;refine region_begin (fun w'=>w'.cell? ⟨B,0,none⟩ = some (.slice (some ⟨g,0,none⟩) l.length cap)) (by kernel_rfl) ?_;refine tk 0 98 (.pointer (some ⟨B,0,none⟩)) rfl (by kernel_rfl) rfl rfl (fun w' _=>by simp [execOp,Act.eval,go_sem]) hS0 ?_;simp only [Act.put,pA,pB,pC];refine tk 1 99 (.pointer (some ⟨B,0,none⟩)) rfl (by kernel_rfl) rfl rfl (fun w' _=>by simp [execOp,Act.eval,go_sem]) hS0 ?_;simp only [Act.put,pA,pB,pC];refine tk 2 100 (.pointer (some ⟨B,0,none⟩)) rfl (by kernel_rfl) rfl rfl (fun w' _=>by simp [execOp,Act.eval,go_sem]) hS0 ?_;simp only [Act.put,pA,pB,pC];refine tk 3 101 (.slice (some ⟨g,0,none⟩) l.length cap) rfl (by kernel_rfl) rfl rfl (fun w' hS=>by simp [execOp,Act.eval,go_sem,hS]) hS0 ?_;simp only [Act.put,pA,pB,pC];refine tk 4 102 (.int .i64 (m : Int)) rfl (by kernel_rfl) rfl rfl (fun w' _=>by simp [execOp,Act.eval,go_sem]) hS0 ?_;simp only [Act.put,pA,pB,pC];refine tk 5 103 (.pointer (some ⟨B,0,none⟩)) rfl (by kernel_rfl) rfl rfl (fun w' _=>by simp [execOp,Act.eval,go_sem]) hS0 ?_;simp only [Act.put,pA,pB,pC];refine tk 6 104 (.pointer (some ⟨B,0,none⟩)) rfl (by kernel_rfl) rfl rfl (fun w' _=>by simp [execOp,Act.eval,go_sem]) hS0 ?_;simp only [Act.put,pA,pB,pC];refine tk 7 105 (.pointer (some ⟨B,0,none⟩)) rfl (by kernel_rfl) rfl rfl (fun w' _=>by simp [execOp,Act.eval,go_sem]) hS0 ?_;simp only [Act.put,pA,pB,pC];refine tk 8 106 (.slice (some ⟨g,0,none⟩) l.length cap) rfl (by kernel_rfl) rfl rfl (fun w' hS=>by simp [execOp,Act.eval,go_sem,hS]) hS0 ?_;simp only [Act.put,pA,pB,pC];refine tk 9 107 (.int .i64 (m : Int)) rfl (by kernel_rfl) rfl rfl (fun w' _=>by simp [execOp,Act.eval,go_sem]) hS0 ?_;simp only [Act.put,pA,pB,pC];refine tk 10 108 (.pointer (some ⟨g,m * 7,none⟩)) rfl (by kernel_rfl) rfl rfl (fun w' _=>by simp [execOp,Act.eval,go_sem,hm']) hS0 ?_;simp only [Act.put,pA,pB,pC];refine tk 11 109 (.pointer (some ⟨g,m * 7 + 6,none⟩)) rfl (by kernel_rfl) rfl rfl (fun w' _=>by simp [execOp,Act.eval,go_sem]) hS0 ?_;simp only [Act.put,pA,pB,pC]
     refine tk 13 111 (.string t) rfl (by kernel_rfl) rfl rfl (fun w' _=>by simp [execOp,Act.eval,go_sem]) hS0 ?_;simp only [Act.put,pA,pB,pC];refine tk 14 112 (.int .i64 (k : Int)) rfl (by kernel_rfl) rfl rfl (fun w' _=>by simp [execOp,Act.eval,go_sem]) hS0 ?_;simp only [Act.put,pA,pB,pC];refine tk 15 113 (.int .i64 ((k : Int) + 1)) rfl (by kernel_rfl) rfl rfl (fun w' _=>by simp [execOp,Act.eval,go_sem,wk1]) hS0 ?_;simp only [Act.put,pA,pB,pC];refine tk 16 114 (.int .i64 (e : Int)) rfl (by kernel_rfl) rfl rfl (fun w' _=>by simp [execOp,Act.eval,go_sem]) hS0 ?_;simp only [Act.put,pA,pB,pC];refine tk 17 115 (.int .i64 ((e : Int) + 1)) rfl (by kernel_rfl) rfl rfl (fun w' _=>by simp [execOp,Act.eval,go_sem,we1]) hS0 ?_;simp only [Act.put,pA,pB,pC];refine tk 18 116 (.string (t.extract (k + 1) (e + 1))) rfl (by kernel_rfl) rfl rfl (fun w' _=>by simp [execOp,Act.eval,go_sem,he1,hk0,hke,tk1,te1]) hS0 ?_;simp only [Act.put,pA,pB,pC];refine tk 19 117 (.int .i64 (k : Int)) rfl (by kernel_rfl) rfl rfl (fun w' _=>by simp [execOp,Act.eval,go_sem]) hS0 ?_;simp only [Act.put,pA,pB,pC];refine tk 20 118 (.int .i64 ((k : Int) + 1)) rfl (by kernel_rfl) rfl rfl (fun w' _=>by simp [execOp,Act.eval,go_sem,wk1]) hS0 ?_;simp only [Act.put,pA,pB,pC];refine tk 21 119 (.agg #[.string (t.extract (k + 1) (e + 1)),.int .i64 ((k : Int) + 1)]) rfl (by kernel_rfl) rfl rfl (fun w' _=>by simp [execOp,Act.eval,go_sem]) hS0 ?_;simp only [Act.put,pA,pB,pC];obtain ⟨g1,c1,w9,hr9,o9,g9,hw9⟩:=run_append_where (P:=Tryz.prog) (wr.drew.alloc (.cells #[.string (t.extract (k + 1) (e + 1)),.int .i64 ((k : Int) + 1)] 292)) B 221 221 292 i0 (.agg #[.string ⟨#[]⟩,.int .i64 0]) 2 24 Tryz.underlying221 hi hz0 hz1 hz2 rfl (by decide) x.tv x.n.trans.length (rtCells x.n.trans) (by exact (HH.out.1.2.1.tra x hxm).alloc _) ⟨wr.heap.size,0,none⟩ 1 1 [.string (t.extract (k + 1) (e + 1)),.int .i64 ((k : Int) + 1)] rfl (by exact cells_new _ _ _) (by intro u hu;simp at hu;rcases hu with rfl | rfl <;> rfl) (by decide) (by unfold maxLen;omega) (by omega) (by simp;omega);have K9 : Kp (fun i=>x.tv.ownBlock = some i) wr w9:=Kp.grown (by exact ((Kp.refl _ _).alloc (.cells #[.string (t.extract (k + 1) (e + 1)),.int .i64 ((k : Int) + 1)] 292)).drew) g9 (fun i hi _=>hi);obtain ⟨y1,y2,y3⟩:=HH.out.1.behind K9 (HH.out.1.2.1.tra x hxm) (by decide) (by decide) hx
     have y6 : w9.cell? ⟨g,m * 7 + 6,none⟩ = some x.tv:=y2 6 (by omega);have yf:=y3 (m * 7 + 6);have H9:=hid (And.intro o9 (And.intro g9 (And.intro hw9 K9)));clear o9 g9 hw9 K9 y2 y3;refine do_la 12 22 110 120 x.tv (.slice (some ⟨wr.heap.size,0,none⟩) 1 1) (wr.drew.alloc (.cells #[.string (t.extract (k + 1) (e + 1)),.int .i64 ((k : Int) + 1)] 292)) (by decide) (by kernel_rfl) (by kernel_rfl) (by kernel_rfl) rfl rfl rfl rfl rfl rfl (by simp [execOp,Act.eval,go_sem,z6]) (by simp [execOp,Act.eval,Act.put,go_sem]) (by simp [execOp,Act.eval,go_sem]) (by simp [execOp,Act.eval,Act.put,go_sem,z6a]) hS0 hS1 ?_;simp only [Act.put,pA,pB,pC];refine do_op 23 (by kernel_rfl) rfl rfl ?_;refine wpr (some 121) rfl (.slice (some ⟨g1,0,none⟩) (x.n.trans.length + 1) c1) w9 (by simp [execOp,resolve,invoke,builtin,Act.eval,hr9]) ?_;simp only [Act.put,pA,pB,pC];refine ⟨y1,?_⟩;refine tk 24 122 (.pointer (some ⟨g,m * 7,none⟩)) rfl (by kernel_rfl) rfl rfl (fun w' _=>by simp [execOp,Act.eval,go_sem,hm']) y1 ?_;simp only [Act.put,pA,pB,pC];refine tk 25 123 (.pointer (some ⟨g,m * 7 + 6,none⟩)) rfl (by kernel_rfl) rfl rfl (fun w' _=>by simp [execOp,Act.eval,go_sem]) y1 ?_;simp only [Act.put,pA,pB,pC];refine do_op 26 (by kernel_rfl) rfl rfl ?_;unfold Oper.wp;simp [execOp,Act.eval,go_sem,y6,yf];refine ⟨y1,wpAnyH_done (by kernel_rfl) (NoPanic.normal ?_) _⟩;obtain ⟨o9,g9,hw9,K9⟩:=H9.out;have hFa:=HH.out.1.keep0 ((Kp.refl (fun _=>False) wr).alloc (.cells #[.string (t.extract (k + 1) (e + 1)),.int .i64 ((k : Int) + 1)] 292)).drew
     have hFz:=ChF.setTrans hFa hx ⟨t.extract (k + 1) (e + 1),(k : Int) + 1⟩ o9 (by exact g9) (by exact hw9);have KZ : Kp (fun i=>B ≤ i) w1 (w9.setCell ⟨g,m * 7 + 6,none⟩ (.slice (some ⟨g1,0,none⟩) (x.n.trans.length + 1) c1)):=((HH.out.2.2.trans' K9 (fun i _ hi=>(((HH.out.1.2.1.tra x hxm).lt i hi).1))).setCell (p:=⟨g,m * 7 + 6,none⟩) (fun _=>hBg) _)
     generalize w9.setCell ⟨g,m * 7 + 6,none⟩ (.slice (some ⟨g1,0,none⟩) (x.n.trans.length + 1) c1) = wz at *;have HZ:=hid (And.intro hFz KZ);clear hS0 hS1 y1 y6 yf hr9 o9 g9 hw9 K9 hFa hFz KZ H9 zc hzc z6 z6a;go_wp2
     go_roundw
     case rel =>
      obtain ⟨hF,hbd,KW⟩:=HH.out;obtain ⟨hFz,KZ⟩:=HZ.out;have hb:=hbd.2 x hxm;refine hid ⟨e + 1,(m : Int),_,_,rfl,by go_num,hFz,?_,hbd.set (by omega) ⟨by simp only;omega,by simp only;omega,by simp;omega⟩,KZ,by omega⟩;rw [Ch.mk_set (f:=fun n=>{ n with trans:=n.trans ++ [⟨t.extract (k + 1) (e + 1),(k : Int) + 1⟩] }) hx rfl];exact HN'.out
     case measure=>simp [intOf];omega
   | false=>?_
   cases qb : (c == 94 || c == 36) with
   | true =>
     obtain ⟨n,hn,hun,hN'⟩:=hN.blk hlt (by rw [hpk.out];exact qb);obtain ⟨m,x,rfl,hx,rfl,hml⟩:=Ch.nAt_mk hn;obtain ⟨g,cap,rfl,hBg,hcell,hfr⟩:=hF.2.1.form hx;have hxm:=List.mem_of_getElem? hx;rw [hpk.out] at hN';have HN':=hid hN';have E:=hid (rUntil_any wr t k 59 ht);have hule:=Ch.until_le t k 59;generalize Ch.until_ t k 59 = e at *
     have hm' : (m : Int) < (l.length : Int):=by omega
     have wk1 : IntKind.i64.wrap ((k : Int) + 1) = (k : Int) + 1:=i64_wrap_in (by omega)
     have tk1 : ((k : Int) + 1).toNat = k + 1:=by omega
     have he1 : (e : Int) ≤ (t.size : Int):=by omega
     have hke : (k : Int) + 1 ≤ (e : Int):=by omega
     have hk0 : (0 : Int) ≤ (k : Int) + 1:=by omega
     have hlow:=hF.low
     have hgB : g ≠ B:=fun e=>hF.ne (by simp [Value.ownBlock,e])
     obtain ⟨i0,hi,hz0,hz1,hz2⟩:=info_parts Tryz.infoStr
     rcases (by simpa using qb : c = 94 ∨ c = 36) with rfl | rfl
     ·have z6 : wr.cell? ⟨g,m * 7 + 4,none⟩ = some x.ev:=hcell 4 (by omega)
      have hzc : ∀ o,(wr.alloc o).cell? ⟨B,0,none⟩ = some (.slice (some ⟨g,0,none⟩) l.length cap):=fun o=>(hF.keep0 ((Kp.refl _ _).alloc o)).cell
      obtain ⟨g',cap',hv',_,hcell',_⟩:=(hF.2.1.keep0 ((Kp.refl _ _).alloc (.cells #[.string (t.extract (k + 1) e)] 9))).form hx;simp only [Value.slice.injEq,Option.some.injEq,Addr.mk.injEq,true_and,and_true] at hv';obtain ⟨rfl,rfl⟩:=hv';have z6a : (wr.alloc (.cells #[.string (t.extract (k + 1) e)] 9)).cell? ⟨g,m * 7 + 4,none⟩ = some x.ev:=hcell' 4 (by omega)
      have hb3:=(hbd.2 x hxm)
      have HH:=hid (And.intro hF (And.intro hbd KW));clear hF hN hN' hbd KW hcell hcell' hfr qo qc hn qb
      go_wp2_with fail
      refine cMo E ?_;rintro y w2 ⟨rfl,e2⟩;rw [e2];clear E e2 w2
      go_upto_region 31 with (fail)
      have hS0 : wr.drew.cell? ⟨B,0,none⟩ = some (.slice (some ⟨g,0,none⟩) l.length cap):=zc;have hS1 : (wr.drew.alloc (.cells #[.string (t.extract (k + 1) e)] 9)).cell? ⟨B,0,none⟩ = some (.slice (some ⟨g,0,none⟩) l.length cap):=hzc _;refine region_begin (fun w'=>w'.cell? ⟨B,0,none⟩ = some (.slice (some ⟨g,0,none⟩) l.length cap)) (by kernel_rfl) ?_;refine tk 0 135 (.pointer (some ⟨B,0,none⟩)) rfl (by kernel_rfl) rfl rfl (fun w' _=>by simp [execOp,Act.eval,go_sem]) hS0 ?_;simp only [Act.put,pA,pB,pC];refine tk 1 136 (.pointer (some ⟨B,0,none⟩)) rfl (by kernel_rfl) rfl rfl (fun w' _=>by simp [execOp,Act.eval,go_sem]) hS0 ?_;simp only [Act.put,pA,pB,pC];refine tk 2 137 (.pointer (some ⟨B,0,none⟩)) rfl (by kernel_rfl) rfl rfl (fun w' _=>by simp [execOp,Act.eval,go_sem]) hS0 ?_;simp only [Act.put,pA,pB,pC];refine tk 3 138 (.slice (some ⟨g,0,none⟩) l.length cap) rfl (by kernel_rfl) rfl rfl (fun w' hS=>by simp [execOp,Act.eval,go_sem,hS]) hS0 ?_;simp only [Act.put,pA,pB,pC];refine tk 4 139 (.int .i64 (m : Int)) rfl (by kernel_rfl) rfl rfl (fun w' _=>by simp [execOp,Act.eval,go_sem]) hS0 ?_;simp only [Act.put,pA,pB,pC];refine tk 5 140 (.pointer (some ⟨B,0,none⟩)) rfl (by kernel_rfl) rfl rfl (fun w' _=>by simp [execOp,Act.eval,go_sem]) hS0 ?_;simp only [Act.put,pA,pB,pC];refine tk 6 141 (.pointer (some ⟨B,0,none⟩)) rfl (by kernel_rfl) rfl rfl (fun w' _=>by simp [execOp,Act.eval,go_sem]) hS0 ?_;simp only [Act.put,pA,pB,pC];refine tk 7 142 (.pointer (some ⟨B,0,none⟩)) rfl (by kernel_rfl) rfl rfl (fun w' _=>by simp [execOp,Act.eval,go_sem]) hS0 ?_;simp only [Act.put,pA,pB,pC];refine tk 8 143 (.slice (some ⟨g,0,none⟩) l.length cap) rfl (by kernel_rfl) rfl rfl (fun w' hS=>by simp [execOp,Act.eval,go_sem,hS]) hS0 ?_;simp only [Act.put,pA,pB,pC];refine tk 9 144 (.int .i64 (m : Int)) rfl (by kernel_rfl) rfl rfl (fun w' _=>by simp [execOp,Act.eval,go_sem]) hS0 ?_;simp only [Act.put,pA,pB,pC];refine tk 10 145 (.pointer (some ⟨g,m * 7,none⟩)) rfl (by kernel_rfl) rfl rfl (fun w' _=>by simp [execOp,Act.eval,go_sem,hm']) hS0 ?_;simp only [Act.put,pA,pB,pC];refine tk 11 146 (.pointer (some ⟨g,m * 7 + 4,none⟩)) rfl (by kernel_rfl) rfl rfl (fun w' _=>by simp [execOp,Act.eval,go_sem]) hS0 ?_;simp only [Act.put,pA,pB,pC]
      refine tk 13 148 (.string t) rfl (by kernel_rfl) rfl rfl (fun w' _=>by simp [execOp,Act.eval,go_sem]) hS0 ?_;simp only [Act.put,pA,pB,pC];refine tk 14 149 (.int .i64 (k : Int)) rfl (by kernel_rfl) rfl rfl (fun w' _=>by simp [execOp,Act.eval,go_sem]) hS0 ?_;simp only [Act.put,pA,pB,pC];refine tk 15 150 (.int .i64 ((k : Int) + 1)) rfl (by kernel_rfl) rfl rfl (fun w' _=>by simp [execOp,Act.eval,go_sem,wk1]) hS0 ?_;simp only [Act.put,pA,pB,pC];refine tk 16 151 (.int .i64 (e : Int)) rfl (by kernel_rfl) rfl rfl (fun w' _=>by simp [execOp,Act.eval,go_sem]) hS0 ?_;simp only [Act.put,pA,pB,pC];refine tk 17 152 (.string (t.extract (k + 1) e)) rfl (by kernel_rfl) rfl rfl (fun w' _=>by simp [execOp,Act.eval,go_sem,he1,hk0,hke,tk1]) hS0 ?_;simp only [Act.put,pA,pB,pC];obtain ⟨g1,c1,w9,hr9,o9,g9,hw9⟩:=run_append_where (P:=Tryz.prog) (wr.drew.alloc (.cells #[.string (t.extract (k + 1) e)] 9)) B 220 220 9 i0 (.string ⟨#[]⟩) 1 16 Tryz.underlying220 hi hz0 hz1 hz2 rfl (by decide) x.ev x.n.enter.length (sCells x.n.enter) (by exact (HH.out.1.2.1.ent x hxm).alloc _) ⟨wr.heap.size,0,none⟩ 1 1 [.string (t.extract (k + 1) e)] rfl (by exact cells_new _ _ _) (by intro u hu;simp at hu;subst hu;rfl) (by decide) (by unfold maxLen;omega) (by omega) (by simp;omega);have K9 : Kp (fun i=>x.ev.ownBlock = some i) wr w9:=Kp.grown (by exact ((Kp.refl _ _).alloc (.cells #[.string (t.extract (k + 1) e)] 9)).drew) g9 (fun i hi _=>hi);obtain ⟨y1,y2,y3⟩:=HH.out.1.behind K9 (HH.out.1.2.1.ent x hxm) (by decide) (by decide) hx;have y6 : w9.cell? ⟨g,m * 7 + 4,none⟩ = some x.ev:=y2 4 (by omega);have yf:=y3 (m * 7 + 4);have H9:=hid (And.intro o9 (And.intro g9 (And.intro hw9 K9)));clear o9 g9 hw9 K9 y2 y3;refine do_la 12 18 147 153 x.ev (.slice (some ⟨wr.heap.size,0,none⟩) 1 1) (wr.drew.alloc (.cells #[.string (t.extract (k + 1) e)] 9)) (by decide) (by kernel_rfl) (by kernel_rfl) (by kernel_rfl) rfl rfl rfl rfl rfl rfl (by simp [execOp,Act.eval,go_sem,z6]) (by simp [execOp,Act.eval,Act.put,go_sem]) (by simp [execOp,Act.eval,go_sem]) (by simp [execOp,Act.eval,Act.put,go_sem,z6a]) hS0 hS1 ?_;simp only [Act.put,pA,pB,pC];refine do_op 19 (by kernel_rfl) rfl rfl ?_;refine wpr (some 154) rfl (.slice (some ⟨g1,0,none⟩) (x.n.enter.length + 1) c1) w9 (by simp [execOp,resolve,invoke,builtin,Act.eval,hr9]) ?_;simp only [Act.put,pA,pB,pC];refine ⟨y1,?_⟩
      refine tk 20 155 (.pointer (some ⟨g,m * 7,none⟩)) rfl (by kernel_rfl) rfl rfl (fun w' _=>by simp [execOp,Act.eval,go_sem,hm']) y1 ?_;simp only [Act.put,pA,pB,pC];refine tk 21 156 (.pointer (some ⟨g,m * 7 + 4,none⟩)) rfl (by kernel_rfl) rfl rfl (fun w' _=>by simp [execOp,Act.eval,go_sem]) y1 ?_;simp only [Act.put,pA,pB,pC];refine do_op 22 (by kernel_rfl) rfl rfl ?_;unfold Oper.wp;simp [execOp,Act.eval,go_sem,y6,yf];refine ⟨y1,wpAnyH_done (by kernel_rfl) (NoPanic.normal ?_) _⟩;obtain ⟨o9,g9,hw9,K9⟩:=H9.out;have hFa:=HH.out.1.keep0 ((Kp.refl (fun _=>False) wr).alloc (.cells #[.string (t.extract (k + 1) e)] 9)).drew
      have hFz:=ChF.setEnter hFa hx (t.extract (k + 1) e) o9 (by exact g9) (by exact hw9);have KZ : Kp (fun i=>B ≤ i) w1 (w9.setCell ⟨g,m * 7 + 4,none⟩ (.slice (some ⟨g1,0,none⟩) (x.n.enter.length + 1) c1)):=((HH.out.2.2.trans' K9 (fun i _ hi=>(((HH.out.1.2.1.ent x hxm).lt i hi).1))).setCell (p:=⟨g,m * 7 + 4,none⟩) (fun _=>hBg) _)
      generalize w9.setCell ⟨g,m * 7 + 4,none⟩ (.slice (some ⟨g1,0,none⟩) (x.n.enter.length + 1) c1) = wz at *;have HZ:=hid (And.intro hFz KZ);clear hS0 hS1 y1 y6 yf hr9 o9 g9 hw9 K9 hFa hFz KZ H9 zc hzc z6 z6a;go_wp2
      go_roundw
      case rel =>
       obtain ⟨hF,hbd,KW⟩:=HH.out;obtain ⟨hFz,KZ⟩:=HZ.out;have hb:=hbd.2 x hxm;refine hid ⟨e + 1,(m : Int),_,_,rfl,by go_num,hFz,?_,hbd.set (by omega) ⟨by simp;omega,by simp only;omega,by simp only;omega⟩,KZ,by omega⟩;rw [Ch.mk_set (f:=fun n=>if ((94 : Int) == 94) = true then { n with enter:=n.enter ++ [t.extract (k + 1) e] } else { n with leave:=n.leave ++ [t.extract (k + 1) e] }) hx rfl];exact HN'.out
      case measure=>simp [intOf];omega
     have z6 : wr.cell? ⟨g,m * 7 + 5,none⟩ = some x.lv:=hcell 5 (by omega)
     have hzc : ∀ o,(wr.alloc o).cell? ⟨B,0,none⟩ = some (.slice (some ⟨g,0,none⟩) l.length cap):=fun o=>(hF.keep0 ((Kp.refl _ _).alloc o)).cell
     obtain ⟨g',cap',hv',_,hcell',_⟩:=(hF.2.1.keep0 ((Kp.refl _ _).alloc (.cells #[.string (t.extract (k + 1) e)] 9))).form hx;simp only [Value.slice.injEq,Option.some.injEq,Addr.mk.injEq,true_and,and_true] at hv';obtain ⟨rfl,rfl⟩:=hv';have z6a : (wr.alloc (.cells #[.string (t.extract (k + 1) e)] 9)).cell? ⟨g,m * 7 + 5,none⟩ = some x.lv:=hcell' 5 (by omega)
     have hb3:=(hbd.2 x hxm)
     have HH:=hid (And.intro hF (And.intro hbd KW));clear hF hN hN' hbd KW hcell hcell' hfr qo qc hn qb
     go_wp2_with fail
     refine cMo E ?_;rintro y w2 ⟨rfl,e2⟩;rw [e2];clear E e2 w2
     go_upto_region 32 with (fail)
     have hS0 : wr.drew.cell? ⟨B,0,none⟩ = some (.slice (some ⟨g,0,none⟩) l.length cap):=zc;have hS1 : (wr.drew.alloc (.cells #[.string (t.extract (k + 1) e)] 9)).cell? ⟨B,0,none⟩ = some (.slice (some ⟨g,0,none⟩) l.length cap):=hzc _;refine region_begin (fun w'=>w'.cell? ⟨B,0,none⟩ = some (.slice (some ⟨g,0,none⟩) l.length cap)) (by kernel_rfl) ?_;refine tk 0 157 (.pointer (some ⟨B,0,none⟩)) rfl (by kernel_rfl) rfl rfl (fun w' _=>by simp [execOp,Act.eval,go_sem]) hS0 ?_;simp only [Act.put,pA,pB,pC];refine tk 1 158 (.pointer (some ⟨B,0,none⟩)) rfl (by kernel_rfl) rfl rfl (fun w' _=>by simp [execOp,Act.eval,go_sem]) hS0 ?_;simp only [Act.put,pA,pB,pC];refine tk 2 159 (.pointer (some ⟨B,0,none⟩)) rfl (by kernel_rfl) rfl rfl (fun w' _=>by simp [execOp,Act.eval,go_sem]) hS0 ?_;simp only [Act.put,pA,pB,pC];refine tk 3 160 (.slice (some ⟨g,0,none⟩) l.length cap) rfl (by kernel_rfl) rfl rfl (fun w' hS=>by simp [execOp,Act.eval,go_sem,hS]) hS0 ?_;simp only [Act.put,pA,pB,pC];refine tk 4 161 (.int .i64 (m : Int)) rfl (by kernel_rfl) rfl rfl (fun w' _=>by simp [execOp,Act.eval,go_sem]) hS0 ?_;simp only [Act.put,pA,pB,pC];refine tk 5 162 (.pointer (some ⟨B,0,none⟩)) rfl (by kernel_rfl) rfl rfl (fun w' _=>by simp [execOp,Act.eval,go_sem]) hS0 ?_;simp only [Act.put,pA,pB,pC];refine tk 6 163 (.pointer (some ⟨B,0,none⟩)) rfl (by kernel_rfl) rfl rfl (fun w' _=>by simp [execOp,Act.eval,go_sem]) hS0 ?_;simp only [Act.put,pA,pB,pC];refine tk 7 164 (.pointer (some ⟨B,0,none⟩)) rfl (by kernel_rfl) rfl rfl (fun w' _=>by simp [execOp,Act.eval,go_sem]) hS0 ?_;simp only [Act.put,pA,pB,pC];refine tk 8 165 (.slice (some ⟨g,0,none⟩) l.length cap) rfl (by kernel_rfl) rfl rfl (fun w' hS=>by simp [execOp,Act.eval,go_sem,hS]) hS0 ?_;simp only [Act.put,pA,pB,pC];refine tk 9 166 (.int .i64 (m : Int)) rfl (by kernel_rfl) rfl rfl (fun w' _=>by simp [execOp,Act.eval,go_sem]) hS0 ?_;simp only [Act.put,pA,pB,pC];refine tk 10 167 (.pointer (some ⟨g,m * 7,none⟩)) rfl (by kernel_rfl) rfl rfl (fun w' _=>by simp [execOp,Act.eval,go_sem,hm']) hS0 ?_;simp only [Act.put,pA,pB,pC];refine tk 11 168 (.pointer (some ⟨g,m * 7 + 5,none⟩)) rfl (by kernel_rfl) rfl rfl (fun w' _=>by simp [execOp,Act.eval,go_sem]) hS0 ?_;simp only [Act.put,pA,pB,pC];refine tk 13 170 (.string t) rfl (by kernel_rfl) rfl rfl (fun w' _=>by simp [execOp,Act.eval,go_sem]) hS0 ?_
     simp only [Act.put,pA,pB,pC];refine tk 14 171 (.int .i64 (k : Int)) rfl (by kernel_rfl) rfl rfl (fun w' _=>by simp [execOp,Act.eval,go_sem]) hS0 ?_;simp only [Act.put,pA,pB,pC];refine tk 15 172 (.int .i64 ((k : Int) + 1)) rfl (by kernel_rfl) rfl rfl (fun w' _=>by simp [execOp,Act.eval,go_sem,wk1]) hS0 ?_;simp only [Act.put,pA,pB,pC];refine tk 16 173 (.int .i64 (e : Int)) rfl (by kernel_rfl) rfl rfl (fun w' _=>by simp [execOp,Act.eval,go_sem]) hS0 ?_;simp only [Act.put,pA,pB,pC];refine tk 17 174 (.string (t.extract (k + 1) e)) rfl (by kernel_rfl) rfl rfl (fun w' _=>by simp [execOp,Act.eval,go_sem,he1,hk0,hke,tk1]) hS0 ?_;simp only [Act.put,pA,pB,pC];obtain ⟨g1,c1,w9,hr9,o9,g9,hw9⟩:=run_append_where (P:=Tryz.prog) (wr.drew.alloc (.cells #[.string (t.extract (k + 1) e)] 9)) B 220 220 9 i0 (.string ⟨#[]⟩) 1 16 Tryz.underlying220 hi hz0 hz1 hz2 rfl (by decide) x.lv x.n.leave.length (sCells x.n.leave) (by exact (HH.out.1.2.1.lea x hxm).alloc _) ⟨wr.heap.size,0,none⟩ 1 1 [.string (t.extract (k + 1) e)] rfl (by exact cells_new _ _ _) (by intro u hu;simp at hu;subst hu;rfl) (by decide) (by unfold maxLen;omega) (by omega) (by simp;omega);have K9 : Kp (fun i=>x.lv.ownBlock = some i) wr w9:=Kp.grown (by exact ((Kp.refl _ _).alloc (.cells #[.string (t.extract (k + 1) e)] 9)).drew) g9 (fun i hi _=>hi);obtain ⟨y1,y2,y3⟩:=HH.out.1.behind K9 (HH.out.1.2.1.lea x hxm) (by decide) (by decide) hx;have y6 : w9.cell? ⟨g,m * 7 + 5,none⟩ = some x.lv:=y2 5 (by omega);have yf:=y3 (m * 7 + 5);have H9:=hid (And.intro o9 (And.intro g9 (And.intro hw9 K9)));clear o9 g9 hw9 K9 y2 y3;refine do_la 12 18 169 175 x.lv (.slice (some ⟨wr.heap.size,0,none⟩) 1 1) (wr.drew.alloc (.cells #[.string (t.extract (k + 1) e)] 9)) (by decide) (by kernel_rfl) (by kernel_rfl) (by kernel_rfl) rfl rfl rfl rfl rfl rfl (by simp [execOp,Act.eval,go_sem,z6]) (by simp [execOp,Act.eval,Act.put,go_sem]) (by simp [execOp,Act.eval,go_sem]) (by simp [execOp,Act.eval,Act.put,go_sem,z6a]) hS0 hS1 ?_;simp only [Act.put,pA,pB,pC];refine do_op 19 (by kernel_rfl) rfl rfl ?_;refine wpr (some 176) rfl (.slice (some ⟨g1,0,none⟩) (x.n.leave.length + 1) c1) w9 (by simp [execOp,resolve,invoke,builtin,Act.eval,hr9]) ?_;simp only [Act.put,pA,pB,pC];refine ⟨y1,?_⟩;refine tk 20 177 (.pointer (some ⟨g,m * 7,none⟩)) rfl (by kernel_rfl) rfl rfl (fun w' _=>by simp [execOp,Act.eval,go_sem,hm']) y1 ?_
     simp only [Act.put,pA,pB,pC];refine tk 21 178 (.pointer (some ⟨g,m * 7 + 5,none⟩)) rfl (by kernel_rfl) rfl rfl (fun w' _=>by simp [execOp,Act.eval,go_sem]) y1 ?_;simp only [Act.put,pA,pB,pC];refine do_op 22 (by kernel_rfl) rfl rfl ?_;unfold Oper.wp;simp [execOp,Act.eval,go_sem,y6,yf];refine ⟨y1,wpAnyH_done (by kernel_rfl) (NoPanic.normal ?_) _⟩;obtain ⟨o9,g9,hw9,K9⟩:=H9.out;have hFa:=HH.out.1.keep0 ((Kp.refl (fun _=>False) wr).alloc (.cells #[.string (t.extract (k + 1) e)] 9)).drew
     have hFz:=ChF.setLeave hFa hx (t.extract (k + 1) e) o9 (by exact g9) (by exact hw9);have KZ : Kp (fun i=>B ≤ i) w1 (w9.setCell ⟨g,m * 7 + 5,none⟩ (.slice (some ⟨g1,0,none⟩) (x.n.leave.length + 1) c1)):=((HH.out.2.2.trans' K9 (fun i _ hi=>(((HH.out.1.2.1.lea x hxm).lt i hi).1))).setCell (p:=⟨g,m * 7 + 5,none⟩) (fun _=>hBg) _)
     generalize w9.setCell ⟨g,m * 7 + 5,none⟩ (.slice (some ⟨g1,0,none⟩) (x.n.leave.length + 1) c1) = wz at *;have HZ:=hid (And.intro hFz KZ);clear hS0 hS1 y1 y6 yf hr9 o9 g9 hw9 K9 hFa hFz KZ H9 zc hzc z6 z6a;go_wp2
     go_roundw
     case rel =>
      obtain ⟨hF,hbd,KW⟩:=HH.out;obtain ⟨hFz,KZ⟩:=HZ.out;have hb:=hbd.2 x hxm;refine hid ⟨e + 1,(m : Int),_,_,rfl,by go_num,hFz,?_,hbd.set (by omega) ⟨by simp only;omega,by simp;omega,by simp only;omega⟩,KZ,by omega⟩;rw [Ch.mk_set (f:=fun n=>if ((36 : Int) == 94) = true then { n with enter:=n.enter ++ [t.extract (k + 1) e] } else { n with leave:=n.leave ++ [t.extract (k + 1) e] }) hx rfl];exact HN'.out
     case measure=>simp [intOf];omega
   | false=>?_
   have hN':=hN.other hlt (by rw [hpk.out];exact qo) (by rw [hpk.out];exact qc) (by rw [hpk.out];exact q58) (by rw [hpk.out];exact qb)
   have qb' : (c == 94) = false ∧ (c == 36) = false:=by simpa using qb
   obtain ⟨b94,b36⟩:=qb';have HH:=hid (And.intro hF (And.intro hN' (And.intro hbd KW)));clear hF hN hN' hbd KW qo qc qb;go_wp2
   go_roundw
   case rel =>
    obtain ⟨hF,hN',hbd,KW⟩:=HH.out;exact hid ⟨k + 1,up,l,_,rfl,by go_num,hF,hN',hbd.mono (by omega),KW,by omega⟩
   case measure=>simp [intOf];omega
  have hge : ¬ (k : Int) < (t.size : Int):=by omega
  have hE:=hN.end_ (by omega);have HH:=hid (And.intro hF (And.intro hE (And.intro hbd KW)));clear hF hN hbd KW hE;go_wp2;go_ret;obtain ⟨hF,hE,hbd,KW⟩:=HH.out;exact ⟨rfl,⟨l,v,hF,hE.symm,hbd.mono (by omega)⟩,K0.trans' KW (fun i hi x=>by omega)⟩
end
end Go.Proofs.YtnlbchmfcebeeaaGreat
