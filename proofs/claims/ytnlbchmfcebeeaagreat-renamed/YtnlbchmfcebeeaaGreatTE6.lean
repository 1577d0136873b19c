import Derived.Test.YtnlbchmfcebeeaaGreatTE5
import Derived.Test.YtnlbchmfcebeeaaGreatTE3
set_option maxHeartbeats 12800000
set_option maxRecDepth 100000
namespace Go.Proofs.YtnlbchmfcebeeaaGreat
open Go.RowKit
section
variable (w : World) (B mb ob po : Nat) (ol : Ch.Ol)
theorem busy_any (m : Ch.Ma) (hp : Pl w ob po ol) (hol : ol.Ok) (hm : Mm w B mb ob po m) (hs : m.s.Ok) :
 Calls Tryz.prog 119 #[.pointer (some ⟨mb,0,none⟩)] w fun x w'=>x = .returned (.bool (Ch.busy ol m)) ∧ Kp (fun _=>False) w w':=by
 obtain ⟨qv,ov,hmb,oq,_⟩:=id hm;have E0:=hid (choose_any w mb ob po m.s qv ov ol 46 hmb hs.1 hp hol);have HU:=hid (show Ch.busy ol m = (decide (0 < (Ch.choose ol m.s 46).length) || decide (0 < m.q.length)) from rfl);have HX:=hid hmb;clear hmb
 go_enter Tryz.func119,Tryz.ntmps119
 go_wp2_with fail
 refine cMo E0 ?_;rintro x w1 ⟨v1,rfl,h1,K1⟩;have hmb : MaB w1 mb ob po m.s qv ov:=SdB.keep HX.out K1 (fun x=>x);have cq:=hmb.queue hs.1;obtain ⟨qo,qc,rfl⟩:=oq.len
 have hql : (byCells m.q).length = m.q.length:=by simp [byCells]
 rw [hql] at cq;generalize Ch.choose ol m.s 46 = list at *;obtain ⟨ao,cap,rfl⟩:=h1.len;clear HX hmb E0 oq h1 hm hp hql
 by_cases q1 : 0 < list.length
 ·have q1' : (0 : Int) < (list.length : Int):=by omega
  go_wp2;go_ret;rw [HU.out];exact ⟨by simp [q1],K1⟩
 have q1' : ¬ (0 : Int) < (list.length : Int):=by omega
 by_cases q2 : 0 < m.q.length
 ·have q2' : (0 : Int) < (m.q.length : Int):=by omega
  go_wp2;go_ret;rw [HU.out];exact ⟨by simp [q1,q2],K1⟩
 have q2' : ¬ (0 : Int) < (m.q.length : Int):=by omega
 go_wp2;go_ret;rw [HU.out];exact ⟨by simp [q1,q2],K1⟩
end
theorem OwnsQ.head {w : World} {base : Nat} {v : Value} {a : Int} {q : List Int} (h : OwnsQ w base v (byCells (a :: q))) :
 ∃ g off cap,v = .slice (some ⟨g,off,none⟩) (q.length + 1) cap ∧ w.cell? ⟨g,off,none⟩ = some (.int .u8 a) ∧ q.length + 1 ≤ cap ∧ OwnsQ w base (.slice (some ⟨g,off + 1,none⟩) q.length (cap - 1)) (byCells q) ∧ (cap = 1 → OwnsQ w base (.slice (some ⟨g,off,none⟩) q.length 0) (byCells q)):=by
 rcases h with ⟨_,h⟩ | ⟨g,off,cap,cur,rfl,hb,hg,hn,hs,hx⟩
 ·simp [byCells] at h
 have hl : (byCells (a :: q)).length = q.length + 1:=by simp [byCells]
 have hq : (byCells q).length = q.length:=by simp [byCells]
 rw [hl] at hn ⊢;refine ⟨g,off,cap,rfl,?_,hn,.inr ⟨g,off + 1,cap - 1,cur,by rw [hq],hb,hg,by rw [hq];omega,by omega,?_⟩,fun e=>.inr ⟨g,off,0,cur,by rw [hq],hb,hg,by rw [hq];omega,by omega,?_⟩⟩
 ·rw [cell_of_row w g off cur _ _ hg]
  exact hx 0 _ (by simp [byCells])
 ·intro j u hj
  have:=hx (j + 1) u (by simpa [byCells] using hj);rw [← this];congr 1;omega
 intro j u hj
 have hl0 : q.length = 0:=by omega
 rw [List.getElem?_eq_none (by rw [hq];omega)] at hj;simp at hj
theorem Mm.deq {w : World} {B mb ob po : Nat} {s : Ch.Sd} {qv ov V : Value} {q out : List Int} (hm : MaB w mb ob po s qv ov) (hw : s.Wf) (oq : OwnsQ w B V (byCells q)) (oo : OwnsQ w B ov (byCells out)) (ap : Apart V ov) :
 Mm (w.setCell ⟨mb,37,none⟩ V) B mb ob po ⟨s,q,out⟩ ∧ MaB (w.setCell ⟨mb,37,none⟩ V) mb ob po s V ov ∧ Kp (km B mb w) w (w.setCell ⟨mb,37,none⟩ V):=by
 have hm2:=hm.setQ hw V;have K2 : Kp (fun k=>k = mb) w (w.setCell ⟨mb,37,none⟩ V):=Kp.setCell (S:=fun k=>k = mb) (Kp.refl _ _) (p:=⟨mb,37,none⟩) (fun _=>rfl) V;have n1:=oq.ne hm (by decide);have n2:=oo.ne hm (by decide);exact ⟨⟨_,_,hm2,oq.keep K2 (fun i hi x=>by subst x;exact n1 hi),oo.keep K2 (fun i hi x=>by subst x;exact n2 hi),ap⟩,hm2,(Kp.refl _ _).trans' K2 (fun i _ x=>.inl x)⟩
section
variable (w : World) (B mb ob po : Nat) (ol : Ch.Ol)
theorem round_any (m : Ch.Ma) (hp : Pl w ob po ol) (hol : ol.Ok) (hm : Mm w B mb ob po m) (hs : m.s.Ok) (hB : B ≤ w.heap.size) (hz : m.Sz 700000000) :
 Calls Tryz.prog 120 #[.pointer (some ⟨mb,0,none⟩)] w fun x w'=>x = .returned (.tuple #[]) ∧ Mm w' B mb ob po (Ch.round ol m) ∧ Kp (km B mb w) w w':=by
 obtain ⟨qv,ov,hmb,oq,oo,ap⟩:=id hm;have E0:=hid (choose_any w mb ob po m.s qv ov ol 46 hmb hs.1 hp hol);have HX:=hid (And.intro hmb (And.intro oq (And.intro oo (And.intro ap (And.intro hm hp)))));obtain ⟨hin,h16⟩:=Ch.choose_in ol m.s 46;have hl16:=hol.sts;clear hmb oq oo ap hm hp
 cases q1 : (Ch.choose ol m.s 46).length == 0 with
 | false =>
   rw [show Ch.round ol m = Ch.micro ol m (Ch.choose ol m.s 46) by unfold Ch.round;rw [q1];rfl]
   go_enter Tryz.func120,Tryz.ntmps120
   go_wp2_with fail
   refine cMo E0 ?_;rintro x w1 ⟨v1,rfl,h1,K1⟩;obtain ⟨hmb,oq,oo,ap,hm,hp⟩:=HX.out;have hm1:=hm.still K1;have hp1 : Pl w1 ob po ol:=hp.keep K1 (fun _ _ _ _ _ x=>x);have E1:=hid (micro_any w1 B mb ob po ol m _ _ h1 hin (by omega) hp1 hol hm1 hs (by have:=K1.size;omega) hz);generalize hli : Ch.choose ol m.s 46 = list at *;have HL:=hid hli;clear hli;obtain ⟨ao,cap,rfl⟩:=h1.len
   have q2' : ¬ ((list.length : Int) = 0) := by intro e; have : list.length = 0 := by omega
                                                rw [this] at q1;exact absurd q1 (by decide)
   have q1' : ((list.length : Int) == 0) = false:=by simpa using q2'
   clear hmb oq oo ap hm hp HX hm1 hp1 h1 E0
   go_wp2_with fail
   refine cMo E1 ?_;rintro x w2 ⟨rfl,M2,K2⟩;have K3:=Km.trans (Kp.km K1) K2;clear E1 K1 K2;go_wp2
   go_end0
   rw [HL.out];exact ⟨rfl,M2,K3⟩
 | true=>?_
 have e0 : Ch.choose ol m.s 46 = []:=by
  cases q : Ch.choose ol m.s 46 with
  | nil=>rfl
  | cons a l=>rw [q] at q1;simp at q1
 cases q2 : m.q with
 | nil =>
   rw [show Ch.round ol m = Ch.micro ol m [] by unfold Ch.round;rw [q1,q2,e0];rfl];rw [e0] at E0;clear q1 e0 hin h16
   go_enter Tryz.func120,Tryz.ntmps120
   go_wp2_with fail
   refine cMo E0 ?_;rintro x w1 ⟨v1,rfl,h1,K1⟩;obtain ⟨hmb,oq,oo,ap,hm,hp⟩:=HX.out;have hm1:=hm.still K1;have hp1 : Pl w1 ob po ol:=hp.keep K1 (fun _ _ _ _ _ x=>x);have E1:=hid (micro_any w1 B mb ob po ol m _ _ h1 (by intro n hn;simp at hn) (by simp) hp1 hol hm1 hs (by have:=K1.size;omega) hz);have hmb1 : MaB w1 mb ob po m.s qv ov:=SdB.keep hmb K1 (fun x=>x);have cq:=hmb1.queue hs.1;obtain ⟨qo,qc,rfl⟩:=oq.len
   have hql : (byCells m.q).length = 0:=by rw [q2];rfl
   rw [hql] at cq;obtain ⟨ao,cap,rfl⟩:=h1.len;simp only [List.length_nil] at E1;clear hmb oq oo ap hm hp HX hm1 hp1 h1 E0 hmb1 hql
   go_wp2_with fail
   refine cMo E1 ?_;rintro x w2 ⟨rfl,M2,K2⟩;have K3:=Km.trans (Kp.km K1) K2;clear E1 K1 K2 cq;go_wp2
   go_end0
   exact ⟨rfl,M2,K3⟩
 | cons a q=>?_
 have hz2 : ({ m with q:=q } : Ch.Ma).Sz 700000000:=⟨by have:=hz.1;rw [q2] at this;simp at this ⊢;omega,hz.2⟩
 rw [show Ch.round ol m = Ch.micro ol { m with q:=q } (Ch.choose ol m.s a) by unfold Ch.round;rw [q1,q2];rfl];rw [e0] at E0;clear q1 e0 hin h16
 go_enter Tryz.func120,Tryz.ntmps120
 go_wp2_with fail
 refine cMo E0 ?_;rintro x w1 ⟨v1,rfl,h1,K1⟩;obtain ⟨ao,cap,rfl⟩:=h1.len;simp only [List.length_nil];obtain ⟨hmb,oq,oo,ap,hm,hp⟩:=HX.out;have hm1 : MaB w1 mb ob po m.s qv ov:=SdB.keep hmb K1 (fun x=>x);have hp1 : Pl w1 ob po ol:=hp.keep K1 (fun _ _ _ _ _ x=>x);have cq:=hm1.queue hs.1;have oq1:=oq.keep K1 (fun _ _ x=>x);have oo1:=oo.keep K1 (fun _ _ x=>x);rw [q2] at oq1;obtain ⟨g,off,qcap,rfl,cg,hqc,oq2,oq3⟩:=oq1.head
 have fz : ∀ i,w1.frozen? ⟨mb,i,none⟩ = false:=fun i=>SdB.free hm1 i
 have hm1s:=hm.still K1
 have hlq : (q.length : Int) + 1 ≤ (qcap : Int):=by omega
 by_cases hc1 : qcap = 1
 ·subst hc1
  obtain rfl : q = []:=by
   cases q with
   | nil=>rfl
   | cons b l=>simp at hqc
  obtain ⟨M2,hm2,K2⟩:=Mm.deq (V:=.slice (some ⟨g,off,none⟩) 0 0) hm1 hs.1 (oq3 rfl) oo1 (fun i hi x=>ap i (by simpa [Value.ownBlock] using hi) x);have hp2:=hm1s.pl K2 hp1;have K3:=Km.trans (Kp.km K1) K2;have E1:=hid (choose_any (w1.setCell ⟨mb,37,none⟩ (.slice (some ⟨g,off,none⟩) 0 0)) mb ob po m.s _ _ ol a hm2 hs.1 hp2 hol);have HY:=hid (And.intro M2 (And.intro hp2 K3));obtain ⟨hin,h16⟩:=Ch.choose_in ol m.s a;clear hmb oq oo ap hm hp HX hm1 hp1 oq1 oo1 oq2 oq3 hm2 M2 hp2 K2 K3 E0 h1 K1 hm1s
  go_wp2_with fail
  refine cMo E1 ?_;rintro x w4 ⟨v4,rfl,h4,K4⟩;obtain ⟨M2,hp2,K3⟩:=HY.out;have M4:=M2.still K4;have hp4 : Pl w4 ob po ol:=hp2.keep K4 (fun _ _ _ _ _ x=>x);have K5:=Km.trans K3 (Kp.km K4);have E2:=hid (micro_any w4 B mb ob po ol _ _ _ h4 hin (by omega) hp4 hol M4 hs (by have:=K5.size;omega) hz2);clear M2 hp2 K3 K4 HY E1 M4 hp4 h4 cq cg fz
  go_wp2_with fail
  refine cMo E2 ?_;rintro x w5 ⟨rfl,M5,K6⟩;have K7:=Km.trans K5 K6;clear E2 K5 K6;go_wp2
  go_end0
  exact ⟨rfl,M5,K7⟩
 obtain ⟨M2,hm2,K2⟩:=Mm.deq (V:=.slice (some ⟨g,off + 1,none⟩) q.length (qcap - 1)) hm1 hs.1 (oq2) oo1 (fun i hi x=>ap i (by simpa [Value.ownBlock] using hi) x);have hp2:=hm1s.pl K2 hp1;have K3:=Km.trans (Kp.km K1) K2;have E1:=hid (choose_any (w1.setCell ⟨mb,37,none⟩ (.slice (some ⟨g,off + 1,none⟩) q.length (qcap - 1))) mb ob po m.s _ _ ol a hm2 hs.1 hp2 hol);have HY:=hid (And.intro M2 (And.intro hp2 K3));obtain ⟨hin,h16⟩:=Ch.choose_in ol m.s a;clear hmb oq oo ap hm hp HX hm1 hp1 oq1 oo1 oq2 oq3 hm2 M2 hp2 K2 K3 E0 h1 K1 hm1s
 go_wp2_with fail
 refine cMo E1 ?_;rintro x w4 ⟨v4,rfl,h4,K4⟩;obtain ⟨M2,hp2,K3⟩:=HY.out;have M4:=M2.still K4;have hp4 : Pl w4 ob po ol:=hp2.keep K4 (fun _ _ _ _ _ x=>x);have K5:=Km.trans K3 (Kp.km K4);have E2:=hid (micro_any w4 B mb ob po ol _ _ _ h4 hin (by omega) hp4 hol M4 hs (by have:=K5.size;omega) hz2);clear M2 hp2 K3 K4 HY E1 M4 hp4 h4 cq cg fz
 go_wp2_with fail
 refine cMo E2 ?_;rintro x w5 ⟨rfl,M5,K6⟩;have K7:=Km.trans K5 K6;clear E2 K5 K6;go_wp2
 go_end0
 exact ⟨rfl,M5,K7⟩
end
end Go.Proofs.YtnlbchmfcebeeaaGreat
