import Derived.Test.YtnlbchmfcebeeaaGreatTXa
import Derived.Test.YtnlbchmfcebeeaaGreatTX9
import Derived.Test.YtnlbchmfcebeeaaGreatTX6
import Derived.OwnWalk
set_option maxHeartbeats 12800000
set_option maxRecDepth 100000
namespace Go.Proofs.YtnlbchmfcebeeaaGreat
open Go.RowKit
namespace Ch
def TB (L : List RN) : Prop:=∀ n ∈ L,∀ rt ∈ n.trans,rt.text.size ≤ 300 ∧ rt.pos ≤ 300
theorem TB.mod {L : List RN} (h : TB L) {i : Int} {f : RN → RN} (hf : ∀ n,∀ rt ∈ (f n).trans,rt ∈ n.trans ∨ (rt.text.size ≤ 300 ∧ rt.pos ≤ 300)) : TB (nMod L i f):=by
 intro n hn rt hr
 cases i with
 | negSucc j=>exact h n hn rt hr
 | ofNat j=>?_
 obtain ⟨k,hk⟩:=List.getElem?_of_mem hn;rw [show (nMod L (Int.ofNat j) f)[k]? = _ from nMod_get (L:=L) (k:=j) (f:=f) k] at hk
 split at hk
 ·rw [Option.map_eq_some_iff] at hk
  obtain ⟨m,hm,rfl⟩:=hk
  rcases hf m rt hr with h' | h'
  ·exact h m (List.mem_of_getElem? hm) rt h'
  exact h'
 exact h n (List.mem_of_getElem? hk) rt hr
theorem TB.mark {L : List RN} (h : TB L) (i : Int) : TB (nMark L i):=by
 intro n hn rt hr;obtain ⟨k,hk⟩:=List.getElem?_of_mem hn;obtain ⟨m,hm,e,_⟩:=nMark_get L i k n hk;exact h m (List.mem_of_getElem? hm) rt (by rw [← e];exact hr)
theorem ext_size (t : ByteArray) (a b : Nat) : (t.extract a b).size ≤ t.size:=by simp;omega
theorem NRun.bd {t : ByteArray} (ht : t.size ≤ 240) {i : Nat} {up : Int} {L res : List RN} (h : NRun t i up L res) : TB L → TB res:=by
 induction h with
 | done _=>exact id
 | @step i j up up' L L' res hi hst _ ih=>?_
 intro hL;refine ih ?_;unfold nstep at hst
 split at hst
 ·split at hst
  ·simp only [Option.some.injEq,Prod.mk.injEq] at hst
   obtain ⟨_,_,rfl⟩:=hst;intro n hn rt hr
   rcases List.mem_append.1 hn with hn | hn
   ·exact hL.mark up n hn rt hr
   simp at hn;subst hn;simp at hr
  simp at hst
 split at hst
 ·split at hst
  ·simp only [Option.some.injEq,Prod.mk.injEq] at hst
   obtain ⟨_,_,rfl⟩:=hst;exact hL
  simp at hst
 split at hst
 ·split at hst
  ·simp only [Option.some.injEq,Prod.mk.injEq] at hst
   obtain ⟨_,_,rfl⟩:=hst;refine hL.mod (fun n rt hr=>?_);simp only [List.mem_append,List.mem_cons,List.not_mem_nil,or_false] at hr
   rcases hr with hr | rfl
   ·exact .inl hr
   right;have:=ext_size t (i + 1) (reachesR t (i + 1) + 1);simp only;omega
  simp at hst
 split at hst
 ·split at hst
  ·simp only [Option.some.injEq,Prod.mk.injEq] at hst
   obtain ⟨_,_,rfl⟩:=hst;refine hL.mod (fun n rt hr=>.inl ?_)
   split at hr <;> exact hr
  simp at hst
 simp only [Option.some.injEq,Prod.mk.injEq] at hst;obtain ⟨_,_,rfl⟩:=hst;exact hL
end Ch
theorem fltOk {l : List NV} {r : Ch.Rs} (h : Ch.NR (Ch.mk l) r) (hb : NvBd l 300) (ht : Ch.TB (Ch.mk l)) : FltOk l:=by
 have at_ : ∀ (k : Nat) (x : NV),l[k]? = some x → (Ch.mk l)[k]? = some x.n:=fun k x hx=>by unfold Ch.mk;rw [List.getElem?_map,hx];rfl
 refine ⟨hb.1,fun x hx=>?_,fun k x hx hk=>?_,fun x hx=>⟨(hb.2 x hx).2.2,fun rt hr=>?_⟩⟩
 ·obtain ⟨k,hk⟩:=List.getElem?_of_mem hx
  have:=Ch.isNm_or (h.wf k _ (at_ k x hk)).2.2.1;omega
 ·have hw:=h.wf k _ (at_ k x hx)
  have:=hw.2.2.2.1 hk;have hlt:=(List.getElem?_eq_some_iff.1 hx).1;exact ⟨x.n.parent.toNat,by omega,by omega⟩
 obtain ⟨k,hk⟩:=List.getElem?_of_mem hx;have hf:=h.trs k _ (at_ k x hk)
 have hT : ∃ y,Ch.TrOk rt y:=by
  generalize List.filter (Ch.inS k) r.trs = m at hf;generalize x.n.trans = q at hf hr
  induction hf with
  | nil=>simp at hr
  | cons hab _ ih=>?_
  rcases List.mem_cons.1 hr with rfl | hr
  ·exact ⟨_,hab⟩
  exact ih hr
 obtain ⟨y,hy⟩:=hT;have:=hy.ends.1;have:=hy.pos;have:=ht x.n (List.mem_of_getElem? (at_ k x hk)) rt hr;omega
theorem ChF.low' {w : World} {B B' cb : Nat} {l : List NV} {v : Value} (h : ChF w B cb l v) (hb : B' ≤ B) : ChF w B' cb l v :=
 ⟨h.1,⟨own_weaken h.2.1.row hb,fun x hx=>own_weaken (h.2.1.ent x hx) hb,fun x hx=>own_weaken (h.2.1.lea x hx) hb,fun x hx=>own_weaken (h.2.1.tra x hx) hb,h.2.1.aE,h.2.1.aL,h.2.1.aX,h.2.1.aT⟩,Nat.le_trans hb h.2.2⟩
def RdR (w' : World) (B : Nat) (t : ByteArray) (p : Value) : Prop:=∃ cb l v,p = .pointer (some ⟨cb,0,none⟩) ∧ ChF w' B cb l v ∧ Ch.NR (Ch.mk l) (Ch.chart t).2 ∧ NvBd l 300 ∧ Ch.TB (Ch.mk l)
def RdQ (w w' : World) (t : ByteArray) (p : Value) : Prop:=((Ch.read t).1 ≠ 0 → p = .pointer none) ∧ ((Ch.read t).1 = 0 → RdR w' w.heap.size t p) ∧ Kp (fun _=>False) w w'
section
variable (w : World)
theorem rRead_any (t : ByteArray) :
 Calls Tryz.prog 142 #[.string t] w fun x w'=>∃ p,x = .returned (.tuple #[p,.int .i64 (Ch.read t).1,.int .i64 (Ch.read t).2.1]) ∧ RdQ w w' t p:=by
 by_cases h240 : 240 < t.size
 ·have h240' : (240 : Int) < (t.size : Int):=by omega
  have hR:=hid (show Ch.read t = (1,0,⟨[],[],[]⟩) by unfold Ch.read;rw [if_pos h240])
  go_enter Tryz.func142,Tryz.ntmps142
  go_wp2;go_ret3;refine ⟨.pointer none,by rw [hR.out];rfl,fun _=>rfl,fun h=>absurd h (by rw [hR.out];decide),Kp.refl _ _⟩
 have h240' : ¬ (240 : Int) < (t.size : Int):=by omega
 have ht : t.size ≤ 240:=by omega
 have E1:=hid (rPlace_any w t ht);have hpl:=Ch.placeR_eq t
 cases q : (Ch.chart t).1 with
 | false =>
   rw [q] at hpl;simp only [Bool.false_eq_true,if_false] at hpl;rw [hpl] at E1
   have h0 : (0 : Int) ≤ ((Ch.chart t).2.pos : Int):=by omega
   have hR:=hid (show Ch.read t = (2,((Ch.chart t).2.pos : Int),⟨[],[],[]⟩) by unfold Ch.read;rw [if_neg h240,q];rfl);clear hpl;generalize (Ch.chart t).2.pos = po at *
   go_enter Tryz.func142,Tryz.ntmps142
   go_wp2_with fail
   refine cMo E1 ?_;rintro y w1 ⟨rfl,K1⟩;go_wp2;go_ret3;refine ⟨.pointer none,by rw [hR.out];rfl,fun _=>rfl,fun h=>absurd h (by rw [hR.out];simp only;decide),K1⟩
 | true=>?_
 rw [q] at hpl;simp only [if_true] at hpl;rw [hpl] at E1;obtain ⟨L,hrun,hNR⟩:=Ch.sim_chart q;have hfe:=Ch.fault_eq hNR;have hTB:=hrun.bd ht (by intro n hn;simp at hn);have HL:=hid (And.intro hrun (And.intro hNR hTB));clear hpl hrun hNR hTB
 go_enter Tryz.func142,Tryz.ntmps142
 go_wp2_with fail
 refine cMo E1 ?_;rintro y w1 ⟨rfl,K1⟩;have E2:=hid (rNodes_any w1 t L ht HL.out.1)
 go_wp2_with fail
 refine cMo E2 ?_;rintro y w2 ⟨rfl,⟨l,v,hF,hmk,hbd⟩,K2⟩;have HX:=hid (show Ch.NR (Ch.mk l) (Ch.chart t).2 ∧ Ch.TB (Ch.mk l) by rw [hmk];exact HL.out.2);have E3:=hid (rFault_any w2 w1.heap.size w1.heap.size l v hF (fltOk HX.out.1 hbd HX.out.2));rw [← hmk] at hfe
 have hE : Ch.fE (Ch.mk l) = (Ch.judge (Ch.chart t).2.sts (Ch.chart t).2.uses).1:=by unfold Ch.fE;rw [hfe]
 have hP : Ch.fP (Ch.mk l) = (Ch.judge (Ch.chart t).2.sts (Ch.chart t).2.uses).2:=by unfold Ch.fP;rw [hfe]
 rw [hE,hP] at E3;have hsz:=K1.size;have HF:=hid (And.intro hF (And.intro hbd (K1.trans K2)));clear E1 E2 hF hmk hbd K2 hE hP hfe HL
 go_wp2_with fail
 refine cMo E3 ?_;rintro y w3 ⟨rfl,K3⟩
 cases q2 : (Ch.judge (Ch.chart t).2.sts (Ch.chart t).2.uses).1 == 0 with
 | false =>
   have q3 : ((Ch.judge (Ch.chart t).2.sts (Ch.chart t).2.uses).1 != 0) = true:=by simpa using q2
   have hR:=hid (show (Ch.read t).1 = (Ch.judge (Ch.chart t).2.sts (Ch.chart t).2.uses).1 ∧ (Ch.read t).2.1 = (Ch.judge (Ch.chart t).2.sts (Ch.chart t).2.uses).2 by unfold Ch.read;rw [if_neg h240,q,q2];exact ⟨rfl,rfl⟩);generalize Ch.judge (Ch.chart t).2.sts (Ch.chart t).2.uses = jd at *;clear E3 K1;go_wp2;go_ret3;refine ⟨.pointer none,by rw [hR.out.1,hR.out.2];rfl,fun _=>rfl,fun h=>absurd h (by rw [hR.out.1];simpa using q2),HF.out.2.2.trans K3⟩
 | true=>?_
 have q3 : ((Ch.judge (Ch.chart t).2.sts (Ch.chart t).2.uses).1 != 0) = false:=by simpa using q2
 have hR:=hid (show (Ch.read t).1 = 0 ∧ (Ch.read t).2.1 = 0 by unfold Ch.read;rw [if_neg h240,q,q2];exact ⟨rfl,rfl⟩);generalize Ch.judge (Ch.chart t).2.sts (Ch.chart t).2.uses = jd at *;clear E3 K1;go_wp2;go_ret3;obtain ⟨hF,hbd,KK⟩:=HF.out;refine ⟨.pointer (some ⟨w1.heap.size,0,none⟩),by rw [hR.out.1,hR.out.2];rfl,fun h=>absurd hR.out.1 h,fun _=>⟨w1.heap.size,l,v,rfl,(hF.keep0 K3).low' hsz,HX.out.1,hbd,HX.out.2⟩,KK.trans K3⟩
end
end Go.Proofs.YtnlbchmfcebeeaaGreat
