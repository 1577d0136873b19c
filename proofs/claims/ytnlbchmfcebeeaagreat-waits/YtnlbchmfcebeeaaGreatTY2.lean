import Derived.Test.YtnlbchmfcebeeaaGreatTXe
import Derived.Test.YtnlbchmfcebeeaaGreatTXd
import Derived.Test.YtnlbchmfcebeeaaGreatTH1
import Derived.Test.YtnlbchmfcebeeaaGreatTY1
set_option maxHeartbeats 12800000
set_option maxRecDepth 100000
namespace Go.Proofs.YtnlbchmfcebeeaaGreat
open Go.RowKit
namespace Ch
theorem read_sts {t : ByteArray} (h : (read t).1 = 0) : (judge (chart t).2.sts (chart t).2.uses).1 = 0 ∧ (read t).2.2.sts = (chart t).2.sts:=by
 unfold read at h ⊢
 split at h
 ·cases h
 rename_i c0;rw [if_neg c0]
 split at h
 ·rename_i c1
  rw [if_pos c1]
  split at h
  ·rename_i c2
   rw [if_pos c2];exact ⟨by simpa using c2,rfl⟩
  rename_i c2;simp only at h;rw [h] at c2;simp at c2
 cases h
theorem legalR_none {L : List RN} {a p tm : ByteArray} {x y z : Int} (h : spreadR L a = none) : legalR L a p tm x y z = false:=by unfold legalR;rw [h]
theorem legalR_some {L : List RN} {a p tm : ByteArray} {x y z : Int} {on : List Bool} (h : spreadR L a = some on) : legalR L a p tm x y z = ((List.range L.length).all (fitsR L on) && (remR L p && sentR tm && inB x && inB y && inB z)):=by unfold legalR;rw [h]
theorem all_no {n k : Nat} {p : Nat → Bool} (hk : k < n) (h : p k = false) : (List.range n).all p = false:=by
 rw [List.all_eq_false];exact ⟨k,by simpa using hk,by simp [h]⟩
theorem all_yes {n : Nat} {p : Nat → Bool} (h : ∀ k,k < n → p k = true) : (List.range n).all p = true:=by
 rw [List.all_eq_true];intro k hk;exact h k (by simpa using hk)
end Ch
section
variable (w : World) (B cb : Nat)
theorem rLegalC_any (l : List NV) (v : Value) (a : Ch.As) (hF : ChF w B cb l v) (hl : l.length ≤ 1000) (ha : a.Sm) (hpw : ∀ (i : Nat) (x : NV),l[i]? = some x → -1 ≤ x.n.parent ∧ x.n.parent < i) :
 Calls Tryz.prog 144 #[.pointer (some ⟨cb,0,none⟩),.agg (asA a)] w fun x w'=>x = .returned (.bool (Ch.legalR (Ch.mk l) a.act a.past a.tm a.x a.y a.z)) ∧ Kp (fun _=>False) w w':=by
 obtain ⟨sa,sp,st⟩:=ha;have hb1:=heap_alloc_new w (.cells (asA a) 26);have K1 : Kp (fun _=>False) w (w.alloc (.cells (asA a) 26)):=(Kp.refl _ _).alloc _;have hF1:=hF.keep0 K1;obtain ⟨ao,cap,rfl⟩:=hF.2.1.len;have E0:=hid (rSpread_any _ B cb l _ a.act hF1 hl (by unfold maxLen;omega))
 go_enter Tryz.func144,Tryz.ntmps144
 go_upto_region 1 with (fail)
 generalize w.alloc (.cells (asA a) 26) = w1 at *;generalize w.heap.size = ob at *
 have c0 : w1.cell? ⟨ob,0,none⟩ = some (.string a.act):=by rw [World.cell?,hb1];rfl
 go_wp2_with fail
 refine hm E0 ?_;rintro x w2 ⟨u,rfl,K2,hon⟩
 cases hsp : Ch.spreadR (Ch.mk l) a.act with
 | none =>
   have HR:=hid (Ch.legalR_none (p:=a.past) (tm:=a.tm) (x:=a.x) (y:=a.y) (z:=a.z) hsp);clear hon;simp only [Option.isSome_none];go_wp2;go_ret;rw [HR.out];exact ⟨rfl,K1.trans K2⟩
 | some on=>?_
 have HR:=hid (Ch.legalR_some (p:=a.past) (tm:=a.tm) (x:=a.x) (y:=a.y) (z:=a.z) hsp);obtain ⟨rfl,hon,hol⟩:=hon on hsp;simp only [Option.isSome_some];have hob1:=K2.at_ hb1 (fun x=>x);have hF2:=hF1.keep0 K2;have K12:=K1.trans K2;have HQ:=hid (And.intro hF2 (And.intro hob1 (And.intro hon K12)));clear hF2 hob1 hon K12 K1 K2 hF1 hb1 hF E0 c0;have hml:=Ch.mk_len l
 go_wp2_with fail
 go_loopw [7] (fun iv wr=>∃ i : Nat,iv = .int .i64 i ∧ i ≤ l.length ∧ Hid (∀ j,j < i → Ch.fitsR (Ch.mk l) on j = true) ∧ Kp (fun _=>False) w2 wr) (fun iv _=>l.length - (intOf iv).toNat)
 case atStart=>exact ⟨0,rfl,Nat.zero_le _,hid (fun j h=>absurd h (by omega)),Kp.refl _ _⟩
 case round =>
  obtain ⟨i,rfl,hi,HB,KW⟩:=hrel;have hFr:=HQ.out.1.keep0 KW;have zc:=hFr.cell;have honr : OnB wr w1.heap.size on:=KW.at_ HQ.out.2.2.1 (fun x=>x)
  by_cases hlt : i < l.length
  ·have hlt' : (i : Int) < (l.length : Int):=by omega
   have E:=hid (rFits_any wr B cb l _ i _ on hFr hl honr hol hlt (fun x hx=>hpw i x hx))
   have HNX:=hid (fun (h : Ch.fitsR (Ch.mk l) on i = true)=>show ∀ j,j < i + 1 → Ch.fitsR (Ch.mk l) on j = true from fun j hj=>by
    rcases Nat.lt_or_eq_of_le (Nat.le_of_lt_succ hj) with h' | h'
    ·exact HB.out j h'
    subst h';exact h)
   have HKW:=hid KW;clear hFr honr KW
   cases q : Ch.fitsR (Ch.mk l) on i with
   | false =>
     rw [q] at E;have HR2:=hid (HR.out.trans (by rw [Ch.all_no (by omega) q,Bool.false_and]))
     go_wp2_with fail
     refine hm E ?_;rintro y w3 ⟨rfl,K3⟩;go_wp2;go_ret;rw [HR2.out];exact ⟨rfl,HQ.out.2.2.2.trans (HKW.out.trans K3)⟩
   | true=>?_
   rw [q] at E
   go_wp2_with fail
   refine hm E ?_;rintro y w3 ⟨rfl,K3⟩;go_wp2
   go_roundw
   case rel=>exact ⟨i + 1,by go_num,by omega,hid (HNX.out q),HKW.out.trans K3⟩
   case measure=>simp [intOf];omega
  have hge : ¬ (i : Int) < (l.length : Int):=by omega
  obtain rfl : i = l.length:=by omega
  have hRR:=HR.out;rw [hml,Ch.all_yes HB.out,Bool.true_and] at hRR;have hobr:=KW.at_ HQ.out.2.1 (fun x=>x)
  have c1 : wr.cell? ⟨ob,1,none⟩ = some (.string a.past):=by rw [World.cell?,hobr];rfl
  have E1:=hid (rRemembered_any wr B cb l _ a.past hFr hl sp);have HX:=hid (And.intro hRR (And.intro hobr (HQ.out.2.2.2.trans KW)));clear hRR hobr KW HR HB HQ hFr honr
  go_wp2_with fail
  refine hm E1 ?_;rintro y w3 ⟨rfl,K3⟩;have hob3:=K3.at_ HX.out.2.1 (fun x=>x)
  have c2 : w3.cell? ⟨ob,2,none⟩ = some (.string a.tm):=by rw [World.cell?,hob3];rfl
  have c3 : w3.cell? ⟨ob,3,none⟩ = some (.int .i64 a.x):=by rw [World.cell?,hob3];rfl
  have c4 : w3.cell? ⟨ob,4,none⟩ = some (.int .i64 a.y):=by rw [World.cell?,hob3];rfl
  have c5 : w3.cell? ⟨ob,5,none⟩ = some (.int .i64 a.z):=by rw [World.cell?,hob3];rfl
  have E2:=hid (rSent_any w3 a.tm st);have HK:=hid (HX.out.2.2.trans K3);have HR:=hid HX.out.1;clear hob3 K3 HX E1 c1 zc
  go_wp2_with fail
  refine hm E2 ?_;rintro y w4 ⟨rfl,e4⟩;rw [e4];clear e4 w4 E2;have E3:=hid (rSmall_any w3 a.x);have E4:=hid (rSmall_any w3 a.y);have E5:=hid (rSmall_any w3 a.z);generalize Ch.remR (Ch.mk l) a.past = b1 at *;generalize Ch.sentR a.tm = b2 at *;generalize Ch.inB a.x = b3 at *;generalize Ch.inB a.y = b4 at *;generalize Ch.inB a.z = b5 at *
  cases b1
  ·go_wp2
   go_ret;rw [HR.out];exact ⟨rfl,HK.out⟩
  cases b2
  ·go_wp2
   go_ret;rw [HR.out];exact ⟨rfl,HK.out⟩
  go_wp2_with fail
  refine hm E3 ?_;rintro y w4 ⟨rfl,e4⟩;rw [e4];clear e4 w4 E3
  cases b3
  ·go_wp2
   go_ret;rw [HR.out];exact ⟨rfl,HK.out⟩
  go_wp2_with fail
  refine hm E4 ?_;rintro y w4 ⟨rfl,e4⟩;rw [e4];clear e4 w4 E4
  cases b4
  ·go_wp2
   go_ret;rw [HR.out];exact ⟨rfl,HK.out⟩
  go_wp2_with fail
  refine hm E5 ?_;rintro y w4 ⟨rfl,e4⟩;rw [e4];clear e4 w4 E5
  cases b5 <;>
  (go_wp2
   go_ret;rw [HR.out]
   exact ⟨rfl,HK.out⟩)
theorem lgE_ref {t : ByteArray} {L : List Ch.RN} (h0 : (Ch.read t).1 = 0) (hN : Ch.NR L (Ch.chart t).2) (a : Ch.As) : Ch.lgE t a = if Ch.legalR L a.act a.past a.tm a.x a.y a.z then 0 else 7:=by
 obtain ⟨hj,e⟩:=Ch.read_sts h0;obtain ⟨hu,h16⟩:=Ch.uniq_judge hN hj
 have hs : (Ch.read t).2.2.sts = L.map Ch.RN.st:=by rw [e];exact hN.sts.symm
 unfold Ch.lgE Ch.takeA;rw [h0,hs,Ch.legal_eq hN hu h16];rfl
end
theorem OpV.Sm.as {o : OpV} (h : o.Sm) : o.s.Sm:=⟨h.act,h.past,h.tm⟩
end Go.Proofs.YtnlbchmfcebeeaaGreat
