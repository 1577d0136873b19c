import Derived.Test.YtnlbchmfcebeeaaGreatTW3
import Derived.BigQuiet
import Derived.Deep.QuietTactic
set_option maxHeartbeats 12800000
set_option maxRecDepth 100000
namespace Go.Proofs.YtnlbchmfcebeeaaGreat
open Go.RowKit
namespace Ch
def histP (P : List (Int × Int)) (c : Nat) : Bool:=match P[c]? with | some x=>x.1 == 5 | none=>false
def histN (P : List (Int × Int)) (j : Nat) : Nat:=(List.range j).countP (histP P)
theorem histN_succ (P : List (Int × Int)) (j : Nat) : histN P (j + 1) = histN P j + if histP P j then 1 else 0:=by
 unfold histN;rw [List.range_succ,List.countP_append];simp [List.countP_cons]
theorem histN_le (P : List (Int × Int)) (j : Nat) : histN P j ≤ j:=by unfold histN;exact Nat.le_trans List.countP_le_length (by simp)
theorem histN_mono (P : List (Int × Int)) {i j : Nat} (h : i ≤ j) : histN P i ≤ histN P j:=by
 induction h with
 | refl=>exact Nat.le_refl _
 | step _ ih=>rw [Nat.succ_eq_add_one,histN_succ];omega
structure PaOk (P : List (Int × Int)) (A : ByteArray) : Prop where
 le : P.length ≤ 16
 size : A.size = histN P P.length
 at_ : ∀ (i : Nat) (p : Int),P[i]? = some (5,p) → ∀ h : histN P i < A.size,(((A[histN P i]'h).toNat : Nat) : Int) = 45 ∨ ∃ c : Nat,(((A[histN P i]'h).toNat : Nat) : Int) = 65 + (c : Int) ∧ ∃ q2 : Int,P[c]? = some (q2,p) ∧ q2 ≠ 5
end Ch
section
variable (w : World)
theorem remembers_any {P : List (Int × Int)} {A : ByteArray} {pg pcap : Nat} (ha : Ch.PaOk P A) (hp : PtB w pg P) :
 Calls Tryz.prog 53 #[.string A,.slice (some ⟨pg,0,none⟩) P.length pcap] w fun x w'=>x = .returned (.bool true) ∧ Kp (fun _=>False) w w':=by
 have h16:=ha.le;have hsz:=ha.size;have HA:=hid (And.intro ha hp);clear ha hp
 go_enter Tryz.func53,Tryz.ntmps53
 go_wp2_with fail
 go_loopw [5,6] (fun kv iv wr=>∃ i : Nat,iv = .int .i64 i ∧ i ≤ P.length ∧ kv = .int .i64 (Ch.histN P i) ∧ Kp (fun _=>False) w wr) (fun _ iv _=>P.length - (intOf iv).toNat)
 case atStart=>exact ⟨0,rfl,Nat.zero_le _,rfl,Kp.refl _ _⟩
 case round =>
  obtain ⟨i,rfl,hi,rfl,KW⟩:=hrel;have hle:=Ch.histN_le P i
  by_cases hlt : i < P.length
  ·have hlt' : (i : Int) < (P.length : Int):=by omega
   obtain ⟨q,p,hip⟩ : ∃ q p,P[i]? = some (q,p):=⟨_,_,List.getElem?_eq_getElem hlt⟩
   have hpr:=HA.out.2.keep0 KW;obtain ⟨y0,y1⟩:=hpr.at_ hip;have hs:=Ch.histN_succ P i
   have hh : Ch.histP P i = (q == 5):=by unfold Ch.histP;rw [hip]
   rw [hh] at hs
   by_cases q5 : q = 5
   ·subst q5
    simp at hs;have hmono:=Ch.histN_mono P (show i + 1 ≤ P.length by omega)
    have hkl : Ch.histN P i < A.size:=by omega
    have hkl' : ((Ch.histN P i : Nat) : Int) < (A.size : Int):=by omega
    have hkl2 : ¬ (A.size : Int) ≤ ((Ch.histN P i : Nat) : Int):=by omega
    have hat:=HA.out.1.at_ i p hip hkl;have HS:=hid hs;have HK:=hid (And.intro KW hpr);clear hs hh hip KW hmono hsz;generalize Ch.histN P i = k at *
    rcases hat with hb | ⟨c,hb,q2,hc,hq2⟩
    ·clear hpr
     go_upto_region 11 with (fail)
     go_quiet (fail)
     rename_i nq;have KD:=hid (HK.out.1.drewN nq)
     go_wp2_with fail
     go_roundw
     case rel=>exact ⟨i + 1,by go_num,by omega,by rw [HS.out];go_num,KD.out⟩
     case measure=>simp [intOf];omega
    obtain ⟨x0,x1⟩:=hpr.at_ hc;have hcl:=(List.getElem?_eq_some_iff.1 hc).1
    have hc0 : ¬ (c : Int) < 0:=by omega
    have hcl' : (c : Int) < (P.length : Int):=by omega
    have hcl2 : ¬ (P.length : Int) ≤ (c : Int):=by omega
    have h65 : 65 + (c : Int) - 65 = (c : Int):=by omega
    have h45 : ¬ (65 : Int) + (c : Int) = 45:=by omega
    have hq2b : (q2 == 5) = false:=by simpa using hq2
    clear hpr hc
    go_upto_region 11 with (fail)
    go_quiet (fail)
    rename_i nq;have KD:=hid (HK.out.1.drewN nq)
    go_wp2_with fail
    go_roundw
    case rel=>exact ⟨i + 1,by go_num,by omega,by rw [HS.out];go_num,KD.out⟩
    case measure=>simp [intOf];omega
   have q5b : (q == 5) = false:=by simpa using q5
   rw [q5b] at hs;simp at hs;have HS:=hid hs;clear hs hh hip hpr
   go_wp2_with fail
   go_roundw
   case rel=>exact ⟨i + 1,by go_num,by omega,by rw [HS.out],KW⟩
   case measure=>simp [intOf];omega
  have hlt' : ¬ (i : Int) < (P.length : Int):=by omega
  obtain rfl : i = P.length:=by omega
  rw [← hsz];go_wp2;go_ret;exact ⟨rfl,KW⟩
end
namespace Ch
def actL (s : Sd) (n : Nat) : List Nat:=(List.range n).filter (bit s.act)
section
variable {P : List (Int × Int)} {ol : Ol} (hO : RdOk P ol)
include hO
theorem rd_st {k : Nat} (hk : k < P.length) : ∃ st,ol.sts[k]? = some st ∧ P[k]? = some (st.kind,st.parent) ∧ st.name = 65 + (k : Int):=by
 have h : k < ol.sts.length:=by rw [hO.len];exact hk
 exact ⟨_,List.getElem?_eq_getElem h,hO.at_ k _ (List.getElem?_eq_getElem h)⟩
theorem rd_nm {k : Nat} (hk : k < P.length) : nmAt ol.sts k = 65 + (k : Int):=by
 obtain ⟨st,e,_,h⟩:=rd_st hO hk;unfold nmAt;rw [e];exact h
theorem rd_at {k : Nat} {q p : Int} (hk : P[k]? = some (q,p)) : kindAt ol.sts k = q ∧ parAt ol.sts k = p ∧ k < ol.sts.length:=by
 have hlt:=(List.getElem?_eq_some_iff.1 hk).1;obtain ⟨st,e,h,_⟩:=rd_st hO hlt;rw [h] at hk;simp at hk;unfold kindAt parAt;rw [stAt_nat,e];exact ⟨hk.1,hk.2,by rw [hO.len];exact hlt⟩
theorem rd_child (i c : Nat) : kidP P i c = isChild ol.sts c (i : Int):=by
 unfold kidP isChild;rw [stAt_nat]
 by_cases hc : c < P.length
 ·obtain ⟨st,e,h,_⟩:=rd_st hO hc
  rw [e,h]
 rw [List.getElem?_eq_none (by omega),List.getElem?_eq_none (by rw [hO.len];omega)]
theorem rd_hist (c : Nat) : histP P c = hist ol.sts c:=by
 unfold histP hist
 by_cases hc : c < P.length
 ·obtain ⟨st,e,h,_⟩:=rd_st hO hc
  rw [e,h]
 rw [List.getElem?_eq_none (by omega),List.getElem?_eq_none (by rw [hO.len];omega)]
theorem out_act (h16 : P.length ≤ 16) (s : Sd) : outAct ol.sts s = strOfNums ((actL s P.length).map fun i : Nat=>65 + (i : Int)):=by
 unfold outAct actK;rw [show min ol.sts.length 16 = P.length by rw [hO.len];omega]
 congr 1
 have e : (fun j : Nat=>has s.act (j : Int)) = bit s.act:=by funext j;exact has_nat _ _
 rw [e];exact List.map_congr_left (fun i hi=>rd_nm hO (by have:=(List.mem_filter.1 hi).1;simpa using this))
end
theorem actL_names (s : Sd) {n : Nat} (h : n ≤ 16) : Names (strOfNums ((actL s n).map fun i : Nat=>65 + (i : Int))) (actL s n) n :=
 names_of (fun i hi=>by have:=(List.mem_filter.1 hi).1;simpa using this) (List.Pairwise.filter _ List.pairwise_lt_range) h
theorem actL_len (s : Sd) (n : Nat) : (actL s n).length ≤ n:=by
 unfold actL;exact Nat.le_trans (List.length_filter_le _ _) (by simp)
theorem onAt_actL {s : Sd} {n : Nat} (hlt : ∀ i,bit s.act i = true → i < n) (k : Nat) : onAt (onL (actL s n) n) k = bit s.act k:=by
 unfold onAt onL
 by_cases hk : k < n
 ·simp only [List.getD_eq_getElem?_getD,List.getElem?_map,List.getElem?_range hk,Option.map_some,Option.getD_some]
  have : (k ∈ actL s n) ↔ bit s.act k = true:=by unfold actL;simp [hk]
  cases q : bit s.act k with
  | true=>simp [this,q]
  | false=>simp [this,q]
 have h1 : bit s.act k = false:=by
  cases q : bit s.act k with
  | false=>rfl
  | true=>exact absurd (hlt k q) hk
 rw [h1];simp [List.getD_eq_getElem?_getD,List.getElem?_eq_none (l:=List.range n) (i:=k) (by simp;omega)]
theorem filter_at {f : Nat → Bool} {n i : Nat} (hi : i < n) (hf : f i = true) : ((List.range n).filter f)[(List.range i).countP f]? = some i:=by
 obtain ⟨m,rfl⟩ : ∃ m,n = i + 1 + m:=⟨n - (i + 1),by omega⟩
 have e : List.range (i + 1 + m) = List.range i ++ (i :: (List.range m).map (i + 1 + ·)):=by
  rw [List.range_add,List.range_succ,List.append_assoc];rfl
 rw [e,List.filter_append,List.filter_cons_of_pos hf,List.countP_eq_length_filter];rw [List.getElem?_append_right (Nat.le_refl _)];simp
section
variable {P : List (Int × Int)} {ol : Ol} (hP : PtOk P) (hO : RdOk P ol)
include hP hO
theorem good_rules {s : Sd} (hC : Conf ol.sts (bit s.act)) : RuOk P (onL (actL s P.length) P.length):=by
 have hb:=fun k=>onAt_actL (s:=s) (n:=P.length) (fun i hi=>by have:=hC.lt i hi;rw [hO.len] at this;exact this) k
 have hup : ∀ (c : Nat) (q p : Int),P[c]? = some (q,p) → p < (c : Int):=by
  intro c q p hc
  rcases hP.par c q p hc with rfl | ⟨i,e,h,_⟩
  ·obtain ⟨k,h1,_⟩:=hP.root
   rw [h1] at hc;simp at hc;omega
  omega
 refine ⟨hP.len,onL_len _ _,hup,?_,?_,?_,?_,?_⟩
 ·intro i q p hi hp
  rw [hb]
  rcases hP.par i q p hi with rfl | ⟨c,e,_⟩
  ·exact hC.root
  omega
 ·intro i q p hi ho
  rw [hb] at ho;have:=hC.hist i ho;rw [(rd_at hO hi).1] at this;exact this
 ·intro i q p hi ho hp
  rw [hb] at ho ⊢;exact hC.upc i p.toNat ho (by rw [(rd_at hO hi).2.1];omega)
 ·intro i p hi ho
  rw [hb] at ho;have hk:=(rd_at hO hi).1;unfold liveN;refine countP_uniq _ List.nodup_range ?_ ?_
  ·obtain ⟨c,h1,h2⟩:=hC.some2 i ho hk
   refine ⟨c,by have:=hC.lt c h2;rw [hO.len] at this;simpa using this,?_⟩;rw [rd_child hO,hb,h1,h2];rfl
  intro a _ b _ ha hb';simp only [Bool.and_eq_true] at ha hb';rw [rd_child hO,hb] at ha hb';exact hC.one i a b hk ha.1 hb'.1 ha.2 hb'.2
 intro i p hi ho;rw [hb] at ho;have hk:=(rd_at hO hi).1;unfold liveN kidsN;refine List.countP_congr (fun c _=>?_);rw [hb]
 constructor
 ·intro h;simp only [Bool.and_eq_true] at h;exact h.1
 intro h;simp only [Bool.and_eq_true];exact ⟨h,hC.all3 i c ho hk (by rw [← rd_child hO];exact h)⟩
theorem good_past {s : Sd} (hI : PastOk ol.sts s) : PaOk P (outPast ol.sts s):=by
 have h16:=hP.len
 have hf : histP P = hist ol.sts:=by funext c;exact rd_hist hO c
 have e : outPast ol.sts s = strOfNums (((List.range P.length).filter (histP P)).map (pastAt s)):=by
  unfold outPast pstK;rw [show min ol.sts.length 16 = P.length by rw [hO.len];omega,hf]
 have hN : ∀ j,histN P j = (List.range j).countP (histP P):=fun _=>rfl
 rw [e];refine ⟨h16,by rw [strOfNums_size,List.length_map,hN,List.countP_eq_length_filter],fun i p hi h=>?_⟩;have hlt:=(List.getElem?_eq_some_iff.1 hi).1
 have hh : histP P i = true:=by unfold histP;rw [hi];rfl
 have hat:=filter_at hlt hh;rw [← hN] at hat
 have hl : histN P i < (((List.range P.length).filter (histP P)).map (pastAt s)).length:=by rw [strOfNums_size] at h;exact h
 rw [str_at _ _ h hl]
 have hv : (((List.range P.length).filter (histP P)).map (pastAt s))[histN P i]'hl = pastAt s i:=by
  have:=List.getElem?_map (f:=pastAt s) (l:=(List.range P.length).filter (histP P)) (i:=histN P i);rw [hat,List.getElem?_eq_getElem hl] at this;simpa using this
 rw [hv];have hp:=hI i (by rw [hO.len];exact hlt) (by rw [← hf];exact hh);unfold isPast at hp
 split at hp
 ·rename_i c
  have c' : pastAt s i = 45:=by simpa using c
  left
  rw [c'];rfl
 right
 cases q : stAt ol.sts (place ol.sts (pastAt s i)) with
 | none=>unfold isChild at hp;rw [q] at hp;cases hp
 | some y=>?_
 obtain ⟨g,e1,e2,e3⟩:=stAt_some q;obtain ⟨g',e4,e5,e6⟩:=place_nm (ss:=ol.sts) (c:=pastAt s i) (by omega)
 have : g' = g:=by omega
 subst this;rw [hO.len] at e5;rw [rd_nm hO e5] at e6;have hch:=hp;unfold isChild at hch;rw [q] at hch;simp only [Bool.and_eq_true,beq_iff_eq,bne_iff_ne,ne_eq] at hch;obtain ⟨h1,_⟩:=hO.at_ g' y e2;have hpi:=(rd_at hO hi).2.1;refine ⟨g',?_,y.kind,?_,hch.2⟩
 ·rw [← e6,UInt8.toNat_ofNat'];omega
 rw [h1,hch.1,hpi]
end
end Ch
end Go.Proofs.YtnlbchmfcebeeaaGreat
