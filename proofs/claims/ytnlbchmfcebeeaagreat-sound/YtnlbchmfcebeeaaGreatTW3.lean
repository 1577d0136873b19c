import Derived.Test.YtnlbchmfcebeeaaGreatTW1
set_option maxHeartbeats 12800000
set_option maxRecDepth 100000
namespace Go.Proofs.YtnlbchmfcebeeaaGreat
open Go.RowKit
namespace Ch
def kidP (P : List (Int × Int)) (i c : Nat) : Bool:=match P[c]? with | some x=>x.2 == (i : Int) && x.1 != 5 | none=>false
def kidsN (P : List (Int × Int)) (i j : Nat) : Nat:=(List.range j).countP (kidP P i)
def liveN (P : List (Int × Int)) (on : List Bool) (i j : Nat) : Nat:=(List.range j).countP fun c=>kidP P i c && onAt on c
theorem kidsN_succ (P : List (Int × Int)) (i j : Nat) : kidsN P i (j + 1) = kidsN P i j + if kidP P i j then 1 else 0:=by
 unfold kidsN;rw [List.range_succ,List.countP_append];simp [List.countP_cons]
theorem liveN_succ (P : List (Int × Int)) (on : List Bool) (i j : Nat) : liveN P on i (j + 1) = liveN P on i j + if kidP P i j && onAt on j then 1 else 0:=by
 unfold liveN;rw [List.range_succ,List.countP_append];simp [List.countP_cons]
theorem kidsN_le (P : List (Int × Int)) (i j : Nat) : kidsN P i j ≤ j:=by unfold kidsN;exact Nat.le_trans List.countP_le_length (by simp)
theorem liveN_le (P : List (Int × Int)) (on : List Bool) (i j : Nat) : liveN P on i j ≤ j:=by unfold liveN;exact Nat.le_trans List.countP_le_length (by simp)
structure RuOk (P : List (Int × Int)) (on : List Bool) : Prop where
 le : P.length ≤ 16
 len : on.length = P.length
 up : ∀ (c : Nat) (q p : Int),P[c]? = some (q,p) → p < (c : Int)
 root : ∀ (i : Nat) (q p : Int),P[i]? = some (q,p) → p < 0 → onAt on i = true
 hist : ∀ (i : Nat) (q p : Int),P[i]? = some (q,p) → onAt on i = true → q ≠ 5
 par : ∀ (i : Nat) (q p : Int),P[i]? = some (q,p) → onAt on i = true → 0 ≤ p → onAt on p.toNat = true
 one : ∀ (i : Nat) (p : Int),P[i]? = some (2,p) → onAt on i = true → liveN P on i P.length = 1
 all : ∀ (i : Nat) (p : Int),P[i]? = some (3,p) → onAt on i = true → liveN P on i P.length = kidsN P i P.length
theorem RuOk.none {P : List (Int × Int)} {on : List Bool} (h : RuOk P on) (i : Nat) : ∀ j,j ≤ i + 1 → kidsN P i j = 0 ∧ liveN P on i j = 0:=by
 have hk : ∀ c,c ≤ i → kidP P i c = false:=by
  intro c hc;unfold kidP
  cases q : P[c]? with
  | none=>rfl
  | some x=>?_
  have:=h.up c x.1 x.2 q;simp only
  have e : (x.2 == (i : Int)) = false:=by simp;omega
  rw [e];rfl
 intro j
 induction j with
 | zero=>intro _;exact ⟨rfl,rfl⟩
 | succ j ih=>?_
 intro hj;have:=ih (by omega);rw [kidsN_succ,liveN_succ,hk j (by omega)];simp [this.1,this.2]
end Ch
theorem Tryz.sizePart : (Tryz.prog.info? 113).map (·.size) = some 2:=by kernel_rfl
theorem Tryz.undPart : ∃ d,Tryz.prog.underlying 113 = some d ∧ isAggD d = true:=⟨_,Tryz.underlying113,rfl⟩
section
variable (w : World)
theorem rules_any {P : List (Int × Int)} {on : List Bool} {g pg pcap : Nat} (hr : Ch.RuOk P on) (hon : OnB w g on) (hp : PtB w pg P) :
 Calls Tryz.prog 52 #[.slice (some ⟨g,0,none⟩) P.length P.length,.slice (some ⟨pg,0,none⟩) P.length pcap] w fun x w'=>x = .returned (.bool true) ∧ Kp (fun _=>False) w w':=by
 obtain ⟨dp,hdp,hdpa⟩:=Tryz.undPart;have h16:=hr.le;have HR:=hid (And.intro hr (And.intro hon hp));clear hr hon hp
 go_enter Tryz.func52,Tryz.ntmps52
 go_wp2_with fail
 go_loopw [5] (fun i wr=>∃ k : Nat,i = .int .i64 k ∧ k ≤ P.length ∧ Kp (fun _=>False) w wr) (fun i _=>P.length - (intOf i).toNat)
 case atStart=>exact ⟨0,rfl,Nat.zero_le _,Kp.refl _ _⟩
 case round =>
  obtain ⟨k,rfl,hk,KW⟩:=hrel
  by_cases hlt : k < P.length
  ·have hlt' : (k : Int) < (P.length : Int):=by omega
   obtain ⟨q,p,hkp⟩ : ∃ q p,P[k]? = some (q,p):=⟨_,_,List.getElem?_eq_getElem hlt⟩
   have hpr:=HR.out.2.2.keep0 KW;have hor : OnB wr g on:=KW.at_ HR.out.2.1 (fun x=>x);have hrow:=heap_alloc_new wr (.cells #[.int .i64 q,.int .i64 p] 113);have K5 : Kp (fun _=>False) wr (wr.alloc (.cells #[.int .i64 q,.int .i64 p] 113)):=(Kp.refl _ _).alloc _
   have hcs : ∀ j v,[Value.int .i64 q,.int .i64 p][j]? = some v → wr.cell? ⟨pg,k * 2 + j,none⟩ = some v:=by
    intro j v hj
    match j,hj with
    | 0,hj=>simp at hj;subst hj;exact (hpr.at_ hkp).1
    | 1,hj=>simp at hj;subst hj;exact (hpr.at_ hkp).2
    | j + 2,hj=>simp at hj
   go_upto_region 5 with (refine wpList_load_part rfl 113 (.tmp 18) rfl pg (k * 2) rfl [.int .i64 q,.int .i64 p] dp hcs hdp hdpa Tryz.sizePart ?_)
   have hpb : wr.heap.size ≠ g:=by have:=lt_of_block hor;omega
   have hpr5:=hpr.keep0 K5;have hor5 : OnB (wr.alloc (.cells #[.int .i64 q,.int .i64 p] 113)) g on:=K5.at_ hor (fun x=>x);have K6:=KW.trans K5;generalize wr.alloc (.cells #[.int .i64 q,.int .i64 p] 113) = w5 at *;generalize wr.heap.size = pb at *
   have b0 : w5.cell? ⟨pb,0,none⟩ = some (.int .i64 q):=by rw [World.cell?,hrow];rfl
   have b1 : w5.cell? ⟨pb,1,none⟩ = some (.int .i64 p):=by rw [World.cell?,hrow];rfl
   have ok:=hor5.cell (k:=k) (by rw [HR.out.1.len];exact hlt);have HX:=hid (And.intro hpr5 (And.intro hor5 K6));have HKP:=hid hkp;clear hrow K5 hcs hpr hor hpr5 hor5 K6 KW hkp
   go_cut [53] from 20 to 52 (fun c wx=>c = .bool false ∧ wx = w5)
   case first =>
    by_cases hp0 : p < 0
    ·have hon1:=HR.out.1.root k q p HKP.out hp0
     have hq5:=HR.out.1.hist k q p HKP.out hon1;rw [hon1] at ok
     have hp1 : ¬ 0 ≤ p:=by omega
     have hqb : (q == 5) = false:=by simpa using hq5
     go_wp2_with fail
     go_meet
     exact ⟨rfl,rfl⟩
    have hp1 : 0 ≤ p:=by omega
    cases hok : Ch.onAt on k with
    | false =>
      rw [hok] at ok
      go_wp2_with fail
      go_meet
      exact ⟨rfl,rfl⟩
    | true=>?_
    rw [hok] at ok;have hq5:=HR.out.1.hist k q p HKP.out hok
    obtain ⟨pn,rfl⟩ : ∃ pn : Nat,p = (pn : Int):=⟨p.toNat,by omega⟩
    have hup:=HR.out.1.up k q _ HKP.out
    have hpn : (pn : Int) < (P.length : Int):=by omega
    have op:=HX.out.2.1.cell (k:=pn) (by rw [HR.out.1.len];omega);have hpt:=HR.out.1.par k q _ HKP.out hok hp1;simp only [Int.toNat_natCast] at hpt;rw [hpt] at op
    have hqb : (q == 5) = false:=by simpa using hq5
    go_wp2_with fail
    go_meet
    exact ⟨rfl,rfl⟩
   case rest =>
    obtain ⟨rfl,rfl⟩:=hcut;have h0:=HR.out.1.none k (k + 1) (Nat.le_refl _);have HZ:=hid h0;clear h0
    go_wp2_with fail
    go_loopw [7,8,9] (fun kv lv jv wq=>∃ j : Nat,jv = .int .i64 j ∧ k + 1 ≤ j ∧ j ≤ P.length ∧ kv = .int .i64 (Ch.kidsN P k j) ∧ lv = .int .i64 (Ch.liveN P on k j) ∧ wq = wc) (fun _ _ jv _=>P.length - (intOf jv).toNat)
    case atStart=>exact ⟨k + 1,by go_num,Nat.le_refl _,by omega,by rw [HZ.out.1];rfl,by rw [HZ.out.2];rfl,rfl⟩
    case round =>
     obtain ⟨j,rfl,hj1,hj2,rfl,rfl,rfl⟩:=hrel;have lk:=Ch.kidsN_le P k j;have ll:=Ch.liveN_le P on k j
     by_cases hjl : j < P.length
     ·have hjl' : (j : Int) < (P.length : Int):=by omega
      obtain ⟨qj,pj,hj⟩ : ∃ qj pj,P[j]? = some (qj,pj):=⟨_,_,List.getElem?_eq_getElem hjl⟩
      obtain ⟨y0,y1⟩:=HX.out.1.at_ hj;have oj:=HX.out.2.1.cell (k:=j) (by rw [HR.out.1.len];exact hjl);have hks:=Ch.kidsN_succ P k j;have hls:=Ch.liveN_succ P on k j
      have hkd : Ch.kidP P k j = (pj == (k : Int) && qj != 5):=by unfold Ch.kidP;rw [hj]
      by_cases hpj : pj = (k : Int)
      ·subst hpj
       by_cases hqj : qj = 5
       ·subst hqj
        rw [hkd] at hks hls;simp at hks hls;have HS:=hid (And.intro hks hls);clear hks hls hkd hj
        go_wp2_with fail
        go_roundw
        case rel=>exact ⟨j + 1,by go_num,by omega,by omega,by rw [HS.out.1],by rw [HS.out.2],trivial⟩
        case measure=>simp [intOf];omega
       rw [hkd] at hks hls
       cases hoj : Ch.onAt on j with
       | false =>
         rw [hoj] at oj hls;simp [hqj] at hks hls;have HS:=hid (And.intro hks hls);clear hks hls hkd hj hoj
         go_wp2_with fail
         go_roundw
         case rel=>exact ⟨j + 1,by go_num,by omega,by omega,by rw [HS.out.1];go_num,by rw [HS.out.2],trivial⟩
         case measure=>simp [intOf];omega
       | true=>?_
       rw [hoj] at oj hls;simp [hqj] at hks hls;have HS:=hid (And.intro hks hls);clear hks hls hkd hj hoj
       go_wp2_with fail
       go_roundw
       case rel=>exact ⟨j + 1,by go_num,by omega,by omega,by rw [HS.out.1];go_num,by rw [HS.out.2];go_num,trivial⟩
       case measure=>simp [intOf];omega
      rw [hkd] at hks hls
      have e : (pj == (k : Int)) = false:=by simpa using hpj
      rw [e] at hks hls;simp at hks hls;have HS:=hid (And.intro hks hls);clear hks hls hkd hj e
      go_wp2_with fail
      go_roundw
      case rel=>exact ⟨j + 1,by go_num,by omega,by omega,by rw [HS.out.1],by rw [HS.out.2],trivial⟩
      case measure=>simp [intOf];omega
     have hjl' : ¬ (j : Int) < (P.length : Int):=by omega
     obtain rfl : j = P.length:=by omega
     cases hok : Ch.onAt on k with
     | false =>
       rw [hok] at ok
       go_wp2_with fail
       go_roundw
       case rel=>exact ⟨k + 1,by go_num,by omega,HX.out.2.2⟩
       case measure=>simp [intOf];omega
     | true=>?_
     rw [hok] at ok
     by_cases q2 : q = 2
     ·subst q2
      have:=HR.out.1.one k p HKP.out hok;rw [this]
      go_wp2_with fail
      go_roundw
      case rel=>exact ⟨k + 1,by go_num,by omega,HX.out.2.2⟩
      case measure=>simp [intOf];omega
     by_cases q3 : q = 3
     ·subst q3
      have:=HR.out.1.all k p HKP.out hok;rw [this];generalize Ch.kidsN P k P.length = nk at *
      go_wp2_with fail
      go_roundw
      case rel=>exact ⟨k + 1,by go_num,by omega,HX.out.2.2⟩
      case measure=>simp [intOf];omega
     go_wp2_with fail
     go_roundw
     case rel=>exact ⟨k + 1,by go_num,by omega,HX.out.2.2⟩
     case measure=>simp [intOf];omega
  have hlt' : ¬ (k : Int) < (P.length : Int):=by omega
  go_wp2;go_ret;exact ⟨rfl,KW⟩
end
end Go.Proofs.YtnlbchmfcebeeaaGreat
