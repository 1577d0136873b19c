import Derived.Test.YtnlbchmfcebeeaaGreatTC5
import Derived.BigQuiet
import Derived.Deep.QuietTactic
set_option maxHeartbeats 12800000
set_option maxRecDepth 100000
namespace Go.Proofs.YtnlbchmfcebeeaaGreat
open Go.RowKit
section
variable (w : World) (mb ob po : Nat) (s : Ch.Sd) (qv ov : Value) (ol : Ch.Ol)
theorem within_any (t other : Nat) (ht : t < ol.trs.length) (ho : other < ol.trs.length) (hm : MaB w mb ob po s qv ov) (hp : Pl w ob po ol) (hol : ol.Ok) :
 Calls Tryz.prog 178 #[.pointer (some ⟨mb,0,none⟩),.int .i64 t,.int .i64 other] w fun x w'=>x = .returned (.bool (Ch.within ol t other)) ∧ Kp (fun _=>False) w w':=by
 obtain ⟨a,ha⟩ : ∃ s,ol.trs[t]? = some s:=⟨_,List.getElem?_eq_getElem ht⟩
 obtain ⟨b,hb⟩ : ∃ s,ol.trs[other]? = some s:=⟨_,List.getElem?_eq_getElem ho⟩
 have ht' : (t : Int) < (ol.trs.length : Int):=by omega
 have ho' : (other : Int) < (ol.trs.length : Int):=by omega
 have cp:=hm.plan;obtain ⟨g,cap,ac,base,c3,cc,hac⟩:=hp.tr ha;obtain ⟨g',cap',ac',base',c3',cc',hac'⟩:=hp.tr hb;rw [c3] at c3';simp only [Option.some.injEq,Value.slice.injEq,true_and] at c3';have eg:=c3'.1;simp only [Addr.mk.injEq,and_true] at eg;subst eg;have a0:=cc 0 (by omega);have b0:=cc' 0 (by omega);simp only [List.getElem?_cons_zero,Nat.add_zero] at a0 b0;rw [show Ch.within ol t other = Ch.isAbove ol.sts b.state a.state by simp [Ch.within,Ch.stateOf,ha,hb]];have hl16:=hol.sts;have hU:=hol.up;have E:=hid (fun n : Nat=>isAbove_any ob po (w.drewN n) ol.sts b.state a.state hU (by exact hp.str) (by omega));clear cc cc' hac hac' ha hb hm hp c3' hol
 go_enter Tryz.func178,Tryz.ntmps178
 go_upto_region 1 with (fail)
 go_quiet ((go_at_call 218;exact Calls.quiet_of_same (Hid.out E _)))
 go_wp2;go_ret;exact ⟨rfl,(Kp.refl _ _).drewN _⟩
end
namespace Ch
def pickF (ss : List St) (child parent : Int) : List Int → Bool
 | []=>child == firstChild ss parent
 | g :: l=>if isAbove ss parent g then (child == g || isAbove ss child g) else pickF ss child parent l
end Ch
section
variable (w : World) (mb ob po : Nat) (s : Ch.Sd) (qv ov : Value) (ol : Ch.Ol)
theorem isPicked_any (child parent : Int) (v : Value) (goals : List Int) (h : InR w v goals) (hl : goals.length ≤ 100000) (hm : MaB w mb ob po s qv ov) (hp : Pl w ob po ol) (hol : ol.Ok) :
 Calls Tryz.prog 165 #[.pointer (some ⟨mb,0,none⟩),.int .i64 child,.int .i64 parent,v] w fun x w'=>x = .returned (.bool (Ch.pickF ol.sts child parent goals)) ∧ Kp (fun _=>False) w w':=by
 have hl16:=hol.sts;have hU:=hol.up;obtain ⟨ao,cap,rfl⟩:=h.len
 go_enter Tryz.func165,Tryz.ntmps165
 go_wp2_with fail
 go_loopw [9] (fun i wr=>∃ k : Nat,i = .int .i64 k ∧ k ≤ goals.length ∧ Hid (Ch.pickF ol.sts child parent goals = Ch.pickF ol.sts child parent (goals.drop k)) ∧ Kp (fun _=>False) w wr) (fun i _=>goals.length - (intOf i).toNat)
 case atStart=>exact ⟨0,rfl,Nat.zero_le _,hid rfl,Kp.refl _ _⟩
 case round =>
  obtain ⟨k,rfl,hk,HE,KW⟩:=hrel;have hmr : MaB wr mb ob po s qv ov:=SdB.keep hm KW (fun x=>x);have hpr : Pl wr ob po ol:=hp.keep KW (fun _ _ _ _ _ x=>x);have hr : InR wr (.slice ao goals.length cap) goals:=h.keep KW (fun _ _ _ x=>x);have cp:=hmr.plan
  by_cases hlt : k < goals.length
  ·have hlt' : (k : Int) < (goals.length : Int):=by omega
   obtain ⟨a,ha⟩ : ∃ s,goals[k]? = some s:=⟨_,List.getElem?_eq_getElem hlt⟩
   obtain ⟨g,cap',hg,a0⟩:=hr.at_ ha;simp only [Value.slice.injEq,true_and] at hg;obtain ⟨rfl,rfl⟩:=hg
   have ed : goals.drop k = a :: goals.drop (k + 1):=by
    rw [List.drop_eq_getElem_cons hlt];congr 1;exact (List.getElem?_eq_some_iff.1 ha).2
   have E1:=hid (fun n : Nat=>isAbove_any ob po (wr.drewN n) ol.sts parent a hU (by exact hpr.str) (by omega))
   cases q1 : Ch.isAbove ol.sts parent a with
   | false =>
     simp only [q1] at E1;have HF:=hid (HE.out.trans (show _ = Ch.pickF ol.sts child parent (goals.drop (k + 1)) by rw [ed];simp only [Ch.pickF];rw [q1];rfl));clear ed HE ha hr hmr hpr h
     go_upto_region 4 with (fail)
     go_quiet ((go_at_call 218;exact Calls.quiet_of_same (Hid.out E1 _)))
     go_wp2
     go_roundw
     case rel=>exact ⟨k + 1,by go_num,by omega,HF,KW.drewN _⟩
     case measure=>simp [intOf];omega
   | true=>?_
   simp only [q1] at E1
   have cp2 : ∀ n,(wr.drewN n).cell? ⟨mb,0,none⟩ = some (.pointer (some ⟨ob,po,none⟩)):=fun n=>cp
   have a02 : ∀ n,(wr.drewN n).cell? ⟨g,k,none⟩ = some (.int .i64 a):=fun n=>a0
   cases q2 : child == a with
   | true =>
     have HF:=hid (HE.out.trans (show _ = true by rw [ed];simp only [Ch.pickF];rw [q1,q2];rfl));clear ed HE ha hr hmr hpr h
     go_upto_region 4 with (fail)
     go_quiet ((go_at_call 218;exact Calls.quiet_of_same (Hid.out E1 _)))
     go_upto_region 5 with (fail)
     go_quiet (fail)
     go_wp2;go_ret;exact ⟨by rw [HF.out];rfl,(KW.drewN _).drewN _⟩
   | false=>?_
   have E2b:=hid (fun n : Nat=>isAbove_any ob po (wr.drewN n) ol.sts child a hU (by exact hpr.str) (by omega));have HF:=hid (HE.out.trans (show _ = Ch.isAbove ol.sts child a by rw [ed];simp only [Ch.pickF];rw [q1,q2];rfl));clear ed HE ha hr hmr hpr h
   go_upto_region 4 with (fail)
   go_quiet ((go_at_call 218;exact Calls.quiet_of_same (Hid.out E1 _)))
   go_upto_region 5 with (fail)
   go_quiet ((go_at_call 218;exact Calls.mono (Hid.out E2b _) (fun _ _ h=>⟨h.1,_,h.2⟩)))
   go_wp2;go_ret;exact ⟨by rw [HF.out];rfl,(KW.drewN _).drewN _⟩
  have hge : ¬ (k : Int) < (goals.length : Int):=by omega
  have HF:=hid (HE.out.trans (show _ = (child == Ch.firstChild ol.sts parent) by rw [List.drop_eq_nil_of_le (by omega)];rfl));have E3:=hid (firstChild_any ob po wr ol.sts parent hpr.str (by omega));clear HE hr hmr hpr h
  go_wp2_with fail
  refine cMo E3 ?_;rintro x w1 ⟨rfl,rfl⟩;go_wp2;go_ret;exact ⟨by rw [HF.out];rfl,KW⟩
end
namespace Ch
def isDue (ss : List St) (act stayed : List Bool) (goals : List Int) (i : Int) : Bool :=
 if has stayed i || !isChild ss i (parAt ss i) then false
 else if (parAt ss i != -1) && !has act (parAt ss i) then false
 else if kindAt ss (parAt ss i) == 3 then true
 else !kept ss stayed (parAt ss i) && pickF ss i (parAt ss i) goals
end Ch
section
variable (w : World) (mb ob po : Nat) (s : Ch.Sd) (qv ov : Value) (ol : Ch.Ol)
theorem isDue_any (i : Int) (sb : Nat) (l : List Bool) (v : Value) (goals : List Int) (hL : SeB w sb [] l [] 91) (h16 : l.length = 16) (h : InR w v goals) (hl : goals.length ≤ 100000) (hm : MaB w mb ob po s qv ov) (hw : s.Wf) (hp : Pl w ob po ol) (hol : ol.Ok) :
 Calls Tryz.prog 117 #[.pointer (some ⟨mb,0,none⟩),.int .i64 i,.pointer (some ⟨sb,0,none⟩),v] w fun x w'=>x = .returned (.bool (Ch.isDue ol.sts s.act l goals i)) ∧ Kp (fun _=>False) w w':=by
 have hl16:=hol.sts;have cp:=hm.plan;have E1:=hid (parent_any ob po w ol.sts i hp.str (by omega));have E2:=hid (has_any w sb 0 [] l [] 91 i hL h16 rfl);have E3:=hid (isChild_any ob po w ol.sts i (Ch.parAt ol.sts i) hp.str (by omega));have E4:=hid (has_any w mb 1 [.pointer (some ⟨ob,po,none⟩)] s.act (sdTail s ++ [qv,ov]) 149 (Ch.parAt ol.sts i) hm hw.1 rfl);have E5:=hid (kind_any ob po w ol.sts (Ch.parAt ol.sts i) hp.str (by omega));have E6:=hid (kept_any w mb ob po s qv ov ol sb 0 [] l [] 91 (Ch.parAt ol.sts i) hm hp (by omega) hL h16 rfl);have E7:=hid (isPicked_any w mb ob po s qv ov ol i (Ch.parAt ol.sts i) v goals h hl hm hp hol);clear hm hp hL h
 cases q1 : Ch.has l i with
 | true =>
   rw [q1] at E2;rw [show Ch.isDue ol.sts s.act l goals i = false by unfold Ch.isDue;simp [q1]]
   go_enter Tryz.func117,Tryz.ntmps117
   go_wp2_with fail
   refine cMo E1 ?_;rintro x w1 ⟨rfl,rfl⟩
   go_wp2_with fail
   refine cMo E2 ?_;rintro x w1 ⟨rfl,rfl⟩;go_wp2;go_ret;exact ⟨rfl,Kp.refl _ _⟩
 | false=>?_
 rw [q1] at E2
 cases q2 : Ch.isChild ol.sts i (Ch.parAt ol.sts i) with
 | true =>
   rw [q2] at E3
   cases q3 : (Ch.parAt ol.sts i) != -1 with
   | true =>
     cases q4 : Ch.has s.act (Ch.parAt ol.sts i) with
     | true =>
       rw [q4] at E4
       cases q5 : Ch.kindAt ol.sts (Ch.parAt ol.sts i) == 3 with
       | true =>
         rw [show Ch.isDue ol.sts s.act l goals i = true by unfold Ch.isDue;simp [q1,q2,q4,q5]]
         go_enter Tryz.func117,Tryz.ntmps117
         go_wp2_with fail
         refine cMo E1 ?_;rintro x w1 ⟨rfl,rfl⟩
         go_wp2_with fail
         refine cMo E2 ?_;rintro x w1 ⟨rfl,rfl⟩
         go_wp2_with fail
         refine cMo E3 ?_;rintro x w1 ⟨rfl,rfl⟩
         go_wp2_with fail
         refine cMo E4 ?_;rintro x w1 ⟨rfl,rfl⟩
         go_wp2_with fail
         refine cMo E5 ?_;rintro x w1 ⟨rfl,rfl⟩;go_wp2;go_ret;exact ⟨rfl,Kp.refl _ _⟩
       | false=>?_
       cases q6 : Ch.kept ol.sts l (Ch.parAt ol.sts i) with
       | true =>
         rw [q6] at E6;rw [show Ch.isDue ol.sts s.act l goals i = false by unfold Ch.isDue;simp [q1,q2,q4,q5,q6]]
         go_enter Tryz.func117,Tryz.ntmps117
         go_wp2_with fail
         refine cMo E1 ?_;rintro x w1 ⟨rfl,rfl⟩
         go_wp2_with fail
         refine cMo E2 ?_;rintro x w1 ⟨rfl,rfl⟩
         go_wp2_with fail
         refine cMo E3 ?_;rintro x w1 ⟨rfl,rfl⟩
         go_wp2_with fail
         refine cMo E4 ?_;rintro x w1 ⟨rfl,rfl⟩
         go_wp2_with fail
         refine cMo E5 ?_;rintro x w1 ⟨rfl,rfl⟩
         go_wp2_with fail
         refine cMo E6 ?_;rintro x w1 ⟨rfl,rfl⟩;go_wp2;go_ret;exact ⟨rfl,Kp.refl _ _⟩
       | false=>?_
       rw [q6] at E6;rw [show Ch.isDue ol.sts s.act l goals i = Ch.pickF ol.sts i (Ch.parAt ol.sts i) goals by unfold Ch.isDue;simp [q1,q2,q4,q5,q6]]
       go_enter Tryz.func117,Tryz.ntmps117
       go_wp2_with fail
       refine cMo E1 ?_;rintro x w1 ⟨rfl,rfl⟩
       go_wp2_with fail
       refine cMo E2 ?_;rintro x w1 ⟨rfl,rfl⟩
       go_wp2_with fail
       refine cMo E3 ?_;rintro x w1 ⟨rfl,rfl⟩
       go_wp2_with fail
       refine cMo E4 ?_;rintro x w1 ⟨rfl,rfl⟩
       go_wp2_with fail
       refine cMo E5 ?_;rintro x w1 ⟨rfl,rfl⟩
       go_wp2_with fail
       refine cMo E6 ?_;rintro x w1 ⟨rfl,rfl⟩
       go_wp2_with fail
       refine cMo E7 ?_;rintro x w7 ⟨rfl,K7⟩;go_wp2;go_ret;exact ⟨rfl,K7⟩
     | false=>?_
     rw [q4] at E4;rw [show Ch.isDue ol.sts s.act l goals i = false by unfold Ch.isDue;simp [q1,q2,q3,q4]]
     go_enter Tryz.func117,Tryz.ntmps117
     go_wp2_with fail
     refine cMo E1 ?_;rintro x w1 ⟨rfl,rfl⟩
     go_wp2_with fail
     refine cMo E2 ?_;rintro x w1 ⟨rfl,rfl⟩
     go_wp2_with fail
     refine cMo E3 ?_;rintro x w1 ⟨rfl,rfl⟩
     go_wp2_with fail
     refine cMo E4 ?_;rintro x w1 ⟨rfl,rfl⟩;go_wp2;go_ret;exact ⟨rfl,Kp.refl _ _⟩
   | false=>?_
   cases q5 : Ch.kindAt ol.sts (Ch.parAt ol.sts i) == 3 with
   | true =>
     rw [show Ch.isDue ol.sts s.act l goals i = true by unfold Ch.isDue;simp [q1,q2,q3,q5]]
     go_enter Tryz.func117,Tryz.ntmps117
     go_wp2_with fail
     refine cMo E1 ?_;rintro x w1 ⟨rfl,rfl⟩
     go_wp2_with fail
     refine cMo E2 ?_;rintro x w1 ⟨rfl,rfl⟩
     go_wp2_with fail
     refine cMo E3 ?_;rintro x w1 ⟨rfl,rfl⟩
     go_wp2_with fail
     refine cMo E5 ?_;rintro x w1 ⟨rfl,rfl⟩;go_wp2;go_ret;exact ⟨rfl,Kp.refl _ _⟩
   | false=>?_
   cases q6 : Ch.kept ol.sts l (Ch.parAt ol.sts i) with
   | true =>
     rw [q6] at E6;rw [show Ch.isDue ol.sts s.act l goals i = false by unfold Ch.isDue;simp [q1,q2,q3,q5,q6]]
     go_enter Tryz.func117,Tryz.ntmps117
     go_wp2_with fail
     refine cMo E1 ?_;rintro x w1 ⟨rfl,rfl⟩
     go_wp2_with fail
     refine cMo E2 ?_;rintro x w1 ⟨rfl,rfl⟩
     go_wp2_with fail
     refine cMo E3 ?_;rintro x w1 ⟨rfl,rfl⟩
     go_wp2_with fail
     refine cMo E5 ?_;rintro x w1 ⟨rfl,rfl⟩
     go_wp2_with fail
     refine cMo E6 ?_;rintro x w1 ⟨rfl,rfl⟩;go_wp2;go_ret;exact ⟨rfl,Kp.refl _ _⟩
   | false=>?_
   rw [q6] at E6;rw [show Ch.isDue ol.sts s.act l goals i = Ch.pickF ol.sts i (Ch.parAt ol.sts i) goals by unfold Ch.isDue;simp [q1,q2,q3,q5,q6]]
   go_enter Tryz.func117,Tryz.ntmps117
   go_wp2_with fail
   refine cMo E1 ?_;rintro x w1 ⟨rfl,rfl⟩
   go_wp2_with fail
   refine cMo E2 ?_;rintro x w1 ⟨rfl,rfl⟩
   go_wp2_with fail
   refine cMo E3 ?_;rintro x w1 ⟨rfl,rfl⟩
   go_wp2_with fail
   refine cMo E5 ?_;rintro x w1 ⟨rfl,rfl⟩
   go_wp2_with fail
   refine cMo E6 ?_;rintro x w1 ⟨rfl,rfl⟩
   go_wp2_with fail
   refine cMo E7 ?_;rintro x w7 ⟨rfl,K7⟩;go_wp2;go_ret;exact ⟨rfl,K7⟩
 | false=>?_
 rw [q2] at E3;rw [show Ch.isDue ol.sts s.act l goals i = false by unfold Ch.isDue;simp [q1,q2]]
 go_enter Tryz.func117,Tryz.ntmps117
 go_wp2_with fail
 refine cMo E1 ?_;rintro x w1 ⟨rfl,rfl⟩
 go_wp2_with fail
 refine cMo E2 ?_;rintro x w1 ⟨rfl,rfl⟩
 go_wp2_with fail
 refine cMo E3 ?_;rintro x w1 ⟨rfl,rfl⟩;go_wp2;go_ret;exact ⟨rfl,Kp.refl _ _⟩
end
namespace Ch
def goalsF (ol : Ol) (s : Sd) : List Int → List Int
 | []=>[]
 | t :: l=>match ol.trs[t.toNat]? with
   | some x=>if x.target == 45 then goalsF ol s l else goal ol.sts s (place ol.sts x.target) :: goalsF ol s l
   | none=>goalsF ol s l
def InT (ol : Ol) (l : List Int) : Prop:=∀ n ∈ l,0 ≤ n ∧ n < (ol.trs.length : Int)
end Ch
section
variable (w : World) (mb ob po : Nat) (s : Ch.Sd) (qv ov : Value) (ol : Ch.Ol)
theorem goals_any (v : Value) (list : List Int) (h : InR w v list) (hin : Ch.InT ol list) (hl : list.length ≤ 1000) (hm : MaB w mb ob po s qv ov) (hw : s.Wf) (hp : Pl w ob po ol) (hol : ol.Ok) :
 Calls Tryz.prog 116 #[.pointer (some ⟨mb,0,none⟩),v] w fun x w'=>∃ v',x = .returned v' ∧ w'.ownsRow w.heap.size 3 1 v' (Ch.goalsF ol s list).length (inCells (Ch.goalsF ol s list)) ∧ Kp (fun _=>False) w w':=by
 have hl16:=hol.sts;obtain ⟨i0,hi,hz0,hz1,hz2⟩:=info_parts Tryz.infoInt;obtain ⟨ao,cap,rfl⟩:=h.len
 go_enter Tryz.func116,Tryz.ntmps116
 go_wp2_with fail
 go_loopw [5,6] (fun fv i wr=>∃ (k : Nat) (fl : List Int),i = .int .i64 k ∧ k ≤ list.length ∧ wr.ownsRow w.heap.size 3 1 fv fl.length (inCells fl) ∧ fl.length ≤ k ∧ Hid (Ch.goalsF ol s list = fl ++ Ch.goalsF ol s (list.drop k)) ∧ Kp (fun _=>False) w wr) (fun _ i _=>list.length - (intOf i).toNat)
 case atStart=>exact ⟨0,[],rfl,Nat.zero_le _,World.ownsRow_nil _ _ _ _,Nat.le_refl _,hid rfl,Kp.refl _ _⟩
 case round =>
  obtain ⟨k,fl,rfl,hk,hfo,hfl,HE,KW⟩:=hrel;have hmr : MaB wr mb ob po s qv ov:=SdB.keep hm KW (fun x=>x);have hpr : Pl wr ob po ol:=hp.keep KW (fun _ _ _ _ _ x=>x);have hr : InR wr (.slice ao list.length cap) list:=h.keep KW (fun _ _ _ x=>x);have cp:=hmr.plan
  by_cases hlt : k < list.length
  ·have hlt' : (k : Int) < (list.length : Int):=by omega
   obtain ⟨a,ha⟩ : ∃ s,list[k]? = some s:=⟨_,List.getElem?_eq_getElem hlt⟩
   obtain ⟨g,cap',hg,a0⟩:=hr.at_ ha;simp only [Value.slice.injEq,true_and] at hg;obtain ⟨rfl,rfl⟩:=hg
   have ed : list.drop k = a :: list.drop (k + 1):=by
    rw [List.drop_eq_getElem_cons hlt];congr 1;exact (List.getElem?_eq_some_iff.1 ha).2
   obtain ⟨ha1,ha2⟩:=hin a (List.mem_of_getElem? ha)
   obtain ⟨j,rfl⟩ : ∃ j : Nat,a = j:=⟨a.toNat,by omega⟩
   have hj : j < ol.trs.length:=by omega
   obtain ⟨t,ht⟩ : ∃ s,ol.trs[j]? = some s:=⟨_,List.getElem?_eq_getElem hj⟩
   obtain ⟨tg,tcap,ac,base,c3,cc,_⟩:=hpr.tr ht;have b6:=cc 6 (by omega);simp only [List.getElem?_cons_succ,List.getElem?_cons_zero] at b6
   have step : Ch.goalsF ol s (list.drop k) = if t.target == 45 then Ch.goalsF ol s (list.drop (k + 1)) else Ch.goal ol.sts s (Ch.place ol.sts t.target) :: Ch.goalsF ol s (list.drop (k + 1)):=by
    rw [ed];simp only [Ch.goalsF,Int.toNat_natCast,ht]
   cases q1 : t.target == 45 with
   | true =>
     have HF:=hid (show Ch.goalsF ol s list = fl ++ Ch.goalsF ol s (list.drop (k + 1)) by rw [HE.out,step,q1];rfl);clear HE step ed ha ht cc hr hmr hpr h
     go_upto_region 5 with (fail)
     go_quiet (fail)
     go_wp2
     go_roundw
     case rel=>exact ⟨k + 1,fl,by go_num,by omega,hfo,by omega,HF,KW.drewN _⟩
     case measure=>simp [intOf];omega
   | false=>?_
   have HF:=hid (show Ch.goalsF ol s list = (fl ++ [Ch.goal ol.sts s (Ch.place ol.sts t.target)]) ++ Ch.goalsF ol s (list.drop (k + 1)) by rw [HE.out,step,q1];simp);have HX:=hid (And.intro hmr (And.intro hpr hfo));clear HE step ed ha ht cc hr hmr hpr h hfo
   go_upto_region 5 with (fail)
   go_quiet (fail)
   have KD:=KW.drewN nq
   obtain ⟨hmr,hpr,hfo⟩ : MaB (wr.drewN nq) mb ob po s qv ov ∧ Pl (wr.drewN nq) ob po ol ∧ (wr.drewN nq).ownsRow w.heap.size 3 1 u5 fl.length (inCells fl):=⟨HX.out.1,HX.out.2.1.keep ((Kp.refl (fun _=>False) _).drewN nq) (fun _ _ _ _ _ x=>x),HX.out.2.2⟩
   generalize wr.drewN nq = w5 at *;have cp5:=hmr.plan;have E1:=hid (place_any ob po w5 ol.sts t.target hpr.str (by omega));have E2:=hid (fun n : Nat=>goal_any ob po (w5.drewN n) ol.sts mb 1 [.pointer (some ⟨ob,po,none⟩)] [qv,ov] 149 s (Ch.place ol.sts t.target) (by exact hpr.str) (by omega) (by exact hmr) hw rfl);clear HX hmr hpr cp c3 b6 a0 KW
   go_wp2_with fail
   refine cMo E1 ?_;rintro x w6 ⟨rfl,rfl⟩
   go_upto_region 8 with (fail)
   go_quiet ((go_at_call 160;exact Calls.quiet_of_same (Hid.out E2 _)))
   have KE:=KD.drewN nq;have hfo7 : (w6.drewN nq).ownsRow w.heap.size 3 1 u5 fl.length (inCells fl):=hfo;generalize w6.drewN nq = w7 at *
   go_wp2_with (at_builtin;refine wpList_append_own _ rfl (.tmp 47) (.tmp 49) 38 rfl w.heap.size 3 i0 (.int .i64 0) 1 8 Tryz.underlying38 hi hz0 hz1 hz2 rfl (by decide) _ _ _ rfl (hfo7.alloc _) ⟨w7.heap.size,0,none⟩ 1 1 [.int .i64 (Ch.goal ol.sts s (Ch.place ol.sts t.target))] rfl rfl ?c1 ?c2 ?c3 ?c4 ?c5 ?_)
   case c1=>exact cell1_new _ _ _
   case c2=>intro u hu;simp at hu;subst hu;rfl
   case c3=>unfold maxLen;omega
   case c4=>omega
   case c5=>have:=KE.size;simp;omega
   intro v4 w8 o4 g4 _;have K4 : Kp (fun _=>False) w w8:=Kp.grown (KE.alloc _) g4 (fun i hi hlt=>by have:=(hfo7.lt i hi).1;omega);clear g4 KE hfo7;go_wp2
   go_roundw
   case rel=>exact ⟨k + 1,_,by go_num,by omega,by simpa [inCells] using o4,by simp;omega,HF,K4⟩
   case measure=>simp [intOf];omega
  have hge : ¬ (k : Int) < (list.length : Int):=by omega
  have HF:=hid (HE.out.trans (show _ = fl by rw [List.drop_eq_nil_of_le (by omega)];simp [Ch.goalsF]));clear HE hr hpr hmr
  go_wp2_with fail
  go_ret;rw [HF.out];exact ⟨_,rfl,hfo,KW⟩
end
end Go.Proofs.YtnlbchmfcebeeaaGreat
