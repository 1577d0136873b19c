import Derived.Test.YtnlbchmfcebeeaaGreatTC5
set_option maxHeartbeats 12800000
set_option maxRecDepth 100000
namespace Go.Proofs.YtnlbchmfcebeeaaGreat
open Go.Proofs.Tryz Ch
open Go.RowKit
section
variable (w : World) (mb ob po : Nat) (s : Sd) (qv ov : Value) (ol : Ol)
theorem zQ (t other : Nat) (ht : t < ol.bH.length) (ho : other < ol.bH.length) (hm : eF w mb ob po s qv ov) (hp : Pl w ob po ol) (hol : ol.Ok) :
 Calls prog 178 #[.pointer (some ⟨mb,0,none⟩),.int .i64 t,.int .i64 other] w fun x w'=>x = .returned (.bool (Ch.within ol t other)) /\ Kp (fun _=>False) w w':=by
 obtain ⟨a,ha⟩ : ∃ s,ol.bH[t]? = some s:=⟨_,List.getElem?_eq_getElem ht⟩
 obtain ⟨b,hb⟩ : ∃ s,ol.bH[other]? = some s:=⟨_,List.getElem?_eq_getElem ho⟩
 have ht' : (t : Int) < (ol.bH.length : Int):=by omega
 have ho' : (other : Int) < (ol.bH.length : Int):=by omega
 have cp:=hm.plan;obtain ⟨g,cap,ac,base,c3,cc,hac⟩:=hp.tr ha;obtain ⟨g',cap',VY,base',c3',cc',P1⟩:=hp.tr hb;rw [c3] at c3';simp only [Option.some.injEq,Value.slice.injEq,true_and] at c3';have eg:=c3'.1;simp only [Addr.mk.injEq,and_true] at eg;subst eg;have a0:=cc 0 (by omega);have b0:=cc' 0 (by omega);simp only [List.getElem?_cons_zero,Nat.add_zero] at a0 b0;rw [show Ch.within ol t other = an ol.ag b.state a.state by simp [Ch.within,vH,ha,hb]];have mE:=hol.ag;have hU:=hol.up;have E:=hid (fun n : Nat=>gX ob po (w.drewN n) ol.ag b.state a.state hU (by exact hp.str) (by omega));clear cc cc' hac P1 ha hb hm hp c3' hol
 go_enter func178,ntmps178
 go_upto_region 1 with (fail)
 go_quiet ((go_at_call 218;exact Calls.quiet_of_same (Hid.out E _)))
 go_wp2;go_ret;exact ⟨rfl,(Kp.refl _ _).drewN _⟩
end
namespace Ch
def gn (ss : List St) (child parent : Int) : List Int -> Bool
 | []=>child == b9 ss parent
 | g :: l=>if an ss parent g then (child == g || an ss child g) else gn ss child parent l
end Ch
section
variable (w : World) (mb ob po : Nat) (s : Sd) (qv ov : Value) (ol : Ol)
theorem vK (child parent : Int) (v : Value) (goals : List Int) (h : kI w v goals) (hl : goals.length <= 100000) (hm : eF w mb ob po s qv ov) (hp : Pl w ob po ol) (hol : ol.Ok) :
 Calls prog 165 #[.pointer (some ⟨mb,0,none⟩),.int .i64 child,.int .i64 parent,v] w fun x w'=>x = .returned (.bool (gn ol.ag child parent goals)) /\ Kp (fun _=>False) w w':=by
 have mE:=hol.ag;have hU:=hol.up;obtain ⟨ao,cap,rfl⟩:=h.len
 go_enter func165,ntmps165
 go_wp2_with fail
 go_loopw [9] (fun i wr=>∃ k : Nat,i = .int .i64 k /\ k <= goals.length /\ Hid (gn ol.ag child parent goals = gn ol.ag child parent (goals.drop k)) /\ Kp (fun _=>False) w wr) (fun i _=>goals.length - (intOf i).toNat)
 case atStart=>exact ⟨0,rfl,Nat.zero_le _,hid rfl,Kp.refl _ _⟩
 case round =>
  obtain ⟨k,rfl,hk,HE,KW⟩:=hrel;have hmr : eF wr mb ob po s qv ov:=bM.keep hm KW (fun x=>x);have hpr : Pl wr ob po ol:=hp.keep KW (fun _ _ _ _ _ x=>x);have hr : kI wr (.slice ao goals.length cap) goals:=h.keep KW (fun _ _ _ x=>x);have cp:=hmr.plan
  by_cases hlt : k < goals.length
  ·have hlt' : (k : Int) < (goals.length : Int):=by omega
   obtain ⟨a,ha⟩ : ∃ s,goals[k]? = some s:=⟨_,List.getElem?_eq_getElem hlt⟩
   obtain ⟨g,cap',hg,a0⟩:=hr.at_ ha;simp only [Value.slice.injEq,true_and] at hg;obtain ⟨rfl,rfl⟩:=hg
   have ed : goals.drop k = a :: goals.drop (k + 1):=by
    rw [List.drop_eq_getElem_cons hlt];congr 1;exact (List.getElem?_eq_some_iff.1 ha).2
   have E1:=hid (fun n : Nat=>gX ob po (wr.drewN n) ol.ag parent a hU (by exact hpr.str) (by omega))
   cases q1 : an ol.ag parent a with
   | false =>
     simp only [q1] at E1;have HF:=hid (HE.out.trans (show _ = gn ol.ag child parent (goals.drop (k + 1)) by rw [ed];simp only [gn];rw [q1];rfl));clear ed HE ha hr hmr hpr h
     go_upto_region 4 with (fail)
     go_quiet ((go_at_call 218;exact Calls.quiet_of_same (Hid.out E1 _)))
     go_wp2
     go_roundw
     case rel=>exact ⟨k + 1,by go_num,by omega,HF,KW.drewN _⟩
     case measure=>simp [intOf];omega
   | true=>?_
   simp only [q1] at E1
   have cp2 : ∀ n,(wr.drewN n).cell? ⟨mb,0,none⟩ = some (.pointer (some ⟨ob,po,none⟩)):=fun n=>cp
   have VZ : ∀ n,(wr.drewN n).cell? ⟨g,k,none⟩ = some (.int .i64 a):=fun n=>a0
   cases q2 : child == a with
   | true =>
     have HF:=hid (HE.out.trans (show _ = true by rw [ed];simp only [gn];rw [q1,q2];rfl));clear ed HE ha hr hmr hpr h
     go_upto_region 4 with (fail)
     go_quiet ((go_at_call 218;exact Calls.quiet_of_same (Hid.out E1 _)))
     go_upto_region 5 with (fail)
     go_quiet (fail)
     go_wp2;go_ret;exact ⟨by rw [HF.out];rfl,(KW.drewN _).drewN _⟩
   | false=>?_
   have Ud:=hid (fun n : Nat=>gX ob po (wr.drewN n) ol.ag child a hU (by exact hpr.str) (by omega));have HF:=hid (HE.out.trans (show _ = an ol.ag child a by rw [ed];simp only [gn];rw [q1,q2];rfl));clear ed HE ha hr hmr hpr h
   go_upto_region 4 with (fail)
   go_quiet ((go_at_call 218;exact Calls.quiet_of_same (Hid.out E1 _)))
   go_upto_region 5 with (fail)
   go_quiet ((go_at_call 218;exact Calls.mono (Hid.out Ud _) (fun _ _ h=>⟨h.1,_,h.2⟩)))
   go_wp2;go_ret;exact ⟨by rw [HF.out];rfl,(KW.drewN _).drewN _⟩
  have hge : ¬ (k : Int) < (goals.length : Int):=by omega
  have HF:=hid (HE.out.trans (show _ = (child == b9 ol.ag parent) by rw [List.drop_eq_nil_of_le (by omega)];rfl));have E3:=hid (iI ob po wr ol.ag parent hpr.str (by omega));clear HE hr hmr hpr h
  go_wp2_with fail
  refine br E3 ?_;rintro x w1 ⟨rfl,rfl⟩;go_wp2;go_ret;exact ⟨by rw [HF.out];rfl,KW⟩
end
namespace Ch
def eM (ss : List St) (act aP : List Bool) (goals : List Int) (i : Int) : Bool :=
 if has aP i || !aw ss i (aq ss i) then false
 else if (aq ss i != -1) && !has act (aq ss i) then false
 else if ay ss (aq ss i) == 3 then true
 else !kept ss aP (aq ss i) && gn ss i (aq ss i) goals
end Ch
section
variable (w : World) (mb ob po : Nat) (s : Sd) (qv ov : Value) (ol : Ol)
theorem CN (i : Int) (sb : Nat) (l : List Bool) (v : Value) (goals : List Int) (hL : fj w sb [] l [] 91) (h16 : l.length = 16) (h : kI w v goals) (hl : goals.length <= 100000) (hm : eF w mb ob po s qv ov) (hw : s.Wf) (hp : Pl w ob po ol) (hol : ol.Ok) :
 Calls prog 117 #[.pointer (some ⟨mb,0,none⟩),.int .i64 i,.pointer (some ⟨sb,0,none⟩),v] w fun x w'=>x = .returned (.bool (eM ol.ag s.act l goals i)) /\ Kp (fun _=>False) w w':=by
 have mE:=hol.ag;have cp:=hm.plan;have E1:=hid (c8 ob po w ol.ag i hp.str (by omega));have E2:=hid (fk w sb 0 [] l [] 91 i hL h16 rfl);have E3:=hid (eX ob po w ol.ag i (aq ol.ag i) hp.str (by omega));have E4:=hid (fk w mb 1 [.pointer (some ⟨ob,po,none⟩)] s.act (bg s ++ [qv,ov]) 149 (aq ol.ag i) hm hw.1 rfl);have E5:=hid (gf ob po w ol.ag (aq ol.ag i) hp.str (by omega));have E6:=hid (E_ w mb ob po s qv ov ol sb 0 [] l [] 91 (aq ol.ag i) hm hp (by omega) hL h16 rfl);have E7:=hid (vK w mb ob po s qv ov ol i (aq ol.ag i) v goals h hl hm hp hol);clear hm hp hL h
 cases q1 : Ch.has l i with
 | true =>
   rw [q1] at E2;rw [show eM ol.ag s.act l goals i = false by unfold eM;simp [q1]]
   go_enter func117,ntmps117
   go_wp2_with fail
   refine br E1 ?_;rintro x w1 ⟨rfl,rfl⟩
   go_wp2_with fail
   refine br E2 ?_;rintro x w1 ⟨rfl,rfl⟩;go_wp2;go_ret;exact ⟨rfl,Kp.refl _ _⟩
 | false=>?_
 rw [q1] at E2
 cases q2 : aw ol.ag i (aq ol.ag i) with
 | true =>
   rw [q2] at E3
   cases q3 : (aq ol.ag i) != -1 with
   | true =>
     cases q4 : Ch.has s.act (aq ol.ag i) with
     | true =>
       rw [q4] at E4
       cases q5 : ay ol.ag (aq ol.ag i) == 3 with
       | true =>
         rw [show eM ol.ag s.act l goals i = true by unfold eM;simp [q1,q2,q4,q5]]
         go_enter func117,ntmps117
         go_wp2_with fail
         refine br E1 ?_;rintro x w1 ⟨rfl,rfl⟩
         go_wp2_with fail
         refine br E2 ?_;rintro x w1 ⟨rfl,rfl⟩
         go_wp2_with fail
         refine br E3 ?_;rintro x w1 ⟨rfl,rfl⟩
         go_wp2_with fail
         refine br E4 ?_;rintro x w1 ⟨rfl,rfl⟩
         go_wp2_with fail
         refine br E5 ?_;rintro x w1 ⟨rfl,rfl⟩;go_wp2;go_ret;exact ⟨rfl,Kp.refl _ _⟩
       | false=>?_
       cases q6 : Ch.kept ol.ag l (aq ol.ag i) with
       | true =>
         rw [q6] at E6;rw [show eM ol.ag s.act l goals i = false by unfold eM;simp [q1,q2,q4,q5,q6]]
         go_enter func117,ntmps117
         go_wp2_with fail
         refine br E1 ?_;rintro x w1 ⟨rfl,rfl⟩
         go_wp2_with fail
         refine br E2 ?_;rintro x w1 ⟨rfl,rfl⟩
         go_wp2_with fail
         refine br E3 ?_;rintro x w1 ⟨rfl,rfl⟩
         go_wp2_with fail
         refine br E4 ?_;rintro x w1 ⟨rfl,rfl⟩
         go_wp2_with fail
         refine br E5 ?_;rintro x w1 ⟨rfl,rfl⟩
         go_wp2_with fail
         refine br E6 ?_;rintro x w1 ⟨rfl,rfl⟩;go_wp2;go_ret;exact ⟨rfl,Kp.refl _ _⟩
       | false=>?_
       rw [q6] at E6;rw [show eM ol.ag s.act l goals i = gn ol.ag i (aq ol.ag i) goals by unfold eM;simp [q1,q2,q4,q5,q6]]
       go_enter func117,ntmps117
       go_wp2_with fail
       refine br E1 ?_;rintro x w1 ⟨rfl,rfl⟩
       go_wp2_with fail
       refine br E2 ?_;rintro x w1 ⟨rfl,rfl⟩
       go_wp2_with fail
       refine br E3 ?_;rintro x w1 ⟨rfl,rfl⟩
       go_wp2_with fail
       refine br E4 ?_;rintro x w1 ⟨rfl,rfl⟩
       go_wp2_with fail
       refine br E5 ?_;rintro x w1 ⟨rfl,rfl⟩
       go_wp2_with fail
       refine br E6 ?_;rintro x w1 ⟨rfl,rfl⟩
       go_wp2_with fail
       refine br E7 ?_;rintro x w7 ⟨rfl,K7⟩;go_wp2;go_ret;exact ⟨rfl,K7⟩
     | false=>?_
     rw [q4] at E4;rw [show eM ol.ag s.act l goals i = false by unfold eM;simp [q1,q2,q3,q4]]
     go_enter func117,ntmps117
     go_wp2_with fail
     refine br E1 ?_;rintro x w1 ⟨rfl,rfl⟩
     go_wp2_with fail
     refine br E2 ?_;rintro x w1 ⟨rfl,rfl⟩
     go_wp2_with fail
     refine br E3 ?_;rintro x w1 ⟨rfl,rfl⟩
     go_wp2_with fail
     refine br E4 ?_;rintro x w1 ⟨rfl,rfl⟩;go_wp2;go_ret;exact ⟨rfl,Kp.refl _ _⟩
   | false=>?_
   cases q5 : ay ol.ag (aq ol.ag i) == 3 with
   | true =>
     rw [show eM ol.ag s.act l goals i = true by unfold eM;simp [q1,q2,q3,q5]]
     go_enter func117,ntmps117
     go_wp2_with fail
     refine br E1 ?_;rintro x w1 ⟨rfl,rfl⟩
     go_wp2_with fail
     refine br E2 ?_;rintro x w1 ⟨rfl,rfl⟩
     go_wp2_with fail
     refine br E3 ?_;rintro x w1 ⟨rfl,rfl⟩
     go_wp2_with fail
     refine br E5 ?_;rintro x w1 ⟨rfl,rfl⟩;go_wp2;go_ret;exact ⟨rfl,Kp.refl _ _⟩
   | false=>?_
   cases q6 : Ch.kept ol.ag l (aq ol.ag i) with
   | true =>
     rw [q6] at E6;rw [show eM ol.ag s.act l goals i = false by unfold eM;simp [q1,q2,q3,q5,q6]]
     go_enter func117,ntmps117
     go_wp2_with fail
     refine br E1 ?_;rintro x w1 ⟨rfl,rfl⟩
     go_wp2_with fail
     refine br E2 ?_;rintro x w1 ⟨rfl,rfl⟩
     go_wp2_with fail
     refine br E3 ?_;rintro x w1 ⟨rfl,rfl⟩
     go_wp2_with fail
     refine br E5 ?_;rintro x w1 ⟨rfl,rfl⟩
     go_wp2_with fail
     refine br E6 ?_;rintro x w1 ⟨rfl,rfl⟩;go_wp2;go_ret;exact ⟨rfl,Kp.refl _ _⟩
   | false=>?_
   rw [q6] at E6;rw [show eM ol.ag s.act l goals i = gn ol.ag i (aq ol.ag i) goals by unfold eM;simp [q1,q2,q3,q5,q6]]
   go_enter func117,ntmps117
   go_wp2_with fail
   refine br E1 ?_;rintro x w1 ⟨rfl,rfl⟩
   go_wp2_with fail
   refine br E2 ?_;rintro x w1 ⟨rfl,rfl⟩
   go_wp2_with fail
   refine br E3 ?_;rintro x w1 ⟨rfl,rfl⟩
   go_wp2_with fail
   refine br E5 ?_;rintro x w1 ⟨rfl,rfl⟩
   go_wp2_with fail
   refine br E6 ?_;rintro x w1 ⟨rfl,rfl⟩
   go_wp2_with fail
   refine br E7 ?_;rintro x w7 ⟨rfl,K7⟩;go_wp2;go_ret;exact ⟨rfl,K7⟩
 | false=>?_
 rw [q2] at E3;rw [show eM ol.ag s.act l goals i = false by unfold eM;simp [q1,q2]]
 go_enter func117,ntmps117
 go_wp2_with fail
 refine br E1 ?_;rintro x w1 ⟨rfl,rfl⟩
 go_wp2_with fail
 refine br E2 ?_;rintro x w1 ⟨rfl,rfl⟩
 go_wp2_with fail
 refine br E3 ?_;rintro x w1 ⟨rfl,rfl⟩;go_wp2;go_ret;exact ⟨rfl,Kp.refl _ _⟩
end
namespace Ch
def bI (ol : Ol) (s : Sd) : List Int -> List Int
 | []=>[]
 | t :: l=>match ol.bH[t.toNat]? with
   | some x=>if x.target == 45 then bI ol s l else goal ol.ag s (place ol.ag x.target) :: bI ol s l
   | none=>bI ol s l
def InT (ol : Ol) (l : List Int) : Prop:=∀ n ∈ l,0 <= n /\ n < (ol.bH.length : Int)
end Ch
section
variable (w : World) (mb ob po : Nat) (s : Sd) (qv ov : Value) (ol : Ol)
theorem CO (v : Value) (list : List Int) (h : kI w v list) (hin : InT ol list) (hl : list.length <= 1000) (hm : eF w mb ob po s qv ov) (hw : s.Wf) (hp : Pl w ob po ol) (hol : ol.Ok) :
 Calls prog 116 #[.pointer (some ⟨mb,0,none⟩),v] w fun x w'=>∃ v',x = .returned v' /\ w'.ownsRow w.heap.size 3 1 v' (bI ol s list).length (bK (bI ol s list)) /\ Kp (fun _=>False) w w':=by
 have mE:=hol.ag;obtain ⟨i0,hi,hz0,hz1,hz2⟩:=info_parts nJ;obtain ⟨ao,cap,rfl⟩:=h.len
 go_enter func116,ntmps116
 go_wp2_with fail
 go_loopw [5,6] (fun fv i wr=>∃ (k : Nat) (fl : List Int),i = .int .i64 k /\ k <= list.length /\ wr.ownsRow w.heap.size 3 1 fv fl.length (bK fl) /\ fl.length <= k /\ Hid (bI ol s list = fl ++ bI ol s (list.drop k)) /\ Kp (fun _=>False) w wr) (fun _ i _=>list.length - (intOf i).toNat)
 case atStart=>exact ⟨0,[],rfl,Nat.zero_le _,World.ownsRow_nil _ _ _ _,Nat.le_refl _,hid rfl,Kp.refl _ _⟩
 case round =>
  obtain ⟨k,fl,rfl,hk,hfo,hfl,HE,KW⟩:=hrel;have hmr : eF wr mb ob po s qv ov:=bM.keep hm KW (fun x=>x);have hpr : Pl wr ob po ol:=hp.keep KW (fun _ _ _ _ _ x=>x);have hr : kI wr (.slice ao list.length cap) list:=h.keep KW (fun _ _ _ x=>x);have cp:=hmr.plan
  by_cases hlt : k < list.length
  ·have hlt' : (k : Int) < (list.length : Int):=by omega
   obtain ⟨a,ha⟩ : ∃ s,list[k]? = some s:=⟨_,List.getElem?_eq_getElem hlt⟩
   obtain ⟨g,cap',hg,a0⟩:=hr.at_ ha;simp only [Value.slice.injEq,true_and] at hg;obtain ⟨rfl,rfl⟩:=hg
   have ed : list.drop k = a :: list.drop (k + 1):=by
    rw [List.drop_eq_getElem_cons hlt];congr 1;exact (List.getElem?_eq_some_iff.1 ha).2
   obtain ⟨ha1,ha2⟩:=hin a (List.mem_of_getElem? ha)
   obtain ⟨j,rfl⟩ : ∃ j : Nat,a = j:=⟨a.toNat,by omega⟩
   have hj : j < ol.bH.length:=by omega
   obtain ⟨t,ht⟩ : ∃ s,ol.bH[j]? = some s:=⟨_,List.getElem?_eq_getElem hj⟩
   obtain ⟨tg,MQ,ac,base,c3,cc,_⟩:=hpr.tr ht;have b6:=cc 6 (by omega);simp only [List.getElem?_cons_succ,List.getElem?_cons_zero] at b6
   have step : bI ol s (list.drop k) = if t.target == 45 then bI ol s (list.drop (k + 1)) else Ch.goal ol.ag s (Ch.place ol.ag t.target) :: bI ol s (list.drop (k + 1)):=by
    rw [ed];simp only [bI,Int.toNat_natCast,ht]
   cases q1 : t.target == 45 with
   | true =>
     have HF:=hid (show bI ol s list = fl ++ bI ol s (list.drop (k + 1)) by rw [HE.out,step,q1];rfl);clear HE step ed ha ht cc hr hmr hpr h
     go_upto_region 5 with (fail)
     go_quiet (fail)
     go_wp2
     go_roundw
     case rel=>exact ⟨k + 1,fl,by go_num,by omega,hfo,by omega,HF,KW.drewN _⟩
     case measure=>simp [intOf];omega
   | false=>?_
   have HF:=hid (show bI ol s list = (fl ++ [Ch.goal ol.ag s (Ch.place ol.ag t.target)]) ++ bI ol s (list.drop (k + 1)) by rw [HE.out,step,q1];simp);have HX:=hid (ae hmr (ae hpr hfo));clear HE step ed ha ht cc hr hmr hpr h hfo
   go_upto_region 5 with (fail)
   go_quiet (fail)
   have KD:=KW.drewN nq
   obtain ⟨hmr,hpr,hfo⟩ : eF (wr.drewN nq) mb ob po s qv ov /\ Pl (wr.drewN nq) ob po ol /\ (wr.drewN nq).ownsRow w.heap.size 3 1 u5 fl.length (bK fl):=⟨HX.out.1,HX.out.2.1.keep ((Kp.refl (fun _=>False) _).drewN nq) (fun _ _ _ _ _ x=>x),HX.out.2.2⟩
   generalize wr.drewN nq = w5 at *;have V0:=hmr.plan;have E1:=hid (gF ob po w5 ol.ag t.target hpr.str (by omega));have E2:=hid (fun n : Nat=>En ob po (w5.drewN n) ol.ag mb 1 [.pointer (some ⟨ob,po,none⟩)] [qv,ov] 149 s (Ch.place ol.ag t.target) (by exact hpr.str) (by omega) (by exact hmr) hw rfl);clear HX hmr hpr cp c3 b6 a0 KW
   go_wp2_with fail
   refine br E1 ?_;rintro x w6 ⟨rfl,rfl⟩
   go_upto_region 8 with (fail)
   go_quiet ((go_at_call 160;exact Calls.quiet_of_same (Hid.out E2 _)))
   have KE:=KD.drewN nq;have Ky : (w6.drewN nq).ownsRow w.heap.size 3 1 u5 fl.length (bK fl):=hfo;generalize w6.drewN nq = w7 at *
   go_wp2_with (at_builtin;refine wpList_append_own _ rfl (.tmp 47) (.tmp 49) 38 rfl w.heap.size 3 i0 (.int .i64 0) 1 8 underlying38 hi hz0 hz1 hz2 rfl (by decide) _ _ _ rfl (Ky.alloc _) ⟨w7.heap.size,0,none⟩ 1 1 [.int .i64 (Ch.goal ol.ag s (Ch.place ol.ag t.target))] rfl rfl ?c1 ?c2 ?c3 ?c4 ?c5 ?_)
   case c1=>exact fm _ _ _
   case c2=>intro u hu;simp at hu;subst hu;rfl
   case c3=>unfold maxLen;omega
   case c4=>omega
   case c5=>have:=KE.size;simp;omega
   intro v4 w8 o4 g4 _;have K4 : Kp (fun _=>False) w w8:=Kp.grown (KE.alloc _) g4 (fun i hi hlt=>by have:=(Ky.lt i hi).1;omega);clear g4 KE Ky;go_wp2
   go_roundw
   case rel=>exact ⟨k + 1,_,by go_num,by omega,by simpa [bK] using o4,by simp;omega,HF,K4⟩
   case measure=>simp [intOf];omega
  have hge : ¬ (k : Int) < (list.length : Int):=by omega
  have HF:=hid (HE.out.trans (show _ = fl by rw [List.drop_eq_nil_of_le (by omega)];simp [bI]));clear HE hr hpr hmr
  go_wp2_with fail
  go_ret;rw [HF.out];exact ⟨_,rfl,hfo,KW⟩
end
namespace Ch
def take (ss : List St) (a p t : ByteArray) (x y z : Int) : Bool × Sd :=
 if (bz ss a).2 then
  if (bf ss p).2 then
   if fR t && om x && om y && om z then (true,⟨(bz ss a).1,(bf ss p).1,t,x,y,z⟩) else (false,fY)
  else (false,fY)
 else (false,fY)
end Ch
theorem mH : (gV : Array Value).all (fun x=>x.oneCell') = true:=by kernel_rfl
section
variable (ob oo : Nat) (w : World) (ss : List St)
theorem CP (a p t : ByteArray) (x y z : Int) (ha : a.size <= 9223372036854775807) (hp : p.size <= 9223372036854775807) (ht : t.size <= 9223372036854775807) (hS : ib w ob oo ss) (hl : ss.length <= 1000) :
 Calls prog 79 #[.pointer (some ⟨ob,oo,none⟩),.agg #[.string a,.string p,.string t,.int .i64 x,.int .i64 y,.int .i64 z]] w
  fun r w'=>r = .returned (.tuple #[.agg (aj (Ch.take ss a p t x y z).2).toArray,.bool (Ch.take ss a p t x y z).1]) /\ Kp (fun _=>False) w w':=by
 obtain ⟨ds,hds,eH⟩:=cQ;obtain ⟨de,hde,V1⟩:=rr;obtain ⟨dm,LZ,V2⟩:=vA;have hS2 : ib ((w.alloc (.cells #[.string a,.string p,.string t,.int .i64 x,.int .i64 y,.int .i64 z] 26)).alloc (.cells aF 95)) ob oo ss:=(hS.alloc _).alloc _
 have hb2 : ((w.alloc (.cells #[.string a,.string p,.string t,.int .i64 x,.int .i64 y,.int .i64 z] 26)).alloc (.cells aF 95)).heap[w.heap.size]? = some (.cells #[.string a,.string p,.string t,.int .i64 x,.int .i64 y,.int .i64 z] 26):=by rw [Below.heap_alloc _ _ _ (by simp)];exact heap_alloc_new _ _
 have hr2 : ((w.alloc (.cells #[.string a,.string p,.string t,.int .i64 x,.int .i64 y,.int .i64 z] 26)).alloc (.cells aF 95)).heap[w.heap.size + 1]? = some (.cells aF 95):=heap_alloc2_new w _ _;have K2 : Kp (fun _=>False) w ((w.alloc (.cells #[.string a,.string p,.string t,.int .i64 x,.int .i64 y,.int .i64 z] 26)).alloc (.cells aF 95)):=((Kp.refl _ _).alloc _).alloc _
 have MR : ((bz ss a).1.map Value.bool).toArray.size = 16:=by simp [ka]
 have Sb : (prog.info? 91).map (·.size) = some ((bz ss a).1.map Value.bool).toArray.size:=by rw [MR];exact jk
 have hA1 : ((bz ss a).1.map Value.bool).toArray.all (fun x=>x.oneCell') = true:=by
  apply Array.all_eq_true_iff_forall_mem.2;intro v hv;simp only [List.mem_toArray,List.mem_map] at hv;obtain ⟨c,_,rfl⟩:=hv;rfl
 have oJ:=jI (jz ss p)
 have Sc : (prog.info? 93).map (·.size) = some (aG (bf ss p).1).toArray.size:=by rw [oJ];exact gm
 have hP1:=nB (bf ss p).1;clear hS
 go_enter func79,ntmps79
 go_upto_region 1 with (fail)
 generalize (w.alloc (.cells #[.string a,.string p,.string t,.int .i64 x,.int .i64 y,.int .i64 z] 26)).alloc (.cells aF 95) = w2 at *;generalize Ue : w.heap.size + 1 = rb at *;generalize Uf : w.heap.size = sb at *
 have cells : ∀ W : World,W.heap[sb]? = some (.cells #[.string a,.string p,.string t,.int .i64 x,.int .i64 y,.int .i64 z] 26) -> W.cell? ⟨sb,0,none⟩ = some (.string a) /\ W.cell? ⟨sb,1,none⟩ = some (.string p) /\ W.cell? ⟨sb,2,none⟩ = some (.string t) /\ W.cell? ⟨sb,3,none⟩ = some (.int .i64 x) /\ W.cell? ⟨sb,4,none⟩ = some (.int .i64 y) /\ W.cell? ⟨sb,5,none⟩ = some (.int .i64 z):=fun W h=>by simp [World.cell?,h]
 have HC:=hid cells;clear cells;have c0 : w2.cell? ⟨sb,0,none⟩ = some (.string a):=(HC.out w2 hb2).1;have E1:=hid (ru ob oo w2 ss a ha hS2 hl)
 go_wp2_with fail
 refine hm E1 ?_;rintro xx w3 ⟨rfl,K3⟩;generalize Se : ((bz ss a).1.map Value.bool).toArray = LA at *;have Kj:=hid Se;clear Se;have iN:=heap_alloc_new w3 (.cells aW 91);have Kn : Kp (fun _=>False) w3 ((w3.alloc (.cells aW 91)).setRow w3.heap.size LA):=((Kp.refl _ _).alloc _).setRow (fun x=>by omega) _;have K4:=K3.trans Kn;have Sf:=setRow_heap (w3.alloc (.cells aW 91)) w3.heap.size aW LA 91 (0,0) iN;have hb4:=K4.at_ hb2 (fun x=>x);have hr4:=K4.at_ hr2 (fun x=>x);have j3:=hS2.keep K4 (fun x=>x) (fun _ _ _ x=>x);have K5:=K2.trans K4;clear E1 c0 hb2 hr2 hS2 K2 K3 Kn K4
 go_upto_region 2 with (refine wpList_store_row rfl 91 (.tmp 6) (.tmp 14) rfl w3.heap.size LA rfl rfl 91 aW iN Sb MR.symm hA1 ?_)
 generalize (w3.alloc (.cells aW 91)).setRow w3.heap.size LA = w4 at *;clear iN;generalize w3.heap.size = ab at *
 cases q1 : (bz ss a).2 with
 | false =>
   have HV:=hid (show Ch.take ss a p t x y z = (false,fY) by simp [Ch.take,q1]);have KZ:=K5.setRow (g:=rb) (fun x=>by omega) gV
   go_wp2_with (refine wpList_store_row rfl 95 (.tmp 4) (.tmp 18) rfl rb gV rfl rfl 95 aF hr4 aY rfl mH ?_)
   refine bodyPost_ret (results_cell_tmp rfl _ _ rb 95 gV (0,0) ds rfl (setRow_heap _ _ _ _ _ _ hr4) hds eH aY) rfl ?_;rw [HV.out];exact ⟨rfl,KZ⟩
 | true=>?_
 have c1 : w4.cell? ⟨sb,1,none⟩ = some (.string p):=(HC.out w4 hb4).2.1;have E2:=hid (vB ob oo w4 ss p hp j3 hl)
 go_wp2_with fail
 refine hm E2 ?_;rintro xx w5 ⟨rfl,K6⟩;generalize Sg : (aG (bf ss p).1).toArray = LP at *;have P2:=hid Sg;clear Sg;have j4:=heap_alloc_new w5 (.cells cU 93);have Kn : Kp (fun _=>False) w5 ((w5.alloc (.cells cU 93)).setRow w5.heap.size LP):=((Kp.refl _ _).alloc _).setRow (fun x=>by omega) _;have K7:=K6.trans Kn;have Ug:=setRow_heap (w5.alloc (.cells cU 93)) w5.heap.size cU LP 93 (0,0) j4;have hb6:=K7.at_ hb4 (fun x=>x);have mw:=K7.at_ hr4 (fun x=>x);have Uh:=K7.at_ Sf (fun x=>x);have K8:=K5.trans K7;clear E2 c1 hb4 hr4 Sf j3 K5 K6 Kn K7
 go_upto_region 5 with (refine wpList_store_row rfl 93 (.tmp 8) (.tmp 24) rfl w5.heap.size LP rfl rfl 93 cU j4 Sc oJ.symm hP1 ?_)
 generalize (w5.alloc (.cells cU 93)).setRow w5.heap.size LP = w6 at *;clear j4;generalize w5.heap.size = pb at *
 cases q2 : (bf ss p).2 with
 | false =>
   have HV:=hid (show Ch.take ss a p t x y z = (false,fY) by simp [Ch.take,q1,q2]);have KZ:=K8.setRow (g:=rb) (fun x=>by omega) gV
   go_wp2_with (refine wpList_store_row rfl 95 (.tmp 4) (.tmp 28) rfl rb gV rfl rfl 95 aF mw aY rfl mH ?_)
   refine bodyPost_ret (results_cell_tmp rfl _ _ rb 95 gV (0,0) ds rfl (setRow_heap _ _ _ _ _ _ mw) hds eH aY) rfl ?_;rw [HV.out];exact ⟨rfl,KZ⟩
 | true=>?_
 obtain ⟨_,_,c2,c3,c4,c5⟩:=HC.out w6 hb6;have ET:=hid (tq w6 t ht);have EX:=hid (dY w6 x);have EY:=hid (dY w6 y);have EZ:=hid (dY w6 z)
 go_wp2_with fail
 refine hm ET ?_;rintro xx w7 ⟨rfl,e7⟩;rw [e7];clear e7 w7
 cases qt : fR t with
 | false =>
   have HV:=hid (show Ch.take ss a p t x y z = (false,fY) by simp [Ch.take,q1,q2,qt]);have KZ:=K8.setRow (g:=rb) (fun x=>by omega) gV
   go_wp2_with (refine wpList_store_row rfl 95 (.tmp 4) (.tmp 52) rfl rb gV rfl rfl 95 aF mw aY rfl mH ?_)
   refine bodyPost_ret (results_cell_tmp rfl _ _ rb 95 gV (0,0) ds rfl (setRow_heap _ _ _ _ _ _ mw) hds eH aY) rfl ?_;rw [HV.out];exact ⟨rfl,KZ⟩
 | true=>?_
 go_wp2_with fail
 refine hm EX ?_;rintro xx w7 ⟨rfl,e7⟩;rw [e7];clear e7 w7
 cases qx : om x with
 | false =>
   have HV:=hid (show Ch.take ss a p t x y z = (false,fY) by simp [Ch.take,q1,q2,qt,qx]);have KZ:=K8.setRow (g:=rb) (fun x=>by omega) gV
   go_wp2_with (refine wpList_store_row rfl 95 (.tmp 4) (.tmp 52) rfl rb gV rfl rfl 95 aF mw aY rfl mH ?_)
   refine bodyPost_ret (results_cell_tmp rfl _ _ rb 95 gV (0,0) ds rfl (setRow_heap _ _ _ _ _ _ mw) hds eH aY) rfl ?_;rw [HV.out];exact ⟨rfl,KZ⟩
 | true=>?_
 go_wp2_with fail
 refine hm EY ?_;rintro xx w7 ⟨rfl,e7⟩;rw [e7];clear e7 w7
 cases qy : om y with
 | false =>
   have HV:=hid (show Ch.take ss a p t x y z = (false,fY) by simp [Ch.take,q1,q2,qt,qx,qy]);have KZ:=K8.setRow (g:=rb) (fun x=>by omega) gV
   go_wp2_with (refine wpList_store_row rfl 95 (.tmp 4) (.tmp 52) rfl rb gV rfl rfl 95 aF mw aY rfl mH ?_)
   refine bodyPost_ret (results_cell_tmp rfl _ _ rb 95 gV (0,0) ds rfl (setRow_heap _ _ _ _ _ _ mw) hds eH aY) rfl ?_;rw [HV.out];exact ⟨rfl,KZ⟩
 | true=>?_
 go_wp2_with fail
 refine hm EZ ?_;rintro xx w7 ⟨rfl,e7⟩;rw [e7];clear e7 w7
 cases qz : om z with
 | false =>
   have HV:=hid (show Ch.take ss a p t x y z = (false,fY) by simp [Ch.take,q1,q2,qt,qx,qy,qz]);have KZ:=K8.setRow (g:=rb) (fun x=>by omega) gV
   go_wp2_with (refine wpList_store_row rfl 95 (.tmp 4) (.tmp 52) rfl rb gV rfl rfl 95 aF mw aY rfl mH ?_)
   refine bodyPost_ret (results_cell_tmp rfl _ _ rb 95 gV (0,0) ds rfl (setRow_heap _ _ _ _ _ _ mw) hds eH aY) rfl ?_;rw [HV.out];exact ⟨rfl,KZ⟩
 | true=>?_
 have HV:=hid (show Ch.take ss a p t x y z = (true,⟨(bz ss a).1,(bf ss p).1,t,x,y,z⟩) by simp [Ch.take,q1,q2,qt,qx,qy,qz])
 have hwf : (Sd.mk (bz ss a).1 (bf ss p).1 t x y z).Wf:=⟨ka ss a,jz ss p⟩
 have HB0 : prog.built 95 [(0,.agg ((bz ss a).1.map Value.bool).toArray),(1,.agg (aG (bf ss p).1).toArray),(2,.string t),(3,.int .i64 x),(4,.int .i64 y),(5,.int .i64 z)] = some (aj (Sd.mk (bz ss a).1 (bf ss p).1 t x y z)).toArray:=xh _ hwf;rw [Kj.out,P2.out] at HB0;have hsI:=cY hwf;have Ko:=dy hwf;have hs1:=fT (Sd.mk (bz ss a).1 (bf ss p).1 t x y z);generalize hM : (aj (Sd.mk (bz ss a).1 (bf ss p).1 t x y z)).toArray = M at *;have HM:=hid hM;have HB:=hid HB0;clear hM hwf HB0 ET EX EY EZ;have KZ:=K8.setRow (g:=rb) (fun x=>by omega) M
 go_wp2_with (first | refine wpList_load_row rfl 91 (.tmp 6) rfl ab rfl 91 LA (0,0) de Uh hde (by cases de <;> simp_all [ar]) Sb ?_ | refine wpList_load_row rfl 93 (.tmp 8) rfl pb rfl 93 LP (0,0) dm Ug LZ (by cases dm <;> simp_all [ar]) Sc ?_ | (refine bn rfl 95 #[(0,.tmp 53),(1,.tmp 54),(2,.tmp 56),(3,.tmp 58),(4,.tmp 60),(5,.tmp 62)] rfl M [(0,.agg LA),(1,.agg LP),(2,.string t),(3,.int .i64 x),(4,.int .i64 y),(5,.int .i64 z)] ?_ HB.out ?_;rfl) | refine wpList_store_row rfl 95 (.tmp 4) (.tmp 63) rfl rb M rfl rfl 95 aF mw hsI Ko.symm hs1 ?_)
 refine bodyPost_ret (results_cell_tmp rfl _ _ rb 95 M (0,0) ds rfl (setRow_heap _ _ _ _ _ _ mw) hds eH hsI) rfl ?_;rw [HV.out];exact ⟨by rw [<- HM.out];rfl,KZ⟩
end
end Go.Proofs.YtnlbchmfcebeeaaGreat
