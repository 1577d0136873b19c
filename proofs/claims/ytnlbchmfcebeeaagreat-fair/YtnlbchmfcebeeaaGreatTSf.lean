import Derived.Test.YtnlbchmfcebeeaaGreatTSe
set_option maxHeartbeats 12800000
set_option maxRecDepth 100000
namespace Go.Proofs.YtnlbchmfcebeeaaGreat
open Go.Proofs.Tryz Ch
open Go.RowKit
namespace Ch
theorem GH (x : Sv) (t : Tk) : lK x t = (decide (t.fired = 0) && decide (0 <= t.at_) && decide (t.at_ ≠ (x.made : Int) - 1)):=rfl
theorem Sv.Bd.task {x : Sv} (h : x.Bd) (u : Nat) (t : Tk) : (ak x u t).Bd:=⟨h.made,h.yz,h.nums,h.joined,h.tail,h.tj,h.tick,h.turn,by unfold ak;simp only [List.length_set];exact h.tasks⟩
end Ch
section
variable {w : World} {xb tb : Nat} {T : TypeId} {pc : Pc} {ol : Ol} {x : Sv} {kv : Value}
theorem cj.DD (h : cj w xb tb T pc ol x kv) {g : Nat} {c : Array Value} {e : TypeId} (hg : w.heap[g]? = some (.cells c e (0,0))) (he : e = 64 \/ e = 95) (j : Nat) (v : Value) : cj (w.setCell ⟨g,j,none⟩ v) xb tb T pc ol x kv:=by
 have hT : e ≠ T:=by rcases he with rfl | rfl <;> rcases h.ty with rfl | rfl <;> decide
 have hV : e ≠ 261:=by rcases he with rfl | rfl <;> decide
 have hK : e ≠ 173:=by rcases he with rfl | rfl <;> decide
 have ne : ∀ {b : Nat} {c' : Array Value} {e' : TypeId},w.heap[b]? = some (.cells c' e' (0,0)) -> e ≠ e' -> b ≠ g:=by
  intro b c' e' hb hne hbg;rw [hbg,hg] at hb;simp only [Option.some.injEq,Obj.cells.injEq] at hb;exact hne hb.2.1
 refine h.keep (S:=fun k=>k = g) ((Kp.refl (fun k=>k = g) w).setCell (p:=⟨g,j,none⟩) (fun _=>rfl) _) (ne h.blk hT) (ne h.kA hK) ?_ ?_
 ·intro k ek
  obtain ⟨cur,hc⟩:=aR h.row ek;exact ne hc hV
 intro i cur e' hi ho;refine ne hi ?_;intro x;subst x
 revert ho
 unfold Gx
 rcases he with rfl | rfl <;> decide
end
theorem Lv (r : Rp) (i : Int) : (aZ r).setIfInBounds 2 (.int .i64 i) = aZ { r with idx:=i }:=rfl
section
variable (w : World) {xb tb : Nat} {pc : Pc} {ol : Ol} {x : Sv} {kv : Value}
theorem wD (h : cj w xb tb 138 pc ol x kv) (hbd : x.Bd) (hol : ol.Ok) (hk : 0 < x.kept.length) {u : Nat} {t : Tk} (hu : x.tasks[u]? = some t) (hok : (js x t).now.Ok) (hfi : t.fired <= 1000) (hou : t.out.size <= 1000000000) :
 Calls prog 229 #[.pointer (some ⟨xb,0,none⟩),.pointer (some ⟨tb,u * 45,none⟩)] w fun r w'=>r = .returned (.tuple #[.agg (aZ (kD ol x u t).2.1),.bool (kD ol x u t).2.2]) /\ dF w w' xb tb 138 pc ol kv (kD ol x u t).1:=by
 obtain ⟨ds,hds,eH⟩:=cQ;obtain ⟨dr,hdr,gr⟩:=my;have hlow:=h.low;have hts:=lt_of_block h.kA;have K1 : Kp (fun _=>False) w (w.alloc (.cells aA 64)):=(Kp.refl _ _).alloc _;have hnew:=heap_alloc_new w (.cells aA 64);have h1:=h.au K1;have hmd:=hbd.made;have hlt:=(List.getElem?_eq_some_iff.1 hu).1;have hwf:=h.Me hu;have c5 : (w.alloc (.cells aA 64)).cell? ⟨tb,u * 45 + 5,none⟩ = some (.int .i64 t.fired):=h1.dK hu (by omega);have c2 : (w.alloc (.cells aA 64)).cell? ⟨tb,u * 45 + 2,none⟩ = some (.int .i64 t.at_):=h1.dK hu (by omega);have HU:=hid (show kD ol x u t = if lK x t then (x,dW x 14,true) else kC ol x u (js x t) from rfl);have HV:=hid (GH x t);have HT:=hid (show js x t = if t.fired = 0 then { t with now:=bR x.kept } else t from rfl)
 have hf1 : (js x t).fired = t.fired:=by unfold js;split <;> rfl
 have ho1 : (js x t).out = t.out:=by unfold js;split <;> rfl
 generalize kD ol x u t = SS at *;generalize lK x t = sv at *;generalize js x t = t1 at *;have HH:=hid (ae h1 (ae hbd (ae hu (ae K1 (pN hu)))));have hbt:=hbd.task u t1;have hmt : (ak x u t1).made = x.made:=rfl;have hut:=j1 hlt t1
 have HE:=hid (show kC ol x u t1 = if (cE ol t1).2 != 0 then (ak x u (cE ol t1).1,{ dW x (cE ol t1).2 with idx:=((cE ol t1).1.fired : Int) },true)
  else if (cE ol t1).1.fired < (cE ol t1).1.events.size then (ak x u (cE ol t1).1,b8,false)
  else (fN (ak x u (cE ol t1).1) (cE ol t1).1.now (cE ol t1).1.out,{ b8 with dT:=(x.made : Int),idx:=((cE ol t1).1.fired : Int),text:=(cE ol t1).1.out },true) from rfl)
 clear h h1 K1 hbd hu
 go_enter func229,ntmps229
 go_upto_region 1 with (fail)
 generalize w.alloc (.cells aA 64) = w1 at *
 go_upto_if 12 with (fail)
 go_cut [12] from 8 to 37 (fun _ wx=>sv = false /\ cj wx xb tb 138 pc ol (ak x u t1) kv /\ Kp (jr xb tb kv) w wx /\ wx.heap[w.heap.size]? = some (.cells aA 64 (0,0)))
 case first =>
  by_cases q0 : t.fired = 0
  ·have UR : (t.fired : Int) = 0:=by omega
   have Mf:=hid (HT.out.trans (if_pos q0))
   by_cases q1 : 0 <= t.at_
   ·have E1:=hid (gN w1.drew (HH.out.1.au ((Kp.refl _ _).drewN 1)).shelf (by omega))
    go_upto_region 2 with (fail)
    go_region_held3 (fun w'=>w'.cell? ⟨tb,u * 45 + 2,none⟩ = some (.int .i64 t.at_)) (first | exact c2 | exact HS.out) ((go_at_call 191;refine hm E1 ?_;rintro y w5 ⟨rfl,rfl⟩;have HS:=hid c2;clear E1))
    clear HS;have KD : Kp (fun _=>False) w1 w1.drew:=(Kp.refl _ _).drewN 1;have h2:=HH.out.1.au KD;have hn2:=KD.at_ hnew (fun x=>x);generalize w1.drew = w2 at *
    cases q2 : t.at_ != (x.made : Int) - 1 with
    | true =>
      have hsv:=HV.out
      have q2' : t.at_ ≠ (x.made : Int) - 1:=by simpa using q2
      simp only [q0,q1,q2',decide_true,Bool.true_and,ne_eq,not_false_eq_true] at hsv;subst hsv;have ER:=hid (hJ w2 h2 (by omega) 14);have HX:=hid (ae h2 (HH.out.2.2.2.1.trans KD));have HF:=hid (HU.out.trans (if_pos rfl));clear h2 KD HU HV HE HT c2 c5 q2' hnew
      go_wp2_with fail
      refine hm ER ?_;rintro r w4 ⟨rfl,K4⟩;have gB:=K4.at_ hn2 (fun x=>x);have HQ:=hid (dF.fB (HX.out.2.mono (fun _ _ x=>x.elim)) ((dF.refl HX.out.1).au K4) gB (aZ (dW x 14)));have et:=setRow_heap w4 w.heap.size aA (aZ (dW x 14)) 64 (0,0) gB;clear ER K4 hn2 HX
      go_wp2_with (refine wpList_store_row rfl 64 (.tmp 4) (.tmp 30) rfl w.heap.size (aZ (dW x 14)) rfl rfl 64 aA gB aV rfl (cT _) ?_)
      refine bodyPost_ret (aH rfl _ _ w.heap.size (dW x 14) rfl et) rfl ?_;rw [HF.out];exact ⟨rfl,HQ.out⟩
    | false=>?_
    have hsv:=HV.out
    have q2' : ¬ t.at_ ≠ (x.made : Int) - 1:=by simpa using q2
    simp only [q2',decide_false,Bool.and_false] at hsv;subst hsv;clear q2';have EL:=hid (su w2 h2.shelf hk HH.out.2.1.yz)
    have Jd : (bR x.kept).Wf:=by have:=hok.1;rw [Mf.out] at this;exact this
    have sI:=(by rw [aT Jd];exact aY : (prog.info? 95).map (·.size) = some (aj (bR x.kept)).length)
    have sL:=aT Jd;have sO:=jT (bR x.kept);have GF:=h2.yy
    have hpt : ∀ W,cj W xb tb 138 pc ol x kv -> cj (W.setRow tb (putAt (bj x.tasks).toArray (u * 45 + 6) (aj (bR x.kept)))) xb tb 138 pc ol (ak x u t1) kv:=by
     intro W hW;rw [Mf.out];exact hW.GD (t':={ t with now:=bR x.kept }) HH.out.2.2.1 Jd 6 (aj (bR x.kept)) (by omega) (mV (t':={ t with now:=bR x.kept }) hwf Jd rfl rfl)
    have HP:=hid hpt;have hX:=HH.out.2.2.2.1.trans KD
    have htk : ∀ W,cj W xb tb 138 pc ol x kv -> W.heap[tb]? = some (.cells (bj x.tasks).toArray 173 (0,0)):=fun W hW=>hW.kA
    have QJ:=hid htk;generalize (bj x.tasks).toArray = TA at *;generalize QK : aj (bR x.kept) = FL at *;have HX:=hid (ae h2 hX);clear h2 KD hX hpt QK htk HU HE c2 c5 hnew
    go_wp2_with fail
    refine hm EL ?_;rintro r w4 ⟨rfl,K4⟩;have h4:=HX.out.1.au K4;have NM:=HX.out.2.trans K4;have htc:=QJ.out _ h4
    have DC : u * 45 + 6 + FL.length <= TA.size:=by rw [GF,sL];omega
    have gB:=K4.at_ hn2 (fun x=>x);have hZ:=hid (ae h4 NM);clear EL HX K4 h4 NM hn2
    go_wp2_with (refine eO rfl 95 (.tmp 37) (.tmp 35) rfl tb (u * 45 + 6) FL rfl rfl 173 TA htc sI DC sO ?_)
    simp only [Act.put]
    go_meet
    refine ⟨by first | rfl | trivial,HP.out _ hZ.out.1,(hZ.out.2.mono (fun _ _ x=>x.elim)).setRow (fun _=>.inr (.inl rfl)) _,?_⟩;rw [setRow_other _ _ _ _ (by omega)];exact gB
   have hsv:=HV.out;simp only [q1,decide_false,Bool.and_false,Bool.false_and] at hsv;subst hsv
   go_upto_region 2 with (fail)
   go_quiet (fail)
   rename_i nq;have KD : Kp (fun _=>False) w1 (w1.drewN nq):=(Kp.refl _ _).drewN nq;have h2:=HH.out.1.au KD;have hn2:=KD.at_ hnew (fun x=>x);generalize w1.drewN nq = w2 at *;have EL:=hid (su w2 h2.shelf hk HH.out.2.1.yz)
   have Jd : (bR x.kept).Wf:=by have:=hok.1;rw [Mf.out] at this;exact this
   have sI:=(by rw [aT Jd];exact aY : (prog.info? 95).map (·.size) = some (aj (bR x.kept)).length)
   have sL:=aT Jd;have sO:=jT (bR x.kept);have GF:=h2.yy
   have hpt : ∀ W,cj W xb tb 138 pc ol x kv -> cj (W.setRow tb (putAt (bj x.tasks).toArray (u * 45 + 6) (aj (bR x.kept)))) xb tb 138 pc ol (ak x u t1) kv:=by
    intro W hW;rw [Mf.out];exact hW.GD (t':={ t with now:=bR x.kept }) HH.out.2.2.1 Jd 6 (aj (bR x.kept)) (by omega) (mV (t':={ t with now:=bR x.kept }) hwf Jd rfl rfl)
   have HP:=hid hpt;have hX:=HH.out.2.2.2.1.trans KD
   have htk : ∀ W,cj W xb tb 138 pc ol x kv -> W.heap[tb]? = some (.cells (bj x.tasks).toArray 173 (0,0)):=fun W hW=>hW.kA
   have QJ:=hid htk;generalize (bj x.tasks).toArray = TA at *;generalize QK : aj (bR x.kept) = FL at *;have HX:=hid (ae h2 hX);clear h2 KD hX hpt QK htk HU HE c2 c5 hnew
   go_wp2_with fail
   refine hm EL ?_;rintro r w4 ⟨rfl,K4⟩;have h4:=HX.out.1.au K4;have NM:=HX.out.2.trans K4;have htc:=QJ.out _ h4
   have DC : u * 45 + 6 + FL.length <= TA.size:=by rw [GF,sL];omega
   have gB:=K4.at_ hn2 (fun x=>x);have hZ:=hid (ae h4 NM);clear EL HX K4 h4 NM hn2
   go_wp2_with (refine eO rfl 95 (.tmp 37) (.tmp 35) rfl tb (u * 45 + 6) FL rfl rfl 173 TA htc sI DC sO ?_)
   simp only [Act.put]
   go_meet
   refine ⟨by first | rfl | trivial,HP.out _ hZ.out.1,(hZ.out.2.mono (fun _ _ x=>x.elim)).setRow (fun _=>.inr (.inl rfl)) _,?_⟩;rw [setRow_other _ _ _ _ (by omega)];exact gB
  have UR : ¬ (t.fired : Int) = 0:=by omega
  have Mf:=hid (HT.out.trans (if_neg q0));have hsv:=HV.out;simp only [q0,decide_false,Bool.false_and] at hsv;subst hsv;have HZ:=hid HH.out;clear HH
  go_wp2_with fail
  go_meet
  refine ⟨by first | rfl | trivial,?_,HZ.out.2.2.2.1.mono (fun _ _ x=>x.elim),hnew⟩;rw [Mf.out,HZ.out.2.2.2.2];exact HZ.out.1
 case rest =>
  obtain ⟨rfl,hC,KC,Ht⟩:=hcut;have HF:=hid (HU.out.trans ((if_neg (by simp)).trans HE.out));have EF:=hid (wC wc hC hol hut hok (by omega) (by rw [ho1];exact hou))
  have hfw : (cE ol t1).1.now.Wf /\ (cE ol t1).1.out.size <= 2000000000 /\ (cE ol t1).1.fired <= 2000:=by
   have hfs:=gM hol t1.now (af t1.events t1.fired);have US:=(jR (ol:=ol) hok (af t1.events t1.fired)).1
   have ho2 : t1.out.size <= 1000000000:=by rw [ho1];exact hou
   unfold cE
   split
   ·exact ⟨hok.1,by simp only;omega,by simp only;omega⟩
   split
   ·exact ⟨hok.1,by simp only;omega,by simp only;omega⟩
   refine ⟨US,?_,by simp only;omega⟩;simp only [ByteArray.size_append];omega
  have SG:=gu x u t1 (cE ol t1).1;rw [SG] at EF;have hbf:=HH.out.2.1.task u (cE ol t1).1;have Mg:=j1 hlt (cE ol t1).1;generalize cE ol t1 = ff at *;obtain ⟨t2,fe⟩:=ff;simp only at *;obtain ⟨fw,fo,Wb⟩:=hfw;have HX:=hid (ae hC KC);clear hC HU HE HV HT hut hok hbt hmt SG hf1 ho1 c5 c2 hnew KC
  go_wp2_with fail
  refine hm EF ?_;rintro r w5 ⟨rfl,h5,K5⟩;have j4:=K5.at_ Ht (fun s=>by have:=hlow _ s;omega);have KA:=HX.out.2.trans' K5 (fun _ _ s=>s);have SH : w5.cell? ⟨tb,u * 45 + 5,none⟩ = some (.int .i64 t2.fired):=h5.dK Mg (by omega);have c51 : w5.cell? ⟨tb,u * 45 + 1,none⟩ = some (.string t2.events):=h5.dK Mg (by omega);clear EF HX K5 Ht
  cases q3 : fe != 0 with
  | true =>
    have HZ:=hid (HF.out.trans (if_pos q3));have ER:=hid (hJ w5 h5 (by exact Nat.le_trans hmd (by omega)) fe);have hre : dW (ak x u t2) fe = dW x fe:=rfl;rw [hre] at ER;have HX:=hid (ae h5 KA);clear HF hre h5 KA
    go_wp2_with fail
    refine hm ER ?_;rintro r w6 ⟨rfl,K6⟩;have h6:=HX.out.1.au K6;have KB:=HX.out.2.trans' K6 (fun _ _ x=>x.elim);have kM:=K6.at_ j4 (fun x=>x);generalize dW x fe = RF at *;have hnr:=heap_alloc_new w6 (.cells aA 64);have Lw:=setRow_heap (w6.alloc (.cells aA 64)) w6.heap.size aA (aZ RF) 64 (0,0) hnr;have K7 : Kp (fun _=>False) w6 ((w6.alloc (.cells aA 64)).setRow w6.heap.size (aZ RF)):=((Kp.refl _ _).alloc _).setRow (fun x=>by omega) _;have h7:=h6.au K7;have NN:=K7.at_ kM (fun x=>x);have KC:=KB.trans' K7 (fun _ _ x=>x.elim);have hsz : w.heap.size < w6.heap.size:=lt_of_block kM;have hsw:=KB.size;clear ER K6 h6 kM HX SH c51 KB K7
    go_upto_region 8 with (refine wpList_store_row rfl 64 (.tmp 7) (.tmp 45) rfl w6.heap.size (aZ RF) rfl rfl 64 aA hnr aV rfl (cT _) ?_)
    generalize (w6.alloc (.cells aA 64)).setRow w6.heap.size (aZ RF) = w7 at *;generalize w6.heap.size = rb at *;have c75 : w7.cell? ⟨tb,u * 45 + 5,none⟩ = some (.int .i64 t2.fired):=h7.dK Mg (by omega)
    have UT : w7.frozen? ⟨rb,2,none⟩ = false:=by simp [World.frozen?,Lw]
    have hrc : w7.cell? ⟨rb,2,none⟩ = some (.int .i64 RF.idx):=by rw [World.cell?,Lw];rfl
    have tF : (w7.setCell ⟨rb,2,none⟩ (.int .i64 t2.fired)).heap[rb]? = some (.cells (aZ { RF with idx:=(t2.fired : Int) }) 64 (0,0)):=by rw [ah _ Lw,Lv]
    have QL : (w7.setCell ⟨rb,2,none⟩ (.int .i64 t2.fired)).heap[w.heap.size]? = some (.cells aA 64 (0,0)):=by
     rw [Below.heap_setCell _ _ _ _ (by show w.heap.size ≠ rb;omega)];exact NN
    have h8:=h7.DD Lw (.inl rfl) 2 (.int .i64 t2.fired);have K8 : Kp (jr xb tb kv) w (w7.setCell ⟨rb,2,none⟩ (.int .i64 t2.fired)):=KC.setCell (p:=⟨rb,2,none⟩) (fun x=>by simp only at x;omega) _;have HX:=hid (ae h8 K8);clear h7 hnr KC h8 K8
    go_upto_region 9 with (fail)
    generalize w7.setCell ⟨rb,2,none⟩ (.int .i64 t2.fired) = w8 at *;generalize hRR : ({ RF with idx:=(t2.fired : Int) } : Rp) = RR at *;have HQ:=hid (dF.fB HX.out.2 (dF.refl HX.out.1) QL (aZ RR));have et:=setRow_heap w8 w.heap.size aA (aZ RR) 64 (0,0) QL;clear hRR HX NN Lw c75 UT hrc
    go_wp2_with (first | refine wpList_load_row rfl 64 (.tmp 7) rfl rb rfl 64 (aZ RR) (0,0) dr tF hdr (by cases dr <;> first | rfl | exact absurd gr (by simp [ar])) aV ?_ | refine wpList_store_row rfl 64 (.tmp 4) (.tmp 51) rfl w.heap.size (aZ RR) rfl rfl 64 aA QL aV rfl (cT _) ?_)
    refine bodyPost_ret (aH rfl _ _ w.heap.size RR rfl et) rfl ?_;rw [HZ.out];exact ⟨rfl,HQ.out⟩
  | false=>?_
  have hfe : fe = 0:=by simpa using q3
  subst hfe;have HZ:=hid (HF.out.trans (if_neg (by simp)));clear HF q3
  by_cases q4 : t2.fired < t2.events.size
  ·have HY:=hid (HZ.out.trans (if_pos q4))
   have SJ : (t2.fired : Int) < (t2.events.size : Int):=by omega
   have HX:=hid (ae h5 KA);clear HZ h5 KA
   go_upto_region 10 with (fail)
   go_quiet (fail)
   rename_i nq;have KD : Kp (fun _=>False) w5 (w5.drewN nq):=(Kp.refl _ _).drewN nq;have Bh:=hid (ae (HX.out.1.au KD) (HX.out.2.trans' KD (fun _ _ x=>x.elim)));have kM:=KD.at_ j4 (fun x=>x);generalize w5.drewN nq = w6 at *;have HQ:=hid (dF.fB Bh.out.2 (dF.refl Bh.out.1) kM aA);have et:=setRow_heap w6 w.heap.size aA aA 64 (0,0) kM;clear HX Bh KD j4
   go_wp2_with (refine wpList_store_row rfl 64 (.tmp 4) (.tmp 62) rfl w.heap.size aA rfl rfl 64 aA kM aV rfl (cT b8) ?_)
   refine bodyPost_ret (aH rfl _ _ w.heap.size b8 rfl et) rfl ?_;rw [HY.out];exact ⟨rfl,HQ.out⟩
  have HY:=hid (HZ.out.trans (if_neg q4))
  have SJ : ¬ (t2.fired : Int) < (t2.events.size : Int):=by omega
  have HX:=hid (ae h5 KA);clear HZ h5 KA
  go_upto_region 10 with (fail)
  go_quiet (fail)
  rename_i nq;have KD : Kp (fun _=>False) w5 (w5.drewN nq):=(Kp.refl _ _).drewN nq;have h6:=HX.out.1.au KD;have KB:=HX.out.2.trans' KD (fun _ _ x=>x.elim);have kM:=KD.at_ j4 (fun x=>x);generalize w5.drewN nq = w6 at *;have KE : Kp (fun _=>False) w6 w6.drew:=(Kp.refl _ _).drewN 1;have EP:=hid (lJ w6.drew (h6.au KE) hbf t2.now fw t2.out (by omega))
  have NO : ∀ w' : World,w'.heap[tb]? = some (.cells (bj (ak x u t2).tasks).toArray 173 (0,0)) -> w'.cell? ⟨tb,u * 45 + 42,none⟩ = some (.string t2.out):=by
   intro w' hb;rw [dR hb];exact (fH fc 45 (ak x u t2).tasks u t2 42 (fun a ha=>cH (h6.tw a ha)) Mg (by omega)).trans (g_ fw 0)
  have Lt : ∀ w' : World,w'.heap[tb]? = some (.cells (bj (ak x u t2).tasks).toArray 173 (0,0)) -> ∀ j v,(aj t2.now)[j]? = some v -> w'.cell? ⟨tb,u * 45 + 6 + j,none⟩ = some v:=by
   intro w' hb j v hj;have hl:=(List.getElem?_eq_some_iff.1 hj).1;rw [aT fw] at hl;rw [dR hb,Nat.add_assoc];exact (fH fc 45 (ak x u t2).tasks u t2 (6 + j) (fun a ha=>cH (h6.tw a ha)) Mg (by omega)).trans (BU j v hj)
  have fI : (prog.info? 95).map (·.size) = some (aj t2.now).length:=by rw [aT fw];exact aY
  have hS0 : w6.drew.heap[tb]? = some (.cells (bj (ak x u t2).tasks).toArray 173 (0,0)):=h6.kA;have hpt : (fN (ak x u t2) t2.now t2.out).tasks[u]? = some t2:=Mg;have UU : (bj (fN (ak x u t2) t2.now t2.out).tasks).toArray = (bj (ak x u t2).tasks).toArray:=rfl;have SK : (fN (ak x u t2) t2.now t2.out).made = x.made + 1:=rfl;generalize fN (ak x u t2) t2.now t2.out = XX at *;generalize (bj (ak x u t2).tasks).toArray = TA at *;generalize aj t2.now = FL at *;have Bh:=hid (ae h6 KB);clear HX h6 KB KD j4 SH c51 q4 SJ
  go_upto_region 12 with (fail)
  have hnD:=KE.at_ kM (fun x=>x);refine aB (fun w'=>w'.heap[tb]? = some (.cells TA 173 (0,0))) (by kernel_rfl) ?_;refine tj 0 63 (.pointer (some ⟨xb,0,none⟩)) hS0 ?_;refine tj 1 64 (.pointer (some ⟨tb,u * 45,none⟩)) hS0 ?_;refine tj 2 65 (.pointer (some ⟨tb,u * 45,none⟩)) hS0 ?_;refine tj 3 66 (.pointer (some ⟨tb,u * 45 + 6,none⟩)) hS0 ?_;refine tl 4 67 (.agg FL.toArray) rfl (fun w' hS=>cr 95 (.tmp 66) rfl tb (u * 45 + 6) rfl FL ds (Lt w' hS) hds eH fI) hS0 ?_;refine tj 5 68 (.pointer (some ⟨tb,u * 45,none⟩)) hS0 ?_;refine tj 6 69 (.pointer (some ⟨tb,u * 45,none⟩)) hS0 ?_;refine tj 7 70 (.pointer (some ⟨tb,u * 45 + 42,none⟩)) hS0 ?_;refine tl 8 71 (.string t2.out) rfl (fun w' hS=>by simp [execOp,Act.eval,go_sem,NO w' hS]) hS0 ?_;refine dO 9 ?_;refine bD (some 72) rfl 135 #[.pointer (some ⟨xb,0,none⟩),.agg FL.toArray,.string t2.out] (by simp [execOp,Act.eval,go_sem]) (.tuple #[]) _ EP.out ?_;intro w7 q7;have NN:=q7.at_ hlow hnD
  have KF:=(Bh.out.2.trans' KE (fun _ _ x=>x.elim))
  obtain ⟨tV,h7,n7,K7⟩:=q7;refine ⟨?_,?_⟩
  ·rw [<- UU];exact h7.kA
  refine wpAnyH_done (by kernel_rfl) (NoPanic.normal ?_) _;simp only [Act.put,pA,pB,pC]
  have q7 : dF w6.drew w7 xb tb 138 pc ol kv XX:=⟨tV,h7,n7,K7⟩
  have c75 : w7.cell? ⟨tb,u * 45 + 5,none⟩ = some (.int .i64 t2.fired):=h7.dK hpt (by omega);have QM : w7.cell? ⟨tb,u * 45 + 42,none⟩ = some (.string t2.out):=(h7.dK hpt (by omega)).trans (g_ fw 0);have KG : Kp (fun _=>False) w7 w7.drew:=(Kp.refl _ _).drewN 1;have EA:=hid (gN w7.drew (h7.au KG).shelf (by rw [SK];omega));have HM:=hid (show ((XX.made : Int) - 1) = (x.made : Int) by rw [SK];omega);generalize kB : ({ b8 with dT:=(XX.made : Int) - 1,idx:=(t2.fired : Int),text:=t2.out } : Rp) = RP at *;have HR:=hid kB;have QN:=KG.at_ NN (fun x=>x);have HQ:=hid (dF.fB KF (q7.au KG) QN (aZ RP));have et:=setRow_heap w7.drew w.heap.size aA (aZ RP) 64 (0,0) QN;clear EP h7 n7 K7 q7 KF Bh Lt NO hS0 kM hnD NN kB KE
  go_upto_region 13 with (fail)
  have hS0 : w7.drew.cell? ⟨tb,u * 45 + 5,none⟩ = some (.int .i64 t2.fired) /\ w7.drew.cell? ⟨tb,u * 45 + 42,none⟩ = some (.string t2.out):=⟨c75,QM⟩
  refine aB (fun w'=>w'.cell? ⟨tb,u * 45 + 5,none⟩ = some (.int .i64 t2.fired) /\ w'.cell? ⟨tb,u * 45 + 42,none⟩ = some (.string t2.out)) (by kernel_rfl) ?_;refine tj 0 73 (.pointer (some ⟨xb,0,none⟩)) hS0 ?_;refine tj 1 74 (.pointer (some ⟨xb,0,none⟩)) hS0 ?_;refine tj 2 75 (.pointer (some ⟨xb,5,none⟩)) hS0 ?_;refine tj 4 77 (.pointer (some ⟨tb,u * 45,none⟩)) hS0 ?_;refine tj 5 78 (.pointer (some ⟨tb,u * 45,none⟩)) hS0 ?_;refine tj 6 79 (.pointer (some ⟨tb,u * 45 + 5,none⟩)) hS0 ?_;refine tl 7 80 (.int .i64 t2.fired) rfl (fun w' hS=>by simp [execOp,Act.eval,go_sem,hS.1]) hS0 ?_;refine tj 8 81 (.pointer (some ⟨tb,u * 45,none⟩)) hS0 ?_;refine tj 9 82 (.pointer (some ⟨tb,u * 45,none⟩)) hS0 ?_;refine tj 10 83 (.pointer (some ⟨tb,u * 45 + 42,none⟩)) hS0 ?_;refine tl 11 84 (.string t2.out) rfl (fun w' hS=>by simp [execOp,Act.eval,go_sem,hS.2]) hS0 ?_;refine dO 3 ?_;refine bD (some 76) rfl 191 #[.pointer (some ⟨xb,5,none⟩)] (by simp [execOp,Act.eval,go_sem]) (.int .i64 ((XX.made : Int) - 1)) _ EA.out ?_;rintro w9 rfl;refine ⟨hS0,?_⟩
  have zX : (w7.drew.setRow w.heap.size (aZ RP)).cell? ⟨tb,u * 45 + 5,none⟩ = some (.int .i64 t2.fired) /\ (w7.drew.setRow w.heap.size (aZ RP)).cell? ⟨tb,u * 45 + 42,none⟩ = some (.string t2.out):=by
   have hne : tb ≠ w.heap.size:=by omega
   unfold World.cell? at *;simp only at *;rw [setRow_other _ _ _ _ hne];exact hS0
  refine tm 12 85 (.agg (aZ RP)) rfl (fun w' _=>eh 64 #[(1,.tmp 76),(2,.tmp 80),(5,.tmp 84)] rfl (aZ RP) [(1,.int .i64 ((XX.made : Int) - 1)),(2,.int .i64 t2.fired),(5,.string t2.out)] (by simp [Act.eval,Act.put]) (by rw [<- HR.out];kernel_rfl)) hS0 ?_;refine bE 13 (by kernel_rfl) rfl rfl 64 (.tmp 4) (.tmp 85) rfl rfl w.heap.size (aZ RP) (by simp [Act.eval,Act.put]) (by simp [Act.eval,Act.put]) 64 aA QN aV rfl (cT _) zX ?_;refine tm 14 5 (.bool true) rfl (fun w' _=>by rfl) zX ?_;refine wpAnyH_done (by kernel_rfl) (NoPanic.normal ?_) _;simp only [Act.put,pA,pB,pC];clear hS0 zX
  go_wp2_with fail
  refine bodyPost_ret (aH rfl _ _ w.heap.size RP rfl et) rfl ?_;rw [HY.out,<- HM.out,HR.out];exact ⟨rfl,HQ.out⟩
end
end Go.Proofs.YtnlbchmfcebeeaaGreat
