import Derived.Test.YtnlbchmfcebeeaaGreatTSd
set_option maxHeartbeats 12800000
set_option maxRecDepth 100000
namespace Go.Proofs.YtnlbchmfcebeeaaGreat
open Go.Proofs.Tryz Ch
open Go.RowKit
namespace Ch
def cE (ol : Ol) (t : Tk) : Tk × Int :=
 if t.events.size <= t.fired then (t,0)
 else if (aL ol t.now (af t.events t.fired)).2.2 != 0 then (t,(aL ol t.now (af t.events t.fired)).2.2)
 else ({ t with fired:=t.fired + 1,now:=(aL ol t.now (af t.events t.fired)).1,out:=t.out ++ (aL ol t.now (af t.events t.fired)).2.1 },0)
theorem gu (x : Sv) (u : Nat) (a b : Tk) : ak (ak x u a) u b = ak x u b:=by simp [ak,List.set_set]
theorem j1 {x : Sv} {u : Nat} (h : u < x.tasks.length) (a : Tk) : (ak x u a).tasks[u]? = some a:=by unfold ak;simp only;rw [List.getElem?_set_self h]
theorem pN {x : Sv} {u : Nat} {t : Tk} (h : x.tasks[u]? = some t) : ak x u t = x:=by
 obtain ⟨h1,e⟩:=List.getElem?_eq_some_iff.1 h;unfold ak;rw [<- e,List.set_getElem_self]
end Ch
section
variable {w : World} {xb tb : Nat} {T : TypeId} {pc : Pc} {ol : Ol} {x : Sv} {kv : Value}
theorem cj.Jc (h : cj w xb tb T pc ol x kv) {u : Nat} {t t' : Tk} (hu : x.tasks[u]? = some t) (hw : t'.now.Wf) (j : Nat) (hj : j < 45) (v : Value) (ht : fc t' = (fc t).set j v) :
 cj (w.setCell ⟨tb,u * 45 + j,none⟩ v) xb tb T pc ol (ak x u t') kv:=h.Gz hu hw j hj v ht
theorem cj.GD (h : cj w xb tb T pc ol x kv) {u : Nat} {t t' : Tk} (hu : x.tasks[u]? = some t) (hw : t'.now.Wf) (j : Nat) (l : List Value) (hj : j + l.length <= 45) (ht : fc t' = (fc t).take j ++ l ++ (fc t).drop (j + l.length)) :
 cj (w.setRow tb (putAt (bj x.tasks).toArray (u * 45 + j) l)) xb tb T pc ol (ak x u t') kv:=h.NI hu hw j l hj ht
end
section
variable (w : World) {xb tb : Nat} {pc : Pc} {ol : Ol} {x : Sv} {kv : Value}
theorem wC (h : cj w xb tb 138 pc ol x kv) (hol : ol.Ok) {u : Nat} {t : Tk} (hu : x.tasks[u]? = some t) (hok : t.now.Ok) (hfi : t.fired <= 1000) (hou : t.out.size <= 1000000000) :
 Calls prog 260 #[.pointer (some ⟨xb,0,none⟩),.pointer (some ⟨tb,u * 45,none⟩)] w fun r w'=>r = .returned (.int .i64 (cE ol t).2) /\ cj w' xb tb 138 pc ol (ak x u (cE ol t).1) kv /\ Kp (jr xb tb kv) w w':=by
 obtain ⟨ds,hds,eH⟩:=cQ;have hwf:=hok.1;have c5 : w.cell? ⟨tb,u * 45 + 5,none⟩ = some (.int .i64 t.fired):=h.dK hu (by omega);have c1 : w.cell? ⟨tb,u * 45 + 1,none⟩ = some (.string t.events):=h.dK hu (by omega);have hlt:=(List.getElem?_eq_some_iff.1 hu).1;have SE:=pN hu
 have HU:=hid (show cE ol t = if t.events.size <= t.fired then (t,0)
  else if (aL ol t.now (af t.events t.fired)).2.2 != 0 then (t,(aL ol t.now (af t.events t.fired)).2.2)
  else ({ t with fired:=t.fired + 1,now:=(aL ol t.now (af t.events t.fired)).1,out:=t.out ++ (aL ol t.now (af t.events t.fired)).2.1 },0) from rfl)
 generalize cE ol t = FT at *;have HH:=hid (ae h (ae hu SE));clear h hu SE
 go_enter func260,ntmps260
 go_upto_region 1 with (fail)
 by_cases hge : t.events.size <= t.fired
 ·have HF:=hid (HU.out.trans (if_pos hge))
  have hge' : (t.events.size : Int) <= (t.fired : Int):=by omega
  clear HU
  go_quiet (fail)
  rename_i nq;have KD:=(Kp.refl (fun _=>False) w).drewN nq;have HK:=hid KD;clear KD;go_wp2;go_ret;rw [HF.out];exact ⟨rfl,by rw [HH.out.2.2];exact HH.out.1.au HK.out,HK.out.mono (fun _ _ x=>x.elim)⟩
 have hge' : ¬ (t.events.size : Int) <= (t.fired : Int):=by omega
 have hlt2 : t.fired < t.events.size:=by omega
 have hlt3 : (t.fired : Int) < (t.events.size : Int):=by omega
 have hpk : af t.events t.fired = ((t.events[t.fired]'hlt2).toNat : Int):=by simp [af,hlt2]
 have HV:=hid (HU.out.trans (if_neg hge));rw [hpk] at HV;clear HU
 go_quiet (fail)
 rename_i nq;have h1:=HH.out.1.au ((Kp.refl (fun _=>False) w).drewN nq);have K1 : Kp (fun _=>False) w (w.drewN nq):=(Kp.refl (fun _=>False) w).drewN nq;have d5 : (w.drewN nq).cell? ⟨tb,u * 45 + 5,none⟩ = some (.int .i64 t.fired):=c5;have d1 : (w.drewN nq).cell? ⟨tb,u * 45 + 1,none⟩ = some (.string t.events):=c1;generalize w.drewN nq = w1 at *;have hidx : t.events[t.fired]? = some (t.events[t.fired]'hlt2):=getElem?_pos t.events t.fired hlt2;generalize hc : ((t.events[t.fired]'hlt2).toNat : Int) = c at *;have jB:=jR (ol:=ol) hok c;have hfs:=gM hol t.now c
 have y_ : (prog.info? 95).map (·.size) = some (aj t.now).length:=by rw [aT hwf];exact aY
 have E1 : ∀ W,Pl W xb 0 ol -> Hid (Calls prog 57 #[.pointer (some ⟨xb,0,none⟩),.agg (aj t.now).toArray,.int .u8 c] W fun r w'=>r = .returned (.tuple #[.agg (aj (aL ol t.now c).1).toArray,.string (aL ol t.now c).2.1,.int .i64 (aL ol t.now c).2.2]) /\ Kp (fun _=>False) W w'):=fun W h=>hid (oV W xb 0 ol t.now c hok h hol)
 have hg5 : ∀ w' : World,w'.heap[tb]? = some (.cells (bj x.tasks).toArray 173 (0,0)) -> w'.cell? ⟨tb,u * 45 + 5,none⟩ = some (.int .i64 t.fired):=by
  intro w' hb;rw [dR hb];exact fH fc 45 x.tasks u t 5 (fun a ha=>cH (h1.tw a ha)) HH.out.2.1 (by omega)
 have hg1 : ∀ w' : World,w'.heap[tb]? = some (.cells (bj x.tasks).toArray 173 (0,0)) -> w'.cell? ⟨tb,u * 45 + 1,none⟩ = some (.string t.events):=by
  intro w' hb;rw [dR hb];exact fH fc 45 x.tasks u t 1 (fun a ha=>cH (h1.tw a ha)) HH.out.2.1 (by omega)
 have Lt : ∀ w' : World,w'.heap[tb]? = some (.cells (bj x.tasks).toArray 173 (0,0)) -> ∀ j v,(aj t.now)[j]? = some v -> w'.cell? ⟨tb,u * 45 + 6 + j,none⟩ = some v:=by
  intro w' hb j v hj;have hl:=(List.getElem?_eq_some_iff.1 hj).1;rw [aT hwf] at hl;rw [dR hb,Nat.add_assoc];exact (fH fc 45 x.tasks u t (6 + j) (fun a ha=>cH (h1.tw a ha)) HH.out.2.1 (by omega)).trans (BU j v hj)
 have htb:=h1.kA;have hp1:=h1.plan;have HX:=hid (ae h1 (ae K1 (ae E1 (ae hg5 (ae hg1 (ae Lt hp1))))));clear h1 K1 E1 hg5 hg1 Lt hp1;generalize Qy : aL ol t.now c = mf at *;obtain ⟨fs,ft,fe⟩:=mf;clear Qy;simp only at jB HV HX hfs;have fI:=cY jB.1
 have UM : (prog.info? 95).map (·.size) = some (aj fs).length:=by rw [aT jB.1];exact aY
 have fS:=dy jB.1;have fL:=aT jB.1;have fO:=fT fs;have UN:=jT fs;have GF:=HH.out.1.yy;generalize SF : aj fs = FL at *;generalize Nt : (bj x.tasks).toArray = TA at *;have Bu:=hid (ae SF Nt);clear SF Nt
 go_upto_region 3 with (fail)
 go_cut [5,6,7] from 18 to 38 (fun p e f wx=>∃ fb,p = .pointer (some ⟨fb,0,none⟩) /\ e = .string ft /\ f = .int .i64 fe /\ wx.heap[fb]? = some (.cells FL.toArray 95 (0,0)) /\ Kp (fun _=>False) w1 wx)
 case first =>
  obtain ⟨h1,K1,E1,hg5,hg1,Lt,hp1⟩:=HX.out;have hS0 : w1.drew.heap[tb]? = some (.cells TA 173 (0,0)):=htb;have jF : Kp (fun _=>False) w1 w1.drew:=(Kp.refl _ _).drewN 1;refine aB (fun w'=>w'.heap[tb]? = some (.cells TA 173 (0,0))) (by kernel_rfl) ?_;refine tj 0 19 (.pointer (some ⟨xb,0,none⟩)) hS0 ?_;refine tj 1 20 (.pointer (some ⟨xb,0,none⟩)) hS0 ?_;refine tj 2 21 (.pointer (some ⟨xb,0,none⟩)) hS0 ?_;refine tj 3 22 (.pointer (some ⟨tb,u * 45,none⟩)) hS0 ?_;refine tj 4 23 (.pointer (some ⟨tb,u * 45,none⟩)) hS0 ?_;refine tj 5 24 (.pointer (some ⟨tb,u * 45 + 6,none⟩)) hS0 ?_;refine tl 6 25 (.agg (aj t.now).toArray) rfl (fun w' hS=>cr 95 (.tmp 24) rfl tb (u * 45 + 6) rfl (aj t.now) ds (Lt w' hS) hds eH y_) hS0 ?_;refine tj 7 26 (.pointer (some ⟨tb,u * 45,none⟩)) hS0 ?_;refine tj 8 27 (.pointer (some ⟨tb,u * 45,none⟩)) hS0 ?_;refine tj 9 28 (.pointer (some ⟨tb,u * 45 + 1,none⟩)) hS0 ?_;refine tl 10 29 (.string t.events) rfl (fun w' hS=>by simp [execOp,Act.eval,go_sem,hg1 w' hS]) hS0 ?_;refine tj 11 30 (.pointer (some ⟨tb,u * 45,none⟩)) hS0 ?_;refine tj 12 31 (.pointer (some ⟨tb,u * 45,none⟩)) hS0 ?_;refine tj 13 32 (.pointer (some ⟨tb,u * 45 + 5,none⟩)) hS0 ?_;refine tl 14 33 (.int .i64 t.fired) rfl (fun w' hS=>by simp [execOp,Act.eval,go_sem,hg5 w' hS]) hS0 ?_;refine tl 15 34 (.int .u8 c) rfl (fun w' _=>by simp [execOp,Act.eval,go_sem,hlt2,hc]) hS0 ?_;refine iJ 16 21 (by kernel_rfl) rfl rfl rfl rfl ?_ ?_
  ·refine bD (some 35) rfl 57 #[.pointer (some ⟨xb,0,none⟩),.agg (aj t.now).toArray,.int .u8 c] (by simp [execOp,Act.eval,go_sem]) _ (fun w'=>Kp (fun _=>False) w1.drew w') (E1 w1.drew (hp1.keep jF (fun _ _ _ _ _ x=>x))).out ?_
   intro w5 K5;have i_:=K5.at_ hS0 (fun x=>x);have hnew:=heap_alloc_new w5 (.cells aF 95);have JL : (w5.alloc (.cells aF 95)).heap[tb]? = some (.cells TA 173 (0,0)):=(Below.heap_alloc _ _ _ (lt_of_block i_)).trans i_
   have hne : tb ≠ w5.heap.size:=by have:=lt_of_block i_;omega
   have tQ : ((w5.alloc (.cells aF 95)).setRow w5.heap.size FL.toArray).heap[tb]? = some (.cells TA 173 (0,0)):=by rw [setRow_other _ _ _ _ hne];exact JL
   refine ⟨i_,?_⟩;refine tm 17 18 (.tuple #[.agg FL.toArray,.string ft,.int .i64 fe]) rfl (fun w' _=>by simp [execOp,Act.eval,Act.put,go_sem]) i_ ?_;refine tm 18 36 (.agg FL.toArray) rfl (fun w' _=>by simp [execOp,Act.eval,Act.put,go_sem]) i_ ?_;refine tm 19 37 (.string ft) rfl (fun w' _=>by simp [execOp,Act.eval,Act.put,go_sem]) i_ ?_;refine tm 20 38 (.int .i64 fe) rfl (fun w' _=>by simp [execOp,Act.eval,Act.put,go_sem]) i_ ?_;refine dO 21 ?_;refine cP (some 5) rfl (.pointer (some ⟨w5.heap.size,0,none⟩)) (w5.alloc (.cells aF 95)) (by simp [execOp,go_sem]) ?_;refine ⟨JL,?_⟩;refine bE 22 (by kernel_rfl) rfl rfl 95 (.tmp 5) (.tmp 36) rfl rfl w5.heap.size FL.toArray (by simp [Act.eval,Act.put]) (by simp [Act.eval,Act.put]) 95 aF hnew fI (by rw [fS];rfl) fO tQ ?_;refine tm 23 6 (.string ft) rfl (fun w' _=>by simp [execOp,Act.eval,Act.put,go_sem]) tQ ?_;refine tm 24 7 (.int .i64 fe) rfl (fun w' _=>by simp [execOp,Act.eval,Act.put,go_sem]) tQ ?_;refine wpAnyH_done (by kernel_rfl) (NoPanic.normal ?_) _;simp only [Act.put,pA,pB,pC]
   go_wp2_with fail
   go_meet
   exact ⟨w5.heap.size,rfl,rfl,rfl,setRow_heap _ _ _ _ _ _ hnew,((jF.trans K5).alloc _).setRow (fun x=>by have:=(jF.trans K5).size;omega) _⟩
  refine cP (some 5) rfl (.pointer (some ⟨w1.heap.size,0,none⟩)) (w1.drew.alloc (.cells aF 95)) (by simp [execOp,go_sem]) ?_;have hnew:=heap_alloc_new w1.drew (.cells aF 95);have BM:=jF.alloc (.cells aF 95);have BN : (w1.drew.alloc (.cells aF 95)).heap[tb]? = some (.cells TA 173 (0,0)):=(Below.heap_alloc _ _ _ (lt_of_block hS0)).trans hS0;refine ⟨BN,?_⟩;refine dO 16 ?_;simp only [Act.put,pA,pB,pC];refine bD (some 35) rfl 57 #[.pointer (some ⟨xb,0,none⟩),.agg (aj t.now).toArray,.int .u8 c] (by simp [execOp,Act.eval,go_sem]) _ (fun w'=>Kp (fun _=>False) (w1.drew.alloc (.cells aF 95)) w') (E1 _ (hp1.keep BM (fun _ _ _ _ _ x=>x))).out ?_;intro w5 K5;have i_:=K5.at_ BN (fun x=>x);have iU : w5.heap[w1.heap.size]? = some (.cells aF 95 (0,0)):=K5.at_ (k:=w1.heap.size) (by exact hnew) (fun x=>x)
  have hne : tb ≠ w1.heap.size:=by have:=lt_of_block hS0;have e : w1.drew.heap.size = w1.heap.size:=rfl;omega
  have tQ : (w5.setRow w1.heap.size FL.toArray).heap[tb]? = some (.cells TA 173 (0,0)):=by rw [setRow_other _ _ _ _ hne];exact i_
  refine ⟨i_,?_⟩;refine tm 17 18 (.tuple #[.agg FL.toArray,.string ft,.int .i64 fe]) rfl (fun w' _=>by simp [execOp,Act.eval,Act.put,go_sem]) i_ ?_;refine tm 18 36 (.agg FL.toArray) rfl (fun w' _=>by simp [execOp,Act.eval,Act.put,go_sem]) i_ ?_;refine tm 19 37 (.string ft) rfl (fun w' _=>by simp [execOp,Act.eval,Act.put,go_sem]) i_ ?_;refine tm 20 38 (.int .i64 fe) rfl (fun w' _=>by simp [execOp,Act.eval,Act.put,go_sem]) i_ ?_;refine bE 22 (by kernel_rfl) rfl rfl 95 (.tmp 5) (.tmp 36) rfl rfl w1.heap.size FL.toArray (by simp [Act.eval,Act.put]) (by simp [Act.eval,Act.put]) 95 aF iU fI (by rw [fS];rfl) fO tQ ?_;refine tm 23 6 (.string ft) rfl (fun w' _=>by simp [execOp,Act.eval,Act.put,go_sem]) tQ ?_;refine tm 24 7 (.int .i64 fe) rfl (fun w' _=>by simp [execOp,Act.eval,Act.put,go_sem]) tQ ?_;refine wpAnyH_done (by kernel_rfl) (NoPanic.normal ?_) _;simp only [Act.put,pA,pB,pC]
  go_wp2_with fail
  go_meet
  exact ⟨w1.heap.size,rfl,rfl,rfl,setRow_heap _ _ _ _ _ _ iU,(BM.trans K5).setRow (fun x=>by omega) _⟩
 case rest =>
  obtain ⟨fb,rfl,rfl,rfl,vU,KC⟩:=hcut;have hC:=HX.out.1.au KC;have KA:=HX.out.2.1.trans KC;clear KC htb d5 d1
  cases q1 : fe != 0 with
  | true =>
    have HF:=hid (HV.out.trans (show _ = (t,fe) by rw [q1];rfl));have HK:=hid (ae hC KA);clear HV hC KA HX
    go_wp2_with fail
    go_ret;rw [HF.out];exact ⟨rfl,by rw [HH.out.2.2];exact HK.out.1,HK.out.2.mono (fun _ _ x=>x.elim)⟩
  | false=>?_
  have hfe : fe = 0:=by simpa using q1
  subst hfe;have HF:=hid (HV.out.trans (show _ = ({ t with fired:=t.fired + 1,now:=fs,out:=t.out ++ ft },(0 : Int)) by rw [q1];rfl))
  have htc : wc.heap[tb]? = some (.cells TA 173 (0,0)):=by have:=hC.kA;rw [Bu.out.2] at this;exact this
  have DC : u * 45 + 6 + FL.length <= TA.size:=by rw [GF,fL];omega
  have h6:=hC.GD (t':={ t with now:=fs }) HH.out.2.1 jB.1 6 FL (by omega) (by rw [<- Bu.out.1];exact mV (t':={ t with now:=fs }) hwf jB.1 rfl rfl);rw [Bu.out.2] at h6;have K6 : Kp (jr xb tb kv) w (wc.setRow tb (putAt TA (u * 45 + 6) FL)):=(KA.mono (S':=jr xb tb kv) (fun _ _ x=>x.elim)).setRow (fun _=>.inr (.inl rfl)) _;clear HV hC KA HX
  go_upto_region 7 with (first | refine eO rfl 95 (.tmp 45) (.tmp 43) rfl tb (u * 45 + 6) FL rfl rfl 173 TA htc UM DC UN ?_ | refine wpList_load_row rfl 95 (.tmp 5) rfl fb rfl 95 FL.toArray (0,0) ds vU hds (by cases ds <;> first | rfl | exact absurd eH (by simp [ar])) fI ?_)
  generalize wc.setRow tb (putAt TA (u * 45 + 6) FL) = w6 at *;have QG:=j1 hlt { t with now:=fs };have UO : w6.cell? ⟨tb,u * 45 + 42,none⟩ = some (.string t.out):=(h6.dK QG (by omega)).trans (g_ (t:={ t with now:=fs }) jB.1 0);have f42:=h6.uY (u * 45 + 42)
  have hadd:=fun w'=>run_string_add_sum (P:=prog) w' t.out ft (by omega)
  have h7:=h6.Jc (t':={ t with now:=fs,out:=t.out ++ ft }) QG jB.1 42 (by omega) (.string (t.out ++ ft)) (lH (t:={ t with now:=fs }) (t':={ t with now:=fs,out:=t.out ++ ft }) jB.1 rfl rfl 0 _ rfl);rw [gu] at h7;have K7 : Kp (jr xb tb kv) w (w6.setCell ⟨tb,u * 45 + 42,none⟩ (.string (t.out ++ ft))):=K6.setCell (p:=⟨tb,u * 45 + 42,none⟩) (fun _=>.inr (.inl rfl)) _;clear h6 K6 QG vU htc DC;generalize Wa : t.out ++ ft = TO at *
  go_upto_region 8 with (fail)
  generalize w6.setCell ⟨tb,u * 45 + 42,none⟩ (.string TO) = w7 at *;have QH:=j1 hlt { t with now:=fs,out:=TO };have e5 : w7.cell? ⟨tb,u * 45 + 5,none⟩ = some (.int .i64 t.fired):=h7.dK QH (by omega);have f5:=h7.uY (u * 45 + 5)
  have ef : ((t.fired + 1 : Nat) : Int) = (t.fired : Int) + 1:=by omega
  have h8:=h7.Jc (t':={ t with fired:=t.fired + 1,now:=fs,out:=TO }) QH jB.1 5 (by omega) (.int .i64 ((t.fired : Int) + 1)) (lI (t:={ t with now:=fs,out:=TO }) (t':={ t with fired:=t.fired + 1,now:=fs,out:=TO }) rfl rfl 5 (by omega) _ (by rw [<- ef];rfl));rw [gu] at h8;have K8 : Kp (jr xb tb kv) w (w7.setCell ⟨tb,u * 45 + 5,none⟩ (.int .i64 ((t.fired : Int) + 1))):=K7.setCell (p:=⟨tb,u * 45 + 5,none⟩) (fun _=>.inr (.inl rfl)) _;have HZ:=hid (ae h8 K8);clear h7 K7 QH h8 K8 UO f42 hadd
  go_wp2_with fail
  go_ret;rw [HF.out];exact ⟨rfl,HZ.out.1,HZ.out.2⟩
end
namespace Ch
theorem sx {ol : Ol} (hol : ol.Ok) : ∀ (n : Nat) {s : Sd} {l : List Int} {r : Sd × ByteArray},cN ol n s l = some r -> r.2.size <= l.length + 117000000 * n:=by
 intro n
 induction n with
 | zero=>intro s l r h;simp [cN] at h
 | succ n ih=>?_
 intro s l r h;simp only [cN] at h
 split at h
 ·split at h
  ·have:=ih h
   rw [List.length_append,rM] at this;have:=gM hol (aQ s).2.2 (aQ s).1;omega
  have:=ih h;omega
 simp at h;subst h;show (strOfNums l).size <= _;rw [strOfNums_size];omega
def nc (ol : Ol) (s : Sd) : Sd × ByteArray:=match cN ol 17 (tick s) [] with | some r=>r | none=>(s,⟨#[]⟩)
theorem nY {ol : Ol} {s : Sd} (h : (cN ol 17 (tick s) []).isSome = true) : cN ol 17 (tick s) [] = some (nc ol s):=by
 obtain ⟨r,hr⟩:=Option.isSome_iff_exists.1 h;unfold nc;rw [hr]
def mA (ol : Ol) (x : Sv) : Sv × Rp :=
 (fN x (nc ol (bR x.kept)).1 (nc ol (bR x.kept)).2,{ b8 with dT:=(x.made : Int),text:=(nc ol (bR x.kept)).2 })
def js (x : Sv) (t : Tk) : Tk:=if t.fired = 0 then { t with now:=bR x.kept } else t
def lK (x : Sv) (t : Tk) : Bool:=decide (t.fired = 0) && decide (0 <= t.at_) && decide (t.at_ ≠ (x.made : Int) - 1)
def kC (ol : Ol) (x : Sv) (u : Nat) (t : Tk) : Sv × Rp × Bool :=
 if (cE ol t).2 != 0 then (ak x u (cE ol t).1,{ dW x (cE ol t).2 with idx:=((cE ol t).1.fired : Int) },true)
 else if (cE ol t).1.fired < (cE ol t).1.events.size then (ak x u (cE ol t).1,b8,false)
 else (fN (ak x u (cE ol t).1) (cE ol t).1.now (cE ol t).1.out,{ b8 with dT:=(x.made : Int),idx:=((cE ol t).1.fired : Int),text:=(cE ol t).1.out },true)
def kD (ol : Ol) (x : Sv) (u : Nat) (t : Tk) : Sv × Rp × Bool :=
 if lK x t then (x,dW x 14,true) else kC ol x u (js x t)
def cF (ol : Ol) (x : Sv) (u : Nat) (t : Tk) : Sv × Rp × Bool :=
 if t.kind = 2 then ((mA ol x).1,(mA ol x).2,true) else kD ol x u t
def lL (x : Sv) (u : Nat) (t : Tk) : Sv:={ ak x u { t with drawn:=true,ticket:=x.aN } with aN:=x.aN + 1 }
def iu (ol : Ol) (x : Sv) (u : Nat) (t : Tk) : Sv × Rp × Bool :=
 if t.drawn = false then (lL x u t,b8,false)
 else if t.ticket ≠ x.turn then (x,b8,false)
 else ({ (cF ol x u t).1 with turn:=if (cF ol x u t).2.2 then (cF ol x u t).1.turn + 1 else (cF ol x u t).1.turn },(cF ol x u t).2)
def fZ (ol : Ol) (x : Sv) (u : Nat) (t : Tk) : Sv × Rp × Bool :=
 if t.kind = 3 then ir ol x u t else if t.kind = 4 then (x,j0 x t.at_,true) else iu ol x u t
def lM (x : Sv) (u : Int) : Option Tk:=if 0 <= u then x.tasks[u.toNat]? else none
def bG (ol : Ol) (x : Sv) (u : Int) : Sv × Rp × Bool × Int:=match lM x u with
 | none=>(x,b8,false,10)
 | some t=>if t.kind = 0 then (x,b8,false,13)
   else (if (fZ ol x u.toNat t).2.2 then ak (fZ ol x u.toNat t).1 u.toNat cW else (fZ ol x u.toNat t).1,(fZ ol x u.toNat t).2.1,(fZ ol x u.toNat t).2.2,0)
structure Rq where
 kind : Int
 events : ByteArray
 at_ : Int
def dG (e : ByteArray) : Bool:=decide (1 <= e.size) && decide (e.size <= 4) && (List.range e.size).all (fun j=>bN (af e j))
def iC (r : Rq) : Bool :=
 if r.kind = 1 then dG r.events && decide (-1 <= r.at_)
 else if r.kind = 2 then decide (r.events.size = 0) && decide (r.at_ = 0)
 else if r.kind = 3 then decide (r.events.size = 0) && decide (-1 <= r.at_)
 else if r.kind = 4 then decide (r.events.size = 0) && decide (0 <= r.at_)
 else false
def mW (r : Rq) : Tk:={ cW with kind:=r.kind,events:=r.events,at_:=r.at_ }
def pn (x : Sv) (u : Int) (r : Rq) : Sv × Int:=match lM x u with
 | none=>(x,10)
 | some t=>if t.kind ≠ 0 then (x,11) else if iC r then (ak x u.toNat (mW r),0) else (x,12)
def gx (ol : Ol) (n : Nat) : Sv:=fN ⟨0,[],0,⟨#[]⟩,List.replicate n cW,0,0⟩ (mstart ol).1 (mstart ol).2.1
end Ch
section
variable (w : World) {xb tb : Nat} {pc : Pc} {ol : Ol} {x : Sv} {kv : Value}
theorem Ay (h : cj w xb tb 138 pc ol x kv) (hbd : x.Bd) (hol : ol.Ok) (hk : 0 < x.kept.length) (hok : (bR x.kept).Ok) (hnz : ∀ k,k < (bR x.kept).tm.size -> 1 <= af (bR x.kept).tm k) (hw : (cN ol 17 (Ch.tick (bR x.kept)) []).isSome = true) :
 Calls prog 228 #[.pointer (some ⟨xb,0,none⟩)] w fun r w'=>r = .returned (.agg (aZ (mA ol x).2)) /\ dF w w' xb tb 138 pc ol kv (mA ol x).1:=by
 obtain ⟨ds,hds,eH⟩:=cQ;obtain ⟨dr,hdr,gr⟩:=my;have hlow:=h.low;have K1 : Kp (fun _=>False) w (w.alloc (.cells aA 64)):=(Kp.refl _ _).alloc _;have hnew:=heap_alloc_new w (.cells aA 64);have h1:=h.au K1;have hmd:=hbd.made;have hwt:=nY hw;have hro:=yn (qG hok) hwt;have hrs:=sx hol 17 hwt;simp only [List.length_nil] at hrs;have EL:=hid (su _ h1.shelf hk hbd.yz);have HU:=hid (show mA ol x = (fN x (nc ol (bR x.kept)).1 (nc ol (bR x.kept)).2,{ b8 with dT:=(x.made : Int),text:=(nc ol (bR x.kept)).2 }) from rfl);generalize mA ol x = TS at *;generalize bR x.kept = ls at *
 have E1 : ∀ W,Pl W xb 0 ol -> Hid (Calls prog 77 #[.pointer (some ⟨xb,0,none⟩),.agg (aj ls).toArray] W fun r w'=>r = .returned (.tuple #[.agg (aj (nc ol ls).1).toArray,.string (nc ol ls).2]) /\ Kp (fun _=>False) W w'):=fun W h=>hid (uA W xb 0 ol ls 17 (nc ol ls) hwt (by omega) hnz hok h hol)
 generalize nc ol ls = wr at *;obtain ⟨fs,ft⟩:=wr;simp only at hro hrs HU E1;have sI:=cY hok.1;have sS:=dy hok.1;have sO:=fT ls;have fI:=cY hro.1;have fS:=dy hro.1;have fO:=fT fs;have HX:=hid (ae h1 (ae K1 (ae E1 hbd)));clear h h1 K1 hw hwt hnz E1 hok;generalize m9 : (aj ls).toArray = SA at *;generalize xJ : (aj fs).toArray = FA at *;have Bu:=hid xJ;clear m9 xJ
 go_enter func228,ntmps228
 go_upto_region 1 with (fail)
 generalize w.alloc (.cells aA 64) = w1 at *
 go_wp2_with fail
 refine hm EL ?_;rintro r w2 ⟨rfl,K2⟩;have hn2:=K2.at_ hnew (fun x=>x);have hnb:=heap_alloc_new w2 (.cells aF 95);have K3 : Kp (fun _=>False) w2 ((w2.alloc (.cells aF 95)).setRow w2.heap.size SA):=((Kp.refl _ _).alloc _).setRow (fun x=>by omega) _;have hb3:=setRow_heap (w2.alloc (.cells aF 95)) w2.heap.size aF SA 95 (0,0) hnb;have h3:=HX.out.1.au (K2.trans K3);have KA:=HX.out.2.1.trans (K2.trans K3);have iN:=K3.at_ hn2 (fun x=>x);have HY:=hid (ae h3 (ae KA iN));clear EL K2 K3 h3 KA iN hn2
 go_upto_region 2 with (refine wpList_store_row rfl 95 (.tmp 3) (.tmp 9) rfl w2.heap.size SA rfl rfl 95 aF hnb sI (by rw [sS];rfl) sO ?_)
 generalize (w2.alloc (.cells aF 95)).setRow w2.heap.size SA = w3 at *;generalize w2.heap.size = lb at *;simp only [Act.put]
 go_cut [4,5] from 10 to 17 (fun p e wx=>∃ fb,p = .pointer (some ⟨fb,0,none⟩) /\ e = .string ft /\ wx.heap[fb]? = some (.cells FA 95 (0,0)) /\ Kp (fun _=>False) w3 wx)
 case first =>
  have hp1:=HY.out.1.plan;have E1:=HX.out.2.2.1;have hS0 : w3.drew.heap[lb]? = some (.cells SA 95 (0,0)):=hb3;have jF : Kp (fun _=>False) w3 w3.drew:=(Kp.refl _ _).drewN 1;refine aB (fun w'=>w'.heap[lb]? = some (.cells SA 95 (0,0))) (by kernel_rfl) ?_;refine tj 0 11 (.pointer (some ⟨xb,0,none⟩)) hS0 ?_;refine tj 1 12 (.pointer (some ⟨xb,0,none⟩)) hS0 ?_;refine tj 2 13 (.pointer (some ⟨xb,0,none⟩)) hS0 ?_;refine tl 3 14 (.agg SA) rfl (fun w' hS=>aU 95 (.tmp 3) rfl lb rfl 95 SA (0,0) ds hS hds eH sI) hS0 ?_;refine iJ 4 8 (by kernel_rfl) rfl rfl rfl rfl ?_ ?_
  ·refine bD (some 15) rfl 77 #[.pointer (some ⟨xb,0,none⟩),.agg SA] (by simp [execOp,Act.eval,go_sem]) _ (fun w'=>Kp (fun _=>False) w3.drew w') (E1 w3.drew (hp1.keep jF (fun _ _ _ _ _ x=>x))).out ?_
   intro w5 K5;have i_:=K5.at_ hS0 (fun x=>x);have iU:=heap_alloc_new w5 (.cells aF 95);have JL : (w5.alloc (.cells aF 95)).heap[lb]? = some (.cells SA 95 (0,0)):=(Below.heap_alloc _ _ _ (lt_of_block i_)).trans i_
   have hne : lb ≠ w5.heap.size:=by have:=lt_of_block i_;omega
   have tQ : ((w5.alloc (.cells aF 95)).setRow w5.heap.size FA).heap[lb]? = some (.cells SA 95 (0,0)):=by rw [setRow_other _ _ _ _ hne];exact JL
   refine ⟨i_,?_⟩;refine tm 5 10 (.tuple #[.agg FA,.string ft]) rfl (fun w' _=>by simp [execOp,Act.eval,Act.put,go_sem]) i_ ?_;refine tm 6 16 (.agg FA) rfl (fun w' _=>by simp [execOp,Act.eval,Act.put,go_sem]) i_ ?_;refine tm 7 17 (.string ft) rfl (fun w' _=>by simp [execOp,Act.eval,Act.put,go_sem]) i_ ?_;refine dO 8 ?_;refine cP (some 4) rfl (.pointer (some ⟨w5.heap.size,0,none⟩)) (w5.alloc (.cells aF 95)) (by simp [execOp,go_sem]) ?_;refine ⟨JL,?_⟩;refine bE 9 (by kernel_rfl) rfl rfl 95 (.tmp 4) (.tmp 16) rfl rfl w5.heap.size FA (by simp [Act.eval,Act.put]) (by simp [Act.eval,Act.put]) 95 aF iU fI (by rw [fS];rfl) fO tQ ?_;refine tm 10 5 (.string ft) rfl (fun w' _=>by simp [execOp,Act.eval,Act.put,go_sem]) tQ ?_;refine wpAnyH_done (by kernel_rfl) (NoPanic.normal ?_) _;simp only [Act.put,pA,pB,pC]
   go_wp2_with fail
   go_meet
   exact ⟨w5.heap.size,rfl,rfl,setRow_heap _ _ _ _ _ _ iU,((jF.trans K5).alloc _).setRow (fun x=>by have:=(jF.trans K5).size;omega) _⟩
  refine cP (some 4) rfl (.pointer (some ⟨w3.heap.size,0,none⟩)) (w3.drew.alloc (.cells aF 95)) (by simp [execOp,go_sem]) ?_;have Lu:=heap_alloc_new w3.drew (.cells aF 95);have BM:=jF.alloc (.cells aF 95);have BN : (w3.drew.alloc (.cells aF 95)).heap[lb]? = some (.cells SA 95 (0,0)):=(Below.heap_alloc _ _ _ (lt_of_block hS0)).trans hS0;refine ⟨BN,?_⟩;refine dO 4 ?_;simp only [Act.put,pA,pB,pC];refine bD (some 15) rfl 77 #[.pointer (some ⟨xb,0,none⟩),.agg SA] (by simp [execOp,Act.eval,go_sem]) _ (fun w'=>Kp (fun _=>False) (w3.drew.alloc (.cells aF 95)) w') (E1 _ (hp1.keep BM (fun _ _ _ _ _ x=>x))).out ?_;intro w5 K5;have i_:=K5.at_ BN (fun x=>x);have iU : w5.heap[w3.heap.size]? = some (.cells aF 95 (0,0)):=K5.at_ (k:=w3.heap.size) (by exact Lu) (fun x=>x)
  have hne : lb ≠ w3.heap.size:=by have:=lt_of_block hS0;have e : w3.drew.heap.size = w3.heap.size:=rfl;omega
  have tQ : (w5.setRow w3.heap.size FA).heap[lb]? = some (.cells SA 95 (0,0)):=by rw [setRow_other _ _ _ _ hne];exact i_
  refine ⟨i_,?_⟩;refine tm 5 10 (.tuple #[.agg FA,.string ft]) rfl (fun w' _=>by simp [execOp,Act.eval,Act.put,go_sem]) i_ ?_;refine tm 6 16 (.agg FA) rfl (fun w' _=>by simp [execOp,Act.eval,Act.put,go_sem]) i_ ?_;refine tm 7 17 (.string ft) rfl (fun w' _=>by simp [execOp,Act.eval,Act.put,go_sem]) i_ ?_;refine bE 9 (by kernel_rfl) rfl rfl 95 (.tmp 4) (.tmp 16) rfl rfl w3.heap.size FA (by simp [Act.eval,Act.put]) (by simp [Act.eval,Act.put]) 95 aF iU fI (by rw [fS];rfl) fO tQ ?_;refine tm 10 5 (.string ft) rfl (fun w' _=>by simp [execOp,Act.eval,Act.put,go_sem]) tQ ?_;refine wpAnyH_done (by kernel_rfl) (NoPanic.normal ?_) _;simp only [Act.put,pA,pB,pC]
  go_wp2_with fail
  go_meet
  exact ⟨w3.heap.size,rfl,rfl,setRow_heap _ _ _ _ _ _ iU,(BM.trans K5).setRow (fun x=>by omega) _⟩
 case rest =>
  obtain ⟨fb,rfl,rfl,vU,KC⟩:=hcut;have hC:=HY.out.1.au KC;have KA:=HY.out.2.1.trans KC;have Ht:=KC.at_ HY.out.2.2 (fun x=>x);have EP:=hid (lJ wc hC HX.out.2.2.2 fs hro.1 ft (by omega));rw [Bu.out] at EP;have HC:=hid (ae hC KA);clear KC hC KA hb3 hnb;generalize QI : fN x fs ft = XX at *;have HM:=hid (show ((XX.made : Int) - 1) = (x.made : Int) by rw [<- QI];show ((x.made + 1 : Nat) : Int) - 1 = _;omega)
  have UP : XX.made <= 1000000000000000:=by rw [<- QI];show x.made + 1 <= _;omega
  clear QI
  go_wp2_with (refine wpList_load_row rfl 95 (.tmp 4) rfl fb rfl 95 FA (0,0) ds vU hds (by cases ds <;> first | rfl | exact absurd eH (by simp [ar])) fI ?_)
  refine hm EP ?_;rintro r w6 ⟨rfl,q6⟩;have kM:=q6.at_ hlow Ht;obtain ⟨UQ,h6,n6,K6⟩:=q6;have EA:=hid (gN w6 h6.shelf UP)
  have q6 : dF wc w6 xb tb 138 pc ol kv XX:=⟨UQ,h6,n6,K6⟩
  generalize kB : ({ b8 with dT:=(XX.made : Int) - 1,text:=ft } : Rp) = RP at *;have HR:=hid kB;have HQ:=hid (dF.fB (HC.out.2.mono (fun _ _ x=>x.elim)) q6 kM (aZ RP));have et:=setRow_heap w6 w.heap.size aA (aZ RP) 64 (0,0) kM;clear EP q6 h6 n6 K6 kB Ht vU
  go_wp2_with fail
  refine hm EA ?_;rintro r w7 ⟨rfl,rfl⟩;clear EA
  go_wp2_with (refine wpList_store_row rfl 64 (.tmp 2) (.tmp 27) rfl w.heap.size (aZ RP) rfl (by rw [<- HR.out];rfl) 64 aA kM aV rfl (cT _) ?_)
  refine bodyPost_ret (results_cell_row rfl _ _ w.heap.size 64 (aZ RP) (0,0) dr rfl et hdr (by cases dr <;> first | rfl | exact absurd gr (by simp [ar])) aV) rfl ?_;rw [HU.out,<- HM.out,HR.out];exact ⟨rfl,HQ.out⟩
end
end Go.Proofs.YtnlbchmfcebeeaaGreat
