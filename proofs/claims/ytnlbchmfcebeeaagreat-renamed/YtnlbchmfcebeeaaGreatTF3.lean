import Derived.Test.YtnlbchmfcebeeaaGreatTF2
set_option maxHeartbeats 12800000
set_option maxRecDepth 100000
namespace Go.Proofs.YtnlbchmfcebeeaaGreat
open Go.RowKit
namespace Ch
def takeA (ss : List St) (a : As) : Bool × Sd:=take ss a.act a.past a.tm a.x a.y a.z
def lgE (t : ByteArray) (a : As) : Int:=if (read t).1 != 0 then (read t).1 else if (takeA (read t).2.2.sts a).1 then 0 else 7
def lgS (t : ByteArray) (a : As) : Sd:=if (read t).1 != 0 then noSd else if (takeA (read t).2.2.sts a).1 then (takeA (read t).2.2.sts a).2 else noSd
theorem read_rf (t : ByteArray) (h : (read t).1 = 0) : (read t).2.1 = 0:=by
 unfold read at *
 split at h
 ·simp at h
 rename_i q0;rw [if_neg q0] at *
 split at h
 ·rename_i q1
  rw [if_pos q1] at *
  split at h
  ·rename_i q2;rw [if_pos q2]
  rename_i q2;simp only at h;rw [h] at q2;simp at q2
 simp at h
structure As.Sm (a : As) : Prop where
 act : a.act.size ≤ 9223372036854775807
 past : a.past.size ≤ 9223372036854775807
 tm : a.tm.size ≤ 9223372036854775807
end Ch
section
variable (w : World)
theorem cRead_any (t : ByteArray) (a : Ch.As) (ha : a.Sm) :
 Calls Tryz.prog 55 #[.string t,.agg (asA a)] w fun x w'=>∃ sv tv bv lt lb,x = .returned (.agg (sgA (Ch.lgE t a) sv tv bv (Ch.lgS t a))) ∧
  (sv.oneCell' = true ∧ tv.oneCell' = true ∧ bv.oneCell' = true) ∧ (Ch.lgE t a = 0 → OlF w' w.heap.size (Ch.read t).2.2 sv tv bv lt lb) ∧ Kp (fun _=>False) w w':=by
 obtain ⟨dg,hdg,hga⟩:=Tryz.undSg;obtain ⟨da,hdA,hdAa⟩:=Tryz.undAs;obtain ⟨dO,hdO,hdOa⟩:=Tryz.undOl;obtain ⟨ds,hds,hda⟩:=Tryz.undStand
 have hb1 : ((w.alloc (.cells (asA a) 26)).alloc (.cells yL42 119)).heap[w.heap.size]? = some (.cells (asA a) 26):=by
  rw [Below.heap_alloc _ _ _ (by simp)];exact heap_alloc_new _ _
 have hr1 : ((w.alloc (.cells (asA a) 26)).alloc (.cells yL42 119)).heap[w.heap.size + 1]? = some (.cells yL42 119):=heap_alloc2_new w _ _;have K1 : Kp (fun _=>False) w ((w.alloc (.cells (asA a) 26)).alloc (.cells yL42 119)):=((Kp.refl _ _).alloc _).alloc _;have E0:=hid (read_any t ((w.alloc (.cells (asA a) 26)).alloc (.cells yL42 119)));have hol:=Ch.read_ok t;have hrf:=Ch.read_rf t;have HU:=hid (show Ch.lgE t a = if (Ch.read t).1 != 0 then (Ch.read t).1 else if (Ch.takeA (Ch.read t).2.2.sts a).1 then 0 else 7 from rfl);have HV:=hid (show Ch.lgS t a = if (Ch.read t).1 != 0 then Ch.noSd else if (Ch.takeA (Ch.read t).2.2.sts a).1 then (Ch.takeA (Ch.read t).2.2.sts a).2 else Ch.noSd from rfl);have HW:=hid (show asA a = asA a from rfl);generalize hAA : asA a = AA at hb1 hr1 K1 E0 HW ⊢
 have aI : (Tryz.prog.info? 26).map (·.size) = some AA.size:=by rw [← hAA];exact Tryz.sizeAs
 have HAA:=hid hAA;clear hAA HW
 go_enter Tryz.func55,Tryz.ntmps55
 go_wp2_with fail
 refine hm E0 ?_;rintro x w2 ⟨sv,tv,bv,lt,lb,rfl,F2,B2⟩;have K2:=kpOfBelow B2;have hb2:=K2.at_ hb1 (fun x=>x);have hr2:=K2.at_ hr1 (fun x=>x);have KA:=K1.trans K2;have hws : w.heap.size ≤ ((w.alloc (.cells AA 26)).alloc (.cells yL42 119)).heap.size:=K1.size
 have F2' : OlF w2 w.heap.size (Ch.read t).2.2 sv tv bv lt lb :=
  ⟨own_weaken F2.sts hws,F2.mtr,own_weaken F2.trs hws,fun x hx=>own_weaken (F2.tra x hx) hws,F2.mbl,own_weaken F2.bls hws,fun x hx=>own_weaken (F2.bla x hx) hws⟩
 clear E0 hb1 hr1 K1 K2 B2 F2 hws;generalize hrd : Ch.read t = rd at *;obtain ⟨re,rf,ol⟩:=rd;have HRD:=hid hrd;clear hrd;simp only at hol F2' HU HV hrf;have o1:=own_one F2'.sts;have o2:=own_one F2'.trs;have o3:=own_one F2'.bls;have oOne:=olOne (e:=re) (f:=rf) o1 o2 o3;have hnew:=heap_alloc_new w2 (.cells y5L 87);have hrow:=setRow_heap (w2.alloc (.cells y5L 87)) w2.heap.size _ (olA re rf sv tv bv) 87 (0,0) hnew;have K3 : Kp (fun _=>False) w2 ((w2.alloc (.cells y5L 87)).setRow w2.heap.size (olA re rf sv tv bv)):=((Kp.refl _ _).alloc _).setRow (fun x=>by omega) _;have F3:=F2'.keep0 K3;have hb3:=K3.at_ hb2 (fun x=>x);have hr3:=K3.at_ hr2 (fun x=>x);have KB:=KA.trans K3;have hlt : w.heap.size + 1 < w2.heap.size:=lt_of_block hr2;have HX:=hid (And.intro F3 (And.intro hb3 (And.intro hr3 (And.intro KB hrow))));clear hb2 hr2 KA K3 F3 hb3 hr3 KB hrow F2'
 go_upto_region 2 with (refine wpList_store_row rfl 87 (.tmp 5) (.tmp 9) rfl w2.heap.size (olA re rf sv tv bv) rfl rfl 87 y5L hnew Tryz.sizeOl rfl oOne ?_)
 generalize (w2.alloc (.cells y5L 87)).setRow w2.heap.size (olA re rf sv tv bv) = w3 at *;obtain ⟨F3,hb3,hr3,KB,hrow⟩:=HX.out
 have z0 : w3.cell? ⟨w2.heap.size,0,none⟩ = some (.int .i64 re):=by rw [World.cell?,hrow];rfl
 clear hnew oOne F3 hb3 KB hrow;generalize w2.heap.size = ob at *
 cases q1 : re != 0 with
 | true =>
   have HE:=hid (HU.out.trans (show _ = re by rw [q1];rfl));have HS:=hid (HV.out.trans (show _ = Ch.noSd by rw [q1];rfl));have HB:=hid (built_sg_err re);have hgI:=sgA_info re (.slice none 0 0) (.slice none 0 0) (.slice none 0 0) Ch.noSd_wf;have hgS:=sgA_size re (.slice none 0 0) (.slice none 0 0) (.slice none 0 0) Ch.noSd_wf;have hgO:=sgA_one re (sv:=.slice none 0 0) (tv:=.slice none 0 0) (bv:=.slice none 0 0) rfl rfl rfl Ch.noSd
   have hre : re ≠ 0:=by simpa using q1
   generalize hGA : sgA re (.slice none 0 0) (.slice none 0 0) (.slice none 0 0) Ch.noSd = GA at *;have HG:=hid hGA;clear hGA
   go_wp2_with (first | (refine wpList_build_eq rfl 119 #[(0,.tmp 14)] rfl GA [(0,.int .i64 re)] ?_ HB.out ?_;rfl) | refine wpList_store_row rfl 119 (.tmp 4) (.tmp 15) rfl (w.heap.size + 1) GA rfl rfl 119 yL42 hr3 hgI (by rw [hgS];rfl) hgO ?_)
   obtain ⟨F3,hb3,hr3,KB,hrow⟩:=HX.out;refine bodyPost_ret (results_cell_row rfl _ _ (w.heap.size + 1) 119 GA (0,0) dg rfl (setRow_heap _ _ _ _ _ _ hr3) hdg (by cases dg <;> first | rfl | exact absurd hga (by simp [isAggD])) hgI) rfl ?_;rw [HE.out,HS.out,← HG.out];exact ⟨_,_,_,lt,lb,rfl,⟨rfl,rfl,rfl⟩,fun e=>absurd e hre,KB.setRow (fun x=>by omega) _⟩
 | false=>?_
 have hre : re = 0:=by simpa using q1
 have HU2:=hid (HU.out.trans (show _ = if (Ch.takeA ol.sts a).1 then (0 : Int) else 7 by rw [q1];rfl));have HV2:=hid (HV.out.trans (show _ = if (Ch.takeA ol.sts a).1 then (Ch.takeA ol.sts a).2 else Ch.noSd by rw [q1];rfl));obtain ⟨F3,hb3,hr3',KB,hrow⟩:=HX.out;have hp3:=Pl.ofRow hrow F3;have E1:=hid (take_any2 ob 0 w3 ol.sts a.act a.past a.tm a.x a.y a.z ha.act ha.past ha.tm hp3.str (by have:=hol.sts;omega));have hTok:=Ch.take_okA (ss:=ol.sts) (a:=a.act) (p:=a.past) (t:=a.tm) (x:=a.x) (y:=a.y) (z:=a.z)
 have E1' : Hid (Calls Tryz.prog 79 #[.pointer (some ⟨ob,0,none⟩),.agg AA] w3
  fun r w'=>r = .returned (.tuple #[.agg (sdAll (Ch.takeA ol.sts a).2).toArray,.bool (Ch.takeA ol.sts a).1]) ∧ Kp (fun _=>False) w3 w'):=by rw [← HAA.out];exact E1
 have hTok' : (Ch.takeA ol.sts a).2.Ok:=hTok;clear F3 KB hrow E1 hTok hp3 HU HV;generalize Ch.takeA ol.sts a = tk at *;obtain ⟨tb,ts⟩:=tk;simp only at hTok' HU2 HV2 E1';have tI:=sdInfo hTok'.1;have tS:=sdSize hTok'.1;have tO:=sdOne ts
 go_wp2_with (refine wpList_load_row rfl 26 (.tmp 3) rfl w.heap.size rfl 26 AA (0,0) da hb3 hdA (by cases da <;> first | rfl | exact absurd hdAa (by simp [isAggD])) aI ?_)
 refine Calls.mono (Hid.out E1') ?_;rintro x w4 ⟨rfl,K4⟩;obtain ⟨F3,hb3,hr3,KB,hrow⟩:=HX.out;have F4:=F3.keep0 K4;have hr4:=K4.at_ hr3 (fun x=>x);have hrow4:=K4.at_ hrow (fun x=>x);have KC:=KB.trans K4;have hnew:=heap_alloc_new w4 (.cells yS36 95);have hrow5:=setRow_heap (w4.alloc (.cells yS36 95)) w4.heap.size yS36 (sdAll ts).toArray 95 (0,0) hnew;have K5 : Kp (fun _=>False) w4 ((w4.alloc (.cells yS36 95)).setRow w4.heap.size (sdAll ts).toArray):=((Kp.refl _ _).alloc _).setRow (fun x=>by omega) _;have F5:=F4.keep0 K5;have hr5:=K5.at_ hr4 (fun x=>x);have ho5:=K5.at_ hrow4 (fun x=>x);have KD:=KC.trans K5;have HY:=hid (And.intro F5 (And.intro hr5 KD));have HT:=hid (show (sdAll ts).toArray = (sdAll ts).toArray from rfl);clear F3 hb3 hr3 hr3' KB hrow F4 hr4 hrow4 KC K4 K5 HX E1' F5 KD z0;generalize hTA : (sdAll ts).toArray = TA at *;have HTA:=hid hTA;clear hTA HT
 go_upto_region 5 with (refine wpList_store_row rfl 95 (.tmp 6) (.tmp 19) rfl w4.heap.size TA rfl rfl 95 yS36 hnew tI (by rw [tS];rfl) tO ?_)
 generalize (w4.alloc (.cells yS36 95)).setRow w4.heap.size TA = w5 at *;generalize w4.heap.size = tb5 at *
 cases tb with
 | false =>
   have HE:=hid (HU2.out.trans (show _ = (7 : Int) from rfl));have HS:=hid (HV2.out.trans (show _ = Ch.noSd from rfl));have HB:=hid (built_sg_err 7);have hgI:=sgA_info 7 (.slice none 0 0) (.slice none 0 0) (.slice none 0 0) Ch.noSd_wf;have hgS:=sgA_size 7 (.slice none 0 0) (.slice none 0 0) (.slice none 0 0) Ch.noSd_wf;have hgO:=sgA_one 7 (sv:=.slice none 0 0) (tv:=.slice none 0 0) (bv:=.slice none 0 0) rfl rfl rfl Ch.noSd;generalize hGA : sgA 7 (.slice none 0 0) (.slice none 0 0) (.slice none 0 0) Ch.noSd = GA at *;have HG:=hid hGA;clear hGA
   go_wp2_with (first | (refine wpList_build_eq rfl 119 #[(0,.const (.int .i64 7))] rfl GA [(0,.int .i64 7)] ?_ HB.out ?_;rfl) | refine wpList_store_row rfl 119 (.tmp 4) (.tmp 23) rfl (w.heap.size + 1) GA rfl rfl 119 yL42 hr5 hgI (by rw [hgS];rfl) hgO ?_)
   obtain ⟨F5,hr5,KD⟩:=HY.out;refine bodyPost_ret (results_cell_row rfl _ _ (w.heap.size + 1) 119 GA (0,0) dg rfl (setRow_heap _ _ _ _ _ _ hr5) hdg (by cases dg <;> first | rfl | exact absurd hga (by simp [isAggD])) hgI) rfl ?_;rw [HE.out,HS.out,← HG.out];exact ⟨_,_,_,lt,lb,rfl,⟨rfl,rfl,rfl⟩,fun e=>absurd e (by decide),KD.setRow (fun x=>by omega) _⟩
 | true=>?_
 have HE:=hid (HU2.out.trans (show _ = (0 : Int) from rfl));have HS:=hid (HV2.out.trans (show _ = ts from rfl));obtain ⟨F5,hr5',KD⟩:=HY.out;obtain ⟨sa,sl,sc,rfl⟩:=own_slice F5.sts;obtain ⟨ta,tl,tc,rfl⟩:=own_slice F5.trs;obtain ⟨ba,bl,bc,rfl⟩:=own_slice F5.bls;have hrf0:=hrf hre;subst hre hrf0;have HB : Hid (Tryz.prog.built 119 [(1,.agg (olA 0 0 (.slice sa sl sc) (.slice ta tl tc) (.slice ba bl bc))),(2,.agg TA)] = some (sgA 0 (.slice sa sl sc) (.slice ta tl tc) (.slice ba bl bc) ts)):=hid (by rw [← HTA.out];exact built_sg_ok sa ta ba sl sc tl tc bl bc ts hTok'.1);have hgI:=sgA_info 0 (.slice sa sl sc) (.slice ta tl tc) (.slice ba bl bc) hTok'.1;have hgS:=sgA_size 0 (.slice sa sl sc) (.slice ta tl tc) (.slice ba bl bc) hTok'.1;have hgO:=sgA_one 0 (sv:=.slice sa sl sc) (tv:=.slice ta tl tc) (bv:=.slice ba bl bc) rfl rfl rfl ts;have oI : (Tryz.prog.info? 87).map (·.size) = some (olA 0 0 (.slice sa sl sc) (.slice ta tl tc) (.slice ba bl bc)).size:=Tryz.sizeOl;clear F5 KD hr5';generalize hGA : sgA 0 (.slice sa sl sc) (.slice ta tl tc) (.slice ba bl bc) ts = GA at *;have HG:=hid hGA;clear hGA;generalize olA 0 0 (.slice sa sl sc) (.slice ta tl tc) (.slice ba bl bc) = OA at *
 go_wp2_with (first | refine wpList_load_row rfl 87 (.tmp 5) rfl ob rfl 87 OA (0,0) dO ho5 hdO (by cases dO <;> first | rfl | exact absurd hdOa (by simp [isAggD])) oI ?_ | refine wpList_load_row rfl 95 (.tmp 6) rfl tb5 rfl 95 TA (0,0) ds hrow5 hds (by cases ds <;> first | rfl | exact absurd hda (by simp [isAggD])) tI ?_ | (refine wpList_build_eq rfl 119 #[(1,.tmp 24),(2,.tmp 25)] rfl GA [(1,.agg OA),(2,.agg TA)] ?_ HB.out ?_;rfl) | refine wpList_store_row rfl 119 (.tmp 4) (.tmp 26) rfl (w.heap.size + 1) GA rfl rfl 119 yL42 hr5 hgI (by rw [hgS];rfl) hgO ?_)
 obtain ⟨F5,hr5',KD⟩:=HY.out;refine bodyPost_ret (results_cell_row rfl _ _ (w.heap.size + 1) 119 GA (0,0) dg rfl (setRow_heap _ _ _ _ _ _ hr5) hdg (by cases dg <;> first | rfl | exact absurd hga (by simp [isAggD])) hgI) rfl ?_;have KR : Kp (fun k=>k = w.heap.size + 1) w5 (w5.setRow (w.heap.size + 1) GA):=Kp.setRow (S:=fun k=>k = w.heap.size + 1) (Kp.refl _ _) (g:=w.heap.size + 1) (fun _=>rfl) _
 have hN : ∀ {base e size v n xs},w5.ownsRow base e size v n xs → e ≠ 119 → ∀ i,v.ownBlock = some i → ¬ i = w.heap.size + 1:=by
  intro base e size v n xs ho he i hi hx;obtain ⟨cur,hc⟩:=own_block ho hi;rw [hx,hr5] at hc;simp at hc;exact he hc.2.symm
 rw [HE.out,HS.out,← HG.out];refine ⟨_,_,_,rfl,⟨rfl,rfl,rfl⟩,⟨lt,lb,fun _=>?_⟩,KD.setRow (fun x=>by omega) _⟩;rw [HG.out,HRD.out];exact ⟨KR.owns F5.sts (hN F5.sts (by decide)),F5.mtr,KR.owns F5.trs (hN F5.trs (by decide)),fun x hx=>KR.owns (F5.tra x hx) (hN (F5.tra x hx) (by decide)),F5.mbl,KR.owns F5.bls (hN F5.bls (by decide)),fun x hx=>KR.owns (F5.bla x hx) (hN (F5.bla x hx) (by decide))⟩
end
namespace Ch
theorem waitF_ok {ol : Ol} : ∀ {n : Nat} {s : Sd} {l : List Int} {r : Sd × ByteArray},s.Ok → waitF ol n s l = some r → r.1.Ok:=by
 intro n
 induction n with
 | zero=>intro s l r _ h;simp [waitF] at h
 | succ n ih=>?_
 intro s l r hs h;simp only [waitF] at h
 split at h
 ·split at h
  ·exact ih (mfire_ok (takeDue_ok hs) _) h
  exact ih (takeDue_ok hs) h
 simp at h;subst h;exact takeDue_ok hs
def cWait (n : Nat) (t : ByteArray) (a : As) : As × ByteArray × Int :=
 if lgE t a != 0 then (as0,⟨#[]⟩,lgE t a) else match waitF (read t).2.2 n (tick (lgS t a)) [] with
  | some r=>(asOf (read t).2.2.sts r.1,r.2,0)
  | none=>(as0,⟨#[]⟩,0)
theorem tmF_pos {t : ByteArray} : ∀ (f k : Nat),tmF t f k = true → t.size ≤ k + 2 * f → (t.size - k) % 2 = 0 → ∀ j,k ≤ j → j < t.size → 1 ≤ peek t j:=by
 intro f
 induction f with
 | zero=>intro k _ h1 _ j h2 h3;omega
 | succ f ih=>?_
 intro k h h1 hm j h2 h3;simp only [tmF] at h
 split at h
 ·rename_i q
  split at h
  ·rename_i q2
   simp only [Bool.and_eq_true,Bool.not_eq_true',decide_eq_false_iff_not,isEv,decide_eq_true_eq] at q2
   rcases Nat.lt_or_ge j (k + 2) with e | e
   ·rcases Nat.eq_or_lt_of_le h2 with e2 | e2
    ·subst e2;omega
    obtain rfl : j = k + 1:=by omega
    omega
   exact ih (k + 2) h (by omega) (by omega) j e h3
  simp at h
 omega
theorem areTm_pos {t : ByteArray} (h : areTm t = true) : ∀ j,j < t.size → 1 ≤ peek t j:=by
 unfold areTm at h
 split at h
 ·simp at h
 rename_i q;simp only [Bool.or_eq_true,bne_iff_ne,decide_eq_true_eq,not_or,Decidable.not_not] at q;intro j hj;exact tmF_pos t.size 0 h (by omega) (by omega) j (Nat.zero_le _) hj
theorem take_tm {ss : List St} {a p t : ByteArray} {x y z : Int} (h : (take ss a p t x y z).1 = true) : areTm (take ss a p t x y z).2.tm = true:=by
 unfold take at *
 split
 ·rename_i q1
  rw [if_pos q1] at h
  split
  ·rename_i q2
   rw [if_pos q2] at h
   split
   ·rename_i q3
    simp only [Bool.and_eq_true] at q3;exact q3.1.1.1
   rename_i q3;rw [if_neg q3] at h;simp at h
  rename_i q2;rw [if_neg q2] at h;simp at h
 rename_i q1;rw [if_neg q1] at h;simp at h
theorem lg_zero {t : ByteArray} {a : As} (h : lgE t a = 0) : (read t).1 = 0 ∧ (takeA (read t).2.2.sts a).1 = true ∧ lgS t a = (takeA (read t).2.2.sts a).2:=by
 unfold lgE at h;unfold lgS
 split at h
 ·rename_i q;simp at q;exact absurd h q
 rename_i q
 split at h
 ·rename_i q2;exact ⟨by simpa using q,q2,by rw [if_neg q,if_pos q2]⟩
 simp at h
theorem lgS_ok (t : ByteArray) (a : As) : (lgS t a).Ok:=by
 unfold lgS
 split
 ·exact noSd_ok
 split
 ·exact take_okA
 exact noSd_ok
end Ch
theorem sgStand {w : World} {cb : Nat} {e : Int} {sv tv bv : Value} {s : Ch.Sd} {T : TypeId} (h : w.heap[cb]? = some (.cells (sgA e sv tv bv s) T (0,0))) : ∀ j v,(sdAll s)[j]? = some v → w.cell? ⟨cb,6 + j,none⟩ = some v:=by
 intro j v hj;rw [World.cell?,h];show ((([Value.int .i64 e,.int .i64 0,.int .i64 0,sv,tv,bv] ++ sdAll s).toArray)[6 + j]?) = some v;rw [List.getElem?_toArray,List.getElem?_append_right (by simp)];simpa using hj
theorem Pl.ofSg {w : World} {cb B : Nat} {ol : Ch.Ol} {e : Int} {sv tv bv : Value} {s : Ch.Sd} {lt : List (Ch.Tr × Value)} {lb : List (Ch.Bl × Value)} (h : w.heap[cb]? = some (.cells (sgA e sv tv bv s) 119 (0,0))) (F : OlF w B ol sv tv bv lt lb) : Pl w cb 1 ol :=
 ⟨sv,tv,bv,lt,lb,B,_,_,⟨h,.inr (.inl rfl),rfl,rfl,rfl⟩,F⟩
section
variable (w : World)
theorem cWait_any (n : Nat) (hn : n ≤ 1000) (t : ByteArray) (a : Ch.As) (ha : a.Sm) (hw : Ch.lgE t a = 0 → (Ch.waitF (Ch.read t).2.2 n (Ch.tick (Ch.lgS t a)) []).isSome = true) :
 Calls Tryz.prog 48 #[.string t,.agg (asA a)] w fun x w'=>x = .returned (.tuple #[.agg (asA (Ch.cWait n t a).1),.string (Ch.cWait n t a).2.1,.int .i64 (Ch.cWait n t a).2.2]) ∧ Kp (fun _=>False) w w':=by
 obtain ⟨da,hdA,hdAa⟩:=Tryz.undAs;obtain ⟨ds,hds,hda⟩:=Tryz.undStand
 have hb1 : ((w.alloc (.cells (asA a) 26)).alloc (.cells y6S 26)).heap[w.heap.size]? = some (.cells (asA a) 26):=by
  rw [Below.heap_alloc _ _ _ (by simp)];exact heap_alloc_new _ _
 have hr1 : ((w.alloc (.cells (asA a) 26)).alloc (.cells y6S 26)).heap[w.heap.size + 1]? = some (.cells y6S 26):=heap_alloc2_new w _ _;have K1 : Kp (fun _=>False) w ((w.alloc (.cells (asA a) 26)).alloc (.cells y6S 26)):=((Kp.refl _ _).alloc _).alloc _;have E0:=hid (cRead_any ((w.alloc (.cells (asA a) 26)).alloc (.cells y6S 26)) t a ha);have hol:=Ch.read_ok t;have hlok:=Ch.lgS_ok t a
 have hpos : Ch.lgE t a = 0 → ∀ k,k < (Ch.lgS t a).tm.size → 1 ≤ Ch.peek (Ch.lgS t a).tm k:=by
  intro h;obtain ⟨_,h2,h3⟩:=Ch.lg_zero h;rw [h3];exact Ch.areTm_pos (Ch.take_tm h2)
 have HU:=hid (show Ch.cWait n t a = if Ch.lgE t a != 0 then (Ch.as0,⟨#[]⟩,Ch.lgE t a) else match Ch.waitF (Ch.read t).2.2 n (Ch.tick (Ch.lgS t a)) [] with
  | some r=>(Ch.asOf (Ch.read t).2.2.sts r.1,r.2,0)
  | none=>(Ch.as0,⟨#[]⟩,0) from rfl)
 generalize hAA : asA a = AA at hb1 hr1 K1 E0 ⊢
 have aI : (Tryz.prog.info? 26).map (·.size) = some AA.size:=by rw [← hAA];exact Tryz.sizeAs
 clear hAA;generalize Ch.lgE t a = le at *;generalize Ch.lgS t a = ls at *;generalize (Ch.read t).2.2 = ol at *
 go_enter Tryz.func48,Tryz.ntmps48
 go_upto_region 1 with (fail)
 generalize (w.alloc (.cells AA 26)).alloc (.cells y6S 26) = w1 at *
 go_wp2_with (refine wpList_load_row rfl 26 (.tmp 3) rfl w.heap.size rfl 26 AA (0,0) da hb1 hdA (by cases da <;> first | rfl | exact absurd hdAa (by simp [isAggD])) aI ?_)
 refine cMo E0 ?_;rintro x w2 ⟨sv,tv,bv,lt,lb,rfl,⟨o1,o2,o3⟩,F2,K2⟩;have hr2:=K2.at_ hr1 (fun x=>x);have KA:=K1.trans K2;have gI:=sgA_info le sv tv bv hlok.1;have gS:=sgA_size le sv tv bv hlok.1;have gO:=sgA_one le o1 o2 o3 ls;have hnew:=heap_alloc_new w2 (.cells yL42 119);have hrow:=setRow_heap (w2.alloc (.cells yL42 119)) w2.heap.size _ (sgA le sv tv bv ls) 119 (0,0) hnew;have K3 : Kp (fun _=>False) w2 ((w2.alloc (.cells yL42 119)).setRow w2.heap.size (sgA le sv tv bv ls)):=((Kp.refl _ _).alloc _).setRow (fun x=>by omega) _;have hr3:=K3.at_ hr2 (fun x=>x);have KB:=KA.trans K3
 have F3 : le = 0 → OlF ((w2.alloc (.cells yL42 119)).setRow w2.heap.size (sgA le sv tv bv ls)) w1.heap.size ol sv tv bv lt lb:=fun h=>(F2 h).keep0 K3
 have hlt : w.heap.size + 1 < w2.heap.size:=lt_of_block hr2
 have z0 : ((w2.alloc (.cells yL42 119)).setRow w2.heap.size (sgA le sv tv bv ls)).cell? ⟨w2.heap.size,0,none⟩ = some (.int .i64 le):=by rw [World.cell?,hrow];rfl
 have hst:=sgStand hrow;have HX:=hid (And.intro F3 (And.intro hr3 (And.intro KB hrow)));clear E0 hb1 hr1 K1 K2 hr2 KA F2 F3 hr3 KB hrow K3 aI;generalize hGA : sgA le sv tv bv ls = GA at *;have HGA:=hid hGA;clear hGA
 go_upto_region 2 with (refine wpList_store_row rfl 119 (.tmp 7) (.tmp 12) rfl w2.heap.size GA rfl rfl 119 yL42 hnew gI (by rw [gS];rfl) gO ?_)
 generalize (w2.alloc (.cells yL42 119)).setRow w2.heap.size GA = w3 at *;generalize w2.heap.size = cb at *;clear hnew gI gS gO
 cases q1 : le != 0 with
 | true =>
   have HF:=hid (HU.out.trans (show _ = (Ch.as0,(⟨#[]⟩ : ByteArray),le) by rw [q1];rfl))
   go_upto_region 3 with (fail)
   obtain ⟨F3,hr3,KB,hrow⟩:=HX.out;have hS0 : w3.drew.cell? ⟨cb,0,none⟩ = some (.int .i64 le):=z0
   have hne : cb ≠ w.heap.size + 1:=by omega
   have hS1 : (w3.drew.setRow (w.heap.size + 1) y6S).cell? ⟨cb,0,none⟩ = some (.int .i64 le):=by
    have e : (w3.drew.setRow (w.heap.size + 1) y6S).heap[cb]? = w3.drew.heap[cb]?:=setRow_other _ _ _ _ hne;unfold World.cell? at *;simp only at *;rw [e];exact hS0
   have KF : Kp (fun _=>False) w (w3.drew.setRow (w.heap.size + 1) y6S):=(KB.drewN 1).setRow (fun x=>by omega) _;refine region_begin (fun w'=>w'.cell? ⟨cb,0,none⟩ = some (.int .i64 le)) (by kernel_rfl) ?_;refine tk 0 16 (.agg y6S) rfl (by kernel_rfl) rfl rfl (fun w' _=>exec_build 26 #[] rfl y6S [] rfl (by kernel_rfl)) hS0 ?_;refine tk 1 17 (.pointer (some ⟨cb,0,none⟩)) rfl (by kernel_rfl) rfl rfl (fun w' _=>by simp [execOp,Act.eval,Act.put,go_sem]) hS0 ?_;refine tk 2 18 (.int .i64 le) rfl (by kernel_rfl) rfl rfl (fun w' hS=>by simp [execOp,Act.eval,Act.put,go_sem,hS]) hS0 ?_;refine do_store 3 (by kernel_rfl) rfl rfl 26 (.tmp 4) (.tmp 16) rfl rfl (w.heap.size + 1) y6S (by simp [Act.eval,Act.put]) (by simp [Act.eval,Act.put]) 26 y6S (by exact hr3) Tryz.sizeAs rfl (asOne Ch.as0) hS1 ?_;refine tk 4 5 (.string ⟨#[]⟩) rfl (by kernel_rfl) rfl rfl (fun w' _=>by rfl) hS1 ?_;refine tk 5 6 (.int .i64 le) rfl (by kernel_rfl) rfl rfl (fun w' _=>by simp [execOp,Act.eval,Act.put,go_sem]) hS1 ?_;refine wpAnyH_done (by kernel_rfl) (NoPanic.normal ?_) _;simp only [Act.put,pA,pB,pC];go_wp2;refine bodyPost_ret (results_cell_tmp2 rfl _ _ (w.heap.size + 1) 26 y6S (0,0) da rfl (setRow_heap w3.drew _ _ _ _ _ (by exact hr3)) hdA hdAa Tryz.sizeAs) rfl ?_;rw [HF.out];exact ⟨rfl,KF⟩
 | false=>?_
 have hle : le = 0:=by simpa using q1
 subst hle;obtain ⟨r,hr⟩:=Option.isSome_iff_exists.1 (hw rfl);have HF:=hid (HU.out.trans (show _ = (Ch.asOf ol.sts r.1,r.2,(0 : Int)) by rw [hr];rfl));obtain ⟨F3,hr3,KB,hrow⟩:=HX.out;have hp3 : Pl w3 cb 1 ol:=Pl.ofSg (by rw [HGA.out];exact hrow) (F3 rfl);have E1:=hid (mwait_any w3 cb 1 ol ls n r hr hn (hpos rfl) hlok hp3 hol);have hrok:=Ch.waitF_ok (Ch.tick_ok hlok) hr
 have hlI : (Tryz.prog.info? 95).map (·.size) = some (sdAll ls).length:=by rw [sdAll_len hlok.1];exact Tryz.sizeStand
 have HZ:=hid hp3;clear F3 hr3 KB hrow hp3 HU hw hr hpos;obtain ⟨rs,rt⟩:=r;simp only at hrok HF E1;have fI:=sdInfo hrok.1;have fS:=sdSize hrok.1;have fO:=sdOne rs
 go_wp2_with (refine wpList_load_part rfl 95 (.tmp 21) rfl cb 6 rfl (sdAll ls) ds hst hds hda hlI ?_)
 refine cMo E1 ?_;rintro x w4 ⟨rfl,K4⟩;obtain ⟨F3,hr3,KB,hrow⟩:=HX.out;have hp4:=HZ.out.keep K4 (fun _ _ _ _ _ x=>x);have hr4:=K4.at_ hr3 (fun x=>x);have KC:=KB.trans K4;have hnew:=heap_alloc_new w4 (.cells yS36 95);have hrow5:=setRow_heap (w4.alloc (.cells yS36 95)) w4.heap.size yS36 (sdAll rs).toArray 95 (0,0) hnew;have K5 : Kp (fun _=>False) w4 ((w4.alloc (.cells yS36 95)).setRow w4.heap.size (sdAll rs).toArray):=((Kp.refl _ _).alloc _).setRow (fun x=>by omega) _;have h5:=SdB.ofRowS hrow5;have hp5:=hp4.keep K5 (fun _ _ _ _ _ x=>x);have hr5:=K5.at_ hr4 (fun x=>x);have KD:=KC.trans K5;have E2:=hid (state_out_any cb 1 ((w4.alloc (.cells yS36 95)).setRow w4.heap.size (sdAll rs).toArray) ol.sts w4.heap.size 0 [] rs [] 95 hp5.str (by have:=hol.sts;omega) h5 hrok.1 rfl);have HY:=hid (And.intro hr5 KD);clear F3 hr3 KB hrow hp4 hr4 KC K4 K5 h5 hp5 hr5 KD HX E1 hrow5 HZ hst z0;generalize (sdAll rs).toArray = FA at *
 go_upto_region 5 with (refine wpList_store_row rfl 95 (.tmp 8) (.tmp 24) rfl w4.heap.size FA rfl rfl 95 yS36 hnew fI (by rw [fS];rfl) fO ?_)
 generalize (w4.alloc (.cells yS36 95)).setRow w4.heap.size FA = w5 at *;generalize w4.heap.size = fb at *;clear fI fS fO hnew
 go_wp2_with fail
 refine cMo E2 ?_;rintro x w6 ⟨rfl,K6⟩;obtain ⟨hr5,KD⟩:=HY.out;have hr6:=K6.at_ hr5 (fun x=>x);have KF : Kp (fun _=>False) w (w6.setRow (w.heap.size + 1) (asA (Ch.asOf ol.sts rs))):=(KD.trans K6).setRow (fun x=>by omega) _;clear KD hr5 HY E2
 go_wp2_with (refine wpList_store_row rfl 26 (.tmp 4) (.tmp 27) rfl (w.heap.size + 1) (asA (Ch.asOf ol.sts rs)) rfl rfl 26 y6S hr6 Tryz.sizeAs rfl (asOne _) ?_)
 refine bodyPost_ret (results_cell_tmp2 rfl _ _ (w.heap.size + 1) 26 (asA (Ch.asOf ol.sts rs)) (0,0) da rfl (setRow_heap _ _ _ _ _ _ hr6) hdA hdAa Tryz.sizeAs) rfl ?_;rw [HF.out];exact ⟨rfl,KF⟩
end
namespace Ch
def cFire (t : ByteArray) (a : As) (ev : ByteArray) : As × ByteArray × Int :=
 if lgE t a != 0 then (as0,⟨#[]⟩,lgE t a) else if decide (ev.size = 1) && isEv (peek ev 0) then
  (if (mfire (read t).2.2 (lgS t a) (peek ev 0)).2.2 != 0 then (as0,⟨#[]⟩,(mfire (read t).2.2 (lgS t a) (peek ev 0)).2.2)
   else (asOf (read t).2.2.sts (mfire (read t).2.2 (lgS t a) (peek ev 0)).1,(mfire (read t).2.2 (lgS t a) (peek ev 0)).2.1,0)) else (as0,⟨#[]⟩,8)
end Ch
section
variable (w : World)
theorem cFire_any (t : ByteArray) (a : Ch.As) (ev : ByteArray) (ha : a.Sm) :
 Calls Tryz.prog 31 #[.string t,.agg (asA a),.string ev] w fun x w'=>x = .returned (.tuple #[.agg (asA (Ch.cFire t a ev).1),.string (Ch.cFire t a ev).2.1,.int .i64 (Ch.cFire t a ev).2.2]) ∧ Kp (fun _=>False) w w':=by
 obtain ⟨da,hdA,hdAa⟩:=Tryz.undAs;obtain ⟨ds,hds,hda⟩:=Tryz.undStand
 have hb1 : ((w.alloc (.cells (asA a) 26)).alloc (.cells y6S 26)).heap[w.heap.size]? = some (.cells (asA a) 26):=by
  rw [Below.heap_alloc _ _ _ (by simp)];exact heap_alloc_new _ _
 have hr1 : ((w.alloc (.cells (asA a) 26)).alloc (.cells y6S 26)).heap[w.heap.size + 1]? = some (.cells y6S 26):=heap_alloc2_new w _ _;have K1 : Kp (fun _=>False) w ((w.alloc (.cells (asA a) 26)).alloc (.cells y6S 26)):=((Kp.refl _ _).alloc _).alloc _;have E0:=hid (cRead_any ((w.alloc (.cells (asA a) 26)).alloc (.cells y6S 26)) t a ha);have hol:=Ch.read_ok t;have hlok:=Ch.lgS_ok t a
 have HU:=hid (show Ch.cFire t a ev = if Ch.lgE t a != 0 then (Ch.as0,⟨#[]⟩,Ch.lgE t a) else if decide (ev.size = 1) && Ch.isEv (Ch.peek ev 0) then
  (if (Ch.mfire (Ch.read t).2.2 (Ch.lgS t a) (Ch.peek ev 0)).2.2 != 0 then (Ch.as0,⟨#[]⟩,(Ch.mfire (Ch.read t).2.2 (Ch.lgS t a) (Ch.peek ev 0)).2.2)
   else (Ch.asOf (Ch.read t).2.2.sts (Ch.mfire (Ch.read t).2.2 (Ch.lgS t a) (Ch.peek ev 0)).1,(Ch.mfire (Ch.read t).2.2 (Ch.lgS t a) (Ch.peek ev 0)).2.1,0)) else (Ch.as0,⟨#[]⟩,8) from rfl)
 generalize hAA : asA a = AA at hb1 hr1 K1 E0 ⊢
 have aI : (Tryz.prog.info? 26).map (·.size) = some AA.size:=by rw [← hAA];exact Tryz.sizeAs
 clear hAA;generalize Ch.lgE t a = le at *;generalize Ch.lgS t a = ls at *;generalize (Ch.read t).2.2 = ol at *
 go_enter Tryz.func31,Tryz.ntmps31
 go_upto_region 1 with (fail)
 generalize (w.alloc (.cells AA 26)).alloc (.cells y6S 26) = w1 at *
 go_wp2_with (refine wpList_load_row rfl 26 (.tmp 4) rfl w.heap.size rfl 26 AA (0,0) da hb1 hdA (by cases da <;> first | rfl | exact absurd hdAa (by simp [isAggD])) aI ?_)
 refine hm E0 ?_;rintro x w2 ⟨sv,tv,bv,lt,lb,rfl,⟨o1,o2,o3⟩,F2,K2⟩;have hr2:=K2.at_ hr1 (fun x=>x);have KA:=K1.trans K2;have gI:=sgA_info le sv tv bv hlok.1;have gS:=sgA_size le sv tv bv hlok.1;have gO:=sgA_one le o1 o2 o3 ls;have hnew:=heap_alloc_new w2 (.cells yL42 119);have hrow:=setRow_heap (w2.alloc (.cells yL42 119)) w2.heap.size _ (sgA le sv tv bv ls) 119 (0,0) hnew;have K3 : Kp (fun _=>False) w2 ((w2.alloc (.cells yL42 119)).setRow w2.heap.size (sgA le sv tv bv ls)):=((Kp.refl _ _).alloc _).setRow (fun x=>by omega) _;have hr3:=K3.at_ hr2 (fun x=>x);have KB:=KA.trans K3
 have F3 : le = 0 → OlF ((w2.alloc (.cells yL42 119)).setRow w2.heap.size (sgA le sv tv bv ls)) w1.heap.size ol sv tv bv lt lb:=fun h=>(F2 h).keep0 K3
 have hlt : w.heap.size + 1 < w2.heap.size:=lt_of_block hr2
 have z0 : ((w2.alloc (.cells yL42 119)).setRow w2.heap.size (sgA le sv tv bv ls)).cell? ⟨w2.heap.size,0,none⟩ = some (.int .i64 le):=by rw [World.cell?,hrow];rfl
 have hst:=sgStand hrow;have HX:=hid (And.intro F3 (And.intro hr3 (And.intro KB hrow)));clear E0 hb1 hr1 K1 K2 hr2 KA F2 F3 hr3 KB hrow K3 aI;generalize hGA : sgA le sv tv bv ls = GA at *;have HGA:=hid hGA;clear hGA
 go_upto_region 2 with (refine wpList_store_row rfl 119 (.tmp 9) (.tmp 15) rfl w2.heap.size GA rfl rfl 119 yL42 hnew gI (by rw [gS];rfl) gO ?_)
 generalize (w2.alloc (.cells yL42 119)).setRow w2.heap.size GA = w3 at *;generalize w2.heap.size = cb at *;clear hnew gI gS gO
 cases q1 : le != 0 with
 | true =>
   have HF:=hid (HU.out.trans (show _ = (Ch.as0,(⟨#[]⟩ : ByteArray),le) by rw [q1];rfl))
   go_upto_region 3 with (fail)
   obtain ⟨F3,hr3,KB,hrow⟩:=HX.out;have hS0 : w3.drew.cell? ⟨cb,0,none⟩ = some (.int .i64 le):=z0
   have hne : cb ≠ w.heap.size + 1:=by omega
   have hS1 : (w3.drew.setRow (w.heap.size + 1) y6S).cell? ⟨cb,0,none⟩ = some (.int .i64 le):=by
    have e : (w3.drew.setRow (w.heap.size + 1) y6S).heap[cb]? = w3.drew.heap[cb]?:=setRow_other _ _ _ _ hne;unfold World.cell? at *;simp only at *;rw [e];exact hS0
   have KF : Kp (fun _=>False) w (w3.drew.setRow (w.heap.size + 1) y6S):=(KB.drewN 1).setRow (fun x=>by omega) _;refine region_begin (fun w'=>w'.cell? ⟨cb,0,none⟩ = some (.int .i64 le)) (by kernel_rfl) ?_;refine tk 0 19 (.agg y6S) rfl (by kernel_rfl) rfl rfl (fun w' _=>exec_build 26 #[] rfl y6S [] rfl (by kernel_rfl)) hS0 ?_;refine tk 1 20 (.pointer (some ⟨cb,0,none⟩)) rfl (by kernel_rfl) rfl rfl (fun w' _=>by simp [execOp,Act.eval,Act.put,go_sem]) hS0 ?_;refine tk 2 21 (.int .i64 le) rfl (by kernel_rfl) rfl rfl (fun w' hS=>by simp [execOp,Act.eval,Act.put,go_sem,hS]) hS0 ?_;refine do_store 3 (by kernel_rfl) rfl rfl 26 (.tmp 6) (.tmp 19) rfl rfl (w.heap.size + 1) y6S (by simp [Act.eval,Act.put]) (by simp [Act.eval,Act.put]) 26 y6S (by exact hr3) Tryz.sizeAs rfl (asOne Ch.as0) hS1 ?_;refine tk 4 7 (.string ⟨#[]⟩) rfl (by kernel_rfl) rfl rfl (fun w' _=>by rfl) hS1 ?_;refine tk 5 8 (.int .i64 le) rfl (by kernel_rfl) rfl rfl (fun w' _=>by simp [execOp,Act.eval,Act.put,go_sem]) hS1 ?_;refine wpAnyH_done (by kernel_rfl) (NoPanic.normal ?_) _;simp only [Act.put,pA,pB,pC];go_wp2;refine bodyPost_ret (results_cell_tmp2 rfl _ _ (w.heap.size + 1) 26 y6S (0,0) da rfl (setRow_heap w3.drew _ _ _ _ _ (by exact hr3)) hdA hdAa Tryz.sizeAs) rfl ?_;rw [HF.out];exact ⟨rfl,KF⟩
 | false=>?_
 have hle : le = 0:=by simpa using q1
 subst hle
 have HV:=hid (HU.out.trans (show _ = if decide (ev.size = 1) && Ch.isEv (Ch.peek ev 0) then
  (if (Ch.mfire ol ls (Ch.peek ev 0)).2.2 != 0 then (Ch.as0,(⟨#[]⟩ : ByteArray),(Ch.mfire ol ls (Ch.peek ev 0)).2.2)
   else (Ch.asOf ol.sts (Ch.mfire ol ls (Ch.peek ev 0)).1,(Ch.mfire ol ls (Ch.peek ev 0)).2.1,0)) else (Ch.as0,⟨#[]⟩,8) from rfl))
 by_cases hs : ev.size = 1
 ·have hs' : (ev.size : Int) = 1:=by omega
  have hpk : Ch.peek ev 0 = ((ev[0]'(by omega)).toNat : Int):=by simp [Ch.peek,hs]
  rw [hpk] at HV;have EV:=hid (isEvent_any ((ev[0]'(by omega)).toNat : Int) w3)
  cases q2 : Ch.isEv ((ev[0]'(by omega)).toNat : Int) with
  | false =>
    rw [q2] at EV;have HF:=hid (HV.out.trans (show _ = (Ch.as0,(⟨#[]⟩ : ByteArray),(8 : Int)) by rw [q2];simp))
    go_wp2_with fail
    refine hm EV ?_;rintro x w4 ⟨rfl,rfl⟩;obtain ⟨F3,hr3,KB,hrow⟩:=HX.out;have KF : Kp (fun _=>False) w (w4.setRow (w.heap.size + 1) y6S):=KB.setRow (fun x=>by omega) _;clear F3 KB hrow
    go_wp2_with (refine wpList_store_row rfl 26 (.tmp 6) (.tmp 31) rfl (w.heap.size + 1) y6S rfl rfl 26 y6S hr3 Tryz.sizeAs rfl (asOne Ch.as0) ?_)
    refine bodyPost_ret (results_cell_tmp2 rfl _ _ (w.heap.size + 1) 26 y6S (0,0) da rfl (setRow_heap _ _ _ _ _ _ hr3) hdA hdAa Tryz.sizeAs) rfl ?_;rw [HF.out];exact ⟨rfl,KF⟩
  | true=>?_
  rw [q2] at EV
  have hev0 : ev[0]? = some (ev[0]'(by omega)):=by rw [getElem?_pos]
  generalize hc : ((ev[0]'(by omega)).toNat : Int) = c at *
  have HW:=hid (HV.out.trans (show _ = if (Ch.mfire ol ls c).2.2 != 0 then (Ch.as0,(⟨#[]⟩ : ByteArray),(Ch.mfire ol ls c).2.2)
   else (Ch.asOf ol.sts (Ch.mfire ol ls c).1,(Ch.mfire ol ls c).2.1,0) by rw [q2];simp [hs]))
  go_wp2_with fail
  refine hm EV ?_;rintro x w4 ⟨rfl,rfl⟩;obtain ⟨F3,hr3,KB,hrow⟩:=HX.out;have hp3 : Pl w4 cb 1 ol:=Pl.ofSg (by rw [HGA.out];exact hrow) (F3 (by first | rfl | trivial));have hfok:=Ch.mfire_ok (ol:=ol) hlok c
  have hlI : (Tryz.prog.info? 95).map (·.size) = some (sdAll ls).length:=by rw [sdAll_len hlok.1];exact Tryz.sizeStand
  have E1 : ∀ W,Pl W cb 1 ol → Hid (Calls Tryz.prog 57 #[.pointer (some ⟨cb,1,none⟩),.agg (sdAll ls).toArray,.int .u8 c] W fun x w'=>x = .returned (.tuple #[.agg (sdAll (Ch.mfire ol ls c).1).toArray,.string (Ch.mfire ol ls c).2.1,.int .i64 (Ch.mfire ol ls c).2.2]) ∧ Kp (fun _=>False) W w'):=fun W h=>hid (mfire_any W cb 1 ol ls c hlok h hol)
  have HZ:=hid (And.intro hp3 hrow)
  have hgst : ∀ w' : World,w'.heap[cb]? = some (.cells GA 119 (0,0)) → ∀ j v,(sdAll ls)[j]? = some v → w'.cell? ⟨cb,6 + j,none⟩ = some v:=fun w' h=>sgStand (by rw [HGA.out];exact h)
  clear F3 hr3 KB hp3 HU EV HV hst z0;generalize hmf : Ch.mfire ol ls c = mf at *;obtain ⟨fs,ft,fe⟩:=mf;clear hmf;simp only at hfok HW E1;have fI:=sdInfo hfok.1;have fS:=sdSize hfok.1;have fO:=sdOne fs;generalize hFA : (sdAll fs).toArray = FA at *;have HFA:=hid hFA;clear hFA
  go_upto_region 6 with (fail)
  go_cut [10,11,12] from 32 to 41 (fun p e f wx=>∃ fb,p = .pointer (some ⟨fb,0,none⟩) ∧ e = .string ft ∧ f = .int .i64 fe ∧ SdB wx fb [] fs [] 95 ∧ Kp (fun _=>False) w4 wx)
  case first =>
   have hS0 : w4.drew.heap[cb]? = some (.cells GA 119 (0,0)):=hrow;have KD0 : Kp (fun _=>False) w4 w4.drew:=(Kp.refl _ _).drewN 1
   have hcev : (Ch.peek ev 0) = c:=by rw [hpk]
   refine region_begin (fun w'=>w'.heap[cb]? = some (.cells GA 119 (0,0))) (by kernel_rfl) ?_;refine tk 0 33 (.pointer (some ⟨cb,1,none⟩)) rfl (by kernel_rfl) rfl rfl (fun w' _=>by simp [execOp,Act.eval,go_sem]) hS0 ?_;refine tk 1 34 (.pointer (some ⟨cb,6,none⟩)) rfl (by kernel_rfl) rfl rfl (fun w' _=>by simp [execOp,Act.eval,Act.put,go_sem]) hS0 ?_;refine tk 2 35 (.agg (sdAll ls).toArray) rfl (by kernel_rfl) rfl rfl (fun w' hS=>exec_load_part 95 (.tmp 34) rfl cb 6 (by simp [Act.eval,Act.put]) (sdAll ls) ds (hgst w' hS) hds hda hlI) hS0 ?_;refine tk 3 36 (.string ev) rfl (by kernel_rfl) rfl rfl (fun w' _=>by simp [execOp,Act.eval,Act.put,go_sem]) hS0 ?_;refine tk 4 37 (.int .u8 c) rfl (by kernel_rfl) rfl rfl (fun w' _=>by simp [execOp,Act.eval,Act.put,go_sem,hs,hc]) hS0 ?_;simp only [Act.put,pA,pB,pC];refine do_two 5 10 (by kernel_rfl) rfl rfl rfl rfl ?_ ?_
   ·refine wp_enter (some 38) rfl 57 #[.pointer (some ⟨cb,1,none⟩),.agg (sdAll ls).toArray,.int .u8 c] (by simp [execOp,Act.eval,go_sem]) _ (fun w'=>Kp (fun _=>False) w4.drew w') (E1 w4.drew (HZ.out.1.keep KD0 (fun _ _ _ _ _ x=>x))).out ?_
    intro w5 K5;have HS5:=K5.at_ hS0 (fun x=>x);have hnew:=heap_alloc_new w5 (.cells yS36 95);have HS6 : (w5.alloc (.cells yS36 95)).heap[cb]? = some (.cells GA 119 (0,0)):=(Below.heap_alloc _ _ _ (lt_of_block HS5)).trans HS5
    have hne : cb ≠ w5.heap.size:=by have:=lt_of_block HS5;omega
    have HS7 : ((w5.alloc (.cells yS36 95)).setRow w5.heap.size FA).heap[cb]? = some (.cells GA 119 (0,0)):=by rw [setRow_other _ _ _ _ hne];exact HS6
    refine ⟨HS5,?_⟩;refine tk 6 32 (.tuple #[.agg FA,.string ft,.int .i64 fe]) rfl (by kernel_rfl) rfl rfl (fun w' _=>by simp [execOp,Act.eval,Act.put,go_sem]) HS5 ?_;refine tk 7 39 (.agg FA) rfl (by kernel_rfl) rfl rfl (fun w' _=>by simp [execOp,Act.eval,Act.put,go_sem]) HS5 ?_;refine tk 8 40 (.string ft) rfl (by kernel_rfl) rfl rfl (fun w' _=>by simp [execOp,Act.eval,Act.put,go_sem]) HS5 ?_;refine tk 9 41 (.int .i64 fe) rfl (by kernel_rfl) rfl rfl (fun w' _=>by simp [execOp,Act.eval,Act.put,go_sem]) HS5 ?_;refine do_op 10 (by kernel_rfl) rfl rfl ?_;refine wp_run (some 10) rfl (.pointer (some ⟨w5.heap.size,0,none⟩)) (w5.alloc (.cells yS36 95)) (by simp [execOp,go_sem]) ?_;refine ⟨HS6,?_⟩;refine do_store 11 (by kernel_rfl) rfl rfl 95 (.tmp 10) (.tmp 39) rfl rfl w5.heap.size FA (by simp [Act.eval,Act.put]) (by simp [Act.eval,Act.put]) 95 yS36 hnew fI (by rw [fS];rfl) fO HS7 ?_;refine tk 12 11 (.string ft) rfl (by kernel_rfl) rfl rfl (fun w' _=>by simp [execOp,Act.eval,Act.put,go_sem]) HS7 ?_;refine tk 13 12 (.int .i64 fe) rfl (by kernel_rfl) rfl rfl (fun w' _=>by simp [execOp,Act.eval,Act.put,go_sem]) HS7 ?_;refine wpAnyH_done (by kernel_rfl) (NoPanic.normal ?_) _;simp only [Act.put,pA,pB,pC]
    go_wp2_with fail
    go_meet
    exact ⟨w5.heap.size,rfl,rfl,rfl,SdB.ofRowS (by rw [HFA.out];exact setRow_heap _ _ _ _ _ _ hnew),((KD0.trans K5).alloc _).setRow (fun x=>by have:=(KD0.trans K5).size;omega) _⟩
   refine wp_run (some 10) rfl (.pointer (some ⟨w4.heap.size,0,none⟩)) (w4.drew.alloc (.cells yS36 95)) (by simp [execOp,go_sem]) ?_;have hnew:=heap_alloc_new w4.drew (.cells yS36 95);have KD1:=KD0.alloc (.cells yS36 95);have HS4 : (w4.drew.alloc (.cells yS36 95)).heap[cb]? = some (.cells GA 119 (0,0)):=(Below.heap_alloc _ _ _ (lt_of_block hS0)).trans hS0;refine ⟨HS4,?_⟩;refine do_op 5 (by kernel_rfl) rfl rfl ?_;simp only [Act.put,pA,pB,pC];refine wp_enter (some 38) rfl 57 #[.pointer (some ⟨cb,1,none⟩),.agg (sdAll ls).toArray,.int .u8 c] (by simp [execOp,Act.eval,go_sem]) _ (fun w'=>Kp (fun _=>False) (w4.drew.alloc (.cells yS36 95)) w') (E1 _ (HZ.out.1.keep KD1 (fun _ _ _ _ _ x=>x))).out ?_;intro w5 K5;have HS5:=K5.at_ HS4 (fun x=>x);have hnew5 : w5.heap[w4.heap.size]? = some (.cells yS36 95 (0,0)):=K5.at_ (k:=w4.heap.size) (by exact hnew) (fun x=>x)
   have hne : cb ≠ w4.heap.size:=by have:=lt_of_block hS0;have e : w4.drew.heap.size = w4.heap.size:=rfl;omega
   have HS7 : (w5.setRow w4.heap.size FA).heap[cb]? = some (.cells GA 119 (0,0)):=by rw [setRow_other _ _ _ _ hne];exact HS5
   refine ⟨HS5,?_⟩;refine tk 6 32 (.tuple #[.agg FA,.string ft,.int .i64 fe]) rfl (by kernel_rfl) rfl rfl (fun w' _=>by simp [execOp,Act.eval,Act.put,go_sem]) HS5 ?_;refine tk 7 39 (.agg FA) rfl (by kernel_rfl) rfl rfl (fun w' _=>by simp [execOp,Act.eval,Act.put,go_sem]) HS5 ?_;refine tk 8 40 (.string ft) rfl (by kernel_rfl) rfl rfl (fun w' _=>by simp [execOp,Act.eval,Act.put,go_sem]) HS5 ?_;refine tk 9 41 (.int .i64 fe) rfl (by kernel_rfl) rfl rfl (fun w' _=>by simp [execOp,Act.eval,Act.put,go_sem]) HS5 ?_;refine do_store 11 (by kernel_rfl) rfl rfl 95 (.tmp 10) (.tmp 39) rfl rfl w4.heap.size FA (by simp [Act.eval,Act.put]) (by simp [Act.eval,Act.put]) 95 yS36 hnew5 fI (by rw [fS];rfl) fO HS7 ?_;refine tk 12 11 (.string ft) rfl (by kernel_rfl) rfl rfl (fun w' _=>by simp [execOp,Act.eval,Act.put,go_sem]) HS7 ?_;refine tk 13 12 (.int .i64 fe) rfl (by kernel_rfl) rfl rfl (fun w' _=>by simp [execOp,Act.eval,Act.put,go_sem]) HS7 ?_;refine wpAnyH_done (by kernel_rfl) (NoPanic.normal ?_) _;simp only [Act.put,pA,pB,pC]
   go_wp2_with fail
   go_meet
   exact ⟨w4.heap.size,rfl,rfl,rfl,SdB.ofRowS (by rw [HFA.out];exact setRow_heap _ _ _ _ _ _ hnew5),(KD1.trans K5).setRow (fun x=>by omega) _⟩
  case rest =>
   obtain ⟨fb,rfl,rfl,rfl,h5,K5⟩:=hcut;obtain ⟨F3,hr3,KB,_⟩:=HX.out;have hp5:=HZ.out.1.keep K5 (fun _ _ _ _ _ x=>x);have hr5:=K5.at_ hr3 (fun x=>x);have KD:=KB.trans K5;have HY:=hid (And.intro hr5 KD);have E2:=hid (state_out_any cb 1 wc ol.sts fb 0 [] fs [] 95 hp5.str (by have:=hol.sts;omega) h5 hfok.1 rfl);clear F3 hr3 KB HX E1 HZ hgst h5 hp5 K5 hrow
   cases q3 : fe != 0 with
   | true =>
     have HF:=hid (HW.out.trans (show _ = (Ch.as0,(⟨#[]⟩ : ByteArray),fe) by rw [q3];rfl));have KF : Kp (fun _=>False) w (wc.setRow (w.heap.size + 1) y6S):=KD.setRow (fun x=>by omega) _;clear KD HW
     go_wp2_with (refine wpList_store_row rfl 26 (.tmp 6) (.tmp 44) rfl (w.heap.size + 1) y6S rfl rfl 26 y6S hr5 Tryz.sizeAs rfl (asOne Ch.as0) ?_)
     refine bodyPost_ret (results_cell_tmp2 rfl _ _ (w.heap.size + 1) 26 y6S (0,0) da rfl (setRow_heap _ _ _ _ _ _ hr5) hdA hdAa Tryz.sizeAs) rfl ?_;rw [HF.out];exact ⟨rfl,KF⟩
   | false=>?_
   have HF:=hid (HW.out.trans (show _ = (Ch.asOf ol.sts fs,ft,(0 : Int)) by rw [q3];rfl));clear KD HW hr5
   go_wp2_with fail
   refine hm E2 ?_;rintro x w6 ⟨rfl,K6⟩;obtain ⟨hr5,KD⟩:=HY.out;have hr6:=K6.at_ hr5 (fun x=>x);have KF : Kp (fun _=>False) w (w6.setRow (w.heap.size + 1) (asA (Ch.asOf ol.sts fs))):=(KD.trans K6).setRow (fun x=>by omega) _;clear KD hr5 HY E2
   go_wp2_with (refine wpList_store_row rfl 26 (.tmp 6) (.tmp 47) rfl (w.heap.size + 1) (asA (Ch.asOf ol.sts fs)) rfl rfl 26 y6S hr6 Tryz.sizeAs rfl (asOne _) ?_)
   refine bodyPost_ret (results_cell_tmp2 rfl _ _ (w.heap.size + 1) 26 (asA (Ch.asOf ol.sts fs)) (0,0) da rfl (setRow_heap _ _ _ _ _ _ hr6) hdA hdAa Tryz.sizeAs) rfl ?_;rw [HF.out];exact ⟨rfl,KF⟩
 have hs' : ¬ (ev.size : Int) = 1:=by omega
 have HF:=hid (HV.out.trans (show _ = (Ch.as0,(⟨#[]⟩ : ByteArray),(8 : Int)) by simp [hs]));obtain ⟨F3,hr3,KB,hrow⟩:=HX.out;have KF : Kp (fun _=>False) w (w3.setRow (w.heap.size + 1) y6S):=KB.setRow (fun x=>by omega) _;clear F3 KB hrow
 go_wp2_with (refine wpList_store_row rfl 26 (.tmp 6) (.tmp 31) rfl (w.heap.size + 1) y6S rfl rfl 26 y6S hr3 Tryz.sizeAs rfl (asOne Ch.as0) ?_)
 refine bodyPost_ret (results_cell_tmp2 rfl _ _ (w.heap.size + 1) 26 y6S (0,0) da rfl (setRow_heap _ _ _ _ _ _ hr3) hdA hdAa Tryz.sizeAs) rfl ?_;rw [HF.out];exact ⟨rfl,KF⟩
end
end Go.Proofs.YtnlbchmfcebeeaaGreat
