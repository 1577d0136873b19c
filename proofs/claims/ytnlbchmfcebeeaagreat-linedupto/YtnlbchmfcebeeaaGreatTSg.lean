import Derived.Test.YtnlbchmfcebeeaaGreatTSf
set_option maxHeartbeats 12800000
set_option maxRecDepth 100000
namespace Go.Proofs.YtnlbchmfcebeeaaGreat
open Go.Proofs.Tryz Ch
open Go.RowKit
namespace Ch
structure QO (ol : Ol) (x : Sv) (t : Tk) : Prop where
 hk : 0 < x.kept.length
 ok : (bR x.kept).Ok
 nz : ∀ k,k < (bR x.kept).tm.size -> 1 <= af (bR x.kept).tm k
 wt : (cN ol 17 (tick (bR x.kept)) []).isSome = true
 now : (js x t).now.Ok
 fi : t.fired <= 1000
 ou : t.out.size <= 1000000000
theorem Az (ol : Ol) (x : Sv) (u : Nat) (t : Tk) : (cF ol x u t).1.turn = x.turn:=by
 unfold cF
 split
 ·rfl
 unfold kD
 split
 ·rfl
 unfold kC
 split
 ·rfl
 split <;> rfl
theorem DE (ol : Ol) (x : Sv) (u : Nat) (t : Tk) : (cF ol x u t).1.tasks.length = x.tasks.length:=by
 unfold cF
 split
 ·rfl
 unfold kD
 split
 ·rfl
 unfold kC
 split
 ·simp [ak]
 split
 ·simp [ak]
 simp [ak,fN]
end Ch
section
variable (w : World) {xb tb : Nat} {pc : Pc} {ol : Ol} {x : Sv} {kv : Value}
theorem AB (h : cj w xb tb 138 pc ol x kv) (hbd : x.Bd) (hol : ol.Ok) {u : Nat} {t : Tk} (hu : x.tasks[u]? = some t) (hg : QO ol x t) :
 Calls prog 192 #[.pointer (some ⟨xb,0,none⟩),.pointer (some ⟨tb,u * 45,none⟩)] w fun r w'=>r = .returned (.tuple #[.agg (aZ (cF ol x u t).2.1),.bool (cF ol x u t).2.2]) /\ dF w w' xb tb 138 pc ol kv (cF ol x u t).1:=by
 have hlow:=h.low;have K1 : Kp (fun _=>False) w (w.alloc (.cells aA 64)):=(Kp.refl _ _).alloc _;have hnew:=heap_alloc_new w (.cells aA 64);have h1:=h.au K1;have c0 : (w.alloc (.cells aA 64)).cell? ⟨tb,u * 45,none⟩ = some (.int .i64 t.kind):=h1.dK hu (j:=0) (by omega);have HU:=hid (show cF ol x u t = if t.kind = 2 then ((mA ol x).1,(mA ol x).2,true) else kD ol x u t from rfl);generalize cF ol x u t = MS at *
 by_cases q : t.kind = 2
 ·have ET:=hid (Ay _ h1 hbd hol hg.hk hg.ok hg.nz hg.wt)
  have HF:=hid (HU.out.trans (if_pos q));generalize mA ol x = TS at *;clear HU h h1 hu hg hbd
  go_enter func192,ntmps192
  go_upto_region 1 with (fail)
  generalize w.alloc (.cells aA 64) = w1 at *
  go_wp2_with fail
  refine hm ET ?_;rintro r w2 ⟨rfl,q2⟩;have hn2:=q2.at_ hlow hnew;have HQ:=hid (dF.fB (K1.mono (fun _ _ x=>x.elim)) q2 hn2 (aZ TS.2));have et:=setRow_heap w2 w.heap.size aA (aZ TS.2) 64 (0,0) hn2;clear ET q2 hnew
  go_wp2_with (refine wpList_store_row rfl 64 (.tmp 4) (.tmp 12) rfl w.heap.size (aZ TS.2) rfl rfl 64 aA hn2 aV rfl (cT _) ?_)
  refine bodyPost_ret (aH rfl _ _ w.heap.size TS.2 rfl et) rfl ?_;rw [HF.out];exact ⟨rfl,HQ.out⟩
 have ES:=hid (wD _ h1 hbd hol hg.hk hu hg.now hg.fi hg.ou);have HF:=hid (HU.out.trans (if_neg q));generalize kD ol x u t = TS at *;clear HU h h1 hu hg hbd
 go_enter func192,ntmps192
 go_upto_region 1 with (fail)
 generalize w.alloc (.cells aA 64) = w1 at *
 go_wp2_with fail
 refine hm ES ?_;rintro r w2 ⟨rfl,q2⟩;have hn2:=q2.at_ hlow hnew;have HQ:=hid (dF.fB (K1.mono (fun _ _ x=>x.elim)) q2 hn2 (aZ TS.2.1));have et:=setRow_heap w2 w.heap.size aA (aZ TS.2.1) 64 (0,0) hn2;clear ES q2 hnew
 go_wp2_with (refine wpList_store_row rfl 64 (.tmp 4) (.tmp 16) rfl w.heap.size (aZ TS.2.1) rfl rfl 64 aA hn2 aV rfl (cT _) ?_)
 refine bodyPost_ret (aH rfl _ _ w.heap.size TS.2.1 rfl et) rfl ?_;rw [HF.out];exact ⟨rfl,HQ.out⟩
theorem sy (h : cj w xb tb 138 pc ol x kv) (hbd : x.Bd) (hol : ol.Ok) {u : Nat} {t : Tk} (hu : x.tasks[u]? = some t) (hg : t.drawn = true -> QO ol x t) :
 Calls prog 141 #[.pointer (some ⟨xb,0,none⟩),.pointer (some ⟨tb,u * 45,none⟩)] w fun r w'=>r = .returned (.tuple #[.agg (aZ (iu ol x u t).2.1),.bool (iu ol x u t).2.2]) /\ dF w w' xb tb 138 pc ol kv (iu ol x u t).1:=by
 obtain ⟨dr,hdr,gr⟩:=my;have hlow:=h.low;have hts:=lt_of_block h.kA;have hxs:=lt_of_block h.blk;have K1 : Kp (fun _=>False) w (w.alloc (.cells aA 64)):=(Kp.refl _ _).alloc _;have hnew:=heap_alloc_new w (.cells aA 64);have h1:=h.au K1;have hlt:=(List.getElem?_eq_some_iff.1 hu).1;have hwf:=h.Me hu;have htk:=hbd.tick;have htn:=hbd.turn;have c3 : (w.alloc (.cells aA 64)).cell? ⟨tb,u * 45 + 3,none⟩ = some (.bool t.drawn):=h1.dK hu (by omega)
 have HU:=hid (show iu ol x u t = if t.drawn = false then (lL x u t,b8,false)
  else if t.ticket ≠ x.turn then (x,b8,false)
  else ({ (cF ol x u t).1 with turn:=if (cF ol x u t).2.2 then (cF ol x u t).1.turn + 1 else (cF ol x u t).1.turn },(cF ol x u t).2) from rfl)
 generalize iu ol x u t = TT at *
 cases qd : t.drawn with
 | false =>
   rw [qd] at c3;have HF:=hid (HU.out.trans (if_pos qd));have hud : x.tasks[u]? = some t:=hu;have f3:=h1.uY (u * 45 + 3);have h2:=h1.Jc (t':={ t with drawn:=true }) hu hwf 3 (by omega) (.bool true) (lI (t':={ t with drawn:=true }) rfl rfl 3 (by omega) _ rfl);have K2 : Kp (jr xb tb kv) w ((w.alloc (.cells aA 64)).setCell ⟨tb,u * 45 + 3,none⟩ (.bool true)):=(K1.mono (S':=jr xb tb kv) (fun _ _ x=>x.elim)).setCell (p:=⟨tb,u * 45 + 3,none⟩) (fun _=>.inr (.inl rfl)) _
   have hn2 : ((w.alloc (.cells aA 64)).setCell ⟨tb,u * 45 + 3,none⟩ (.bool true)).heap[w.heap.size]? = some (.cells aA 64 (0,0)):=by
    rw [Below.heap_setCell _ _ _ _ (by show w.heap.size ≠ tb;omega)];exact hnew
   clear HU h h1 hu hud hg hbd K1 hnew
   go_enter func141,ntmps141
   go_upto_region 1 with (fail)
   generalize w.alloc (.cells aA 64) = w1 at *
   go_upto_region 3 with (fail)
   generalize w1.setCell ⟨tb,u * 45 + 3,none⟩ (.bool true) = w2 at *;have UW : w2.cell? ⟨xb,10,none⟩ = some (.int .i64 x.aN):=h2.cell 10;have hu2:=j1 hlt { t with drawn:=true };have c4 : w2.cell? ⟨tb,u * 45 + 4,none⟩ = some (.int .i64 t.ticket):=h2.dK hu2 (by omega);have f4:=h2.uY (u * 45 + 4);have h3:=h2.Jc (t':={ t with drawn:=true,ticket:=x.aN }) hu2 hwf 4 (by omega) (.int .i64 x.aN) (lI (t:={ t with drawn:=true }) (t':={ t with drawn:=true,ticket:=x.aN }) rfl rfl 4 (by omega) _ rfl);rw [gu] at h3;have K3 : Kp (jr xb tb kv) w (w2.setCell ⟨tb,u * 45 + 4,none⟩ (.int .i64 x.aN)):=K2.setCell (p:=⟨tb,u * 45 + 4,none⟩) (fun _=>.inr (.inl rfl)) _
   have iN : (w2.setCell ⟨tb,u * 45 + 4,none⟩ (.int .i64 x.aN)).heap[w.heap.size]? = some (.cells aA 64 (0,0)):=by
    rw [Below.heap_setCell _ _ _ _ (by show w.heap.size ≠ tb;omega)];exact hn2
   clear h2 K2 hn2 hu2 c3 f3
   go_upto_region 4 with (fail)
   generalize w2.setCell ⟨tb,u * 45 + 4,none⟩ (.int .i64 x.aN) = w3 at *;have UX : w3.cell? ⟨xb,10,none⟩ = some (.int .i64 x.aN):=h3.cell 10;have fx:=h3.free 10
   have ef : ((x.aN + 1 : Nat) : Int) = (x.aN : Int) + 1:=by omega
   have h4:=h3.GB (x':=lL x u t) rfl rfl 10 (.int .i64 ((x.aN : Int) + 1)) (by rw [<- ef];rfl);have K4 : Kp (jr xb tb kv) w (w3.setCell ⟨xb,10,none⟩ (.int .i64 ((x.aN : Int) + 1))):=K3.setCell (p:=⟨xb,10,none⟩) (fun _=>.inl rfl) _
   have gB : (w3.setCell ⟨xb,10,none⟩ (.int .i64 ((x.aN : Int) + 1))).heap[w.heap.size]? = some (.cells aA 64 (0,0)):=by
    rw [Below.heap_setCell _ _ _ _ (by show w.heap.size ≠ xb;omega)];exact iN
   clear h3 K3 iN UW c4 f4 ef
   go_upto_region 5 with (fail)
   generalize w3.setCell ⟨xb,10,none⟩ (.int .i64 ((x.aN : Int) + 1)) = w4 at *;have HQ:=hid (dF.fB K4 (dF.refl h4) gB aA);have et:=setRow_heap w4 w.heap.size aA aA 64 (0,0) gB;clear h4 K4 UX fx
   go_wp2_with (refine wpList_store_row rfl 64 (.tmp 4) (.tmp 30) rfl w.heap.size aA rfl rfl 64 aA gB aV rfl (cT b8) ?_)
   refine bodyPost_ret (aH rfl _ _ w.heap.size b8 rfl et) rfl ?_;rw [HF.out];exact ⟨rfl,HQ.out⟩
 | true=>?_
 rw [qd] at c3;have Hp:=hg qd;have HV:=hid (HU.out.trans (if_neg (by rw [qd];simp)));have c4 : (w.alloc (.cells aA 64)).cell? ⟨tb,u * 45 + 4,none⟩ = some (.int .i64 t.ticket):=h1.dK hu (by omega);have UY : (w.alloc (.cells aA 64)).cell? ⟨xb,11,none⟩ = some (.int .i64 x.turn):=h1.cell 11
 by_cases qt : t.ticket = x.turn
 ·have HF:=hid (HV.out.trans (if_neg (by simp [qt])))
  have HE:=hid (fun W hW=>AB W (x:=x) (xb:=xb) (tb:=tb) (pc:=pc) (kv:=kv) hW hbd hol hu Hp);have hmt:=Az ol x u t
  have hq : (t.ticket : Int) = (x.turn : Int):=by omega
  have HH:=hid (ae h1 K1);generalize cF ol x u t = MS at *;clear HU HV h h1 hu hg hbd K1 Hp qd
  go_enter func141,ntmps141
  go_upto_region 1 with (fail)
  generalize w.alloc (.cells aA 64) = w1 at *
  go_upto_region 6 with (fail)
  go_quiet (fail)
  rename_i nq;have KD : Kp (fun _=>False) w1 (w1.drewN nq):=(Kp.refl _ _).drewN nq;have h2:=HH.out.1.au KD;have K2:=HH.out.2.trans KD;have hn2:=KD.at_ hnew (fun x=>x);generalize w1.drewN nq = w2 at *;have EM:=hid (HE.out w2 h2);have HK:=hid K2;clear HE h2 K2 KD hnew c3 c4 UY HH hq qt
  go_wp2_with fail
  refine hm EM ?_;rintro r w3 ⟨rfl,q3⟩;have iN:=q3.at_ hlow hn2;have hnr:=heap_alloc_new w3 (.cells aA 64);have hb4:=setRow_heap (w3.alloc (.cells aA 64)) w3.heap.size aA (aZ MS.2.1) 64 (0,0) hnr;have K4 : Kp (fun _=>False) w3 ((w3.alloc (.cells aA 64)).setRow w3.heap.size (aZ MS.2.1)):=((Kp.refl _ _).alloc _).setRow (fun x=>by omega) _;have q4:=q3.au K4;have gB:=K4.at_ iN (fun x=>x)
  have hrb : xb < w3.heap.size:=by have:=lt_of_block iN;omega
  have hrw : w.heap.size < w3.heap.size:=lt_of_block iN;clear EM q3 K4 iN hn2
  go_upto_region 9 with (refine wpList_store_row rfl 64 (.tmp 6) (.tmp 45) rfl w3.heap.size (aZ MS.2.1) rfl rfl 64 aA hnr aV rfl (cT _) ?_)
  generalize (w3.alloc (.cells aA 64)).setRow w3.heap.size (aZ MS.2.1) = w4 at *;generalize w3.heap.size = rb at *;obtain ⟨X,rp,dn⟩:=MS;simp only at *;obtain ⟨JP,h4,n4,KX⟩:=q4
  cases dn with
  | true =>
    have UZ : w4.cell? ⟨xb,11,none⟩ = some (.int .i64 X.turn):=h4.cell 11;have fx:=h4.free 11
    have ef : ((X.turn + 1 : Nat) : Int) = (X.turn : Int) + 1:=by omega
    have h5:=h4.GB (x':={ X with turn:=X.turn + 1 }) rfl rfl 11 (.int .i64 ((X.turn : Int) + 1)) (by rw [<- ef];rfl)
    have q5 : dF w2 (w4.setCell ⟨xb,11,none⟩ (.int .i64 ((X.turn : Int) + 1))) xb tb 138 pc ol kv { X with turn:=X.turn + 1 }:=⟨JP,h5,n4,KX.setCell (p:=⟨xb,11,none⟩) (fun _=>.inl rfl) _⟩
    have j4 : (w4.setCell ⟨xb,11,none⟩ (.int .i64 ((X.turn : Int) + 1))).heap[w.heap.size]? = some (.cells aA 64 (0,0)):=by
     rw [Below.heap_setCell _ _ _ _ (by show w.heap.size ≠ xb;omega)];exact gB
    have hb5 : (w4.setCell ⟨xb,11,none⟩ (.int .i64 ((X.turn : Int) + 1))).heap[rb]? = some (.cells (aZ rp) 64 (0,0)):=by
     rw [Below.heap_setCell _ _ _ _ (by show rb ≠ xb;omega)];exact hb4
    have hX : X.turn <= 1000000000000000:=by omega
    clear h4 n4 KX h5 hnr gB hb4 ef hmt
    go_upto_region 11 with (fail)
    generalize w4.setCell ⟨xb,11,none⟩ (.int .i64 ((X.turn : Int) + 1)) = w5 at *;have HQ:=hid (dF.fB (HK.out.mono (fun _ _ x=>x.elim)) q5 j4 (aZ rp));have et:=setRow_heap w5 w.heap.size aA (aZ rp) 64 (0,0) j4;clear q5 UZ fx
    go_wp2_with (first | refine wpList_load_row rfl 64 (.tmp 6) rfl rb rfl 64 (aZ rp) (0,0) dr hb5 hdr (by cases dr <;> first | rfl | exact absurd gr (by simp [ar])) aV ?_ | refine wpList_store_row rfl 64 (.tmp 4) (.tmp 55) rfl w.heap.size (aZ rp) rfl rfl 64 aA j4 aV rfl (cT _) ?_)
    refine bodyPost_ret (aH rfl _ _ w.heap.size rp rfl et) rfl ?_;rw [HF.out];exact ⟨rfl,HQ.out⟩
  | false=>?_
  have q4 : dF w2 w4 xb tb 138 pc ol kv X:=⟨JP,h4,n4,KX⟩
  have HQ:=hid (dF.fB (HK.out.mono (fun _ _ x=>x.elim)) q4 gB (aZ rp));have et:=setRow_heap w4 w.heap.size aA (aZ rp) 64 (0,0) gB;clear h4 n4 KX q4 hnr hmt
  go_wp2_with (first | refine wpList_load_row rfl 64 (.tmp 6) rfl rb rfl 64 (aZ rp) (0,0) dr hb4 hdr (by cases dr <;> first | rfl | exact absurd gr (by simp [ar])) aV ?_ | refine wpList_store_row rfl 64 (.tmp 4) (.tmp 55) rfl w.heap.size (aZ rp) rfl rfl 64 aA gB aV rfl (cT _) ?_)
  refine bodyPost_ret (aH rfl _ _ w.heap.size rp rfl et) rfl ?_;rw [HF.out];exact ⟨rfl,HQ.out⟩
 have HF:=hid (HV.out.trans (if_pos qt))
 have hq : ¬ (t.ticket : Int) = (x.turn : Int):=by omega
 have HH:=hid (ae h1 K1);clear HU HV h h1 hu hg hbd K1 Hp qd
 go_enter func141,ntmps141
 go_upto_region 1 with (fail)
 generalize w.alloc (.cells aA 64) = w1 at *
 go_upto_region 6 with (fail)
 go_quiet (fail)
 rename_i nq;have KD : Kp (fun _=>False) w1 (w1.drewN nq):=(Kp.refl _ _).drewN nq;have h2:=HH.out.1.au KD;have K2:=HH.out.2.trans KD;have hn2:=KD.at_ hnew (fun x=>x);generalize w1.drewN nq = w2 at *;have HQ:=hid (dF.fB (K2.mono (fun _ _ x=>x.elim)) (dF.refl h2) hn2 aA);have et:=setRow_heap w2 w.heap.size aA aA 64 (0,0) hn2;clear h2 K2 KD hnew HH
 go_wp2_with (refine wpList_store_row rfl 64 (.tmp 4) (.tmp 40) rfl w.heap.size aA rfl rfl 64 aA hn2 aV rfl (cT b8) ?_)
 refine bodyPost_ret (aH rfl _ _ w.heap.size b8 rfl et) rfl ?_;rw [HF.out];exact ⟨rfl,HQ.out⟩
end
namespace Ch
structure NP (ol : Ol) (x : Sv) (t : Tk) : Prop where
 rd : t.kind = 3 -> t.steps <= 1000 /\ (2 <= t.steps -> ∃ (k : Nat) (v : Vr),x.kept[k]? = some v /\ t.pinned = (v.num : Int) /\ 0 < v.pins /\ ∀ (j : Nat) (u : Vr),x.kept[j]? = some u -> u.num = v.num -> j = k)
 go : t.kind ≠ 3 -> t.kind ≠ 4 -> t.drawn = true -> QO ol x t
theorem DF (ol : Ol) (x : Sv) (u : Nat) (t : Tk) : (iu ol x u t).1.tasks.length = x.tasks.length:=by
 unfold iu
 split
 ·simp [lL,ak]
 split
 ·rfl
 exact DE ol x u t
theorem GI (ol : Ol) (x : Sv) (u : Nat) (t : Tk) : (fZ ol x u t).1.tasks.length = x.tasks.length:=by
 unfold fZ
 split
 ·unfold ir
  split
  ·unfold iq
   split
   ·simp [ak]
   split <;> simp [ak]
  split <;> simp [ak]
 split
 ·rfl
 exact DF ol x u t
end Ch
section
variable (w : World) {xb tb : Nat} {pc : Pc} {ol : Ol} {x : Sv} {kv : Value}
theorem yA (h : cj w xb tb 138 pc ol x kv) (hbd : x.Bd) (hol : ol.Ok) {u : Nat} {t : Tk} (hu : x.tasks[u]? = some t) (hg : NP ol x t) :
 Calls prog 91 #[.pointer (some ⟨xb,0,none⟩),.pointer (some ⟨tb,u * 45,none⟩)] w fun r w'=>r = .returned (.tuple #[.agg (aZ (fZ ol x u t).2.1),.bool (fZ ol x u t).2.2]) /\ dF w w' xb tb 138 pc ol kv (fZ ol x u t).1:=by
 have hlow:=h.low;have K1 : Kp (fun _=>False) w (w.alloc (.cells aA 64)):=(Kp.refl _ _).alloc _;have hnew:=heap_alloc_new w (.cells aA 64);have h1:=h.au K1;have c0 : (w.alloc (.cells aA 64)).cell? ⟨tb,u * 45,none⟩ = some (.int .i64 t.kind):=h1.dK hu (j:=0) (by omega);have c2 : (w.alloc (.cells aA 64)).cell? ⟨tb,u * 45 + 2,none⟩ = some (.int .i64 t.at_):=h1.dK hu (by omega);have HU:=hid (show fZ ol x u t = if t.kind = 3 then ir ol x u t else if t.kind = 4 then (x,j0 x t.at_,true) else iu ol x u t from rfl);generalize fZ ol x u t = MS at *
 by_cases q : t.kind = 3
 ·have ET:=hid (wB _ h1 hbd hol hu (hg.rd q).1 (hg.rd q).2)
  have HF:=hid (HU.out.trans (if_pos q));generalize ir ol x u t = TS at *;clear HU h h1 hu hg hbd
  go_enter func91,ntmps91
  go_upto_region 1 with (fail)
  generalize w.alloc (.cells aA 64) = w1 at *
  go_wp2_with fail
  refine hm ET ?_;rintro r w2 ⟨rfl,q2⟩;have hn2:=q2.at_ hlow hnew;have HQ:=hid (dF.fB (K1.mono (fun _ _ x=>x.elim)) q2 hn2 (aZ TS.2.1));have et:=setRow_heap w2 w.heap.size aA (aZ TS.2.1) 64 (0,0) hn2;clear ET q2 hnew
  go_wp2_with (refine wpList_store_row rfl 64 (.tmp 4) (.tmp 15) rfl w.heap.size (aZ TS.2.1) rfl rfl 64 aA hn2 aV rfl (cT _) ?_)
  refine bodyPost_ret (aH rfl _ _ w.heap.size TS.2.1 rfl et) rfl ?_;rw [HF.out];exact ⟨rfl,HQ.out⟩
 by_cases q' : t.kind = 4
 ·have EP:=hid (GC _ h1 hbd t.at_)
  have HF:=hid (HU.out.trans ((if_neg q).trans (if_pos q')));generalize j0 x t.at_ = TS at *;have HH:=hid (ae h1 K1);clear HU h h1 hu hg hbd K1
  go_enter func91,ntmps91
  go_upto_region 1 with (fail)
  generalize w.alloc (.cells aA 64) = w1 at *
  go_wp2_with fail
  refine hm EP ?_;rintro r w2 ⟨rfl,K2⟩;have hn2:=K2.at_ hnew (fun x=>x);have HQ:=hid (dF.fB (HH.out.2.mono (fun _ _ x=>x.elim)) ((dF.refl HH.out.1).au K2) hn2 (aZ TS));have et:=setRow_heap w2 w.heap.size aA (aZ TS) 64 (0,0) hn2;clear EP K2 hnew
  go_wp2_with (refine wpList_store_row rfl 64 (.tmp 4) (.tmp 24) rfl w.heap.size (aZ TS) rfl rfl 64 aA hn2 aV rfl (cT _) ?_)
  refine bodyPost_ret (aH rfl _ _ w.heap.size TS rfl et) rfl ?_;rw [HF.out];exact ⟨rfl,HQ.out⟩
 have ES:=hid (sy _ h1 hbd hol hu (hg.go q q'));have HF:=hid (HU.out.trans ((if_neg q).trans (if_neg q')));generalize iu ol x u t = TS at *;clear HU h h1 hu hg hbd
 go_enter func91,ntmps91
 go_upto_region 1 with (fail)
 generalize w.alloc (.cells aA 64) = w1 at *
 go_wp2_with fail
 refine hm ES ?_;rintro r w2 ⟨rfl,q2⟩;have hn2:=q2.at_ hlow hnew;have HQ:=hid (dF.fB (K1.mono (fun _ _ x=>x.elim)) q2 hn2 (aZ TS.2.1));have et:=setRow_heap w2 w.heap.size aA (aZ TS.2.1) 64 (0,0) hn2;clear ES q2 hnew
 go_wp2_with (refine wpList_store_row rfl 64 (.tmp 4) (.tmp 28) rfl w.heap.size (aZ TS.2.1) rfl rfl 64 aA hn2 aV rfl (cT _) ?_)
 refine bodyPost_ret (aH rfl _ _ w.heap.size TS.2.1 rfl et) rfl ?_;rw [HF.out];exact ⟨rfl,HQ.out⟩
theorem AD (h : cj w xb tb 138 pc ol x kv) (hbd : x.Bd) (hol : ol.Ok) (u : Int) (hg : ∀ t,lM x u = some t -> NP ol x t) :
 Calls prog 63 #[.pointer (some ⟨xb,0,none⟩),.int .i64 u] w fun r w'=>r = .returned (.tuple #[.agg (aZ (bG ol x u).2.1),.bool (bG ol x u).2.2.1,.int .i64 (bG ol x u).2.2.2]) /\ dF w w' xb tb 138 pc ol kv (bG ol x u).1:=by
 obtain ⟨dr,hdr,gr⟩:=my;have hlow:=h.low;have hts:=lt_of_block h.kA;have hxs:=lt_of_block h.blk;have K1 : Kp (fun _=>False) w (w.alloc (.cells aA 64)):=(Kp.refl _ _).alloc _;have hnew:=heap_alloc_new w (.cells aA 64);have h1:=h.au K1;have EC:=hid (nX _ h1 u)
 by_cases hc : 0 <= u /\ u < (x.tasks.length : Int)
 ·obtain ⟨n,rfl⟩ : ∃ n : Nat,u = (n : Int):=⟨u.toNat,by omega⟩
  have hn : n < x.tasks.length:=by omega
  obtain ⟨t,hu⟩ : ∃ t,x.tasks[n]? = some t:=⟨_,List.getElem?_eq_getElem hn⟩
  have oE : lM x (n : Int) = some t:=by unfold lM;rw [if_pos (by omega)];exact hu
  have hst:=hg t oE
  have hb1 : (decide (0 <= (n : Int)) && decide ((n : Int) < (x.tasks.length : Int))) = true:=by simp;omega
  rw [hb1] at EC;have x9 : (w.alloc (.cells aA 64)).cell? ⟨xb,9,none⟩ = some (.slice (some ⟨tb,0,none⟩) x.tasks.length x.tasks.length):=h1.cell 9;have c0 : (w.alloc (.cells aA 64)).cell? ⟨tb,n * 45,none⟩ = some (.int .i64 t.kind):=h1.dK hu (j:=0) (by omega)
  have HU:=hid (show bG ol x (n : Int) = if t.kind = 0 then (x,b8,false,13)
   else (if (fZ ol x n t).2.2 then ak (fZ ol x n t).1 n cW else (fZ ol x n t).1,(fZ ol x n t).2.1,(fZ ol x n t).2.2,0) by unfold bG;rw [oE];rfl)
  have hlt : (n : Int) < (x.tasks.length : Int):=by omega
  generalize bG ol x (n : Int) = SS at *
  by_cases q : t.kind = 0
  ·have HF:=hid (HU.out.trans (if_pos q))
   have HH:=hid (ae h1 K1);clear HU h h1 hu hg hbd K1 hst hc oE hb1
   go_enter func63,ntmps63
   go_upto_region 1 with (fail)
   generalize w.alloc (.cells aA 64) = w1 at *;have HQ:=hid (dF.fB (HH.out.2.mono (fun _ _ x=>x.elim)) (dF.refl HH.out.1) hnew aA);have et:=setRow_heap w1 w.heap.size aA aA 64 (0,0) hnew
   go_wp2_with fail
   refine hm EC ?_;rintro r w2 ⟨rfl,rfl⟩;clear EC HH
   go_wp2_with (refine wpList_store_row rfl 64 (.tmp 4) (.tmp 26) rfl w.heap.size aA rfl rfl 64 aA hnew aV rfl (cT b8) ?_)
   refine bodyPost_ret (aC rfl _ _ w.heap.size 64 aA (0,0) dr rfl et hdr gr aV) rfl ?_;rw [HF.out];exact ⟨rfl,HQ.out⟩
  have HV:=hid (HU.out.trans (if_neg q));have EM:=hid (yA _ h1 hbd hol hu hst);have hal:=GI ol x n t;generalize fZ ol x n t = MS at *;clear HU h h1 hu hg hbd hst hc oE hb1
  go_enter func63,ntmps63
  go_upto_region 1 with (fail)
  generalize w.alloc (.cells aA 64) = w1 at *
  go_wp2_with fail
  refine hm EC ?_;rintro r w2 ⟨rfl,rfl⟩;clear EC
  go_wp2_with fail
  refine hm EM ?_;rintro r w3 ⟨rfl,q3⟩;have iN:=q3.at_ hlow hnew;have hnr:=heap_alloc_new w3 (.cells aA 64);have hb4:=setRow_heap (w3.alloc (.cells aA 64)) w3.heap.size aA (aZ MS.2.1) 64 (0,0) hnr;have K4 : Kp (fun _=>False) w3 ((w3.alloc (.cells aA 64)).setRow w3.heap.size (aZ MS.2.1)):=((Kp.refl _ _).alloc _).setRow (fun x=>by omega) _;have q4:=q3.au K4;have gB:=K4.at_ iN (fun x=>x);have hrw : w.heap.size < w3.heap.size:=lt_of_block iN;clear EM q3 K4 iN hnew x9 c0
  go_upto_region 7 with (refine wpList_store_row rfl 64 (.tmp 8) (.tmp 31) rfl w3.heap.size (aZ MS.2.1) rfl rfl 64 aA hnr aV rfl (cT _) ?_)
  generalize (w3.alloc (.cells aA 64)).setRow w3.heap.size (aZ MS.2.1) = w4 at *;generalize w3.heap.size = rb at *;obtain ⟨X,rp,dn⟩:=MS;simp only at *;obtain ⟨JP,h4,n4,KX⟩:=q4
  cases dn with
  | true =>
    have U0 : n < X.tasks.length:=by omega
    obtain ⟨t4,QP⟩ : ∃ t,X.tasks[n]? = some t:=⟨_,List.getElem?_eq_getElem U0⟩
    have GF:=h4.yy;have htc:=h4.kA;have h5:=h4.GD (t':=cW) QP iB 0 (fc cW) (by rw [cH (t:=cW) iB];exact Nat.le_refl _) (by rw [List.take_zero,List.nil_append,List.drop_eq_nil_of_le (by rw [cH (t:=cW) iB,cH (h4.Me QP)];exact Nat.le_refl _),List.append_nil])
    have q5 : dF w2 (w4.setRow tb (putAt (bj X.tasks).toArray (n * 45) (fc cW))) xb tb 138 pc ol kv (ak X n cW):=⟨JP,h5,n4,KX.setRow (fun _=>.inr (.inl rfl)) _⟩
    have j4 : (w4.setRow tb (putAt (bj X.tasks).toArray (n * 45) (fc cW))).heap[w.heap.size]? = some (.cells aA 64 (0,0)):=by
     rw [setRow_other _ _ _ _ (by omega)];exact gB
    have hb5 : (w4.setRow tb (putAt (bj X.tasks).toArray (n * 45) (fc cW))).heap[rb]? = some (.cells (aZ rp) 64 (0,0)):=by
     rw [setRow_other _ _ _ _ (by omega)];exact hb4
    have DC : n * 45 + (fc cW).length <= (bj X.tasks).toArray.size:=by rw [GF,cH (t:=cW) iB];omega
    have sI : (prog.info? 173).map (·.size) = some (fc cW).length:=by rw [cH (t:=cW) iB];exact Av
    have sO:=wy cW;have sA : (fc cW).toArray = nk:=yx;generalize (bj X.tasks).toArray = TA at *;generalize fc cW = TL at *;have xK:=hid sA;clear h4 n4 KX h5 hnr gB hb4 QP GF hal sA
    go_upto_region 9 with (refine eO rfl 173 (.tmp 36) (.tmp 35) rfl tb (n * 45) TL rfl (by rw [xK.out];rfl) 173 TA htc sI DC sO ?_)
    generalize w4.setRow tb (putAt TA (n * 45) TL) = w5 at *;have HQ:=hid (dF.fB (K1.mono (fun _ _ x=>x.elim)) q5 j4 (aZ rp));have et:=setRow_heap w5 w.heap.size aA (aZ rp) 64 (0,0) j4;clear q5
    go_wp2_with (first | refine wpList_load_row rfl 64 (.tmp 8) rfl rb rfl 64 (aZ rp) (0,0) dr hb5 hdr (by cases dr <;> first | rfl | exact absurd gr (by simp [ar])) aV ?_ | refine wpList_store_row rfl 64 (.tmp 4) (.tmp 37) rfl w.heap.size (aZ rp) rfl rfl 64 aA j4 aV rfl (cT _) ?_)
    refine bodyPost_ret (aC rfl _ _ w.heap.size 64 (aZ rp) (0,0) dr rfl et hdr gr aV) rfl ?_;rw [HV.out];exact ⟨rfl,HQ.out⟩
  | false=>?_
  have q4 : dF w2 w4 xb tb 138 pc ol kv X:=⟨JP,h4,n4,KX⟩
  have HQ:=hid (dF.fB (K1.mono (fun _ _ x=>x.elim)) q4 gB (aZ rp));have et:=setRow_heap w4 w.heap.size aA (aZ rp) 64 (0,0) gB;clear h4 n4 KX q4 hnr hal
  go_wp2_with (first | refine wpList_load_row rfl 64 (.tmp 8) rfl rb rfl 64 (aZ rp) (0,0) dr hb4 hdr (by cases dr <;> first | rfl | exact absurd gr (by simp [ar])) aV ?_ | refine wpList_store_row rfl 64 (.tmp 4) (.tmp 37) rfl w.heap.size (aZ rp) rfl rfl 64 aA gB aV rfl (cT _) ?_)
  refine bodyPost_ret (aC rfl _ _ w.heap.size 64 (aZ rp) (0,0) dr rfl et hdr gr aV) rfl ?_;rw [HV.out];exact ⟨rfl,HQ.out⟩
 have oE : lM x u = none:=by
  unfold lM
  split
  ·rw [List.getElem?_eq_none_iff];omega
  rfl
 have hb1 : (decide (0 <= u) && decide (u < (x.tasks.length : Int))) = false:=by
  rw [Bool.eq_false_iff];intro e;apply hc;simpa using e
 rw [hb1] at EC;have HF:=hid (show bG ol x u = (x,b8,false,10) by unfold bG;rw [oE]);generalize bG ol x u = SS at *;have HH:=hid (ae h1 K1);clear h h1 hg hbd K1 hc oE hb1
 go_enter func63,ntmps63
 go_upto_region 1 with (fail)
 generalize w.alloc (.cells aA 64) = w1 at *;have HQ:=hid (dF.fB (HH.out.2.mono (fun _ _ x=>x.elim)) (dF.refl HH.out.1) hnew aA);have et:=setRow_heap w1 w.heap.size aA aA 64 (0,0) hnew
 go_wp2_with fail
 refine hm EC ?_;rintro r w2 ⟨rfl,rfl⟩;clear EC HH
 go_wp2_with (refine wpList_store_row rfl 64 (.tmp 4) (.tmp 14) rfl w.heap.size aA rfl rfl 64 aA hnew aV rfl (cT b8) ?_)
 refine bodyPost_ret (aC rfl _ _ w.heap.size 64 aA (0,0) dr rfl et hdr gr aV) rfl ?_;rw [HF.out];exact ⟨rfl,HQ.out⟩
end
namespace Ch
theorem yB {e : ByteArray} (h : e.size < 1 \/ 4 < e.size) : dG e = false:=by
 unfold dG
 rcases h with h | h
 ·rw [decide_eq_false (show ¬ 1 <= e.size by omega)];rfl
 rw [decide_eq_false (show ¬ e.size <= 4 by omega)];simp
theorem DG {e : ByteArray} {i : Nat} (h : i < e.size) (hb : bN (af e i) = false) : dG e = false:=by
 unfold dG
 have : (List.range e.size).all (fun j=>bN (af e j)) = false:=by
  rw [List.all_eq_false];exact ⟨i,by simpa using h,by rw [hb];simp⟩
 rw [this,Bool.and_false]
theorem yC {e : ByteArray} (h1 : ¬ e.size < 1) (h2 : ¬ 4 < e.size) (h : ∀ j,j < e.size -> bN (af e j) = true) : dG e = true:=by
 unfold dG
 have : (List.range e.size).all (fun j=>bN (af e j)) = true:=by
  rw [List.all_eq_true];intro j hj;exact h j (by simpa using hj)
 rw [this,decide_eq_true (show 1 <= e.size by omega),decide_eq_true (show e.size <= 4 by omega)];rfl
end Ch
theorem mh {e : ByteArray} (h : ¬ e = ⟨#[]⟩) : e.toList.isEmpty = false:=by rw [<- decide_eq_emptyBytes];exact decide_eq_false h
def cn (r : Rq) : Array Value:=#[.int .i64 r.kind,.string r.events,.int .i64 r.at_]
section
variable (w : World)
theorem yD (e : ByteArray) :
 Calls prog 186 #[.string e] w fun r w'=>r = .returned (.bool (dG e)) /\ w' = w:=by
 by_cases h1 : e.size < 1
 ·have HF:=hid (yB (Or.inl h1))
  have h1' : (e.size : Int) < 1:=by omega
  go_enter func186,ntmps186
  go_wp2;go_ret;exact ⟨by rw [HF.out];rfl,rfl⟩
 have h1' : ¬ (e.size : Int) < 1:=by omega
 by_cases h2 : 4 < e.size
 ·have HF:=hid (yB (Or.inr h2))
  have h2' : (4 : Int) < (e.size : Int):=by omega
  go_enter func186,ntmps186
  go_wp2;go_ret;exact ⟨by rw [HF.out];rfl,rfl⟩
 have h2' : ¬ (4 : Int) < (e.size : Int):=by omega
 have HH:=hid (ae h1 h2)
 go_enter func186,ntmps186
 go_wp2_with fail
 go_loopw [3] (fun iv wr=>∃ i : Nat,iv = .int .i64 i /\ i <= e.size /\ wr = w /\ Hid (∀ j,j < i -> bN (af e j) = true)) (fun iv _=>e.size - (intOf iv).toNat)
 case atStart=>exact ⟨0,rfl,Nat.zero_le _,rfl,hid (fun j hj=>by omega)⟩
 case round =>
  obtain ⟨i,rfl,hil,rfl,HB⟩:=hrel
  by_cases hlt : i < e.size
  ·have hlt' : (i : Int) < (e.size : Int):=by omega
   have hpk : af e i = ((e[i]'hlt).toNat : Int):=by simp [af,hlt]
   have hidx : e[i]? = some (e[i]'hlt):=getElem?_pos e i hlt;have EI:=hid (eT (af e i) wr);have hcs : Hid (bN (af e i) = false -> dG e = false):=hid (fun q=>DG hlt q)
   have hcn : Hid (bN (af e i) = true -> ∀ j,j < i + 1 -> bN (af e j) = true):=hid (fun q j hj=>by
    by_cases e1 : j = i
    ·subst e1;exact q
    exact HB.out j (by omega))
   rw [hpk] at EI;generalize hev : bN (af e i) = ev at *;rw [<- hpk,hev] at EI;rw [hpk] at EI;have HP:=hid hpk;clear hpk HB hev;generalize hc : ((e[i]'hlt).toNat : Int) = c at *
   go_wp2_with fail
   refine hm EI ?_;rintro r w2 ⟨rfl,rfl⟩;clear EI
   cases ev with
   | true =>
     go_wp2_with fail
     go_roundw
     case rel=>exact ⟨i + 1,by go_num,by omega,by first | rfl | trivial,hid (hcn.out (by first | rfl | trivial))⟩
     case measure=>simp [intOf];omega
   | false=>?_
   go_wp2;go_ret;exact ⟨by rw [hcs.out (by first | rfl | trivial)];rfl,rfl⟩
  have hlt' : ¬ (i : Int) < (e.size : Int):=by omega
  obtain rfl : i = e.size:=by omega
  have HF:=hid (yC HH.out.1 HH.out.2 HB.out);clear HB;go_wp2;go_ret;exact ⟨by rw [HF.out];rfl,rfl⟩
theorem tW (r : Rq) :
 Calls prog 136 #[.agg (cn r)] w fun x w'=>x = .returned (.bool (iC r)) /\ Kp (fun _=>False) w w':=by
 obtain ⟨kd,ev,a⟩:=r;have K1 : Kp (fun _=>False) w (w.alloc (.cells #[.int .i64 kd,.string ev,.int .i64 a] 79)):=(Kp.refl _ _).alloc _;have EB:=hid (yD (w.alloc (.cells #[.int .i64 kd,.string ev,.int .i64 a] 79)) ev)
 have HU:=hid (show iC ⟨kd,ev,a⟩ = if kd = 1 then dG ev && decide (-1 <= a)
  else if kd = 2 then decide (ev.size = 0) && decide (a = 0)
  else if kd = 3 then decide (ev.size = 0) && decide (-1 <= a)
  else if kd = 4 then decide (ev.size = 0) && decide (0 <= a)
  else false from rfl)
 generalize iC ⟨kd,ev,a⟩ = RQ at *;generalize dG ev = bt at *;have HK:=hid K1;clear K1;unfold cn
 by_cases q1 : kd = 1
 ·have HF:=hid (HU.out.trans (if_pos q1))
  clear HU;subst q1
  go_enter func136,ntmps136
  go_wp2_with fail
  refine hm EB ?_;rintro r w2 ⟨rfl,rfl⟩;clear EB
  cases bt with
  | true =>
    go_wp2;go_ret;exact ⟨by rw [HF.out];rfl,HK.out⟩
  | false=>?_
  go_wp2;go_ret;exact ⟨by rw [HF.out];rfl,HK.out⟩
 by_cases q2 : kd = 2
 ·have HF:=hid (HU.out.trans ((if_neg q1).trans (if_pos q2)))
  clear HU EB q1;subst q2
  by_cases qe : ev = ⟨#[]⟩
  ·subst qe
   go_enter func136,ntmps136
   go_wp2;go_ret;exact ⟨by rw [HF.out];rfl,HK.out⟩
  have hne : ev.toList.isEmpty = false:=mh qe
  have hnz : ¬ ev.size = 0:=fun z=>qe (by apply ByteArray.ext;exact Array.eq_empty_of_size_eq_zero z)
  have HN:=hid hnz;clear hnz qe
  go_enter func136,ntmps136
  go_wp2;go_ret;exact ⟨by rw [HF.out,decide_eq_false HN.out];rfl,HK.out⟩
 by_cases q3 : kd = 3
 ·have HF:=hid (HU.out.trans ((if_neg q1).trans ((if_neg q2).trans (if_pos q3))))
  clear HU EB q1 q2;subst q3
  by_cases qe : ev = ⟨#[]⟩
  ·subst qe
   go_enter func136,ntmps136
   go_wp2;go_ret;exact ⟨by rw [HF.out];rfl,HK.out⟩
  have hne : ev.toList.isEmpty = false:=mh qe
  have hnz : ¬ ev.size = 0:=fun z=>qe (by apply ByteArray.ext;exact Array.eq_empty_of_size_eq_zero z)
  have HN:=hid hnz;clear hnz qe
  go_enter func136,ntmps136
  go_wp2;go_ret;exact ⟨by rw [HF.out,decide_eq_false HN.out];rfl,HK.out⟩
 by_cases q4 : kd = 4
 ·have HF:=hid (HU.out.trans ((if_neg q1).trans ((if_neg q2).trans ((if_neg q3).trans (if_pos q4)))))
  clear HU EB q1 q2 q3;subst q4
  by_cases qe : ev = ⟨#[]⟩
  ·subst qe
   go_enter func136,ntmps136
   go_wp2;go_ret;exact ⟨by rw [HF.out];rfl,HK.out⟩
  have hne : ev.toList.isEmpty = false:=mh qe
  have hnz : ¬ ev.size = 0:=fun z=>qe (by apply ByteArray.ext;exact Array.eq_empty_of_size_eq_zero z)
  have HN:=hid hnz;clear hnz qe
  go_enter func136,ntmps136
  go_wp2;go_ret;exact ⟨by rw [HF.out,decide_eq_false HN.out];rfl,HK.out⟩
 have HF:=hid (HU.out.trans ((if_neg q1).trans ((if_neg q2).trans ((if_neg q3).trans (if_neg q4)))));clear HU EB
 go_enter func136,ntmps136
 go_wp2;go_ret;exact ⟨by rw [HF.out];rfl,HK.out⟩
theorem yE (r : Rq) :
 Calls prog 137 #[.agg (cn r)] w fun x w'=>x = .returned (.agg (fc (mW r)).toArray) /\ Kp (fun _=>False) w w':=by
 obtain ⟨kd,ev,a⟩:=r;obtain ⟨dt,hdt,QQ⟩:=ND;have hwf : (mW ⟨kd,ev,a⟩).now.Wf:=iB
 have sI : (prog.info? 173).map (·.size) = some (fc (mW ⟨kd,ev,a⟩)).toArray.size:=by
  rw [show (fc (mW ⟨kd,ev,a⟩)).toArray.size = 45 by simp [cH hwf]];exact Av
 have sS : (fc (mW ⟨kd,ev,a⟩)).toArray.size = nk.size:=by rw [show (fc (mW ⟨kd,ev,a⟩)).toArray.size = 45 by simp [cH hwf]];rfl
 have sO : (fc (mW ⟨kd,ev,a⟩)).toArray.all (fun x=>x.oneCell') = true:=by
  apply Array.all_eq_true_iff_forall_mem.2;intro x hx;exact wy _ x (by simpa using hx)
 have HB:=hid (show prog.built 173 [(0,.int .i64 kd),(1,.string ev),(2,.int .i64 a)] = some (fc (mW ⟨kd,ev,a⟩)).toArray by kernel_rfl);have K1 : Kp (fun _=>False) w ((w.alloc (.cells #[.int .i64 kd,.string ev,.int .i64 a] 79)).alloc (.cells nk 173)):=((Kp.refl _ _).alloc _).alloc _
 have hb1 : ((w.alloc (.cells #[.int .i64 kd,.string ev,.int .i64 a] 79)).alloc (.cells nk 173)).heap[w.heap.size]? = some (.cells #[.int .i64 kd,.string ev,.int .i64 a] 79):=by
  rw [Below.heap_alloc _ _ _ (by simp)];exact heap_alloc_new _ _
 have hb2 : ((w.alloc (.cells #[.int .i64 kd,.string ev,.int .i64 a] 79)).alloc (.cells nk 173)).heap[w.heap.size + 1]? = some (.cells nk 173):=heap_alloc2_new w _ _;generalize (fc (mW ⟨kd,ev,a⟩)).toArray = TA at *;unfold cn
 go_enter func137,ntmps137
 go_upto_region 1 with (fail)
 generalize (w.alloc (.cells #[.int .i64 kd,.string ev,.int .i64 a] 79)).alloc (.cells nk 173) = w1 at *
 have x1 : w1.cell? ⟨w.heap.size,1,none⟩ = some (.string ev):=by rw [World.cell?,hb1];rfl
 have hcv:=Lib.run_convert_string_bytes (P:=prog) w1 9 47 5 ev underlying9 underlying47 underlying5;have MH:=uV w1 ev (grownCap w1 ev.size 0 5);have KB:=yo w1 5 ev;have hb3:=KB.at_ hb1 (fun x=>x);have hb4:=KB.at_ hb2 (fun x=>x);have KA:=K1.trans KB;generalize grownCap w1 ev.size 0 5 = cp at *;generalize Lib.bytesWorld w1 5 ev = w2 at *
 have y0 : w2.cell? ⟨w.heap.size,0,none⟩ = some (.int .i64 kd):=by rw [World.cell?,hb3];rfl
 have y2 : w2.cell? ⟨w.heap.size,2,none⟩ = some (.int .i64 a):=by rw [World.cell?,hb3];rfl
 have KF:=KA.setRow (g:=w.heap.size + 1) (fun x=>by omega) TA;have et:=setRow_heap w2 (w.heap.size + 1) nk TA 173 (0,0) hb4;clear KA KB K1 hb1 hb2 hb3
 go_wp2_with (first | (refine bn rfl 173 #[(0,.tmp 9),(1,.tmp 10),(2,.tmp 12)] rfl TA [(0,.int .i64 kd),(1,.string ev),(2,.int .i64 a)] ?_ HB.out ?_;rfl) | refine wpList_store_row rfl 173 (.tmp 2) (.tmp 13) rfl (w.heap.size + 1) TA rfl rfl 173 nk hb4 sI sS.symm sO ?_)
 refine bodyPost_ret (results_cell_row rfl _ _ (w.heap.size + 1) 173 TA (0,0) dt rfl et hdt (by cases dt <;> first | rfl | exact absurd QQ (by simp [ar])) sI) rfl ?_;exact ⟨rfl,KF⟩
end
end Go.Proofs.YtnlbchmfcebeeaaGreat
