import Derived.Test.YtnlbchmfcebeeaaGreatTSf
set_option maxHeartbeats 12800000
set_option maxRecDepth 100000
namespace Go.Proofs.YtnlbchmfcebeeaaGreat
open Go.Proofs.Tryz Ch
open Go.RowKit
namespace Ch
structure GoP(ol:Ol)(x:Sv)(t:Tk):Prop where
 hk:0<x.kept.length
 ok:(dF x.kept).Ok
 nz:∀k,k<(dF x.kept).tm.size->1<=af (dF x.kept).tm k
 wt:(cI ol 17 (tick (dF x.kept)) []).isSome=true
 now:(oO x t).now.Ok
 fi:t.fired<=1000
 ou:t.out.size<=1000000000
theorem PB(ol:Ol)(x:Sv)(u:Nat)(t:Tk):(eE ol x u t).1.turn=x.turn:=by
 unfold eE
 split
 ·rfl
 unfold r9
 split
 ·rfl
 unfold rZ
 split
 ·rfl
 split<;>rfl
theorem UI(ol:Ol)(x:Sv)(u:Nat)(t:Tk):(eE ol x u t).1.tasks.length=x.tasks.length:=by
 unfold eE
 split
 ·rfl
 unfold r9
 split
 ·rfl
 unfold rZ
 split
 ·simp[ay]
 split
 ·simp[ay]
 simp[ay,j1]
end Ch
section
variable (w:World) {xb tb:Nat} {pc:Pc} {ol:Ol} {x:Sv} {kv:Value}
theorem PC(h:dT w xb tb 138 pc ol x kv)(hbd:x.Bd)(hol:ol.Ok){u:Nat}{t:Tk}(hu:x.tasks[u]? =some t)(hg:GoP ol x t):
 Calls prog 192 #[.pointer (some ⟨xb,0,none⟩),.pointer (some ⟨tb,u*45,none⟩)] w λr w'=>r= .returned (.tuple #[.agg (bW (eE ol x u t).2.1),.bool (eE ol x u t).2.2])/\gL w w' xb tb 138 pc ol kv (eE ol x u t).1:=by
 have hlow:=h.low;have K1:Kp (λ_=>False) w (w.alloc (.cells aM 64)):=(Kp.refl _ _).alloc _;have hnew:=heap_alloc_new w (.cells aM 64);have h1:=h.ai K1;have c0:(w.alloc (.cells aM 64)).cell? ⟨tb,u*45,none⟩=some (.int .i64 t.kind):=h1.gW hu (j:=0) (by omega);have HU:=hid (show eE ol x u t=if t.kind=2 then((vh ol x).1,(vh ol x).2,true)else r9 ol x u t from rfl);generalize eE ol x u t=MS at*
 by_cases q:t.kind=2
 ·have ET:=hid (Pz _ h1 hbd hol hg.hk hg.ok hg.nz hg.wt)
  have HF:=hid (HU.out.trans (if_pos q));generalize vh ol x=TS at*;clear HU h h1 hu hg hbd
  go_enter func192,ntmps192
  go_upto_region 1 with(fail)
  generalize w.alloc (.cells aM 64)=w1 at*
  go_wp2_with fail
  refine hm ET ?_;rintro r w2 ⟨rfl,q2⟩;have hn2:=q2.at_ hlow hnew;have HQ:=hid (gL.jE (K1.mono (λ_ _ x=>x.elim)) q2 hn2 (bW TS.2));have ir:=setRow_heap w2 w.heap.size aM (bW TS.2) 64 (0,0) hn2;clear ET q2 hnew
  go_wp2_with (refine wpList_store_row rfl 64 (.tmp 4) (.tmp 12) rfl w.heap.size (bW TS.2) rfl rfl 64 aM hn2 bK rfl (fC _) ?_)
  refine bodyPost_ret (bh rfl _ _ w.heap.size TS.2 rfl ir) rfl ?_;rw[HF.out];exact⟨rfl,HQ.out⟩
 have ES:=hid (Il _ h1 hbd hol hg.hk hu hg.now hg.fi hg.ou);have HF:=hid (HU.out.trans (if_neg q));generalize r9 ol x u t=TS at*;clear HU h h1 hu hg hbd
 go_enter func192,ntmps192
 go_upto_region 1 with(fail)
 generalize w.alloc (.cells aM 64)=w1 at*
 go_wp2_with fail
 refine hm ES ?_;rintro r w2 ⟨rfl,q2⟩;have hn2:=q2.at_ hlow hnew;have HQ:=hid (gL.jE (K1.mono (λ_ _ x=>x.elim)) q2 hn2 (bW TS.2.1));have ir:=setRow_heap w2 w.heap.size aM (bW TS.2.1) 64 (0,0) hn2;clear ES q2 hnew
 go_wp2_with (refine wpList_store_row rfl 64 (.tmp 4) (.tmp 16) rfl w.heap.size (bW TS.2.1) rfl rfl 64 aM hn2 bK rfl (fC _) ?_)
 refine bodyPost_ret (bh rfl _ _ w.heap.size TS.2.1 rfl ir) rfl ?_;rw[HF.out];exact⟨rfl,HQ.out⟩
theorem CO(h:dT w xb tb 138 pc ol x kv)(hbd:x.Bd)(hol:ol.Ok){u:Nat}{t:Tk}(hu:x.tasks[u]? =some t)(hg:t.drawn=true->GoP ol x t):
 Calls prog 141 #[.pointer (some ⟨xb,0,none⟩),.pointer (some ⟨tb,u*45,none⟩)] w λr w'=>r= .returned (.tuple #[.agg (bW (mE ol x u t).2.1),.bool (mE ol x u t).2.2])/\gL w w' xb tb 138 pc ol kv (mE ol x u t).1:=by
 obtain⟨dr,hdr,kK⟩:=vf;have hlow:=h.low;have hts:=lt_of_block h.rX;have hxs:=lt_of_block h.blk;have K1:Kp (λ_=>False) w (w.alloc (.cells aM 64)):=(Kp.refl _ _).alloc _;have hnew:=heap_alloc_new w (.cells aM 64);have h1:=h.ai K1;have hlt:=(List.getElem?_eq_some_iff.1 hu).1;have hwf:=h.tWf hu;have htk:=hbd.tick;have htn:=hbd.turn;have c3:(w.alloc (.cells aM 64)).cell? ⟨tb,u*45+3,none⟩=some (.bool t.drawn):=h1.gW hu (by omega)
 have HU:=hid (show mE ol x u t=if t.drawn=false then(ud x u t,dR,false)
  else if t.ticket≠x.turn then(x,dR,false)
  else({(eE ol x u t).1 with turn:=if(eE ol x u t).2.2 then(eE ol x u t).1.turn+1 else(eE ol x u t).1.turn},(eE ol x u t).2)from rfl)
 generalize mE ol x u t=TT at*
 cases qd:t.drawn with
 |false=>
  rw[qd]at c3;have HF:=hid (HU.out.trans (if_pos qd));have hud:x.tasks[u]? =some t:=hu;have f3:=h1.FJ (u*45+3);have h2:=h1.NH (t':={t with drawn:=true}) hu hwf 3 (by omega) (.bool true) (tY (t':={t with drawn:=true}) rfl rfl 3 (by omega) _ rfl);have K2:Kp (oN xb tb kv) w ((w.alloc (.cells aM 64)).setCell ⟨tb,u*45+3,none⟩ (.bool true)):=(K1.mono (S':=oN xb tb kv) (λ_ _ x=>x.elim)).setCell (p:=⟨tb,u*45+3,none⟩) (λ_=>.inr (.inl rfl)) _
  have hn2:((w.alloc (.cells aM 64)).setCell ⟨tb,u*45+3,none⟩ (.bool true)).heap[w.heap.size]? =some (.cells aM 64 (0,0)):=by
   rw[Below.heap_setCell _ _ _ _ (by show w.heap.size≠tb;omega)];exact hnew
  clear HU h h1 hu hud hg hbd K1 hnew
  go_enter func141,ntmps141
  go_upto_region 1 with(fail)
  generalize w.alloc (.cells aM 64)=w1 at*
  go_upto_region 3 with(fail)
  generalize w1.setCell ⟨tb,u*45+3,none⟩ (.bool true)=w2 at*;have x10:w2.cell? ⟨xb,10,none⟩=some (.int .i64 x.bA):=h2.cell 10;have hu2:=qV hlt {t with drawn:=true};have c4:w2.cell? ⟨tb,u*45+4,none⟩=some (.int .i64 t.ticket):=h2.gW hu2 (by omega);have f4:=h2.FJ (u*45+4);have h3:=h2.NH (t':={t with drawn:=true,ticket:=x.bA}) hu2 hwf 4 (by omega) (.int .i64 x.bA) (tY (t:={t with drawn:=true}) (t':={t with drawn:=true,ticket:=x.bA}) rfl rfl 4 (by omega) _ rfl);rw[kL]at h3;have K3:Kp (oN xb tb kv) w (w2.setCell ⟨tb,u*45+4,none⟩ (.int .i64 x.bA)):=K2.setCell (p:=⟨tb,u*45+4,none⟩) (λ_=>.inr (.inl rfl)) _
  have nD:(w2.setCell ⟨tb,u*45+4,none⟩ (.int .i64 x.bA)).heap[w.heap.size]? =some (.cells aM 64 (0,0)):=by
   rw[Below.heap_setCell _ _ _ _ (by show w.heap.size≠tb;omega)];exact hn2
  clear h2 K2 hn2 hu2 c3 f3
  go_upto_region 4 with(fail)
  generalize w2.setCell ⟨tb,u*45+4,none⟩ (.int .i64 x.bA)=w3 at*;have y10:w3.cell? ⟨xb,10,none⟩=some (.int .i64 x.bA):=h3.cell 10;have fx:=h3.free 10
  have ef:((x.bA+1:Nat):Int)=(x.bA:Int)+1:=by omega
  have h4:=h3.Yj (x':=ud x u t) rfl rfl 10 (.int .i64 ((x.bA:Int)+1)) (by rw[<-ef];rfl);have K4:Kp (oN xb tb kv) w (w3.setCell ⟨xb,10,none⟩ (.int .i64 ((x.bA:Int)+1))):=K3.setCell (p:=⟨xb,10,none⟩) (λ_=>.inl rfl) _
  have kU:(w3.setCell ⟨xb,10,none⟩ (.int .i64 ((x.bA:Int)+1))).heap[w.heap.size]? =some (.cells aM 64 (0,0)):=by
   rw[Below.heap_setCell _ _ _ _ (by show w.heap.size≠xb;omega)];exact nD
  clear h3 K3 nD x10 c4 f4 ef
  go_upto_region 5 with(fail)
  generalize w3.setCell ⟨xb,10,none⟩ (.int .i64 ((x.bA:Int)+1))=w4 at*;have HQ:=hid (gL.jE K4 (gL.refl h4) kU aM);have ir:=setRow_heap w4 w.heap.size aM aM 64 (0,0) kU;clear h4 K4 y10 fx
  go_wp2_with (refine wpList_store_row rfl 64 (.tmp 4) (.tmp 30) rfl w.heap.size aM rfl rfl 64 aM kU bK rfl (fC dR) ?_)
  refine bodyPost_ret (bh rfl _ _ w.heap.size dR rfl ir) rfl ?_;rw[HF.out];exact⟨rfl,HQ.out⟩
 |true=>?_
 rw[qd]at c3;have YT:=hg qd;have HV:=hid (HU.out.trans (if_neg (by rw[qd];simp)));have c4:(w.alloc (.cells aM 64)).cell? ⟨tb,u*45+4,none⟩=some (.int .i64 t.ticket):=h1.gW hu (by omega);have x11:(w.alloc (.cells aM 64)).cell? ⟨xb,11,none⟩=some (.int .i64 x.turn):=h1.cell 11
 by_cases qt:t.ticket=x.turn
 ·have HF:=hid (HV.out.trans (if_neg (by simp[qt])))
  have HE:=hid (λW hW=>PC W (x:=x) (xb:=xb) (tb:=tb) (pc:=pc) (kv:=kv) hW hbd hol hu YT);have hmt:=PB ol x u t
  have hq:(t.ticket:Int)=(x.turn:Int):=by omega
  have HH:=hid (ae h1 K1);generalize eE ol x u t=MS at*;clear HU HV h h1 hu hg hbd K1 YT qd
  go_enter func141,ntmps141
  go_upto_region 1 with(fail)
  generalize w.alloc (.cells aM 64)=w1 at*
  go_upto_region 6 with(fail)
  go_quiet (fail)
  rename_i nq;have KD:Kp (λ_=>False) w1 (w1.drewN nq):=(Kp.refl _ _).drewN nq;have h2:=HH.out.1.ai KD;have K2:=HH.out.2.trans KD;have hn2:=KD.at_ hnew (λx=>x);generalize w1.drewN nq=w2 at*;have EM:=hid (HE.out w2 h2);have HK:=hid K2;clear HE h2 K2 KD hnew c3 c4 x11 HH hq qt
  go_wp2_with fail
  refine hm EM ?_;rintro r w3 ⟨rfl,q3⟩;have nD:=q3.at_ hlow hn2;have hnr:=heap_alloc_new w3 (.cells aM 64);have hb4:=setRow_heap (w3.alloc (.cells aM 64)) w3.heap.size aM (bW MS.2.1) 64 (0,0) hnr;have K4:Kp (λ_=>False) w3 ((w3.alloc (.cells aM 64)).setRow w3.heap.size (bW MS.2.1)):=((Kp.refl _ _).alloc _).setRow (λx=>by omega) _;have q4:=q3.ai K4;have kU:=K4.at_ nD (λx=>x)
  have hrb:xb<w3.heap.size:=by have:=lt_of_block nD;omega
  have hrw:w.heap.size<w3.heap.size:=lt_of_block nD;clear EM q3 K4 nD hn2
  go_upto_region 9 with(refine wpList_store_row rfl 64 (.tmp 6) (.tmp 45) rfl w3.heap.size (bW MS.2.1) rfl rfl 64 aM hnr bK rfl (fC _) ?_)
  generalize (w3.alloc (.cells aM 64)).setRow w3.heap.size (bW MS.2.1)=w4 at*;generalize w3.heap.size=rb at*;obtain⟨X,rp,dn⟩:=MS;simp only at*;obtain⟨kv4,h4,n4,KX⟩:=q4
  cases dn with
  |true=>
   have y11:w4.cell? ⟨xb,11,none⟩=some (.int .i64 X.turn):=h4.cell 11;have fx:=h4.free 11
   have ef:((X.turn+1:Nat):Int)=(X.turn:Int)+1:=by omega
   have h5:=h4.Yj (x':={X with turn:=X.turn+1}) rfl rfl 11 (.int .i64 ((X.turn:Int)+1)) (by rw[<-ef];rfl)
   have q5:gL w2 (w4.setCell ⟨xb,11,none⟩ (.int .i64 ((X.turn:Int)+1))) xb tb 138 pc ol kv {X with turn:=X.turn+1}:=⟨kv4,h5,n4,KX.setCell (p:=⟨xb,11,none⟩) (λ_=>.inl rfl) _⟩
   have od:(w4.setCell ⟨xb,11,none⟩ (.int .i64 ((X.turn:Int)+1))).heap[w.heap.size]? =some (.cells aM 64 (0,0)):=by
    rw[Below.heap_setCell _ _ _ _ (by show w.heap.size≠xb;omega)];exact kU
   have hb5:(w4.setCell ⟨xb,11,none⟩ (.int .i64 ((X.turn:Int)+1))).heap[rb]? =some (.cells (bW rp) 64 (0,0)):=by
    rw[Below.heap_setCell _ _ _ _ (by show rb≠xb;omega)];exact hb4
   have hX:X.turn<=1000000000000000:=by omega
   clear h4 n4 KX h5 hnr kU hb4 ef hmt
   go_upto_region 11 with(fail)
   generalize w4.setCell ⟨xb,11,none⟩ (.int .i64 ((X.turn:Int)+1))=w5 at*;have HQ:=hid (gL.jE (HK.out.mono (λ_ _ x=>x.elim)) q5 od (bW rp));have ir:=setRow_heap w5 w.heap.size aM (bW rp) 64 (0,0) od;clear q5 y11 fx
   go_wp2_with (first|refine wpList_load_row rfl 64 (.tmp 6) rfl rb rfl 64 (bW rp) (0,0) dr hb5 hdr (by cases dr<;>first|rfl|exact absurd kK (by simp[ak])) bK ?_|refine wpList_store_row rfl 64 (.tmp 4) (.tmp 55) rfl w.heap.size (bW rp) rfl rfl 64 aM od bK rfl (fC _) ?_)
   refine bodyPost_ret (bh rfl _ _ w.heap.size rp rfl ir) rfl ?_;rw[HF.out];exact⟨rfl,HQ.out⟩
  |false=>?_
  have q4:gL w2 w4 xb tb 138 pc ol kv X:=⟨kv4,h4,n4,KX⟩
  have HQ:=hid (gL.jE (HK.out.mono (λ_ _ x=>x.elim)) q4 kU (bW rp));have ir:=setRow_heap w4 w.heap.size aM (bW rp) 64 (0,0) kU;clear h4 n4 KX q4 hnr hmt
  go_wp2_with (first|refine wpList_load_row rfl 64 (.tmp 6) rfl rb rfl 64 (bW rp) (0,0) dr hb4 hdr (by cases dr<;>first|rfl|exact absurd kK (by simp[ak])) bK ?_|refine wpList_store_row rfl 64 (.tmp 4) (.tmp 55) rfl w.heap.size (bW rp) rfl rfl 64 aM kU bK rfl (fC _) ?_)
  refine bodyPost_ret (bh rfl _ _ w.heap.size rp rfl ir) rfl ?_;rw[HF.out];exact⟨rfl,HQ.out⟩
 have HF:=hid (HV.out.trans (if_pos qt))
 have hq:¬(t.ticket:Int)=(x.turn:Int):=by omega
 have HH:=hid (ae h1 K1);clear HU HV h h1 hu hg hbd K1 YT qd
 go_enter func141,ntmps141
 go_upto_region 1 with(fail)
 generalize w.alloc (.cells aM 64)=w1 at*
 go_upto_region 6 with(fail)
 go_quiet (fail)
 rename_i nq;have KD:Kp (λ_=>False) w1 (w1.drewN nq):=(Kp.refl _ _).drewN nq;have h2:=HH.out.1.ai KD;have K2:=HH.out.2.trans KD;have hn2:=KD.at_ hnew (λx=>x);generalize w1.drewN nq=w2 at*;have HQ:=hid (gL.jE (K2.mono (λ_ _ x=>x.elim)) (gL.refl h2) hn2 aM);have ir:=setRow_heap w2 w.heap.size aM aM 64 (0,0) hn2;clear h2 K2 KD hnew HH
 go_wp2_with (refine wpList_store_row rfl 64 (.tmp 4) (.tmp 40) rfl w.heap.size aM rfl rfl 64 aM hn2 bK rfl (fC dR) ?_)
 refine bodyPost_ret (bh rfl _ _ w.heap.size dR rfl ir) rfl ?_;rw[HF.out];exact⟨rfl,HQ.out⟩
end
namespace Ch
structure StP(ol:Ol)(x:Sv)(t:Tk):Prop where
 rd:t.kind=3->t.steps<=1000/\(2<=t.steps->∃(k:Nat) (v:Vr),x.kept[k]? =some v/\t.pinned=(v.num:Int)/\0<v.pins/\∀(j:Nat) (u:Vr),x.kept[j]? =some u->u.num=v.num->j=k)
 go:t.kind≠3->t.kind≠4->t.drawn=true->GoP ol x t
theorem UJ(ol:Ol)(x:Sv)(u:Nat)(t:Tk):(mE ol x u t).1.tasks.length=x.tasks.length:=by
 unfold mE
 split
 ·simp[ud,ay]
 split
 ·rfl
 exact UI ol x u t
theorem Yo(ol:Ol)(x:Sv)(u:Nat)(t:Tk):(kh ol x u t).1.tasks.length=x.tasks.length:=by
 unfold kh
 split
 ·unfold mD
  split
  ·unfold mC
   split
   ·simp[ay]
   split<;>simp[ay]
  split<;>simp[ay]
 split
 ·rfl
 exact UJ ol x u t
end Ch
section
variable (w:World) {xb tb:Nat} {pc:Pc} {ol:Ol} {x:Sv} {kv:Value}
theorem LJ(h:dT w xb tb 138 pc ol x kv)(hbd:x.Bd)(hol:ol.Ok){u:Nat}{t:Tk}(hu:x.tasks[u]? =some t)(hg:StP ol x t):
 Calls prog 91 #[.pointer (some ⟨xb,0,none⟩),.pointer (some ⟨tb,u*45,none⟩)] w λr w'=>r= .returned (.tuple #[.agg (bW (kh ol x u t).2.1),.bool (kh ol x u t).2.2])/\gL w w' xb tb 138 pc ol kv (kh ol x u t).1:=by
 have hlow:=h.low;have K1:Kp (λ_=>False) w (w.alloc (.cells aM 64)):=(Kp.refl _ _).alloc _;have hnew:=heap_alloc_new w (.cells aM 64);have h1:=h.ai K1;have c0:(w.alloc (.cells aM 64)).cell? ⟨tb,u*45,none⟩=some (.int .i64 t.kind):=h1.gW hu (j:=0) (by omega);have c2:(w.alloc (.cells aM 64)).cell? ⟨tb,u*45+2,none⟩=some (.int .i64 t.at_):=h1.gW hu (by omega);have HU:=hid (show kh ol x u t=if t.kind=3 then mD ol x u t else if t.kind=4 then(x,qU x t.at_,true)else mE ol x u t from rfl);generalize kh ol x u t=MS at*
 by_cases q:t.kind=3
 ·have ET:=hid (Ij _ h1 hbd hol hu (hg.rd q).1 (hg.rd q).2)
  have HF:=hid (HU.out.trans (if_pos q));generalize mD ol x u t=TS at*;clear HU h h1 hu hg hbd
  go_enter func91,ntmps91
  go_upto_region 1 with(fail)
  generalize w.alloc (.cells aM 64)=w1 at*
  go_wp2_with fail
  refine hm ET ?_;rintro r w2 ⟨rfl,q2⟩;have hn2:=q2.at_ hlow hnew;have HQ:=hid (gL.jE (K1.mono (λ_ _ x=>x.elim)) q2 hn2 (bW TS.2.1));have ir:=setRow_heap w2 w.heap.size aM (bW TS.2.1) 64 (0,0) hn2;clear ET q2 hnew
  go_wp2_with (refine wpList_store_row rfl 64 (.tmp 4) (.tmp 15) rfl w.heap.size (bW TS.2.1) rfl rfl 64 aM hn2 bK rfl (fC _) ?_)
  refine bodyPost_ret (bh rfl _ _ w.heap.size TS.2.1 rfl ir) rfl ?_;rw[HF.out];exact⟨rfl,HQ.out⟩
 by_cases q':t.kind=4
 ·have EP:=hid (Yk _ h1 hbd t.at_)
  have HF:=hid (HU.out.trans ((if_neg q).trans (if_pos q')));generalize qU x t.at_=TS at*;have HH:=hid (ae h1 K1);clear HU h h1 hu hg hbd K1
  go_enter func91,ntmps91
  go_upto_region 1 with(fail)
  generalize w.alloc (.cells aM 64)=w1 at*
  go_wp2_with fail
  refine hm EP ?_;rintro r w2 ⟨rfl,K2⟩;have hn2:=K2.at_ hnew (λx=>x);have HQ:=hid (gL.jE (HH.out.2.mono (λ_ _ x=>x.elim)) ((gL.refl HH.out.1).ai K2) hn2 (bW TS));have ir:=setRow_heap w2 w.heap.size aM (bW TS) 64 (0,0) hn2;clear EP K2 hnew
  go_wp2_with (refine wpList_store_row rfl 64 (.tmp 4) (.tmp 24) rfl w.heap.size (bW TS) rfl rfl 64 aM hn2 bK rfl (fC _) ?_)
  refine bodyPost_ret (bh rfl _ _ w.heap.size TS rfl ir) rfl ?_;rw[HF.out];exact⟨rfl,HQ.out⟩
 have ES:=hid (CO _ h1 hbd hol hu (hg.go q q'));have HF:=hid (HU.out.trans ((if_neg q).trans (if_neg q')));generalize mE ol x u t=TS at*;clear HU h h1 hu hg hbd
 go_enter func91,ntmps91
 go_upto_region 1 with(fail)
 generalize w.alloc (.cells aM 64)=w1 at*
 go_wp2_with fail
 refine hm ES ?_;rintro r w2 ⟨rfl,q2⟩;have hn2:=q2.at_ hlow hnew;have HQ:=hid (gL.jE (K1.mono (λ_ _ x=>x.elim)) q2 hn2 (bW TS.2.1));have ir:=setRow_heap w2 w.heap.size aM (bW TS.2.1) 64 (0,0) hn2;clear ES q2 hnew
 go_wp2_with (refine wpList_store_row rfl 64 (.tmp 4) (.tmp 28) rfl w.heap.size (bW TS.2.1) rfl rfl 64 aM hn2 bK rfl (fC _) ?_)
 refine bodyPost_ret (bh rfl _ _ w.heap.size TS.2.1 rfl ir) rfl ?_;rw[HF.out];exact⟨rfl,HQ.out⟩
theorem PD(h:dT w xb tb 138 pc ol x kv)(hbd:x.Bd)(hol:ol.Ok)(u:Int)(hg:∀t,ue x u=some t->StP ol x t):
 Calls prog 63 #[.pointer (some ⟨xb,0,none⟩),.int .i64 u] w λr w'=>r= .returned (.tuple #[.agg (bW (cZ ol x u).2.1),.bool (cZ ol x u).2.2.1,.int .i64 (cZ ol x u).2.2.2])/\gL w w' xb tb 138 pc ol kv (cZ ol x u).1:=by
 obtain⟨dr,hdr,kK⟩:=vf;have hlow:=h.low;have hts:=lt_of_block h.rX;have hxs:=lt_of_block h.blk;have K1:Kp (λ_=>False) w (w.alloc (.cells aM 64)):=(Kp.refl _ _).alloc _;have hnew:=heap_alloc_new w (.cells aM 64);have h1:=h.ai K1;have EC:=hid (xA _ h1 u)
 by_cases hc:0<=u/\u<(x.tasks.length:Int)
 ·obtain⟨n,rfl⟩:∃n:Nat,u=(n:Int):=⟨u.toNat,by omega⟩
  have hn:n<x.tasks.length:=by omega
  obtain⟨t,hu⟩:∃t,x.tasks[n]? =some t:=⟨_,List.getElem?_eq_getElem hn⟩
  have yq:ue x (n:Int)=some t:=by unfold ue;rw[if_pos (by omega)];exact hu
  have hst:=hg t yq
  have hb1:(decide (0<=(n:Int))&&decide ((n:Int)<(x.tasks.length:Int)))=true:=by simp;omega
  rw[hb1]at EC;have x9:(w.alloc (.cells aM 64)).cell? ⟨xb,9,none⟩=some (.slice (some ⟨tb,0,none⟩) x.tasks.length x.tasks.length):=h1.cell 9;have c0:(w.alloc (.cells aM 64)).cell? ⟨tb,n*45,none⟩=some (.int .i64 t.kind):=h1.gW hu (j:=0) (by omega)
  have HU:=hid (show cZ ol x (n:Int)=if t.kind=0 then(x,dR,false,13)
   else(if(kh ol x n t).2.2 then ay (kh ol x n t).1 n fB else(kh ol x n t).1,(kh ol x n t).2.1,(kh ol x n t).2.2,0)by unfold cZ;rw[yq];rfl)
  have hlt:(n:Int)<(x.tasks.length:Int):=by omega
  generalize cZ ol x (n:Int)=SS at*
  by_cases q:t.kind=0
  ·have HF:=hid (HU.out.trans (if_pos q))
   have HH:=hid (ae h1 K1);clear HU h h1 hu hg hbd K1 hst hc yq hb1
   go_enter func63,ntmps63
   go_upto_region 1 with(fail)
   generalize w.alloc (.cells aM 64)=w1 at*;have HQ:=hid (gL.jE (HH.out.2.mono (λ_ _ x=>x.elim)) (gL.refl HH.out.1) hnew aM);have ir:=setRow_heap w1 w.heap.size aM aM 64 (0,0) hnew
   go_wp2_with fail
   refine hm EC ?_;rintro r w2 ⟨rfl,rfl⟩;clear EC HH
   go_wp2_with (refine wpList_store_row rfl 64 (.tmp 4) (.tmp 26) rfl w.heap.size aM rfl rfl 64 aM hnew bK rfl (fC dR) ?_)
   refine bodyPost_ret (aq rfl _ _ w.heap.size 64 aM (0,0) dr rfl ir hdr kK bK) rfl ?_;rw[HF.out];exact⟨rfl,HQ.out⟩
  have HV:=hid (HU.out.trans (if_neg q));have EM:=hid (LJ _ h1 hbd hol hu hst);have hal:=Yo ol x n t;generalize kh ol x n t=MS at*;clear HU h h1 hu hg hbd hst hc yq hb1
  go_enter func63,ntmps63
  go_upto_region 1 with(fail)
  generalize w.alloc (.cells aM 64)=w1 at*
  go_wp2_with fail
  refine hm EC ?_;rintro r w2 ⟨rfl,rfl⟩;clear EC
  go_wp2_with fail
  refine hm EM ?_;rintro r w3 ⟨rfl,q3⟩;have nD:=q3.at_ hlow hnew;have hnr:=heap_alloc_new w3 (.cells aM 64);have hb4:=setRow_heap (w3.alloc (.cells aM 64)) w3.heap.size aM (bW MS.2.1) 64 (0,0) hnr;have K4:Kp (λ_=>False) w3 ((w3.alloc (.cells aM 64)).setRow w3.heap.size (bW MS.2.1)):=((Kp.refl _ _).alloc _).setRow (λx=>by omega) _;have q4:=q3.ai K4;have kU:=K4.at_ nD (λx=>x);have hrw:w.heap.size<w3.heap.size:=lt_of_block nD;clear EM q3 K4 nD hnew x9 c0
  go_upto_region 7 with(refine wpList_store_row rfl 64 (.tmp 8) (.tmp 31) rfl w3.heap.size (bW MS.2.1) rfl rfl 64 aM hnr bK rfl (fC _) ?_)
  generalize (w3.alloc (.cells aM 64)).setRow w3.heap.size (bW MS.2.1)=w4 at*;generalize w3.heap.size=rb at*;obtain⟨X,rp,dn⟩:=MS;simp only at*;obtain⟨kv4,h4,n4,KX⟩:=q4
  cases dn with
  |true=>
   have hnX:n<X.tasks.length:=by omega
   obtain⟨t4,Vg⟩:∃t,X.tasks[n]? =some t:=⟨_,List.getElem?_eq_getElem hnX⟩
   have Ym:=h4.LH;have htc:=h4.rX;have h5:=h4.Yl (t':=fB) Vg mR 0 (js fB) (by rw[eH (t:=fB) mR];exact Nat.le_refl _) (by rw[List.take_zero,List.nil_append,List.drop_eq_nil_of_le (by rw[eH (t:=fB) mR,eH (h4.tWf Vg)];exact Nat.le_refl _),List.append_nil])
   have q5:gL w2 (w4.setRow tb (putAt (cB X.tasks).toArray (n*45) (js fB))) xb tb 138 pc ol kv (ay X n fB):=⟨kv4,h5,n4,KX.setRow (λ_=>.inr (.inl rfl)) _⟩
   have od:(w4.setRow tb (putAt (cB X.tasks).toArray (n*45) (js fB))).heap[w.heap.size]? =some (.cells aM 64 (0,0)):=by
    rw[setRow_other _ _ _ _ (by omega)];exact kU
   have hb5:(w4.setRow tb (putAt (cB X.tasks).toArray (n*45) (js fB))).heap[rb]? =some (.cells (bW rp) 64 (0,0)):=by
    rw[setRow_other _ _ _ _ (by omega)];exact hb4
   have QH:n*45+(js fB).length<=(cB X.tasks).toArray.size:=by rw[Ym,eH (t:=fB) mR];omega
   have sI:(prog.info? 173).map (·.size)=some (js fB).length:=by rw[eH (t:=fB) mR];exact Pw
   have sO:=Ih fB;have sA:(js fB).toArray=xw:=LG;generalize (cB X.tasks).toArray=TA at*;generalize js fB=TL at*;have Nf:=hid sA;clear h4 n4 KX h5 hnr kU hb4 Vg Ym hal sA
   go_upto_region 9 with(refine iR rfl 173 (.tmp 36) (.tmp 35) rfl tb (n*45) TL rfl (by rw[Nf.out];rfl) 173 TA htc sI QH sO ?_)
   generalize w4.setRow tb (putAt TA (n*45) TL)=w5 at*;have HQ:=hid (gL.jE (K1.mono (λ_ _ x=>x.elim)) q5 od (bW rp));have ir:=setRow_heap w5 w.heap.size aM (bW rp) 64 (0,0) od;clear q5
   go_wp2_with (first|refine wpList_load_row rfl 64 (.tmp 8) rfl rb rfl 64 (bW rp) (0,0) dr hb5 hdr (by cases dr<;>first|rfl|exact absurd kK (by simp[ak])) bK ?_|refine wpList_store_row rfl 64 (.tmp 4) (.tmp 37) rfl w.heap.size (bW rp) rfl rfl 64 aM od bK rfl (fC _) ?_)
   refine bodyPost_ret (aq rfl _ _ w.heap.size 64 (bW rp) (0,0) dr rfl ir hdr kK bK) rfl ?_;rw[HV.out];exact⟨rfl,HQ.out⟩
  |false=>?_
  have q4:gL w2 w4 xb tb 138 pc ol kv X:=⟨kv4,h4,n4,KX⟩
  have HQ:=hid (gL.jE (K1.mono (λ_ _ x=>x.elim)) q4 kU (bW rp));have ir:=setRow_heap w4 w.heap.size aM (bW rp) 64 (0,0) kU;clear h4 n4 KX q4 hnr hal
  go_wp2_with (first|refine wpList_load_row rfl 64 (.tmp 8) rfl rb rfl 64 (bW rp) (0,0) dr hb4 hdr (by cases dr<;>first|rfl|exact absurd kK (by simp[ak])) bK ?_|refine wpList_store_row rfl 64 (.tmp 4) (.tmp 37) rfl w.heap.size (bW rp) rfl rfl 64 aM kU bK rfl (fC _) ?_)
  refine bodyPost_ret (aq rfl _ _ w.heap.size 64 (bW rp) (0,0) dr rfl ir hdr kK bK) rfl ?_;rw[HV.out];exact⟨rfl,HQ.out⟩
 have yq:ue x u=none:=by
  unfold ue
  split
  ·rw[List.getElem?_eq_none_iff];omega
  rfl
 have hb1:(decide (0<=u)&&decide (u<(x.tasks.length:Int)))=false:=by
  rw[Bool.eq_false_iff];intro e;apply hc;simpa using e
 rw[hb1]at EC;have HF:=hid (show cZ ol x u=(x,dR,false,10)by unfold cZ;rw[yq]);generalize cZ ol x u=SS at*;have HH:=hid (ae h1 K1);clear h h1 hg hbd K1 hc yq hb1
 go_enter func63,ntmps63
 go_upto_region 1 with(fail)
 generalize w.alloc (.cells aM 64)=w1 at*;have HQ:=hid (gL.jE (HH.out.2.mono (λ_ _ x=>x.elim)) (gL.refl HH.out.1) hnew aM);have ir:=setRow_heap w1 w.heap.size aM aM 64 (0,0) hnew
 go_wp2_with fail
 refine hm EC ?_;rintro r w2 ⟨rfl,rfl⟩;clear EC HH
 go_wp2_with (refine wpList_store_row rfl 64 (.tmp 4) (.tmp 14) rfl w.heap.size aM rfl rfl 64 aM hnew bK rfl (fC dR) ?_)
 refine bodyPost_ret (aq rfl _ _ w.heap.size 64 aM (0,0) dr rfl ir hdr kK bK) rfl ?_;rw[HF.out];exact⟨rfl,HQ.out⟩
end
namespace Ch
theorem LK{e:ByteArray}(h:e.size<1\/4<e.size):gK e=false:=by
 unfold gK
 rcases h with h|h
 ·rw[decide_eq_false (show¬ 1<=e.size by omega)];rfl
 rw[decide_eq_false (show¬e.size<=4 by omega)];simp
theorem UK{e:ByteArray}{i:Nat}(h:i<e.size)(hb:bR (af e i)=false):gK e=false:=by
 unfold gK
 have:(List.range e.size).all (λj=>bR (af e j))=false:=by
  rw[List.all_eq_false];exact⟨i,by simpa using h,by rw[hb];simp⟩
 rw[this,Bool.and_false]
theorem LM{e:ByteArray}(h1:¬e.size<1)(h2:¬ 4<e.size)(h:∀j,j<e.size->bR (af e j)=true):gK e=true:=by
 unfold gK
 have:(List.range e.size).all (λj=>bR (af e j))=true:=by
  rw[List.all_eq_true];intro j hj;exact h j (by simpa using hj)
 rw[this,decide_eq_true (show 1<=e.size by omega),decide_eq_true (show e.size<=4 by omega)];rfl
end Ch
theorem uO{e:ByteArray}(h:¬e=⟨#[]⟩):e.toList.isEmpty=false:=by rw[<-decide_eq_emptyBytes];exact decide_eq_false h
def dY(r:Rq):Array Value:=#[.int .i64 r.kind,.string r.events,.int .i64 r.at_]
section
variable (w:World)
theorem LN(e:ByteArray):
 Calls prog 186 #[.string e] w λr w'=>r= .returned (.bool (gK e))/\w'=w:=by
 by_cases h1:e.size<1
 ·have HF:=hid (LK (Or.inl h1))
  have h1':(e.size:Int)<1:=by omega
  go_enter func186,ntmps186
  go_wp2;go_ret;exact⟨by rw[HF.out];rfl,rfl⟩
 have h1':¬(e.size:Int)<1:=by omega
 by_cases h2:4<e.size
 ·have HF:=hid (LK (Or.inr h2))
  have h2':(4:Int)<(e.size:Int):=by omega
  go_enter func186,ntmps186
  go_wp2;go_ret;exact⟨by rw[HF.out];rfl,rfl⟩
 have h2':¬(4:Int)<(e.size:Int):=by omega
 have HH:=hid (ae h1 h2)
 go_enter func186,ntmps186
 go_wp2_with fail
 go_loopw [3] (λiv wr=>∃i:Nat,iv= .int .i64 i/\i<=e.size/\wr=w/\Hid (∀j,j<i->bR (af e j)=true)) (λiv _=>e.size-(intOf iv).toNat)
 case atStart=>exact⟨0,rfl,Nat.zero_le _,rfl,hid (λj hj=>by omega)⟩
 case round=>
  obtain⟨i,rfl,hil,rfl,HB⟩:=hrel
  by_cases hlt:i<e.size
  ·have hlt':(i:Int)<(e.size:Int):=by omega
   have hpk:af e i=((e[i]'hlt).toNat:Int):=by simp[af,hlt]
   have hidx:e[i]? =some (e[i]'hlt):=getElem?_pos e i hlt;have EI:=hid (iU (af e i) wr);have hcs:Hid (bR (af e i)=false->gK e=false):=hid (λq=>UK hlt q)
   have hcn:Hid (bR (af e i)=true->∀j,j<i+1->bR (af e j)=true):=hid (λq j hj=>by
    by_cases e1:j=i
    ·subst e1;exact q
    exact HB.out j (by omega))
   rw[hpk]at EI;generalize hev:bR (af e i)=ev at*;rw[<-hpk,hev]at EI;rw[hpk]at EI;have HP:=hid hpk;clear hpk HB hev;generalize hc:((e[i]'hlt).toNat:Int)=c at*
   go_wp2_with fail
   refine hm EI ?_;rintro r w2 ⟨rfl,rfl⟩;clear EI
   cases ev with
   |true=>
    go_wp2_with fail
    go_roundw
    case rel=>exact⟨i+1,by go_num,by omega,by first|rfl|trivial,hid (hcn.out (by first|rfl|trivial))⟩
    case measure=>simp[intOf];omega
   |false=>?_
   go_wp2;go_ret;exact⟨by rw[hcs.out (by first|rfl|trivial)];rfl,rfl⟩
  have hlt':¬(i:Int)<(e.size:Int):=by omega
  obtain rfl:i=e.size:=by omega
  have HF:=hid (LM HH.out.1 HH.out.2 HB.out);clear HB;go_wp2;go_ret;exact⟨by rw[HF.out];rfl,rfl⟩
theorem DW(r:Rq):
 Calls prog 136 #[.agg (dY r)] w λx w'=>x= .returned (.bool (mT r))/\Kp (λ_=>False) w w':=by
 obtain⟨kd,ev,a⟩:=r;have K1:Kp (λ_=>False) w (w.alloc (.cells #[.int .i64 kd,.string ev,.int .i64 a] 79)):=(Kp.refl _ _).alloc _;have EB:=hid (LN (w.alloc (.cells #[.int .i64 kd,.string ev,.int .i64 a] 79)) ev)
 have HU:=hid (show mT ⟨kd,ev,a⟩=if kd=1 then gK ev&&decide (-1<=a)
  else if kd=2 then decide (ev.size=0)&&decide (a=0)
  else if kd=3 then decide (ev.size=0)&&decide (-1<=a)
  else if kd=4 then decide (ev.size=0)&&decide (0<=a)
  else false from rfl)
 generalize mT ⟨kd,ev,a⟩=RQ at*;generalize gK ev=bt at*;have HK:=hid K1;clear K1;unfold dY
 by_cases q1:kd=1
 ·have HF:=hid (HU.out.trans (if_pos q1))
  clear HU;subst q1
  go_enter func136,ntmps136
  go_wp2_with fail
  refine hm EB ?_;rintro r w2 ⟨rfl,rfl⟩;clear EB
  cases bt with
  |true=>
   go_wp2;go_ret;exact⟨by rw[HF.out];rfl,HK.out⟩
  |false=>?_
  go_wp2;go_ret;exact⟨by rw[HF.out];rfl,HK.out⟩
 by_cases q2:kd=2
 ·have HF:=hid (HU.out.trans ((if_neg q1).trans (if_pos q2)))
  clear HU EB q1;subst q2
  by_cases qe:ev=⟨#[]⟩
  ·subst qe
   go_enter func136,ntmps136
   go_wp2;go_ret;exact⟨by rw[HF.out];rfl,HK.out⟩
  have hne:ev.toList.isEmpty=false:=uO qe
  have hnz:¬ev.size=0:=λz=>qe (by apply ByteArray.ext;exact Array.eq_empty_of_size_eq_zero z)
  have HN:=hid hnz;clear hnz qe
  go_enter func136,ntmps136
  go_wp2;go_ret;exact⟨by rw[HF.out,decide_eq_false HN.out];rfl,HK.out⟩
 by_cases q3:kd=3
 ·have HF:=hid (HU.out.trans ((if_neg q1).trans ((if_neg q2).trans (if_pos q3))))
  clear HU EB q1 q2;subst q3
  by_cases qe:ev=⟨#[]⟩
  ·subst qe
   go_enter func136,ntmps136
   go_wp2;go_ret;exact⟨by rw[HF.out];rfl,HK.out⟩
  have hne:ev.toList.isEmpty=false:=uO qe
  have hnz:¬ev.size=0:=λz=>qe (by apply ByteArray.ext;exact Array.eq_empty_of_size_eq_zero z)
  have HN:=hid hnz;clear hnz qe
  go_enter func136,ntmps136
  go_wp2;go_ret;exact⟨by rw[HF.out,decide_eq_false HN.out];rfl,HK.out⟩
 by_cases q4:kd=4
 ·have HF:=hid (HU.out.trans ((if_neg q1).trans ((if_neg q2).trans ((if_neg q3).trans (if_pos q4)))))
  clear HU EB q1 q2 q3;subst q4
  by_cases qe:ev=⟨#[]⟩
  ·subst qe
   go_enter func136,ntmps136
   go_wp2;go_ret;exact⟨by rw[HF.out];rfl,HK.out⟩
  have hne:ev.toList.isEmpty=false:=uO qe
  have hnz:¬ev.size=0:=λz=>qe (by apply ByteArray.ext;exact Array.eq_empty_of_size_eq_zero z)
  have HN:=hid hnz;clear hnz qe
  go_enter func136,ntmps136
  go_wp2;go_ret;exact⟨by rw[HF.out,decide_eq_false HN.out];rfl,HK.out⟩
 have HF:=hid (HU.out.trans ((if_neg q1).trans ((if_neg q2).trans ((if_neg q3).trans (if_neg q4)))));clear HU EB
 go_enter func136,ntmps136
 go_wp2;go_ret;exact⟨by rw[HF.out];rfl,HK.out⟩
theorem LQ(r:Rq):
 Calls prog 137 #[.agg (dY r)] w λx w'=>x= .returned (.agg (js (vM r)).toArray)/\Kp (λ_=>False) w w':=by
 obtain⟨kd,ev,a⟩:=r;obtain⟨dt,hdt,akS⟩:=agS;have hwf:(vM ⟨kd,ev,a⟩).now.Wf:=mR
 have sI:(prog.info? 173).map (·.size)=some (js (vM ⟨kd,ev,a⟩)).toArray.size:=by
  rw[show(js (vM ⟨kd,ev,a⟩)).toArray.size=45 by simp[eH hwf]];exact Pw
 have sS:(js (vM ⟨kd,ev,a⟩)).toArray.size=xw.size:=by rw[show(js (vM ⟨kd,ev,a⟩)).toArray.size=45 by simp[eH hwf]];rfl
 have sO:(js (vM ⟨kd,ev,a⟩)).toArray.all (λx=>x.oneCell')=true:=by
  apply Array.all_eq_true_iff_forall_mem.2;intro x hx;exact Ih _ x (by simpa using hx)
 have HB:=hid (show prog.built 173 [(0,.int .i64 kd),(1,.string ev),(2,.int .i64 a)]=some (js (vM ⟨kd,ev,a⟩)).toArray by kernel_rfl);have K1:Kp (λ_=>False) w ((w.alloc (.cells #[.int .i64 kd,.string ev,.int .i64 a] 79)).alloc (.cells xw 173)):=((Kp.refl _ _).alloc _).alloc _
 have hb1:((w.alloc (.cells #[.int .i64 kd,.string ev,.int .i64 a] 79)).alloc (.cells xw 173)).heap[w.heap.size]? =some (.cells #[.int .i64 kd,.string ev,.int .i64 a] 79):=by
  rw[Below.heap_alloc _ _ _ (by simp)];exact heap_alloc_new _ _
 have hb2:((w.alloc (.cells #[.int .i64 kd,.string ev,.int .i64 a] 79)).alloc (.cells xw 173)).heap[w.heap.size+1]? =some (.cells xw 173):=heap_alloc2_new w _ _;generalize (js (vM ⟨kd,ev,a⟩)).toArray=TA at*;unfold dY
 go_enter func137,ntmps137
 go_upto_region 1 with(fail)
 generalize (w.alloc (.cells #[.int .i64 kd,.string ev,.int .i64 a] 79)).alloc (.cells xw 173)=w1 at*
 have x1:w1.cell? ⟨w.heap.size,1,none⟩=some (.string ev):=by rw[World.cell?,hb1];rfl
 have hcv:=Lib.run_convert_string_bytes (P:=prog) w1 9 47 5 ev underlying9 underlying47 underlying5;have ae5:=FG w1 ev (grownCap w1 ev.size 0 5);have KB:=wU w1 5 ev;have hb3:=KB.at_ hb1 (λx=>x);have hb4:=KB.at_ hb2 (λx=>x);have KA:=K1.trans KB;generalize grownCap w1 ev.size 0 5=cp at*;generalize Lib.bytesWorld w1 5 ev=w2 at*
 have y0:w2.cell? ⟨w.heap.size,0,none⟩=some (.int .i64 kd):=by rw[World.cell?,hb3];rfl
 have y2:w2.cell? ⟨w.heap.size,2,none⟩=some (.int .i64 a):=by rw[World.cell?,hb3];rfl
 have KF:=KA.setRow (g:=w.heap.size+1) (λx=>by omega) TA;have ir:=setRow_heap w2 (w.heap.size+1) xw TA 173 (0,0) hb4;clear KA KB K1 hb1 hb2 hb3
 go_wp2_with (first|(refine bX rfl 173 #[(0,.tmp 9),(1,.tmp 10),(2,.tmp 12)] rfl TA [(0,.int .i64 kd),(1,.string ev),(2,.int .i64 a)] ?_ HB.out ?_;rfl)|refine wpList_store_row rfl 173 (.tmp 2) (.tmp 13) rfl (w.heap.size+1) TA rfl rfl 173 xw hb4 sI sS.symm sO ?_)
 refine bodyPost_ret (results_cell_row rfl _ _ (w.heap.size+1) 173 TA (0,0) dt rfl ir hdt (by cases dt<;>first|rfl|exact absurd akS (by simp[ak])) sI) rfl ?_;exact⟨rfl,KF⟩
end
theorem rQ:(prog.info? 79).map (·.size)=some 3:=by kernel_rfl
theorem LS:∃d,prog.underlying 79=some d/\ak d=true:=⟨_,underlying79,rfl⟩
theorem Im(r:Rq):(prog.info? 79).map (·.size)=some (dY r).size:=rQ
section
variable (w:World) {xb tb:Nat} {T:TypeId} {pc:Pc} {ol:Ol} {x:Sv} {kv:Value}
theorem UL(h:dT w xb tb T pc ol x kv)(u:Int)(r:Rq):
 Calls prog 84 #[.pointer (some ⟨xb,0,none⟩),.int .i64 u,.agg (dY r)] w λy w'=>y= .returned (.int .i64 (yN x u r).2)/\gL w w' xb tb T pc ol kv (yN x u r).1:=by
 obtain⟨dq,xX,nX⟩:=LS;have hlow:=h.low;have hts:=lt_of_block h.rX;have hxs:=lt_of_block h.blk;have K1:Kp (λ_=>False) w (w.alloc (.cells (dY r) 79)):=(Kp.refl _ _).alloc _;have hnew:=heap_alloc_new w (.cells (dY r) 79);have h1:=h.ai K1;have EC:=hid (xA _ h1 u);have rI:=Im r
 by_cases hc:0<=u/\u<(x.tasks.length:Int)
 ·obtain⟨n,rfl⟩:∃n:Nat,u=(n:Int):=⟨u.toNat,by omega⟩
  have hn:n<x.tasks.length:=by omega
  obtain⟨t,hu⟩:∃t,x.tasks[n]? =some t:=⟨_,List.getElem?_eq_getElem hn⟩
  have yq:ue x (n:Int)=some t:=by unfold ue;rw[if_pos (by omega)];exact hu
  have hb1:(decide (0<=(n:Int))&&decide ((n:Int)<(x.tasks.length:Int)))=true:=by simp;omega
  rw[hb1]at EC;have x9:(w.alloc (.cells (dY r) 79)).cell? ⟨xb,9,none⟩=some (.slice (some ⟨tb,0,none⟩) x.tasks.length x.tasks.length):=h1.cell 9;have c0:(w.alloc (.cells (dY r) 79)).cell? ⟨tb,n*45,none⟩=some (.int .i64 t.kind):=h1.gW hu (j:=0) (by omega);have HU:=hid (show yN x (n:Int) r=if t.kind≠0 then(x,11)else if mT r then(ay x n (vM r),0)else(x,12)by unfold yN;rw[yq];rfl)
  have hlt:(n:Int)<(x.tasks.length:Int):=by omega
  generalize yN x (n:Int) r=SS at*
  by_cases q:t.kind≠0
  ·have HF:=hid (HU.out.trans (if_pos q))
   have HH:=hid (ae h1 K1);clear HU h h1 hu K1 hc yq hb1
   go_enter func84,ntmps84
   go_upto_region 1 with(fail)
   generalize w.alloc (.cells (dY r) 79)=w1 at*
   go_wp2_with fail
   refine hm EC ?_;rintro r w2 ⟨rfl,rfl⟩;clear EC
   go_wp2_with fail
   go_ret;rw[HF.out];exact⟨rfl,(gL.of HH.out.1 (HH.out.2.mono (λ_ _ x=>x.elim)))⟩
  have HV:=hid (HU.out.trans (if_neg q))
  have q':t.kind=0:=by simpa using q
  have ER:=hid (DW (w.alloc (.cells (dY r) 79)) r);have HH:=hid (ae h1 K1);have hwf:(vM r).now.Wf:=mR
  have hput:∀W,dT W xb tb T pc ol x kv->dT (W.setRow tb (putAt (cB x.tasks).toArray (n*45) (js (vM r)))) xb tb T pc ol (ay x n (vM r)) kv:=by
   intro W hW;exact hW.Yl (t':=vM r) hu hwf 0 (js (vM r)) (by rw[eH hwf];exact Nat.le_refl _) (by rw[List.take_zero,List.nil_append,List.drop_eq_nil_of_le (by rw[eH hwf,eH (hW.tWf hu)];exact Nat.le_refl _),List.append_nil])
  have Ym:=h1.LH
  have htk:∀W,dT W xb tb T pc ol x kv->W.heap[tb]? =some (.cells (cB x.tasks).toArray 173 (0,0)):=λW hW=>hW.rX
  have QH:n*45+(js (vM r)).length<=(cB x.tasks).toArray.size:=by rw[Ym,eH hwf];omega
  have sI:(prog.info? 173).map (·.size)=some (js (vM r)).length:=by rw[eH hwf];exact Pw
  have sO:=Ih (vM r)
  have EN:∀W,Hid (Calls prog 137 #[.agg (dY r)] W λx w'=>x= .returned (.agg (js (vM r)).toArray)/\Kp (λ_=>False) W w'):=λW=>hid (LQ W r)
  generalize (cB x.tasks).toArray=TA at*;generalize js (vM r)=TL at*;have HP:=hid (ae hput (ae htk EN));clear HU h h1 hu K1 hc yq hb1 q hput htk EN Ym;generalize mT r=rq at*;generalize rJ:dY r=RA at*
  go_enter func84,ntmps84
  go_upto_region 1 with(fail)
  generalize w.alloc (.cells RA 79)=w1 at*
  go_wp2_with fail
  refine hm EC ?_;rintro r w2 ⟨rfl,rfl⟩;clear EC
  go_wp2_with (refine wpList_load_row rfl 79 (.tmp 5) rfl w.heap.size rfl 79 RA (0,0) dq hnew xX (by cases dq<;>first|rfl|exact absurd nX (by simp[ak])) rI ?_)
  refine hm ER ?_;rintro r w3 ⟨rfl,K3⟩;have h3:=HH.out.1.ai K3;have KA:=HH.out.2.trans K3;have nD:=K3.at_ hnew (λx=>x);have y9:w3.cell? ⟨xb,9,none⟩=some (.slice (some ⟨tb,0,none⟩) x.tasks.length x.tasks.length):=h3.cell 9;clear ER K3 hnew x9 c0 HH
  cases rq with
  |false=>
   have HF:=hid (HV.out.trans (if_neg (by simp)));have HK:=hid (ae h3 KA);clear HV h3 KA
   go_wp2_with fail
   go_ret;rw[HF.out];exact⟨rfl,gL.of HK.out.1 (HK.out.2.mono (λ_ _ x=>x.elim))⟩
  |true=>?_
  have HF:=hid (HV.out.trans (if_pos rfl));have KD:Kp (λ_=>False) w3 w3.drew:=(Kp.refl _ _).drewN 1
  have hS0:w3.drew.cell? ⟨xb,9,none⟩=some (.slice (some ⟨tb,0,none⟩) x.tasks.length x.tasks.length)/\w3.drew.heap[w.heap.size]? =some (.cells RA 79 (0,0)):=⟨y9,nD⟩
  have EN:=HP.out.2.2 w3.drew;have HK:=hid (ae (h3.ai KD) (KA.trans KD));clear HV h3 KA KD
  go_upto_region 7 with(fail)
  refine az (λw'=>w'.cell? ⟨xb,9,none⟩=some (.slice (some ⟨tb,0,none⟩) x.tasks.length x.tasks.length)/\w'.heap[w.heap.size]? =some (.cells RA 79 (0,0))) (by kernel_rfl) ?_;refine aU 0 23 (.pointer (some ⟨xb,0,none⟩)) hS0 ?_;refine aU 1 24 (.pointer (some ⟨xb,0,none⟩)) hS0 ?_;refine aU 2 25 (.pointer (some ⟨xb,9,none⟩)) hS0 ?_;refine dM 3 26 (.slice (some ⟨tb,0,none⟩) x.tasks.length x.tasks.length) rfl (λw' hS=>by simp[execOp,Act.eval,go_sem,hS.1]) hS0 ?_;refine aU 4 27 (.int .i64 n) hS0 ?_;refine dM 5 28 (.agg RA) rfl (λw' hS=>bu 79 (.tmp 5) rfl w.heap.size rfl 79 RA (0,0) dq hS.2 xX nX rI) hS0 ?_;refine jD 6 ?_;refine bS (some 29) rfl 137 #[.agg RA] (by simp[execOp,Act.eval,go_sem]) (.agg TL.toArray) _ EN.out ?_;intro w5 K5;have h5:=HK.out.1.ai K5;have KB:=HK.out.2.trans K5
  have hS5:w5.cell? ⟨xb,9,none⟩=some (.slice (some ⟨tb,0,none⟩) x.tasks.length x.tasks.length)/\w5.heap[w.heap.size]? =some (.cells RA 79 (0,0)):=⟨h5.cell 9,K5.at_ hS0.2 (λx=>x)⟩
  refine⟨hS5,?_⟩;simp only[Act.put,pA,pB,pC];refine dM 7 30 (.pointer (some ⟨tb,n*45,none⟩)) rfl (λw' _=>by simp[execOp,Act.eval,go_sem,hlt]) hS5 ?_;have htc:=HP.out.2.1 w5 h5;have hF:=HP.out.1 w5 h5;have KF:Kp (oN xb tb kv) w (w5.setRow tb (putAt TA (n*45) TL)):=(KB.mono (S':=oN xb tb kv) (λ_ _ x=>x.elim)).setRow (λ_=>.inr (.inl rfl)) _
  have yz:(w5.setRow tb (putAt TA (n*45) TL)).cell? ⟨xb,9,none⟩=some (.slice (some ⟨tb,0,none⟩) x.tasks.length x.tasks.length)/\(w5.setRow tb (putAt TA (n*45) TL)).heap[w.heap.size]? =some (.cells RA 79 (0,0)):=by
   refine⟨?_,by rw[setRow_other _ _ _ _ (by omega)];exact hS5.2⟩;have e:=hF.cell 9;rw[e];simp[sM,ay]
  refine ot 8 (by kernel_rfl) rfl rfl (ph 173 (.tmp 30) (.tmp 29) rfl tb (n*45) TL rfl rfl 173 TA htc sI QH sO ⟨yz,?_⟩);refine wpAnyH_done (by kernel_rfl) (NoPanic.normal ?_) _;simp only[Act.put];have HZ:=hid (ae hF KF);clear hF KF yz hS5 hS0 h5 KB htc K5 EN
  go_wp2_with fail
  go_ret;rw[HF.out];exact⟨rfl,gL.of HZ.out.1 HZ.out.2⟩
 have yq:ue x u=none:=by
  unfold ue
  split
  ·rw[List.getElem?_eq_none_iff];omega
  rfl
 have hb1:(decide (0<=u)&&decide (u<(x.tasks.length:Int)))=false:=by
  rw[Bool.eq_false_iff];intro e;apply hc;simpa using e
 rw[hb1]at EC;have HF:=hid (show yN x u r=(x,10)by unfold yN;rw[yq]);generalize yN x u r=SS at*;have HH:=hid (ae h1 K1);clear h h1 K1 hc yq hb1
 go_enter func84,ntmps84
 go_upto_region 1 with(fail)
 generalize w.alloc (.cells (dY r) 79)=w1 at*
 go_wp2_with fail
 refine hm EC ?_;rintro r w2 ⟨rfl,rfl⟩;clear EC
 go_wp2_with fail
 go_ret;rw[HF.out];exact⟨rfl,(gL.of HH.out.1 (HH.out.2.mono (λ_ _ x=>x.elim)))⟩
end
section
variable (w:World) {xb tb:Nat} {pc:Pc} {ol:Ol} {x:Sv} {kv:Value}
theorem Yp(h:dT w xb tb 138 pc ol x kv)(u:Int)(r:Rq):
 Calls prog 60 #[.pointer (some ⟨xb,0,none⟩),.int .i64 u,.agg (dY r)] w λy w'=>y= .returned (.int .i64 (yN x u r).2)/\gL w w' xb tb 138 pc ol kv (yN x u r).1:=by
 obtain⟨dq,xX,nX⟩:=LS;have K1:Kp (λ_=>False) w (w.alloc (.cells (dY r) 79)):=(Kp.refl _ _).alloc _;have hnew:=heap_alloc_new w (.cells (dY r) 79);have KD:=K1.drewN 1;have EA:=hid (UL (w.alloc (.cells (dY r) 79)).drew (h.ai KD) u r);have rI:=Im r;have HK:=hid KD;have HLO:=hid h.low;generalize yN x u r=SS at*;generalize dY r=RA at*;clear h K1 KD
 go_enter func60,ntmps60
 go_upto_region 1 with(fail)
 generalize w.alloc (.cells RA 79)=w1 at*;have hS0:w1.drew.heap[w.heap.size]? =some (.cells RA 79 (0,0)):=hnew;refine az (λw'=>w'.heap[w.heap.size]? =some (.cells RA 79 (0,0))) (by kernel_rfl) ?_;refine aU 0 7 (.pointer (some ⟨xb,0,none⟩)) hS0 ?_;refine aU 1 8 (.pointer (some ⟨xb,0,none⟩)) hS0 ?_;refine aU 2 9 (.pointer (some ⟨xb,0,none⟩)) hS0 ?_;refine aU 3 10 (.int .i64 u) hS0 ?_;refine dM 4 11 (.agg RA) rfl (λw' hS=>bu 79 (.tmp 5) rfl w.heap.size rfl 79 RA (0,0) dq hS xX nX rI) hS0 ?_;refine jD 5 ?_;refine bS (some 12) rfl 84 #[.pointer (some ⟨xb,0,none⟩),.int .i64 u,.agg RA] (by simp[execOp,Act.eval,go_sem]) (.int .i64 SS.2) _ EA.out ?_;intro w5 q5;have hS5:w5.heap[w.heap.size]? =some (.cells RA 79 (0,0)):=q5.at_ HLO.out hS0;refine⟨hS5,?_⟩;refine eC 6 6 (.int .i64 SS.2) rfl (λw' _=>by simp[execOp,Act.eval,Act.put,go_sem]) hS5 ?_;refine wpAnyH_done (by kernel_rfl) (NoPanic.normal ?_) _;simp only[Act.put,pA,pB,pC];have HQ:=hid (gL.trans (HK.out.mono (λ_ _ x=>x.elim)) (λ_ e=>.inl e) q5);clear EA q5 hS5 hS0 hnew
 go_wp2_with fail
 go_ret;exact⟨rfl,HQ.out⟩
theorem FM(h:dT w xb tb 138 pc ol x kv)(hbd:x.Bd)(hol:ol.Ok)(u:Int)(hg:∀t,ue x u=some t->StP ol x t):
 Calls prog 38 #[.pointer (some ⟨xb,0,none⟩),.int .i64 u] w λr w'=>r= .returned (.tuple #[.agg (bW (cZ ol x u).2.1),.bool (cZ ol x u).2.2.1,.int .i64 (cZ ol x u).2.2.2])/\gL w w' xb tb 138 pc ol kv (cZ ol x u).1:=by
 obtain⟨dr,hdr,kK⟩:=vf;have hlow:=h.low;have K1:Kp (λ_=>False) w (w.alloc (.cells aM 64)):=(Kp.refl _ _).alloc _;have hnew:=heap_alloc_new w (.cells aM 64);have h1:=h.ai K1;have ES:=hid (PD _ h1 hbd hol u (λt ht=>hg t ht));generalize cZ ol x u=SS at*;obtain⟨X,rp,dn,e⟩:=SS;simp only at*;clear h h1 hbd hg
 go_enter func38,ntmps38
 go_upto_region 1 with(fail)
 generalize w.alloc (.cells aM 64)=w1 at*
 go_wp2_with fail
 refine hm ES ?_;rintro r w3 ⟨rfl,q3⟩;have nD:=q3.at_ hlow hnew;have HQ:=hid (gL.jE (K1.mono (λ_ _ x=>x.elim)) q3 nD (bW rp));have ir:=setRow_heap w3 w.heap.size aM (bW rp) 64 (0,0) nD;clear ES q3 hnew
 go_wp2_with (refine wpList_store_row rfl 64 (.tmp 4) (.tmp 12) rfl w.heap.size (bW rp) rfl rfl 64 aM nD bK rfl (fC _) ?_)
 refine bodyPost_ret (aq rfl _ _ w.heap.size 64 (bW rp) (0,0) dr rfl ir hdr kK bK) rfl ?_;exact⟨rfl,HQ.out⟩
theorem DX(h:dT w xb tb 138 pc ol x kv)(hk:x.kept.length<=1000):
 Calls prog 61 #[.pointer (some ⟨xb,0,none⟩)] w λr w'=>r= .returned (.slice (some ⟨w.heap.size,0,none⟩) x.kept.length x.kept.length)/\w'.ownsRow w.heap.size 3 1 (.slice (some ⟨w.heap.size,0,none⟩) x.kept.length x.kept.length) x.kept.length (x.kept.map λv=>.int .i64 v.num)/\Kp (λ_=>False) w w':=by
 have E:=hid (Ii w h hk);clear h
 go_enter func61,ntmps61
 go_wp2_with fail
 refine hm E ?_;rintro r w1 ⟨rfl,o1,K1⟩;have HF:=hid (ae o1 K1);clear E o1 K1;go_wp2;go_ret;exact⟨rfl,HF.out.1,HF.out.2⟩
end
end Go.Proofs.YtnlbchmfcebeeaaGreat
