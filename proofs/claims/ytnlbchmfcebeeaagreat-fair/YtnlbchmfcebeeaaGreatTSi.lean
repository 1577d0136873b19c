import Derived.Test.YtnlbchmfcebeeaaGreatTSg
set_option maxHeartbeats 12800000
set_option maxRecDepth 100000
namespace Go.Proofs.YtnlbchmfcebeeaaGreat
open Go.Proofs.Tryz Ch
open Go.RowKit
theorem kr : (prog.info? 79).map (·.size) = some 3:=by kernel_rfl
theorem yF : ∃ d,prog.underlying 79 = some d /\ ar d = true:=⟨_,underlying79,rfl⟩
theorem wE (r : Rq) : (prog.info? 79).map (·.size) = some (cn r).size:=kr
section
variable (w : World) {xb tb : Nat} {T : TypeId} {pc : Pc} {ol : Ol} {x : Sv} {kv : Value}
theorem DH (h : cj w xb tb T pc ol x kv) (u : Int) (r : Rq) :
 Calls prog 84 #[.pointer (some ⟨xb,0,none⟩),.int .i64 u,.agg (cn r)] w fun y w'=>y = .returned (.int .i64 (pn x u r).2) /\ dF w w' xb tb T pc ol kv (pn x u r).1:=by
 obtain ⟨dq,oH,iW⟩:=yF;have hlow:=h.low;have hts:=lt_of_block h.kA;have hxs:=lt_of_block h.blk;have K1 : Kp (fun _=>False) w (w.alloc (.cells (cn r) 79)):=(Kp.refl _ _).alloc _;have hnew:=heap_alloc_new w (.cells (cn r) 79);have h1:=h.au K1;have EC:=hid (nX _ h1 u);have rI:=wE r
 by_cases hc : 0 <= u /\ u < (x.tasks.length : Int)
 ·obtain ⟨n,rfl⟩ : ∃ n : Nat,u = (n : Int):=⟨u.toNat,by omega⟩
  have hn : n < x.tasks.length:=by omega
  obtain ⟨t,hu⟩ : ∃ t,x.tasks[n]? = some t:=⟨_,List.getElem?_eq_getElem hn⟩
  have oE : lM x (n : Int) = some t:=by unfold lM;rw [if_pos (by omega)];exact hu
  have hb1 : (decide (0 <= (n : Int)) && decide ((n : Int) < (x.tasks.length : Int))) = true:=by simp;omega
  rw [hb1] at EC;have x9 : (w.alloc (.cells (cn r) 79)).cell? ⟨xb,9,none⟩ = some (.slice (some ⟨tb,0,none⟩) x.tasks.length x.tasks.length):=h1.cell 9;have c0 : (w.alloc (.cells (cn r) 79)).cell? ⟨tb,n * 45,none⟩ = some (.int .i64 t.kind):=h1.dK hu (j:=0) (by omega);have HU:=hid (show pn x (n : Int) r = if t.kind ≠ 0 then (x,11) else if iC r then (ak x n (mW r),0) else (x,12) by unfold pn;rw [oE];rfl)
  have hlt : (n : Int) < (x.tasks.length : Int):=by omega
  generalize pn x (n : Int) r = SS at *
  by_cases q : t.kind ≠ 0
  ·have HF:=hid (HU.out.trans (if_pos q))
   have HH:=hid (ae h1 K1);clear HU h h1 hu K1 hc oE hb1
   go_enter func84,ntmps84
   go_upto_region 1 with (fail)
   generalize w.alloc (.cells (cn r) 79) = w1 at *
   go_wp2_with fail
   refine hm EC ?_;rintro r w2 ⟨rfl,rfl⟩;clear EC
   go_wp2_with fail
   go_ret;rw [HF.out];exact ⟨rfl,(dF.of HH.out.1 (HH.out.2.mono (fun _ _ x=>x.elim)))⟩
  have HV:=hid (HU.out.trans (if_neg q))
  have q' : t.kind = 0:=by simpa using q
  have ER:=hid (tW (w.alloc (.cells (cn r) 79)) r);have HH:=hid (ae h1 K1);have hwf : (mW r).now.Wf:=iB
  have hput : ∀ W,cj W xb tb T pc ol x kv -> cj (W.setRow tb (putAt (bj x.tasks).toArray (n * 45) (fc (mW r)))) xb tb T pc ol (ak x n (mW r)) kv:=by
   intro W hW;exact hW.GD (t':=mW r) hu hwf 0 (fc (mW r)) (by rw [cH hwf];exact Nat.le_refl _) (by rw [List.take_zero,List.nil_append,List.drop_eq_nil_of_le (by rw [cH hwf,cH (hW.Me hu)];exact Nat.le_refl _),List.append_nil])
  have GF:=h1.yy
  have htk : ∀ W,cj W xb tb T pc ol x kv -> W.heap[tb]? = some (.cells (bj x.tasks).toArray 173 (0,0)):=fun W hW=>hW.kA
  have DC : n * 45 + (fc (mW r)).length <= (bj x.tasks).toArray.size:=by rw [GF,cH hwf];omega
  have sI : (prog.info? 173).map (·.size) = some (fc (mW r)).length:=by rw [cH hwf];exact Av
  have sO:=wy (mW r)
  have EN : ∀ W,Hid (Calls prog 137 #[.agg (cn r)] W fun x w'=>x = .returned (.agg (fc (mW r)).toArray) /\ Kp (fun _=>False) W w'):=fun W=>hid (yE W r)
  generalize (bj x.tasks).toArray = TA at *;generalize fc (mW r) = TL at *;have HP:=hid (ae hput (ae htk EN));clear HU h h1 hu K1 hc oE hb1 q hput htk EN GF;generalize iC r = rq at *;generalize nf : cn r = RA at *
  go_enter func84,ntmps84
  go_upto_region 1 with (fail)
  generalize w.alloc (.cells RA 79) = w1 at *
  go_wp2_with fail
  refine hm EC ?_;rintro r w2 ⟨rfl,rfl⟩;clear EC
  go_wp2_with (refine wpList_load_row rfl 79 (.tmp 5) rfl w.heap.size rfl 79 RA (0,0) dq hnew oH (by cases dq <;> first | rfl | exact absurd iW (by simp [ar])) rI ?_)
  refine hm ER ?_;rintro r w3 ⟨rfl,K3⟩;have h3:=HH.out.1.au K3;have KA:=HH.out.2.trans K3;have iN:=K3.at_ hnew (fun x=>x);have y9 : w3.cell? ⟨xb,9,none⟩ = some (.slice (some ⟨tb,0,none⟩) x.tasks.length x.tasks.length):=h3.cell 9;clear ER K3 hnew x9 c0 HH
  cases rq with
  | false =>
    have HF:=hid (HV.out.trans (if_neg (by simp)));have HK:=hid (ae h3 KA);clear HV h3 KA
    go_wp2_with fail
    go_ret;rw [HF.out];exact ⟨rfl,dF.of HK.out.1 (HK.out.2.mono (fun _ _ x=>x.elim))⟩
  | true=>?_
  have HF:=hid (HV.out.trans (if_pos rfl));have KD : Kp (fun _=>False) w3 w3.drew:=(Kp.refl _ _).drewN 1
  have hS0 : w3.drew.cell? ⟨xb,9,none⟩ = some (.slice (some ⟨tb,0,none⟩) x.tasks.length x.tasks.length) /\ w3.drew.heap[w.heap.size]? = some (.cells RA 79 (0,0)):=⟨y9,iN⟩
  have EN:=HP.out.2.2 w3.drew;have HK:=hid (ae (h3.au KD) (KA.trans KD));clear HV h3 KA KD
  go_upto_region 7 with (fail)
  refine aB (fun w'=>w'.cell? ⟨xb,9,none⟩ = some (.slice (some ⟨tb,0,none⟩) x.tasks.length x.tasks.length) /\ w'.heap[w.heap.size]? = some (.cells RA 79 (0,0))) (by kernel_rfl) ?_;refine tj 0 23 (.pointer (some ⟨xb,0,none⟩)) hS0 ?_;refine tj 1 24 (.pointer (some ⟨xb,0,none⟩)) hS0 ?_;refine tj 2 25 (.pointer (some ⟨xb,9,none⟩)) hS0 ?_;refine Go.Proofs.YtnlbchmfcebeeaaGreat.tl 3 26 (.slice (some ⟨tb,0,none⟩) x.tasks.length x.tasks.length) rfl (fun w' hS=>by simp [execOp,Act.eval,go_sem,hS.1]) hS0 ?_;refine tj 4 27 (.int .i64 n) hS0 ?_;refine Go.Proofs.YtnlbchmfcebeeaaGreat.tl 5 28 (.agg RA) rfl (fun w' hS=>aU 79 (.tmp 5) rfl w.heap.size rfl 79 RA (0,0) dq hS.2 oH iW rI) hS0 ?_;refine Go.Proofs.YtnlbchmfcebeeaaGreat.dO 6 ?_;refine bD (some 29) rfl 137 #[.agg RA] (by simp [execOp,Act.eval,go_sem]) (.agg TL.toArray) _ EN.out ?_;intro w5 K5;have h5:=HK.out.1.au K5;have KB:=HK.out.2.trans K5
  have hS5 : w5.cell? ⟨xb,9,none⟩ = some (.slice (some ⟨tb,0,none⟩) x.tasks.length x.tasks.length) /\ w5.heap[w.heap.size]? = some (.cells RA 79 (0,0)):=⟨h5.cell 9,K5.at_ hS0.2 (fun x=>x)⟩
  refine ⟨hS5,?_⟩;simp only [Act.put,pA,pB,pC];refine Go.Proofs.YtnlbchmfcebeeaaGreat.tl 7 30 (.pointer (some ⟨tb,n * 45,none⟩)) rfl (fun w' _=>by simp [execOp,Act.eval,go_sem,hlt]) hS5 ?_;have htc:=HP.out.2.1 w5 h5;have hF:=HP.out.1 w5 h5;have KF : Kp (jr xb tb kv) w (w5.setRow tb (putAt TA (n * 45) TL)):=(KB.mono (S':=jr xb tb kv) (fun _ _ x=>x.elim)).setRow (fun _=>.inr (.inl rfl)) _
  have wu : (w5.setRow tb (putAt TA (n * 45) TL)).cell? ⟨xb,9,none⟩ = some (.slice (some ⟨tb,0,none⟩) x.tasks.length x.tasks.length) /\ (w5.setRow tb (putAt TA (n * 45) TL)).heap[w.heap.size]? = some (.cells RA 79 (0,0)):=by
   refine ⟨?_,by rw [setRow_other _ _ _ _ (by omega)];exact hS5.2⟩;have e:=hF.cell 9;rw [e];simp [kN,ak]
  refine mq 8 (by kernel_rfl) rfl rfl (jE 173 (.tmp 30) (.tmp 29) rfl tb (n * 45) TL rfl rfl 173 TA htc sI DC sO ⟨wu,?_⟩);refine wpAnyH_done (by kernel_rfl) (NoPanic.normal ?_) _;simp only [Act.put];have HZ:=hid (ae hF KF);clear hF KF wu hS5 hS0 h5 KB htc K5 EN
  go_wp2_with fail
  go_ret;rw [HF.out];exact ⟨rfl,dF.of HZ.out.1 HZ.out.2⟩
 have oE : lM x u = none:=by
  unfold lM
  split
  ·rw [List.getElem?_eq_none_iff];omega
  rfl
 have hb1 : (decide (0 <= u) && decide (u < (x.tasks.length : Int))) = false:=by
  rw [Bool.eq_false_iff];intro e;apply hc;simpa using e
 rw [hb1] at EC;have HF:=hid (show pn x u r = (x,10) by unfold pn;rw [oE]);generalize pn x u r = SS at *;have HH:=hid (ae h1 K1);clear h h1 K1 hc oE hb1
 go_enter func84,ntmps84
 go_upto_region 1 with (fail)
 generalize w.alloc (.cells (cn r) 79) = w1 at *
 go_wp2_with fail
 refine hm EC ?_;rintro r w2 ⟨rfl,rfl⟩;clear EC
 go_wp2_with fail
 go_ret;rw [HF.out];exact ⟨rfl,(dF.of HH.out.1 (HH.out.2.mono (fun _ _ x=>x.elim)))⟩
end
section
variable (w : World) {xb tb : Nat} {pc : Pc} {ol : Ol} {x : Sv} {kv : Value}
theorem GJ (h : cj w xb tb 138 pc ol x kv) (u : Int) (r : Rq) :
 Calls prog 60 #[.pointer (some ⟨xb,0,none⟩),.int .i64 u,.agg (cn r)] w fun y w'=>y = .returned (.int .i64 (pn x u r).2) /\ dF w w' xb tb 138 pc ol kv (pn x u r).1:=by
 obtain ⟨dq,oH,iW⟩:=yF;have K1 : Kp (fun _=>False) w (w.alloc (.cells (cn r) 79)):=(Kp.refl _ _).alloc _;have hnew:=heap_alloc_new w (.cells (cn r) 79);have KD:=K1.drewN 1;have EA:=hid (DH (w.alloc (.cells (cn r) 79)).drew (h.au KD) u r);have rI:=wE r;have HK:=hid KD;have NS:=hid h.low;generalize pn x u r = SS at *;generalize cn r = RA at *;clear h K1 KD
 go_enter func60,ntmps60
 go_upto_region 1 with (fail)
 generalize w.alloc (.cells RA 79) = w1 at *;have hS0 : w1.drew.heap[w.heap.size]? = some (.cells RA 79 (0,0)):=hnew;refine aB (fun w'=>w'.heap[w.heap.size]? = some (.cells RA 79 (0,0))) (by kernel_rfl) ?_;refine tj 0 7 (.pointer (some ⟨xb,0,none⟩)) hS0 ?_;refine tj 1 8 (.pointer (some ⟨xb,0,none⟩)) hS0 ?_;refine tj 2 9 (.pointer (some ⟨xb,0,none⟩)) hS0 ?_;refine tj 3 10 (.int .i64 u) hS0 ?_;refine Go.Proofs.YtnlbchmfcebeeaaGreat.tl 4 11 (.agg RA) rfl (fun w' hS=>aU 79 (.tmp 5) rfl w.heap.size rfl 79 RA (0,0) dq hS oH iW rI) hS0 ?_;refine Go.Proofs.YtnlbchmfcebeeaaGreat.dO 5 ?_;refine bD (some 12) rfl 84 #[.pointer (some ⟨xb,0,none⟩),.int .i64 u,.agg RA] (by simp [execOp,Act.eval,go_sem]) (.int .i64 SS.2) _ EA.out ?_;intro w5 q5;have hS5 : w5.heap[w.heap.size]? = some (.cells RA 79 (0,0)):=q5.at_ NS.out hS0;refine ⟨hS5,?_⟩;refine tm 6 6 (.int .i64 SS.2) rfl (fun w' _=>by simp [execOp,Act.eval,Act.put,go_sem]) hS5 ?_;refine wpAnyH_done (by kernel_rfl) (NoPanic.normal ?_) _;simp only [Act.put,pA,pB,pC];have HQ:=hid (dF.trans (HK.out.mono (fun _ _ x=>x.elim)) (fun _ e=>.inl e) q5);clear EA q5 hS5 hS0 hnew
 go_wp2_with fail
 go_ret;exact ⟨rfl,HQ.out⟩
theorem pq (h : cj w xb tb 138 pc ol x kv) (hbd : x.Bd) (hol : ol.Ok) (u : Int) (hg : ∀ t,lM x u = some t -> NP ol x t) :
 Calls prog 38 #[.pointer (some ⟨xb,0,none⟩),.int .i64 u] w fun r w'=>r = .returned (.tuple #[.agg (aZ (bG ol x u).2.1),.bool (bG ol x u).2.2.1,.int .i64 (bG ol x u).2.2.2]) /\ dF w w' xb tb 138 pc ol kv (bG ol x u).1:=by
 obtain ⟨dr,hdr,gr⟩:=my;have hlow:=h.low;have K1 : Kp (fun _=>False) w (w.alloc (.cells aA 64)):=(Kp.refl _ _).alloc _;have hnew:=heap_alloc_new w (.cells aA 64);have h1:=h.au K1;have ES:=hid (AD _ h1 hbd hol u (fun t ht=>hg t ht));generalize bG ol x u = SS at *;obtain ⟨X,rp,dn,e⟩:=SS;simp only at *;clear h h1 hbd hg
 go_enter func38,ntmps38
 go_upto_region 1 with (fail)
 generalize w.alloc (.cells aA 64) = w1 at *
 go_wp2_with fail
 refine hm ES ?_;rintro r w3 ⟨rfl,q3⟩;have iN:=q3.at_ hlow hnew;have HQ:=hid (dF.fB (K1.mono (fun _ _ x=>x.elim)) q3 iN (aZ rp));have et:=setRow_heap w3 w.heap.size aA (aZ rp) 64 (0,0) iN;clear ES q3 hnew
 go_wp2_with (refine wpList_store_row rfl 64 (.tmp 4) (.tmp 12) rfl w.heap.size (aZ rp) rfl rfl 64 aA iN aV rfl (cT _) ?_)
 refine bodyPost_ret (aC rfl _ _ w.heap.size 64 (aZ rp) (0,0) dr rfl et hdr gr aV) rfl ?_;exact ⟨rfl,HQ.out⟩
theorem tX (h : cj w xb tb 138 pc ol x kv) (hk : x.kept.length <= 1000) :
 Calls prog 61 #[.pointer (some ⟨xb,0,none⟩)] w fun r w'=>r = .returned (.slice (some ⟨w.heap.size,0,none⟩) x.kept.length x.kept.length) /\ w'.ownsRow w.heap.size 3 1 (.slice (some ⟨w.heap.size,0,none⟩) x.kept.length x.kept.length) x.kept.length (x.kept.map fun v=>.int .i64 v.num) /\ Kp (fun _=>False) w w':=by
 have E:=hid (wA w h hk);clear h
 go_enter func61,ntmps61
 go_wp2_with fail
 refine hm E ?_;rintro r w1 ⟨rfl,o1,K1⟩;have HF:=hid (ae o1 K1);clear E o1 K1;go_wp2;go_ret;exact ⟨rfl,HF.out.1,HF.out.2⟩
end
namespace Ch
def kK (t : ByteArray) (n : Int) : Int :=
 if (read t).1 != 0 then (read t).1 else if n < 1 \/ 6 < n then 10 else (mstart (read t).2.2).2.2
def sv0 (n : Nat) : Sv:=⟨0,[],0,⟨#[]⟩,List.replicate n cW,0,0⟩
theorem Lx {n : Nat} (h : n <= 6) : (sv0 n).Bd:=⟨by simp [sv0],by simp [sv0],by simp [sv0],by simp [sv0],Nat.zero_le _,Nat.zero_le _,by simp [sv0],by simp [sv0],by simpa [sv0] using h⟩
theorem jt {ol : Ol} (hol : ol.Ok) : (mstart ol).2.1.size <= 10000000000:=by
 have h1:=rJ hol (m:=⟨bp ol.ag,[],[]⟩) (n:=0) ⟨by simp,by simp⟩ [];have h2:=uz hol 30 h1;unfold mstart finish
 split
 ·exact Nat.zero_le _
 show (strOfNums _).size <= _;rw [strOfNums_size];have:=h2.2;omega
end Ch
structure Je (w : World) (tb : Nat) (pc : Pc) (ol : Ol) (x : Sv) (kv : Value) : Prop where
 row : w.ownsRow 0 261 38 kv x.kept.length (dc x.kept)
 kA : w.heap[tb]? = some (.cells (bj x.tasks).toArray 173 (0,0))
 wf : ∀ v ∈ x.kept,v.now.Wf
 tw : ∀ t ∈ x.tasks,t.now.Wf
 pl : ∃ B lt lb,qY w B ol pc.c pc.d pc.e lt lb
theorem cj.val {w : World} {xb tb : Nat} {T : TypeId} {pc : Pc} {ol : Ol} {x : Sv} {kv : Value} (h : cj w xb tb T pc ol x kv) : Je w tb pc ol x kv:=⟨h.row,h.kA,h.wf,h.tw,h.pl⟩
theorem Je.au {w w' : World} {tb : Nat} {pc : Pc} {ol : Ol} {x : Sv} {kv : Value} (h : Je w tb pc ol x kv) (K : Kp (fun _=>False) w w') : Je w' tb pc ol x kv:=by
 obtain ⟨B,lt,lb,F⟩:=h.pl;exact ⟨K.owns h.row (fun _ _ x=>x),K.at_ h.kA (fun x=>x),h.wf,h.tw,B,lt,lb,F.au K⟩
theorem Je.blk {w : World} {xb tb : Nat} {T : TypeId} {pc : Pc} {ol : Ol} {x : Sv} {kv : Value} (h : Je w tb pc ol x kv) (hb : w.heap[xb]? = some (.cells (kN pc x kv tb) T (0,0))) (hT : T = 136 \/ T = 138) : cj w xb tb T pc ol x kv :=
 ⟨hb,h.row,h.kA,h.wf,h.tw,hT,h.pl⟩
def GK (w w' : World) (t : ByteArray) (n : Int) (A : Array Value) : Prop :=
 (kK t n ≠ 0 -> A = cC) /\ (kK t n = 0 -> ∃ tb pc kv,A = kN pc (gx (Ch.read t).2.2 n.toNat) kv tb /\ Je w' tb pc (Ch.read t).2.2 (gx (Ch.read t).2.2 n.toNat) kv /\ w.heap.size <= tb /\ (∀ k,kv.ownBlock = some k -> w.heap.size <= k) /\ A.all (fun x=>x.oneCell') = true)
def DI (w w' : World) (t : ByteArray) (n : Int) (v : Value) : Prop :=
 (kK t n ≠ 0 -> v = .pointer none) /\ (kK t n = 0 -> ∃ xb tb pc kv,v = .pointer (some ⟨xb,0,none⟩) /\ cj w' xb tb 138 pc (Ch.read t).2.2 (gx (Ch.read t).2.2 n.toNat) kv /\ ∀ k,jr xb tb kv k -> w.heap.size <= k)
theorem ig : (prog.info? 136).map (·.size) = some 12:=by kernel_rfl
theorem JQ : ∃ d,prog.underlying 136 = some d /\ ar d = true:=⟨_,underlying136,rfl⟩
theorem sz : (cC : Array Value).all (fun x=>x.oneCell') = true:=by kernel_rfl
theorem JR {pc : Pc} {x : Sv} {kv : Value} {tb : Nat} (h1 : pc.a.oneCell' = true) (h2 : pc.b.oneCell' = true) (h3 : pc.c.oneCell' = true) (h4 : pc.d.oneCell' = true) (h5 : pc.e.oneCell' = true) (h6 : kv.oneCell' = true) : (kN pc x kv tb).all (fun x=>x.oneCell') = true:=by
 apply Array.all_eq_true_iff_forall_mem.2;intro y hy;simp only [kN,List.mem_toArray,List.mem_cons,List.not_mem_nil,or_false] at hy
 rcases hy with rfl | rfl | rfl | rfl | rfl | rfl | rfl | rfl | rfl | rfl | rfl | rfl <;> first | assumption | rfl
theorem Jf (n : Nat) : madeCells nk (n * 45) = (bj (List.replicate n cW)).toArray:=by
 have hz : (fc cW).toArray = nk:=yx;rw [<- hz];have hl : (fc cW).length = 45:=cH (t:=cW) iB
 have ha : ∀ a ∈ List.replicate n cW,(fc a).length = 45:=by
  intro a ha;rw [List.eq_of_mem_replicate ha];exact hl
 have hf:=lF fc 45 (List.replicate n cW) ha;rw [List.length_replicate] at hf;apply Array.ext_getElem?;intro i;unfold madeCells bj
 have e1 : ((List.replicate n cW).flatMap fc).toArray[i]? = ((List.replicate n cW).flatMap fc)[i]?:=by simp
 rw [e1]
 by_cases hi : i < n * 45
 ·have h1 : i / 45 < n:=by omega
  have h2 : i % 45 < 45:=by omega
  have h3 : i % 45 < (fc cW).length:=by omega
  have:=fH fc 45 (List.replicate n cW) (i / 45) cW (i % 45) ha (by rw [List.getElem?_replicate,if_pos h1]) h2;rw [show i / 45 * 45 + i % 45 = i by omega] at this;rw [this,List.getElem?_eq_getElem h3];simp [hi,hl,h2]
 rw [List.getElem?_eq_none (by rw [hf];omega),Array.getElem?_eq_none (by simp;omega)]
section
variable (w : World)
theorem DJ (t : ByteArray) (n : Int) :
 Calls prog 82 #[.string t,.int .i64 n] w fun r w'=>∃ A,r = .returned (.tuple #[.agg A,.int .i64 (kK t n)]) /\ GK w w' t n A /\ Kp (fun _=>False) w w':=by
 obtain ⟨dv,hdv,qf⟩:=JQ;obtain ⟨ds,hds,eH⟩:=cQ;obtain ⟨dO,Qr,Lj⟩:=JB;have hr1:=heap_alloc_new w (.cells cC 136);have K1 : Kp (fun _=>False) w (w.alloc (.cells cC 136)):=(Kp.refl _ _).alloc _;have E0:=hid (ns t (w.alloc (.cells cC 136)));have hol:=jl t;have HN:=hid (show ∀ w' A,GK w w' t n A = ((kK t n ≠ 0 -> A = cC) /\ (kK t n = 0 -> ∃ tb pc kv,A = kN pc (gx (Ch.read t).2.2 n.toNat) kv tb /\ Je w' tb pc (Ch.read t).2.2 (gx (Ch.read t).2.2 n.toNat) kv /\ w.heap.size <= tb /\ (∀ k,kv.ownBlock = some k -> w.heap.size <= k) /\ A.all (fun x=>x.oneCell') = true)) from fun _ _=>rfl);have HU:=hid (show kK t n = if (Ch.read t).1 != 0 then (Ch.read t).1 else if n < 1 \/ 6 < n then 10 else (Ch.mstart (Ch.read t).2.2).2.2 from rfl);generalize GK w = NV at *;generalize kK t n = NE at *;have hws : w.heap.size <= (w.alloc (.cells cC 136)).heap.size:=K1.size
 go_enter func82,ntmps82
 go_wp2_with fail
 refine hm E0 ?_;rintro y w2 ⟨sv,tv,bv,lt,lb,rfl,F2,B2⟩;have K2:=gG B2;have hr2:=K2.at_ hr1 (fun x=>x);have KA:=K1.trans K2;clear E0 hr1 K1 K2 B2 hws;generalize hrd : Ch.read t = rd at *;obtain ⟨re,rf,ol⟩:=rd;clear hrd;simp only at hol F2 HU HN;have o1:=fg F2.ag;have o2:=fg F2.bH;have o3:=fg F2.cM;have qZ:=Bi (e:=re) (f:=rf) o1 o2 o3;have hnew:=heap_alloc_new w2 (.cells uc 87);have hrow:=setRow_heap (w2.alloc (.cells uc 87)) w2.heap.size _ (mB re rf sv tv bv) 87 (0,0) hnew;have K3 : Kp (fun _=>False) w2 ((w2.alloc (.cells uc 87)).setRow w2.heap.size (mB re rf sv tv bv)):=((Kp.refl _ _).alloc _).setRow (fun x=>by omega) _;have F3:=F2.au K3;have hr3:=K3.at_ hr2 (fun x=>x);have KB:=KA.trans K3;have hlt : w.heap.size < w2.heap.size:=lt_of_block hr2;have HX:=hid (ae F3 (ae KB hrow));clear hr2 KA K3 KB F3 F2
 go_upto_region 2 with (refine wpList_store_row rfl 87 (.tmp 6) (.tmp 12) rfl w2.heap.size (mB re rf sv tv bv) rfl rfl 87 uc hnew oD rfl qZ ?_)
 generalize (w2.alloc (.cells uc 87)).setRow w2.heap.size (mB re rf sv tv bv) = w3 at *
 have z0 : w3.cell? ⟨w2.heap.size,0,none⟩ = some (.int .i64 re):=by rw [World.cell?,hrow];rfl
 clear hnew qZ;generalize w2.heap.size = ob at *
 cases q1 : re != 0 with
 | true =>
   have HF:=hid (HU.out.trans (show _ = re by rw [q1];rfl))
   go_upto_region 3 with (fail)
   have hS0 : w3.drew.heap[ob]? = some (.cells (mB re rf sv tv bv) 87 (0,0)):=hrow
   have hS1 : (w3.drew.setRow w.heap.size cC).heap[ob]? = some (.cells (mB re rf sv tv bv) 87 (0,0)):=by rw [setRow_other _ _ _ _ (by omega)];exact hrow
   have KF : Kp (fun _=>False) w (w3.drew.setRow w.heap.size cC):=(HX.out.2.1.drewN 1).setRow (fun x=>by omega) _;refine aB (fun w'=>w'.heap[ob]? = some (.cells (mB re rf sv tv bv) 87 (0,0))) (by kernel_rfl) ?_;refine tm 0 16 (.agg cC) rfl (fun w' _=>eh 136 #[] rfl cC [] rfl (by kernel_rfl)) hS0 ?_;refine tm 1 17 (.pointer (some ⟨ob,0,none⟩)) rfl (fun w' _=>by simp [execOp,Act.eval,Act.put,go_sem]) hS0 ?_;refine tm 2 18 (.int .i64 re) rfl (fun w' hS=>by (have c : w'.cell? ⟨ob,0,none⟩ = some (.int .i64 re):=(by rw [World.cell?,hS];rfl);simp [execOp,Act.eval,Act.put,go_sem,c])) hS0 ?_;refine bE 3 (by kernel_rfl) rfl rfl 136 (.tmp 4) (.tmp 16) rfl rfl w.heap.size cC (by simp [Act.eval,Act.put]) (by simp [Act.eval,Act.put]) 136 cC (by exact hr3) ig rfl sz hS1 ?_;refine tm 4 5 (.int .i64 re) rfl (fun w' _=>by simp [execOp,Act.eval,Act.put,go_sem]) hS1 ?_;refine wpAnyH_done (by kernel_rfl) (NoPanic.normal ?_) _;simp only [Act.put,pA,pB,pC];go_wp2;refine bodyPost_ret (results_cell_tmp rfl _ _ w.heap.size 136 cC (0,0) dv rfl (setRow_heap w3.drew _ _ _ _ _ (by exact hr3)) hdv qf ig) rfl ?_;refine ⟨cC,by rw [HF.out];rfl,?_,KF⟩;rw [HN.out,HF.out];exact ⟨fun _=>rfl,fun e=>by rw [e] at q1;simp at q1⟩
 | false=>?_
 have hre : re = 0:=by simpa using q1
 have HV:=hid (HU.out.trans (show _ = if n < 1 \/ 6 < n then 10 else (Ch.mstart ol).2.2 by rw [q1];rfl));clear HU
 by_cases q2 : n < 1 \/ 6 < n
 ·have HF:=hid (HV.out.trans (if_pos q2))
  have KF : Kp (fun _=>False) w (w3.setRow w.heap.size cC):=HX.out.2.1.setRow (fun x=>by omega) _;have et:=setRow_heap w3 w.heap.size cC cC 136 (0,0) hr3;have HK:=hid KF
  have hfin : ∀ A : Array Value,A = cC -> NV (w3.setRow w.heap.size cC) t n A:=by
   intro A hA;rw [HN.out,HF.out];exact ⟨fun _=>hA,fun e=>by simp at e⟩
  have SM:=hid hfin;clear hfin KF HV
  by_cases q3 : n < 1
  ·go_wp2_with (refine wpList_store_row rfl 136 (.tmp 4) (.tmp 25) rfl w.heap.size cC rfl rfl 136 cC hr3 ig rfl sz ?_)
   refine bodyPost_ret (results_cell_tmp rfl _ _ w.heap.size 136 cC (0,0) dv rfl et hdv qf ig) rfl ?_;exact ⟨cC,by rw [HF.out];rfl,SM.out _ rfl,HK.out⟩
  have q4 : 6 < n:=by omega
  go_wp2_with (refine wpList_store_row rfl 136 (.tmp 4) (.tmp 25) rfl w.heap.size cC rfl rfl 136 cC hr3 ig rfl sz ?_)
  refine bodyPost_ret (results_cell_tmp rfl _ _ w.heap.size 136 cC (0,0) dv rfl et hdv qf ig) rfl ?_;exact ⟨cC,by rw [HF.out];rfl,SM.out _ rfl,HK.out⟩
 have HF:=hid (HV.out.trans (if_neg q2));clear HV
 have q3 : ¬ n < 1:=by omega
 have q4 : ¬ 6 < n:=by omega
 obtain ⟨k,rfl⟩ : ∃ k : Nat,n = (k : Int):=⟨n.toNat,by omega⟩
 have U1 : k <= 6:=by omega
 have NT : ((k : Int)).toNat = k:=by omega
 have vO:=uB ol;have NU : (Ch.mstart ol).2.1.size <= 10000000000:=jt hol;have HM:=hid (show gx ol k = fN (sv0 k) (Ch.mstart ol).1 (Ch.mstart ol).2.1 from rfl);simp only [NT] at HN;have hp3:=Pl.ofRow hrow HX.out.1;have E1:=hid (rL w3 ob 0 ol hp3 hol);generalize Ch.mstart ol = ms at *;obtain ⟨fs,ft,fe⟩:=ms;simp only at vO HF E1 HM NU;have fI:=cY vO.1;have fS:=dy vO.1;have fO:=fT fs;clear hp3 q2
 go_wp2_with fail
 refine hm E1 ?_;rintro y w4 ⟨rfl,K4⟩;have hr4:=K4.at_ hr3 (fun x=>x);have hrow4:=K4.at_ hrow (fun x=>x);have F4:=HX.out.1.au K4;have KC:=HX.out.2.1.trans K4;have hnew:=heap_alloc_new w4 (.cells aF 95);have jm:=setRow_heap (w4.alloc (.cells aF 95)) w4.heap.size aF (aj fs).toArray 95 (0,0) hnew;have K5 : Kp (fun _=>False) w4 ((w4.alloc (.cells aF 95)).setRow w4.heap.size (aj fs).toArray):=((Kp.refl _ _).alloc _).setRow (fun x=>by omega) _;have gb:=K5.at_ hr4 (fun x=>x);have tE:=K5.at_ hrow4 (fun x=>x);have HY:=hid (ae (F4.au K5) (KC.trans K5));clear F4 KC K4 K5 HX E1 hrow hrow4 hr4 z0 hr3;generalize xJ : (aj fs).toArray = FA at *;have Bu:=hid xJ;clear xJ
 go_upto_region 7 with (refine wpList_store_row rfl 95 (.tmp 7) (.tmp 28) rfl w4.heap.size FA rfl rfl 95 aF hnew fI (by rw [fS];rfl) fO ?_)
 generalize (w4.alloc (.cells aF 95)).setRow w4.heap.size FA = w5 at *;generalize w4.heap.size = fb at *;clear hnew
 cases q5 : fe != 0 with
 | true =>
   have hfe : fe ≠ 0:=by simpa using q5
   have KF:=HY.out.2.setRow (g:=w.heap.size) (fun x=>by omega) cC;have et:=setRow_heap w5 w.heap.size cC cC 136 (0,0) gb;have HK:=hid KF;clear KF
   go_wp2_with (refine wpList_store_row rfl 136 (.tmp 4) (.tmp 33) rfl w.heap.size cC rfl rfl 136 cC gb ig rfl sz ?_)
   refine bodyPost_ret (results_cell_tmp rfl _ _ w.heap.size 136 cC (0,0) dv rfl et hdv qf ig) rfl ?_;refine ⟨cC,by rw [HF.out];rfl,?_,HK.out⟩;rw [HN.out,HF.out];exact ⟨fun _=>rfl,fun e=>absurd e hfe⟩
 | false=>?_
 have hfe : fe = 0:=by simpa using q5
 subst hfe;subst hre;obtain ⟨i0,hi0,hz0,hz1,hz2⟩:=info_parts Lr;obtain ⟨sa,sl,sc,rfl⟩:=cv HY.out.1.ag;obtain ⟨ta,tl,tc,rfl⟩:=cv HY.out.1.bH;obtain ⟨ba,bl,bc,rfl⟩:=cv HY.out.1.cM
 have hmk : ∀ W : World,(Instr.makeSlice 134 (.int .i64 (k : Int)) (.int .i64 (k : Int))).run prog W = .ok (.slice (some ⟨W.heap.size,0,none⟩) k k) (W.alloc (.cells (bj (List.replicate k cW)).toArray 173)):=by
  intro W;have:=run_makeSlice (P:=prog) W 134 173 i0 (.agg nk) underlying134 hi0 hz0 .i64 .i64 (k : Int) (k : Int) (by omega) (Int.le_refl _) (by rw [hz1];omega) (by rw [hz2];omega) (by omega);rw [this,hz1];simp only [NT];rw [<- Jf k];rfl
 have NW : ∀ tb,kN ⟨.int .i64 0,.int .i64 rf,.slice sa sl sc,.slice ta tl tc,.slice ba bl bc⟩ (sv0 k) (.slice none 0 0) tb = #[.int .i64 0,.int .i64 rf,.slice sa sl sc,.slice ta tl tc,.slice ba bl bc,.int .i64 0,.slice none 0 0,.int .i64 0,.string ⟨#[]⟩,.slice (some ⟨tb,0,none⟩) k k,.int .i64 0,.int .i64 0]:=by
  intro tb;simp [kN,sv0]
 have HB : ∀ tb : Nat,prog.built 136 [(0,.agg (mB 0 rf (.slice sa sl sc) (.slice ta tl tc) (.slice ba bl bc))),(3,.slice (some ⟨tb,0,none⟩) k k)] = some (kN ⟨.int .i64 0,.int .i64 rf,.slice sa sl sc,.slice ta tl tc,.slice ba bl bc⟩ (sv0 k) (.slice none 0 0) tb):=by
  intro tb;rw [NW];kernel_rfl
 have aS : ∀ tb,(kN ⟨.int .i64 0,.int .i64 rf,.slice sa sl sc,.slice ta tl tc,.slice ba bl bc⟩ (sv0 k) (.slice none 0 0) tb).size = 12:=fun tb=>rfl
 have aO : ∀ tb,(kN ⟨.int .i64 0,.int .i64 rf,.slice sa sl sc,.slice ta tl tc,.slice ba bl bc⟩ (sv0 k) (.slice none 0 0) tb).all (fun x=>x.oneCell') = true:=fun tb=>JR rfl rfl rfl rfl rfl rfl
 have oI : (prog.info? 87).map (·.size) = some (mB 0 rf (.slice sa sl sc) (.slice ta tl tc) (.slice ba bl bc)).size:=oD;have SN:=lt_of_block gb;generalize SO : (⟨.int .i64 0,.int .i64 rf,.slice sa sl sc,.slice ta tl tc,.slice ba bl bc⟩ : Pc) = pc at *;generalize U2 : mB 0 rf (.slice sa sl sc) (.slice ta tl tc) (.slice ba bl bc) = OA at *;have HH:=hid (ae hmk (ae HB (ae aS aO)));clear hmk HB NW aS aO hi0 hz0 hz1 hz2 U2 q5 o1 o2 o3;generalize SP : (bj (List.replicate k cW)).toArray = MC at *;generalize SQ : kN pc (sv0 k) (.slice none 0 0) = SV at *;have Pp:=hid (ae SQ (ae SP SO));clear SQ SP SO
 go_upto_region 9 with (fail)
 go_cut [10] from 35 to 38 (fun p wx=>∃ xb tb,p = .pointer (some ⟨xb,0,none⟩) /\ wx.heap[xb]? = some (.cells (SV tb) 136 (0,0)) /\ wx.heap[tb]? = some (.cells MC 173 (0,0)) /\ Kp (fun _=>False) w5 wx /\ w5.heap.size <= tb /\ w5.heap.size <= xb)
 case first =>
  obtain ⟨hmk,HB,aS,aO⟩:=HH.out;have hS0 : w5.drew.heap[ob]? = some (.cells OA 87 (0,0)):=tE;have jF : Kp (fun _=>False) w5 w5.drew:=(Kp.refl _ _).drewN 1;refine aB (fun w'=>w'.heap[ob]? = some (.cells OA 87 (0,0))) (by kernel_rfl) ?_;refine Go.Proofs.YtnlbchmfcebeeaaGreat.tl 0 35 (.agg OA) rfl (fun w' hS=>aU 87 (.tmp 6) rfl ob rfl 87 OA (0,0) dO hS Qr Lj oI) hS0 ?_;refine tj 1 36 (.int .i64 k) hS0 ?_;refine iJ 2 4 (by kernel_rfl) rfl rfl rfl rfl ?_ ?_
  ·refine cP (some 37) rfl (.slice (some ⟨w5.heap.size,0,none⟩) k k) (w5.drew.alloc (.cells MC 173)) (by simp [execOp,Act.eval,go_sem,hmk]) ?_
   have hn1:=heap_alloc_new w5.drew (.cells MC 173);have K1:=jF.alloc (.cells MC 173);have hS1:=K1.at_ tE (fun x=>x);have hn2:=heap_alloc_new (w5.drew.alloc (.cells MC 173)) (.cells cC 136);have K2:=K1.alloc (.cells cC 136);have hS2:=K2.at_ tE (fun x=>x)
   have es : (w5.drew.alloc (.cells MC 173)).heap.size = w5.heap.size + 1:=by simp
   have K3:=K2.setRow (g:=w5.heap.size + 1) (fun x=>by omega) (SV w5.heap.size);have tC:=K3.at_ tE (fun x=>x);rw [es] at hn2;refine ⟨hS1,?_⟩;refine tm 3 38 (.agg (SV w5.heap.size)) rfl (fun w' _=>eh 136 #[(0,.tmp 35),(3,.tmp 37)] rfl (SV w5.heap.size) [(0,.agg OA),(3,.slice (some ⟨w5.heap.size,0,none⟩) k k)] (by simp [Act.eval,Act.put]) (HB _)) hS1 ?_;refine Go.Proofs.YtnlbchmfcebeeaaGreat.dO 4 ?_;refine cP (some 10) rfl (.pointer (some ⟨w5.heap.size + 1,0,none⟩)) ((w5.drew.alloc (.cells MC 173)).alloc (.cells cC 136)) (by simp [execOp,go_sem]) ?_;refine ⟨hS2,?_⟩;refine bE 5 (by kernel_rfl) rfl rfl 136 (.tmp 10) (.tmp 38) rfl rfl (w5.heap.size + 1) (SV w5.heap.size) (by simp [Act.eval,Act.put]) (by simp [Act.eval,Act.put]) 136 cC hn2 (by rw [aS];exact ig) (by rw [aS];rfl) (aO _) tC ?_;refine wpAnyH_done (by kernel_rfl) (NoPanic.normal ?_) _;simp only [Act.put,pA,pB,pC]
   go_wp2_with fail
   go_meet
   refine ⟨w5.heap.size + 1,w5.heap.size,rfl,setRow_heap _ _ _ _ _ _ hn2,?_,K3,Nat.le_refl _,by omega⟩;rw [setRow_other _ _ _ _ (by omega),Below.heap_alloc _ _ _ (by simp)];exact hn1
  refine cP (some 10) rfl (.pointer (some ⟨w5.heap.size,0,none⟩)) (w5.drew.alloc (.cells cC 136)) (by simp [execOp,go_sem]) ?_;have hn1:=heap_alloc_new w5.drew (.cells cC 136);have K1:=jF.alloc (.cells cC 136);have hS1:=K1.at_ tE (fun x=>x);have hn2:=heap_alloc_new (w5.drew.alloc (.cells cC 136)) (.cells MC 173);have K2:=K1.alloc (.cells MC 173);have hS2:=K2.at_ tE (fun x=>x)
  have es : (w5.drew.alloc (.cells cC 136)).heap.size = w5.heap.size + 1:=by simp
  have K3:=K2.setRow (g:=w5.heap.size) (fun x=>by omega) (SV (w5.heap.size + 1));have tC:=K3.at_ tE (fun x=>x)
  have iN : ((w5.drew.alloc (.cells cC 136)).alloc (.cells MC 173)).heap[w5.heap.size]? = some (.cells cC 136 (0,0)):=by
   rw [Below.heap_alloc _ _ _ (by simp)];exact hn1
  rw [es] at hn2;refine ⟨hS1,?_⟩;refine Go.Proofs.YtnlbchmfcebeeaaGreat.dO 2 ?_;refine cP (some 37) rfl (.slice (some ⟨w5.heap.size + 1,0,none⟩) k k) ((w5.drew.alloc (.cells cC 136)).alloc (.cells MC 173)) (by simp [execOp,Act.eval,Act.put,go_sem,hmk]) ?_;refine ⟨hS2,?_⟩;refine tm 3 38 (.agg (SV (w5.heap.size + 1))) rfl (fun w' _=>eh 136 #[(0,.tmp 35),(3,.tmp 37)] rfl (SV (w5.heap.size + 1)) [(0,.agg OA),(3,.slice (some ⟨w5.heap.size + 1,0,none⟩) k k)] (by simp [Act.eval,Act.put]) (HB _)) hS2 ?_;refine bE 5 (by kernel_rfl) rfl rfl 136 (.tmp 10) (.tmp 38) rfl rfl w5.heap.size (SV (w5.heap.size + 1)) (by simp [Act.eval,Act.put]) (by simp [Act.eval,Act.put]) 136 cC iN (by rw [aS];exact ig) (by rw [aS];rfl) (aO _) tC ?_;refine wpAnyH_done (by kernel_rfl) (NoPanic.normal ?_) _;simp only [Act.put,pA,pB,pC]
  go_wp2_with fail
  go_meet
  refine ⟨w5.heap.size,w5.heap.size + 1,rfl,setRow_heap _ _ _ _ _ _ iN,?_,K3,by omega,Nat.le_refl _⟩;rw [setRow_other _ _ _ _ (by omega)];exact hn2
 case rest =>
  obtain ⟨xb,tb,rfl,hxb,htb,KC,htl,hxl⟩:=hcut;have F6:=HY.out.1.au KC;have KD:=HY.out.2.trans KC;have mw:=KC.at_ gb (fun x=>x);have OY:=KC.at_ jm (fun x=>x);have hfx : fb < w5.heap.size:=lt_of_block jm;rw [<- Pp.out.1] at hxb;rw [<- Pp.out.2.1] at htb
  obtain ⟨B6,F6⟩ : ∃ B,qY wc B ol (.slice sa sl sc) (.slice ta tl tc) (.slice ba bl bc) lt lb:=⟨_,F6⟩
  have hS : cj wc xb tb 136 pc ol (sv0 k) (.slice none 0 0):=by
   refine ⟨hxb,World.ownsRow_nil _ _ _ _,htb,by simp [sv0],?_,.inl rfl,B6,lt,lb,?_⟩
   ·intro t ht
    have ht' : t ∈ List.replicate k cW:=ht;rw [List.eq_of_mem_replicate ht'];exact iB
   rw [<- Pp.out.2.2];exact F6
  have EP:=hid (lJ wc hS (Lx U1) fs vO.1 ft NU);rw [Bu.out,<- HM.out] at EP;generalize gx ol k = XX at *;clear F6 KC hS hxb htb HH gb tE jm
  go_wp2_with (refine wpList_load_row rfl 95 (.tmp 7) rfl fb rfl 95 FA (0,0) ds OY hds (by cases ds <;> first | rfl | exact absurd eH (by simp [ar])) fI ?_)
  refine hm EP ?_;rintro y w7 ⟨rfl,tV,h7,n7,K7⟩
  have Mh : w7.heap[w.heap.size]? = some (.cells cC 136 (0,0)):=K7.at_ mw (by
   rintro (e | e | e)
   ·omega
   ·omega
   simp [Value.ownBlock] at e)
  have Lw:=h7.blk
  have n7' : ∀ k,tV.ownBlock = some k -> w.heap.size <= k:=by
   intro k e
   rcases n7 k e with e | e
   ·simp [Value.ownBlock] at e
   have:=KD.size;omega
  have hone : (kN pc XX tV tb).all (fun x=>x.oneCell') = true:=by
   refine JR ?_ ?_ ?_ ?_ ?_ (fg h7.row) <;> rw [<- Pp.out.2.2] <;> rfl
  have Pq : ∀ {b : Nat} {c : Array Value} {e : TypeId},w7.heap[b]? = some (.cells c e (0,0)) -> e ≠ 136 -> b ≠ w.heap.size:=by
   intro b c e hb hne hx;rw [hx,Mh] at hb;simp only [Option.some.injEq,Obj.cells.injEq] at hb;exact hne hb.2.1.symm
  have h8 : cj (w7.setRow w.heap.size (kN pc XX tV tb)) xb tb 136 pc ol XX tV:=by
   refine h7.keep (S:=fun k=>k = w.heap.size) ((Kp.refl (fun k=>k = w.heap.size) w7).setRow (fun _=>rfl) _) (by omega) (Pq h7.kA (by decide)) ?_ ?_
   ·intro k ek
    obtain ⟨cur,hc⟩:=aR h7.row ek;exact Pq hc (by decide)
   intro i cur e hi he;exact Pq hi (by intro x;subst x;revert he;unfold Gx;decide)
  have KF : Kp (fun _=>False) w (w7.setRow w.heap.size (kN pc XX tV tb)):=by
   refine (KD.trans' K7 ?_).setRow (fun x=>by omega) _;rintro i hi (e | e | e)
   ·have:=KD.size;omega
   ·have:=KD.size;omega
   simp [Value.ownBlock] at e
  have et:=setRow_heap w7 w.heap.size cC (kN pc XX tV tb) 136 (0,0) Mh;have HZ:=hid (ae h8 (ae KF (ae n7' hone)));have vI : (prog.info? 136).map (·.size) = some (kN pc XX tV tb).size:=ig;have vS : (kN pc XX tV tb).size = 12:=rfl;generalize Ec : kN pc XX tV tb = AA at *;have Qs:=hid Ec;clear Ec EP h7 n7 K7 h8 KF n7' Pq OY mw KD
  go_wp2_with (first | refine wpList_load_row rfl 136 (.tmp 10) rfl xb rfl 136 AA (0,0) dv Lw hdv (by cases dv <;> first | rfl | exact absurd qf (by simp [ar])) vI ?_ | refine wpList_store_row rfl 136 (.tmp 4) (.tmp 42) rfl w.heap.size AA rfl rfl 136 cC Mh vI (by rw [vS];rfl) hone ?_)
  refine bodyPost_ret (results_cell_tmp rfl _ _ w.heap.size 136 AA (0,0) dv rfl et hdv qf vI) rfl ?_;refine ⟨AA,by rw [HF.out];rfl,?_,HZ.out.2.1⟩;rw [HN.out];exact ⟨fun e=>absurd HF.out e,fun _=>⟨tb,pc,tV,Qs.out.symm,HZ.out.1.val,by omega,HZ.out.2.2.1,HZ.out.2.2.2⟩⟩
theorem GL (t : ByteArray) (n : Int) :
 Calls prog 58 #[.string t,.int .i64 n] w fun r w'=>∃ v,r = .returned (.tuple #[v,.int .i64 (kK t n)]) /\ DI w w' t n v /\ Kp (fun _=>False) w w':=by
 obtain ⟨dv,hdv,qf⟩:=JQ;have E:=hid (DJ w t n);have HN:=hid (show ∀ w' A,GK w w' t n A = ((kK t n ≠ 0 -> A = cC) /\ (kK t n = 0 -> ∃ tb pc kv,A = kN pc (gx (Ch.read t).2.2 n.toNat) kv tb /\ Je w' tb pc (Ch.read t).2.2 (gx (Ch.read t).2.2 n.toNat) kv /\ w.heap.size <= tb /\ (∀ k,kv.ownBlock = some k -> w.heap.size <= k) /\ A.all (fun x=>x.oneCell') = true)) from fun _ _=>rfl);have HQ:=hid (show ∀ w' v,DI w w' t n v = ((kK t n ≠ 0 -> v = .pointer none) /\ (kK t n = 0 -> ∃ xb tb pc kv,v = .pointer (some ⟨xb,0,none⟩) /\ cj w' xb tb 138 pc (Ch.read t).2.2 (gx (Ch.read t).2.2 n.toNat) kv /\ ∀ k,jr xb tb kv k -> w.heap.size <= k)) from fun _ _=>rfl);generalize GK w = NV at *;generalize DI w = NQ at *;generalize kK t n = NE at *;generalize gx (Ch.read t).2.2 n.toNat = XX at *;generalize (Ch.read t).2.2 = ol at *
 go_enter func58,ntmps58
 go_wp2_with fail
 refine hm E ?_;rintro y w1 ⟨A,rfl,hv,K1⟩;rw [HN.out] at hv
 have hone : A.all (fun x=>x.oneCell') = true:=by
  by_cases q : NE = 0
  ·obtain ⟨_,_,_,_,_,_,_,h⟩:=hv.2 q;exact h
  rw [hv.1 q];exact sz
 have hsz : A.size = 12:=by
  by_cases q : NE = 0
  ·obtain ⟨_,_,_,h,_⟩:=hv.2 q;rw [h];rfl
  rw [hv.1 q];rfl
 have vI : (prog.info? 136).map (·.size) = some A.size:=by rw [hsz];exact ig
 have hnr:=heap_alloc_new w1 (.cells cC 136);have hb2:=setRow_heap (w1.alloc (.cells cC 136)) w1.heap.size cC A 136 (0,0) hnr;have K2 : Kp (fun _=>False) w1 ((w1.alloc (.cells cC 136)).setRow w1.heap.size A):=((Kp.refl _ _).alloc _).setRow (fun x=>by omega) _;have HH:=hid (ae hv (ae (K1.trans K2) K2));have hw1:=K1.size;have hw2:=K2.size;clear E hv K1 K2
 go_upto_region 2 with (refine wpList_store_row rfl 136 (.tmp 6) (.tmp 12) rfl w1.heap.size A rfl rfl 136 cC hnr vI (by rw [hsz];rfl) hone ?_)
 generalize (w1.alloc (.cells cC 136)).setRow w1.heap.size A = w2 at *;generalize w1.heap.size = sb at *;clear hnr
 cases q : NE != 0 with
 | true =>
   have hne : NE ≠ 0:=by simpa using q
   go_wp2;go_ret2;refine ⟨.pointer none,rfl,?_,HH.out.2.1⟩;rw [HQ.out];exact ⟨fun _=>rfl,fun e=>absurd e hne⟩
 | false=>?_
 have hne : NE = 0:=by simpa using q
 subst hne;obtain ⟨tb,pc,kv,eA,hV,htl,hkl,hone⟩:=HH.out.1.2 rfl;have hV2:=hV.au HH.out.2.2;have HB:=hid (show prog.built 138 [(0,.agg A)] = some A by rw [eA];kernel_rfl);have K3:=HH.out.2.1.alloc (.cells A 138);have hb3:=heap_alloc_new w2 (.cells A 138);rw [eA] at hb3;have h3:=(hV2.au ((Kp.refl _ _).alloc (.cells (kN pc XX kv tb) 138))).blk hb3 (.inr rfl);rw [<- eA] at h3;have hws:=HH.out.2.1.size;have HZ:=hid (ae h3 (ae K3 (ae htl hkl)));clear h3 K3 hV hV2 hb3 eA htl hkl hone
 go_wp2_with (first | refine wpList_load_row rfl 136 (.tmp 6) rfl sb rfl 136 A (0,0) dv hb2 hdv (by cases dv <;> first | rfl | exact absurd qf (by simp [ar])) vI ?_ | (refine bn rfl 138 #[(0,.tmp 17)] rfl A [(0,.agg A)] ?_ HB.out ?_;rfl))
 go_ret2;refine ⟨_,rfl,?_,HZ.out.2.1⟩;rw [HQ.out];refine ⟨fun e=>absurd rfl e,fun _=>⟨w2.heap.size,tb,pc,kv,rfl,HZ.out.1,?_⟩⟩;rintro k (e | e | e)
 ·omega
 ·rw [e];exact HZ.out.2.2.1
 exact HZ.out.2.2.2 k e
end
end Go.Proofs.YtnlbchmfcebeeaaGreat
