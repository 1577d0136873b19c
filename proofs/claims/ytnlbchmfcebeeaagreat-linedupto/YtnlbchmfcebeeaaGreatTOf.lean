import Derived.Test.YtnlbchmfcebeeaaGreatTOe
set_option maxHeartbeats 12800000
set_option maxRecDepth 100000
namespace Go.Proofs.YtnlbchmfcebeeaaGreat
open Go.Proofs.Tryz Ch
open Go.RowKit
namespace Ch
def DX (L : Ln) (u : Nat) (r : Rq) : Ln:={ L with stands:=L.stands.set u true,asked:=L.asked.set u r,latest:=L.latest.set u ((L.all.length : Int) - 1),steps:=L.steps.set u 0 }
end Ch
theorem dU.LK {w : World} {p : Lp} {t : ByteArray} {L : Ln} {av : Value} (h : dU w p t L av) {u : Nat} {r0 : Rq} (hu : L.asked[u]? = some r0) (r : Rq) : dU (w.setRow p.qb (putAt (df L.asked).toArray (u * 3) (pR r))) p t { L with asked:=L.asked.set u r } av:=by
 have KS : Kp (fun k=>k = p.qb) w (w.setRow p.qb (putAt (df L.asked).toArray (u * 3) (pR r))):=(Kp.refl (fun k=>k = p.qb) w).setRow (fun _=>rfl) _;have hne:=own_ne h.row h.ask (by decide);obtain ⟨_,n2,_,_,n5,n6⟩:=h.Pw;obtain ⟨_,m2,_,_⟩:=h.NY;refine ⟨?_,KS.owns h.row (fun k e x=>hne (by rw [<- x];exact e)),KS.at_ h.wH n2,?_,KS.at_ h.yM n5.symm,KS.at_ h.tY n6.symm,h.ne⟩
 ·rw [KS.at_ h.blk m2.symm];simp [Hw]
 rw [setRow_heap w p.qb _ _ 79 (0,0) h.ask]
 congr 2
 exact uW pR 3 L.asked u r0 r 0 (pR r) (fun a _=>wG a) hu (by simp [pR]) (by simp [pR])
theorem Cc : ∃ d,prog.underlying 58 = some d /\ ar d = true:=⟨_,underlying58,rfl⟩
theorem m7 : (prog.info? 58).map (·.size) = some 4:=by kernel_rfl
section
variable (w : World) {B : Nat} {p : Lp} {t : ByteArray} {L : Ln} {av : Value} {xb tb : Nat} {pc : Pc} {ol : Ol} {x : Sv} {kv : Value}
theorem Ha (hL : dU w p t L av) (hx : cj w xb tb 138 pc ol x kv) (hfl : ∀ k,jb p av k -> B <= k) (hfs : ∀ k,jr xb tb kv k -> B <= k) (k us n : Int) (s : ByteArray) (hk1 : 1 <= k) (hk4 : k <= 4) (hn1 : -9223372036854775808 <= n) (hn2 : n <= 9223372036854775807) (hs : s.size <= maxLen) (hal : L.all.length <= 1000000000000) (lR : L.log.size <= 100000000000000000)
 {u : Nat} {b : Bool} {r0 : Rq} {l0 s0 : Int} {t0 : Tk} (hb : L.stands[u]? = some b) (hr0 : L.asked[u]? = some r0) (hl0 : L.latest[u]? = some l0) (hs0 : L.steps[u]? = some s0) (ht : x.tasks[u]? = some t0) (hbt : b = decide (t0.kind ≠ 0)) :
 Calls prog 35 #[.pointer (some ⟨p.wb,0,none⟩),.pointer (some ⟨xb,0,none⟩),.int .i64 (u : Int),.agg (stA k us n s)] w fun y w'=>y = .returned (.bool true) /\ ∃ r : Rq,iC r = true /\ r.kind = k /\ S6 w w' B p t xb tb pc ol (if b then L else DX L u r) (if b then x else ak x u (mW r)):=by
 obtain ⟨dq,oH,iW⟩:=yF;obtain ⟨dS,Cd,od⟩:=Cc;obtain ⟨ao,cap,mo⟩:=b7 hL.row;have Pt:=hid mo;clear mo;have oc:=hL.low
 have hBw : B <= w.heap.size:=by have:=hfl p.wb (.inl rfl);have:=oc p.wb (.inl rfl);omega
 have K1 : Kp (fun _=>False) w (w.alloc (.cells (stA k us n s) 58)):=(Kp.refl _ _).alloc _;have hn1':=heap_alloc_new w (.cells (stA k us n s) 58);have hL1:=hL.au K1;have hx1:=hx.au K1;have ER:=hid (yO (w.alloc (.cells (stA k us n s) 58)) hL1 k us n s hk1 hk4 hn1 hn2 hs hal lR);have sI : (prog.info? 58).map (·.size) = some (stA k us n s).size:=m7;have Q0 : u < L.stands.length:=(List.getElem?_eq_some_iff.1 hb).1
 have Jl : (u : Int) < (L.stands.length : Int):=by omega
 have Rm : (u : Int) < (L.asked.length : Int):=by have:=(List.getElem?_eq_some_iff.1 hr0).1;omega
 have Rn : (u : Int) < (L.latest.length : Int):=by have:=(List.getElem?_eq_some_iff.1 hl0).1;omega
 have N3 : (u : Int) < (L.steps.length : Int):=by have:=(List.getElem?_eq_some_iff.1 hs0).1;omega
 have Ot : ∀ r : Rq,iC r = true -> pn x (u : Int) r = (if b then (x,11) else (ak x u (mW r),0)):=by
  intro r hr
  have oE : lM x (u : Int) = some t0:=by unfold lM;rw [if_pos (by omega)];exact ht
  unfold pn;rw [oE,hbt]
  by_cases q : t0.kind = 0
  ·simp [q,hr]
  simp [q]
 have HH:=hid (ae hL1 (ae hx1 (ae K1 (ae hfl (ae hfs Ot)))));clear hL hx hfl hfs hL1 hx1 K1 Ot hbt ht;generalize hST : stA k us n s = ST at *;clear hST
 go_enter func35,ntmps35
 go_upto_region 1 with (fail)
 generalize w.alloc (.cells ST 58) = w1 at *
 go_wp2_with (refine wpList_load_row rfl 58 (.tmp 7) rfl w.heap.size rfl 58 ST (0,0) dS hn1' Cd (by cases dS <;> first | rfl | exact absurd od (by simp [ar])) sI ?_)
 refine hm ER ?_;rintro y w2 ⟨r,rfl,hrq,Ro,K2⟩;have hnb:=heap_alloc_new w2 (.cells #[.int .i64 0,.string ⟨#[]⟩,.int .i64 0] 79);have hx3:=setRow_heap (w2.alloc (.cells #[.int .i64 0,.string ⟨#[]⟩,.int .i64 0] 79)) w2.heap.size #[.int .i64 0,.string ⟨#[]⟩,.int .i64 0] (cn r) 79 (0,0) hnb;have K3 : Kp (fun _=>False) w2 ((w2.alloc (.cells #[.int .i64 0,.string ⟨#[]⟩,.int .i64 0] 79)).setRow w2.heap.size (cn r)):=((Kp.refl _ _).alloc _).setRow (fun x=>by omega) _;have S8:=(HH.out.2.2.1.trans K2).trans K3;have hL3:=HH.out.1.au (K2.trans K3);have tC:=HH.out.2.1.au (K2.trans K3);have hw2:=(HH.out.2.2.1.trans K2).size;have rI:=wE r;have rO:=pS r;clear ER K2 K3 hn1'
 go_upto_region 2 with (refine wpList_store_row rfl 79 (.tmp 9) (.tmp 13) rfl w2.heap.size (cn r) rfl rfl 79 #[.int .i64 0,.string ⟨#[]⟩,.int .i64 0] hnb rI rfl rO ?_)
 generalize (w2.alloc (.cells #[.int .i64 0,.string ⟨#[]⟩,.int .i64 0] 79)).setRow w2.heap.size (cn r) = w3 at *;generalize w2.heap.size = rb at *;have EA:=hid (GJ w3 tC (u : Int) r);rw [HH.out.2.2.2.2.2 r hrq] at EA;clear hnb;have HX:=hid (ae hL3 (ae tC S8));clear hL3 tC S8;have HR:=hid (ae hrq Ro);clear hrq Ro
 go_wp2_with (refine wpList_load_row rfl 79 (.tmp 9) rfl rb rfl 79 (cn r) (0,0) dq hx3 oH (by cases dq <;> first | rfl | exact absurd iW (by simp [ar])) rI ?_)
 refine hm EA ?_;rintro y w4 ⟨rfl,q4⟩;have hB3 : B <= w3.heap.size:=Nat.le_trans hBw HX.out.2.2.size;obtain ⟨JP,j3,Jq,K4⟩:=dF.fresh hB3 HH.out.2.2.2.2.1 q4;have hL4:=HX.out.1.bP HX.out.2.1 K4;have KA : Kp (fun k=>B <= k) w w4:=(HX.out.2.2.mono (S':=fun k=>B <= k) (fun _ _ x=>x.elim)).trans' K4 (fun k _ hk=>HH.out.2.2.2.2.1 k hk)
 have hx4 : w4.heap[rb]? = some (.cells (cn r) 79 (0,0)):=K4.at_ hx3 (fun hk=>by
  obtain ⟨c,e,g1,g2⟩:=wI HX.out.2.1 hk;rw [hx3] at g1;simp only [Option.some.injEq,Obj.cells.injEq] at g1;apply g2;rw [<- g1.2.1]
  unfold JX;decide)
 clear EA q4 K4 hx3;have y3 : w4.cell? ⟨p.wb,3,none⟩ = some (.slice (some ⟨p.sb,0,none⟩) L.stands.length L.stands.length):=hL4.cell 3;have yb:=hL4.u4 hb
 have yf : w4.frozen? ⟨p.sb,u,none⟩ = false:=by simp [World.frozen?,hL4.wH]
 cases b with
 | true =>
   have HZ:=hid (ae hL4 (ae j3 (ae Jq KA)));clear hL4 j3 Jq KA;go_wp2;go_ret;exact ⟨rfl,r,HR.out.1,HR.out.2,av,JP,HZ.out.1,HZ.out.2.1,HH.out.2.2.2.1,HZ.out.2.2.1,HZ.out.2.2.2⟩
 | false=>?_
 have hL5:=hL4.G1 u true;have Rr : Kp (jb p av) w4 (w4.setCell ⟨p.sb,u,none⟩ (.bool true)):=(Kp.refl (jb p av) w4).setCell (p:=⟨p.sb,u,none⟩) (fun _=>.inr (.inl rfl)) _;have hS5:=j3.sH hL4 Rr;have KB : Kp (fun k=>B <= k) w (w4.setCell ⟨p.sb,u,none⟩ (.bool true)):=KA.trans' Rr (fun k _ hk=>HH.out.2.2.2.1 k hk)
 have hrs : rb ≠ p.sb /\ rb ≠ p.qb /\ rb ≠ p.lb /\ rb ≠ p.pb:=by
  have a1:=oc p.sb (.inr (.inl rfl));have a2:=oc p.qb (.inr (.inr (.inl rfl)));have a3:=oc p.lb (.inr (.inr (.inr (.inl rfl))));have a4:=oc p.pb (.inr (.inr (.inr (.inr (.inl rfl)))));omega
 have hx5 : (w4.setCell ⟨p.sb,u,none⟩ (.bool true)).heap[rb]? = some (.cells (cn r) 79 (0,0)):=by
  rw [Below.heap_setCell _ _ _ _ hrs.1];exact hx4
 clear hL4 Rr j3 KA hx4
 go_upto_region 6 with (fail)
 generalize w4.setCell ⟨p.sb,u,none⟩ (.bool true) = w5 at *;clear y3 yb yf;have y4 : w5.cell? ⟨p.wb,4,none⟩ = some (.slice (some ⟨p.qb,0,none⟩) L.asked.length L.asked.length):=hL5.cell 4;have KD : Kp (fun _=>False) w5 w5.drew:=(Kp.refl _ _).drewN 1;have Jr:=hL5.au KD;have Ou:=hS5.au KD;have S9 : Kp (fun k=>B <= k) w w5.drew:=KB.drewN 1;have hL6:=Jr.LK hr0 r;have Rt : Kp (jb p av) w5.drew (w5.drew.setRow p.qb (putAt (df L.asked).toArray (u * 3) (pR r))):=(Kp.refl (jb p av) w5.drew).setRow (fun _=>.inr (.inr (.inl rfl))) _;have wu:=Ou.sH Jr Rt;have KC : Kp (fun k=>B <= k) w (w5.drew.setRow p.qb (putAt (df L.asked).toArray (u * 3) (pR r))):=S9.trans' Rt (fun k _ hk=>HH.out.2.2.2.1 k hk);have J2:=Jr.ask
 have hS0 : w5.drew.cell? ⟨p.wb,4,none⟩ = some (.slice (some ⟨p.qb,0,none⟩) L.asked.length L.asked.length) /\ w5.drew.heap[rb]? = some (.cells (cn r) 79 (0,0)):=⟨y4,hx5⟩
 have sQ : (prog.info? 79).map (·.size) = some (pR r).length:=kr
 have DC : u * 3 + (pR r).length <= (df L.asked).toArray.size:=by
  rw [List.size_toArray,show (df L.asked).length = L.asked.length * 3 from lF pR 3 L.asked (fun a _=>wG a)];have:=(List.getElem?_eq_some_iff.1 hr0).1;simp [pR];omega
 have oR : ∀ v ∈ pR r,v.oneCell' = true:=by
  intro v hv;simp only [pR,List.mem_cons,List.not_mem_nil,or_false] at hv
  rcases hv with rfl | rfl | rfl <;> rfl
 have Ov : (w5.drew.setRow p.qb (putAt (df L.asked).toArray (u * 3) (pR r))).cell? ⟨p.wb,4,none⟩ = some (.slice (some ⟨p.qb,0,none⟩) L.asked.length L.asked.length) /\ (w5.drew.setRow p.qb (putAt (df L.asked).toArray (u * 3) (pR r))).heap[rb]? = some (.cells (cn r) 79 (0,0)):=by
  refine ⟨?_,by rw [setRow_other _ _ _ _ hrs.2.1];exact hx5⟩;rw [hL6.cell 4];simp [Hw]
 clear hL5 hS5 KB KD Ou S9 Rt Jr;refine aB (fun w'=>w'.cell? ⟨p.wb,4,none⟩ = some (.slice (some ⟨p.qb,0,none⟩) L.asked.length L.asked.length) /\ w'.heap[rb]? = some (.cells (cn r) 79 (0,0))) (by kernel_rfl) ?_;refine tj 0 33 (.pointer (some ⟨p.wb,0,none⟩)) hS0 ?_;refine tj 1 34 (.pointer (some ⟨p.wb,0,none⟩)) hS0 ?_;refine tj 2 35 (.pointer (some ⟨p.wb,4,none⟩)) hS0 ?_;refine tl 3 36 (.slice (some ⟨p.qb,0,none⟩) L.asked.length L.asked.length) rfl (fun w' hS=>by simp [execOp,Act.eval,go_sem,hS.1]) hS0 ?_;refine tj 4 37 (.int .i64 u) hS0 ?_;refine tl 5 38 (.agg (cn r)) rfl (fun w' hS=>aU 79 (.tmp 9) rfl rb rfl 79 (cn r) (0,0) dq hS.2 oH iW rI) hS0 ?_;refine tl 6 39 (.pointer (some ⟨p.qb,u * 3,none⟩)) rfl (fun w' _=>by simp [execOp,Act.eval,go_sem,Rm]) hS0 ?_;refine mq 7 (by kernel_rfl) rfl rfl (sJ (w5.drew.setRow p.qb (putAt (df L.asked).toArray (u * 3) (pR r))) (fun K hK=>jE 79 (.tmp 39) (.tmp 38) rfl p.qb (u * 3) (pR r) rfl rfl 79 (df L.asked).toArray J2 sQ DC oR hK) ⟨Ov,?_⟩);refine wpAnyH_done (by kernel_rfl) (NoPanic.normal ?_) _;clear Ov hS0 J2 DC oR y4 hx5;generalize w5.drew.setRow p.qb (putAt (df L.asked).toArray (u * 3) (pR r)) = w6 at *;have z5 : w6.cell? ⟨p.wb,5,none⟩ = some (.slice (some ⟨p.lb,0,none⟩) L.latest.length L.latest.length):=hL6.cell 5
 have z1 : w6.cell? ⟨p.wb,1,none⟩ = some (.slice ao L.all.length cap):=by rw [<- Pt.out];exact hL6.cell 1
 have KD : Kp (fun _=>False) w6 w6.drew:=(Kp.refl _ _).drewN 1;have Js:=hL6.au KD;have Ow:=wu.au KD;have S_ : Kp (fun k=>B <= k) w w6.drew:=KC.drewN 1;have hL7:=Js.LJ u ((L.all.length : Int) - 1);have Ru : Kp (jb p av) w6.drew (w6.drew.setCell ⟨p.lb,u,none⟩ (.int .i64 ((L.all.length : Int) - 1))):=(Kp.refl (jb p av) w6.drew).setCell (p:=⟨p.lb,u,none⟩) (fun _=>.inr (.inr (.inr (.inl rfl)))) _;have Hs:=Ow.sH Js Ru;have KE : Kp (fun k=>B <= k) w (w6.drew.setCell ⟨p.lb,u,none⟩ (.int .i64 ((L.all.length : Int) - 1))):=S_.trans' Ru (fun k _ hk=>HH.out.2.2.2.1 k hk)
 have hcell : w6.drew.cell? ⟨p.lb,u,none⟩ = some (.int .i64 l0):=by rw [dR Js.yM,bK,List.getElem?_map,hl0];rfl
 have lS : w6.frozen? ⟨p.lb,u,none⟩ = false:=by simp [World.frozen?,hL6.yM]
 have hfro : w6.drew.frozen? ⟨p.lb,u,none⟩ = false:=lS
 have hwr : IntKind.i64.wrap ((L.all.length : Int) - 1) = (L.all.length : Int) - 1:=by rw [IntKind.wrap_i64];omega
 have hS0 : w6.drew.cell? ⟨p.wb,5,none⟩ = some (.slice (some ⟨p.lb,0,none⟩) L.latest.length L.latest.length) /\ w6.drew.cell? ⟨p.wb,1,none⟩ = some (.slice ao L.all.length cap):=⟨z5,z1⟩
 have hS1 : (w6.drew.setCell ⟨p.lb,u,none⟩ (.int .i64 ((L.all.length : Int) - 1))).cell? ⟨p.wb,5,none⟩ = some (.slice (some ⟨p.lb,0,none⟩) L.latest.length L.latest.length) /\ (w6.drew.setCell ⟨p.lb,u,none⟩ (.int .i64 ((L.all.length : Int) - 1))).cell? ⟨p.wb,1,none⟩ = some (.slice ao L.all.length cap):=by
  refine ⟨by rw [hL7.cell 5];simp [Hw],by rw [<- Pt.out];exact hL7.cell 1⟩
 clear hL6 wu KC KD Ow S_ Ru Js z5 z1 lS
 go_upto_region 7 with (fail)
 refine aB (fun w'=>w'.cell? ⟨p.wb,5,none⟩ = some (.slice (some ⟨p.lb,0,none⟩) L.latest.length L.latest.length) /\ w'.cell? ⟨p.wb,1,none⟩ = some (.slice ao L.all.length cap)) (by kernel_rfl) ?_;refine tj 0 40 (.pointer (some ⟨p.wb,0,none⟩)) hS0 ?_;refine tj 1 41 (.pointer (some ⟨p.wb,0,none⟩)) hS0 ?_;refine tj 2 42 (.pointer (some ⟨p.wb,5,none⟩)) hS0 ?_;refine tl 3 43 (.slice (some ⟨p.lb,0,none⟩) L.latest.length L.latest.length) rfl (fun w' hS=>by simp [execOp,Act.eval,go_sem,hS.1]) hS0 ?_;refine tj 4 44 (.int .i64 u) hS0 ?_;refine tj 5 45 (.pointer (some ⟨p.wb,0,none⟩)) hS0 ?_;refine tj 6 46 (.pointer (some ⟨p.wb,0,none⟩)) hS0 ?_;refine tj 7 47 (.pointer (some ⟨p.wb,1,none⟩)) hS0 ?_;refine tl 8 48 (.slice ao L.all.length cap) rfl (fun w' hS=>by simp [execOp,Act.eval,go_sem,hS.2]) hS0 ?_;refine tj 9 49 (.int .i64 L.all.length) hS0 ?_;refine tl 10 50 (.int .i64 ((L.all.length : Int) - 1)) rfl (fun w' _=>by simp [execOp,Act.eval,go_sem,hwr]) hS0 ?_;refine tl 11 51 (.pointer (some ⟨p.lb,u,none⟩)) rfl (fun w' _=>by simp [execOp,Act.eval,go_sem,Rn]) hS0 ?_;refine mq 12 (by kernel_rfl) rfl rfl (sJ (w6.drew.setCell ⟨p.lb,u,none⟩ (.int .i64 ((L.all.length : Int) - 1))) (fun K hK=>by unfold Oper.wp;simp [execOp,Act.eval,go_sem,hcell,hfro];exact hK) ⟨hS1,?_⟩)
 refine wpAnyH_done (by kernel_rfl) (NoPanic.normal ?_) _;clear hS1 hS0 hcell hfro;generalize w6.drew.setCell ⟨p.lb,u,none⟩ (.int .i64 ((L.all.length : Int) - 1)) = w7 at *;have z6 : w7.cell? ⟨p.wb,6,none⟩ = some (.slice (some ⟨p.pb,0,none⟩) L.steps.length L.steps.length):=hL7.cell 6;have zs:=hL7.G2 hs0
 have zf : w7.frozen? ⟨p.pb,u,none⟩ = false:=by simp [World.frozen?,hL7.tY]
 have On:=hL7.AL u 0;have Rv : Kp (jb p av) w7 (w7.setCell ⟨p.pb,u,none⟩ (.int .i64 0)):=(Kp.refl (jb p av) w7).setCell (p:=⟨p.pb,u,none⟩) (fun _=>.inr (.inr (.inr (.inr (.inl rfl))))) _;have C0:=Hs.sH hL7 Rv;have KF : Kp (fun k=>B <= k) w (w7.setCell ⟨p.pb,u,none⟩ (.int .i64 0)):=KE.trans' Rv (fun k _ hk=>HH.out.2.2.2.1 k hk);have HZ:=hid (ae On (ae C0 (ae Jq KF)));clear On C0 KF Rv hL7 Hs KE Jq;go_wp2;go_ret;exact ⟨rfl,r,HR.out.1,HR.out.2,av,JP,HZ.out.1,HZ.out.2.1,HH.out.2.2.2.1,HZ.out.2.2.1,HZ.out.2.2.2⟩
end
end Go.Proofs.YtnlbchmfcebeeaaGreat
