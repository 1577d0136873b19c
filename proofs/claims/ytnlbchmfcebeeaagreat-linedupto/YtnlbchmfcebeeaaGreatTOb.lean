import Derived.Test.YtnlbchmfcebeeaaGreatTOa
set_option maxHeartbeats 12800000
set_option maxRecDepth 100000
namespace Go.Proofs.YtnlbchmfcebeeaaGreat
open Go.Proofs.Tryz Ch
open Go.RowKit
theorem AK : (prog.info? 26).map (fun i=>(i.zero,i.size,i.bytes)) = some (some (.agg cf),6,72):=by kernel_rfl
theorem B_ (a : As) : ∀ u ∈ dp a,u.oneCell' = true:=by
 intro u hu;simp only [dp,List.mem_cons,List.not_mem_nil,or_false] at hu
 rcases hu with rfl | rfl | rfl | rfl | rfl | rfl <;> rfl
theorem u2 {P : Program} {o : Oper} {a : Act} {w : World} {K : Act -> World -> Prop} {Q : Exit -> Act -> World -> Prop} (s x : Operand) (t : TypeId) (hop : o.op = Op.call { callee:=Callee.builtin Builtin.append,args:=#[s,x],argTypes:=#[t,t] })
 (base : Nat) (e : TypeId) (i : TypeInfo) (z : Value) (size bytes : Nat) (h1 : P.underlying t = some (.slice e)) (h2 : P.info? e = some i) (h3 : i.zero = some z) (h4 : i.size = size) (h5 : i.bytes = bytes) (h6 : z.cells.size = size) (h7 : 0 < size)
 (v : Value) (n : Nat) (xs : List Value) (hs : a.eval s = v) (hown : w.ownsRow base e size v n xs)
 (ad : Addr) (m c : Nat) (news : List Value) (hx : a.eval x = .slice (some ad) m c) (hn : news.length = m * size) (hc : ∀ j u,news[j]? = some u -> w.cell? (ad.add j) = some u) (h1c : ∀ u ∈ news,u.oneCell' = true)
 (hm1 : 0 < m) (b1 : n + m <= maxLen) (b2 : (n + m) * bytes <= 140737488355328) (hbase : base <= w.heap.size)
 (hK : ∀ g cap w',w'.ownsRow base e size (.slice (some ⟨g,0,none⟩) (n + m) cap) (n + m) (xs ++ news) -> w.grownBy w' v.ownBlock -> (v.ownBlock = some g \/ w.heap.size <= g) -> K (a.put o.dst (.slice (some ⟨g,0,none⟩) (n + m) cap)) w') : o.wp P a w K Q:=by
 obtain ⟨g,cap,w',hrun,r1,r2,r3⟩:=oY (P:=P) w base t o.type e i z size bytes h1 h2 h3 h4 h5 h6 h7 v n xs hown ad m c news hn hc h1c hm1 b1 b2 hbase;unfold Oper.wp;simp [execOp,hop,resolve,invoke,builtin,hs,hx,hrun,Result.andThen];exact hK g cap w' r1 r2 r3
section
variable {w w8 : World} {p : Lp} {t : ByteArray} {L : Ln} {av Ed : Value}
theorem dU.NY (h : dU w p t L av) : p.sb ≠ p.wb /\ p.qb ≠ p.wb /\ p.lb ≠ p.wb /\ p.pb ≠ p.wb:=by
 have f : ∀ {b : Nat} {c : Array Value} {e : TypeId},w.heap[b]? = some (.cells c e (0,0)) -> e ≠ 71 -> b ≠ p.wb:=by
  intro b c e hb he x;rw [x,h.blk] at hb;simp only [Option.some.injEq,Obj.cells.injEq] at hb;exact he hb.2.1.symm
 exact ⟨f h.wH (by decide),f h.ask (by decide),f h.yM (by decide),f h.tY (by decide)⟩
theorem dU.snoc (h : dU w p t L av) {b : As} (KG : Kp (fun k=>av.ownBlock = some k) w w8) (o8 : w8.ownsRow 0 26 6 Ed (L.all.length + 1) (ml L.all ++ dp b)) : dU (w8.setCell ⟨p.wb,1,none⟩ Ed) p t { L with all:=L.all ++ [b] } Ed:=by
 have tF:=KG.at_ h.blk (own_ne h.row h.blk (by decide));have KS : Kp (fun k=>k = p.wb) w8 (w8.setCell ⟨p.wb,1,none⟩ Ed):=(Kp.refl (fun k=>k = p.wb) w8).setCell (p:=⟨p.wb,1,none⟩) (fun _=>rfl) _;have hne:=own_ne o8 tF (by decide);obtain ⟨n1,n2,n3,n4⟩:=h.NY;refine ⟨?_,?_,KS.at_ (KG.at_ h.wH (own_ne h.row h.wH (by decide))) n1,KS.at_ (KG.at_ h.ask (own_ne h.row h.ask (by decide))) n2,KS.at_ (KG.at_ h.yM (own_ne h.row h.yM (by decide))) n3,KS.at_ (KG.at_ h.tY (own_ne h.row h.tY (by decide))) n4,h.ne⟩
 ·rw [ah _ tF];rfl
 have:=KS.owns o8 (fun k e x=>hne (by rw [<- x];exact e));rw [List.length_append,List.length_singleton,show ml (L.all ++ [b]) = ml L.all ++ dp b by simp [ml]];exact this
theorem dU.GU (h : dU w p t L av) (g : ByteArray) : dU (w.setCell ⟨p.wb,2,none⟩ (.string g)) p t { L with log:=g } av:=by
 have KS : Kp (fun k=>k = p.wb) w (w.setCell ⟨p.wb,2,none⟩ (.string g)):=(Kp.refl (fun k=>k = p.wb) w).setCell (p:=⟨p.wb,2,none⟩) (fun _=>rfl) _;have hne:=own_ne h.row h.blk (by decide);obtain ⟨n1,n2,n3,n4⟩:=h.NY;refine ⟨?_,KS.owns h.row (fun k e x=>hne (by rw [<- x];exact e)),KS.at_ h.wH n1,KS.at_ h.ask n2,KS.at_ h.yM n3,KS.at_ h.tY n4,h.ne⟩;rw [ah _ h.blk];rfl
theorem dU.at_ (h : dU w p t L av) {g cap : Nat} (e : av = .slice (some ⟨g,0,none⟩) L.all.length cap) {k : Nat} {a : As} (hk : L.all[k]? = some a) : ∀ j u,(dp a)[j]? = some u -> w.cell? ⟨g,k * 6 + j,none⟩ = some u:=by
 intro j u hj;have hr:=h.row;rw [e] at hr;have hlt:=(List.getElem?_eq_some_iff.1 hk).1;have Jk : j < 6:=(List.getElem?_eq_some_iff.1 hj).1;have hc:=hr.cellAt (k * 6 + j) (by omega);rw [hc];exact (fH dp 6 L.all k a j (fun a _=>Ji a) hk Jk).trans hj
end
section
variable (w : World) {p : Lp} {t : ByteArray} {L : Ln} {av : Value}
theorem DQ (h : dU w p t L av) {a b : As} {o : ByteArray} (hl : L.all[L.all.length - 1]? = some a) (hal : L.all.length <= 1000000000000) (lR : L.log.size + o.size <= 100000000000000000)
 (EW : ∀ W,Hid (Calls prog 48 #[.string t,.agg (bq a)] W fun x w'=>x = .returned (.tuple #[.agg (bq b),.string o,.int .i64 0]) /\ Kp (fun _=>False) W w')) :
 Calls prog 87 #[.pointer (some ⟨p.wb,0,none⟩),.agg (aZ { b8 with dT:=(L.all.length : Int),text:=o })] w fun x w'=>x = .returned (.bool true) /\ sG w w' p t av { L with all:=L.all ++ [b],log:=L.log ++ o }:=by
 obtain ⟨da,j5,dV⟩:=jS;obtain ⟨i0,hi0,hz0,hz1,hz2⟩:=info_parts AK
 have hpos : 0 < L.all.length:=by have:=(List.getElem?_eq_some_iff.1 hl).1;omega
 obtain ⟨g,cap,mo⟩:=h.rowAt hpos;subst mo;have hlow:=h.low;have K1 : Kp (fun _=>False) w (w.alloc (.cells (aZ { b8 with dT:=(L.all.length : Int),text:=o }) 64)):=(Kp.refl _ _).alloc _;have hn1:=heap_alloc_new w (.cells (aZ { b8 with dT:=(L.all.length : Int),text:=o }) 64);have h1:=h.au K1;have QR:=hid EW;clear h EW;generalize kB : aZ { b8 with dT:=(L.all.length : Int),text:=o } = RP at *;have ij:=hid kB;clear kB
 go_enter func87,ntmps87
 go_upto_region 1 with (fail)
 have hsz1 : w.heap.size < (w.alloc (.cells RP 64)).heap.size:=lt_of_block hn1;generalize w.alloc (.cells RP 64) = w1 at *;have x0 : w1.cell? ⟨p.wb,0,none⟩ = some (.string t):=h1.cell 0;have x1 : w1.cell? ⟨p.wb,1,none⟩ = some (.slice (some ⟨g,0,none⟩) L.all.length cap):=h1.cell 1
 have xc : ∀ j u,(dp a)[j]? = some u -> w1.cell? ⟨g,((L.all.length : Int) - 1).toNat * 6 + j,none⟩ = some u:=by
  rw [show ((L.all.length : Int) - 1).toNat = L.all.length - 1 by omega];exact h1.at_ rfl hl
 go_upto_region 2 with (fail)
 have h0l : (1 : Int) <= (L.all.length : Int):=by omega
 have Pn : ¬ (L.all.length : Int) <= (L.all.length : Int) - 1:=by omega
 have sL : (prog.info? 26).map (·.size) = some (dp a).length:=bo
 go_cut [6,7,8] from 15 to 30 (fun q e f wx=>∃ fb,q = .pointer (some ⟨fb,0,none⟩) /\ e = .string o /\ f = .int .i64 0 /\ wx.heap[fb]? = some (.cells (bq b) 26 (0,0)) /\ Kp (fun _=>False) w1 wx /\ w1.heap.size <= fb)
 case first =>
  have hS0 : w1.drew.cell? ⟨p.wb,0,none⟩ = some (.string t) /\ w1.drew.cell? ⟨p.wb,1,none⟩ = some (.slice (some ⟨g,0,none⟩) L.all.length cap) /\ (∀ j u,(dp a)[j]? = some u -> w1.drew.cell? ⟨g,((L.all.length : Int) - 1).toNat * 6 + j,none⟩ = some u):=⟨x0,x1,xc⟩
  have jF : Kp (fun _=>False) w1 w1.drew:=(Kp.refl _ _).drewN 1;refine aB (fun w'=>w'.cell? ⟨p.wb,0,none⟩ = some (.string t) /\ w'.cell? ⟨p.wb,1,none⟩ = some (.slice (some ⟨g,0,none⟩) L.all.length cap) /\ (∀ j u,(dp a)[j]? = some u -> w'.cell? ⟨g,((L.all.length : Int) - 1).toNat * 6 + j,none⟩ = some u)) (by kernel_rfl) ?_;refine tj 0 16 (.pointer (some ⟨p.wb,0,none⟩)) hS0 ?_;refine tj 1 17 (.pointer (some ⟨p.wb,0,none⟩)) hS0 ?_;refine tj 2 18 (.pointer (some ⟨p.wb,0,none⟩)) hS0 ?_;refine tl 3 19 (.string t) rfl (fun w' hS=>by simp [execOp,Act.eval,go_sem,hS.1]) hS0 ?_;refine tj 4 20 (.pointer (some ⟨p.wb,0,none⟩)) hS0 ?_;refine tj 5 21 (.pointer (some ⟨p.wb,0,none⟩)) hS0 ?_;refine tj 6 22 (.pointer (some ⟨p.wb,1,none⟩)) hS0 ?_;refine tl 7 23 (.slice (some ⟨g,0,none⟩) L.all.length cap) rfl (fun w' hS=>by simp [execOp,Act.eval,go_sem,hS.2.1]) hS0 ?_;refine tj 8 24 (.int .i64 ((L.all.length : Int) - 1)) hS0 ?_;refine tl 9 25 (.pointer (some ⟨g,((L.all.length : Int) - 1).toNat * 6,none⟩)) rfl (fun w' _=>by simp [execOp,Act.eval,go_sem,h0l,Pn]) hS0 ?_;refine tl 10 26 (.agg (bq a)) rfl (fun w' hS=>cr 26 (.tmp 25) rfl g (((L.all.length : Int) - 1).toNat * 6) rfl (dp a) da hS.2.2 j5 dV sL) hS0 ?_
  have bP : ∀ W : World,Kp (fun _=>False) w1 W -> W.cell? ⟨p.wb,0,none⟩ = some (.string t) /\ W.cell? ⟨p.wb,1,none⟩ = some (.slice (some ⟨g,0,none⟩) L.all.length cap) /\ (∀ j u,(dp a)[j]? = some u -> W.cell? ⟨g,((L.all.length : Int) - 1).toNat * 6 + j,none⟩ = some u) :=
   fun W K=>⟨K.cell0 x0,K.cell0 x1,fun j u hj=>K.cell0 (xc j u hj)⟩
  refine iJ 11 16 (by kernel_rfl) rfl rfl rfl rfl ?_ ?_
  ·refine bD (some 27) rfl 48 #[.string t,.agg (bq a)] (by simp [execOp,Act.eval,go_sem]) _ (fun w'=>Kp (fun _=>False) w1.drew w') (QR.out w1.drew).out ?_
   intro w5 K5;have KQ:=jF.trans K5;have j4:=heap_alloc_new w5 (.cells cf 26);refine ⟨bP _ KQ,?_⟩;refine tm 12 15 (.tuple #[.agg (bq b),.string o,.int .i64 0]) rfl (fun w' _=>by simp [execOp,Act.eval,Act.put,go_sem]) (bP _ KQ) ?_;refine tm 13 28 (.agg (bq b)) rfl (fun w' _=>by simp [execOp,Act.eval,Act.put,go_sem]) (bP _ KQ) ?_;refine tm 14 29 (.string o) rfl (fun w' _=>by simp [execOp,Act.eval,Act.put,go_sem]) (bP _ KQ) ?_;refine tm 15 30 (.int .i64 0) rfl (fun w' _=>by simp [execOp,Act.eval,Act.put,go_sem]) (bP _ KQ) ?_;refine dO 16 ?_;refine cP (some 6) rfl (.pointer (some ⟨w5.heap.size,0,none⟩)) (w5.alloc (.cells cf 26)) (by simp [execOp,go_sem]) ?_;have K6:=KQ.alloc (.cells cf 26);have hsz:=KQ.size;have K7:=K6.setRow (g:=w5.heap.size) (fun x=>by omega) (bq b);refine ⟨bP _ K6,?_⟩;refine bE 17 (by kernel_rfl) rfl rfl 26 (.tmp 6) (.tmp 28) rfl rfl w5.heap.size (bq b) (by simp [Act.eval,Act.put]) (by simp [Act.eval,Act.put]) 26 cf j4 bo rfl (fA _) (bP _ K7) ?_;refine tm 18 7 (.string o) rfl (fun w' _=>by simp [execOp,Act.eval,Act.put,go_sem]) (bP _ K7) ?_;refine tm 19 8 (.int .i64 0) rfl (fun w' _=>by simp [execOp,Act.eval,Act.put,go_sem]) (bP _ K7) ?_;refine wpAnyH_done (by kernel_rfl) (NoPanic.normal ?_) _;simp only [Act.put,pA,pB,pC]
   go_wp2_with fail
   go_meet
   exact ⟨w5.heap.size,rfl,rfl,rfl,setRow_heap _ _ _ _ _ _ j4,K7,hsz⟩
  refine cP (some 6) rfl (.pointer (some ⟨w1.heap.size,0,none⟩)) (w1.drew.alloc (.cells cf 26)) (by simp [execOp,go_sem]) ?_;have gB:=heap_alloc_new w1.drew (.cells cf 26);have K4:=jF.alloc (.cells cf 26);refine ⟨bP _ K4,?_⟩;refine dO 11 ?_;simp only [Act.put,pA,pB,pC];refine bD (some 27) rfl 48 #[.string t,.agg (bq a)] (by simp [execOp,Act.eval,go_sem]) _ (fun w'=>Kp (fun _=>False) (w1.drew.alloc (.cells cf 26)) w') (QR.out _).out ?_;intro w5 K5;have KQ:=K4.trans K5;have j4 : w5.heap[w1.heap.size]? = some (.cells cf 26 (0,0)):=K5.at_ (k:=w1.heap.size) (by exact gB) (fun x=>x);have K7:=KQ.setRow (g:=w1.heap.size) (fun x=>by omega) (bq b);refine ⟨bP _ KQ,?_⟩;refine tm 12 15 (.tuple #[.agg (bq b),.string o,.int .i64 0]) rfl (fun w' _=>by simp [execOp,Act.eval,Act.put,go_sem]) (bP _ KQ) ?_;refine tm 13 28 (.agg (bq b)) rfl (fun w' _=>by simp [execOp,Act.eval,Act.put,go_sem]) (bP _ KQ) ?_;refine tm 14 29 (.string o) rfl (fun w' _=>by simp [execOp,Act.eval,Act.put,go_sem]) (bP _ KQ) ?_;refine tm 15 30 (.int .i64 0) rfl (fun w' _=>by simp [execOp,Act.eval,Act.put,go_sem]) (bP _ KQ) ?_;refine bE 17 (by kernel_rfl) rfl rfl 26 (.tmp 6) (.tmp 28) rfl rfl w1.heap.size (bq b) (by simp [Act.eval,Act.put]) (by simp [Act.eval,Act.put]) 26 cf j4 bo rfl (fA _) (bP _ K7) ?_;refine tm 18 7 (.string o) rfl (fun w' _=>by simp [execOp,Act.eval,Act.put,go_sem]) (bP _ K7) ?_;refine tm 19 8 (.int .i64 0) rfl (fun w' _=>by simp [execOp,Act.eval,Act.put,go_sem]) (bP _ K7) ?_;refine wpAnyH_done (by kernel_rfl) (NoPanic.normal ?_) _;simp only [Act.put,pA,pB,pC]
  go_wp2_with fail
  go_meet
  exact ⟨w1.heap.size,rfl,rfl,rfl,setRow_heap _ _ _ _ _ _ j4,K7,Nat.le_refl _⟩
 case rest =>
  obtain ⟨fb,rfl,rfl,rfl,vU,KC,QS⟩:=hcut;have hW:=h1.au KC;have SW:=K1.trans KC;have Ht:=KC.at_ hn1 (fun x=>x)
  have hfl : ∀ k,jb p (.slice (some ⟨g,0,none⟩) L.all.length cap) k -> k < fb:=fun k hk=>by have:=hlow k hk;omega
  clear KC x0 x1 xc h1 QR;have hnm : (some (⟨g,0,none⟩ : Addr)) = some ⟨g,0,none⟩:=rfl;generalize hao : (some (⟨g,0,none⟩ : Addr)) = ao at *
  obtain ⟨mm,hmm⟩ : ∃ mm,mm = L.all.length:=⟨_,rfl⟩
  rw [<- hmm] at hW hfl
  go_upto_region 3 with (fail)
  have hS0 : wc.drew.heap[fb]? = some (.cells (bq b) 26 (0,0)):=vU;refine aB (fun w'=>w'.heap[fb]? = some (.cells (bq b) 26 (0,0))) (by kernel_rfl) ?_;refine tj 0 31 (.pointer (some ⟨p.wb,0,none⟩)) hS0 ?_;refine tj 1 32 (.pointer (some ⟨p.wb,0,none⟩)) hS0 ?_;refine tj 2 33 (.pointer (some ⟨p.wb,0,none⟩)) hS0 ?_;refine tj 3 34 (.pointer (some ⟨p.wb,1,none⟩)) hS0 ?_;refine tl 5 36 (.agg (bq b)) rfl (fun w' hS=>aU 26 (.tmp 6) rfl fb rfl 26 (bq b) (0,0) da hS j5 dV bo) hS0 ?_;have KA : Kp (fun _=>False) wc.drew (wc.drew.alloc (.cells (bq b) 26)):=(Kp.refl _ _).alloc _;have jF : Kp (fun _=>False) wc wc.drew:=(Kp.refl _ _).drewN 1;have hA:=hW.au (jF.trans KA);have hfA:=KA.at_ hS0 (fun x=>x);have x1 : wc.drew.cell? ⟨p.wb,1,none⟩ = some (.slice ao mm cap):=hW.cell 1;have y1 : (wc.alloc (.cells (bq b) 26)).drew.cell? ⟨p.wb,1,none⟩ = some (.slice ao mm cap):=hA.cell 1
  refine Ey 4 6 35 37 (.slice ao mm cap) (.slice (some ⟨wc.drew.heap.size,0,none⟩) 1 1) (wc.drew.alloc (.cells (bq b) 26)) (by decide) (by kernel_rfl) (by kernel_rfl) (by kernel_rfl) rfl rfl rfl rfl rfl rfl (by simp [execOp,Act.eval,go_sem,x1])
   (cB 67 (.tmp 36) rfl 26 i0 (.agg cf) underlying67 hi0 hz0 (by omega) (by omega) (bq b) rfl (by rw [hz1];rfl))
   (cB 67 (.tmp 36) rfl 26 i0 (.agg cf) underlying67 hi0 hz0 (by omega) (by omega) (bq b) rfl (by rw [hz1];rfl))
   (by simp [execOp,Act.eval,go_sem,y1]) hS0 hfA ?_
  simp only [Act.put,pA,pB,pC];have kM:=heap_alloc_new wc.drew (.cells (bq b) 26)
  have hc6 : ∀ j u,(dp b)[j]? = some u -> (wc.drew.alloc (.cells (bq b) 26)).cell? ((⟨wc.drew.heap.size,0,none⟩ : Addr).add j) = some u:=by
   intro j u hj;rw [jU,World.cell?,kM];show (bq b)[j]? = some u;rw [<- BY,List.getElem?_toArray];exact hj
  refine dO 7 ?_;refine u2 (.tmp 35) (.tmp 37) 67 rfl 0 26 i0 (.agg cf) 6 72 underlying67 hi0 hz0 hz1 hz2 rfl (by decide) _ _ _ rfl hA.row ⟨wc.drew.heap.size,0,none⟩ 1 1 (dp b) rfl rfl hc6 (B_ _) (by decide) ?c3 ?c4 (Nat.zero_le _) ?_
  case c3=>unfold maxLen;omega
  case c4=>omega
  intro gg cc w8 o8 g8 n8;have KG : Kp (fun k=>(Value.slice ao mm cap).ownBlock = some k) (wc.drew.alloc (.cells (bq b) 26)) w8:=(Kp.refl _ _).grown g8 (fun k hk _=>hk);have hrw : (Value.slice ao mm cap).ownBlock ≠ some p.wb:=own_ne hA.row hA.blk (by decide);have tF:=KG.at_ hA.blk hrw;have Bw : w8.heap[fb]? = some (.cells (bq b) 26 (0,0)):=KG.at_ hfA (fun e=>by have:=hfl _ (.inr (.inr (.inr (.inr (.inr e)))));omega);refine ⟨Bw,?_⟩;refine tm 8 39 (.pointer (some ⟨p.wb,0,none⟩)) rfl (fun w' _=>by simp [execOp,Act.eval,go_sem,Act.put]) Bw ?_;refine tm 9 40 (.pointer (some ⟨p.wb,1,none⟩)) rfl (fun w' _=>by simp [execOp,Act.eval,go_sem,Act.put]) Bw ?_
  have JF : w8.cell? ⟨p.wb,1,none⟩ = some (.slice ao mm cap):=by rw [World.cell?,tF];rfl
  have NZ : w8.frozen? ⟨p.wb,1,none⟩ = false:=by simp [World.frozen?,tF]
  have KS : Kp (fun k=>k = p.wb) w8 (w8.setCell ⟨p.wb,1,none⟩ (.slice (some ⟨gg,0,none⟩) (L.all.length + 1) cc)):=(Kp.refl (fun k=>k = p.wb) w8).setCell (p:=⟨p.wb,1,none⟩) (fun _=>rfl) _;have QT : (w8.setCell ⟨p.wb,1,none⟩ (.slice (some ⟨gg,0,none⟩) (L.all.length + 1) cc)).heap[fb]? = some (.cells (bq b) 26 (0,0)):=KS.at_ Bw (fun e=>by have:=hfl _ (.inl rfl);omega);have KR : Kp (jb p (.slice ao mm cap)) wc w8:=((jF.trans KA).mono (fun _ _ x=>x.elim)).trans' KG (fun i _ x=>.inr (.inr (.inr (.inr (.inr x)))));have K9 : Kp (jb p (.slice ao mm cap)) wc (w8.setCell ⟨p.wb,1,none⟩ (.slice (some ⟨gg,0,none⟩) (L.all.length + 1) cc)):=KR.trans' KS (fun i _ x=>.inl x);have h9 : dU (w8.setCell ⟨p.wb,1,none⟩ (.slice (some ⟨gg,0,none⟩) (L.all.length + 1) cc)) p t { L with all:=L.all ++ [b] } (.slice (some ⟨gg,0,none⟩) (L.all.length + 1) cc):=hA.snoc KG o8
  have n9 : ∀ k,(Value.slice (some ⟨gg,0,none⟩) (L.all.length + 1) cc).ownBlock = some k -> (Value.slice ao mm cap).ownBlock = some k \/ wc.heap.size <= k:=by
   intro k e
   obtain rfl : gg = k:=by simpa [Value.ownBlock] using e
   exact n8.imp id (Nat.le_trans (jF.trans KA).size)
  refine dO 10 ?_;unfold Oper.wp;simp only [execOp,Act.eval,Act.put];simp [go_sem,JF,NZ];refine ⟨QT,?_⟩;refine wpAnyH_done (by kernel_rfl) (NoPanic.normal ?_) _;clear hS0 KA jF hA hfA x1 y1 kM hc6 o8 g8 n8 KG hrw tF Bw JF NZ KS KR;generalize w8.setCell ⟨p.wb,1,none⟩ (.slice (some ⟨gg,0,none⟩) (L.all.length + 1) cc) = w9 at *;have Ke : w9.heap[w.heap.size]? = some (.cells RP 64 (0,0)):=K9.at_ Ht (fun x=>by subst hmm;subst hao;have:=hlow _ x;omega);have y2 : w9.cell? ⟨p.wb,2,none⟩ = some (.string L.log):=h9.cell 2;have f2:=h9.free 2
  have hadd:=fun w'=>run_string_add_sum (P:=prog) w' L.log o (by omega)
  have h10:=h9.GU (L.log ++ o);have Bx : Kp (jb p (.slice ao mm cap)) wc (w9.setCell ⟨p.wb,2,none⟩ (.string (L.log ++ o))):=K9.setCell (p:=⟨p.wb,2,none⟩) (fun _=>.inl rfl) _
  have hwb : w.heap.size ≠ p.wb:=by have:=hlow p.wb (.inl rfl);omega
  have sK : (w9.setCell ⟨p.wb,2,none⟩ (.string (L.log ++ o))).heap[w.heap.size]? = some (.cells RP 64 (0,0)):=by
   rw [Below.heap_setCell _ _ _ _ hwb];exact Ke
  have HQ:=hid (sG.trans (p:=p) (SW.mono (fun _ _ x=>x.elim)) (fun _ e=>.inl e) ⟨_,h10,n9,Bx⟩);clear h9 n9 K9 h10 Bx hW hfl Ht vU SW;generalize hLO : L.log ++ o = LO at *;have NS:=hid hLO;clear hLO
  go_upto_region 5 with (fail)
  generalize w9.setCell ⟨p.wb,2,none⟩ (.string LO) = D9 at *
  have r0 : D9.cell? ⟨w.heap.size,0,none⟩ = some (.int .i64 0):=by rw [World.cell?,sK,<- ij.out];rfl
  have r1 : D9.cell? ⟨w.heap.size,1,none⟩ = some (.int .i64 L.all.length):=by rw [World.cell?,sK,<- ij.out];rfl
  have r2 : D9.cell? ⟨w.heap.size,2,none⟩ = some (.int .i64 0):=by rw [World.cell?,sK,<- ij.out];rfl
  have r5 : D9.cell? ⟨w.heap.size,10,none⟩ = some (.string o):=by rw [World.cell?,sK,<- ij.out];rfl
  clear sK Ke y2 f2 hadd;go_wp2;go_ret;rw [hmm] at HQ;exact ⟨rfl,by rw [NS.out];exact HQ.out⟩
end
end Go.Proofs.YtnlbchmfcebeeaaGreat
