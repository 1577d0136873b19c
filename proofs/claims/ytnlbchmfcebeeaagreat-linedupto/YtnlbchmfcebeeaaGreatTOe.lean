import Derived.Test.YtnlbchmfcebeeaaGreatTOd
set_option maxHeartbeats 12800000
set_option maxRecDepth 100000
namespace Go.Proofs.YtnlbchmfcebeeaaGreat
open Go.Proofs.Tryz Ch
open Go.RowKit
namespace Ch
def s9 (s : As) (o : ByteArray) (n : Nat) : Ln:=⟨[s],o,List.replicate n false,List.replicate n ⟨0,⟨#[]⟩,0⟩,List.replicate n 0,List.replicate n 0⟩
end Ch
theorem pt {α : Type} (f : α -> List Value) (a : α) (k n : Nat) (hl : (f a).length = k) (hk : 0 < k) : madeCells (f a).toArray (n * k) = ((List.replicate n a).flatMap f).toArray:=by
 have ha : ∀ b ∈ List.replicate n a,(f b).length = k:=by
  intro b hb;rw [List.eq_of_mem_replicate hb];exact hl
 have hf:=lF f k (List.replicate n a) ha;rw [List.length_replicate] at hf;apply Array.ext_getElem?;intro i;unfold madeCells
 have e1 : ((List.replicate n a).flatMap f).toArray[i]? = ((List.replicate n a).flatMap f)[i]?:=by simp
 rw [e1]
 by_cases hi : i < n * k
 ·have h1 : i / k < n:=(Nat.div_lt_iff_lt_mul hk).2 hi
  have h2 : i % k < k:=Nat.mod_lt _ hk
  have h3 : i % k < (f a).length:=by omega
  have:=fH f k (List.replicate n a) (i / k) a (i % k) ha (by rw [List.getElem?_replicate,if_pos h1]) h2;rw [Nat.div_add_mod'] at this;rw [this,List.getElem?_eq_getElem h3];simp [hi,hl,h2]
 rw [List.getElem?_eq_none (by rw [hf];omega),Array.getElem?_eq_none (by simp;omega)]
theorem yQ {α : Type} (f : α -> Value) (l : List α) : l.flatMap (fun b=>[f b]) = l.map f:=by
 induction l with
 | nil=>rfl
 | cons a l ih=>simp [List.flatMap_cons,ih]
theorem Jm (n : Nat) : madeCells #[Value.bool false] n = (iD (List.replicate n false)).toArray:=by
 have:=pt (fun b=>[Value.bool b]) false 1 n rfl (by decide);rw [Nat.mul_one] at this;rw [show #[Value.bool false] = [Value.bool false].toArray from rfl,this];rw [yQ];rfl
theorem Jn (n : Nat) : madeCells #[Value.int .i64 0] n = (bK (List.replicate n 0)).toArray:=by
 have:=pt (fun b=>[Value.int .i64 b]) 0 1 n rfl (by decide);rw [Nat.mul_one] at this;rw [show #[Value.int .i64 0] = [Value.int .i64 0].toArray from rfl,this];rw [yQ];rfl
theorem Jo (n : Nat) : madeCells #[Value.int .i64 0,.string ⟨#[]⟩,.int .i64 0] (n * 3) = (df (List.replicate n ⟨0,⟨#[]⟩,0⟩)).toArray:=pt pR ⟨0,⟨#[]⟩,0⟩ 3 n rfl (by decide)
theorem LF : (prog.info? 4).map (fun i=>(i.zero,i.size,i.bytes)) = some (some (.bool false),1,1):=by kernel_rfl
theorem LG : (prog.info? 79).map (fun i=>(i.zero,i.size,i.bytes)) = some (some (.agg #[.int .i64 0,.string ⟨#[]⟩,.int .i64 0]),3,32):=by kernel_rfl
theorem N6 (W : World) {n : Nat} (h : n <= 6) : (Instr.makeSlice 68 (.int .i64 (n : Int)) (.int .i64 (n : Int))).run prog W = .ok (.slice (some ⟨W.heap.size,0,none⟩) n n) (W.alloc (.cells (iD (List.replicate n false)).toArray 4)):=by
 obtain ⟨i0,hi0,hz0,hz1,hz2⟩:=info_parts LF;have:=run_makeSlice (P:=prog) W 68 4 i0 (.bool false) underlying68 hi0 hz0 .i64 .i64 (n : Int) (n : Int) (by omega) (Int.le_refl _) (by rw [hz1];omega) (by rw [hz2];omega) (by omega);rw [this,hz1];simp only [Int.toNat_natCast,Nat.mul_one];rw [<- Jm n];rfl
theorem N7 (W : World) {n : Nat} (h : n <= 6) : (Instr.makeSlice 38 (.int .i64 (n : Int)) (.int .i64 (n : Int))).run prog W = .ok (.slice (some ⟨W.heap.size,0,none⟩) n n) (W.alloc (.cells (bK (List.replicate n 0)).toArray 3)):=by
 obtain ⟨i0,hi0,hz0,hz1,hz2⟩:=info_parts nJ;have:=run_makeSlice (P:=prog) W 38 3 i0 (.int .i64 0) underlying38 hi0 hz0 .i64 .i64 (n : Int) (n : Int) (by omega) (Int.le_refl _) (by rw [hz1];omega) (by rw [hz2];omega) (by omega);rw [this,hz1];simp only [Int.toNat_natCast,Nat.mul_one];rw [<- Jn n];rfl
theorem N8 (W : World) {n : Nat} (h : n <= 6) : (Instr.makeSlice 69 (.int .i64 (n : Int)) (.int .i64 (n : Int))).run prog W = .ok (.slice (some ⟨W.heap.size,0,none⟩) n n) (W.alloc (.cells (df (List.replicate n ⟨0,⟨#[]⟩,0⟩)).toArray 79)):=by
 obtain ⟨i0,hi0,hz0,hz1,hz2⟩:=info_parts LG;have:=run_makeSlice (P:=prog) W 69 79 i0 (.agg #[.int .i64 0,.string ⟨#[]⟩,.int .i64 0]) underlying69 hi0 hz0 .i64 .i64 (n : Int) (n : Int) (by omega) (Int.le_refl _) (by rw [hz1];omega) (by rw [hz2];omega) (by omega);rw [this,hz1];simp only [Int.toNat_natCast];rw [<- Jo n];rfl
def DV (w w' : World) (t : ByteArray) (n : Nat) (xv wv : Value) : Prop :=
 ((Ch.mstart (Ch.read t).2.2).2.2 ≠ 0 -> xv = .pointer none) /\ ((Ch.mstart (Ch.read t).2.2).2.2 = 0 -> ∃ xb tb pc kv p av,xv = .pointer (some ⟨xb,0,none⟩) /\ wv = .pointer (some ⟨p.wb,0,none⟩) /\ cj w' xb tb 138 pc (Ch.read t).2.2 (gx (Ch.read t).2.2 n) kv /\ dU w' p t (s9 (bC (Ch.read t).2.2.ag (Ch.mstart (Ch.read t).2.2).1) (Ch.mstart (Ch.read t).2.2).2.1 n) av /\ (∀ k,jr xb tb kv k -> w.heap.size <= k) /\ ∀ k,jb p av k -> w.heap.size <= k)
section
variable (w : World)
theorem pw (t : ByteArray) (n : Nat) (h1 : 1 <= n) (h6 : n <= 6) (hrd : (Ch.read t).1 = 0) (he : (Ch.mstart (Ch.read t).2.2).2.2 = 0 \/ (Ch.mstart (Ch.read t).2.2).2.2 = 9) :
 Calls prog 34 #[.string t,.int .i64 (n : Int)] w fun r w'=>∃ xv wv,r = .returned (.tuple #[xv,wv,.bool true]) /\ DV w w' t n xv wv /\ Kp (fun _=>False) w w':=by
 obtain ⟨da,j5,dV⟩:=jS;obtain ⟨i0,hi0,hz0,hz1,hz2⟩:=info_parts AK;have ES:=hid (rN w t)
 have EN : ∀ W,Hid (Calls prog 58 #[.string t,.int .i64 (n : Int)] W fun r w'=>∃ v,r = .returned (.tuple #[v,.int .i64 (kK t n)]) /\ DI W w' t n v /\ Kp (fun _=>False) W w'):=fun W=>hid (GL W t n)
 have hne : kK t n = (Ch.mstart (Ch.read t).2.2).2.2:=by
  unfold kK;rw [hrd,if_neg (by simp),if_neg (by omega)]
 have hcs : mM t = if (Ch.mstart (Ch.read t).2.2).2.2 != 0 then (gw,⟨#[]⟩,(Ch.mstart (Ch.read t).2.2).2.2) else (bC (Ch.read t).2.2.ag (Ch.mstart (Ch.read t).2.2).1,(Ch.mstart (Ch.read t).2.2).2.1,0):=by
  unfold mM;rw [hrd,if_neg (by simp)]
 have HQ:=hid (show ∀ W w' v,DI W w' t n v -> ((Ch.mstart (Ch.read t).2.2).2.2 ≠ 0 -> v = .pointer none) /\ ((Ch.mstart (Ch.read t).2.2).2.2 = 0 -> ∃ xb tb pc kv,v = .pointer (some ⟨xb,0,none⟩) /\ cj w' xb tb 138 pc (Ch.read t).2.2 (gx (Ch.read t).2.2 n) kv /\ ∀ k,jr xb tb kv k -> W.heap.size <= k) by
  intro W w' v hq;unfold DI at hq;rw [hne] at hq;refine ⟨hq.1,fun z=>?_⟩;obtain ⟨xb,tb,pc,kv,e1,e2,e3⟩:=hq.2 z
  exact ⟨xb,tb,pc,kv,e1,by simpa using e2,e3⟩)
 have HB:=hid (show ∀ w' xv wv,DV w w' t n xv wv ↔ (((Ch.mstart (Ch.read t).2.2).2.2 ≠ 0 -> xv = .pointer none) /\ ((Ch.mstart (Ch.read t).2.2).2.2 = 0 -> ∃ xb tb pc kv p av,xv = .pointer (some ⟨xb,0,none⟩) /\ wv = .pointer (some ⟨p.wb,0,none⟩) /\ cj w' xb tb 138 pc (Ch.read t).2.2 (gx (Ch.read t).2.2 n) kv /\ dU w' p t (s9 (bC (Ch.read t).2.2.ag (Ch.mstart (Ch.read t).2.2).1) (Ch.mstart (Ch.read t).2.2).2.1 n) av /\ (∀ k,jr xb tb kv k -> w.heap.size <= k) /\ ∀ k,jb p av k -> w.heap.size <= k)) from fun _ _ _=>Iff.rfl);rw [hne] at EN;rw [hcs] at ES;generalize DV w = BQ at *;clear hne hcs hrd;generalize (Ch.read t).2.2 = ol at *;generalize gx ol n = X0 at *;generalize Ch.mstart ol = ms at *;obtain ⟨s0,o0,e0⟩:=ms;simp only at *
 rcases he with rfl | rfl
 ·generalize bC ol.ag s0 = a0 at *
  have Q6:=hid EN;clear EN;simp only [bne_self_eq_false,Bool.false_eq_true,if_false] at ES
  go_enter func34,ntmps34
  go_wp2_with fail
  refine hm ES ?_;rintro y w1 ⟨rfl,K1⟩;have hnb:=heap_alloc_new w1 (.cells cf 26);have hx2:=setRow_heap (w1.alloc (.cells cf 26)) w1.heap.size cf (bq a0) 26 (0,0) hnb;have K2 : Kp (fun _=>False) w1 ((w1.alloc (.cells cf 26)).setRow w1.heap.size (bq a0)):=((Kp.refl _ _).alloc _).setRow (fun x=>by omega) _;have KA:=K1.trans K2;clear ES K1 K2
  go_upto_region 2 with (refine wpList_store_row rfl 26 (.tmp 7) (.tmp 16) rfl w1.heap.size (bq a0) rfl rfl 26 cf hnb bo rfl (fA _) ?_)
  generalize (w1.alloc (.cells cf 26)).setRow w1.heap.size (bq a0) = w2 at *;generalize w1.heap.size = ab at *;have EN:=Q6.out w2;clear hnb
  go_wp2_with fail
  refine hm EN ?_;rintro y w3 ⟨v,rfl,hq,K3⟩;obtain ⟨xb,tb,pc,kv,rfl,tC,S3⟩:=(HQ.out _ _ _ hq).2 (by first | rfl | trivial);have hx3:=K3.at_ hx2 (fun x=>x);have KB:=KA.trans K3;have Vc:=hid (show ∀ k,jr xb tb kv k -> w.heap.size <= k from fun k hk=>Nat.le_trans KA.size (S3 k hk));clear EN hq K3 hx2 KA S3
  have hmb : ∀ W : World,(Instr.makeSlice 68 (.int .i64 (n : Int)) (.int .i64 (n : Int))).run prog W = .ok (.slice (some ⟨W.heap.size,0,none⟩) n n) (W.alloc (.cells (iD (List.replicate n false)).toArray 4)):=fun W=>N6 W h6
  have Wg : ∀ W : World,(Instr.makeSlice 38 (.int .i64 (n : Int)) (.int .i64 (n : Int))).run prog W = .ok (.slice (some ⟨W.heap.size,0,none⟩) n n) (W.alloc (.cells (bK (List.replicate n 0)).toArray 3)):=fun W=>N7 W h6
  have hmr : ∀ W : World,(Instr.makeSlice 69 (.int .i64 (n : Int)) (.int .i64 (n : Int))).run prog W = .ok (.slice (some ⟨W.heap.size,0,none⟩) n n) (W.alloc (.cells (df (List.replicate n ⟨0,⟨#[]⟩,0⟩)).toArray 79)):=fun W=>N8 W h6
  generalize S4 : (iD (List.replicate n false)).toArray = BO at *;generalize S5 : (bK (List.replicate n 0)).toArray = IN at *;generalize pT : (df (List.replicate n (⟨0,⟨#[]⟩,0⟩ : Rq))).toArray = RQ at *;have HC:=hid (ae S4 (ae S5 pT));clear S4 S5 pT;have Vd:=hid (show prog.built 71 [(0,.string t),(1,.slice (some ⟨w3.heap.size,0,none⟩) 1 1),(2,.string o0)] = some #[.string t,.slice (some ⟨w3.heap.size,0,none⟩) 1 1,.string o0,.slice none 0 0,.slice none 0 0,.slice none 0 0,.slice none 0 0] by kernel_rfl);have K4 : Kp (fun _=>False) w3 ((w3.alloc (.cells (bq a0) 26)).alloc (.cells #[.string t,.slice (some ⟨w3.heap.size,0,none⟩) 1 1,.string o0,.slice none 0 0,.slice none 0 0,.slice none 0 0,.slice none 0 0] 71)):=((Kp.refl _ _).alloc _).alloc _
  have hr4 : ((w3.alloc (.cells (bq a0) 26)).alloc (.cells #[.string t,.slice (some ⟨w3.heap.size,0,none⟩) 1 1,.string o0,.slice none 0 0,.slice none 0 0,.slice none 0 0,.slice none 0 0] 71)).heap[w3.heap.size]? = some (.cells (bq a0) 26):=by
   rw [Below.heap_alloc _ _ _ (by simp)];exact heap_alloc_new _ _
  have hl4 : ((w3.alloc (.cells (bq a0) 26)).alloc (.cells #[.string t,.slice (some ⟨w3.heap.size,0,none⟩) 1 1,.string o0,.slice none 0 0,.slice none 0 0,.slice none 0 0,.slice none 0 0] 71)).heap[w3.heap.size + 1]? = some (.cells #[.string t,.slice (some ⟨w3.heap.size,0,none⟩) 1 1,.string o0,.slice none 0 0,.slice none 0 0,.slice none 0 0,.slice none 0 0] 71):=heap_alloc2_new w3 _ _;have HS:=hid (ae tC (ae KB K4));have Wh:=KB.size;clear tC KB K4
  go_upto_region 7 with (fail)
  go_upto_region 8 with (first | refine wpList_load_row rfl 26 (.tmp 7) rfl ab rfl 26 (bq a0) (0,0) da hx3 j5 (by cases da <;> first | rfl | exact absurd dV (by simp [ar])) bo ?_ | refine eJ rfl 67 (.tmp 44) rfl 26 i0 (.agg cf) underlying67 hi0 hz0 (by omega) (by omega) (bq a0) rfl (by rw [hz1];rfl) ?_ | (refine bn rfl 71 #[(0,.tmp 43),(1,.tmp 45),(2,.tmp 46)] rfl #[.string t,.slice (some ⟨w3.heap.size,0,none⟩) 1 1,.string o0,.slice none 0 0,.slice none 0 0,.slice none 0 0,.slice none 0 0] [(0,.string t),(1,.slice (some ⟨w3.heap.size,0,none⟩) 1 1),(2,.string o0)] ?_ Vd.out ?_;rfl))
  generalize (w3.alloc (.cells (bq a0) 26)).alloc (.cells #[.string t,.slice (some ⟨w3.heap.size,0,none⟩) 1 1,.string o0,.slice none 0 0,.slice none 0 0,.slice none 0 0,.slice none 0 0] 71) = w4 at *;generalize w3.heap.size = rb at *;clear hx3
  have Q8:=hid (show ∀ (b : Nat) (c : Array Value) (e : TypeId),w4.heap[b]? = some (.cells c e (0,0)) -> e ≠ 71 -> ¬ b = rb + 1 by
   intro b c e hb he x;rw [x,hl4] at hb;simp only [Option.some.injEq,Obj.cells.injEq] at hb
   exact he hb.2.1.symm)
  have Kh:=Below.heap_alloc w4 (.cells BO 4) (rb + 1) (lt_of_block hl4);have hl5 : (w4.alloc (.cells BO 4)).heap[rb + 1]? = some (.cells #[.string t,.slice (some ⟨rb,0,none⟩) 1 1,.string o0,.slice none 0 0,.slice none 0 0,.slice none 0 0,.slice none 0 0] 71 (0,0)):=Kh.trans hl4
  have y3 : (w4.alloc (.cells BO 4)).cell? ⟨rb + 1,3,none⟩ = some (.slice none 0 0):=by rw [World.cell?,hl5];rfl
  have f3 : (w4.alloc (.cells BO 4)).frozen? ⟨rb + 1,3,none⟩ = false:=by simp [World.frozen?,hl5]
  have hlt3 : rb + 1 < w4.heap.size:=lt_of_block hl4
  have Ee : ((w4.alloc (.cells BO 4)).setCell ⟨rb + 1,3,none⟩ (.slice (some ⟨w4.heap.size,0,none⟩) n n)).heap[rb + 1]? = some (.cells #[.string t,.slice (some ⟨rb,0,none⟩) 1 1,.string o0,.slice (some ⟨w4.heap.size,0,none⟩) n n,.slice none 0 0,.slice none 0 0,.slice none 0 0] 71 (0,0)):=by rw [ah _ hl5];rfl
  have Q_ : Kp (fun k=>k = rb + 1) w4 ((w4.alloc (.cells BO 4)).setCell ⟨rb + 1,3,none⟩ (.slice (some ⟨w4.heap.size,0,none⟩) n n)):=((Kp.refl (fun k=>k = rb + 1) w4).alloc _).setCell (p:=⟨rb + 1,3,none⟩) (fun _=>rfl) _
  have iN : ((w4.alloc (.cells BO 4)).setCell ⟨rb + 1,3,none⟩ (.slice (some ⟨w4.heap.size,0,none⟩) n n)).heap[w4.heap.size]? = some (.cells BO 4 (0,0)):=by
   rw [Below.heap_setCell _ _ _ _ (by show w4.heap.size ≠ rb + 1;omega)];exact heap_alloc_new _ _
  have gb : ((w4.alloc (.cells BO 4)).setCell ⟨rb + 1,3,none⟩ (.slice (some ⟨w4.heap.size,0,none⟩) n n)).heap[rb]? = some (.cells (bq a0) 26 (0,0)):=Q_.at_ hr4 (by show ¬ rb = rb + 1;omega);have Ve:=hid Q_;have LH:=hid (show ¬ w4.heap.size = rb + 1 by omega);have Rc:=hid (show w.heap.size <= w4.heap.size by omega);clear Q_ hlt3 hl4 hl5 Kh hr4
  go_upto_region 9 with (fail)
  clear y3 f3;generalize (w4.alloc (.cells BO 4)).setCell ⟨rb + 1,3,none⟩ (.slice (some ⟨w4.heap.size,0,none⟩) n n) = w5 at *;generalize w4.heap.size = sb at *;have hl4:=Ee;clear Ee;have N9:=iN;clear iN;have th:=Below.heap_alloc w5 (.cells RQ 79) (rb + 1) (lt_of_block hl4);have hl5 : (w5.alloc (.cells RQ 79)).heap[rb + 1]? = some (.cells #[.string t,.slice (some ⟨rb,0,none⟩) 1 1,.string o0,.slice (some ⟨sb,0,none⟩) n n,.slice none 0 0,.slice none 0 0,.slice none 0 0] 71 (0,0)):=th.trans hl4
  have y4 : (w5.alloc (.cells RQ 79)).cell? ⟨rb + 1,4,none⟩ = some (.slice none 0 0):=by rw [World.cell?,hl5];rfl
  have f4 : (w5.alloc (.cells RQ 79)).frozen? ⟨rb + 1,4,none⟩ = false:=by simp [World.frozen?,hl5]
  have MX : rb + 1 < w5.heap.size:=lt_of_block hl4
  have Ee : ((w5.alloc (.cells RQ 79)).setCell ⟨rb + 1,4,none⟩ (.slice (some ⟨w5.heap.size,0,none⟩) n n)).heap[rb + 1]? = some (.cells #[.string t,.slice (some ⟨rb,0,none⟩) 1 1,.string o0,.slice (some ⟨sb,0,none⟩) n n,.slice (some ⟨w5.heap.size,0,none⟩) n n,.slice none 0 0,.slice none 0 0] 71 (0,0)):=by rw [ah _ hl5];rfl
  have Px : Kp (fun k=>k = rb + 1) w5 ((w5.alloc (.cells RQ 79)).setCell ⟨rb + 1,4,none⟩ (.slice (some ⟨w5.heap.size,0,none⟩) n n)):=((Kp.refl (fun k=>k = rb + 1) w5).alloc _).setCell (p:=⟨rb + 1,4,none⟩) (fun _=>rfl) _
  have gB : ((w5.alloc (.cells RQ 79)).setCell ⟨rb + 1,4,none⟩ (.slice (some ⟨w5.heap.size,0,none⟩) n n)).heap[w5.heap.size]? = some (.cells RQ 79 (0,0)):=by
   rw [Below.heap_setCell _ _ _ _ (by show w5.heap.size ≠ rb + 1;omega)];exact heap_alloc_new _ _
  have mw : ((w5.alloc (.cells RQ 79)).setCell ⟨rb + 1,4,none⟩ (.slice (some ⟨w5.heap.size,0,none⟩) n n)).heap[rb]? = some (.cells (bq a0) 26 (0,0)):=Px.at_ gb (by show ¬ rb = rb + 1;omega);have N_ : ((w5.alloc (.cells RQ 79)).setCell ⟨rb + 1,4,none⟩ (.slice (some ⟨w5.heap.size,0,none⟩) n n)).heap[sb]? = some (.cells BO 4 (0,0)):=Px.at_ N9 LH.out;have Vf:=hid Px;have Oc:=hid (show ¬ w5.heap.size = rb + 1 by omega);have Re:=hid (show w.heap.size <= w5.heap.size by omega);clear Px MX hl4 hl5 th gb N9
  go_upto_region 10 with (fail)
  clear y4 f4;generalize (w5.alloc (.cells RQ 79)).setCell ⟨rb + 1,4,none⟩ (.slice (some ⟨w5.heap.size,0,none⟩) n n) = w6 at *;generalize w5.heap.size = qb at *;have hl4:=Ee;clear Ee;have Od:=gB;clear gB;have OS:=Below.heap_alloc w6 (.cells IN 3) (rb + 1) (lt_of_block hl4);have hl5 : (w6.alloc (.cells IN 3)).heap[rb + 1]? = some (.cells #[.string t,.slice (some ⟨rb,0,none⟩) 1 1,.string o0,.slice (some ⟨sb,0,none⟩) n n,.slice (some ⟨qb,0,none⟩) n n,.slice none 0 0,.slice none 0 0] 71 (0,0)):=OS.trans hl4
  have y5 : (w6.alloc (.cells IN 3)).cell? ⟨rb + 1,5,none⟩ = some (.slice none 0 0):=by rw [World.cell?,hl5];rfl
  have f5 : (w6.alloc (.cells IN 3)).frozen? ⟨rb + 1,5,none⟩ = false:=by simp [World.frozen?,hl5]
  have Rf : rb + 1 < w6.heap.size:=lt_of_block hl4
  have Ee : ((w6.alloc (.cells IN 3)).setCell ⟨rb + 1,5,none⟩ (.slice (some ⟨w6.heap.size,0,none⟩) n n)).heap[rb + 1]? = some (.cells #[.string t,.slice (some ⟨rb,0,none⟩) 1 1,.string o0,.slice (some ⟨sb,0,none⟩) n n,.slice (some ⟨qb,0,none⟩) n n,.slice (some ⟨w6.heap.size,0,none⟩) n n,.slice none 0 0] 71 (0,0)):=by rw [ah _ hl5];rfl
  have Oe : Kp (fun k=>k = rb + 1) w6 ((w6.alloc (.cells IN 3)).setCell ⟨rb + 1,5,none⟩ (.slice (some ⟨w6.heap.size,0,none⟩) n n)):=((Kp.refl (fun k=>k = rb + 1) w6).alloc _).setCell (p:=⟨rb + 1,5,none⟩) (fun _=>rfl) _
  have j4 : ((w6.alloc (.cells IN 3)).setCell ⟨rb + 1,5,none⟩ (.slice (some ⟨w6.heap.size,0,none⟩) n n)).heap[w6.heap.size]? = some (.cells IN 3 (0,0)):=by
   rw [Below.heap_setCell _ _ _ _ (by show w6.heap.size ≠ rb + 1;omega)];exact heap_alloc_new _ _
  have Mh : ((w6.alloc (.cells IN 3)).setCell ⟨rb + 1,5,none⟩ (.slice (some ⟨w6.heap.size,0,none⟩) n n)).heap[rb]? = some (.cells (bq a0) 26 (0,0)):=Oe.at_ mw (by show ¬ rb = rb + 1;omega);have Of : ((w6.alloc (.cells IN 3)).setCell ⟨rb + 1,5,none⟩ (.slice (some ⟨w6.heap.size,0,none⟩) n n)).heap[sb]? = some (.cells BO 4 (0,0)):=Oe.at_ N_ LH.out;have Og : ((w6.alloc (.cells IN 3)).setCell ⟨rb + 1,5,none⟩ (.slice (some ⟨w6.heap.size,0,none⟩) n n)).heap[qb]? = some (.cells RQ 79 (0,0)):=Oe.at_ Od Oc.out;have DT:=hid Oe;have Rg:=hid (show ¬ w6.heap.size = rb + 1 by omega);have Rh:=hid (show w.heap.size <= w6.heap.size by omega);clear Oe Rf hl4 hl5 OS mw N_ Od
  go_upto_region 11 with (fail)
  clear y5 f5;generalize (w6.alloc (.cells IN 3)).setCell ⟨rb + 1,5,none⟩ (.slice (some ⟨w6.heap.size,0,none⟩) n n) = w7 at *;generalize w6.heap.size = lb at *;have hl4:=Ee;clear Ee;have LI:=j4;clear j4;have My:=Below.heap_alloc w7 (.cells IN 3) (rb + 1) (lt_of_block hl4);have hl5 : (w7.alloc (.cells IN 3)).heap[rb + 1]? = some (.cells #[.string t,.slice (some ⟨rb,0,none⟩) 1 1,.string o0,.slice (some ⟨sb,0,none⟩) n n,.slice (some ⟨qb,0,none⟩) n n,.slice (some ⟨lb,0,none⟩) n n,.slice none 0 0] 71 (0,0)):=My.trans hl4
  have y6 : (w7.alloc (.cells IN 3)).cell? ⟨rb + 1,6,none⟩ = some (.slice none 0 0):=by rw [World.cell?,hl5];rfl
  have f6 : (w7.alloc (.cells IN 3)).frozen? ⟨rb + 1,6,none⟩ = false:=by simp [World.frozen?,hl5]
  have Rj : rb + 1 < w7.heap.size:=lt_of_block hl4
  have Ee : ((w7.alloc (.cells IN 3)).setCell ⟨rb + 1,6,none⟩ (.slice (some ⟨w7.heap.size,0,none⟩) n n)).heap[rb + 1]? = some (.cells #[.string t,.slice (some ⟨rb,0,none⟩) 1 1,.string o0,.slice (some ⟨sb,0,none⟩) n n,.slice (some ⟨qb,0,none⟩) n n,.slice (some ⟨lb,0,none⟩) n n,.slice (some ⟨w7.heap.size,0,none⟩) n n] 71 (0,0)):=by rw [ah _ hl5];rfl
  have Ml : Kp (fun k=>k = rb + 1) w7 ((w7.alloc (.cells IN 3)).setCell ⟨rb + 1,6,none⟩ (.slice (some ⟨w7.heap.size,0,none⟩) n n)):=((Kp.refl (fun k=>k = rb + 1) w7).alloc _).setCell (p:=⟨rb + 1,6,none⟩) (fun _=>rfl) _
  have kM : ((w7.alloc (.cells IN 3)).setCell ⟨rb + 1,6,none⟩ (.slice (some ⟨w7.heap.size,0,none⟩) n n)).heap[w7.heap.size]? = some (.cells IN 3 (0,0)):=by
   rw [Below.heap_setCell _ _ _ _ (by show w7.heap.size ≠ rb + 1;omega)];exact heap_alloc_new _ _
  have OR : ((w7.alloc (.cells IN 3)).setCell ⟨rb + 1,6,none⟩ (.slice (some ⟨w7.heap.size,0,none⟩) n n)).heap[rb]? = some (.cells (bq a0) 26 (0,0)):=Ml.at_ Mh (by show ¬ rb = rb + 1;omega);have Oh : ((w7.alloc (.cells IN 3)).setCell ⟨rb + 1,6,none⟩ (.slice (some ⟨w7.heap.size,0,none⟩) n n)).heap[sb]? = some (.cells BO 4 (0,0)):=Ml.at_ Of LH.out;have Oi : ((w7.alloc (.cells IN 3)).setCell ⟨rb + 1,6,none⟩ (.slice (some ⟨w7.heap.size,0,none⟩) n n)).heap[qb]? = some (.cells RQ 79 (0,0)):=Ml.at_ Og Oc.out;have Oj : ((w7.alloc (.cells IN 3)).setCell ⟨rb + 1,6,none⟩ (.slice (some ⟨w7.heap.size,0,none⟩) n n)).heap[lb]? = some (.cells IN 3 (0,0)):=Ml.at_ LI Rg.out;have Vg:=hid Ml;have Vh:=hid (show ¬ w7.heap.size = rb + 1 by omega);have Rk:=hid (show w.heap.size <= w7.heap.size by omega);have P2:=hid (show lb ≠ w7.heap.size by have:=lt_of_block LI;omega);clear Ml Rj hl4 hl5 My Mh Of Og LI
  go_upto_region 12 with (fail)
  clear y6 f6;generalize (w7.alloc (.cells IN 3)).setCell ⟨rb + 1,6,none⟩ (.slice (some ⟨w7.heap.size,0,none⟩) n n) = w8 at *;generalize w7.heap.size = pb at *;have hl4:=Ee;clear Ee;have Om:=kM;clear kM;have KT : Kp (fun k=>k = rb + 1) w4 w8:=(Ve.out.trans' Vf.out (fun _ _ x=>x)).trans' (DT.out.trans' Vg.out (fun _ _ x=>x)) (fun _ _ x=>x);have j3:=HS.out.1.au HS.out.2.2
  have C0 : cj w8 xb tb 138 pc ol X0 kv:=by
   have hne : ∀ {b : Nat} {c : Array Value} {e : TypeId},w4.heap[b]? = some (.cells c e (0,0)) -> e ≠ 71 -> ¬ b = rb + 1:=fun hb he x=>Q8.out _ _ _ hb he x
   refine j3.keep KT (hne j3.blk (by decide)) (hne j3.kA (by decide)) (fun k ek=>?_) (fun i cur e hi ho=>hne hi (by intro x;subst x;revert ho;unfold Gx;decide));obtain ⟨cur,Vi⟩:=aR j3.row ek;exact hne Vi (by decide)
  have KF : Kp (fun _=>False) w w8:=(HS.out.2.1.trans HS.out.2.2).trans' KT (fun i hi e=>by omega)
  have On : dU w8 ⟨rb + 1,sb,qb,lb,pb⟩ t (s9 a0 o0 n) (.slice (some ⟨rb,0,none⟩) 1 1):=by
   refine ⟨?_,?_,?_,?_,?_,?_,?_⟩
   ·rw [hl4];simp [Hw,s9]
   ·refine ⟨by simp [s9,ml,dp],.inr ⟨rb,1,bq a0,rfl,Nat.zero_le _,OR,Nat.le_refl _,by decide,rfl,rfl⟩⟩
   ·rw [show iD (s9 a0 o0 n).stands = iD (List.replicate n false) from rfl,HC.out.1];exact Oh
   ·rw [show df (s9 a0 o0 n).asked = df (List.replicate n ⟨0,⟨#[]⟩,0⟩) from rfl,HC.out.2.2];exact Oi
   ·rw [show bK (s9 a0 o0 n).latest = bK (List.replicate n 0) from rfl,HC.out.2.1];exact Oj
   ·rw [show bK (s9 a0 o0 n).steps = bK (List.replicate n 0) from rfl,HC.out.2.1];exact Om
   exact P2.out
  have hfl : ∀ k,jb ⟨rb + 1,sb,qb,lb,pb⟩ (.slice (some ⟨rb,0,none⟩) 1 1) k -> w.heap.size <= k:=by
   rintro k (rfl | rfl | rfl | rfl | rfl | e)
   ·show w.heap.size <= rb + 1;omega
   ·exact Rc.out
   ·exact Re.out
   ·exact Rh.out
   ·exact Rk.out
   obtain rfl : rb = k:=by simpa [Value.ownBlock] using e
   omega
  have HZ:=hid (ae C0 (ae On (ae KF hfl)));clear C0 On KF hfl KT j3 hl4 OR Oh Oi Oj Om;go_wp2;go_ret3;refine ⟨_,_,rfl,?_,HZ.out.2.2.1⟩;rw [HB.out];exact ⟨fun e=>absurd rfl e,fun _=>⟨xb,tb,pc,kv,⟨rb + 1,sb,qb,lb,pb⟩,_,rfl,rfl,HZ.out.1,HZ.out.2.1,Vc.out,HZ.out.2.2.2⟩⟩
 have Q6:=hid EN;clear EN;simp only [show ((9 : Int) != 0) = true from rfl,if_true] at ES
 go_enter func34,ntmps34
 go_wp2_with fail
 refine hm ES ?_;rintro y w1 ⟨rfl,K1⟩;have hnb:=heap_alloc_new w1 (.cells cf 26);have K2 : Kp (fun _=>False) w1 ((w1.alloc (.cells cf 26)).setRow w1.heap.size (bq gw)):=((Kp.refl _ _).alloc _).setRow (fun x=>by omega) _;have KA:=K1.trans K2;clear ES K1 K2
 go_upto_region 2 with (refine wpList_store_row rfl 26 (.tmp 7) (.tmp 16) rfl w1.heap.size (bq gw) rfl rfl 26 cf hnb bo rfl (fA _) ?_)
 generalize (w1.alloc (.cells cf 26)).setRow w1.heap.size (bq gw) = w2 at *;have EN:=Q6.out w2;clear hnb
 go_wp2_with fail
 refine hm EN ?_;rintro y w3 ⟨v,rfl,hq,K3⟩;have hv:=(HQ.out _ _ _ hq).1 (by decide);subst hv;have HK:=hid (KA.trans K3);clear EN hq K3 KA;go_wp2;go_ret3;refine ⟨_,_,rfl,?_,HK.out⟩;rw [HB.out];exact ⟨fun _=>rfl,fun e=>by simp at e⟩
end
section
variable {w : World} {p : Lp} {t : ByteArray} {L : Ln} {av : Value}
theorem dU.AL (h : dU w p t L av) (u : Nat) (b : Int) : dU (w.setCell ⟨p.pb,u,none⟩ (.int .i64 b)) p t { L with steps:=L.steps.set u b } av:=by
 have KS : Kp (fun k=>k = p.pb) w (w.setCell ⟨p.pb,u,none⟩ (.int .i64 b)):=(Kp.refl (fun k=>k = p.pb) w).setCell (p:=⟨p.pb,u,none⟩) (fun _=>rfl) _;have hne:=own_ne h.row h.tY (by decide);obtain ⟨_,_,_,n4,_,n6⟩:=h.Pw;obtain ⟨_,_,_,m4⟩:=h.NY;refine ⟨?_,KS.owns h.row (fun k e x=>hne (by rw [<- x];exact e)),KS.at_ h.wH n4,KS.at_ h.ask n6,KS.at_ h.yM h.ne,?_,h.ne⟩
 ·rw [KS.at_ h.blk m4.symm];simp [Hw]
 rw [ah _ h.tY];simp [bK,List.map_set]
theorem dU.LJ (h : dU w p t L av) (u : Nat) (b : Int) : dU (w.setCell ⟨p.lb,u,none⟩ (.int .i64 b)) p t { L with latest:=L.latest.set u b } av:=by
 have KS : Kp (fun k=>k = p.lb) w (w.setCell ⟨p.lb,u,none⟩ (.int .i64 b)):=(Kp.refl (fun k=>k = p.lb) w).setCell (p:=⟨p.lb,u,none⟩) (fun _=>rfl) _;have hne:=own_ne h.row h.yM (by decide);obtain ⟨_,_,n3,_,n5,_⟩:=h.Pw;obtain ⟨_,_,m3,_⟩:=h.NY;refine ⟨?_,KS.owns h.row (fun k e x=>hne (by rw [<- x];exact e)),KS.at_ h.wH n3,KS.at_ h.ask n5,?_,KS.at_ h.tY h.ne.symm,h.ne⟩
 ·rw [KS.at_ h.blk m3.symm];simp [Hw]
 rw [ah _ h.yM];simp [bK,List.map_set]
end
def S6 (w w' : World) (B : Nat) (p : Lp) (t : ByteArray) (xb tb : Nat) (pc : Pc) (ol : Ol) (L' : Ln) (x' : Sv) : Prop :=
 ∃ qM fV,dU w' p t L' qM /\ cj w' xb tb 138 pc ol x' fV /\ (∀ k,jb p qM k -> B <= k) /\ (∀ k,jr xb tb fV k -> B <= k) /\ Kp (fun k=>B <= k) w w'
section
variable {w w' : World} {B : Nat} {p : Lp} {t : ByteArray} {L : Ln} {av : Value} {xb tb : Nat} {pc : Pc} {ol : Ol} {x : Sv} {kv : Value}
theorem dF.fresh {x' : Sv} (hB : B <= w.heap.size) (hf : ∀ k,jr xb tb kv k -> B <= k) (q : dF w w' xb tb 138 pc ol kv x') : ∃ fV,cj w' xb tb 138 pc ol x' fV /\ (∀ k,jr xb tb fV k -> B <= k) /\ Kp (jr xb tb kv) w w':=by
 obtain ⟨fV,h,n,K⟩:=q;refine ⟨fV,h,?_,K⟩;rintro k (e | e | e)
 ·exact hf k (.inl e)
 ·exact hf k (.inr (.inl e))
 rcases n k e with e | e
 ·exact hf k (.inr (.inr e))
 omega
theorem sG.fresh {L' : Ln} (hB : B <= w.heap.size) (hf : ∀ k,jb p av k -> B <= k) (q : sG w w' p t av L') : ∃ qM,dU w' p t L' qM /\ (∀ k,jb p qM k -> B <= k) /\ Kp (jb p av) w w':=by
 obtain ⟨qM,h,n,K⟩:=q;refine ⟨qM,h,?_,K⟩;rintro k (e | e | e | e | e | e)
 ·exact hf k (.inl e)
 ·exact hf k (.inr (.inl e))
 ·exact hf k (.inr (.inr (.inl e)))
 ·exact hf k (.inr (.inr (.inr (.inl e))))
 ·exact hf k (.inr (.inr (.inr (.inr (.inl e)))))
 rcases n k e with e | e
 ·exact hf k (.inr (.inr (.inr (.inr (.inr e)))))
 omega
end
section
variable (w : World) {B : Nat} {p : Lp} {t : ByteArray} {L L' : Ln} {av : Value} {xb tb : Nat} {pc : Pc} {ol : Ol} {x : Sv} {kv : Value}
def Rl (p : Lp) (t : ByteArray) (L L' : Ln) (av : Value) (u : Nat) (b : Bool) (s : Int) (r : Rp × Bool × Int) : Prop :=
 (b = false /\ r.2.2 = 13 /\ r.2.1 = false /\ L' = L) \/
 (b = true /\ r.2.2 = 0 /\ r.2.1 = false /\ r.1 = b8 /\ L' = { L with steps:=L.steps.set u (s + 1) }) \/
 (b = true /\ r.2.2 = 0 /\ r.2.1 = true /\ ∃ q,L.asked[u]? = some q /\ Ca p t { L with steps:=L.steps.set u (s + 1) } L' av u q r.1)
theorem DW (hL : dU w p t L av) (hx : cj w xb tb 138 pc ol x kv) (hfl : ∀ k,jb p av k -> B <= k) (hfs : ∀ k,jr xb tb kv k -> B <= k) (hbd : x.Bd) (hol : ol.Ok) {u : Nat} (hg : ∀ t,lM x (u : Int) = some t -> NP ol x t) {b : Bool} {s : Int}
 (hb : L.stands[u]? = some b) (hs : L.steps[u]? = some s) (hs1 : 0 <= s) (hs2 : s <= 1000000000000) (hc : Rl p t L L' av u b s (bG ol x (u : Int)).2) :
 Calls prog 37 #[.pointer (some ⟨p.wb,0,none⟩),.pointer (some ⟨xb,0,none⟩),.int .i64 (u : Int)] w fun y w'=>y = .returned (.bool true) /\ S6 w w' B p t xb tb pc ol L' (bG ol x (u : Int)).1:=by
 obtain ⟨dr,hdr,gr⟩:=my;have ES:=hid (pq w hx hbd hol (u : Int) hg);have S7:=hx.low;have oc:=hL.low
 have hBw : B <= w.heap.size:=by have:=hfl p.wb (.inl rfl);have:=oc p.wb (.inl rfl);omega
 have HH:=hid (ae hL (ae hx (ae hfl hfs)));have Q0 : u < L.stands.length:=(List.getElem?_eq_some_iff.1 hb).1;have hsl : u < L.steps.length:=(List.getElem?_eq_some_iff.1 hs).1
 have Jl : (u : Int) < (L.stands.length : Int):=by omega
 have N3 : (u : Int) < (L.steps.length : Int):=by omega
 clear hL hx hfl hfs hg hbd;generalize bG ol x (u : Int) = SS at *;obtain ⟨x',rp,dn,e⟩:=SS;simp only at *
 go_enter func37,ntmps37
 go_wp2_with fail
 refine hm ES ?_;rintro y w1 ⟨rfl,q1⟩;obtain ⟨Jp,hx1,Oo,K1⟩:=dF.fresh hBw HH.out.2.2.2 q1;have hL1:=HH.out.1.bP HH.out.2.1 K1;have hnb:=heap_alloc_new w1 (.cells aA 64);have hx2:=setRow_heap (w1.alloc (.cells aA 64)) w1.heap.size aA (aZ rp) 64 (0,0) hnb;have K2 : Kp (fun _=>False) w1 ((w1.alloc (.cells aA 64)).setRow w1.heap.size (aZ rp)):=((Kp.refl _ _).alloc _).setRow (fun x=>by omega) _;have hL2:=hL1.au K2;have hS2:=hx1.au K2;have KA : Kp (fun k=>B <= k) w ((w1.alloc (.cells aA 64)).setRow w1.heap.size (aZ rp)):=(K1.mono (S':=fun k=>B <= k) (fun k _ hk=>HH.out.2.2.2 k hk)).trans' K2 (fun _ _ x=>x.elim);have hw1:=K1.size;clear ES q1 K1 K2 hL1 hx1
 go_upto_region 2 with (refine wpList_store_row rfl 64 (.tmp 7) (.tmp 14) rfl w1.heap.size (aZ rp) rfl rfl 64 aA hnb aV rfl (cT _) ?_)
 generalize (w1.alloc (.cells aA 64)).setRow w1.heap.size (aZ rp) = w2 at *;generalize w1.heap.size = rb at *;clear hnb;have y3 : w2.cell? ⟨p.wb,3,none⟩ = some (.slice (some ⟨p.sb,0,none⟩) L.stands.length L.stands.length):=hL2.cell 3;have y6 : w2.cell? ⟨p.wb,6,none⟩ = some (.slice (some ⟨p.pb,0,none⟩) L.steps.length L.steps.length):=hL2.cell 6;have yb:=hL2.u4 hb;have ys:=hL2.G2 hs
 have yf : w2.frozen? ⟨p.pb,u,none⟩ = false:=by simp [World.frozen?,hL2.tY]
 have HX:=hid (ae hL2 (ae hS2 (ae Oo KA)));unfold Rl at hc;simp only at hc
 rcases hc with ⟨rfl,rfl,rfl,rfl⟩ | ⟨rfl,rfl,rfl,rfl,rfl⟩ | ⟨rfl,rfl,rfl,q,hq,hD⟩
 ·clear hL2 hS2 Oo KA
  go_wp2;go_ret;exact ⟨rfl,av,Jp,HX.out.1,HX.out.2.1,HH.out.2.2.1,HX.out.2.2.1,HX.out.2.2.2⟩
 ·have hL3:=hL2.AL u (s + 1)
  have KP : Kp (jb p av) w2 (w2.setCell ⟨p.pb,u,none⟩ (.int .i64 (s + 1))):=(Kp.refl (jb p av) w2).setCell (p:=⟨p.pb,u,none⟩) (fun _=>.inr (.inr (.inr (.inr (.inl rfl))))) _;have tC:=hS2.sH hL2 KP;have KB : Kp (fun k=>B <= k) w (w2.setCell ⟨p.pb,u,none⟩ (.int .i64 (s + 1))):=KA.trans' KP (fun k _ hk=>HH.out.2.2.1 k hk);have hpl:=oc p.pb (.inr (.inr (.inr (.inr (.inl rfl)))))
  have hx3 : (w2.setCell ⟨p.pb,u,none⟩ (.int .i64 (s + 1))).heap[rb]? = some (.cells (aZ b8) 64 (0,0)):=by
   rw [Below.heap_setCell _ _ _ _ (by show rb ≠ p.pb;omega)];exact hx2
  have HZ:=hid (ae hL3 (ae tC KB));clear hL2 hS2 KA hL3 tC KB KP hpl
  go_upto_region 7 with (fail)
  generalize w2.setCell ⟨p.pb,u,none⟩ (.int .i64 (s + 1)) = w3 at *
  have r0 : w3.cell? ⟨rb,0,none⟩ = some (.int .i64 0):=by rw [World.cell?,hx3];rfl
  have r1 : w3.cell? ⟨rb,1,none⟩ = some (.int .i64 0):=by rw [World.cell?,hx3];rfl
  have r5 : w3.cell? ⟨rb,10,none⟩ = some (.string ⟨#[]⟩):=by rw [World.cell?,hx3];rfl
  clear hx3 y3 y6 yb ys yf;go_wp2;go_ret;exact ⟨rfl,av,Jp,HZ.out.1,HZ.out.2.1,HH.out.2.2.1,HX.out.2.2.1,HZ.out.2.2⟩
 have hL3:=hL2.AL u (s + 1);have KP : Kp (jb p av) w2 (w2.setCell ⟨p.pb,u,none⟩ (.int .i64 (s + 1))):=(Kp.refl (jb p av) w2).setCell (p:=⟨p.pb,u,none⟩) (fun _=>.inr (.inr (.inr (.inr (.inl rfl))))) _;have tC:=hS2.sH hL2 KP;have KB : Kp (fun k=>B <= k) w (w2.setCell ⟨p.pb,u,none⟩ (.int .i64 (s + 1))):=KA.trans' KP (fun k _ hk=>HH.out.2.2.1 k hk);have hpl:=oc p.pb (.inr (.inr (.inr (.inr (.inl rfl)))))
 have hx3 : (w2.setCell ⟨p.pb,u,none⟩ (.int .i64 (s + 1))).heap[rb]? = some (.cells (aZ rp) 64 (0,0)):=by
  rw [Below.heap_setCell _ _ _ _ (by show rb ≠ p.pb;omega)];exact hx2
 have HZ:=hid (ae hL3 (ae tC KB));have ED:=hid (G6 (w2.setCell ⟨p.pb,u,none⟩ (.int .i64 (s + 1))) hL3 hq hb rp hD);clear hL2 hS2 KA hL3 tC KB KP hpl hD hq
 go_upto_region 7 with (fail)
 generalize w2.setCell ⟨p.pb,u,none⟩ (.int .i64 (s + 1)) = w3 at *;clear y3 y6 yb ys yf
 go_wp2_with (refine wpList_load_row rfl 64 (.tmp 7) rfl rb rfl 64 (aZ rp) (0,0) dr hx3 hdr (by cases dr <;> first | rfl | exact absurd gr (by simp [ar])) aV ?_)
 refine hm ED ?_;rintro y w4 ⟨rfl,q4⟩;have hB3 : B <= w3.heap.size:=Nat.le_trans hBw HZ.out.2.2.size;obtain ⟨Vj,hL4,Oq,K4⟩:=sG.fresh hB3 HH.out.2.2.1 q4;have j3:=HZ.out.2.1.sH HZ.out.1 K4;have KF:=HZ.out.2.2.trans' K4 (fun k _ hk=>HH.out.2.2.1 k hk);have HY:=hid (ae hL4 (ae j3 (ae Oq KF)));clear ED q4 hL4 j3 Oq KF K4;go_wp2;go_ret;exact ⟨rfl,Vj,Jp,HY.out.1,HY.out.2.1,HY.out.2.2.1,HX.out.2.2.1,HY.out.2.2.2⟩
end
end Go.Proofs.YtnlbchmfcebeeaaGreat
