import Derived.Test.YtnlbchmfcebeeaaGreatTF2
set_option maxHeartbeats 12800000
set_option maxRecDepth 100000
namespace Go.Proofs.YtnlbchmfcebeeaaGreat
open Go.Proofs.Tryz Ch
open Go.RowKit
theorem Fk : ∀ (l : List Value) (k : Nat) (a : Array Value),k + l.length <= a.size ->
 ((l.zipIdx k).foldl (fun cs (p : Value × Nat)=>cs.setIfInBounds (0 + p.2) p.1) a).toList = a.toList.take k ++ l ++ a.toList.drop (k + l.length):=by
 intro l
 induction l with
 | nil=>intro k a h;simp
 | cons x l ih=>?_
 intro k a h;simp only [List.length_cons] at h;simp only [List.zipIdx_cons,List.foldl_cons];rw [ih (k + 1) _ (by simp;omega)]
 have hk : k < a.toList.length:=by simp;omega
 simp only [Nat.zero_add,Array.toList_setIfInBounds,List.length_cons];rw [List.take_set,List.drop_set_of_lt (by omega),show k + 1 + l.length = k + (l.length + 1) by omega];rw [List.take_succ_eq_append_getElem hk,List.set_append_right _ _ (by simp;omega)];simp [Nat.min_eq_left (Nat.le_of_lt (by simpa using hk))]
section
variable {P : Program}
theorem Fl {n : Nat} (base VA : Array Value) (hb : base.size = n) (hs : VA.size = n) : Instr.fill (fun i=>some (i * n,n)) base [(0,.agg VA)] = some VA:=by
 unfold Instr.fill;have e : (Value.agg VA).cells = VA:=rfl;simp only [e,hs,hb,Nat.zero_mul,Nat.zero_add,ne_eq,not_true_eq_false,decide_false,Nat.lt_irrefl,gt_iff_lt,Bool.or_self,Bool.false_eq_true,if_false];unfold Instr.fill;have h:=Fk VA.toList 0 base (by simp [hs,hb]);simp only [List.take_zero,List.nil_append,Nat.zero_add] at h;rw [List.drop_eq_nil_of_le (by simp [hs,hb]),List.append_nil] at h
 congr 1
 apply Array.toList_inj.1;rw [<- h];rw [<- Array.foldl_toList];simp
theorem iS (w : World) (t elem : TypeId) (i : TypeInfo) (z : Value) (ht : P.underlying t = some (.slice elem)) (hi : P.info? elem = some i) (hz : i.zero = some z) (h0 : 0 < i.size) (MY : i.size <= 1000)
 (VA : Array Value) (hs : VA.size = i.size) : (Instr.buildSlice t 1 #[(0,.agg VA)]).run P w = .ok (.slice (some ⟨w.heap.size,0,none⟩) 1 1) (w.alloc (.cells VA elem)):=by
 have h1 : ¬ (i.size = 0):=by omega
 have h2 : ¬ (16777216 < i.size):=by omega
 have hf:=Fl ((Array.range i.size).map (fun x=>z.cells[x % z.cells.size]!)) VA (n:=i.size) (by simp) hs;unfold Instr.buildSlice;simp [run_underlying ht,sizeOf,typeInfo,hi,h1,h2,zeroValue,hz];rw [hf];simp [newRow]
theorem cB {o : Oper} {a : Act} {w : World} (t : TypeId) (x : Operand) (ho : o.op = .buildSlice t 1 #[(0,x)]) (elem : TypeId) (i : TypeInfo) (z : Value)
 (ht : P.underlying t = some (.slice elem)) (hi : P.info? elem = some i) (hz : i.zero = some z) (h0 : 0 < i.size) (MY : i.size <= 1000) (VA : Array Value) (hx : a.eval x = .agg VA) (hs : VA.size = i.size) :
 (execOp a.eval o).run P w = .ok (.value (.slice (some ⟨w.heap.size,0,none⟩) 1 1)) (w.alloc (.cells VA elem)):=by
 unfold execOp
 have e : (#[((0 : Nat),x)].map fun (p : Nat × Operand)=>(p.1,a.eval p.2)) = #[(0,.agg VA)]:=by simp [hx]
 simp only [ho]
 have e2 : (Instr.buildSlice t 1 (#[((0 : Nat),x)].map fun (p : Nat × Operand)=>(p.1,a.eval p.2))).run P w = .ok (.slice (some ⟨w.heap.size,0,none⟩) 1 1) (w.alloc (.cells VA elem)):=by rw [e];exact iS w t elem i z ht hi hz h0 MY VA hs
 simp only [Sem.run_bind,e2,Result.andThen_ok,Sem.run_pure]
theorem eJ {ops : Array Oper} {rest : List Oper} {o : Oper} {a : Act} {w : World} {Q : Exit -> Act -> World -> Prop} (hgd : o.guard = none) (t : TypeId) (x : Operand) (ho : o.op = .buildSlice t 1 #[(0,x)]) (elem : TypeId) (i : TypeInfo) (z : Value)
 (ht : P.underlying t = some (.slice elem)) (hi : P.info? elem = some i) (hz : i.zero = some z) (h0 : 0 < i.size) (MY : i.size <= 1000) (VA : Array Value) (hx : a.eval x = .agg VA) (hs : VA.size = i.size)
 (h : wpList P ops Q rest (a.put o.dst (.slice (some ⟨w.heap.size,0,none⟩) 1 1)) (w.alloc (.cells VA elem))) : wpList P ops Q (o :: rest) a w :=
 wpList_plain hgd fun K hK=>by
  unfold Oper.wp execOp
  have e : (#[((0 : Nat),x)].map fun (p : Nat × Operand)=>(p.1,a.eval p.2)) = #[(0,.agg VA)]:=by simp [hx]
  simp only [ho]
  have e2 : (Instr.buildSlice t 1 (#[((0 : Nat),x)].map fun (p : Nat × Operand)=>(p.1,a.eval p.2))).run P w = .ok (.slice (some ⟨w.heap.size,0,none⟩) 1 1) (w.alloc (.cells VA elem)):=by rw [e];exact iS w t elem i z ht hi hz h0 MY VA hs
  simp only [Sem.run_bind,e2,Result.andThen_ok,Sem.run_pure];exact hK _ _ h
end
namespace Ch
structure Vr where
 num : Nat
 now : Sd
 pins : Nat
structure Tk where
 kind : Int
 events : ByteArray
 at_ : Int
 drawn : Bool
 ticket : Nat
 fired : Nat
 now : Sd
 out : ByteArray
 steps : Nat
 pinned : Int
structure Sv where
 made : Nat
 kept : List Vr
 joined : Nat
 tail : ByteArray
 tasks : List Tk
 aN : Nat
 turn : Nat
def lj (made : Nat) (v : Vr) : Bool:=decide (0 < v.pins) || decide (made <= v.num + 4)
def gq (made : Nat) (l : List Vr) : List Vr:=l.filter (lj made)
end Ch
def kJ (v : Vr) : List Value:=.int .i64 v.num :: (aj v.now ++ [.int .i64 v.pins])
def dc (l : List Vr) : List Value:=l.flatMap kJ
theorem kh {v : Vr} (h : v.now.Wf) : (kJ v).length = 38:=by simp [kJ,aT h]
theorem ki (l : List Vr) (v : Vr) : dc (l ++ [v]) = dc l ++ kJ v:=by simp [dc]
theorem zU {l : List Vr} (h : ∀ v ∈ l,v.now.Wf) {k : Nat} {v : Vr} (hk : l[k]? = some v) {j : Nat} (hj : j < 38) : (dc l)[k * 38 + j]? = (kJ v)[j]?:=by
 induction l generalizing k with
 | nil=>simp at hk
 | cons x l ih=>?_
 have e : dc (x :: l) = kJ x ++ dc l:=by simp [dc]
 rw [e];have hx:=kh (h x (by simp))
 cases k with
 | zero =>
   simp at hk;subst hk;rw [List.getElem?_append_left (by omega)];simp
 | succ k=>?_
 rw [List.getElem?_append_right (by omega),hx,show (k + 1) * 38 + j - 38 = k * 38 + j by omega];exact ih (fun y hy=>h y (by simp [hy])) (by simpa using hk)
theorem jT (s : Sd) : ∀ u ∈ aj s,u.oneCell' = true:=by
 intro u hu;simp only [aj,bg,aG,List.mem_append,List.mem_map,List.mem_cons,List.not_mem_nil,or_false] at hu
 rcases hu with ⟨b,_,rfl⟩ | ⟨c,_,rfl⟩ | rfl | rfl | rfl | rfl <;> rfl
theorem Bv (v : Vr) : ∀ u ∈ kJ v,u.oneCell' = true:=by
 intro u hu
 rcases List.mem_cons.1 hu with rfl | hu
 ·rfl
 rcases List.mem_append.1 hu with hu | hu
 ·exact jT _ u hu
 simp at hu;subst hu;rfl
theorem Fm : (prog.info? 261).map (fun i=>(i.zero,i.size,i.bytes)) = some (some (.agg nh),38,88):=by kernel_rfl
structure m_ (w : World) (B sb so : Nat) (C : Array Value) (T : TypeId) (made : Nat) (kept : List Vr) (kv : Value) : Prop where
 blk : w.heap[sb]? = some (.cells C T (0,0))
 c0 : C[so]? = some (.int .i64 made)
 c1 : C[so + 1]? = some kv
 row : w.ownsRow B 261 38 kv kept.length (dc kept)
 wf : ∀ v ∈ kept,v.now.Wf
 ne : T ≠ 261
section
variable {w w' : World} {B sb so : Nat} {C : Array Value} {T : TypeId} {made : Nat} {kept : List Vr} {kv : Value}
theorem m_.x0 (h : m_ w B sb so C T made kept kv) : w.cell? ⟨sb,so,none⟩ = some (.int .i64 made):=by rw [World.cell?,h.blk];exact h.c0
theorem m_.x1 (h : m_ w B sb so C T made kept kv) : w.cell? ⟨sb,so + 1,none⟩ = some kv:=by rw [World.cell?,h.blk];exact h.c1
theorem m_.free (h : m_ w B sb so C T made kept kv) (i : Nat) : w.frozen? ⟨sb,i,none⟩ = false:=by simp [World.frozen?,h.blk]
theorem m_.Fo (h : m_ w B sb so C T made kept kv) : kv.ownBlock ≠ some sb:=own_ne h.row h.blk h.ne.symm
theorem m_.au (h : m_ w B sb so C T made kept kv) (k : Kp (fun _=>False) w w') : m_ w' B sb so C T made kept kv :=
 ⟨k.at_ h.blk (fun x=>x),h.c0,h.c1,k.owns h.row (fun _ _ x=>x),h.wf,h.ne⟩
theorem m_.cells (h : m_ w B sb so C T made kept kv) {g cap : Nat} (e : kv = .slice (some ⟨g,0,none⟩) kept.length cap) {k : Nat} {v : Vr} (hk : kept[k]? = some v) : ∀ j u,(kJ v)[j]? = some u -> w.cell? ⟨g,k * 38 + j,none⟩ = some u:=by
 intro j u hj;have hv:=h.wf v (List.mem_of_getElem? hk);have hl:=(List.getElem?_eq_some_iff.1 hj).1;rw [kh hv] at hl;have hlt:=(List.getElem?_eq_some_iff.1 hk).1;have hr:=h.row;rw [e] at hr;rw [hr.cellAt _ (by omega),zU h.wf hk hl];exact hj
theorem m_.rowAt (h : m_ w B sb so C T made kept kv) (hl : 0 < kept.length) : ∃ g cap,kv = .slice (some ⟨g,0,none⟩) kept.length cap:=by
 rcases h.row.2 with ⟨_,e2⟩ | ⟨g,cap,_,e1,_⟩
 ·omega
 exact ⟨g,cap,e1⟩
end
theorem jU (b j : Nat) : (⟨b,0,none⟩ : Addr).add j = ⟨b,j,none⟩:=by
 unfold Addr.add;split <;> simp_all
theorem dR {w : World} {b : Nat} {L : List Value} {T : TypeId} (h : w.heap[b]? = some (.cells L.toArray T (0,0))) (j : Nat) : w.cell? ⟨b,j,none⟩ = L[j]?:=by
 rw [World.cell?,h];simp
theorem nM (v : Vr) : (kJ v)[0]? = some (.int .i64 v.num):=rfl
theorem rP {v : Vr} (h : v.now.Wf) : (kJ v)[37]? = some (.int .i64 v.pins):=by
 unfold kJ;rw [List.getElem?_cons_succ,List.getElem?_append_right (by rw [aT h];exact Nat.le_refl _),aT h];rfl
theorem Fp {w : World} {B B' : Nat} (hb : B <= B') {e : TypeId} {size : Nat} {v : Value} {n : Nat} {xs : List Value} (h : w.ownsRow B' e size v n xs) : w.ownsRow B e size v n xs:=by
 refine ⟨h.1,?_⟩
 rcases h.2 with x | ⟨g,cap,cur,e1,e2,r⟩
 ·exact .inl x
 exact .inr ⟨g,cap,cur,e1,by omega,r⟩
theorem Fq : (prog.info? 261).map (·.size) = some 38:=by kernel_rfl
theorem MZ : ∃ d,prog.underlying 261 = some d /\ ar d = true:=⟨_,underlying261,rfl⟩
def M_ (w w' : World) (B sb so : Nat) (C : Array Value) (T : TypeId) (l : List Vr) : Prop :=
 ∃ fV,w'.heap[sb]? = some (.cells (C.setIfInBounds (so + 1) fV) T (0,0)) /\ w'.ownsRow B 261 38 fV l.length (dc l) /\ (∀ k,fV.ownBlock = some k -> w.heap.size <= k) /\ Kp (fun k=>k = sb) w w'
section
variable (w : World) {B sb so : Nat} {C : Array Value} {T : TypeId} {made : Nat} {kept : List Vr} {kv : Value}
theorem xL (h : m_ w B sb so C T made kept kv) (hB : B <= w.heap.size) (hk : kept.length <= 100000) (hm : made <= 1000000000000000) (hn : ∀ v ∈ kept,v.num <= 1000000000000000 /\ v.pins <= 1000000000000000) :
 Calls prog 226 #[.pointer (some ⟨sb,so,none⟩)] w fun x w'=>x = .returned (.tuple #[]) /\ M_ w w' B sb so C T (gq made kept):=by
 obtain ⟨i0,hi,hz0,hz1,hz2⟩:=info_parts Fm;obtain ⟨dv,hdv,qf⟩:=MZ;have HH:=hid h;have HN:=hid hn;clear h hn
 go_enter func226,ntmps226
 go_wp2_with fail
 go_loopw [2,3] (fun lv iv wr=>∃ i : Nat,iv = .int .i64 i /\ i <= kept.length /\ wr.ownsRow w.heap.size 261 38 lv (gq made (kept.take i)).length (dc (gq made (kept.take i))) /\ Kp (fun _=>False) w wr) (fun _ iv _=>kept.length - (intOf iv).toNat)
 case atStart=>exact ⟨0,rfl,Nat.zero_le _,World.ownsRow_nil _ _ _ _,Kp.refl _ _⟩
 case round =>
  obtain ⟨i,rfl,hil,ho,KW⟩:=hrel;have hr:=HH.out.au KW;have x0:=hr.x0;have x1:=hr.x1;obtain ⟨ao,cap,kL⟩:=b7 hr.row
  by_cases hlt : i < kept.length
  ·have hlt' : (i : Int) < (kept.length : Int):=by omega
   obtain ⟨g,cap2,zV⟩:=hr.rowAt (by omega)
   obtain ⟨v,hv⟩ : ∃ v,kept[i]? = some v:=⟨_,List.getElem?_eq_getElem hlt⟩
   have hcs:=hr.cells zV hv;have hvw:=HH.out.wf v (List.mem_of_getElem? hv);have hvl:=kh hvw;have Fs:=Bv v;obtain ⟨hn1,hn2⟩:=HN.out v (List.mem_of_getElem? hv)
   have htk : kept.take (i + 1) = kept.take i ++ [v]:=by
    obtain ⟨h1,e⟩:=List.getElem?_eq_some_iff.1 hv;rw [<- e,List.take_append_getElem h1]
   rw [zV] at x1;have hnew:=heap_alloc_new wr (.cells nh 261);have h5:=setRow_heap (wr.alloc (.cells nh 261)) wr.heap.size nh (kJ v).toArray 261 (0,0) hnew;have K5 : Kp (fun _=>False) wr ((wr.alloc (.cells nh 261)).setRow wr.heap.size (kJ v).toArray):=((Kp.refl _ _).alloc _).setRow (fun x=>by omega) _
   have hI : (prog.info? 261).map (·.size) = some (kJ v).length:=by rw [hvl];exact Fq
   have CY : (kJ v).toArray.size = 38:=by simp [hvl]
   have IA : (prog.info? 261).map (·.size) = some (kJ v).toArray.size:=by rw [CY];exact Fq
   have KJ : (kJ v).toArray.all (fun x=>x.oneCell') = true:=by
    apply Array.all_eq_true_iff_forall_mem.2;intro u hu;exact Fs u (by simpa using hu)
   go_upto_region 5 with (first | refine a_ rfl 261 (.tmp 19) rfl g (i * 38) rfl (kJ v) dv hcs hdv qf hI ?_ | refine wpList_store_row rfl 261 (.tmp 4) (.tmp 20) rfl wr.heap.size (kJ v).toArray rfl rfl 261 nh hnew IA (by rw [CY];rfl) KJ ?_)
   have hx5:=hr.au K5;have tE:=K5.owns ho (fun _ _ x=>x);have K6:=KW.trans K5;have hvb : w.heap.size <= wr.heap.size:=KW.size;generalize (wr.alloc (.cells nh 261)).setRow wr.heap.size (kJ v).toArray = w5 at *;generalize wr.heap.size = vb at *;have b0:=(dR h5 0).trans (nM v);have V6:=(dR h5 37).trans (rP hvw);have y0:=hx5.x0;generalize Na : (kJ v).toArray = VA at *;have Pe:=hid Na;clear Na;have HX:=hid (ae tE (ae K6 h5));have HZ:=hid (ae hi (ae hz0 (ae hz1 hz2)));have HV:=hid (ae CY (ae IA (ae KJ (ae hvl Fs))));clear hi hz0 hz1 hz2 CY IA KJ hvl Fs hI hvw
   have HL : ∀ (hq : lj made v = true),gq made (kept.take (i + 1)) = gq made (kept.take i) ++ [v]:=by
    intro hq;rw [htk];unfold gq;rw [List.filter_append];simp [hq]
   have Sn : ∀ (hq : lj made v = false),gq made (kept.take (i + 1)) = gq made (kept.take i):=by
    intro hq;rw [htk];unfold gq;rw [List.filter_append];simp [hq]
   have Pf:=hid (ae HL Sn);clear hnew K5 hcs ho tE K6 KW hr hx5 htk HL Sn h5 x0 x1
   have hlen : (gq made (kept.take i)).length <= 100000:=by
    unfold gq;exact Nat.le_trans (List.length_filter_le _ _) (by simp;omega)
   clear kL zV hil
   cases hq : lj made v with
   | true =>
     have HE:=hid (Pf.out.1 hq)
     have hcase : 0 < v.pins \/ (¬ 0 < v.pins /\ made <= v.num + 4):=by
      unfold lj at hq;simp at hq;omega
     clear Pf hq
     by_cases hp : 0 < v.pins
     ·have hp' : (0 : Int) < (v.pins : Int):=by omega
      simp only [Act.put]
      go_quiet (fail)
      rename_i nq;have KD:=(Kp.refl (fun _=>False) w5).drewN nq;have KA:=KD.alloc (.cells VA 261);have h5':=KD.at_ HX.out.2.2 (fun x=>x);have Ea:=KA.owns HX.out.1 (fun _ _ x=>x);have kM:=heap_alloc_new (w5.drewN nq) (.cells VA 261)
      have hc6 : ∀ j u,(kJ v)[j]? = some u -> ((w5.drewN nq).alloc (.cells VA 261)).cell? ((⟨(w5.drewN nq).heap.size,0,none⟩ : Addr).add j) = some u:=by
       intro j u hj;have e : (⟨(w5.drewN nq).heap.size,0,none⟩ : Addr).add j = ⟨(w5.drewN nq).heap.size,j,none⟩:=jU _ _;rw [e,World.cell?,kM];show VA[j]? = some u;rw [<- Pe.out,List.getElem?_toArray];exact hj
      have K7:=HX.out.2.1.trans KA;have hs7 : w.heap.size <= ((w5.drewN nq).alloc (.cells VA 261)).heap.size:=K7.size;obtain ⟨hi,hz0,hz1,hz2⟩:=HZ.out;obtain ⟨CY,IA,KJ,hvl,Fs⟩:=HV.out
      go_wp2_with (first | (at_builtin;refine wpList_append_own _ rfl (.tmp 34) (.tmp 36) 129 rfl w.heap.size 261 i0 (.agg nh) 38 88 underlying129 hi hz0 hz1 hz2 rfl (by decide) _ _ _ rfl Ea ⟨(w5.drewN nq).heap.size,0,none⟩ 1 1 (kJ v) rfl (by rw [hvl]) hc6 Fs ?c3 ?c4 ?c5 ?_) | refine eJ rfl 129 (.tmp 35) rfl 261 i0 (.agg nh) underlying129 hi hz0 (by omega) (by omega) VA rfl (by rw [CY,hz1]) ?_ | refine wpList_load_row rfl 261 (.tmp 4) rfl vb rfl 261 VA (0,0) dv h5' hdv (by cases dv <;> first | rfl | exact absurd qf (by simp [ar])) IA ?_)
      case c3=>unfold maxLen;omega
      case c4=>omega
      case c5=>simpa using hs7
      intro v8 w8 o8 g8 _;have K8 : Kp (fun _=>False) w w8:=K7.grown g8 (fun k hk hl=>by have:=(Ea.lt k hk).1;omega);have HF:=hid (ae o8 K8);clear o8 g8 K8 K7 hs7 hc6 kM Ea KA KD h5' hi hz0 hz1 hz2 CY IA KJ hvl Fs
      go_wp2_with fail
      go_roundw
      case rel =>
       refine ⟨i + 1,by go_num,by omega,?_,HF.out.2⟩;rw [HE.out,ki];simpa using HF.out.1
      case measure=>simp [intOf];omega
     have hge : made <= v.num + 4:=by omega
     have hp' : ¬ (0 : Int) < (v.pins : Int):=by omega
     have hge' : (made : Int) - 4 <= (v.num : Int):=by omega
     simp only [Act.put]
     go_quiet (fail)
     rename_i nq;have KD:=(Kp.refl (fun _=>False) w5).drewN nq;have KA:=KD.alloc (.cells VA 261);have h5':=KD.at_ HX.out.2.2 (fun x=>x);have Ea:=KA.owns HX.out.1 (fun _ _ x=>x);have kM:=heap_alloc_new (w5.drewN nq) (.cells VA 261)
     have hc6 : ∀ j u,(kJ v)[j]? = some u -> ((w5.drewN nq).alloc (.cells VA 261)).cell? ((⟨(w5.drewN nq).heap.size,0,none⟩ : Addr).add j) = some u:=by
      intro j u hj;have e : (⟨(w5.drewN nq).heap.size,0,none⟩ : Addr).add j = ⟨(w5.drewN nq).heap.size,j,none⟩:=jU _ _;rw [e,World.cell?,kM];show VA[j]? = some u;rw [<- Pe.out,List.getElem?_toArray];exact hj
     have K7:=HX.out.2.1.trans KA;have hs7 : w.heap.size <= ((w5.drewN nq).alloc (.cells VA 261)).heap.size:=K7.size;obtain ⟨hi,hz0,hz1,hz2⟩:=HZ.out;obtain ⟨CY,IA,KJ,hvl,Fs⟩:=HV.out
     go_wp2_with (first | (at_builtin;refine wpList_append_own _ rfl (.tmp 34) (.tmp 36) 129 rfl w.heap.size 261 i0 (.agg nh) 38 88 underlying129 hi hz0 hz1 hz2 rfl (by decide) _ _ _ rfl Ea ⟨(w5.drewN nq).heap.size,0,none⟩ 1 1 (kJ v) rfl (by rw [hvl]) hc6 Fs ?c3 ?c4 ?c5 ?_) | refine eJ rfl 129 (.tmp 35) rfl 261 i0 (.agg nh) underlying129 hi hz0 (by omega) (by omega) VA rfl (by rw [CY,hz1]) ?_ | refine wpList_load_row rfl 261 (.tmp 4) rfl vb rfl 261 VA (0,0) dv h5' hdv (by cases dv <;> first | rfl | exact absurd qf (by simp [ar])) IA ?_)
     case c3=>unfold maxLen;omega
     case c4=>omega
     case c5=>simpa using hs7
     intro v8 w8 o8 g8 _;have K8 : Kp (fun _=>False) w w8:=K7.grown g8 (fun k hk hl=>by have:=(Ea.lt k hk).1;omega);have HF:=hid (ae o8 K8);clear o8 g8 K8 K7 hs7 hc6 kM Ea KA KD h5' hi hz0 hz1 hz2 CY IA KJ hvl Fs
     go_wp2_with fail
     go_roundw
     case rel =>
      refine ⟨i + 1,by go_num,by omega,?_,HF.out.2⟩;rw [HE.out,ki];simpa using HF.out.1
     case measure=>simp [intOf];omega
   | false=>?_
   have HE:=hid (Pf.out.2 hq)
   have hcase : ¬ 0 < v.pins /\ ¬ made <= v.num + 4:=by
    unfold lj at hq;simp at hq;omega
   obtain ⟨hp,hge⟩:=hcase
   have hp' : ¬ (0 : Int) < (v.pins : Int):=by omega
   have hge' : ¬ (made : Int) - 4 <= (v.num : Int):=by omega
   clear Pf hq;simp only [Act.put]
   go_quiet (fail)
   rename_i nq;have HD:=hid (ae ((Kp.refl (fun _=>False) w5).drewN nq |>.owns HX.out.1 (fun _ _ x=>x)) (HX.out.2.1.drewN nq))
   go_wp2_with fail
   go_roundw
   case rel=>exact ⟨i + 1,by go_num,by omega,by rw [HE.out];exact HD.out.1,HD.out.2⟩
   case measure=>simp [intOf];omega
  have hlt' : ¬ (i : Int) < (kept.length : Int):=by omega
  obtain rfl : i = kept.length:=by omega
  rw [List.take_length] at ho;obtain ⟨zW,m2,IB,rfl⟩:=cv ho;have hf:=hr.free (so + 1);have V7:=(List.getElem?_eq_some_iff.1 (show C.toList[so + 1]? = some kv by simpa using HH.out.c1)).1;have KS : Kp (fun k=>k = sb) wr (wr.setCell ⟨sb,so + 1,none⟩ (.slice zW m2 IB)):=(Kp.refl (fun k=>k = sb) wr).setCell (p:=⟨sb,so + 1,none⟩) (fun _=>rfl) _;have JE : (wr.setCell ⟨sb,so + 1,none⟩ (.slice zW m2 IB)).heap[sb]? = some (.cells (C.setIfInBounds (so + 1) (.slice zW m2 IB)) T (0,0)):=ah _ hr.blk;have Ft:=own_ne ho hr.blk hr.ne.symm;have L9:=KS.owns ho (fun k e x=>Ft (by rw [<- x];exact e))
  have Nb:=fun k e=>(ho.lt k e).1
  have K9 : Kp (fun k=>k = sb) w (wr.setCell ⟨sb,so + 1,none⟩ (.slice zW m2 IB)):=(KW.mono (fun _ _ x=>x.elim)).trans' KS (fun i _ x=>x);have HF:=hid (ae JE (ae (Fp hB L9) (ae Nb K9)));clear JE L9 Nb K9 KS Ft ho hr KW
  go_wp2_with fail
  go_end0
  exact ⟨rfl,_,HF.out.1,HF.out.2.1,HF.out.2.2.1,HF.out.2.2.2⟩
end
theorem vP (m : Int) (a0 a1 a2 a3 a4 a5 a6 a7 a8 a9 ql sY a12 sZ s6 s7 : Bool) (p0 p1 p2 p3 p4 p5 p6 p7 p8 p9 qq qs qu qw qA qB : Int) (tm : ByteArray) (x y z : Int) :
 prog.built 261 [(0,.int .i64 m),(1,.agg #[.bool a0,.bool a1,.bool a2,.bool a3,.bool a4,.bool a5,.bool a6,.bool a7,.bool a8,.bool a9,.bool ql,.bool sY,.bool a12,.bool sZ,.bool s6,.bool s7,.int .u8 p0,.int .u8 p1,.int .u8 p2,.int .u8 p3,.int .u8 p4,.int .u8 p5,.int .u8 p6,.int .u8 p7,.int .u8 p8,.int .u8 p9,.int .u8 qq,.int .u8 qs,.int .u8 qu,.int .u8 qw,.int .u8 qA,.int .u8 qB,.string tm,.int .i64 x,.int .i64 y,.int .i64 z])] = some #[.int .i64 m,.bool a0,.bool a1,.bool a2,.bool a3,.bool a4,.bool a5,.bool a6,.bool a7,.bool a8,.bool a9,.bool ql,.bool sY,.bool a12,.bool sZ,.bool s6,.bool s7,.int .u8 p0,.int .u8 p1,.int .u8 p2,.int .u8 p3,.int .u8 p4,.int .u8 p5,.int .u8 p6,.int .u8 p7,.int .u8 p8,.int .u8 p9,.int .u8 qq,.int .u8 qs,.int .u8 qu,.int .u8 qw,.int .u8 qA,.int .u8 qB,.string tm,.int .i64 x,.int .i64 y,.int .i64 z,.int .i64 0]:=by kernel_rfl
theorem Fu (m : Nat) (s : Sd) (hw : s.Wf) : prog.built 261 [(0,.int .i64 m),(1,.agg (aj s).toArray)] = some (kJ ⟨m,s,0⟩).toArray:=by
 obtain ⟨act,past,tm,x,y,z⟩:=s;obtain ⟨h1,h2⟩:=hw;simp only at h1 h2;obtain ⟨a0,a1,a2,a3,a4,a5,a6,a7,a8,a9,ql,sY,a12,sZ,s6,s7,rfl⟩:=ke act h1;obtain ⟨p0,p1,p2,p3,p4,p5,p6,p7,p8,p9,qq,qs,qu,qw,qA,qB,rfl⟩:=ke past h2;exact vP m a0 a1 a2 a3 a4 a5 a6 a7 a8 a9 ql sY a12 sZ s6 s7 p0 p1 p2 p3 p4 p5 p6 p7 p8 p9 qq qs qu qw qA qB tm x y z
theorem xM {v : Vr} (h : v.now.Wf) : (kJ v).toArray.size = 38:=by simp [kh h]
section
variable (w : World) {B sb so : Nat} {C : Array Value} {T : TypeId} {made : Nat} {kept : List Vr} {kv : Value}
theorem gN (h : m_ w B sb so C T made kept kv) (hmd : made <= 1000000000000000) :
 Calls prog 191 #[.pointer (some ⟨sb,so,none⟩)] w fun x w'=>x = .returned (.int .i64 ((made : Int) - 1)) /\ w' = w:=by
 have x0:=h.x0;clear h
 go_enter func191,ntmps191
 go_wp2;go_ret;exact ⟨rfl,rfl⟩
def Qf (w w' : World) (B sb so : Nat) (C : Array Value) (T : TypeId) (made : Nat) (kv : Value) (l : List Vr) : Prop :=
 ∃ fV,w'.heap[sb]? = some (.cells ((C.setIfInBounds so (.int .i64 ((made + 1 : Nat) : Int))).setIfInBounds (so + 1) fV) T (0,0)) /\ w'.ownsRow B 261 38 fV l.length (dc l) /\ (∀ k,fV.ownBlock = some k -> w.heap.size <= k) /\ Kp (fun k=>k = sb \/ kv.ownBlock = some k) w w'
theorem CZ (h : m_ w B sb so C T made kept kv) (hB : B <= w.heap.size) (hk : kept.length <= 1000) (hmd : made <= 100000000000000) (hn : ∀ v ∈ kept,v.num <= 1000000000000000 /\ v.pins <= 1000000000000000) (hTs : T ≠ 95) (s : Sd) (hs : s.Wf) :
 Calls prog 184 #[.pointer (some ⟨sb,so,none⟩),.agg (aj s).toArray] w fun x w'=>x = .returned (.tuple #[]) /\ Qf w w' B sb so C T made kv (gq (made + 1) (kept ++ [⟨made,s,0⟩])):=by
 obtain ⟨i0,hi,hz0,hz1,hz2⟩:=info_parts Fm;obtain ⟨ds,hds,eH⟩:=cQ;have hnb:=heap_alloc_new w (.cells (aj s).toArray 95);have K1 : Kp (fun _=>False) w (w.alloc (.cells (aj s).toArray 95)):=(Kp.refl _ _).alloc _;have h1:=h.au K1
 have hsI : (prog.info? 95).map (·.size) = some (aj s).toArray.size:=by rw [show (aj s).toArray.size = 36 by simp [aT hs]];exact aY
 have hbt:=Fu made s hs;have hvw : (⟨made,s,0⟩ : Vr).now.Wf:=hs;have CY:=xM hvw;have hvl:=kh hvw;have Fs:=Bv ⟨made,s,0⟩;have HH:=hid (ae h hn);clear h hn;obtain ⟨ao,mm,cap,rfl⟩:=cv h1.row;generalize m9 : (aj s).toArray = SA at *;generalize Na : (kJ ⟨made,s,0⟩).toArray = VA at *;have Pe:=hid Na;clear Na m9
 go_enter func184,ntmps184
 go_upto_region 1 with (fail)
 have hsz1 : w.heap.size <= (w.alloc (.cells SA 95)).heap.size:=K1.size;have Ut:=hid K1;generalize w.alloc (.cells SA 95) = w1 at *;have x0 : w1.drew.cell? ⟨sb,so,none⟩ = some (.int .i64 made):=h1.x0;have x1 : w1.drew.cell? ⟨sb,so + 1,none⟩ = some (.slice ao mm cap):=h1.x1
 have hS0 : w1.drew.cell? ⟨sb,so,none⟩ = some (.int .i64 made) /\ w1.drew.heap[w.heap.size]? = some (.cells SA 95 (0,0)):=⟨x0,hnb⟩
 refine aB (fun w'=>w'.cell? ⟨sb,so,none⟩ = some (.int .i64 made) /\ w'.heap[w.heap.size]? = some (.cells SA 95 (0,0))) (by kernel_rfl) ?_;refine tj 0 4 (.pointer (some ⟨sb,so,none⟩)) hS0 ?_;refine tj 1 5 (.pointer (some ⟨sb,so,none⟩)) hS0 ?_;refine tj 2 6 (.pointer (some ⟨sb,so,none⟩)) hS0 ?_;refine tj 3 7 (.pointer (some ⟨sb,so + 1,none⟩)) hS0 ?_;refine tj 5 9 (.pointer (some ⟨sb,so,none⟩)) hS0 ?_;refine tj 6 10 (.pointer (some ⟨sb,so,none⟩)) hS0 ?_;refine tj 7 11 (.pointer (some ⟨sb,so,none⟩)) hS0 ?_;refine tl 8 12 (.int .i64 made) rfl (fun w' hS=>by simp [execOp,Act.eval,go_sem,hS.1]) hS0 ?_;refine tl 9 13 (.agg SA) rfl (fun w' hS=>aU 95 (.tmp 3) rfl w.heap.size rfl 95 SA (0,0) ds hS.2 hds eH hsI) hS0 ?_;refine tl 10 14 (.agg VA) rfl (fun w' _=>eh 261 #[(0,.tmp 12),(1,.tmp 13)] rfl VA [(0,.int .i64 made),(1,.agg SA)] rfl hbt) hS0 ?_;have KA : Kp (fun _=>False) w1.drew (w1.drew.alloc (.cells VA 261)):=(Kp.refl _ _).alloc _;have hb2 : (w1.drew.alloc (.cells VA 261)).heap[sb]? = some (.cells C T (0,0)):=KA.at_ h1.blk (fun x=>x);have hn2 : (w1.drew.alloc (.cells VA 261)).heap[w.heap.size]? = some (.cells SA 95 (0,0)):=KA.at_ hnb (fun x=>x)
 have y0 : (w1.drew.alloc (.cells VA 261)).cell? ⟨sb,so,none⟩ = some (.int .i64 made):=by rw [World.cell?,hb2];exact h1.c0
 have y1 : (w1.drew.alloc (.cells VA 261)).cell? ⟨sb,so + 1,none⟩ = some (.slice ao mm cap):=by rw [World.cell?,hb2];exact h1.c1
 have y1' : (w1.alloc (.cells VA 261)).drew.cell? ⟨sb,so + 1,none⟩ = some (.slice ao mm cap):=y1
 refine Ey 4 11 8 15 (.slice ao mm cap) (.slice (some ⟨w1.drew.heap.size,0,none⟩) 1 1) (w1.drew.alloc (.cells VA 261)) (by decide) (by kernel_rfl) (by kernel_rfl) (by kernel_rfl) rfl rfl rfl rfl rfl rfl (by simp [execOp,Act.eval,go_sem,x1])
  (cB 129 (.tmp 14) rfl 261 i0 (.agg nh) underlying129 hi hz0 (by omega) (by omega) VA rfl (by rw [CY,hz1]))
  (cB 129 (.tmp 14) rfl 261 i0 (.agg nh) underlying129 hi hz0 (by omega) (by omega) VA rfl (by rw [CY,hz1]))
  (by simp [execOp,Act.eval,go_sem,y1']) hS0 ⟨y0,hn2⟩ ?_
 simp only [Act.put,pA,pB,pC];have Ea : (w1.drew.alloc (.cells VA 261)).ownsRow B 261 38 (.slice ao mm cap) kept.length (dc kept):=KA.owns (show w1.drew.ownsRow B 261 38 (.slice ao mm cap) kept.length (dc kept) from h1.row) (fun _ _ x=>x);have kM:=heap_alloc_new w1.drew (.cells VA 261)
 have hc6 : ∀ j u,(kJ ⟨made,s,0⟩)[j]? = some u -> (w1.drew.alloc (.cells VA 261)).cell? ((⟨w1.drew.heap.size,0,none⟩ : Addr).add j) = some u:=by
  intro j u hj;rw [jU,World.cell?,kM];show VA[j]? = some u;rw [<- Pe.out,List.getElem?_toArray];exact hj
 have hs6 : B <= (w1.drew.alloc (.cells VA 261)).heap.size:=by have:=KA.size;have e : w1.drew.heap.size = w1.heap.size:=rfl;omega
 refine dO 12 ?_;refine wp_append_own _ (.tmp 8) (.tmp 15) 129 rfl B 261 i0 (.agg nh) 38 88 underlying129 hi hz0 hz1 hz2 rfl (by decide) _ _ _ rfl Ea ⟨w1.drew.heap.size,0,none⟩ 1 1 (kJ ⟨made,s,0⟩) rfl (by rw [hvl]) hc6 Fs ?c3 ?c4 ?c5 ?_
 case c3=>unfold maxLen;omega
 case c4=>omega
 case c5=>exact hs6
 intro v8 w8 o8 g8 _;have hrn:=own_ne Ea hb2 h1.ne.symm;have Qg:=own_ne Ea hn2 (by decide);have KG : Kp (fun k=>(Value.slice ao mm cap).ownBlock = some k) (w1.drew.alloc (.cells VA 261)) w8:=(Kp.refl _ _).grown g8 (fun k hk _=>hk);have tF : w8.heap[sb]? = some (.cells C T (0,0)):=KG.at_ hb2 hrn
 have C0 : w8.cell? ⟨sb,so,none⟩ = some (.int .i64 made) /\ w8.heap[w.heap.size]? = some (.cells SA 95 (0,0)):=⟨by rw [World.cell?,tF];exact h1.c0,KG.at_ hn2 Qg⟩
 refine ⟨C0,?_⟩;refine tm 13 17 (.pointer (some ⟨sb,so,none⟩)) rfl (fun w' _=>by simp [execOp,Act.eval,go_sem,Act.put]) C0 ?_;refine tm 14 18 (.pointer (some ⟨sb,so + 1,none⟩)) rfl (fun w' _=>by simp [execOp,Act.eval,go_sem,Act.put]) C0 ?_;obtain ⟨zW,m2,cap2,rfl⟩:=cv o8
 have JF : w8.cell? ⟨sb,so + 1,none⟩ = some (.slice ao mm cap):=by rw [World.cell?,tF];exact h1.c1
 have Bw : w8.frozen? ⟨sb,so + 1,none⟩ = false:=by simp [World.frozen?,tF]
 have Qh : sb ≠ w.heap.size:=by intro e;rw [e,C0.2] at tF;simp only [Option.some.injEq,Obj.cells.injEq] at tF;exact hTs tF.2.1.symm
 have KS : Kp (fun k=>k = sb) w8 (w8.setCell ⟨sb,so + 1,none⟩ (.slice zW m2 cap2)):=(Kp.refl (fun k=>k = sb) w8).setCell (p:=⟨sb,so + 1,none⟩) (fun _=>rfl) _;have JE : (w8.setCell ⟨sb,so + 1,none⟩ (.slice zW m2 cap2)).heap[sb]? = some (.cells (C.setIfInBounds (so + 1) (.slice zW m2 cap2)) T (0,0)):=ah _ tF
 have hso : so + 1 < C.size:=by
  have:=h1.c1;exact (Array.getElem?_eq_some_iff.1 this).1
 have So : (C.setIfInBounds (so + 1) (.slice zW m2 cap2))[so]? = some (.int .i64 made):=by rw [Array.getElem?_setIfInBounds_ne (by omega)];exact h1.c0
 have zX : (w8.setCell ⟨sb,so + 1,none⟩ (.slice zW m2 cap2)).cell? ⟨sb,so,none⟩ = some (.int .i64 made) /\ (w8.setCell ⟨sb,so + 1,none⟩ (.slice zW m2 cap2)).heap[w.heap.size]? = some (.cells SA 95 (0,0)):=⟨by rw [World.cell?,JE];exact So,KS.at_ C0.2 Qh.symm⟩
 refine dO 15 ?_;unfold Oper.wp;simp only [execOp,Act.eval,Act.put];simp [go_sem,JF,Bw];refine ⟨⟨C0.1,zX.2⟩,?_⟩;refine wpAnyH_done (by kernel_rfl) (NoPanic.normal ?_) _;have K8 : Kp (fun k=>k = sb \/ (Value.slice ao mm cap).ownBlock = some k) w w8:=(((Ut.out.drew).trans KA).mono (fun _ _ x=>x.elim)).trans' KG (fun i _ x=>.inr x);have K9 : Kp (fun k=>k = sb \/ (Value.slice ao mm cap).ownBlock = some k) w (w8.setCell ⟨sb,so + 1,none⟩ (.slice zW m2 cap2)):=K8.trans' KS (fun i _ x=>.inl x);have Ft:=own_ne o8 tF h1.ne.symm;have L9:=KS.owns o8 (fun k e x=>Ft (by rw [<- x];exact e));generalize Qi : C.setIfInBounds (so + 1) (.slice zW m2 cap2) = C9 at *;generalize w8.setCell ⟨sb,so + 1,none⟩ (.slice zW m2 cap2) = w9 at *;have z0:=zX.1
 have zf : w9.frozen? ⟨sb,so,none⟩ = false:=by simp [World.frozen?,JE]
 have KT : Kp (fun k=>k = sb) w9 (w9.setCell ⟨sb,so,none⟩ (.int .i64 ((made : Int) + 1))):=(Kp.refl (fun k=>k = sb) w9).setCell (p:=⟨sb,so,none⟩) (fun _=>rfl) _;have Nc : (w9.setCell ⟨sb,so,none⟩ (.int .i64 ((made : Int) + 1))).heap[sb]? = some (.cells (C9.setIfInBounds so (.int .i64 ((made : Int) + 1))) T (0,0)):=ah _ JE;have JG:=own_ne L9 JE h1.ne.symm;have Nd:=KT.owns L9 (fun k e x=>JG (by rw [<- x];exact e));have Bx : Kp (fun k=>k = sb \/ (Value.slice ao mm cap).ownBlock = some k) w (w9.setCell ⟨sb,so,none⟩ (.int .i64 ((made : Int) + 1))):=K9.trans' KT (fun i _ x=>.inl x)
 have e10 : ((made + 1 : Nat) : Int) = (made : Int) + 1:=by omega
 have Qj : C9.size = C.size:=by rw [<- Qi];simp
 have h10 : m_ (w9.setCell ⟨sb,so,none⟩ (.int .i64 ((made : Int) + 1))) B sb so (C9.setIfInBounds so (.int .i64 ((made : Int) + 1))) T (made + 1) (kept ++ [⟨made,s,0⟩]) (.slice zW m2 cap2):=by
  refine ⟨Nc,?_,?_,?_,?_,h1.ne⟩
  ·rw [Array.getElem?_setIfInBounds_self_of_lt (by omega),e10]
  ·rw [Array.getElem?_setIfInBounds_ne (by omega),<- Qi,Array.getElem?_setIfInBounds_self_of_lt hso]
  ·rw [ki];simpa using Nd
  intro v hv
  rcases List.mem_append.1 hv with hv | hv
  ·exact h1.wf v hv
  simp at hv;subst hv;exact hs
 have Qk : B <= (w9.setCell ⟨sb,so,none⟩ (.int .i64 ((made : Int) + 1))).heap.size:=by have:=Bx.size;omega
 have ET:=hid (xL _ h10 Qk (by simp;omega) (by omega) (by
  intro v hv
  rcases List.mem_append.1 hv with hv | hv
  ·exact HH.out.2 v hv
  simp at hv;subst hv;simp;omega))
 have HK:=hid (ae Bx (ae Qi Qj));clear K8 K9 Ft L9 KS KT Nc JG Nd Bx h10 zX C0 KG o8 g8 hc6 kM Ea hb2 hn2 y0 y1 y1' JF Bw x0 x1 hS0 KA h1 JE So
 go_wp2_with fail
 refine hm ET ?_;rintro x Ki ⟨rfl,fV,q1,q2,q3,q4⟩;have HF:=hid (ae q1 (ae q2 (ae q3 q4)));clear ET q1 q2 q3 q4
 go_wp2_with fail
 go_end0
 obtain ⟨q1,q2,q3,q4⟩:=HF.out;refine ⟨rfl,fV,?_,q2,fun k e=>Nat.le_trans (by have:=HK.out.1.size;omega) (q3 k e),HK.out.1.trans' q4 (fun i _ x=>.inl x)⟩;rw [q1,<- HK.out.2.1,e10]
 congr 2
 apply Array.ext_getElem?;intro j;simp only [Array.getElem?_setIfInBounds,Array.size_setIfInBounds]
 by_cases e1 : so + 1 = j
 ·simp [e1]
 by_cases e2 : so = j
 ·simp [e2]
 simp [e1,e2]
end
end Go.Proofs.YtnlbchmfcebeeaaGreat
