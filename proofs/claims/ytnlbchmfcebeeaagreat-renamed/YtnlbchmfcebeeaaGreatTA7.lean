import Derived.Test.YtnlbchmfcebeeaaGreatTA6
import Derived.BigQuiet
import Derived.Deep.QuietTactic
set_option maxHeartbeats 12800000
set_option maxRecDepth 100000
namespace Go.Proofs.YtnlbchmfcebeeaaGreat
open Go.RowKit
namespace Ch
def r0 : Rs:=⟨0,[],[],[],[]⟩
theorem r0_ok (t : ByteArray) : Ok t r0:=⟨⟨Nat.le_refl _,Nat.le_refl _,Nat.le_refl _,Nat.le_refl _⟩,Nat.zero_le _⟩
def chart (t : ByteArray) : Bool × Rs :=
 if peek t 0 == 40 || peek t 0 == 91 then
  if (stateW t (itemsF t (t.size + 1)) (-1) r0).1 then ((((stateW t (itemsF t (t.size + 1)) (-1) r0).2.pos : Int) == (t.size : Int)),(stateW t (itemsF t (t.size + 1)) (-1) r0).2)
  else (false,(stateW t (itemsF t (t.size + 1)) (-1) r0).2)
 else (false,r0)
structure Ol where
 sts : List St
 trs : List Tr
 bls : List Bl
def read (t : ByteArray) : Int × Int × Ol :=
 if 240 < t.size then (1,0,⟨[],[],[]⟩)
 else if (chart t).1 then
  if (judge (chart t).2.sts (chart t).2.uses).1 == 0 then (0,0,⟨(chart t).2.sts,(chart t).2.trs,(chart t).2.bls⟩)
  else ((judge (chart t).2.sts (chart t).2.uses).1,(judge (chart t).2.sts (chart t).2.uses).2,⟨[],[],[]⟩)
 else (2,(chart t).2.pos,⟨[],[],[]⟩)
theorem chart_ok (t : ByteArray) : Ok t (chart t).2:=by
 unfold chart
 split
 ·rename_i q
  have hlt : 0 < t.size:=by
   rcases Nat.lt_or_ge 0 t.size with x | x
   ·exact x
   rw [peek_zero x] at q;simp at q
  have hs:=stateW_ok (fun a c s hc hs=>itemsF_ok (t.size + 1) a c s hc hs) (-1) (r:=r0) hlt (r0_ok t)
  split
  ·exact hs.1
  exact hs.1
 exact r0_ok t
end Ch
structure OlF (w : World) (B : Nat) (o : Ch.Ol) (sv tv bv : Value) (lt : List (Ch.Tr × Value)) (lb : List (Ch.Bl × Value)) : Prop where
 sts : w.ownsRow B 155 4 sv o.sts.length (stCells o.sts)
 mtr : lt.map (·.1) = o.trs
 trs : w.ownsRow B 209 7 tv lt.length (trCells lt)
 tra : ∀ x ∈ lt,w.ownsRow B 255 3 x.2 x.1.acts.length (acCells x.1.acts)
 mbl : lb.map (·.1) = o.bls
 bls : w.ownsRow B 282 3 bv lb.length (blCells lb)
 bla : ∀ x ∈ lb,w.ownsRow B 255 3 x.2 x.1.acts.length (acCells x.1.acts)
section
variable (B b : Nat) (t : ByteArray) (w : World)
theorem chart_any (H : Rd w B b t Ch.r0) (ht : t.size ≤ 240) :
 Calls Tryz.prog 68 #[.pointer (some ⟨b,0,none⟩)] w fun x w'=>x = .returned (.bool (Ch.chart t).1) ∧ Rd w' B b t (Ch.chart t).2 ∧ Below B w w':=by
 obtain ⟨sv,tv,bv,uv,lt,lb,h⟩:=H
 cases q40 : Ch.peek t 0 == 40 with
 | true =>
   have hlt : 0 < t.size:=Ch.lt_of_eq (c:=40) (by omega) q40
   have n40 : (Ch.peek t 0 != 40) = false:=by simpa using q40
   cases q1 : (Ch.stateW t (Ch.itemsF t (t.size + 1)) (-1) Ch.r0).1 with
   | false =>
     rw [show Ch.chart t = (false,(Ch.stateW t (Ch.itemsF t (t.size + 1)) (-1) Ch.r0).2) by simp [Ch.chart,q40,q1]];have q1:=hid q1;clear q40
     go_enter Tryz.func68,Tryz.ntmps68
     go_wp2_with fail
     refine (peek_any b t 0 _ h.blk.text h.blk.pos).mono ?_;rintro x w1 ⟨rfl,n1,rfl⟩;have K1 : Kp (fun k=>k = b) w (w.drewN n1):=(Kp.refl _ _).drewN _;have F1:=h.move K1 (fun _ _ x=>x) (h.blk.drewN n1);have B1 : Below B w (w.drewN n1):=K1.below h.lowSize (fun k x=>h.low (Or.inl x));generalize w.drewN n1 = w1 at K1 F1 B1 ⊢;clear K1 h
     go_wp2_with fail
     have E:=state_any B b t (t.size + 1) (items_any B b t ht _) w1 Ch.r0 (-1) ⟨_,_,_,_,_,_,F1⟩ (Ch.r0_ok t) hlt (by show t.size ≤ t.size + 1 + 0;omega) ht;rw [q1.out] at E;refine Calls.mono E ?_;rintro x w2 ⟨rfl,R2,B2⟩;have B3:=B1.trans B2;clear E F1 B1 B2;go_wp2;go_ret;exact ⟨rfl,R2,B3⟩
   | true=>?_
   rw [show Ch.chart t = ((((Ch.stateW t (Ch.itemsF t (t.size + 1)) (-1) Ch.r0).2.pos : Int) == (t.size : Int)),(Ch.stateW t (Ch.itemsF t (t.size + 1)) (-1) Ch.r0).2) by simp [Ch.chart,q40,q1]];have q1:=hid q1;clear q40
   go_enter Tryz.func68,Tryz.ntmps68
   go_wp2_with fail
   refine (peek_any b t 0 _ h.blk.text h.blk.pos).mono ?_;rintro x w1 ⟨rfl,n1,rfl⟩;have K1 : Kp (fun k=>k = b) w (w.drewN n1):=(Kp.refl _ _).drewN _;have F1:=h.move K1 (fun _ _ x=>x) (h.blk.drewN n1);have B1 : Below B w (w.drewN n1):=K1.below h.lowSize (fun k x=>h.low (Or.inl x));generalize w.drewN n1 = w1 at K1 F1 B1 ⊢;clear K1 h
   go_wp2_with fail
   have E:=state_any B b t (t.size + 1) (items_any B b t ht _) w1 Ch.r0 (-1) ⟨_,_,_,_,_,_,F1⟩ (Ch.r0_ok t) hlt (by show t.size ≤ t.size + 1 + 0;omega) ht;rw [q1.out] at E;refine Calls.mono E ?_;rintro x w2 ⟨rfl,R2,B2⟩;have B3:=B1.trans B2;clear E F1 B1 B2;obtain ⟨sv2,tv2,bv2,uv2,lt2,lb2,F2⟩:=R2;have c0:=F2.blk.text;have c1:=F2.blk.pos;have HH:=hid (And.intro F2 B3);clear F2 B3;go_wp2
   go_quiet (fail)
   go_wp2;go_ret;obtain ⟨F2,B3⟩:=HH.out;have K4 : Kp (fun k=>k = b) w2 (w2.drewN nq):=(Kp.refl _ _).drewN _;exact ⟨rfl,⟨_,_,_,_,_,_,F2.move K4 (fun _ _ x=>x) (F2.blk.drewN _)⟩,B3.trans (K4.below F2.lowSize (fun k x=>F2.low (Or.inl x)))⟩
 | false=>?_
 have n40 : (Ch.peek t 0 != 40) = true:=by simpa using q40
 cases q91 : Ch.peek t 0 == 91 with
 | true =>
   have hlt : 0 < t.size:=Ch.lt_of_eq (c:=91) (by omega) q91
   have n91 : (Ch.peek t 0 != 91) = false:=by simpa using q91
   cases q1 : (Ch.stateW t (Ch.itemsF t (t.size + 1)) (-1) Ch.r0).1 with
   | false =>
     rw [show Ch.chart t = (false,(Ch.stateW t (Ch.itemsF t (t.size + 1)) (-1) Ch.r0).2) by simp [Ch.chart,q40,q91,q1]];have q1:=hid q1;clear q40 q91
     go_enter Tryz.func68,Tryz.ntmps68
     go_wp2_with fail
     refine (peek_any b t 0 _ h.blk.text h.blk.pos).mono ?_;rintro x w1 ⟨rfl,n1,rfl⟩;have K1 : Kp (fun k=>k = b) w (w.drewN n1):=(Kp.refl _ _).drewN _;have F1:=h.move K1 (fun _ _ x=>x) (h.blk.drewN n1);have B1 : Below B w (w.drewN n1):=K1.below h.lowSize (fun k x=>h.low (Or.inl x));generalize w.drewN n1 = w1 at K1 F1 B1 ⊢;clear K1 h
     go_wp2_with fail
     have E:=state_any B b t (t.size + 1) (items_any B b t ht _) w1 Ch.r0 (-1) ⟨_,_,_,_,_,_,F1⟩ (Ch.r0_ok t) hlt (by show t.size ≤ t.size + 1 + 0;omega) ht;rw [q1.out] at E;refine Calls.mono E ?_;rintro x w2 ⟨rfl,R2,B2⟩;have B3:=B1.trans B2;clear E F1 B1 B2;go_wp2;go_ret;exact ⟨rfl,R2,B3⟩
   | true=>?_
   rw [show Ch.chart t = ((((Ch.stateW t (Ch.itemsF t (t.size + 1)) (-1) Ch.r0).2.pos : Int) == (t.size : Int)),(Ch.stateW t (Ch.itemsF t (t.size + 1)) (-1) Ch.r0).2) by simp [Ch.chart,q40,q91,q1]];have q1:=hid q1;clear q40 q91
   go_enter Tryz.func68,Tryz.ntmps68
   go_wp2_with fail
   refine (peek_any b t 0 _ h.blk.text h.blk.pos).mono ?_;rintro x w1 ⟨rfl,n1,rfl⟩;have K1 : Kp (fun k=>k = b) w (w.drewN n1):=(Kp.refl _ _).drewN _;have F1:=h.move K1 (fun _ _ x=>x) (h.blk.drewN n1);have B1 : Below B w (w.drewN n1):=K1.below h.lowSize (fun k x=>h.low (Or.inl x));generalize w.drewN n1 = w1 at K1 F1 B1 ⊢;clear K1 h
   go_wp2_with fail
   have E:=state_any B b t (t.size + 1) (items_any B b t ht _) w1 Ch.r0 (-1) ⟨_,_,_,_,_,_,F1⟩ (Ch.r0_ok t) hlt (by show t.size ≤ t.size + 1 + 0;omega) ht;rw [q1.out] at E;refine Calls.mono E ?_;rintro x w2 ⟨rfl,R2,B2⟩;have B3:=B1.trans B2;clear E F1 B1 B2;obtain ⟨sv2,tv2,bv2,uv2,lt2,lb2,F2⟩:=R2;have c0:=F2.blk.text;have c1:=F2.blk.pos;have HH:=hid (And.intro F2 B3);clear F2 B3;go_wp2
   go_quiet (fail)
   go_wp2;go_ret;obtain ⟨F2,B3⟩:=HH.out;have K4 : Kp (fun k=>k = b) w2 (w2.drewN nq):=(Kp.refl _ _).drewN _;exact ⟨rfl,⟨_,_,_,_,_,_,F2.move K4 (fun _ _ x=>x) (F2.blk.drewN _)⟩,B3.trans (K4.below F2.lowSize (fun k x=>F2.low (Or.inl x)))⟩
 | false=>?_
 rw [show Ch.chart t = (false,Ch.r0) by simp [Ch.chart,q40,q91]]
 have n91 : (Ch.peek t 0 != 91) = true:=by simpa using q91
 clear q40 q91
 go_enter Tryz.func68,Tryz.ntmps68
 go_wp2_with fail
 refine (peek_any b t 0 _ h.blk.text h.blk.pos).mono ?_;rintro x w1 ⟨rfl,n1,rfl⟩;have K1 : Kp (fun k=>k = b) w (w.drewN n1):=(Kp.refl _ _).drewN _;have F1:=h.move K1 (fun _ _ x=>x) (h.blk.drewN n1);have B1 : Below B w (w.drewN n1):=K1.below h.lowSize (fun k x=>h.low (Or.inl x));generalize w.drewN n1 = w1 at K1 F1 B1 ⊢;clear K1 h;go_wp2;go_ret;exact ⟨rfl,⟨_,_,_,_,_,_,F1⟩,B1⟩
end
theorem OlF.nil (w : World) (B : Nat) : OlF w B ⟨[],[],[]⟩ (.slice none 0 0) (.slice none 0 0) (.slice none 0 0) [] [] :=
 ⟨World.ownsRow_nil _ _ _ _,rfl,World.ownsRow_nil _ _ _ _,by simp,rfl,World.ownsRow_nil _ _ _ _,by simp⟩
def set5 (w : World) (b : Nat) (v0 v1 v2 v3 v4 : Value) : World :=
 ((((w.setCell ⟨b,0,none⟩ v0).setCell ⟨b,1,none⟩ v1).setCell ⟨b,2,none⟩ v2).setCell ⟨b,3,none⟩ v3).setCell ⟨b,4,none⟩ v4
theorem set5_heap {w : World} {b : Nat} {c0 c1 c2 c3 c4 : Value} {T : TypeId} (h : w.heap[b]? = some (.cells #[c0,c1,c2,c3,c4] T (0,0))) (v0 v1 v2 v3 v4 : Value) :
 (set5 w b v0 v1 v2 v3 v4).heap[b]? = some (.cells #[v0,v1,v2,v3,v4] T (0,0)):=by
 unfold set5;rw [heap_set_same _ (heap_set_same _ (heap_set_same _ (heap_set_same _ (heap_set_same _ h))))];rfl
theorem set5_kp (w : World) (b : Nat) (v0 v1 v2 v3 v4 : Value) : Kp (fun k=>k = b) w (set5 w b v0 v1 v2 v3 v4) :=
 ((((((Kp.refl _ _).setCell (by intro _;rfl) _).setCell (by intro _;rfl) _).setCell (by intro _;rfl) _).setCell (by intro _;rfl) _).setCell (by intro _;rfl) _)
section
variable (t : ByteArray) (w : World)
theorem read_any :
 Calls Tryz.prog 42 #[.string t] w fun x w'=>∃ sv tv bv lt lb,x = .returned (.agg #[.int .i64 (Ch.read t).1,.int .i64 (Ch.read t).2.1,sv,tv,bv]) ∧ OlF w' w.heap.size (Ch.read t).2.2 sv tv bv lt lb ∧ Below w.heap.size w w':=by
 by_cases hbig : 240 < t.size
 ·rw [show Ch.read t = (1,0,⟨[],[],[]⟩) by unfold Ch.read;rw [if_pos hbig]]
  have hb' : (240 : Int) < (t.size : Int):=by omega
  go_enter Tryz.func42,Tryz.ntmps42
  go_wp2_with fail
  exact bodyPost_ret (v:=.agg #[.int .i64 1,.int .i64 0,.slice none 0 0,.slice none 0 0,.slice none 0 0]) (by simp [results,Tryz.results42,go_sem]) rfl ⟨_,_,_,_,_,rfl,OlF.nil _ _,(Below.refl _ _).alloc (Nat.le_refl _) _⟩
 have hb' : ¬ (240 : Int) < (t.size : Int):=by omega
 have ht : t.size ≤ 240:=by omega
 have hok:=Ch.chart_ok t
 have H1 : Rd ((w.alloc (.cells #[.int .i64 0,.int .i64 0,.slice none 0 0,.slice none 0 0,.slice none 0 0] 87)).alloc (.cells #[.string t,.int .i64 0,.int .i64 0,.int .i64 0,.slice none 0 0,.slice none 0 0,.slice none 0 0,.slice none 0 0] 143)) (w.heap.size + 1) (w.heap.size + 1) t Ch.r0:=by
  refine ⟨.slice none 0 0,.slice none 0 0,.slice none 0 0,.slice none 0 0,[],[],?_,World.ownsRow_nil _ _ _ _,rfl,World.ownsRow_nil _ _ _ _,by simp,rfl,World.ownsRow_nil _ _ _ _,by simp,World.ownsRow_nil _ _ _ _,Nat.le_refl _⟩;have e:=heap_alloc_new (w.alloc (.cells #[.int .i64 0,.int .i64 0,.slice none 0 0,.slice none 0 0,.slice none 0 0] 87)) (.cells #[.string t,.int .i64 0,.int .i64 0,.int .i64 0,.slice none 0 0,.slice none 0 0,.slice none 0 0,.slice none 0 0] 143);rw [World.size_alloc] at e;exact e
 have hr1 : ((w.alloc (.cells #[.int .i64 0,.int .i64 0,.slice none 0 0,.slice none 0 0,.slice none 0 0] 87)).alloc (.cells #[.string t,.int .i64 0,.int .i64 0,.int .i64 0,.slice none 0 0,.slice none 0 0,.slice none 0 0,.slice none 0 0] 143)).heap[w.heap.size]? = some (.cells #[.int .i64 0,.int .i64 0,.slice none 0 0,.slice none 0 0,.slice none 0 0] 87):=by
  rw [Below.heap_alloc _ _ _ (by simp)];exact heap_alloc_new _ _
 have B1 : Below w.heap.size w ((w.alloc (.cells #[.int .i64 0,.int .i64 0,.slice none 0 0,.slice none 0 0,.slice none 0 0] 87)).alloc (.cells #[.string t,.int .i64 0,.int .i64 0,.int .i64 0,.slice none 0 0,.slice none 0 0,.slice none 0 0,.slice none 0 0] 143)):=((Below.refl _ _).alloc (Nat.le_refl _) _).alloc (by simp) _;have E:=hid (chart_any (w.heap.size + 1) (w.heap.size + 1) t ((w.alloc (.cells #[.int .i64 0,.int .i64 0,.slice none 0 0,.slice none 0 0,.slice none 0 0] 87)).alloc (.cells #[.string t,.int .i64 0,.int .i64 0,.int .i64 0,.slice none 0 0,.slice none 0 0,.slice none 0 0,.slice none 0 0] 143)) H1 ht);clear H1
 cases q1 : (Ch.chart t).1 with
 | false =>
   rw [show Ch.read t = (2,((Ch.chart t).2.pos : Int),Ch.Ol.mk [] [] []) by unfold Ch.read;rw [if_neg hbig];simp [q1]];rw [q1] at E;have HX:=hid (And.intro hr1 B1);clear hr1 B1 hbig q1
   go_enter Tryz.func42,Tryz.ntmps42
   go_wp2_with fail
   refine hm E ?_;rintro x w2 ⟨rfl,⟨sv,tv,bv,uv,lt,lb,F2⟩,B2⟩;have hr2 : w2.heap[w.heap.size]? = some (.cells #[.int .i64 0,.int .i64 0,.slice none 0 0,.slice none 0 0,.slice none 0 0] 87):=(B2.block _ (by omega)).trans HX.out.1;have B3:=HX.out.2.trans (B2.mono (Nat.le_succ _));have c1:=F2.blk.pos
   have r0 : w2.cell? ⟨w.heap.size,0,none⟩ = some (.int .i64 0):=by simp [World.cell?,hr2]
   have r1 : w2.cell? ⟨w.heap.size,1,none⟩ = some (.int .i64 0):=by simp [World.cell?,hr2]
   have r2 : w2.cell? ⟨w.heap.size,2,none⟩ = some (.slice none 0 0):=by simp [World.cell?,hr2]
   have r3 : w2.cell? ⟨w.heap.size,3,none⟩ = some (.slice none 0 0):=by simp [World.cell?,hr2]
   have r4 : w2.cell? ⟨w.heap.size,4,none⟩ = some (.slice none 0 0):=by simp [World.cell?,hr2]
   have fr : ∀ i,w2.frozen? ⟨w.heap.size,i,none⟩ = false:=by intro i;simp [World.frozen?,hr2]
   have HX2:=hid (And.intro hr2 (And.intro F2 B3));clear HX E hr2 F2 B2 B3;go_wp2;obtain ⟨hr2,F2,B3⟩:=HX2.out;have hrW:=set5_heap hr2 (.int .i64 2) (.int .i64 ((Ch.chart t).2.pos : Int)) (.slice none 0 0) (.slice none 0 0) (.slice none 0 0);have KW:=set5_kp w2 w.heap.size (.int .i64 2) (.int .i64 ((Ch.chart t).2.pos : Int)) (.slice none 0 0) (.slice none 0 0) (.slice none 0 0)
   change bodyPost _ _ _ _ _ (set5 w2 w.heap.size (.int .i64 2) (.int .i64 ((Ch.chart t).2.pos : Int)) (.slice none 0 0) (.slice none 0 0) (.slice none 0 0))
   generalize set5 w2 w.heap.size (.int .i64 2) (.int .i64 ((Ch.chart t).2.pos : Int)) (.slice none 0 0) (.slice none 0 0) (.slice none 0 0) = wz at hrW KW ⊢
   have z0 : wz.cell? ⟨w.heap.size,0,none⟩ = some (.int .i64 2):=by simp [World.cell?,hrW]
   have z1 : wz.cell? ⟨w.heap.size,1,none⟩ = some (.int .i64 ((Ch.chart t).2.pos : Int)):=by simp [World.cell?,hrW]
   have z2 : wz.cell? ⟨w.heap.size,2,none⟩ = some (.slice none 0 0):=by simp [World.cell?,hrW]
   have z3 : wz.cell? ⟨w.heap.size,3,none⟩ = some (.slice none 0 0):=by simp [World.cell?,hrW]
   have z4 : wz.cell? ⟨w.heap.size,4,none⟩ = some (.slice none 0 0):=by simp [World.cell?,hrW]
   have BW : Below w.heap.size w wz:=B3.trans (KW.below (by have:=B3.size;omega) (fun k x=>by omega));refine bodyPost_ret (v:=.agg #[.int .i64 2,.int .i64 ((Ch.chart t).2.pos : Int),.slice none 0 0,.slice none 0 0,.slice none 0 0]) (by simp [results,Tryz.results42,go_sem,z0,z1,z2,z3,z4]) rfl ?_;exact ⟨_,_,_,_,_,rfl,OlF.nil _ _,BW⟩
 | true=>?_
 obtain ⟨⟨d1,d2,d3,d4⟩,d5⟩:=hok;have HX:=hid (And.intro hr1 B1);rw [q1] at E;clear hr1 B1
 cases q2 : (Ch.judge (Ch.chart t).2.sts (Ch.chart t).2.uses).1 == 0 with
 | false =>
   rw [show Ch.read t = ((Ch.judge (Ch.chart t).2.sts (Ch.chart t).2.uses).1,(Ch.judge (Ch.chart t).2.sts (Ch.chart t).2.uses).2,Ch.Ol.mk [] [] []) by unfold Ch.read;rw [if_neg hbig];simp [q1,q2]];have q2:=hid q2;clear q1 hbig
   go_enter Tryz.func42,Tryz.ntmps42
   go_wp2_with fail
   refine hm E ?_;rintro x w2 ⟨rfl,⟨sv,tv,bv,uv,lt,lb,F2⟩,B2⟩;have hr2 : w2.heap[w.heap.size]? = some (.cells #[.int .i64 0,.int .i64 0,.slice none 0 0,.slice none 0 0,.slice none 0 0] 87):=(B2.block _ (by omega)).trans HX.out.1;have B3:=HX.out.2.trans (B2.mono (Nat.le_succ _));have c7:=F2.blk.c7;have HX2:=hid (And.intro hr2 (And.intro F2 B3));clear HX E hr2 F2 B2 B3
   go_wp2_with fail
   obtain ⟨hr2,F2,B3⟩:=HX2.out;have EJ:=judge_any (w.heap.size + 1) 2 w2 (Ch.chart t).2.sts uv (Ch.chart t).2.uses _ F2.uses (by omega) ⟨_,_,F2.blk.c4,F2.sts⟩ (by omega);refine Calls.mono EJ ?_;rintro x w3 ⟨rfl,K3⟩;clear EJ HX2 c7;have hr3 : w3.heap[w.heap.size]? = some (.cells #[.int .i64 0,.int .i64 0,.slice none 0 0,.slice none 0 0,.slice none 0 0] 87):=K3.at_ hr2 (fun x=>x);have F3:=F2.move K3 (fun _ _ x=>x.elim) (F2.blk.keep K3 (fun x=>x));have B4:=B3.trans (K3.below (by have:=B3.size;omega) (fun k x=>x.elim));clear hr2 F2 B3 K3;generalize hjj : Ch.judge (Ch.chart t).2.sts (Ch.chart t).2.uses = jj at q2 ⊢;have HJ:=hid hjj;clear hjj;obtain ⟨je,ja⟩:=jj
   have hra : ∀ o,(w3.alloc o).heap[w.heap.size]? = some (.cells #[.int .i64 0,.int .i64 0,.slice none 0 0,.slice none 0 0,.slice none 0 0] 87):=fun o=>(Below.heap_alloc _ _ _ (lt_of_block hr3)).trans hr3
   have r0 : ∀ o,(w3.alloc o).cell? ⟨w.heap.size,0,none⟩ = some (.int .i64 0):=by intro o;simp [World.cell?,hra]
   have r1 : ∀ o,(w3.alloc o).cell? ⟨w.heap.size,1,none⟩ = some (.int .i64 0):=by intro o;simp [World.cell?,hra]
   have r2 : ∀ o,(w3.alloc o).cell? ⟨w.heap.size,2,none⟩ = some (.slice none 0 0):=by intro o;simp [World.cell?,hra]
   have r3 : ∀ o,(w3.alloc o).cell? ⟨w.heap.size,3,none⟩ = some (.slice none 0 0):=by intro o;simp [World.cell?,hra]
   have r4 : ∀ o,(w3.alloc o).cell? ⟨w.heap.size,4,none⟩ = some (.slice none 0 0):=by intro o;simp [World.cell?,hra]
   have fr : ∀ o i,(w3.alloc o).frozen? ⟨w.heap.size,i,none⟩ = false:=by intro o i;simp [World.frozen?,hra]
   have qn : (je != 0) = true:=by have:=q2.out;simpa using this
   have HX3:=hid (And.intro hra (And.intro F3 B4));clear hr3 hra F3 B4 q2;go_wp2;obtain ⟨hra,F3,B4⟩:=HX3.out;have hr2:=hra (.cells #[.int .i64 je,.int .i64 ja] 145);have B3:=B4.alloc (by have:=B4.size;omega) (.cells #[.int .i64 je,.int .i64 ja] 145);have hrW:=set5_heap hr2 (.int .i64 je) (.int .i64 ja) (.slice none 0 0) (.slice none 0 0) (.slice none 0 0);have KW:=set5_kp (w3.alloc (.cells #[.int .i64 je,.int .i64 ja] 145)) w.heap.size (.int .i64 je) (.int .i64 ja) (.slice none 0 0) (.slice none 0 0) (.slice none 0 0)
   change bodyPost _ _ _ _ _ (set5 (w3.alloc (.cells #[.int .i64 je,.int .i64 ja] 145)) w.heap.size (.int .i64 je) (.int .i64 ja) (.slice none 0 0) (.slice none 0 0) (.slice none 0 0))
   generalize set5 (w3.alloc (.cells #[.int .i64 je,.int .i64 ja] 145)) w.heap.size (.int .i64 je) (.int .i64 ja) (.slice none 0 0) (.slice none 0 0) (.slice none 0 0) = wz at hrW KW ⊢
   have z0 : wz.cell? ⟨w.heap.size,0,none⟩ = some (.int .i64 je):=by simp [World.cell?,hrW]
   have z1 : wz.cell? ⟨w.heap.size,1,none⟩ = some (.int .i64 ja):=by simp [World.cell?,hrW]
   have z2 : wz.cell? ⟨w.heap.size,2,none⟩ = some (.slice none 0 0):=by simp [World.cell?,hrW]
   have z3 : wz.cell? ⟨w.heap.size,3,none⟩ = some (.slice none 0 0):=by simp [World.cell?,hrW]
   have z4 : wz.cell? ⟨w.heap.size,4,none⟩ = some (.slice none 0 0):=by simp [World.cell?,hrW]
   have BW : Below w.heap.size w wz:=B3.trans (KW.below (by have:=B3.size;omega) (fun k x=>by omega));refine bodyPost_ret (v:=.agg #[.int .i64 je,.int .i64 ja,.slice none 0 0,.slice none 0 0,.slice none 0 0]) (by simp [results,Tryz.results42,go_sem,z0,z1,z2,z3,z4]) rfl ?_;rw [HJ.out];exact ⟨_,_,_,_,_,rfl,OlF.nil _ _,BW⟩
 | true=>?_
 rw [show Ch.read t = (0,0,Ch.Ol.mk (Ch.chart t).2.sts (Ch.chart t).2.trs (Ch.chart t).2.bls) by unfold Ch.read;rw [if_neg hbig];simp [q1,q2]];have q2:=hid q2;clear q1 hbig
 go_enter Tryz.func42,Tryz.ntmps42
 go_wp2_with fail
 refine hm E ?_;rintro x w2 ⟨rfl,⟨sv,tv,bv,uv,lt,lb,F2⟩,B2⟩;have hr2 : w2.heap[w.heap.size]? = some (.cells #[.int .i64 0,.int .i64 0,.slice none 0 0,.slice none 0 0,.slice none 0 0] 87):=(B2.block _ (by omega)).trans HX.out.1;have B3:=HX.out.2.trans (B2.mono (Nat.le_succ _));have c7:=F2.blk.c7;have HX2:=hid (And.intro hr2 (And.intro F2 B3));clear HX E hr2 F2 B2 B3
 go_wp2_with fail
 obtain ⟨hr2,F2,B3⟩:=HX2.out;have EJ:=judge_any (w.heap.size + 1) 2 w2 (Ch.chart t).2.sts uv (Ch.chart t).2.uses _ F2.uses (by omega) ⟨_,_,F2.blk.c4,F2.sts⟩ (by omega);refine Calls.mono EJ ?_;rintro x w3 ⟨rfl,K3⟩;clear EJ HX2 c7;have hr3 : w3.heap[w.heap.size]? = some (.cells #[.int .i64 0,.int .i64 0,.slice none 0 0,.slice none 0 0,.slice none 0 0] 87):=K3.at_ hr2 (fun x=>x);have F3:=F2.move K3 (fun _ _ x=>x.elim) (F2.blk.keep K3 (fun x=>x));have B4:=B3.trans (K3.below (by have:=B3.size;omega) (fun k x=>x.elim));clear hr2 F2 B3 K3;generalize Ch.judge (Ch.chart t).2.sts (Ch.chart t).2.uses = jj at q2 ⊢;obtain ⟨je,ja⟩:=jj
 have hra : ∀ o,(w3.alloc o).heap[w.heap.size]? = some (.cells #[.int .i64 0,.int .i64 0,.slice none 0 0,.slice none 0 0,.slice none 0 0] 87):=fun o=>(Below.heap_alloc _ _ _ (lt_of_block hr3)).trans hr3
 have r0 : ∀ o,(w3.alloc o).cell? ⟨w.heap.size,0,none⟩ = some (.int .i64 0):=by intro o;simp [World.cell?,hra]
 have r1 : ∀ o,(w3.alloc o).cell? ⟨w.heap.size,1,none⟩ = some (.int .i64 0):=by intro o;simp [World.cell?,hra]
 have r2 : ∀ o,(w3.alloc o).cell? ⟨w.heap.size,2,none⟩ = some (.slice none 0 0):=by intro o;simp [World.cell?,hra]
 have r3 : ∀ o,(w3.alloc o).cell? ⟨w.heap.size,3,none⟩ = some (.slice none 0 0):=by intro o;simp [World.cell?,hra]
 have r4 : ∀ o,(w3.alloc o).cell? ⟨w.heap.size,4,none⟩ = some (.slice none 0 0):=by intro o;simp [World.cell?,hra]
 have fr : ∀ o i,(w3.alloc o).frozen? ⟨w.heap.size,i,none⟩ = false:=by intro o i;simp [World.frozen?,hra]
 have qn : (je != 0) = false:=by have:=q2.out;simpa using this
 obtain ⟨sa,sb,sc,rfl⟩:=own_slice F3.sts;obtain ⟨ta,tb,tc,rfl⟩:=own_slice F3.trs;obtain ⟨ba,bb,bc,rfl⟩:=own_slice F3.bls
 have m2 : ∀ o,(w3.alloc o).cell? ⟨w.heap.size + 1,2,none⟩ = some (.int .i64 0):=fun o=>(F3.blk.alloc o).c2
 have m3 : ∀ o,(w3.alloc o).cell? ⟨w.heap.size + 1,3,none⟩ = some (.int .i64 0):=fun o=>(F3.blk.alloc o).c3
 have m4 : ∀ o,(w3.alloc o).cell? ⟨w.heap.size + 1,4,none⟩ = some (.slice sa sb sc):=fun o=>(F3.blk.alloc o).c4
 have m5 : ∀ o,(w3.alloc o).cell? ⟨w.heap.size + 1,5,none⟩ = some (.slice ta tb tc):=fun o=>(F3.blk.alloc o).c5
 have m6 : ∀ o,(w3.alloc o).cell? ⟨w.heap.size + 1,6,none⟩ = some (.slice ba bb bc):=fun o=>(F3.blk.alloc o).c6
 have HX3:=hid (And.intro hra (And.intro F3 B4));clear hr3 hra F3 B4 q2;go_wp2;obtain ⟨hra,F3,B4⟩:=HX3.out;have hr2:=hra (.cells #[.int .i64 je,.int .i64 ja] 145);have B3:=B4.alloc (by have:=B4.size;omega) (.cells #[.int .i64 je,.int .i64 ja] 145);have hrW:=set5_heap hr2 (.int .i64 0) (.int .i64 0) (.slice sa sb sc) (.slice ta tb tc) (.slice ba bb bc);have KW:=set5_kp (w3.alloc (.cells #[.int .i64 je,.int .i64 ja] 145)) w.heap.size (.int .i64 0) (.int .i64 0) (.slice sa sb sc) (.slice ta tb tc) (.slice ba bb bc)
 change bodyPost _ _ _ _ _ (set5 (w3.alloc (.cells #[.int .i64 je,.int .i64 ja] 145)) w.heap.size (.int .i64 0) (.int .i64 0) (.slice sa sb sc) (.slice ta tb tc) (.slice ba bb bc))
 generalize set5 (w3.alloc (.cells #[.int .i64 je,.int .i64 ja] 145)) w.heap.size (.int .i64 0) (.int .i64 0) (.slice sa sb sc) (.slice ta tb tc) (.slice ba bb bc) = wz at hrW KW ⊢
 have z0 : wz.cell? ⟨w.heap.size,0,none⟩ = some (.int .i64 0):=by simp [World.cell?,hrW]
 have z1 : wz.cell? ⟨w.heap.size,1,none⟩ = some (.int .i64 0):=by simp [World.cell?,hrW]
 have z2 : wz.cell? ⟨w.heap.size,2,none⟩ = some (.slice sa sb sc):=by simp [World.cell?,hrW]
 have z3 : wz.cell? ⟨w.heap.size,3,none⟩ = some (.slice ta tb tc):=by simp [World.cell?,hrW]
 have z4 : wz.cell? ⟨w.heap.size,4,none⟩ = some (.slice ba bb bc):=by simp [World.cell?,hrW]
 have BW : Below w.heap.size w wz:=B3.trans (KW.below (by have:=B3.size;omega) (fun k x=>by omega));refine bodyPost_ret (v:=.agg #[.int .i64 0,.int .i64 0,.slice sa sb sc,.slice ta tb tc,.slice ba bb bc]) (by simp [results,Tryz.results42,go_sem,z0,z1,z2,z3,z4]) rfl ?_;have KZ : Kp (fun k=>k = w.heap.size) w3 wz:=((Kp.refl _ _).alloc (.cells #[.int .i64 je,.int .i64 ja] 145)).trans KW
 have hS : ∀ {base e size v n xs},w3.ownsRow base e size v n xs → w.heap.size + 1 ≤ base → ∀ i,v.ownBlock = some i → ¬ i = w.heap.size:=by
  intro base e size v n xs ho hb i hi he;have:=(ho.lt i hi).1;omega
 have ok : ∀ {e size v n xs},w3.ownsRow (w.heap.size + 1) e size v n xs → wz.ownsRow w.heap.size e size v n xs:=fun ho=>own_weaken (KZ.owns ho (hS ho (Nat.le_refl _))) (Nat.le_succ _)
 exact ⟨_,_,_,lt,lb,rfl,⟨ok F3.sts,F3.mtr,ok F3.trs,fun x hx=>ok (F3.tra x hx),F3.mbl,ok F3.bls,fun x hx=>ok (F3.bla x hx)⟩,BW⟩
end
theorem Tryz.sizeOl : (Tryz.prog.info? 87).map (·.size) = some 5:=by kernel_rfl
theorem Kp.setRow {S : Nat → Prop} {a w : World} (h : Kp S a w) {g : Nat} (hp : g < a.heap.size → S g) (cs : Array Value) : Kp S a (w.setRow g cs) :=
 h.trans' (S':=fun k=>k = g) ⟨rfl,rfl,rfl,by simp,fun k _ hn=>setRow_other _ _ _ _ hn⟩ (fun i hi e=>by subst e;exact hp hi)
theorem kpOfBelow {w w' : World} (b : Below w.heap.size w w') : Kp (fun _=>False) w w':=⟨b.os,b.tape,b.output,b.size,fun k hk _=>b.block k hk⟩
def olA (e f : Int) (sv tv bv : Value) : Array Value:=#[.int .i64 e,.int .i64 f,sv,tv,bv]
theorem olOne {e f : Int} {sv tv bv : Value} (h1 : sv.oneCell' = true) (h2 : tv.oneCell' = true) (h3 : bv.oneCell' = true) : (olA e f sv tv bv).all (fun x=>x.oneCell') = true:=by
 apply Array.all_eq_true_iff_forall_mem.2;intro x hx;simp only [olA,List.mem_toArray,List.mem_cons,List.not_mem_nil,or_false] at hx
 rcases hx with rfl | rfl | rfl | rfl | rfl <;> first | rfl | assumption
theorem own_one {w : World} {base : Nat} {e : TypeId} {size : Nat} {v : Value} {n : Nat} {xs : List Value} (h : w.ownsRow base e size v n xs) : v.oneCell' = true:=by
 obtain ⟨a,m,c,rfl⟩:=own_slice h;rfl
section
variable (w : World)
theorem cCheck_any (t : ByteArray) :
 Calls Tryz.prog 47 #[.string t] w fun x w'=>x = .returned (.tuple #[.int .i64 (Ch.read t).1,.int .i64 (Ch.read t).2.1]) ∧ Kp (fun _=>False) w w':=by
 have E0:=hid (read_any t w)
 go_enter Tryz.func47,Tryz.ntmps47
 go_wp2_with fail
 refine hm E0 ?_;rintro x w2 ⟨sv,tv,bv,lt,lb,rfl,F2,B2⟩;have K2:=kpOfBelow B2;have oOne:=olOne (e:=(Ch.read t).1) (f:=(Ch.read t).2.1) (own_one F2.sts) (own_one F2.trs) (own_one F2.bls);have hnew:=heap_alloc_new w2 (.cells y5L 87);have hrow:=setRow_heap (w2.alloc (.cells y5L 87)) w2.heap.size _ (olA (Ch.read t).1 (Ch.read t).2.1 sv tv bv) 87 (0,0) hnew;have K3 : Kp (fun _=>False) w ((w2.alloc (.cells y5L 87)).setRow w2.heap.size (olA (Ch.read t).1 (Ch.read t).2.1 sv tv bv)):=(K2.alloc _).setRow (fun x=>by have:=K2.size;omega) _;clear E0 B2 F2 K2
 go_upto_region 2 with (refine wpList_store_row rfl 87 (.tmp 4) (.tmp 6) rfl w2.heap.size (olA (Ch.read t).1 (Ch.read t).2.1 sv tv bv) rfl rfl 87 y5L hnew Tryz.sizeOl rfl oOne ?_)
 generalize (w2.alloc (.cells y5L 87)).setRow w2.heap.size (olA (Ch.read t).1 (Ch.read t).2.1 sv tv bv) = w3 at *;generalize w2.heap.size = ob at *
 have z0 : w3.cell? ⟨ob,0,none⟩ = some (.int .i64 (Ch.read t).1):=by rw [World.cell?,hrow];rfl
 have z1 : w3.cell? ⟨ob,1,none⟩ = some (.int .i64 (Ch.read t).2.1):=by rw [World.cell?,hrow];rfl
 clear hnew oOne hrow
 go_quiet (fail)
 go_wp2;go_ret2;exact ⟨rfl,K3.drewN _⟩
end
end Go.Proofs.YtnlbchmfcebeeaaGreat
