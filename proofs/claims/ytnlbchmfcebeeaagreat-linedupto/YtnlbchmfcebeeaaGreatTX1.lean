import Derived.Test.YtnlbchmfcebeeaaGreatTA6
set_option maxHeartbeats 12800000
set_option maxRecDepth 100000
namespace Go.Proofs.YtnlbchmfcebeeaaGreat
open Go.Proofs.Tryz Ch
open Go.RowKit
namespace Ch
def r0 : Rs:=⟨0,[],[],[],[]⟩
theorem pD (t : ByteArray) : Ok t r0:=⟨⟨Nat.le_refl _,Nat.le_refl _,Nat.le_refl _,Nat.le_refl _⟩,Nat.zero_le _⟩
def chart (t : ByteArray) : Bool × Rs :=
 if af t 0 == 40 || af t 0 == 91 then
  if (aE t (ai t (t.size + 1)) (-1) r0).1 then ((((aE t (ai t (t.size + 1)) (-1) r0).2.pos : Int) == (t.size : Int)),(aE t (ai t (t.size + 1)) (-1) r0).2)
  else (false,(aE t (ai t (t.size + 1)) (-1) r0).2)
 else (false,r0)
structure Ol where
 ag : List St
 bH : List Tr
 cM : List Bl
def read (t : ByteArray) : Int × Int × Ol :=
 if 240 < t.size then (1,0,⟨[],[],[]⟩)
 else if (chart t).1 then
  if (judge (chart t).2.ag (chart t).2.uses).1 == 0 then (0,0,⟨(chart t).2.ag,(chart t).2.bH,(chart t).2.cM⟩)
  else ((judge (chart t).2.ag (chart t).2.uses).1,(judge (chart t).2.ag (chart t).2.uses).2,⟨[],[],[]⟩)
 else (2,(chart t).2.pos,⟨[],[],[]⟩)
theorem wU (t : ByteArray) : Ok t (chart t).2:=by
 unfold chart
 split
 ·rename_i q
  have hlt : 0 < t.size:=by
   rcases Nat.lt_or_ge 0 t.size with x | x
   ·exact x
   rw [bJ x] at q;simp at q
  have hs:=fP (fun a c s hc hs=>gD (t.size + 1) a c s hc hs) (-1) (r:=r0) hlt (pD t)
  split
  ·exact hs.1
  exact hs.1
 exact pD t
end Ch
structure qY (w : World) (B : Nat) (o : Ol) (sv tv bv : Value) (lt : List (Tr × Value)) (lb : List (Bl × Value)) : Prop where
 ag : w.ownsRow B 155 4 sv o.ag.length (bZ o.ag)
 wM : lt.map (·.1) = o.bH
 bH : w.ownsRow B 209 7 tv lt.length (j8 lt)
 kx : ∀ x ∈ lt,w.ownsRow B 255 3 x.2 x.1.acts.length (cX x.1.acts)
 y7 : lb.map (·.1) = o.cM
 cM : w.ownsRow B 282 3 bv lb.length (j9 lb)
 kH : ∀ x ∈ lb,w.ownsRow B 255 3 x.2 x.1.acts.length (cX x.1.acts)
section
variable (B b : Nat) (t : ByteArray) (w : World)
theorem Co (H : Rd w B b t Ch.r0) (ht : t.size <= 240) :
 Calls prog 68 #[.pointer (some ⟨b,0,none⟩)] w fun x w'=>x = .returned (.bool (chart t).1) /\ Rd w' B b t (chart t).2 /\ Below B w w':=by
 obtain ⟨sv,tv,bv,uv,lt,lb,h⟩:=H
 cases kT : af t 0 == 40 with
 | true =>
   have hlt : 0 < t.size:=cd (c:=40) (by omega) kT
   have n40 : (af t 0 != 40) = false:=by simpa using kT
   cases q1 : (aE t (ai t (t.size + 1)) (-1) Ch.r0).1 with
   | false =>
     rw [show chart t = (false,(aE t (ai t (t.size + 1)) (-1) Ch.r0).2) by simp [chart,kT,q1]];have q1:=hid q1;clear kT
     go_enter func68,ntmps68
     go_wp2_with fail
     refine (aD b t 0 _ h.blk.text h.blk.pos).mono ?_;rintro x w1 ⟨rfl,n1,rfl⟩;have K1 : Kp (fun k=>k = b) w (w.drewN n1):=(Kp.refl _ _).drewN _;have F1:=h.move K1 (fun _ _ x=>x) (h.blk.drewN n1);have B1 : Below B w (w.drewN n1):=K1.below h.aJ (fun k x=>h.low (Or.inl x));generalize w.drewN n1 = w1 at K1 F1 B1 ⊢;clear K1 h
     go_wp2_with fail
     have E:=dB B b t (t.size + 1) (lW B b t ht _) w1 Ch.r0 (-1) ⟨_,_,_,_,_,_,F1⟩ (pD t) hlt (by show t.size <= t.size + 1 + 0;omega) ht;rw [q1.out] at E;refine Calls.mono E ?_;rintro x w2 ⟨rfl,R2,B2⟩;have B3:=B1.trans B2;clear E F1 B1 B2;go_wp2;go_ret;exact ⟨rfl,R2,B3⟩
   | true=>?_
   rw [show chart t = ((((aE t (ai t (t.size + 1)) (-1) Ch.r0).2.pos : Int) == (t.size : Int)),(aE t (ai t (t.size + 1)) (-1) Ch.r0).2) by simp [chart,kT,q1]];have q1:=hid q1;clear kT
   go_enter func68,ntmps68
   go_wp2_with fail
   refine (aD b t 0 _ h.blk.text h.blk.pos).mono ?_;rintro x w1 ⟨rfl,n1,rfl⟩;have K1 : Kp (fun k=>k = b) w (w.drewN n1):=(Kp.refl _ _).drewN _;have F1:=h.move K1 (fun _ _ x=>x) (h.blk.drewN n1);have B1 : Below B w (w.drewN n1):=K1.below h.aJ (fun k x=>h.low (Or.inl x));generalize w.drewN n1 = w1 at K1 F1 B1 ⊢;clear K1 h
   go_wp2_with fail
   have E:=dB B b t (t.size + 1) (lW B b t ht _) w1 Ch.r0 (-1) ⟨_,_,_,_,_,_,F1⟩ (pD t) hlt (by show t.size <= t.size + 1 + 0;omega) ht;rw [q1.out] at E;refine Calls.mono E ?_;rintro x w2 ⟨rfl,R2,B2⟩;have B3:=B1.trans B2;clear E F1 B1 B2;obtain ⟨TD,TE,TF,RX,TG,TH,F2⟩:=R2;have c0:=F2.blk.text;have c1:=F2.blk.pos;have HH:=hid (ae F2 B3);clear F2 B3;go_wp2
   go_quiet (fail)
   go_wp2;go_ret;obtain ⟨F2,B3⟩:=HH.out;have K4 : Kp (fun k=>k = b) w2 (w2.drewN nq):=(Kp.refl _ _).drewN _;exact ⟨rfl,⟨_,_,_,_,_,_,F2.move K4 (fun _ _ x=>x) (F2.blk.drewN _)⟩,B3.trans (K4.below F2.aJ (fun k x=>F2.low (Or.inl x)))⟩
 | false=>?_
 have n40 : (af t 0 != 40) = true:=by simpa using kT
 cases oh : af t 0 == 91 with
 | true =>
   have hlt : 0 < t.size:=cd (c:=91) (by omega) oh
   have n91 : (af t 0 != 91) = false:=by simpa using oh
   cases q1 : (aE t (ai t (t.size + 1)) (-1) Ch.r0).1 with
   | false =>
     rw [show chart t = (false,(aE t (ai t (t.size + 1)) (-1) Ch.r0).2) by simp [chart,kT,oh,q1]];have q1:=hid q1;clear kT oh
     go_enter func68,ntmps68
     go_wp2_with fail
     refine (aD b t 0 _ h.blk.text h.blk.pos).mono ?_;rintro x w1 ⟨rfl,n1,rfl⟩;have K1 : Kp (fun k=>k = b) w (w.drewN n1):=(Kp.refl _ _).drewN _;have F1:=h.move K1 (fun _ _ x=>x) (h.blk.drewN n1);have B1 : Below B w (w.drewN n1):=K1.below h.aJ (fun k x=>h.low (Or.inl x));generalize w.drewN n1 = w1 at K1 F1 B1 ⊢;clear K1 h
     go_wp2_with fail
     have E:=dB B b t (t.size + 1) (lW B b t ht _) w1 Ch.r0 (-1) ⟨_,_,_,_,_,_,F1⟩ (pD t) hlt (by show t.size <= t.size + 1 + 0;omega) ht;rw [q1.out] at E;refine Calls.mono E ?_;rintro x w2 ⟨rfl,R2,B2⟩;have B3:=B1.trans B2;clear E F1 B1 B2;go_wp2;go_ret;exact ⟨rfl,R2,B3⟩
   | true=>?_
   rw [show chart t = ((((aE t (ai t (t.size + 1)) (-1) Ch.r0).2.pos : Int) == (t.size : Int)),(aE t (ai t (t.size + 1)) (-1) Ch.r0).2) by simp [chart,kT,oh,q1]];have q1:=hid q1;clear kT oh
   go_enter func68,ntmps68
   go_wp2_with fail
   refine (aD b t 0 _ h.blk.text h.blk.pos).mono ?_;rintro x w1 ⟨rfl,n1,rfl⟩;have K1 : Kp (fun k=>k = b) w (w.drewN n1):=(Kp.refl _ _).drewN _;have F1:=h.move K1 (fun _ _ x=>x) (h.blk.drewN n1);have B1 : Below B w (w.drewN n1):=K1.below h.aJ (fun k x=>h.low (Or.inl x));generalize w.drewN n1 = w1 at K1 F1 B1 ⊢;clear K1 h
   go_wp2_with fail
   have E:=dB B b t (t.size + 1) (lW B b t ht _) w1 Ch.r0 (-1) ⟨_,_,_,_,_,_,F1⟩ (pD t) hlt (by show t.size <= t.size + 1 + 0;omega) ht;rw [q1.out] at E;refine Calls.mono E ?_;rintro x w2 ⟨rfl,R2,B2⟩;have B3:=B1.trans B2;clear E F1 B1 B2;obtain ⟨TD,TE,TF,RX,TG,TH,F2⟩:=R2;have c0:=F2.blk.text;have c1:=F2.blk.pos;have HH:=hid (ae F2 B3);clear F2 B3;go_wp2
   go_quiet (fail)
   go_wp2;go_ret;obtain ⟨F2,B3⟩:=HH.out;have K4 : Kp (fun k=>k = b) w2 (w2.drewN nq):=(Kp.refl _ _).drewN _;exact ⟨rfl,⟨_,_,_,_,_,_,F2.move K4 (fun _ _ x=>x) (F2.blk.drewN _)⟩,B3.trans (K4.below F2.aJ (fun k x=>F2.low (Or.inl x)))⟩
 | false=>?_
 rw [show chart t = (false,Ch.r0) by simp [chart,kT,oh]]
 have n91 : (af t 0 != 91) = true:=by simpa using oh
 clear kT oh
 go_enter func68,ntmps68
 go_wp2_with fail
 refine (aD b t 0 _ h.blk.text h.blk.pos).mono ?_;rintro x w1 ⟨rfl,n1,rfl⟩;have K1 : Kp (fun k=>k = b) w (w.drewN n1):=(Kp.refl _ _).drewN _;have F1:=h.move K1 (fun _ _ x=>x) (h.blk.drewN n1);have B1 : Below B w (w.drewN n1):=K1.below h.aJ (fun k x=>h.low (Or.inl x));generalize w.drewN n1 = w1 at K1 F1 B1 ⊢;clear K1 h;go_wp2;go_ret;exact ⟨rfl,⟨_,_,_,_,_,_,F1⟩,B1⟩
end
theorem qY.nil (w : World) (B : Nat) : qY w B ⟨[],[],[]⟩ (.slice none 0 0) (.slice none 0 0) (.slice none 0 0) [] [] :=
 ⟨World.ownsRow_nil _ _ _ _,rfl,World.ownsRow_nil _ _ _ _,by simp,rfl,World.ownsRow_nil _ _ _ _,by simp⟩
def oy (w : World) (b : Nat) (v0 v1 v2 v3 v4 : Value) : World :=
 ((((w.setCell ⟨b,0,none⟩ v0).setCell ⟨b,1,none⟩ v1).setCell ⟨b,2,none⟩ v2).setCell ⟨b,3,none⟩ v3).setCell ⟨b,4,none⟩ v4
theorem oC {w : World} {b : Nat} {c0 c1 c2 c3 c4 : Value} {T : TypeId} (h : w.heap[b]? = some (.cells #[c0,c1,c2,c3,c4] T (0,0))) (v0 v1 v2 v3 v4 : Value) :
 (oy w b v0 v1 v2 v3 v4).heap[b]? = some (.cells #[v0,v1,v2,v3,v4] T (0,0)):=by
 unfold oy;rw [ah _ (ah _ (ah _ (ah _ (ah _ h))))];rfl
theorem vp (w : World) (b : Nat) (v0 v1 v2 v3 v4 : Value) : Kp (fun k=>k = b) w (oy w b v0 v1 v2 v3 v4) :=
 ((((((Kp.refl _ _).setCell (by intro _;rfl) _).setCell (by intro _;rfl) _).setCell (by intro _;rfl) _).setCell (by intro _;rfl) _).setCell (by intro _;rfl) _)
section
variable (t : ByteArray) (w : World)
theorem ns :
 Calls prog 42 #[.string t] w fun x w'=>∃ sv tv bv lt lb,x = .returned (.agg #[.int .i64 (Ch.read t).1,.int .i64 (Ch.read t).2.1,sv,tv,bv]) /\ qY w' w.heap.size (Ch.read t).2.2 sv tv bv lt lb /\ Below w.heap.size w w':=by
 by_cases hbig : 240 < t.size
 ·rw [show Ch.read t = (1,0,⟨[],[],[]⟩) by unfold Ch.read;rw [if_pos hbig]]
  have hb' : (240 : Int) < (t.size : Int):=by omega
  go_enter func42,ntmps42
  go_wp2_with fail
  exact bodyPost_ret (v:=.agg #[.int .i64 1,.int .i64 0,.slice none 0 0,.slice none 0 0,.slice none 0 0]) (by simp [results,Tryz.results42,go_sem]) rfl ⟨_,_,_,_,_,rfl,qY.nil _ _,(Below.refl _ _).alloc (Nat.le_refl _) _⟩
 have hb' : ¬ (240 : Int) < (t.size : Int):=by omega
 have ht : t.size <= 240:=by omega
 have hok:=wU t
 have H1 : Rd ((w.alloc (.cells #[.int .i64 0,.int .i64 0,.slice none 0 0,.slice none 0 0,.slice none 0 0] 87)).alloc (.cells #[.string t,.int .i64 0,.int .i64 0,.int .i64 0,.slice none 0 0,.slice none 0 0,.slice none 0 0,.slice none 0 0] 143)) (w.heap.size + 1) (w.heap.size + 1) t Ch.r0:=by
  refine ⟨.slice none 0 0,.slice none 0 0,.slice none 0 0,.slice none 0 0,[],[],?_,World.ownsRow_nil _ _ _ _,rfl,World.ownsRow_nil _ _ _ _,by simp,rfl,World.ownsRow_nil _ _ _ _,by simp,World.ownsRow_nil _ _ _ _,Nat.le_refl _⟩;have e:=heap_alloc_new (w.alloc (.cells #[.int .i64 0,.int .i64 0,.slice none 0 0,.slice none 0 0,.slice none 0 0] 87)) (.cells #[.string t,.int .i64 0,.int .i64 0,.int .i64 0,.slice none 0 0,.slice none 0 0,.slice none 0 0,.slice none 0 0] 143);rw [World.size_alloc] at e;exact e
 have hr1 : ((w.alloc (.cells #[.int .i64 0,.int .i64 0,.slice none 0 0,.slice none 0 0,.slice none 0 0] 87)).alloc (.cells #[.string t,.int .i64 0,.int .i64 0,.int .i64 0,.slice none 0 0,.slice none 0 0,.slice none 0 0,.slice none 0 0] 143)).heap[w.heap.size]? = some (.cells #[.int .i64 0,.int .i64 0,.slice none 0 0,.slice none 0 0,.slice none 0 0] 87):=by
  rw [Below.heap_alloc _ _ _ (by simp)];exact heap_alloc_new _ _
 have B1 : Below w.heap.size w ((w.alloc (.cells #[.int .i64 0,.int .i64 0,.slice none 0 0,.slice none 0 0,.slice none 0 0] 87)).alloc (.cells #[.string t,.int .i64 0,.int .i64 0,.int .i64 0,.slice none 0 0,.slice none 0 0,.slice none 0 0,.slice none 0 0] 143)):=((Below.refl _ _).alloc (Nat.le_refl _) _).alloc (by simp) _;have E:=hid (Co (w.heap.size + 1) (w.heap.size + 1) t ((w.alloc (.cells #[.int .i64 0,.int .i64 0,.slice none 0 0,.slice none 0 0,.slice none 0 0] 87)).alloc (.cells #[.string t,.int .i64 0,.int .i64 0,.int .i64 0,.slice none 0 0,.slice none 0 0,.slice none 0 0,.slice none 0 0] 143)) H1 ht);clear H1
 cases q1 : (chart t).1 with
 | false =>
   rw [show Ch.read t = (2,((chart t).2.pos : Int),Ol.mk [] [] []) by unfold Ch.read;rw [if_neg hbig];simp [q1]];rw [q1] at E;have HX:=hid (ae hr1 B1);clear hr1 B1 hbig q1
   go_enter func42,ntmps42
   go_wp2_with fail
   refine hm E ?_;rintro x w2 ⟨rfl,⟨sv,tv,bv,uv,lt,lb,F2⟩,B2⟩;have hr2 : w2.heap[w.heap.size]? = some (.cells #[.int .i64 0,.int .i64 0,.slice none 0 0,.slice none 0 0,.slice none 0 0] 87):=(B2.block _ (by omega)).trans HX.out.1;have B3:=HX.out.2.trans (B2.mono (Nat.le_succ _));have c1:=F2.blk.pos
   have r0 : w2.cell? ⟨w.heap.size,0,none⟩ = some (.int .i64 0):=by simp [World.cell?,hr2]
   have r1 : w2.cell? ⟨w.heap.size,1,none⟩ = some (.int .i64 0):=by simp [World.cell?,hr2]
   have r2 : w2.cell? ⟨w.heap.size,2,none⟩ = some (.slice none 0 0):=by simp [World.cell?,hr2]
   have r3 : w2.cell? ⟨w.heap.size,3,none⟩ = some (.slice none 0 0):=by simp [World.cell?,hr2]
   have r4 : w2.cell? ⟨w.heap.size,4,none⟩ = some (.slice none 0 0):=by simp [World.cell?,hr2]
   have fr : ∀ i,w2.frozen? ⟨w.heap.size,i,none⟩ = false:=by intro i;simp [World.frozen?,hr2]
   have Bh:=hid (ae hr2 (ae F2 B3));clear HX E hr2 F2 B2 B3;go_wp2;obtain ⟨hr2,F2,B3⟩:=Bh.out;have uf:=oC hr2 (.int .i64 2) (.int .i64 ((chart t).2.pos : Int)) (.slice none 0 0) (.slice none 0 0) (.slice none 0 0);have KW:=vp w2 w.heap.size (.int .i64 2) (.int .i64 ((chart t).2.pos : Int)) (.slice none 0 0) (.slice none 0 0) (.slice none 0 0)
   change bodyPost _ _ _ _ _ (oy w2 w.heap.size (.int .i64 2) (.int .i64 ((chart t).2.pos : Int)) (.slice none 0 0) (.slice none 0 0) (.slice none 0 0))
   generalize oy w2 w.heap.size (.int .i64 2) (.int .i64 ((chart t).2.pos : Int)) (.slice none 0 0) (.slice none 0 0) (.slice none 0 0) = wz at uf KW ⊢
   have z0 : wz.cell? ⟨w.heap.size,0,none⟩ = some (.int .i64 2):=by simp [World.cell?,uf]
   have z1 : wz.cell? ⟨w.heap.size,1,none⟩ = some (.int .i64 ((chart t).2.pos : Int)):=by simp [World.cell?,uf]
   have z2 : wz.cell? ⟨w.heap.size,2,none⟩ = some (.slice none 0 0):=by simp [World.cell?,uf]
   have z3 : wz.cell? ⟨w.heap.size,3,none⟩ = some (.slice none 0 0):=by simp [World.cell?,uf]
   have z4 : wz.cell? ⟨w.heap.size,4,none⟩ = some (.slice none 0 0):=by simp [World.cell?,uf]
   have BW : Below w.heap.size w wz:=B3.trans (KW.below (by have:=B3.size;omega) (fun k x=>by omega));refine bodyPost_ret (v:=.agg #[.int .i64 2,.int .i64 ((chart t).2.pos : Int),.slice none 0 0,.slice none 0 0,.slice none 0 0]) (by simp [results,Tryz.results42,go_sem,z0,z1,z2,z3,z4]) rfl ?_;exact ⟨_,_,_,_,_,rfl,qY.nil _ _,BW⟩
 | true=>?_
 obtain ⟨⟨d1,d2,d3,d4⟩,d5⟩:=hok;have HX:=hid (ae hr1 B1);rw [q1] at E;clear hr1 B1
 cases q2 : (judge (chart t).2.ag (chart t).2.uses).1 == 0 with
 | false =>
   rw [show Ch.read t = ((judge (chart t).2.ag (chart t).2.uses).1,(judge (chart t).2.ag (chart t).2.uses).2,Ol.mk [] [] []) by unfold Ch.read;rw [if_neg hbig];simp [q1,q2]];have q2:=hid q2;clear q1 hbig
   go_enter func42,ntmps42
   go_wp2_with fail
   refine hm E ?_;rintro x w2 ⟨rfl,⟨sv,tv,bv,uv,lt,lb,F2⟩,B2⟩;have hr2 : w2.heap[w.heap.size]? = some (.cells #[.int .i64 0,.int .i64 0,.slice none 0 0,.slice none 0 0,.slice none 0 0] 87):=(B2.block _ (by omega)).trans HX.out.1;have B3:=HX.out.2.trans (B2.mono (Nat.le_succ _));have c7:=F2.blk.c7;have Bh:=hid (ae hr2 (ae F2 B3));clear HX E hr2 F2 B2 B3
   go_wp2_with fail
   obtain ⟨hr2,F2,B3⟩:=Bh.out;have EJ:=ue (w.heap.size + 1) 2 w2 (chart t).2.ag uv (chart t).2.uses _ F2.uses (by omega) ⟨_,_,F2.blk.c4,F2.ag⟩ (by omega);refine Calls.mono EJ ?_;rintro x w3 ⟨rfl,K3⟩;clear EJ Bh c7;have hr3 : w3.heap[w.heap.size]? = some (.cells #[.int .i64 0,.int .i64 0,.slice none 0 0,.slice none 0 0,.slice none 0 0] 87):=K3.at_ hr2 (fun x=>x);have F3:=F2.move K3 (fun _ _ x=>x.elim) (F2.blk.keep K3 (fun x=>x));have B4:=B3.trans (K3.below (by have:=B3.size;omega) (fun k x=>x.elim));clear hr2 F2 B3 K3;generalize hjj : judge (chart t).2.ag (chart t).2.uses = jj at q2 ⊢;have HJ:=hid hjj;clear hjj;obtain ⟨je,ja⟩:=jj
   have hra : ∀ o,(w3.alloc o).heap[w.heap.size]? = some (.cells #[.int .i64 0,.int .i64 0,.slice none 0 0,.slice none 0 0,.slice none 0 0] 87):=fun o=>(Below.heap_alloc _ _ _ (lt_of_block hr3)).trans hr3
   have r0 : ∀ o,(w3.alloc o).cell? ⟨w.heap.size,0,none⟩ = some (.int .i64 0):=by intro o;simp [World.cell?,hra]
   have r1 : ∀ o,(w3.alloc o).cell? ⟨w.heap.size,1,none⟩ = some (.int .i64 0):=by intro o;simp [World.cell?,hra]
   have r2 : ∀ o,(w3.alloc o).cell? ⟨w.heap.size,2,none⟩ = some (.slice none 0 0):=by intro o;simp [World.cell?,hra]
   have r3 : ∀ o,(w3.alloc o).cell? ⟨w.heap.size,3,none⟩ = some (.slice none 0 0):=by intro o;simp [World.cell?,hra]
   have r4 : ∀ o,(w3.alloc o).cell? ⟨w.heap.size,4,none⟩ = some (.slice none 0 0):=by intro o;simp [World.cell?,hra]
   have fr : ∀ o i,(w3.alloc o).frozen? ⟨w.heap.size,i,none⟩ = false:=by intro o i;simp [World.frozen?,hra]
   have qn : (je != 0) = true:=by have:=q2.out;simpa using this
   have PM:=hid (ae hra (ae F3 B4));clear hr3 hra F3 B4 q2;go_wp2;obtain ⟨hra,F3,B4⟩:=PM.out;have hr2:=hra (.cells #[.int .i64 je,.int .i64 ja] 145);have B3:=B4.alloc (by have:=B4.size;omega) (.cells #[.int .i64 je,.int .i64 ja] 145);have uf:=oC hr2 (.int .i64 je) (.int .i64 ja) (.slice none 0 0) (.slice none 0 0) (.slice none 0 0);have KW:=vp (w3.alloc (.cells #[.int .i64 je,.int .i64 ja] 145)) w.heap.size (.int .i64 je) (.int .i64 ja) (.slice none 0 0) (.slice none 0 0) (.slice none 0 0)
   change bodyPost _ _ _ _ _ (oy (w3.alloc (.cells #[.int .i64 je,.int .i64 ja] 145)) w.heap.size (.int .i64 je) (.int .i64 ja) (.slice none 0 0) (.slice none 0 0) (.slice none 0 0))
   generalize oy (w3.alloc (.cells #[.int .i64 je,.int .i64 ja] 145)) w.heap.size (.int .i64 je) (.int .i64 ja) (.slice none 0 0) (.slice none 0 0) (.slice none 0 0) = wz at uf KW ⊢
   have z0 : wz.cell? ⟨w.heap.size,0,none⟩ = some (.int .i64 je):=by simp [World.cell?,uf]
   have z1 : wz.cell? ⟨w.heap.size,1,none⟩ = some (.int .i64 ja):=by simp [World.cell?,uf]
   have z2 : wz.cell? ⟨w.heap.size,2,none⟩ = some (.slice none 0 0):=by simp [World.cell?,uf]
   have z3 : wz.cell? ⟨w.heap.size,3,none⟩ = some (.slice none 0 0):=by simp [World.cell?,uf]
   have z4 : wz.cell? ⟨w.heap.size,4,none⟩ = some (.slice none 0 0):=by simp [World.cell?,uf]
   have BW : Below w.heap.size w wz:=B3.trans (KW.below (by have:=B3.size;omega) (fun k x=>by omega));refine bodyPost_ret (v:=.agg #[.int .i64 je,.int .i64 ja,.slice none 0 0,.slice none 0 0,.slice none 0 0]) (by simp [results,Tryz.results42,go_sem,z0,z1,z2,z3,z4]) rfl ?_;rw [HJ.out];exact ⟨_,_,_,_,_,rfl,qY.nil _ _,BW⟩
 | true=>?_
 rw [show Ch.read t = (0,0,Ol.mk (chart t).2.ag (chart t).2.bH (chart t).2.cM) by unfold Ch.read;rw [if_neg hbig];simp [q1,q2]];have q2:=hid q2;clear q1 hbig
 go_enter func42,ntmps42
 go_wp2_with fail
 refine hm E ?_;rintro x w2 ⟨rfl,⟨sv,tv,bv,uv,lt,lb,F2⟩,B2⟩;have hr2 : w2.heap[w.heap.size]? = some (.cells #[.int .i64 0,.int .i64 0,.slice none 0 0,.slice none 0 0,.slice none 0 0] 87):=(B2.block _ (by omega)).trans HX.out.1;have B3:=HX.out.2.trans (B2.mono (Nat.le_succ _));have c7:=F2.blk.c7;have Bh:=hid (ae hr2 (ae F2 B3));clear HX E hr2 F2 B2 B3
 go_wp2_with fail
 obtain ⟨hr2,F2,B3⟩:=Bh.out;have EJ:=ue (w.heap.size + 1) 2 w2 (chart t).2.ag uv (chart t).2.uses _ F2.uses (by omega) ⟨_,_,F2.blk.c4,F2.ag⟩ (by omega);refine Calls.mono EJ ?_;rintro x w3 ⟨rfl,K3⟩;clear EJ Bh c7;have hr3 : w3.heap[w.heap.size]? = some (.cells #[.int .i64 0,.int .i64 0,.slice none 0 0,.slice none 0 0,.slice none 0 0] 87):=K3.at_ hr2 (fun x=>x);have F3:=F2.move K3 (fun _ _ x=>x.elim) (F2.blk.keep K3 (fun x=>x));have B4:=B3.trans (K3.below (by have:=B3.size;omega) (fun k x=>x.elim));clear hr2 F2 B3 K3;generalize judge (chart t).2.ag (chart t).2.uses = jj at q2 ⊢;obtain ⟨je,ja⟩:=jj
 have hra : ∀ o,(w3.alloc o).heap[w.heap.size]? = some (.cells #[.int .i64 0,.int .i64 0,.slice none 0 0,.slice none 0 0,.slice none 0 0] 87):=fun o=>(Below.heap_alloc _ _ _ (lt_of_block hr3)).trans hr3
 have r0 : ∀ o,(w3.alloc o).cell? ⟨w.heap.size,0,none⟩ = some (.int .i64 0):=by intro o;simp [World.cell?,hra]
 have r1 : ∀ o,(w3.alloc o).cell? ⟨w.heap.size,1,none⟩ = some (.int .i64 0):=by intro o;simp [World.cell?,hra]
 have r2 : ∀ o,(w3.alloc o).cell? ⟨w.heap.size,2,none⟩ = some (.slice none 0 0):=by intro o;simp [World.cell?,hra]
 have r3 : ∀ o,(w3.alloc o).cell? ⟨w.heap.size,3,none⟩ = some (.slice none 0 0):=by intro o;simp [World.cell?,hra]
 have r4 : ∀ o,(w3.alloc o).cell? ⟨w.heap.size,4,none⟩ = some (.slice none 0 0):=by intro o;simp [World.cell?,hra]
 have fr : ∀ o i,(w3.alloc o).frozen? ⟨w.heap.size,i,none⟩ = false:=by intro o i;simp [World.frozen?,hra]
 have qn : (je != 0) = false:=by have:=q2.out;simpa using this
 obtain ⟨sa,sb,sc,rfl⟩:=cv F3.ag;obtain ⟨ta,tb,tc,rfl⟩:=cv F3.bH;obtain ⟨ba,bb,bc,rfl⟩:=cv F3.cM
 have m2 : ∀ o,(w3.alloc o).cell? ⟨w.heap.size + 1,2,none⟩ = some (.int .i64 0):=fun o=>(F3.blk.alloc o).c2
 have m3 : ∀ o,(w3.alloc o).cell? ⟨w.heap.size + 1,3,none⟩ = some (.int .i64 0):=fun o=>(F3.blk.alloc o).c3
 have m4 : ∀ o,(w3.alloc o).cell? ⟨w.heap.size + 1,4,none⟩ = some (.slice sa sb sc):=fun o=>(F3.blk.alloc o).c4
 have m5 : ∀ o,(w3.alloc o).cell? ⟨w.heap.size + 1,5,none⟩ = some (.slice ta tb tc):=fun o=>(F3.blk.alloc o).c5
 have m6 : ∀ o,(w3.alloc o).cell? ⟨w.heap.size + 1,6,none⟩ = some (.slice ba bb bc):=fun o=>(F3.blk.alloc o).c6
 have PM:=hid (ae hra (ae F3 B4));clear hr3 hra F3 B4 q2;go_wp2;obtain ⟨hra,F3,B4⟩:=PM.out;have hr2:=hra (.cells #[.int .i64 je,.int .i64 ja] 145);have B3:=B4.alloc (by have:=B4.size;omega) (.cells #[.int .i64 je,.int .i64 ja] 145);have uf:=oC hr2 (.int .i64 0) (.int .i64 0) (.slice sa sb sc) (.slice ta tb tc) (.slice ba bb bc);have KW:=vp (w3.alloc (.cells #[.int .i64 je,.int .i64 ja] 145)) w.heap.size (.int .i64 0) (.int .i64 0) (.slice sa sb sc) (.slice ta tb tc) (.slice ba bb bc)
 change bodyPost _ _ _ _ _ (oy (w3.alloc (.cells #[.int .i64 je,.int .i64 ja] 145)) w.heap.size (.int .i64 0) (.int .i64 0) (.slice sa sb sc) (.slice ta tb tc) (.slice ba bb bc))
 generalize oy (w3.alloc (.cells #[.int .i64 je,.int .i64 ja] 145)) w.heap.size (.int .i64 0) (.int .i64 0) (.slice sa sb sc) (.slice ta tb tc) (.slice ba bb bc) = wz at uf KW ⊢
 have z0 : wz.cell? ⟨w.heap.size,0,none⟩ = some (.int .i64 0):=by simp [World.cell?,uf]
 have z1 : wz.cell? ⟨w.heap.size,1,none⟩ = some (.int .i64 0):=by simp [World.cell?,uf]
 have z2 : wz.cell? ⟨w.heap.size,2,none⟩ = some (.slice sa sb sc):=by simp [World.cell?,uf]
 have z3 : wz.cell? ⟨w.heap.size,3,none⟩ = some (.slice ta tb tc):=by simp [World.cell?,uf]
 have z4 : wz.cell? ⟨w.heap.size,4,none⟩ = some (.slice ba bb bc):=by simp [World.cell?,uf]
 have BW : Below w.heap.size w wz:=B3.trans (KW.below (by have:=B3.size;omega) (fun k x=>by omega));refine bodyPost_ret (v:=.agg #[.int .i64 0,.int .i64 0,.slice sa sb sc,.slice ta tb tc,.slice ba bb bc]) (by simp [results,Tryz.results42,go_sem,z0,z1,z2,z3,z4]) rfl ?_;have KZ : Kp (fun k=>k = w.heap.size) w3 wz:=((Kp.refl _ _).alloc (.cells #[.int .i64 je,.int .i64 ja] 145)).trans KW
 have hS : ∀ {base e size v n xs},w3.ownsRow base e size v n xs -> w.heap.size + 1 <= base -> ∀ i,v.ownBlock = some i -> ¬ i = w.heap.size:=by
  intro base e size v n xs ho hb i hi he;have:=(ho.lt i hi).1;omega
 have ok : ∀ {e size v n xs},w3.ownsRow (w.heap.size + 1) e size v n xs -> wz.ownsRow w.heap.size e size v n xs:=fun ho=>eV (KZ.owns ho (hS ho (Nat.le_refl _))) (Nat.le_succ _)
 exact ⟨_,_,_,lt,lb,rfl,⟨ok F3.ag,F3.wM,ok F3.bH,fun x hx=>ok (F3.kx x hx),F3.y7,ok F3.cM,fun x hx=>ok (F3.kH x hx)⟩,BW⟩
end
theorem oD : (prog.info? 87).map (·.size) = some 5:=by kernel_rfl
theorem Kp.setRow {S : Nat -> Prop} {a w : World} (h : Kp S a w) {g : Nat} (hp : g < a.heap.size -> S g) (cs : Array Value) : Kp S a (w.setRow g cs) :=
 h.trans' (S':=fun k=>k = g) ⟨rfl,rfl,rfl,by simp,fun k _ hn=>setRow_other _ _ _ _ hn⟩ (fun i hi e=>by subst e;exact hp hi)
theorem gG {w w' : World} (b : Below w.heap.size w w') : Kp (fun _=>False) w w':=⟨b.os,b.tape,b.output,b.size,fun k hk _=>b.block k hk⟩
def mB (e f : Int) (sv tv bv : Value) : Array Value:=#[.int .i64 e,.int .i64 f,sv,tv,bv]
theorem Bi {e f : Int} {sv tv bv : Value} (h1 : sv.oneCell' = true) (h2 : tv.oneCell' = true) (h3 : bv.oneCell' = true) : (mB e f sv tv bv).all (fun x=>x.oneCell') = true:=by
 apply Array.all_eq_true_iff_forall_mem.2;intro x hx;simp only [mB,List.mem_toArray,List.mem_cons,List.not_mem_nil,or_false] at hx
 rcases hx with rfl | rfl | rfl | rfl | rfl <;> first | rfl | assumption
theorem fg {w : World} {base : Nat} {e : TypeId} {size : Nat} {v : Value} {n : Nat} {xs : List Value} (h : w.ownsRow base e size v n xs) : v.oneCell' = true:=by
 obtain ⟨a,m,c,rfl⟩:=cv h;rfl
section
variable (w : World)
theorem zn (t : ByteArray) :
 Calls prog 47 #[.string t] w fun x w'=>x = .returned (.tuple #[.int .i64 (Ch.read t).1,.int .i64 (Ch.read t).2.1]) /\ Kp (fun _=>False) w w':=by
 have E0:=hid (ns t w)
 go_enter func47,ntmps47
 go_wp2_with fail
 refine hm E0 ?_;rintro x w2 ⟨sv,tv,bv,lt,lb,rfl,F2,B2⟩;have K2:=gG B2;have qZ:=Bi (e:=(Ch.read t).1) (f:=(Ch.read t).2.1) (fg F2.ag) (fg F2.bH) (fg F2.cM);have hnew:=heap_alloc_new w2 (.cells uc 87);have hrow:=setRow_heap (w2.alloc (.cells uc 87)) w2.heap.size _ (mB (Ch.read t).1 (Ch.read t).2.1 sv tv bv) 87 (0,0) hnew;have K3 : Kp (fun _=>False) w ((w2.alloc (.cells uc 87)).setRow w2.heap.size (mB (Ch.read t).1 (Ch.read t).2.1 sv tv bv)):=(K2.alloc _).setRow (fun x=>by have:=K2.size;omega) _;clear E0 B2 F2 K2
 go_upto_region 2 with (refine wpList_store_row rfl 87 (.tmp 4) (.tmp 6) rfl w2.heap.size (mB (Ch.read t).1 (Ch.read t).2.1 sv tv bv) rfl rfl 87 uc hnew oD rfl qZ ?_)
 generalize (w2.alloc (.cells uc 87)).setRow w2.heap.size (mB (Ch.read t).1 (Ch.read t).2.1 sv tv bv) = w3 at *;generalize w2.heap.size = ob at *
 have z0 : w3.cell? ⟨ob,0,none⟩ = some (.int .i64 (Ch.read t).1):=by rw [World.cell?,hrow];rfl
 have z1 : w3.cell? ⟨ob,1,none⟩ = some (.int .i64 (Ch.read t).2.1):=by rw [World.cell?,hrow];rfl
 clear hnew qZ hrow
 go_quiet (fail)
 go_wp2;go_ret2;exact ⟨rfl,K3.drewN _⟩
end
namespace Ch
section
variable {t : ByteArray} {p : Nat} {o : List Int} {c : Int}
theorem zo (h : iG (af t p) = true) : p < t.size:=by
 rcases Nat.lt_or_ge p t.size with h' | h'
 ·exact h'
 rw [bJ h'] at h;simp [iG,cm] at h
theorem zp (h : iz (af t p) = true) : p < t.size:=by
 rcases Nat.lt_or_ge p t.size with h' | h'
 ·exact h'
 rw [bJ h'] at h;simp [iz,cm,bN] at h
end
theorem vq (x : Int) (h : isOpen x = true) : x = 40 \/ x = 91 \/ x = 60 \/ x = 42:=by
 simp [isOpen] at h;omega
end Ch
end Go.Proofs.YtnlbchmfcebeeaaGreat
