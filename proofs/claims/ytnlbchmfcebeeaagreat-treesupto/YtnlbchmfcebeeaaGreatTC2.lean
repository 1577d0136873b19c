import Derived.Test.YtnlbchmfcebeeaaGreatTC0
set_option maxHeartbeats 12800000
set_option maxRecDepth 100000
namespace Go.Proofs.YtnlbchmfcebeeaaGreat
open Go.RowKit
namespace Ch
def doAct (m : Ma) (a : Ac) : Bool × Ma :=
 if a.sign == 33 then (true,{ m with q:=m.q ++ [a.letter] })
 else if a.sign == 64 then ((send m.s a.letter a.digit).1,{ m with s:=(send m.s a.letter a.digit).2 })
 else if a.sign == 126 then (true,{ m with s:=callBack m.s a.letter })
 else if a.sign == 35 then (true,{ m with out:=m.out ++ [a.letter] })
 else (inB (newVal m.s a),{ m with s:=setV m.s a.letter (newVal m.s a) })
theorem cbF_len (t : ByteArray) (c : Int) : ∀ (f k : Nat) (acc : List Int),acc.length ≤ k → k ≤ t.size → (cbF t c f k acc).length ≤ t.size:=by
 intro f
 induction f with
 | zero=>intro k acc h1 h2;simp only [cbF];omega
 | succ f ih=>?_
 intro k acc h1 h2;simp only [cbF]
 split
 ·split
  ·exact ih _ _ (by simp;omega) (by omega)
  exact ih _ _ (by omega) (by omega)
 omega
theorem callBack_ok {s : Sd} (h : s.Ok) (c : Int) : (callBack s c).Ok:=by
 obtain ⟨h0,h1,h2⟩:=h;refine ⟨h0,h1,?_⟩;show (strOfNums (cbF s.tm c s.tm.size 0 [])).size ≤ 17;rw [strOfNums_size];have:=cbF_len s.tm c s.tm.size 0 [] (Nat.le_refl _) (Nat.zero_le _);omega
theorem send_ok {s : Sd} (h : s.Ok) (ev d : Int) : (send s ev d).2.Ok:=by
 unfold send
 split
 ·exact h
 obtain ⟨h0,h1,h2⟩:=h;refine ⟨h0,h1,?_⟩;show (s.tm ++ strOfNums [ev,48 + d]).size ≤ 17;rw [ByteArray.size_append,strOfNums_size];simp;omega
theorem doAct_ok {m : Ma} (h : m.s.Ok) (a : Ac) : (doAct m a).2.s.Ok:=by
 unfold doAct
 split
 ·exact h
 split
 ·exact send_ok h _ _
 split
 ·exact callBack_ok h _
 split
 ·exact h
 exact setV_ok h _ _
theorem doAct_q (m : Ma) (a : Ac) : (doAct m a).2.q.length ≤ m.q.length + 1 ∧ (doAct m a).2.out.length ≤ m.out.length + 1:=by
 unfold doAct
 split
 ·simp
 split
 ·simp
 split
 ·simp
 split <;> simp
def doActs : List Ac → Ma → Ma
 | [],m=>m
 | a :: l,m=>if (doAct m a).1 then doActs l (doAct m a).2 else { (doAct m a).2 with q:=(doAct m a).2.q ++ [122] }
theorem doActs_ok : ∀ (l : List Ac) {m : Ma},m.s.Ok → (doActs l m).s.Ok:=by
 intro l
 induction l with
 | nil=>intro m h;exact h
 | cons a l ih=>?_
 intro m h;simp only [doActs]
 split
 ·exact ih (doAct_ok h a)
 exact doAct_ok h a
theorem doActs_q : ∀ (l : List Ac) (m : Ma),(doActs l m).q.length ≤ m.q.length + 2 * l.length ∧ (doActs l m).out.length ≤ m.out.length + 2 * l.length:=by
 intro l
 induction l with
 | nil=>intro m;simp [doActs]
 | cons a l ih=>?_
 intro m;have h:=doAct_q m a;simp only [doActs]
 split
 ·have:=ih (doAct m a).2
  simp;omega
 simp;omega
end Ch
section
variable {w w' : World} {B mb ob po : Nat} {m : Ch.Ma}
theorem Mm.blk (h : Mm w B mb ob po m) : ∃ c,w.heap[mb]? = some (.cells c 149 (0,0)):=by
 obtain ⟨qv,ov,hm,_⟩:=h;exact ⟨_,hm⟩
theorem Mm.lt (h : Mm w B mb ob po m) : mb < w.heap.size:=by obtain ⟨c,hc⟩:=h.blk;exact lt_of_block hc
theorem Mm.at_ (h : Mm w B mb ob po m) (k : Kp (km B mb w) w w') {i : Nat} {c : Array Value} {T : TypeId} {f : Nat × Nat} (hi : w.heap[i]? = some (.cells c T f)) (h1 : T ≠ 149) (h2 : T ≠ 5) : w'.heap[i]? = some (.cells c T f):=by
 refine k.at_ hi fun x=>?_
 rcases x with rfl | ⟨_,cur,y⟩
 ·obtain ⟨c',hc⟩:=h.blk
  rw [hc] at hi;simp at hi;exact h1 hi.2.1.symm
 rw [y] at hi;simp at hi;exact h2 hi.2.1.symm
theorem Mm.row (h : Mm w B mb ob po m) (k : Kp (km B mb w) w w') {base : Nat} {e : TypeId} {size : Nat} {v : Value} {n : Nat} {xs : List Value} (ho : w.ownsRow base e size v n xs) (h1 : e ≠ 149) (h2 : e ≠ 5) : w'.ownsRow base e size v n xs:=by
 refine k.owns ho fun i hi x=>?_
 obtain ⟨cur,hc⟩:=own_block ho hi
 rcases x with rfl | ⟨_,cur',y⟩
 ·obtain ⟨c',hc'⟩:=h.blk
  rw [hc'] at hc;simp at hc;exact h1 hc.2.symm
 rw [y] at hc;simp at hc;exact h2 hc.2.symm
end
namespace Ch
def doBls (state sign : Int) : List Bl → Ma → Ma
 | [],m=>m
 | b :: l,m=>doBls state sign l (if (b.state == state) && (b.sign == sign) then doActs b.acts m else m)
structure Ol.Ok (ol : Ol) : Prop where
 up : Up ol.sts
 sts : ol.sts.length ≤ 16
 trs : ol.trs.length ≤ 240
 bls : ol.bls.length ≤ 240
 tra : ∀ t ∈ ol.trs,t.acts.length ≤ 240 ∧ ∀ a ∈ t.acts,a.Ok
 bla : ∀ b ∈ ol.bls,b.acts.length ≤ 240 ∧ ∀ a ∈ b.acts,a.Ok
def Ma.Sz (m : Ma) (n : Nat) : Prop:=m.q.length ≤ n ∧ m.out.length ≤ n
theorem doActs_sz {m : Ma} {n : Nat} (h : m.Sz n) {l : List Ac} (hl : l.length ≤ 240) : (doActs l m).Sz (n + 480):=by
 have:=doActs_q l m;unfold Ma.Sz at *;omega
theorem doBls_sz (state sign : Int) : ∀ (l : List Bl) {m : Ma} {n : Nat},m.Sz n → (∀ b ∈ l,b.acts.length ≤ 240) → (doBls state sign l m).Sz (n + 480 * l.length):=by
 intro l
 induction l with
 | nil=>intro m n h _;simpa [doBls] using h
 | cons b l ih=>?_
 intro m n h hl;simp only [doBls]
 have h2 : ((if (b.state == state) && (b.sign == sign) then doActs b.acts m else m) : Ma).Sz (n + 480):=by
  split
  ·exact doActs_sz h (hl b (by simp))
  unfold Ma.Sz at *;omega
 have:=ih h2 (fun x hx=>hl x (by simp [hx]));unfold Ma.Sz at *;simp only [List.length_cons];omega
theorem doBls_ok (state sign : Int) : ∀ (l : List Bl) {m : Ma},m.s.Ok → (doBls state sign l m).s.Ok:=by
 intro l
 induction l with
 | nil=>intro m h;exact h
 | cons b l ih=>?_
 intro m h;simp only [doBls];refine ih ?_
 split
 ·exact doActs_ok _ h
 exact h
theorem dgAct_okA {t : ByteArray} {lo : Int} (hlo : 48 ≤ lo) {r : Bool × Ac × Nat} (h0 : r.2.1.Ok) (h : (dgAct t lo r).1 = true) : (dgAct t lo r).2.1.Ok:=by
 unfold dgAct at *
 split
 ·rename_i q
  rw [if_pos q] at h;simp only [isDg,Bool.and_eq_true,decide_eq_true_eq] at h;unfold Ac.Ok;simp only;omega
 exact h0
theorem act_okA {t : ByteArray} {p : Nat} {a : Ac} (h0 : a.digit = 0) (h : (act t p a).1 = true) : (act t p a).2.1.Ok:=by
 have hev : (evAct t p a).2.1.Ok:=by unfold evAct Ac.Ok;simp [h0]
 have hvr : (vrAct1 t p a).2.1.Ok:=by unfold vrAct1 Ac.Ok;simp [h0]
 unfold act at *
 split
 ·exact hev
 rename_i q1;rw [if_neg q1] at h
 split
 ·rename_i q2
  rw [if_pos q2] at h;exact dgAct_okA (by omega) hev h
 rename_i q2;rw [if_neg q2] at h
 split
 ·rename_i q3
  rw [if_pos q3] at h;exact dgAct_okA (by omega) hvr h
 unfold Ac.Ok;simp [h0]
theorem actsF_okA {t : ByteArray} {cl : Int} : ∀ (n p : Nat) (l : List Ac),p ≤ t.size → l.length ≤ p → (∀ a ∈ l,a.Ok) → (actsF t cl n p l).2.1.length ≤ t.size ∧ ∀ a ∈ (actsF t cl n p l).2.1,a.Ok:=by
 intro n
 induction n with
 | zero=>intro p l _ _ _;simp [actsF]
 | succ n ih=>?_
 intro p l hp hl ha;simp only [actsF]
 split
 ·exact ⟨by simp only;omega,ha⟩
 split
 ·rename_i q
  have h1:=act_adv q;refine ih _ _ (act_size hp 0 0) (by simp;omega) ?_;intro a hx
  rcases List.mem_append.1 hx with hx | hx
  ·exact ha a hx
  simp at hx;subst hx;exact act_okA rfl q
 simp
theorem acts_okA {t : ByteArray} {cl : Int} {p : Nat} (hp : p ≤ t.size) : (acts t cl p).2.1.length ≤ t.size ∧ ∀ a ∈ (acts t cl p).2.1,a.Ok :=
 actsF_okA _ _ _ hp (Nat.zero_le _) (by simp)
structure Ri (t : ByteArray) (r : Rs) : Prop where
 up : Up r.sts
 tra : ∀ x ∈ r.trs,x.acts.length ≤ t.size ∧ ∀ a ∈ x.acts,a.Ok
 bla : ∀ x ∈ r.bls,x.acts.length ≤ t.size ∧ ∀ a ∈ x.acts,a.Ok
theorem Up.push {ss : List St} (h : Up ss) {s : St} (h1 : -1 ≤ s.parent) (h2 : s.parent < ss.length) : Up (ss ++ [s]):=by
 intro k x hx
 rcases Nat.lt_or_ge k ss.length with q | q
 ·rw [List.getElem?_append_left q] at hx;exact h k x hx
 rw [List.getElem?_append_right q] at hx
 have : k - ss.length = 0:=by
  rcases Nat.eq_zero_or_pos (k - ss.length) with e | e
  ·exact e
  rw [List.getElem?_eq_none (by simp;omega)] at hx;simp at hx
 rw [this] at hx;simp at hx;subst hx;omega
theorem Up.mark {ss : List St} (h : Up ss) (p : Int) : Up (markParent p ss):=by
 unfold markParent
 split
 ·split
  ·rename_i k _ s hs
   split
   ·intro j x hx
    by_cases e : k = j
    ·subst e
     have hlt:=(List.getElem?_eq_some_iff.1 hs).1;rw [List.getElem?_set_self hlt] at hx;simp at hx;subst hx;exact h k s hs
    rw [List.getElem?_set_ne e] at hx;exact h j x hx
   exact h
  exact h
 exact h
theorem transition_ri {t : ByteArray} {r : Rs} (self : Int) (h : Ri t r) : Ri t (transition t self r).2 ∧ (transition t self r).2.sts = r.sts:=by
 unfold transition
 split
 ·rename_i q1
  have l1 : r.pos + 1 < t.size:=by
   rcases Nat.lt_or_ge (r.pos + 1) t.size with x | x
   ·exact x
   rw [peek_zero x] at q1;simp [isTg,isEv,isNm] at q1
  have hg:=guard_le (t:=t) (p:=r.pos + 1 + 1) ⟨0,0,0⟩ (by omega);generalize guard t (r.pos + 1 + 1) ⟨0,0,0⟩ = gg at *;have ha:=acts_okA (t:=t) (cl:=62) (p:=gg.2.2) hg.2;generalize acts t 62 gg.2.2 = aa at *
  split
  ·split
   ·refine ⟨⟨h.up,?_,h.bla⟩,rfl⟩
    intro x hx
    rcases List.mem_append.1 hx with hx | hx
    ·exact h.tra x hx
    simp at hx;subst hx;exact ha
   exact ⟨⟨h.up,h.tra,h.bla⟩,rfl⟩
  exact ⟨⟨h.up,h.tra,h.bla⟩,rfl⟩
 exact ⟨⟨h.up,h.tra,h.bla⟩,rfl⟩
theorem block_ri {t : ByteArray} {r : Rs} (self : Int) (hp : r.pos < t.size) (h : Ri t r) : Ri t (block t self r).2 ∧ (block t self r).2.sts = r.sts:=by
 have ha:=acts_okA (t:=t) (cl:=59) (p:=r.pos + 1) (by omega);unfold block
 split
 ·refine ⟨⟨h.up,h.tra,?_⟩,rfl⟩
  intro x hx
  rcases List.mem_append.1 hx with hx | hx
  ·exact h.bla x hx
  simp at hx;subst hx;exact ha
 exact ⟨⟨h.up,h.tra,h.bla⟩,rfl⟩
theorem stateName_ri {t : ByteArray} {r : Rs} (op parent : Int) (h1 : -1 ≤ parent) (h2 : parent < r.sts.length) (h : Ri t r) : Ri t (stateName t op parent r).2 ∧ r.sts.length ≤ (stateName t op parent r).2.sts.length ∧
 ((stateName t op parent r).1 = true → r.sts.length < (stateName t op parent r).2.sts.length):=by
 unfold stateName
 split
 ·refine ⟨⟨?_,h.tra,h.bla⟩,?_,fun _=>?_⟩
  ·exact Up.mark (Up.push h.up h1 h2) parent
  ·simp only [markParent_len];simp
  simp only [markParent_len];simp
 exact ⟨h,Nat.le_refl _,by simp⟩
theorem stateW_ri {t : ByteArray} {r : Rs} {it : Int → Int → Rs → Bool × Rs} (hit : ∀ a c s,c ≠ 0 → Ok t s → Ri t s → (0 : Int) ≤ a → a < (s.sts.length : Int) → Ri t (it a c s).2 ∧ s.sts.length ≤ (it a c s).2.sts.length) (parent : Int) (hp : r.pos < t.size) (hk : Ok t r) (h : Ri t r)
 (h1 : -1 ≤ parent) (h2 : parent < r.sts.length) : Ri t (stateW t it parent r).2 ∧ r.sts.length ≤ (stateW t it parent r).2.sts.length:=by
 obtain ⟨⟨d1,d2,d3,d4⟩,h5⟩:=hk;have hn:=stateName_ok (t:=t) (r:={ r with pos:=r.pos + 1 }) (peek t r.pos) parent ⟨⟨by simp only;omega,by simp only;omega,by simp only;omega,by simp only;omega⟩,by simp only;omega⟩;have hm:=stateName_ri (t:=t) (r:={ r with pos:=r.pos + 1 }) (peek t r.pos) parent h1 h2 ⟨h.up,h.tra,h.bla⟩;unfold stateW;generalize stateName t (peek t r.pos) parent { r with pos:=r.pos + 1 } = s at *;obtain ⟨m1,m2,m3⟩:=hm;simp only at m2 m3
 split
 ·rename_i q
  have m4:=m3 q
  split
  ·have:=hit r.sts.length 41 s.2 (by decide) hn.1 m1 (by omega) (by omega);exact ⟨this.1,by omega⟩
  split
  ·have:=hit r.sts.length 93 s.2 (by decide) hn.1 m1 (by omega) (by omega);exact ⟨this.1,by omega⟩
  split
  ·exact ⟨⟨m1.up,m1.tra,m1.bla⟩,m2⟩
  exact ⟨m1,m2⟩
 exact ⟨m1,m2⟩
theorem itemsF_ri {t : ByteArray} : ∀ (n : Nat) (self cl : Int) (r : Rs),cl ≠ 0 → Ok t r → Ri t r → 0 ≤ self → self < r.sts.length → Ri t (itemsF t n self cl r).2 ∧ r.sts.length ≤ (itemsF t n self cl r).2.sts.length:=by
 intro n
 induction n with
 | zero=>intro self cl r _ _ h _ _;exact ⟨h,Nat.le_refl _⟩
 | succ n ih=>?_
 intro self cl r hcl hk h h1 h2;simp only [itemsF]
 split
 ·rename_i q
  have ho:=stateW_ok (fun a c s hc hs=>itemsF_ok n a c s hc hs) self (lt_of_open q) hk;have hs:=stateW_ri (it:=itemsF t n) (fun a c s hc hs hr ha hb=>ih a c s hc hs hr ha hb) self (lt_of_open q) hk h (by omega) h2;generalize stateW t (itemsF t n) self r = s at *
  split
  ·have:=ih self cl s.2 hcl ho.1 hs.1 h1 (by omega);exact ⟨this.1,by omega⟩
  exact hs
 split
 ·rename_i q
  have ho:=transition_ok self (lt_of_eq (by decide) q) hk;have hs:=transition_ri self h;generalize transition t self r = s at *
  split
  ·have:=ih self cl s.2 hcl ho.1 hs.1 h1 (by rw [hs.2];exact h2);rw [hs.2] at this;exact this
  exact ⟨hs.1,by rw [hs.2];exact Nat.le_refl _⟩
 split
 ·rename_i q
  have hlt : r.pos < t.size:=by
   rcases Nat.lt_or_ge r.pos t.size with x | x
   ·exact x
   rw [peek_zero x] at q;simp at q
  have ho:=block_ok self hlt hk;have hs:=block_ri self hlt h;generalize block t self r = s at *
  split
  ·have:=ih self cl s.2 hcl ho.1 hs.1 h1 (by rw [hs.2];exact h2);rw [hs.2] at this;exact this
  exact ⟨hs.1,by rw [hs.2];exact Nat.le_refl _⟩
 exact ⟨⟨h.up,h.tra,h.bla⟩,Nat.le_refl _⟩
theorem chart_ri (t : ByteArray) : Ri t (chart t).2:=by
 have h0 : Ri t r0:=⟨by intro k s h;simp [r0] at h,by simp [r0],by simp [r0]⟩
 unfold chart
 split
 ·rename_i q
  have hlt : 0 < t.size:=by
   rcases Nat.lt_or_ge 0 t.size with x | x
   ·exact x
   rw [peek_zero x] at q;simp at q
  have hs:=stateW_ri (it:=itemsF t (t.size + 1)) (fun a c s hc hs hr ha hb=>itemsF_ri (t.size + 1) a c s hc hs hr ha hb) (-1) (r:=r0) hlt (r0_ok t) h0 (by omega) (by simp [r0])
  split
  ·exact hs.1
  exact hs.1
 exact h0
theorem olNone_ok : (⟨[],[],[]⟩ : Ol).Ok:=⟨by intro k s h;simp at h,by simp,by simp,by simp,by simp,by simp⟩
theorem read_ok (t : ByteArray) : (read t).2.2.Ok:=by
 unfold read
 split
 ·exact olNone_ok
 rename_i q
 split
 ·split
  ·rename_i qj
   have hi:=chart_ri t;obtain ⟨⟨d1,d2,d3,d4⟩,h5⟩:=chart_ok t;refine ⟨hi.up,?_,?_,?_,fun x hx=>⟨by have:=(hi.tra x hx).1;omega,(hi.tra x hx).2⟩,fun x hx=>⟨by have:=(hi.bla x hx).1;omega,(hi.bla x hx).2⟩⟩
   ·simp only
    unfold judge at qj
    split at qj
    ·simp at qj
    omega
   ·simp only;omega
   simp only;omega
  exact olNone_ok
 exact olNone_ok
end Ch
end Go.Proofs.YtnlbchmfcebeeaaGreat
