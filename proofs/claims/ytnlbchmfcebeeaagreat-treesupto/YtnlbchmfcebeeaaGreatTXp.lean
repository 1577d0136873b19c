import Derived.Test.YtnlbchmfcebeeaaGreatTXe
import Derived.Test.YtnlbchmfcebeeaaGreatTE1
import Derived.Test.YtnlbchmfcebeeaaGreatTF2
set_option maxHeartbeats 12800000
set_option maxRecDepth 100000
namespace Go.Proofs.YtnlbchmfcebeeaaGreat
namespace Ch
/-! Above and below. -/
theorem abvF_more {ss : List St} (hu : Up ss) (h : Int) : ∀ (f : Nat) (i : Int),(i + 1).toNat ≤ f → abvF ss h f i = isAbove ss h i:=by
 have key : ∀ (n f g : Nat) (i : Int),(i + 1).toNat ≤ n → (i + 1).toNat ≤ f → (i + 1).toNat ≤ g → abvF ss h f i = abvF ss h g i:=by
  intro n
  induction n with
  | zero =>
    intro f g i h0 _ _;rw [abvF_end ss h f (by omega),abvF_end ss h g (by omega)]
  | succ n ih=>?_
  intro f g i h0 h1 h2
  by_cases c : -1 < i
  ·match f,g,h1,h2 with
   | 0,_,h1,_=>omega
   | _ + 1,0,_,h2=>omega
   | f + 1,g + 1,h1,h2 =>
     simp only [abvF,c,decide_true,if_true];have:=par_lt hu c;rw [ih f g (parAt ss i) (by omega) (by omega) (by omega)]
  rw [abvF_end ss h f c,abvF_end ss h g c]
 intro f i hf;exact key f f _ i hf hf (Nat.le_refl _)
theorem abv_step {ss : List St} (hu : Up ss) (h : Int) {i : Int} (hi : 0 ≤ i) : isAbove ss h i = (parAt ss i == h || isAbove ss h (parAt ss i)):=by
 have e : isAbove ss h i = abvF ss h (i.toNat + 1) i:=by unfold isAbove;rw [show (i + 1).toNat = i.toNat + 1 by omega]
 rw [e];simp only [abvF,show -1 < i by omega,decide_true,if_true];have:=par_lt hu (i:=i) (by omega);rw [abvF_more hu h _ _ (by omega)]
 cases parAt ss i == h <;> simp
theorem abv_neg (ss : List St) (h : Int) {i : Int} (hi : i < 0) : isAbove ss h i = false:=abvF_end ss h _ (by omega)
theorem up_ind {ss : List St} (hu : Up ss) {P : Int → Prop} (h0 : P (-1)) (h1 : ∀ i,0 ≤ i → P (parAt ss i) → P i) : ∀ i,-1 ≤ i → P i:=by
 have : ∀ (n : Nat) (i : Int),-1 ≤ i → i < n → P i:=by
  intro n
  induction n with
  | zero => intro i h2 h3; have : i = -1 := by omega
            rw [this];exact h0
  | succ n ih=>?_
  intro i h2 h3
  by_cases c : 0 ≤ i
  ·have a:=par_lt hu (i:=i) (by omega)
   have b:=par_low hu i;exact h1 i c (ih _ b (by omega))
  have : i = -1:=by omega
  rw [this];exact h0
 intro i hi;exact this (i + 1).toNat i hi (by omega)
theorem abv_lt {ss : List St} (hu : Up ss) {h i : Int} (hi : -1 ≤ i) : isAbove ss h i = true → -1 ≤ h ∧ h < i:=by
 refine up_ind hu (P:=fun i=>isAbove ss h i = true → -1 ≤ h ∧ h < i) ?_ ?_ i hi
 ·intro e;rw [abv_neg ss h (by omega)] at e;cases e
 intro i h0 ih e;rw [abv_step hu h h0] at e;have a:=par_lt hu (i:=i) (by omega);have b:=par_low hu i
 rcases Bool.or_eq_true _ _ ▸ e with e | e
 ·have : parAt ss i = h:=by simpa using e
  omega
 have:=ih e;omega
theorem abv_lt' {ss : List St} (hu : Up ss) {h i : Int} (e : isAbove ss h i = true) : -1 ≤ h ∧ h < i:=by
 by_cases c : 0 ≤ i
 ·exact abv_lt hu (by omega) e
 rw [abv_neg ss h (by omega)] at e;cases e
theorem abv_trans {ss : List St} (hu : Up ss) {a b c : Int} (hab : isAbove ss a b = true) (hc : -1 ≤ c) : isAbove ss b c = true → isAbove ss a c = true:=by
 refine up_ind hu (P:=fun c=>isAbove ss b c = true → isAbove ss a c = true) ?_ ?_ c hc
 ·intro e;rw [abv_neg ss b (by omega)] at e;cases e
 intro i h0 ih e;rw [abv_step hu b h0] at e;rw [abv_step hu a h0]
 rcases Bool.or_eq_true _ _ ▸ e with e | e
 ·have : parAt ss i = b:=by simpa using e
  rw [this,hab];simp
 rw [ih e];simp
theorem abv_tr {ss : List St} (hu : Up ss) {a b c : Int} (hab : isAbove ss a b = true) (hbc : isAbove ss b c = true) : isAbove ss a c = true :=
 abv_trans hu hab (by have:=abv_lt' hu hbc;omega) hbc
structure Shp (ss : List St) : Prop where
 up : Up ss
 ne : 0 < ss.length
 root : ∀ k : Nat,k < ss.length → parAt ss k = -1 → k = 0
 pre : ∀ k : Nat,k + 1 < ss.length → parAt ss ((k + 1 : Nat) : Int) = k ∨ isAbove ss (parAt ss ((k + 1 : Nat) : Int)) k = true
 pk : ∀ k : Nat,0 < k → k < ss.length → kindAt ss (parAt ss k) = 2 ∨ kindAt ss (parAt ss k) = 3
 kid : ∀ k : Nat,k < ss.length → kindAt ss k = 2 ∨ kindAt ss k = 3 → ∃ j : Nat,j < ss.length ∧ isChild ss j k = true
 hs : ∀ k : Nat,k < ss.length → kindAt ss k = 5 ∨ kindAt ss k = 4 → 0 < k ∧ kindAt ss (parAt ss k) = 2
structure Ent (ss : List St) (S : Nat → Bool) (goals : List Int) : Prop where
 lt : ∀ i,S i = true → i < ss.length
 upc : ∀ i p : Nat,S i = true → parAt ss i = p → S p = true
 hist : ∀ i,S i = true → kindAt ss i ≠ 5
 one : ∀ p i j : Nat,kindAt ss p = 2 → isChild ss i p = true → isChild ss j p = true → S i = true → S j = true → i = j
 rng : ∀ g ∈ goals,0 ≤ g ∧ g < ss.length ∧ kindAt ss g ≠ 5
 uni : ∀ p : Nat,kindAt ss p = 2 → (∀ i : Nat,isChild ss i p = true → S i = false) → ∀ g1 ∈ goals,∀ g2 ∈ goals,isAbove ss p g1 = true → isAbove ss p g2 = true → g1 = g2
/-! Acts turn neither what is active nor what is remembered. -/
def SameAP (a b : Sd) : Prop:=a.act = b.act ∧ a.past = b.past
theorem SameAP.refl (a : Sd) : SameAP a a:=⟨rfl,rfl⟩
theorem SameAP.trans {a b c : Sd} (h : SameAP a b) (g : SameAP b c) : SameAP a c:=⟨h.1.trans g.1,h.2.trans g.2⟩
structure Conf (ss : List St) (S : Nat → Bool) : Prop where
 root : S 0 = true
 lt : ∀ i,S i = true → i < ss.length
 upc : ∀ i p : Nat,S i = true → parAt ss i = p → S p = true
 hist : ∀ i,S i = true → kindAt ss i ≠ 5
 one : ∀ p i j : Nat,kindAt ss p = 2 → isChild ss i p = true → isChild ss j p = true → S i = true → S j = true → i = j
 some2 : ∀ p : Nat,S p = true → kindAt ss p = 2 → ∃ i : Nat,isChild ss i p = true ∧ S i = true
 all3 : ∀ p i : Nat,S p = true → kindAt ss p = 3 → isChild ss i p = true → S i = true
/-! What a transition leaves. -/
def lv (ol : Ol) (s : Sd) (t : Int) (j : Nat) : Bool:=match ol.trs[t.toNat]? with
 | some x=>!(x.target == 45) && (decide (j < ol.sts.length) && (bit s.act j && isAbove ol.sts (dom ol.sts x.state x.target) j))
 | none=>false
def PastOk (ss : List St) (s : Sd) : Prop:=∀ k : Nat,k < ss.length → hist ss k = true → isPast ss k (pastAt s k) = true
structure OlS (ol : Ol) : Prop where
 shp : Shp ol.sts
 le : ol.sts.length ≤ 16
 tgt : ∀ x ∈ ol.trs,x.target ≠ 45 → ∃ g : Nat,place ol.sts x.target = g ∧ g < ol.sts.length
 src : ∀ x ∈ ol.trs,∃ k : Nat,x.state = k ∧ k < ol.sts.length
 nm : ∀ k : Nat,k < ol.sts.length → place ol.sts (nmAt ol.sts k) = k ∧ nmAt ol.sts k ≠ 45
structure Inv (ol : Ol) (s : Sd) : Prop where
 conf : Conf ol.sts (bit s.act)
 past : PastOk ol.sts s
 la : s.act.length = 16
 lp : s.past.length = 16
/-! What the reader gives stands in the order of the text. -/
theorem abv_congr {ss ss' : List St} (hu : Up ss) (hu' : Up ss') {n : Nat} (hp : ∀ k : Nat,k < n → parAt ss' k = parAt ss k) (a : Int) : ∀ (d k : Nat),k < d → k < n → isAbove ss' a k = isAbove ss a k:=by
 intro d
 induction d with
 | zero=>intro k h;omega
 | succ d ih=>?_
 intro k h1 h2;rw [abv_step hu' _ (by omega),abv_step hu _ (by omega),hp k h2];have hl:=par_lt hu (i:=(k : Int)) (by omega);have hm:=par_low hu (k : Int)
 by_cases c : parAt ss k = -1
 ·rw [c,abv_neg ss' a (by omega),abv_neg ss a (by omega)]
 obtain ⟨p,e⟩ : ∃ p : Nat,parAt ss k = p:=⟨(parAt ss k).toNat,by omega⟩
 rw [e] at hl ⊢;rw [ih p (by omega) (by omega)]
structure Zi (ss : List St) : Prop where
 up : Up ss
 root : ∀ k : Nat,0 < k → k < ss.length → 0 ≤ parAt ss k
 pre : ∀ k : Nat,k + 1 < ss.length → parAt ss ((k + 1 : Nat) : Int) = k ∨ isAbove ss (parAt ss ((k + 1 : Nat) : Int)) k = true
def Last (ss : List St) (i : Nat) : Prop:=i + 1 = ss.length ∨ (i + 1 < ss.length ∧ isAbove ss i ((ss.length - 1 : Nat) : Int) = true)
def Gr (ss ss' : List St) : Prop:=ss.length ≤ ss'.length ∧ ∀ k : Nat,k < ss.length → parAt ss' k = parAt ss k
theorem Gr.refl (ss : List St) : Gr ss ss:=⟨Nat.le_refl _,fun _ _=>rfl⟩
theorem Gr.trans {a b c : List St} (h : Gr a b) (g : Gr b c) : Gr a c:=⟨Nat.le_trans h.1 g.1,fun k hk=>(g.2 k (by have:=h.1;omega)).trans (h.2 k hk)⟩
theorem mark_par (p : Int) (ss : List St) (i : Int) : parAt (markParent p ss) i = parAt ss i:=by
 unfold markParent
 split
 ·rename_i k
  split
  ·rename_i s hs
   split
   ·unfold parAt
    cases i with
    | negSucc n=>rfl
    | ofNat j=>?_
    show (match (ss.set k { s with kind:=2 })[j]? with | some s=>s.parent | none=>-1) = (match ss[j]? with | some s=>s.parent | none=>-1)
    by_cases c : k = j
    ·subst c
     rw [List.getElem?_set_self (List.getElem?_eq_some_iff.1 hs).1,hs]
    rw [List.getElem?_set_ne c]
   rfl
  rfl
 rfl
theorem push_par (ss : List St) (s : St) : (∀ k : Nat,k < ss.length → parAt (ss ++ [s]) k = parAt ss k) ∧ parAt (ss ++ [s]) (ss.length : Nat) = s.parent:=by
 constructor
 ·intro k hk
  unfold parAt;rw [stAt_nat,stAt_nat,List.getElem?_append_left hk]
 unfold parAt;rw [stAt_nat,List.getElem?_append_right (Nat.le_refl _)];simp
theorem zi_push {ss : List St} (h : Zi ss) {s : St} (hp : (ss = [] ∧ s.parent = -1) ∨ ∃ i : Nat,s.parent = i ∧ Last ss i) : Zi (markParent s.parent (ss ++ [s])) ∧ Last (markParent s.parent (ss ++ [s])) ss.length ∧ Gr ss (markParent s.parent (ss ++ [s])) ∧ parAt (markParent s.parent (ss ++ [s])) (ss.length : Nat) = s.parent:=by
 have hb : -1 ≤ s.parent ∧ s.parent < ss.length:=by
  rcases hp with ⟨rfl,e⟩ | ⟨i,e,hl⟩
  ·rw [e];simp
  rw [e];rcases hl with hl | hl <;> omega
 have hu : Up (markParent s.parent (ss ++ [s])):=Up.mark (Up.push h.up hb.1 hb.2) _
 have hlen : (markParent s.parent (ss ++ [s])).length = ss.length + 1:=by rw [markParent_len];simp
 have hpar : ∀ k : Nat,k < ss.length → parAt (markParent s.parent (ss ++ [s])) k = parAt ss k:=fun k hk=>by rw [mark_par];exact (push_par ss s).1 k hk
 have hnew : parAt (markParent s.parent (ss ++ [s])) (ss.length : Nat) = s.parent:=by rw [mark_par];exact (push_par ss s).2
 refine ⟨⟨hu,?_,?_⟩,.inl hlen.symm,⟨by omega,hpar⟩,hnew⟩
 ·intro k h0 hk
  rcases Nat.lt_or_ge k ss.length with q | q
  ·rw [hpar k q];exact h.root k h0 q
  have : k = ss.length:=by omega
  rw [this,hnew]
  rcases hp with ⟨rfl,_⟩ | ⟨i,e,_⟩
  ·simp at this;omega
  omega
 intro k hk;rw [hlen] at hk
 rcases Nat.lt_or_ge (k + 1) ss.length with q | q
 ·rw [hpar (k + 1) q,abv_congr h.up hu hpar _ (k + 1) k (by omega) (by omega)];exact h.pre k q
 have e1 : k + 1 = ss.length:=by omega
 rw [e1,hnew]
 rcases hp with ⟨rfl,_⟩ | ⟨i,e,hl⟩
 ·simp at e1
 rcases hl with hl | ⟨hl,ha⟩
 ·left;omega
 right
 rw [abv_congr h.up hu hpar _ (k + 1) k (by omega) (by omega),e];rw [show ss.length - 1 = k by omega] at ha;exact ha
theorem transition_sts (t : ByteArray) (self : Int) (r : Rs) : (transition t self r).2.sts = r.sts:=by
 unfold transition
 split
 ·split
  ·split <;> rfl
  rfl
 rfl
theorem block_sts (t : ByteArray) (self : Int) (r : Rs) : (block t self r).2.sts = r.sts:=by
 unfold block;split <;> rfl
def ItZ (it : Int → Int → Rs → Bool × Rs) : Prop:=∀ (i : Nat) (cl : Int) (r : Rs),Zi r.sts → Last r.sts i → (it i cl r).1 = true → Zi (it i cl r).2.sts ∧ Last (it i cl r).2.sts i ∧ Gr r.sts (it i cl r).2.sts
theorem stateW_zi {t : ByteArray} {it : Int → Int → Rs → Bool × Rs} (hit : ItZ it) {parent : Int} {r : Rs} (h : Zi r.sts) (hp : (r.sts = [] ∧ parent = -1) ∨ ∃ i : Nat,parent = i ∧ Last r.sts i) (hok : (stateW t it parent r).1 = true) :
 Zi (stateW t it parent r).2.sts ∧ Last (stateW t it parent r).2.sts r.sts.length ∧ Gr r.sts (stateW t it parent r).2.sts ∧ parAt (stateW t it parent r).2.sts (r.sts.length : Nat) = parent:=by
 unfold stateW at hok ⊢
 by_cases q : isNm (peek t (r.pos + 1)) = true
 ·have hn : stateName t (peek t r.pos) parent { r with pos:=r.pos + 1 } = (true,{ r with pos:=r.pos + 1 + 1,sts:=markParent parent (r.sts ++ [⟨peek t (r.pos + 1),((r.pos + 1 : Nat) : Int),kindOf (peek t r.pos),parent⟩]) }):=by
   unfold stateName;simp only;rw [if_pos q]
  obtain ⟨z1,z2,z3,z4⟩:=zi_push h (s:=⟨peek t (r.pos + 1),((r.pos + 1 : Nat) : Int),kindOf (peek t r.pos),parent⟩) hp
  have hlen : (markParent parent (r.sts ++ [⟨peek t (r.pos + 1),((r.pos + 1 : Nat) : Int),kindOf (peek t r.pos),parent⟩])).length = r.sts.length + 1:=by rw [markParent_len];simp
  rw [hn] at hok ⊢;simp only [if_true] at hok ⊢
  split at hok
  ·rename_i c1
   rw [if_pos c1];obtain ⟨a1,a2,a3⟩:=hit r.sts.length 41 _ z1 z2 hok;exact ⟨a1,a2,z3.trans a3,(a3.2 r.sts.length (by simp only;omega)).trans z4⟩
  rename_i c1;rw [if_neg c1]
  split at hok
  ·rename_i c2
   rw [if_pos c2];obtain ⟨a1,a2,a3⟩:=hit r.sts.length 93 _ z1 z2 hok;exact ⟨a1,a2,z3.trans a3,(a3.2 r.sts.length (by simp only;omega)).trans z4⟩
  rename_i c2;rw [if_neg c2]
  split
  ·exact ⟨z1,z2,z3,z4⟩
  exact ⟨z1,z2,z3,z4⟩
 have hn : stateName t (peek t r.pos) parent { r with pos:=r.pos + 1 } = (false,{ r with pos:=r.pos + 1 }):=by
  unfold stateName;simp only;rw [if_neg q]
 rw [hn] at hok;simp at hok
theorem itemsF_zi (t : ByteArray) : ∀ n,ItZ (itemsF t n):=by
 intro n
 induction n with
 | zero=>intro i cl r _ _ h;simp [itemsF] at h
 | succ n ih=>?_
 intro i cl r hz hl hok;simp only [itemsF] at hok ⊢
 split at hok
 ·rename_i c1
  rw [if_pos c1]
  split at hok
  ·rename_i c2
   rw [if_pos c2];obtain ⟨z1,z2,z3,z4⟩:=stateW_zi ih hz (.inr ⟨i,rfl,hl⟩) c2;generalize (stateW t (itemsF t n) i r).2 = r2 at *
   have hil : i < r.sts.length:=by rcases hl with e | e <;> omega
   have hl2 : Last r2.sts i:=by
    right
    have hln : r.sts.length < r2.sts.length:=by rcases z2 with e | e <;> omega
    refine ⟨by omega,?_⟩
    have hin : isAbove r2.sts (i : Int) (r.sts.length : Nat) = true:=by rw [abv_step z1.up _ (by omega),z4];simp
    rcases z2 with e | ⟨_,e⟩
    ·rw [show r2.sts.length - 1 = r.sts.length by omega];exact hin
    exact abv_tr z1.up hin e
   obtain ⟨a1,a2,a3⟩:=ih i cl r2 z1 hl2 hok;exact ⟨a1,a2,z3.trans a3⟩
  cases hok
 rename_i c1;rw [if_neg c1]
 split at hok
 ·rename_i c2
  rw [if_pos c2]
  split at hok
  ·rename_i c3
   rw [if_pos c3];have hs:=transition_sts t i r;generalize (transition t i r).2 = r2 at *;have:=ih i cl r2 (by rw [hs];exact hz) (by rw [hs];exact hl) hok;rw [hs] at this;exact this
  cases hok
 rename_i c2;rw [if_neg c2]
 split at hok
 ·rename_i c3
  rw [if_pos c3]
  split at hok
  ·rename_i c4
   rw [if_pos c4];have hs:=block_sts t i r;generalize (block t i r).2 = r2 at *;have:=ih i cl r2 (by rw [hs];exact hz) (by rw [hs];exact hl) hok;rw [hs] at this;exact this
  cases hok
 rename_i c3;rw [if_neg c3];exact ⟨hz,hl,Gr.refl _⟩
theorem chart_zi {t : ByteArray} (h : (chart t).1 = true) : Zi (chart t).2.sts ∧ 0 < (chart t).2.sts.length:=by
 unfold chart at h ⊢
 split at h
 ·rename_i c1
  rw [if_pos c1]
  split at h
  ·rename_i c2
   rw [if_pos c2]
   have z0 : Zi r0.sts:=⟨by intro k s h;simp [r0] at h,by intro k h1 h2;simp [r0] at h2,by intro k h2;simp [r0] at h2⟩
   obtain ⟨z1,z2,z3,_⟩:=stateW_zi (itemsF_zi t (t.size + 1)) z0 (.inl ⟨rfl,rfl⟩) c2
   have hpos : 0 < (stateW t (itemsF t (t.size + 1)) (-1) r0).2.sts.length:=by rcases z2 with e | e <;> omega
   exact ⟨z1,hpos⟩
  cases h
 cases h
def T0 (r : Rs) : Prop:=∀ x ∈ r.trs,0 ≤ x.state
theorem transition_t0 (t : ByteArray) (i : Nat) {r : Rs} (h : T0 r) : T0 (transition t i r).2:=by
 unfold transition
 split
 ·split
  ·split
   ·intro x hx
    rcases List.mem_append.1 hx with hx | hx
    ·exact h x hx
    simp at hx;subst hx;simp only;omega
   exact h
  exact h
 exact h
theorem block_t0 (t : ByteArray) (i : Nat) {r : Rs} (h : T0 r) : T0 (block t i r).2:=by
 unfold block;split <;> exact h
theorem stateW_t0 {t : ByteArray} {it : Int → Int → Rs → Bool × Rs} (hit : ∀ (i : Nat) (cl : Int) (r : Rs),T0 r → T0 (it i cl r).2) {parent : Int} {r : Rs} (h : T0 r) : T0 (stateW t it parent r).2:=by
 have hn : T0 (stateName t (peek t r.pos) parent { r with pos:=r.pos + 1 }).2:=by unfold stateName;split <;> exact h
 unfold stateW
 split
 ·split
  ·exact hit _ _ _ hn
  split
  ·exact hit _ _ _ hn
  split
  ·exact hn
  exact hn
 exact hn
theorem itemsF_t0 (t : ByteArray) : ∀ (n i : Nat) (cl : Int) (r : Rs),T0 r → T0 (itemsF t n i cl r).2:=by
 intro n
 induction n with
 | zero=>intro i cl r h;exact h
 | succ n ih=>?_
 intro i cl r h;simp only [itemsF]
 split
 ·have:=stateW_t0 (t:=t) (parent:=i) ih h
  split
  ·exact ih _ _ _ this
  exact this
 split
 ·have:=transition_t0 t i h
  split
  ·exact ih _ _ _ this
  exact this
 split
 ·have:=block_t0 t i h
  split
  ·exact ih _ _ _ this
  exact this
 exact h
theorem chart_t0 (t : ByteArray) : T0 (chart t).2:=by
 have h0 : T0 r0:=by intro x hx;simp [r0] at hx
 have:=stateW_t0 (t:=t) (parent:=-1) (itemsF_t0 t (t.size + 1)) h0;unfold chart
 split
 ·split
  ·exact this
  exact this
 exact h0
/-! A chart without faults. -/
theorem Fa2.right {α β : Type} {R : α → β → Prop} {l : List α} {m : List β} (h : Fa2 R l m) {b : β} (hb : b ∈ m) : ∃ a ∈ l,R a b:=by
 induction h with
 | nil=>cases hb
 | cons hab _ ih=>?_
 rcases List.mem_cons.1 hb with rfl | hb
 ·exact ⟨_,by simp,hab⟩
 obtain ⟨a,ha,hr⟩:=ih hb;exact ⟨a,by simp [ha],hr⟩
theorem firstUnk_none {ss : List St} : ∀ (us : List Us),firstUnk ss us = -2 → (∀ u ∈ us,-2 < u.pos) → ∀ u ∈ us,place ss u.name ≠ -2:=by
 intro us
 induction us with
 | nil=>intro _ _ u hu;cases hu
 | cons a us ih=>?_
 intro h hp u hu;simp only [firstUnk] at h
 split at h
 ·have:=hp a (by simp);omega
 rename_i q
 rcases List.mem_cons.1 hu with rfl | hu
 ·simpa using q
 exact ih h (fun u hu=>hp u (by simp [hu])) u hu
theorem place_in {ss : List St} {c : Int} (h : place ss c ≠ -2) : ∃ g : Nat,place ss c = g ∧ g < ss.length:=by
 rcases placeF_spec c ss 0 with ⟨e,_⟩ | ⟨i,s,h1,_,h3,_⟩
 ·exact absurd e h
 exact ⟨i,by unfold place;rw [h3];simp,(List.getElem?_eq_some_iff.1 h1).1⟩
theorem nmAt_rn {L : List RN} {k : Nat} (hk : k < L.length) : nmAt (L.map RN.st) k = (rnAt L k).name:=by
 unfold nmAt;rw [List.getElem?_map,List.getElem?_eq_getElem hk,rnAt_of (List.getElem?_eq_getElem hk)];rfl
theorem ols_of {L : List RN} {r : Rs} (hN : NR L r) (hz : Zi r.sts) (hne : 0 < r.sts.length) (hj : (judge r.sts r.uses).1 = 0) (hT : ∀ x ∈ r.trs,0 ≤ x.state) : OlS ⟨r.sts,r.trs,r.bls⟩:=by
 obtain ⟨hu,h16⟩:=uniq_judge hN hj;have hsts:=hN.sts
 have hlen : r.sts.length = L.length:=by rw [← hsts];simp
 have hmis : ∀ k,k < L.length → misR L k = false:=by
  rw [← fault_eq hN] at hj;unfold faultR at hj;rw [if_neg (by omega)] at hj
  cases e : (List.range L.length).find? (dupR L) with
  | some i=>rw [e] at hj;simp at hj
  | none=>?_
  rw [e] at hj;simp only at hj
  cases e2 : (List.range L.length).find? (misR L) with
  | some i=>rw [e2] at hj;simp at hj
  | none=>?_
  rw [List.find?_eq_none] at e2;intro k hk;have:=e2 k (by simpa using hk);simpa using this
 have hunk : firstUnk r.sts r.uses = -2:=by
  unfold judge at hj;rw [if_neg (by omega)] at hj
  split at hj
  ·simp at hj
  split at hj
  ·simp at hj
  split at hj
  ·simp at hj
  rename_i q;simpa using q
 have hupos : ∀ u ∈ r.uses,-2 < u.pos:=by
  intro u hu';obtain ⟨k,n,rt,x,_,_,ht,hx⟩:=(hN.us u).1 hu';have h0:=ht.pos;unfold usesT at hx
  rcases List.mem_append.1 hx with hx | hx
  ·split at hx
   ·simp at hx;subst hx;simp only;omega
   cases hx
  split at hx
  ·simp at hx;subst hx;simp only
   omega
  cases hx
 have hplace:=firstUnk_none r.uses hunk hupos
 have kd : ∀ k : Nat,k < L.length → kindAt r.sts k = (rnAt L k).kind:=fun k hk=>by rw [← hsts];exact kindAt_rn hk
 have pr : ∀ k : Nat,k < L.length → parAt r.sts k = (rnAt L k).parent:=fun k hk=>by rw [← hsts];exact parAt_rn hk
 have wf : ∀ (k : Nat) (hk : k < L.length),-1 ≤ (L[k]).parent ∧ (L[k]).parent < k ∧ isNm (L[k]).name = true ∧ (((L[k]).kind = 4 ∨ (L[k]).kind = 5) → 0 ≤ (L[k]).parent) ∧ 1 ≤ (L[k]).kind ∧ (L[k]).kind ≤ 5 ∧ 0 ≤ (L[k]).pos:=fun k hk=>hN.wf k _ (List.getElem?_eq_getElem hk)
 have hch : ∀ (j : Nat) (p : Int),j < L.length → isChild r.sts j p = isKid L p j:=fun j p hj'=>by rw [← hsts];exact isChild_kid hj'
 refine ⟨⟨hz.up,hne,?_,hz.pre,?_,?_,?_⟩,by rw [hlen];exact h16,?_,?_,?_⟩
 ·intro k hk e
  by_cases c : k = 0
  ·exact c
  have:=hz.root k (by omega) hk;simp only at e;omega
 ·intro k h0 hk
  simp only at hk ⊢;have hp:=hz.root k h0 hk;rw [hlen] at hk;have hw:=wf k hk;rw [pr k hk] at hp ⊢;have e1:=rnAt_of (List.getElem?_eq_getElem hk);rw [e1] at hp ⊢
  obtain ⟨p,hpp⟩ : ∃ p : Nat,(L[k]).parent = p:=⟨(L[k]).parent.toNat,by omega⟩
  have hpl : p < L.length:=by omega
  have:=hN.pk k _ L[p] (List.getElem?_eq_getElem hk) (by rw [hpp];exact List.getElem?_eq_getElem hpl);rw [hpp,kd p hpl,rnAt_of (List.getElem?_eq_getElem hpl)];exact this
 ·intro k hk hkk
  simp only at hk hkk ⊢;rw [hlen] at hk;rw [kd k hk] at hkk;have hm:=hmis k hk;unfold misR at hm;rw [if_neg (by simp;omega)] at hm
  have h3 : ((rnAt L k).kind == 3 || (rnAt L k).kind == 2) = true:=by simp;omega
  rw [h3] at hm;simp only [Bool.true_and] at hm
  cases q : kidsR L (k : Int) with
  | nil=>rw [q] at hm;simp at hm
  | cons a l=>?_
  have ha : a ∈ kidsR L (k : Int):=by rw [q];simp
  unfold kidsR at ha;rw [List.mem_filter] at ha
  have hal : a < L.length:=by simpa using ha.1
  exact ⟨a,by omega,by rw [hch a _ hal];exact ha.2⟩
 ·intro k hk hkk
  simp only at hk hkk ⊢;rw [hlen] at hk;rw [kd k hk] at hkk;have hw:=wf k hk;have e1:=rnAt_of (List.getElem?_eq_getElem hk);rw [e1] at hkk;have hp:=hw.2.2.2.1 (by omega);have hm:=hmis k hk;unfold misR at hm;rw [e1,if_pos (by simp;omega)] at hm
  obtain ⟨p,hpp⟩ : ∃ p : Nat,(L[k]).parent = p:=⟨(L[k]).parent.toNat,by omega⟩
  have hpl : p < L.length:=by omega
  have h23:=hN.pk k _ L[p] (List.getElem?_eq_getElem hk) (by rw [hpp];exact List.getElem?_eq_getElem hpl);refine ⟨by omega,?_⟩;rw [pr k hk,e1,hpp,kd p hpl];rw [hpp,Int.toNat_natCast] at hm;have e2:=rnAt_of (List.getElem?_eq_getElem hpl);rw [e2] at hm ⊢
  have : (L[p]).kind ≠ 3:=by simpa using hm
  omega
 ·intro x hx hta
  simp only at hx ⊢
  obtain ⟨k,hk⟩ : ∃ k : Nat,x.state = k:=by
   have:=hN.ts x hx;exact ⟨x.state.toNat,by have:=(hT x hx);omega⟩
  have hkl : k < L.length:=by have:=hN.ts x hx;omega
  obtain ⟨rt,hrt,hok⟩:=(hN.trs k _ (List.getElem?_eq_getElem hkl)).right (b:=x) (by rw [List.mem_filter];exact ⟨hx,by unfold inS;rw [hk];simp⟩)
  have hnm : isNm x.target = true:=by
   have:=hok.ta;unfold isTa at this;simp only [Bool.or_eq_true,beq_iff_eq] at this
   rcases this with e | e
   ·exact absurd e hta
   exact e
  have hu1 : (⟨x.target,rt.pos + (bys rt.text).length - 1⟩ : Us) ∈ r.uses:=(hN.us _).2 ⟨k,_,rt,x,List.getElem?_eq_getElem hkl,hrt,hok,by unfold usesT;rw [if_pos hnm];simp⟩;exact place_in (hplace _ hu1)
 ·intro x hx
  simp only at hx ⊢;have h1:=hN.ts x hx;have h0:=hT x hx;exact ⟨x.state.toNat,by omega,by omega⟩
 intro k hk;simp only at hk ⊢;rw [hlen] at hk;rw [← hsts,nmAt_rn hk]
 constructor
 ·rcases named_place L (rnAt L k).name with ⟨_,_,h3⟩ | ⟨i,hi,_,h3,h4⟩
  ·exact absurd rfl (h3 k hk)
  rw [h3];have:=hu i k hi hk h4;omega
 have hw:=(wf k hk).2.2.1;rw [← rnAt_of (List.getElem?_eq_getElem hk)] at hw;unfold isNm at hw;simp only [Bool.and_eq_true,decide_eq_true_eq] at hw;omega
theorem read_ols {t : ByteArray} (h : (read t).1 = 0) : OlS (read t).2.2 ∧ (read t).2.2 = ⟨(chart t).2.sts,(chart t).2.trs,(chart t).2.bls⟩ ∧ (chart t).1 = true ∧ (judge (chart t).2.sts (chart t).2.uses).1 = 0:=by
 unfold read at h ⊢
 split at h
 ·cases h
 rename_i c0;rw [if_neg c0]
 split at h
 ·rename_i c1
  rw [if_pos c1]
  split at h
  ·rename_i c2
   rw [if_pos c2]
   have hj : (judge (chart t).2.sts (chart t).2.uses).1 = 0:=by simpa using c2
   obtain ⟨L,_,hN⟩:=sim_chart c1;obtain ⟨hz,hne⟩:=chart_zi c1;exact ⟨ols_of hN hz hne hj (chart_t0 t),rfl,c1,hj⟩
  rename_i c2;simp only at h;rw [h] at c2;simp at c2
 cases h
theorem bys_str {l : List Int} (h : ∀ x ∈ l,0 ≤ x ∧ x < 256) : bys (strOfNums l) = l:=by
 unfold bys strOfNums;simp only [List.map_map];rw [show (List.map ((fun b : UInt8=>(b.toNat : Int)) ∘ fun n : Int=>UInt8.ofNat n.toNat) l) = l.map id from List.map_congr_left (fun x hx=>?_)]
 ·simp
 have:=h x hx;simp only [Function.comp,id,UInt8.toNat_ofNat'];omega
theorem bys_append (a b : ByteArray) : bys (a ++ b) = bys a ++ bys b:=by
 unfold bys;rw [ByteArray.data_append];simp
theorem str_append (a b : List Int) : strOfNums (a ++ b) = strOfNums a ++ strOfNums b:=by
 unfold strOfNums;apply ByteArray.ext;rw [ByteArray.data_append];simp
theorem ev_byte {c : Int} (h : isEv c = true) : 97 ≤ c ∧ c ≤ 122:=by unfold isEv at h;simpa using h
theorem vr_byte {c : Int} (h : isVr c = true) : 120 ≤ c ∧ c ≤ 122:=by have:=isVr_or h;omega
theorem AcV.byte {a : Ac} (h : AcV a) : 97 ≤ a.letter ∧ a.letter ≤ 122 ∧ 0 ≤ a.digit ∧ a.digit ≤ 9:=by
 rcases h with ⟨_,h2,h3⟩ | ⟨_,h2,h3⟩ | ⟨_,h2,h3⟩
 ·have:=ev_byte h2;omega
 ·have:=ev_byte h2;omega
 have:=vr_byte h2;omega
def mvK (ol : Ol) (t : Nat) : Nat:=match ol.trs[t]? with | some x=>(ol.trs.take t).countP (inS x.state.toNat) | none=>0
structure MvOf (ol : Ol) (t a k : Nat) : Prop where
 tr : ∃ x,ol.trs[t]? = some x ∧ x.state = a ∧ (ol.trs.filter (inS a))[k]? = some x
 st : stateOf ol t = a
 rk : mvK ol t = k
theorem Fa2.get {α β : Type} {R : α → β → Prop} {l : List α} {m : List β} (h : Fa2 R l m) {k : Nat} {b : β} (hb : m[k]? = some b) : ∃ a,l[k]? = some a ∧ R a b:=by
 induction h generalizing k with
 | nil=>simp at hb
 | cons hab _ ih=>?_
 cases k with
 | zero=>simp at hb;subst hb;exact ⟨_,by simp,hab⟩
 | succ k=>simpa using ih (by simpa using hb)
def pastR (ss : List St) (s : Sd) : List Int:=((List.range ss.length).filter (hist ss)).map (pastAt s)
/-! A tick ends: of the timers that are due none comes in again. -/
def dcL : List Int → Nat
 | _ :: b :: l=>(if b == 48 then 1 else 0) + dcL l
 | _=>0
theorem dcL_append : ∀ (n : Nat) (a b : List Int),a.length = 2 * n → dcL (a ++ b) = dcL a + dcL b:=by
 intro n
 induction n with
 | zero=>intro a b h;have : a = []:=List.length_eq_zero_iff.1 (by omega);subst this;simp [dcL]
 | succ n ih=>?_
 intro a b h
 match a,h with
 | x :: y :: a,h =>
   simp only [List.cons_append,dcL];rw [ih a b (by simp at h;omega)];omega
 | [_],h=>simp at h;omega
 | [],h=>simp at h
theorem dcL_app {a b : List Int} (h : a.length % 2 = 0) : dcL (a ++ b) = dcL a + dcL b:=dcL_append (a.length / 2) a b (by omega)
theorem peek_byte (t : ByteArray) (k : Nat) : 0 ≤ peek t k ∧ peek t k < 256:=by
 unfold peek
 split
 ·have:=UInt8.toNat_lt (t[k]'(by assumption));omega
 omega
theorem bys_drop2 {t : ByteArray} {k : Nat} (h : k + 1 < t.size) : (bys t).drop k = peek t k :: peek t (k + 1) :: (bys t).drop (k + 2):=by
 have h1:=bys_get t k (by omega);have h2:=bys_get t (k + 1) h;have hl:=bys_len t;rw [List.drop_eq_getElem_cons (by omega),List.drop_eq_getElem_cons (i:=k + 1) (by omega)];rw [List.getElem?_eq_getElem (by omega)] at h1 h2;simp only [Option.some.injEq] at h1 h2;rw [h1,h2]
theorem cbF_dc (t : ByteArray) (c : Int) : ∀ (f k : Nat) (acc : List Int),acc.length % 2 = 0 → (∀ x ∈ acc,0 ≤ x ∧ x < 256) →
 (cbF t c f k acc).length % 2 = 0 ∧ dcL (cbF t c f k acc) ≤ dcL acc + dcL ((bys t).drop k) ∧ ∀ x ∈ cbF t c f k acc,0 ≤ x ∧ x < 256:=by
 intro f
 induction f with
 | zero=>intro k acc h hb;exact ⟨h,by simp only [cbF];omega,hb⟩
 | succ f ih=>?_
 intro k acc h hb;simp only [cbF]
 split
 ·rename_i c1
  rw [bys_drop2 c1];simp only [dcL]
  split
  ·obtain ⟨h1,h2,h3⟩:=ih (k + 2) (acc ++ [peek t k,peek t (k + 1)]) (by simp;omega) (by
    intro x hx
    rcases List.mem_append.1 hx with hx | hx
    ·exact hb x hx
    simp at hx;rcases hx with rfl | rfl <;> exact peek_byte _ _)
   refine ⟨h1,?_,h3⟩;rw [dcL_app h] at h2;simp only [dcL] at h2;omega
  obtain ⟨h1,h2,h3⟩:=ih (k + 2) acc h hb;exact ⟨h1,by omega,h3⟩
 exact ⟨h,by omega,hb⟩
structure AcA (ol : Ol) : Prop where
 tr : ∀ x ∈ ol.trs,∀ a ∈ x.acts,AcV a
 bl : ∀ b ∈ ol.bls,∀ k : Nat,∀ sg : Int,b.state = k → b.sign = sg → (sg = 94 ∨ sg = 36) → ∀ a ∈ b.acts,AcV a
theorem aca_of {L : List RN} {r : Rs} (hN : NR L r) (hT : T0 r) : AcA ⟨r.sts,r.trs,r.bls⟩:=by
 refine ⟨fun x hx=>?_,fun b hb k sg hk hs hsg=>?_⟩
 ·simp only at hx
  have h0:=hT x hx;have h1:=hN.ts x hx
  obtain ⟨k,hk⟩ : ∃ k : Nat,x.state = k:=⟨x.state.toNat,by omega⟩
  have hkl : k < L.length:=by omega
  obtain ⟨rt,_,hok⟩:=(hN.trs k _ (List.getElem?_eq_getElem hkl)).right (b:=x) (by rw [List.mem_filter];exact ⟨hx,by unfold inS;rw [hk];simp⟩);exact hok.ac
 simp only at hb;have h1:=hN.bs b hb
 have hkl : k < L.length:=by omega
 have hm : b ∈ r.bls.filter (inB_ k sg):=by rw [List.mem_filter];exact ⟨hb,by unfold inB_;rw [hk,hs];simp⟩
 rcases hsg with rfl | rfl
 ·obtain ⟨_,_,hok⟩:=(hN.ent k _ (List.getElem?_eq_getElem hkl)).right hm
  exact hok.ac
 obtain ⟨_,_,hok⟩:=(hN.lea k _ (List.getElem?_eq_getElem hkl)).right hm;exact hok.ac
end Ch
end Go.Proofs.YtnlbchmfcebeeaaGreat
