import Derived.Test.YtnlbchmfcebeeaaGreatTXe
import Derived.Test.YtnlbchmfcebeeaaGreatTF2
set_option maxHeartbeats 12800000
set_option maxRecDepth 100000
namespace Go.Proofs.YtnlbchmfcebeeaaGreat
open Go.Proofs.Tryz Ch
namespace Ch
/-! Above and below. -/
theorem Da {ss : List St} (hu : Up ss) (h : Int) : ∀ (f : Nat) (i : Int),(i + 1).toNat <= f -> nE ss h f i = an ss h i:=by
 have key : ∀ (n f g : Nat) (i : Int),(i + 1).toNat <= n -> (i + 1).toNat <= f -> (i + 1).toNat <= g -> nE ss h f i = nE ss h g i:=by
  intro n
  induction n with
  | zero =>
    intro f g i h0 _ _;rw [jK ss h f (by omega),jK ss h g (by omega)]
  | succ n ih=>?_
  intro f g i h0 h1 h2
  by_cases c : -1 < i
  ·match f,g,h1,h2 with
   | 0,_,h1,_=>omega
   | _ + 1,0,_,h2=>omega
   | f + 1,g + 1,h1,h2 =>
     simp only [nE,c,decide_true,if_true];have:=eZ hu c;rw [ih f g (aq ss i) (by omega) (by omega) (by omega)]
  rw [jK ss h f c,jK ss h g c]
 intro f i hf;exact key f f _ i hf hf (Nat.le_refl _)
theorem bV {ss : List St} (hu : Up ss) (h : Int) {i : Int} (hi : 0 <= i) : an ss h i = (aq ss i == h || an ss h (aq ss i)):=by
 have e : an ss h i = nE ss h (i.toNat + 1) i:=by unfold an;rw [show (i + 1).toNat = i.toNat + 1 by omega]
 rw [e];simp only [nE,show -1 < i by omega,decide_true,if_true];have:=eZ hu (i:=i) (by omega);rw [Da hu h _ _ (by omega)]
 cases aq ss i == h <;> simp
theorem jn (ss : List St) (h : Int) {i : Int} (hi : i < 0) : an ss h i = false:=jK ss h _ (by omega)
theorem oZ {ss : List St} (hu : Up ss) {P : Int -> Prop} (h0 : P (-1)) (h1 : ∀ i,0 <= i -> P (aq ss i) -> P i) : ∀ i,-1 <= i -> P i:=by
 have : ∀ (n : Nat) (i : Int),-1 <= i -> i < n -> P i:=by
  intro n
  induction n with
  | zero => intro i h2 h3; have : i = -1 := by omega
            rw [this];exact h0
  | succ n ih=>?_
  intro i h2 h3
  by_cases c : 0 <= i
  ·have a:=eZ hu (i:=i) (by omega)
   have b:=d_ hu i;exact h1 i c (ih _ b (by omega))
  have : i = -1:=by omega
  rw [this];exact h0
 intro i hi;exact this (i + 1).toNat i hi (by omega)
theorem KY {ss : List St} (hu : Up ss) {h i : Int} (hi : -1 <= i) : an ss h i = true -> -1 <= h /\ h < i:=by
 refine oZ hu (P:=fun i=>an ss h i = true -> -1 <= h /\ h < i) ?_ ?_ i hi
 ·intro e;rw [jn ss h (by omega)] at e;cases e
 intro i h0 ih e;rw [bV hu h h0] at e;have a:=eZ hu (i:=i) (by omega);have b:=d_ hu i
 rcases Bool.or_eq_true _ _ ▸ e with e | e
 ·have : aq ss i = h:=by simpa using e
  omega
 have:=ih e;omega
theorem eN {ss : List St} (hu : Up ss) {h i : Int} (e : an ss h i = true) : -1 <= h /\ h < i:=by
 by_cases c : 0 <= i
 ·exact KY hu (by omega) e
 rw [jn ss h (by omega)] at e;cases e
theorem Db {ss : List St} (hu : Up ss) {a b c : Int} (hab : an ss a b = true) (hc : -1 <= c) : an ss b c = true -> an ss a c = true:=by
 refine oZ hu (P:=fun c=>an ss b c = true -> an ss a c = true) ?_ ?_ c hc
 ·intro e;rw [jn ss b (by omega)] at e;cases e
 intro i h0 ih e;rw [bV hu b h0] at e;rw [bV hu a h0]
 rcases Bool.or_eq_true _ _ ▸ e with e | e
 ·have : aq ss i = b:=by simpa using e
  rw [this,hab];simp
 rw [ih e];simp
theorem jC {ss : List St} (hu : Up ss) {a b c : Int} (hab : an ss a b = true) (hbc : an ss b c = true) : an ss a c = true :=
 Db hu hab (by have:=eN hu hbc;omega) hbc
theorem FF {ss : List St} (hu : Up ss) {a b c : Int} (hc : -1 <= c) : an ss a c = true -> an ss b c = true -> a = b \/ an ss a b = true \/ an ss b a = true:=by
 refine oZ hu (P:=fun c=>an ss a c = true -> an ss b c = true -> a = b \/ an ss a b = true \/ an ss b a = true) ?_ ?_ c hc
 ·intro e;rw [jn ss a (by omega)] at e;cases e
 intro i h0 ih e1 e2;rw [bV hu a h0] at e1;rw [bV hu b h0] at e2
 rcases Bool.or_eq_true _ _ ▸ e1 with e1 | e1 <;> rcases Bool.or_eq_true _ _ ▸ e2 with e2 | e2
 ·left;have p1 : aq ss i = a:=by simpa using e1
  have p2 : aq ss i = b:=by simpa using e2
  omega
 ·have p1 : aq ss i = a:=by simpa using e1
  rw [p1] at e2;exact .inr (.inr e2)
 ·have p2 : aq ss i = b:=by simpa using e2
  rw [p2] at e1;exact .inr (.inl e1)
 exact ih e1 e2
theorem BD {ss : List St} (hu : Up ss) {a b c : Int} (h1 : an ss a c = true) (h2 : an ss b c = true) : a = b \/ an ss a b = true \/ an ss b a = true :=
 FF hu (by have:=eN hu h1;omega) h1 h2
theorem v_ {ss : List St} (hu : Up ss) {i : Int} (hi : -1 <= i) : 0 <= i -> an ss (-1) i = true:=by
 refine oZ hu (P:=fun i=>0 <= i -> an ss (-1) i = true) ?_ ?_ i hi
 ·intro h;omega
 intro i h0 ih _;rw [bV hu _ h0]
 by_cases c : aq ss i = -1
 ·rw [c];rfl
 have:=d_ hu i;rw [ih (by omega)];simp
structure nR (ss : List St) : Prop where
 up : Up ss
 ne : 0 < ss.length
 root : ∀ k : Nat,k < ss.length -> aq ss k = -1 -> k = 0
 pre : ∀ k : Nat,k + 1 < ss.length -> aq ss ((k + 1 : Nat) : Int) = k \/ an ss (aq ss ((k + 1 : Nat) : Int)) k = true
 pk : ∀ k : Nat,0 < k -> k < ss.length -> ay ss (aq ss k) = 2 \/ ay ss (aq ss k) = 3
 kid : ∀ k : Nat,k < ss.length -> ay ss k = 2 \/ ay ss k = 3 -> ∃ j : Nat,j < ss.length /\ aw ss j k = true
 hs : ∀ k : Nat,k < ss.length -> ay ss k = 5 \/ ay ss k = 4 -> 0 < k /\ ay ss (aq ss k) = 2
theorem uG {ss : List St} {k : Nat} (hk : k < ss.length) (p : Int) : aw ss k p = (aq ss k == p && ay ss k != 5):=by
 unfold aw aq ay;rw [ch,List.getElem?_eq_getElem hk]
theorem bW {ss : List St} {k : Nat} {p : Int} (h : aw ss k p = true) : k < ss.length /\ aq ss k = p /\ ay ss k ≠ 5:=by
 have hk : k < ss.length:=by
  unfold aw at h;rw [ch] at h
  cases q : ss[k]? with
  | none=>rw [q] at h;cases h
  | some s=>exact (List.getElem?_eq_some_iff.1 q).1
 rw [uG hk] at h;simp only [Bool.and_eq_true,beq_iff_eq,bne_iff_ne] at h;exact ⟨hk,h.1,h.2⟩
theorem rY {ss : List St} {k : Nat} {p : Int} (hk : k < ss.length) (h1 : aq ss k = p) (h2 : ay ss k ≠ 5) : aw ss k p = true:=by
 rw [uG hk];simp [h1,h2]
theorem nR.par {ss : List St} (h : nR ss) {k : Nat} (h0 : 0 < k) (hk : k < ss.length) : ∃ p : Nat,aq ss k = p /\ p < k:=by
 have a:=d_ h.up k;have b:=eZ h.up (i:=k) (by omega)
 have c : aq ss k ≠ -1:=fun e=>by have:=h.root k hk e;omega
 exact ⟨(aq ss k).toNat,by omega,by omega⟩
theorem nR.BE {ss : List St} (h : nR ss) : aq ss ((0 : Nat) : Int) = -1:=by
 have a:=d_ h.up ((0 : Nat) : Int);have b:=eZ h.up (i:=((0 : Nat) : Int)) (by omega);omega
theorem nR.mid {ss : List St} (h : nR ss) (i : Int) : ∀ (d k j : Nat),k < ss.length -> k = j + d -> an ss i k = true -> i < j -> an ss i j = true:=by
 intro d
 induction d with
 | zero => intro k j _ e ha _; have : k = j := by omega
           rw [<- this];exact ha
 | succ d ih=>?_
 intro k j hk e ha hi
 obtain ⟨m,rfl⟩ : ∃ m,k = m + 1:=⟨k - 1,by omega⟩
 refine ih m j (by omega) (by omega) ?_ hi;rw [bV h.up _ (by omega)] at ha
 rcases h.pre m hk with hp | hp
 ·rw [hp] at ha
  rcases Bool.or_eq_true _ _ ▸ ha with ha | ha
  ·have : (m : Int) = i:=by simpa using ha
   omega
  exact ha
 rcases Bool.or_eq_true _ _ ▸ ha with ha | ha
 ·have : aq ss ((m + 1 : Nat) : Int) = i:=by simpa using ha
  rw [this] at hp;exact hp
 exact jC h.up ha hp
theorem nR.Qm {ss : List St} (h : nR ss) {a b x : Nat} {p : Int} (ha : aw ss a p = true) (hb : aw ss b p = true) (hab : a < b) (hx : x = a \/ an ss a x = true) (hxl : x < ss.length) : x < b:=by
 rcases Nat.lt_or_ge x b with q | q
 ·exact q
 exfalso
 have hab' : an ss (a : Int) b = true:=by
  rcases hx with rfl | hx
  ·omega
  exact h.mid a (x - b) x b hxl (by omega) hx (by omega)
 rw [bV h.up _ (by omega),(bW hb).2.1,<- (bW ha).2.1] at hab';have hl:=eZ h.up (i:=(a : Int)) (by omega)
 rcases Bool.or_eq_true _ _ ▸ hab' with e | e
 ·have : aq ss a = a:=by simpa using e
  omega
 have:=eN h.up e;omega
theorem nR.toward {ss : List St} (h : nR ss) {p : Int} {g : Int} (hg : -1 <= g) : an ss p g = true -> g < ss.length -> (0 <= g -> ay ss g ≠ 5) -> ∃ c : Nat,aw ss c p = true /\ ((c : Int) = g \/ an ss c g = true):=by
 refine oZ h.up (P:=fun g=>an ss p g = true -> g < ss.length -> (0 <= g -> ay ss g ≠ 5) -> ∃ c : Nat,aw ss c p = true /\ ((c : Int) = g \/ an ss c g = true)) ?_ ?_ g hg
 ·intro e;rw [jn ss p (by omega)] at e;cases e
 intro i h0 ih e hl hk;rw [bV h.up _ h0] at e
 obtain ⟨k,rfl⟩ : ∃ k : Nat,i = k:=⟨i.toNat,by omega⟩
 rcases Bool.or_eq_true _ _ ▸ e with e | e
 ·exact ⟨k,rY (by omega) (by simpa using e) (hk (by omega)),.inl rfl⟩
 have hlt:=eZ h.up (i:=(k : Int)) (by omega)
 have hp : ay ss (aq ss k) ≠ 5:=by
  by_cases c : k = 0
  ·subst c;rw [h.BE] at e;rw [jn ss p (by omega)] at e;cases e
  have:=h.pk k (by omega) (by omega);omega
 obtain ⟨c,hc,hcg⟩:=ih e (by omega) (fun _=>hp);refine ⟨c,hc,.inr ?_⟩;rw [bV h.up _ (by omega)]
 rcases hcg with hcg | hcg
 ·rw [hcg];simp
 rw [hcg];simp
theorem nR.Ad {ss : List St} (h : nR ss) {p : Int} {a b : Nat} {g : Int} (ha : aw ss a p = true) (hb : aw ss b p = true) (hag : (a : Int) = g \/ an ss a g = true) (hbg : (b : Int) = g \/ an ss b g = true) (hl : g < ss.length) : a = b:=by
 have hg : 0 <= g:=by
  rcases hag with e | e
  ·omega
  have:=eN h.up e;omega
 obtain ⟨k,rfl⟩ : ∃ k : Nat,g = k:=⟨g.toNat,by omega⟩
 rcases Nat.lt_trichotomy a b with q | q | q
 ·have:=h.Qm ha hb q (x:=k) (by rcases hag with e | e;exact .inl (by omega);exact .inr e) (by omega)
  rcases hbg with e | e
  ·omega
  have:=eN h.up e;omega
 ·exact q
 have:=h.Qm hb ha q (x:=k) (by rcases hbg with e | e;exact .inl (by omega);exact .inr e) (by omega)
 rcases hag with e | e
 ·omega
 have:=eN h.up e;omega
/-! The reference's next: all that is active in the end. -/
def cK (ss : List St) (i : Nat) : List Nat:=(List.range ss.length).filter fun (j : Nat)=>aw ss j i
def rZ (ss : List St) (goals : List Int) (k : Nat) : Bool:=goals.any fun g=>decide (0 <= g) && (g == (k : Int) || an ss k g)
def kz (p : Nat -> Bool) (c : Nat) (l : List Nat) : Nat:=l.foldl (fun c k=>if p k then k else c) c
def lA (ss : List St) (S : Nat -> Bool) (goals : List Int) (i : Nat) : Nat:=kz S (kz (rZ ss goals) ((cK ss i).headD 0) (cK ss i)) (cK ss i)
def im (ss : List St) (S : Nat -> Bool) (goals : List Int) : Nat -> Nat -> List Nat
 | 0,_=>[]
 | f + 1,i=>i :: (if ay ss i == 2 then im ss S goals f (lA ss S goals i) else if ay ss i == 3 then (cK ss i).flatMap (im ss S goals f) else [])
theorem fW (p : Nat -> Bool) : ∀ (l : List Nat) (c : Nat),(kz p c l = c /\ ∀ k ∈ l,p k = false) \/ (kz p c l ∈ l /\ p (kz p c l) = true):=by
 intro l
 induction l with
 | nil=>intro c;exact .inl ⟨rfl,by simp⟩
 | cons a l ih=>?_
 intro c;show (kz p (if p a then a else c) l = c /\ _) \/ (kz p (if p a then a else c) l ∈ a :: l /\ p (kz p (if p a then a else c) l) = true)
 rcases ih (if p a then a else c) with ⟨e,h⟩ | ⟨h1,h2⟩
 ·cases q : p a with
  | true =>
    rw [q] at e;simp only [if_true] at e ⊢;rw [e];exact .inr ⟨by simp,q⟩
  | false =>
    rw [q] at e;simp only [Bool.false_eq_true,if_false] at e ⊢;refine .inl ⟨e,fun k hk=>?_⟩
    rcases List.mem_cons.1 hk with rfl | hk
    ·exact q
    exact h k hk
 exact .inr ⟨List.mem_cons_of_mem _ h1,h2⟩
theorem bX {ss : List St} {i j : Nat} : j ∈ cK ss i ↔ aw ss j i = true:=by
 unfold cK;rw [List.mem_filter];exact ⟨fun h=>h.2,fun h=>⟨by simpa using (bW h).1,h⟩⟩
theorem xT (ss : List St) (i : Nat) : (cK ss i).Pairwise (· < ·):=by
 unfold cK;exact List.Pairwise.filter _ List.pairwise_lt_range
def Goes (ss : List St) (S : Nat -> Bool) (goals : List Int) (p c : Nat) : Prop:=aw ss c p = true /\ (ay ss p = 3 \/ (ay ss p = 2 /\ c = lA ss S goals p))
theorem xU {ss : List St} (h : nR ss) (S : Nat -> Bool) (goals : List Int) {i : Nat} (hi : i < ss.length) (hk : ay ss i = 2) : aw ss (lA ss S goals i) i = true:=by
 obtain ⟨j,hj,hc⟩:=h.kid i hi (.inl hk);have hj':=bX.2 hc
 have hh : (cK ss i).headD 0 ∈ cK ss i:=by
  cases q : cK ss i with
  | nil=>rw [q] at hj';cases hj'
  | cons a l=>simp
 rw [<- bX];unfold lA
 rcases fW (rZ ss goals) (cK ss i) ((cK ss i).headD 0) with ⟨e,_⟩ | ⟨e,_⟩
 ·rw [e]
  rcases fW S (cK ss i) ((cK ss i).headD 0) with ⟨e,_⟩ | ⟨e,_⟩
  ·rw [e];exact hh
  exact e
 rcases fW S (cK ss i) (kz (rZ ss goals) ((cK ss i).headD 0) (cK ss i)) with ⟨e2,_⟩ | ⟨e2,_⟩
 ·rw [e2];exact e
 exact e2
theorem we {ss : List St} (h : nR ss) {c i : Nat} (hc : aw ss c i = true) : i < c /\ c < ss.length:=by
 obtain ⟨h1,h2,_⟩:=bW hc;have:=eZ h.up (i:=(c : Int)) (by omega);omega
theorem mg {ss : List St} (h : nR ss) {c i : Nat} (hc : aw ss c i = true) : an ss i c = true:=by
 rw [bV h.up _ (by omega),(bW hc).2.1];simp
theorem lB {ss : List St} (h : nR ss) (S : Nat -> Bool) (goals : List Int) : ∀ (f i : Nat),i < ss.length -> ss.length <= i + f ->
 (∀ j ∈ im ss S goals f i,j = i \/ ∃ p ∈ im ss S goals f i,Goes ss S goals p j) /\
 (∀ p ∈ im ss S goals f i,∀ c,Goes ss S goals p c -> c ∈ im ss S goals f i) /\
 (∀ j ∈ im ss S goals f i,j < ss.length /\ (j = i \/ an ss i j = true)) /\ i ∈ im ss S goals f i /\ (im ss S goals f i).Pairwise (· < ·):=by
 intro f
 induction f with
 | zero=>intro i h1 h2;omega
 | succ f ih=>?_
 intro i hi hf;simp only [im]
 by_cases k2 : ay ss i = 2
 ·have II:=xU h S goals hi k2
  have hlt:=we h II;obtain ⟨a1,a2,a3,a4,a5⟩:=ih (lA ss S goals i) hlt.2 (by omega);rw [if_pos (by simpa using k2)];refine ⟨?_,?_,?_,by simp,?_⟩
  ·intro j hj
   rcases List.mem_cons.1 hj with rfl | hj
   ·exact .inl rfl
   rcases a1 j hj with rfl | ⟨p,hp,hg⟩
   ·exact .inr ⟨i,by simp,II,.inr ⟨k2,rfl⟩⟩
   exact .inr ⟨p,List.mem_cons_of_mem _ hp,hg⟩
  ·intro p hp c hg
   rcases List.mem_cons.1 hp with rfl | hp
   ·rcases hg.2 with e | ⟨_,e⟩
    ·omega
    rw [e];exact List.mem_cons_of_mem _ a4
   exact List.mem_cons_of_mem _ (a2 p hp c hg)
  ·intro j hj
   rcases List.mem_cons.1 hj with rfl | hj
   ·exact ⟨hi,.inl rfl⟩
   refine ⟨(a3 j hj).1,.inr ?_⟩
   rcases (a3 j hj).2 with e | e
   ·rw [e];exact mg h II
   exact jC h.up (mg h II) e
  rw [List.pairwise_cons];refine ⟨fun j hj=>?_,a5⟩
  rcases (a3 j hj).2 with e | e
  ·omega
  have:=eN h.up e;omega
 by_cases k3 : ay ss i = 3
 ·rw [if_neg (by simpa using k2),if_pos (by simpa using k3)]
  have ih' : ∀ c,c ∈ cK ss i -> _:=fun c hc=>ih c (we h (bX.1 hc)).2 (by have:=we h (bX.1 hc);omega)
  refine ⟨?_,?_,?_,by simp,?_⟩
  ·intro j hj
   rcases List.mem_cons.1 hj with rfl | hj
   ·exact .inl rfl
   obtain ⟨c,hc,hj⟩:=List.mem_flatMap.1 hj
   rcases (ih' c hc).1 j hj with rfl | ⟨p,hp,hg⟩
   ·exact .inr ⟨i,by simp,bX.1 hc,.inl k3⟩
   exact .inr ⟨p,List.mem_cons_of_mem _ (List.mem_flatMap.2 ⟨c,hc,hp⟩),hg⟩
  ·intro p hp c hg
   rcases List.mem_cons.1 hp with rfl | hp
   ·exact List.mem_cons_of_mem _ (List.mem_flatMap.2 ⟨c,bX.2 hg.1,(ih' c (bX.2 hg.1)).2.2.2.1⟩)
   obtain ⟨d,hd,hp⟩:=List.mem_flatMap.1 hp;exact List.mem_cons_of_mem _ (List.mem_flatMap.2 ⟨d,hd,(ih' d hd).2.1 p hp c hg⟩)
  ·intro j hj
   rcases List.mem_cons.1 hj with rfl | hj
   ·exact ⟨hi,.inl rfl⟩
   obtain ⟨c,hc,hj⟩:=List.mem_flatMap.1 hj;have a3:=(ih' c hc).2.2.1 j hj;refine ⟨a3.1,.inr ?_⟩
   rcases a3.2 with e | e
   ·rw [e];exact mg h (bX.1 hc)
   exact jC h.up (mg h (bX.1 hc)) e
  rw [List.pairwise_cons];refine ⟨fun j hj=>?_,?_⟩
  ·obtain ⟨c,hc,hj⟩:=List.mem_flatMap.1 hj
   have a3:=(ih' c hc).2.2.1 j hj;have:=we h (bX.1 hc)
   rcases a3.2 with e | e
   ·omega
   have:=eN h.up e;omega
  rw [List.pairwise_flatMap];refine ⟨fun c hc=>(ih' c hc).2.2.2.2,?_⟩;have hs:=xT ss i;refine List.Pairwise.imp_of_mem (fun {a b} ha hb hab x hx y hy=>?_) hs;have hx':=(ih' a ha).2.2.1 x hx;have hy':=(ih' b hb).2.2.1 y hy;have:=h.Qm (bX.1 ha) (bX.1 hb) hab hx'.2 hx'.1
  rcases hy'.2 with e | e
  ·omega
  have:=eN h.up e;omega
 rw [if_neg (by simpa using k2),if_neg (by simpa using k3)];refine ⟨?_,?_,?_,by simp,by simp⟩
 ·intro j hj;simp at hj;exact .inl hj
 ·intro p hp c hg;simp at hp;subst hp;rcases hg.2 with e | ⟨e,_⟩ <;> omega
 intro j hj;simp at hj;subst hj;exact ⟨hi,.inl rfl⟩
structure IJ (ss : List St) (S : Nat -> Bool) (goals : List Int) : Prop where
 lt : ∀ i,S i = true -> i < ss.length
 JH : ∀ i p : Nat,S i = true -> aq ss i = p -> S p = true
 dh : ∀ i,S i = true -> ay ss i ≠ 5
 one : ∀ p i j : Nat,ay ss p = 2 -> aw ss i p = true -> aw ss j p = true -> S i = true -> S j = true -> i = j
 Pg : ∀ g ∈ goals,0 <= g /\ g < ss.length /\ ay ss g ≠ 5
 Sr : ∀ p : Nat,ay ss p = 2 -> (∀ i : Nat,aw ss i p = true -> S i = false) -> ∀ g1 ∈ goals,∀ g2 ∈ goals,an ss p g1 = true -> an ss p g2 = true -> g1 = g2
def na (ss : List St) (S : Nat -> Bool) (goals : List Int) (k : Nat) : Bool:=(im ss S goals ss.length 0).contains k
theorem nS {ss : List St} {S : Nat -> Bool} {goals : List Int} {k : Nat} : na ss S goals k = true ↔ k ∈ im ss S goals ss.length 0:=by
 unfold na;exact List.contains_iff_mem
theorem r6 {ss : List St} (h : nR ss) (S : Nat -> Bool) (goals : List Int) : na ss S goals 0 = true :=
 nS.2 (lB h S goals ss.length 0 h.ne (by omega)).2.2.2.1
theorem g7 {ss : List St} (h : nR ss) (S : Nat -> Bool) (goals : List Int) {k p : Nat} (hp : aq ss k = p) : na ss S goals k = true ↔ na ss S goals p = true /\ Goes ss S goals p k:=by
 obtain ⟨a1,a2,a3,_,_⟩:=lB h S goals ss.length 0 h.ne (by omega);rw [nS,nS]
 constructor
 ·intro hk
  rcases a1 k hk with rfl | ⟨q,hq,hg⟩
  ·rw [h.BE] at hp;omega
  have:=(bW hg.1).2.1;rw [hp] at this
  have : p = q:=by omega
  subst this;exact ⟨hq,hg⟩
 rintro ⟨h1,h2⟩;exact a2 p h1 k h2
theorem wg {ss : List St} (h : nR ss) {S : Nat -> Bool} {goals : List Int} {k : Nat} (hk : na ss S goals k = true) : k < ss.length :=
 ((lB h S goals ss.length 0 h.ne (by omega)).2.2.1 k (nS.1 hk)).1
theorem IK {ss : List St} (h : nR ss) (S : Nat -> Bool) (goals : List Int) : im ss S goals ss.length 0 = (List.range ss.length).filter (na ss S goals):=by
 have hs:=(lB h S goals ss.length 0 h.ne (by omega)).2.2.2.2;have hr : ((List.range ss.length).filter (na ss S goals)).Pairwise (· < ·):=List.Pairwise.filter _ List.pairwise_lt_range;refine List.Perm.eq_of_pairwise (le:=(· < ·)) (fun a b _ _ h1 h2=>by omega) hs hr ?_;rw [List.perm_ext_iff_of_nodup (hs.imp (fun h=>by omega)) (hr.imp (fun h=>by omega))];intro a;rw [List.mem_filter,nS]
 constructor
 ·intro ha;exact ⟨by simpa using ((lB h S goals ss.length 0 h.ne (by omega)).2.2.1 a ha).1,ha⟩
 intro ha;exact ha.2
theorem uH {ss : List St} {S : Nat -> Bool} {goals : List Int} (hE : IJ ss S goals) {p c : Nat} (hk : ay ss p = 2) (hc : aw ss c p = true) (hs : S c = true) : lA ss S goals p = c:=by
 unfold lA
 rcases fW S (cK ss p) (kz (rZ ss goals) ((cK ss p).headD 0) (cK ss p)) with ⟨_,e2⟩ | ⟨e1,e2⟩
 ·rw [e2 c (bX.2 hc)] at hs;cases hs
 exact hE.one p _ c hk (bX.1 e1) hc e2 hs
theorem BF {ss : List St} (h : nR ss) {S : Nat -> Bool} {goals : List Int} (hE : IJ ss S goals) : ∀ (n k : Nat),k < n -> S k = true -> na ss S goals k = true:=by
 intro n
 induction n with
 | zero=>intro k hk;omega
 | succ n ih=>?_
 intro k hk hs;have hkl:=hE.lt k hs
 by_cases c : k = 0
 ·subst c;exact r6 h S goals
 obtain ⟨p,hp,hlt⟩:=h.par (by omega) hkl
 have hpl : p < ss.length:=by omega
 have hc : aw ss k p = true:=rY hkl hp (hE.dh k hs);refine (g7 h S goals hp).2 ⟨ih p (by omega) (hE.JH k p hs hp),hc,?_⟩
 rcases h.pk k (by omega) hkl with e | e <;> rw [hp] at e
 ·exact .inr ⟨e,(uH hE e hc hs).symm⟩
 exact .inl e
theorem xV (ss : List St) (p : Int) : ∀ (f k : Nat),bQ ss p f k = match (List.range' k f).filter (fun (j : Nat)=>aw ss j p) with | []=>-2 | a :: _=>((a : Nat) : Int):=by
 intro f
 induction f with
 | zero=>intro k;rfl
 | succ f ih=>?_
 intro k;rw [List.range'_succ,List.filter_cons];simp only [bQ]
 cases q : aw ss k p with
 | true=>simp
 | false=>simp only [Bool.false_eq_true,if_false];exact ih (k + 1)
theorem r7 {ss : List St} {p : Nat} (hne : cK ss p ≠ []) : b9 ss p = ((cK ss p).headD 0 : Nat):=by
 unfold b9;rw [xV,<- List.range_eq_range'];show (match cK ss p with | []=>(-2 : Int) | a :: _=>((a : Nat) : Int)) = _
 cases q : cK ss p with
 | nil=>exact absurd q hne
 | cons a l=>rfl
theorem IL {ss : List St} (h : nR ss) {S : Nat -> Bool} {goals : List Int} (hE : IJ ss S goals) {p k : Nat} (_hp : p < ss.length) (hk2 : ay ss p = 2) (hc : aw ss k p = true)
 (hno : ∀ i : Nat,aw ss i p = true -> S i = false) : gn ss k p goals = decide (k = lA ss S goals p):=by
 have hpick : lA ss S goals p = kz (rZ ss goals) ((cK ss p).headD 0) (cK ss p):=by
  unfold lA
  rcases fW S (cK ss p) (kz (rZ ss goals) ((cK ss p).headD 0) (cK ss p)) with ⟨e,_⟩ | ⟨e1,e2⟩
  ·exact e
  rw [hno _ (bX.1 e1)] at e2;cases e2
 rw [hpick]
 have hne : cK ss p ≠ []:=fun e=>by have:=bX.2 hc;rw [e] at this;cases this
 -- a child that is a goal or above one
 have hhit : ∀ j : Nat,aw ss j p = true -> rZ ss goals j = true -> ∃ g ∈ goals,an ss p g = true /\ ((j : Int) = g \/ an ss j g = true):=by
  intro j hj hh;unfold rZ at hh;rw [List.any_eq_true] at hh;obtain ⟨g,hg,hh⟩:=hh;simp only [Bool.and_eq_true,decide_eq_true_eq,Bool.or_eq_true,beq_iff_eq] at hh;refine ⟨g,hg,?_,by rcases hh.2 with e | e;exact .inl e.symm;exact .inr e⟩
  rcases hh.2 with e | e
  ·rw [e];exact mg h hj
  exact jC h.up (mg h hj) e
 have main : ∀ (l : List Int),(∀ g ∈ l,g ∈ goals) -> (gn ss k p l = true ↔ ((∀ g ∈ l,an ss p g = false) /\ (k : Int) = b9 ss p) \/ ∃ g ∈ l,an ss p g = true /\ ((k : Int) = g \/ an ss k g = true)):=by
  intro l
  induction l with
  | nil=>intro _;simp [gn]
  | cons g l ih=>?_
  intro hl;have ih:=ih (fun x hx=>hl x (by simp [hx]));simp only [gn]
  cases q : an ss p g with
  | true =>
    simp only [if_true,Bool.or_eq_true,beq_iff_eq]
    constructor
    ·intro hh;exact .inr ⟨g,by simp,q,hh⟩
    rintro (⟨h1,_⟩ | ⟨x,hx,h1,h2⟩)
    ·have:=h1 g (by simp);rw [q] at this;cases this
    have : x = g:=hE.Sr p hk2 hno x (hl x hx) g (hl g (by simp)) h1 q;rw [this] at h2;exact h2
  | false=>?_
  simp only [Bool.false_eq_true,if_false];rw [ih]
  constructor
  ·rintro (⟨h1,h2⟩ | ⟨x,hx,h1,h2⟩)
   ·exact .inl ⟨fun y hy=>by rcases List.mem_cons.1 hy with rfl | hy;exact q;exact h1 y hy,h2⟩
   exact .inr ⟨x,by simp [hx],h1,h2⟩
  rintro (⟨h1,h2⟩ | ⟨x,hx,h1,h2⟩)
  ·exact .inl ⟨fun y hy=>h1 y (by simp [hy]),h2⟩
  rcases List.mem_cons.1 hx with rfl | hx
  ·rw [q] at h1;cases h1
  exact .inr ⟨x,hx,h1,h2⟩
 have hm:=main goals (fun _ h=>h);rw [Bool.eq_iff_iff,hm,decide_eq_true_eq]
 rcases fW (rZ ss goals) (cK ss p) ((cK ss p).headD 0) with ⟨e,hz⟩ | ⟨e1,e2⟩
 ·rw [e]
  have hnone : ∀ g ∈ goals,an ss p g = false:=by
   intro g hg
   cases q : an ss p g with
   | false=>rfl
   | true=>?_
   have hr:=hE.Pg g hg;obtain ⟨c,hc',hcg⟩:=h.toward (by omega) q hr.2.1 (fun _=>hr.2.2)
   have : rZ ss goals c = true:=by
    unfold rZ;rw [List.any_eq_true];refine ⟨g,hg,?_⟩;simp only [Bool.and_eq_true,decide_eq_true_eq,Bool.or_eq_true,beq_iff_eq];exact ⟨hr.1,by rcases hcg with e | e;exact .inl e.symm;exact .inr e⟩
   rw [hz c (bX.2 hc')] at this;cases this
  rw [r7 hne]
  constructor
  ·rintro (⟨_,h2⟩ | ⟨x,hx,h1,_⟩)
   ·omega
   rw [hnone x hx] at h1;cases h1
  intro hh;exact .inl ⟨hnone,by omega⟩
 obtain ⟨g,hg,Hp,hgc⟩:=hhit _ (bX.1 e1) e2;have hr:=hE.Pg g hg
 constructor
 ·rintro (⟨h1,_⟩ | ⟨x,hx,h1,h2⟩)
  ·rw [h1 g hg] at Hp;cases Hp
  have : x = g:=hE.Sr p hk2 hno x hx g hg h1 Hp;subst this;exact h.Ad hc (bX.1 e1) h2 hgc hr.2.1
 intro hh;rw [<- hh] at hgc;exact .inr ⟨g,hg,Hp,hgc⟩
/-! Acts turn neither what is active nor what is remembered. -/
def ie (a b : Sd) : Prop:=a.act = b.act /\ a.past = b.past
theorem ie.refl (a : Sd) : ie a a:=⟨rfl,rfl⟩
theorem ie.trans {a b c : Sd} (h : ie a b) (g : ie b c) : ie a c:=⟨h.1.trans g.1,h.2.trans g.2⟩
theorem IM (s : Sd) (c n : Int) : ie (mG s c n) s:=by
 unfold mG gJ
 split
 ·split
  ·exact .refl _
  split <;> exact ⟨rfl,rfl⟩
 exact .refl _
theorem r8 (m : Ma) (a : Ac) : ie (dw m a).2.s m.s:=by
 unfold dw
 split
 ·exact .refl _
 split
 ·unfold send;split <;> exact ⟨rfl,rfl⟩
 split
 ·exact ⟨rfl,rfl⟩
 split
 ·exact .refl _
 exact IM _ _ _
theorem uI : ∀ (l : List Ac) (m : Ma),ie (cV l m).s m.s:=by
 intro l
 induction l with
 | nil=>intro m;exact .refl _
 | cons a l ih=>?_
 intro m;simp only [cV]
 split
 ·exact (ih _).trans (r8 m a)
 exact r8 m a
theorem xW (state sign : Int) : ∀ (l : List Bl) (m : Ma),ie (cD state sign l m).s m.s:=by
 intro l
 induction l with
 | nil=>intro m;exact .refl _
 | cons b l ih=>?_
 intro m;simp only [cD];refine (ih _).trans ?_
 split
 ·exact uI _ _
 exact .refl _
theorem FG (ol : Ol) : ∀ (l : List Int) (m : Ma),ie (fF ol l m).s m.s:=by
 intro l
 induction l with
 | nil=>intro m;exact .refl _
 | cons x l ih=>intro m;simp only [fF];exact (ih _).trans (uI _ _)
theorem qI {l : List Bool} {k : Nat} (hk : k < l.length) (v : Bool) (j : Nat) : bit (kZ l (k : Int) v) j = if k = j then v else bit l j:=by
 show (l.set k v).getD j false = _;unfold bit;simp only [List.getD_eq_getElem?_getD,List.getElem?_set]
 by_cases e : k = j
 ·subst e;rw [if_pos rfl,if_pos hk,if_pos rfl];rfl
 rw [if_neg e,if_neg e]
theorem xX (ol : Ol) (m : Ma) (k : Nat) : (ck ol m k).s.act = kZ m.s.act k true /\ (ck ol m k).s.past = m.s.past:=by
 have h:=xW k 94 ol.cM (dz m k true);unfold ck
 split
 ·rw [(jN _ _ _).1];exact h
 exact h
/-! Due is what is in the end and does not stay. -/
theorem BG {ss : List St} {aP : List Bool} {p : Int} : kept ss aP p = false ↔ ∀ i : Nat,aw ss i p = true -> bit aP i = false:=by
 unfold kept nH;rw [List.any_eq_false]
 constructor
 ·intro h i hi
  have:=h i (by simpa using (bW hi).1);rw [eK,hi] at this;simpa using this
 intro h i _ hh;rw [eK] at hh;simp only [Bool.and_eq_true] at hh;rw [h i hh.2] at hh;simp at hh
theorem K_ {ss : List St} (h : nR ss) {act aP : List Bool} {goals : List Int} (hE : IJ ss (bit aP) goals) {k : Nat} (hk : k < ss.length)
 (ha : ∀ j : Nat,j < k -> bit act j = na ss (bit aP) goals j) : eM ss act aP goals k = (na ss (bit aP) goals k && !bit aP k):=by
 unfold eM;rw [eK]
 cases hs : bit aP k with
 | true=>simp
 | false=>?_
 simp only [Bool.false_or,Bool.not_false,Bool.and_true]
 by_cases k0 : k = 0
 ·subst k0
  rw [h.BE,r6 h];have hc : aw ss ((0 : Nat) : Int) (-1) = true:=rY hk h.BE (fun e=>by have:=(h.hs 0 hk (.inl e)).1;omega);rw [hc];have hkn : ay ss (-1) = 2:=rfl;rw [hkn]
  have hkept : kept ss aP (-1) = false:=by
   rw [BG];intro i hi;have:=h.root i (bW hi).1 (bW hi).2.1;subst this;exact hs
  rw [hkept]
  have hp : gn ss ((0 : Nat) : Int) (-1) goals = true:=by
   have : ∀ l : List Int,(∀ g ∈ l,0 <= g /\ g < ss.length) -> gn ss ((0 : Nat) : Int) (-1) l = true:=by
    intro l hl
    cases l with
    | nil =>
      simp only [gn,beq_iff_eq];unfold b9
      obtain ⟨n,hn⟩ : ∃ n,ss.length = n + 1:=⟨ss.length - 1,by have:=h.ne;omega⟩
      rw [hn];simp only [bQ];rw [if_pos hc]
    | cons g l=>?_
    obtain ⟨hg,hgl⟩:=hl g (by simp);simp only [gn];rw [v_ h.up (by omega) hg,if_pos rfl]
    by_cases c : g = 0
    ·rw [c];rfl
    have h1:=v_ h.up (i:=g) (by omega) hg
    have : an ss ((0 : Nat) : Int) g = true:=by
     have key : ∀ i : Int,-1 <= i -> 0 < i -> i < ss.length -> an ss ((0 : Nat) : Int) i = true:=by
      refine oZ h.up (P:=fun i=>0 < i -> i < ss.length -> an ss ((0 : Nat) : Int) i = true) (fun h=>by omega) ?_;intro i hi ih h0 hil;have b:=eZ h.up (i:=i) (by omega);rw [bV h.up _ hi];have a:=d_ h.up i
      by_cases c1 : aq ss i = 0
      ·rw [c1];rfl
      by_cases c2 : aq ss i = -1
      ·exfalso
       obtain ⟨n,rfl⟩ : ∃ n : Nat,i = n:=⟨i.toNat,by omega⟩
       have:=h.root n (by omega) c2;omega
      rw [ih (by omega) (by omega)];simp
     exact key g (by omega) (by omega) hgl
    rw [this];simp
   exact this goals (fun g hg=>⟨(hE.Pg g hg).1,(hE.Pg g hg).2.1⟩)
  rw [hp];rfl
 obtain ⟨p,hp,hlt⟩:=h.par (by omega) hk
 have hpl : p < ss.length:=by omega
 rw [hp]
 have hne : ((p : Int) != -1) = true:=by simp
 rw [hne,eK,ha p hlt];have hst:=g7 h (bit aP) goals hp
 cases hc : aw ss k p with
 | false =>
   have : na ss (bit aP) goals k = false:=by
    cases q : na ss (bit aP) goals k with
    | false=>rfl
    | true=>have:=(hst.1 q).2.1;rw [hc] at this;cases this
   rw [this];rfl
 | true=>?_
 simp only [Bool.not_true,Bool.false_eq_true,if_false,Bool.true_and]
 cases hN : na ss (bit aP) goals p with
 | false =>
   have : na ss (bit aP) goals k = false:=by
    cases q : na ss (bit aP) goals k with
    | false=>rfl
    | true=>have:=(hst.1 q).1;rw [hN] at this;cases this
   rw [this];rfl
 | true=>?_
 simp only [Bool.not_true,Bool.false_eq_true,if_false]
 rcases h.pk k (by omega) hk with e | e <;> rw [hp] at e
 ·rw [e]
  simp only [show ((2 : Int) == 3) = false from rfl,Bool.false_eq_true,if_false]
  cases hkp : kept ss aP p with
  | true =>
    have : na ss (bit aP) goals k = false:=by
     cases q : na ss (bit aP) goals k with
     | false=>rfl
     | true=>?_
     rcases (hst.1 q).2.2 with e3 | ⟨_,e3⟩
     ·omega
     unfold kept nH at hkp;rw [List.any_eq_true] at hkp;obtain ⟨i,_,hi⟩:=hkp;rw [eK] at hi;simp only [Bool.and_eq_true] at hi;have:=uH hE e hi.2 hi.1;rw [<- e3] at this;subst this;rw [hs] at hi;simp at hi
    rw [this];rfl
  | false=>?_
  have hno:=BG.1 hkp;rw [IL h hE hpl e hc hno];simp only [Bool.not_false,Bool.true_and];rw [Bool.eq_iff_iff,decide_eq_true_eq]
  constructor
  ·intro q;exact hst.2 ⟨hN,hc,.inr ⟨e,q⟩⟩
  intro q
  rcases (hst.1 q).2.2 with e3 | ⟨_,e3⟩
  ·omega
  exact e3
 rw [e];simp only [show ((3 : Int) == 3) = true from rfl,if_true];exact (hst.2 ⟨hN,hc,.inl e⟩).symm
def Dc (ol : Ol) : List Nat -> Ma -> Ma
 | [],m=>m
 | k :: l,m=>Dc ol l (if bit m.s.act k then m else ck ol m k)
theorem Dd {ol : Ol} (h : nR ol.ag) (h16 : ol.ag.length <= 16) {aP : List Bool} {goals : List Int} (hE : IJ ol.ag (bit aP) goals) : ∀ (f k : Nat) (m : Ma),k + f = ol.ag.length -> m.s.act.length = 16 ->
 (∀ j : Nat,bit m.s.act j = (bit aP j || (decide (j < k) && na ol.ag (bit aP) goals j))) ->
 cL ol aP goals f k m = Dc ol ((List.range' k f).filter (na ol.ag (bit aP) goals)) m /\
 (∀ j : Nat,bit (cL ol aP goals f k m).s.act j = na ol.ag (bit aP) goals j) /\ (cL ol aP goals f k m).s.past = m.s.past /\ (cL ol aP goals f k m).s.act.length = 16:=by
 intro f
 induction f with
 | zero =>
   intro k m hk hl ha;refine ⟨rfl,fun j=>?_,rfl,hl⟩;show bit m.s.act j = _;rw [ha j]
   cases q : na ol.ag (bit aP) goals j with
   | true=>have:=wg h q;rw [decide_eq_true (by omega)];simp
   | false=>?_
   cases q2 : bit aP j with
   | false=>simp
   | true=>rw [BF h hE (j + 1) j (by omega) q2] at q;cases q
 | succ f ih=>?_
 intro k m hk hl ha
 have hkl : k < ol.ag.length:=by omega
 have hact : ∀ j : Nat,j < k -> bit m.s.act j = na ol.ag (bit aP) goals j:=by
  intro j hj;rw [ha j,decide_eq_true hj]
  cases q : na ol.ag (bit aP) goals j with
  | true=>simp
  | false=>?_
  cases q2 : bit aP j with
  | false=>rfl
  | true=>rw [BF h hE (j + 1) j (by omega) q2] at q;cases q
 have hd:=K_ h hE hkl hact
 have hk' : bit m.s.act k = bit aP k:=by rw [ha k];simp
 rw [List.range'_succ,List.filter_cons];simp only [cL];rw [hd]
 cases qN : na ol.ag (bit aP) goals k with
 | false =>
   simp only [Bool.false_and,Bool.false_eq_true,if_false];refine ih (k + 1) m (by omega) hl (fun j=>?_);rw [ha j]
   by_cases c : j = k
   ·subst c;rw [qN];simp
   have : decide (j < k) = decide (j < k + 1):=by rw [Bool.eq_iff_iff];simp;omega
   rw [this]
 | true=>?_
 simp only [Bool.true_and,if_true,Dc];rw [hk']
 cases qS : bit aP k with
 | true =>
   simp only [Bool.not_true,Bool.false_eq_true,if_false,if_true];refine ih (k + 1) m (by omega) hl (fun j=>?_);rw [ha j]
   by_cases c : j = k
   ·subst c;rw [qS];rfl
   have : decide (j < k) = decide (j < k + 1):=by rw [Bool.eq_iff_iff];simp;omega
   rw [this]
 | false=>?_
 simp only [Bool.not_false,if_true,Bool.false_eq_true,if_false];have hes:=xX ol m k
 have hbit : ∀ j : Nat,bit (ck ol m k).s.act j = (bit aP j || (decide (j < k + 1) && na ol.ag (bit aP) goals j)):=by
  intro j;rw [hes.1,qI (by omega),ha j]
  by_cases c : k = j
  ·subst c;rw [if_pos rfl,qN];simp
  rw [if_neg c]
  have : decide (j < k) = decide (j < k + 1):=by rw [Bool.eq_iff_iff];simp;omega
  rw [this]
 obtain ⟨e1,e2,e3,e4⟩:=ih (k + 1) (ck ol m k) (by omega) (by rw [hes.1,gh];exact hl) hbit;exact ⟨e1,e2,e3.trans hes.2,e4⟩
theorem xY {ol : Ol} (h : nR ol.ag) (h16 : ol.ag.length <= 16) {m : Ma} {list : List Int} (hl : m.s.act.length = 16) (hE : IJ ol.ag (bit m.s.act) (bI ol m.s list)) :
 enter ol m list = Dc ol (im ol.ag (bit m.s.act) (bI ol m.s list) ol.ag.length 0) m /\
 (∀ j : Nat,bit (enter ol m list).s.act j = na ol.ag (bit m.s.act) (bI ol m.s list) j) /\ (enter ol m list).s.past = m.s.past /\ (enter ol m list).s.act.length = 16:=by
 rw [IK h,List.range_eq_range'];exact Dd h h16 hE ol.ag.length 0 m (by omega) hl (fun j=>by simp)
structure IP (ss : List St) (S : Nat -> Bool) : Prop where
 root : S 0 = true
 lt : ∀ i,S i = true -> i < ss.length
 JH : ∀ i p : Nat,S i = true -> aq ss i = p -> S p = true
 dh : ∀ i,S i = true -> ay ss i ≠ 5
 one : ∀ p i j : Nat,ay ss p = 2 -> aw ss i p = true -> aw ss j p = true -> S i = true -> S j = true -> i = j
 JI : ∀ p : Nat,S p = true -> ay ss p = 2 -> ∃ i : Nat,aw ss i p = true /\ S i = true
 Nj : ∀ p i : Nat,S p = true -> ay ss p = 3 -> aw ss i p = true -> S i = true
theorem uJ {ss : List St} (h : nR ss) (S : Nat -> Bool) (goals : List Int) : IP ss (na ss S goals) where
 root:=r6 h S goals
 lt:=fun i hi=>wg h hi
 JH:=fun i p hi hp=>((g7 h S goals hp).1 hi).1
 dh:=fun i hi=>by
  by_cases c : i = 0
  ·subst c;intro e;have:=(h.hs 0 h.ne (.inl e)).1;omega
  obtain ⟨p,hp,_⟩:=h.par (k:=i) (by omega) (wg h hi);exact (bW ((g7 h S goals hp).1 hi).2.1).2.2
 one:=fun p i j hk hi hj hsi hsj=>by
  have a:=((g7 h S goals (bW hi).2.1).1 hsi).2.2;have b:=((g7 h S goals (bW hj).2.1).1 hsj).2.2
  rcases a with a | a
  ·omega
  rcases b with b | b
  ·omega
  rw [a.2,b.2]
 JI:=fun p hs hk=>by
  have hc:=xU h S goals (wg h hs) hk;exact ⟨lA ss S goals p,hc,(g7 h S goals (bW hc).2.1).2 ⟨hs,hc,.inr ⟨hk,rfl⟩⟩⟩
 Nj:=fun p i hs hk hc=>(g7 h S goals (bW hc).2.1).2 ⟨hs,hc,.inl hk⟩
/-! What a transition leaves. -/
def lv (ol : Ol) (s : Sd) (t : Int) (j : Nat) : Bool:=match ol.bH[t.toNat]? with
 | some x=>!(x.target == 45) && (decide (j < ol.ag.length) && (bit s.act j && an ol.ag (dom ol.ag x.state x.target) j))
 | none=>false
theorem xZ (ss : List St) (act : List Bool) (d : Int) : ∀ (f k : Nat) (l : List Bool),k + f <= l.length -> ∀ j : Nat,
 bit (dL ss act d f k l) j = (bit l j || (decide (k <= j /\ j < k + f) && (bit act j && an ss d j))):=by
 intro f
 induction f with
 | zero => intro k l _ j; have : decide (k <= j /\ j < k + 0) = false := by rw [decide_eq_false]; omega
           rw [this];simp [dL]
 | succ f ih=>?_
 intro k l hl j;simp only [dL];rw [eK]
 have hlen : (if (bit act k && an ss d k) = true then kZ l k true else l : List Bool).length = l.length:=by split <;> simp [gh]
 rw [ih (k + 1) _ (by rw [hlen];omega) j]
 by_cases c : k = j
 ·subst c
  have h1 : decide (k + 1 <= k /\ k < k + 1 + f) = false:=by simp;omega
  have h2 : decide (k <= k /\ k < k + (f + 1)) = true:=by simp
  rw [h1,h2]
  cases q : bit act k && an ss d k with
  | true=>rw [if_pos rfl,qI (by omega)];simp
  | false=>simp
 have h1 : decide (k + 1 <= j /\ j < k + 1 + f) = decide (k <= j /\ j < k + (f + 1)):=by rw [Bool.eq_iff_iff];simp;omega
 rw [h1]
 congr 1
 split
 ·rw [qI (by omega),if_neg c]
 rfl
theorem jX (j : Nat) : bit cJ j = false:=by
 unfold bit cJ;simp only [List.getD_eq_getElem?_getD,List.getElem?_replicate]
 split <;> rfl
theorem gQ {ol : Ol} (h16 : ol.ag.length <= 16) (s : Sd) (t : Int) (j : Nat) : bit (leaves ol s t.toNat) j = lv ol s t j:=by
 unfold leaves lv
 cases ol.bH[t.toNat]? with
 | none=>exact jX j
 | some x=>?_
 simp only
 cases x.target == 45 with
 | true=>simp [jX]
 | false=>?_
 simp only [Bool.false_eq_true,if_false,Bool.not_false,Bool.true_and];rw [xZ _ _ _ _ _ _ (by simp [cJ];omega),jX]
 have : decide (0 <= j /\ j < 0 + ol.ag.length) = decide (j < ol.ag.length):=by rw [Bool.eq_iff_iff];simp
 rw [this];simp
theorem FH (l m : List Bool) (j : Nat) (hl : l.length = 16) (hm : m.length = 16) : bit (join l m) j = (bit l j || bit m j):=by
 by_cases c : j < 16
 ·unfold join
  have : bit ((List.range 16).map fun k=>bit l k || bit m k) j = (bit l j || bit m j):=by
   show (((List.range 16).map fun k=>bit l k || bit m k)).getD j false = _;simp [List.getD_eq_getElem?_getD,List.getElem?_range c]
  exact this
 rw [nw (l:=join l m) (by rw [nA];omega),nw (l:=l) (by omega),nw (l:=m) (by omega)];rfl
theorem De {ol : Ol} (h16 : ol.ag.length <= 16) (s : Sd) : ∀ (r : List Int) (l : List Bool) (j : Nat),l.length = 16 -> bit (ky ol s r l) j = (bit l j || r.any fun t=>lv ol s t j):=by
 intro r
 induction r with
 | nil=>intro l j _;simp [ky]
 | cons x r ih=>?_
 intro l j hl;simp only [ky,List.any_cons];rw [ih _ j (nA _ _),FH _ _ _ hl (iO _ _ _),gQ h16,Bool.or_assoc]
theorem FI {ol : Ol} (h16 : ol.ag.length <= 16) (s : Sd) (r : List Int) (j : Nat) : bit (cO ol s r) j = r.any fun t=>lv ol s t j:=by
 unfold cO;rw [De h16 s r cJ j rfl,jX];rfl
theorem x8 {ol : Ol} (h16 : ol.ag.length <= 16) {s : Sd} {a b : Int} : meets (leaves ol s a.toNat) (leaves ol s b.toNat) = false ↔ ∀ j,¬ (lv ol s a j = true /\ lv ol s b j = true):=by
 unfold meets;rw [List.any_eq_false]
 constructor
 ·intro h j hj
  have h1 : j < 16:=by
   rcases Nat.lt_or_ge j 16 with q | q
   ·exact q
   have:=hj.1;rw [<- gQ h16,nw (by rw [iO];omega)] at this;cases this
  have:=h j (by simpa using h1);rw [gQ h16,gQ h16,hj.1,hj.2] at this;simp at this
 intro h j _ hj;rw [gQ h16,gQ h16] at hj;exact h j (by simpa using hj)
def Clear (ol : Ol) (s : Sd) (l : List Int) : Prop:=∀ a ∈ l,∀ b ∈ l,a ≠ b -> ∀ j,¬ (lv ol s a j = true /\ lv ol s b j = true)
theorem wh {ol : Ol} (h16 : ol.ag.length <= 16) {s : Sd} {t : Nat} : ∀ (l kept r : List Int),dI ol s t l kept = some r -> ∃ l',(∀ x ∈ l',x ∈ l /\ ∀ j,¬ (lv ol s t j = true /\ lv ol s x j = true)) /\ r = kept ++ l' ++ [(t : Int)]:=by
 intro l
 induction l with
 | nil=>intro kept r h;simp only [dI,Option.some.injEq] at h;exact ⟨[],by simp,by simp [h]⟩
 | cons x l ih=>?_
 intro kept r h;simp only [dI] at h
 split at h
 ·split at h
  ·obtain ⟨l',h1,h2⟩:=ih kept r h
   exact ⟨l',fun y hy=>⟨List.mem_cons_of_mem _ (h1 y hy).1,(h1 y hy).2⟩,h2⟩
  cases h
 rename_i q;obtain ⟨l',h1,h2⟩:=ih (kept ++ [x]) r h;refine ⟨x :: l',fun y hy=>?_,by simp [h2]⟩
 rcases List.mem_cons.1 hy with rfl | hy
 ·refine ⟨by simp,?_⟩
  have q' : meets (leaves ol s ((t : Int)).toNat) (leaves ol s y.toNat) = false:=by simpa using q
  exact (x8 h16).1 q'
 exact ⟨List.mem_cons_of_mem _ (h1 y hy).1,(h1 y hy).2⟩
theorem x_ {ol : Ol} (h16 : ol.ag.length <= 16) {s : Sd} {t : Nat} {l : List Int} (h : Clear ol s l) : Clear ol s (admis ol s l t) /\ ∀ x ∈ admis ol s l t,x ∈ l \/ x = t:=by
 unfold admis
 cases q : dI ol s t l [] with
 | none=>exact ⟨h,fun x hx=>.inl hx⟩
 | some r=>?_
 obtain ⟨l',h1,rfl⟩:=wh h16 l [] r q;simp only [List.nil_append];refine ⟨?_,?_⟩
 ·intro a ha b hb hab j hj
  rcases List.mem_append.1 ha with ha | ha <;> rcases List.mem_append.1 hb with hb | hb
  ·exact h a (h1 a ha).1 b (h1 b hb).1 hab j hj
  ·simp at hb;subst hb;exact (h1 a ha).2 j ⟨hj.2,hj.1⟩
  ·simp at ha;subst ha;exact (h1 b hb).2 j hj
  simp at ha hb;exact hab (ha.trans hb.symm)
 intro x hx
 rcases List.mem_append.1 hx with hx | hx
 ·exact .inl (h1 x hx).1
 simp at hx;exact .inr hx
theorem tK {ol : Ol} (h16 : ol.ag.length <= 16) {s : Sd} : ∀ (l acc : List Int),(∀ x ∈ l,0 <= x) -> Clear ol s acc -> Clear ol s (dD ol s l acc) /\ ∀ x ∈ dD ol s l acc,x ∈ acc \/ x ∈ l:=by
 intro l
 induction l with
 | nil=>intro acc _ h;exact ⟨h,fun x hx=>.inl hx⟩
 | cons a l ih=>?_
 intro acc h0 h;simp only [dD];obtain ⟨h1,h2⟩:=x_ h16 (t:=a.toNat) h;obtain ⟨h3,h4⟩:=ih _ (fun x hx=>h0 x (by simp [hx])) h1;refine ⟨h3,fun x hx=>?_⟩;have ha:=h0 a (by simp)
 rcases h4 x hx with e | e
 ·rcases h2 x e with e | e
  ·exact .inl e
  right;rw [e,Int.toNat_of_nonneg ha];simp
 exact .inr (by simp [e])
def Src (ol : Ol) (s : Sd) (t : Int) : Prop:=∃ x,ol.bH[t.toNat]? = some x /\ ∃ k : Nat,x.state = k /\ bit s.act k = true
theorem tL (s : Sd) (st trg : Int) : ∀ (l : List Tr) (k j : Nat),ec s st trg l k = j -> ∃ x,k <= j /\ l[j - k]? = some x /\ x.state = st:=by
 intro l
 induction l with
 | nil=>intro k j h;simp [ec] at h
 | cons t l ih=>?_
 intro k j h;simp only [ec] at h
 split at h
 ·rename_i q
  have : k = j:=by omega
  subst this;refine ⟨t,Nat.le_refl _,by simp,?_⟩;unfold pF at q;simp only [Bool.and_eq_true,beq_iff_eq] at q;exact q.1.1
 obtain ⟨x,h1,h2,h3⟩:=ih (k + 1) j h;refine ⟨x,by omega,?_,h3⟩;rw [show j - k = (j - (k + 1)) + 1 by omega];simpa using h2
theorem tM {ol : Ol} {s : Sd} (hu : Up ol.ag) (hup : ∀ i p : Nat,bit s.act i = true -> aq ol.ag i = p -> bit s.act p = true) (trg : Int) : ∀ (f i : Nat) (j : Nat),bit s.act i = true -> bT ol s trg f i = j -> Src ol s j:=by
 intro f
 induction f with
 | zero=>intro i j _ h;simp [bT] at h
 | succ f ih=>?_
 intro i j hi h;simp only [bT] at h
 have hne : ((i : Int) == -1) = false:=by simp
 rw [hne] at h;simp only [Bool.false_eq_true,if_false] at h
 split at h
 ·obtain ⟨x,_,h2,h3⟩:=tL s i trg ol.bH 0 j h
  exact ⟨x,by simpa using h2,i,h3,hi⟩
 have a:=d_ hu i
 by_cases c : aq ol.ag i = -1
 ·rw [c] at h
  cases f with
  | zero=>simp [bT] at h
  | succ f=>simp [bT] at h
 obtain ⟨p,hp⟩ : ∃ p : Nat,aq ol.ag i = p:=⟨(aq ol.ag i).toNat,by omega⟩
 rw [hp] at h;exact ih p j (hup i p hi hp) h
theorem Df {ol : Ol} {s : Sd} (hu : Up ol.ag) (hup : ∀ i p : Nat,bit s.act i = true -> aq ol.ag i = p -> bit s.act p = true) (trg : Int) : ∀ (f k : Nat) (fl : List Int),(∀ t ∈ fl,Src ol s t) -> ∀ t ∈ findF ol s trg f k fl,Src ol s t:=by
 intro f
 induction f with
 | zero=>intro k fl h;exact h
 | succ f ih=>?_
 intro k fl h;simp only [findF];refine ih (k + 1) _ ?_;unfold dQ
 split
 ·rename_i q
  intro t ht
  rcases List.mem_append.1 ht with ht | ht
  ·exact h t ht
  simp at ht;subst ht;simp only [Bool.and_eq_true,bne_iff_ne] at q
  have hl : bit s.act k = true:=by
   have:=q.1.1;unfold oQ at this;simp only [Bool.and_eq_true] at this;exact this.1
  rcases pG ol s trg ((k : Int) + 2).toNat k with e | ⟨j,e,_⟩
  ·exact absurd e q.1.2
  unfold dC;rw [e];exact tM hu hup trg _ k j hl e
 exact h
theorem wi {ol : Ol} (h16 : ol.ag.length <= 16) (hu : Up ol.ag) {s : Sd} (hup : ∀ i p : Nat,bit s.act i = true -> aq ol.ag i = p -> bit s.act p = true) (trg : Int) : Clear ol s (choose ol s trg) /\ ∀ t ∈ choose ol s trg,Src ol s t:=by
 have h0:=(vL ol s trg).1;obtain ⟨h1,h2⟩:=tK h16 (s:=s) (find ol s trg) [] (fun x hx=>(h0 x hx).1) (by intro a ha;cases ha);refine ⟨h1,fun t ht=>?_⟩
 rcases h2 t ht with e | e
 ·cases e
 exact Df hu hup trg _ _ [] (by intro t ht;cases ht) t e
/-! The domain,the goal. -/
theorem Dg {ss : List St} (hu : Up ss) (target : Int) : ∀ (f : Nat) (d : Int),-1 <= d -> (d + 1).toNat <= f -> (mF ss target f d = -1 \/ (0 <= mF ss target f d /\ tA ss (mF ss target f d) target = true)) /\ (mF ss target f d = d \/ an ss (mF ss target f d) d = true):=by
 intro f
 induction f with
 | zero=>intro d h1 h2;exact ⟨.inl (by simp only [mF];omega),.inl rfl⟩
 | succ f ih=>?_
 intro d h1 h2;simp only [mF]
 split
 ·rename_i q
  have hd : d ≠ -1:=by simp at q;exact q.1
  have a:=d_ hu d;have b:=eZ hu (i:=d) (by omega);obtain ⟨e1,e2⟩:=ih (aq ss d) a (by omega);refine ⟨e1,.inr ?_⟩;rw [bV hu _ (by omega)]
  rcases e2 with e2 | e2
  ·rw [e2];simp
  rw [e2];simp
 rename_i q;refine ⟨?_,.inl rfl⟩
 by_cases c : d = -1
 ·exact .inl c
 right
 refine ⟨by omega,?_⟩;simp [c] at q;exact q
theorem FJ {ss : List St} (hu : Up ss) {state : Nat} (target : Int) : (dom ss state target = -1 \/ (0 <= dom ss state target /\ ay ss (dom ss state target) = 2 /\ an ss (dom ss state target) (place ss target) = true)) /\ an ss (dom ss state target) state = true:=by
 obtain ⟨e1,e2⟩:=Dg hu (place ss target) (aq ss state + 1).toNat (aq ss state) (d_ hu _) (Nat.le_refl _);refine ⟨?_,?_⟩
 ·rcases e1 with e1 | ⟨h0,e1⟩
  ·exact .inl e1
  unfold tA at e1;simp only [Bool.and_eq_true,beq_iff_eq] at e1;exact .inr ⟨h0,e1.1,e1.2⟩
 rw [bV hu _ (by omega)]
 rcases e2 with e2 | e2
 ·have : dom ss state target = aq ss state:=e2
  rw [this];simp
 have : an ss (dom ss state target) (aq ss state) = true:=e2;rw [this];simp
def iT (ss : List St) (s : Sd) : Prop:=∀ k : Nat,k < ss.length -> dh ss k = true -> iK ss k (bx s k) = true
structure BH (ol : Ol) : Prop where
 FK : nR ol.ag
 le : ol.ag.length <= 16
 tgt : ∀ x ∈ ol.bH,x.target ≠ 45 -> ∃ g : Nat,place ol.ag x.target = g /\ g < ol.ag.length
 src : ∀ x ∈ ol.bH,∃ k : Nat,x.state = k /\ k < ol.ag.length
 nm : ∀ k : Nat,k < ol.ag.length -> place ol.ag (dP ol.ag k) = k /\ dP ol.ag k ≠ 45
theorem Dh {ss : List St} {k : Nat} (hk : k < ss.length) : dh ss k = (ay ss k == 5):=by
 unfold dh ay;rw [ch,List.getElem?_eq_getElem hk]
theorem o7 {ss : List St} (h : nR ss) (h16 : ss.length <= 16) {s : Sd} (hP : iT ss s) {g : Nat} (hg : g < ss.length) : (ay ss g ≠ 5 /\ goal ss s g = g) \/ (ay ss g = 5 /\ ∃ c : Nat,goal ss s g = c /\ aw ss c (aq ss g) = true):=by
 unfold goal
 have h1 : decide ((g : Int) < 0) = false:=by rw [decide_eq_false];omega
 have h2 : decide (16 <= (g : Int)) = false:=by rw [decide_eq_false];omega
 rw [h1,h2]
 by_cases c : ay ss g = 5
 ·right
  refine ⟨c,?_⟩;rw [c];simp only [show ((5 : Int) != 5) = false from rfl,Bool.or_false,Bool.false_eq_true,if_false,Int.toNat_natCast];have hp:=hP g hg (by rw [Dh hg,c];rfl);have hs:=h.hs g hg (.inl c);obtain ⟨p,C7,hlt⟩:=h.par hs.1 hg
  cases q : bx s g == 45 with
  | true =>
    simp only [if_true];rw [C7] at hs ⊢;obtain ⟨j,_,hj⟩:=h.kid p (by omega) (.inl hs.2)
    have hne : cK ss p ≠ []:=fun e=>by have:=bX.2 hj;rw [e] at this;cases this
    refine ⟨(cK ss p).headD 0,r7 hne,bX.1 ?_⟩
    cases q2 : cK ss p with
    | nil=>exact absurd q2 hne
    | cons a l=>simp
  | false=>?_
  simp only [Bool.false_eq_true,if_false];unfold iK at hp;rw [q] at hp;simp only [Bool.false_eq_true,if_false] at hp
  have hpl : 0 <= place ss (bx s g):=by
   unfold aw at hp
   cases q2 : kU ss (place ss (bx s g)) with
   | none=>rw [q2] at hp;cases hp
   | some x=>obtain ⟨k,e,_⟩:=fQ q2;omega
  refine ⟨(place ss (bx s g)).toNat,by omega,?_⟩;rw [Int.toNat_of_nonneg hpl];exact hp
 left
 refine ⟨c,?_⟩
 have : (ay ss g != 5) = true:=by simpa using c
 rw [this];simp
theorem Ae {ol : Ol} {s : Sd} : ∀ (l : List Int) (g : Int),g ∈ bI ol s l -> ∃ t ∈ l,∃ x,ol.bH[t.toNat]? = some x /\ x.target ≠ 45 /\ g = goal ol.ag s (place ol.ag x.target):=by
 intro l
 induction l with
 | nil=>intro g h;simp [bI] at h
 | cons t l ih=>?_
 intro g h;simp only [bI] at h
 have back : g ∈ bI ol s l -> ∃ t' ∈ t :: l,∃ x,ol.bH[t'.toNat]? = some x /\ x.target ≠ 45 /\ g = goal ol.ag s (place ol.ag x.target):=fun h=>by
  obtain ⟨t',ht',r⟩:=ih g h;exact ⟨t',List.mem_cons_of_mem _ ht',r⟩
 cases q : ol.bH[t.toNat]? with
 | none=>rw [q] at h;exact back h
 | some x=>?_
 rw [q] at h;simp only at h
 split at h
 ·exact back h
 rename_i q2
 rcases List.mem_cons.1 h with e | e
 ·exact ⟨t,by simp,x,q,by simpa using q2,e⟩
 exact back e
theorem FM {ss : List St} (hu : Up ss) {S : Nat -> Bool} (hup : ∀ i p : Nat,S i = true -> aq ss i = p -> S p = true) (a : Nat) : ∀ (n k : Nat),k < n -> S k = true -> an ss a k = true -> S a = true:=by
 intro n
 induction n with
 | zero=>intro k hk;omega
 | succ n ih=>?_
 intro k hk hs ha;rw [bV hu _ (by omega)] at ha;have hl:=eZ hu (i:=(k : Int)) (by omega)
 rcases Bool.or_eq_true _ _ ▸ ha with e | e
 ·exact hup k a hs (by simpa using e)
 have:=eN hu e
 obtain ⟨p,hp⟩ : ∃ p : Nat,aq ss k = p:=⟨(aq ss k).toNat,by omega⟩
 rw [hp] at e;exact ih p (by omega) (hup k p hs hp) e
theorem Nk {ol : Ol} {s : Sd} {t : Int} {x : Tr} (hx : ol.bH[t.toNat]? = some x) (j : Nat) : lv ol s t j = (!(x.target == 45) && (decide (j < ol.ag.length) && (bit s.act j && an ol.ag (dom ol.ag x.state x.target) j))):=by
 unfold lv;rw [hx]
theorem ko {ol : Ol} {s : Sd} {t : Int} {x : Tr} (hx : ol.bH[t.toNat]? = some x) (j : Nat) : lv ol s t j = true ↔ x.target ≠ 45 /\ j < ol.ag.length /\ bit s.act j = true /\ an ol.ag (dom ol.ag x.state x.target) j = true:=by
 rw [Nk hx];simp
theorem wj {ol : Ol} {s : Sd} {t : Int} {j : Nat} (h : lv ol s t j = true) : ∃ x,ol.bH[t.toNat]? = some x:=by
 unfold lv at h
 cases q : ol.bH[t.toNat]? with
 | none=>rw [q] at h;cases h
 | some x=>exact ⟨x,rfl⟩
theorem Di {ol : Ol} (hO : BH ol) {s : Sd} (hC : IP ol.ag (bit s.act)) {list : List Int} (hsrc : ∀ t ∈ list,Src ol s t) (hcl : Clear ol s list) {s' : Sd}
 (hs' : ∀ j,bit s'.act j = (bit s.act j && !(list.any fun t=>lv ol s t j))) (hP' : iT ol.ag s') : IJ ol.ag (bit s'.act) (bI ol s' list):=by
 have hsub : ∀ j,bit s'.act j = true -> bit s.act j = true:=fun j hj=>by rw [hs' j] at hj;simp only [Bool.and_eq_true] at hj;exact hj.1
 have hu:=hO.FK.up
 -- a goal's transition
 have FN : ∀ g ∈ bI ol s' list,∃ t ∈ list,∃ x,ol.bH[t.toNat]? = some x /\ x.target ≠ 45 /\ g = goal ol.ag s' (place ol.ag x.target) /\ (∃ k : Nat,x.state = k /\ bit s.act k = true /\ lv ol s t k = true) /\
  (0 <= g /\ g < ol.ag.length /\ ay ol.ag g ≠ 5) /\ an ol.ag (dom ol.ag x.state x.target) g = true /\ an ol.ag (dom ol.ag x.state x.target) x.state = true /\ (dom ol.ag x.state x.target = -1 \/ (0 <= dom ol.ag x.state x.target /\ ay ol.ag (dom ol.ag x.state x.target) = 2)):=by
  intro g hg;obtain ⟨t,ht,x,hx,oE,rfl⟩:=Ae list g hg;obtain ⟨x',hx',k,hk,hka⟩:=hsrc t ht;rw [hx] at hx'
  obtain rfl : x = x':=by simpa using hx'
  obtain ⟨pg,Ss,hpl⟩:=hO.tgt x (List.mem_of_getElem? hx) oE;obtain ⟨d1,d2⟩:=FJ hu (ss:=ol.ag) (state:=k) x.target;rw [<- hk] at d1 d2;have hkl:=hC.lt k hka;refine ⟨t,ht,x,hx,oE,rfl,⟨k,hk,hka,(ko hx k).2 ⟨oE,hkl,hka,by rw [<- hk];exact d2⟩⟩,?_,?_,d2,?_⟩
  ·rw [Ss]
   rcases o7 hO.FK hO.le hP' hpl with ⟨h1,h2⟩ | ⟨_,c,h2,h3⟩
   ·rw [h2];exact ⟨by omega,by omega,h1⟩
   rw [h2];exact ⟨by omega,by have:=(bW h3).1;omega,(bW h3).2.2⟩
  ·rw [Ss] at d1 ⊢
   rcases d1 with d1 | ⟨d0,dk,La⟩
   ·rw [d1]
    refine v_ hu ?_ ?_ <;>
    (rcases o7 hO.FK hO.le hP' hpl with ⟨_,h2⟩ | ⟨_,c,h2,_⟩ <;> rw [h2] <;> omega)
   rcases o7 hO.FK hO.le hP' hpl with ⟨_,h2⟩ | ⟨_,c,h2,h3⟩
   ·rw [h2];exact La
   rw [h2,bV hu _ (by omega),(bW h3).2.1];rw [bV hu _ (by omega)] at La;exact La
  rcases d1 with d1 | ⟨d0,dk,_⟩
  ·exact .inl d1
  exact .inr ⟨d0,dk⟩
 refine ⟨fun i hi=>hC.lt i (hsub i hi),?_,fun i hi=>hC.dh i (hsub i hi),fun p i j hk hi hj h1 h2=>hC.one p i j hk hi hj (hsub i h1) (hsub j h2),?_,?_⟩
 ·-- what stays,stays Ph
  intro i p hi hp;have hsi:=hsub i hi;have hsp:=hC.JH i p hsi hp;rw [hs' p,hsp]
  cases q : list.any fun t=>lv ol s t p with
  | false=>rfl
  | true=>?_
  exfalso;rw [List.any_eq_true] at q;obtain ⟨t,ht,hl⟩:=q;obtain ⟨x,hx⟩:=wj hl;obtain ⟨h1,h2,h3,h4⟩:=(ko hx p).1 hl;have : lv ol s t i = true:=(ko hx i).2 ⟨h1,hC.lt i hsi,hsi,by rw [bV hu _ (by omega),hp,h4];simp⟩;rw [hs' i] at hi;have hany : (list.any fun t=>lv ol s t i) = true:=List.any_eq_true.2 ⟨t,ht,this⟩;rw [hany] at hi;simp at hi
 ·intro g hg
  obtain ⟨_,_,_,_,_,_,_,h,_⟩:=FN g hg;exact h
 intro p hk hno g1 hg1 g2 hg2 ha1 ha2;obtain ⟨t1,ht1,x1,hx1,Lb,e1,⟨k1,hk1,Lc,hl1⟩,r1,Uu,ds1,dd1⟩:=FN g1 hg1;obtain ⟨t2,ht2,x2,hx2,Nl,e2,⟨k2,hk2,FO,hl2⟩,r2,Uv,Mc,Uw⟩:=FN g2 hg2
 -- the domain is p,or above it
 have claim : ∀ (t : Int) (x : Tr) (k : Nat) (g : Int),t ∈ list -> ol.bH[t.toNat]? = some x -> x.target ≠ 45 -> x.state = k -> bit s.act k = true -> lv ol s t k = true -> an ol.ag (dom ol.ag x.state x.target) g = true -> an ol.ag (dom ol.ag x.state x.target) x.state = true ->
  (dom ol.ag x.state x.target = -1 \/ (0 <= dom ol.ag x.state x.target /\ ay ol.ag (dom ol.ag x.state x.target) = 2)) -> an ol.ag p g = true -> g < ol.ag.length -> dom ol.ag x.state x.target = p \/ an ol.ag (dom ol.ag x.state x.target) p = true:=by
  intro t x k g ht hx oE hxk hka hl dg ds dd ha hgl
  rcases BD hu dg ha with c | c | c
  ·exact .inl c
  ·exact .inr c
  exfalso;generalize hd : dom ol.ag x.state x.target = d at *;have hd0:=eN hu c
  rcases dd with dd | ⟨_,dk⟩
  ·omega
  obtain ⟨dn,rfl⟩ : ∃ dn : Nat,d = dn:=⟨d.toNat,by omega⟩
  have hdl:=eN hu dg;rw [hxk] at ds;have hsd : bit s.act dn = true:=FM hu hC.JH dn (k + 1) k (by omega) hka ds;obtain ⟨c',hc',hcd⟩:=hO.FK.toward (p:=(p : Int)) (g:=(dn : Int)) (by omega) c (by omega) (fun _=>by omega);have hcl':=(bW hc').1
  have hsc : bit s.act c' = true:=by
   rcases hcd with e | e
   ·have : c' = dn:=by omega
    rw [this];exact hsd
   exact FM hu hC.JH c' (dn + 1) dn (by omega) hsd e
  have hno':=hno c' hc';rw [hs' c',hsc] at hno'
  have hany : (list.any fun t=>lv ol s t c') = true:=by simpa using hno'
  rw [List.any_eq_true] at hany;obtain ⟨t3,ht3,hl3⟩:=hany;obtain ⟨x3,hx3⟩:=wj hl3;obtain ⟨h31,h32,V9,Nm⟩:=(ko hx3 c').1 hl3
  have Qn : an ol.ag (dom ol.ag x3.state x3.target) k = true:=by
   rcases hcd with e | e
   ·rw [e] at Nm;exact jC hu Nm ds
   exact jC hu (jC hu Nm e) ds
  have Qo : lv ol s t3 k = true:=(ko hx3 k).2 ⟨h31,hC.lt k hka,hka,Qn⟩
  have : t3 = t:=by
   by_cases q : t3 = t
   ·exact q
   exact absurd ⟨Qo,hl⟩ (hcl t3 ht3 t ht q k)
  subst this;rw [hx] at hx3
  obtain rfl : x = x3:=by simpa using hx3
  rw [hd] at Nm;have h5:=eN hu Nm
  rcases hcd with e | e
  ·omega
  have:=eN hu e;omega
 have c1:=claim t1 x1 k1 g1 ht1 hx1 Lb hk1 Lc hl1 Uu ds1 dd1 ha1 r1.2.1;have c2:=claim t2 x2 k2 g2 ht2 hx2 Nl hk2 FO hl2 Uv Mc Uw ha2 r2.2.1
 have hcmp : dom ol.ag x1.state x1.target = dom ol.ag x2.state x2.target \/ an ol.ag (dom ol.ag x1.state x1.target) (dom ol.ag x2.state x2.target) = true \/ an ol.ag (dom ol.ag x2.state x2.target) (dom ol.ag x1.state x1.target) = true:=by
  rcases c1 with c1 | c1 <;> rcases c2 with c2 | c2
  ·exact .inl (c1.trans c2.symm)
  ·rw [c1];exact .inr (.inr c2)
  ·rw [c2];exact .inr (.inl c1)
  exact BD hu c1 c2
 have heq : t1 = t2:=by
  by_cases q : t1 = t2
  ·exact q
  exfalso;rw [hk1] at ds1;rw [hk2] at Mc
  rcases hcmp with e | e | e
  ·have : lv ol s t1 k2 = true:=(ko hx1 k2).2 ⟨Lb,hC.lt k2 FO,FO,by rw [e,hk2];exact Mc⟩
   exact hcl t1 ht1 t2 ht2 q k2 ⟨this,hl2⟩
  ·have : lv ol s t1 k2 = true:=(ko hx1 k2).2 ⟨Lb,hC.lt k2 FO,FO,jC hu e (by rw [hk2];exact Mc)⟩
   exact hcl t1 ht1 t2 ht2 q k2 ⟨this,hl2⟩
  have : lv ol s t2 k1 = true:=(ko hx2 k1).2 ⟨Nl,hC.lt k1 Lc,Lc,jC hu e (by rw [hk1];exact ds1)⟩;exact hcl t1 ht1 t2 ht2 q k1 ⟨hl1,this⟩
 subst heq;rw [hx1] at hx2
 obtain rfl : x1 = x2:=by simpa using hx2
 rw [e1,e2]
/-! Leaving,remembering. -/
theorem Af (ol : Ol) (left : List Bool) : ∀ (k : Nat) (m : Ma),k <= m.s.act.length -> (∀ j : Nat,bit (cu ol left k m).s.act j = (bit m.s.act j && !(decide (j < k) && bit left j))) /\ (cu ol left k m).s.past = m.s.past /\ (cu ol left k m).s.act.length = m.s.act.length:=by
 intro k
 induction k with
 | zero=>intro m _;exact ⟨fun j=>by simp [cu],rfl,rfl⟩
 | succ k ih=>?_
 intro m hk;simp only [cu];rw [eK]
 cases q : bit left k with
 | false =>
   simp only [Bool.false_eq_true,if_false];obtain ⟨h1,h2,h3⟩:=ih m (by omega);refine ⟨fun j=>?_,h2,h3⟩;rw [h1 j]
   by_cases c : j = k
   ·subst c;rw [q];simp
   have : decide (j < k) = decide (j < k + 1):=by rw [Bool.eq_iff_iff];simp;omega
   rw [this]
 | true=>?_
 simp only [if_true];have hb:=xW k 36 ol.cM m
 have hact : (dz (cD k 36 ol.cM m) k false).s.act = kZ m.s.act k false:=by show kZ (cD k 36 ol.cM m).s.act k false = _;rw [hb.1]
 obtain ⟨h1,h2,h3⟩:=ih (dz (cD k 36 ol.cM m) k false) (by rw [hact,gh];omega);refine ⟨fun j=>?_,h2.trans hb.2,by rw [h3,hact,gh]⟩;rw [h1 j,hact,qI (by omega)]
 by_cases c : k = j
 ·subst c;rw [if_pos rfl,q];simp
 rw [if_neg c]
 have : decide (j < k) = decide (j < k + 1):=by rw [Bool.eq_iff_iff];simp;omega
 rw [this]
theorem ya (ss : List St) (act left : List Bool) : ∀ (f k : Nat) (p : List Int),k + f <= p.length -> ∀ j : Nat,(k8 ss act left f k p).getD j 0 = if k <= j /\ j < k + f /\ oM ss act left j = true then dP ss (jh ss act (aq ss j)).toNat else p.getD j 0:=by
 intro f
 induction f with
 | zero=>intro k p _ j;rw [if_neg (by omega)];rfl
 | succ f ih=>?_
 intro k p hp j;simp only [k8]
 have hlen : (if oM ss act left k = true then p.set k (dP ss (jh ss act (aq ss k)).toNat) else p : List Int).length = p.length:=by split <;> simp
 rw [ih (k + 1) _ (by rw [hlen];omega) j]
 by_cases c : k = j
 ·subst c
  rw [if_neg (by omega)]
  cases q : oM ss act left k with
  | true =>
    rw [if_pos rfl,if_pos ⟨Nat.le_refl _,by omega,rfl⟩];simp only [List.getD_eq_getElem?_getD];rw [List.getElem?_set_self (by omega)];rfl
  | false=>simp
 have e : (k + 1 <= j /\ j < k + 1 + f /\ oM ss act left j = true) ↔ (k <= j /\ j < k + (f + 1) /\ oM ss act left j = true):=by
  constructor <;> (rintro ⟨h1,h2,h3⟩;exact ⟨by omega,by omega,h3⟩)
 have hset : (if oM ss act left k = true then p.set k (dP ss (jh ss act (aq ss k)).toNat) else p : List Int).getD j 0 = p.getD j 0:=by
  split
  ·simp only [List.getD_eq_getElem?_getD];rw [List.getElem?_set_ne c]
  rfl
 rw [hset]
 by_cases c2 : k + 1 <= j /\ j < k + 1 + f /\ oM ss act left j = true
 ·rw [if_pos c2,if_pos (e.1 c2)]
 rw [if_neg c2,if_neg (fun h=>c2 (e.2 h))]
theorem yc (ss : List St) (l : List Bool) (p : Int) : ∀ (f k : Nat),(gj ss l p f k = -2 /\ ∀ j,k <= j -> j < k + f -> bit l j = true -> aw ss j p = false) \/ ∃ j : Nat,gj ss l p f k = j /\ bit l j = true /\ aw ss j p = true:=by
 intro f
 induction f with
 | zero=>intro k;exact .inl ⟨rfl,fun j h1 h2=>by omega⟩
 | succ f ih=>?_
 intro k;simp only [gj];rw [eK]
 cases q : bit l k && aw ss k p with
 | true=>rw [if_pos rfl];simp only [Bool.and_eq_true] at q;exact .inr ⟨k,rfl,q.1,q.2⟩
 | false=>?_
 rw [if_neg (by simp)]
 rcases ih (k + 1) with ⟨e,h⟩ | h
 ·refine .inl ⟨e,fun j h1 h2 h3=>?_⟩
  by_cases c : j = k
  ·subst c;rw [h3] at q;simpa using q
  exact h j (by omega) (by omega) h3
 exact .inr h
theorem Ag (ss : List St) (l : List Bool) (p : Int) : (jh ss l p = -2 /\ ∀ j : Nat,bit l j = true -> aw ss j p = false) \/ ∃ j : Nat,jh ss l p = j /\ bit l j = true /\ aw ss j p = true:=by
 rcases yc ss l p ss.length 0 with ⟨e,h⟩ | h
 ·refine .inl ⟨e,fun j hj=>?_⟩
  cases q : aw ss j p with
  | false=>rfl
  | true=>have:=h j (by omega) (by have:=(bW q).1;omega) hj;rw [this] at q;cases q
 exact .inr h
theorem FP {ol : Ol} (hO : BH ol) {s : Sd} (hP : iT ol.ag s) (hl : s.past.length = 16) (left : List Bool) : iT ol.ag (rem ol.ag s left):=by
 intro k hk hh;have h16:=hO.le;have e : bx (rem ol.ag s left) k = (k8 ol.ag s.act left (min ol.ag.length 16) 0 s.past).getD k 0:=rfl;rw [e,ya _ _ _ _ _ _ (by omega)]
 split
 ·rename_i c
  have hr:=c.2.2;unfold oM at hr;simp only [Bool.and_eq_true,bne_iff_ne] at hr
  rcases Ag ol.ag s.act (aq ol.ag k) with ⟨e2,_⟩ | ⟨j,e2,_,hj⟩
  ·exact absurd e2 hr.2
  rw [e2,Int.toNat_natCast];have hn:=hO.nm j (bW hj).1;unfold iK
  have : (dP ol.ag j == 45) = false:=by simpa using hn.2
  rw [this];simp only [Bool.false_eq_true,if_false];rw [hn.1];exact hj
 exact hP k hk hh
structure Inv (ol : Ol) (s : Sd) : Prop where
 conf : IP ol.ag (bit s.act)
 past : iT ol.ag s
 la : s.act.length = 16
 lp : s.past.length = 16
theorem Inv.same {ol : Ol} {s s' : Sd} (h : Inv ol s) (e : ie s' s) : Inv ol s':=by
 obtain ⟨e1,e2⟩:=e;refine ⟨by rw [e1];exact h.conf,fun k hk hh=>?_,by rw [e1];exact h.la,by rw [e2];exact h.lp⟩;have:=h.past k hk hh;unfold bx at this ⊢;rw [e2];exact this
theorem iT.same {ss : List St} {s s' : Sd} (h : iT ss s) (e : s'.past = s.past) : iT ss s':=fun k hk hh=>by
 have:=h k hk hh;unfold bx at this ⊢;rw [e];exact this
def mid (ol : Ol) (m : Ma) (list : List Int) : Ma:=fF ol list (cu ol (cO ol m.s list) ol.ag.length { m with s:=rem ol.ag m.s (cO ol m.s list) })
theorem FQ {ol : Ol} (hO : BH ol) {m : Ma} (hI : Inv ol m.s) (list : List Int) : (∀ j,bit (mid ol m list).s.act j = (bit m.s.act j && !(list.any fun t=>lv ol m.s t j))) /\ iT ol.ag (mid ol m list).s /\ (mid ol m list).s.act.length = 16 /\ (mid ol m list).s.past.length = 16:=by
 have h16:=hO.le;have h1:=FG ol list (cu ol (cO ol m.s list) ol.ag.length { m with s:=rem ol.ag m.s (cO ol m.s list) });obtain ⟨h2,h3,h4⟩:=Af ol (cO ol m.s list) ol.ag.length { m with s:=rem ol.ag m.s (cO ol m.s list) } (by show ol.ag.length <= m.s.act.length;rw [hI.la];exact h16);have hp:=FP hO hI.past hI.lp (cO ol m.s list);refine ⟨fun j=>?_,?_,?_,?_⟩
 ·unfold mid
  rw [h1.1,h2 j,FI h16];show (bit m.s.act j && _) = _
  cases q : bit m.s.act j with
  | false=>rfl
  | true=>rw [decide_eq_true (hI.conf.lt j q)];simp
 ·exact hp.same (h1.2.trans h3)
 ·unfold mid;rw [h1.1,h4];exact hI.la
 unfold mid;rw [h1.2,h3];show (rem ol.ag m.s _).past.length = 16;unfold rem;rw [rz];exact hI.lp
theorem Dj {ol : Ol} (hO : BH ol) {m : Ma} (hI : Inv ol m.s) {list : List Int} (hsrc : ∀ t ∈ list,Src ol m.s t) (hcl : Clear ol m.s list) :
 dE ol m list = Dc ol (im ol.ag (bit (mid ol m list).s.act) (bI ol (mid ol m list).s list) ol.ag.length 0) (mid ol m list) /\ Inv ol (dE ol m list).s /\ IJ ol.ag (bit (mid ol m list).s.act) (bI ol (mid ol m list).s list):=by
 obtain ⟨h1,h2,h3,h4⟩:=FQ hO hI list;have hE:=Di hO hI.conf hsrc hcl h1 h2;obtain ⟨e1,e2,e3,e4⟩:=xY hO.FK hO.le (list:=list) h3 hE;refine ⟨e1,⟨?_,h2.same e3,e4,by show (enter ol (mid ol m list) list).s.past.length = 16;rw [e3];exact h4⟩,hE⟩;have hb : bit (dE ol m list).s.act = na ol.ag (bit (mid ol m list).s.act) (bI ol (mid ol m list).s list):=funext e2;rw [hb];exact uJ hO.FK _ _
theorem uK {ol : Ol} (hO : BH ol) {s : Sd} (hI : Inv ol s) (trg : Int) : Clear ol s (choose ol s trg) /\ ∀ t ∈ choose ol s trg,Src ol s t:=wi hO.le hO.FK.up hI.conf.JH trg
theorem jY {ol : Ol} (hO : BH ol) {m : Ma} (hI : Inv ol m.s) (trg : Int) : Inv ol (dE ol m (choose ol m.s trg)).s :=
 (Dj hO hI (uK hO hI trg).2 (uK hO hI trg).1).2.1
theorem Dk {ol : Ol} (hO : BH ol) {m : Ma} (hI : Inv ol m.s) : Inv ol (round ol m).s:=by
 unfold round
 split
 ·split
  ·exact jY hO hI 46
  rename_i a q e;exact jY hO (m:={ m with q:=q }) hI a
 exact jY hO hI 46
theorem r9 {ol : Ol} (hO : BH ol) : ∀ (n : Nat) {m : Ma},Inv ol m.s -> Inv ol (rounds ol n m).s:=by
 intro n
 induction n with
 | zero=>intro m h;exact h
 | succ n ih=>?_
 intro m h;simp only [rounds]
 split
 ·exact ih (Dk hO h)
 exact h
theorem Dl {ol : Ol} (hO : BH ol) : enter ol ⟨bp ol.ag,[],[]⟩ [] = Dc ol (im ol.ag (bit cJ) [] ol.ag.length 0) ⟨bp ol.ag,[],[]⟩ /\ Inv ol (enter ol ⟨bp ol.ag,[],[]⟩ []).s:=by
 have hE : IJ ol.ag (bit cJ) []:=by
  refine ⟨fun i hi=>?_,fun i p hi=>?_,fun i hi=>?_,fun p i j _ _ _ hi=>?_,(fun g hg=>absurd hg (by simp)),(fun p _ _ g hg=>absurd hg (by simp))⟩ <;> (rw [jX] at hi;cases hi)
 have h0 : (⟨bp ol.ag,[],[]⟩ : Ma).s.act = cJ:=rfl;obtain ⟨e1,e2,e3,e4⟩:=xY hO.FK hO.le (m:=⟨bp ol.ag,[],[]⟩) (list:=[]) rfl hE;refine ⟨e1,⟨?_,?_,e4,by rw [e3];exact iL ol.ag |>.2⟩⟩
 ·have hb : bit (enter ol ⟨bp ol.ag,[],[]⟩ []).s.act = na ol.ag (bit cJ) []:=funext e2
  rw [hb];exact uJ hO.FK _ _
 refine iT.same (s:=bp ol.ag) (fun k hk hh=>?_) e3
 have : bx (bp ol.ag) k = 45:=by
  have zE : k < 16:=by have:=hO.le;omega
  show (dZ ol.ag 16).getD k 0 = 45;unfold dZ;simp [List.getD_eq_getElem?_getD,zE,hh]
 rw [this];rfl
/-! What the reader gives stands in the order of the text. -/
theorem uL {ss ss' : List St} (hu : Up ss) (hu' : Up ss') {n : Nat} (hp : ∀ k : Nat,k < n -> aq ss' k = aq ss k) (a : Int) : ∀ (d k : Nat),k < d -> k < n -> an ss' a k = an ss a k:=by
 intro d
 induction d with
 | zero=>intro k h;omega
 | succ d ih=>?_
 intro k h1 h2;rw [bV hu' _ (by omega),bV hu _ (by omega),hp k h2];have hl:=eZ hu (i:=(k : Int)) (by omega);have hm:=d_ hu (k : Int)
 by_cases c : aq ss k = -1
 ·rw [c,jn ss' a (by omega),jn ss a (by omega)]
 obtain ⟨p,e⟩ : ∃ p : Nat,aq ss k = p:=⟨(aq ss k).toNat,by omega⟩
 rw [e] at hl ⊢;rw [ih p (by omega) (by omega)]
structure Zi (ss : List St) : Prop where
 up : Up ss
 root : ∀ k : Nat,0 < k -> k < ss.length -> 0 <= aq ss k
 pre : ∀ k : Nat,k + 1 < ss.length -> aq ss ((k + 1 : Nat) : Int) = k \/ an ss (aq ss ((k + 1 : Nat) : Int)) k = true
def Last (ss : List St) (i : Nat) : Prop:=i + 1 = ss.length \/ (i + 1 < ss.length /\ an ss i ((ss.length - 1 : Nat) : Int) = true)
def Gr (ss ss' : List St) : Prop:=ss.length <= ss'.length /\ ∀ k : Nat,k < ss.length -> aq ss' k = aq ss k
theorem Gr.refl (ss : List St) : Gr ss ss:=⟨Nat.le_refl _,fun _ _=>rfl⟩
theorem Gr.trans {a b c : List St} (h : Gr a b) (g : Gr b c) : Gr a c:=⟨Nat.le_trans h.1 g.1,fun k hk=>(g.2 k (by have:=h.1;omega)).trans (h.2 k hk)⟩
theorem yd (p : Int) (ss : List St) (i : Int) : aq (aK p ss) i = aq ss i:=by
 unfold aK
 split
 ·rename_i k
  split
  ·rename_i s hs
   split
   ·unfold aq
    cases i with
    | negSucc n=>rfl
    | ofNat j=>?_
    show (match (ss.set k { s with kind:=2 })[j]? with | some s=>s.parent | none=>-1) = (match ss[j]? with | some s=>s.parent | none=>-1)
    by_cases c : k = j
    ·subst c
     rw [List.getElem?_set_self (List.getElem?_eq_some_iff.1 hs).1,hs]
    rw [List.getElem?_set_ne c]
   rfl
  rfl
 rfl
theorem ye (ss : List St) (s : St) : (∀ k : Nat,k < ss.length -> aq (ss ++ [s]) k = aq ss k) /\ aq (ss ++ [s]) (ss.length : Nat) = s.parent:=by
 constructor
 ·intro k hk
  unfold aq;rw [ch,ch,List.getElem?_append_left hk]
 unfold aq;rw [ch,List.getElem?_append_right (Nat.le_refl _)];simp
theorem IQ {ss : List St} (h : Zi ss) {s : St} (hp : (ss = [] /\ s.parent = -1) \/ ∃ i : Nat,s.parent = i /\ Last ss i) : Zi (aK s.parent (ss ++ [s])) /\ Last (aK s.parent (ss ++ [s])) ss.length /\ Gr ss (aK s.parent (ss ++ [s])) /\ aq (aK s.parent (ss ++ [s])) (ss.length : Nat) = s.parent:=by
 have hb : -1 <= s.parent /\ s.parent < ss.length:=by
  rcases hp with ⟨rfl,e⟩ | ⟨i,e,hl⟩
  ·rw [e];simp
  rw [e];rcases hl with hl | hl <;> omega
 have hu : Up (aK s.parent (ss ++ [s])):=Up.mark (Up.push h.up hb.1 hb.2) _
 have hlen : (aK s.parent (ss ++ [s])).length = ss.length + 1:=by rw [bU];simp
 have oW : ∀ k : Nat,k < ss.length -> aq (aK s.parent (ss ++ [s])) k = aq ss k:=fun k hk=>by rw [yd];exact (ye ss s).1 k hk
 have hnew : aq (aK s.parent (ss ++ [s])) (ss.length : Nat) = s.parent:=by rw [yd];exact (ye ss s).2
 refine ⟨⟨hu,?_,?_⟩,.inl hlen.symm,⟨by omega,oW⟩,hnew⟩
 ·intro k h0 hk
  rcases Nat.lt_or_ge k ss.length with q | q
  ·rw [oW k q];exact h.root k h0 q
  have : k = ss.length:=by omega
  rw [this,hnew]
  rcases hp with ⟨rfl,_⟩ | ⟨i,e,_⟩
  ·simp at this;omega
  omega
 intro k hk;rw [hlen] at hk
 rcases Nat.lt_or_ge (k + 1) ss.length with q | q
 ·rw [oW (k + 1) q,uL h.up hu oW _ (k + 1) k (by omega) (by omega)];exact h.pre k q
 have e1 : k + 1 = ss.length:=by omega
 rw [e1,hnew]
 rcases hp with ⟨rfl,_⟩ | ⟨i,e,hl⟩
 ·simp at e1
 rcases hl with hl | ⟨hl,ha⟩
 ·left;omega
 right
 rw [uL h.up hu oW _ (k + 1) k (by omega) (by omega),e];rw [show ss.length - 1 = k by omega] at ha;exact ha
theorem r_ (t : ByteArray) (self : Int) (r : Rs) : (transition t self r).2.ag = r.ag:=by
 unfold transition
 split
 ·split
  ·split <;> rfl
  rfl
 rfl
theorem Dm (t : ByteArray) (self : Int) (r : Rs) : (block t self r).2.ag = r.ag:=by
 unfold block;split <;> rfl
def Su (it : Int -> Int -> Rs -> Bool × Rs) : Prop:=∀ (i : Nat) (cl : Int) (r : Rs),Zi r.ag -> Last r.ag i -> (it i cl r).1 = true -> Zi (it i cl r).2.ag /\ Last (it i cl r).2.ag i /\ Gr r.ag (it i cl r).2.ag
theorem uM {t : ByteArray} {it : Int -> Int -> Rs -> Bool × Rs} (hit : Su it) {parent : Int} {r : Rs} (h : Zi r.ag) (hp : (r.ag = [] /\ parent = -1) \/ ∃ i : Nat,parent = i /\ Last r.ag i) (hok : (aE t it parent r).1 = true) :
 Zi (aE t it parent r).2.ag /\ Last (aE t it parent r).2.ag r.ag.length /\ Gr r.ag (aE t it parent r).2.ag /\ aq (aE t it parent r).2.ag (r.ag.length : Nat) = parent:=by
 unfold aE at hok ⊢
 by_cases q : cm (af t (r.pos + 1)) = true
 ·have hn : az t (af t r.pos) parent { r with pos:=r.pos + 1 } = (true,{ r with pos:=r.pos + 1 + 1,ag:=aK parent (r.ag ++ [⟨af t (r.pos + 1),((r.pos + 1 : Nat) : Int),kindOf (af t r.pos),parent⟩]) }):=by
   unfold az;simp only;rw [if_pos q]
  obtain ⟨z1,z2,z3,z4⟩:=IQ h (s:=⟨af t (r.pos + 1),((r.pos + 1 : Nat) : Int),kindOf (af t r.pos),parent⟩) hp
  have hlen : (aK parent (r.ag ++ [⟨af t (r.pos + 1),((r.pos + 1 : Nat) : Int),kindOf (af t r.pos),parent⟩])).length = r.ag.length + 1:=by rw [bU];simp
  rw [hn] at hok ⊢;simp only [if_true] at hok ⊢
  split at hok
  ·rename_i c1
   rw [if_pos c1];obtain ⟨a1,a2,a3⟩:=hit r.ag.length 41 _ z1 z2 hok;exact ⟨a1,a2,z3.trans a3,(a3.2 r.ag.length (by simp only;omega)).trans z4⟩
  rename_i c1;rw [if_neg c1]
  split at hok
  ·rename_i c2
   rw [if_pos c2];obtain ⟨a1,a2,a3⟩:=hit r.ag.length 93 _ z1 z2 hok;exact ⟨a1,a2,z3.trans a3,(a3.2 r.ag.length (by simp only;omega)).trans z4⟩
  rename_i c2;rw [if_neg c2]
  split
  ·exact ⟨z1,z2,z3,z4⟩
  exact ⟨z1,z2,z3,z4⟩
 have hn : az t (af t r.pos) parent { r with pos:=r.pos + 1 } = (false,{ r with pos:=r.pos + 1 }):=by
  unfold az;simp only;rw [if_neg q]
 rw [hn] at hok;simp at hok
theorem Dn (t : ByteArray) : ∀ n,Su (ai t n):=by
 intro n
 induction n with
 | zero=>intro i cl r _ _ h;simp [ai] at h
 | succ n ih=>?_
 intro i cl r hz hl hok;simp only [ai] at hok ⊢
 split at hok
 ·rename_i c1
  rw [if_pos c1]
  split at hok
  ·rename_i c2
   rw [if_pos c2];obtain ⟨z1,z2,z3,z4⟩:=uM ih hz (.inr ⟨i,rfl,hl⟩) c2;generalize (aE t (ai t n) i r).2 = r2 at *
   have hil : i < r.ag.length:=by rcases hl with e | e <;> omega
   have hl2 : Last r2.ag i:=by
    right
    have hln : r.ag.length < r2.ag.length:=by rcases z2 with e | e <;> omega
    refine ⟨by omega,?_⟩
    have hin : an r2.ag (i : Int) (r.ag.length : Nat) = true:=by rw [bV z1.up _ (by omega),z4];simp
    rcases z2 with e | ⟨_,e⟩
    ·rw [show r2.ag.length - 1 = r.ag.length by omega];exact hin
    exact jC z1.up hin e
   obtain ⟨a1,a2,a3⟩:=ih i cl r2 z1 hl2 hok;exact ⟨a1,a2,z3.trans a3⟩
  cases hok
 rename_i c1;rw [if_neg c1]
 split at hok
 ·rename_i c2
  rw [if_pos c2]
  split at hok
  ·rename_i c3
   rw [if_pos c3];have hs:=r_ t i r;generalize (transition t i r).2 = r2 at *;have:=ih i cl r2 (by rw [hs];exact hz) (by rw [hs];exact hl) hok;rw [hs] at this;exact this
  cases hok
 rename_i c2;rw [if_neg c2]
 split at hok
 ·rename_i c3
  rw [if_pos c3]
  split at hok
  ·rename_i c4
   rw [if_pos c4];have hs:=Dm t i r;generalize (block t i r).2 = r2 at *;have:=ih i cl r2 (by rw [hs];exact hz) (by rw [hs];exact hl) hok;rw [hs] at this;exact this
  cases hok
 rename_i c3;rw [if_neg c3];exact ⟨hz,hl,Gr.refl _⟩
theorem FR {t : ByteArray} (h : (chart t).1 = true) : Zi (chart t).2.ag /\ 0 < (chart t).2.ag.length:=by
 unfold chart at h ⊢
 split at h
 ·rename_i c1
  rw [if_pos c1]
  split at h
  ·rename_i c2
   rw [if_pos c2]
   have z0 : Zi r0.ag:=⟨by intro k s h;simp [r0] at h,by intro k h1 h2;simp [r0] at h2,by intro k h2;simp [r0] at h2⟩
   obtain ⟨z1,z2,z3,_⟩:=uM (Dn t (t.size + 1)) z0 (.inl ⟨rfl,rfl⟩) c2
   have hpos : 0 < (aE t (ai t (t.size + 1)) (-1) r0).2.ag.length:=by rcases z2 with e | e <;> omega
   exact ⟨z1,hpos⟩
  cases h
 cases h
def T0 (r : Rs) : Prop:=∀ x ∈ r.bH,0 <= x.state
theorem tN (t : ByteArray) (i : Nat) {r : Rs} (h : T0 r) : T0 (transition t i r).2:=by
 unfold transition
 split
 ·split
  ·split
   ·intro x hx
    rcases List.mem_append.1 hx with hx | hx
    ·exact h x hx
    simp at hx;subst hx;simp only;omega
   exact h
  exact h
 exact h
theorem FU (t : ByteArray) (i : Nat) {r : Rs} (h : T0 r) : T0 (block t i r).2:=by
 unfold block;split <;> exact h
theorem uN {t : ByteArray} {it : Int -> Int -> Rs -> Bool × Rs} (hit : ∀ (i : Nat) (cl : Int) (r : Rs),T0 r -> T0 (it i cl r).2) {parent : Int} {r : Rs} (h : T0 r) : T0 (aE t it parent r).2:=by
 have hn : T0 (az t (af t r.pos) parent { r with pos:=r.pos + 1 }).2:=by unfold az;split <;> exact h
 unfold aE
 split
 ·split
  ·exact hit _ _ _ hn
  split
  ·exact hit _ _ _ hn
  split
  ·exact hn
  exact hn
 exact hn
theorem Dp (t : ByteArray) : ∀ (n i : Nat) (cl : Int) (r : Rs),T0 r -> T0 (ai t n i cl r).2:=by
 intro n
 induction n with
 | zero=>intro i cl r h;exact h
 | succ n ih=>?_
 intro i cl r h;simp only [ai]
 split
 ·have:=uN (t:=t) (parent:=i) ih h
  split
  ·exact ih _ _ _ this
  exact this
 split
 ·have:=tN t i h
  split
  ·exact ih _ _ _ this
  exact this
 split
 ·have:=FU t i h
  split
  ·exact ih _ _ _ this
  exact this
 exact h
theorem yg (t : ByteArray) : T0 (chart t).2:=by
 have h0 : T0 r0:=by intro x hx;simp [r0] at hx
 have:=uN (t:=t) (parent:=-1) (Dp t (t.size + 1)) h0;unfold chart
 split
 ·split
  ·exact this
  exact this
 exact h0
/-! A chart without faults. -/
theorem Fx.right {α β : Type} {R : α -> β -> Prop} {l : List α} {m : List β} (h : Fx R l m) {b : β} (hb : b ∈ m) : ∃ a ∈ l,R a b:=by
 induction h with
 | nil=>cases hb
 | cons hab _ ih=>?_
 rcases List.mem_cons.1 hb with rfl | hb
 ·exact ⟨_,by simp,hab⟩
 obtain ⟨a,ha,hr⟩:=ih hb;exact ⟨a,by simp [ha],hr⟩
theorem tP {ss : List St} : ∀ (us : List Us),bL ss us = -2 -> (∀ u ∈ us,-2 < u.pos) -> ∀ u ∈ us,place ss u.name ≠ -2:=by
 intro us
 induction us with
 | nil=>intro _ _ u hu;cases hu
 | cons a us ih=>?_
 intro h hp u hu;simp only [bL] at h
 split at h
 ·have:=hp a (by simp);omega
 rename_i q
 rcases List.mem_cons.1 hu with rfl | hu
 ·simpa using q
 exact ih h (fun u hu=>hp u (by simp [hu])) u hu
theorem FV {ss : List St} {c : Int} (h : place ss c ≠ -2) : ∃ g : Nat,place ss c = g /\ g < ss.length:=by
 rcases gZ c ss 0 with ⟨e,_⟩ | ⟨i,s,h1,_,h3,_⟩
 ·exact absurd e h
 exact ⟨i,by unfold place;rw [h3];simp,(List.getElem?_eq_some_iff.1 h1).1⟩
theorem IS {L : List RN} {k : Nat} (hk : k < L.length) : dP (L.map RN.st) k = (fa L k).name:=by
 unfold dP;rw [List.getElem?_map,List.getElem?_eq_getElem hk,cS (List.getElem?_eq_getElem hk)];rfl
theorem Ld {L : List RN} {r : Rs} (hN : NR L r) (hz : Zi r.ag) (hne : 0 < r.ag.length) (hj : (judge r.ag r.uses).1 = 0) (hT : ∀ x ∈ r.bH,0 <= x.state) : BH ⟨r.ag,r.bH,r.cM⟩:=by
 obtain ⟨hu,h16⟩:=Ab hN hj;have o_:=hN.ag
 have hlen : r.ag.length = L.length:=by rw [<- o_];simp
 have Nn : ∀ k,k < L.length -> vW L k = false:=by
  rw [<- xR hN] at hj;unfold vY at hj;rw [if_neg (by omega)] at hj
  cases e : (List.range L.length).find? (vV L) with
  | some i=>rw [e] at hj;simp at hj
  | none=>?_
  rw [e] at hj;simp only at hj
  cases e2 : (List.range L.length).find? (vW L) with
  | some i=>rw [e2] at hj;simp at hj
  | none=>?_
  rw [List.find?_eq_none] at e2;intro k hk;have:=e2 k (by simpa using hk);simpa using this
 have Qp : bL r.ag r.uses = -2:=by
  unfold judge at hj;rw [if_neg (by omega)] at hj
  split at hj
  ·simp at hj
  split at hj
  ·simp at hj
  split at hj
  ·simp at hj
  rename_i q;simpa using q
 have No : ∀ u ∈ r.uses,-2 < u.pos:=by
  intro u hu';obtain ⟨k,n,rt,x,_,_,ht,hx⟩:=(hN.us u).1 hu';have h0:=ht.pos;unfold lu at hx
  rcases List.mem_append.1 hx with hx | hx
  ·split at hx
   ·simp at hx;subst hx;simp only;omega
   cases hx
  split at hx
  ·simp at hx;subst hx;simp only
   omega
  cases hx
 have Le:=tP r.uses Qp No
 have kd : ∀ k : Nat,k < L.length -> ay r.ag k = (fa L k).kind:=fun k hk=>by rw [<- o_];exact C_ hk
 have pr : ∀ k : Nat,k < L.length -> aq r.ag k = (fa L k).parent:=fun k hk=>by rw [<- o_];exact FD hk
 have wf : ∀ (k : Nat) (hk : k < L.length),-1 <= (L[k]).parent /\ (L[k]).parent < k /\ cm (L[k]).name = true /\ (((L[k]).kind = 4 \/ (L[k]).kind = 5) -> 0 <= (L[k]).parent) /\ 1 <= (L[k]).kind /\ (L[k]).kind <= 5 /\ 0 <= (L[k]).pos:=fun k hk=>hN.wf k _ (List.getElem?_eq_getElem hk)
 have hch : ∀ (j : Nat) (p : Int),j < L.length -> aw r.ag j p = BB L p j:=fun j p hj'=>by rw [<- o_];exact ly hj'
 refine ⟨⟨hz.up,hne,?_,hz.pre,?_,?_,?_⟩,by rw [hlen];exact h16,?_,?_,?_⟩
 ·intro k hk e
  by_cases c : k = 0
  ·exact c
  have:=hz.root k (by omega) hk;simp only at e;omega
 ·intro k h0 hk
  simp only at hk ⊢;have hp:=hz.root k h0 hk;rw [hlen] at hk;have hw:=wf k hk;rw [pr k hk] at hp ⊢;have e1:=cS (List.getElem?_eq_getElem hk);rw [e1] at hp ⊢
  obtain ⟨p,C7⟩ : ∃ p : Nat,(L[k]).parent = p:=⟨(L[k]).parent.toNat,by omega⟩
  have hpl : p < L.length:=by omega
  have:=hN.pk k _ L[p] (List.getElem?_eq_getElem hk) (by rw [C7];exact List.getElem?_eq_getElem hpl);rw [C7,kd p hpl,cS (List.getElem?_eq_getElem hpl)];exact this
 ·intro k hk hkk
  simp only at hk hkk ⊢;rw [hlen] at hk;rw [kd k hk] at hkk;have hm:=Nn k hk;unfold vW at hm;rw [if_neg (by simp;omega)] at hm
  have h3 : ((fa L k).kind == 3 || (fa L k).kind == 2) = true:=by simp;omega
  rw [h3] at hm;simp only [Bool.true_and] at hm
  cases q : mx L (k : Int) with
  | nil=>rw [q] at hm;simp at hm
  | cons a l=>?_
  have ha : a ∈ mx L (k : Int):=by rw [q];simp
  unfold mx at ha;rw [List.mem_filter] at ha
  have hal : a < L.length:=by simpa using ha.1
  exact ⟨a,by omega,by rw [hch a _ hal];exact ha.2⟩
 ·intro k hk hkk
  simp only at hk hkk ⊢;rw [hlen] at hk;rw [kd k hk] at hkk;have hw:=wf k hk;have e1:=cS (List.getElem?_eq_getElem hk);rw [e1] at hkk;have hp:=hw.2.2.2.1 (by omega);have hm:=Nn k hk;unfold vW at hm;rw [e1,if_pos (by simp;omega)] at hm
  obtain ⟨p,C7⟩ : ∃ p : Nat,(L[k]).parent = p:=⟨(L[k]).parent.toNat,by omega⟩
  have hpl : p < L.length:=by omega
  have h23:=hN.pk k _ L[p] (List.getElem?_eq_getElem hk) (by rw [C7];exact List.getElem?_eq_getElem hpl);refine ⟨by omega,?_⟩;rw [pr k hk,e1,C7,kd p hpl];rw [C7,Int.toNat_natCast] at hm;have e2:=cS (List.getElem?_eq_getElem hpl);rw [e2] at hm ⊢
  have : (L[p]).kind ≠ 3:=by simpa using hm
  omega
 ·intro x hx oE
  simp only at hx ⊢
  obtain ⟨k,hk⟩ : ∃ k : Nat,x.state = k:=by
   have:=hN.ts x hx;exact ⟨x.state.toNat,by have:=(hT x hx);omega⟩
  have hkl : k < L.length:=by have:=hN.ts x hx;omega
  obtain ⟨rt,hrt,hok⟩:=(hN.bH k _ (List.getElem?_eq_getElem hkl)).right (b:=x) (by rw [List.mem_filter];exact ⟨hx,by unfold Fy;rw [hk];simp⟩)
  have hnm : cm x.target = true:=by
   have:=hok.ta;unfold iG at this;simp only [Bool.or_eq_true,beq_iff_eq] at this
   rcases this with e | e
   ·exact absurd e oE
   exact e
  have hu1 : (⟨x.target,rt.pos + (ei rt.text).length - 1⟩ : Us) ∈ r.uses:=(hN.us _).2 ⟨k,_,rt,x,List.getElem?_eq_getElem hkl,hrt,hok,by unfold lu;rw [if_pos hnm];simp⟩;exact FV (Le _ hu1)
 ·intro x hx
  simp only at hx ⊢;have h1:=hN.ts x hx;have h0:=hT x hx;exact ⟨x.state.toNat,by omega,by omega⟩
 intro k hk;simp only at hk ⊢;rw [hlen] at hk;rw [<- o_,IS hk]
 constructor
 ·rcases lz L (fa L k).name with ⟨_,_,h3⟩ | ⟨i,hi,_,h3,h4⟩
  ·exact absurd rfl (h3 k hk)
  rw [h3];have:=hu i k hi hk h4;omega
 have hw:=(wf k hk).2.2.1;rw [<- cS (List.getElem?_eq_getElem hk)] at hw;unfold cm at hw;simp only [Bool.and_eq_true,decide_eq_true_eq] at hw;omega
theorem yh {t : ByteArray} (h : (read t).1 = 0) : BH (read t).2.2 /\ (read t).2.2 = ⟨(chart t).2.ag,(chart t).2.bH,(chart t).2.cM⟩ /\ (chart t).1 = true /\ (judge (chart t).2.ag (chart t).2.uses).1 = 0:=by
 unfold read at h ⊢
 split at h
 ·cases h
 rename_i c0;rw [if_neg c0]
 split at h
 ·rename_i c1
  rw [if_pos c1]
  split at h
  ·rename_i c2
   rw [if_pos c2]
   have hj : (judge (chart t).2.ag (chart t).2.uses).1 = 0:=by simpa using c2
   obtain ⟨L,_,hN⟩:=uE c1;obtain ⟨hz,hne⟩:=FR c1;exact ⟨Ld hN hz hne hj (yg t),rfl,c1,hj⟩
  rename_i c2;simp only at h;rw [h] at c2;simp at c2
 cases h
/-! Texts. -/
theorem FW {t : ByteArray} {l : List Int} (h : ei t = l) {k : Nat} {x : Int} (hk : l[k]? = some x) : af t k = x /\ k < t.size:=by
 have hlt : k < t.size:=by have:=(List.getElem?_eq_some_iff.1 hk).1;rw [<- h,bF] at this;exact this
 refine ⟨?_,hlt⟩;have:=nP t k hlt;rw [h,hk] at this;simpa using this.symm
theorem qJ (t : ByteArray) (p q : Nat) : ei (t.extract p q) = ((ei t).drop p).take (q - p):=by
 unfold ei;rw [ByteArray.data_extract,Array.toList_extract,List.extract_eq_take_drop,List.map_take,List.map_drop]
theorem IT {a b : ByteArray} (h : ei a = ei b) : a = b:=by
 unfold ei at h
 have hh : a.data.toList = b.data.toList:=by
  apply List.ext_getElem?;intro k;have:=congrArg (fun l=>l[k]?) h;simp only [List.getElem?_map] at this
  cases h1 : a.data.toList[k]? <;> cases h2 : b.data.toList[k]? <;> rw [h1,h2] at this <;> simp at this ⊢
  exact UInt8.toNat_inj.1 (by omega)
 have : a.data = b.data:=Array.toList_inj.1 hh
 cases a;cases b;simp at this;rw [this]
theorem jq {l : List Int} (h : ∀ x ∈ l,0 <= x /\ x < 256) : ei (strOfNums l) = l:=by
 unfold ei strOfNums;simp only [List.map_map];rw [show (List.map ((fun b : UInt8=>(b.toNat : Int)) ∘ fun n : Int=>UInt8.ofNat n.toNat) l) = l.map id from List.map_congr_left (fun x hx=>?_)]
 ·simp
 have:=h x hx;simp only [Function.comp,id,UInt8.toNat_ofNat'];omega
theorem kq (a b : ByteArray) : ei (a ++ b) = ei a ++ ei b:=by
 unfold ei;rw [ByteArray.data_append];simp
theorem BI {c : Int} (h : bN c = true) : 97 <= c /\ c <= 122:=by unfold bN at h;simpa using h
theorem IU {c : Int} (h : fK c = true) : 120 <= c /\ c <= 122:=by have:=Bz h;omega
theorem vQ.byte {a : Ac} (h : vQ a) : 97 <= a.letter /\ a.letter <= 122 /\ 0 <= a.digit /\ a.digit <= 9:=by
 rcases h with ⟨_,h2,h3⟩ | ⟨_,h2,h3⟩ | ⟨_,h2,h3⟩
 ·have:=BI h2;omega
 ·have:=BI h2;omega
 have:=IU h2;omega
/-! A tick ends: of the timers that are due none comes in again. -/
def lC : List Int -> Nat
 | _ :: b :: l=>(if b == 48 then 1 else 0) + lC l
 | _=>0
theorem Ah : ∀ (n : Nat) (a b : List Int),a.length = 2 * n -> lC (a ++ b) = lC a + lC b:=by
 intro n
 induction n with
 | zero=>intro a b h;have : a = []:=List.length_eq_zero_iff.1 (by omega);subst this;simp [lC]
 | succ n ih=>?_
 intro a b h
 match a,h with
 | x :: y :: a,h =>
   simp only [List.cons_append,lC];rw [ih a b (by simp at h;omega)];omega
 | [_],h=>simp at h;omega
 | [],h=>simp at h
def mR (N : Nat) (s : Sd) : Prop:=s.tm.size % 2 = 0 /\ lC (ei s.tm) <= N
theorem nT {a b : List Int} (h : a.length % 2 = 0) : lC (a ++ b) = lC a + lC b:=Ah (a.length / 2) a b (by omega)
theorem Dq (t : ByteArray) (k : Nat) : 0 <= af t k /\ af t k < 256:=by
 unfold af
 split
 ·have:=UInt8.toNat_lt (t[k]'(by assumption));omega
 omega
theorem fy {t : ByteArray} {k : Nat} (h : k + 1 < t.size) : (ei t).drop k = af t k :: af t (k + 1) :: (ei t).drop (k + 2):=by
 have h1:=nP t k (by omega);have h2:=nP t (k + 1) h;have hl:=bF t;rw [List.drop_eq_getElem_cons (by omega),List.drop_eq_getElem_cons (i:=k + 1) (by omega)];rw [List.getElem?_eq_getElem (by omega)] at h1 h2;simp only [Option.some.injEq] at h1 h2;rw [h1,h2]
theorem FX (t : ByteArray) (c : Int) : ∀ (f k : Nat) (acc : List Int),acc.length % 2 = 0 -> (∀ x ∈ acc,0 <= x /\ x < 256) ->
 (pE t c f k acc).length % 2 = 0 /\ lC (pE t c f k acc) <= lC acc + lC ((ei t).drop k) /\ ∀ x ∈ pE t c f k acc,0 <= x /\ x < 256:=by
 intro f
 induction f with
 | zero=>intro k acc h hb;exact ⟨h,by simp only [pE];omega,hb⟩
 | succ f ih=>?_
 intro k acc h hb;simp only [pE]
 split
 ·rename_i c1
  rw [fy c1];simp only [lC]
  split
  ·obtain ⟨h1,h2,h3⟩:=ih (k + 2) (acc ++ [af t k,af t (k + 1)]) (by simp;omega) (by
    intro x hx
    rcases List.mem_append.1 hx with hx | hx
    ·exact hb x hx
    simp at hx;rcases hx with rfl | rfl <;> exact Dq _ _)
   refine ⟨h1,?_,h3⟩;rw [nT h] at h2;simp only [lC] at h2;omega
  obtain ⟨h1,h2,h3⟩:=ih (k + 2) acc h hb;exact ⟨h1,by omega,h3⟩
 exact ⟨h,by omega,hb⟩
theorem FY {N : Nat} {m : Ma} (h : mR N m.s) {a : Ac} (ha : vQ a) : mR N (dw m a).2.s:=by
 unfold dw
 split
 ·exact h
 rename_i c1
 split
 ·rename_i c2
  unfold send
  split
  ·exact h
  obtain ⟨h1,h2⟩:=h
  have hd : 1 <= a.digit /\ a.digit <= 9:=by
   have e : a.sign = 64:=by simpa using c2
   rcases ha with ⟨hs,_⟩ | ⟨_,_,h3⟩ | ⟨hs,_⟩
   ·omega
   ·exact h3
   omega
  have hb:=ha.byte;refine ⟨?_,?_⟩
  ·show (m.s.tm ++ strOfNums [a.letter,48 + a.digit]).size % 2 = 0
   rw [ByteArray.size_append,strOfNums_size];simp;omega
  show lC (ei (m.s.tm ++ strOfNums [a.letter,48 + a.digit])) <= N;rw [kq,nT (by rw [bF];exact h1),jq (by intro x hx;simp at hx;omega)]
  have : ((48 + a.digit : Int) == 48) = false:=by simp;omega
  simp only [lC,this];simpa using h2
 split
 ·obtain ⟨h1,h2⟩:=h
  obtain ⟨g1,g2,g3⟩:=FX m.s.tm a.letter m.s.tm.size 0 [] rfl (by simp);refine ⟨?_,?_⟩
  ·show (strOfNums (pE m.s.tm a.letter m.s.tm.size 0 [])).size % 2 = 0
   rw [strOfNums_size];exact g1
  show lC (ei (strOfNums (pE m.s.tm a.letter m.s.tm.size 0 []))) <= N;rw [jq g3];simp [lC] at g2;omega
 split
 ·exact h
 show mR N (mG m.s a.letter (ea m.s a))
 have : (mG m.s a.letter (ea m.s a)).tm = m.s.tm:=by
  unfold mG gJ
  split
  ·split
   ·rfl
   split <;> rfl
  rfl
 unfold mR;rw [this];exact h
theorem uO {N : Nat} : ∀ (l : List Ac) {m : Ma},mR N m.s -> (∀ a ∈ l,vQ a) -> mR N (cV l m).s:=by
 intro l
 induction l with
 | nil=>intro m h _;exact h
 | cons a l ih=>?_
 intro m h ha;simp only [cV];have h1:=FY h (ha a (by simp))
 split
 ·exact ih h1 (fun b hb=>ha b (by simp [hb]))
 exact h1
structure wQ (ol : Ol) : Prop where
 tr : ∀ x ∈ ol.bH,∀ a ∈ x.acts,vQ a
 bl : ∀ b ∈ ol.cM,∀ k : Nat,∀ sg : Int,b.state = k -> b.sign = sg -> (sg = 94 \/ sg = 36) -> ∀ a ∈ b.acts,vQ a
theorem yi {N k : Nat} {sg : Int} (hsg : sg = 94 \/ sg = 36) : ∀ (l : List Bl) {m : Ma},(∀ b ∈ l,∀ k : Nat,∀ sg : Int,b.state = k -> b.sign = sg -> (sg = 94 \/ sg = 36) -> ∀ a ∈ b.acts,vQ a) -> mR N m.s -> mR N (cD k sg l m).s:=by
 intro l
 induction l with
 | nil=>intro m _ h;exact h
 | cons b l ih=>?_
 intro m hA h;simp only [cD];refine ih (fun b hb=>hA b (by simp [hb])) ?_
 split
 ·rename_i c
  simp only [Bool.and_eq_true,beq_iff_eq] at c;exact uO _ h (hA b (by simp) k sg c.1 c.2 hsg)
 exact h
theorem uP {N : Nat} {m : Ma} (h : mR N m.s) (i : Int) (v : Bool) : mR N (dz m i v).s:=h
theorem Ai {ol : Ol} (hA : wQ ol) {N : Nat} {m : Ma} (h : mR N m.s) (k : Nat) : mR N (ck ol m k).s:=by
 have h1:=yi (k:=k) (.inl rfl) ol.cM hA.bl (uP h k true);unfold ck
 split
 ·rw [(jN _ _ _).1];exact h1
 exact h1
theorem Dr {ol : Ol} (hA : wQ ol) {N : Nat} (st : List Bool) (gl : List Int) : ∀ (f k : Nat) {m : Ma},mR N m.s -> mR N (cL ol st gl f k m).s:=by
 intro f
 induction f with
 | zero=>intro k m h;exact h
 | succ f ih=>?_
 intro k m h;simp only [cL];refine ih _ ?_
 split
 ·exact Ai hA h k
 exact h
theorem Ds {ol : Ol} (hA : wQ ol) {N : Nat} (left : List Bool) : ∀ (k : Nat) {m : Ma},mR N m.s -> mR N (cu ol left k m).s:=by
 intro k
 induction k with
 | zero=>intro m h;exact h
 | succ k ih=>?_
 intro m h;simp only [cu];refine ih ?_
 split
 ·exact uP (yi (.inr rfl) ol.cM hA.bl h) _ _
 exact h
theorem FZ {ol : Ol} (hA : wQ ol) {N : Nat} : ∀ (l : List Int) {m : Ma},mR N m.s -> mR N (fF ol l m).s:=by
 intro l
 induction l with
 | nil=>intro m h;exact h
 | cons x l ih=>?_
 intro m h;simp only [fF];refine ih (uO _ h ?_);unfold oS
 split
 ·rename_i y hy;exact hA.tr y (List.mem_of_getElem? hy)
 simp
theorem nU {ol : Ol} (hA : wQ ol) {N : Nat} {m : Ma} (h : mR N m.s) (l : List Int) : mR N (dE ol m l).s :=
 Dr hA _ _ _ _ (FZ hA l (Ds hA _ _ (m:={ m with s:=rem ol.ag m.s (cO ol m.s l) }) h))
theorem F7 {ol : Ol} (hA : wQ ol) {N : Nat} {m : Ma} (h : mR N m.s) : mR N (round ol m).s:=by
 unfold round
 split
 ·split
  ·exact nU hA h _
  rename_i a q _;exact nU hA (m:={ m with q:=q }) h _
 exact nU hA h _
theorem Dt {ol : Ol} (hA : wQ ol) {N : Nat} : ∀ (n : Nat) {m : Ma},mR N m.s -> mR N (rounds ol n m).s:=by
 intro n
 induction n with
 | zero=>intro m h;exact h
 | succ n ih=>?_
 intro m h;simp only [rounds]
 split
 ·exact ih (F7 hA h)
 exact h
theorem F9 {ol : Ol} (hA : wQ ol) {N : Nat} {s : Sd} (h : mR N s) (ev : Int) : mR N (aL ol s ev).1:=by
 unfold aL finish
 split
 ·exact ⟨rfl,by show lC (ei ByteArray.empty) <= N;simp [ei,lC]⟩
 exact Dt hA _ (nU hA (m:=⟨s,[],[]⟩) h _)
theorem pd (t : ByteArray) : ∀ (f k j : Nat),jA t f k = some j -> k % 2 = 0 -> j % 2 = 0 /\ af t (j + 1) = 48:=by
 intro f
 induction f with
 | zero=>intro k j h;simp [jA] at h
 | succ f ih=>?_
 intro k j h hk;simp only [jA] at h
 split at h
 ·split at h
  ·rename_i q;simp at h;subst h;exact ⟨hk,by simpa using q⟩
  exact ih _ _ h (by omega)
 cases h
theorem Aj {N : Nat} {s : Sd} (h : mR (N + 1) s) (hd : (aQ s).2.1 = true) : mR N (aQ s).2.2:=by
 unfold aQ at hd ⊢
 cases q : jA s.tm s.tm.size 0 with
 | none=>rw [q] at hd;cases hd
 | some k=>?_
 simp only;obtain ⟨h1,h2⟩:=h;have hk:=(qF s.tm s.tm.size 0 k q).2;obtain ⟨he,hp⟩:=pd s.tm s.tm.size 0 k q rfl;have hl:=bF s.tm
 have e1 : ei (s.tm.extract 0 k) = (ei s.tm).take k:=by rw [qJ];simp
 have e2 : ei (s.tm.extract (k + 2) s.tm.size) = (ei s.tm).drop (k + 2):=by rw [qJ];exact List.take_of_length_le (by simp;omega)
 refine ⟨?_,?_⟩
 ·show (s.tm.extract 0 k ++ s.tm.extract (k + 2) s.tm.size).size % 2 = 0
  rw [ByteArray.size_append];simp;omega
 show lC (ei (s.tm.extract 0 k ++ s.tm.extract (k + 2) s.tm.size)) <= N;rw [kq,e1,e2,nT (by simp;omega)]
 have : lC (ei s.tm) = lC ((ei s.tm).take k) + lC ((ei s.tm).drop k):=by rw [<- nT (by simp;omega),List.take_append_drop]
 rw [this,fy hk] at h2;simp only [lC,hp] at h2;simp at h2;omega
theorem yj {s : Sd} (h : mR 0 s) : (aQ s).2.1 = false:=by
 unfold aQ
 cases q : jA s.tm s.tm.size 0 with
 | none=>rfl
 | some k=>?_
 exfalso;have hk:=(qF s.tm s.tm.size 0 k q).2;obtain ⟨he,hp⟩:=pd s.tm s.tm.size 0 k q rfl;have hl:=bF s.tm
 have : lC (ei s.tm) = lC ((ei s.tm).take k) + lC ((ei s.tm).drop k):=by rw [<- nT (by simp;omega),List.take_append_drop]
 have h2:=h.2;rw [this,fy hk] at h2;simp only [lC,hp] at h2;simp at h2
theorem Ak {ol : Ol} (hA : wQ ol) : ∀ (N : Nat) {s : Sd} (l : List Int),mR N s -> (cN ol (N + 1) s l).isSome = true:=by
 intro N
 induction N with
 | zero=>intro s l h;simp only [cN];rw [yj h];rfl
 | succ N ih=>?_
 intro s l h;simp only [cN]
 split
 ·rename_i hd
  have h1:=Aj h hd
  split
  ·exact ih _ (F9 hA h1 _)
  exact ih _ h1
 rfl
theorem Lf {L : List RN} {r : Rs} (hN : NR L r) (hT : T0 r) : wQ ⟨r.ag,r.bH,r.cM⟩:=by
 refine ⟨fun x hx=>?_,fun b hb k sg hk hs hsg=>?_⟩
 ·simp only at hx
  have h0:=hT x hx;have h1:=hN.ts x hx
  obtain ⟨k,hk⟩ : ∃ k : Nat,x.state = k:=⟨x.state.toNat,by omega⟩
  have hkl : k < L.length:=by omega
  obtain ⟨rt,_,hok⟩:=(hN.bH k _ (List.getElem?_eq_getElem hkl)).right (b:=x) (by rw [List.mem_filter];exact ⟨hx,by unfold Fy;rw [hk];simp⟩);exact hok.ac
 simp only at hb;have h1:=hN.bs b hb
 have hkl : k < L.length:=by omega
 have hm : b ∈ r.cM.filter (rR k sg):=by rw [List.mem_filter];exact ⟨hb,by unfold rR;rw [hk,hs];simp⟩
 rcases hsg with rfl | rfl
 ·obtain ⟨_,_,hok⟩:=(hN.L_ k _ (List.getElem?_eq_getElem hkl)).right hm
  exact hok.ac
 obtain ⟨_,_,hok⟩:=(hN.Mb k _ (List.getElem?_eq_getElem hkl)).right hm;exact hok.ac
/-! What a stand tells of the active states,spread again. -/
theorem F_ {L : List RN} {k : Nat} (hp : place (L.map RN.st) (dP (L.map RN.st) k) = k) : kl L (dP (L.map RN.st) k) = k:=by
 rcases lz L (dP (L.map RN.st) k) with ⟨_,h2,_⟩ | ⟨i,_,h1,h2,_⟩
 ·rw [hp] at h2;omega
 rw [h1,<- h2,hp]
theorem yk {L : List RN} (t : ByteArray) (al : List Nat) (hal : ∀ k ∈ al,k < L.length /\ kl L (dP (L.map RN.st) k) = k) (ht : ∀ (j i : Nat),al[j]? = some i -> af t j = dP (L.map RN.st) i) :
 ∀ (rest : List Nat) (k : Nat) (last : Int) (on : List Bool),al.drop k = rest -> (∀ i ∈ rest,last < (i : Int)) -> rest.Pairwise (· < ·) -> kn L t rest.length k last on = some (rest.foldl (fun on i=>on.set i true) on):=by
 intro rest
 induction rest with
 | nil=>intro k last on _ _ _;rfl
 | cons i rest ih=>?_
 intro k last on hd hl hs
 have hi : al[k]? = some i:=by
  have:=congrArg (fun l=>l[0]?) hd;simpa [List.getElem?_drop] using this
 have hm:=hal i (List.mem_of_getElem? hi);rw [List.pairwise_cons] at hs;simp only [List.length_cons,kn,List.foldl_cons];rw [ht k i hi,hm.2,if_neg (by have:=hl i (by simp);omega),Int.toNat_natCast];refine ih (k + 1) i _ ?_ (fun j hj=>by have:=hs.1 j hj;omega) hs.2;have:=congrArg (List.drop 1) hd;rw [List.drop_drop] at this;simpa [Nat.add_comm] using this
theorem foldl_set : ∀ (l : List Nat) (on : List Bool),(∀ k ∈ l,k < on.length) -> (l.foldl (fun on i=>on.set i true) on).length = on.length /\ ∀ k,xS (l.foldl (fun on i=>on.set i true) on) k = (xS on k || l.contains k):=by
 intro l
 induction l with
 | nil=>intro on _;exact ⟨rfl,fun k=>by simp⟩
 | cons a l ih=>?_
 intro on h;simp only [List.foldl_cons];obtain ⟨h1,h2⟩:=ih (on.set a true) (fun k hk=>by simp;exact h k (by simp [hk]));refine ⟨by simpa using h1,fun k=>?_⟩;rw [h2 k];have ha:=h a (by simp);unfold xS;simp only [List.getD_eq_getElem?_getD,List.getElem?_set,List.contains_cons]
 by_cases c : a = k
 ·subst c;rw [if_pos rfl,if_pos ha];simp
 rw [if_neg c]
 have : (k == a) = false:=by simp;omega
 rw [this];simp
theorem Al {L : List RN} {ol : Ol} (o_ : L.map RN.st = ol.ag) (hO : BH ol) (hB : ∀ k,k < ol.ag.length -> 0 <= dP ol.ag k /\ dP ol.ag k < 256) {s : Sd} (hlt : ∀ j,bit s.act j = true -> j < ol.ag.length) (hl : s.act.length = 16) :
 ∃ on,vZ L (eY ol.ag s) = some on /\ mQ L.length on s.act:=by
 have hlen : ol.ag.length = L.length:=by rw [<- o_];simp
 have h16:=hO.le
 have hm : min ol.ag.length 16 = L.length:=by omega
 let al:=(List.range L.length).filter fun (j : Nat)=>has s.act (j : Int)
 have IV : ∀ k ∈ al,k < L.length /\ bit s.act k = true:=fun k hk=>by
  have:=List.mem_filter.1 hk;exact ⟨by simpa using this.1,this.2⟩
 have hbyte : ∀ k,k < L.length -> 0 <= dP ol.ag k /\ dP ol.ag k < 256:=fun k hk=>hB k (by omega)
 have e : eY ol.ag s = strOfNums (al.map (dP ol.ag)):=by unfold eY fM;rw [hm]
 have hb : ei (eY ol.ag s) = al.map (dP ol.ag):=by
  rw [e];refine jq (fun x hx=>?_);obtain ⟨k,hk,rfl⟩:=List.mem_map.1 hx;exact hbyte k (IV k hk).1
 have hsz : (eY ol.ag s).size = al.length:=by rw [<- bF,hb];simp
 have ht : ∀ (j i : Nat),al[j]? = some i -> af (eY ol.ag s) j = dP (L.map RN.st) i:=fun j i hj=>by
  rw [o_];exact (FW hb (k:=j) (x:=dP ol.ag i) (by rw [List.getElem?_map,hj];rfl)).1
 have hnm : ∀ k ∈ al,k < L.length /\ kl L (dP (L.map RN.st) k) = k:=fun k hk=>by
  have hkl:=(IV k hk).1;exact ⟨hkl,F_ (by rw [o_];exact (hO.nm k (by omega)).1)⟩
 have hs : al.Pairwise (· < ·):=List.Pairwise.filter _ List.pairwise_lt_range;have hf:=yk (eY ol.ag s) al hnm ht al 0 (-1) (List.replicate L.length false) rfl (fun i _=>by omega) hs;obtain ⟨g1,g2⟩:=foldl_set al (List.replicate L.length false) (fun k hk=>by simp;exact (IV k hk).1);refine ⟨_,by unfold vZ;rw [hsz];exact hf,by simpa using g1,hl,fun k=>?_⟩;rw [g2 k]
 have h0 : xS (List.replicate L.length false) k = false:=by
  unfold xS;simp only [List.getD_eq_getElem?_getD,List.getElem?_replicate];split <;> rfl
 rw [h0,Bool.false_or]
 cases q : bit s.act k with
 | true =>
   rw [List.contains_iff_mem];exact List.mem_filter.2 ⟨by simpa using (hlen ▸ hlt k q),q⟩
 | false=>?_
 cases q2 : al.contains k with
 | false=>rfl
 | true=>?_
 have:=(IV k (List.contains_iff_mem.1 q2)).2;rw [q] at this;cases this
end Ch
end Go.Proofs.YtnlbchmfcebeeaaGreat
