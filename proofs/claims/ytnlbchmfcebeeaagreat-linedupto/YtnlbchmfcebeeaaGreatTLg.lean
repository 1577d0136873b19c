import Derived.Test.YtnlbchmfcebeeaaGreatTX1
import Derived.Deep.RegionHeld3
set_option maxHeartbeats 12800000
set_option maxRecDepth 100000
namespace Go.Proofs.YtnlbchmfcebeeaaGreat
open Go.Proofs.Tryz Ch
open Go.RowKit
namespace Ch
structure Has (t : ByteArray) (p : Nat) (s : List Int) : Prop where
 le : p + s.length <= t.size
 at_ : ∀ k b,s[k]? = some b -> af t (p + k) = b
section
variable {t : ByteArray} {p : Nat} {a b s : List Int} {x : Int}
theorem Has.left (h : Has t p (a ++ b)) : Has t p a :=
 ⟨by have:=h.le;simp at this;omega,fun k c hk=>h.at_ k c (by rw [List.getElem?_append_left (List.getElem?_eq_some_iff.1 hk).1];exact hk)⟩
theorem Has.right (h : Has t p (a ++ b)) : Has t (p + a.length) b :=
 ⟨by have:=h.le;simp at this;omega,fun k c hk=>by
  have:=h.at_ (a.length + k) c (by rw [List.getElem?_append_right (by omega)];simpa using hk)
  rwa [<- Nat.add_assoc] at this⟩
theorem Has.head (h : Has t p (x :: s)) : af t p = x:=h.at_ 0 x rfl
theorem Has.tail (h : Has t p (x :: s)) : Has t (p + 1) s:=Has.right (a:=[x]) h
theorem Has.i1 {y : Int} (h : Has t p (x :: y :: s)) : af t (p + 1) = y:=h.tail.head
theorem Has.i2 {y z : Int} (h : Has t p (x :: y :: z :: s)) : af t (p + 1 + 1) = z:=h.tail.tail.head
end
inductive Jy : List Int -> Prop
 | ev {s e : Int} : (s = 33 \/ s = 126 \/ s = 35) -> bN e = true -> Jy [s,e]
 | tm {e d : Int} : bN e = true -> eQ 49 d = true -> Jy [64,e,d]
 | vr {s v d : Int} : (s = 43 \/ s = 45 \/ s = 61) -> fK v = true -> eQ 48 d = true -> Jy [s,v,d]
inductive dX : List Int -> Prop
 | nil : dX []
 | cons {a s : List Int} : Jy a -> dX s -> dX (a ++ s)
theorem dX.snoc {s a : List Int} (h : dX s) (ha : Jy a) : dX (s ++ a):=by
 induction h with
 | nil=>have:=dX.cons ha .nil;simpa using this
 | cons hb _ ih=>rw [List.append_assoc];exact .cons hb ih
section
variable {t : ByteArray}
theorem wV {p : Nat} {a : List Int} (ha : Jy a) (h : Has t p a) (cl : Int) (hcl : cl = 59 \/ cl = 62) :
 (af t p == cl) = false /\ (af t p == 63) = false /\ (act t p ⟨af t p,0,0⟩).1 = true /\ (act t p ⟨af t p,0,0⟩).2.2 = p + a.length /\ 1 <= a.length:=by
 cases ha with
 | ev hs he =>
   have h0:=h.head;have h1:=h.i1;rw [h0]
   rcases hs with rfl | rfl | rfl <;> rcases hcl with rfl | rfl <;> simp [act,eu,h1,he,bm]
 | tm he hd =>
   have h0:=h.head;have h1:=h.i1;have h2:=h.i2;rw [h0]
   rcases hcl with rfl | rfl <;> simp [act,kO,ik,eu,h1,he,bm,h2,hd]
 | vr hs hv hd=>?_
 have h0:=h.head;have h1:=h.i1;have h2:=h.i2;rw [h0]
 rcases hs with rfl | rfl | rfl <;> rcases hcl with rfl | rfl <;> simp [act,il,ik,eR,h1,hv,bm,h2,hd]
theorem zq {cl : Int} (hcl : cl = 59 \/ cl = 62) {s : List Int} (hs : dX s) : ∀ (n p : Nat) (l : List Ac),Has t p (s ++ [cl]) -> s.length < n ->
 (ew t cl n p l).1 = true /\ (ew t cl n p l).2.2 = p + s.length + 1:=by
 induction hs with
 | nil =>
   intro n p l h hn
   obtain ⟨m,rfl⟩ : ∃ m,n = m + 1:=⟨n - 1,by simp at hn;omega⟩
   have h0 : af t p = cl:=h.head;rw [jd (by simp [h0])];simp
 | @cons a s ha _ ih=>?_
 intro n p l h hn;rw [List.append_assoc] at h;have hr:=wV ha h.left cl hcl;simp only [List.length_append] at hn
 obtain ⟨m,rfl⟩ : ∃ m,n = m + 1:=⟨n - 1,by omega⟩
 rw [j6 hr.1 hr.2.2.1,hr.2.2.2.1];have:=ih m (p + a.length) (l ++ [(act t p ⟨af t p,0,0⟩).2.1]) h.right (by omega);refine ⟨this.1,this.2.trans ?_⟩;simp only [List.length_append];omega
theorem ug {cl : Int} (hcl : cl = 59 \/ cl = 62) {s : List Int} (hs : dX s) {p : Nat} (h : Has t p (s ++ [cl])) : (acts t cl p).1 = true /\ (acts t cl p).2.2 = p + s.length + 1 :=
 zq hcl hs _ _ _ h (by have:=h.le;simp at this;omega)
theorem Cp {s : List Int} (hs : dX s) {p : Nat} (h : Has t p (s ++ [62])) : (af t p == 63) = false:=by
 cases hs with
 | nil=>rw [h.head];rfl
 | cons ha _=>rw [List.append_assoc] at h;exact (wV ha h.left 62 (Or.inr rfl)).2.1
inductive H7 : List Int -> Prop
 | none : H7 []
 | some {v s d : Int} : fK v = true -> pV s = true -> eQ 48 d = true -> H7 [63,v,s,d]
theorem zr {g : List Int} (hg : H7 g) {p : Nat} (h : Has t p g) (hx : (af t (p + g.length) == 63) = false) : (guard t p ⟨0,0,0⟩).1 = true /\ (guard t p ⟨0,0,0⟩).2.2 = p + g.length:=by
 cases hg with
 | none=>simp only [List.length_nil,Nat.add_zero] at hx;simp [guard,hx]
 | some hv hs hd=>?_
 have h0:=h.head;have h1:=h.i1;have h2:=h.i2;have h3 : af t (p + 1 + 1 + 1) = _:=h.tail.tail.tail.head;unfold guard;rw [h0,h1];rw [show p + 2 = p + 1 + 1 by rfl,show p + 3 = p + 1 + 1 + 1 by rfl,h2,h3];simp [hv,hs,hd,bm]
def Jz (n : Nat) (c : Int) : Prop:=c = 46 \/ c = 122 \/ (97 <= c /\ c <= 100) \/ (65 <= c /\ c < 65 + (n : Int))
def Mt (n : Nat) (c : Int) : Prop:=c = 45 \/ (65 <= c /\ c < 65 + (n : Int))
inductive D8 (n : Nat) : List Int -> Prop
 | tr {tg ta : Int} {g a : List Int} : Jz n tg -> H7 g -> dX a -> Mt n ta -> D8 n ([58,tg] ++ (g ++ (a ++ [62,ta])))
 | bl {b : Int} {a : List Int} : (b = 94 \/ b = 36) -> dX a -> D8 n ([b] ++ (a ++ [59]))
inductive mC (n : Nat) : List Int -> Prop
 | nil : mC n []
 | cons {i s : List Int} : D8 n i -> mC n s -> mC n (i ++ s)
theorem mC.snoc {n : Nat} {s a : List Int} (h : mC n s) (ha : D8 n a) : mC n (s ++ a):=by
 induction h with
 | nil=>have:=mC.cons ha .nil;simpa using this
 | cons hb _ ih=>rw [List.append_assoc];exact .cons hb ih
structure nt (n : Nat) (r : Rs) : Prop where
 bH : ∀ x ∈ r.bH,Jz n x.kG
 uses : ∀ u ∈ r.uses,65 <= u.name /\ u.name < 65 + (n : Int)
theorem q8 {n : Nat} {c : Int} {p : Nat} {us : List Us} (h : ∀ u ∈ us,65 <= u.name /\ u.name < 65 + (n : Int)) (hc : cm c = true -> 65 <= c /\ c < 65 + (n : Int)) :
 ∀ u ∈ bw c p us,65 <= u.name /\ u.name < 65 + (n : Int):=by
 unfold bw
 split
 ·rename_i q
  intro u hu
  rcases List.mem_append.1 hu with x | x
  ·exact h u x
  simp at x;subst x;exact hc q
 exact h
theorem Mu {n : Nat} (hn : n <= 16) {c : Int} (h : Jz n c) : iz c = true /\ (cm c = true -> 65 <= c /\ c < 65 + (n : Int)):=by
 unfold Jz at h
 rcases h with rfl | rfl | ⟨h1,h2⟩ | ⟨h1,h2⟩
 ·simp [iz,cm]
 ·simp [iz,cm,bN]
 ·refine ⟨?_,fun q=>?_⟩
  ·simp [iz,bN];omega
  simp [cm] at q;omega
 refine ⟨?_,fun _=>⟨h1,h2⟩⟩;simp [iz,cm];omega
theorem Mv {n : Nat} (hn : n <= 16) {c : Int} (h : Mt n c) : iG c = true /\ (cm c = true -> 65 <= c /\ c < 65 + (n : Int)):=by
 unfold Mt at h
 rcases h with rfl | ⟨h1,h2⟩
 ·simp [iG,cm]
 refine ⟨?_,fun _=>⟨h1,h2⟩⟩;simp [iG,cm];omega
theorem zt {n : Nat} (hn : n <= 16) {tg ta : Int} {g a : List Int} (h1 : Jz n tg) (h2 : H7 g) (h3 : dX a) (h4 : Mt n ta) (self : Int) {r : Rs} (h : Has t r.pos ([58,tg] ++ (g ++ (a ++ [62,ta])))) (hi : nt n r) :
 (transition t self r).1 = true /\ (transition t self r).2.pos = r.pos + ([58,tg] ++ (g ++ (a ++ [62,ta]))).length /\ (transition t self r).2.ag = r.ag /\ nt n (transition t self r).2:=by
 have e1 : af t (r.pos + 1) = tg:=Has.i1 h;have hg : Has t (r.pos + 1 + 1) (g ++ (a ++ [62,ta])):=Has.right (a:=[58,tg]) h;have ha : Has t (r.pos + 1 + 1 + g.length) (a ++ [62,ta]):=hg.right
 have ha' : Has t (r.pos + 1 + 1 + g.length) (a ++ [62]):=by
  have : a ++ [62,ta] = (a ++ [62]) ++ [ta]:=by simp
  rw [this] at ha;exact ha.left
 have hgd:=zr h2 hg.left (Cp h3 ha');have hac:=ug (Or.inr rfl) h3 ha';have oE : af t (r.pos + 1 + 1 + g.length + a.length + 1) = ta:=Has.i1 ha.right;obtain ⟨k1,k2⟩:=Mu hn h1;obtain ⟨k3,k4⟩:=Mv hn h4;unfold transition;rw [e1,k1,hgd.1,hgd.2,hac.1,hac.2,oE,k3];simp only [if_true];refine ⟨trivial,?_,trivial,?_,?_⟩
 ·simp [bm];omega
 ·intro x hx
  rcases List.mem_append.1 hx with y | y
  ·exact hi.bH x y
  simp at y;subst y;exact h1
 exact q8 (q8 hi.uses k2) k4
theorem zu {n : Nat} {b : Int} {a : List Int} (h3 : dX a) (self : Int) {r : Rs} (h : Has t r.pos ([b] ++ (a ++ [59]))) (hi : nt n r) :
 (block t self r).1 = true /\ (block t self r).2.pos = r.pos + ([b] ++ (a ++ [59])).length /\ (block t self r).2.ag = r.ag /\ nt n (block t self r).2:=by
 have hac:=ug (Or.inl rfl) h3 (Has.right (a:=[b]) h);simp only [List.length_cons,List.length_nil,Nat.zero_add] at hac;unfold block;rw [hac.1,hac.2];simp only [if_true];refine ⟨trivial,?_,trivial,hi.bH,hi.uses⟩;simp;omega
theorem H8 {n : Nat} (hn : n <= 16) {i : List Int} (hit : D8 n i) (self cl : Int) (m : Nat) {r : Rs} (h : Has t r.pos i) (hi : nt n r) :
 ∃ r',ai t (m + 1) self cl r = ai t m self cl r' /\ r'.pos = r.pos + i.length /\ 1 <= i.length /\ r'.ag = r.ag /\ nt n r':=by
 cases hit with
 | tr h1 h2 h3 h4 =>
   have e0 : af t r.pos = 58:=Has.head h;obtain ⟨q1,q2,q3,q4⟩:=zt hn h1 h2 h3 h4 self h hi;refine ⟨(transition t self r).2,?_,q2,by simp,q3,q4⟩;simp only [ai,e0,q1];simp [isOpen]
 | @bl b a hb h3=>?_
 have e0 : af t r.pos = b:=Has.head h;obtain ⟨q1,q2,q3,q4⟩:=zu h3 self h hi;refine ⟨(block t self r).2,?_,q2,by simp,q3,q4⟩;simp only [ai,e0,q1]
 rcases hb with rfl | rfl <;> simp [isOpen]
theorem wW {n : Nat} (hn : n <= 16) {s : List Int} (hs : mC n s) (self cl : Int) : ∀ (m : Nat) (r : Rs),Has t r.pos s -> t.size + 1 <= m + r.pos -> nt n r ->
 ∃ m' r',ai t m self cl r = ai t m' self cl r' /\ r'.pos = r.pos + s.length /\ t.size + 1 <= m' + r'.pos /\ r'.ag = r.ag /\ nt n r':=by
 induction hs with
 | nil=>intro m r _ hm hi;exact ⟨m,r,rfl,rfl,hm,rfl,hi⟩
 | @cons i s hit _ ih=>?_
 intro m r h hm hi;have hle:=h.left.le
 obtain ⟨m,rfl⟩ : ∃ k,m = k + 1:=⟨m - 1,by omega⟩
 obtain ⟨r1,e1,p1,l1,s1,i1⟩:=H8 hn hit self cl m h.left hi;have h2:=h.right;rw [<- p1] at h2;obtain ⟨m',r',e2,p2,f2,s2,i2⟩:=ih m r1 h2 (by omega) i1;exact ⟨m',r',e1.trans e2,by rw [p2,p1];simp;omega,f2,s2.trans s1,i2⟩
end
structure zv (P : List (Int × Int)) : Prop where
 len : P.length <= 16
 root : ∃ k : Int,P[0]? = some (k,-1) /\ (k = 2 \/ k = 3)
 kind : ∀ (j : Nat) (q p : Int),P[j]? = some (q,p) -> 1 <= q /\ q <= 5
 par : ∀ (j : Nat) (q p : Int),P[j]? = some (q,p) -> j = 0 \/ ∃ i : Nat,p = (i : Int) /\ i < j /\ ∃ kd pp : Int,P[i]? = some (kd,pp) /\ (kd = 2 \/ kd = 3) /\ (q = 4 \/ q = 5 -> kd = 2)
 kid : ∀ (i : Nat) (k p : Int),P[i]? = some (k,p) -> (k = 2 \/ k = 3) -> ∃ (j : Nat) (q : Int),P[j]? = some (q,(i : Int)) /\ q ≠ 5
inductive Wr (P : List (Int × Int)) : Option Nat -> Nat -> Nat -> List Int -> Prop
 | fin {i : Nat} {p : Int} : P[i]? = some (4,p) -> Wr P none i (i + 1) [60,65 + (i : Int),62]
 | his {i : Nat} {p : Int} : P[i]? = some (5,p) -> Wr P none i (i + 1) [42,65 + (i : Int)]
 | box {i e : Nat} {k p : Int} {a ks b : List Int} : P[i]? = some (k,p) -> (k = 1 \/ k = 2 \/ k = 3) -> mC P.length a -> mC P.length b -> Wr P (some i) (i + 1) e ks ->
  Wr P none i e ([if k = 3 then 91 else 40,65 + (i : Int)] ++ (a ++ (ks ++ (b ++ [if k = 3 then 93 else 41]))))
 | nil {i j : Nat} : Wr P (some i) j j []
 | cons {i j e f : Nat} {q : Int} {s ss : List Int} : P[j]? = some (q,(i : Int)) -> Wr P none j e s -> Wr P (some i) e f ss -> Wr P (some i) j f (s ++ ss)
structure nu (P : List (Int × Int)) (ss : List St) : Prop where
 len : ss.length <= P.length
 at_ : ∀ (k : Nat) s,ss[k]? = some s -> ∃ kd p,P[k]? = some (kd,p) /\ s.name = 65 + (k : Int) /\ s.parent = p /\ (s.kind = kd \/ (kd = 2 /\ s.kind = 1 /\ ∀ (j : Nat) (q : Int),j < ss.length -> P[j]? ≠ some (q,(k : Int))))
def opn (k : Int) : Int:=if k = 3 then 91 else if k = 4 then 60 else if k = 5 then 42 else 40
theorem zw {k : Int} (h1 : 1 <= k) (h2 : k <= 5) : kindOf (opn k) = if k = 2 then 1 else k:=by
 have : k = 1 \/ k = 2 \/ k = 3 \/ k = 4 \/ k = 5:=by omega
 rcases this with rfl | rfl | rfl | rfl | rfl <;> rfl
theorem nu.more {P : List (Int × Int)} (hP : zv P) {ss : List St} (h : nu P ss) {k parent : Int} (hk : P[ss.length]? = some (k,parent)) (pos : Int) :
 nu P (aK parent (ss ++ [⟨65 + (ss.length : Int),pos,kindOf (opn k),parent⟩])):=by
 have hlt:=(List.getElem?_eq_some_iff.1 hk).1;have hkk:=hP.kind _ _ _ hk
 have hlast : ∀ (j : Nat) (q : Int),j < ss.length + 1 -> P[j]? ≠ some (q,(ss.length : Int)):=by
  intro j q hj e
  rcases hP.par _ _ _ e with rfl | ⟨i,e2,e3,_⟩
  ·obtain ⟨k0,e0,_⟩:=hP.root
   rw [e0] at e;simp at e
  omega
 refine ⟨by rw [bU];simp;omega,?_⟩;rw [bU];simp only [List.length_append,List.length_cons,List.length_nil,Nat.zero_add]
 -- ahead of the mark
 have hpre : ∀ (c : Nat) s,(ss ++ [⟨65 + (ss.length : Int),pos,kindOf (opn k),parent⟩])[c]? = some s -> ∃ kd p,P[c]? = some (kd,p) /\ s.name = 65 + (c : Int) /\ s.parent = p /\
  (s.kind = kd \/ (kd = 2 /\ s.kind = 1 /\ ∀ (j : Nat) (q : Int),j < ss.length + 1 -> (c : Int) = parent \/ P[j]? ≠ some (q,(c : Int)))):=by
  intro c s hc
  by_cases hcl : c < ss.length
  ·rw [List.getElem?_append_left hcl] at hc
   obtain ⟨kd,p,e1,e2,e3,e4⟩:=h.at_ c s hc;refine ⟨kd,p,e1,e2,e3,?_⟩
   rcases e4 with e4 | ⟨e4,e5,e6⟩
   ·exact Or.inl e4
   refine Or.inr ⟨e4,e5,fun j q hj=>?_⟩
   by_cases hjl : j < ss.length
   ·exact Or.inr (e6 j q hjl)
   have : j = ss.length:=by omega
   subst this
   by_cases hcp : (c : Int) = parent
   ·exact Or.inl hcp
   refine Or.inr fun e=>?_
   rw [hk] at e;simp at e;omega
  have hc2:=(List.getElem?_eq_some_iff.1 hc).1;simp only [List.length_append,List.length_cons,List.length_nil] at hc2
  have : c = ss.length:=by omega
  subst this;simp at hc;subst hc;refine ⟨k,parent,hk,rfl,rfl,?_⟩;simp only [zw hkk.1 hkk.2]
  by_cases q2 : k = 2
  ·subst q2
   exact Or.inr ⟨rfl,rfl,fun j q hj=>Or.inr (hlast j q hj)⟩
  left;simp [q2]
 generalize hL : ss ++ [(⟨65 + (ss.length : Int),pos,kindOf (opn k),parent⟩ : St)] = L at *;unfold aK
 cases parent with
 | negSucc x =>
   intro c s hc;obtain ⟨kd,p,e1,e2,e3,e4⟩:=hpre c s hc;refine ⟨kd,p,e1,e2,e3,?_⟩
   rcases e4 with e4 | ⟨e4,e5,e6⟩
   ·exact Or.inl e4
   exact Or.inr ⟨e4,e5,fun j q hj=>(e6 j q hj).resolve_left (by omega)⟩
 | ofNat x=>?_
 simp only
 -- the parent is of kind 2 or 3
 have hpk : ∀ kd pp,P[x]? = some (kd,pp) -> kd = 2 \/ kd = 3:=by
  intro kd pp e
  rcases hP.par _ _ _ hk with e0 | ⟨i,e2,e3,kd',VL,e4,e5,_⟩
  ·obtain ⟨k0,e1,_⟩:=hP.root
   rw [e0] at hk;rw [e1] at hk;simp at hk
  have : i = x:=by have : (i : Int) = (x : Int):=e2.symm;omega
  subst this;rw [e4] at e;simp at e;obtain ⟨rfl,rfl⟩:=e;exact e5
 split
 ·rename_i s0 hs0
  obtain ⟨TI,p0,f1,f2,f3,f4⟩:=hpre x s0 hs0
  split
  ·rename_i q1
   have q1' : s0.kind = 1:=by simpa using q1
   intro c s hc
   by_cases hcx : x = c
   ·subst hcx
    have hxl:=(List.getElem?_eq_some_iff.1 hs0).1;rw [List.getElem?_set_self hxl] at hc;simp at hc;subst hc;refine ⟨TI,p0,f1,f2,f3,?_⟩
    left
    have:=hpk _ _ f1
    rcases f4 with f4 | ⟨f4,_⟩
    ·rw [q1'] at f4;omega
    simp only;omega
   rw [List.getElem?_set_ne hcx] at hc;obtain ⟨kd,p,e1,e2,e3,e4⟩:=hpre c s hc;refine ⟨kd,p,e1,e2,e3,?_⟩
   rcases e4 with e4 | ⟨e4,e5,e6⟩
   ·exact Or.inl e4
   exact Or.inr ⟨e4,e5,fun j q hj=>(e6 j q hj).resolve_left (by intro e;have : (c : Int) = (x : Int):=e;omega)⟩
  rename_i q1
  have q1' : s0.kind ≠ 1:=by simpa using q1
  intro c s hc;obtain ⟨kd,p,e1,e2,e3,e4⟩:=hpre c s hc;refine ⟨kd,p,e1,e2,e3,?_⟩
  rcases e4 with e4 | ⟨e4,e5,e6⟩
  ·exact Or.inl e4
  refine Or.inr ⟨e4,e5,fun j q hj=>(e6 j q hj).resolve_left (by
   intro e
   have : c = x:=by have : (c : Int) = (x : Int):=e;omega
   subst this
   rw [hs0] at hc;simp at hc;subst hc;exact q1' e5)⟩
 rename_i hs0;intro c s hc;obtain ⟨kd,p,e1,e2,e3,e4⟩:=hpre c s hc;refine ⟨kd,p,e1,e2,e3,?_⟩
 rcases e4 with e4 | ⟨e4,e5,e6⟩
 ·exact Or.inl e4
 refine Or.inr ⟨e4,e5,fun j q hj=>(e6 j q hj).resolve_left (by
  intro e
  have : c = x:=by have : (c : Int) = (x : Int):=e;omega
  subst this
  rw [hs0] at hc;simp at hc)⟩
theorem H_ {P : List (Int × Int)} (hP : zv P) {o : Option Nat} {i e : Nat} {s : List Int} (h : Wr P o i e s) :
 match o with
 | none=>∀ (t : ByteArray) (r : Rs) (m : Nat) (k parent : Int),P[i]? = some (k,parent) -> Has t r.pos s -> t.size <= m + r.pos -> r.ag.length = i -> nu P r.ag -> nt P.length r ->
  (aE t (ai t m) parent r).1 = true /\ (aE t (ai t m) parent r).2.pos = r.pos + s.length /\ 1 <= s.length /\ af t r.pos = opn k /\ (aE t (ai t m) parent r).2.ag.length = e /\ nu P (aE t (ai t m) parent r).2.ag /\ nt P.length (aE t (ai t m) parent r).2
 | some x=>∀ (t : ByteArray) (r : Rs) (m : Nat) (cl : Int),Has t r.pos s -> t.size + 1 <= m + r.pos -> r.ag.length = i -> nu P r.ag -> nt P.length r ->
  ∃ m' r',ai t m x cl r = ai t m' x cl r' /\ r'.pos = r.pos + s.length /\ t.size + 1 <= m' + r'.pos /\ r'.ag.length = e /\ nu P r'.ag /\ nt P.length r':=by
 have hsn : ∀ (t : ByteArray) (r : Rs) (i : Nat) (k parent : Int),P[i]? = some (k,parent) -> af t (r.pos + 1) = 65 + (i : Int) -> r.ag.length = i ->
  az t (opn k) parent { r with pos:=r.pos + 1 } = (true,{ r with pos:=r.pos + 1 + 1,ag:=aK parent (r.ag ++ [⟨65 + (i : Int),((r.pos + 1 : Nat) : Int),kindOf (opn k),parent⟩]) }):=by
  intro t r i k parent hk h1 hl;have hlt:=(List.getElem?_eq_some_iff.1 hk).1;have:=hP.len
  have hnm : cm (65 + (i : Int)) = true:=by simp [cm];omega
  unfold az;simp only [h1,hnm,if_true]
 induction h with
 | @fin i p hk =>
   intro t r m k parent hk' hh hm hl hs hi;rw [hk] at hk';simp at hk';obtain ⟨rfl,rfl⟩:=hk';have h0 : af t r.pos = opn 4:=hh.head;have h1 : af t (r.pos + 1) = 65 + (i : Int):=hh.i1;have h2 : af t (r.pos + 1 + 1) = 62:=hh.i2;have e:=hsn t r i 4 p hk h1 hl;have hmo:=hs.more hP (by rw [hl];exact hk) ((r.pos + 1 : Nat) : Int);rw [hl] at hmo
   have es : aE t (ai t m) p r = (true,{ r with pos:=r.pos + 1 + 1 + 1,ag:=aK p (r.ag ++ [⟨65 + (i : Int),((r.pos + 1 : Nat) : Int),kindOf (opn 4),p⟩]) }):=by
    unfold aE;rw [h0,e];simp only [h2];simp [opn,bm]
   rw [es];refine ⟨rfl,?_,by simp,h0,?_,hmo,⟨hi.bH,hi.uses⟩⟩
   ·simp
   simp [bU,hl]
 | @his i p hk =>
   intro t r m k parent hk' hh hm hl hs hi;rw [hk] at hk';simp at hk';obtain ⟨rfl,rfl⟩:=hk';have h0 : af t r.pos = opn 5:=hh.head;have h1 : af t (r.pos + 1) = 65 + (i : Int):=hh.i1;have e:=hsn t r i 5 p hk h1 hl;have hmo:=hs.more hP (by rw [hl];exact hk) ((r.pos + 1 : Nat) : Int);rw [hl] at hmo
   have es : aE t (ai t m) p r = (true,{ r with pos:=r.pos + 1 + 1,ag:=aK p (r.ag ++ [⟨65 + (i : Int),((r.pos + 1 : Nat) : Int),kindOf (opn 5),p⟩]) }):=by
    unfold aE;rw [h0,e];simp [opn]
   rw [es];refine ⟨rfl,?_,by simp,h0,?_,hmo,⟨hi.bH,hi.uses⟩⟩
   ·simp
   simp [bU,hl]
 | @box i e k p a ks b hk hk3 ha hb _ ih =>
   intro t r m k' parent hk' hh hm hl hs hi;rw [hk] at hk';simp at hk';obtain ⟨rfl,rfl⟩:=hk';have h0 : af t r.pos = opn k:=(hh.head).trans (by rcases hk3 with rfl | rfl | rfl <;> rfl);have h1 : af t (r.pos + 1) = 65 + (i : Int):=hh.i1;have TJ:=hsn t r i k p hk h1 hl;have hmo:=hs.more hP (by rw [hl];exact hk) ((r.pos + 1 : Nat) : Int);rw [hl] at hmo;have hA : Has t (r.pos + 1 + 1) (a ++ (ks ++ (b ++ [if k = 3 then 93 else 41]))):=hh.tail.tail;generalize hr1 : ({ r with pos:=r.pos + 1 + 1,ag:=aK p (r.ag ++ [⟨65 + (i : Int),((r.pos + 1 : Nat) : Int),kindOf (opn k),p⟩]) } : Rs) = r1 at *
   have p1 : r1.pos = r.pos + 1 + 1:=by rw [<- hr1]
   have s1 : r1.ag.length = i + 1:=by rw [<- hr1];simp [bU,hl]
   have o1 : nu P r1.ag:=by rw [<- hr1];exact hmo
   have i1 : nt P.length r1:=by rw [<- hr1];exact ⟨hi.bH,hi.uses⟩
   clear hr1 hmo
   have main : ∀ cl : Int,cl = (if k = 3 then 93 else 41) -> (ai t m i cl r1).1 = true /\ (ai t m i cl r1).2.pos = r.pos + ([if k = 3 then 91 else 40,65 + (i : Int)] ++ (a ++ (ks ++ (b ++ [if k = 3 then 93 else 41])))).length /\ (ai t m i cl r1).2.ag.length = e /\ nu P (ai t m i cl r1).2.ag /\ nt P.length (ai t m i cl r1).2:=by
    intro cl hcl;rw [<- hcl] at hA ⊢;rw [<- p1] at hA;obtain ⟨m2,r2,e2,p2,f2,s2,i2⟩:=wW hP.len ha i cl m r1 hA.left (by omega) i1;have hB:=hA.right;rw [<- p2] at hB;obtain ⟨m3,r3,e3,p3,f3,s3,o3,i3⟩:=ih t r2 m2 cl hB.left f2 (by rw [s2];exact s1) (by rw [s2];exact o1) i2;have hC:=hB.right;rw [<- p3] at hC;obtain ⟨m4,r4,e4,p4,f4,s4,i4⟩:=wW hP.len hb i cl m3 r3 hC.left f3 i3;have hD:=hC.right;rw [<- p4] at hD;have hc4 : af t r4.pos = cl:=hD.head;have hle:=hD.le
    obtain ⟨m5,rfl⟩ : ∃ x,m4 = x + 1:=⟨m4 - 1,by simp at hle;omega⟩
    rw [e2,e3,e4]
    have : ai t (m5 + 1) i cl r4 = (true,{ r4 with pos:=r4.pos + 1 }):=by
     simp only [ai,hc4]
     by_cases q : k = 3
     ·rw [if_pos q] at hcl;subst hcl;simp [isOpen,bm]
     rw [if_neg q] at hcl;subst hcl;simp [isOpen,bm]
    rw [this];refine ⟨rfl,?_,?_,?_,?_⟩
    ·simp only [List.length_append,List.length_cons,List.length_nil];omega
    ·simp only;rw [s4];exact s3
    ·simp only;rw [s4];exact o3
    exact ⟨i4.bH,i4.uses⟩
   have hg : aE t (ai t m) p r = ai t m i (if k = 3 then 93 else 41) r1:=by
    unfold aE;rw [h0,TJ]
    rcases hk3 with rfl | rfl | rfl <;> simp [opn,hl]
   rw [hg];obtain ⟨m1,m2,m3,m4,m5⟩:=main _ rfl;exact ⟨m1,m2,by simp,h0,m3,m4,m5⟩
 | nil =>
   intro t r m cl _ hm hl hs hi;exact ⟨m,r,rfl,rfl,hm,hl,hs,hi⟩
 | @cons i j e f q s ss hk _ _ ih1 ih2=>?_
 intro t r m cl hh hm hl hs hi;have hle:=hh.left.le
 obtain ⟨m,rfl⟩ : ∃ x,m = x + 1:=⟨m - 1,by omega⟩
 obtain ⟨a1,a2,a3,a4,a5,a6,a7⟩:=ih1 t r m q i hk hh.left (by omega) hl hs hi;have hB:=hh.right;rw [<- a2] at hB;obtain ⟨m',r',e2,p2,f2,s2,o2,i2⟩:=ih2 t (aE t (ai t m) i r).2 m cl hB (by omega) a5 a6 a7;refine ⟨m',r',Eq.trans ?_ e2,by rw [p2,a2];simp;omega,f2,s2,o2,i2⟩;have hqq:=hP.kind _ _ _ hk
 have hop : isOpen (af t r.pos) = true:=by
  rw [a4]
  have : q = 1 \/ q = 2 \/ q = 3 \/ q = 4 \/ q = 5:=by omega
  rcases this with rfl | rfl | rfl | rfl | rfl <;> rfl
 simp only [ai,hop,a1,if_true]
theorem Cq : ∀ (l : List St) (k : Nat),(∀ (j : Nat) s,l[j]? = some s -> s.name = 65 + ((k + j : Nat) : Int)) -> ∀ j,j < l.length -> gE (65 + ((k + j : Nat) : Int)) l k = ((k + j : Nat) : Int):=by
 intro l
 induction l with
 | nil=>intro k _ j hj;simp at hj
 | cons a l ih=>?_
 intro k h j hj;have h0:=h 0 a rfl
 cases j with
 | zero=>simp [gE,h0]
 | succ j=>?_
 have:=ih (k + 1) (fun j s hs=>by rw [h (j + 1) s (by simpa using hs)];congr 2;omega) j (by simpa using hj);unfold gE;rw [h0,if_neg (by simp;omega)];rw [show k + (j + 1) = k + 1 + j by omega];exact this
theorem kV {p : Nat -> St -> Bool} : ∀ (l : List St) (k : Nat),(∀ (j : Nat) s,l[j]? = some s -> p (k + j) s = false) -> cI p l k = -2:=by
 intro l
 induction l with
 | nil=>intro k _;rfl
 | cons a l ih=>?_
 intro k h;have h0 : p k a = false:=h 0 a rfl;unfold cI;rw [h0];simp only [Bool.false_eq_true,if_false];exact ih (k + 1) (fun j s hs=>by have:=h (j + 1) s (by simpa using hs);rwa [show k + (j + 1) = k + 1 + j by omega] at this)
theorem oF {ss : List St} {parent : Int} {j : Nat} (h : aw ss j parent = true) : ∀ (f k : Nat),k <= j -> j < k + f -> bQ ss parent f k ≠ -2:=by
 intro f
 induction f with
 | zero=>intro k h1 h2;omega
 | succ f ih=>?_
 intro k h1 h2;unfold bQ
 split
 ·omega
 rename_i q
 have : k ≠ j:=by intro e;subst e;exact q h
 exact ih (k + 1) (by omega) (by omega)
structure Mw (P : List (Int × Int)) (ol : Ol) : Prop where
 len : ol.ag.length = P.length
 at_ : ∀ (k : Nat) s,ol.ag[k]? = some s -> P[k]? = some (s.kind,s.parent) /\ s.name = 65 + (k : Int)
 bH : ∀ x ∈ ol.bH,Jz P.length x.kG
theorem zx {P : List (Int × Int)} (hP : zv P) {t : ByteArray} {s : List Int} (h : Wr P none 0 P.length s) (hh : Has t 0 s) (hsz : s.length = t.size) (TK : t.size <= 240) :
 (chart t).1 = true /\ ∃ ol,read t = (0,0,ol) /\ Mw P ol:=by
 obtain ⟨k,hk,PN⟩:=hP.root;have hr:=H_ hP h t r0 (t.size + 1) k (-1) hk hh (by omega) rfl ⟨by simp [r0],by intro j s hj;simp [r0] at hj⟩ ⟨by simp [r0],by simp [r0]⟩;obtain ⟨a1,a2,a3,a4,a5,a6,a7⟩:=hr
 have hop : (af t 0 == 40 || af t 0 == 91) = true:=by
  have : af t 0 = opn k:=a4
  rw [this];rcases PN with rfl | rfl <;> rfl
 have hc : chart t = (true,(aE t (ai t (t.size + 1)) (-1) r0).2):=by
  unfold chart;rw [hop,a1,a2];simp [r0,hsz]
 generalize (aE t (ai t (t.size + 1)) (-1) r0).2 = r at *
 have hat : ∀ (k : Nat) s,r.ag[k]? = some s -> P[k]? = some (s.kind,s.parent) /\ s.name = 65 + (k : Int):=by
  intro k s hs;obtain ⟨kd,p,e1,e2,e3,e4⟩:=a6.at_ k s hs;refine ⟨?_,e2⟩;rw [e1,e3]
  rcases e4 with e4 | ⟨e4,e5,e6⟩
  ·rw [e4]
  obtain ⟨j,q,g1,g2⟩:=hP.kid k kd p e1 (Or.inl e4);exact absurd g1 (e6 j q (by rw [a5];exact (List.getElem?_eq_some_iff.1 g1).1))
 have hst : ∀ (i : Nat),i < P.length -> ∃ s,r.ag[i]? = some s:=fun i hi=>⟨_,List.getElem?_eq_getElem (by rw [a5];exact hi)⟩
 have hpl : ∀ j,j < P.length -> place r.ag (65 + (j : Int)) = (j : Int):=by
  intro j hj;have:=Cq r.ag 0 (fun j s hs=>by rw [(hat j s hs).2];simp) j (by rw [a5];exact hj);simpa [place] using this
 have hj : judge r.ag r.uses = (0,0):=by
  have h1 : dH r.ag = -2:=kV _ _ (fun j s hs=>by
   have hl:=(List.getElem?_eq_some_iff.1 hs).1;rw [a5] at hl;rw [(hat j s hs).2,hpl j hl]
   simp)
  have h2 : fE r.ag = -2:=kV _ _ (fun j s hs=>by
   rw [Nat.zero_add];obtain ⟨g1,g2⟩:=hat j s hs;unfold gy;rw [ch,hs];simp only
   split
   ·rename_i q
    have q' : s.kind = 4 \/ s.kind = 5:=by simp at q;omega
    rcases hP.par _ _ _ g1 with e0 | ⟨i,e1,e2,kd,pp,e3,e4,e5⟩
    ·obtain ⟨k0,f1,f2⟩:=hP.root
     rw [e0,f1] at g1;simp at g1;omega
    obtain ⟨s',hs'⟩:=hst i (List.getElem?_eq_some_iff.1 e3).1;have g3:=(hat i s' hs').1;rw [e3] at g3;simp at g3;rw [e1];unfold ay;rw [ch,hs'];simp only;rw [<- g3.1,e5 q'];rfl
   split
   ·rename_i q
    have q' : s.kind = 2 \/ s.kind = 3:=by simp at q;omega
    obtain ⟨c,kc,e1,e2⟩:=hP.kid j _ _ g1 q';obtain ⟨s',hs'⟩:=hst c (List.getElem?_eq_some_iff.1 e1).1;have g3:=(hat c s' hs').1;rw [e1] at g3;simp at g3
    have hch : aw r.ag c j = true:=by
     unfold aw;rw [ch,hs'];simp only [<- g3.1,<- g3.2];simpa using e2
    have:=oF hch r.ag.length 0 (Nat.zero_le _) (by have:=(List.getElem?_eq_some_iff.1 hs').1;omega);simpa [b9] using this
   rfl)
  have h3 : bL r.ag r.uses = -2:=by
   have hu:=a7.uses;generalize r.uses = us at hu
   induction us with
   | nil=>rfl
   | cons u us ih=>?_
   unfold bL;have hu0:=hu u (by simp)
   obtain ⟨j,hj⟩ : ∃ j : Nat,u.name = 65 + (j : Int):=⟨(u.name - 65).toNat,by omega⟩
   rw [hj,hpl j (by omega),if_neg (by simp)];exact ih (fun x hx=>hu x (by simp [hx]))
  unfold judge;rw [h1,h2,h3,if_neg (by rw [a5];have:=hP.len;omega)];rfl
 refine ⟨by rw [hc],⟨r.ag,r.bH,r.cM⟩,?_,a5,hat,a7.bH⟩;unfold read;rw [if_neg (by omega),hc];simp [hj]
theorem Kd (L : List Int) (k : Nat) (h : k < (strOfNums L).size) (h2 : k < L.length) : (strOfNums L)[k] = UInt8.ofNat (L[k]).toNat:=by
 show (strOfNums L).data[k]'h = _;simp [strOfNums]
theorem Ia {L : List Int} (h : ∀ x ∈ L,0 <= x /\ x < 256) : Has (strOfNums L) 0 L where
 le:=by rw [strOfNums_size];omega
 at_:=fun k b hk=>by
  obtain ⟨hlt,e⟩:=List.getElem?_eq_some_iff.1 hk;rw [Nat.zero_add];unfold af;rw [dif_pos (by rw [strOfNums_size];exact hlt),Kd L k _ hlt];have:=h b (List.mem_of_getElem? hk);rw [e,UInt8.toNat_ofNat'];omega
end Ch
theorem pA {α : Type} (l : List α) (i : Nat) (a : α) : l.toArray.setIfInBounds i a = (l.set i a).toArray:=List.setIfInBounds_toArray ..
theorem pB {α : Type} (x : α) (l : List α) (i : Nat) (a : α) : (x :: l).set (i + 1) a = x :: l.set i a:=rfl
theorem pC {α : Type} (x : α) (l : List α) (a : α) : (x :: l).set 0 a = a :: l:=rfl
section
variable {P : Program} {Q : Exit -> Act -> World -> Prop} {S : World -> Prop}
theorem aB (S : World -> Prop) {id : Nat} {l : List Oper} {a : Act} {w : World} (hm : P.follows .mixedOrders = true)
 (h : wpAnyH P .any l.toArray (NoPanic Q) S l.length (Array.replicate l.length false) a w.drew) : (Code.region id l.toArray true).wp P Q a w :=
 wp_region_noPanic (wp_region_held (S:=S) hm (by simpa using h))
theorem Ib {ops : Array Oper} (i d : Nat) {oi : Oper} (v : Value) {fuel : Nat} {listed : Array Bool} {a : Act} {w : World} (hi : ops[i]? = some oi) (hs : Region.noSelect ops = true)
 (hf : Region.free .any ops listed i = true) (hr : (Region.ready .any ops listed).contains i = true) (hg : oi.guard = none) (hd : oi.dst = some d) (hv : ∀ w',S w' -> (execOp a.eval oi).run P w' = .ok (.value v) w') (hS : S w)
 (h : wpAnyH P .any ops (NoPanic Q) S fuel (listed.setIfInBounds i true) (a.put (some d) v) w) : wpAnyH P .any ops (NoPanic Q) S (fuel + 1) listed a w :=
 wpAnyH_take hi hs hf hr (fun _ _ _ h=>h) (.inl ⟨by simp [Region.wanted,hg],hv⟩) hS (by rw [hd];exact h)
theorem tk {ops : Array Oper} (i d : Nat) {oi : Oper} (v : Value) {fuel : Nat} {listed : Array Bool} {a : Act} {w : World} (hi : ops[i]? = some oi) (hb : (Region.noSelect ops && Region.free .any ops listed i && (Region.ready .any ops listed).contains i) = true)
 (hg : oi.guard = none) (hd : oi.dst = some d) (hv : ∀ w',S w' -> (execOp a.eval oi).run P w' = .ok (.value v) w') (hS : S w)
 (h : wpAnyH P .any ops (NoPanic Q) S fuel (listed.setIfInBounds i true) (a.put (some d) v) w) : wpAnyH P .any ops (NoPanic Q) S (fuel + 1) listed a w:=by
 simp only [Bool.and_eq_true] at hb;exact Ib i d v hi hb.1.1 hb.1.2 hb.2 hg hd hv hS h
theorem mq {ops : Array Oper} (i : Nat) {oi : Oper} {fuel : Nat} {listed : Array Bool} {a : Act} {w : World} (hr : Region.ready .any ops listed = [i]) (hi : ops[i]? = some oi) (hg : oi.guard = none)
 (h : oi.wp P a w (fun a' w'=>S w' /\ wpAnyH P .any ops (NoPanic Q) S fuel (listed.setIfInBounds i true) a' w') (NoPanic Q)) : wpAnyH P .any ops (NoPanic Q) S (fuel + 1) listed a w :=
 wpAnyH_all hr (by simp) (fun j hj=>by
  simp at hj;subst hj
  have hw : Region.wanted oi (yielded ops a.tmps) = true:=by simp [Region.wanted,hg]
  simp only [wpOp,hi,hw,if_true]
  exact .inl h)
end
section
variable {P : Program} {o : Oper} {a : Act} {w : World} {K : Act -> World -> Prop} {Q : Exit -> Act -> World -> Prop}
theorem bD (d : Option Tmp) (hd : o.dst = d) (f : FuncId) (args : Array Value) (hrun : (execOp a.eval o).run P w = .ok (.enter f args) w) (v : Value) (R : World -> Prop)
 (hc : Calls P f args w fun e w'=>e = .returned v /\ R w') (h : ∀ w',R w' -> K (a.put d v) w') : o.wp P a w K Q:=by
 subst hd;unfold Oper.wp;rw [hrun,Oper.upon_enter]
 refine hc.mono fun e w' hh=>?_
 obtain ⟨rfl,hr⟩:=hh;exact h w' hr
theorem cP (d : Option Tmp) (hd : o.dst = d) (v : Value) (w' : World) (hrun : (execOp a.eval o).run P w = .ok (.value v) w') (h : K (a.put d v) w') : o.wp P a w K Q:=by
 subst hd;unfold Oper.wp;rw [hrun,Oper.upon_value];exact h
theorem iJ {S : World -> Prop} {ops : Array Oper} (i j : Nat) {oi oj : Oper} {fuel : Nat} {listed : Array Bool} (hr : Region.ready .any ops listed = [i,j]) (hi : ops[i]? = some oi) (hj : ops[j]? = some oj) (hgi : oi.guard = none) (hgj : oj.guard = none)
 (h1 : oi.wp P a w (fun a' w'=>S w' /\ wpAnyH P .any ops (NoPanic Q) S fuel (listed.setIfInBounds i true) a' w') (NoPanic Q))
 (h2 : oj.wp P a w (fun a' w'=>S w' /\ wpAnyH P .any ops (NoPanic Q) S fuel (listed.setIfInBounds j true) a' w') (NoPanic Q)) : wpAnyH P .any ops (NoPanic Q) S (fuel + 1) listed a w :=
 wpAnyH_all hr (by simp) (fun k hk=>by
  simp only [List.mem_cons,List.not_mem_nil,or_false] at hk
  rcases hk with rfl | rfl
  ·have hw : Region.wanted oi (yielded ops a.tmps) = true:=by simp [Region.wanted,hgi]
   simp only [wpOp,hi,hw,if_true];exact .inl h1
  have hw : Region.wanted oj (yielded ops a.tmps) = true:=by simp [Region.wanted,hgj]
  simp only [wpOp,hj,hw,if_true]
  exact .inl h2)
theorem cA (d : Option Tmp) (hd : o.dst = d) (f : FuncId) (args : Array Value) (hrun : (execOp a.eval o).run P w = .ok (.enter f args) w) (R : Value -> World -> Prop)
 (hc : Calls P f args w fun e w'=>∃ v,e = .returned v /\ R v w') (h : ∀ v w',R v w' -> K (a.put d v) w') : o.wp P a w K Q:=by
 subst hd;unfold Oper.wp;rw [hrun,Oper.upon_enter]
 refine hc.mono fun e w' hh=>?_
 obtain ⟨v,rfl,hr⟩:=hh;exact h v w' hr
end
section
variable {P:Program} {Q:Exit -> Act -> World -> Prop} {S:World -> Prop}
theorem tj {ops:Array Oper} (i d:Nat) {oi:Oper} (v:Value) {fuel:Nat} {listed:Array Bool} {a a':Act} {w:World} (hS:S w)
 (h:wpAnyH P .any ops (NoPanic Q) S fuel (listed.setIfInBounds i true) a' w) (hi:ops[i]? = some oi:=by exact rfl) (hb:(Region.noSelect ops && Region.free .any ops listed i && (Region.ready .any ops listed).contains i) = true:=by kernel_rfl)
 (hg:oi.guard = none:=by exact rfl) (hd:oi.dst = some d:=by exact rfl) (hv:∀ w',S w' -> (execOp a.eval oi).run P w' = .ok (.value v) w':=by intro w' _; simp [execOp,Act.eval,go_sem]) (ha:a.put (some d) v = a':=by (conv=>lhs; simp only [Act.put,pA,pB,pC]); all_goals exact rfl):wpAnyH P .any ops (NoPanic Q) S (fuel + 1) listed a w :=
 tk i d v hi hb hg hd hv hS (by rw [ha]; exact h)
theorem tl {ops:Array Oper} (i d:Nat) {oi:Oper} (v:Value) {fuel:Nat} {listed:Array Bool} {a a':Act} {w:World} (hi:ops[i]? = some oi)
 (hv:∀ w',S w' -> (execOp a.eval oi).run P w' = .ok (.value v) w') (hS:S w) (h:wpAnyH P .any ops (NoPanic Q) S fuel (listed.setIfInBounds i true) a' w) (hb:(Region.noSelect ops && Region.free .any ops listed i && (Region.ready .any ops listed).contains i) = true:=by kernel_rfl)
 (hg:oi.guard = none:=by exact rfl) (hd:oi.dst = some d:=by exact rfl) (ha:a.put (some d) v = a':=by (conv=>lhs; simp only [Act.put,pA,pB,pC]); all_goals exact rfl):wpAnyH P .any ops (NoPanic Q) S (fuel + 1) listed a w :=
 tk i d v hi hb hg hd hv hS (by rw [ha]; exact h)
theorem tm {ops:Array Oper} (i d:Nat) {oi:Oper} (v:Value) {fuel:Nat} {listed:Array Bool} {a:Act} {w:World} (hi:ops[i]? = some oi)
 (hv:∀ w',S w' -> (execOp a.eval oi).run P w' = .ok (.value v) w') (hS:S w) (h:wpAnyH P .any ops (NoPanic Q) S fuel (listed.setIfInBounds i true) (a.put (some d) v) w) (hb:(Region.noSelect ops && Region.free .any ops listed i && (Region.ready .any ops listed).contains i) = true:=by kernel_rfl)
 (hg:oi.guard = none:=by exact rfl) (hd:oi.dst = some d:=by exact rfl):wpAnyH P .any ops (NoPanic Q) S (fuel + 1) listed a w :=
 tk i d v hi hb hg hd hv hS h
theorem dO {ops:Array Oper} (i:Nat) {oi:Oper} {fuel:Nat} {listed:Array Bool} {a:Act} {w:World}
 (h:oi.wp P a w (fun a' w'=>S w' /\ wpAnyH P .any ops (NoPanic Q) S fuel (listed.setIfInBounds i true) a' w') (NoPanic Q)) (hr:Region.ready .any ops listed = [i]:=by kernel_rfl) (hi:ops[i]? = some oi:=by exact rfl) (hg:oi.guard = none:=by exact rfl):wpAnyH P .any ops (NoPanic Q) S (fuel + 1) listed a w :=
 mq i hr hi hg h
end
end Go.Proofs.YtnlbchmfcebeeaaGreat
