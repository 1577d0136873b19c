import Derived.Test.YtnlbchmfcebeeaaTX1
set_option maxHeartbeats 12800000
set_option maxRecDepth 100000
namespace Go.Proofs.Ytnlbchmfcebeeaa
namespace Ch
structure Has (t : ByteArray) (p : Nat) (s : List Int) : Prop where
 le : p + s.length ≤ t.size
 at_ : ∀ k b,s[k]? = some b → peek t (p + k) = b
section
variable {t : ByteArray} {p : Nat} {a b s : List Int} {x : Int}
theorem Has.left (h : Has t p (a ++ b)) : Has t p a :=
 ⟨by have:=h.le;simp at this;omega,fun k c hk=>h.at_ k c (by rw [List.getElem?_append_left (List.getElem?_eq_some_iff.1 hk).1];exact hk)⟩
theorem Has.right (h : Has t p (a ++ b)) : Has t (p + a.length) b :=
 ⟨by have:=h.le;simp at this;omega,fun k c hk=>by
  have:=h.at_ (a.length + k) c (by rw [List.getElem?_append_right (by omega)];simpa using hk)
  rwa [← Nat.add_assoc] at this⟩
theorem Has.head (h : Has t p (x :: s)) : peek t p = x:=h.at_ 0 x rfl
theorem Has.tail (h : Has t p (x :: s)) : Has t (p + 1) s:=Has.right (a:=[x]) h
theorem Has.i1 {y : Int} (h : Has t p (x :: y :: s)) : peek t (p + 1) = y:=h.tail.head
theorem Has.i2 {y z : Int} (h : Has t p (x :: y :: z :: s)) : peek t (p + 1 + 1) = z:=h.tail.tail.head
end
def AcT (l : List Int) : Prop:=(∃ s e : Int,(s = 33 ∨ s = 126 ∨ s = 35) ∧ isEv e = true ∧ l = [s,e]) ∨ (∃ e d : Int,isEv e = true ∧ isDg 49 d = true ∧ l = [64,e,d]) ∨ ∃ s v d : Int,(s = 43 ∨ s = 45 ∨ s = 61) ∧ isVr v = true ∧ isDg 48 d = true ∧ l = [s,v,d]
theorem AcT.ev {s e : Int} (h : s = 33 ∨ s = 126 ∨ s = 35) (he : isEv e = true) : AcT [s,e]:=.inl ⟨s,e,h,he,rfl⟩
theorem AcT.tm {e d : Int} (he : isEv e = true) (hd : isDg 49 d = true) : AcT [64,e,d]:=.inr (.inl ⟨e,d,he,hd,rfl⟩)
theorem AcT.vr {s v d : Int} (h : s = 43 ∨ s = 45 ∨ s = 61) (hv : isVr v = true) (hd : isDg 48 d = true) : AcT [s,v,d]:=.inr (.inr ⟨s,v,d,h,hv,hd,rfl⟩)
theorem AcT.ind {M : (l : List Int) → AcT l → Prop} (ev : ∀ {s e : Int} (h : s = 33 ∨ s = 126 ∨ s = 35) (he : isEv e = true),M [s,e] (.ev h he)) (tm : ∀ {e d : Int} (he : isEv e = true) (hd : isDg 49 d = true),M [64,e,d] (.tm he hd)) (vr : ∀ {s v d : Int} (h : s = 43 ∨ s = 45 ∨ s = 61) (hv : isVr v = true) (hd : isDg 48 d = true),M [s,v,d] (.vr h hv hd)) {l : List Int} (h : AcT l) : M l h:=by
 rcases h with ⟨s,e,h1,h2,rfl⟩ | ⟨e,d,h1,h2,rfl⟩ | ⟨s,v,d,h1,h2,h3,rfl⟩
 ·exact ev h1 h2
 ·exact tm h1 h2
 exact vr h1 h2 h3
def PcT (R : List Int → Prop) (l : List Int) : Prop:=∃ L : List (List Int),(∀ a ∈ L,R a) ∧ l = L.flatten
theorem PcT.nil {R : List Int → Prop} : PcT R []:=⟨[],by simp,rfl⟩
theorem PcT.cons {R : List Int → Prop} {a s : List Int} (ha : R a) (hs : PcT R s) : PcT R (a ++ s):=by
 obtain ⟨L,h,rfl⟩:=hs;refine ⟨a :: L,fun x hx=>?_,rfl⟩
 rcases List.mem_cons.1 hx with rfl | hx
 ·exact ha
 exact h x hx
theorem PcT.ind {R : List Int → Prop} {M : (l : List Int) → PcT R l → Prop} (nil : M [] .nil) (cons : ∀ {a s : List Int} (ha : R a) (hs : PcT R s),M s hs → M (a ++ s) (.cons ha hs)) {l : List Int} (h : PcT R l) : M l h:=by
 obtain ⟨L,hL,rfl⟩:=h
 induction L with
 | nil=>exact nil
 | cons a L ih=>exact cons (hL a (by simp)) ⟨L,fun x hx=>hL x (by simp [hx]),rfl⟩ (ih fun x hx=>hL x (by simp [hx]))
abbrev ActsT (l : List Int) : Prop:=PcT AcT l
theorem ActsT.snoc {s a : List Int} (h : ActsT s) (ha : AcT a) : ActsT (s ++ a):=by
 induction h using PcT.ind with
 | nil=>have:=PcT.cons ha .nil;simpa using this
 | cons hb _ ih=>rw [List.append_assoc];exact .cons hb ih
section
variable {t : ByteArray}
theorem act_read {p : Nat} {a : List Int} (ha : AcT a) (h : Has t p a) (cl : Int) (hcl : cl = 59 ∨ cl = 62) :
 (peek t p == cl) = false ∧ (peek t p == 63) = false ∧ (act t p ⟨peek t p,0,0⟩).1 = true ∧ (act t p ⟨peek t p,0,0⟩).2.2 = p + a.length ∧ 1 ≤ a.length:=by
 cases ha using AcT.ind with
 | ev hs he =>
   have h0:=h.head;have h1:=h.i1;rw [h0]
   rcases hs with rfl | rfl | rfl <;> rcases hcl with rfl | rfl <;> simp [act,evAct,h1,he,stepIf]
 | tm he hd =>
   have h0:=h.head;have h1:=h.i1;have h2:=h.i2;rw [h0]
   rcases hcl with rfl | rfl <;> simp [act,tmAct,dgAct,evAct,h1,he,stepIf,h2,hd]
 | vr hs hv hd=>?_
 have h0:=h.head;have h1:=h.i1;have h2:=h.i2;rw [h0]
 rcases hs with rfl | rfl | rfl <;> rcases hcl with rfl | rfl <;> simp [act,vrAct,dgAct,vrAct1,h1,hv,stepIf,h2,hd]
theorem actsF_read {cl : Int} (hcl : cl = 59 ∨ cl = 62) {s : List Int} (hs : ActsT s) : ∀ (n p : Nat) (l : List Ac),Has t p (s ++ [cl]) → s.length < n →
 (actsF t cl n p l).1 = true ∧ (actsF t cl n p l).2.2 = p + s.length + 1:=by
 induction hs using PcT.ind with
 | nil =>
   intro n p l h hn
   obtain ⟨m,rfl⟩ : ∃ m,n = m + 1:=⟨n - 1,by simp at hn;omega⟩
   have h0 : peek t p = cl:=h.head;rw [actsF_close (by simp [h0])];simp
 | @cons a s ha _ ih=>?_
 intro n p l h hn;rw [List.append_assoc] at h;have hr:=act_read ha h.left cl hcl;simp only [List.length_append] at hn
 obtain ⟨m,rfl⟩ : ∃ m,n = m + 1:=⟨n - 1,by omega⟩
 rw [actsF_more hr.1 hr.2.2.1,hr.2.2.2.1];have:=ih m (p + a.length) (l ++ [(act t p ⟨peek t p,0,0⟩).2.1]) h.right (by omega);refine ⟨this.1,this.2.trans ?_⟩;simp only [List.length_append];omega
theorem acts_read {cl : Int} (hcl : cl = 59 ∨ cl = 62) {s : List Int} (hs : ActsT s) {p : Nat} (h : Has t p (s ++ [cl])) : (acts t cl p).1 = true ∧ (acts t cl p).2.2 = p + s.length + 1 :=
 actsF_read hcl hs _ _ _ h (by have:=h.le;simp at this;omega)
theorem acts_no63 {s : List Int} (hs : ActsT s) {p : Nat} (h : Has t p (s ++ [62])) : (peek t p == 63) = false:=by
 cases hs using PcT.ind with
 | nil=>rw [h.head];rfl
 | cons ha _=>rw [List.append_assoc] at h;exact (act_read ha h.left 62 (Or.inr rfl)).2.1
def GdT (l : List Int) : Prop:=l = [] ∨ ∃ v s d : Int,isVr v = true ∧ isSg s = true ∧ isDg 48 d = true ∧ l = [63,v,s,d]
theorem GdT.none : GdT []:=.inl rfl
theorem GdT.some {v s d : Int} (hv : isVr v = true) (hs : isSg s = true) (hd : isDg 48 d = true) : GdT [63,v,s,d]:=.inr ⟨v,s,d,hv,hs,hd,rfl⟩
theorem GdT.ind {M : (l : List Int) → GdT l → Prop} (none : M [] .none) (some : ∀ {v s d : Int} (hv : isVr v = true) (hs : isSg s = true) (hd : isDg 48 d = true),M [63,v,s,d] (.some hv hs hd)) {l : List Int} (h : GdT l) : M l h:=by
 rcases h with rfl | ⟨v,s,d,h1,h2,h3,rfl⟩
 ·exact none
 exact some h1 h2 h3
theorem guard_read {g : List Int} (hg : GdT g) {p : Nat} (h : Has t p g) (hx : (peek t (p + g.length) == 63) = false) : (guard t p ⟨0,0,0⟩).1 = true ∧ (guard t p ⟨0,0,0⟩).2.2 = p + g.length:=by
 cases hg using GdT.ind with
 | none=>simp only [List.length_nil,Nat.add_zero] at hx;simp [guard,hx]
 | some hv hs hd=>?_
 have h0:=h.head;have h1:=h.i1;have h2:=h.i2;have h3 : peek t (p + 1 + 1 + 1) = _:=h.tail.tail.tail.head;unfold guard;rw [h0,h1];rw [show p + 2 = p + 1 + 1 by rfl,show p + 3 = p + 1 + 1 + 1 by rfl,h2,h3];simp [hv,hs,hd,stepIf]
def TgT (n : Nat) (c : Int) : Prop:=c = 46 ∨ c = 122 ∨ (97 ≤ c ∧ c ≤ 100) ∨ (65 ≤ c ∧ c < 65 + (n : Int))
def TaT (n : Nat) (c : Int) : Prop:=c = 45 ∨ (65 ≤ c ∧ c < 65 + (n : Int))
def ItT (n : Nat) (l : List Int) : Prop:=(∃ (tg ta : Int) (g a : List Int),TgT n tg ∧ GdT g ∧ ActsT a ∧ TaT n ta ∧ l = [58,tg] ++ (g ++ (a ++ [62,ta]))) ∨ ∃ (b : Int) (a : List Int),(b = 94 ∨ b = 36) ∧ ActsT a ∧ l = [b] ++ (a ++ [59])
section
variable {n : Nat}
theorem ItT.tr {tg ta : Int} {g a : List Int} (h1 : TgT n tg) (h2 : GdT g) (h3 : ActsT a) (h4 : TaT n ta) : ItT n ([58,tg] ++ (g ++ (a ++ [62,ta]))):=.inl ⟨tg,ta,g,a,h1,h2,h3,h4,rfl⟩
theorem ItT.bl {b : Int} {a : List Int} (h1 : b = 94 ∨ b = 36) (h2 : ActsT a) : ItT n ([b] ++ (a ++ [59])):=.inr ⟨b,a,h1,h2,rfl⟩
theorem ItT.ind {M : (l : List Int) → ItT n l → Prop} (tr : ∀ {tg ta : Int} {g a : List Int} (h1 : TgT n tg) (h2 : GdT g) (h3 : ActsT a) (h4 : TaT n ta),M _ (.tr h1 h2 h3 h4)) (bl : ∀ {b : Int} {a : List Int} (h1 : b = 94 ∨ b = 36) (h2 : ActsT a),M _ (.bl h1 h2)) {l : List Int} (h : ItT n l) : M l h:=by
 rcases h with ⟨tg,ta,g,a,h1,h2,h3,h4,rfl⟩ | ⟨b,a,h1,h2,rfl⟩
 ·exact tr h1 h2 h3 h4
 exact bl h1 h2
end
abbrev ItsT (n : Nat) (l : List Int) : Prop:=PcT (ItT n) l
theorem ItsT.snoc {n : Nat} {s a : List Int} (h : ItsT n s) (ha : ItT n a) : ItsT n (s ++ a):=by
 induction h using PcT.ind with
 | nil=>have:=PcT.cons ha .nil;simpa using this
 | cons hb _ ih=>rw [List.append_assoc];exact .cons hb ih
structure InvR (n : Nat) (r : Rs) : Prop where
 trs : ∀ x ∈ r.trs,TgT n x.trig
 uses : ∀ u ∈ r.uses,65 ≤ u.name ∧ u.name < 65 + (n : Int)
theorem noteUse_in {n : Nat} {c : Int} {p : Nat} {us : List Us} (h : ∀ u ∈ us,65 ≤ u.name ∧ u.name < 65 + (n : Int)) (hc : isNm c = true → 65 ≤ c ∧ c < 65 + (n : Int)) :
 ∀ u ∈ noteUse c p us,65 ≤ u.name ∧ u.name < 65 + (n : Int):=by
 unfold noteUse
 split
 ·rename_i q
  intro u hu
  rcases List.mem_append.1 hu with x | x
  ·exact h u x
  simp at x;subst x;exact hc q
 exact h
theorem tg_nm {n : Nat} (hn : n ≤ 16) {c : Int} (h : TgT n c) : isTg c = true ∧ (isNm c = true → 65 ≤ c ∧ c < 65 + (n : Int)):=by
 unfold TgT at h
 rcases h with rfl | rfl | ⟨h1,h2⟩ | ⟨h1,h2⟩
 ·simp [isTg,isNm]
 ·simp [isTg,isNm,isEv]
 ·refine ⟨?_,fun q=>?_⟩
  ·simp [isTg,isEv];omega
  simp [isNm] at q;omega
 refine ⟨?_,fun _=>⟨h1,h2⟩⟩;simp [isTg,isNm];omega
theorem ta_nm {n : Nat} (hn : n ≤ 16) {c : Int} (h : TaT n c) : isTa c = true ∧ (isNm c = true → 65 ≤ c ∧ c < 65 + (n : Int)):=by
 unfold TaT at h
 rcases h with rfl | ⟨h1,h2⟩
 ·simp [isTa,isNm]
 refine ⟨?_,fun _=>⟨h1,h2⟩⟩;simp [isTa,isNm];omega
theorem trans_read {n : Nat} (hn : n ≤ 16) {tg ta : Int} {g a : List Int} (h1 : TgT n tg) (h2 : GdT g) (h3 : ActsT a) (h4 : TaT n ta) (self : Int) {r : Rs} (h : Has t r.pos ([58,tg] ++ (g ++ (a ++ [62,ta])))) (hi : InvR n r) :
 (transition t self r).1 = true ∧ (transition t self r).2.pos = r.pos + ([58,tg] ++ (g ++ (a ++ [62,ta]))).length ∧ (transition t self r).2.sts = r.sts ∧ InvR n (transition t self r).2:=by
 have e1 : peek t (r.pos + 1) = tg:=Has.i1 h;have hg : Has t (r.pos + 1 + 1) (g ++ (a ++ [62,ta])):=Has.right (a:=[58,tg]) h;have ha : Has t (r.pos + 1 + 1 + g.length) (a ++ [62,ta]):=hg.right
 have ha' : Has t (r.pos + 1 + 1 + g.length) (a ++ [62]):=by
  have : a ++ [62,ta] = (a ++ [62]) ++ [ta]:=by simp
  rw [this] at ha;exact ha.left
 have hgd:=guard_read h2 hg.left (acts_no63 h3 ha');have hac:=acts_read (Or.inr rfl) h3 ha';have hta : peek t (r.pos + 1 + 1 + g.length + a.length + 1) = ta:=Has.i1 ha.right;obtain ⟨k1,k2⟩:=tg_nm hn h1;obtain ⟨k3,k4⟩:=ta_nm hn h4;unfold transition;rw [e1,k1,hgd.1,hgd.2,hac.1,hac.2,hta,k3];simp only [if_true];refine ⟨trivial,?_,trivial,?_,?_⟩
 ·simp [stepIf];omega
 ·intro x hx
  rcases List.mem_append.1 hx with y | y
  ·exact hi.trs x y
  simp at y;subst y;exact h1
 exact noteUse_in (noteUse_in hi.uses k2) k4
theorem block_read {n : Nat} {b : Int} {a : List Int} (h3 : ActsT a) (self : Int) {r : Rs} (h : Has t r.pos ([b] ++ (a ++ [59]))) (hi : InvR n r) :
 (block t self r).1 = true ∧ (block t self r).2.pos = r.pos + ([b] ++ (a ++ [59])).length ∧ (block t self r).2.sts = r.sts ∧ InvR n (block t self r).2:=by
 have hac:=acts_read (Or.inl rfl) h3 (Has.right (a:=[b]) h);simp only [List.length_cons,List.length_nil,Nat.zero_add] at hac;unfold block;rw [hac.1,hac.2];simp only [if_true];refine ⟨trivial,?_,trivial,hi.trs,hi.uses⟩;simp;omega
theorem it_read {n : Nat} (hn : n ≤ 16) {i : List Int} (hit : ItT n i) (self cl : Int) (m : Nat) {r : Rs} (h : Has t r.pos i) (hi : InvR n r) :
 ∃ r',itemsF t (m + 1) self cl r = itemsF t m self cl r' ∧ r'.pos = r.pos + i.length ∧ 1 ≤ i.length ∧ r'.sts = r.sts ∧ InvR n r':=by
 cases hit using ItT.ind with
 | tr h1 h2 h3 h4 =>
   have e0 : peek t r.pos = 58:=Has.head h;obtain ⟨q1,q2,q3,q4⟩:=trans_read hn h1 h2 h3 h4 self h hi;refine ⟨(transition t self r).2,?_,q2,by simp,q3,q4⟩;simp only [itemsF,e0,q1];simp [isOpen]
 | @bl b a hb h3=>?_
 have e0 : peek t r.pos = b:=Has.head h;obtain ⟨q1,q2,q3,q4⟩:=block_read h3 self h hi;refine ⟨(block t self r).2,?_,q2,by simp,q3,q4⟩;simp only [itemsF,e0,q1]
 rcases hb with rfl | rfl <;> simp [isOpen]
theorem its_read {n : Nat} (hn : n ≤ 16) {s : List Int} (hs : ItsT n s) (self cl : Int) : ∀ (m : Nat) (r : Rs),Has t r.pos s → t.size + 1 ≤ m + r.pos → InvR n r →
 ∃ m' r',itemsF t m self cl r = itemsF t m' self cl r' ∧ r'.pos = r.pos + s.length ∧ t.size + 1 ≤ m' + r'.pos ∧ r'.sts = r.sts ∧ InvR n r':=by
 induction hs using PcT.ind with
 | nil=>intro m r _ hm hi;exact ⟨m,r,rfl,rfl,hm,rfl,hi⟩
 | @cons i s hit _ ih=>?_
 intro m r h hm hi;have hle:=h.left.le
 obtain ⟨m,rfl⟩ : ∃ k,m = k + 1:=⟨m - 1,by omega⟩
 obtain ⟨r1,e1,p1,l1,s1,i1⟩:=it_read hn hit self cl m h.left hi;have h2:=h.right;rw [← p1] at h2;obtain ⟨m',r',e2,p2,f2,s2,i2⟩:=ih m r1 h2 (by omega) i1;exact ⟨m',r',e1.trans e2,by rw [p2,p1];simp;omega,f2,s2.trans s1,i2⟩
end
structure PtOk (P : List (Int × Int)) : Prop where
 len : P.length ≤ 16
 root : ∃ k : Int,P[0]? = some (k,-1) ∧ (k = 2 ∨ k = 3)
 kind : ∀ (j : Nat) (q p : Int),P[j]? = some (q,p) → 1 ≤ q ∧ q ≤ 5
 par : ∀ (j : Nat) (q p : Int),P[j]? = some (q,p) → j = 0 ∨ ∃ i : Nat,p = (i : Int) ∧ i < j ∧ ∃ kd pp : Int,P[i]? = some (kd,pp) ∧ (kd = 2 ∨ kd = 3) ∧ (q = 4 ∨ q = 5 → kd = 2)
 kid : ∀ (i : Nat) (k p : Int),P[i]? = some (k,p) → (k = 2 ∨ k = 3) → ∃ (j : Nat) (q : Int),P[j]? = some (q,(i : Int)) ∧ q ≠ 5
structure WrC (P : List (Int × Int)) (M : Option Nat → Nat → Nat → List Int → Prop) : Prop where
 fin : ∀ {i : Nat} {p : Int},P[i]? = some (4,p) → M none i (i + 1) [60,65 + (i : Int),62]
 his : ∀ {i : Nat} {p : Int},P[i]? = some (5,p) → M none i (i + 1) [42,65 + (i : Int)]
 box : ∀ {i e : Nat} {k p : Int} {a ks b : List Int},P[i]? = some (k,p) → (k = 1 ∨ k = 2 ∨ k = 3) → ItsT P.length a → ItsT P.length b → M (some i) (i + 1) e ks →
  M none i e ([if k = 3 then 91 else 40,65 + (i : Int)] ++ (a ++ (ks ++ (b ++ [if k = 3 then 93 else 41]))))
 nil : ∀ {i j : Nat},M (some i) j j []
 cons : ∀ {i j e f : Nat} {q : Int} {s ss : List Int},P[j]? = some (q,(i : Int)) → M none j e s → M (some i) e f ss → M (some i) j f (s ++ ss)
def Wr (P : List (Int × Int)) (o : Option Nat) (i e : Nat) (s : List Int) : Prop:=∀ M,WrC P M → M o i e s
section
variable {P : List (Int × Int)}
theorem Wr.fin {i : Nat} {p : Int} (h : P[i]? = some (4,p)) : Wr P none i (i + 1) [60,65 + (i : Int),62]:=fun _ c=>c.fin h
theorem Wr.his {i : Nat} {p : Int} (h : P[i]? = some (5,p)) : Wr P none i (i + 1) [42,65 + (i : Int)]:=fun _ c=>c.his h
theorem Wr.box {i e : Nat} {k p : Int} {a ks b : List Int} (h : P[i]? = some (k,p)) (hk : k = 1 ∨ k = 2 ∨ k = 3) (ha : ItsT P.length a) (hb : ItsT P.length b) (hs : Wr P (some i) (i + 1) e ks) :
 Wr P none i e ([if k = 3 then 91 else 40,65 + (i : Int)] ++ (a ++ (ks ++ (b ++ [if k = 3 then 93 else 41])))):=fun M c=>c.box h hk ha hb (hs M c)
theorem Wr.nil {i j : Nat} : Wr P (some i) j j []:=fun _ c=>c.nil
theorem Wr.cons {i j e f : Nat} {q : Int} {s ss : List Int} (h : P[j]? = some (q,(i : Int))) (h1 : Wr P none j e s) (h2 : Wr P (some i) e f ss) : Wr P (some i) j f (s ++ ss):=fun M c=>c.cons h (h1 M c) (h2 M c)
theorem Wr.ind {M : (o : Option Nat) → (i e : Nat) → (s : List Int) → Wr P o i e s → Prop}
 (fin : ∀ {i : Nat} {p : Int} (h : P[i]? = some (4,p)),M none i (i + 1) [60,65 + (i : Int),62] (.fin h))
 (his : ∀ {i : Nat} {p : Int} (h : P[i]? = some (5,p)),M none i (i + 1) [42,65 + (i : Int)] (.his h))
 (box : ∀ {i e : Nat} {k p : Int} {a ks b : List Int} (h : P[i]? = some (k,p)) (hk : k = 1 ∨ k = 2 ∨ k = 3) (ha : ItsT P.length a) (hb : ItsT P.length b) (hs : Wr P (some i) (i + 1) e ks),M (some i) (i + 1) e ks hs → M none i e ([if k = 3 then 91 else 40,65 + (i : Int)] ++ (a ++ (ks ++ (b ++ [if k = 3 then 93 else 41])))) (.box h hk ha hb hs))
 (nil : ∀ {i j : Nat},M (some i) j j [] .nil)
 (cons : ∀ {i j e f : Nat} {q : Int} {s ss : List Int} (h : P[j]? = some (q,(i : Int))) (h1 : Wr P none j e s) (h2 : Wr P (some i) e f ss),M none j e s h1 → M (some i) e f ss h2 → M (some i) j f (s ++ ss) (.cons h h1 h2))
 {o : Option Nat} {i e : Nat} {s : List Int} (h : Wr P o i e s) : M o i e s h :=
 (h (fun o i e s=>∃ h,M o i e s h) ⟨fun h=>⟨_,fin h⟩,fun h=>⟨_,his h⟩,fun h hk ha hb ⟨_,m⟩=>⟨_,box h hk ha hb _ m⟩,⟨_,nil⟩,fun h ⟨_,m1⟩ ⟨_,m2⟩=>⟨_,cons h _ _ m1 m2⟩⟩).2
end
structure StsOk (P : List (Int × Int)) (ss : List St) : Prop where
 len : ss.length ≤ P.length
 at_ : ∀ (k : Nat) s,ss[k]? = some s → ∃ kd p,P[k]? = some (kd,p) ∧ s.name = 65 + (k : Int) ∧ s.parent = p ∧ (s.kind = kd ∨ (kd = 2 ∧ s.kind = 1 ∧ ∀ (j : Nat) (q : Int),j < ss.length → P[j]? ≠ some (q,(k : Int))))
def opn (k : Int) : Int:=if k = 3 then 91 else if k = 4 then 60 else if k = 5 then 42 else 40
theorem kindOf_opn {k : Int} (h1 : 1 ≤ k) (h2 : k ≤ 5) : kindOf (opn k) = if k = 2 then 1 else k:=by
 have : k = 1 ∨ k = 2 ∨ k = 3 ∨ k = 4 ∨ k = 5:=by omega
 rcases this with rfl | rfl | rfl | rfl | rfl <;> rfl
theorem StsOk.more {P : List (Int × Int)} (hP : PtOk P) {ss : List St} (h : StsOk P ss) {k parent : Int} (hk : P[ss.length]? = some (k,parent)) (pos : Int) :
 StsOk P (markParent parent (ss ++ [⟨65 + (ss.length : Int),pos,kindOf (opn k),parent⟩])):=by
 have hlt:=(List.getElem?_eq_some_iff.1 hk).1;have hkk:=hP.kind _ _ _ hk
 have hlast : ∀ (j : Nat) (q : Int),j < ss.length + 1 → P[j]? ≠ some (q,(ss.length : Int)):=by
  intro j q hj e
  rcases hP.par _ _ _ e with rfl | ⟨i,e2,e3,_⟩
  ·obtain ⟨k0,e0,_⟩:=hP.root
   rw [e0] at e;simp at e
  omega
 refine ⟨by rw [markParent_len];simp;omega,?_⟩;rw [markParent_len];simp only [List.length_append,List.length_cons,List.length_nil,Nat.zero_add]
 -- ahead of the mark
 have hpre : ∀ (c : Nat) s,(ss ++ [⟨65 + (ss.length : Int),pos,kindOf (opn k),parent⟩])[c]? = some s → ∃ kd p,P[c]? = some (kd,p) ∧ s.name = 65 + (c : Int) ∧ s.parent = p ∧
  (s.kind = kd ∨ (kd = 2 ∧ s.kind = 1 ∧ ∀ (j : Nat) (q : Int),j < ss.length + 1 → (c : Int) = parent ∨ P[j]? ≠ some (q,(c : Int)))):=by
  intro c s hc
  by_cases hcl : c < ss.length
  ·rw [List.getElem?_append_left hcl] at hc
   obtain ⟨kd,p,e1,e2,e3,e4⟩:=h.at_ c s hc;refine ⟨kd,p,e1,e2,e3,?_⟩
   rcases e4 with e4 | ⟨e4,e5,e6⟩
   ·exact Or.inl e4
   refine Or.inr ⟨e4,e5,fun j q hj=>?_⟩
   by_cases hjl : j < ss.length
   ·exact Or.inr (e6 j q hjl)
   have : j = ss.length:=by omega
   subst this
   by_cases hcp : (c : Int) = parent
   ·exact Or.inl hcp
   refine Or.inr fun e=>?_
   rw [hk] at e;simp at e;omega
  have hc2:=(List.getElem?_eq_some_iff.1 hc).1;simp only [List.length_append,List.length_cons,List.length_nil] at hc2
  have : c = ss.length:=by omega
  subst this;simp at hc;subst hc;refine ⟨k,parent,hk,rfl,rfl,?_⟩;simp only [kindOf_opn hkk.1 hkk.2]
  by_cases q2 : k = 2
  ·subst q2
   exact Or.inr ⟨rfl,rfl,fun j q hj=>Or.inr (hlast j q hj)⟩
  left;simp [q2]
 generalize hL : ss ++ [(⟨65 + (ss.length : Int),pos,kindOf (opn k),parent⟩ : St)] = L at *;unfold markParent
 cases parent with
 | negSucc x =>
   intro c s hc;obtain ⟨kd,p,e1,e2,e3,e4⟩:=hpre c s hc;refine ⟨kd,p,e1,e2,e3,?_⟩
   rcases e4 with e4 | ⟨e4,e5,e6⟩
   ·exact Or.inl e4
   exact Or.inr ⟨e4,e5,fun j q hj=>(e6 j q hj).resolve_left (by omega)⟩
 | ofNat x=>?_
 simp only
 -- the parent is of kind 2 or 3
 have hpk : ∀ kd pp,P[x]? = some (kd,pp) → kd = 2 ∨ kd = 3:=by
  intro kd pp e
  rcases hP.par _ _ _ hk with e0 | ⟨i,e2,e3,kd',pp',e4,e5,_⟩
  ·obtain ⟨k0,e1,_⟩:=hP.root
   rw [e0] at hk;rw [e1] at hk;simp at hk
  have : i = x:=by have : (i : Int) = (x : Int):=e2.symm;omega
  subst this;rw [e4] at e;simp at e;obtain ⟨rfl,rfl⟩:=e;exact e5
 split
 ·rename_i s0 hs0
  obtain ⟨kd0,p0,f1,f2,f3,f4⟩:=hpre x s0 hs0
  split
  ·rename_i q1
   have q1' : s0.kind = 1:=by simpa using q1
   intro c s hc
   by_cases hcx : x = c
   ·subst hcx
    have hxl:=(List.getElem?_eq_some_iff.1 hs0).1;rw [List.getElem?_set_self hxl] at hc;simp at hc;subst hc;refine ⟨kd0,p0,f1,f2,f3,?_⟩
    left
    have:=hpk _ _ f1
    rcases f4 with f4 | ⟨f4,_⟩
    ·rw [q1'] at f4;omega
    simp only;omega
   rw [List.getElem?_set_ne hcx] at hc;obtain ⟨kd,p,e1,e2,e3,e4⟩:=hpre c s hc;refine ⟨kd,p,e1,e2,e3,?_⟩
   rcases e4 with e4 | ⟨e4,e5,e6⟩
   ·exact Or.inl e4
   exact Or.inr ⟨e4,e5,fun j q hj=>(e6 j q hj).resolve_left (by intro e;have : (c : Int) = (x : Int):=e;omega)⟩
  rename_i q1
  have q1' : s0.kind ≠ 1:=by simpa using q1
  intro c s hc;obtain ⟨kd,p,e1,e2,e3,e4⟩:=hpre c s hc;refine ⟨kd,p,e1,e2,e3,?_⟩
  rcases e4 with e4 | ⟨e4,e5,e6⟩
  ·exact Or.inl e4
  refine Or.inr ⟨e4,e5,fun j q hj=>(e6 j q hj).resolve_left (by
   intro e
   have : c = x:=by have : (c : Int) = (x : Int):=e;omega
   subst this
   rw [hs0] at hc;simp at hc;subst hc;exact q1' e5)⟩
 rename_i hs0;intro c s hc;obtain ⟨kd,p,e1,e2,e3,e4⟩:=hpre c s hc;refine ⟨kd,p,e1,e2,e3,?_⟩
 rcases e4 with e4 | ⟨e4,e5,e6⟩
 ·exact Or.inl e4
 refine Or.inr ⟨e4,e5,fun j q hj=>(e6 j q hj).resolve_left (by
  intro e
  have : c = x:=by have : (c : Int) = (x : Int):=e;omega
  subst this
  rw [hs0] at hc;simp at hc)⟩
theorem wr_read {P : List (Int × Int)} (hP : PtOk P) {o : Option Nat} {i e : Nat} {s : List Int} (h : Wr P o i e s) :
 match o with
 | none=>∀ (t : ByteArray) (r : Rs) (m : Nat) (k parent : Int),P[i]? = some (k,parent) → Has t r.pos s → t.size ≤ m + r.pos → r.sts.length = i → StsOk P r.sts → InvR P.length r →
  (stateW t (itemsF t m) parent r).1 = true ∧ (stateW t (itemsF t m) parent r).2.pos = r.pos + s.length ∧ 1 ≤ s.length ∧ peek t r.pos = opn k ∧ (stateW t (itemsF t m) parent r).2.sts.length = e ∧ StsOk P (stateW t (itemsF t m) parent r).2.sts ∧ InvR P.length (stateW t (itemsF t m) parent r).2
 | some x=>∀ (t : ByteArray) (r : Rs) (m : Nat) (cl : Int),Has t r.pos s → t.size + 1 ≤ m + r.pos → r.sts.length = i → StsOk P r.sts → InvR P.length r →
  ∃ m' r',itemsF t m x cl r = itemsF t m' x cl r' ∧ r'.pos = r.pos + s.length ∧ t.size + 1 ≤ m' + r'.pos ∧ r'.sts.length = e ∧ StsOk P r'.sts ∧ InvR P.length r':=by
 have hsn : ∀ (t : ByteArray) (r : Rs) (i : Nat) (k parent : Int),P[i]? = some (k,parent) → peek t (r.pos + 1) = 65 + (i : Int) → r.sts.length = i →
  stateName t (opn k) parent { r with pos:=r.pos + 1 } = (true,{ r with pos:=r.pos + 1 + 1,sts:=markParent parent (r.sts ++ [⟨65 + (i : Int),((r.pos + 1 : Nat) : Int),kindOf (opn k),parent⟩]) }):=by
  intro t r i k parent hk h1 hl;have hlt:=(List.getElem?_eq_some_iff.1 hk).1;have:=hP.len
  have hnm : isNm (65 + (i : Int)) = true:=by simp [isNm];omega
  unfold stateName;simp only [h1,hnm,if_true]
 induction h using Wr.ind with
 | @fin i p hk =>
   intro t r m k parent hk' hh hm hl hs hi;rw [hk] at hk';simp at hk';obtain ⟨rfl,rfl⟩:=hk';have h0 : peek t r.pos = opn 4:=hh.head;have h1 : peek t (r.pos + 1) = 65 + (i : Int):=hh.i1;have h2 : peek t (r.pos + 1 + 1) = 62:=hh.i2;have e:=hsn t r i 4 p hk h1 hl;have hmo:=hs.more hP (by rw [hl];exact hk) ((r.pos + 1 : Nat) : Int);rw [hl] at hmo
   have es : stateW t (itemsF t m) p r = (true,{ r with pos:=r.pos + 1 + 1 + 1,sts:=markParent p (r.sts ++ [⟨65 + (i : Int),((r.pos + 1 : Nat) : Int),kindOf (opn 4),p⟩]) }):=by
    unfold stateW;rw [h0,e];simp only [h2];simp [opn,stepIf]
   rw [es];refine ⟨rfl,?_,by simp,h0,?_,hmo,⟨hi.trs,hi.uses⟩⟩
   ·simp
   simp [markParent_len,hl]
 | @his i p hk =>
   intro t r m k parent hk' hh hm hl hs hi;rw [hk] at hk';simp at hk';obtain ⟨rfl,rfl⟩:=hk';have h0 : peek t r.pos = opn 5:=hh.head;have h1 : peek t (r.pos + 1) = 65 + (i : Int):=hh.i1;have e:=hsn t r i 5 p hk h1 hl;have hmo:=hs.more hP (by rw [hl];exact hk) ((r.pos + 1 : Nat) : Int);rw [hl] at hmo
   have es : stateW t (itemsF t m) p r = (true,{ r with pos:=r.pos + 1 + 1,sts:=markParent p (r.sts ++ [⟨65 + (i : Int),((r.pos + 1 : Nat) : Int),kindOf (opn 5),p⟩]) }):=by
    unfold stateW;rw [h0,e];simp [opn]
   rw [es];refine ⟨rfl,?_,by simp,h0,?_,hmo,⟨hi.trs,hi.uses⟩⟩
   ·simp
   simp [markParent_len,hl]
 | @box i e k p a ks b hk hk3 ha hb _ ih =>
   intro t r m k' parent hk' hh hm hl hs hi;rw [hk] at hk';simp at hk';obtain ⟨rfl,rfl⟩:=hk';have h0 : peek t r.pos = opn k:=(hh.head).trans (by rcases hk3 with rfl | rfl | rfl <;> rfl);have h1 : peek t (r.pos + 1) = 65 + (i : Int):=hh.i1;have esn:=hsn t r i k p hk h1 hl;have hmo:=hs.more hP (by rw [hl];exact hk) ((r.pos + 1 : Nat) : Int);rw [hl] at hmo;have hA : Has t (r.pos + 1 + 1) (a ++ (ks ++ (b ++ [if k = 3 then 93 else 41]))):=hh.tail.tail;generalize hr1 : ({ r with pos:=r.pos + 1 + 1,sts:=markParent p (r.sts ++ [⟨65 + (i : Int),((r.pos + 1 : Nat) : Int),kindOf (opn k),p⟩]) } : Rs) = r1 at *
   have p1 : r1.pos = r.pos + 1 + 1:=by rw [← hr1]
   have s1 : r1.sts.length = i + 1:=by rw [← hr1];simp [markParent_len,hl]
   have o1 : StsOk P r1.sts:=by rw [← hr1];exact hmo
   have i1 : InvR P.length r1:=by rw [← hr1];exact ⟨hi.trs,hi.uses⟩
   clear hr1 hmo
   have main : ∀ cl : Int,cl = (if k = 3 then 93 else 41) → (itemsF t m i cl r1).1 = true ∧ (itemsF t m i cl r1).2.pos = r.pos + ([if k = 3 then 91 else 40,65 + (i : Int)] ++ (a ++ (ks ++ (b ++ [if k = 3 then 93 else 41])))).length ∧ (itemsF t m i cl r1).2.sts.length = e ∧ StsOk P (itemsF t m i cl r1).2.sts ∧ InvR P.length (itemsF t m i cl r1).2:=by
    intro cl hcl;rw [← hcl] at hA ⊢;rw [← p1] at hA;obtain ⟨m2,r2,e2,p2,f2,s2,i2⟩:=its_read hP.len ha i cl m r1 hA.left (by omega) i1;have hB:=hA.right;rw [← p2] at hB;obtain ⟨m3,r3,e3,p3,f3,s3,o3,i3⟩:=ih t r2 m2 cl hB.left f2 (by rw [s2];exact s1) (by rw [s2];exact o1) i2;have hC:=hB.right;rw [← p3] at hC;obtain ⟨m4,r4,e4,p4,f4,s4,i4⟩:=its_read hP.len hb i cl m3 r3 hC.left f3 i3;have hD:=hC.right;rw [← p4] at hD;have hc4 : peek t r4.pos = cl:=hD.head;have hle:=hD.le
    obtain ⟨m5,rfl⟩ : ∃ x,m4 = x + 1:=⟨m4 - 1,by simp at hle;omega⟩
    rw [e2,e3,e4]
    have : itemsF t (m5 + 1) i cl r4 = (true,{ r4 with pos:=r4.pos + 1 }):=by
     simp only [itemsF,hc4]
     by_cases q : k = 3
     ·rw [if_pos q] at hcl;subst hcl;simp [isOpen,stepIf]
     rw [if_neg q] at hcl;subst hcl;simp [isOpen,stepIf]
    rw [this];refine ⟨rfl,?_,?_,?_,?_⟩
    ·simp only [List.length_append,List.length_cons,List.length_nil];omega
    ·simp only;rw [s4];exact s3
    ·simp only;rw [s4];exact o3
    exact ⟨i4.trs,i4.uses⟩
   have hg : stateW t (itemsF t m) p r = itemsF t m i (if k = 3 then 93 else 41) r1:=by
    unfold stateW;rw [h0,esn]
    rcases hk3 with rfl | rfl | rfl <;> simp [opn,hl]
   rw [hg];obtain ⟨m1,m2,m3,m4,m5⟩:=main _ rfl;exact ⟨m1,m2,by simp,h0,m3,m4,m5⟩
 | nil =>
   intro t r m cl _ hm hl hs hi;exact ⟨m,r,rfl,rfl,hm,hl,hs,hi⟩
 | @cons i j e f q s ss hk _ _ ih1 ih2=>?_
 intro t r m cl hh hm hl hs hi;have hle:=hh.left.le
 obtain ⟨m,rfl⟩ : ∃ x,m = x + 1:=⟨m - 1,by omega⟩
 obtain ⟨a1,a2,a3,a4,a5,a6,a7⟩:=ih1 t r m q i hk hh.left (by omega) hl hs hi;have hB:=hh.right;rw [← a2] at hB;obtain ⟨m',r',e2,p2,f2,s2,o2,i2⟩:=ih2 t (stateW t (itemsF t m) i r).2 m cl hB (by omega) a5 a6 a7;refine ⟨m',r',Eq.trans ?_ e2,by rw [p2,a2];simp;omega,f2,s2,o2,i2⟩;have hqq:=hP.kind _ _ _ hk
 have hop : isOpen (peek t r.pos) = true:=by
  rw [a4]
  have : q = 1 ∨ q = 2 ∨ q = 3 ∨ q = 4 ∨ q = 5:=by omega
  rcases this with rfl | rfl | rfl | rfl | rfl <;> rfl
 simp only [itemsF,hop,a1,if_true]
theorem placeF_at : ∀ (l : List St) (k : Nat),(∀ (j : Nat) s,l[j]? = some s → s.name = 65 + ((k + j : Nat) : Int)) → ∀ j,j < l.length → placeF (65 + ((k + j : Nat) : Int)) l k = ((k + j : Nat) : Int):=by
 intro l
 induction l with
 | nil=>intro k _ j hj;simp at hj
 | cons a l ih=>?_
 intro k h j hj;have h0:=h 0 a rfl
 cases j with
 | zero=>simp [placeF,h0]
 | succ j=>?_
 have:=ih (k + 1) (fun j s hs=>by rw [h (j + 1) s (by simpa using hs)];congr 2;omega) j (by simpa using hj);unfold placeF;rw [h0,if_neg (by simp;omega)];rw [show k + (j + 1) = k + 1 + j by omega];exact this
theorem firstAtF_noneB {p : Nat → St → Bool} : ∀ (l : List St) (k : Nat),(∀ (j : Nat) s,l[j]? = some s → p (k + j) s = false) → firstAtF p l k = -2:=by
 intro l
 induction l with
 | nil=>intro k _;rfl
 | cons a l ih=>?_
 intro k h;have h0 : p k a = false:=h 0 a rfl;unfold firstAtF;rw [h0];simp only [Bool.false_eq_true,if_false];exact ih (k + 1) (fun j s hs=>by have:=h (j + 1) s (by simpa using hs);rwa [show k + (j + 1) = k + 1 + j by omega] at this)
theorem firstChildF_some {ss : List St} {parent : Int} {j : Nat} (h : isChild ss j parent = true) : ∀ (f k : Nat),k ≤ j → j < k + f → firstChildF ss parent f k ≠ -2:=by
 intro f
 induction f with
 | zero=>intro k h1 h2;omega
 | succ f ih=>?_
 intro k h1 h2;unfold firstChildF
 split
 ·omega
 rename_i q
 have : k ≠ j:=by intro e;subst e;exact q h
 exact ih (k + 1) (by omega) (by omega)
structure RdOk (P : List (Int × Int)) (ol : Ol) : Prop where
 len : ol.sts.length = P.length
 at_ : ∀ (k : Nat) s,ol.sts[k]? = some s → P[k]? = some (s.kind,s.parent) ∧ s.name = 65 + (k : Int)
 trs : ∀ x ∈ ol.trs,TgT P.length x.trig
theorem built_read {P : List (Int × Int)} (hP : PtOk P) {t : ByteArray} {s : List Int} (h : Wr P none 0 P.length s) (hh : Has t 0 s) (hsz : s.length = t.size) (h240 : t.size ≤ 240) :
 (chart t).1 = true ∧ ∃ ol,read t = (0,0,ol) ∧ RdOk P ol:=by
 obtain ⟨k,hk,hk23⟩:=hP.root;have hr:=wr_read hP h t r0 (t.size + 1) k (-1) hk hh (by omega) rfl ⟨by simp [r0],by intro j s hj;simp [r0] at hj⟩ ⟨by simp [r0],by simp [r0]⟩;obtain ⟨a1,a2,a3,a4,a5,a6,a7⟩:=hr
 have hop : (peek t 0 == 40 || peek t 0 == 91) = true:=by
  have : peek t 0 = opn k:=a4
  rw [this];rcases hk23 with rfl | rfl <;> rfl
 have hc : chart t = (true,(stateW t (itemsF t (t.size + 1)) (-1) r0).2):=by
  unfold chart;rw [hop,a1,a2];simp [r0,hsz]
 generalize (stateW t (itemsF t (t.size + 1)) (-1) r0).2 = r at *
 have hat : ∀ (k : Nat) s,r.sts[k]? = some s → P[k]? = some (s.kind,s.parent) ∧ s.name = 65 + (k : Int):=by
  intro k s hs;obtain ⟨kd,p,e1,e2,e3,e4⟩:=a6.at_ k s hs;refine ⟨?_,e2⟩;rw [e1,e3]
  rcases e4 with e4 | ⟨e4,e5,e6⟩
  ·rw [e4]
  obtain ⟨j,q,g1,g2⟩:=hP.kid k kd p e1 (Or.inl e4);exact absurd g1 (e6 j q (by rw [a5];exact (List.getElem?_eq_some_iff.1 g1).1))
 have hst : ∀ (i : Nat),i < P.length → ∃ s,r.sts[i]? = some s:=fun i hi=>⟨_,List.getElem?_eq_getElem (by rw [a5];exact hi)⟩
 have hpl : ∀ j,j < P.length → place r.sts (65 + (j : Int)) = (j : Int):=by
  intro j hj;have:=placeF_at r.sts 0 (fun j s hs=>by rw [(hat j s hs).2];simp) j (by rw [a5];exact hj);simpa [place] using this
 have hj : judge r.sts r.uses = (0,0):=by
  have h1 : firstTwice r.sts = -2:=firstAtF_noneB _ _ (fun j s hs=>by
   have hl:=(List.getElem?_eq_some_iff.1 hs).1;rw [a5] at hl;rw [(hat j s hs).2,hpl j hl]
   simp)
  have h2 : firstMis r.sts = -2:=firstAtF_noneB _ _ (fun j s hs=>by
   rw [Nat.zero_add];obtain ⟨g1,g2⟩:=hat j s hs;unfold isMis;rw [stAt_nat,hs];simp only
   split
   ·rename_i q
    have q' : s.kind = 4 ∨ s.kind = 5:=by simp at q;omega
    rcases hP.par _ _ _ g1 with e0 | ⟨i,e1,e2,kd,pp,e3,e4,e5⟩
    ·obtain ⟨k0,f1,f2⟩:=hP.root
     rw [e0,f1] at g1;simp at g1;omega
    obtain ⟨s',hs'⟩:=hst i (List.getElem?_eq_some_iff.1 e3).1;have g3:=(hat i s' hs').1;rw [e3] at g3;simp at g3;rw [e1];unfold kindAt;rw [stAt_nat,hs'];simp only;rw [← g3.1,e5 q'];rfl
   split
   ·rename_i q
    have q' : s.kind = 2 ∨ s.kind = 3:=by simp at q;omega
    obtain ⟨c,kc,e1,e2⟩:=hP.kid j _ _ g1 q';obtain ⟨s',hs'⟩:=hst c (List.getElem?_eq_some_iff.1 e1).1;have g3:=(hat c s' hs').1;rw [e1] at g3;simp at g3
    have hch : isChild r.sts c j = true:=by
     unfold isChild;rw [stAt_nat,hs'];simp only [← g3.1,← g3.2];simpa using e2
    have:=firstChildF_some hch r.sts.length 0 (Nat.zero_le _) (by have:=(List.getElem?_eq_some_iff.1 hs').1;omega);simpa [firstChild] using this
   rfl)
  have h3 : firstUnk r.sts r.uses = -2:=by
   have hu:=a7.uses;generalize r.uses = us at hu
   induction us with
   | nil=>rfl
   | cons u us ih=>?_
   unfold firstUnk;have hu0:=hu u (by simp)
   obtain ⟨j,hj⟩ : ∃ j : Nat,u.name = 65 + (j : Int):=⟨(u.name - 65).toNat,by omega⟩
   rw [hj,hpl j (by omega),if_neg (by simp)];exact ih (fun x hx=>hu x (by simp [hx]))
  unfold judge;rw [h1,h2,h3,if_neg (by rw [a5];have:=hP.len;omega)];rfl
 refine ⟨by rw [hc],⟨r.sts,r.trs,r.bls⟩,?_,a5,hat,a7.trs⟩;unfold read;rw [if_neg (by omega),hc];simp [hj]
def placeL (w : Wk) : List Int → Nat → Int
 | [],i=>if w.mode != 18 then i else -1
 | b :: l,i=>if (wNext w b).1 == -1 then i else placeL { (wNext w b).2 with mode:=(wNext w b).1 } l (i + 1)
def adv (w : Wk) : List Int → Option Wk
 | []=>some w
 | b :: l=>if (wNext w b).1 == -1 then none else adv { (wNext w b).2 with mode:=(wNext w b).1 } l
theorem placeL_app : ∀ (a b : List Int) (w : Wk) (i : Nat),placeL w (a ++ b) i = match adv w a with | some w'=>placeL w' b (i + a.length) | none=>placeL w a i:=by
 intro a
 induction a with
 | nil=>intro b w i;simp [adv]
 | cons x a ih=>?_
 intro b w i;simp only [List.cons_append,placeL,adv]
 split
 ·rfl
 rw [ih]
 cases adv { (wNext w x).2 with mode:=(wNext w x).1 } a with
 | none=>rfl
 | some w'=>simp only [List.length_cons];rw [show i + (a.length + 1) = i + 1 + a.length by omega]
theorem placeL_neg : ∀ (l : List Int) (w : Wk) (i : Nat),placeL w l i = -1 → ∃ w',adv w l = some w' ∧ w'.mode = 18:=by
 intro l
 induction l with
 | nil =>
   intro w i h;unfold placeL at h
   split at h
   ·omega
   rename_i q;exact ⟨w,rfl,by simpa using q⟩
 | cons x l ih=>?_
 intro w i h;unfold placeL at h;unfold adv
 split at h
 ·omega
 rename_i q;rw [if_neg q];exact ih _ _ h
structure WkOk (w : Wk) : Prop where
 op : ∀ c ∈ w.open_,c = 41 ∨ c = 93
 cl : w.close ≠ 32
theorem ite_ok {c : Prop} [Decidable c] {a b : Int × Wk} (ha : WkOk a.2) (hb : WkOk b.2) : WkOk (if c then a else b).2:=by split <;> assumption
theorem ite_neg {c : Prop} [Decidable c] {a b : Int × Wk} (ha : a.1 = -1) (hb : b.1 = -1) : (if c then a else b).1 = -1:=by split <;> assumption
theorem wItem_ok {w : Wk} (h : WkOk w) (b : Int) : WkOk (wItem w b).2:=by
 have hop : ∀ c,(c = 41 ∨ c = 93) → ∀ x ∈ w.open_ ++ [c],x = 41 ∨ x = 93:=by
  intro c hc x hx
  rcases List.mem_append.1 hx with y | y
  ·exact h.op x y
  simp at y;subst y;exact hc
 unfold wItem
 repeat' (first | exact h | exact ⟨hop _ (Or.inl rfl),h.cl⟩ | exact ⟨hop _ (Or.inr rfl),h.cl⟩ | exact ⟨h.op,by show (59 : Int) ≠ 32;decide⟩ | apply ite_ok)
 split
 ·exact h
 repeat' (first | exact h | exact ⟨fun x hx=>h.op x (List.dropLast_subset _ hx),h.cl⟩ | apply ite_ok)
theorem wNext_ok {w : Wk} (h : WkOk w) (b : Int) : WkOk (wNext w b).2:=by
 unfold wNext
 repeat' (first | exact h | exact wItem_ok h b | exact ⟨h.op,by show (62 : Int) ≠ 32;decide⟩ | apply ite_ok)
theorem adv_ok : ∀ (l : List Int) (w w' : Wk),WkOk w → adv w l = some w' → WkOk w':=by
 intro l
 induction l with
 | nil=>intro w w' h e;simp [adv] at e;subst e;exact h
 | cons x l ih=>?_
 intro w w' h e;unfold adv at e
 split at e
 ·simp at e
 have hk:=wNext_ok h x;exact ih { (wNext w x).2 with mode:=(wNext w x).1 } _ ⟨hk.op,hk.cl⟩ e
theorem wItem_blank {w : Wk} (h : WkOk w) : (wItem w 32).1 = -1:=by
 unfold wItem;simp only [show ((32 : Int) == 40) = false by decide,show ((32 : Int) == 91) = false by decide,show ((32 : Int) == 60) = false by decide,show ((32 : Int) == 42) = false by decide,show ((32 : Int) == 58) = false by decide,show ((32 : Int) == 94 || (32 : Int) == 36) = false by decide,Bool.false_eq_true,if_false]
 split
 ·rfl
 rename_i c hc;have:=h.op c (List.mem_of_getLast? hc);rw [if_pos (by simp;omega)]
theorem wAct_blank {w : Wk} (h : WkOk w) : wAct w 32 = -1:=by
 have:=h.cl;unfold wAct;simp;omega
theorem wNext_blank {w : Wk} (h : WkOk w) : (wNext w 32).1 = -1:=by
 unfold wNext;simp only [show inR 32 65 90 = false by decide,show inR 32 97 122 = false by decide,show inR 32 120 122 = false by decide,show inR 32 48 57 = false by decide]
 repeat' (first | rfl | exact wItem_blank h | exact wAct_blank h | exact (if_neg (by decide)).trans (wAct_blank h) | apply ite_neg)
theorem wNext_done {w : Wk} (h : w.mode = 18) (b : Int) : (wNext w b).1 = -1:=by
 unfold wNext;rw [h];rfl
section
variable {a b : List Int}
def wk0 : Wk:=⟨0,[],0⟩
theorem wk0_ok : WkOk wk0:=⟨by simp [wk0],by decide⟩
theorem cut_short {x : Int} (h : placeL wk0 (a ++ x :: b) 0 = -1) : placeL wk0 a 0 = (a.length : Int) ∧ ∀ c,placeL wk0 (a ++ 32 :: c) 0 = (a.length : Int):=by
 rw [placeL_app] at h
 cases q : adv wk0 a with
 | none =>
   rw [q] at h;simp only at h;obtain ⟨w',e,_⟩:=placeL_neg _ _ _ h;rw [q] at e;cases e
 | some w'=>?_
 rw [q] at h;simp only at h
 have hm : w'.mode ≠ 18:=by
  intro e;unfold placeL at h;rw [if_pos (by rw [wNext_done e];rfl)] at h;omega
 refine ⟨?_,fun c=>?_⟩
 ·have:=placeL_app a [] wk0 0
  rw [List.append_nil,q] at this;rw [this];simp [placeL,hm]
 rw [placeL_app,q];simp only;unfold placeL;rw [if_pos (by rw [wNext_blank (adv_ok _ _ _ wk0_ok q)];rfl)];simp
theorem cut_more (h : placeL wk0 a 0 = -1) (x : Int) : placeL wk0 (a ++ [x]) 0 = (a.length : Int):=by
 obtain ⟨w',e,hm⟩:=placeL_neg _ _ _ h;rw [placeL_app,e];simp only;unfold placeL;rw [if_pos (by rw [wNext_done hm];rfl)];simp
end
theorem placeRF_L (t : ByteArray) (s : List Int) : ∀ (f i : Nat) (w : Wk),f + i = t.size → Has t 0 s → s.length = t.size → placeRF t f i w = placeL w (s.drop i) i:=by
 intro f
 induction f with
 | zero =>
   intro i w hf hh hl;rw [List.drop_eq_nil_of_le (by omega)];simp only [placeRF,placeL];rw [show t.size = i by omega]
 | succ f ih=>?_
 intro i w hf hh hl;rw [List.drop_eq_getElem_cons (by omega)]
 have : peek t i = s[i]:=by have:=hh.at_ i _ (List.getElem?_eq_getElem (by omega));simpa using this
 simp only [placeRF,placeL,this]
 split
 ·rfl
 exact ih (i + 1) _ (by omega) hh hl
theorem placeR_L {t : ByteArray} {s : List Int} (hh : Has t 0 s) (hl : s.length = t.size) : placeR t = placeL wk0 s 0:=by
 have:=placeRF_L t s t.size 0 wk0 (by omega) hh hl;simpa [placeR,wk0] using this
theorem read_fault {t : ByteArray} {n : Nat} (h : placeR t = (n : Int)) (hz : t.size ≤ 240) : (read t).1 = 2 ∧ (read t).2.1 = (n : Int):=by
 rw [placeR_eq] at h
 split at h
 ·omega
 rename_i q;unfold read;rw [if_neg (by omega),if_neg q];exact ⟨rfl,h⟩
theorem str_at (L : List Int) (k : Nat) (h : k < (strOfNums L).size) (h2 : k < L.length) : (strOfNums L)[k] = UInt8.ofNat (L[k]).toNat:=by
 show (strOfNums L).data[k]'h = _;simp [strOfNums]
theorem has_str {L : List Int} (h : ∀ x ∈ L,0 ≤ x ∧ x < 256) : Has (strOfNums L) 0 L where
 le:=by rw [strOfNums_size];omega
 at_:=fun k b hk=>by
  obtain ⟨hlt,e⟩:=List.getElem?_eq_some_iff.1 hk;rw [Nat.zero_add];unfold peek;rw [dif_pos (by rw [strOfNums_size];exact hlt),str_at L k _ hlt];have:=h b (List.mem_of_getElem? hk);rw [e,UInt8.toNat_ofNat'];omega
end Ch
end Go.Proofs.Ytnlbchmfcebeeaa
