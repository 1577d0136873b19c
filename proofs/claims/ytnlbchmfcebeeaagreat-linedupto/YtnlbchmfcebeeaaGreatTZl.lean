import Derived.Test.YtnlbchmfcebeeaaGreatTXp
set_option maxHeartbeats 12800000
set_option maxRecDepth 100000
namespace Go.Proofs.YtnlbchmfcebeeaaGreat
open Go.Proofs.Tryz Ch
open Go.RowKit
namespace Ch
/-! What a stand tells is one of the chart's states,and that stand again. -/
def TL (lo : Int) : List Int -> Prop
 | a :: b :: l=>(bN a = true /\ lo <= b /\ b <= 57) /\ TL lo l
 | [_]=>False
 | []=>True
theorem TL.even {lo : Int} : ∀ (n : Nat) {l : List Int},l.length <= n -> TL lo l -> l.length % 2 = 0:=by
 intro n
 induction n with
 | zero=>intro l hl _;have : l = []:=List.length_eq_zero_iff.1 (by omega);subst this;rfl
 | succ n ih=>?_
 intro l hl h
 match l,h with
 | [],_=>rfl
 | a :: b :: l,h=>have:=ih (l:=l) (by simp at hl;omega) h.2;simp;omega
theorem TL.append {lo : Int} : ∀ (n : Nat) {a b : List Int},a.length <= n -> TL lo a -> TL lo b -> TL lo (a ++ b):=by
 intro n
 induction n with
 | zero=>intro a b hl _ hb;have : a = []:=List.length_eq_zero_iff.1 (by omega);subst this;exact hb
 | succ n ih=>?_
 intro a b hl ha hb
 match a,ha with
 | [],_=>exact hb
 | x :: y :: a,ha=>exact ⟨ha.1,ih (by simp at hl;omega) ha.2 hb⟩
theorem TL.drop2 {lo : Int} : ∀ (n : Nat) {l : List Int},TL lo l -> TL lo (l.drop (2 * n)):=by
 intro n
 induction n with
 | zero=>intro l h;simpa using h
 | succ n ih=>?_
 intro l h
 match l,h with
 | [],_=>simp [TL]
 | a :: b :: l,h=>rw [show 2 * (n + 1) = 2 * n + 1 + 1 by omega];simpa using ih h.2
theorem TL.take2 {lo : Int} : ∀ (n : Nat) {l : List Int},TL lo l -> TL lo (l.take (2 * n)):=by
 intro n
 induction n with
 | zero=>intro l _;simp [TL]
 | succ n ih=>?_
 intro l h
 match l,h with
 | [],_=>simp [TL]
 | a :: b :: l,h=>rw [show 2 * (n + 1) = 2 * n + 1 + 1 by omega];exact ⟨h.1,ih h.2⟩
def Am (lo : Int) (s : Sd) : Prop:=TL lo (ei s.tm) /\ s.tm.size <= 16
theorem Lg {lo : Int} (t : ByteArray) (c : Int) : ∀ (f k : Nat) (acc : List Int),TL lo acc -> TL lo ((ei t).drop k) -> TL lo (pE t c f k acc):=by
 intro f
 induction f with
 | zero=>intro k acc h _;exact h
 | succ f ih=>?_
 intro k acc h hb;simp only [pE]
 split
 ·rename_i c1
  rw [fy c1] at hb
  split
  ·exact ih _ _ (TL.append acc.length (Nat.le_refl _) h ⟨hb.1,trivial⟩) hb.2
  exact ih _ _ h hb.2
 exact h
theorem Ga {lo : Int} (hlo : lo <= 49) {m : Ma} (h : Am lo m.s) {a : Ac} (ha : vQ a) : Am lo (dw m a).2.s:=by
 unfold dw
 split
 ·exact h
 split
 ·rename_i c2
  unfold send
  split
  ·exact h
  rename_i c3;obtain ⟨h1,h2⟩:=h
  have e : a.sign = 64:=by simpa using c2
  have hd : bN a.letter = true /\ 1 <= a.digit /\ a.digit <= 9:=by
   rcases ha with ⟨hs,_⟩ | ⟨_,h3⟩ | ⟨hs,_⟩
   ·omega
   ·exact h3
   omega
  have hb:=ha.byte
  have hev : m.s.tm.size % 2 = 0:=by rw [<- bF];exact TL.even _ (Nat.le_refl _) h1
  refine ⟨?_,?_⟩
  ·show TL lo (ei (m.s.tm ++ strOfNums [a.letter,48 + a.digit]))
   rw [kq,jq (by intro x hx;simp at hx;omega)];exact TL.append _ (Nat.le_refl _) h1 ⟨⟨hd.1,by omega,by omega⟩,trivial⟩
  show (m.s.tm ++ strOfNums [a.letter,48 + a.digit]).size <= 16;rw [ByteArray.size_append,strOfNums_size];simp;omega
 split
 ·obtain ⟨h1,h2⟩:=h
  obtain ⟨_,_,g3⟩:=FX m.s.tm a.letter m.s.tm.size 0 [] rfl (by simp);refine ⟨?_,?_⟩
  ·show TL lo (ei (strOfNums (pE m.s.tm a.letter m.s.tm.size 0 [])))
   rw [jq g3];exact Lg _ _ _ _ _ trivial (by simpa using h1)
  show (strOfNums (pE m.s.tm a.letter m.s.tm.size 0 [])).size <= 16;rw [strOfNums_size];have:=Bs m.s.tm a.letter m.s.tm.size 0 [] (Nat.le_refl _) (Nat.zero_le _);omega
 split
 ·exact h
 have : (mG m.s a.letter (ea m.s a)).tm = m.s.tm:=by
  unfold mG gJ
  split
  ·split
   ·rfl
   split <;> rfl
  rfl
 show Am lo (mG m.s a.letter (ea m.s a));unfold Am;rw [this];exact h
structure gA (ol : Ol) (P : Sd -> Prop) : Prop where
 act : ∀ (m : Ma) (a : Ac),vQ a -> P m.s -> P (dw m a).2.s
 set : ∀ (m : Ma) (i : Int) (v : Bool),P m.s -> P (dz m i v).s
 rm : ∀ (s : Sd) (left : List Bool),P s -> P (rem ol.ag s left)
section
variable {ol : Ol} {P : Sd -> Prop}
theorem gA.acts (h : gA ol P) : ∀ (l : List Ac) {m : Ma},P m.s -> (∀ a ∈ l,vQ a) -> P (cV l m).s:=by
 intro l
 induction l with
 | nil=>intro m hp _;exact hp
 | cons a l ih=>?_
 intro m hp ha;simp only [cV];have h1:=h.act m a (ha a (by simp)) hp
 split
 ·exact ih h1 (fun b hb=>ha b (by simp [hb]))
 exact h1
theorem gA.cM (h : gA ol P) {k : Nat} {sg : Int} (hsg : sg = 94 \/ sg = 36) : ∀ (l : List Bl) {m : Ma},(∀ b ∈ l,∀ k : Nat,∀ sg : Int,b.state = k -> b.sign = sg -> (sg = 94 \/ sg = 36) -> ∀ a ∈ b.acts,vQ a) -> P m.s -> P (cD k sg l m).s:=by
 intro l
 induction l with
 | nil=>intro m _ hp;exact hp
 | cons b l ih=>?_
 intro m hA hp;simp only [cD];refine ih (fun b hb=>hA b (by simp [hb])) ?_
 split
 ·rename_i c
  simp only [Bool.and_eq_true,beq_iff_eq] at c;exact h.acts _ hp (hA b (by simp) k sg c.1 c.2 hsg)
 exact hp
theorem gA.ck (h : gA ol P) (hA : wQ ol) {m : Ma} (hp : P m.s) (k : Nat) : P (ck ol m k).s:=by
 have h1:=h.cM (k:=k) (.inl rfl) ol.cM hA.bl (h.set m k true hp);unfold Ch.ck
 split
 ·rw [(jN _ _ _).1];exact h1
 exact h1
theorem gA.cL (h : gA ol P) (hA : wQ ol) (st : List Bool) (gl : List Int) : ∀ (f k : Nat) {m : Ma},P m.s -> P (cL ol st gl f k m).s:=by
 intro f
 induction f with
 | zero=>intro k m hp;exact hp
 | succ f ih=>?_
 intro k m hp;simp only [Ch.cL];refine ih _ ?_
 split
 ·exact h.ck hA hp k
 exact hp
theorem gA.cu (h : gA ol P) (hA : wQ ol) (left : List Bool) : ∀ (k : Nat) {m : Ma},P m.s -> P (cu ol left k m).s:=by
 intro k
 induction k with
 | zero=>intro m hp;exact hp
 | succ k ih=>?_
 intro m hp;simp only [Ch.cu];refine ih ?_
 split
 ·exact h.set _ _ _ (h.cM (.inr rfl) ol.cM hA.bl hp)
 exact hp
theorem gA.fF (h : gA ol P) (hA : wQ ol) : ∀ (l : List Int) {m : Ma},P m.s -> P (fF ol l m).s:=by
 intro l
 induction l with
 | nil=>intro m hp;exact hp
 | cons x l ih=>?_
 intro m hp;simp only [Ch.fF];refine ih (h.acts _ hp ?_);unfold oS
 split
 ·rename_i y hy;exact hA.tr y (List.mem_of_getElem? hy)
 simp
theorem gA.dE (h : gA ol P) (hA : wQ ol) {m : Ma} (hp : P m.s) (l : List Int) : P (dE ol m l).s :=
 h.cL hA _ _ _ _ (h.fF hA l (h.cu hA _ _ (m:={ m with s:=Ch.rem ol.ag m.s (cO ol m.s l) }) (h.rm _ _ hp)))
theorem gA.rounds (h : gA ol P) (hA : wQ ol) : ∀ (n : Nat) {m : Ma},P m.s -> P (rounds ol n m).s:=by
 intro n
 induction n with
 | zero=>intro m hp;exact hp
 | succ n ih=>?_
 intro m hp;simp only [Ch.rounds]
 split
 ·refine ih ?_
  unfold round
  split
  ·split
   ·exact h.dE hA hp _
   rename_i a q _;exact h.dE hA (m:={ m with q:=q }) hp _
  exact h.dE hA hp _
 exact hp
end
theorem lD {lo : Int} (hlo : lo <= 49) (ol : Ol) : gA ol (Am lo):=⟨fun _ _ ha h=>Ga hlo h ha,fun _ _ _ h=>h,fun _ _ h=>h⟩
def yl (ss : List St) (s : Sd) : Prop:=∀ k : Nat,dh ss k = false -> bx s k = 0
theorem lE {ol : Ol} (h16 : ol.ag.length <= 16) : gA ol (fun s=>yl ol.ag s /\ s.past.length = 16):=by
 refine ⟨fun m a _ h=>?_,fun m i v h=>h,fun s left h=>?_⟩
 ·have:=(r8 m a).2
  refine ⟨fun k hk=>?_,by rw [this];exact h.2⟩;unfold bx;rw [this];exact h.1 k hk
 refine ⟨fun k hk=>?_,by show (k8 _ _ _ _ _ _).length = 16;rw [rz];exact h.2⟩;show (k8 ol.ag s.act left (min ol.ag.length 16) 0 s.past).getD k 0 = 0;rw [ya _ _ _ _ _ _ (by have:=h.2;omega)];rw [if_neg (by rintro ⟨_,_,hr⟩;unfold oM at hr;rw [hk] at hr;simp at hr)];exact h.1 k hk
theorem IW {l m : List Bool} (hl : l.length = 16) (hm : m.length = 16) (h : ∀ k,bit l k = bit m k) : l = m:=by
 apply List.ext_getElem (by omega);intro k h1 h2;have:=h k;unfold bit at this;simpa [List.getD_eq_getElem?_getD,List.getElem?_eq_getElem h1,List.getElem?_eq_getElem h2] using this
theorem ym {p : Nat -> Bool} : ∀ (l : List Nat),l.Nodup -> (∃ i ∈ l,p i = true) -> (∀ i ∈ l,∀ j ∈ l,p i = true -> p j = true -> i = j) -> l.countP p = 1:=by
 intro l
 induction l with
 | nil=>rintro _ ⟨i,hi,_⟩;cases hi
 | cons a l ih=>?_
 intro hd hex hu;rw [List.nodup_cons] at hd;rw [List.countP_cons]
 cases q : p a with
 | true =>
   have : l.countP p = 0:=by
    rw [List.countP_eq_zero];intro b hb hpb;have:=hu a (by simp) b (by simp [hb]) q hpb;subst this;exact hd.1 hb
   rw [this];rfl
 | false=>?_
 obtain ⟨i,hi,hpi⟩:=hex
 rcases List.mem_cons.1 hi with rfl | hi
 ·rw [q] at hpi;cases hpi
 rw [ih hd.2 ⟨i,hi,hpi⟩ (fun x hx y hy=>hu x (by simp [hx]) y (by simp [hy]))];rfl
theorem Gb {ss : List St} (h : nR ss) {l : List Bool} (hC : IP ss (bit l)) : allFit ss l ss.length = true:=by
 unfold allFit;rw [List.all_eq_true];intro i hi
 have hil : i < ss.length:=by simpa using hi
 unfold fits;rw [eK]
 cases q : bit l i with
 | false =>
   simp only [Bool.false_eq_true,if_false]
   have : aq ss i ≠ -1:=fun e=>by have:=h.root i hil e;subst this;rw [hC.root] at q;cases q
   simpa using this
 | true=>?_
 simp only [if_true]
 have hp : ((aq ss i != -1) && !has l (aq ss i)) = false:=by
  by_cases c : aq ss i = -1
  ·rw [c];rfl
  have a:=d_ h.up i
  obtain ⟨p,e⟩ : ∃ p : Nat,aq ss i = p:=⟨(aq ss i).toNat,by omega⟩
  rw [e,eK,hC.JH i p q e];simp
 rw [hp];simp only [Bool.false_eq_true,if_false]
 by_cases k2 : ay ss i = 2
 ·rw [k2]
  simp only [show ((2 : Int) == 2) = true from rfl,if_true]
  have : gi ss l i true = 1:=by
   unfold gi mD;obtain ⟨j,hj1,hj2⟩:=hC.JI i q k2;refine ym _ List.nodup_range ⟨j,by simpa using (bW hj1).1,by unfold vy;rw [eK,hj1,hj2];rfl⟩ ?_;intro x _ y _ hx hy;unfold vy at hx hy;rw [eK] at hx hy;simp only [Bool.and_eq_true,beq_iff_eq] at hx hy;exact hC.one i x y k2 hx.2 hy.2 hx.1 hy.1
  rw [this];rfl
 by_cases k3 : ay ss i = 3
 ·rw [k3]
  simp only [show ((3 : Int) == 2) = false from rfl,show ((3 : Int) == 3) = true from rfl,Bool.false_eq_true,if_false,if_true]
  have : gi ss l i false = 0:=by
   unfold gi mD;rw [List.countP_eq_zero];intro x _ hx;unfold vy at hx;rw [eK] at hx;simp only [Bool.and_eq_true,beq_iff_eq] at hx;rw [hC.Nj i x q k3 hx.2] at hx;cases hx.1
  rw [this];rfl
 have k5:=hC.dh i q
 have e2 : (ay ss i == 2) = false:=by simpa using k2
 have e3 : (ay ss i == 3) = false:=by simpa using k3
 have e5 : (ay ss i == 5) = false:=by simpa using k5
 rw [e2,e3,e5];rfl
theorem IX {ss : List St} {s : Sd} {t : ByteArray} (hP : iT ss s) : ∀ (f k n : Nat) (l : List Int),k + f <= ss.length -> k + f <= l.length -> n + ((List.range' k f).filter (dh ss)).length <= t.size ->
 (∀ (j i : Nat),((List.range' k f).filter (dh ss))[j]? = some i -> af t (n + j) = bx s i) ->
 ∃ l',sX ss t f k n l = some (l',n + ((List.range' k f).filter (dh ss)).length) /\ l'.length = l.length /\ ∀ j,l'.getD j 0 = if k <= j /\ j < k + f /\ dh ss j = true then bx s j else l.getD j 0:=by
 intro f
 induction f with
 | zero=>intro k n l _ _ _ _;exact ⟨l,rfl,rfl,fun j=>by rw [if_neg (by omega)]⟩
 | succ f ih=>?_
 intro k n l hs hl ht hp;rw [List.range'_succ,List.filter_cons] at ht hp ⊢;simp only [sX]
 cases q : dh ss k with
 | true =>
   rw [q] at ht hp;simp only [if_true,List.length_cons] at ht hp ⊢;have h0:=hp 0 k rfl;rw [Nat.add_zero] at h0;have hok:=hP k (by omega) q;rw [h0,hok]
   have : (decide (t.size <= n) || !true) = false:=by simp;omega
   rw [this];simp only [Bool.false_eq_true,if_false]
   obtain ⟨l',e1,e2,e3⟩:=ih (k + 1) (n + 1) (l.set k (bx s k)) (by omega) (by simp;omega) (by omega) (fun j i hj=>by
    have:=hp (j + 1) i (by simpa using hj)
    rw [show n + 1 + j = n + (j + 1) by omega];exact this)
   refine ⟨l',by rw [e1];congr 2;omega,by simpa using e2,fun j=>?_⟩;rw [e3 j]
   by_cases c : k = j
   ·subst c
    rw [if_neg (by omega),if_pos ⟨Nat.le_refl _,by omega,q⟩];simp only [List.getD_eq_getElem?_getD];rw [List.getElem?_set_self (by omega)];rfl
   have hset : (l.set k (bx s k)).getD j 0 = l.getD j 0:=by
    simp only [List.getD_eq_getElem?_getD];rw [List.getElem?_set_ne c]
   rw [hset]
   by_cases c2 : k + 1 <= j /\ j < k + 1 + f /\ dh ss j = true
   ·rw [if_pos c2,if_pos ⟨by omega,by omega,c2.2.2⟩]
   rw [if_neg c2,if_neg (by rintro ⟨a,b,d⟩;exact c2 ⟨by omega,by omega,d⟩)]
 | false=>?_
 rw [q] at ht hp;simp only [Bool.false_eq_true,if_false] at ht hp ⊢;obtain ⟨l',e1,e2,e3⟩:=ih (k + 1) n l (by omega) (by omega) ht hp;refine ⟨l',e1,e2,fun j=>?_⟩;rw [e3 j]
 by_cases c : k = j
 ·subst c;rw [if_neg (by omega),if_neg (by rintro ⟨_,_,d⟩;rw [q] at d;cases d)]
 by_cases c2 : k + 1 <= j /\ j < k + 1 + f /\ dh ss j = true
 ·rw [if_pos c2,if_pos ⟨by omega,by omega,c2.2.2⟩]
 rw [if_neg c2,if_neg (by rintro ⟨a,b,d⟩;exact c2 ⟨by omega,by omega,d⟩)]
theorem IY {t : ByteArray} (h : TL 49 (ei t)) (h16 : t.size <= 16) : fR t = true:=by
 have hev : t.size % 2 = 0:=by rw [<- bF];exact TL.even _ (Nat.le_refl _) h
 rw [IF];unfold FC
 have h1 : (decide (16 < t.size) || t.size % 2 == 1) = false:=by simp;omega
 rw [h1];simp only [Bool.not_false,Bool.true_and,List.all_eq_true,List.mem_range];intro k hk;unfold rX
 rcases Nat.mod_two_eq_zero_or_one k with e | e
 ·have hd:=TL.drop2 (k / 2) h
  rw [show 2 * (k / 2) = k by omega,fy (by omega)] at hd;rw [e];exact hd.1.1
 have hd:=TL.drop2 (k / 2) h;rw [show 2 * (k / 2) = k - 1 by omega,fy (by omega),show k - 1 + 1 = k by omega] at hd;rw [e];simp only [show ((1 : Nat) == 0) = false from rfl,Bool.false_eq_true,if_false];unfold eQ;simp;exact hd.1.2
theorem Gc {L : List RN} {ol : Ol} (o_ : L.map RN.st = ol.ag) (hO : BH ol) (hB : ∀ k,k < ol.ag.length -> 0 <= dP ol.ag k /\ dP ol.ag k < 256) {s : Sd} (hI : Inv ol s) (hZ : yl ol.ag s) (hT : Am 49 s)
 (hx : -99 <= s.x /\ s.x <= 99) (hy : -99 <= s.y /\ s.y <= 99) (hz : -99 <= s.z /\ s.z <= 99) : take ol.ag (eY ol.ag s) (fJ ol.ag s) s.tm s.x s.y s.z = (true,s):=by
 have h16:=hO.le
 have hlen : ol.ag.length = L.length:=by rw [<- o_];simp
 -- the Qq states
 obtain ⟨on,hsp,hso⟩:=Al o_ hO hB hI.conf.lt hI.la
 have hA : bz ol.ag (eY ol.ag s) = (s.act,true):=by
  unfold vZ at hsp
  rcases z_ (L:=L) (t:=eY ol.ag s) (by omega) (eY ol.ag s).size 0 (-1) _ _ (Ni L.length) (by omega) with ⟨e1,_⟩ | ⟨on',l',e1,e2,hs⟩
  ·rw [hsp] at e1;cases e1
  rw [hsp] at e1
  obtain rfl : on = on':=by simpa using e1
  have hl' : l' = s.act:=IW hs.2.1 hI.la (fun k=>by rw [<- hs.2.2 k,hso.2.2 k]);subst hl';rw [o_] at e2;unfold bz lZ;rw [e2];simp only;rw [Gb hO.FK hI.conf];rfl
 -- what is Lh
 have hpb : ∀ k,k < ol.ag.length -> dh ol.ag k = true -> 0 <= bx s k /\ bx s k < 256:=by
  intro k hk hh;have:=hI.past k hk hh;unfold iK at this
  split at this
  ·rename_i c;have : bx s k = 45:=by simpa using c
   omega
  unfold aw at this
  cases q : kU ol.ag (place ol.ag (bx s k)) with
  | none=>rw [q] at this;cases this
  | some x=>?_
  obtain ⟨i,e,hi,hil⟩:=fQ q
  rcases gZ (bx s k) ol.ag 0 with ⟨e2,_⟩ | ⟨i2,s2,h1,h2,h3,_⟩
  ·unfold place at e;rw [e2] at e;omega
  have : dP ol.ag i2 = bx s k:=by unfold dP;rw [h1];exact h2
  rw [<- this];exact hB i2 (List.getElem?_eq_some_iff.1 h1).1
 have hm : min ol.ag.length 16 = ol.ag.length:=by omega
 have Np : ei (fJ ol.ag s) = ((List.range ol.ag.length).filter (dh ol.ag)).map (bx s):=by
  unfold fJ fu;rw [hm];refine jq (fun x hx=>?_);obtain ⟨k,hk,rfl⟩:=List.mem_map.1 hx;have:=List.mem_filter.1 hk;exact hpb k (by simpa using this.1) this.2
 have hsz : (fJ ol.ag s).size = ((List.range ol.ag.length).filter (dh ol.ag)).length:=by rw [<- bF,Np];simp
 have Ux : bf ol.ag (fJ ol.ag s) = (s.past,true):=by
  obtain ⟨l',e1,e2,e3⟩:=IX (t:=fJ ol.ag s) hI.past ol.ag.length 0 0 (b_ ol.ag) (by omega) (by rw [c_];omega)
   (by rw [hsz,List.range_eq_range'];omega)
   (fun j i hj=>by
    rw [Nat.zero_add];rw [<- List.range_eq_range'] at hj
    exact (FW Np (k:=j) (x:=bx s i) (by rw [List.getElem?_map,hj];rfl)).1)
  have hl' : l' = s.past:=by
   apply List.ext_getElem (by rw [e2,c_,hI.lp]);intro k h1 h2;have hk:=e3 k
   have ha : l'.getD k 0 = l'[k]:=by simp [List.getD_eq_getElem?_getD,List.getElem?_eq_getElem h1]
   have hb : bx s k = s.past[k]:=by unfold bx;simp [List.getD_eq_getElem?_getD,List.getElem?_eq_getElem h2]
   rw [ha] at hk;rw [hk,<- hb]
   split
   ·rfl
   rename_i c
   have hh : dh ol.ag k = false:=by
    cases q : dh ol.ag k with
    | false=>rfl
    | true=>?_
    exfalso
    have : k < ol.ag.length:=by
     unfold dh at q
     cases q2 : ol.ag[k]? with
     | none=>rw [q2] at q;cases q
     | some x=>exact (List.getElem?_eq_some_iff.1 q2).1
    exact c ⟨by omega,by omega,q⟩
   rw [hZ k hh]
   have zE : k < 16:=by rw [hI.lp] at h2;exact h2
   show (dZ ol.ag 16).getD k 0 = 0;unfold dZ;simp [List.getD_eq_getElem?_getD,zE,hh]
  unfold bf;rw [hm,e1];simp only;rw [<- List.range_eq_range',<- hsz,hl'];simp
 unfold take;rw [hA,Ux]
 have Uy : (fR s.tm && om s.x && om s.y && om s.z) = true:=by
  rw [IY hT.1 hT.2];unfold om;simp;omega
 rw [Uy];rfl
/-! A chart at rest;an event that none waits for. -/
def jD (a b : Sd) : Prop:=a.act = b.act /\ a.x = b.x /\ a.y = b.y /\ a.z = b.z
theorem Ge {a b : Sd} (h : jD a b) (g : Gd) : holds a g = holds b g:=by
 obtain ⟨_,h1,h2,h3⟩:=h;unfold holds var;rw [h1,h2,h3]
theorem An {a b : Sd} (h : jD a b) (st trg : Int) : ∀ (l : List Tr) (k : Nat),ec a st trg l k = ec b st trg l k:=by
 intro l
 induction l with
 | nil=>intro k;rfl
 | cons t l ih=>intro k;simp only [ec];unfold pF;rw [Ge h,ih]
theorem wm {a b : Sd} (h : jD a b) (ol : Ol) (trg : Int) : ∀ (f : Nat) (i : Int),bT ol a trg f i = bT ol b trg f i:=by
 intro f
 induction f with
 | zero=>intro i;rfl
 | succ f ih=>intro i;simp only [bT];unfold iM;rw [An h,ih]
theorem Gf {a b : Sd} (h : jD a b) (ol : Ol) (trg : Int) : ∀ (f k : Nat) (fl : List Int),findF ol a trg f k fl = findF ol b trg f k fl:=by
 intro f
 induction f with
 | zero=>intro k fl;rfl
 | succ f ih=>?_
 intro k fl;simp only [findF]
 have : dQ ol a trg fl k = dQ ol b trg fl k:=by
  unfold dQ dC;rw [h.1,wm h]
 rw [this,ih]
theorem uQ {a b : Sd} (h : jD a b) (ol : Ol) (t : Nat) : leaves ol a t = leaves ol b t:=by unfold leaves;rw [h.1]
theorem Du {a b : Sd} (h : jD a b) (ol : Ol) (t : Nat) : ∀ (l kept : List Int),dI ol a t l kept = dI ol b t l kept:=by
 intro l
 induction l with
 | nil=>intro kept;rfl
 | cons x l ih=>intro kept;simp only [dI];rw [uQ h,uQ h,ih,ih]
theorem Ao {a b : Sd} (h : jD a b) (ol : Ol) : ∀ (l acc : List Int),dD ol a l acc = dD ol b l acc:=by
 intro l
 induction l with
 | nil=>intro acc;rfl
 | cons x l ih=>?_
 intro acc;simp only [dD]
 have : admis ol a acc x.toNat = admis ol b acc x.toNat:=by unfold admis;rw [Du h]
 rw [this,ih]
theorem Dv {a b : Sd} (h : jD a b) (ol : Ol) (trg : Int) : choose ol a trg = choose ol b trg:=by
 unfold choose find;rw [Gf h,Ao h]
def JJ (ol : Ol) (s : Sd) : Prop:=choose ol s 46 = []
theorem Li {ol : Ol} {m : Ma} (h : busy ol m = false) : JJ ol m.s /\ m.q = []:=by
 unfold busy at h;simp only [Bool.or_eq_false_iff,decide_eq_false_iff_not] at h;exact ⟨List.length_eq_zero_iff.1 (by omega),List.length_eq_zero_iff.1 (by omega)⟩
theorem sd {ol : Ol} {n : Nat} {m : Ma} (h : (finish ol n m).2.2 = 0) : JJ ol (finish ol n m).1:=by
 unfold finish at h ⊢
 cases q : busy ol (rounds ol n m) with
 | true=>rw [q] at h;simp at h
 | false=>simp only [Bool.false_eq_true,if_false];exact (Li q).1
theorem Ap (s : Sd) : jD (aQ s).2.2 s:=by
 unfold aQ;split <;> exact ⟨rfl,rfl,rfl,rfl⟩
theorem JJ.av {ol : Ol} {a b : Sd} (h : JJ ol b) (e : jD a b) : JJ ol a:=by unfold JJ;rw [Dv e];exact h
def ag (l : List NV) : List St:=(mk l).map RN.st
def dm (ss : List St) (tg d : Int) : Int:=mF ss tg (d + 1).toNat d
theorem ui {ol : Ol} (h16 : ol.ag.length <= 16) (s : Sd) (a b : Nat) : meets (leaves ol s a) (leaves ol s b) = (List.range ol.ag.length).any (fun j=>lv ol s a j && lv ol s b j):=by
 have h:=x8 h16 (s:=s) (a:=(a : Int)) (b:=(b : Int));simp only [Int.toNat_natCast] at h
 cases q : (List.range ol.ag.length).any (fun j=>lv ol s a j && lv ol s b j) with
 | false =>
   rw [h];intro j hj;rw [List.any_eq_false] at q
   have hjl : j < ol.ag.length:=by
    obtain ⟨x,hx⟩:=wj hj.1;exact ((ko hx j).1 hj.1).2.1
   exact q j (by simpa using hjl) (by rw [hj.1,hj.2];rfl)
 | true=>?_
 rw [List.any_eq_true] at q;obtain ⟨j,_,hj⟩:=q;simp only [Bool.and_eq_true] at hj
 cases q2 : meets (leaves ol s a) (leaves ol s b) with
 | true=>rfl
 | false=>exact absurd hj ((h.1 q2) j)
def Sw (ol : Ol) : Prop:=∀ k,0 <= dP ol.ag k /\ dP ol.ag k < 256
def m0 (ol : Ol) : Ma:=⟨bp ol.ag,[],[]⟩
end Ch
end Go.Proofs.YtnlbchmfcebeeaaGreat
