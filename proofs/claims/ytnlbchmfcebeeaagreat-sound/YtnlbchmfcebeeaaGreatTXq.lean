import Derived.Test.YtnlbchmfcebeeaaGreatTXp
set_option maxHeartbeats 12800000
set_option maxRecDepth 100000
namespace Go.Proofs.YtnlbchmfcebeeaaGreat
namespace Ch
/-! What a stand tells is one of the chart's states,and that stand again. -/
def TL (lo : Int) : List Int → Prop
 | a :: b :: l=>(isEv a = true ∧ lo ≤ b ∧ b ≤ 57) ∧ TL lo l
 | [_]=>False
 | []=>True
theorem TL.even {lo : Int} : ∀ (n : Nat) {l : List Int},l.length ≤ n → TL lo l → l.length % 2 = 0:=by
 intro n
 induction n with
 | zero=>intro l hl _;have : l = []:=List.length_eq_zero_iff.1 (by omega);subst this;rfl
 | succ n ih=>?_
 intro l hl h
 match l,h with
 | [],_=>rfl
 | a :: b :: l,h=>have:=ih (l:=l) (by simp at hl;omega) h.2;simp;omega
theorem TL.append {lo : Int} : ∀ (n : Nat) {a b : List Int},a.length ≤ n → TL lo a → TL lo b → TL lo (a ++ b):=by
 intro n
 induction n with
 | zero=>intro a b hl _ hb;have : a = []:=List.length_eq_zero_iff.1 (by omega);subst this;exact hb
 | succ n ih=>?_
 intro a b hl ha hb
 match a,ha with
 | [],_=>exact hb
 | x :: y :: a,ha=>exact ⟨ha.1,ih (by simp at hl;omega) ha.2 hb⟩
theorem TL.drop2 {lo : Int} : ∀ (n : Nat) {l : List Int},TL lo l → TL lo (l.drop (2 * n)):=by
 intro n
 induction n with
 | zero=>intro l h;simpa using h
 | succ n ih=>?_
 intro l h
 match l,h with
 | [],_=>simp [TL]
 | a :: b :: l,h=>rw [show 2 * (n + 1) = 2 * n + 1 + 1 by omega];simpa using ih h.2
theorem TL.take2 {lo : Int} : ∀ (n : Nat) {l : List Int},TL lo l → TL lo (l.take (2 * n)):=by
 intro n
 induction n with
 | zero=>intro l _;simp [TL]
 | succ n ih=>?_
 intro l h
 match l,h with
 | [],_=>simp [TL]
 | a :: b :: l,h=>rw [show 2 * (n + 1) = 2 * n + 1 + 1 by omega];exact ⟨h.1,ih h.2⟩
def TmL (lo : Int) (s : Sd) : Prop:=TL lo (bys s.tm) ∧ s.tm.size ≤ 16
theorem cbF_tl {lo : Int} (t : ByteArray) (c : Int) : ∀ (f k : Nat) (acc : List Int),TL lo acc → TL lo ((bys t).drop k) → TL lo (cbF t c f k acc):=by
 intro f
 induction f with
 | zero=>intro k acc h _;exact h
 | succ f ih=>?_
 intro k acc h hb;simp only [cbF]
 split
 ·rename_i c1
  rw [bys_drop2 c1] at hb
  split
  ·exact ih _ _ (TL.append acc.length (Nat.le_refl _) h ⟨hb.1,trivial⟩) hb.2
  exact ih _ _ h hb.2
 exact h
theorem doAct_tl {lo : Int} (hlo : lo ≤ 49) {m : Ma} (h : TmL lo m.s) {a : Ac} (ha : AcV a) : TmL lo (doAct m a).2.s:=by
 unfold doAct
 split
 ·exact h
 split
 ·rename_i c2
  unfold send
  split
  ·exact h
  rename_i c3;obtain ⟨h1,h2⟩:=h
  have e : a.sign = 64:=by simpa using c2
  have hd : isEv a.letter = true ∧ 1 ≤ a.digit ∧ a.digit ≤ 9:=by
   rcases ha with ⟨hs,_⟩ | ⟨_,h3⟩ | ⟨hs,_⟩
   ·omega
   ·exact h3
   omega
  have hb:=ha.byte
  have hev : m.s.tm.size % 2 = 0:=by rw [← bys_len];exact TL.even _ (Nat.le_refl _) h1
  refine ⟨?_,?_⟩
  ·show TL lo (bys (m.s.tm ++ strOfNums [a.letter,48 + a.digit]))
   rw [bys_append,bys_str (by intro x hx;simp at hx;omega)];exact TL.append _ (Nat.le_refl _) h1 ⟨⟨hd.1,by omega,by omega⟩,trivial⟩
  show (m.s.tm ++ strOfNums [a.letter,48 + a.digit]).size ≤ 16;rw [ByteArray.size_append,strOfNums_size];simp;omega
 split
 ·obtain ⟨h1,h2⟩:=h
  obtain ⟨_,_,g3⟩:=cbF_dc m.s.tm a.letter m.s.tm.size 0 [] rfl (by simp);refine ⟨?_,?_⟩
  ·show TL lo (bys (strOfNums (cbF m.s.tm a.letter m.s.tm.size 0 [])))
   rw [bys_str g3];exact cbF_tl _ _ _ _ _ trivial (by simpa using h1)
  show (strOfNums (cbF m.s.tm a.letter m.s.tm.size 0 [])).size ≤ 16;rw [strOfNums_size];have:=cbF_len m.s.tm a.letter m.s.tm.size 0 [] (Nat.le_refl _) (Nat.zero_le _);omega
 split
 ·exact h
 have : (setV m.s a.letter (newVal m.s a)).tm = m.s.tm:=by
  unfold setV setVar
  split
  ·split
   ·rfl
   split <;> rfl
  rfl
 show TmL lo (setV m.s a.letter (newVal m.s a));unfold TmL;rw [this];exact h
structure Keeps (ol : Ol) (P : Sd → Prop) : Prop where
 act : ∀ (m : Ma) (a : Ac),AcV a → P m.s → P (doAct m a).2.s
 set : ∀ (m : Ma) (i : Int) (v : Bool),P m.s → P (setAct m i v).s
 rm : ∀ (s : Sd) (left : List Bool),P s → P (rem ol.sts s left)
section
variable {ol : Ol} {P : Sd → Prop}
theorem Keeps.acts (h : Keeps ol P) : ∀ (l : List Ac) {m : Ma},P m.s → (∀ a ∈ l,AcV a) → P (doActs l m).s:=by
 intro l
 induction l with
 | nil=>intro m hp _;exact hp
 | cons a l ih=>?_
 intro m hp ha;simp only [doActs];have h1:=h.act m a (ha a (by simp)) hp
 split
 ·exact ih h1 (fun b hb=>ha b (by simp [hb]))
 exact h1
theorem Keeps.bls (h : Keeps ol P) {k : Nat} {sg : Int} (hsg : sg = 94 ∨ sg = 36) : ∀ (l : List Bl) {m : Ma},(∀ b ∈ l,∀ k : Nat,∀ sg : Int,b.state = k → b.sign = sg → (sg = 94 ∨ sg = 36) → ∀ a ∈ b.acts,AcV a) → P m.s → P (doBls k sg l m).s:=by
 intro l
 induction l with
 | nil=>intro m _ hp;exact hp
 | cons b l ih=>?_
 intro m hA hp;simp only [doBls];refine ih (fun b hb=>hA b (by simp [hb])) ?_
 split
 ·rename_i c
  simp only [Bool.and_eq_true,beq_iff_eq] at c;exact h.acts _ hp (hA b (by simp) k sg c.1 c.2 hsg)
 exact hp
theorem Keeps.enterSt (h : Keeps ol P) (hA : AcA ol) {m : Ma} (hp : P m.s) (k : Nat) : P (enterSt ol m k).s:=by
 have h1:=h.bls (k:=k) (.inl rfl) ol.bls hA.bl (h.set m k true hp);unfold Ch.enterSt
 split
 ·rw [(tellEnd_s _ _ _).1];exact h1
 exact h1
theorem Keeps.enterF (h : Keeps ol P) (hA : AcA ol) (st : List Bool) (gl : List Int) : ∀ (f k : Nat) {m : Ma},P m.s → P (enterF ol st gl f k m).s:=by
 intro f
 induction f with
 | zero=>intro k m hp;exact hp
 | succ f ih=>?_
 intro k m hp;simp only [Ch.enterF];refine ih _ ?_
 split
 ·exact h.enterSt hA hp k
 exact hp
theorem Keeps.leaveF (h : Keeps ol P) (hA : AcA ol) (left : List Bool) : ∀ (k : Nat) {m : Ma},P m.s → P (leaveF ol left k m).s:=by
 intro k
 induction k with
 | zero=>intro m hp;exact hp
 | succ k ih=>?_
 intro m hp;simp only [Ch.leaveF];refine ih ?_
 split
 ·exact h.set _ _ _ (h.bls (.inr rfl) ol.bls hA.bl hp)
 exact hp
theorem Keeps.doTrs (h : Keeps ol P) (hA : AcA ol) : ∀ (l : List Int) {m : Ma},P m.s → P (doTrs ol l m).s:=by
 intro l
 induction l with
 | nil=>intro m hp;exact hp
 | cons x l ih=>?_
 intro m hp;simp only [Ch.doTrs];refine ih (h.acts _ hp ?_);unfold actsOf
 split
 ·rename_i y hy;exact hA.tr y (List.mem_of_getElem? hy)
 simp
theorem Keeps.micro (h : Keeps ol P) (hA : AcA ol) {m : Ma} (hp : P m.s) (l : List Int) : P (micro ol m l).s :=
 h.enterF hA _ _ _ _ (h.doTrs hA l (h.leaveF hA _ _ (m:={ m with s:=Ch.rem ol.sts m.s (leftAll ol m.s l) }) (h.rm _ _ hp)))
theorem Keeps.rounds (h : Keeps ol P) (hA : AcA ol) : ∀ (n : Nat) {m : Ma},P m.s → P (rounds ol n m).s:=by
 intro n
 induction n with
 | zero=>intro m hp;exact hp
 | succ n ih=>?_
 intro m hp;simp only [Ch.rounds]
 split
 ·refine ih ?_
  unfold round
  split
  ·split
   ·exact h.micro hA hp _
   rename_i a q _;exact h.micro hA (m:={ m with q:=q }) hp _
  exact h.micro hA hp _
 exact hp
end
theorem keeps_tl {lo : Int} (hlo : lo ≤ 49) (ol : Ol) : Keeps ol (TmL lo):=⟨fun _ _ ha h=>doAct_tl hlo h ha,fun _ _ _ h=>h,fun _ _ h=>h⟩
def PastZ (ss : List St) (s : Sd) : Prop:=∀ k : Nat,hist ss k = false → pastAt s k = 0
theorem keeps_pz {ol : Ol} (h16 : ol.sts.length ≤ 16) : Keeps ol (fun s=>PastZ ol.sts s ∧ s.past.length = 16):=by
 refine ⟨fun m a _ h=>?_,fun m i v h=>h,fun s left h=>?_⟩
 ·have:=(doAct_ap m a).2
  refine ⟨fun k hk=>?_,by rw [this];exact h.2⟩;unfold pastAt;rw [this];exact h.1 k hk
 refine ⟨fun k hk=>?_,by show (remF _ _ _ _ _ _).length = 16;rw [remF_len];exact h.2⟩;show (remF ol.sts s.act left (min ol.sts.length 16) 0 s.past).getD k 0 = 0;rw [remF_get _ _ _ _ _ _ (by have:=h.2;omega)];rw [if_neg (by rintro ⟨_,_,hr⟩;unfold remP at hr;rw [hk] at hr;simp at hr)];exact h.1 k hk
theorem bits_eq {l m : List Bool} (hl : l.length = 16) (hm : m.length = 16) (h : ∀ k,bit l k = bit m k) : l = m:=by
 apply List.ext_getElem (by omega);intro k h1 h2;have:=h k;unfold bit at this;simpa [List.getD_eq_getElem?_getD,List.getElem?_eq_getElem h1,List.getElem?_eq_getElem h2] using this
theorem countP_uniq {p : Nat → Bool} : ∀ (l : List Nat),l.Nodup → (∃ i ∈ l,p i = true) → (∀ i ∈ l,∀ j ∈ l,p i = true → p j = true → i = j) → l.countP p = 1:=by
 intro l
 induction l with
 | nil=>rintro _ ⟨i,hi,_⟩;cases hi
 | cons a l ih=>?_
 intro hd hex hu;rw [List.nodup_cons] at hd;rw [List.countP_cons]
 cases q : p a with
 | true =>
   have : l.countP p = 0:=by
    rw [List.countP_eq_zero];intro b hb hpb;have:=hu a (by simp) b (by simp [hb]) q hpb;subst this;exact hd.1 hb
   rw [this];rfl
 | false=>?_
 obtain ⟨i,hi,hpi⟩:=hex
 rcases List.mem_cons.1 hi with rfl | hi
 ·rw [q] at hpi;cases hpi
 rw [ih hd.2 ⟨i,hi,hpi⟩ (fun x hx y hy=>hu x (by simp [hx]) y (by simp [hy]))];rfl
theorem fit_conf {ss : List St} (h : Shp ss) {l : List Bool} (hC : Conf ss (bit l)) : allFit ss l ss.length = true:=by
 unfold allFit;rw [List.all_eq_true];intro i hi
 have hil : i < ss.length:=by simpa using hi
 unfold fits;rw [has_nat]
 cases q : bit l i with
 | false =>
   simp only [Bool.false_eq_true,if_false]
   have : parAt ss i ≠ -1:=fun e=>by have:=h.root i hil e;subst this;rw [hC.root] at q;cases q
   simpa using this
 | true=>?_
 simp only [if_true]
 have hp : ((parAt ss i != -1) && !has l (parAt ss i)) = false:=by
  by_cases c : parAt ss i = -1
  ·rw [c];rfl
  have a:=par_low h.up i
  obtain ⟨p,e⟩ : ∃ p : Nat,parAt ss i = p:=⟨(parAt ss i).toNat,by omega⟩
  rw [e,has_nat,hC.upc i p q e];simp
 rw [hp];simp only [Bool.false_eq_true,if_false]
 by_cases k2 : kindAt ss i = 2
 ·rw [k2]
  simp only [show ((2 : Int) == 2) = true from rfl,if_true]
  have : countCh ss l i true = 1:=by
   unfold countCh cntK;obtain ⟨j,hj1,hj2⟩:=hC.some2 i q k2;refine countP_uniq _ List.nodup_range ⟨j,by simpa using (child_in hj1).1,by unfold cntP;rw [has_nat,hj1,hj2];rfl⟩ ?_;intro x _ y _ hx hy;unfold cntP at hx hy;rw [has_nat] at hx hy;simp only [Bool.and_eq_true,beq_iff_eq] at hx hy;exact hC.one i x y k2 hx.2 hy.2 hx.1 hy.1
  rw [this];rfl
 by_cases k3 : kindAt ss i = 3
 ·rw [k3]
  simp only [show ((3 : Int) == 2) = false from rfl,show ((3 : Int) == 3) = true from rfl,Bool.false_eq_true,if_false,if_true]
  have : countCh ss l i false = 0:=by
   unfold countCh cntK;rw [List.countP_eq_zero];intro x _ hx;unfold cntP at hx;rw [has_nat] at hx;simp only [Bool.and_eq_true,beq_iff_eq] at hx;rw [hC.all3 i x q k3 hx.2] at hx;cases hx.1
  rw [this];rfl
 have k5:=hC.hist i q
 have e2 : (kindAt ss i == 2) = false:=by simpa using k2
 have e3 : (kindAt ss i == 3) = false:=by simpa using k3
 have e5 : (kindAt ss i == 5) = false:=by simpa using k5
 rw [e2,e3,e5];rfl
theorem tpF_out {ss : List St} {s : Sd} {t : ByteArray} (hP : PastOk ss s) : ∀ (f k n : Nat) (l : List Int),k + f ≤ ss.length → k + f ≤ l.length → n + ((List.range' k f).filter (hist ss)).length ≤ t.size →
 (∀ (j i : Nat),((List.range' k f).filter (hist ss))[j]? = some i → peek t (n + j) = pastAt s i) →
 ∃ l',tpF ss t f k n l = some (l',n + ((List.range' k f).filter (hist ss)).length) ∧ l'.length = l.length ∧ ∀ j,l'.getD j 0 = if k ≤ j ∧ j < k + f ∧ hist ss j = true then pastAt s j else l.getD j 0:=by
 intro f
 induction f with
 | zero=>intro k n l _ _ _ _;exact ⟨l,rfl,rfl,fun j=>by rw [if_neg (by omega)]⟩
 | succ f ih=>?_
 intro k n l hs hl ht hp;rw [List.range'_succ,List.filter_cons] at ht hp ⊢;simp only [tpF]
 cases q : hist ss k with
 | true =>
   rw [q] at ht hp;simp only [if_true,List.length_cons] at ht hp ⊢;have h0:=hp 0 k rfl;rw [Nat.add_zero] at h0;have hok:=hP k (by omega) q;rw [h0,hok]
   have : (decide (t.size ≤ n) || !true) = false:=by simp;omega
   rw [this];simp only [Bool.false_eq_true,if_false]
   obtain ⟨l',e1,e2,e3⟩:=ih (k + 1) (n + 1) (l.set k (pastAt s k)) (by omega) (by simp;omega) (by omega) (fun j i hj=>by
    have:=hp (j + 1) i (by simpa using hj)
    rw [show n + 1 + j = n + (j + 1) by omega];exact this)
   refine ⟨l',by rw [e1];congr 2;omega,by simpa using e2,fun j=>?_⟩;rw [e3 j]
   by_cases c : k = j
   ·subst c
    rw [if_neg (by omega),if_pos ⟨Nat.le_refl _,by omega,q⟩];simp only [List.getD_eq_getElem?_getD];rw [List.getElem?_set_self (by omega)];rfl
   have hset : (l.set k (pastAt s k)).getD j 0 = l.getD j 0:=by
    simp only [List.getD_eq_getElem?_getD];rw [List.getElem?_set_ne c]
   rw [hset]
   by_cases c2 : k + 1 ≤ j ∧ j < k + 1 + f ∧ hist ss j = true
   ·rw [if_pos c2,if_pos ⟨by omega,by omega,c2.2.2⟩]
   rw [if_neg c2,if_neg (by rintro ⟨a,b,d⟩;exact c2 ⟨by omega,by omega,d⟩)]
 | false=>?_
 rw [q] at ht hp;simp only [Bool.false_eq_true,if_false] at ht hp ⊢;obtain ⟨l',e1,e2,e3⟩:=ih (k + 1) n l (by omega) (by omega) ht hp;refine ⟨l',e1,e2,fun j=>?_⟩;rw [e3 j]
 by_cases c : k = j
 ·subst c;rw [if_neg (by omega),if_neg (by rintro ⟨_,_,d⟩;rw [q] at d;cases d)]
 by_cases c2 : k + 1 ≤ j ∧ j < k + 1 + f ∧ hist ss j = true
 ·rw [if_pos c2,if_pos ⟨by omega,by omega,c2.2.2⟩]
 rw [if_neg c2,if_neg (by rintro ⟨a,b,d⟩;exact c2 ⟨by omega,by omega,d⟩)]
theorem sent_tl {t : ByteArray} (h : TL 49 (bys t)) (h16 : t.size ≤ 16) : areTm t = true:=by
 have hev : t.size % 2 = 0:=by rw [← bys_len];exact TL.even _ (Nat.le_refl _) h
 rw [sent_eq];unfold sentR
 have h1 : (decide (16 < t.size) || t.size % 2 == 1) = false:=by simp;omega
 rw [h1];simp only [Bool.not_false,Bool.true_and,List.all_eq_true,List.mem_range];intro k hk;unfold sentK
 rcases Nat.mod_two_eq_zero_or_one k with e | e
 ·have hd:=TL.drop2 (k / 2) h
  rw [show 2 * (k / 2) = k by omega,bys_drop2 (by omega)] at hd;rw [e];exact hd.1.1
 have hd:=TL.drop2 (k / 2) h;rw [show 2 * (k / 2) = k - 1 by omega,bys_drop2 (by omega),show k - 1 + 1 = k by omega] at hd;rw [e];simp only [show ((1 : Nat) == 0) = false from rfl,Bool.false_eq_true,if_false];unfold isDg;simp;exact hd.1.2
theorem take_out {L : List RN} {ol : Ol} (hsts : L.map RN.st = ol.sts) (hO : OlS ol) (hB : ∀ k,k < ol.sts.length → 0 ≤ nmAt ol.sts k ∧ nmAt ol.sts k < 256) {s : Sd} (hI : Inv ol s) (hZ : PastZ ol.sts s) (hT : TmL 49 s)
 (hx : -99 ≤ s.x ∧ s.x ≤ 99) (hy : -99 ≤ s.y ∧ s.y ≤ 99) (hz : -99 ≤ s.z ∧ s.z ≤ 99) : take ol.sts (outAct ol.sts s) (outPast ol.sts s) s.tm s.x s.y s.z = (true,s):=by
 have h16:=hO.le
 have hlen : ol.sts.length = L.length:=by rw [← hsts];simp
 -- the active states
 obtain ⟨on,hsp,hso⟩:=spread_out hsts hO hB hI.conf.lt hI.la
 have hA : takeActV ol.sts (outAct ol.sts s) = (s.act,true):=by
  unfold spreadR at hsp
  rcases spreadF_eq (L:=L) (t:=outAct ol.sts s) (by omega) (outAct ol.sts s).size 0 (-1) _ _ (same0 L.length) (by omega) with ⟨e1,_⟩ | ⟨on',l',e1,e2,hs⟩
  ·rw [hsp] at e1;cases e1
  rw [hsp] at e1
  obtain rfl : on = on':=by simpa using e1
  have hl' : l' = s.act:=bits_eq hs.2.1 hI.la (fun k=>by rw [← hs.2.2 k,hso.2.2 k]);subst hl';rw [hsts] at e2;unfold takeActV takeAct;rw [e2];simp only;rw [fit_conf hO.shp hI.conf];rfl
 -- what is remembered
 have hpb : ∀ k,k < ol.sts.length → hist ol.sts k = true → 0 ≤ pastAt s k ∧ pastAt s k < 256:=by
  intro k hk hh;have:=hI.past k hk hh;unfold isPast at this
  split at this
  ·rename_i c;have : pastAt s k = 45:=by simpa using c
   omega
  unfold isChild at this
  cases q : stAt ol.sts (place ol.sts (pastAt s k)) with
  | none=>rw [q] at this;cases this
  | some x=>?_
  obtain ⟨i,e,hi,hil⟩:=stAt_some q
  rcases placeF_spec (pastAt s k) ol.sts 0 with ⟨e2,_⟩ | ⟨i2,s2,h1,h2,h3,_⟩
  ·unfold place at e;rw [e2] at e;omega
  have : nmAt ol.sts i2 = pastAt s k:=by unfold nmAt;rw [h1];exact h2
  rw [← this];exact hB i2 (List.getElem?_eq_some_iff.1 h1).1
 have hm : min ol.sts.length 16 = ol.sts.length:=by omega
 have hbys : bys (outPast ol.sts s) = ((List.range ol.sts.length).filter (hist ol.sts)).map (pastAt s):=by
  unfold outPast pstK;rw [hm];refine bys_str (fun x hx=>?_);obtain ⟨k,hk,rfl⟩:=List.mem_map.1 hx;have:=List.mem_filter.1 hk;exact hpb k (by simpa using this.1) this.2
 have hsz : (outPast ol.sts s).size = ((List.range ol.sts.length).filter (hist ol.sts)).length:=by rw [← bys_len,hbys];simp
 have hPp : takePastV ol.sts (outPast ol.sts s) = (s.past,true):=by
  obtain ⟨l',e1,e2,e3⟩:=tpF_out (t:=outPast ol.sts s) hI.past ol.sts.length 0 0 (blankP ol.sts) (by omega) (by rw [blankP_len];omega)
   (by rw [hsz,List.range_eq_range'];omega)
   (fun j i hj=>by
    rw [Nat.zero_add];rw [← List.range_eq_range'] at hj
    exact (bys_at hbys (k:=j) (x:=pastAt s i) (by rw [List.getElem?_map,hj];rfl)).1)
  have hl' : l' = s.past:=by
   apply List.ext_getElem (by rw [e2,blankP_len,hI.lp]);intro k h1 h2;have hk:=e3 k
   have ha : l'.getD k 0 = l'[k]:=by simp [List.getD_eq_getElem?_getD,List.getElem?_eq_getElem h1]
   have hb : pastAt s k = s.past[k]:=by unfold pastAt;simp [List.getD_eq_getElem?_getD,List.getElem?_eq_getElem h2]
   rw [ha] at hk;rw [hk,← hb]
   split
   ·rfl
   rename_i c
   have hh : hist ol.sts k = false:=by
    cases q : hist ol.sts k with
    | false=>rfl
    | true=>?_
    exfalso
    have : k < ol.sts.length:=by
     unfold hist at q
     cases q2 : ol.sts[k]? with
     | none=>rw [q2] at q;cases q
     | some x=>exact (List.getElem?_eq_some_iff.1 q2).1
    exact c ⟨by omega,by omega,q⟩
   rw [hZ k hh]
   have hk16 : k < 16:=by rw [hI.lp] at h2;exact h2
   show (blankK ol.sts 16).getD k 0 = 0;unfold blankK;simp [List.getD_eq_getElem?_getD,hk16,hh]
  unfold takePastV;rw [hm,e1];simp only;rw [← List.range_eq_range',← hsz,hl'];simp
 unfold take;rw [hA,hPp]
 have hxx : (areTm s.tm && inB s.x && inB s.y && inB s.z) = true:=by
  rw [sent_tl hT.1 hT.2];unfold inB;simp;omega
 rw [hxx];rfl
/-! A chart at rest;an event that none waits for. -/
def SameAV (a b : Sd) : Prop:=a.act = b.act ∧ a.x = b.x ∧ a.y = b.y ∧ a.z = b.z
theorem holds_av {a b : Sd} (h : SameAV a b) (g : Gd) : holds a g = holds b g:=by
 obtain ⟨_,h1,h2,h3⟩:=h;unfold holds var;rw [h1,h2,h3]
theorem findInF_av {a b : Sd} (h : SameAV a b) (st trg : Int) : ∀ (l : List Tr) (k : Nat),findInF a st trg l k = findInF b st trg l k:=by
 intro l
 induction l with
 | nil=>intro k;rfl
 | cons t l ih=>intro k;simp only [findInF];unfold findP;rw [holds_av h,ih]
theorem findFromF_av {a b : Sd} (h : SameAV a b) (ol : Ol) (trg : Int) : ∀ (f : Nat) (i : Int),findFromF ol a trg f i = findFromF ol b trg f i:=by
 intro f
 induction f with
 | zero=>intro i;rfl
 | succ f ih=>intro i;simp only [findFromF];unfold findIn;rw [findInF_av h,ih]
theorem findF_av {a b : Sd} (h : SameAV a b) (ol : Ol) (trg : Int) : ∀ (f k : Nat) (fl : List Int),findF ol a trg f k fl = findF ol b trg f k fl:=by
 intro f
 induction f with
 | zero=>intro k fl;rfl
 | succ f ih=>?_
 intro k fl;simp only [findF]
 have : findStep ol a trg fl k = findStep ol b trg fl k:=by
  unfold findStep findFrom;rw [h.1,findFromF_av h]
 rw [this,ih]
theorem leaves_av {a b : Sd} (h : SameAV a b) (ol : Ol) (t : Nat) : leaves ol a t = leaves ol b t:=by unfold leaves;rw [h.1]
theorem admitF_av {a b : Sd} (h : SameAV a b) (ol : Ol) (t : Nat) : ∀ (l kept : List Int),admitF ol a t l kept = admitF ol b t l kept:=by
 intro l
 induction l with
 | nil=>intro kept;rfl
 | cons x l ih=>intro kept;simp only [admitF];rw [leaves_av h,leaves_av h,ih,ih]
theorem chooseF_av {a b : Sd} (h : SameAV a b) (ol : Ol) : ∀ (l acc : List Int),chooseF ol a l acc = chooseF ol b l acc:=by
 intro l
 induction l with
 | nil=>intro acc;rfl
 | cons x l ih=>?_
 intro acc;simp only [chooseF]
 have : admis ol a acc x.toNat = admis ol b acc x.toNat:=by unfold admis;rw [admitF_av h]
 rw [this,ih]
theorem choose_av {a b : Sd} (h : SameAV a b) (ol : Ol) (trg : Int) : choose ol a trg = choose ol b trg:=by
 unfold choose find;rw [findF_av h,chooseF_av h]
def Stb (ol : Ol) (s : Sd) : Prop:=choose ol s 46 = []
theorem stb_of {ol : Ol} {m : Ma} (h : busy ol m = false) : Stb ol m.s ∧ m.q = []:=by
 unfold busy at h;simp only [Bool.or_eq_false_iff,decide_eq_false_iff_not] at h;exact ⟨List.length_eq_zero_iff.1 (by omega),List.length_eq_zero_iff.1 (by omega)⟩
theorem finish_stb {ol : Ol} {n : Nat} {m : Ma} (h : (finish ol n m).2.2 = 0) : Stb ol (finish ol n m).1:=by
 unfold finish at h ⊢
 cases q : busy ol (rounds ol n m) with
 | true=>rw [q] at h;simp at h
 | false=>simp only [Bool.false_eq_true,if_false];exact (stb_of q).1
theorem takeDue_av (s : Sd) : SameAV (takeDue s).2.2 s:=by
 unfold takeDue;split <;> exact ⟨rfl,rfl,rfl,rfl⟩
theorem Stb.av {ol : Ol} {a b : Sd} (h : Stb ol b) (e : SameAV a b) : Stb ol a:=by unfold Stb;rw [choose_av e];exact h
end Ch
end Go.Proofs.YtnlbchmfcebeeaaGreat
