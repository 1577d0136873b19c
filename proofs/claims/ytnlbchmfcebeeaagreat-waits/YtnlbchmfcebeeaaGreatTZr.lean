import Derived.Test.YtnlbchmfcebeeaaGreatTZp
import Derived.Test.YtnlbchmfcebeeaaGreatTXq
import Derived.Test.YtnlbchmfcebeeaaGreatTZl
set_option maxHeartbeats 12800000
set_option maxRecDepth 100000
namespace Go.Proofs.YtnlbchmfcebeeaaGreat
open Go.RowKit
namespace Ch
theorem filter_set {l : List Bool} {i n : Nat} (hi : i < n) (hl : i < l.length) (hb : ∀ j,bit l j = true → j < i) : (List.range n).filter (bit (l.set i true)) = (List.range n).filter (bit l) ++ [i]:=by
 have e : List.range n = List.range i ++ (i :: List.range' (i + 1) (n - (i + 1))):=by
  rw [List.range_eq_range',List.range_eq_range',show n = i + (n - i) by omega,← List.range'_append_1,Nat.zero_add,show n - i = (n - (i + 1)) + 1 by omega,List.range'_succ]
  congr 3
  omega
 have h1 : ∀ j,j ≠ i → bit (l.set i true) j = bit l j:=fun j hj=>by
  unfold bit;simp only [List.getD_eq_getElem?_getD];rw [List.getElem?_set_ne (by omega)]
 have h2 : bit (l.set i true) i = true:=by
  unfold bit;simp only [List.getD_eq_getElem?_getD];rw [List.getElem?_set_self hl];rfl
 have h3 : bit l i = false:=by
  cases q : bit l i with
  | false=>rfl
  | true=>have:=hb i q;omega
 have t1 : (List.range' (i + 1) (n - (i + 1))).filter (bit (l.set i true)) = []:=by
  rw [List.filter_eq_nil_iff];intro j hj q;simp at hj;rw [h1 j (by omega)] at q;have:=hb j q;omega
 have t2 : (List.range' (i + 1) (n - (i + 1))).filter (bit l) = []:=by
  rw [List.filter_eq_nil_iff];intro j hj q;simp at hj;have:=hb j q;omega
 have t3 : (List.range i).filter (bit (l.set i true)) = (List.range i).filter (bit l):=by
  apply List.filter_congr;intro j hj;simp at hj;exact h1 j (by omega)
 rw [e,List.filter_append,List.filter_append,List.filter_cons_of_pos h2,List.filter_cons_of_neg (by rw [h3];simp),t1,t2,t3,List.append_nil]
theorem place_nm {ss : List St} {c : Int} (h : place ss c ≠ -2) : ∃ g : Nat,place ss c = g ∧ g < ss.length ∧ nmAt ss g = c:=by
 rcases placeF_spec c ss 0 with ⟨e,_⟩ | ⟨i,s,h1,h2,h3,_⟩
 ·exact absurd e h
 refine ⟨i,by unfold place;rw [h3];simp,(List.getElem?_eq_some_iff.1 h1).1,?_⟩;unfold nmAt;rw [h1];exact h2
theorem tkF_names {ss : List St} {t : ByteArray} (hs : ss.length ≤ 16) : ∀ (f k : Nat) (last : Int) (l l' : List Bool),tkF ss t f k last l = some l' → k + f = t.size → l.length = 16 → -1 ≤ last → (∀ j,bit l j = true → (j : Int) ≤ last) →
 ((List.range ss.length).filter (bit l')).map (nmAt ss) = ((List.range ss.length).filter (bit l)).map (nmAt ss) ++ (bys t).drop k:=by
 intro f
 induction f with
 | zero =>
   intro k last l l' h hk _ _ _;simp only [tkF,Option.some.injEq] at h;subst h;rw [List.drop_eq_nil_of_le (by rw [bys_len];omega),List.append_nil]
 | succ f ih=>?_
 intro k last l l' h hk hl hla hb;simp only [tkF] at h
 split at h
 ·cases h
 rename_i c;obtain ⟨i,e,hi,hn⟩:=place_nm (ss:=ss) (c:=peek t k) (by omega);rw [e] at h c;have hp : putB l (i : Int) true = l.set i true:=rfl;rw [hp] at h
 have hb2 : ∀ j,bit l j = true → j < i:=fun j q=>by have:=hb j q;omega
 have:=ih (k + 1) i _ l' h (by omega) (by simpa using hl) (by omega) (fun j q=>by
  by_cases ej : j = i
  ·omega
  have : bit (l.set i true) j = bit l j:=by
   unfold bit;simp only [List.getD_eq_getElem?_getD];rw [List.getElem?_set_ne (by omega)]
  rw [this] at q;have:=hb2 j q
  omega)
 rw [this,filter_set hi (by omega) hb2,List.map_append,List.append_assoc]
 congr 1
 have c' : k < t.size:=by omega
 rw [List.drop_eq_getElem_cons (i:=k) (by rw [bys_len];exact c')];have h4:=bys_get t k c';rw [List.getElem?_eq_getElem (by rw [bys_len];exact c')] at h4;simp only [Option.some.injEq] at h4;rw [h4];simp [hn]
theorem bys_byte (t : ByteArray) : ∀ x ∈ bys t,0 ≤ x ∧ x < 256:=fun x hx=>by
 unfold bys at hx;obtain ⟨b,_,rfl⟩:=List.mem_map.1 hx;have:=b.toNat_lt;omega
theorem str_bys (t : ByteArray) : strOfNums (bys t) = t:=bys_inj (bys_str (bys_byte t))
theorem take_as {L : List RN} {ol : Ol} (hsts : L.map RN.st = ol.sts) (h16 : L.length ≤ 16) {a : As} (h : (takeA ol.sts a).1 = true) : a = asOf ol.sts (takeA ol.sts a).2:=by
 have hl : ol.sts.length ≤ 16:=by rw [← hsts];simpa using h16
 obtain ⟨on,hT⟩:=take_form hsts h16 h
 have hm : min ol.sts.length 16 = ol.sts.length:=by omega
 have hP : outPast ol.sts (takeA ol.sts a).2 = a.past:=by
  unfold outPast;rw [hm];have : pstK ol.sts (takeA ol.sts a).2 ol.sts.length = pastR ol.sts (takeA ol.sts a).2:=rfl;rw [this,← hT.past,str_bys]
 have hA : outAct ol.sts (takeA ol.sts a).2 = a.act:=by
  unfold outAct;rw [hm]
  have key : actK ol.sts (takeA ol.sts a).2 ol.sts.length = bys a.act:=by
   show ((List.range ol.sts.length).filter (bit (takeA ol.sts a).2.act)).map (nmAt ol.sts) = bys a.act;unfold takeA take at h ⊢
   split at h
   ·rename_i c1
    rw [if_pos c1]
    split at h
    ·rename_i c2
     rw [if_pos c2]
     split at h
     ·rename_i c3
      rw [if_pos c3];show ((List.range ol.sts.length).filter (bit (takeActV ol.sts a.act).1)).map (nmAt ol.sts) = bys a.act;unfold takeActV takeAct at c1 ⊢
      cases q : tkF ol.sts a.act a.act.size 0 (-1) noSet with
      | none=>rw [q] at c1;simp at c1
      | some l=>?_
      rw [q] at c1;have hn:=tkF_names hl _ _ _ _ _ q (by omega) rfl (by omega) (fun j hj=>by rw [bit_noSet] at hj;cases hj)
      have h0 : (List.range ol.sts.length).filter (bit noSet) = []:=by
       rw [List.filter_eq_nil_iff];intro j _ hj;rw [bit_noSet] at hj;cases hj
      rw [h0] at hn
      cases qf : allFit ol.sts l ol.sts.length with
      | true=>simp only [qf,if_true];simpa using hn
      | false=>simp only [qf,Bool.false_eq_true,if_false] at c1
     simp at h
    simp at h
   simp at h
  rw [key,str_bys]
 unfold asOf;rw [hA,hP,hT.tm,hT.x,hT.y,hT.z]
/-! A tick. -/
def decL : List Int → List Int
 | a :: b :: l=>a :: (b - 1) :: decL l
 | _=>[]
theorem tkF2_dec {t : ByteArray} : ∀ (f k : Nat) (acc : List Int),t.size ≤ k + 2 * f → (t.size - k) % 2 = 0 → tkF2 t f k acc = acc ++ decL ((bys t).drop k):=by
 intro f
 induction f with
 | zero=>intro k acc h _;rw [List.drop_eq_nil_of_le (by rw [bys_len];omega)];simp [tkF2,decL]
 | succ f ih=>?_
 intro k acc h h2
 by_cases c : k + 1 < t.size
 ·rw [bys_drop2 c]
  simp only [tkF2,if_pos c,decL];rw [ih (k + 2) _ (by omega) (by omega)];simp
 rw [List.drop_eq_nil_of_le (by rw [bys_len];omega)];simp only [tkF2,if_neg c,decL,List.append_nil]
theorem decL_tl : ∀ (n : Nat) {l : List Int},l.length ≤ n → TL 49 l → TL 48 (decL l) ∧ (decL l).length = l.length ∧ ∀ x ∈ decL l,0 ≤ x ∧ x < 256:=by
 intro n
 induction n with
 | zero=>intro l hl _;cases l with | nil=>exact ⟨trivial,rfl,by simp [decL]⟩ | cons a l=>simp at hl
 | succ n ih=>?_
 intro l hl hT
 match l,hT with
 | [],_=>exact ⟨trivial,rfl,by simp [decL]⟩
 | a :: b :: l,⟨⟨h1,h2,h3⟩,h4⟩ =>
   obtain ⟨g1,g2,g3⟩:=ih (by simp at hl;omega) h4;have h1':=h1;unfold isEv at h1;simp at h1;refine ⟨⟨⟨h1',by omega,by omega⟩,g1⟩,by simp [decL,g2],fun x hx=>?_⟩;simp only [decL,List.mem_cons] at hx
   rcases hx with rfl | rfl | hx
   ·omega
   ·omega
   exact g3 x hx
theorem tick_bys {s : Sd} (h : TmL 49 s) : bys (tick s).tm = decL (bys s.tm):=by
 have he : s.tm.size % 2 = 0:=by rw [← bys_len];exact TL.even _ (Nat.le_refl _) h.1
 show bys (strOfNums (tkF2 s.tm s.tm.size 0 [])) = _;rw [tkF2_dec _ _ _ (by omega) (by omega)];simp only [List.nil_append,List.drop_zero];exact bys_str (decL_tl _ (Nat.le_refl _) h.1).2.2
theorem tick_tl {s : Sd} (h : TmL 49 s) : TmL 48 (tick s):=by
 have hb:=tick_bys h;have hd:=decL_tl _ (Nat.le_refl _) h.1;refine ⟨by rw [hb];exact hd.1,?_⟩;rw [← bys_len,hb,hd.2.1,bys_len];exact h.2
theorem dcL_le : ∀ (n : Nat) {l : List Int},l.length ≤ n → dcL l ≤ l.length:=by
 intro n
 induction n with
 | zero=>intro l hl;cases l with | nil=>simp [dcL] | cons a l=>simp at hl
 | succ n ih=>?_
 intro l hl
 match l with
 | []=>simp [dcL]
 | [a]=>simp [dcL]
 | a :: b :: l =>
   have:=ih (l:=l) (by simp at hl;omega);simp only [dcL,List.length_cons]
   split <;> omega
theorem tm_tmp {s : Sd} (h : TmL 48 s) : TmP 16 s:=by
 refine ⟨by rw [← bys_len];exact TL.even _ (Nat.le_refl _) h.1,?_⟩;have:=dcL_le _ (Nat.le_refl (bys s.tm).length);rw [bys_len] at this;have:=h.2;omega
theorem read_aca {t : ByteArray} (h0 : (read t).1 = 0) : AcA (read t).2.2:=by
 obtain ⟨_,e,hq,_⟩:=read_ols h0;obtain ⟨L,_,hN⟩:=sim_chart hq;rw [e];exact aca_of hN (chart_t0 t)
theorem lgS_tl {t : ByteArray} {a : As} (h : lgE t a = 0) : TmL 49 (lgS t a):=by
 obtain ⟨e,h1⟩:=lgS_take h;rw [e];exact tl_sent (take_tm h1)
theorem lgE_read {t : ByteArray} {a : As} (h : lgE t a = 0) : (read t).1 = 0:=by
 unfold lgE at h
 split at h
 ·exact h
 rename_i c;simpa using c
theorem wait17 {t : ByteArray} {a : As} (h : lgE t a = 0) : (waitF (read t).2.2 17 (tick (lgS t a)) []).isSome = true :=
 waitF_some (read_aca (lgE_read h)) 16 [] (tm_tmp (tick_tl (lgS_tl h)))
structure WtR (ol : Ol) (a : As) (s : Sd) : Prop where
 out : a = asOf ol.sts s
 inv : Inv ol s
 ok : s.Ok
 tl : TmL 48 s
theorem past_byte {ol : Ol} (hB : NmB ol) {s : Sd} (hI : Inv ol s) : ∀ x ∈ pastR ol.sts s,0 ≤ x ∧ x < 256:=by
 intro x hx;obtain ⟨k,hk,rfl⟩:=List.mem_map.1 hx;obtain ⟨h1,hh⟩:=List.mem_filter.1 hk;have:=hI.past k (by simpa using h1) hh;unfold isPast at this
 split at this
 ·rename_i c;have : pastAt s k = 45:=by simpa using c
  omega
 unfold isChild at this
 cases q : stAt ol.sts (place ol.sts (pastAt s k)) with
 | none=>rw [q] at this;cases this
 | some y=>?_
 obtain ⟨i,e,_,_⟩:=stAt_some q;obtain ⟨g,_,_,hn⟩:=place_nm (ss:=ol.sts) (c:=pastAt s k) (by omega);rw [← hn];exact hB g
theorem WtR.tk {L : List RN} {ol : Ol} (hsts : L.map RN.st = ol.sts) (hO : OlS ol) (hB : NmB ol) {a : As} {s : Sd} (h : WtR ol a s) : ∃ on,TkF L ol a s on:=by
 obtain ⟨on,h1,h2⟩:=spread_out hsts hO (fun k _=>hB k) h.inv.conf.lt h.inv.la
 have hm : min ol.sts.length 16 = ol.sts.length:=by have:=hO.le;omega
 obtain rfl:=h.out;refine ⟨on,h1,h2,?_,rfl,rfl,rfl,rfl,h.tl⟩;show bys (outPast ol.sts s) = _;unfold outPast;rw [hm];exact bys_str (past_byte hB h.inv)
def cutT (t : ByteArray) (k : Nat) : ByteArray:=t.extract 0 k ++ t.extract (k + 2) t.size
theorem WtR.due {ol : Ol} {a : As} {s : Sd} (h : WtR ol a s) {k : Nat} (hk : k % 2 = 0) (hl : k + 1 < s.tm.size) : WtR ol { a with tm:=cutT s.tm k } { s with tm:=cutT s.tm k }:=by
 have hb : bys (cutT s.tm k) = (bys s.tm).take (2 * (k / 2)) ++ (bys s.tm).drop (2 * (k / 2 + 1)):=by
  unfold cutT;rw [bys_append,bys_ext,bys_ext,List.drop_zero,show k - 0 = 2 * (k / 2) by omega,show k + 2 = 2 * (k / 2 + 1) by omega]
  congr 1
  rw [List.take_of_length_le];rw [List.length_drop,bys_len];omega
 have hsz : (cutT s.tm k).size ≤ 16:=by
  unfold cutT;rw [ByteArray.size_append,ByteArray.size_extract,ByteArray.size_extract];have:=h.tl.2;omega
 refine ⟨by rw [h.out];rfl,h.inv.same ⟨rfl,rfl⟩,⟨h.ok.1,h.ok.2.1,by show (cutT s.tm k).size ≤ 17;omega⟩,⟨?_,hsz⟩⟩;show TL 48 (bys (cutT s.tm k));rw [hb];exact TL.append _ (Nat.le_refl _) (TL.take2 _ h.tl.1) (TL.drop2 _ h.tl.1)
theorem fired_ok {ol : Ol} {s : Sd} {ev : Int} (h : (firedR ol s ev).1 = true) : (mfire ol s ev).2.2 = 0 ∧ (mfire ol s ev).2.1 = (firedR ol s ev).2.2 ∧ (firedR ol s ev).2.1 = asOf ol.sts (mfire ol s ev).1:=by
 have e:=fired_eq ol s ev;rw [if_pos h] at e;rw [e];refine ⟨rfl,rfl,?_⟩;unfold firedR at h ⊢
 split
 ·rfl
 rename_i c;rw [if_neg c] at h;cases h
theorem fired_no {ol : Ol} {s : Sd} {ev : Int} (h : (firedR ol s ev).1 = false) : (mfire ol s ev).2.2 = 9:=by
 rw [fired_eq,h];rfl
theorem WtR.fire {ol : Ol} (hO : OlS ol) (hA : AcA ol) {a : As} {s : Sd} (h : WtR ol a s) {ev : Int} (hf : (firedR ol s ev).1 = true) : WtR ol (firedR ol s ev).2.1 (mfire ol s ev).1:=by
 have e:=fired_eq ol s ev;rw [if_pos hf] at e
 have e1 : (mfire ol s ev).1 = (rounds ol 29 (micro ol ⟨s,[],[]⟩ (choose ol s ev))).s:=by rw [e,roundsR_eq]
 refine ⟨(fired_ok hf).2.2,?_,mfire_ok h.ok ev,?_⟩
 ·rw [e1];exact rounds_inv hO 29 (micro_inv hO (m:=⟨s,[],[]⟩) h.inv ev)
 rw [e1];exact (keeps_tl (by omega) ol).rounds hA 29 ((keeps_tl (by omega) ol).micro hA (m:=⟨s,[],[]⟩) h.tl _)
theorem waitF_end {ol : Ol} {f : Nat} {s : Sd} {l : List Int} (h : dueF s.tm s.tm.size 0 = none) : waitF ol (f + 1) s l = some (s,strOfNums l):=by
 simp only [waitF];unfold takeDue;rw [h];rfl
theorem waitF_ok1 {ol : Ol} {f k : Nat} {s : Sd} {l : List Int} (h : dueF s.tm s.tm.size 0 = some k) (hf : (firedR ol { s with tm:=cutT s.tm k } (peek s.tm k)).1 = true) :
 waitF ol (f + 1) s l = waitF ol f (mfire ol { s with tm:=cutT s.tm k } (peek s.tm k)).1 (l ++ nums (firedR ol { s with tm:=cutT s.tm k } (peek s.tm k)).2.2):=by
 obtain ⟨h1,h2,_⟩:=fired_ok hf
 have e : takeDue s = (peek s.tm k,true,{ s with tm:=cutT s.tm k }):=by unfold takeDue;rw [h];rfl
 simp only [waitF];rw [e];simp only [if_true];rw [h1,h2];rfl
theorem waitF_no1 {ol : Ol} {f k : Nat} {s : Sd} {l : List Int} (h : dueF s.tm s.tm.size 0 = some k) (hf : (firedR ol { s with tm:=cutT s.tm k } (peek s.tm k)).1 = false) :
 waitF ol (f + 1) s l = waitF ol f { s with tm:=cutT s.tm k } l:=by
 have h1:=fired_no hf
 have e : takeDue s = (peek s.tm k,true,{ s with tm:=cutT s.tm k }):=by unfold takeDue;rw [h];rfl
 simp only [waitF];rw [e];simp only [if_true];rw [h1];rfl
def NoDue (t : ByteArray) (k : Nat) : Prop:=∃ f,dueF t t.size 0 = dueF t f k ∧ t.size ≤ k + 2 * f
theorem noDue0 (t : ByteArray) : NoDue t 0:=⟨t.size,rfl,by omega⟩
theorem NoDue.next {t : ByteArray} {k : Nat} (h : NoDue t k) (hk : k + 1 < t.size) (hd : (peek t (k + 1) != 48) = true) : NoDue t (k + 2):=by
 obtain ⟨f,h1,h2⟩:=h
 match f,h1,h2 with
 | 0,_,h2=>omega
 | f + 1,h1,h2 =>
   have hd' : (peek t (k + 1) == 48) = false:=by simpa using hd
   simp only [dueF,if_pos hk,hd',Bool.false_eq_true,if_false] at h1;exact ⟨f,h1,by omega⟩
theorem NoDue.hit {t : ByteArray} {k : Nat} (h : NoDue t k) (hk : k + 1 < t.size) (hd : (peek t (k + 1) != 48) = false) : dueF t t.size 0 = some k:=by
 obtain ⟨f,h1,h2⟩:=h
 match f,h1,h2 with
 | 0,_,h2=>omega
 | f + 1,h1,h2 =>
   have hd' : (peek t (k + 1) == 48) = true:=by simpa using hd
   simp only [dueF,if_pos hk,hd',if_true] at h1;exact h1
theorem NoDue.stop {t : ByteArray} {k : Nat} (h : NoDue t k) (hk : ¬ k + 1 < t.size) : dueF t t.size 0 = none:=by
 obtain ⟨f,h1,_⟩:=h;rw [h1,dueF_end hk]
end Ch
theorem Ch.WtR.sm {ol : Ch.Ol} (hO : Ch.OlS ol) {a : Ch.As} {s : Ch.Sd} (h : Ch.WtR ol a s) : a.Sm:=by
 rw [h.out];have h16:=hO.le;refine ⟨?_,?_,?_⟩
 ·show (strOfNums _).size ≤ _
  rw [strOfNums_size];have:=Ch.actK_len ol.sts s (min ol.sts.length 16);omega
 ·show (strOfNums _).size ≤ _
  rw [strOfNums_size];have:=Ch.pstK_len ol.sts s (min ol.sts.length 16);omega
 show s.tm.size ≤ _;have:=h.tl.2;omega
section
variable (w : World) (B cb : Nat) (l : List NV) (v : Value) (ol : Ch.Ol)
theorem rWaited_any (a : Ch.As) (s : Ch.Sd) (r : Ch.Sd × ByteArray) (hF : ChF w B cb l v) (hR : Rf l ol) (hW : Ch.WtR ol a s) (h49 : Ch.TmL 49 s) (hr : Ch.waitF ol 17 (Ch.tick s) [] = some r) :
 Calls Tryz.prog 147 #[.pointer (some ⟨cb,0,none⟩),.agg (asA a)] w fun y w'=>y = .returned (.tuple #[.agg (asA (Ch.asOf ol.sts r.1)),.string r.2]) ∧ Kp (fun _=>False) w w':=by
 obtain ⟨da,hdA,hdAa⟩:=Tryz.undAs
 have hat : a.tm = s.tm:=by rw [hW.out];rfl
 have h16:=h49.2
 have hev : s.tm.size % 2 = 0:=by rw [← Ch.bys_len];exact Ch.TL.even _ (Nat.le_refl _) h49.1
 have hK0 : Kp (fun _=>False) w ((w.alloc (.cells (asA a) 26)).alloc (.cells y6S 26)):=((Kp.refl _ _).alloc _).alloc _
 have hs0 : ((w.alloc (.cells (asA a) 26)).alloc (.cells y6S 26)).heap[w.heap.size]? = some (.cells (asA a) 26):=by rw [Below.heap_alloc _ _ _ (by simp)];exact heap_alloc_new _ _
 have hb0 : ((w.alloc (.cells (asA a) 26)).alloc (.cells y6S 26)).heap[w.heap.size + 1]? = some (.cells y6S 26):=by
  have:=heap_alloc_new (w.alloc (.cells (asA a) 26)) (.cells y6S 26);simpa using this
 have HH:=hid (And.intro hF (And.intro hW (And.intro h49 hr)));clear hF hW hr
 go_enter Tryz.func147,Tryz.ntmps147
 go_upto_region 1 with (fail)
 generalize (w.alloc (.cells (asA a) 26)).alloc (.cells y6S 26) = w0 at *;generalize hrbe : w.heap.size + 1 = rb at *;generalize hsbe : w.heap.size = sb at *;generalize htm : s.tm = tm at *
 go_wp2_with fail
 go_loopw [6,7] (fun tv kv wr=>∃ (k : Nat) (acc : List Int),tv = .string (strOfNums acc) ∧ kv = .int .i64 k ∧ k ≤ tm.size ∧ k % 2 = 0 ∧ acc.length ≤ k ∧ Hid (acc ++ Ch.decL ((Ch.bys tm).drop k) = Ch.decL (Ch.bys tm)) ∧ Kp (fun _=>False) w0 wr) (fun _ kv _=>tm.size - (intOf kv).toNat)
 case atStart=>exact ⟨0,[],rfl,rfl,Nat.zero_le _,rfl,Nat.le_refl _,hid rfl,Kp.refl _ _⟩
 case round =>
  obtain ⟨k,acc,rfl,rfl,hk,hke,hacc,HE,KW⟩:=hrel;have hsr:=KW.at_ hs0 (fun x=>x)
  have c2 : wr.cell? ⟨sb,2,none⟩ = some (.string tm):=by rw [World.cell?,hsr,← hat];rfl
  by_cases hlt : k + 1 < tm.size
  ·have hlt' : (k : Int) + 1 < (tm.size : Int):=by omega
   have hk0 : k < tm.size:=by omega
   have hk0' : (k : Int) < (tm.size : Int):=by omega
   have htn : ((k : Int) + 1).toNat = k + 1:=by omega
   have hnn : (0 : Int) ≤ (k : Int) + 1:=by omega
   have p0 : Ch.peek tm k = ((tm[k]'hk0).toNat : Int):=by simp [Ch.peek,hk0]
   have p1 : Ch.peek tm (k + 1) = ((tm[k + 1]'hlt).toNat : Int):=by simp [Ch.peek,hlt]
   have hd:=Ch.bys_drop2 hlt;have hT:=Ch.TL.drop2 (k / 2) (by have:=HH.out.2.2.1.1;rw [htm] at this;exact this);rw [show 2 * (k / 2) = k by omega,hd] at hT;have h1 : 49 ≤ Ch.peek tm (k + 1) ∧ Ch.peek tm (k + 1) ≤ 57:=hT.1.2;rw [p1] at h1
   have HG:=hid (show (acc ++ [((tm[k]'hk0).toNat : Int),((tm[k + 1]'hlt).toNat : Int) - 1]) ++ Ch.decL ((Ch.bys tm).drop (k + 2)) = Ch.decL (Ch.bys tm) by
    rw [← HE.out,hd,p0,p1];simp [Ch.decL])
   clear hT hd p0 p1 HE;generalize hc0 : ((tm[k]'hk0).toNat : Int) = c0 at *;generalize hc1 : ((tm[k + 1]'hlt).toNat : Int) = c1 at *;have hwu : IntKind.u8.wrap (c1 - 1) = c1 - 1:=u8_wrap_in (by omega);have hwi : IntKind.i64.wrap ((k : Int) + 1) = (k : Int) + 1:=i64_wrap_in (by omega)
   have hcv:=run_convert_bytes_arg (P:=Tryz.prog) ((wr.alloc (.cells #[.int .u8 c0,.int .u8 (c1 - 1)] 5)).drew) 47 5 Tryz.underlying47 Tryz.underlying5 wr.heap.size 0 2 2 [c0,c1 - 1] rfl (by
    intro i hi
    match i,hi with
    | 0,_=>simp
    | 1,_=>simp) 9 Tryz.underlying9
   replace hcv : Sem.run Tryz.prog (convert 47 9 (.slice (some ⟨wr.heap.size,0,none⟩) 2 2)) (wr.drew.alloc (.cells #[.int .u8 c0,.int .u8 (c1 - 1)] 5)) = .ok (.string (strOfNums [c0,c1 - 1])) (wr.drew.alloc (.cells #[.int .u8 c0,.int .u8 (c1 - 1)] 5)):=hcv
   have hadd:=fun w'=>run_string_add_sum (P:=Tryz.prog) w' (strOfNums acc) (strOfNums [c0,c1 - 1]) (by rw [strOfNums_size,strOfNums_size];simp;omega)
   have hS0 : wr.drew.cell? ⟨sb,2,none⟩ = some (.string tm):=c2;have hS1 : (wr.drew.alloc (.cells #[.int .u8 c0,.int .u8 (c1 - 1)] 5)).cell? ⟨sb,2,none⟩ = some (.string tm):=((Kp.refl (fun _=>False) wr.drew).alloc _).cellF c2;have HK:=hid (KW.drew.alloc (.cells #[.int .u8 c0,.int .u8 (c1 - 1)] 5));clear KW hsr
   go_upto_region 5 with (fail)
   refine region_begin (fun w'=>w'.cell? ⟨sb,2,none⟩ = some (.string tm)) (by kernel_rfl) ?_;refine tk 0 22 (.string (strOfNums acc)) rfl (by kernel_rfl) rfl rfl (fun w' _=>by simp [execOp,Act.eval,go_sem]) hS0 ?_;simp only [Act.put,pA,pB,pC];refine tk 1 23 (.pointer (some ⟨sb,2,none⟩)) rfl (by kernel_rfl) rfl rfl (fun w' _=>by simp [execOp,Act.eval,go_sem]) hS0 ?_;simp only [Act.put,pA,pB,pC];refine tk 2 24 (.string tm) rfl (by kernel_rfl) rfl rfl (fun w' hS=>by simp [execOp,Act.eval,go_sem,hS]) hS0 ?_;simp only [Act.put,pA,pB,pC];refine tk 3 25 (.int .i64 (k : Int)) rfl (by kernel_rfl) rfl rfl (fun w' _=>by simp [execOp,Act.eval,go_sem]) hS0 ?_;simp only [Act.put,pA,pB,pC];refine tk 4 26 (.int .u8 c0) rfl (by kernel_rfl) rfl rfl (fun w' _=>by simp [execOp,Act.eval,go_sem,hk0',hc0]) hS0 ?_;simp only [Act.put,pA,pB,pC];refine tk 5 27 (.pointer (some ⟨sb,2,none⟩)) rfl (by kernel_rfl) rfl rfl (fun w' _=>by simp [execOp,Act.eval,go_sem]) hS0 ?_;simp only [Act.put,pA,pB,pC];refine tk 6 28 (.string tm) rfl (by kernel_rfl) rfl rfl (fun w' hS=>by simp [execOp,Act.eval,go_sem,hS]) hS0 ?_;simp only [Act.put,pA,pB,pC];refine tk 7 29 (.int .i64 (k : Int)) rfl (by kernel_rfl) rfl rfl (fun w' _=>by simp [execOp,Act.eval,go_sem]) hS0 ?_;simp only [Act.put,pA,pB,pC];refine tk 8 30 (.int .i64 ((k : Int) + 1)) rfl (by kernel_rfl) rfl rfl (fun w' _=>by simp [execOp,Act.eval,go_sem,hwi]) hS0 ?_;simp only [Act.put,pA,pB,pC];refine tk 9 31 (.int .u8 c1) rfl (by kernel_rfl) rfl rfl (fun w' _=>by simp [execOp,Act.eval,go_sem,hlt',hc1,hnn,htn]) hS0 ?_;simp only [Act.put,pA,pB,pC];refine tk 10 32 (.int .u8 (c1 - 1)) rfl (by kernel_rfl) rfl rfl (fun w' _=>by simp [execOp,Act.eval,go_sem,hwu]) hS0 ?_;simp only [Act.put,pA,pB,pC];refine do_op 11 (by kernel_rfl) rfl rfl ?_;refine wpr (some 33) rfl (.slice (some ⟨wr.heap.size,0,none⟩) 2 2) (wr.drew.alloc (.cells #[.int .u8 c0,.int .u8 (c1 - 1)] 5)) (by simp [execOp,Act.eval,go_sem]) ?_;simp only [Act.put,pA,pB,pC];refine ⟨hS1,?_⟩;refine do_op 12 (by kernel_rfl) rfl rfl ?_;refine wpr (some 34) rfl (.string (strOfNums [c0,c1 - 1])) (wr.drew.alloc (.cells #[.int .u8 c0,.int .u8 (c1 - 1)] 5)) (by simp [execOp,Act.eval,hcv]) ?_;simp only [Act.put,pA,pB,pC];refine ⟨hS1,?_⟩
   refine tk 13 35 (.string (strOfNums acc ++ strOfNums [c0,c1 - 1])) rfl (by kernel_rfl) rfl rfl (fun w' _=>by simp [execOp,Act.eval,go_sem,hadd]) hS1 ?_;simp only [Act.put,pA,pB,pC];refine tk 14 6 (.string (strOfNums acc ++ strOfNums [c0,c1 - 1])) rfl (by kernel_rfl) rfl rfl (fun w' _=>by simp [execOp,Act.eval,go_sem]) hS1 ?_;simp only [Act.put,pA,pB,pC];refine wpAnyH_done (by kernel_rfl) (NoPanic.normal ?_) _;generalize wr.drew.alloc (.cells #[.int .u8 c0,.int .u8 (c1 - 1)] 5) = wz at *;rw [← Ch.str_append];clear hcv hadd hS0 hS1 c2;go_wp2
   go_roundw
   case rel=>exact ⟨k + 2,_,rfl,by go_num,by omega,by omega,by simp;omega,HG,HK.out⟩
   case measure=>simp [intOf];omega
  have hge : ¬ (k : Int) + 1 < (tm.size : Int):=by omega
  have hkk : k = tm.size:=by omega
  have HT:=hid (show strOfNums acc = (Ch.tick s).tm by
   have h1:=HE.out;rw [List.drop_eq_nil_of_le (by rw [Ch.bys_len];omega)] at h1;have h2:=Ch.tick_bys HH.out.2.2.1;rw [htm,← h1] at h2;apply Ch.bys_inj;rw [h2];have hb:=(Ch.decL_tl _ (Nat.le_refl _) (by have:=HH.out.2.2.1.1;rw [htm] at this;exact this : Ch.TL 49 (Ch.bys tm))).2.2;rw [← h1] at hb;simp only [Ch.decL,List.append_nil] at hb ⊢
   exact Ch.bys_str hb)
  have hW1 : Ch.WtR ol { a with tm:=(Ch.tick s).tm } (Ch.tick s):=⟨by rw [HH.out.2.1.out];rfl,HH.out.2.1.inv.same ⟨rfl,rfl⟩,Ch.tick_ok HH.out.2.1.ok,Ch.tick_tl HH.out.2.2.1⟩
  have f2 : wr.frozen? ⟨sb,2,none⟩ = false:=by simp [World.frozen?,hsr]
  have hb1:=KW.at_ hb0 (fun x=>x)
  have hz : (wr.setCell ⟨sb,2,none⟩ (.string (Ch.tick s).tm)).heap[sb]? = some (.cells (asA { a with tm:=(Ch.tick s).tm }) 26 (0,0)):=by rw [heap_set_same _ hsr];rfl
  have Kz : Kp (fun i=>i = sb) w0 (wr.setCell ⟨sb,2,none⟩ (.string (Ch.tick s).tm)):=(KW.mono (fun _ _ x=>x.elim)).setCell (by intro _;rfl) _;have HZ:=hid (And.intro hW1 (And.intro HH.out.2.2.2 (And.intro hz Kz)));have HF:=hid HH.out.1;have hres:=HT.out;clear HE hW1 hz Kz HH hkk HT KW hsr;generalize strOfNums acc = T at *;subst hres;clear htm;generalize Ch.tick s = s1 at *
  go_upto_region 7 with (fail)
  clear hat hev h16;generalize wr.setCell ⟨sb,2,none⟩ (.string s1.tm) = w1 at *;clear c2 f2
  go_wp2_with fail
  go_loopg [8,9] 400 (fun f ov kv wr=>∃ (k nf : Nat) (a' : Ch.As) (s' : Ch.Sd) (lo : List Int),ov = .string (strOfNums lo) ∧ kv = .int .i64 k ∧ k % 2 = 0 ∧ k ≤ 18 ∧ nf ≤ 17 ∧ nf * 20 + (20 - k) ≤ f ∧ lo.length + 117000000 * nf ≤ 1989000000 ∧ Hid (Ch.WtR ol a' s' ∧ Ch.waitF ol nf s' lo = some r ∧ Ch.NoDue s'.tm k ∧ wr.heap[sb]? = some (.cells (asA a') 26 (0,0)) ∧ Kp (fun i=>i = sb) w0 wr))
  case atStart=>exact ⟨0,17,_,s1,[],rfl,rfl,rfl,by omega,by omega,by omega,by simp,hid ⟨HZ.out.1,HZ.out.2.1,Ch.noDue0 _,HZ.out.2.2.1,HZ.out.2.2.2⟩⟩
  case round =>
   obtain ⟨k,nf,a',s',lo,rfl,rfl,hke,hk18,hnf,hf,hlo,HI⟩:=hrel
   obtain ⟨f,rfl⟩ : ∃ f,gk = f + 1:=⟨gk - 1,by omega⟩
   obtain ⟨hW,hwt,hnd,hsr,KW⟩:=HI.out;have h16:=hW.tl.2
   have hat : a'.tm = s'.tm:=by rw [hW.out];rfl
   have c2 : wr.cell? ⟨sb,2,none⟩ = some (.string s'.tm):=by rw [World.cell?,hsr,← hat];rfl
   have f2 : wr.frozen? ⟨sb,2,none⟩ = false:=by simp [World.frozen?,hsr]
   generalize htm : s'.tm = tm at *
   by_cases hlt : k + 1 < tm.size
   ·have hlt' : (k : Int) + 1 < (tm.size : Int):=by omega
    have hk0 : k < tm.size:=by omega
    have hk0' : (k : Int) < (tm.size : Int):=by omega
    have htn : ((k : Int) + 1).toNat = k + 1:=by omega
    have hnn : (0 : Int) ≤ (k : Int) + 1:=by omega
    have p0 : Ch.peek tm k = ((tm[k]'hk0).toNat : Int):=by simp [Ch.peek,hk0]
    have p1 : Ch.peek tm (k + 1) = ((tm[k + 1]'hlt).toNat : Int):=by simp [Ch.peek,hlt]
    cases q : (((tm[k + 1]'hlt).toNat : Int) != 48) with
    | true =>
      have HN:=hid (hnd.next hlt (by rw [p1];exact q));have HJ:=hid (And.intro hW (And.intro hwt (And.intro hsr KW)));clear hW hwt hnd hsr KW HI p0 p1 hat;go_wp2
      go_roundg f
      case measure=>omega
      case rel=>exact ⟨k + 2,nf,a',s',lo,rfl,by go_num,by omega,by omega,by omega,by omega,hlo,hid ⟨HJ.out.1,HJ.out.2.1,by rw [htm];exact HN.out,HJ.out.2.2.1,HJ.out.2.2.2⟩⟩
    | false=>?_
    have hdue:=hnd.hit hlt (by rw [p1];exact q)
    obtain ⟨nf',rfl⟩ : ∃ nf',nf = nf' + 1:=by
     cases nf with
     | zero=>simp [Ch.waitF] at hwt
     | succ n=>exact ⟨n,rfl⟩
    rw [← htm] at hdue;have hW2:=hW.due (k:=k) hke (by rw [htm];exact hlt);have hok:=Ch.waitF_ok1 (ol:=ol) (f:=nf') (l:=lo) hdue;have hno:=Ch.waitF_no1 (ol:=ol) (f:=nf') (l:=lo) hdue;rw [htm,p0] at hok hno;rw [htm] at hW2;obtain ⟨on,hTk⟩:=hW2.tk (L:=Ch.mk l) (by have:=hR.sts;unfold Ch.sts at this;exact this) hR.ols hR.nmb;have hfs:=Ch.mfire_size hR.ok { s' with tm:=Ch.cutT tm k } ((tm[k]'hk0).toNat : Int);have hfo:=Ch.fired_ok (ol:=ol) (s:={ s' with tm:=Ch.cutT tm k }) (ev:=((tm[k]'hk0).toNat : Int));have hfw:=hW2.fire hR.ols hR.aca (ev:=((tm[k]'hk0).toNat : Int))
    have hz : ((wr.drew).setCell ⟨sb,2,none⟩ (.string (Ch.cutT tm k))).heap[sb]? = some (.cells (asA { a' with tm:=Ch.cutT tm k }) 26 (0,0)):=by rw [heap_set_same _ (show wr.drew.heap[sb]? = _ from hsr)];rfl
    have Kz : Kp (fun i=>i = sb) w0 ((wr.drew).setCell ⟨sb,2,none⟩ (.string (Ch.cutT tm k))):=KW.drew.setCell (by intro _;rfl) _;have HJ:=hid (And.intro hwt (And.intro hz (And.intro Kz (And.intro hTk (And.intro hok (And.intro hno (And.intro hfo (And.intro hfw hW2))))))));clear hW hwt hnd hsr KW HI p0 p1 hat hdue hok hno hW2 hTk hfo hfw hz Kz;generalize hc0 : ((tm[k]'hk0).toNat : Int) = c0 at *
    have hkl : (k : Int) ≤ (tm.size : Int):=by omega
    have hkt : ((k : Int)).toNat = k:=by omega
    have hk2 : (k : Int) + 2 ≤ (tm.size : Int):=by omega
    have hkt2 : ((k : Int) + 2).toNat = k + 2:=by omega
    have hkn2 : (0 : Int) ≤ (k : Int) + 2:=by omega
    have hw2 : IntKind.i64.wrap ((k : Int) + 2) = (k : Int) + 2:=i64_wrap_in (by omega)
    have hadd : ∀ w',Sem.run Tryz.prog (Op.stringOp BinOp.add (tm.extract 0 k) (tm.extract (k + 2) tm.size)) w' = .ok (.string (Ch.cutT tm k)) w':=fun w'=>run_string_add_sum (P:=Tryz.prog) w' (tm.extract 0 k) (tm.extract (k + 2) tm.size) (by simp;omega)
    have hS0 : wr.drew.cell? ⟨sb,2,none⟩ = some (.string tm):=c2
    have hS1 : ((wr.drew).setCell ⟨sb,2,none⟩ (.string (Ch.cutT tm k))).cell? ⟨sb,2,none⟩ = some (.string (Ch.cutT tm k)):=by rw [World.cell?,HJ.out.2.1];rfl
    go_upto_region 13 with (fail)
    go_region
    have HJ2:=hid (show ((wr.setCell ⟨sb,2,none⟩ (.string (Ch.cutT tm k))).drew).heap[sb]? = some (.cells (asA { a' with tm:=Ch.cutT tm k }) 26 (0,0)) ∧ Kp (fun i=>i = sb) w0 ((wr.setCell ⟨sb,2,none⟩ (.string (Ch.cutT tm k))).drew) from ⟨HJ.out.2.1,HJ.out.2.2.1⟩);clear hS0 hS1 hadd c2 f2 hkl hkt hk2 hkt2 hkn2 hw2 hc0;generalize (wr.setCell ⟨sb,2,none⟩ (.string (Ch.cutT tm k))).drew = w5 at *;obtain ⟨hs5,K5⟩:=HJ2.out;have hWn:=HJ.out.2.2.2.2.2.2.2.2;have hF5 : ChF w5 B cb l v:=HF.out.keep0 (hK0.trans' K5 (fun i hi e=>by omega));have E:=hid (rFired_any w5 B cb l v ol { a' with tm:=Ch.cutT tm k } c0 { s' with tm:=Ch.cutT tm k } on hF5 hR (hWn.sm hR.ols) HJ.out.2.2.2.1 hWn.inv hWn.ok);have hb5:=K5.at_ hb0 (by omega);have hwt:=HJ.out.1;have hok:=HJ.out.2.2.2.2.1;have hno:=HJ.out.2.2.2.2.2.1;have hfo:=HJ.out.2.2.2.2.2.2.1;have hfw:=HJ.out.2.2.2.2.2.2.2.1;have aI : (Tryz.prog.info? 26).map (·.size) = some (asA { a' with tm:=Ch.cutT tm k }).size:=Tryz.sizeAs;generalize hfd : Ch.firedR ol { s' with tm:=Ch.cutT tm k } c0 = fd at *;clear hfd;obtain ⟨fe,fs,ft⟩:=fd;simp only at E hok hno hfo hfw;have fO:=asOne fs;have fI : (Tryz.prog.info? 26).map (·.size) = some (asA fs).size:=Tryz.sizeAs;have fS : (asA fs).size = 6:=rfl;have HL:=hid (And.intro hwt (And.intro hok (And.intro hno (And.intro hfo (And.intro hfw hWn)))));clear hwt hok hno hfo hfw hWn HJ HJ2 hF5;generalize hA5 : asA { a' with tm:=Ch.cutT tm k } = A5 at *;generalize hFA : asA fs = FA at *;have HA:=hid (And.intro hA5 hFA);clear hA5 hFA
    go_wp2_with (refine wpList_load_row rfl 26 (.tmp 3) rfl sb rfl 26 A5 (0,0) da hs5 hdA (by cases da <;> first | rfl | exact absurd hdAa (by simp [isAggD])) aI ?_)
    refine hm E ?_;rintro y w6 ⟨rfl,K6⟩;have hs6:=K6.at_ hs5 (fun x=>x);have KV : Kp (fun i=>i = sb) w0 w6:=K5.trans' K6 (fun _ _ x=>x.elim);have hnew:=heap_alloc_new w6 (.cells y6S 26);have Kn : Kp (fun _=>False) w6 ((w6.alloc (.cells y6S 26)).setRow w6.heap.size FA):=((Kp.refl _ _).alloc _).setRow (fun x=>by omega) _;have hrow:=setRow_heap (w6.alloc (.cells y6S 26)) w6.heap.size y6S FA 26 (0,0) hnew;have hs7:=Kn.at_ hs6 (fun x=>x);have KV7:=KV.trans' Kn (fun _ _ x=>x.elim);clear E K5 K6 hs5 hs6 KV Kn
    go_upto_region 15 with (refine wpList_store_row rfl 26 (.tmp 11) (.tmp 72) rfl w6.heap.size FA rfl rfl 26 y6S hnew fI fS.symm fO ?_)
    generalize (w6.alloc (.cells y6S 26)).setRow w6.heap.size FA = w7 at *;clear hnew;generalize w6.heap.size = fb at *
    cases fe with
    | false =>
      have HN:=hid (HL.out.1.symm.trans (HL.out.2.2.1 rfl));have HM:=hid (And.intro HL.out.2.2.2.2.2 (And.intro (show w7.heap[sb]? = some (.cells (asA { a' with tm:=Ch.cutT tm k }) 26 (0,0)) by rw [HA.out.1];exact hs7) KV7));clear HL hs7 KV7 hrow;go_wp2
      go_roundg f
      case measure=>omega
      case rel=>exact ⟨0,nf',_,_,lo,rfl,rfl,rfl,by omega,by omega,by omega,by omega,hid ⟨HM.out.1,HN.out.symm,Ch.noDue0 _,HM.out.2.1,HM.out.2.2⟩⟩
    | true=>?_
    have HN:=hid (HL.out.1.symm.trans (HL.out.2.1 rfl));have hfo:=HL.out.2.2.2.1 rfl;have hfw:=HL.out.2.2.2.2.1 rfl
    have hft : ft.size ≤ 117000000:=by rw [← hfo.2.1];exact hfs
    have hls : (strOfNums lo).size ≤ 1989000000:=by rw [strOfNums_size];omega
    have hK8 : Kp (fun i=>i = sb) w0 (w7.setRow sb FA):=KV7.setRow (fun _=>rfl) _;have hs8:=setRow_heap w7 sb A5 FA 26 (0,0) hs7;have hnl : (Ch.nums ft).length = ft.size:=Ch.nums_len ft;have HO:=hid (show strOfNums lo ++ ft = strOfNums (lo ++ Ch.nums ft) by rw [Ch.str_append];congr 1;exact (Ch.str_bys ft).symm);have HM:=hid (And.intro hfw (And.intro (show (w7.setRow sb FA).heap[sb]? = some (.cells (asA fs) 26 (0,0)) by rw [HA.out.2];exact hs8) hK8))
    have aS5 : A5.size = FA.size:=by rw [← HA.out.1,fS];rfl
    clear HL hfo hfw hK8 hs8
    go_wp2_with (first | refine wpList_load_row rfl 26 (.tmp 11) rfl fb rfl 26 FA (0,0) da hrow hdA (by cases da <;> first | rfl | exact absurd hdAa (by simp [isAggD])) fI ?_ | refine wpList_store_row rfl 26 (.tmp 3) (.tmp 76) rfl sb FA rfl rfl 26 A5 hs7 fI aS5 fO ?_)
    generalize w7.setRow sb FA = w8 at *;rw [HO.out]
    go_roundg f
    case measure=>omega
    case rel=>exact ⟨0,nf',_,_,lo ++ Ch.nums ft,rfl,rfl,rfl,by omega,by omega,by omega,by rw [List.length_append,hnl];omega,hid ⟨HM.out.1,HN.out.symm,Ch.noDue0 _,HM.out.2.1,HM.out.2.2⟩⟩
   have hge : ¬ (k : Int) + 1 < (tm.size : Int):=by omega
   have hr2:=Ch.waitF_end (ol:=ol) (f:=nf - 1) (l:=lo) (by rw [htm];exact hnd.stop hlt : Ch.dueF s'.tm s'.tm.size 0 = none)
   have hnf0 : nf ≠ 0:=fun e=>by rw [e] at hwt;simp [Ch.waitF] at hwt
   rw [show nf - 1 + 1 = nf by omega,hwt] at hr2
   obtain rfl : r = (s',strOfNums lo):=by simpa using hr2
   have hb5:=KW.at_ hb0 (by omega);have aO:=asOne a';have aI : (Tryz.prog.info? 26).map (·.size) = some (asA a').size:=Tryz.sizeAs;have aS : (asA a').size = 6:=rfl;have KF : Kp (fun _=>False) w (wr.setRow rb (asA a')):=(hK0.trans' KW (fun i hi e=>by omega)).setRow (fun x=>by omega) _;have hout:=hW.out;clear hr2 hwt hnd HI KW hW;generalize hAA : asA a' = AA at *;have HAA:=hid (And.intro hAA hout);clear hAA hout
   go_wp2_with (first | refine wpList_load_row rfl 26 (.tmp 3) rfl sb rfl 26 AA (0,0) da hsr hdA (by cases da <;> first | rfl | exact absurd hdAa (by simp [isAggD])) aI ?_ | refine wpList_store_row rfl 26 (.tmp 4) (.tmp 80) rfl rb AA rfl rfl 26 y6S hb5 aI aS.symm aO ?_)
   refine bodyPost_ret (results_cell_tmp rfl _ _ rb 26 AA (0,0) da rfl (setRow_heap _ _ _ _ _ _ hb5) hdA hdAa aI) rfl ?_;refine ⟨?_,KF⟩;show _ = Ending.returned (.tuple #[.agg (asA (Ch.asOf ol.sts s')),.string (strOfNums lo)]);rw [← HAA.out.2,HAA.out.1];rfl
end
section
variable (w : World)
theorem rWait_any (t : ByteArray) (a : Ch.As) (ha : a.Sm) :
 Calls Tryz.prog 101 #[.string t,.agg (asA a)] w fun x w'=>x = .returned (.tuple #[.agg (asA (Ch.cWait 17 t a).1),.string (Ch.cWait 17 t a).2.1,.int .i64 (Ch.cWait 17 t a).2.2]) ∧ Kp (fun _=>False) w w':=by
 obtain ⟨da,hdA,hdAa⟩:=Tryz.undAs;have K0 : Kp (fun _=>False) w ((w.alloc (.cells (asA a) 26)).alloc (.cells y6S 26)):=((Kp.refl _ _).alloc _).alloc _
 have hs0 : ((w.alloc (.cells (asA a) 26)).alloc (.cells y6S 26)).heap[w.heap.size]? = some (.cells (asA a) 26):=by rw [Below.heap_alloc _ _ _ (by simp)];exact heap_alloc_new _ _
 have hb0 : ((w.alloc (.cells (asA a) 26)).alloc (.cells y6S 26)).heap[w.heap.size + 1]? = some (.cells y6S 26):=by
  have:=heap_alloc_new (w.alloc (.cells (asA a) 26)) (.cells y6S 26);simpa using this
 have HE:=hid (fun h0 L hN=>lgE_ref (t:=t) (L:=L) h0 hN a);have HN0:=hid (show (Ch.read t).1 ≠ 0 → Ch.lgE t a = (Ch.read t).1 from fun h=>by unfold Ch.lgE;rw [if_pos (by simpa using h)]);have HU1:=hid (show Ch.lgE t a ≠ 0 → Ch.cWait 17 t a = (Ch.as0,(⟨#[]⟩ : ByteArray),Ch.lgE t a) from fun h=>by unfold Ch.cWait;rw [if_pos (by simpa using h)]);have HU2:=hid (show Ch.lgE t a = 0 → ∀ r,Ch.waitF (Ch.read t).2.2 17 (Ch.tick (Ch.lgS t a)) [] = some r → Ch.cWait 17 t a = (Ch.asOf (Ch.read t).2.2.sts r.1,r.2,0) from fun h r e=>by unfold Ch.cWait;rw [if_neg (by simp [h]),e]);have aI : (Tryz.prog.info? 26).map (·.size) = some (asA a).size:=Tryz.sizeAs
 go_enter Tryz.func101,Tryz.ntmps101
 go_upto_region 1 with (fail)
 generalize (w.alloc (.cells (asA a) 26)).alloc (.cells y6S 26) = w0 at *;generalize hrbe : w.heap.size + 1 = rb at *;generalize hsbe : w.heap.size = ob at *;have E0:=hid (rRead_any w0 t)
 go_wp2_with fail
 refine hm E0 ?_;rintro x w2 ⟨p,rfl,hq1,hq2,K2⟩;have hs2:=K2.at_ hs0 (fun x=>x);have hrb:=K2.at_ hb0 (fun x=>x);have KW:=K0.trans K2;clear E0 hs0 hb0 K0 K2
 cases q1 : (Ch.read t).1 != 0 with
 | true =>
   have hne : (Ch.read t).1 ≠ 0:=by simpa using q1
   have HF:=hid (show Ch.cWait 17 t a = (Ch.as0,(⟨#[]⟩ : ByteArray),(Ch.read t).1) by rw [HU1.out (by rw [HN0.out hne];exact hne),HN0.out hne]);have KF : Kp (fun _=>False) w (w2.setRow rb y6S):=KW.setRow (fun x=>by omega) _;clear hq1 hq2 HE HN0 HU1 HU2 KW hne;generalize (Ch.read t).1 = re at *;generalize (Ch.read t).2.1 = rp at *
   go_wp2_with (refine wpList_store_row rfl 26 (.tmp 4) (.tmp 21) rfl rb y6S rfl rfl 26 y6S hrb Tryz.sizeAs rfl (asOne Ch.as0) ?_)
   refine bodyPost_ret (results_cell_tmp2 rfl _ _ rb 26 y6S (0,0) da rfl (setRow_heap _ _ _ _ _ _ hrb) hdA hdAa Tryz.sizeAs) rfl ?_;rw [HF.out];exact ⟨rfl,KF⟩
 | false=>?_
 have h0 : (Ch.read t).1 = 0:=by simpa using q1
 obtain ⟨cb,l,v,rfl,hF,hN,hbd,hT⟩:=hq2 h0;have hR:=rf_read h0 hN hT;have hRE:=HE.out h0 _ hN
 have E2:=hid (rLegalC_any w2 w0.heap.size cb l v a hF (by have:=hbd.1;omega) ha (fun i x hx=>by
  have:=hN.wf i x.n (by unfold Ch.mk;rw [List.getElem?_map,hx];rfl)
  exact ⟨this.1,this.2.1⟩))
 have HX:=hid (And.intro hF (And.intro hR KW));clear hq1 hq2 hN hbd hT HE HN0 KW hF;generalize Ch.legalR (Ch.mk l) a.act a.past a.tm a.x a.y a.z = lr at *;have HRE:=hid hRE;clear hRE h0;generalize hAA : asA a = AA at *;have HAA:=hid hAA;clear hAA;generalize hre : (Ch.read t).1 = re at *;clear hre;generalize (Ch.read t).2.1 = rp at *
 go_wp2_with (refine wpList_load_row rfl 26 (.tmp 3) rfl ob rfl 26 AA (0,0) da hs2 hdA (by cases da <;> first | rfl | exact absurd hdAa (by simp [isAggD])) aI ?_)
 refine hm E2 ?_;rintro y w3 ⟨rfl,K3⟩;have hs3:=K3.at_ hs2 (fun x=>x);have hrb3:=K3.at_ hrb (fun x=>x);have HX3:=hid (And.intro (HX.out.1.keep0 K3) (And.intro HX.out.2.1 (HX.out.2.2.trans K3)));clear E2 K3 hs2 hrb HX
 cases lr with
 | false =>
   have HF:=hid (show Ch.cWait 17 t a = (Ch.as0,(⟨#[]⟩ : ByteArray),(7 : Int)) by rw [HU1.out (by rw [HRE.out];simp),HRE.out];rfl);have KF : Kp (fun _=>False) w (w3.setRow rb y6S):=HX3.out.2.2.setRow (fun x=>by omega) _;clear HU1 HU2 HX3 HRE
   go_wp2_with (refine wpList_store_row rfl 26 (.tmp 4) (.tmp 28) rfl rb y6S rfl rfl 26 y6S hrb3 Tryz.sizeAs rfl (asOne Ch.as0) ?_)
   refine bodyPost_ret (results_cell_tmp2 rfl _ _ rb 26 y6S (0,0) da rfl (setRow_heap _ _ _ _ _ _ hrb3) hdA hdAa Tryz.sizeAs) rfl ?_;rw [HF.out];exact ⟨rfl,KF⟩
 | true=>?_
 have hl0 : Ch.lgE t a = 0:=HRE.out;obtain ⟨hls,htk⟩:=Ch.lgS_take hl0;have hR:=HX3.out.2.1
 have hsts : (Ch.mk l).map Ch.RN.st = (Ch.read t).2.2.sts:=by have:=hR.sts;unfold Ch.sts at this;exact this
 have h16 : (Ch.mk l).length ≤ 16:=by rw [Ch.mk_len];exact hR.le
 have hout:=Ch.take_as hsts h16 htk;have hIn : Ch.Inv (Ch.read t).2.2 (Ch.takeA (Ch.read t).2.2.sts a).2:=Ch.take_inv hR.ols htk;have hOk : (Ch.takeA (Ch.read t).2.2.sts a).2.Ok:=Ch.take_okA;have h49:=Ch.lgS_tl hl0;rw [← hls] at hout hIn hOk
 have hWt : Ch.WtR (Ch.read t).2.2 a (Ch.lgS t a):=⟨hout,hIn,hOk,⟨Ch.TL.mono (by omega) _ (Nat.le_refl _) h49.1,h49.2⟩⟩
 obtain ⟨r,hr⟩:=Option.isSome_iff_exists.1 (Ch.wait17 hl0);have HF:=hid (HU2.out hl0 r hr);have E3:=rWaited_any w3 w0.heap.size cb l v (Ch.read t).2.2 a (Ch.lgS t a) r HX3.out.1 hR hWt h49 hr;rw [HAA.out] at E3;have E4:=hid E3;have HK:=hid HX3.out.2.2;clear hl0 hls htk hR hsts h16 hout hIn hOk h49 hWt hr E3 HX3 HU1 HU2 HRE;generalize Ch.asOf (Ch.read t).2.2.sts r.1 = fs at *;have fO:=asOne fs;have fI : (Tryz.prog.info? 26).map (·.size) = some (asA fs).size:=Tryz.sizeAs;have fS : (asA fs).size = 6:=rfl;generalize hFA : asA fs = FA at *;have HFA:=hid hFA;clear hFA
 go_wp2_with (refine wpList_load_row rfl 26 (.tmp 3) rfl ob rfl 26 AA (0,0) da hs3 hdA (by cases da <;> first | rfl | exact absurd hdAa (by simp [isAggD])) aI ?_)
 refine hm E4 ?_;rintro y w4 ⟨rfl,K4⟩;have hrb4:=K4.at_ hrb3 (fun x=>x);have hnew:=heap_alloc_new w4 (.cells y6S 26);have Kn : Kp (fun _=>False) w4 ((w4.alloc (.cells y6S 26)).setRow w4.heap.size FA):=((Kp.refl _ _).alloc _).setRow (fun x=>by omega) _;have hrow:=setRow_heap (w4.alloc (.cells y6S 26)) w4.heap.size y6S FA 26 (0,0) hnew;have hrb5:=Kn.at_ hrb4 (fun x=>x);have KD:=(HK.out.trans K4).trans Kn;clear E4 K4 Kn hs3 hrb3 hrb4 HK
 go_upto_region 8 with (refine wpList_store_row rfl 26 (.tmp 11) (.tmp 33) rfl w4.heap.size FA rfl rfl 26 y6S hnew fI fS.symm fO ?_)
 generalize (w4.alloc (.cells y6S 26)).setRow w4.heap.size FA = w5 at *;clear hnew;generalize w4.heap.size = fb at *;have KF : Kp (fun _=>False) w (w5.setRow rb FA):=KD.setRow (fun x=>by omega) _;clear KD
 go_wp2_with (first | refine wpList_load_row rfl 26 (.tmp 11) rfl fb rfl 26 FA (0,0) da hrow hdA (by cases da <;> first | rfl | exact absurd hdAa (by simp [isAggD])) fI ?_ | refine wpList_store_row rfl 26 (.tmp 4) (.tmp 35) rfl rb FA rfl rfl 26 y6S hrb5 fI fS.symm fO ?_)
 refine bodyPost_ret (results_cell_tmp2 rfl _ _ rb 26 FA (0,0) da rfl (setRow_heap _ _ _ _ _ _ hrb5) hdA hdAa fI) rfl ?_;rw [HF.out];exact ⟨by rw [← HFA.out];rfl,KF⟩
end
end Go.Proofs.YtnlbchmfcebeeaaGreat
