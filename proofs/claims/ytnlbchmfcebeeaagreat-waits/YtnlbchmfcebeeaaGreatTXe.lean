import Derived.Test.YtnlbchmfcebeeaaGreatTX2
import Derived.Test.YtnlbchmfcebeeaaGreatTB5
import Derived.Test.YtnlbchmfcebeeaaGreatTXa
import Derived.Test.YtnlbchmfcebeeaaGreatTX4
import Derived.Deep.AppendLies
import Derived.Laws.OwnMore
import Derived.OwnWalk
import Derived.Deep.RegionHeld3
set_option maxHeartbeats 12800000
set_option maxRecDepth 100000
namespace Go.Proofs.YtnlbchmfcebeeaaGreat
open Go.RowKit
namespace Ch
def namedR (L : List RN) (b : Int) : Int:=match (List.range L.length).find? (fun i=>(rnAt L i).name == b) with | some i=>(i : Int) | none=>-1
def onAt (on : List Bool) (k : Nat) : Bool:=on.getD k false
def spreadF (L : List RN) (t : ByteArray) : Nat → Nat → Int → List Bool → Option (List Bool)
 | 0,_,_,on=>some on
 | f + 1,k,last,on=>if namedR L (peek t k) ≤ last then none else spreadF L t f (k + 1) (namedR L (peek t k)) (on.set (namedR L (peek t k)).toNat true)
def spreadR (L : List RN) (t : ByteArray) : Option (List Bool):=spreadF L t t.size 0 (-1) (List.replicate L.length false)
def onKids (L : List RN) (on : List Bool) (i : Nat) : Nat:=(kidsR L (i : Int)).countP (onAt on)
def fitsR (L : List RN) (on : List Bool) (i : Nat) : Bool :=
 if !onAt on i then decide (0 ≤ (rnAt L i).parent)
 else if (rnAt L i).kind == 5 || (decide (0 ≤ (rnAt L i).parent) && !onAt on (rnAt L i).parent.toNat) then false
 else if (rnAt L i).kind == 2 then onKids L on i == 1
 else if (rnAt L i).kind == 3 then onKids L on i == (kidsR L (i : Int)).length
 else true
def histR (L : List RN) : List Nat:=(List.range L.length).filter fun i=>(rnAt L i).kind == 5
def pstP (L : List RN) (t : ByteArray) (h : Nat) (k : Nat) : Bool:=peek t k == 45 || (kidsR L (rnAt L h).parent).any fun j=>(rnAt L j).name == peek t k
def remR (L : List RN) (t : ByteArray) : Bool:=(histR L).length == t.size && (List.range (histR L).length).all fun k=>pstP L t ((histR L).getD k 0) k
def sentK (t : ByteArray) (k : Nat) : Bool:=if k % 2 == 0 then isEv (peek t k) else isDg 49 (peek t k)
def sentR (t : ByteArray) : Bool:=!(decide (16 < t.size) || t.size % 2 == 1) && (List.range t.size).all (sentK t)
def legalR (L : List RN) (a p tm : ByteArray) (x y z : Int) : Bool :=
 match spreadR L a with
 | none=>false
 | some on=>(List.range L.length).all (fitsR L on) && (remR L p && sentR tm && inB x && inB y && inB z)
theorem named_place (L : List RN) (b : Int) : (namedR L b = -1 ∧ place (L.map RN.st) b = -2 ∧ ∀ i,i < L.length → (rnAt L i).name ≠ b) ∨ ∃ i : Nat,i < L.length ∧ namedR L b = i ∧ place (L.map RN.st) b = i ∧ (rnAt L i).name = b:=by
 unfold namedR place
 rcases placeF_spec b (L.map RN.st) 0 with ⟨e,g⟩ | ⟨j,s,e1,e2,e3,e4⟩
 ·left
  have hne : ∀ i,i < L.length → (rnAt L i).name ≠ b:=fun i hi=>by
   rw [rnAt_of (List.getElem?_eq_getElem hi)];exact g _ (List.mem_map.2 ⟨L[i],List.getElem_mem hi,rfl⟩)
  refine ⟨?_,e,hne⟩;rw [find_none_of];intro i hi;have:=hne i hi;simpa using this
 right
 rw [List.getElem?_map,Option.map_eq_some_iff] at e1;obtain ⟨m,hm,rfl⟩:=e1;have hlt:=(List.getElem?_eq_some_iff.1 hm).1
 have hb : (List.range L.length).find? (fun i=>(rnAt L i).name == b) = some j:=by
  rw [List.find?_range_eq_some];refine ⟨by rw [rnAt_of hm];have h' : m.name = b:=e2;simpa using h',by simpa using hlt,fun k hk=>?_⟩
  have hkl : k < L.length:=by omega
  rw [rnAt_of (List.getElem?_eq_getElem hkl)];have:=e4 k (L[k]).st hk (by rw [List.getElem?_map,List.getElem?_eq_getElem hkl];rfl);have h' : (L[k]).name ≠ b:=this;simpa using h'
 rw [hb];exact ⟨j,hlt,rfl,by rw [e3];simp,by rw [rnAt_of hm];exact e2⟩
where
 find_none_of {n : Nat} {q : Nat → Bool} (h : ∀ i,i < n → q i = false) : (match (List.range n).find? q with | some i=>((i : Nat) : Int) | none=>-1) = -1:=by
  have : (List.range n).find? q = none:=by
   rw [List.find?_eq_none];intro i hi;simp [h i (by simpa using hi)]
  rw [this]
def SameOn (n : Nat) (on l : List Bool) : Prop:=on.length = n ∧ l.length = 16 ∧ ∀ k,onAt on k = bit l k
theorem SameOn.set {n i : Nat} {on l : List Bool} (h : SameOn n on l) (hi : i < n) (hn : n ≤ 16) : SameOn n (on.set i true) (putB l (i : Int) true):=by
 obtain ⟨h1,h2,h3⟩:=h;refine ⟨by simp [h1],by show (l.set i true).length = 16;simp [h2],fun k=>?_⟩;show (on.set i true).getD k false = (l.set i true).getD k false;have:=h3 k;unfold onAt bit at this;simp only [List.getD_eq_getElem?_getD,List.getElem?_set] at this ⊢
 by_cases e : i = k
 ·subst e;rw [if_pos rfl,if_pos rfl,if_pos (by omega),if_pos (by omega)]
 rw [if_neg e,if_neg e];exact this
theorem spreadF_eq {L : List RN} {t : ByteArray} (hn : L.length ≤ 16) : ∀ (f k : Nat) (last : Int) (on l : List Bool),SameOn L.length on l → -1 ≤ last →
 (spreadF L t f k last on = none ∧ tkF (L.map RN.st) t f k last l = none) ∨ ∃ on' l',spreadF L t f k last on = some on' ∧ tkF (L.map RN.st) t f k last l = some l' ∧ SameOn L.length on' l':=by
 intro f
 induction f with
 | zero=>intro k last on l h _;exact .inr ⟨on,l,rfl,rfl,h⟩
 | succ f ih=>?_
 intro k last on l h hl;simp only [spreadF,tkF]
 rcases named_place L (peek t k) with ⟨e1,e2,_⟩ | ⟨i,hi,e1,e2,_⟩
 ·rw [e1,e2,if_pos (by omega),if_pos (by omega)];exact .inl ⟨rfl,rfl⟩
 rw [e1,e2]
 by_cases c : (i : Int) ≤ last
 ·rw [if_pos c,if_pos c];exact .inl ⟨rfl,rfl⟩
 rw [if_neg c,if_neg c];exact ih (k + 1) i _ _ (h.set hi hn) (by omega)
theorem kindAt_rn {L : List RN} {i : Nat} (hi : i < L.length) : kindAt (L.map RN.st) (i : Int) = (rnAt L i).kind:=by
 unfold kindAt;rw [stAt_nat,List.getElem?_map,List.getElem?_eq_getElem hi,rnAt_of (List.getElem?_eq_getElem hi)];rfl
theorem parAt_rn {L : List RN} {i : Nat} (hi : i < L.length) : parAt (L.map RN.st) (i : Int) = (rnAt L i).parent:=by
 unfold parAt;rw [stAt_nat,List.getElem?_map,List.getElem?_eq_getElem hi,rnAt_of (List.getElem?_eq_getElem hi)];rfl
theorem count_on {L : List RN} {on l : List Bool} (h : SameOn L.length on l) (i : Nat) : countCh (L.map RN.st) l (i : Int) true = onKids L on i:=by
 unfold countCh cntK onKids kidsR;rw [List.countP_filter,List.length_map];apply List.countP_congr;intro j hj
 have hj' : j < L.length:=by simpa using hj
 unfold cntP;rw [isChild_kid hj'];have e : has l (j : Int) = onAt on j:=(h.2.2 j).symm;rw [e]
 cases onAt on j <;> cases isKid L (i : Int) j <;> simp
theorem count_split (l : List Nat) (p : Nat → Bool) : l.countP p + l.countP (fun j=>!p j) = l.length:=by
 induction l with
 | nil=>rfl
 | cons a l ih=>simp only [List.countP_cons,List.length_cons];cases p a <;> simp <;> omega
theorem count_off {L : List RN} {on l : List Bool} (h : SameOn L.length on l) (i : Nat) : countCh (L.map RN.st) l (i : Int) false + onKids L on i = (kidsR L (i : Int)).length:=by
 rw [← count_split (kidsR L (i : Int)) (onAt on),Nat.add_comm];unfold onKids
 congr 1
 unfold countCh cntK kidsR;rw [List.countP_filter,List.length_map];apply List.countP_congr;intro j hj
 have hj' : j < L.length:=by simpa using hj
 unfold cntP;rw [isChild_kid hj'];have e : has l (j : Int) = onAt on j:=(h.2.2 j).symm;rw [e]
 cases onAt on j <;> cases isKid L (i : Int) j <;> simp
theorem fits_eq {L : List RN} {r : Rs} (hN : NR L r) {on l : List Bool} (h : SameOn L.length on l) {i : Nat} (hi : i < L.length) : fits (L.map RN.st) l (i : Int) = fitsR L on i:=by
 have hw:=hN.wf i _ (List.getElem?_eq_getElem hi);rw [← rnAt_of (List.getElem?_eq_getElem hi)] at hw;unfold fits fitsR;rw [kindAt_rn hi,parAt_rn hi];have e : has l (i : Int) = onAt on i:=(h.2.2 i).symm;rw [e,count_on h];have hoff:=count_off h i;generalize rnAt L i = n at *
 have hp : has l n.parent = (decide (0 ≤ n.parent) && onAt on n.parent.toNat):=by
  by_cases c : 0 ≤ n.parent
  ·obtain ⟨p,hp⟩ : ∃ p : Nat,n.parent = p:=⟨n.parent.toNat,by omega⟩
   rw [hp];simp only [Int.toNat_natCast];have : has l (p : Int) = onAt on p:=(h.2.2 p).symm;rw [this];simp
  have : n.parent = -1:=by omega
  rw [this];rfl
 rw [hp]
 have hm : (n.parent != -1) = decide (0 ≤ n.parent):=by
  by_cases c : 0 ≤ n.parent
  ·rw [decide_eq_true c];simp;omega
  rw [decide_eq_false c];simp;omega
 rw [hm]
 cases ho : onAt on i with
 | false=>simp
 | true=>?_
 simp only [Bool.not_true,Bool.false_eq_true,if_false,if_true]
 cases c1 : decide (0 ≤ n.parent) && !onAt on n.parent.toNat with
 | true =>
   have : (decide (0 ≤ n.parent) && !(decide (0 ≤ n.parent) && onAt on n.parent.toNat)) = true:=by
    simp at c1 ⊢;exact ⟨c1.1,.inr c1.2⟩
   rw [this];simp
 | false=>?_
 have : (decide (0 ≤ n.parent) && !(decide (0 ≤ n.parent) && onAt on n.parent.toNat)) = false:=by
  cases q1 : decide (0 ≤ n.parent) with
  | false=>rfl
  | true=>rw [q1] at c1;simpa using c1
 rw [this];simp only [Bool.false_eq_true,if_false,Bool.or_false]
 cases c5 : n.kind == 5 with
 | true =>
   have e5 : n.kind = 5:=by simpa using c5
   rw [e5];rfl
 | false=>?_
 simp only [Bool.false_eq_true,if_false]
 cases c2 : n.kind == 2 with
 | true=>simp only [if_true];rw [Bool.eq_iff_iff];simp;omega
 | false=>?_
 simp only [Bool.false_eq_true,if_false]
 cases c3 : n.kind == 3 with
 | true =>
   simp only [if_true];rw [Bool.eq_iff_iff];simp;omega
 | false=>simp
def cntH (ss : List St) (a m : Nat) : Nat:=(List.range' a m).countP (hist ss)
theorem cntH_cons (ss : List St) (a m : Nat) : cntH ss a (m + 1) = (if hist ss a then 1 else 0) + cntH ss (a + 1) m:=by
 unfold cntH;rw [List.range'_succ,List.countP_cons];omega
theorem tpF_spec (ss : List St) (t : ByteArray) : ∀ (f k n : Nat) (l : List Int),
 (tpF ss t f k n l = none ∧ ∃ j,k ≤ j ∧ j < k + f ∧ hist ss j = true ∧ (t.size ≤ n + cntH ss k (j - k) ∨ isPast ss (j : Int) (peek t (n + cntH ss k (j - k))) = false)) ∨
 (∃ l',tpF ss t f k n l = some (l',n + cntH ss k f) ∧ ∀ j,k ≤ j → j < k + f → hist ss j = true → n + cntH ss k (j - k) < t.size ∧ isPast ss (j : Int) (peek t (n + cntH ss k (j - k))) = true):=by
 intro f
 induction f with
 | zero=>intro k n l;exact .inr ⟨l,by simp [tpF,cntH],fun j h1 h2=>by omega⟩
 | succ f ih=>?_
 intro k n l;simp only [tpF]
 cases hk : hist ss k with
 | false =>
   simp only [Bool.false_eq_true,if_false]
   have hc : ∀ j,k < j → cntH ss k (j - k) = cntH ss (k + 1) (j - (k + 1)):=by
    intro j hj;rw [show j - k = (j - (k + 1)) + 1 by omega,cntH_cons,hk];simp
   rcases ih (k + 1) n l with ⟨e,j,h1,h2,h3,h4⟩ | ⟨l',e,g⟩
   ·exact .inl ⟨e,j,by omega,by omega,h3,by rw [hc j (by omega)];exact h4⟩
   refine .inr ⟨l',by rw [e,cntH_cons,hk];simp,fun j h1 h2 h3=>?_⟩
   by_cases c : k = j
   ·subst c;rw [hk] at h3;cases h3
   rw [hc j (by omega)];exact g j (by omega) (by omega) h3
 | true=>?_
 simp only [if_true]
 have h0 : cntH ss k (k - k) = 0:=by simp [cntH]
 have hc : ∀ j,k < j → n + cntH ss k (j - k) = (n + 1) + cntH ss (k + 1) (j - (k + 1)):=by
  intro j hj;rw [show j - k = (j - (k + 1)) + 1 by omega,cntH_cons,hk];simp;omega
 by_cases c : (decide (t.size ≤ n) || !isPast ss (k : Int) (peek t n)) = true
 ·rw [if_pos c]
  refine .inl ⟨rfl,k,Nat.le_refl _,by omega,hk,?_⟩;rw [h0,Nat.add_zero];simpa using c
 rw [if_neg c]
 have c' : n < t.size ∧ isPast ss (k : Int) (peek t n) = true:=by simpa using c
 rcases ih (k + 1) (n + 1) (l.set k (peek t n)) with ⟨e,j,h1,h2,h3,h4⟩ | ⟨l',e,g⟩
 ·exact .inl ⟨e,j,by omega,by omega,h3,by rw [hc j (by omega)];exact h4⟩
 refine .inr ⟨l',by rw [e,cntH_cons,hk];simp;omega,fun j h1 h2 h3=>?_⟩
 by_cases c2 : k = j
 ·subst c2;rw [h0,Nat.add_zero];exact c'
 rw [hc j (by omega)];exact g j (by omega) (by omega) h3
theorem hist_rn {L : List RN} {i : Nat} (hi : i < L.length) : hist (L.map RN.st) i = ((rnAt L i).kind == 5):=by
 unfold hist;rw [List.getElem?_map,List.getElem?_eq_getElem hi,rnAt_of (List.getElem?_eq_getElem hi)];rfl
theorem histR_len (L : List RN) : (histR L).length = cntH (L.map RN.st) 0 L.length:=by
 unfold histR cntH;rw [← List.countP_eq_length_filter,List.range_eq_range'];apply List.countP_congr;intro i hi;rw [hist_rn (by simp at hi;omega)]
theorem histR_get {L : List RN} {j : Nat} (hj : j < L.length) (h : hist (L.map RN.st) j = true) : (histR L)[cntH (L.map RN.st) 0 j]? = some j:=by
 unfold histR
 have e : List.range L.length = List.range j ++ (j :: List.range' (j + 1) (L.length - (j + 1))):=by
  rw [List.range_eq_range',List.range_eq_range',show L.length = j + (L.length - j) by omega,← List.range'_append_1,Nat.zero_add];rw [show j + (L.length - j) - (j + 1) = L.length - j - 1 by omega];rw [show L.length - j = (L.length - j - 1) + 1 by omega,List.range'_succ];simp
 rw [e,List.filter_append,List.filter_cons];rw [hist_rn hj] at h;rw [if_pos h]
 have hl : (List.filter (fun i=>(rnAt L i).kind == 5) (List.range j)).length = cntH (L.map RN.st) 0 j:=by
  unfold cntH;rw [← List.countP_eq_length_filter,List.range_eq_range'];apply List.countP_congr;intro i hi;rw [hist_rn (by simp at hi;omega)]
 rw [← hl,List.getElem?_append_right (Nat.le_refl _),Nat.sub_self];rfl
def Uniq (L : List RN) : Prop:=∀ i j,i < L.length → j < L.length → (rnAt L i).name = (rnAt L j).name → i = j
theorem past_eq {L : List RN} (hu : Uniq L) {j : Nat} (hj : j < L.length) (c : Int) : isPast (L.map RN.st) (j : Int) c = (c == 45 || (kidsR L (rnAt L j).parent).any fun i=>(rnAt L i).name == c):=by
 unfold isPast;rw [parAt_rn hj]
 cases hc : c == 45 with
 | true=>simp
 | false=>?_
 simp only [Bool.false_eq_true,if_false,Bool.false_or]
 rcases named_place L c with ⟨_,e2,hne⟩ | ⟨i,hi,_,e2,hnm⟩
 ·rw [e2]
  have h1 : isChild (L.map RN.st) (-2) (rnAt L j).parent = false:=rfl;rw [h1]
  symm
  rw [List.any_eq_false];intro i hi;unfold kidsR at hi;rw [List.mem_filter] at hi;have:=hne i (by simpa using hi.1);simpa using this
 rw [e2,isChild_kid hi];rw [Bool.eq_iff_iff,List.any_eq_true]
 constructor
 ·intro h
  exact ⟨i,by unfold kidsR;rw [List.mem_filter];exact ⟨by simpa using hi,h⟩,by simpa using hnm⟩
 rintro ⟨i',hi',hn'⟩;unfold kidsR at hi';rw [List.mem_filter] at hi'
 have hn'' : (rnAt L i').name = c:=by simpa using hn'
 have:=hu i' i (by simpa using hi'.1) hi (by rw [hn'',hnm]);subst this;exact hi'.2
theorem cntH_lt {L : List RN} {j : Nat} (hj : j < L.length) (h : hist (L.map RN.st) j = true) : cntH (L.map RN.st) 0 j < (histR L).length :=
 (List.getElem?_eq_some_iff.1 (histR_get hj h)).1
theorem rem_eq {L : List RN} (hu : Uniq L) (h16 : L.length ≤ 16) (t : ByteArray) : (takePastV (L.map RN.st) t).2 = remR L t:=by
 unfold takePastV remR;rw [List.length_map,show min L.length 16 = L.length by omega]
 rcases tpF_spec (L.map RN.st) t L.length 0 0 (blankP (L.map RN.st)) with ⟨e,j,_,h2,h3,h4⟩ | ⟨l',e,g⟩
 ·rw [e]
  simp only
  symm
  rw [Nat.zero_add] at h2 h4;rw [Nat.sub_zero] at h4;have hlt:=cntH_lt h2 h3
  by_cases c : (histR L).length = t.size
  ·have hr : ((histR L).length == t.size) = true:=by simpa using c
   rw [hr,Bool.true_and,List.all_eq_false];refine ⟨cntH (L.map RN.st) 0 j,by simpa using hlt,?_⟩
   rcases h4 with h4 | h4
   ·omega
   rw [past_eq hu h2] at h4;unfold pstP;rw [List.getD_eq_getElem?_getD,histR_get h2 h3];simpa using h4
  have hr : ((histR L).length == t.size) = false:=by simpa using c
  rw [hr,Bool.false_and]
 rw [e];simp only [Nat.zero_add];rw [← histR_len]
 by_cases c : (histR L).length = t.size
 ·have h1 : (((histR L).length : Int) != (t.size : Int)) = false:=by simp;omega
  have hr : ((histR L).length == t.size) = true:=by simpa using c
  rw [h1,hr,Bool.true_and];simp only [Bool.false_eq_true,if_false]
  symm
  rw [List.all_eq_true];intro k hk
  have hk' : k < (histR L).length:=by simpa using hk
  have hg : (histR L)[k]? = some (histR L)[k]:=List.getElem?_eq_getElem hk';have hm : (histR L)[k] ∈ histR L:=List.getElem_mem hk';generalize (histR L)[k] = j at hm hg;have hm2:=hm;unfold histR at hm2;rw [List.mem_filter] at hm2
  have hjl : j < L.length:=by simpa using hm2.1
  have hjh : hist (L.map RN.st) j = true:=by rw [hist_rn hjl];exact hm2.2
  have hr2:=histR_get hjl hjh
  have hnd : (histR L).Nodup:=by unfold histR;exact List.Pairwise.filter _ List.nodup_range
  have hkk : cntH (L.map RN.st) 0 j = k:=(List.getElem?_inj (cntH_lt hjl hjh) hnd).1 (hr2.trans hg.symm);have:=(g j (Nat.zero_le _) (by omega) hjh).2;rw [Nat.sub_zero,hkk,Nat.zero_add,past_eq hu hjl] at this;unfold pstP;rw [List.getD_eq_getElem?_getD,hg];exact this
 have h1 : (((histR L).length : Int) != (t.size : Int)) = true:=by simp;omega
 have hr : ((histR L).length == t.size) = false:=by simpa using c
 rw [h1,hr,Bool.false_and];simp
theorem tmF_spec (t : ByteArray) : ∀ (f k : Nat),t.size ≤ k + f → k % 2 = 0 → t.size % 2 = 0 → tmF t f k = (List.range' k (t.size - k)).all (sentK t):=by
 intro f
 induction f using Nat.strongRecOn with
 | ind f ih=>?_
 intro k h1 h2 h3
 match f,ih with
 | 0,_ =>
   have : t.size - k = 0:=by omega
   rw [this];rfl
 | f + 1,ih =>
   simp only [tmF]
   by_cases c : k + 1 < t.size
   ·rw [if_pos c]
    have e : t.size - k = (t.size - (k + 2)) + 1 + 1:=by omega
    rw [e,List.range'_succ,List.range'_succ,List.all_cons,List.all_cons]
    have s0 : sentK t k = isEv (peek t k):=by unfold sentK;rw [h2];rfl
    have s1 : sentK t (k + 1) = isDg 49 (peek t (k + 1)):=by
     unfold sentK
     have : (k + 1) % 2 = 1:=by omega
     rw [this];rfl
    rw [s0,s1]
    have hd : (!decide (peek t (k + 1) < 49) && !decide (57 < peek t (k + 1))) = isDg 49 (peek t (k + 1)):=by
     unfold isDg;rw [Bool.eq_iff_iff];simp
    rw [Bool.and_assoc,hd,← Bool.and_assoc];have:=ih f (by omega) (k + 2) (by omega) (by omega) h3;rw [this]
    cases isEv (peek t k) && isDg 49 (peek t (k + 1)) <;> simp
   rw [if_neg c]
   have : t.size - k = 0:=by omega
   rw [this];rfl
theorem sent_eq (t : ByteArray) : areTm t = sentR t:=by
 unfold areTm sentR
 have hm : (((t.size : Int) % 2 != 0) || decide (16 < t.size)) = (decide (16 < t.size) || t.size % 2 == 1):=by
  rw [Bool.or_comm]
  congr 1
  rw [Bool.eq_iff_iff];simp;omega
 rw [hm]
 cases c : (decide (16 < t.size) || t.size % 2 == 1) with
 | true=>simp
 | false=>?_
 simp only [Bool.false_eq_true,if_false,Bool.not_false,Bool.true_and]
 have : t.size % 2 = 0:=by
  simp at c;omega
 rw [tmF_spec t t.size 0 (by omega) rfl this,List.range_eq_range',Nat.sub_zero]
theorem same0 (n : Nat) : SameOn n (List.replicate n false) noSet:=by
 refine ⟨by simp,by simp [noSet],fun k=>?_⟩;unfold onAt bit noSet;simp only [List.getD_eq_getElem?_getD,List.getElem?_replicate]
 split <;> split <;> rfl
theorem legal_eq {L : List RN} {r : Rs} (hN : NR L r) (hu : Uniq L) (h16 : L.length ≤ 16) (a p tm : ByteArray) (x y z : Int) : (take (L.map RN.st) a p tm x y z).1 = legalR L a p tm x y z:=by
 have hA : (takeActV (L.map RN.st) a).2 = match spreadR L a with | none=>false | some on=>(List.range L.length).all (fitsR L on):=by
  unfold takeActV takeAct spreadR
  rcases spreadF_eq (t:=a) h16 a.size 0 (-1) _ _ (same0 L.length) (by omega) with ⟨e1,e2⟩ | ⟨on,l,e1,e2,hs⟩
  ·rw [e1,e2]
  rw [e1,e2];simp only
  have : allFit (L.map RN.st) l (L.map RN.st).length = (List.range L.length).all (fitsR L on):=by
   unfold allFit;rw [List.length_map,Bool.eq_iff_iff,List.all_eq_true,List.all_eq_true]
   constructor
   ·intro h i hi;rw [← fits_eq hN hs (by simpa using hi)];exact h i hi
   intro h i hi;rw [fits_eq hN hs (by simpa using hi)];exact h i hi
  rw [this]
  cases (List.range L.length).all (fitsR L on) <;> rfl
 unfold take legalR;rw [hA,rem_eq hu h16,sent_eq]
 cases spreadR L a with
 | none=>rfl
 | some on=>?_
 have key : ∀ (b1 b2 b3 b4 b5 b6 : Bool) (s1 s2 : Sd),(if b1 = true then if b2 = true then if (b3 && b4 && b5 && b6) = true then (true,s1) else (false,s2) else (false,s2) else (false,s2)).1 = (b1 && (b2 && b3 && b4 && b5 && b6)):=by
  intro b1 b2 b3 b4 b5 b6 s1 s2
  cases b1 <;> cases b2 <;> cases b3 <;> cases b4 <;> cases b5 <;> cases b6 <;> rfl
 exact key _ _ _ _ _ _ _ _
theorem uniq_of {L : List RN} (h : ∀ j,j < L.length → dupR L j = false) : Uniq L:=by
 have key : ∀ i j,i < j → j < L.length → (rnAt L i).name ≠ (rnAt L j).name:=by
  intro i j hij hj e;have:=h j hj;unfold dupR at this;rw [List.any_eq_false] at this
  have hi : i < L.length:=by omega
  have:=this L[i] (by rw [List.mem_take_iff_getElem];exact ⟨i,by omega,rfl⟩);rw [rnAt_of (List.getElem?_eq_getElem hi)] at e;simp [e] at this
 intro i j hi hj e
 rcases Nat.lt_trichotomy i j with h' | h' | h'
 ·exact absurd e (key i j h' hj)
 ·exact h'
 exact absurd e.symm (key j i h' hi)
theorem uniq_judge {L : List RN} {r : Rs} (hN : NR L r) (h : (judge r.sts r.uses).1 = 0) : Uniq L ∧ L.length ≤ 16:=by
 rw [← fault_eq hN] at h;unfold faultR at h
 split at h
 ·simp at h
 rename_i c;refine ⟨uniq_of ?_,by omega⟩
 cases e : (List.range L.length).find? (dupR L) with
 | some i=>rw [e] at h;simp at h
 | none=>?_
 rw [List.find?_eq_none] at e;intro j hj;have:=e j (by simpa using hj);simpa using this
theorem namedR_hit {L : List RN} {b : Int} {k : Nat} (hk : k < L.length) (h : ((rnAt L k).name == b) = true) (hb : ∀ j,j < k → ((rnAt L j).name == b) = false) : namedR L b = k:=by
 unfold namedR
 have : (List.range L.length).find? (fun i=>(rnAt L i).name == b) = some k:=by
  rw [List.find?_range_eq_some];exact ⟨h,by simpa using hk,fun j hj=>by simp [hb j hj]⟩
 rw [this]
theorem namedR_miss {L : List RN} {b : Int} (hb : ∀ j,j < L.length → ((rnAt L j).name == b) = false) : namedR L b = -1:=by
 unfold namedR
 have : (List.range L.length).find? (fun i=>(rnAt L i).name == b) = none:=by
  rw [List.find?_eq_none];intro j hj;simp [hb j (by simpa using hj)]
 rw [this]
theorem rnAt_mk {l : List NV} {k : Nat} {x : NV} (hx : l[k]? = some x) : rnAt (mk l) k = x.n:=rnAt_of (by unfold mk;rw [List.getElem?_map,hx];rfl)
def histK (L : List RN) (k : Nat) : List Nat:=(List.range k).filter fun i=>(rnAt L i).kind == 5
theorem histK_succ (L : List RN) (k : Nat) : histK L (k + 1) = if (rnAt L k).kind == 5 then histK L k ++ [k] else histK L k:=by
 unfold histK;rw [List.range_succ,List.filter_append,List.filter_cons];split <;> simp
theorem histK_len (L : List RN) (k : Nat) : (histK L k).length ≤ k:=by
 unfold histK;have:=List.length_filter_le (fun i=>(rnAt L i).kind == 5) (List.range k);simpa using this
end Ch
section
variable (w : World) (B cb : Nat)
theorem rSmall_any (v : Int) :
 Calls Tryz.prog 200 #[.int .i64 v] w fun x w'=>x = .returned (.bool (Ch.inB v)) ∧ w' = w:=by
 unfold Ch.inB
 cases q1 : decide (-99 ≤ v) <;> cases q2 : decide (v ≤ 99) <;>
  (go_enter Tryz.func200,Tryz.ntmps200
   go_wp2;go_ret
   exact ⟨rfl,rfl⟩)
theorem rNamed_any (l : List NV) (v : Value) (b : Int) (hF : ChF w B cb l v) (hl : l.length ≤ 1000) :
 Calls Tryz.prog 236 #[.pointer (some ⟨cb,0,none⟩),.int .u8 b] w fun x w'=>x = .returned (.int .i64 (Ch.namedR (Ch.mk l) b)) ∧ w' = w:=by
 obtain ⟨ao,cap,rfl⟩:=hF.2.1.len;have zc:=hF.cell;have hml:=Ch.mk_len l;have HF:=hid hF;clear hF
 go_enter Tryz.func236,Tryz.ntmps236
 go_wp2_with fail
 go_loop [5] (fun i=>∃ k : Nat,i = .int .i64 k ∧ k ≤ l.length ∧ Hid (∀ j,j < k → ((Ch.rnAt (Ch.mk l) j).name == b) = false)) (fun i=>l.length - (intOf i).toNat)
 case atStart=>exact ⟨0,rfl,Nat.zero_le _,hid (fun j h=>absurd h (by omega))⟩
 case round =>
  obtain ⟨k,rfl,hk,HB⟩:=hrel
  by_cases hlt : k < l.length
  ·have hlt' : (k : Int) < (l.length : Int):=by omega
   obtain ⟨x,hx⟩ : ∃ x,l[k]? = some x:=⟨_,List.getElem?_eq_getElem hlt⟩
   obtain ⟨g,cap',hv,_,hcell,_⟩:=HF.out.2.1.form hx;simp only [Value.slice.injEq] at hv;obtain ⟨rfl,-,rfl⟩:=hv;have z0 : w.cell? ⟨g,k * 7,none⟩ = some (.int .u8 x.n.name):=hcell 0 (by omega);have hrn:=Ch.rnAt_mk hx;clear hcell
   cases q : x.n.name == b with
   | true =>
     have hR:=hid (Ch.namedR_hit (L:=Ch.mk l) (by omega) (by rw [hrn];exact q) HB.out);go_wp2;go_ret;rw [hR.out];exact ⟨rfl,rfl⟩
   | false=>?_
   have HB2:=hid (show ∀ j,j < k + 1 → ((Ch.rnAt (Ch.mk l) j).name == b) = false from fun j hj=>by
    rcases Nat.lt_or_eq_of_le (Nat.le_of_lt_succ hj) with h | h
    ·exact HB.out j h
    subst h;rw [hrn];exact q)
   go_wp2
   go_round
   case rel=>exact ⟨k + 1,by go_num,by omega,HB2⟩
   case measure=>simp [intOf];omega
  have hge : ¬ (k : Int) < (l.length : Int):=by omega
  obtain rfl : k = l.length:=by omega
  have hR:=hid (Ch.namedR_miss (L:=Ch.mk l) (b:=b) (by rw [hml];exact HB.out));go_wp2;go_ret;rw [hR.out];exact ⟨rfl,rfl⟩
theorem rHist_any (l : List NV) (v : Value) (hF : ChF w B cb l v) (hl : l.length ≤ 1000) :
 Calls Tryz.prog 201 #[.pointer (some ⟨cb,0,none⟩)] w fun x w'=>∃ u,x = .returned u ∧ w'.ownsRow w.heap.size 3 1 u (Ch.histR (Ch.mk l)).length (inCells (Ch.natI (Ch.histR (Ch.mk l)))) ∧ Kp (fun _=>False) w w':=by
 obtain ⟨i0,hi,hz0,hz1,hz2⟩:=info_parts Tryz.infoInt;obtain ⟨ao,cap,rfl⟩:=hF.2.1.len
 go_enter Tryz.func201,Tryz.ntmps201
 go_wp2_with fail
 go_loopw [3,4] (fun fv j wr=>∃ k : Nat,j = .int .i64 k ∧ k ≤ l.length ∧ wr.ownsRow w.heap.size 3 1 fv (Ch.histK (Ch.mk l) k).length (inCells (Ch.natI (Ch.histK (Ch.mk l) k))) ∧ Kp (fun _=>False) w wr) (fun _ j _=>l.length - (intOf j).toNat)
 case atStart=>exact ⟨0,rfl,Nat.zero_le _,World.ownsRow_nil _ _ _ _,Kp.refl _ _⟩
 case round =>
  obtain ⟨k,rfl,hk,ho,KW⟩:=hrel;have hFr:=hF.keep0 KW;have zc:=hFr.cell;have hkl:=Ch.histK_len (Ch.mk l) k
  by_cases hlt : k < l.length
  ·have hlt' : (k : Int) < (l.length : Int):=by omega
   obtain ⟨x,hx⟩ : ∃ x,l[k]? = some x:=⟨_,List.getElem?_eq_getElem hlt⟩
   obtain ⟨g,cap',hv,hBg,hcell,hfr⟩:=hFr.2.1.form hx;simp only [Value.slice.injEq] at hv;obtain ⟨rfl,-,rfl⟩:=hv;have z1 : wr.cell? ⟨g,k * 7 + 1,none⟩ = some (.int .i64 x.n.kind):=hcell 1 (by omega);have hkid:=Ch.histK_succ (Ch.mk l) k;rw [Ch.rnAt_mk hx] at hkid;clear hFr hcell hfr
   cases q1 : x.n.kind == 5 with
   | false =>
     rw [q1] at hkid;have HK:=hid hkid;clear hkid;go_wp2
     go_roundw
     case rel=>exact ⟨k + 1,by go_num,by omega,by rw [HK.out];exact ho,KW⟩
     case measure=>simp [intOf];omega
   | true=>?_
   rw [q1] at hkid;have HK:=hid (hkid.trans (if_pos rfl));have hsz:=KW.size;clear hkid
   go_wp2_with (at_builtin;refine wpList_append_own (P:=Tryz.prog) _ rfl (.tmp 23) (.tmp 25) 38 rfl w.heap.size 3 i0 (.int .i64 0) 1 8 Tryz.underlying38 hi hz0 hz1 hz2 rfl (by decide) u3 (Ch.histK (Ch.mk l) k).length (inCells (Ch.natI (Ch.histK (Ch.mk l) k))) rfl (by exact ho.alloc _) ⟨wr.heap.size,0,none⟩ 1 1 [.int .i64 k] rfl rfl (by exact cell1_new _ _ _) (by intro u hu;simp at hu;subst hu;rfl) (by unfold maxLen;omega) (by omega) (by simp;omega) ?_)
   intro v' w9 o9 g9 _;have K9 : Kp (fun _=>False) w w9:=(KW.alloc (.cells #[.int .i64 k] 3)).grown (by exact g9) (fun j hj hlt=>by have:=(ho.lt j hj).1;omega);have HO:=hid (And.intro o9 K9);clear o9 g9 K9 ho KW zc z1;go_wp2
   go_roundw
   case rel =>
    refine ⟨k + 1,by go_num,by omega,?_,HO.out.2⟩;rw [HK.out,Ch.natI_snoc];have:=HO.out.1;simpa [inCells] using this
   case measure=>simp [intOf];omega
  have hge : ¬ (k : Int) < (l.length : Int):=by omega
  obtain rfl : k = l.length:=by omega
  have HR:=hid (show Ch.histR (Ch.mk l) = Ch.histK (Ch.mk l) l.length by unfold Ch.histR Ch.histK;rw [Ch.mk_len]);clear hFr;go_wp2;go_ret;rw [HR.out];exact ⟨_,rfl,ho,KW⟩
end
namespace Ch
theorem sentR_no {t : ByteArray} {k : Nat} (hk : k < t.size) (h : sentK t k = false) : sentR t = false:=by
 unfold sentR
 have : (List.range t.size).all (sentK t) = false:=by
  rw [List.all_eq_false];exact ⟨k,by simpa using hk,by simp [h]⟩
 rw [this];simp
theorem sentR_yes {t : ByteArray} (h1 : (decide (16 < t.size) || t.size % 2 == 1) = false) (h : ∀ j,j < t.size → sentK t j = true) : sentR t = true:=by
 unfold sentR;rw [h1];simp only [Bool.not_false,Bool.true_and,List.all_eq_true,List.mem_range];exact h
theorem sentR_big {t : ByteArray} (h1 : (decide (16 < t.size) || t.size % 2 == 1) = true) : sentR t = false:=by
 unfold sentR;rw [h1];rfl
end Ch
section
variable (w : World)
theorem rSent_any (t : ByteArray) (ht : t.size ≤ 9223372036854775807) :
 Calls Tryz.prog 199 #[.string t] w fun x w'=>x = .returned (.bool (Ch.sentR t)) ∧ w' = w:=by
 have hm : ((t.size : Int).tmod 2) = ((t.size % 2 : Nat) : Int):=(Int.ofNat_tmod t.size 2).symm
 by_cases h16 : 16 < t.size
 ·have h16' : (16 : Int) < (t.size : Int):=by omega
  have HR:=hid (Ch.sentR_big (t:=t) (by simp [h16]))
  go_enter Tryz.func199,Tryz.ntmps199
  go_wp2;go_ret;rw [HR.out];exact ⟨rfl,rfl⟩
 have h16' : ¬ (16 : Int) < (t.size : Int):=by omega
 rcases Nat.mod_two_eq_zero_or_one t.size with hp | hp
 ·rw [hp] at hm
  have H1:=hid (show (decide (16 < t.size) || t.size % 2 == 1) = false by simp [h16,hp])
  go_enter Tryz.func199,Tryz.ntmps199
  go_wp2_with fail
  go_loop [3] (fun i=>∃ k : Nat,i = .int .i64 k ∧ k ≤ t.size ∧ Hid (∀ j,j < k → Ch.sentK t j = true)) (fun i=>t.size - (intOf i).toNat)
  case atStart=>exact ⟨0,rfl,Nat.zero_le _,hid (fun j h=>absurd h (by omega))⟩
  case round =>
   obtain ⟨k,rfl,hk,HB⟩:=hrel
   by_cases hlt : k < t.size
   ·have hlt' : (k : Int) < (t.size : Int):=by omega
    have hpk : Ch.peek t k = ((t[k]'hlt).toNat : Int):=by simp [Ch.peek,hlt]
    have hmk : ((k : Int).tmod 2) = ((k % 2 : Nat) : Int):=(Int.ofNat_tmod k 2).symm;have E1:=hid (rIn_any w ((t[k]'hlt).toNat : Int) 97 122);have E2:=hid (rIn_any w ((t[k]'hlt).toNat : Int) 49 57);have HK:=hid (show Ch.sentK t k = if k % 2 == 0 then Ch.inR ((t[k]'hlt).toNat : Int) 97 122 else Ch.inR ((t[k]'hlt).toNat : Int) 49 57 by unfold Ch.sentK;rw [hpk];rfl);have HN:=hid (fun h : Ch.sentK t k = false=>Ch.sentR_no hlt h)
    have HY:=hid (fun (h : Ch.sentK t k = true)=>show ∀ j,j < k + 1 → Ch.sentK t j = true from fun j hj=>by
     rcases Nat.lt_or_eq_of_le (Nat.le_of_lt_succ hj) with h' | h'
     ·exact HB.out j h'
     subst h';exact h)
    clear hpk;generalize Ch.inR ((t[k]'hlt).toNat : Int) 97 122 = e1 at E1 HK;generalize Ch.inR ((t[k]'hlt).toNat : Int) 49 57 = e2 at E2 HK
    rcases Nat.mod_two_eq_zero_or_one k with hq | hq <;> rw [hq] at hmk <;> cases e1 <;> cases e2 <;>
    (go_wp2_with fail
     refine cMo E1 ?_;rintro x w1 ⟨rfl,rfl⟩
     go_wp2_with fail
     refine cMo E2 ?_;rintro x w1 ⟨rfl,rfl⟩;go_wp2
     first
     | (go_ret
        rw [HN.out (by rw [HK.out,hq];rfl)]
        exact ⟨rfl,rfl⟩)
     | (go_round
        case rel=>exact ⟨k + 1,by go_num,by omega,hid (HY.out (by rw [HK.out,hq];rfl))⟩
        case measure=>simp [intOf];omega))
   have hge : ¬ (k : Int) < (t.size : Int):=by omega
   obtain rfl : k = t.size:=by omega
   have HR:=hid (Ch.sentR_yes H1.out HB.out);go_wp2;go_ret;rw [HR.out];exact ⟨rfl,rfl⟩
 rw [hp] at hm;have HR:=hid (Ch.sentR_big (t:=t) (by simp [hp]))
 go_enter Tryz.func199,Tryz.ntmps199
 go_wp2;go_ret;rw [HR.out];exact ⟨rfl,rfl⟩
end
namespace Ch
theorem kidsR_lt {L : List RN} {i : Int} {j : Nat} (h : j ∈ kidsR L i) : j < L.length:=by
 unfold kidsR at h;rw [List.mem_filter] at h;simpa using h.1
theorem kidsR_len (L : List RN) (i : Int) : (kidsR L i).length ≤ L.length:=by
 unfold kidsR;have:=List.length_filter_le (isKid L i) (List.range L.length);simpa using this
theorem countP_take_succ {l : List Nat} {p : Nat → Bool} {k j : Nat} (h : l[k]? = some j) : (l.take (k + 1)).countP p = (l.take k).countP p + if p j then 1 else 0:=by
 rw [List.take_add_one,h,List.countP_append];simp [List.countP_cons]
end Ch
def OnB (w : World) (g : Nat) (on : List Bool) : Prop:=w.heap[g]? = some (.cells (on.map Value.bool).toArray 4)
theorem OnB.cell {w : World} {g : Nat} {on : List Bool} (h : OnB w g on) {k : Nat} (hk : k < on.length) : w.cell? ⟨g,k,none⟩ = some (.bool (Ch.onAt on k)):=by
 unfold OnB at h;simp [World.cell?,h,Ch.onAt,hk]
section
variable (w : World) (B cb : Nat)
theorem rCount_any (l : List NV) (v : Value) (i g : Nat) (on : List Bool) (hF : ChF w B cb l v) (hl : l.length ≤ 1000) (hon : OnB w g on) (hol : on.length = l.length) :
 Calls Tryz.prog 237 #[.pointer (some ⟨cb,0,none⟩),.int .i64 i,.slice (some ⟨g,0,none⟩) l.length l.length] w fun x w'=>x = .returned (.int .i64 (Ch.onKids (Ch.mk l) on i)) ∧ Kp (fun _=>False) w w':=by
 have E:=hid (rKids_any w B cb l v (i : Int) hF hl);have hkl:=Ch.kidsR_len (Ch.mk l) (i : Int);rw [Ch.mk_len] at hkl
 have hlt:=fun j (h : j ∈ Ch.kidsR (Ch.mk l) (i : Int))=>Ch.kidsR_lt h
 rw [Ch.mk_len] at hlt;unfold Ch.onKids;generalize Ch.kidsR (Ch.mk l) (i : Int) = ks at E hkl hlt ⊢;have HF:=hid hF;have HL:=hid hlt;clear hF hlt
 go_enter Tryz.func237,Tryz.ntmps237
 go_wp2_with fail
 refine hm E ?_;rintro x w1 ⟨u,rfl,ho,K1⟩;have hon1 : OnB w1 g on:=K1.at_ hon (fun x=>x);have HO:=hid (And.intro ho (And.intro hon1 K1));clear ho hon1 K1 hon
 obtain ⟨a0,cap,rfl⟩ : ∃ a0 cap,u = .slice a0 ks.length cap:=by
  rcases Nat.eq_zero_or_pos ks.length with h | h
  ·rcases HO.out.1.2 with ⟨h1,h0⟩ | ⟨g,cap,cur,hv,_⟩
   ·exact ⟨none,0,by rw [h1,h]⟩
   exact ⟨_,_,hv⟩
  obtain ⟨g,cap,hv,_⟩:=World.ownsRow.form HO.out.1 h;exact ⟨_,_,hv⟩
 go_wp2_with fail
 go_loop [7,9] (fun n j=>∃ k : Nat,j = .int .i64 k ∧ k ≤ ks.length ∧ n = .int .i64 ((ks.take k).countP (Ch.onAt on) : Nat)) (fun _ j=>ks.length - (intOf j).toNat)
 case atStart=>exact ⟨0,rfl,Nat.zero_le _,rfl⟩
 case round =>
  obtain ⟨k,rfl,hk,rfl⟩:=hrel;have hcp : (ks.take k).countP (Ch.onAt on) ≤ k:=Nat.le_trans List.countP_le_length (by simp;omega)
  by_cases hlt : k < ks.length
  ·have hlt' : (k : Int) < (ks.length : Int):=by omega
   obtain ⟨j,hj⟩ : ∃ j,ks[k]? = some j:=⟨_,List.getElem?_eq_getElem hlt⟩
   have hjl:=HL.out j (List.mem_of_getElem? hj);obtain ⟨g2,cap2,hv,_⟩:=World.ownsRow.form HO.out.1 (by omega);simp only [Value.slice.injEq] at hv;obtain ⟨rfl,-,rfl⟩:=hv
   have z1 : w1.cell? ⟨g2,k,none⟩ = some (.int .i64 j):=by
    rw [World.ownsRow.cellAt HO.out.1 k (by omega)];simp [inCells,Ch.natI,hj]
   have z2:=HO.out.2.1.cell (k:=j) (by omega);have HC:=hid (Ch.countP_take_succ (p:=Ch.onAt on) hj)
   have hjl' : (j : Int) < (l.length : Int):=by omega
   cases q : Ch.onAt on j <;> rw [q] at z2 HC <;>
   (go_wp2
    go_round
    case rel=>exact ⟨k + 1,by go_num,by omega,by rw [HC.out];go_num⟩
    case measure=>simp [intOf];omega)
  have hge : ¬ (k : Int) < (ks.length : Int):=by omega
  obtain rfl : k = ks.length:=by omega
  go_wp2;go_ret;exact ⟨rfl,HO.out.2.2⟩
end
namespace Ch
theorem fitsR_of {L : List RN} {on : List Bool} {i : Nat} {n : RN} (h : rnAt L i = n) : fitsR L on i = if !onAt on i then decide (0 ≤ n.parent)
 else if n.kind == 5 || (decide (0 ≤ n.parent) && !onAt on n.parent.toNat) then false
 else if n.kind == 2 then onKids L on i == 1
 else if n.kind == 3 then onKids L on i == (kidsR L (i : Int)).length
 else true:=by unfold fitsR;rw [h]
theorem onKids_le (L : List RN) (on : List Bool) (i : Nat) : onKids L on i ≤ L.length:=by
 unfold onKids;exact Nat.le_trans List.countP_le_length (kidsR_len L i)
end Ch
theorem OnB.free {w : World} {g : Nat} {on : List Bool} (h : OnB w g on) (k : Nat) : w.frozen? ⟨g,k,none⟩ = false:=by unfold OnB at h;simp [World.frozen?,h]
theorem OnB.set {w : World} {g : Nat} {on : List Bool} (h : OnB w g on) (k : Nat) (b : Bool) : OnB (w.setCell ⟨g,k,none⟩ (.bool b)) g (on.set k b):=by
 unfold OnB at *;rw [heap_set_same _ h];simp [List.map_set]
theorem OnB.made {w : World} {base g n : Nat} (h : w.ownsRow base 4 1 (.slice (some ⟨g,0,none⟩) n n) n (madeCells #[Value.bool false] n).toList) : OnB w g (List.replicate n false):=by
 unfold OnB
 have hm : (madeCells #[Value.bool false] n).toList = (List.replicate n false).map Value.bool:=by
  apply List.ext_getElem?;intro j;unfold madeCells;simp only [Array.toList_map,List.getElem?_map,Array.toList_range,List.getElem?_replicate]
  by_cases c : j < n
  ·rw [List.getElem?_range c,if_pos c]
   simp [Nat.mod_one]
  rw [List.getElem?_eq_none (by simp;omega),if_neg c];rfl
 rcases h.2 with ⟨e,_⟩ | ⟨g',cap,cur,e,_,hh,hc,_,hsz,hcur⟩
 ·simp at e
 simp only [Value.slice.injEq,Option.some.injEq,Addr.mk.injEq,and_true,true_and] at e;obtain ⟨rfl,rfl⟩:=e;rw [hh]
 have : cur = ((List.replicate n false).map Value.bool).toArray:=by
  apply Array.toList_inj.1;rw [hm] at hcur;rw [← hcur,List.take_of_length_le (by rw [Array.length_toList,hsz];exact Nat.le_refl _)]
 rw [this]
section
variable (w : World) (B cb : Nat)
theorem rFits_any (l : List NV) (v : Value) (i g : Nat) (on : List Bool) (hF : ChF w B cb l v) (hl : l.length ≤ 1000) (hon : OnB w g on) (hol : on.length = l.length) (hi : i < l.length)
 (hpw : ∀ x,l[i]? = some x → -1 ≤ x.n.parent ∧ x.n.parent < i) :
 Calls Tryz.prog 197 #[.pointer (some ⟨cb,0,none⟩),.int .i64 i,.slice (some ⟨g,0,none⟩) l.length l.length] w fun x w'=>x = .returned (.bool (Ch.fitsR (Ch.mk l) on i)) ∧ Kp (fun _=>False) w w':=by
 obtain ⟨ao,cap,rfl⟩:=hF.2.1.len;have zc:=hF.cell
 have hlt' : (i : Int) < (l.length : Int):=by omega
 obtain ⟨x,hx⟩ : ∃ x,l[i]? = some x:=⟨_,List.getElem?_eq_getElem hi⟩
 obtain ⟨g1,cap',hv,hBg,hcell,hfr⟩:=hF.2.1.form hx;simp only [Value.slice.injEq] at hv;obtain ⟨rfl,-,rfl⟩:=hv;have hxm:=List.mem_of_getElem? hx;have z0 : w.cell? ⟨g1,i * 7,none⟩ = some (.int .u8 x.n.name):=hcell 0 (by omega);have z1 : w.cell? ⟨g1,i * 7 + 1,none⟩ = some (.int .i64 x.n.kind):=hcell 1 (by omega);have z2 : w.cell? ⟨g1,i * 7 + 2,none⟩ = some (.int .i64 x.n.parent):=hcell 2 (by omega);have z3 : w.cell? ⟨g1,i * 7 + 3,none⟩ = some (.int .i64 x.n.pos):=hcell 3 (by omega);have z4 : w.cell? ⟨g1,i * 7 + 4,none⟩ = some x.ev:=hcell 4 (by omega);have z5 : w.cell? ⟨g1,i * 7 + 5,none⟩ = some x.lv:=hcell 5 (by omega);have z6 : w.cell? ⟨g1,i * 7 + 6,none⟩ = some x.tv:=hcell 6 (by omega);obtain ⟨ea,ec,hev⟩:=own_len (hF.2.1.ent x hxm);obtain ⟨la,lc,hlv⟩:=own_len (hF.2.1.lea x hxm);obtain ⟨ta,tc,htv⟩:=own_len (hF.2.1.tra x hxm);rw [hev] at z4;rw [hlv] at z5;rw [htv] at z6;have hpx:=hpw x hx;have hR:=Ch.fitsR_of (on:=on) (Ch.rnAt_mk hx);have HQ:=hid (And.intro hF (And.intro hon hR));clear hF hon hcell hfr hR;have K3 : Kp (fun _=>False) w (w.alloc (.cells #[.int .u8 x.n.name,.int .i64 x.n.kind,.int .i64 x.n.parent,.int .i64 x.n.pos,.slice ea x.n.enter.length ec,.slice la x.n.leave.length lc,.slice ta x.n.trans.length tc] 223)):=(Kp.refl _ _).alloc _;have hb3:=heap_alloc_new w (.cells #[.int .u8 x.n.name,.int .i64 x.n.kind,.int .i64 x.n.parent,.int .i64 x.n.pos,.slice ea x.n.enter.length ec,.slice la x.n.leave.length lc,.slice ta x.n.trans.length tc] 223)
 go_enter Tryz.func197,Tryz.ntmps197
 go_upto_region 2 with (fail)
 generalize w.alloc (.cells #[.int .u8 x.n.name,.int .i64 x.n.kind,.int .i64 x.n.parent,.int .i64 x.n.pos,.slice ea x.n.enter.length ec,.slice la x.n.leave.length lc,.slice ta x.n.trans.length tc] 223) = w3 at *;generalize w.heap.size = nb at *;have hF3:=HQ.out.1.keep0 K3;have hon3 : OnB w3 g on:=K3.at_ HQ.out.2.1 (fun x=>x);have hR:=HQ.out.2.2;have zon:=hon3.cell (k:=i) (by omega)
 have c1 : w3.cell? ⟨nb,1,none⟩ = some (.int .i64 x.n.kind):=by rw [World.cell?,hb3];rfl
 have c2 : w3.cell? ⟨nb,2,none⟩ = some (.int .i64 x.n.parent):=by rw [World.cell?,hb3];rfl
 clear z0 z1 z2 z3 z4 z5 z6 zc hev hlv htv HQ
 cases qo : Ch.onAt on i with
 | false =>
   rw [qo] at hR zon;simp only [Bool.not_false,if_true] at hR;have HR:=hid hR;clear hR hF3 hon3 hb3
   by_cases c : 0 ≤ x.n.parent
   ·go_wp2
    go_ret;rw [HR.out,decide_eq_true c];exact ⟨rfl,K3⟩
   go_wp2;go_ret;rw [HR.out,decide_eq_false (by omega)];exact ⟨rfl,K3⟩
 | true=>?_
 rw [qo] at hR zon;simp only [Bool.not_true,Bool.false_eq_true,if_false] at hR
 cases q5 : x.n.kind == 5 with
 | true =>
   rw [q5] at hR;simp only [Bool.true_or,if_true] at hR;have HR:=hid hR;clear hR hF3 hon3 hb3;go_wp2;go_ret;rw [HR.out];exact ⟨rfl,K3⟩
 | false=>?_
 rw [q5] at hR
 by_cases c : 0 ≤ x.n.parent
 ·obtain ⟨p,hp⟩ : ∃ p : Nat,x.n.parent = p:=⟨x.n.parent.toNat,by omega⟩
  have hpl : (p : Int) < (l.length : Int):=by omega
  have zp:=hon3.cell (k:=p) (by omega);rw [hp] at hR c2
  have hp0 : (0 : Int) ≤ (p : Int):=by omega
  rw [decide_eq_true hp0,Int.toNat_natCast] at hR
  cases qp : Ch.onAt on p with
  | false =>
    rw [qp] at hR zp;simp only [Bool.not_false,Bool.and_self,Bool.or_true,if_true] at hR;have HR:=hid hR;clear hR hF3 hon3 hb3;go_wp2;go_ret;rw [HR.out];exact ⟨rfl,K3⟩
  | true=>?_
  rw [qp] at hR zp;simp only [Bool.not_true,Bool.and_false,Bool.or_self,Bool.false_eq_true,if_false] at hR;have E1:=hid (rCount_any w3 B cb l _ i g on hF3 hl hon3 hol);have HR:=hid (And.intro hR (And.intro hF3 hb3));clear hR hF3 hon3 hb3
  go_wp2_with fail
  refine cMo E1 ?_;rintro y w4 ⟨rfl,K4⟩;have K34:=K3.trans K4;have hF4:=HR.out.2.1.keep0 K4;have hb4:=K4.at_ HR.out.2.2 (fun x=>x);have E2:=hid (rKids_any w4 B cb l _ (i : Int) hF4 hl);have hok:=Ch.onKids_le (Ch.mk l) on i;have hkl:=Ch.kidsR_len (Ch.mk l) (i : Int);rw [Ch.mk_len] at hok hkl;have HR2:=hid HR.out.1;clear HR E1 hF4 c1 c2 zon K3 K4;generalize Ch.onKids (Ch.mk l) on i = kn at *;generalize Ch.kidsR (Ch.mk l) (i : Int) = ks at *
  go_wp2_with fail
  refine cMo E2 ?_;rintro y w5 ⟨u,rfl,ho,K5⟩;obtain ⟨ua,uc,rfl⟩:=own_len ho;have hb5:=K5.at_ hb4 (fun x=>x)
  have c1 : w5.cell? ⟨nb,1,none⟩ = some (.int .i64 x.n.kind):=by rw [World.cell?,hb5];rfl
  have K:=K34.trans K5;clear hb4 hb5 ho E2 K34 K5
  cases q2 : x.n.kind == 2 with
  | true =>
    rw [q2] at HR2
    have e2 : x.n.kind = 2:=by simpa using q2
    rw [e2] at c1
    by_cases c1' : kn = 1
    ·subst c1'
     go_wp2;go_ret;rw [HR2.out];exact ⟨rfl,K⟩
    have c2' : ((kn : Int) == 1) = false:=by simp;omega
    go_wp2;go_ret;rw [HR2.out];refine ⟨?_,K⟩
    have : (kn == 1) = false:=by simpa using c1'
    simp [this]
  | false=>?_
  rw [q2] at HR2
  cases q3 : x.n.kind == 3 with
  | true =>
    rw [q3] at HR2
    have e3 : x.n.kind = 3:=by simpa using q3
    rw [e3] at c1
    by_cases c1' : kn = ks.length
    ·subst c1'
     go_wp2;go_ret;rw [HR2.out];exact ⟨by simp,K⟩
    have c2' : ((kn : Int) == (ks.length : Int)) = false:=by simp;omega
    go_wp2;go_ret;rw [HR2.out];refine ⟨?_,K⟩
    have : (kn == ks.length) = false:=by simpa using c1'
    simp [this]
  | false=>?_
  rw [q3] at HR2;go_wp2;go_ret;rw [HR2.out];exact ⟨by simp,K⟩
 rw [decide_eq_false c] at hR;simp only [Bool.false_and,Bool.or_self,Bool.false_eq_true,if_false] at hR
 have hp1 : x.n.parent < 0:=by omega
 have E1:=hid (rCount_any w3 B cb l _ i g on hF3 hl hon3 hol);have HR:=hid (And.intro hR (And.intro hF3 hb3));clear hR hF3 hon3 hb3
 go_wp2_with fail
 refine cMo E1 ?_;rintro y w4 ⟨rfl,K4⟩;have K34:=K3.trans K4;have hF4:=HR.out.2.1.keep0 K4;have hb4:=K4.at_ HR.out.2.2 (fun x=>x);have E2:=hid (rKids_any w4 B cb l _ (i : Int) hF4 hl);have hok:=Ch.onKids_le (Ch.mk l) on i;have hkl:=Ch.kidsR_len (Ch.mk l) (i : Int);rw [Ch.mk_len] at hok hkl;have HR2:=hid HR.out.1;clear HR E1 hF4 c1 c2 zon K3 K4;generalize Ch.onKids (Ch.mk l) on i = kn at *;generalize Ch.kidsR (Ch.mk l) (i : Int) = ks at *
 go_wp2_with fail
 refine cMo E2 ?_;rintro y w5 ⟨u,rfl,ho,K5⟩;obtain ⟨ua,uc,rfl⟩:=own_len ho;have hb5:=K5.at_ hb4 (fun x=>x)
 have c1 : w5.cell? ⟨nb,1,none⟩ = some (.int .i64 x.n.kind):=by rw [World.cell?,hb5];rfl
 have K:=K34.trans K5;clear hb4 hb5 ho E2 K34 K5
 cases q2 : x.n.kind == 2 with
 | true =>
   rw [q2] at HR2
   have e2 : x.n.kind = 2:=by simpa using q2
   rw [e2] at c1
   by_cases c1' : kn = 1
   ·subst c1'
    go_wp2;go_ret;rw [HR2.out];exact ⟨rfl,K⟩
   have c2' : ((kn : Int) == 1) = false:=by simp;omega
   go_wp2;go_ret;rw [HR2.out];refine ⟨?_,K⟩
   have : (kn == 1) = false:=by simpa using c1'
   simp [this]
 | false=>?_
 rw [q2] at HR2
 cases q3 : x.n.kind == 3 with
 | true =>
   rw [q3] at HR2
   have e3 : x.n.kind = 3:=by simpa using q3
   rw [e3] at c1
   by_cases c1' : kn = ks.length
   ·subst c1'
    go_wp2;go_ret;rw [HR2.out];exact ⟨by simp,K⟩
   have c2' : ((kn : Int) == (ks.length : Int)) = false:=by simp;omega
   go_wp2;go_ret;rw [HR2.out];refine ⟨?_,K⟩
   have : (kn == ks.length) = false:=by simpa using c1'
   simp [this]
 | false=>?_
 rw [q3] at HR2;go_wp2;go_ret;rw [HR2.out];exact ⟨by simp,K⟩
end
theorem Tryz.infoBool : (Tryz.prog.info? 4).map (fun i=>(i.zero,i.size,i.bytes)) = some (some (.bool false),1,1):=by kernel_rfl
namespace Ch
theorem spreadF_no {L : List RN} {t : ByteArray} {k : Nat} {last : Int} {on : List Bool} (hk : k < t.size) (h : namedR L (peek t k) ≤ last) : spreadF L t (t.size - k) k last on = none:=by
 rw [show t.size - k = (t.size - (k + 1)) + 1 by omega];simp only [spreadF];rw [if_pos h]
theorem spreadF_go {L : List RN} {t : ByteArray} {k i : Nat} {last : Int} {on : List Bool} (hk : k < t.size) (hi : namedR L (peek t k) = i) (h : ¬ (i : Int) ≤ last) : spreadF L t (t.size - k) k last on = spreadF L t (t.size - (k + 1)) (k + 1) i (on.set i true):=by
 rw [show t.size - k = (t.size - (k + 1)) + 1 by omega];simp only [spreadF];rw [hi,if_neg h,Int.toNat_natCast]
theorem namedR_in (L : List RN) (b : Int) : namedR L b = -1 ∨ ∃ i : Nat,namedR L b = i ∧ i < L.length:=by
 rcases named_place L b with ⟨h,_,_⟩ | ⟨i,hi,h,_,_⟩
 ·exact .inl h
 exact .inr ⟨i,h,hi⟩
end Ch
def SpQ (w w' : World) (l : List NV) (s : ByteArray) (u : Value) : Prop:=Kp (fun _=>False) w w' ∧
 ∀ on,Ch.spreadR (Ch.mk l) s = some on → u = .slice (some ⟨w.heap.size,0,none⟩) l.length l.length ∧ OnB w' w.heap.size on ∧ on.length = l.length
section
variable (w : World) (B cb : Nat)
theorem rSpread_any (l : List NV) (v : Value) (s : ByteArray) (hF : ChF w B cb l v) (hl : l.length ≤ 1000) (hs : s.size ≤ maxLen) :
 Calls Tryz.prog 196 #[.pointer (some ⟨cb,0,none⟩),.string s] w fun x w'=>∃ u,x = .returned (.tuple #[u,.bool (Ch.spreadR (Ch.mk l) s).isSome]) ∧ SpQ w w' l s u:=by
 obtain ⟨i0,hi,hz0,hz1,hz2⟩:=info_parts Tryz.infoBool;obtain ⟨ao,cap,rfl⟩:=hF.2.1.len;have zc:=hF.cell;have hs' : s.size ≤ 9223372036854775807:=hs;have HF:=hid hF;clear hF hs
 go_enter Tryz.func196,Tryz.ntmps196
 go_wp2_with (at_make;refine wpList_make_full w rfl (.tmp 14) (.tmp 14) 68 rfl w.heap.size 4 i0 (.bool false) 1 Tryz.underlying68 hi hz0 hz1 .i64 .i64 l.length l.length l.length rfl rfl rfl rfl ?c1 ?c2 (Nat.le_refl _) ?_)
 case c1=>rw [hz2];omega
 case c2=>unfold maxLen;omega
 intro w4 o4 g4;have K4 : Kp (fun _=>False) w w4:=(Kp.refl _ _).grown g4 (fun i hi _=>by simp at hi);have hon4:=OnB.made o4;have hF4:=HF.out.keep0 K4;have HQ:=hid (And.intro hF4 K4);clear zc HF o4 g4 hF4 K4;generalize hg : w.heap.size = g at *
 go_wp2_with fail
 go_loopw [7,8] (fun lv kv wr=>∃ (k : Nat) (last : Int) (on : List Bool),lv = .int .i64 last ∧ kv = .int .i64 k ∧ k ≤ s.size ∧ -1 ≤ last ∧ last < l.length ∧ on.length = l.length ∧ OnB wr g on ∧ Hid (Ch.spreadR (Ch.mk l) s = Ch.spreadF (Ch.mk l) s (s.size - k) k last on) ∧ Kp (fun i=>i = g) w4 wr) (fun _ kv _=>s.size - (intOf kv).toNat)
 case atStart=>exact ⟨0,-1,List.replicate l.length false,rfl,rfl,Nat.zero_le _,by omega,by omega,by simp,hon4,hid (by unfold Ch.spreadR;rw [Ch.mk_len];rfl),Kp.refl _ _⟩
 case round =>
  obtain ⟨k,last,on,rfl,rfl,hk,hl1,hl2,hol,hon,HS,KW⟩:=hrel
  have hFr : ChF wr B cb l (.slice ao l.length cap):=HQ.out.1.keepT KW (fun i cur T hi _ hT e=>by
   subst e;unfold OnB at hon4;rw [hon4] at hi;simp only [Option.some.injEq,Obj.cells.injEq] at hi
   rcases hT with h | h | h | h <;> rw [h] at hi <;> exact absurd hi.2.1 (by decide))
  have KZ:=hid (HQ.out.2.trans' KW (fun i hi x=>by omega))
  by_cases hlt : k < s.size
  ·have hlt' : (k : Int) < (s.size : Int):=by omega
   have hpk : Ch.peek s k = ((s[k]'hlt).toNat : Int):=by simp [Ch.peek,hlt]
   have E:=hid (rNamed_any wr B cb l _ ((s[k]'hlt).toNat : Int) hFr hl)
   have hno:=fun h=>Ch.spreadF_no (L:=Ch.mk l) (on:=on) hlt (last:=last) h
   have hgo:=fun i hi h=>Ch.spreadF_go (L:=Ch.mk l) (on:=on) (i:=i) hlt (last:=last) hi h
   have hin:=Ch.namedR_in (Ch.mk l) (Ch.peek s k);rw [hpk] at hno hgo hin;rw [Ch.mk_len] at hin;generalize Ch.namedR (Ch.mk l) ((s[k]'hlt).toNat : Int) = nr at *
   by_cases c : nr ≤ last
   ·have HR:=hid (HS.out.trans (hno c))
    clear hno hgo hin hpk hFr HS
    go_wp2_with fail
    refine hm E ?_;rintro x w5 ⟨rfl,e5⟩;rw [e5];go_wp2;go_ret2;exact ⟨_,by rw [HR.out];rfl,KZ.out,fun on' h=>by rw [HR.out] at h;cases h⟩
   obtain ⟨i,rfl,hil⟩ : ∃ i : Nat,nr = i ∧ i < l.length:=by
    rcases hin with h | h
    ·omega
    exact h
   have HR:=hid (HS.out.trans (hgo i rfl c))
   have hil' : (i : Int) < (l.length : Int):=by omega
   have c' : last < (i : Int):=by omega
   have zi:=hon.cell (k:=i) (by omega);have fi:=hon.free i;have HON:=hid (hon.set i true);have HKW:=hid (KW.setCell (p:=⟨g,i,none⟩) (fun _=>rfl) (.bool true));clear hno hgo hin hpk hFr HS hon KW KZ
   go_wp2_with fail
   refine hm E ?_;rintro x w5 ⟨rfl,e5⟩;rw [e5];go_wp2
   go_roundw
   case rel=>exact ⟨k + 1,i,on.set i true,rfl,by go_num,by omega,by omega,by omega,by simp [hol],HON.out,hid HR.out,HKW.out⟩
   case measure=>simp [intOf];omega
  have hge : ¬ (k : Int) < (s.size : Int):=by omega
  obtain rfl : k = s.size:=by omega
  have HR:=hid (show Ch.spreadR (Ch.mk l) s = some on by rw [HS.out,Nat.sub_self];rfl);clear hFr HS;go_wp2;go_ret2
  exact ⟨_,by rw [HR.out];rfl,KZ.out,fun on' h=>by
   rw [HR.out] at h
   obtain rfl : on = on':=by simpa using h
   subst hg
   exact ⟨rfl,hon,hol⟩⟩
end
namespace Ch
theorem remR_len {L : List RN} {t : ByteArray} (h : (histR L).length ≠ t.size) : remR L t = false:=by
 unfold remR;have : ((histR L).length == t.size) = false:=by simpa using h
 rw [this];rfl
theorem remR_no {L : List RN} {t : ByteArray} {k : Nat} (hk : k < (histR L).length) (h : pstP L t ((histR L).getD k 0) k = false) : remR L t = false:=by
 unfold remR
 have : ((List.range (histR L).length).all fun k=>pstP L t ((histR L).getD k 0) k) = false:=by
  rw [List.all_eq_false];exact ⟨k,by simpa using hk,by simp only [h];decide⟩
 rw [this];simp
theorem remR_yes {L : List RN} {t : ByteArray} (h0 : (histR L).length = t.size) (h : ∀ k,k < (histR L).length → pstP L t ((histR L).getD k 0) k = true) : remR L t = true:=by
 unfold remR
 have h1 : ((histR L).length == t.size) = true:=by simpa using h0
 rw [h1,Bool.true_and,List.all_eq_true];intro k hk;exact h k (by simpa using hk)
theorem histR_lt {L : List RN} {j : Nat} (h : j ∈ histR L) : j < L.length:=by
 unfold histR at h;rw [List.mem_filter] at h;simpa using h.1
theorem histR_len16 (L : List RN) : (histR L).length ≤ L.length:=by
 unfold histR;have:=List.length_filter_le (fun i=>(rnAt L i).kind == 5) (List.range L.length);simpa using this
theorem any_take_succ {l : List Nat} {p : Nat → Bool} {k j : Nat} (h : l[k]? = some j) : (l.take (k + 1)).any p = ((l.take k).any p || p j):=by
 rw [List.take_add_one,h,List.any_append];simp
end Ch
section
variable (w : World) (B cb : Nat)
theorem rRemembered_any (l : List NV) (v : Value) (s : ByteArray) (hF : ChF w B cb l v) (hl : l.length ≤ 1000) (hs : s.size ≤ maxLen) :
 Calls Tryz.prog 198 #[.pointer (some ⟨cb,0,none⟩),.string s] w fun x w'=>x = .returned (.bool (Ch.remR (Ch.mk l) s)) ∧ Kp (fun _=>False) w w':=by
 have E0:=hid (rHist_any w B cb l v hF hl);obtain ⟨ao,cap,rfl⟩:=hF.2.1.len
 have hlt0:=fun j (h : j ∈ Ch.histR (Ch.mk l))=>Ch.histR_lt h
 have hhl:=Ch.histR_len16 (Ch.mk l);rw [Ch.mk_len] at hlt0 hhl;have HNO:=hid (fun h=>Ch.remR_len (L:=Ch.mk l) (t:=s) h);have HN1:=hid (fun k hk h=>Ch.remR_no (L:=Ch.mk l) (t:=s) (k:=k) hk h);have HY:=hid (fun h0 h=>Ch.remR_yes (L:=Ch.mk l) (t:=s) h0 h);generalize Ch.histR (Ch.mk l) = hs' at *;unfold maxLen at hs;have HF:=hid hF;have HL:=hid hlt0;clear hF hlt0
 go_enter Tryz.func198,Tryz.ntmps198
 go_wp2_with fail
 refine hm E0 ?_;rintro x w1 ⟨u,rfl,ho,K1⟩;obtain ⟨ua,uc,rfl⟩:=own_len ho;have HO:=hid (And.intro ho K1);have hF1:=HF.out.keep0 K1;have HF1:=hid hF1;clear ho K1 hF1 E0 HF
 by_cases hne : hs'.length = s.size
 ·have hne' : ((hs'.length : Int) != (s.size : Int)) = false:=by simp;omega
  go_wp2_with fail
  go_loopw [6] (fun kv wr=>∃ k : Nat,kv = .int .i64 k ∧ k ≤ hs'.length ∧ Hid (∀ j,j < k → Ch.pstP (Ch.mk l) s (hs'.getD j 0) j = true) ∧ Kp (fun _=>False) w1 wr) (fun kv _=>hs'.length - (intOf kv).toNat)
  case atStart=>exact ⟨0,rfl,Nat.zero_le _,hid (fun j h=>absurd h (by omega)),Kp.refl _ _⟩
  case round =>
   obtain ⟨k,rfl,hk,HB,KW⟩:=hrel;have hFr:=HF1.out.keep0 KW;have zc:=hFr.cell;have hor:=KW.owns HO.out.1 (fun _ _ x=>x)
   by_cases hlt : k < hs'.length
   ·have hlt' : (k : Int) < (hs'.length : Int):=by omega
    have hks : k < s.size:=by omega
    have hks' : (k : Int) < (s.size : Int):=by omega
    obtain ⟨j0,hj0⟩ : ∃ j0,hs'[k]? = some j0:=⟨_,List.getElem?_eq_getElem hlt⟩
    have hjl:=HL.out j0 (List.mem_of_getElem? hj0)
    have hjl' : (j0 : Int) < (l.length : Int):=by omega
    obtain ⟨x,hx⟩ : ∃ x,l[j0]? = some x:=⟨_,List.getElem?_eq_getElem hjl⟩
    obtain ⟨g,cap',hv,_,hcell,_⟩:=hFr.2.1.form hx;simp only [Value.slice.injEq] at hv;obtain ⟨rfl,-,rfl⟩:=hv;have z2 : wr.cell? ⟨g,j0 * 7 + 2,none⟩ = some (.int .i64 x.n.parent):=hcell 2 (by omega);obtain ⟨g2,cap2,hv2,_⟩:=World.ownsRow.form hor (by omega);simp only [Value.slice.injEq] at hv2;obtain ⟨rfl,-,rfl⟩:=hv2
    have zh : wr.cell? ⟨g2,k,none⟩ = some (.int .i64 j0):=by
     rw [World.ownsRow.cellAt hor k (by omega)];simp [inCells,Ch.natI,hj0]
    have hpk : Ch.peek s k = ((s[k]'hks).toNat : Int):=by simp [Ch.peek,hks]
    have hP : Ch.pstP (Ch.mk l) s (hs'.getD k 0) k = (((s[k]'hks).toNat : Int) == 45 || (Ch.kidsR (Ch.mk l) x.n.parent).any fun j=>(Ch.rnAt (Ch.mk l) j).name == ((s[k]'hks).toNat : Int)):=by
     unfold Ch.pstP;rw [hpk,List.getD_eq_getElem?_getD,hj0];simp only [Option.getD_some];rw [Ch.rnAt_mk hx]
    have HNX:=hid (fun (h : Ch.pstP (Ch.mk l) s (hs'.getD k 0) k = true)=>show ∀ j,j < k + 1 → Ch.pstP (Ch.mk l) s (hs'.getD j 0) j = true from fun j hj=>by
     rcases Nat.lt_or_eq_of_le (Nat.le_of_lt_succ hj) with h' | h'
     ·exact HB.out j h'
     subst h';exact h)
    cases q45 : (((s[k]'hks).toNat : Int) == 45) with
    | true =>
      rw [q45,Bool.true_or] at hP;have HP:=hid hP;have HKW:=hid KW;clear hP hpk hFr hcell hor KW;go_wp2
      go_roundw
      case rel=>exact ⟨k + 1,by go_num,by omega,hid (HNX.out HP.out),HKW.out⟩
      case measure=>simp [intOf];omega
    | false=>?_
    rw [q45,Bool.false_or] at hP;have E:=hid (rKids_any wr.drew B cb l _ x.n.parent (hFr.keep0 (Kp.refl _ _).drew) hl);have hkl:=Ch.kidsR_len (Ch.mk l) x.n.parent
    have hlt2:=fun j (h : j ∈ Ch.kidsR (Ch.mk l) x.n.parent)=>Ch.kidsR_lt h
    rw [Ch.mk_len] at hkl hlt2;generalize Ch.kidsR (Ch.mk l) x.n.parent = ks at *;have HP:=hid hP;have HL2:=hid hlt2;have HW:=hid (And.intro hFr KW);clear hP hpk hFr hcell hor KW hlt2
    go_upto_region 8 with (fail)
    go_region_held3 (fun w'=>w'.cell? ⟨cb,0,none⟩ = some (.slice (some ⟨g,0,none⟩) l.length cap) ∧ w'.cell? ⟨g2,k,none⟩ = some (.int .i64 j0) ∧ w'.cell? ⟨g,j0 * 7 + 2,none⟩ = some (.int .i64 x.n.parent)) (first | exact ⟨zc,zh,z2⟩ | exact HS.out) ((go_at_call 234;refine hm E ?_;rintro y w5 ⟨u,rfl,ho5,K5⟩;obtain ⟨ua5,uc5,rfl⟩:=own_len ho5;have H:=hid (And.intro ho5 K5);have HS:=hid (And.intro (K5.cellF zc) (And.intro (K5.cellF zh) (K5.cellF z2)));clear E ho5 K5))
    obtain ⟨ho5,K5⟩:=H.out;have hF5:=(HW.out.1.keep0 (Kp.refl _ _).drew).keep0 K5;have zc5:=hF5.cell;have HX:=hid (And.intro ho5 (And.intro hF5 (HW.out.2.drew.trans K5)));clear ho5 hF5 K5 HW H HS zc z2 zh
    go_wp2_with fail
    go_loopw [8,9] (fun okv jv wq=>∃ j : Nat,jv = .int .i64 j ∧ j ≤ ks.length ∧ okv = .bool ((ks.take j).any fun i=>(Ch.rnAt (Ch.mk l) i).name == ((s[k]'hks).toNat : Int)) ∧ Kp (fun _=>False) w5 wq) (fun _ jv _=>ks.length - (intOf jv).toNat)
    case atStart=>exact ⟨0,rfl,Nat.zero_le _,rfl,Kp.refl _ _⟩
    case round =>
     obtain ⟨j,rfl,hj,rfl,KQ⟩:=hrel;have hFq:=HX.out.2.1.keep0 KQ;have zcq:=hFq.cell;have hoq:=KQ.owns HX.out.1 (fun _ _ x=>x)
     by_cases hjlt : j < ks.length
     ·have hjlt' : (j : Int) < (ks.length : Int):=by omega
      obtain ⟨i,hi⟩ : ∃ i,ks[j]? = some i:=⟨_,List.getElem?_eq_getElem hjlt⟩
      have hil:=HL2.out i (List.mem_of_getElem? hi)
      have hil' : (i : Int) < (l.length : Int):=by omega
      obtain ⟨y,hy⟩ : ∃ y,l[i]? = some y:=⟨_,List.getElem?_eq_getElem hil⟩
      obtain ⟨g3,cap3,hv3,_,hcell3,_⟩:=hFq.2.1.form hy;simp only [Value.slice.injEq,Option.some.injEq,Addr.mk.injEq,true_and,and_true] at hv3;obtain ⟨rfl,rfl⟩:=hv3;have z0 : wr.cell? ⟨g,i * 7,none⟩ = some (.int .u8 y.n.name):=hcell3 0 (by omega);obtain ⟨g4,cap4,hv4,_⟩:=World.ownsRow.form hoq (by omega);simp only [Value.slice.injEq] at hv4;obtain ⟨rfl,-,rfl⟩:=hv4
      have zk : wr.cell? ⟨g4,j,none⟩ = some (.int .i64 i):=by
       rw [World.ownsRow.cellAt hoq j (by omega)];simp [inCells,Ch.natI,hi]
      have hN:=Ch.any_take_succ (p:=fun i=>(Ch.rnAt (Ch.mk l) i).name == ((s[k]'hks).toNat : Int)) hi;simp only [Ch.rnAt_mk hy] at hN;generalize (ks.take j).any (fun i=>(Ch.rnAt (Ch.mk l) i).name == ((s[k]'hks).toNat : Int)) = acc at *
      cases qn : y.n.name == ((s[k]'hks).toNat : Int) <;> cases acc <;> rw [qn] at hN <;>
      (have HN:=hid hN
       clear hN hcell3 hFq hoq;go_wp2
       go_quiet (fail)
       go_wp2
       go_roundw
       case rel=>exact ⟨j + 1,by go_num,by omega,by rw [HN.out];rfl,KQ.drewN _⟩
       case measure=>simp [intOf];omega)
     have hjge : ¬ (j : Int) < (ks.length : Int):=by omega
     obtain rfl : j = ks.length:=by omega
     rw [List.take_length,← HP.out]
     cases qP : Ch.pstP (Ch.mk l) s (hs'.getD k 0) k with
     | false =>
       have HR:=hid (HN1.out k hlt qP);go_wp2;go_ret;rw [HR.out];exact ⟨rfl,HO.out.2.trans (HX.out.2.2.trans KQ)⟩
     | true=>?_
     have HZ:=hid (HNX.out qP);go_wp2
     go_roundw
     case rel=>exact ⟨k + 1,by go_num,by omega,hid HZ.out,HX.out.2.2.trans KQ⟩
     case measure=>simp [intOf];omega
   have hge : ¬ (k : Int) < (hs'.length : Int):=by omega
   obtain rfl : k = hs'.length:=by omega
   have HR:=hid (HY.out hne HB.out);clear hFr hor;go_wp2;go_ret;rw [HR.out];exact ⟨rfl,HO.out.2.trans KW⟩
 have hne' : ((hs'.length : Int) != (s.size : Int)) = true:=by simp;omega
 have HR:=hid (HNO.out hne);go_wp2;go_ret;rw [HR.out];exact ⟨rfl,HO.out.2⟩
end
end Go.Proofs.YtnlbchmfcebeeaaGreat
