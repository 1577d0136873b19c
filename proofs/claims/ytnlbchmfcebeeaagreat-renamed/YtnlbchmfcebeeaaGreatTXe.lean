import Derived.Test.YtnlbchmfcebeeaaGreatTX1
import Derived.Test.YtnlbchmfcebeeaaGreatTB6
import Derived.Deep.QuietTactic
import Derived.BigQuiet
import Derived.Test.YtnlbchmfcebeeaaGreatTX5
import Derived.Test.YtnlbchmfcebeeaaGreatTC5
import Derived.Test.YtnlbchmfcebeeaaGreatTX2
import Derived.Test.YtnlbchmfcebeeaaGreatTA1
import Derived.Test.YtnlbchmfcebeeaaGreatTB4
import Derived.Test.YtnlbchmfcebeeaaGreatTB5
import Derived.Deep.AppendLies
import Derived.Laws.OwnMore
import Derived.OwnWalk
import Derived.Deep.RegionHeld3
set_option maxHeartbeats 12800000
set_option maxRecDepth 100000
namespace Go.Proofs.YtnlbchmfcebeeaaGreat
open Go.RowKit
def WkB (w : World) (B b : Nat) (k : Ch.Wk) : Prop:=∃ v,w.heap[b]? = some (.cells #[.int .i64 k.mode,v,.int .u8 k.close] 289 (0,0)) ∧ OwnsQ w B v (byCells k.open_)
theorem WkB.close {w : World} {B b : Nat} {k : Ch.Wk} (h : WkB w B b k) : w.cell? ⟨b,2,none⟩ = some (.int .u8 k.close):=by
 obtain ⟨v,h,_⟩:=h;rw [World.cell?,h];rfl
theorem WkB.mode {w : World} {B b : Nat} {k : Ch.Wk} (h : WkB w B b k) : w.cell? ⟨b,0,none⟩ = some (.int .i64 k.mode):=by
 obtain ⟨v,h,_⟩:=h;rw [World.cell?,h];rfl
theorem WkB.free {w : World} {B b : Nat} {k : Ch.Wk} (h : WkB w B b k) (i : Nat) : w.frozen? ⟨b,i,none⟩ = false:=by
 obtain ⟨v,h,_⟩:=h;simp [World.frozen?,h]
theorem WkB.lt {w : World} {B b : Nat} {k : Ch.Wk} (h : WkB w B b k) : b < w.heap.size:=by
 obtain ⟨v,h,_⟩:=h;exact lt_of_block h
theorem WkB.set2 {w : World} {B b : Nat} {k : Ch.Wk} (h : WkB w B b k) (c : Int) : WkB (w.setCell ⟨b,2,none⟩ (.int .u8 c)) B b { k with close:=c }:=by
 obtain ⟨v,h,q⟩:=h;have ne:=q.ne h (by decide);refine ⟨v,by rw [heap_set_same _ h];rfl,q.keep (S:=fun i=>i = b) ((Kp.refl _ _).setCell (by intro _;rfl) _) (fun i hi x=>by subst x;exact ne hi)⟩
theorem WkB.set0 {w : World} {B b : Nat} {k : Ch.Wk} (h : WkB w B b k) (c : Int) : WkB (w.setCell ⟨b,0,none⟩ (.int .i64 c)) B b { k with mode:=c }:=by
 obtain ⟨v,h,q⟩:=h;have ne:=q.ne h (by decide);refine ⟨v,by rw [heap_set_same _ h];rfl,q.keep (S:=fun i=>i = b) ((Kp.refl _ _).setCell (by intro _;rfl) _) (fun i hi x=>by subst x;exact ne hi)⟩
theorem WkB.drewN {w : World} {B b : Nat} {k : Ch.Wk} (h : WkB w B b k) (n : Nat) : WkB (w.drewN n) B b k:=h
namespace Ch
theorem mk_len (l : List NV) : (mk l).length = l.length:=by simp [mk]
def TrBd (n : RN) : Prop:=∀ rt ∈ n.trans,1 ≤ rt.text.size ∧ rt.text.size ≤ 300 ∧ 0 ≤ rt.pos ∧ rt.pos ≤ 300
end Ch
theorem Kp.cellF {w w' : World} (k : Kp (fun _=>False) w w') {p : Addr} {v : Value} (h : w.cell? p = some v) : w'.cell? p = some v:=by
 have hb : p.block < w.heap.size:=World.block_lt_of_cell? w p h;rw [← h];exact World.cell?_of_block (k.block _ hb (fun x=>x))
def SnB (w : World) (sb : Nat) (f : Int → Bool) : Prop:=∃ C,w.heap[sb]? = some (.cells C 294 (0,0)) ∧ C.size = 256 ∧ ∀ n : Nat,n < 256 → C[n]? = some (.bool (f n))
theorem SnB.cell {w : World} {sb : Nat} {f : Int → Bool} (h : SnB w sb f) (n : Nat) (hn : n < 256) : w.cell? ⟨sb,n,none⟩ = some (.bool (f n)):=by
 obtain ⟨C,hC,_,hf⟩:=h;rw [cell_of_row w sb _ C _ _ hC];exact hf n hn
theorem SnB.keep0 {w w' : World} {sb : Nat} {f : Int → Bool} (h : SnB w sb f) (k : Kp (fun _=>False) w w') : SnB w' sb f:=by
 obtain ⟨C,hC,r⟩:=h;exact ⟨C,k.at_ hC (fun x=>x),r⟩
theorem SnB.set {w : World} {sb : Nat} {f f' : Int → Bool} (h : SnB w sb f) {n : Nat} (hn : n < 256) (hf : ∀ m : Nat,m < 256 → f' m = (f m || (n : Int) == (m : Int))) : SnB (w.setCell ⟨sb,n,none⟩ (.bool true)) sb f':=by
 obtain ⟨C,hC,hs,hg⟩:=h;refine ⟨_,heap_set_same _ hC,by simp [hs],fun m hm=>?_⟩;rw [hf m hm]
 by_cases e : n = m
 ·subst e;rw [Array.getElem?_setIfInBounds_self_of_lt (by omega)];simp
 rw [Array.getElem?_setIfInBounds_ne e,hg m hm]
 have : ((n : Int) == (m : Int)) = false:=by simp;omega
 rw [this,Bool.or_false]
theorem SnB.keep {S : Nat → Prop} {w w' : World} {sb : Nat} {f : Int → Bool} (h : SnB w sb f) (k : Kp S w w') (hs : ¬ S sb) : SnB w' sb f:=by
 obtain ⟨C,hC,r⟩:=h;exact ⟨C,k.at_ hC hs,r⟩
theorem SnB.free {w : World} {sb : Nat} {f : Int → Bool} (h : SnB w sb f) (o : Nat) : w.frozen? ⟨sb,o,none⟩ = false:=by
 obtain ⟨C,hC,_⟩:=h;simp [World.frozen?,hC]
structure FltOk (l : List NV) : Prop where
 len : l.length ≤ 300
 nm : ∀ x ∈ l,0 ≤ x.n.name ∧ x.n.name ≤ 255
 up : ∀ (k : Nat) (x : NV),l[k]? = some x → (x.n.kind = 4 ∨ x.n.kind = 5) → ∃ p : Nat,x.n.parent = p ∧ p < l.length
 tr : ∀ x ∈ l,x.n.trans.length ≤ 300 ∧ Ch.TrBd x.n
namespace Ch
def namedR (L : List RN) (b : Int) : Int:=match (List.range L.length).find? (fun i=>(rnAt L i).name == b) with | some i=>(i : Int) | none=>-1
def onAt (on : List Bool) (k : Nat) : Bool:=on.getD k false
def spreadF (L : List RN) (t : ByteArray) : Nat → Nat → Int → List Bool → Option (List Bool)
 | 0,_,_,on=>some on
 | f + 1,k,last,on=>if namedR L (peek t k) ≤ last then none else spreadF L t f (k + 1) (namedR L (peek t k)) (on.set (namedR L (peek t k)).toNat true)
def spreadR (L : List RN) (t : ByteArray) : Option (List Bool):=spreadF L t t.size 0 (-1) (List.replicate L.length false)
def sentK (t : ByteArray) (k : Nat) : Bool:=if k % 2 == 0 then isEv (peek t k) else isDg 49 (peek t k)
def sentR (t : ByteArray) : Bool:=!(decide (16 < t.size) || t.size % 2 == 1) && (List.range t.size).all (sentK t)
theorem named_place (L : List RN) (b : Int) : (namedR L b = -1 ∧ place (L.map RN.st) b = -2 ∧ ∀ i,i < L.length → (rnAt L i).name ≠ b) ∨ ∃ i : Nat,i < L.length ∧ namedR L b = i ∧ place (L.map RN.st) b = i ∧ (rnAt L i).name = b:=by
 unfold namedR place
 rcases placeF_spec b (L.map RN.st) 0 with ⟨e,g⟩ | ⟨j,s,e1,e2,e3,e4⟩
 ·left
  have hne : ∀ i,i < L.length → (rnAt L i).name ≠ b:=fun i hi=>by
   rw [rnAt_of (List.getElem?_eq_getElem hi)];exact g _ (List.mem_map.2 ⟨L[i],List.getElem_mem hi,rfl⟩)
  refine ⟨?_,e,hne⟩;rw [find_none_of];intro i hi;have:=hne i hi;simpa using this
 right
 rw [List.getElem?_map,Option.map_eq_some_iff] at e1;obtain ⟨m,hm,rfl⟩:=e1;have hlt:=(List.getElem?_eq_some_iff.1 hm).1
 have hb : (List.range L.length).find? (fun i=>(rnAt L i).name == b) = some j:=by
  rw [List.find?_range_eq_some];refine ⟨by rw [rnAt_of hm];have h' : m.name = b:=e2;simpa using h',by simpa using hlt,fun k hk=>?_⟩
  have hkl : k < L.length:=by omega
  rw [rnAt_of (List.getElem?_eq_getElem hkl)];have:=e4 k (L[k]).st hk (by rw [List.getElem?_map,List.getElem?_eq_getElem hkl];rfl);have h' : (L[k]).name ≠ b:=this;simpa using h'
 rw [hb];exact ⟨j,hlt,rfl,by rw [e3];simp,by rw [rnAt_of hm];exact e2⟩
where
 find_none_of {n : Nat} {q : Nat → Bool} (h : ∀ i,i < n → q i = false) : (match (List.range n).find? q with | some i=>((i : Nat) : Int) | none=>-1) = -1:=by
  have : (List.range n).find? q = none:=by
   rw [List.find?_eq_none];intro i hi;simp [h i (by simpa using hi)]
  rw [this]
def SameOn (n : Nat) (on l : List Bool) : Prop:=on.length = n ∧ l.length = 16 ∧ ∀ k,onAt on k = bit l k
theorem SameOn.set {n i : Nat} {on l : List Bool} (h : SameOn n on l) (hi : i < n) (hn : n ≤ 16) : SameOn n (on.set i true) (putB l (i : Int) true):=by
 obtain ⟨h1,h2,h3⟩:=h;refine ⟨by simp [h1],by show (l.set i true).length = 16;simp [h2],fun k=>?_⟩;show (on.set i true).getD k false = (l.set i true).getD k false;have:=h3 k;unfold onAt bit at this;simp only [List.getD_eq_getElem?_getD,List.getElem?_set] at this ⊢
 by_cases e : i = k
 ·subst e;rw [if_pos rfl,if_pos rfl,if_pos (by omega),if_pos (by omega)]
 rw [if_neg e,if_neg e];exact this
theorem spreadF_eq {L : List RN} {t : ByteArray} (hn : L.length ≤ 16) : ∀ (f k : Nat) (last : Int) (on l : List Bool),SameOn L.length on l → -1 ≤ last →
 (spreadF L t f k last on = none ∧ tkF (L.map RN.st) t f k last l = none) ∨ ∃ on' l',spreadF L t f k last on = some on' ∧ tkF (L.map RN.st) t f k last l = some l' ∧ SameOn L.length on' l':=by
 intro f
 induction f with
 | zero=>intro k last on l h _;exact .inr ⟨on,l,rfl,rfl,h⟩
 | succ f ih=>?_
 intro k last on l h hl;simp only [spreadF,tkF]
 rcases named_place L (peek t k) with ⟨e1,e2,_⟩ | ⟨i,hi,e1,e2,_⟩
 ·rw [e1,e2,if_pos (by omega),if_pos (by omega)];exact .inl ⟨rfl,rfl⟩
 rw [e1,e2]
 by_cases c : (i : Int) ≤ last
 ·rw [if_pos c,if_pos c];exact .inl ⟨rfl,rfl⟩
 rw [if_neg c,if_neg c];exact ih (k + 1) i _ _ (h.set hi hn) (by omega)
theorem kindAt_rn {L : List RN} {i : Nat} (hi : i < L.length) : kindAt (L.map RN.st) (i : Int) = (rnAt L i).kind:=by
 unfold kindAt;rw [stAt_nat,List.getElem?_map,List.getElem?_eq_getElem hi,rnAt_of (List.getElem?_eq_getElem hi)];rfl
theorem parAt_rn {L : List RN} {i : Nat} (hi : i < L.length) : parAt (L.map RN.st) (i : Int) = (rnAt L i).parent:=by
 unfold parAt;rw [stAt_nat,List.getElem?_map,List.getElem?_eq_getElem hi,rnAt_of (List.getElem?_eq_getElem hi)];rfl
def Uniq (L : List RN) : Prop:=∀ i j,i < L.length → j < L.length → (rnAt L i).name = (rnAt L j).name → i = j
theorem tmF_spec (t : ByteArray) : ∀ (f k : Nat),t.size ≤ k + f → k % 2 = 0 → t.size % 2 = 0 → tmF t f k = (List.range' k (t.size - k)).all (sentK t):=by
 intro f
 induction f using Nat.strongRecOn with
 | ind f ih=>?_
 intro k h1 h2 h3
 match f,ih with
 | 0,_ =>
   have : t.size - k = 0:=by omega
   rw [this];rfl
 | f + 1,ih =>
   simp only [tmF]
   by_cases c : k + 1 < t.size
   ·rw [if_pos c]
    have e : t.size - k = (t.size - (k + 2)) + 1 + 1:=by omega
    rw [e,List.range'_succ,List.range'_succ,List.all_cons,List.all_cons]
    have s0 : sentK t k = isEv (peek t k):=by unfold sentK;rw [h2];rfl
    have s1 : sentK t (k + 1) = isDg 49 (peek t (k + 1)):=by
     unfold sentK
     have : (k + 1) % 2 = 1:=by omega
     rw [this];rfl
    rw [s0,s1]
    have hd : (!decide (peek t (k + 1) < 49) && !decide (57 < peek t (k + 1))) = isDg 49 (peek t (k + 1)):=by
     unfold isDg;rw [Bool.eq_iff_iff];simp
    rw [Bool.and_assoc,hd,← Bool.and_assoc];have:=ih f (by omega) (k + 2) (by omega) (by omega) h3;rw [this]
    cases isEv (peek t k) && isDg 49 (peek t (k + 1)) <;> simp
   rw [if_neg c]
   have : t.size - k = 0:=by omega
   rw [this];rfl
theorem sent_eq (t : ByteArray) : areTm t = sentR t:=by
 unfold areTm sentR
 have hm : (((t.size : Int) % 2 != 0) || decide (16 < t.size)) = (decide (16 < t.size) || t.size % 2 == 1):=by
  rw [Bool.or_comm]
  congr 1
  rw [Bool.eq_iff_iff];simp;omega
 rw [hm]
 cases c : (decide (16 < t.size) || t.size % 2 == 1) with
 | true=>simp
 | false=>?_
 simp only [Bool.false_eq_true,if_false,Bool.not_false,Bool.true_and]
 have : t.size % 2 = 0:=by
  simp at c;omega
 rw [tmF_spec t t.size 0 (by omega) rfl this,List.range_eq_range',Nat.sub_zero]
theorem same0 (n : Nat) : SameOn n (List.replicate n false) noSet:=by
 refine ⟨by simp,by simp [noSet],fun k=>?_⟩;unfold onAt bit noSet;simp only [List.getD_eq_getElem?_getD,List.getElem?_replicate]
 split <;> split <;> rfl
theorem uniq_of {L : List RN} (h : ∀ j,j < L.length → dupR L j = false) : Uniq L:=by
 have key : ∀ i j,i < j → j < L.length → (rnAt L i).name ≠ (rnAt L j).name:=by
  intro i j hij hj e;have:=h j hj;unfold dupR at this;rw [List.any_eq_false] at this
  have hi : i < L.length:=by omega
  have:=this L[i] (by rw [List.mem_take_iff_getElem];exact ⟨i,by omega,rfl⟩);rw [rnAt_of (List.getElem?_eq_getElem hi)] at e;simp [e] at this
 intro i j hi hj e
 rcases Nat.lt_trichotomy i j with h' | h' | h'
 ·exact absurd e (key i j h' hj)
 ·exact h'
 exact absurd e.symm (key j i h' hi)
theorem uniq_judge {L : List RN} {r : Rs} (hN : NR L r) (h : (judge r.sts r.uses).1 = 0) : Uniq L ∧ L.length ≤ 16:=by
 rw [← fault_eq hN] at h;unfold faultR at h
 split at h
 ·simp at h
 rename_i c;refine ⟨uniq_of ?_,by omega⟩
 cases e : (List.range L.length).find? (dupR L) with
 | some i=>rw [e] at h;simp at h
 | none=>?_
 rw [List.find?_eq_none] at e;intro j hj;have:=e j (by simpa using hj);simpa using this
theorem rnAt_mk {l : List NV} {k : Nat} {x : NV} (hx : l[k]? = some x) : rnAt (mk l) k = x.n:=rnAt_of (by unfold mk;rw [List.getElem?_map,hx];rfl)
end Ch
def OnB (w : World) (g : Nat) (on : List Bool) : Prop:=w.heap[g]? = some (.cells (on.map Value.bool).toArray 4)
theorem OnB.cell {w : World} {g : Nat} {on : List Bool} (h : OnB w g on) {k : Nat} (hk : k < on.length) : w.cell? ⟨g,k,none⟩ = some (.bool (Ch.onAt on k)):=by
 unfold OnB at h;simp [World.cell?,h,Ch.onAt,hk]
theorem OnB.free {w : World} {g : Nat} {on : List Bool} (h : OnB w g on) (k : Nat) : w.frozen? ⟨g,k,none⟩ = false:=by unfold OnB at h;simp [World.frozen?,h]
theorem OnB.set {w : World} {g : Nat} {on : List Bool} (h : OnB w g on) (k : Nat) (b : Bool) : OnB (w.setCell ⟨g,k,none⟩ (.bool b)) g (on.set k b):=by
 unfold OnB at *;rw [heap_set_same _ h];simp [List.map_set]
end Go.Proofs.YtnlbchmfcebeeaaGreat
