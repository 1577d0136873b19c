import Derived.Test.YtnlbchmfcebeeaaGreatTX2
import Derived.ArgAppend
import Derived.Test.YtnlbchmfcebeeaaGreatTB5
import Derived.Deep.AppendLies
import Derived.Laws.OwnMore
import Derived.OwnWalk
set_option maxHeartbeats 12800000
set_option maxRecDepth 100000
namespace Go.Proofs.YtnlbchmfcebeeaaGreat
open Go.Proofs.Tryz Ch
open Go.RowKit
theorem oY {P : Program} (w : World) (base : Nat) (t ty e : TypeId) (i : TypeInfo) (z : Value) (size bytes : Nat) (ht : P.underlying t = some (.slice e)) (hi : P.info? e = some i) (hz : i.zero = some z)
 (hsize : i.size = size) (hby : i.bytes = bytes) (hzs : z.cells.size = size) (hsz : 0 < size)
 (v : Value) (n : Nat) (xs : List Value) (hown : w.ownsRow base e size v n xs)
 (a : Addr) (m c : Nat) (news : List Value) (hl : news.length = m * size) (hnews : ∀ j u,news[j]? = some u -> w.cell? (a.add j) = some u) (h1 : ∀ u ∈ news,u.oneCell' = true) (hm : 0 < m)
 (h63 : n + m <= maxLen) (hbytes : (n + m) * bytes <= 140737488355328) (hbase : base <= w.heap.size) :
 ∃ g cap w',(Builtin.append_ #[t,t] ty #[v,.slice (some a) m c]).run P w = .ok (.slice (some ⟨g,0,none⟩) (n + m) cap) w' /\ w'.ownsRow base e size (.slice (some ⟨g,0,none⟩) (n + m) cap) (n + m) (xs ++ news) /\ w.grownBy w' v.ownBlock /\
  (v.ownBlock = some g \/ w.heap.size <= g):=by
 obtain ⟨v',w',hr,ho,hg,_⟩:=run_append_own (P:=P) w base t ty e i z size bytes ht hi hz hsize hby hzs hsz v n xs hown a m c news hl hnews h1 h63 hbytes hbase;obtain ⟨g,cap,rfl⟩:=ey ho (by omega);refine ⟨g,cap,w',hr,ho,hg,?_⟩
 rcases hown.2 with ⟨rfl,rfl⟩ | ⟨g0,cap0,cur,rfl,hbg,hg0,hnc,hcm,hcs,htake⟩
 ·have hx : xs = []:=List.eq_nil_of_length_eq_zero (by simpa using hown.1)
  subst hx;obtain ⟨v2,w2,hr2,ho2,_,_⟩:=run_append_own (P:=P) w w.heap.size t ty e i z size bytes ht hi hz hsize hby hzs hsz _ 0 [] (World.ownsRow_nil w w.heap.size e size) a m c news hl hnews h1 h63 hbytes (Nat.le_refl _);rw [hr] at hr2;simp only [Result.ok.injEq] at hr2;obtain ⟨rfl,rfl⟩:=hr2;exact .inr (ho2.lt g rfl).1
 by_cases hroom : n + m <= cap0
 ·subst hsize
  have hr2:=run_append_room (P:=P) w t ty e i ht hi g0 n cap0 cur hg0 a m c news hl hnews h1 hroom (by rw [hl,hcs,<- Nat.add_mul];exact Nat.mul_le_mul_right _ hroom);rw [hr] at hr2;simp only [Result.ok.injEq,Value.slice.injEq,Option.some.injEq,Addr.mk.injEq,and_true,true_and] at hr2
  left
  simp [Value.ownBlock,hr2.1.1]
 obtain ⟨v2,w2,hr2,ho2,_⟩:=run_append_arg_grows (P:=P) w t ty e i z size bytes ht hi hz hsize hby hzs hsz ⟨g0,0,none⟩ n cap0 xs hown.1 (hown.cells (g:=g0) rfl) a m c news hl hnews (by omega) h63 hbytes;rw [hr] at hr2;simp only [Result.ok.injEq] at hr2;obtain ⟨rfl,rfl⟩:=hr2;exact .inr (ho2.lt g rfl).1
structure NV where
 n : RN
 ev : Value
 lv : Value
 tv : Value
namespace Ch
def mk (l : List NV) : List RN:=l.map (·.n)
def kl (L : List RN) (b : Int) : Int:=match (List.range L.length).find? (fun i=>(fa L i).name == b) with | some i=>(i : Int) | none=>-1
def xS (on : List Bool) (k : Nat) : Bool:=on.getD k false
def kn (L : List RN) (t : ByteArray) : Nat -> Nat -> Int -> List Bool -> Option (List Bool)
 | 0,_,_,on=>some on
 | f + 1,k,last,on=>if kl L (af t k) <= last then none else kn L t f (k + 1) (kl L (af t k)) (on.set (kl L (af t k)).toNat true)
def vZ (L : List RN) (t : ByteArray) : Option (List Bool):=kn L t t.size 0 (-1) (List.replicate L.length false)
def rX (t : ByteArray) (k : Nat) : Bool:=if k % 2 == 0 then bN (af t k) else eQ 49 (af t k)
def FC (t : ByteArray) : Bool:=!(decide (16 < t.size) || t.size % 2 == 1) && (List.range t.size).all (rX t)
theorem lz (L : List RN) (b : Int) : (kl L b = -1 /\ place (L.map RN.st) b = -2 /\ ∀ i,i < L.length -> (fa L i).name ≠ b) \/ ∃ i : Nat,i < L.length /\ kl L b = i /\ place (L.map RN.st) b = i /\ (fa L i).name = b:=by
 unfold kl place
 rcases gZ b (L.map RN.st) 0 with ⟨e,g⟩ | ⟨j,s,e1,e2,e3,e4⟩
 ·left
  have hne : ∀ i,i < L.length -> (fa L i).name ≠ b:=fun i hi=>by
   rw [cS (List.getElem?_eq_getElem hi)];exact g _ (List.mem_map.2 ⟨L[i],List.getElem_mem hi,rfl⟩)
  refine ⟨?_,e,hne⟩;rw [v7];intro i hi;have:=hne i hi;simpa using this
 right
 rw [List.getElem?_map,Option.map_eq_some_iff] at e1;obtain ⟨m,hm,rfl⟩:=e1;have hlt:=(List.getElem?_eq_some_iff.1 hm).1
 have hb : (List.range L.length).find? (fun i=>(fa L i).name == b) = some j:=by
  rw [List.find?_range_eq_some];refine ⟨by rw [cS hm];have h' : m.name = b:=e2;simpa using h',by simpa using hlt,fun k hk=>?_⟩
  have hkl : k < L.length:=by omega
  rw [cS (List.getElem?_eq_getElem hkl)];have:=e4 k (L[k]).st hk (by rw [List.getElem?_map,List.getElem?_eq_getElem hkl];rfl);have h' : (L[k]).name ≠ b:=this;simpa using h'
 rw [hb];exact ⟨j,hlt,rfl,by rw [e3];simp,by rw [cS hm];exact e2⟩
where
 v7 {n : Nat} {q : Nat -> Bool} (h : ∀ i,i < n -> q i = false) : (match (List.range n).find? q with | some i=>((i : Nat) : Int) | none=>-1) = -1:=by
  have : (List.range n).find? q = none:=by
   rw [List.find?_eq_none];intro i hi;simp [h i (by simpa using hi)]
  rw [this]
def mQ (n : Nat) (on l : List Bool) : Prop:=on.length = n /\ l.length = 16 /\ ∀ k,xS on k = bit l k
theorem mQ.set {n i : Nat} {on l : List Bool} (h : mQ n on l) (hi : i < n) (hn : n <= 16) : mQ n (on.set i true) (kZ l (i : Int) true):=by
 obtain ⟨h1,h2,h3⟩:=h;refine ⟨by simp [h1],by show (l.set i true).length = 16;simp [h2],fun k=>?_⟩;show (on.set i true).getD k false = (l.set i true).getD k false;have:=h3 k;unfold xS bit at this;simp only [List.getD_eq_getElem?_getD,List.getElem?_set] at this ⊢
 by_cases e : i = k
 ·subst e;rw [if_pos rfl,if_pos rfl,if_pos (by omega),if_pos (by omega)]
 rw [if_neg e,if_neg e];exact this
theorem z_ {L : List RN} {t : ByteArray} (hn : L.length <= 16) : ∀ (f k : Nat) (last : Int) (on l : List Bool),mQ L.length on l -> -1 <= last ->
 (kn L t f k last on = none /\ wZ (L.map RN.st) t f k last l = none) \/ ∃ on' l',kn L t f k last on = some on' /\ wZ (L.map RN.st) t f k last l = some l' /\ mQ L.length on' l':=by
 intro f
 induction f with
 | zero=>intro k last on l h _;exact .inr ⟨on,l,rfl,rfl,h⟩
 | succ f ih=>?_
 intro k last on l h hl;simp only [kn,wZ]
 rcases lz L (af t k) with ⟨e1,e2,_⟩ | ⟨i,hi,e1,e2,_⟩
 ·rw [e1,e2,if_pos (by omega),if_pos (by omega)];exact .inl ⟨rfl,rfl⟩
 rw [e1,e2]
 by_cases c : (i : Int) <= last
 ·rw [if_pos c,if_pos c];exact .inl ⟨rfl,rfl⟩
 rw [if_neg c,if_neg c];exact ih (k + 1) i _ _ (h.set hi hn) (by omega)
theorem C_ {L : List RN} {i : Nat} (hi : i < L.length) : ay (L.map RN.st) (i : Int) = (fa L i).kind:=by
 unfold ay;rw [ch,List.getElem?_map,List.getElem?_eq_getElem hi,cS (List.getElem?_eq_getElem hi)];rfl
theorem FD {L : List RN} {i : Nat} (hi : i < L.length) : aq (L.map RN.st) (i : Int) = (fa L i).parent:=by
 unfold aq;rw [ch,List.getElem?_map,List.getElem?_eq_getElem hi,cS (List.getElem?_eq_getElem hi)];rfl
def Uniq (L : List RN) : Prop:=∀ i j,i < L.length -> j < L.length -> (fa L i).name = (fa L j).name -> i = j
theorem FE (t : ByteArray) : ∀ (f k : Nat),t.size <= k + f -> k % 2 = 0 -> t.size % 2 = 0 -> xe t f k = (List.range' k (t.size - k)).all (rX t):=by
 intro f
 induction f using Nat.strongRecOn with
 | ind f ih=>?_
 intro k h1 h2 h3
 match f,ih with
 | 0,_ =>
   have : t.size - k = 0:=by omega
   rw [this];rfl
 | f + 1,ih =>
   simp only [xe]
   by_cases c : k + 1 < t.size
   ·rw [if_pos c]
    have e : t.size - k = (t.size - (k + 2)) + 1 + 1:=by omega
    rw [e,List.range'_succ,List.range'_succ,List.all_cons,List.all_cons]
    have s0 : rX t k = bN (af t k):=by unfold rX;rw [h2];rfl
    have s1 : rX t (k + 1) = eQ 49 (af t (k + 1)):=by
     unfold rX
     have : (k + 1) % 2 = 1:=by omega
     rw [this];rfl
    rw [s0,s1]
    have hd : (!decide (af t (k + 1) < 49) && !decide (57 < af t (k + 1))) = eQ 49 (af t (k + 1)):=by
     unfold eQ;rw [Bool.eq_iff_iff];simp
    rw [Bool.and_assoc,hd,<- Bool.and_assoc];have:=ih f (by omega) (k + 2) (by omega) (by omega) h3;rw [this]
    cases bN (af t k) && eQ 49 (af t (k + 1)) <;> simp
   rw [if_neg c]
   have : t.size - k = 0:=by omega
   rw [this];rfl
theorem IF (t : ByteArray) : fR t = FC t:=by
 unfold fR FC
 have hm : (((t.size : Int) % 2 != 0) || decide (16 < t.size)) = (decide (16 < t.size) || t.size % 2 == 1):=by
  rw [Bool.or_comm]
  congr 1
  rw [Bool.eq_iff_iff];simp;omega
 rw [hm]
 cases c : (decide (16 < t.size) || t.size % 2 == 1) with
 | true=>simp
 | false=>?_
 simp only [Bool.false_eq_true,if_false,Bool.not_false,Bool.true_and]
 have : t.size % 2 = 0:=by
  simp at c;omega
 rw [FE t t.size 0 (by omega) rfl this,List.range_eq_range',Nat.sub_zero]
theorem Ni (n : Nat) : mQ n (List.replicate n false) cJ:=by
 refine ⟨by simp,by simp [cJ],fun k=>?_⟩;unfold xS bit cJ;simp only [List.getD_eq_getElem?_getD,List.getElem?_replicate]
 split <;> split <;> rfl
theorem IG {L : List RN} (h : ∀ j,j < L.length -> vV L j = false) : Uniq L:=by
 have key : ∀ i j,i < j -> j < L.length -> (fa L i).name ≠ (fa L j).name:=by
  intro i j hij hj e;have:=h j hj;unfold vV at this;rw [List.any_eq_false] at this
  have hi : i < L.length:=by omega
  have:=this L[i] (by rw [List.mem_take_iff_getElem];exact ⟨i,by omega,rfl⟩);rw [cS (List.getElem?_eq_getElem hi)] at e;simp [e] at this
 intro i j hi hj e
 rcases Nat.lt_trichotomy i j with h' | h' | h'
 ·exact absurd e (key i j h' hj)
 ·exact h'
 exact absurd e.symm (key j i h' hi)
theorem Ab {L : List RN} {r : Rs} (hN : NR L r) (h : (judge r.ag r.uses).1 = 0) : Uniq L /\ L.length <= 16:=by
 rw [<- xR hN] at h;unfold vY at h
 split at h
 ·simp at h
 rename_i c;refine ⟨IG ?_,by omega⟩
 cases e : (List.range L.length).find? (vV L) with
 | some i=>rw [e] at h;simp at h
 | none=>?_
 rw [List.find?_eq_none] at e;intro j hj;have:=e j (by simpa using hj);simpa using this
end Ch
end Go.Proofs.YtnlbchmfcebeeaaGreat
