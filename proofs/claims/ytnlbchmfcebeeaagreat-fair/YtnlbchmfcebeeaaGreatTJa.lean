import Derived.Test.YtnlbchmfcebeeaaGreatTSi
set_option maxHeartbeats 12800000
set_option maxRecDepth 100000
namespace Go.Proofs.YtnlbchmfcebeeaaGreat
open Go.Proofs.Tryz Ch
namespace Ch
def f_ (n : Nat) (t : Tk) : Bool:=decide (t.kind = 3) && decide (1 <= t.steps) && decide (t.pinned = (n : Int))
def bY (l : List Tk) (n : Nat) : Nat:=l.countP (f_ n)
def bS (made : Nat) (l : List Tk) (n : Nat) : Bool:=decide (0 < bY l n) || decide (made <= n + 4)
def hY (all : List Sd) (l : List Tk) (n : Nat) : Vr:=⟨n,all.getD n mT,bY l n⟩
def bh (all : List Sd) (l : List Tk) : List Vr:=((List.range all.length).filter (bS all.length l)).map (hY all l)
theorem mX {all : List Sd} {l : List Tk} {v : Vr} : v ∈ bh all l ↔ ∃ n,n < all.length /\ bS all.length l n = true /\ v = hY all l n:=by
 unfold bh;simp only [List.mem_map,List.mem_filter,List.mem_range]
 constructor
 ·rintro ⟨n,⟨h1,h2⟩,rfl⟩;exact ⟨n,h1,h2,rfl⟩
 rintro ⟨n,h1,h2,rfl⟩;exact ⟨n,⟨h1,h2⟩,rfl⟩
theorem wF {all : List Sd} {l l' : List Tk} (h : ∀ n,bY l n = bY l' n) : bh all l = bh all l':=by
 have e : bY l = bY l':=funext h;unfold bh bS hY;rw [e]
theorem mY {l : List Tk} {u : Nat} {t : Tk} (h : l[u]? = some t) (t' : Tk) (n : Nat) : bY (l.set u t') n + (if f_ n t then 1 else 0) = bY l n + (if f_ n t' then 1 else 0):=by
 obtain ⟨hu,e⟩:=List.getElem?_eq_some_iff.1 h;unfold bY
 have e1 : l = l.take u ++ t :: l.drop (u + 1):=by rw [<- e,<- List.drop_eq_getElem_cons hu,List.take_append_drop]
 have e2 : l.set u t' = l.take u ++ t' :: l.drop (u + 1):=List.set_eq_take_append_cons_drop ▸ (if_pos hu);rw [e2]
 conv=>rhs;rw [e1]
 simp only [List.countP_append,List.countP_cons];omega
theorem DK (l : List Tk) (n : Nat) : bY l n <= l.length:=List.countP_le_length
theorem pO {all : List Sd} {l : List Tk} (s : Sd) (h : bY l all.length = 0) : gq (all.length + 1) (bh all l ++ [⟨all.length,s,0⟩]) = bh (all ++ [s]) l:=by
 unfold bh gq;rw [List.length_append,List.length_singleton,List.range_succ,List.filter_append,List.filter_append,List.map_append]
 congr 1
 ·rw [List.filter_map,List.filter_filter]
  have e1 : ∀ n ∈ List.range all.length,(bS (all.length + 1) l n) = ((lj (all.length + 1) ∘ hY all l) n && bS all.length l n):=by
   intro n hn;unfold bS;simp only [Function.comp_apply,lj,hY]
   by_cases q : 0 < bY l n
   ·simp [q]
   by_cases q2 : all.length + 1 <= n + 4
   ·simp [q,q2];omega
   simp [q,q2]
  rw [List.filter_congr e1];apply List.map_congr_left;intro n hn
  have hn' : n < all.length:=by
   have:=(List.mem_filter.1 hn).1;simpa using this
  unfold hY
  congr 1
  rw [List.getD_eq_getElem?_getD,List.getD_eq_getElem?_getD,List.getElem?_append_left hn']
 have e2 : bS (all.length + 1) l all.length = true:=by unfold bS;simp
 have e3 : lj (all.length + 1) ⟨all.length,s,0⟩ = true:=by unfold lj;simp
 rw [List.filter_cons_of_pos e3,List.filter_cons_of_pos e2];simp only [List.filter_nil,List.map_cons,List.map_nil];unfold hY;rw [h,List.getD_eq_getElem?_getD,List.getElem?_append_right (Nat.le_refl _),Nat.sub_self];rfl
theorem ps {all : List Sd} {l : List Tk} {n : Nat} (hn : n < all.length) (hk : bS all.length l n = true) :
 ∃ k,(bh all l)[k]? = some (hY all l n) /\ ∀ (j : Nat) (v : Vr),(bh all l)[j]? = some v -> v.num = n -> j = k:=by
 have hm : n ∈ (List.range all.length).filter (bS all.length l):=List.mem_filter.2 ⟨by simpa using hn,hk⟩;obtain ⟨k,hk2⟩:=List.mem_iff_getElem?.1 hm;refine ⟨k,by unfold bh;rw [List.getElem?_map,hk2];rfl,?_⟩;intro j v hj hv;have hd : ((List.range all.length).filter (bS all.length l)).Nodup:=List.Pairwise.filter _ List.nodup_range;unfold bh at hj;rw [List.getElem?_map] at hj
 cases q : ((List.range all.length).filter (bS all.length l))[j]? with
 | none=>rw [q] at hj;simp at hj
 | some m=>?_
 rw [q] at hj;simp at hj;subst hj;have Hu : m = n:=hv;subst Hu;obtain ⟨a1,b1⟩:=List.getElem?_eq_some_iff.1 q;obtain ⟨a2,b2⟩:=List.getElem?_eq_some_iff.1 hk2
 rcases Nat.lt_trichotomy j k with e | e | e
 ·exact absurd (b1.trans b2.symm) (List.pairwise_iff_getElem.1 hd j k a1 a2 e)
 ·exact e
 exact absurd (b2.trans b1.symm) (List.pairwise_iff_getElem.1 hd k j a2 a1 e)
theorem yG {all : List Sd} {l : List Tk} (h : 0 < all.length) : bR (bh all l) = all.getD (all.length - 1) mT:=by
 unfold bR bh
 obtain ⟨m,hm⟩ : ∃ m,all.length = m + 1:=⟨all.length - 1,by omega⟩
 rw [hm,List.range_succ,List.filter_append]
 have e2 : bS (m + 1) l m = true:=by unfold bS;simp
 rw [List.filter_cons_of_pos e2];simp [hY]
theorem AE {all : List Sd} {l : List Tk} (h : 0 < all.length) : 0 < (bh all l).length:=by
 have : hY all l (all.length - 1) ∈ bh all l:=mX.2 ⟨_,by omega,by unfold bS;simp;omega,rfl⟩;exact List.length_pos_of_mem this
theorem AF {all : List Sd} {l : List Tk} {u : Nat} {t t' : Tk} (hu : l[u]? = some t) {n : Nat} (hn : n < all.length) (hk : bS all.length l n = true) (h0 : ∀ m,f_ m t = false) (h1 : ∀ m,f_ m t' = decide (m = n)) :
 jZ (bh all l) (n : Int) = (bh all (l.set u t'),true):=by
 obtain ⟨k,hk1,hk2⟩:=ps (l:=l) hn hk
 have hpl:=yu (n:=(n : Int)) hk1 rfl (fun j v hj hv e=>by
  have:=hk2 j v hv (by exact_mod_cast e)
  omega)
 rw [hpl]
 congr 1
 have hp : ∀ m,bY (l.set u t') m = bY l m + (if m = n then 1 else 0):=by
  intro m;have:=mY hu t' m;rw [h0,h1] at this;simpa using this
 have hkp : ∀ m,bS all.length (l.set u t') m = bS all.length l m:=by
  intro m;unfold bS;rw [hp]
  by_cases e : m = n
  ·subst e
   simp only [if_true];unfold bS at hk;rw [hk];simp
  simp [e]
 apply List.ext_getElem?;intro j;rw [List.getElem?_set];have hlen : k < (bh all l).length:=(List.getElem?_eq_some_iff.1 hk1).1;have e5 : (List.range all.length).filter (bS all.length (l.set u t')) = (List.range all.length).filter (bS all.length l):=List.filter_congr (fun m _=>hkp m)
 have e6 : (bh all (l.set u t'))[j]? = ((List.range all.length).filter (bS all.length l))[j]?.map (hY all (l.set u t')):=by unfold bh;rw [e5,List.getElem?_map]
 rw [e6]
 have e7 : (bh all l)[j]? = ((List.range all.length).filter (bS all.length l))[j]?.map (hY all l):=by unfold bh;rw [List.getElem?_map]
 have e8 : (bh all l)[k]? = ((List.range all.length).filter (bS all.length l))[k]?.map (hY all l):=by unfold bh;rw [List.getElem?_map]
 by_cases ej : k = j
 ·subst ej
  rw [if_pos rfl,if_pos hlen];rw [hk1] at e8
  cases q : ((List.range all.length).filter (bS all.length l))[k]? with
  | none=>rw [q] at e8;simp at e8
  | some m=>?_
  rw [q] at e8;simp only [Option.map_some,Option.some.injEq] at e8;have Hu : n = m:=congrArg Vr.num e8;subst Hu;simp only [Option.map_some,hY];rw [hp,if_pos rfl]
 rw [if_neg ej,e7]
 cases q : ((List.range all.length).filter (bS all.length l))[j]? with
 | none=>rfl
 | some m=>?_
 have Hu : m ≠ n:=by
  intro e;apply ej;have:=hk2 j (hY all l m) (by rw [e7,q];rfl) e;exact this.symm
 simp only [Option.map_some,hY];rw [hp,if_neg Hu];rfl
theorem AG {all : List Sd} {l : List Tk} {u : Nat} {t t' : Tk} (hu : l[u]? = some t) {n : Nat} (hn : n < all.length) (h0 : ∀ m,f_ m t = decide (m = n)) (h1 : ∀ m,f_ m t' = false) :
 DB all.length (bh all l) (n : Int) = bh all (l.set u t') /\ uZ (bh all l) (n : Int) = all.getD n mT:=by
 have hp : ∀ m,bY l m = bY (l.set u t') m + (if m = n then 1 else 0):=by
  intro m;have:=mY hu t' m;rw [h0,h1] at this;simp at this;omega
 have hk : bS all.length l n = true:=by unfold bS;rw [hp,if_pos rfl];simp
 obtain ⟨k,hk1,hk2⟩:=ps (l:=l) hn hk;have hat:=BV hk1 (fun j v hj hv=>hk2 j v hj hv);have hat' : NJ (bh all l) (n : Int) = some (k,hY all l n):=hat;refine ⟨?_,by unfold uZ;rw [hat'];rfl⟩;unfold DB;rw [hat'];simp only;unfold tT gq
 have hset : (bh all l).set k { hY all l n with pins:=(hY all l n).pins - 1 } = ((List.range all.length).filter (bS all.length l)).map (hY all (l.set u t')):=by
  apply List.ext_getElem?;intro j;rw [List.getElem?_set,List.getElem?_map]
  have e7 : (bh all l)[j]? = ((List.range all.length).filter (bS all.length l))[j]?.map (hY all l):=by unfold bh;rw [List.getElem?_map]
  have hlen : k < (bh all l).length:=(List.getElem?_eq_some_iff.1 hk1).1
  by_cases ej : k = j
  ·subst ej
   rw [if_pos rfl,if_pos hlen];rw [hk1] at e7
   cases q : ((List.range all.length).filter (bS all.length l))[k]? with
   | none=>rw [q] at e7;simp at e7
   | some m=>?_
   rw [q] at e7;simp only [Option.map_some,Option.some.injEq] at e7;have Hu : n = m:=congrArg Vr.num e7;subst Hu;simp only [Option.map_some,hY];rw [hp,if_pos rfl];rfl
  rw [if_neg ej,e7]
  cases q : ((List.range all.length).filter (bS all.length l))[j]? with
  | none=>rfl
  | some m=>?_
  have Hu : m ≠ n:=by
   intro e;apply ej;have:=hk2 j (hY all l m) (by rw [e7,q];rfl) e;exact this.symm
  simp only [Option.map_some,hY];rw [hp,if_neg Hu];rfl
 rw [hset,List.filter_map,List.filter_filter];unfold bh
 congr 1
 apply List.filter_congr;intro m hm;simp only [Function.comp_apply,lj,hY,bS];rw [hp m]
 by_cases q : 0 < bY (l.set u t') m
 ·simp [q];left;omega
 by_cases q2 : all.length <= m + 4
 ·simp [q,q2]
 simp [q,q2]
def readsOf (l : List Tk) : Nat:=l.countP (fun t=>decide (t.kind = 3) && decide (1 <= t.steps))
theorem GM (t : Tk) : ∀ (K : List Nat),K.Nodup -> (K.map (fun k=>if f_ k t then 1 else 0)).sum <= (if (decide (t.kind = 3) && decide (1 <= t.steps)) = true then 1 else 0):=by
 intro K
 induction K with
 | nil=>intro _;simp
 | cons k K ih=>?_
 intro h;obtain ⟨h1,h2⟩:=List.nodup_cons.1 h;have h3:=ih h2;simp only [List.map_cons,List.sum_cons]
 by_cases q : f_ k t = true
 ·have q':=q
  unfold f_ at q';simp only [Bool.and_eq_true,decide_eq_true_eq] at q'
  have hz : (K.map (fun k=>if f_ k t then 1 else 0)).sum = 0:=by
   apply List.sum_eq_zero_iff_forall_eq_nat.2;intro x hx;obtain ⟨j,hj,rfl⟩:=List.mem_map.1 hx;rw [if_neg];intro e;unfold f_ at e;simp only [Bool.and_eq_true,decide_eq_true_eq] at e
   have : j = k:=by have:=e.2.symm.trans q'.2;omega
   subst this;exact h1 hj
  rw [hz,if_pos q,if_pos (by simp [q'.1])];exact Nat.le_refl _
 rw [if_neg q];omega
theorem GN : ∀ (l : List Tk) (K : List Nat),K.Nodup -> (K.map (bY l)).sum <= readsOf l:=by
 intro l
 induction l with
 | nil =>
   intro K _
   have : (K.map (bY [])).sum = 0:=by
    apply List.sum_eq_zero_iff_forall_eq_nat.2;intro x hx;obtain ⟨j,hj,rfl⟩:=List.mem_map.1 hx;rfl
   rw [this];exact Nat.zero_le _
 | cons t l ih=>?_
 intro K hK;have h1:=ih K hK;have h2:=GM t K hK
 have e : ∀ K : List Nat,(K.map (bY (t :: l))).sum = (K.map (bY l)).sum + (K.map (fun k=>if f_ k t then 1 else 0)).sum:=by
  intro K
  induction K with
  | nil=>rfl
  | cons k K ih2=>?_
  simp only [List.map_cons,List.sum_cons];rw [ih2]
  have : bY (t :: l) k = bY l k + (if f_ k t then 1 else 0):=by unfold bY;rw [List.countP_cons]
  omega
 rw [e]
 have e2 : readsOf (t :: l) = readsOf l + (if (decide (t.kind = 3) && decide (1 <= t.steps)) = true then 1 else 0):=by unfold readsOf;rw [List.countP_cons]
 omega
theorem Jg (f : Nat -> Nat) : ∀ (K : List Nat),(∀ k ∈ K,0 < f k) -> K.length <= (K.map f).sum:=by
 intro K
 induction K with
 | nil=>intro _;simp
 | cons k K ih=>?_
 intro h;have h1:=ih (fun x hx=>h x (by simp [hx]));have h2:=h k (by simp);simp only [List.map_cons,List.sum_cons,List.length_cons];omega
def lN (n : Nat) (l : List Tk) : List Nat:=(List.range n).filter (bS n l)
theorem sB (all : List Sd) (l : List Tk) : (bh all l).map Vr.num = lN all.length l:=by
 unfold bh lN;rw [List.map_map]
 conv=>rhs;rw [<- List.map_id ((List.range all.length).filter (bS all.length l))]
 rfl
theorem pP (n : Nat) (l : List Tk) : lN n l = (List.range (n - 4)).filter (bS n l) ++ List.range' (n - 4) (n - (n - 4)):=by
 unfold lN
 have e : List.range n = List.range (n - 4) ++ List.range' (n - 4) (n - (n - 4)):=by
  rw [List.range_eq_range',List.range_eq_range',show n = (n - 4) + (n - (n - 4)) by omega];have:=List.range'_append_1 (s:=0) (m:=n - 4) (n:=n - (n - 4));rw [Nat.zero_add] at this;rw [show (n - 4 + (n - (n - 4))) - 4 = n - 4 by omega,show (n - 4 + (n - (n - 4)) - (n - 4)) = n - (n - 4) by omega];exact this.symm
 rw [e,List.filter_append]
 congr 1
 apply List.filter_eq_self.2;intro k hk;have:=List.mem_range'_1.1 hk;unfold bS;rw [decide_eq_true (show n <= k + 4 by omega),Bool.or_true]
theorem DL (n : Nat) (l : List Tk) : ((List.range (n - 4)).filter (bS n l)).length <= readsOf l:=by
 refine Nat.le_trans (Jg (bY l) _ ?_) (GN l _ (List.Pairwise.filter _ List.nodup_range));intro k hk;obtain ⟨h1,h2⟩:=List.mem_filter.1 hk
 have h1 : k < n - 4:=by simpa using h1
 unfold bS at h2;rw [decide_eq_false (show ¬ n <= k + 4 by omega),Bool.or_false] at h2;simpa using h2
theorem AH (l : List Tk) : readsOf l <= l.length:=List.countP_le_length
theorem u0 (n : Nat) (l : List Tk) : n - (n - 4) <= (lN n l).length /\ (lN n l).length <= (n - (n - 4)) + readsOf l:=by
 have h:=DL n l;rw [pP,List.length_append,List.length_range'];omega
theorem AI (n : Nat) (l : List Tk) : (lN n l).Pairwise (· < ·):=List.Pairwise.filter _ List.pairwise_lt_range
theorem GO {n : Nat} {l : List Tk} {k : Nat} (h : k ∈ lN n l) : k < n:=by
 have:=(List.mem_filter.1 h).1;simpa using this
theorem GP {n : Nat} (l : List Tk) (hn : 0 < n) : (lN n l)[(lN n l).length - (n - (n - 4))]? = some (n - 4):=by
 rw [pP,List.length_append,List.length_range',Nat.add_sub_cancel,List.getElem?_append_right (Nat.le_refl _),Nat.sub_self,List.getElem?_range']
 ·simp
 omega
theorem sC (all : List Sd) (l : List Tk) : (bh all l).length <= 4 + l.length:=by
 have h:=(u0 all.length l).2;have e:=congrArg List.length (sB all l);rw [List.length_map] at e;have:=AH l;omega
def dJ (ol : Ol) (s : Sd) (ev : ByteArray) : Nat -> Option (Sd × ByteArray)
 | 0=>some (s,⟨#[]⟩)
 | k + 1=>match dJ ol s ev k with
   | some r=>if (aL ol r.1 (af ev k)).2.2 == 0 then some ((aL ol r.1 (af ev k)).1,r.2 ++ (aL ol r.1 (af ev k)).2.1) else none
   | none=>none
def lastOf (all : List Sd) : Sd:=all.getD (all.length - 1) mT
structure Ly (ol : Ol) (all : List Sd) (turn aN : Nat) (t : Tk) : Prop where
 idle : t.kind = 0 -> t = cW
 rq : t.kind ≠ 0 -> iC ⟨t.kind,t.events,t.at_⟩ = true
 dr : t.drawn = true -> (t.kind = 1 \/ t.kind = 2) /\ turn <= t.ticket /\ t.ticket < aN
 st : t.steps <= 2
 st0 : t.kind ≠ 3 -> t.steps = 0
 pin : t.kind = 3 -> 1 <= t.steps -> 0 <= t.pinned /\ t.pinned < (all.length : Int) /\ (0 <= t.at_ -> t.pinned = t.at_)
 yH : t.fired = 0 -> t.out = ⟨#[]⟩
 wk : 0 < t.fired -> t.kind = 1 /\ t.drawn = true /\ t.ticket = turn /\ t.fired < t.events.size /\ (t.at_ < 0 \/ t.at_ = (all.length : Int) - 1) /\ dJ ol (lastOf all) t.events t.fired = some (t.now,t.out)
structure SI (ol : Ol) (x : Sv) (all : List Sd) (log : ByteArray) : Prop where
 made : x.made = all.length
 pos : 0 < all.length
 kept : x.kept = bh all x.tasks
 good : ∀ s ∈ all,Good ol s
 joined : x.joined = log.size
 tail : x.tail = log.extract (log.size - 24) log.size
 len : x.tasks.length <= 6
 tk : ∀ (u : Nat) (t : Tk),x.tasks[u]? = some t -> Ly ol all x.turn x.aN t
 uniq : ∀ (i j : Nat) (ti tj : Tk),x.tasks[i]? = some ti -> x.tasks[j]? = some tj -> ti.drawn = true -> tj.drawn = true -> ti.ticket = tj.ticket -> i = j
 Mi : ∀ k,x.turn <= k -> k < x.aN -> ∃ (i : Nat) (t : Tk),x.tasks[i]? = some t /\ t.drawn = true /\ t.ticket = k
 le : x.turn <= x.aN
theorem BX (ol : Ol) (all : List Sd) (a b : Nat) : Ly ol all a b cW :=
 ⟨fun _=>rfl,fun h=>absurd rfl h,fun h=>by simp [cW] at h,by simp [cW],fun _=>rfl,fun h=>by simp [cW] at h,fun _=>rfl,fun h=>by simp [cW] at h⟩
theorem lO (m : Nat) : f_ m cW = false:=by simp [f_,cW]
theorem mi {t : Tk} (h : t.kind ≠ 3) (m : Nat) : f_ m t = false:=by simp [f_,h]
theorem mZ {t : Tk} (h : t.steps = 0) (m : Nat) : f_ m t = false:=by simp [f_,h]
theorem cZ {l : List Tk} {u i : Nat} {t' a : Tk} (h : (l.set u t')[i]? = some a) : (i = u /\ a = t') \/ (i ≠ u /\ l[i]? = some a):=by
 rw [List.getElem?_set] at h
 split at h
 ·rename_i e
  split at h
  ·simp at h;exact .inl ⟨e.symm,h.symm⟩
  simp at h
 rename_i e;exact .inr ⟨fun x=>e x.symm,h⟩
section
variable {ol : Ol} {x : Sv} {all : List Sd} {log : ByteArray}
theorem SI.kp (h : SI ol x all log) {u : Nat} {t t' : Tk} (hu : x.tasks[u]? = some t) (hp : ∀ m,f_ m t' = f_ m t) : bh all (x.tasks.set u t') = x.kept:=by
 rw [h.kept];apply wF;intro n;have:=mY hu t' n;rw [hp] at this;omega
theorem SI.set (h : SI ol x all log) {u : Nat} {t t' : Tk} (hu : x.tasks[u]? = some t) (hp : ∀ m,f_ m t' = f_ m t) (hI : Ly ol all x.turn x.aN t') (hd : t'.drawn = t.drawn) (ht : t.drawn = true -> t'.ticket = t.ticket) : SI ol (ak x u t') all log:=by
 have hlt:=(List.getElem?_eq_some_iff.1 hu).1;refine ⟨h.made,h.pos,(h.kp hu hp).symm,h.good,h.joined,h.tail,by simpa [ak] using h.len,?_,?_,?_,h.le⟩
 ·intro i a ha
  rcases cZ ha with ⟨_,rfl⟩ | ⟨_,ha⟩
  ·exact hI
  exact h.tk i a ha
 ·intro i j ti tj hi hj di dj e
  rcases cZ hi with ⟨rfl,rfl⟩ | ⟨ni,hi'⟩
  ·rcases cZ hj with ⟨rfl,rfl⟩ | ⟨nj,hj'⟩
   ·rfl
   exact h.uniq _ _ _ _ hu hj' (by rw [<- hd];exact di) dj (by rw [<- ht (by rw [<- hd];exact di)];exact e)
  rcases cZ hj with ⟨rfl,rfl⟩ | ⟨nj,hj'⟩
  ·exact h.uniq _ _ _ _ hi' hu di (by rw [<- hd];exact dj) (by rw [<- ht (by rw [<- hd];exact dj)];exact e)
  exact h.uniq _ _ _ _ hi' hj' di dj e
 intro k h1 h2;obtain ⟨i,a,hi,di,e⟩:=h.Mi k h1 h2
 by_cases q : i = u
 ·subst q
  rw [hu] at hi;simp at hi;subst hi;exact ⟨i,t',by simp [ak,hlt],by rw [hd];exact di,by rw [ht di];exact e⟩
 exact ⟨i,a,by simp only [ak];rw [List.getElem?_set_ne (fun x=>q x.symm)];exact hi,di,e⟩
theorem SI.end_ (h : SI ol x all log) {u : Nat} {t : Tk} (hu : x.tasks[u]? = some t) (hp : ∀ m,f_ m t = false) (hd : t.drawn = false) : SI ol (ak x u cW) all log :=
 h.set hu (fun m=>by rw [lO,hp]) (BX _ _ _ _) (by rw [hd];rfl) (fun e=>by rw [hd] at e;cases e)
theorem Ly.ticket {a b b' : Nat} {t : Tk} (h : Ly ol all a b t) (hb : b <= b') : Ly ol all a b' t :=
 ⟨h.idle,h.rq,fun d=>⟨(h.dr d).1,(h.dr d).2.1,Nat.lt_of_lt_of_le (h.dr d).2.2 hb⟩,h.st,h.st0,h.pin,h.yH,h.wk⟩
theorem SI.draw (h : SI ol x all log) {u : Nat} {t : Tk} (hu : x.tasks[u]? = some t) (hk : t.kind = 1 \/ t.kind = 2) (hd : t.drawn = false) : SI ol (lL x u t) all log:=by
 have hlt:=(List.getElem?_eq_some_iff.1 hu).1;have hI:=h.tk u t hu
 have k3 : t.kind ≠ 3:=by rcases hk with e | e <;> omega
 have hf : t.fired = 0:=by
  rcases Nat.eq_zero_or_pos t.fired with e | e
  ·exact e
  have:=(hI.wk e).2.1;rw [hd] at this;cases this
 refine ⟨h.made,h.pos,?_,h.good,h.joined,h.tail,by simpa [lL,ak] using h.len,?_,?_,?_,?_⟩
 ·exact (h.kp hu (t':={ t with drawn:=true,ticket:=x.aN }) (fun m=>rfl)).symm
 ·intro i a ha
  rcases cZ ha with ⟨_,rfl⟩ | ⟨_,ha⟩
  ·refine ⟨fun e=>?_,hI.rq,fun _=>⟨hk,h.le,?_⟩,hI.st,hI.st0,hI.pin,hI.yH,fun e=>?_⟩
   ·simp only at e;rcases hk with e' | e' <;> omega
   ·show x.aN < x.aN + 1;omega
   simp only at e;omega
  exact (h.tk i a ha).ticket (Nat.le_succ _)
 ·intro i j ti tj hi hj di dj e
  rcases cZ hi with ⟨rfl,rfl⟩ | ⟨ni,hi'⟩
  ·rcases cZ hj with ⟨rfl,rfl⟩ | ⟨nj,hj'⟩
   ·rfl
   have:=((h.tk _ _ hj').dr dj).2.2;simp only at e;omega
  rcases cZ hj with ⟨rfl,rfl⟩ | ⟨nj,hj'⟩
  ·have:=((h.tk _ _ hi').dr di).2.2
   simp only at e;omega
  exact h.uniq _ _ _ _ hi' hj' di dj e
 ·intro k h1 h2
  by_cases q : k = x.aN
  ·exact ⟨u,{ t with drawn:=true,ticket:=x.aN },by simp [lL,ak,hlt],rfl,q.symm⟩
  have h2' : k < x.aN:=by have : k < x.aN + 1:=h2;omega
  obtain ⟨i,a,hi,di,e⟩:=h.Mi k h1 h2'
  have hiu : i ≠ u:=by
   intro e2;subst e2;rw [hu] at hi;simp at hi;subst hi;rw [hd] at di;cases di
  exact ⟨i,a,by simp only [lL,ak];rw [List.getElem?_set_ne (fun x=>hiu x.symm)];exact hi,di,e⟩
 show x.turn <= x.aN + 1;have:=h.le;omega
def iw (x : Sv) (u : Nat) : Sv:={ ak x u cW with turn:=x.turn + 1 }
theorem SI.done (h : SI ol x all log) {u : Nat} {t : Tk} (hu : x.tasks[u]? = some t) (hd : t.drawn = true) (ht : t.ticket = x.turn) : SI ol (iw x u) all log /\ ∀ (i : Nat) (a : Tk),(iw x u).tasks[i]? = some a -> a.fired = 0:=by
 have hI:=h.tk u t hu
 have k3 : t.kind ≠ 3:=by rcases (hI.dr hd).1 with e | e <;> omega
 have hfr : ∀ (i : Nat) (a : Tk),i ≠ u -> x.tasks[i]? = some a -> a.fired = 0:=by
  intro i a hi ha
  rcases Nat.eq_zero_or_pos a.fired with e | e
  ·exact e
  have w:=(h.tk i a ha).wk e;exact absurd (h.uniq i u a t ha hu w.2.1 hd (by rw [w.2.2.1,ht])) hi
 refine ⟨⟨h.made,h.pos,(h.kp hu (t':=cW) (fun m=>by rw [lO,mi k3])).symm,h.good,h.joined,h.tail,by simpa [iw,ak] using h.len,?_,?_,?_,?_⟩,?_⟩
 ·intro i a ha
  rcases cZ ha with ⟨_,rfl⟩ | ⟨ni,ha⟩
  ·exact BX _ _ _ _
  have hA:=h.tk i a ha;refine ⟨hA.idle,hA.rq,fun d=>⟨(hA.dr d).1,?_,(hA.dr d).2.2⟩,hA.st,hA.st0,hA.pin,hA.yH,fun e=>?_⟩
  ·have h1:=(hA.dr d).2.1
   have h2 : a.ticket ≠ x.turn:=fun e=>ni (h.uniq i u a t ha hu d hd (by rw [e,ht]))
   show x.turn + 1 <= a.ticket;omega
  have:=hfr i a ni ha;omega
 ·intro i j ti tj hi hj di dj e
  rcases cZ hi with ⟨rfl,rfl⟩ | ⟨ni,hi'⟩
  ·simp [cW] at di
  rcases cZ hj with ⟨rfl,rfl⟩ | ⟨nj,hj'⟩
  ·simp [cW] at dj
  exact h.uniq _ _ _ _ hi' hj' di dj e
 ·intro k h1 h2
  have h1' : x.turn + 1 <= k:=h1;obtain ⟨i,a,hi,di,e⟩:=h.Mi k (by omega) h2
  have hiu : i ≠ u:=by
   intro e2;subst e2;rw [hu] at hi;simp at hi;subst hi;omega
  exact ⟨i,a,by simp only [iw,ak];rw [List.getElem?_set_ne (fun x=>hiu x.symm)];exact hi,di,e⟩
 ·have:=(hI.dr hd).2.2
  show x.turn + 1 <= x.aN;omega
 intro i a ha
 rcases cZ ha with ⟨_,rfl⟩ | ⟨ni,ha⟩
 ·rfl
 exact hfr i a ni ha
theorem Jh {α : Type} (A T O : List α) (h : 24 <= T.length) : (T ++ O).drop (T.length + O.length - 24) = (A ++ T ++ O).drop (A.length + T.length + O.length - 24):=by
 have hn : A.drop (A.length + T.length + O.length - 24) = []:=List.drop_eq_nil_of_le (by omega);rw [List.append_assoc,List.drop_append (l₁:=A),hn,List.nil_append]
 congr 1
 omega
theorem Lz {α : Type} (L O : List α) : (L.drop (L.length - 24) ++ O).drop ((L.drop (L.length - 24)).length + O.length - 24) = (L ++ O).drop (L.length + O.length - 24):=by
 by_cases q : L.length <= 24
 ·rw [show L.length - 24 = 0 by omega];simp
 have hT : (L.drop (L.length - 24)).length = L.length - (L.length - 24):=List.length_drop
 have hA : (L.take (L.length - 24)).length = L.length - 24:=by rw [List.length_take];omega
 have:=Jh (L.take (L.length - 24)) (L.drop (L.length - 24)) O (by omega);rw [this,List.take_append_drop,hT,hA]
 congr 1
 omega
theorem qL (b : ByteArray) (k : Nat) : (b.extract k b.size).data.toList = b.data.toList.drop k:=by
 rw [ByteArray.data_extract,Array.toList_extract,List.extract_eq_take_drop];apply List.take_of_length_le;rw [List.length_drop];exact Nat.le_refl _
theorem yI (log o : ByteArray) : sq (log.extract (log.size - 24) log.size) o = (log ++ o).extract ((log ++ o).size - 24) (log ++ o).size:=by
 unfold sq;apply ByteArray.ext;apply Array.toList_inj.1;rw [qL,qL,ByteArray.data_append,Array.toList_append,ByteArray.data_append,Array.toList_append,qL];have e1 : log.size = log.data.toList.length:=(Array.length_toList).symm;have e2 : o.size = o.data.toList.length:=(Array.length_toList).symm
 have e3 : (log.extract (log.size - 24) log.size ++ o).size = (log.data.toList.drop (log.data.toList.length - 24)).length + o.data.toList.length:=by
  rw [ByteArray.size_append,ByteArray.size_extract,List.length_drop,<- e1,<- e2];omega
 rw [e3,ByteArray.size_append,e1,e2];exact Lz _ _
theorem GQ (h : SI ol x all log) : bY x.tasks all.length = 0:=by
 unfold bY;apply List.countP_eq_zero.2;intro t ht;obtain ⟨i,hi⟩:=List.mem_iff_getElem?.1 ht;have hI:=h.tk i t hi;intro e;unfold f_ at e;simp only [Bool.and_eq_true,decide_eq_true_eq] at e;have:=(hI.pin e.1.1 e.1.2).2.1;omega
theorem SI.SR (h : SI ol x all log) (hf : ∀ (i : Nat) (a : Tk),x.tasks[i]? = some a -> a.fired = 0) {s : Sd} (hs : Good ol s) (o : ByteArray) : SI ol (fN x s o) (all ++ [s]) (log ++ o):=by
 have hl : (all ++ [s]).length = all.length + 1:=by simp
 refine ⟨by rw [hl];show x.made + 1 = _;rw [h.made],by omega,?_,?_,?_,?_,h.len,?_,h.uniq,h.Mi,h.le⟩
 ·show gq (x.made + 1) (x.kept ++ [⟨x.made,s,0⟩]) = bh (all ++ [s]) x.tasks
  rw [h.made,h.kept];exact pO s (GQ h)
 ·intro a ha
  rcases List.mem_append.1 ha with ha | ha
  ·exact h.good a ha
  simp at ha;subst ha;exact hs
 ·show x.joined + o.size = _
  rw [h.joined,ByteArray.size_append]
 ·show sq x.tail o = _
  rw [h.tail];exact yI log o
 intro i a ha;have hA:=h.tk i a ha;refine ⟨hA.idle,hA.rq,hA.dr,hA.st,hA.st0,fun k1 k2=>?_,hA.yH,fun e=>?_⟩
 ·have:=hA.pin k1 k2
  exact ⟨this.1,by rw [hl];omega,this.2.2⟩
 have:=hf i a ha;omega
theorem SI.bR (h : SI ol x all log) : Ch.bR x.kept = lastOf all:=by rw [h.kept];exact yG h.pos
theorem SI.yJ (h : SI ol x all log) : Good ol (lastOf all):=by
 apply h.good;unfold lastOf;rw [List.getD_eq_getElem?_getD,List.getElem?_eq_getElem (by have:=h.pos;omega)];exact List.getElem_mem _
end
theorem LB : ∀ (n : Nat) {l : List Int},l.length <= n -> TL 49 l -> ∀ y ∈ l,1 <= y:=by
 intro n
 induction n with
 | zero =>
   intro l hl _ y hy;have e : l = []:=List.eq_nil_of_length_eq_zero (by omega);subst e
   cases hy
 | succ n ih=>?_
 intro l hl h y hy
 match l,h with
 | [],_=>cases hy
 | [a],h=>exact absurd h (by simp [TL])
 | a :: b :: l,h =>
   obtain ⟨h1,h2⟩:=h;simp only [List.length_cons] at hl
   rcases List.mem_cons.1 hy with rfl | hy
   ·have:=h1.1;unfold bN at this;simp at this;omega
   rcases List.mem_cons.1 hy with rfl | hy
   ·have:=h1.2.1;omega
   exact ih (by omega) h2 y hy
theorem Good.LC {ol : Ol} {s : Sd} (g : Good ol s) : ∀ k,k < s.tm.size -> 1 <= af s.tm k:=by
 intro k hk
 have hm : af s.tm k ∈ ei s.tm:=by
  unfold af ei;rw [dif_pos hk];exact List.mem_map.2 ⟨s.tm[k],by rw [ByteArray.getElem_eq_getElem_data];exact Array.getElem_mem_toList _,rfl⟩
 exact LB _ (Nat.le_refl _) g.tl.1 _ hm
section
variable {t : ByteArray} {ol : Ol} (hR : sf t ol)
include hR
theorem Good.wait {s : Sd} (g : Good ol s) : (cN ol 17 (tick s) []).isSome = true:=by
 obtain ⟨e1,e2⟩:=g.lg hR;have:=Gm e1;rw [e2,hR.rd] at this;exact this
theorem pQ {s : Sd} (g : Good ol s) (ev : ByteArray) : ∀ (k : Nat) {r : Sd × ByteArray},dJ ol s ev k = some r -> Good ol r.1:=by
 intro k
 induction k with
 | zero=>intro r h;simp [dJ] at h;subst h;exact g
 | succ k ih=>?_
 intro r h;simp only [dJ] at h
 cases q : dJ ol s ev k with
 | none=>rw [q] at h;simp at h
 | some r0=>?_
 rw [q] at h;simp only at h
 split at h
 ·rename_i c
  simp at h;subst h;exact ph hR (ih q) (by simpa using c)
 simp at h
end
theorem yK {ol : Ol} (hol : ol.Ok) (s : Sd) (ev : ByteArray) : ∀ (k : Nat) {r : Sd × ByteArray},dJ ol s ev k = some r -> r.2.size <= 117000000 * k:=by
 intro k
 induction k with
 | zero=>intro r h;simp [dJ] at h;subst h;exact Nat.zero_le _
 | succ k ih=>?_
 intro r h;simp only [dJ] at h
 cases q : dJ ol s ev k with
 | none=>rw [q] at h;simp at h
 | some r0=>?_
 rw [q] at h;simp only at h
 split at h
 ·simp at h;subst h
  have h1:=ih q;have h2:=gM hol r0.1 (af ev k);show (r0.2 ++ _).size <= _;rw [ByteArray.size_append];omega
 simp at h
theorem mj {r : Rq} (h : iC r = true) : r.kind = 1 \/ r.kind = 2 \/ r.kind = 3 \/ r.kind = 4:=by
 unfold iC at h
 split at h
 ·exact .inl ‹_›
 split at h
 ·exact .inr (.inl ‹_›)
 split at h
 ·exact .inr (.inr (.inl ‹_›))
 split at h
 ·exact .inr (.inr (.inr ‹_›))
 cases h
theorem gT {r : Rq} (h : iC r = true) (hk : r.kind = 1) : 1 <= r.events.size /\ r.events.size <= 4 /\ (∀ j,j < r.events.size -> bN (af r.events j) = true) /\ -1 <= r.at_:=by
 unfold iC at h;rw [if_pos hk] at h;simp only [Bool.and_eq_true,decide_eq_true_eq] at h;obtain ⟨h1,h2⟩:=h;unfold dG at h1;simp only [Bool.and_eq_true,decide_eq_true_eq,List.all_eq_true,List.mem_range] at h1;exact ⟨h1.1.1,h1.1.2,h1.2,h2⟩
section
variable {t : ByteArray} {ol : Ol} {x : Sv} {all : List Sd} {log : ByteArray}
theorem SI.bd (h : SI ol x all log) (hm : all.length <= 1000000000000) (hl : log.size <= 100000000000000000) (ht : x.aN <= 1000000000000) : x.Bd:=by
 have h6:=h.len
 have hts : x.tail.size = log.size - (log.size - 24):=by rw [h.tail,ByteArray.size_extract];omega
 refine ⟨by rw [h.made];omega,?_,?_,by rw [h.joined];omega,by omega,by rw [h.joined];omega,by omega,by have:=h.le;omega,h6⟩
 ·rw [h.kept]
  have:=sC all x.tasks;omega
 intro v hv;rw [h.kept] at hv;obtain ⟨n,h1,_,rfl⟩:=mX.1 hv;have:=DK x.tasks n;exact ⟨by show n <= _;omega,by show bY x.tasks n <= _;omega⟩
theorem SI.tY (h : SI ol x all log) (hR : sf t ol) (hol : ol.Ok) {u : Nat} {k : Tk} (hu : x.tasks[u]? = some k) : NP ol x k:=by
 have hI:=h.tk u k hu;refine ⟨fun h3=>⟨by have:=hI.st;omega,fun h2=>?_⟩,fun n3 n4 hd=>?_⟩
 ·obtain ⟨p1,p2,_⟩:=hI.pin h3 (by omega)
  obtain ⟨n,hn⟩ : ∃ n : Nat,k.pinned = (n : Int):=⟨k.pinned.toNat,by omega⟩
  have hn1 : n < all.length:=by omega
  have hpn : 0 < bY x.tasks n:=by
   unfold bY;apply List.countP_pos_iff.2;refine ⟨k,List.mem_of_getElem? hu,?_⟩;unfold f_;simp only [h3,hn,decide_true,Bool.true_and,Bool.and_true,decide_eq_true_eq];omega
  have hk : bS all.length x.tasks n = true:=by unfold bS;rw [decide_eq_true hpn];rfl
  obtain ⟨j,hj1,hj2⟩:=ps (l:=x.tasks) hn1 hk;refine ⟨j,hY all x.tasks n,by rw [h.kept];exact hj1,hn,hpn,?_⟩;intro i v hi hv;rw [h.kept] at hi;exact hj2 i v hi hv
 have hg:=h.yJ;have hlk:=h.bR;refine ⟨by rw [h.kept];exact AE h.pos,by rw [hlk];exact hg.ok,by rw [hlk];exact hg.LC,by rw [hlk];exact hg.wait hR,?_,?_,?_⟩
 ·unfold js
  split
  ·show (Ch.bR x.kept).Ok
   rw [hlk];exact hg.ok
  rename_i q;exact (pQ hR hg _ _ (hI.wk (by omega)).2.2.2.2.2).ok
 ·rcases Nat.eq_zero_or_pos k.fired with e | e
  ·omega
  have w:=hI.wk e;have:=gT (hI.rq (by rw [w.1];decide)) w.1;have h4 : k.events.size <= 4:=this.2.1;have:=w.2.2.2.1;omega
 rcases Nat.eq_zero_or_pos k.fired with e | e
 ·rw [hI.yH e];exact Nat.zero_le _
 have w:=hI.wk e;have:=gT (hI.rq (by rw [w.1];decide)) w.1;have h4 : k.events.size <= 4:=this.2.1;have h5:=w.2.2.2.1;have:=yK hol _ _ _ w.2.2.2.2.2;simp only at this;omega
end
theorem lP {x : Sv} {u : Nat} {k : Tk} (hu : x.tasks[u]? = some k) : lM x (u : Int) = some k:=by
 unfold lM;rw [if_pos (by omega)];exact hu
theorem kt {ol : Ol} {x : Sv} {u : Nat} {k : Tk} (hu : x.tasks[u]? = some k) (h0 : k.kind = 0) : bG ol x (u : Int) = (x,b8,false,13):=by
 unfold bG;rw [lP hu];simp only;rw [if_pos h0]
theorem iX {ol : Ol} {x : Sv} {u : Nat} {k : Tk} (hu : x.tasks[u]? = some k) (h0 : k.kind ≠ 0) : bG ol x (u : Int) = (if (fZ ol x u k).2.2 then ak (fZ ol x u k).1 u cW else (fZ ol x u k).1,(fZ ol x u k).2.1,(fZ ol x u k).2.2,0):=by
 unfold bG;rw [lP hu];simp only [Int.toNat_natCast];rw [if_neg h0]
section
variable {t : ByteArray} {ol : Ol} {x : Sv} {all : List Sd} {log : ByteArray} {u : Nat} {k : Tk}
theorem sD (hk : k.kind = 1 \/ k.kind = 2) : fZ ol x u k = iu ol x u k:=by
 unfold fZ;rw [if_neg (by rcases hk with e | e <;> rw [e] <;> decide),if_neg (by rcases hk with e | e <;> rw [e] <;> decide)]
theorem GR (hk : k.kind = 4) : fZ ol x u k = (x,j0 x k.at_,true):=by
 unfold fZ;rw [if_neg (by rw [hk];decide),if_pos hk]
theorem sE (hk : k.kind = 3) : fZ ol x u k = ir ol x u k:=by
 unfold fZ;rw [if_pos hk]
theorem DM (hd : k.drawn = false) : iu ol x u k = (lL x u k,b8,false):=by
 unfold iu;rw [if_pos hd]
theorem DN (hd : k.drawn = true) (ht : k.ticket ≠ x.turn) : iu ol x u k = (x,b8,false):=by
 unfold iu;rw [if_neg (by rw [hd];decide),if_pos ht]
theorem SI.poll (h : SI ol x all log) (hu : x.tasks[u]? = some k) (hk : k.kind = 4) : bG ol x (u : Int) = (ak x u cW,j0 x k.at_,true,0) /\ SI ol (ak x u cW) all log:=by
 refine ⟨?_,h.end_ hu (mi (by rw [hk];decide)) ?_⟩
 ·rw [iX hu (by rw [hk];decide),GR hk]
  rfl
 cases q : k.drawn with
 | false=>rfl
 | true=>have:=((h.tk u k hu).dr q).1;rw [hk] at this;simp at this
theorem SI.draws (h : SI ol x all log) (hu : x.tasks[u]? = some k) (hk : k.kind = 1 \/ k.kind = 2) (hd : k.drawn = false) : bG ol x (u : Int) = (lL x u k,b8,false,0) /\ SI ol (lL x u k) all log:=by
 refine ⟨?_,h.draw hu hk hd⟩;rw [iX hu (by rcases hk with e | e <;> rw [e] <;> decide),sD hk,DM hd];rfl
theorem SI.waits (hu : x.tasks[u]? = some k) (hk : k.kind = 1 \/ k.kind = 2) (hd : k.drawn = true) (ht : k.ticket ≠ x.turn) : bG ol x (u : Int) = (x,b8,false,0):=by
 rw [iX hu (by rcases hk with e | e <;> rw [e] <;> decide),sD hk,DN hd ht];rfl
theorem nZ (hu : x.tasks[u]? = some k) (hk : k.kind = 1 \/ k.kind = 2) (hd : k.drawn = true) (ht : k.ticket = x.turn) : bG ol x (u : Int) = (if (cF ol x u k).2.2 then ak { (cF ol x u k).1 with turn:=(cF ol x u k).1.turn + 1 } u cW else (cF ol x u k).1,(cF ol x u k).2.1,(cF ol x u k).2.2,0):=by
 rw [iX hu (by rcases hk with e | e <;> rw [e] <;> decide)]
 have e : fZ ol x u k = ({ (cF ol x u k).1 with turn:=if (cF ol x u k).2.2 then (cF ol x u k).1.turn + 1 else (cF ol x u k).1.turn },(cF ol x u k).2):=by
  rw [sD hk];unfold iu;rw [if_neg (by rw [hd];decide),if_neg (by simp [ht])]
 rw [e];generalize cF ol x u k = M;obtain ⟨X,R,d⟩:=M
 cases d with
 | true=>rfl
 | false=>rfl
theorem SI.JS (h : SI ol x all log) (hR : sf t ol) (hu : x.tasks[u]? = some k) (hk : k.kind = 2) (hd : k.drawn = true) (ht : k.ticket = x.turn) :
 bG ol x (u : Int) = (fN (iw x u) (nc ol (lastOf all)).1 (nc ol (lastOf all)).2,{ b8 with dT:=(all.length : Int),text:=(nc ol (lastOf all)).2 },true,0) /\ SI ol (fN (iw x u) (nc ol (lastOf all)).1 (nc ol (lastOf all)).2) (all ++ [(nc ol (lastOf all)).1]) (log ++ (nc ol (lastOf all)).2):=by
 obtain ⟨hD,hf⟩:=h.done hu hd ht;have hg:=h.yJ;have hw:=Dy hR 17 hg.mid (nY (hg.wait hR));refine ⟨?_,hD.SR hf hw _⟩;rw [nZ hu (.inr hk) hd ht]
 have e : cF ol x u k = (fN x (nc ol (lastOf all)).1 (nc ol (lastOf all)).2,{ b8 with dT:=(all.length : Int),text:=(nc ol (lastOf all)).2 },true):=by
  unfold cF;rw [if_pos hk];unfold mA;rw [h.bR,h.made]
 rw [e];rfl
theorem SI.lK (h : SI ol x all log) (hu : x.tasks[u]? = some k) (hk : k.kind = 1) (hd : k.drawn = true) (ht : k.ticket = x.turn) (hf : k.fired = 0) (h0 : 0 <= k.at_) (h1 : k.at_ ≠ (all.length : Int) - 1) :
 bG ol x (u : Int) = (iw x u,{ b8 with err:=14,dT:=(all.length : Int) - 1 },true,0) /\ SI ol (iw x u) all log:=by
 refine ⟨?_,(h.done hu hd ht).1⟩;rw [nZ hu (.inl hk) hd ht]
 have e : cF ol x u k = (x,{ b8 with err:=14,dT:=(all.length : Int) - 1 },true):=by
  unfold cF;rw [if_neg (by rw [hk];decide)];unfold kD
  have : Ch.lK x k = true:=by
   unfold Ch.lK;rw [h.made];simp [hf,h0,h1]
  rw [if_pos this];unfold dW;rw [h.made]
 rw [e];rfl
theorem SI.JT (h : SI ol x all log) (hR : sf t ol) (hu : x.tasks[u]? = some k) (hk : k.kind = 1) (hd : k.drawn = true) (ht : k.ticket = x.turn) (hv : 0 < k.fired \/ k.at_ < 0 \/ k.at_ = (all.length : Int) - 1) :
 ∃ s o,dJ ol (lastOf all) k.events k.fired = some (s,o) /\ k.fired < k.events.size /\
 ((dJ ol (lastOf all) k.events (k.fired + 1) = none /\ (aL ol s (af k.events k.fired)).2.2 ≠ 0 /\ bG ol x (u : Int) = (iw x u,{ b8 with err:=9,dT:=(all.length : Int) - 1,idx:=(k.fired : Int) },true,0) /\ SI ol (iw x u) all log) \/
  (∃ s' o',dJ ol (lastOf all) k.events (k.fired + 1) = some (s',o') /\ k.fired + 1 < k.events.size /\ bG ol x (u : Int) = (ak x u { k with fired:=k.fired + 1,now:=s',out:=o' },b8,false,0) /\ SI ol (ak x u { k with fired:=k.fired + 1,now:=s',out:=o' }) all log) \/
  (∃ s' o',dJ ol (lastOf all) k.events (k.fired + 1) = some (s',o') /\ k.fired + 1 = k.events.size /\ bG ol x (u : Int) = (fN (iw x u) s' o',{ b8 with dT:=(all.length : Int),idx:=(k.events.size : Int),text:=o' },true,0) /\ SI ol (fN (iw x u) s' o') (all ++ [s']) (log ++ o'))):=by
 have hI:=h.tk u k hu;have hq:=gT (hI.rq (by rw [hk];decide)) hk;have hsz : 1 <= k.events.size:=hq.1
 have hlt : k.fired < k.events.size:=by
  rcases Nat.eq_zero_or_pos k.fired with e | e
  ·omega
  exact (hI.wk e).2.2.2.1
 have hg:=h.yJ
 -- how far it has come
 obtain ⟨s,o,hfi,hT⟩ : ∃ s o,dJ ol (lastOf all) k.events k.fired = some (s,o) /\ js x k = { k with now:=s,out:=o }:=by
  rcases Nat.eq_zero_or_pos k.fired with e | e
  ·refine ⟨lastOf all,⟨#[]⟩,by rw [e];rfl,?_⟩
   unfold js;rw [if_pos e,h.bR,<- hI.yH e]
  refine ⟨k.now,k.out,(hI.wk e).2.2.2.2.2,?_⟩;unfold js;rw [if_neg (by omega)]
 have U3 : Ch.lK x k = false:=by
  unfold Ch.lK;rw [h.made]
  rcases Nat.eq_zero_or_pos k.fired with e | e
  ·rcases hv with c | c | c
   ·omega
   ·rw [decide_eq_false (show ¬ 0 <= k.at_ by omega)];simp
   rw [decide_eq_false (show ¬ k.at_ ≠ (all.length : Int) - 1 by omega)];simp
  rw [decide_eq_false (show ¬ k.fired = 0 by omega)];simp
 have hgs:=pQ hR hg _ _ hfi
 have hM : cF ol x u k = kC ol x u { k with now:=s,out:=o }:=by
  unfold cF;rw [if_neg (by rw [hk];decide)];unfold kD;rw [U3,if_neg (by simp),hT]
 refine ⟨s,o,hfi,hlt,?_⟩
 have hF : cE ol { k with now:=s,out:=o } = if (aL ol s (af k.events k.fired)).2.2 != 0 then ({ k with now:=s,out:=o },(aL ol s (af k.events k.fired)).2.2) else ({ k with fired:=k.fired + 1,now:=(aL ol s (af k.events k.fired)).1,out:=o ++ (aL ol s (af k.events k.fired)).2.1 },0):=by
  unfold cE;rw [if_neg (by show ¬ k.events.size <= k.fired;omega)]
 have hN : dJ ol (lastOf all) k.events (k.fired + 1) = if (aL ol s (af k.events k.fired)).2.2 == 0 then some ((aL ol s (af k.events k.fired)).1,o ++ (aL ol s (af k.events k.fired)).2.1) else none:=by
  simp only [dJ,hfi]
 by_cases q : (aL ol s (af k.events k.fired)).2.2 = 0
 ·rw [if_neg (by simp [q])] at hF
  rw [if_pos (by simp [q])] at hN;have hgn:=ph hR hgs q;generalize (aL ol s (af k.events k.fired)).1 = s' at *;generalize o ++ (aL ol s (af k.events k.fired)).2.1 = o' at *
  right
  by_cases c : k.fired + 1 < k.events.size
  ·left
   refine ⟨s',o',hN,c,?_,?_⟩
   ·have hE : kC ol x u { k with now:=s,out:=o } = (ak x u { k with fired:=k.fired + 1,now:=s',out:=o' },b8,false):=by
     unfold kC;rw [hF];rw [if_neg (by simp),if_pos c]
    rw [nZ hu (.inl hk) hd ht,hM,hE];rfl
   refine h.set hu (fun m=>by rw [mi (by rw [hk];decide),mi (by show k.kind ≠ 3;rw [hk];decide)]) ?_ rfl (fun _=>rfl);refine ⟨fun e=>absurd (show k.kind = 0 from e) (by rw [hk];decide),hI.rq,hI.dr,hI.st,hI.st0,hI.pin,fun e=>absurd (show k.fired + 1 = 0 from e) (by omega),fun _=>⟨hk,hd,ht,c,?_,hN⟩⟩
   rcases Nat.eq_zero_or_pos k.fired with e | e
   ·rcases hv with g | g | g
    ·omega
    ·exact .inl g
    exact .inr g
   exact (hI.wk e).2.2.2.2.1
  right
  have c' : k.fired + 1 = k.events.size:=by omega
  obtain ⟨hD,hf⟩:=h.done hu hd ht;refine ⟨s',o',hN,c',?_,hD.SR hf hgn _⟩
  have hE : kC ol x u { k with now:=s,out:=o } = (fN (ak x u { k with fired:=k.fired + 1,now:=s',out:=o' }) s' o',{ b8 with dT:=(x.made : Int),idx:=((k.fired + 1 : Nat) : Int),text:=o' },true):=by
   unfold kC;rw [hF];rw [if_neg (by simp),if_neg c]
  rw [nZ hu (.inl hk) hd ht,hM,hE];simp only [if_true]
  have e1 : ak { fN (ak x u { k with fired:=k.fired + 1,now:=s',out:=o' }) s' o' with turn:=(fN (ak x u { k with fired:=k.fired + 1,now:=s',out:=o' }) s' o').turn + 1 } u cW = fN (iw x u) s' o':=by
   simp [fN,ak,iw,List.set_set]
  rw [e1,h.made,<- c']
 rw [if_pos (by simpa using q)] at hF;rw [if_neg (by simpa using q)] at hN
 left
 have h9 : (aL ol s (af k.events k.fired)).2.2 = 9:=by
  rcases uU ol s (af k.events k.fired) with e | e
  ·exact absurd e q
  exact e
 refine ⟨hN,q,?_,(h.done hu hd ht).1⟩
 have hE : kC ol x u { k with now:=s,out:=o } = (ak x u { k with now:=s,out:=o },{ dW x 9 with idx:=(k.fired : Int) },true):=by
  unfold kC;rw [hF,h9];rw [if_pos (by simp)]
 rw [nZ hu (.inl hk) hd ht,hM,hE];simp only [if_true]
 have e1 : ak { ak x u { k with now:=s,out:=o } with turn:=(ak x u { k with now:=s,out:=o }).turn + 1 } u cW = iw x u:=by
  simp [ak,iw,List.set_set]
 rw [e1];unfold dW;rw [h.made]
end
theorem DO {r : Rq} (h : iC r = true) (hk : r.kind = 3) : -1 <= r.at_:=by
 unfold iC at h;rw [if_neg (by rw [hk];decide),if_neg (by rw [hk];decide),if_pos hk] at h;simp only [Bool.and_eq_true,decide_eq_true_eq] at h;exact h.2
section
variable {t : ByteArray} {ol : Ol} {x : Sv} {all : List Sd} {log : ByteArray} {u : Nat} {k : Tk}
theorem SI.sF (h : SI ol x all log) (hu : x.tasks[u]? = some k) (hk : k.kind = 3 \/ k.kind = 4) : k.drawn = false:=by
 cases q : k.drawn with
 | false=>rfl
 | true=>?_
 have:=((h.tk u k hu).dr q).1
 rcases hk with e | e <;> rw [e] at this <;> simp at this
theorem SI.GS (h : SI ol x all log) (hu : x.tasks[u]? = some k) (hk : k.kind ≠ 1) : k.fired = 0:=by
 rcases Nat.eq_zero_or_pos k.fired with e | e
 ·exact e
 exact absurd ((h.tk u k hu).wk e).1 hk
theorem SI.NX (h : SI ol x all log) {k' : Tk} (hu : x.tasks[u]? = some k) (hI : Ly ol all x.turn x.aN k') (hd : k.drawn = false) (hd' : k'.drawn = false) : SI ol { x with kept:=bh all (x.tasks.set u k'),tasks:=x.tasks.set u k' } all log:=by
 refine ⟨h.made,h.pos,rfl,h.good,h.joined,h.tail,by simpa using h.len,?_,?_,?_,h.le⟩
 ·intro i a ha
  rcases cZ ha with ⟨_,rfl⟩ | ⟨_,ha⟩
  ·exact hI
  exact h.tk i a ha
 ·intro i j ti tj hi hj di dj e
  rcases cZ hi with ⟨rfl,rfl⟩ | ⟨ni,hi'⟩
  ·rw [hd'] at di;cases di
  rcases cZ hj with ⟨rfl,rfl⟩ | ⟨nj,hj'⟩
  ·rw [hd'] at dj;cases dj
  exact h.uniq _ _ _ _ hi' hj' di dj e
 intro m h1 h2;obtain ⟨i,a,hi,di,e⟩:=h.Mi m h1 h2
 have hiu : i ≠ u:=by
  intro e2;subst e2;rw [hu] at hi;simp at hi;subst hi;rw [hd] at di;cases di
 exact ⟨i,a,by simp only;rw [List.getElem?_set_ne (fun x=>hiu x.symm)];exact hi,di,e⟩
theorem SI.JU (h : SI ol x all log) (hu : x.tasks[u]? = some k) (hk : k.kind = 3) (hs : k.steps = 0) :
 ((all.length : Int) - 1 < k.at_ /\ bG ol x (u : Int) = (ak x u cW,{ b8 with err:=14,dT:=(all.length : Int) - 1 },true,0) /\ SI ol (ak x u cW) all log) \/
 (0 <= k.at_ /\ k.at_ <= (all.length : Int) - 5 /\ bG ol x (u : Int) = (ak x u cW,{ b8 with err:=15,dT:=(all.length : Int) - 1 },true,0) /\ SI ol (ak x u cW) all log) \/
 (∃ n : Nat,n < all.length /\ (0 <= k.at_ -> (n : Int) = k.at_) /\ (k.at_ < 0 -> (n : Int) = (all.length : Int) - 1) /\
  bG ol x (u : Int) = ({ x with kept:=bh all (x.tasks.set u { k with steps:=1,pinned:=(n : Int) }),tasks:=x.tasks.set u { k with steps:=1,pinned:=(n : Int) } },b8,false,0) /\
  SI ol { x with kept:=bh all (x.tasks.set u { k with steps:=1,pinned:=(n : Int) }),tasks:=x.tasks.set u { k with steps:=1,pinned:=(n : Int) } } all log):=by
 have hI:=h.tk u k hu;have hat:=DO (hI.rq (by rw [hk];decide)) hk;have hat' : -1 <= k.at_:=hat;have hpos:=h.pos;have hnd:=h.sF hu (.inl hk);have hend:=h.end_ hu (mZ hs) hnd
 have hre : ir ol x u k = iq (ak x u (aX k)) u (aX k):=by unfold ir;rw [if_pos hs]
 have oE : iq (ak x u (aX k)) u (aX k) = if ((x.made : Int) - 1 < if k.at_ < 0 then (x.made : Int) - 1 else k.at_) then (ak x u (aX k),{ b8 with err:=14,dT:=(x.made : Int) - 1 },true)
  else if (jZ x.kept (if k.at_ < 0 then (x.made : Int) - 1 else k.at_)).2 then ({ ak x u (aX k) with kept:=(jZ x.kept (if k.at_ < 0 then (x.made : Int) - 1 else k.at_)).1,tasks:=(x.tasks.set u (aX k)).set u { aX k with pinned:=if k.at_ < 0 then (x.made : Int) - 1 else k.at_ } },b8,false)
  else (ak x u (aX k),{ b8 with err:=15,dT:=(x.made : Int) - 1 },true):=rfl
 have hst : bG ol x (u : Int) = (if (iq (ak x u (aX k)) u (aX k)).2.2 then ak (iq (ak x u (aX k)) u (aX k)).1 u cW else (iq (ak x u (aX k)) u (aX k)).1,(iq (ak x u (aX k)) u (aX k)).2.1,(iq (ak x u (aX k)) u (aX k)).2.2,0):=by
  rw [iX hu (by rw [hk];decide),sE hk,hre]
 rw [oE,h.made] at hst;have e2 : ak (ak x u (aX k)) u cW = ak x u cW:=gu x u _ _
 by_cases q1 : (all.length : Int) - 1 < if k.at_ < 0 then (all.length : Int) - 1 else k.at_
 ·left
  have q2 : (all.length : Int) - 1 < k.at_:=by split at q1 <;> omega
  refine ⟨q2,?_,hend⟩;rw [if_pos q1] at hst;simp only [if_true,e2] at hst;exact hst
 right
 rw [if_neg q1] at hst
 obtain ⟨n,hn⟩ : ∃ n : Nat,(if k.at_ < 0 then (all.length : Int) - 1 else k.at_) = (n : Int):=⟨(if k.at_ < 0 then (all.length : Int) - 1 else k.at_).toNat,by split <;> omega⟩
 rw [hn] at hst q1
 have hnl : n < all.length:=by omega
 cases hkp : bS all.length x.tasks n with
 | true =>
   right
   have Jb:=AF (t':={ k with steps:=1,pinned:=(n : Int) }) hu hnl hkp (mZ hs) (fun m=>by
    unfold f_;simp only [hk,decide_true,Bool.true_and,Nat.le_refl];rw [decide_eq_decide]
    constructor <;> intro e <;> omega)
   rw [h.kept,Jb] at hst;refine ⟨n,hnl,fun e=>by rw [if_neg (by omega)] at hn;exact hn.symm,fun e=>by rw [if_pos e] at hn;exact hn.symm,?_,h.NX hu ?_ hnd hnd⟩
   ·rw [hst]
    simp only [if_true,Bool.false_eq_true,if_false]
    have e3 : (x.tasks.set u (aX k)).set u { aX k with pinned:=(n : Int) } = x.tasks.set u { k with steps:=1,pinned:=(n : Int) }:=by
     rw [List.set_set];unfold aX;rw [hs]
    rw [e3];rfl
   refine ⟨fun e=>absurd (show k.kind = 0 from e) (by rw [hk];decide),hI.rq,fun d=>absurd (show k.drawn = true from d) (by rw [hnd];decide),by show 1 <= 2;omega,fun e=>absurd (show k.kind = 3 from hk) e,fun _ _=>⟨by show 0 <= (n : Int);omega,by show (n : Int) < _;omega,fun e=>?_⟩,hI.yH,fun e=>absurd (show 0 < k.fired from e) (by rw [h.GS hu (by rw [hk];decide)];decide)⟩;show (n : Int) = k.at_;rw [if_neg (by have : 0 <= k.at_:=e;omega)] at hn;exact hn.symm
 | false=>?_
 left
 have hno : ¬ all.length <= n + 4:=by
  intro e;unfold bS at hkp;rw [decide_eq_true e,Bool.or_true] at hkp
  cases hkp
 have hk0 : 0 <= k.at_:=by
  rcases Int.lt_or_le k.at_ 0 with e | e
  ·rw [if_pos e] at hn;omega
  exact e
 rw [if_neg (by omega)] at hn
 have hmiss : jZ x.kept (n : Int) = (x.kept,false):=uX (fun v hv e=>by
  rw [h.kept] at hv;obtain ⟨m,_,h2,rfl⟩:=mX.1 hv
  have : m = n:=by have e' : ((m : Nat) : Int) = (n : Int):=e;omega
  subst this
  rw [h2] at hkp;cases hkp)
 rw [hmiss] at hst;refine ⟨hk0,by omega,?_,hend⟩;simp only [Bool.false_eq_true,if_false,if_true,e2] at hst;exact hst
theorem SI.JV (h : SI ol x all log) (hu : x.tasks[u]? = some k) (hk : k.kind = 3) (hs : k.steps = 1) : bG ol x (u : Int) = (ak x u { k with steps:=2 },b8,false,0) /\ SI ol (ak x u { k with steps:=2 }) all log:=by
 have hI:=h.tk u k hu;have hnd:=h.sF hu (.inl hk)
 have he : aX k = { k with steps:=2 }:=by unfold aX;rw [hs]
 refine ⟨?_,h.set hu (fun m=>by unfold f_;simp only [hs];rfl) ?_ rfl (fun _=>rfl)⟩
 ·have hre : ir ol x u k = (ak x u { k with steps:=2 },b8,false):=by
   unfold ir;rw [if_neg (by omega),if_pos hs,he]
  rw [iX hu (by rw [hk];decide),sE hk,hre];rfl
 exact ⟨fun e=>absurd (show k.kind = 0 from e) (by rw [hk];decide),hI.rq,hI.dr,by show 2 <= 2;omega,fun e=>absurd (show k.kind = 3 from hk) e,fun _ _=>hI.pin hk (by omega),hI.yH,fun e=>absurd (show 0 < k.fired from e) (by rw [h.GS hu (by rw [hk];decide)];decide)⟩
theorem SI.JW (h : SI ol x all log) (hu : x.tasks[u]? = some k) (hk : k.kind = 3) (hs : k.steps = 2) :
 ∃ n : Nat,k.pinned = (n : Int) /\ n < all.length /\ bG ol x (u : Int) = ({ x with kept:=bh all (x.tasks.set u cW),tasks:=x.tasks.set u cW },{ b8 with dT:=(n : Int),st:=bC ol.ag (all.getD n mT) },true,0) /\
  SI ol { x with kept:=bh all (x.tasks.set u cW),tasks:=x.tasks.set u cW } all log:=by
 have hI:=h.tk u k hu;have hnd:=h.sF hu (.inl hk);obtain ⟨p1,p2,_⟩:=hI.pin hk (by omega)
 obtain ⟨n,hn⟩ : ∃ n : Nat,k.pinned = (n : Int):=⟨k.pinned.toNat,by omega⟩
 have hnl : n < all.length:=by omega
 obtain ⟨r1,r2⟩:=AG (t':=cW) hu hnl (fun m=>by
  unfold f_;simp only [hk,hs,hn,decide_true,Bool.true_and,show (1 : Nat) <= 2 from by omega];rw [decide_eq_decide]
  constructor <;> intro e <;> omega) lO
 refine ⟨n,hn,hnl,?_,h.NX hu (BX _ _ _ _) hnd rfl⟩
 have hre : ir ol x u k = ({ ak x u (aX k) with kept:=bh all (x.tasks.set u cW) },{ b8 with dT:=(n : Int),st:=bC ol.ag (all.getD n mT) },true):=by
  unfold ir;rw [if_neg (by omega),if_neg (by omega),hn,h.made,h.kept,r1,r2]
 rw [iX hu (by rw [hk];decide),sE hk,hre];simp only [if_true];simp [ak,List.set_set]
end
end Ch
end Go.Proofs.YtnlbchmfcebeeaaGreat
