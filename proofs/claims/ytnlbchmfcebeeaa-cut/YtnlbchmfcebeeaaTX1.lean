import Derived.Test.YtnlbchmfcebeeaaTA7
set_option maxHeartbeats 12800000
set_option maxRecDepth 100000
namespace Go.Proofs.Ytnlbchmfcebeeaa
namespace Ch
structure Wk where
 mode : Int
 open_ : List Int
 close : Int
def inR (b lo hi : Int) : Bool:=decide (lo ≤ b) && decide (b ≤ hi)
def whenI (ok : Bool) (next : Int) : Int:=if ok then next else -1
def wItem (w : Wk) (b : Int) : Int × Wk :=
 if b == 40 then (1,{ w with open_:=w.open_ ++ [41] })
 else if b == 91 then (1,{ w with open_:=w.open_ ++ [93] })
 else if b == 60 then (2,w)
 else if b == 42 then (4,w)
 else if b == 58 then (6,w)
 else if b == 94 || b == 36 then (11,{ w with close:=59 })
 else match w.open_.getLast? with
  | none=>(-1,w)
  | some c=>if b != c then (-1,w) else (if w.open_.length == 1 then 18 else 5,{ w with open_:=w.open_.dropLast })
def wAct (w : Wk) (b : Int) : Int :=
 if b == 33 || b == 126 || b == 35 then 12
 else if b == 64 then 13
 else if b == 43 || b == 45 || b == 61 then 15
 else if b != w.close then -1
 else if b == 62 then 17
 else 5
def wNext (w : Wk) (b : Int) : Int × Wk :=
 if w.mode == 0 then (if b != 40 && b != 91 then (-1,w) else wItem w b)
 else if w.mode == 1 || w.mode == 4 then (whenI (inR b 65 90) 5,w)
 else if w.mode == 2 then (whenI (inR b 65 90) 3,w)
 else if w.mode == 3 then (whenI (b == 62) 5,w)
 else if w.mode == 5 then wItem w b
 else if w.mode == 6 then (whenI (inR b 97 122 || inR b 65 90 || b == 46) 7,{ w with close:=62 })
 else if w.mode == 7 then (if b == 63 then 8 else wAct w b,w)
 else if w.mode == 8 then (whenI (inR b 120 122) 9,w)
 else if w.mode == 9 then (whenI (b == 60 || b == 61 || b == 62) 10,w)
 else if w.mode == 10 || w.mode == 16 then (whenI (inR b 48 57) 11,w)
 else if w.mode == 11 then (wAct w b,w)
 else if w.mode == 12 then (whenI (inR b 97 122) 11,w)
 else if w.mode == 13 then (whenI (inR b 97 122) 14,w)
 else if w.mode == 14 then (whenI (inR b 48 57 && b != 48) 11,w)
 else if w.mode == 15 then (whenI (inR b 120 122) 16,w)
 else if w.mode == 17 then (whenI (inR b 65 90 || b == 45) 5,w)
 else (-1,w)
def placeRF (t : ByteArray) : Nat → Nat → Wk → Int
 | 0,_,w=>if w.mode != 18 then t.size else -1
 | f + 1,i,w=>if (wNext w (peek t i)).1 == -1 then i else placeRF t f (i + 1) { (wNext w (peek t i)).2 with mode:=(wNext w (peek t i)).1 }
def placeR (t : ByteArray) : Int:=placeRF t t.size 0 ⟨0,[],0⟩
def mrun (t : ByteArray) (i : Nat) (w : Wk) : Int:=placeRF t (t.size - i) i w
theorem mrun_end {t : ByteArray} {i : Nat} {w : Wk} (h : t.size ≤ i) : mrun t i w = if w.mode != 18 then (t.size : Int) else -1:=by
 unfold mrun;rw [show t.size - i = 0 by omega];rfl
theorem mrun_step {t : ByteArray} {i : Nat} {w : Wk} (h : i < t.size) :
 mrun t i w = if (wNext w (peek t i)).1 == -1 then (i : Int) else mrun t (i + 1) { (wNext w (peek t i)).2 with mode:=(wNext w (peek t i)).1 }:=by
 unfold mrun;rw [show t.size - i = (t.size - (i + 1)) + 1 by omega];rfl
theorem mrun_bad {t : ByteArray} {i : Nat} {w : Wk} (h : i ≤ t.size) (hm : w.mode ≠ 18) (hn : (wNext w (peek t i)).1 = -1) : mrun t i w = i:=by
 rcases Nat.lt_or_ge i t.size with q | q
 ·rw [mrun_step q,hn];rfl
 rw [mrun_end q,show i = t.size by omega];simp [hm]
theorem mrun_go {t : ByteArray} {i : Nat} {w w' : Wk} {m : Int} (h : i < t.size) (hn : wNext w (peek t i) = (m,w')) (hm : m ≠ -1) : mrun t i w = mrun t (i + 1) { w' with mode:=m }:=by
 rw [mrun_step h,hn];simp [hm]
theorem isVr_inR (c : Int) : inR c 120 122 = isVr c:=by
 unfold isVr inR
 by_cases h1 : c = 120
 ·simp [h1]
 by_cases h2 : c = 121
 ·simp [h2]
 by_cases h3 : c = 122
 ·simp [h3]
 rw [show (c == 120) = false by simpa using h1,show (c == 121) = false by simpa using h2,show (c == 122) = false by simpa using h3]
 cases q : decide (120 ≤ c) <;> cases q2 : decide (c ≤ 122) <;> simp at q q2 <;> first | rfl | omega
theorem isDg49_inR (c : Int) : (inR c 48 57 && c != 48) = isDg 49 c:=by
 unfold isDg inR
 by_cases h1 : c = 48
 ·simp [h1]
 by_cases h2 : 48 ≤ c
 ·have : 49 ≤ c:=by omega
  simp [h1,h2,this]
 have : ¬ 49 ≤ c:=by omega
 simp [h2,this]
section
variable {t : ByteArray} {p : Nat} {o : List Int} {c : Int}
theorem mrun_when {m n : Int} {ok : Bool} (hm : m ≠ 18) (hn : n ≠ -1) (hp : p ≤ t.size) (hok : ok = true → p < t.size) (h : wNext ⟨m,o,c⟩ (peek t p) = (whenI ok n,⟨m,o,c⟩)) :
 mrun t p ⟨m,o,c⟩ = if ok then mrun t (p + 1) ⟨n,o,c⟩ else p:=by
 cases q : ok with
 | true=>rw [mrun_go (hok q) h (by simp [q,whenI,hn])];simp [q,whenI]
 | false=>rw [mrun_bad hp hm (by rw [h];simp [q,whenI])];simp
theorem mrun_ev {m n : Int} (hn : n ≠ -1) (hm : m = 12 ∧ n = 11 ∨ m = 13 ∧ n = 14) (hp : p ≤ t.size) :
 mrun t p ⟨m,o,c⟩ = if isEv (peek t p) then mrun t (p + 1) ⟨n,o,c⟩ else p:=by
 rcases hm with ⟨rfl,rfl⟩ | ⟨rfl,rfl⟩
 ·exact mrun_when (ok:=isEv (peek t p)) (by decide) hn hp lt_of_isEv (by simp [wNext,isEv,inR])
 exact mrun_when (ok:=isEv (peek t p)) (by decide) hn hp lt_of_isEv (by simp [wNext,isEv,inR])
theorem mrun_vr {m n : Int} (hn : n ≠ -1) (hm : m = 8 ∧ n = 9 ∨ m = 15 ∧ n = 16) (hp : p ≤ t.size) :
 mrun t p ⟨m,o,c⟩ = if isVr (peek t p) then mrun t (p + 1) ⟨n,o,c⟩ else p:=by
 rcases hm with ⟨rfl,rfl⟩ | ⟨rfl,rfl⟩
 ·exact mrun_when (ok:=isVr (peek t p)) (by decide) hn hp lt_of_isVr (by simp [wNext,isVr_inR])
 exact mrun_when (ok:=isVr (peek t p)) (by decide) hn hp lt_of_isVr (by simp [wNext,isVr_inR])
theorem mrun_dg {m : Int} (hm : m = 10 ∨ m = 16) (hp : p ≤ t.size) :
 mrun t p ⟨m,o,c⟩ = if isDg 48 (peek t p) then mrun t (p + 1) ⟨11,o,c⟩ else p:=by
 rcases hm with rfl | rfl
 ·exact mrun_when (ok:=isDg 48 (peek t p)) (by decide) (by decide) hp (lt_of_isDg (by omega)) (by simp [wNext,isDg,inR])
 exact mrun_when (ok:=isDg 48 (peek t p)) (by decide) (by decide) hp (lt_of_isDg (by omega)) (by simp [wNext,isDg,inR])
theorem mrun_dl (hp : p ≤ t.size) :
 mrun t p ⟨14,o,c⟩ = if isDg 49 (peek t p) then mrun t (p + 1) ⟨11,o,c⟩ else p :=
 mrun_when (ok:=isDg 49 (peek t p)) (by decide) (by decide) hp (lt_of_isDg (by omega)) (by simp [wNext,← isDg49_inR])
theorem mrun_nm {m n : Int} (hn : n ≠ -1) (hm : m = 1 ∧ n = 5 ∨ m = 4 ∧ n = 5 ∨ m = 2 ∧ n = 3) (hp : p ≤ t.size) :
 mrun t p ⟨m,o,c⟩ = if isNm (peek t p) then mrun t (p + 1) ⟨n,o,c⟩ else p:=by
 rcases hm with ⟨rfl,rfl⟩ | ⟨rfl,rfl⟩ | ⟨rfl,rfl⟩
 ·exact mrun_when (ok:=isNm (peek t p)) (by decide) hn hp lt_of_isNm (by simp [wNext,isNm,inR])
 ·exact mrun_when (ok:=isNm (peek t p)) (by decide) hn hp lt_of_isNm (by simp [wNext,isNm,inR])
 exact mrun_when (ok:=isNm (peek t p)) (by decide) hn hp lt_of_isNm (by simp [wNext,isNm,inR])
theorem mrun_ang (hp : p ≤ t.size) : mrun t p ⟨3,o,c⟩ = if peek t p == 62 then mrun t (p + 1) ⟨5,o,c⟩ else p :=
 mrun_when (ok:=peek t p == 62) (by decide) (by decide) hp (lt_of_eq (by decide)) (by simp [wNext])
theorem lt_of_isSg (h : isSg (peek t p) = true) : p < t.size:=by
 rcases Nat.lt_or_ge p t.size with h' | h'
 ·exact h'
 rw [peek_zero h'] at h;simp [isSg] at h
theorem lt_of_isTa (h : isTa (peek t p) = true) : p < t.size:=by
 rcases Nat.lt_or_ge p t.size with h' | h'
 ·exact h'
 rw [peek_zero h'] at h;simp [isTa,isNm] at h
theorem lt_of_isTg (h : isTg (peek t p) = true) : p < t.size:=by
 rcases Nat.lt_or_ge p t.size with h' | h'
 ·exact h'
 rw [peek_zero h'] at h;simp [isTg,isNm,isEv] at h
theorem mrun_sg (hp : p ≤ t.size) : mrun t p ⟨9,o,c⟩ = if isSg (peek t p) then mrun t (p + 1) ⟨10,o,c⟩ else p :=
 mrun_when (ok:=isSg (peek t p)) (by decide) (by decide) hp lt_of_isSg (by simp [wNext,isSg])
theorem mrun_ta (hp : p ≤ t.size) : mrun t p ⟨17,o,c⟩ = if isTa (peek t p) then mrun t (p + 1) ⟨5,o,c⟩ else p :=
 mrun_when (ok:=isTa (peek t p)) (by decide) (by decide) hp lt_of_isTa (by simp [wNext,isTa,isNm,inR,Bool.or_comm])
theorem mrun_tg (hp : p ≤ t.size) : mrun t p ⟨6,o,c⟩ = if isTg (peek t p) then mrun t (p + 1) ⟨7,o,62⟩ else p:=by
 have h : wNext ⟨6,o,c⟩ (peek t p) = (whenI (isTg (peek t p)) 7,⟨6,o,62⟩):=by
  have : (inR (peek t p) 97 122 || inR (peek t p) 65 90 || peek t p == 46) = isTg (peek t p):=by
   unfold isTg isEv isNm inR
   cases decide (97 ≤ peek t p) && decide (peek t p ≤ 122) <;> cases decide (65 ≤ peek t p) && decide (peek t p ≤ 90) <;> cases peek t p == 46 <;> rfl
  simp [wNext,← this]
 cases q : isTg (peek t p) with
 | true=>rw [mrun_go (lt_of_isTg q) h (by simp [q,whenI])];simp [q,whenI]
 | false=>rw [mrun_bad hp (by simp) (by rw [h];simp [q,whenI])];simp
theorem mrun_act (hp : p ≤ t.size) (hc : (peek t p == c) = false) :
 mrun t p ⟨11,o,c⟩ = if (act t p ⟨peek t p,0,0⟩).1 then mrun t (act t p ⟨peek t p,0,0⟩).2.2 ⟨11,o,c⟩ else ((act t p ⟨peek t p,0,0⟩).2.2 : Int):=by
 unfold act;simp only
 split
 ·rename_i q
  have hlt : p < t.size:=by
   rcases Nat.lt_or_ge p t.size with h' | h'
   ·exact h'
   rw [peek_zero h'] at q;simp at q
  rw [mrun_go (m:=12) (w':=⟨11,o,c⟩) hlt (by simp only [wNext,wAct];simp [q]) (by decide)];simp only;rw [mrun_ev (p:=p + 1) (by decide) (Or.inl ⟨rfl,rfl⟩) hlt];simp only [evAct,stepIf]
  by_cases q3 : isEv (peek t (p + 1)) = true <;> simp [q3]
 rename_i q
 split
 ·rename_i q2
  have hlt:=lt_of_eq (by decide) q2;rw [mrun_go (m:=13) (w':=⟨11,o,c⟩) hlt (by simp only [wNext,wAct];simp [q,q2]) (by decide)];simp only;rw [mrun_ev (p:=p + 1) (by decide) (Or.inr ⟨rfl,rfl⟩) hlt];simp only [tmAct,dgAct,evAct,stepIf]
  by_cases q3 : isEv (peek t (p + 1)) = true
  ·have:=lt_of_isEv q3
   simp only [q3,if_true];rw [mrun_dl (by omega)]
   by_cases q4 : isDg 49 (peek t (p + 1 + 1)) = true <;> simp [q4]
  simp [q3]
 rename_i q2
 split
 ·rename_i q3
  have hlt : p < t.size:=by
   rcases Nat.lt_or_ge p t.size with h' | h'
   ·exact h'
   rw [peek_zero h'] at q3;simp at q3
  rw [mrun_go (m:=15) (w':=⟨11,o,c⟩) hlt (by simp only [wNext,wAct];simp [q,q2,q3]) (by decide)];simp only;rw [mrun_vr (p:=p + 1) (by decide) (Or.inr ⟨rfl,rfl⟩) hlt];simp only [vrAct,dgAct,vrAct1,stepIf]
  by_cases q3 : isVr (peek t (p + 1)) = true
  ·have:=lt_of_isVr q3
   simp only [q3,if_true];rw [mrun_dg (Or.inr rfl) (by omega)]
   by_cases q4 : isDg 48 (peek t (p + 1 + 1)) = true <;> simp [q4]
  simp [q3]
 rename_i q3;rw [mrun_bad hp (by simp) (by simp only [wNext,wAct];simp [q,q2,q3];intro h;simp [h] at hc)];simp
def afterActs (c : Int) : Int:=if c == 62 then 17 else 5
theorem mrun_actsF (hcl : c = 59 ∨ c = 62) : ∀ (n p : Nat) (l : List Ac),p ≤ t.size → t.size + 1 ≤ n + p →
 mrun t p ⟨11,o,c⟩ = if (actsF t c n p l).1 then mrun t (actsF t c n p l).2.2 ⟨afterActs c,o,c⟩ else ((actsF t c n p l).2.2 : Int):=by
 intro n
 induction n with
 | zero=>intro p l h1 h2;omega
 | succ n ih=>?_
 intro p l h1 h2
 cases q : peek t p == c with
 | true =>
   rw [actsF_close q];have hlt : p < t.size:=lt_of_eq (c:=c) (by rcases hcl with rfl | rfl <;> decide) q
   have q' : peek t p = c:=by simpa using q
   have : wNext ⟨11,o,c⟩ (peek t p) = (afterActs c,⟨11,o,c⟩):=by
    rw [q'];rcases hcl with rfl | rfl <;> simp [wNext,wAct,afterActs]
   rw [mrun_go hlt this (by rcases hcl with rfl | rfl <;> decide)];simp
 | false=>?_
 rw [mrun_act h1 q]
 cases q2 : (act t p ⟨peek t p,0,0⟩).1 with
 | false=>rw [actsF_bad q q2];simp
 | true=>?_
 rw [actsF_more q q2];have:=act_adv q2;have:=act_size h1 0 0;simp only [if_true];exact ih _ _ this (by omega)
theorem mrun_acts (hcl : c = 59 ∨ c = 62) (hp : p ≤ t.size) :
 mrun t p ⟨11,o,c⟩ = if (acts t c p).1 then mrun t (acts t c p).2.2 ⟨afterActs c,o,c⟩ else ((acts t c p).2.2 : Int) :=
 mrun_actsF hcl _ _ _ hp (by omega)
theorem mrun_7 (h : (peek t p == 63) = false) : mrun t p ⟨7,o,62⟩ = mrun t p ⟨11,o,62⟩:=by
 rcases Nat.lt_or_ge p t.size with q | q
 ·rw [mrun_step q,mrun_step q]
  have : wNext ⟨7,o,62⟩ (peek t p) = ((wNext ⟨11,o,62⟩ (peek t p)).1,⟨7,o,62⟩):=by simp [wNext,wAct,h]
  rw [this]
  have : (wNext ⟨11,o,62⟩ (peek t p)).2 = ⟨11,o,62⟩:=by simp [wNext]
  rw [this]
 rw [mrun_end q,mrun_end q];rfl
theorem mrun_guard (g : Gd) :
 mrun t p ⟨7,o,62⟩ = if (guard t p g).1 then mrun t (guard t p g).2.2 ⟨11,o,62⟩ else ((guard t p g).2.2 : Int):=by
 unfold guard
 split
 ·rename_i q
  have hlt:=lt_of_eq (by decide) q;rw [mrun_go (m:=8) (w':=⟨7,o,62⟩) hlt (by simp only [wNext];simp [q]) (by decide)];simp only;rw [mrun_vr (p:=p + 1) (by decide) (Or.inl ⟨rfl,rfl⟩) hlt]
  cases q2 : isVr (peek t (p + 1)) with
  | false=>simp
  | true=>?_
  have hlt2:=lt_of_isVr q2;simp only [if_true];rw [mrun_sg (by omega)];rw [show p + 1 + 1 = p + 2 by rfl]
  cases q3 : isSg (peek t (p + 2)) with
  | false=>simp
  | true=>?_
  have hlt3:=lt_of_isSg q3;simp only [if_true];rw [mrun_dg (Or.inl rfl) (by omega)];rw [show p + 2 + 1 = p + 3 by rfl]
  cases isDg 48 (peek t (p + 3)) <;> simp [stepIf]
 rename_i q;simp only [if_true];exact mrun_7 (by simpa using q)
theorem mrun_transition {r : Rs} (self : Int) (hp : r.pos < t.size) (hq : (peek t r.pos == 58) = true) :
 mrun t r.pos ⟨5,o,c⟩ = if (transition t self r).1 then mrun t (transition t self r).2.pos ⟨5,o,62⟩ else ((transition t self r).2.pos : Int):=by
 have q' : peek t r.pos = 58:=by simpa using hq
 rw [mrun_go (m:=6) (w':=⟨5,o,c⟩) hp (by rw [q'];simp [wNext,wItem]) (by decide)];simp only;rw [mrun_tg (p:=r.pos + 1) hp];unfold transition
 cases q1 : isTg (peek t (r.pos + 1)) with
 | false=>simp
 | true=>?_
 have l1:=lt_of_isTg q1;simp only [if_true];rw [mrun_guard (p:=r.pos + 1 + 1) ⟨0,0,0⟩];have hg:=guard_le (t:=t) (p:=r.pos + 1 + 1) ⟨0,0,0⟩ (by omega);generalize guard t (r.pos + 1 + 1) ⟨0,0,0⟩ = gg at *
 cases q2 : gg.1 with
 | false=>simp
 | true=>?_
 simp only [if_true];rw [mrun_acts (Or.inr rfl) hg.2];have ha:=acts_le (t:=t) (cl:=62) (p:=gg.2.2) hg.2;generalize acts t 62 gg.2.2 = aa at *
 cases q3 : aa.1 with
 | false=>simp
 | true=>?_
 simp only [if_true];rw [show afterActs 62 = 17 by rfl,mrun_ta ha.2]
 cases isTa (peek t aa.2.2) <;> simp [stepIf]
theorem mrun_block {r : Rs} (self : Int) (hp : r.pos < t.size) (hq : (peek t r.pos == 94 || peek t r.pos == 36) = true) :
 mrun t r.pos ⟨5,o,c⟩ = if (block t self r).1 then mrun t (block t self r).2.pos ⟨5,o,59⟩ else ((block t self r).2.pos : Int):=by
 have : wNext ⟨5,o,c⟩ (peek t r.pos) = (11,⟨5,o,59⟩):=by
  rcases (by simpa using hq : peek t r.pos = 94 ∨ peek t r.pos = 36) with q | q <;> rw [q] <;> simp [wNext,wItem]
 rw [mrun_go hp this (by decide)];simp only;rw [mrun_acts (p:=r.pos + 1) (Or.inl rfl) hp];unfold block
 cases (acts t 59 (r.pos + 1)).1 <;> simp [afterActs]
end
theorem isOpen_cases (x : Int) (h : isOpen x = true) : x = 40 ∨ x = 91 ∨ x = 60 ∨ x = 42:=by
 simp [isOpen] at h;omega
theorem mrun_stateW {t : ByteArray} {r : Rs} {it : Int → Int → Rs → Bool × Rs} {o : List Int} {c m : Int} (parent : Int)
 (hit : ∀ a k s c',(k = 41 ∨ k = 93) → Ok t s → r.pos < s.pos → ∃ c'',mrun t s.pos ⟨5,o ++ [k],c'⟩ = if (it a k s).1 then mrun t (it a k s).2.pos ⟨if o.length == 0 then 18 else 5,o,c''⟩ else ((it a k s).2.pos : Int))
 (ho : Ok t r) (hq : isOpen (peek t r.pos) = true) (hm : (m = 5 ∧ o ≠ []) ∨ (m = 0 ∧ o = [] ∧ (peek t r.pos = 40 ∨ peek t r.pos = 91))) :
 ∃ c'',mrun t r.pos ⟨m,o,c⟩ = if (stateW t it parent r).1 then mrun t (stateW t it parent r).2.pos ⟨if o.length == 0 then 18 else 5,o,c''⟩ else ((stateW t it parent r).2.pos : Int):=by
 have hp:=lt_of_open hq;obtain ⟨⟨d1,d2,d3,d4⟩,h5⟩:=ho;have hn:=stateName_ok (t:=t) (r:={ r with pos:=r.pos + 1 }) (peek t r.pos) parent ⟨⟨by simp only;omega,by simp only;omega,by simp only;omega,by simp only;omega⟩,by simp only;omega⟩
 have hb : ∀ x,peek t r.pos = x → (x = 40 ∨ x = 91) → wNext ⟨m,o,c⟩ (peek t r.pos) = (1,⟨m,o ++ [if x == 40 then 41 else 93],c⟩):=by
  intro x hx h;rw [hx]
  rcases hm with ⟨rfl,_⟩ | ⟨rfl,_⟩ <;> rcases h with rfl | rfl <;> simp [wNext,wItem]
 have hs1 : (stateName t (peek t r.pos) parent { r with pos:=r.pos + 1 }).1 = isNm (peek t (r.pos + 1)):=by
  unfold stateName;simp only;cases isNm (peek t (r.pos + 1)) <;> rfl
 have hs2 : isNm (peek t (r.pos + 1)) = true → (stateName t (peek t r.pos) parent { r with pos:=r.pos + 1 }).2.pos = r.pos + 1 + 1:=by
  intro h;unfold stateName;simp [h]
 have hs3 : isNm (peek t (r.pos + 1)) = false → (stateName t (peek t r.pos) parent { r with pos:=r.pos + 1 }).2.pos = r.pos + 1:=by
  intro h;unfold stateName;simp [h]
 unfold stateW;generalize stateName t (peek t r.pos) parent { r with pos:=r.pos + 1 } = s at *;rw [hs1]
 rcases isOpen_cases _ hq with q | q | q | q
 ·rw [mrun_go hp (hb _ q (Or.inl rfl)) (by decide)]
  simp only;rw [mrun_nm (p:=r.pos + 1) (by decide) (Or.inl ⟨rfl,rfl⟩) hp,q]
  cases q2 : isNm (peek t (r.pos + 1)) with
  | false=>exact ⟨0,by simp [hs3 q2]⟩
  | true=>?_
  have e:=hs2 q2;have:=hit r.sts.length 41 s.2 c (Or.inl rfl) hn.1 (by omega);rw [e] at this;simpa using this
 ·rw [mrun_go hp (hb _ q (Or.inr rfl)) (by decide)]
  simp only;rw [mrun_nm (p:=r.pos + 1) (by decide) (Or.inl ⟨rfl,rfl⟩) hp,q]
  cases q2 : isNm (peek t (r.pos + 1)) with
  | false=>exact ⟨0,by simp [hs3 q2]⟩
  | true=>?_
  have e:=hs2 q2;have:=hit r.sts.length 93 s.2 c (Or.inr rfl) hn.1 (by omega);rw [e] at this;simpa using this
 ·obtain ⟨rfl,hne⟩ : m = 5 ∧ o ≠ []:=by
   rcases hm with h | ⟨_,_,h⟩
   ·exact h
   omega
  rw [mrun_go (m:=2) (w':=⟨5,o,c⟩) hp (by rw [q];simp [wNext,wItem]) (by decide)];simp only;rw [mrun_nm (p:=r.pos + 1) (by decide) (Or.inr (Or.inr ⟨rfl,rfl⟩)) hp,q]
  cases q2 : isNm (peek t (r.pos + 1)) with
  | false=>exact ⟨0,by simp [hs3 q2]⟩
  | true=>?_
  have e:=hs2 q2;have hlt:=lt_of_isNm q2;refine ⟨c,?_⟩;simp only [if_true];rw [mrun_ang (p:=r.pos + 1 + 1) hlt,e]
  cases peek t (r.pos + 1 + 1) == 62 <;> simp [stepIf,hne]
 obtain ⟨rfl,hne⟩ : m = 5 ∧ o ≠ []:=by
  rcases hm with h | ⟨_,_,h⟩
  ·exact h
  omega
 rw [mrun_go (m:=4) (w':=⟨5,o,c⟩) hp (by rw [q];simp [wNext,wItem]) (by decide)];simp only;rw [mrun_nm (p:=r.pos + 1) (by decide) (Or.inr (Or.inl ⟨rfl,rfl⟩)) hp,q]
 cases q2 : isNm (peek t (r.pos + 1)) with
 | false=>exact ⟨0,by simp [hs3 q2]⟩
 | true=>?_
 have e:=hs2 q2;exact ⟨c,by simp [e,hne]⟩
theorem mrun_items {t : ByteArray} : ∀ (n : Nat) (self cl : Int) (r : Rs) (o : List Int) (c : Int),(cl = 41 ∨ cl = 93) → Ok t r → t.size + 1 ≤ n + r.pos →
 ∃ c',mrun t r.pos ⟨5,o ++ [cl],c⟩ = if (itemsF t n self cl r).1 then mrun t (itemsF t n self cl r).2.pos ⟨if o.length == 0 then 18 else 5,o,c'⟩ else ((itemsF t n self cl r).2.pos : Int):=by
 intro n
 induction n with
 | zero=>intro self cl r o c _ h hf;have:=h.2;omega
 | succ n ih=>?_
 intro self cl r o c hcl h hf;simp only [itemsF]
 split
 ·rename_i q
  have hs:=stateW_ok (it:=itemsF t n) (fun a c s hc hs=>itemsF_ok n a c s hc hs) self (lt_of_open q) h;obtain ⟨c1,e1⟩:=mrun_stateW (it:=itemsF t n) (o:=o ++ [cl]) (c:=c) (m:=5) self (fun a k s c' hk hs hlt=>ih a k s _ c' hk hs (by omega)) h q (Or.inl ⟨rfl,by simp⟩);rw [e1];generalize stateW t (itemsF t n) self r = s at *
  cases q1 : s.1 with
  | false=>exact ⟨0,by simp⟩
  | true=>?_
  obtain ⟨c2,e2⟩:=ih self cl s.2 o c1 hcl hs.1 (by omega);refine ⟨c2,?_⟩;simp only [if_true,List.length_append,List.length_cons,List.length_nil];rw [show (o.length + (0 + 1) == 0) = false by simp];simpa using e2
 split
 ·rename_i q
  have hlt:=lt_of_eq (by decide) q;have hs:=transition_ok self hlt h;rw [mrun_transition self hlt q];generalize transition t self r = s at *
  cases q1 : s.1 with
  | false=>exact ⟨0,by simp⟩
  | true=>?_
  obtain ⟨c2,e2⟩:=ih self cl s.2 o 62 hcl hs.1 (by omega);exact ⟨c2,by simpa using e2⟩
 split
 ·rename_i q
  have hlt : r.pos < t.size:=by
   rcases Nat.lt_or_ge r.pos t.size with x | x
   ·exact x
   rw [peek_zero x] at q;simp at q
  have hs:=block_ok self hlt h;rw [mrun_block self hlt q];generalize block t self r = s at *
  cases q1 : s.1 with
  | false=>exact ⟨0,by simp⟩
  | true=>?_
  obtain ⟨c2,e2⟩:=ih self cl s.2 o 59 hcl hs.1 (by omega);exact ⟨c2,by simpa using e2⟩
 rename_i q1 q2 q3
 have w1 : wNext ⟨5,o ++ [cl],c⟩ (peek t r.pos) = if peek t r.pos != cl then (-1,⟨5,o ++ [cl],c⟩) else (if (o ++ [cl]).length == 1 then 18 else 5,⟨5,o,c⟩):=by
  have q1' : isOpen (peek t r.pos) = false:=by simpa using q1
  simp only [isOpen,Bool.or_eq_false_iff] at q1'
  have q2' : (peek t r.pos == 58) = false:=by simpa using q2
  have q3' : (peek t r.pos == 94 || peek t r.pos == 36) = false:=by simpa using q3
  simp only [wNext,wItem,q1',q2',q3'];simp
 cases q4 : peek t r.pos == cl with
 | false =>
   rw [mrun_bad h.2 (by simp) (by rw [w1];simp at q4;simp [q4])];exact ⟨0,by simp [stepIf]⟩
 | true=>?_
 have q5 : peek t r.pos = cl:=by simpa using q4
 have hlt:=lt_of_eq (c:=cl) (by rcases hcl with rfl | rfl <;> decide) q4;refine ⟨c,?_⟩;rw [mrun_go (m:=if o.length == 0 then 18 else 5) (w':=⟨5,o,c⟩) hlt (by rw [w1];simp [q5]) (by split <;> decide)];simp [stepIf]
theorem placeR_eq (t : ByteArray) : placeR t = if (chart t).1 then -1 else ((chart t).2.pos : Int):=by
 have e0 : placeR t = mrun t 0 ⟨0,[],0⟩:=by unfold placeR mrun;rfl
 rw [e0];unfold chart
 cases q : (peek t 0 == 40 || peek t 0 == 91) with
 | false =>
   rw [mrun_bad (Nat.zero_le _) (by decide) (by
    have h : (peek t 0 != 40 && peek t 0 != 91) = true:=by
     simp at q;simp [q]
    simp only [wNext,h];rfl)]
   simp [r0]
 | true=>?_
 have hop : isOpen (peek t r0.pos) = true:=by
  show isOpen (peek t 0) = true
  simp at q;unfold isOpen;rcases q with q | q <;> rw [q] <;> decide
 have hs:=stateW_ok (it:=itemsF t (t.size + 1)) (fun a c s hc hs=>itemsF_ok (t.size + 1) a c s hc hs) (-1) (r:=r0) (lt_of_open hop) (r0_ok t)
 obtain ⟨c1,e1⟩:=mrun_stateW (r:=r0) (it:=itemsF t (t.size + 1)) (o:=[]) (c:=0) (m:=0) (-1) (fun a k s c' hk hs hlt=>mrun_items (t.size + 1) a k s [] c' hk hs (by omega)) (r0_ok t) hop
  (Or.inr ⟨rfl,rfl,by show peek t 0 = 40 ∨ peek t 0 = 91;simpa using q⟩)
 rw [show mrun t 0 ⟨0,[],0⟩ = mrun t r0.pos ⟨0,[],0⟩ from rfl,e1];generalize stateW t (itemsF t (t.size + 1)) (-1) r0 = s at *;simp only [if_true]
 cases q1 : s.1 with
 | false=>simp
 | true=>?_
 simp only [if_true];have hle:=hs.1.2
 by_cases hz : s.2.pos = t.size
 ·rw [mrun_end (by omega)];simp [hz]
 have hne : ((s.2.pos : Int) == (t.size : Int)) = false:=by simp;omega
 rw [hne];rw [mrun_step (by omega)];simp [wNext]
end Ch
end Go.Proofs.Ytnlbchmfcebeeaa
