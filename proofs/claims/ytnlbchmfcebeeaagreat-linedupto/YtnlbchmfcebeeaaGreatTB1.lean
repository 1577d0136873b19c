import Derived.Test.YtnlbchmfcebeeaaGreatTX1
set_option maxHeartbeats 12800000
set_option maxRecDepth 100000
namespace Go.Proofs.YtnlbchmfcebeeaaGreat
open Go.Proofs.Tryz Ch
open Go.RowKit
section
variable (ob oo : Nat) (w : World) (ss : List St)
theorem c8 (i : Int) (h : ib w ob oo ss) (_hl : ss.length <= 1000) :
 Calls prog 161 #[.pointer (some ⟨ob,oo,none⟩),.int .i64 i] w fun x w'=>x = .returned (.int .i64 (aq ss i)) /\ w' = w:=by
 unfold aq
 cases hs : kU ss i with
 | none =>
   obtain ⟨ao,cap,c2⟩:=h.len
   rcases oB hs with h1 | ⟨h0,h1⟩
   ·clear hs h
    go_enter func161,ntmps161
    go_wp2;go_ret;exact ⟨rfl,rfl⟩
   have hd : decide (i < 0) = false:=by simp;omega
   clear hs h
   go_enter func161,ntmps161
   go_wp2;go_ret;exact ⟨rfl,rfl⟩
 | some s=>?_
 obtain ⟨k,rfl,hk,hlt⟩:=fQ hs;obtain ⟨g,cap,c2,a0,a1,a2,a3⟩:=h.at_ hk
 have hd : decide ((k : Int) < 0) = false:=by simp
 have hlt' : (k : Int) < (ss.length : Int):=by omega
 clear hs hk h
 go_enter func161,ntmps161
 go_wp2;go_ret;exact ⟨rfl,rfl⟩
end
namespace Ch
def bit (l : List Bool) (k : Nat) : Bool:=l.getD k false
def has (l : List Bool) (i : Int) : Bool:=match i with | .ofNat k=>bit l k | .negSucc _=>false
def kZ (l : List Bool) (i : Int) (v : Bool) : List Bool:=match i with | .ofNat k=>l.set k v | .negSucc _=>l
def join (l m : List Bool) : List Bool:=(List.range 16).map fun k=>bit l k || bit m k
def meets (l m : List Bool) : Bool:=(List.range 16).any fun k=>bit l k && bit m k
theorem eK (l : List Bool) (k : Nat) : has l (k : Int) = bit l k:=rfl
theorem nw {l : List Bool} {k : Nat} (h : l.length <= k) : bit l k = false:=by simp [bit,List.getElem?_eq_none h]
theorem Bm {l : List Bool} (hl : l.length = 16) {i : Int} (h : i < 0 \/ 16 <= i) : has l i = false:=by
 cases i with
 | ofNat k=>exact nw (by simp at h;omega)
 | negSucc k=>rfl
theorem ny {l : List Bool} (hl : l.length = 16) {i : Int} (v : Bool) (h : i < 0 \/ 16 <= i) : kZ l i v = l:=by
 cases i with
 | ofNat k=>exact List.set_eq_of_length_le (by simp at h;omega)
 | negSucc k=>rfl
theorem gh (l : List Bool) (i : Int) (v : Bool) : (kZ l i v).length = l.length:=by
 cases i with
 | ofNat k=>simp [kZ]
 | negSucc k=>rfl
end Ch
def fj (w : World) (b : Nat) (pre : List Value) (l : List Bool) (post : List Value) (T : TypeId) : Prop :=
 w.heap[b]? = some (.cells (pre ++ l.map Value.bool ++ post).toArray T (0,0))
section
variable {w : World} {b : Nat} {pre : List Value} {l : List Bool} {post : List Value} {T : TypeId}
theorem fj.cell (h : fj w b pre l post T) (hl : l.length = 16) {k : Nat} (hk : k < 16) : w.cell? ⟨b,pre.length + k,none⟩ = some (.bool (Ch.bit l k)):=by
 unfold fj at h
 have e : (pre ++ l.map Value.bool ++ post)[pre.length + k]? = some (.bool (Ch.bit l k)):=by
  rw [List.append_assoc,List.getElem?_append_right (by omega),Nat.add_sub_cancel_left,List.getElem?_append_left (by simp;omega)];simp [Ch.bit,show k < l.length by omega]
 simp only [World.cell?,h];simpa using e
theorem fj.free (h : fj w b pre l post T) (i : Nat) : w.frozen? ⟨b,i,none⟩ = false:=by unfold fj at h;simp [World.frozen?,h]
theorem fj.set (h : fj w b pre l post T) (hl : l.length = 16) {k : Nat} (hk : k < 16) (v : Bool) : fj (w.setCell ⟨b,pre.length + k,none⟩ (.bool v)) b pre (l.set k v) post T:=by
 unfold fj at *;rw [ah _ h]
 congr 2
 simp only [List.setIfInBounds_toArray];rw [List.append_assoc,List.set_append_right _ _ (by omega),Nat.add_sub_cancel_left,List.set_append_left _ _ (by simp;omega),List.map_set,List.append_assoc]
theorem fj.keep {S : Nat -> Prop} {w' : World} (h : fj w b pre l post T) (k : Kp S w w') (hs : ¬ S b) : fj w' b pre l post T:=Kp.at_ k h hs
theorem fj.lt (h : fj w b pre l post T) : b < w.heap.size:=lt_of_block h
end
section
variable (w : World) (b o : Nat) (pre : List Value) (l : List Bool) (post : List Value) (T : TypeId)
theorem fk (i : Int) (h : fj w b pre l post T) (hl : l.length = 16) (ho : pre.length = o) :
 Calls prog 73 #[.pointer (some ⟨b,o,none⟩),.int .i64 i] w fun x w'=>x = .returned (.bool (Ch.has l i)) /\ w' = w:=by
 subst ho
 by_cases h0 : 0 <= i
 ·obtain ⟨k,rfl⟩ : ∃ k : Nat,i = (k : Int):=⟨i.toNat,by omega⟩
  by_cases h1 : k < 16
  ·have c:=h.cell hl h1
   have h1' : (k : Int) < 16:=by omega
   rw [eK];clear h
   go_enter func73,ntmps73
   go_wp2;go_ret;exact ⟨rfl,rfl⟩
  have h1' : decide ((k : Int) < 16) = false:=by simp;omega
  rw [Bm hl (Or.inr (by omega))];clear h
  go_enter func73,ntmps73
  go_wp2;go_ret;exact ⟨rfl,rfl⟩
 have hd : decide (0 <= i) = false:=by simp;omega
 rw [Bm hl (Or.inl (by omega))];clear h
 go_enter func73,ntmps73
 go_wp2;go_ret;exact ⟨rfl,rfl⟩
theorem vw (i : Int) (h : fj w b pre l post T) (hl : l.length = 16) (ho : pre.length = o) :
 Calls prog 166 #[.pointer (some ⟨b,o,none⟩),.int .i64 i] w fun x w'=>x = .returned (.tuple #[]) /\ fj w' b pre (kZ l i true) post T /\ Kp (fun k=>k = b) w w':=by
 subst ho
 by_cases h0 : 0 <= i
 ·obtain ⟨k,rfl⟩ : ∃ k : Nat,i = (k : Int):=⟨i.toNat,by omega⟩
  by_cases h1 : k < 16
  ·have c:=h.cell hl h1
   have f:=h.free (pre.length + k)
   have h1' : (k : Int) < 16:=by omega
   have H:=hid h;clear h
   go_enter func166,ntmps166
   go_wp2
   go_end0
   exact ⟨rfl,H.out.set hl h1 true,(Kp.refl _ _).setCell (by intro _;rfl) _⟩
  have h1' : decide ((k : Int) < 16) = false:=by simp;omega
  rw [ny hl _ (Or.inr (by omega))];have H:=hid h;clear h
  go_enter func166,ntmps166
  go_wp2
  go_end0
  exact ⟨rfl,H.out,Kp.refl _ _⟩
 have hd : decide (0 <= i) = false:=by simp;omega
 rw [ny hl _ (Or.inl (by omega))];have H:=hid h;clear h
 go_enter func166,ntmps166
 go_wp2
 go_end0
 exact ⟨rfl,H.out,Kp.refl _ _⟩
theorem Ek (i : Int) (h : fj w b pre l post T) (hl : l.length = 16) (ho : pre.length = o) :
 Calls prog 181 #[.pointer (some ⟨b,o,none⟩),.int .i64 i] w fun x w'=>x = .returned (.tuple #[]) /\ fj w' b pre (kZ l i false) post T /\ Kp (fun k=>k = b) w w':=by
 subst ho
 by_cases h0 : 0 <= i
 ·obtain ⟨k,rfl⟩ : ∃ k : Nat,i = (k : Int):=⟨i.toNat,by omega⟩
  by_cases h1 : k < 16
  ·have c:=h.cell hl h1
   have f:=h.free (pre.length + k)
   have h1' : (k : Int) < 16:=by omega
   have H:=hid h;clear h
   go_enter func181,ntmps181
   go_wp2
   go_end0
   exact ⟨rfl,H.out.set hl h1 false,(Kp.refl _ _).setCell (by intro _;rfl) _⟩
  have h1' : decide ((k : Int) < 16) = false:=by simp;omega
  rw [ny hl _ (Or.inr (by omega))];have H:=hid h;clear h
  go_enter func181,ntmps181
  go_wp2
  go_end0
  exact ⟨rfl,H.out,Kp.refl _ _⟩
 have hd : decide (0 <= i) = false:=by simp;omega
 rw [ny hl _ (Or.inl (by omega))];have H:=hid h;clear h
 go_enter func181,ntmps181
 go_wp2
 go_end0
 exact ⟨rfl,H.out,Kp.refl _ _⟩
theorem Ch.rj (l m : List Bool) (k : Nat) : ((List.range (k + 1)).any fun j=>Ch.bit l j && Ch.bit m j) = (((List.range k).any fun j=>Ch.bit l j && Ch.bit m j) || (Ch.bit l k && Ch.bit m k)):=by
 rw [List.range_succ,List.any_append];simp
theorem Ch.Ct (l m : List Bool) (k : Nat) (hk : k < 16) (h : (Ch.bit l k && Ch.bit m k) = true) : Ch.meets l m = true:=by
 unfold Ch.meets;exact List.any_eq_true.2 ⟨k,by simpa using hk,h⟩
theorem ui (b' o' : Nat) (pre' : List Value) (l' : List Bool) (post' : List Value) (T' : TypeId) (h : fj w b pre l post T) (hl : l.length = 16) (ho : pre.length = o)
 (h' : fj w b' pre' l' post' T') (hl' : l'.length = 16) (ho' : pre'.length = o') :
 Calls prog 177 #[.pointer (some ⟨b,o,none⟩),.pointer (some ⟨b',o',none⟩)] w fun x w'=>x = .returned (.bool (Ch.meets l l')) /\ w' = w:=by
 subst ho ho'
 go_enter func177,ntmps177
 go_wp2_with fail
 go_loop [5] (fun i=>∃ k : Nat,i = .int .i64 k /\ k <= 16 /\ Hid (((List.range k).any fun j=>Ch.bit l j && Ch.bit l' j) = false)) (fun i=>16 - (intOf i).toNat)
 case atStart=>exact ⟨0,rfl,Nat.zero_le _,hid rfl⟩
 case round =>
  obtain ⟨k,rfl,hk,HE⟩:=hrel
  by_cases hlt : k < 16
  ·have c:=h.cell hl hlt
   have c':=h'.cell hl' hlt
   have hlt' : (k : Int) < 16:=by omega
   cases q : Ch.bit l k with
   | false =>
     have HF:=hid (show ((List.range (k + 1)).any fun j=>Ch.bit l j && Ch.bit l' j) = false by rw [rj,HE.out,q];rfl);rw [q] at c;clear h h' HE;go_wp2
     go_round
     case rel=>exact ⟨k + 1,by go_num,by omega,HF⟩
     case measure=>simp [intOf];omega
   | true=>?_
   rw [q] at c
   cases q' : Ch.bit l' k with
   | false =>
     have HF:=hid (show ((List.range (k + 1)).any fun j=>Ch.bit l j && Ch.bit l' j) = false by rw [rj,HE.out,q,q'];rfl);rw [q'] at c';clear h h' HE;go_wp2
     go_round
     case rel=>exact ⟨k + 1,by go_num,by omega,HF⟩
     case measure=>simp [intOf];omega
   | true=>?_
   have HF:=hid (Ct l l' k hlt (by rw [q,q'];rfl));rw [q'] at c';clear h h' HE;go_wp2;go_ret;exact ⟨by rw [HF.out];rfl,rfl⟩
  have hd : ¬ (k : Int) < 16:=by omega
  obtain rfl : k = 16:=by omega
  have HF:=hid (show Ch.meets l l' = false from HE.out);clear h h' HE;go_wp2;go_ret;exact ⟨by rw [HF.out];rfl,rfl⟩
end
namespace Ch
def gz (l m : List Bool) (k : Nat) : List Bool:=(List.range 16).map fun j=>if j < k then bit l j || bit m j else bit l j
theorem lY (l m : List Bool) (k : Nat) : (gz l m k).length = 16:=by simp [gz]
theorem zz {l : List Bool} (m : List Bool) (hl : l.length = 16) : gz l m 0 = l:=by
 apply List.ext_getElem?;intro i
 by_cases h : i < 16
 ·simp [gz,bit,h,show i < l.length by omega]
 simp [gz,h,show l.length <= i by omega]
theorem Cu (l m : List Bool) : gz l m 16 = join l m:=by
 unfold gz join;apply List.map_congr_left;intro j hj;simp at hj;simp [hj]
theorem Cv {l m : List Bool} {k : Nat} (hk : k < 16) : bit (gz l m k) k = bit l k:=by simp [gz,bit,hk]
theorem rl {l m : List Bool} {k : Nat} (hk : k < 16) : gz l m (k + 1) = (gz l m k).set k (bit l k || bit m k):=by
 apply List.ext_getElem?;intro i
 by_cases h : i < 16
 ·by_cases e : i = k
  ·subst e;simp [gz,hk]
  rw [List.getElem?_set_ne (by omega)];simp [gz,h,show (i < k + 1) = (i < k) by simp;omega]
 rw [List.getElem?_eq_none (by rw [lY];omega),List.getElem?_eq_none (by rw [List.length_set,lY];omega)]
theorem nA (l m : List Bool) : (join l m).length = 16:=by simp [join]
end Ch
section
variable (w : World) (b o : Nat) (pre : List Value) (l : List Bool) (post : List Value) (T : TypeId)
theorem El (b' o' : Nat) (pre' : List Value) (l' : List Bool) (post' : List Value) (T' : TypeId) (h : fj w b pre l post T) (hl : l.length = 16) (ho : pre.length = o)
 (h' : fj w b' pre' l' post' T') (hl' : l'.length = 16) (ho' : pre'.length = o') (hb : b' ≠ b) :
 Calls prog 179 #[.pointer (some ⟨b,o,none⟩),.pointer (some ⟨b',o',none⟩)] w fun x w'=>x = .returned (.tuple #[]) /\ fj w' b pre (Ch.join l l') post T /\ Kp (fun k=>k = b) w w':=by
 subst ho ho'
 go_enter func179,ntmps179
 go_wp2_with fail
 go_loopw [4] (fun i wr=>∃ k : Nat,i = .int .i64 k /\ k <= 16 /\ fj wr b pre (gz l l' k) post T /\ Kp (fun k=>k = b) w wr) (fun i _=>16 - (intOf i).toNat)
 case atStart=>exact ⟨0,rfl,Nat.zero_le _,by rw [zz _ hl];exact h,Kp.refl _ _⟩
 case round =>
  obtain ⟨k,rfl,hk,h1,K1⟩:=hrel
  by_cases hlt : k < 16
  ·have c:=h1.cell (lY _ _ _) hlt
   rw [Cv hlt] at c;have f:=h1.free (pre.length + k);have c':=(h'.keep K1 hb).cell hl' hlt
   have hlt' : (k : Int) < 16:=by omega
   have hs:=fun v=>h1.set (lY _ _ _) hlt v
   have HH:=hid (ae hs K1);clear h h' h1 hs K1
   cases q : Ch.bit l k with
   | true =>
     rw [q] at c;have HS:=hid (show gz l l' (k + 1) = (gz l l' k).set k true by rw [rl hlt,q];rfl);go_wp2
     go_region
     all_goals
      go_wp2
      go_roundw
      case rel=>exact ⟨k + 1,by go_num,by omega,by rw [HS.out];exact HH.out.1 true,(HH.out.2.drew).setCell (by intro _;rfl) _⟩
      case measure=>simp [intOf];omega
   | false=>?_
   rw [q] at c;have HS:=hid (show gz l l' (k + 1) = (gz l l' k).set k (Ch.bit l' k) by rw [rl hlt,q];rfl);go_wp2
   go_region
   all_goals
    go_wp2
    go_roundw
    case rel=>exact ⟨k + 1,by go_num,by omega,by rw [HS.out];exact HH.out.1 _,(HH.out.2.drew).setCell (by intro _;rfl) _⟩
    case measure=>simp [intOf];omega
  have hd : ¬ (k : Int) < 16:=by omega
  obtain rfl : k = 16:=by omega
  have HH:=hid (ae h1 K1);clear h h' h1 K1;go_wp2
  go_end0
  obtain ⟨h1,K1⟩:=HH.out;rw [Cu] at h1;exact ⟨rfl,h1,K1⟩
end
namespace Ch
structure Sd where
 act : List Bool
 past : List Int
 tm : ByteArray
 x : Int
 y : Int
 z : Int
def Sd.Wf (s : Sd) : Prop:=s.act.length = 16 /\ s.past.length = 16
def om (n : Int) : Bool:=decide (-99 <= n) && decide (n <= 99)
def var (s : Sd) (c : Int) : Int:=if c == 120 then s.x else if c == 121 then s.y else s.z
def gJ (s : Sd) (c n : Int) : Sd:=if c == 120 then { s with x:=n } else if c == 121 then { s with y:=n } else { s with z:=n }
end Ch
def aG (l : List Int) : List Value:=l.map (Value.int .u8)
def bg (s : Sd) : List Value:=aG s.past ++ [.string s.tm,.int .i64 s.x,.int .i64 s.y,.int .i64 s.z]
def bM (w : World) (b : Nat) (pre : List Value) (s : Sd) (post : List Value) (T : TypeId) : Prop:=fj w b pre s.act (bg s ++ post) T
section
variable {w : World} {b : Nat} {pre : List Value} {s : Sd} {post : List Value} {T : TypeId}
theorem bM.at_ (h : bM w b pre s post T) (hw : s.Wf) (k : Nat) : w.cell? ⟨b,pre.length + (16 + k),none⟩ = (bg s ++ post)[k]?:=by
 unfold bM fj at h;simp only [World.cell?,h];simp only [Option.isSome_none,Bool.false_eq_true,if_false,List.getElem?_toArray];rw [List.getElem?_append_right (by simp [hw.1])]
 congr 1
 simp [hw.1];omega
theorem bM.zA (h : bM w b pre s post T) (hw : s.Wf) (k : Nat) (v : Value) : fj (w.setCell ⟨b,pre.length + (16 + k),none⟩ v) b pre s.act ((bg s ++ post).set k v) T:=by
 unfold bM fj at *;rw [ah _ h]
 congr 2
 simp only [List.setIfInBounds_toArray];rw [List.set_append_right _ _ (by simp [hw.1])];rw [show pre.length + (16 + k) - (pre ++ List.map Value.bool s.act).length = k by simp [hw.1];omega]
theorem bM.free (h : bM w b pre s post T) (i : Nat) : w.frozen? ⟨b,i,none⟩ = false:=fj.free h i
theorem bM.keep {S : Nat -> Prop} {w' : World} (h : bM w b pre s post T) (k : Kp S w w') (hs : ¬ S b) : bM w' b pre s post T:=Kp.at_ k h hs
theorem bM.lt (h : bM w b pre s post T) : b < w.heap.size:=lt_of_block h
theorem eB (hw : s.Wf) : (aG s.past).length = 16:=by simp [aG,hw.2]
theorem bM.tm (h : bM w b pre s post T) (hw : s.Wf) : w.cell? ⟨b,pre.length + 32,none⟩ = some (.string s.tm):=by
 rw [show pre.length + 32 = pre.length + (16 + 16) by omega,h.at_ hw 16,bg,List.append_assoc,List.getElem?_append_right (by simp [eB hw])];simp [eB hw]
theorem bM.cx (h : bM w b pre s post T) (hw : s.Wf) : w.cell? ⟨b,pre.length + 33,none⟩ = some (.int .i64 s.x):=by
 rw [show pre.length + 33 = pre.length + (16 + 17) by omega,h.at_ hw 17,bg,List.append_assoc,List.getElem?_append_right (by simp [eB hw])];simp [eB hw]
theorem bM.cy (h : bM w b pre s post T) (hw : s.Wf) : w.cell? ⟨b,pre.length + 34,none⟩ = some (.int .i64 s.y):=by
 rw [show pre.length + 34 = pre.length + (16 + 18) by omega,h.at_ hw 18,bg,List.append_assoc,List.getElem?_append_right (by simp [eB hw])];simp [eB hw]
theorem bM.cz (h : bM w b pre s post T) (hw : s.Wf) : w.cell? ⟨b,pre.length + 35,none⟩ = some (.int .i64 s.z):=by
 rw [show pre.length + 35 = pre.length + (16 + 19) by omega,h.at_ hw 19,bg,List.append_assoc,List.getElem?_append_right (by simp [eB hw])];simp [eB hw]
theorem bM.past (h : bM w b pre s post T) (hw : s.Wf) {k : Nat} (hk : k < 16) : w.cell? ⟨b,pre.length + 16 + k,none⟩ = some (.int .u8 (s.past.getD k 0)):=by
 rw [show pre.length + 16 + k = pre.length + (16 + k) by omega,h.at_ hw k,bg,List.append_assoc,List.getElem?_append_left (by simp [eB hw,hk])];simp [aG,show k < s.past.length by rw [hw.2];exact hk]
theorem vx (hw : s.Wf) (j : Nat) (v : Value) : (bg s ++ post).set (16 + j) v = aG s.past ++ ([Value.string s.tm,Value.int .i64 s.x,Value.int .i64 s.y,Value.int .i64 s.z] ++ post).set j v:=by
 rw [bg,List.append_assoc,List.set_append_right _ _ (by simp [eB hw]),eB hw,Nat.add_sub_cancel_left]
theorem bM.Bn (h : bM w b pre s post T) (hw : s.Wf) (v : ByteArray) : bM (w.setCell ⟨b,pre.length + 32,none⟩ (.string v)) b pre { s with tm:=v } post T:=by
 have:=h.zA hw 16 (.string v);rw [vx hw 0] at this;rw [show pre.length + 32 = pre.length + (16 + 16) by omega];unfold bM;simpa [bg] using this
theorem bM.PU (h : bM w b pre s post T) (hw : s.Wf) (v : Int) : bM (w.setCell ⟨b,pre.length + 33,none⟩ (.int .i64 v)) b pre { s with x:=v } post T:=by
 have:=h.zA hw 17 (.int .i64 v);rw [vx hw 1] at this;rw [show pre.length + 33 = pre.length + (16 + 17) by omega];unfold bM;simpa [bg] using this
theorem bM.PV (h : bM w b pre s post T) (hw : s.Wf) (v : Int) : bM (w.setCell ⟨b,pre.length + 34,none⟩ (.int .i64 v)) b pre { s with y:=v } post T:=by
 have:=h.zA hw 18 (.int .i64 v);rw [vx hw 2] at this;rw [show pre.length + 34 = pre.length + (16 + 18) by omega];unfold bM;simpa [bg] using this
theorem bM.PW (h : bM w b pre s post T) (hw : s.Wf) (v : Int) : bM (w.setCell ⟨b,pre.length + 35,none⟩ (.int .i64 v)) b pre { s with z:=v } post T:=by
 have:=h.zA hw 19 (.int .i64 v);rw [vx hw 3] at this;rw [show pre.length + 35 = pre.length + (16 + 19) by omega];unfold bM;simpa [bg] using this
theorem bM.Ic (h : bM w b pre s post T) (hw : s.Wf) {k : Nat} (hk : k < 16) (v : Int) : bM (w.setCell ⟨b,pre.length + 16 + k,none⟩ (.int .u8 v)) b pre { s with past:=s.past.set k v } post T:=by
 have:=h.zA hw k (.int .u8 v);rw [bg,List.append_assoc,List.set_append_left _ _ (by simp [eB hw,hk])] at this;rw [show pre.length + 16 + k = pre.length + (16 + k) by omega];unfold bM;simpa [bg,aG,List.map_set] using this
end
section
variable (w : World) (b o : Nat) (pre : List Value) (s : Sd) (post : List Value) (T : TypeId)
theorem dY (n : Int) :
 Calls prog 128 #[.int .i64 n] w fun x w'=>x = .returned (.bool (om n)) /\ w' = w:=by
 by_cases h1 : -99 <= n
 ·by_cases h2 : n <= 99
  ·have H : Hid (om n = true):=by simp [Hid,om,h1,h2]
   go_enter func128,ntmps128
   go_wp2;go_ret;exact ⟨by rw [H.out];rfl,rfl⟩
  have H : Hid (om n = false):=by simp [Hid,om,h2]
  go_enter func128,ntmps128
  go_wp2;go_ret;exact ⟨by rw [H.out];rfl,rfl⟩
 have H : Hid (om n = false):=by simp [Hid,om,h1]
 go_enter func128,ntmps128
 go_wp2;go_ret;exact ⟨by rw [H.out];rfl,rfl⟩
theorem j_ (c : Int) (h : bM w b pre s post T) (hw : s.Wf) (ho : pre.length = o) :
 Calls prog 257 #[.pointer (some ⟨b,o,none⟩),.int .u8 c] w fun x w'=>x = .returned (.int .i64 (Ch.var s c)) /\ w' = w:=by
 subst ho;have c1:=h.cx hw;have c2:=h.cy hw;have c3:=h.cz hw;clear h
 cases q1 : c == 120 with
 | true =>
   have H:=hid (show Ch.var s c = s.x by simp [Ch.var,q1])
   go_enter func257,ntmps257
   go_wp2;go_ret;exact ⟨by rw [H.out];rfl,rfl⟩
 | false=>?_
 cases q2 : c == 121 with
 | true =>
   have H:=hid (show Ch.var s c = s.y by simp [Ch.var,q1,q2])
   go_enter func257,ntmps257
   go_wp2;go_ret;exact ⟨by rw [H.out];rfl,rfl⟩
 | false=>?_
 have H:=hid (show Ch.var s c = s.z by simp [Ch.var,q1,q2])
 go_enter func257,ntmps257
 go_wp2;go_ret;exact ⟨by rw [H.out];rfl,rfl⟩
theorem ic (c n : Int) (h : bM w b pre s post T) (hw : s.Wf) (ho : pre.length = o) :
 Calls prog 258 #[.pointer (some ⟨b,o,none⟩),.int .u8 c,.int .i64 n] w fun x w'=>x = .returned (.bool (om n)) /\ bM w' b pre (if om n then gJ s c n else s) post T /\ Kp (fun k=>k = b) w w':=by
 subst ho;have c1:=h.cx hw;have c2:=h.cy hw;have c3:=h.cz hw
 have f1:=fun i=>h.free i
 have HH:=hid h;clear h
 cases q0 : om n with
 | false =>
   have E:=dY w n;rw [q0] at E
   go_enter func258,ntmps258
   go_wp2_with fail
   refine Calls.mono E ?_;rintro x w1 ⟨rfl,rfl⟩;clear E;go_wp2;go_ret;exact ⟨rfl,HH.out,Kp.refl _ _⟩
 | true=>?_
 cases q1 : c == 120 with
 | true =>
   have H:=hid (show gJ s c n = { s with x:=n } by simp [gJ,q1]);have E:=dY w n;rw [q0] at E
   go_enter func258,ntmps258
   go_wp2_with fail
   refine Calls.mono E ?_;rintro x w1 ⟨rfl,rfl⟩;clear E;go_wp2;go_ret;rw [H.out];exact ⟨rfl,HH.out.PU hw n,(Kp.refl _ _).setCell (by intro _;rfl) _⟩
 | false=>?_
 cases q2 : c == 121 with
 | true =>
   have H:=hid (show gJ s c n = { s with y:=n } by simp [gJ,q1,q2]);have E:=dY w n;rw [q0] at E
   go_enter func258,ntmps258
   go_wp2_with fail
   refine Calls.mono E ?_;rintro x w1 ⟨rfl,rfl⟩;clear E;go_wp2;go_ret;rw [H.out];exact ⟨rfl,HH.out.PV hw n,(Kp.refl _ _).setCell (by intro _;rfl) _⟩
 | false=>?_
 have H:=hid (show gJ s c n = { s with z:=n } by simp [gJ,q1,q2]);have E:=dY w n;rw [q0] at E
 go_enter func258,ntmps258
 go_wp2_with fail
 refine Calls.mono E ?_;rintro x w1 ⟨rfl,rfl⟩;clear E;go_wp2;go_ret;rw [H.out];exact ⟨rfl,HH.out.PW hw n,(Kp.refl _ _).setCell (by intro _;rfl) _⟩
end
namespace Ch
def vy (ss : List St) (l : List Bool) (parent : Int) (pX : Bool) (j : Nat) : Bool:=(has l j == pX) && aw ss j parent
def mD (ss : List St) (l : List Bool) (parent : Int) (pX : Bool) (k : Nat) : Nat:=(List.range k).countP (vy ss l parent pX)
def gi (ss : List St) (l : List Bool) (parent : Int) (pX : Bool) : Nat:=mD ss l parent pX ss.length
theorem Cw (ss : List St) (l : List Bool) (parent : Int) (pX : Bool) (k : Nat) : mD ss l parent pX (k + 1) = mD ss l parent pX k + if vy ss l parent pX k then 1 else 0:=by
 unfold mD;rw [List.range_succ,List.countP_append];simp [List.countP_cons]
theorem Ie (ss : List St) (l : List Bool) (parent : Int) (pX : Bool) (k : Nat) : mD ss l parent pX k <= k:=by
 have:=List.countP_le_length (p:=vy ss l parent pX) (l:=List.range k);simpa [mD] using this
def fits (ss : List St) (l : List Bool) (i : Int) : Bool :=
 if has l i then
  if (aq ss i != -1) && !has l (aq ss i) then false
  else if ay ss i == 2 then ((gi ss l i true : Nat) : Int) == 1
  else if ay ss i == 3 then ((gi ss l i false : Nat) : Int) == 0
  else if ay ss i == 5 then false
  else true
 else aq ss i != -1
def iK (ss : List St) (i name : Int) : Bool:=if name == 45 then true else aw ss (place ss name) (aq ss i)
def gj (ss : List St) (l : List Bool) (parent : Int) : Nat -> Nat -> Int
 | 0,_=>-2
 | f + 1,k=>if has l k && aw ss k parent then k else gj ss l parent f (k + 1)
def jh (ss : List St) (l : List Bool) (parent : Int) : Int:=gj ss l parent ss.length 0
def bx (s : Sd) (k : Nat) : Int:=s.past.getD k 0
def goal (ss : List St) (s : Sd) (target : Int) : Int :=
 if decide (target < 0) || decide (16 <= target) || ay ss target != 5 then target
 else if bx s target.toNat == 45 then b9 ss (aq ss target)
 else place ss (bx s target.toNat)
end Ch
section
variable (ob oo : Nat) (w : World) (ss : List St) (b o : Nat) (pre : List Value) (l : List Bool) (post : List Value) (T : TypeId)
theorem ji (parent : Int) (pX : Bool) (hS : ib w ob oo ss) (hl : ss.length <= 1000) (h : fj w b pre l post T) (h16 : l.length = 16) (ho : pre.length = o) :
 Calls prog 220 #[.pointer (some ⟨ob,oo,none⟩),.int .i64 parent,.pointer (some ⟨b,o,none⟩),.bool pX] w fun x w'=>x = .returned (.int .i64 ((gi ss l parent pX : Nat) : Int)) /\ w' = w:=by
 obtain ⟨ao,cap,c2⟩:=hS.len
 go_enter func220,ntmps220
 go_wp2_with fail
 go_loop [9,10] (fun n i=>∃ k : Nat,i = .int .i64 k /\ k <= ss.length /\ n = .int .i64 ((mD ss l parent pX k : Nat) : Int)) (fun _ i=>ss.length - (intOf i).toNat)
 case atStart=>exact ⟨0,rfl,Nat.zero_le _,rfl⟩
 case round =>
  obtain ⟨k,rfl,hk,rfl⟩:=hrel;have hle:=Ie ss l parent pX k
  by_cases hlt : k < ss.length
  ·have hlt' : (k : Int) < (ss.length : Int):=by omega
   have hs:=Cw ss l parent pX k;have E1:=hid (fk w b o pre l post T k h h16 ho);have E2:=hid (eX ob oo w ss k parent hS hl)
   cases q1 : Ch.has l (k : Int) == pX with
   | false =>
     have HS:=hid (show mD ss l parent pX (k + 1) = mD ss l parent pX k by rw [hs];simp [vy,q1]);clear hs h hS
     go_wp2_with fail
     refine hm E1 ?_;rintro x w1 ⟨rfl,rfl⟩;go_wp2
     go_round
     case rel=>exact ⟨k + 1,by go_num,by omega,by rw [HS.out]⟩
     case measure=>simp [intOf];omega
   | true=>?_
   cases q2 : aw ss k parent with
   | false =>
     have HS:=hid (show mD ss l parent pX (k + 1) = mD ss l parent pX k by rw [hs];simp [vy,q2]);rw [q2] at E2;clear hs h hS
     go_wp2_with fail
     refine hm E1 ?_;rintro x w1 ⟨rfl,rfl⟩
     go_wp2_with fail
     refine hm E2 ?_;rintro x w1 ⟨rfl,rfl⟩;go_wp2
     go_round
     case rel=>exact ⟨k + 1,by go_num,by omega,by rw [HS.out]⟩
     case measure=>simp [intOf];omega
   | true=>?_
   have HS:=hid (show mD ss l parent pX (k + 1) = mD ss l parent pX k + 1 by rw [hs];simp [vy,q1,q2]);rw [q2] at E2;clear hs h hS
   go_wp2_with fail
   refine hm E1 ?_;rintro x w1 ⟨rfl,rfl⟩
   go_wp2_with fail
   refine hm E2 ?_;rintro x w1 ⟨rfl,rfl⟩;go_wp2
   go_round
   case rel=>exact ⟨k + 1,by go_num,by omega,by rw [HS.out];go_num⟩
   case measure=>simp [intOf];omega
  have hge : ¬ (k : Int) < (ss.length : Int):=by omega
  obtain rfl : k = ss.length:=by omega
  clear h hS
  go_wp2_with fail
  go_ret;exact ⟨rfl,rfl⟩
theorem zB (i c : Int) (hS : ib w ob oo ss) (hl : ss.length <= 1000) :
 Calls prog 172 #[.pointer (some ⟨ob,oo,none⟩),.int .i64 i,.int .u8 c] w fun x w'=>x = .returned (.bool (iK ss i c)) /\ w' = w:=by
 cases q : c == 45 with
 | true =>
   rw [show iK ss i c = true by simp [iK,q]]
   go_enter func172,ntmps172
   go_wp2;go_ret;exact ⟨rfl,rfl⟩
 | false=>?_
 rw [show iK ss i c = aw ss (Ch.place ss c) (aq ss i) by simp [iK,q]];have E1:=hid (c8 ob oo w ss i hS hl);have E2:=hid (gF ob oo w ss c hS hl);have E3:=hid (eX ob oo w ss (Ch.place ss c) (aq ss i) hS hl)
 go_enter func172,ntmps172
 go_wp2_with fail
 refine hm E1 ?_;rintro x w1 ⟨rfl,rfl⟩
 go_wp2_with fail
 refine hm E2 ?_;rintro x w1 ⟨rfl,rfl⟩
 go_wp2_with fail
 refine hm E3 ?_;rintro x w1 ⟨rfl,rfl⟩;go_wp2;go_ret;exact ⟨rfl,rfl⟩
theorem pY (s : Sd) (parent : Int) (hS : ib w ob oo ss) (hl : ss.length <= 1000) (h : bM w b pre s post T) (hw : s.Wf) (ho : pre.length = o) :
 Calls prog 180 #[.pointer (some ⟨b,o,none⟩),.pointer (some ⟨ob,oo,none⟩),.int .i64 parent] w fun x w'=>x = .returned (.int .i64 (jh ss s.act parent)) /\ w' = w:=by
 obtain ⟨ao,cap,c2⟩:=hS.len
 go_enter func180,ntmps180
 go_wp2_with fail
 go_loop [7] (fun i=>∃ k : Nat,i = .int .i64 k /\ k <= ss.length /\ Hid (jh ss s.act parent = gj ss s.act parent (ss.length - k) k)) (fun i=>ss.length - (intOf i).toNat)
 case atStart=>exact ⟨0,rfl,Nat.zero_le _,hid rfl⟩
 case round =>
  obtain ⟨k,rfl,hk,HE⟩:=hrel
  by_cases hlt : k < ss.length
  ·have hlt' : (k : Int) < (ss.length : Int):=by omega
   have ef : ss.length - k = (ss.length - (k + 1)) + 1:=by omega
   have E1:=hid (fk w b o pre s.act (bg s ++ post) T k h hw.1 ho);have E2:=hid (eX ob oo w ss k parent hS hl)
   cases q1 : Ch.has s.act (k : Int) with
   | false =>
     have HF:=hid (HE.out.trans (show _ = gj ss s.act parent (ss.length - (k + 1)) (k + 1) by rw [ef];simp [gj,q1]));rw [q1] at E1;clear ef HE h hS
     go_wp2_with fail
     refine hm E1 ?_;rintro x w1 ⟨rfl,rfl⟩;go_wp2
     go_round
     case rel=>exact ⟨k + 1,by go_num,by omega,HF⟩
     case measure=>simp [intOf];omega
   | true=>?_
   rw [q1] at E1
   cases q2 : aw ss k parent with
   | false =>
     have HF:=hid (HE.out.trans (show _ = gj ss s.act parent (ss.length - (k + 1)) (k + 1) by rw [ef];simp [gj,q2]));rw [q2] at E2;clear ef HE h hS
     go_wp2_with fail
     refine hm E1 ?_;rintro x w1 ⟨rfl,rfl⟩
     go_wp2_with fail
     refine hm E2 ?_;rintro x w1 ⟨rfl,rfl⟩;go_wp2
     go_round
     case rel=>exact ⟨k + 1,by go_num,by omega,HF⟩
     case measure=>simp [intOf];omega
   | true=>?_
   have HF:=hid (HE.out.trans (show _ = ((k : Nat) : Int) by rw [ef];simp [gj,q1,q2]));rw [q2] at E2;clear ef HE h hS
   go_wp2_with fail
   refine hm E1 ?_;rintro x w1 ⟨rfl,rfl⟩
   go_wp2_with fail
   refine hm E2 ?_;rintro x w1 ⟨rfl,rfl⟩;go_wp2;go_ret;exact ⟨by rw [HF.out];rfl,rfl⟩
  have HF:=hid (HE.out.trans (show _ = (-2 : Int) by rw [show ss.length - k = 0 by omega];rfl))
  have hge : ¬ (k : Int) < (ss.length : Int):=by omega
  clear HE h hS
  go_wp2_with fail
  go_ret;exact ⟨by rw [HF.out];rfl,rfl⟩
end
section
variable (ob oo : Nat) (w : World) (ss : List St) (b o : Nat) (pre : List Value) (l : List Bool) (post : List Value) (T : TypeId)
theorem Em (i : Int) (hS : ib w ob oo ss) (hl : ss.length <= 1000) (h : fj w b pre l post T) (h16 : l.length = 16) (ho : pre.length = o) :
 Calls prog 171 #[.pointer (some ⟨ob,oo,none⟩),.pointer (some ⟨b,o,none⟩),.int .i64 i] w fun x w'=>x = .returned (.bool (Ch.fits ss l i)) /\ w' = w:=by
 have EP:=hid (c8 ob oo w ss i hS hl);have EH:=hid (fk w b o pre l post T i h h16 ho);have EA:=hid (fk w b o pre l post T (aq ss i) h h16 ho);have EK:=hid (gf ob oo w ss i hS hl);have EC:=hid (ji ob oo w ss b o pre l post T i true hS hl h h16 ho);have ED:=hid (ji ob oo w ss b o pre l post T i false hS hl h h16 ho)
 cases qh : Ch.has l i with
 | false =>
   rw [show Ch.fits ss l i = (aq ss i != -1) by simp [Ch.fits,qh]];rw [qh] at EH;clear hS h
   go_enter func171,ntmps171
   go_wp2_with fail
   refine hm EP ?_;rintro x w1 ⟨rfl,rfl⟩
   go_wp2_with fail
   refine hm EH ?_;rintro x w1 ⟨rfl,rfl⟩;go_wp2;go_ret;exact ⟨rfl,rfl⟩
 | true=>?_
 rw [qh] at EH
 cases qp : aq ss i != -1 with
 | false =>
   cases k2 : ay ss i == 2 with
   | true =>
     rw [show Ch.fits ss l i = (((gi ss l i true : Nat) : Int) == 1) by simp [Ch.fits,qh,qp,k2]];clear hS h
     go_enter func171,ntmps171
     go_wp2_with fail
     refine hm EP ?_;rintro x w1 ⟨rfl,rfl⟩
     go_wp2_with fail
     refine hm EH ?_;rintro x w1 ⟨rfl,rfl⟩
     go_wp2_with fail
     refine hm EK ?_;rintro x w1 ⟨rfl,rfl⟩
     go_wp2_with fail
     refine hm EC ?_;rintro x w1 ⟨rfl,rfl⟩;go_wp2;go_ret;exact ⟨rfl,rfl⟩
   | false=>?_
   cases k3 : ay ss i == 3 with
   | true =>
     rw [show Ch.fits ss l i = (((gi ss l i false : Nat) : Int) == 0) by simp [Ch.fits,qh,qp,k2,k3]];clear hS h
     go_enter func171,ntmps171
     go_wp2_with fail
     refine hm EP ?_;rintro x w1 ⟨rfl,rfl⟩
     go_wp2_with fail
     refine hm EH ?_;rintro x w1 ⟨rfl,rfl⟩
     go_wp2_with fail
     refine hm EK ?_;rintro x w1 ⟨rfl,rfl⟩
     go_wp2_with fail
     refine hm ED ?_;rintro x w1 ⟨rfl,rfl⟩;go_wp2;go_ret;exact ⟨rfl,rfl⟩
   | false=>?_
   cases k5 : ay ss i == 5 with
   | true =>
     rw [show Ch.fits ss l i = false by simp [Ch.fits,qh,qp,k2,k3,k5]];clear hS h
     go_enter func171,ntmps171
     go_wp2_with fail
     refine hm EP ?_;rintro x w1 ⟨rfl,rfl⟩
     go_wp2_with fail
     refine hm EH ?_;rintro x w1 ⟨rfl,rfl⟩
     go_wp2_with fail
     refine hm EK ?_;rintro x w1 ⟨rfl,rfl⟩;go_wp2;go_ret;exact ⟨rfl,rfl⟩
   | false=>?_
   rw [show Ch.fits ss l i = true by simp [Ch.fits,qh,qp,k2,k3,k5]];clear hS h
   go_enter func171,ntmps171
   go_wp2_with fail
   refine hm EP ?_;rintro x w1 ⟨rfl,rfl⟩
   go_wp2_with fail
   refine hm EH ?_;rintro x w1 ⟨rfl,rfl⟩
   go_wp2_with fail
   refine hm EK ?_;rintro x w1 ⟨rfl,rfl⟩;go_wp2;go_ret;exact ⟨rfl,rfl⟩
 | true=>?_
 cases qa : Ch.has l (aq ss i) with
 | false =>
   rw [show Ch.fits ss l i = false by simp [Ch.fits,qh,qp,qa]];rw [qa] at EA;clear hS h
   go_enter func171,ntmps171
   go_wp2_with fail
   refine hm EP ?_;rintro x w1 ⟨rfl,rfl⟩
   go_wp2_with fail
   refine hm EH ?_;rintro x w1 ⟨rfl,rfl⟩
   go_wp2_with fail
   refine hm EA ?_;rintro x w1 ⟨rfl,rfl⟩;go_wp2;go_ret;exact ⟨rfl,rfl⟩
 | true=>?_
 rw [qa] at EA
 cases k2 : ay ss i == 2 with
 | true =>
   rw [show Ch.fits ss l i = (((gi ss l i true : Nat) : Int) == 1) by simp [Ch.fits,qh,qp,qa,k2]];clear hS h
   go_enter func171,ntmps171
   go_wp2_with fail
   refine hm EP ?_;rintro x w1 ⟨rfl,rfl⟩
   go_wp2_with fail
   refine hm EH ?_;rintro x w1 ⟨rfl,rfl⟩
   go_wp2_with fail
   refine hm EA ?_;rintro x w1 ⟨rfl,rfl⟩
   go_wp2_with fail
   refine hm EK ?_;rintro x w1 ⟨rfl,rfl⟩
   go_wp2_with fail
   refine hm EC ?_;rintro x w1 ⟨rfl,rfl⟩;go_wp2;go_ret;exact ⟨rfl,rfl⟩
 | false=>?_
 cases k3 : ay ss i == 3 with
 | true =>
   rw [show Ch.fits ss l i = (((gi ss l i false : Nat) : Int) == 0) by simp [Ch.fits,qh,qp,qa,k2,k3]];clear hS h
   go_enter func171,ntmps171
   go_wp2_with fail
   refine hm EP ?_;rintro x w1 ⟨rfl,rfl⟩
   go_wp2_with fail
   refine hm EH ?_;rintro x w1 ⟨rfl,rfl⟩
   go_wp2_with fail
   refine hm EA ?_;rintro x w1 ⟨rfl,rfl⟩
   go_wp2_with fail
   refine hm EK ?_;rintro x w1 ⟨rfl,rfl⟩
   go_wp2_with fail
   refine hm ED ?_;rintro x w1 ⟨rfl,rfl⟩;go_wp2;go_ret;exact ⟨rfl,rfl⟩
 | false=>?_
 cases k5 : ay ss i == 5 with
 | true =>
   rw [show Ch.fits ss l i = false by simp [Ch.fits,qh,qp,qa,k2,k3,k5]];clear hS h
   go_enter func171,ntmps171
   go_wp2_with fail
   refine hm EP ?_;rintro x w1 ⟨rfl,rfl⟩
   go_wp2_with fail
   refine hm EH ?_;rintro x w1 ⟨rfl,rfl⟩
   go_wp2_with fail
   refine hm EA ?_;rintro x w1 ⟨rfl,rfl⟩
   go_wp2_with fail
   refine hm EK ?_;rintro x w1 ⟨rfl,rfl⟩;go_wp2;go_ret;exact ⟨rfl,rfl⟩
 | false=>?_
 rw [show Ch.fits ss l i = true by simp [Ch.fits,qh,qp,qa,k2,k3,k5]];clear hS h
 go_enter func171,ntmps171
 go_wp2_with fail
 refine hm EP ?_;rintro x w1 ⟨rfl,rfl⟩
 go_wp2_with fail
 refine hm EH ?_;rintro x w1 ⟨rfl,rfl⟩
 go_wp2_with fail
 refine hm EA ?_;rintro x w1 ⟨rfl,rfl⟩
 go_wp2_with fail
 refine hm EK ?_;rintro x w1 ⟨rfl,rfl⟩;go_wp2;go_ret;exact ⟨rfl,rfl⟩
theorem En (s : Sd) (g : Int) (hS : ib w ob oo ss) (hl : ss.length <= 1000) (h : bM w b pre s post T) (hw : s.Wf) (ho : pre.length = o) :
 Calls prog 160 #[.pointer (some ⟨b,o,none⟩),.pointer (some ⟨ob,oo,none⟩),.int .i64 g] w fun x w'=>x = .returned (.int .i64 (Ch.goal ss s g)) /\ w' = w:=by
 subst ho;have EK:=hid (gf ob oo w ss g hS hl);have EP:=hid (c8 ob oo w ss g hS hl);have EF:=hid (iI ob oo w ss (aq ss g) hS hl)
 by_cases h0 : g < 0
 ·rw [show Ch.goal ss s g = g by simp [Ch.goal,h0]]
  clear hS h
  go_enter func160,ntmps160
  go_wp2;go_ret;exact ⟨rfl,rfl⟩
 have h0' : decide (g < 0) = false:=by simp;omega
 by_cases h1 : 16 <= g
 ·rw [show Ch.goal ss s g = g by simp [Ch.goal,h1]]
  clear hS h
  go_enter func160,ntmps160
  go_wp2;go_ret;exact ⟨rfl,rfl⟩
 have h1' : decide (16 <= g) = false:=by simp;omega
 obtain ⟨k,rfl⟩ : ∃ k : Nat,g = (k : Int):=⟨g.toNat,by omega⟩
 have hk : k < 16:=by omega
 have hk' : (k : Int) < 16:=by omega
 have c : w.cell? ⟨b,pre.length + 16 + k,none⟩ = some (.int .u8 (bx s k)):=h.past hw hk;have EL:=hid (gF ob oo w ss (bx s k) hS hl)
 cases qk : ay ss (k : Int) != 5 with
 | true =>
   rw [show Ch.goal ss s (k : Int) = (k : Int) by simp [Ch.goal,qk]];clear hS h
   go_enter func160,ntmps160
   go_wp2_with fail
   refine hm EK ?_;rintro x w1 ⟨rfl,rfl⟩;go_wp2;go_ret;exact ⟨rfl,rfl⟩
 | false=>?_
 cases qc : bx s k == 45 with
 | true =>
   rw [show Ch.goal ss s (k : Int) = b9 ss (aq ss k) by simp [Ch.goal,h0',h1',qk,qc]];clear hS h
   go_enter func160,ntmps160
   go_wp2_with fail
   refine hm EK ?_;rintro x w1 ⟨rfl,rfl⟩
   go_wp2_with fail
   refine hm EP ?_;rintro x w1 ⟨rfl,rfl⟩
   go_wp2_with fail
   refine hm EF ?_;rintro x w1 ⟨rfl,rfl⟩;go_wp2;go_ret;exact ⟨rfl,rfl⟩
 | false=>?_
 rw [show Ch.goal ss s (k : Int) = Ch.place ss (bx s k) by simp [Ch.goal,h0',h1',qk,qc]];clear hS h
 go_enter func160,ntmps160
 go_wp2_with fail
 refine hm EK ?_;rintro x w1 ⟨rfl,rfl⟩
 go_wp2_with fail
 refine hm EL ?_;rintro x w1 ⟨rfl,rfl⟩;go_wp2;go_ret;exact ⟨rfl,rfl⟩
end
def ar (d : TypeDesc) : Bool:=match d with | .struct _ | .array _ _=>true | _=>false
section
variable {P : Program}
theorem jH (w : World) (b o : Nat) (ty : TypeId) (cs : List Value) (d : TypeDesc) (hc : ∀ j v,cs[j]? = some v -> w.cell? ⟨b,o + j,none⟩ = some v)
 (hu : P.underlying ty = some d) (hd : ar d = true) (hi : (P.info? ty).map (·.size) = some cs.length) :
 (loadVar ty ⟨b,o,none⟩).run P w = .ok (.agg cs.toArray) w:=by
 have hl : (loadCells ⟨b,o,none⟩ cs.length).run P w = .ok cs.toArray w :=
  run_loadCells_list (P:=P) w ⟨b,o,none⟩ cs (fun j v hv=>by
   have hadd : (⟨b,o,none⟩ : Addr).add j = ⟨b,o + j,none⟩:=by unfold Addr.add;split <;> simp_all
   rw [hadd];exact hc j v hv)
 cases hq : P.info? ty with
 | none=>simp [hq] at hi
 | some i=>?_
 have hs : i.size = cs.length:=by simpa [hq] using hi
 have hagg : (isAgg ty).run P w = .ok true w:=by
  unfold isAgg;rw [Sem.run_bind,run_underlying hu w]
  cases d <;> simp_all [ar]
 simp [loadVar,Sem.run_bind,hagg,sizeOf,typeInfo,hq,hs,hl]
theorem a_ {ops : Array Oper} {rest : List Oper} {op : Oper} {a : Act} {w : World} {Q : Exit -> Act -> World -> Prop} (hgd : op.guard = none) (ty : TypeId) (x : Operand) (hop : op.op = .load ty x)
 (b o : Nat) (hx : a.eval x = .pointer (some ⟨b,o,none⟩)) (cs : List Value) (d : TypeDesc) (hc : ∀ j v,cs[j]? = some v -> w.cell? ⟨b,o + j,none⟩ = some v)
 (hu : P.underlying ty = some d) (hd : ar d = true) (hi : (P.info? ty).map (·.size) = some cs.length)
 (h : wpList P ops Q rest (a.put op.dst (.agg cs.toArray)) w) : wpList P ops Q (op :: rest) a w :=
 wpList_plain hgd fun K hK=>by
  unfold Oper.wp execOp;simp only [hop,hx,Instr.loadAt,Instr.sureAddr,Sem.run_bind,Sem.run_pure,Result.andThen_ok,jH w b o ty cs d hc hu hd hi];exact hK _ _ h
theorem results_cell_tmp {fn : Func} {p q : Tmp} {ty : TypeId} (h : fn.results = #[.cell p ty,.tmp q]) (tmps : Array Value) (w : World) (g : Nat) (t : TypeId) (cs : Array Value) (fr : Nat × Nat) (d : TypeDesc)
 (hp : tmps.getD p undef = .pointer (some ⟨g,0,none⟩)) (hg : w.heap[g]? = some (.cells cs t fr))
 (hu : P.underlying ty = some d) (hd : ar d = true) (hi : (P.info? ty).map (·.size) = some cs.size) :
 (results fn tmps).run P w = .ok (.tuple #[.agg cs,tmps.getD q undef]) w:=by
 have hp' : tmps[p]?.getD undef = .pointer (some ⟨g,0,none⟩):=by simpa using hp
 simp [results,h,hp',asAddr,run_loadVar_row w g t ty cs fr d hg hu (by cases d <;> simp_all [ar]) hi]
theorem aC {fn : Func} {p q r : Tmp} {ty : TypeId} (h : fn.results = #[.cell p ty,.tmp q,.tmp r]) (tmps : Array Value) (w : World) (g : Nat) (t : TypeId) (cs : Array Value) (fr : Nat × Nat) (d : TypeDesc)
 (hp : tmps.getD p undef = .pointer (some ⟨g,0,none⟩)) (hg : w.heap[g]? = some (.cells cs t fr))
 (hu : P.underlying ty = some d) (hd : ar d = true) (hi : (P.info? ty).map (·.size) = some cs.size) :
 (results fn tmps).run P w = .ok (.tuple #[.agg cs,tmps.getD q undef,tmps.getD r undef]) w:=by
 have hp' : tmps[p]?.getD undef = .pointer (some ⟨g,0,none⟩):=by simpa using hp
 simp [results,h,hp',asAddr,run_loadVar_row w g t ty cs fr d hg hu (by cases d <;> simp_all [ar]) hi]
end
theorem jk : (prog.info? 91).map (·.size) = some 16:=by kernel_rfl
theorem gm : (prog.info? 93).map (·.size) = some 16:=by kernel_rfl
theorem aY : (prog.info? 95).map (·.size) = some 36:=by kernel_rfl
theorem Bo : (aW : Array Value).all (fun x=>x.oneCell') = true:=by kernel_rfl
theorem vz : (cU : Array Value).all (fun x=>x.oneCell') = true:=by kernel_rfl
theorem rr : ∃ d,prog.underlying 91 = some d /\ ar d = true:=⟨_,underlying91,rfl⟩
theorem vA : ∃ d,prog.underlying 93 = some d /\ ar d = true:=⟨_,underlying93,rfl⟩
theorem cQ : ∃ d,prog.underlying 95 = some d /\ ar d = true:=⟨_,underlying95,rfl⟩
end Go.Proofs.YtnlbchmfcebeeaaGreat
