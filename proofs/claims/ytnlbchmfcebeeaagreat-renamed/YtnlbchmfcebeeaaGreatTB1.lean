import Derived.Test.YtnlbchmfcebeeaaGreatTA7
set_option maxHeartbeats 12800000
set_option maxRecDepth 100000
namespace Go.Proofs.YtnlbchmfcebeeaaGreat
open Go.RowKit
section
variable (ob oo : Nat) (w : World) (ss : List Ch.St)
theorem parent_any (i : Int) (h : StR w ob oo ss) (_hl : ss.length ≤ 1000) :
 Calls Tryz.prog 161 #[.pointer (some ⟨ob,oo,none⟩),.int .i64 i] w fun x w'=>x = .returned (.int .i64 (Ch.parAt ss i)) ∧ w' = w:=by
 unfold Ch.parAt
 cases hs : Ch.stAt ss i with
 | none =>
   obtain ⟨ao,cap,c2⟩:=h.len
   rcases Ch.stAt_none hs with h1 | ⟨h0,h1⟩
   ·clear hs h
    go_enter Tryz.func161,Tryz.ntmps161
    go_wp2;go_ret;exact ⟨rfl,rfl⟩
   have hd : decide (i < 0) = false:=by simp;omega
   clear hs h
   go_enter Tryz.func161,Tryz.ntmps161
   go_wp2;go_ret;exact ⟨rfl,rfl⟩
 | some s=>?_
 obtain ⟨k,rfl,hk,hlt⟩:=Ch.stAt_some hs;obtain ⟨g,cap,c2,a0,a1,a2,a3⟩:=h.at_ hk
 have hd : decide ((k : Int) < 0) = false:=by simp
 have hlt' : (k : Int) < (ss.length : Int):=by omega
 clear hs hk h
 go_enter Tryz.func161,Tryz.ntmps161
 go_wp2;go_ret;exact ⟨rfl,rfl⟩
end
namespace Ch
def bit (l : List Bool) (k : Nat) : Bool:=l.getD k false
def has (l : List Bool) (i : Int) : Bool:=match i with | .ofNat k=>bit l k | .negSucc _=>false
def putB (l : List Bool) (i : Int) (v : Bool) : List Bool:=match i with | .ofNat k=>l.set k v | .negSucc _=>l
def join (l m : List Bool) : List Bool:=(List.range 16).map fun k=>bit l k || bit m k
def meets (l m : List Bool) : Bool:=(List.range 16).any fun k=>bit l k && bit m k
theorem has_nat (l : List Bool) (k : Nat) : has l (k : Int) = bit l k:=rfl
theorem bit_big {l : List Bool} {k : Nat} (h : l.length ≤ k) : bit l k = false:=by simp [bit,List.getElem?_eq_none h]
theorem has_out {l : List Bool} (hl : l.length = 16) {i : Int} (h : i < 0 ∨ 16 ≤ i) : has l i = false:=by
 cases i with
 | ofNat k=>exact bit_big (by simp at h;omega)
 | negSucc k=>rfl
theorem putB_out {l : List Bool} (hl : l.length = 16) {i : Int} (v : Bool) (h : i < 0 ∨ 16 ≤ i) : putB l i v = l:=by
 cases i with
 | ofNat k=>exact List.set_eq_of_length_le (by simp at h;omega)
 | negSucc k=>rfl
theorem putB_len (l : List Bool) (i : Int) (v : Bool) : (putB l i v).length = l.length:=by
 cases i with
 | ofNat k=>simp [putB]
 | negSucc k=>rfl
end Ch
def SeB (w : World) (b : Nat) (pre : List Value) (l : List Bool) (post : List Value) (T : TypeId) : Prop :=
 w.heap[b]? = some (.cells (pre ++ l.map Value.bool ++ post).toArray T (0,0))
section
variable {w : World} {b : Nat} {pre : List Value} {l : List Bool} {post : List Value} {T : TypeId}
theorem SeB.cell (h : SeB w b pre l post T) (hl : l.length = 16) {k : Nat} (hk : k < 16) : w.cell? ⟨b,pre.length + k,none⟩ = some (.bool (Ch.bit l k)):=by
 unfold SeB at h
 have e : (pre ++ l.map Value.bool ++ post)[pre.length + k]? = some (.bool (Ch.bit l k)):=by
  rw [List.append_assoc,List.getElem?_append_right (by omega),Nat.add_sub_cancel_left,List.getElem?_append_left (by simp;omega)];simp [Ch.bit,show k < l.length by omega]
 simp only [World.cell?,h];simpa using e
theorem SeB.free (h : SeB w b pre l post T) (i : Nat) : w.frozen? ⟨b,i,none⟩ = false:=by unfold SeB at h;simp [World.frozen?,h]
theorem SeB.set (h : SeB w b pre l post T) (hl : l.length = 16) {k : Nat} (hk : k < 16) (v : Bool) : SeB (w.setCell ⟨b,pre.length + k,none⟩ (.bool v)) b pre (l.set k v) post T:=by
 unfold SeB at *;rw [heap_set_same _ h]
 congr 2
 simp only [List.setIfInBounds_toArray];rw [List.append_assoc,List.set_append_right _ _ (by omega),Nat.add_sub_cancel_left,List.set_append_left _ _ (by simp;omega),List.map_set,List.append_assoc]
theorem SeB.keep {S : Nat → Prop} {w' : World} (h : SeB w b pre l post T) (k : Kp S w w') (hs : ¬ S b) : SeB w' b pre l post T:=Kp.at_ k h hs
theorem SeB.lt (h : SeB w b pre l post T) : b < w.heap.size:=lt_of_block h
end
section
variable (w : World) (b o : Nat) (pre : List Value) (l : List Bool) (post : List Value) (T : TypeId)
theorem has_any (i : Int) (h : SeB w b pre l post T) (hl : l.length = 16) (ho : pre.length = o) :
 Calls Tryz.prog 73 #[.pointer (some ⟨b,o,none⟩),.int .i64 i] w fun x w'=>x = .returned (.bool (Ch.has l i)) ∧ w' = w:=by
 subst ho
 by_cases h0 : 0 ≤ i
 ·obtain ⟨k,rfl⟩ : ∃ k : Nat,i = (k : Int):=⟨i.toNat,by omega⟩
  by_cases h1 : k < 16
  ·have c:=h.cell hl h1
   have h1' : (k : Int) < 16:=by omega
   rw [Ch.has_nat];clear h
   go_enter Tryz.func73,Tryz.ntmps73
   go_wp2;go_ret;exact ⟨rfl,rfl⟩
  have h1' : decide ((k : Int) < 16) = false:=by simp;omega
  rw [Ch.has_out hl (Or.inr (by omega))];clear h
  go_enter Tryz.func73,Tryz.ntmps73
  go_wp2;go_ret;exact ⟨rfl,rfl⟩
 have hd : decide (0 ≤ i) = false:=by simp;omega
 rw [Ch.has_out hl (Or.inl (by omega))];clear h
 go_enter Tryz.func73,Tryz.ntmps73
 go_wp2;go_ret;exact ⟨rfl,rfl⟩
theorem put_any (i : Int) (h : SeB w b pre l post T) (hl : l.length = 16) (ho : pre.length = o) :
 Calls Tryz.prog 166 #[.pointer (some ⟨b,o,none⟩),.int .i64 i] w fun x w'=>x = .returned (.tuple #[]) ∧ SeB w' b pre (Ch.putB l i true) post T ∧ Kp (fun k=>k = b) w w':=by
 subst ho
 by_cases h0 : 0 ≤ i
 ·obtain ⟨k,rfl⟩ : ∃ k : Nat,i = (k : Int):=⟨i.toNat,by omega⟩
  by_cases h1 : k < 16
  ·have c:=h.cell hl h1
   have f:=h.free (pre.length + k)
   have h1' : (k : Int) < 16:=by omega
   have H:=hid h;clear h
   go_enter Tryz.func166,Tryz.ntmps166
   go_wp2
   go_end0
   exact ⟨rfl,H.out.set hl h1 true,(Kp.refl _ _).setCell (by intro _;rfl) _⟩
  have h1' : decide ((k : Int) < 16) = false:=by simp;omega
  rw [Ch.putB_out hl _ (Or.inr (by omega))];have H:=hid h;clear h
  go_enter Tryz.func166,Tryz.ntmps166
  go_wp2
  go_end0
  exact ⟨rfl,H.out,Kp.refl _ _⟩
 have hd : decide (0 ≤ i) = false:=by simp;omega
 rw [Ch.putB_out hl _ (Or.inl (by omega))];have H:=hid h;clear h
 go_enter Tryz.func166,Tryz.ntmps166
 go_wp2
 go_end0
 exact ⟨rfl,H.out,Kp.refl _ _⟩
theorem drop_any (i : Int) (h : SeB w b pre l post T) (hl : l.length = 16) (ho : pre.length = o) :
 Calls Tryz.prog 181 #[.pointer (some ⟨b,o,none⟩),.int .i64 i] w fun x w'=>x = .returned (.tuple #[]) ∧ SeB w' b pre (Ch.putB l i false) post T ∧ Kp (fun k=>k = b) w w':=by
 subst ho
 by_cases h0 : 0 ≤ i
 ·obtain ⟨k,rfl⟩ : ∃ k : Nat,i = (k : Int):=⟨i.toNat,by omega⟩
  by_cases h1 : k < 16
  ·have c:=h.cell hl h1
   have f:=h.free (pre.length + k)
   have h1' : (k : Int) < 16:=by omega
   have H:=hid h;clear h
   go_enter Tryz.func181,Tryz.ntmps181
   go_wp2
   go_end0
   exact ⟨rfl,H.out.set hl h1 false,(Kp.refl _ _).setCell (by intro _;rfl) _⟩
  have h1' : decide ((k : Int) < 16) = false:=by simp;omega
  rw [Ch.putB_out hl _ (Or.inr (by omega))];have H:=hid h;clear h
  go_enter Tryz.func181,Tryz.ntmps181
  go_wp2
  go_end0
  exact ⟨rfl,H.out,Kp.refl _ _⟩
 have hd : decide (0 ≤ i) = false:=by simp;omega
 rw [Ch.putB_out hl _ (Or.inl (by omega))];have H:=hid h;clear h
 go_enter Tryz.func181,Tryz.ntmps181
 go_wp2
 go_end0
 exact ⟨rfl,H.out,Kp.refl _ _⟩
theorem Ch.meets_step (l m : List Bool) (k : Nat) : ((List.range (k + 1)).any fun j=>Ch.bit l j && Ch.bit m j) = (((List.range k).any fun j=>Ch.bit l j && Ch.bit m j) || (Ch.bit l k && Ch.bit m k)):=by
 rw [List.range_succ,List.any_append];simp
theorem Ch.meets_yes (l m : List Bool) (k : Nat) (hk : k < 16) (h : (Ch.bit l k && Ch.bit m k) = true) : Ch.meets l m = true:=by
 unfold Ch.meets;exact List.any_eq_true.2 ⟨k,by simpa using hk,h⟩
theorem meets_any (b' o' : Nat) (pre' : List Value) (l' : List Bool) (post' : List Value) (T' : TypeId) (h : SeB w b pre l post T) (hl : l.length = 16) (ho : pre.length = o)
 (h' : SeB w b' pre' l' post' T') (hl' : l'.length = 16) (ho' : pre'.length = o') :
 Calls Tryz.prog 177 #[.pointer (some ⟨b,o,none⟩),.pointer (some ⟨b',o',none⟩)] w fun x w'=>x = .returned (.bool (Ch.meets l l')) ∧ w' = w:=by
 subst ho ho'
 go_enter Tryz.func177,Tryz.ntmps177
 go_wp2_with fail
 go_loop [5] (fun i=>∃ k : Nat,i = .int .i64 k ∧ k ≤ 16 ∧ Hid (((List.range k).any fun j=>Ch.bit l j && Ch.bit l' j) = false)) (fun i=>16 - (intOf i).toNat)
 case atStart=>exact ⟨0,rfl,Nat.zero_le _,hid rfl⟩
 case round =>
  obtain ⟨k,rfl,hk,HE⟩:=hrel
  by_cases hlt : k < 16
  ·have c:=h.cell hl hlt
   have c':=h'.cell hl' hlt
   have hlt' : (k : Int) < 16:=by omega
   cases q : Ch.bit l k with
   | false =>
     have HF:=hid (show ((List.range (k + 1)).any fun j=>Ch.bit l j && Ch.bit l' j) = false by rw [Ch.meets_step,HE.out,q];rfl);rw [q] at c;clear h h' HE;go_wp2
     go_round
     case rel=>exact ⟨k + 1,by go_num,by omega,HF⟩
     case measure=>simp [intOf];omega
   | true=>?_
   rw [q] at c
   cases q' : Ch.bit l' k with
   | false =>
     have HF:=hid (show ((List.range (k + 1)).any fun j=>Ch.bit l j && Ch.bit l' j) = false by rw [Ch.meets_step,HE.out,q,q'];rfl);rw [q'] at c';clear h h' HE;go_wp2
     go_round
     case rel=>exact ⟨k + 1,by go_num,by omega,HF⟩
     case measure=>simp [intOf];omega
   | true=>?_
   have HF:=hid (Ch.meets_yes l l' k hlt (by rw [q,q'];rfl));rw [q'] at c';clear h h' HE;go_wp2;go_ret;exact ⟨by rw [HF.out];rfl,rfl⟩
  have hd : ¬ (k : Int) < 16:=by omega
  obtain rfl : k = 16:=by omega
  have HF:=hid (show Ch.meets l l' = false from HE.out);clear h h' HE;go_wp2;go_ret;exact ⟨by rw [HF.out];rfl,rfl⟩
end
namespace Ch
def joinK (l m : List Bool) (k : Nat) : List Bool:=(List.range 16).map fun j=>if j < k then bit l j || bit m j else bit l j
theorem joinK_len (l m : List Bool) (k : Nat) : (joinK l m k).length = 16:=by simp [joinK]
theorem joinK_zero {l : List Bool} (m : List Bool) (hl : l.length = 16) : joinK l m 0 = l:=by
 apply List.ext_getElem?;intro i
 by_cases h : i < 16
 ·simp [joinK,bit,h,show i < l.length by omega]
 simp [joinK,h,show l.length ≤ i by omega]
theorem joinK_all (l m : List Bool) : joinK l m 16 = join l m:=by
 unfold joinK join;apply List.map_congr_left;intro j hj;simp at hj;simp [hj]
theorem joinK_bit {l m : List Bool} {k : Nat} (hk : k < 16) : bit (joinK l m k) k = bit l k:=by simp [joinK,bit,hk]
theorem joinK_succ {l m : List Bool} {k : Nat} (hk : k < 16) : joinK l m (k + 1) = (joinK l m k).set k (bit l k || bit m k):=by
 apply List.ext_getElem?;intro i
 by_cases h : i < 16
 ·by_cases e : i = k
  ·subst e;simp [joinK,hk]
  rw [List.getElem?_set_ne (by omega)];simp [joinK,h,show (i < k + 1) = (i < k) by simp;omega]
 rw [List.getElem?_eq_none (by rw [joinK_len];omega),List.getElem?_eq_none (by rw [List.length_set,joinK_len];omega)]
theorem join_len (l m : List Bool) : (join l m).length = 16:=by simp [join]
end Ch
section
variable (w : World) (b o : Nat) (pre : List Value) (l : List Bool) (post : List Value) (T : TypeId)
theorem join_any (b' o' : Nat) (pre' : List Value) (l' : List Bool) (post' : List Value) (T' : TypeId) (h : SeB w b pre l post T) (hl : l.length = 16) (ho : pre.length = o)
 (h' : SeB w b' pre' l' post' T') (hl' : l'.length = 16) (ho' : pre'.length = o') (hb : b' ≠ b) :
 Calls Tryz.prog 179 #[.pointer (some ⟨b,o,none⟩),.pointer (some ⟨b',o',none⟩)] w fun x w'=>x = .returned (.tuple #[]) ∧ SeB w' b pre (Ch.join l l') post T ∧ Kp (fun k=>k = b) w w':=by
 subst ho ho'
 go_enter Tryz.func179,Tryz.ntmps179
 go_wp2_with fail
 go_loopw [4] (fun i wr=>∃ k : Nat,i = .int .i64 k ∧ k ≤ 16 ∧ SeB wr b pre (Ch.joinK l l' k) post T ∧ Kp (fun k=>k = b) w wr) (fun i _=>16 - (intOf i).toNat)
 case atStart=>exact ⟨0,rfl,Nat.zero_le _,by rw [Ch.joinK_zero _ hl];exact h,Kp.refl _ _⟩
 case round =>
  obtain ⟨k,rfl,hk,h1,K1⟩:=hrel
  by_cases hlt : k < 16
  ·have c:=h1.cell (Ch.joinK_len _ _ _) hlt
   rw [Ch.joinK_bit hlt] at c;have f:=h1.free (pre.length + k);have c':=(h'.keep K1 hb).cell hl' hlt
   have hlt' : (k : Int) < 16:=by omega
   have hs:=fun v=>h1.set (Ch.joinK_len _ _ _) hlt v
   have HH:=hid (And.intro hs K1);clear h h' h1 hs K1
   cases q : Ch.bit l k with
   | true =>
     rw [q] at c;have HS:=hid (show Ch.joinK l l' (k + 1) = (Ch.joinK l l' k).set k true by rw [Ch.joinK_succ hlt,q];rfl);go_wp2
     go_region
     all_goals
      go_wp2
      go_roundw
      case rel=>exact ⟨k + 1,by go_num,by omega,by rw [HS.out];exact HH.out.1 true,(HH.out.2.drew).setCell (by intro _;rfl) _⟩
      case measure=>simp [intOf];omega
   | false=>?_
   rw [q] at c;have HS:=hid (show Ch.joinK l l' (k + 1) = (Ch.joinK l l' k).set k (Ch.bit l' k) by rw [Ch.joinK_succ hlt,q];rfl);go_wp2
   go_region
   all_goals
    go_wp2
    go_roundw
    case rel=>exact ⟨k + 1,by go_num,by omega,by rw [HS.out];exact HH.out.1 _,(HH.out.2.drew).setCell (by intro _;rfl) _⟩
    case measure=>simp [intOf];omega
  have hd : ¬ (k : Int) < 16:=by omega
  obtain rfl : k = 16:=by omega
  have HH:=hid (And.intro h1 K1);clear h h' h1 K1;go_wp2
  go_end0
  obtain ⟨h1,K1⟩:=HH.out;rw [Ch.joinK_all] at h1;exact ⟨rfl,h1,K1⟩
end
namespace Ch
structure Sd where
 act : List Bool
 past : List Int
 tm : ByteArray
 x : Int
 y : Int
 z : Int
def Sd.Wf (s : Sd) : Prop:=s.act.length = 16 ∧ s.past.length = 16
def inB (n : Int) : Bool:=decide (-99 ≤ n) && decide (n ≤ 99)
def var (s : Sd) (c : Int) : Int:=if c == 120 then s.x else if c == 121 then s.y else s.z
def setVar (s : Sd) (c n : Int) : Sd:=if c == 120 then { s with x:=n } else if c == 121 then { s with y:=n } else { s with z:=n }
end Ch
def pastCells (l : List Int) : List Value:=l.map (Value.int .u8)
def sdTail (s : Ch.Sd) : List Value:=pastCells s.past ++ [.string s.tm,.int .i64 s.x,.int .i64 s.y,.int .i64 s.z]
def SdB (w : World) (b : Nat) (pre : List Value) (s : Ch.Sd) (post : List Value) (T : TypeId) : Prop:=SeB w b pre s.act (sdTail s ++ post) T
section
variable {w : World} {b : Nat} {pre : List Value} {s : Ch.Sd} {post : List Value} {T : TypeId}
theorem SdB.at_ (h : SdB w b pre s post T) (hw : s.Wf) (k : Nat) : w.cell? ⟨b,pre.length + (16 + k),none⟩ = (sdTail s ++ post)[k]?:=by
 unfold SdB SeB at h;simp only [World.cell?,h];simp only [Option.isSome_none,Bool.false_eq_true,if_false,List.getElem?_toArray];rw [List.getElem?_append_right (by simp [hw.1])]
 congr 1
 simp [hw.1];omega
theorem SdB.set_ (h : SdB w b pre s post T) (hw : s.Wf) (k : Nat) (v : Value) : SeB (w.setCell ⟨b,pre.length + (16 + k),none⟩ v) b pre s.act ((sdTail s ++ post).set k v) T:=by
 unfold SdB SeB at *;rw [heap_set_same _ h]
 congr 2
 simp only [List.setIfInBounds_toArray];rw [List.set_append_right _ _ (by simp [hw.1])];rw [show pre.length + (16 + k) - (pre ++ List.map Value.bool s.act).length = k by simp [hw.1];omega]
theorem SdB.free (h : SdB w b pre s post T) (i : Nat) : w.frozen? ⟨b,i,none⟩ = false:=SeB.free h i
theorem SdB.keep {S : Nat → Prop} {w' : World} (h : SdB w b pre s post T) (k : Kp S w w') (hs : ¬ S b) : SdB w' b pre s post T:=Kp.at_ k h hs
theorem SdB.lt (h : SdB w b pre s post T) : b < w.heap.size:=lt_of_block h
theorem tail_len (hw : s.Wf) : (pastCells s.past).length = 16:=by simp [pastCells,hw.2]
theorem SdB.tm (h : SdB w b pre s post T) (hw : s.Wf) : w.cell? ⟨b,pre.length + 32,none⟩ = some (.string s.tm):=by
 rw [show pre.length + 32 = pre.length + (16 + 16) by omega,h.at_ hw 16,sdTail,List.append_assoc,List.getElem?_append_right (by simp [tail_len hw])];simp [tail_len hw]
theorem SdB.cx (h : SdB w b pre s post T) (hw : s.Wf) : w.cell? ⟨b,pre.length + 33,none⟩ = some (.int .i64 s.x):=by
 rw [show pre.length + 33 = pre.length + (16 + 17) by omega,h.at_ hw 17,sdTail,List.append_assoc,List.getElem?_append_right (by simp [tail_len hw])];simp [tail_len hw]
theorem SdB.cy (h : SdB w b pre s post T) (hw : s.Wf) : w.cell? ⟨b,pre.length + 34,none⟩ = some (.int .i64 s.y):=by
 rw [show pre.length + 34 = pre.length + (16 + 18) by omega,h.at_ hw 18,sdTail,List.append_assoc,List.getElem?_append_right (by simp [tail_len hw])];simp [tail_len hw]
theorem SdB.cz (h : SdB w b pre s post T) (hw : s.Wf) : w.cell? ⟨b,pre.length + 35,none⟩ = some (.int .i64 s.z):=by
 rw [show pre.length + 35 = pre.length + (16 + 19) by omega,h.at_ hw 19,sdTail,List.append_assoc,List.getElem?_append_right (by simp [tail_len hw])];simp [tail_len hw]
theorem SdB.past (h : SdB w b pre s post T) (hw : s.Wf) {k : Nat} (hk : k < 16) : w.cell? ⟨b,pre.length + 16 + k,none⟩ = some (.int .u8 (s.past.getD k 0)):=by
 rw [show pre.length + 16 + k = pre.length + (16 + k) by omega,h.at_ hw k,sdTail,List.append_assoc,List.getElem?_append_left (by simp [tail_len hw,hk])];simp [pastCells,show k < s.past.length by rw [hw.2];exact hk]
theorem sd_set (hw : s.Wf) (j : Nat) (v : Value) : (sdTail s ++ post).set (16 + j) v = pastCells s.past ++ ([Value.string s.tm,Value.int .i64 s.x,Value.int .i64 s.y,Value.int .i64 s.z] ++ post).set j v:=by
 rw [sdTail,List.append_assoc,List.set_append_right _ _ (by simp [tail_len hw]),tail_len hw,Nat.add_sub_cancel_left]
theorem SdB.setTm (h : SdB w b pre s post T) (hw : s.Wf) (v : ByteArray) : SdB (w.setCell ⟨b,pre.length + 32,none⟩ (.string v)) b pre { s with tm:=v } post T:=by
 have:=h.set_ hw 16 (.string v);rw [sd_set hw 0] at this;rw [show pre.length + 32 = pre.length + (16 + 16) by omega];unfold SdB;simpa [sdTail] using this
theorem SdB.setX (h : SdB w b pre s post T) (hw : s.Wf) (v : Int) : SdB (w.setCell ⟨b,pre.length + 33,none⟩ (.int .i64 v)) b pre { s with x:=v } post T:=by
 have:=h.set_ hw 17 (.int .i64 v);rw [sd_set hw 1] at this;rw [show pre.length + 33 = pre.length + (16 + 17) by omega];unfold SdB;simpa [sdTail] using this
theorem SdB.setY (h : SdB w b pre s post T) (hw : s.Wf) (v : Int) : SdB (w.setCell ⟨b,pre.length + 34,none⟩ (.int .i64 v)) b pre { s with y:=v } post T:=by
 have:=h.set_ hw 18 (.int .i64 v);rw [sd_set hw 2] at this;rw [show pre.length + 34 = pre.length + (16 + 18) by omega];unfold SdB;simpa [sdTail] using this
theorem SdB.setZ (h : SdB w b pre s post T) (hw : s.Wf) (v : Int) : SdB (w.setCell ⟨b,pre.length + 35,none⟩ (.int .i64 v)) b pre { s with z:=v } post T:=by
 have:=h.set_ hw 19 (.int .i64 v);rw [sd_set hw 3] at this;rw [show pre.length + 35 = pre.length + (16 + 19) by omega];unfold SdB;simpa [sdTail] using this
theorem SdB.setPast (h : SdB w b pre s post T) (hw : s.Wf) {k : Nat} (hk : k < 16) (v : Int) : SdB (w.setCell ⟨b,pre.length + 16 + k,none⟩ (.int .u8 v)) b pre { s with past:=s.past.set k v } post T:=by
 have:=h.set_ hw k (.int .u8 v);rw [sdTail,List.append_assoc,List.set_append_left _ _ (by simp [tail_len hw,hk])] at this;rw [show pre.length + 16 + k = pre.length + (16 + k) by omega];unfold SdB;simpa [sdTail,pastCells,List.map_set] using this
end
section
variable (w : World) (b o : Nat) (pre : List Value) (s : Ch.Sd) (post : List Value) (T : TypeId)
theorem inBounds_any (n : Int) :
 Calls Tryz.prog 128 #[.int .i64 n] w fun x w'=>x = .returned (.bool (Ch.inB n)) ∧ w' = w:=by
 by_cases h1 : -99 ≤ n
 ·by_cases h2 : n ≤ 99
  ·have H : Hid (Ch.inB n = true):=by simp [Hid,Ch.inB,h1,h2]
   go_enter Tryz.func128,Tryz.ntmps128
   go_wp2;go_ret;exact ⟨by rw [H.out];rfl,rfl⟩
  have H : Hid (Ch.inB n = false):=by simp [Hid,Ch.inB,h2]
  go_enter Tryz.func128,Tryz.ntmps128
  go_wp2;go_ret;exact ⟨by rw [H.out];rfl,rfl⟩
 have H : Hid (Ch.inB n = false):=by simp [Hid,Ch.inB,h1]
 go_enter Tryz.func128,Tryz.ntmps128
 go_wp2;go_ret;exact ⟨by rw [H.out];rfl,rfl⟩
theorem variable_any (c : Int) (h : SdB w b pre s post T) (hw : s.Wf) (ho : pre.length = o) :
 Calls Tryz.prog 257 #[.pointer (some ⟨b,o,none⟩),.int .u8 c] w fun x w'=>x = .returned (.int .i64 (Ch.var s c)) ∧ w' = w:=by
 subst ho;have c1:=h.cx hw;have c2:=h.cy hw;have c3:=h.cz hw;clear h
 cases q1 : c == 120 with
 | true =>
   have H:=hid (show Ch.var s c = s.x by simp [Ch.var,q1])
   go_enter Tryz.func257,Tryz.ntmps257
   go_wp2;go_ret;exact ⟨by rw [H.out];rfl,rfl⟩
 | false=>?_
 cases q2 : c == 121 with
 | true =>
   have H:=hid (show Ch.var s c = s.y by simp [Ch.var,q1,q2])
   go_enter Tryz.func257,Tryz.ntmps257
   go_wp2;go_ret;exact ⟨by rw [H.out];rfl,rfl⟩
 | false=>?_
 have H:=hid (show Ch.var s c = s.z by simp [Ch.var,q1,q2])
 go_enter Tryz.func257,Tryz.ntmps257
 go_wp2;go_ret;exact ⟨by rw [H.out];rfl,rfl⟩
theorem setVariable_any (c n : Int) (h : SdB w b pre s post T) (hw : s.Wf) (ho : pre.length = o) :
 Calls Tryz.prog 258 #[.pointer (some ⟨b,o,none⟩),.int .u8 c,.int .i64 n] w fun x w'=>x = .returned (.bool (Ch.inB n)) ∧ SdB w' b pre (if Ch.inB n then Ch.setVar s c n else s) post T ∧ Kp (fun k=>k = b) w w':=by
 subst ho;have c1:=h.cx hw;have c2:=h.cy hw;have c3:=h.cz hw
 have f1:=fun i=>h.free i
 have HH:=hid h;clear h
 cases q0 : Ch.inB n with
 | false =>
   have E:=inBounds_any w n;rw [q0] at E
   go_enter Tryz.func258,Tryz.ntmps258
   go_wp2_with fail
   refine Calls.mono E ?_;rintro x w1 ⟨rfl,rfl⟩;clear E;go_wp2;go_ret;exact ⟨rfl,HH.out,Kp.refl _ _⟩
 | true=>?_
 cases q1 : c == 120 with
 | true =>
   have H:=hid (show Ch.setVar s c n = { s with x:=n } by simp [Ch.setVar,q1]);have E:=inBounds_any w n;rw [q0] at E
   go_enter Tryz.func258,Tryz.ntmps258
   go_wp2_with fail
   refine Calls.mono E ?_;rintro x w1 ⟨rfl,rfl⟩;clear E;go_wp2;go_ret;rw [H.out];exact ⟨rfl,HH.out.setX hw n,(Kp.refl _ _).setCell (by intro _;rfl) _⟩
 | false=>?_
 cases q2 : c == 121 with
 | true =>
   have H:=hid (show Ch.setVar s c n = { s with y:=n } by simp [Ch.setVar,q1,q2]);have E:=inBounds_any w n;rw [q0] at E
   go_enter Tryz.func258,Tryz.ntmps258
   go_wp2_with fail
   refine Calls.mono E ?_;rintro x w1 ⟨rfl,rfl⟩;clear E;go_wp2;go_ret;rw [H.out];exact ⟨rfl,HH.out.setY hw n,(Kp.refl _ _).setCell (by intro _;rfl) _⟩
 | false=>?_
 have H:=hid (show Ch.setVar s c n = { s with z:=n } by simp [Ch.setVar,q1,q2]);have E:=inBounds_any w n;rw [q0] at E
 go_enter Tryz.func258,Tryz.ntmps258
 go_wp2_with fail
 refine Calls.mono E ?_;rintro x w1 ⟨rfl,rfl⟩;clear E;go_wp2;go_ret;rw [H.out];exact ⟨rfl,HH.out.setZ hw n,(Kp.refl _ _).setCell (by intro _;rfl) _⟩
end
namespace Ch
def cntP (ss : List St) (l : List Bool) (parent : Int) (inn : Bool) (j : Nat) : Bool:=(has l j == inn) && isChild ss j parent
def cntK (ss : List St) (l : List Bool) (parent : Int) (inn : Bool) (k : Nat) : Nat:=(List.range k).countP (cntP ss l parent inn)
def countCh (ss : List St) (l : List Bool) (parent : Int) (inn : Bool) : Nat:=cntK ss l parent inn ss.length
theorem cntK_succ (ss : List St) (l : List Bool) (parent : Int) (inn : Bool) (k : Nat) : cntK ss l parent inn (k + 1) = cntK ss l parent inn k + if cntP ss l parent inn k then 1 else 0:=by
 unfold cntK;rw [List.range_succ,List.countP_append];simp [List.countP_cons]
theorem cntK_le (ss : List St) (l : List Bool) (parent : Int) (inn : Bool) (k : Nat) : cntK ss l parent inn k ≤ k:=by
 have:=List.countP_le_length (p:=cntP ss l parent inn) (l:=List.range k);simpa [cntK] using this
def fits (ss : List St) (l : List Bool) (i : Int) : Bool :=
 if has l i then
  if (parAt ss i != -1) && !has l (parAt ss i) then false
  else if kindAt ss i == 2 then ((countCh ss l i true : Nat) : Int) == 1
  else if kindAt ss i == 3 then ((countCh ss l i false : Nat) : Int) == 0
  else if kindAt ss i == 5 then false
  else true
 else parAt ss i != -1
def isPast (ss : List St) (i name : Int) : Bool:=if name == 45 then true else isChild ss (place ss name) (parAt ss i)
def actChF (ss : List St) (l : List Bool) (parent : Int) : Nat → Nat → Int
 | 0,_=>-2
 | f + 1,k=>if has l k && isChild ss k parent then k else actChF ss l parent f (k + 1)
def actCh (ss : List St) (l : List Bool) (parent : Int) : Int:=actChF ss l parent ss.length 0
def pastAt (s : Sd) (k : Nat) : Int:=s.past.getD k 0
def goal (ss : List St) (s : Sd) (target : Int) : Int :=
 if decide (target < 0) || decide (16 ≤ target) || kindAt ss target != 5 then target
 else if pastAt s target.toNat == 45 then firstChild ss (parAt ss target)
 else place ss (pastAt s target.toNat)
end Ch
section
variable (ob oo : Nat) (w : World) (ss : List Ch.St) (b o : Nat) (pre : List Value) (l : List Bool) (post : List Value) (T : TypeId)
theorem countChildren_any (parent : Int) (inn : Bool) (hS : StR w ob oo ss) (hl : ss.length ≤ 1000) (h : SeB w b pre l post T) (h16 : l.length = 16) (ho : pre.length = o) :
 Calls Tryz.prog 220 #[.pointer (some ⟨ob,oo,none⟩),.int .i64 parent,.pointer (some ⟨b,o,none⟩),.bool inn] w fun x w'=>x = .returned (.int .i64 ((Ch.countCh ss l parent inn : Nat) : Int)) ∧ w' = w:=by
 obtain ⟨ao,cap,c2⟩:=hS.len
 go_enter Tryz.func220,Tryz.ntmps220
 go_wp2_with fail
 go_loop [9,10] (fun n i=>∃ k : Nat,i = .int .i64 k ∧ k ≤ ss.length ∧ n = .int .i64 ((Ch.cntK ss l parent inn k : Nat) : Int)) (fun _ i=>ss.length - (intOf i).toNat)
 case atStart=>exact ⟨0,rfl,Nat.zero_le _,rfl⟩
 case round =>
  obtain ⟨k,rfl,hk,rfl⟩:=hrel;have hle:=Ch.cntK_le ss l parent inn k
  by_cases hlt : k < ss.length
  ·have hlt' : (k : Int) < (ss.length : Int):=by omega
   have hs:=Ch.cntK_succ ss l parent inn k;have E1:=hid (has_any w b o pre l post T k h h16 ho);have E2:=hid (isChild_any ob oo w ss k parent hS hl)
   cases q1 : Ch.has l (k : Int) == inn with
   | false =>
     have HS:=hid (show Ch.cntK ss l parent inn (k + 1) = Ch.cntK ss l parent inn k by rw [hs];simp [Ch.cntP,q1]);clear hs h hS
     go_wp2_with fail
     refine hm E1 ?_;rintro x w1 ⟨rfl,rfl⟩;go_wp2
     go_round
     case rel=>exact ⟨k + 1,by go_num,by omega,by rw [HS.out]⟩
     case measure=>simp [intOf];omega
   | true=>?_
   cases q2 : Ch.isChild ss k parent with
   | false =>
     have HS:=hid (show Ch.cntK ss l parent inn (k + 1) = Ch.cntK ss l parent inn k by rw [hs];simp [Ch.cntP,q2]);rw [q2] at E2;clear hs h hS
     go_wp2_with fail
     refine hm E1 ?_;rintro x w1 ⟨rfl,rfl⟩
     go_wp2_with fail
     refine hm E2 ?_;rintro x w1 ⟨rfl,rfl⟩;go_wp2
     go_round
     case rel=>exact ⟨k + 1,by go_num,by omega,by rw [HS.out]⟩
     case measure=>simp [intOf];omega
   | true=>?_
   have HS:=hid (show Ch.cntK ss l parent inn (k + 1) = Ch.cntK ss l parent inn k + 1 by rw [hs];simp [Ch.cntP,q1,q2]);rw [q2] at E2;clear hs h hS
   go_wp2_with fail
   refine hm E1 ?_;rintro x w1 ⟨rfl,rfl⟩
   go_wp2_with fail
   refine hm E2 ?_;rintro x w1 ⟨rfl,rfl⟩;go_wp2
   go_round
   case rel=>exact ⟨k + 1,by go_num,by omega,by rw [HS.out];go_num⟩
   case measure=>simp [intOf];omega
  have hge : ¬ (k : Int) < (ss.length : Int):=by omega
  obtain rfl : k = ss.length:=by omega
  clear h hS
  go_wp2_with fail
  go_ret;exact ⟨rfl,rfl⟩
theorem isPast_any (i c : Int) (hS : StR w ob oo ss) (hl : ss.length ≤ 1000) :
 Calls Tryz.prog 172 #[.pointer (some ⟨ob,oo,none⟩),.int .i64 i,.int .u8 c] w fun x w'=>x = .returned (.bool (Ch.isPast ss i c)) ∧ w' = w:=by
 cases q : c == 45 with
 | true =>
   rw [show Ch.isPast ss i c = true by simp [Ch.isPast,q]]
   go_enter Tryz.func172,Tryz.ntmps172
   go_wp2;go_ret;exact ⟨rfl,rfl⟩
 | false=>?_
 rw [show Ch.isPast ss i c = Ch.isChild ss (Ch.place ss c) (Ch.parAt ss i) by simp [Ch.isPast,q]];have E1:=hid (parent_any ob oo w ss i hS hl);have E2:=hid (place_any ob oo w ss c hS hl);have E3:=hid (isChild_any ob oo w ss (Ch.place ss c) (Ch.parAt ss i) hS hl)
 go_enter Tryz.func172,Tryz.ntmps172
 go_wp2_with fail
 refine hm E1 ?_;rintro x w1 ⟨rfl,rfl⟩
 go_wp2_with fail
 refine hm E2 ?_;rintro x w1 ⟨rfl,rfl⟩
 go_wp2_with fail
 refine hm E3 ?_;rintro x w1 ⟨rfl,rfl⟩;go_wp2;go_ret;exact ⟨rfl,rfl⟩
theorem activeChild_any (s : Ch.Sd) (parent : Int) (hS : StR w ob oo ss) (hl : ss.length ≤ 1000) (h : SdB w b pre s post T) (hw : s.Wf) (ho : pre.length = o) :
 Calls Tryz.prog 180 #[.pointer (some ⟨b,o,none⟩),.pointer (some ⟨ob,oo,none⟩),.int .i64 parent] w fun x w'=>x = .returned (.int .i64 (Ch.actCh ss s.act parent)) ∧ w' = w:=by
 obtain ⟨ao,cap,c2⟩:=hS.len
 go_enter Tryz.func180,Tryz.ntmps180
 go_wp2_with fail
 go_loop [7] (fun i=>∃ k : Nat,i = .int .i64 k ∧ k ≤ ss.length ∧ Hid (Ch.actCh ss s.act parent = Ch.actChF ss s.act parent (ss.length - k) k)) (fun i=>ss.length - (intOf i).toNat)
 case atStart=>exact ⟨0,rfl,Nat.zero_le _,hid rfl⟩
 case round =>
  obtain ⟨k,rfl,hk,HE⟩:=hrel
  by_cases hlt : k < ss.length
  ·have hlt' : (k : Int) < (ss.length : Int):=by omega
   have ef : ss.length - k = (ss.length - (k + 1)) + 1:=by omega
   have E1:=hid (has_any w b o pre s.act (sdTail s ++ post) T k h hw.1 ho);have E2:=hid (isChild_any ob oo w ss k parent hS hl)
   cases q1 : Ch.has s.act (k : Int) with
   | false =>
     have HF:=hid (HE.out.trans (show _ = Ch.actChF ss s.act parent (ss.length - (k + 1)) (k + 1) by rw [ef];simp [Ch.actChF,q1]));rw [q1] at E1;clear ef HE h hS
     go_wp2_with fail
     refine hm E1 ?_;rintro x w1 ⟨rfl,rfl⟩;go_wp2
     go_round
     case rel=>exact ⟨k + 1,by go_num,by omega,HF⟩
     case measure=>simp [intOf];omega
   | true=>?_
   rw [q1] at E1
   cases q2 : Ch.isChild ss k parent with
   | false =>
     have HF:=hid (HE.out.trans (show _ = Ch.actChF ss s.act parent (ss.length - (k + 1)) (k + 1) by rw [ef];simp [Ch.actChF,q2]));rw [q2] at E2;clear ef HE h hS
     go_wp2_with fail
     refine hm E1 ?_;rintro x w1 ⟨rfl,rfl⟩
     go_wp2_with fail
     refine hm E2 ?_;rintro x w1 ⟨rfl,rfl⟩;go_wp2
     go_round
     case rel=>exact ⟨k + 1,by go_num,by omega,HF⟩
     case measure=>simp [intOf];omega
   | true=>?_
   have HF:=hid (HE.out.trans (show _ = ((k : Nat) : Int) by rw [ef];simp [Ch.actChF,q1,q2]));rw [q2] at E2;clear ef HE h hS
   go_wp2_with fail
   refine hm E1 ?_;rintro x w1 ⟨rfl,rfl⟩
   go_wp2_with fail
   refine hm E2 ?_;rintro x w1 ⟨rfl,rfl⟩;go_wp2;go_ret;exact ⟨by rw [HF.out];rfl,rfl⟩
  have HF:=hid (HE.out.trans (show _ = (-2 : Int) by rw [show ss.length - k = 0 by omega];rfl))
  have hge : ¬ (k : Int) < (ss.length : Int):=by omega
  clear HE h hS
  go_wp2_with fail
  go_ret;exact ⟨by rw [HF.out];rfl,rfl⟩
end
section
variable (ob oo : Nat) (w : World) (ss : List Ch.St) (b o : Nat) (pre : List Value) (l : List Bool) (post : List Value) (T : TypeId)
theorem fits_any (i : Int) (hS : StR w ob oo ss) (hl : ss.length ≤ 1000) (h : SeB w b pre l post T) (h16 : l.length = 16) (ho : pre.length = o) :
 Calls Tryz.prog 171 #[.pointer (some ⟨ob,oo,none⟩),.pointer (some ⟨b,o,none⟩),.int .i64 i] w fun x w'=>x = .returned (.bool (Ch.fits ss l i)) ∧ w' = w:=by
 have EP:=hid (parent_any ob oo w ss i hS hl);have EH:=hid (has_any w b o pre l post T i h h16 ho);have EA:=hid (has_any w b o pre l post T (Ch.parAt ss i) h h16 ho);have EK:=hid (kind_any ob oo w ss i hS hl);have EC:=hid (countChildren_any ob oo w ss b o pre l post T i true hS hl h h16 ho);have ED:=hid (countChildren_any ob oo w ss b o pre l post T i false hS hl h h16 ho)
 cases qh : Ch.has l i with
 | false =>
   rw [show Ch.fits ss l i = (Ch.parAt ss i != -1) by simp [Ch.fits,qh]];rw [qh] at EH;clear hS h
   go_enter Tryz.func171,Tryz.ntmps171
   go_wp2_with fail
   refine hm EP ?_;rintro x w1 ⟨rfl,rfl⟩
   go_wp2_with fail
   refine hm EH ?_;rintro x w1 ⟨rfl,rfl⟩;go_wp2;go_ret;exact ⟨rfl,rfl⟩
 | true=>?_
 rw [qh] at EH
 cases qp : Ch.parAt ss i != -1 with
 | false =>
   cases k2 : Ch.kindAt ss i == 2 with
   | true =>
     rw [show Ch.fits ss l i = (((Ch.countCh ss l i true : Nat) : Int) == 1) by simp [Ch.fits,qh,qp,k2]];clear hS h
     go_enter Tryz.func171,Tryz.ntmps171
     go_wp2_with fail
     refine hm EP ?_;rintro x w1 ⟨rfl,rfl⟩
     go_wp2_with fail
     refine hm EH ?_;rintro x w1 ⟨rfl,rfl⟩
     go_wp2_with fail
     refine hm EK ?_;rintro x w1 ⟨rfl,rfl⟩
     go_wp2_with fail
     refine hm EC ?_;rintro x w1 ⟨rfl,rfl⟩;go_wp2;go_ret;exact ⟨rfl,rfl⟩
   | false=>?_
   cases k3 : Ch.kindAt ss i == 3 with
   | true =>
     rw [show Ch.fits ss l i = (((Ch.countCh ss l i false : Nat) : Int) == 0) by simp [Ch.fits,qh,qp,k2,k3]];clear hS h
     go_enter Tryz.func171,Tryz.ntmps171
     go_wp2_with fail
     refine hm EP ?_;rintro x w1 ⟨rfl,rfl⟩
     go_wp2_with fail
     refine hm EH ?_;rintro x w1 ⟨rfl,rfl⟩
     go_wp2_with fail
     refine hm EK ?_;rintro x w1 ⟨rfl,rfl⟩
     go_wp2_with fail
     refine hm ED ?_;rintro x w1 ⟨rfl,rfl⟩;go_wp2;go_ret;exact ⟨rfl,rfl⟩
   | false=>?_
   cases k5 : Ch.kindAt ss i == 5 with
   | true =>
     rw [show Ch.fits ss l i = false by simp [Ch.fits,qh,qp,k2,k3,k5]];clear hS h
     go_enter Tryz.func171,Tryz.ntmps171
     go_wp2_with fail
     refine hm EP ?_;rintro x w1 ⟨rfl,rfl⟩
     go_wp2_with fail
     refine hm EH ?_;rintro x w1 ⟨rfl,rfl⟩
     go_wp2_with fail
     refine hm EK ?_;rintro x w1 ⟨rfl,rfl⟩;go_wp2;go_ret;exact ⟨rfl,rfl⟩
   | false=>?_
   rw [show Ch.fits ss l i = true by simp [Ch.fits,qh,qp,k2,k3,k5]];clear hS h
   go_enter Tryz.func171,Tryz.ntmps171
   go_wp2_with fail
   refine hm EP ?_;rintro x w1 ⟨rfl,rfl⟩
   go_wp2_with fail
   refine hm EH ?_;rintro x w1 ⟨rfl,rfl⟩
   go_wp2_with fail
   refine hm EK ?_;rintro x w1 ⟨rfl,rfl⟩;go_wp2;go_ret;exact ⟨rfl,rfl⟩
 | true=>?_
 cases qa : Ch.has l (Ch.parAt ss i) with
 | false =>
   rw [show Ch.fits ss l i = false by simp [Ch.fits,qh,qp,qa]];rw [qa] at EA;clear hS h
   go_enter Tryz.func171,Tryz.ntmps171
   go_wp2_with fail
   refine hm EP ?_;rintro x w1 ⟨rfl,rfl⟩
   go_wp2_with fail
   refine hm EH ?_;rintro x w1 ⟨rfl,rfl⟩
   go_wp2_with fail
   refine hm EA ?_;rintro x w1 ⟨rfl,rfl⟩;go_wp2;go_ret;exact ⟨rfl,rfl⟩
 | true=>?_
 rw [qa] at EA
 cases k2 : Ch.kindAt ss i == 2 with
 | true =>
   rw [show Ch.fits ss l i = (((Ch.countCh ss l i true : Nat) : Int) == 1) by simp [Ch.fits,qh,qp,qa,k2]];clear hS h
   go_enter Tryz.func171,Tryz.ntmps171
   go_wp2_with fail
   refine hm EP ?_;rintro x w1 ⟨rfl,rfl⟩
   go_wp2_with fail
   refine hm EH ?_;rintro x w1 ⟨rfl,rfl⟩
   go_wp2_with fail
   refine hm EA ?_;rintro x w1 ⟨rfl,rfl⟩
   go_wp2_with fail
   refine hm EK ?_;rintro x w1 ⟨rfl,rfl⟩
   go_wp2_with fail
   refine hm EC ?_;rintro x w1 ⟨rfl,rfl⟩;go_wp2;go_ret;exact ⟨rfl,rfl⟩
 | false=>?_
 cases k3 : Ch.kindAt ss i == 3 with
 | true =>
   rw [show Ch.fits ss l i = (((Ch.countCh ss l i false : Nat) : Int) == 0) by simp [Ch.fits,qh,qp,qa,k2,k3]];clear hS h
   go_enter Tryz.func171,Tryz.ntmps171
   go_wp2_with fail
   refine hm EP ?_;rintro x w1 ⟨rfl,rfl⟩
   go_wp2_with fail
   refine hm EH ?_;rintro x w1 ⟨rfl,rfl⟩
   go_wp2_with fail
   refine hm EA ?_;rintro x w1 ⟨rfl,rfl⟩
   go_wp2_with fail
   refine hm EK ?_;rintro x w1 ⟨rfl,rfl⟩
   go_wp2_with fail
   refine hm ED ?_;rintro x w1 ⟨rfl,rfl⟩;go_wp2;go_ret;exact ⟨rfl,rfl⟩
 | false=>?_
 cases k5 : Ch.kindAt ss i == 5 with
 | true =>
   rw [show Ch.fits ss l i = false by simp [Ch.fits,qh,qp,qa,k2,k3,k5]];clear hS h
   go_enter Tryz.func171,Tryz.ntmps171
   go_wp2_with fail
   refine hm EP ?_;rintro x w1 ⟨rfl,rfl⟩
   go_wp2_with fail
   refine hm EH ?_;rintro x w1 ⟨rfl,rfl⟩
   go_wp2_with fail
   refine hm EA ?_;rintro x w1 ⟨rfl,rfl⟩
   go_wp2_with fail
   refine hm EK ?_;rintro x w1 ⟨rfl,rfl⟩;go_wp2;go_ret;exact ⟨rfl,rfl⟩
 | false=>?_
 rw [show Ch.fits ss l i = true by simp [Ch.fits,qh,qp,qa,k2,k3,k5]];clear hS h
 go_enter Tryz.func171,Tryz.ntmps171
 go_wp2_with fail
 refine hm EP ?_;rintro x w1 ⟨rfl,rfl⟩
 go_wp2_with fail
 refine hm EH ?_;rintro x w1 ⟨rfl,rfl⟩
 go_wp2_with fail
 refine hm EA ?_;rintro x w1 ⟨rfl,rfl⟩
 go_wp2_with fail
 refine hm EK ?_;rintro x w1 ⟨rfl,rfl⟩;go_wp2;go_ret;exact ⟨rfl,rfl⟩
theorem goal_any (s : Ch.Sd) (g : Int) (hS : StR w ob oo ss) (hl : ss.length ≤ 1000) (h : SdB w b pre s post T) (hw : s.Wf) (ho : pre.length = o) :
 Calls Tryz.prog 160 #[.pointer (some ⟨b,o,none⟩),.pointer (some ⟨ob,oo,none⟩),.int .i64 g] w fun x w'=>x = .returned (.int .i64 (Ch.goal ss s g)) ∧ w' = w:=by
 subst ho;have EK:=hid (kind_any ob oo w ss g hS hl);have EP:=hid (parent_any ob oo w ss g hS hl);have EF:=hid (firstChild_any ob oo w ss (Ch.parAt ss g) hS hl)
 by_cases h0 : g < 0
 ·rw [show Ch.goal ss s g = g by simp [Ch.goal,h0]]
  clear hS h
  go_enter Tryz.func160,Tryz.ntmps160
  go_wp2;go_ret;exact ⟨rfl,rfl⟩
 have h0' : decide (g < 0) = false:=by simp;omega
 by_cases h1 : 16 ≤ g
 ·rw [show Ch.goal ss s g = g by simp [Ch.goal,h1]]
  clear hS h
  go_enter Tryz.func160,Tryz.ntmps160
  go_wp2;go_ret;exact ⟨rfl,rfl⟩
 have h1' : decide (16 ≤ g) = false:=by simp;omega
 obtain ⟨k,rfl⟩ : ∃ k : Nat,g = (k : Int):=⟨g.toNat,by omega⟩
 have hk : k < 16:=by omega
 have hk' : (k : Int) < 16:=by omega
 have c : w.cell? ⟨b,pre.length + 16 + k,none⟩ = some (.int .u8 (Ch.pastAt s k)):=h.past hw hk;have EL:=hid (place_any ob oo w ss (Ch.pastAt s k) hS hl)
 cases qk : Ch.kindAt ss (k : Int) != 5 with
 | true =>
   rw [show Ch.goal ss s (k : Int) = (k : Int) by simp [Ch.goal,qk]];clear hS h
   go_enter Tryz.func160,Tryz.ntmps160
   go_wp2_with fail
   refine hm EK ?_;rintro x w1 ⟨rfl,rfl⟩;go_wp2;go_ret;exact ⟨rfl,rfl⟩
 | false=>?_
 cases qc : Ch.pastAt s k == 45 with
 | true =>
   rw [show Ch.goal ss s (k : Int) = Ch.firstChild ss (Ch.parAt ss k) by simp [Ch.goal,h0',h1',qk,qc]];clear hS h
   go_enter Tryz.func160,Tryz.ntmps160
   go_wp2_with fail
   refine hm EK ?_;rintro x w1 ⟨rfl,rfl⟩
   go_wp2_with fail
   refine hm EP ?_;rintro x w1 ⟨rfl,rfl⟩
   go_wp2_with fail
   refine hm EF ?_;rintro x w1 ⟨rfl,rfl⟩;go_wp2;go_ret;exact ⟨rfl,rfl⟩
 | false=>?_
 rw [show Ch.goal ss s (k : Int) = Ch.place ss (Ch.pastAt s k) by simp [Ch.goal,h0',h1',qk,qc]];clear hS h
 go_enter Tryz.func160,Tryz.ntmps160
 go_wp2_with fail
 refine hm EK ?_;rintro x w1 ⟨rfl,rfl⟩
 go_wp2_with fail
 refine hm EL ?_;rintro x w1 ⟨rfl,rfl⟩;go_wp2;go_ret;exact ⟨rfl,rfl⟩
end
def isAggD (d : TypeDesc) : Bool:=match d with | .struct _ | .array _ _=>true | _=>false
section
variable {P : Program}
theorem run_loadVar_part (w : World) (b o : Nat) (ty : TypeId) (cs : List Value) (d : TypeDesc) (hc : ∀ j v,cs[j]? = some v → w.cell? ⟨b,o + j,none⟩ = some v)
 (hu : P.underlying ty = some d) (hd : isAggD d = true) (hi : (P.info? ty).map (·.size) = some cs.length) :
 (loadVar ty ⟨b,o,none⟩).run P w = .ok (.agg cs.toArray) w:=by
 have hl : (loadCells ⟨b,o,none⟩ cs.length).run P w = .ok cs.toArray w :=
  run_loadCells_list (P:=P) w ⟨b,o,none⟩ cs (fun j v hv=>by
   have hadd : (⟨b,o,none⟩ : Addr).add j = ⟨b,o + j,none⟩:=by unfold Addr.add;split <;> simp_all
   rw [hadd];exact hc j v hv)
 cases hq : P.info? ty with
 | none=>simp [hq] at hi
 | some i=>?_
 have hs : i.size = cs.length:=by simpa [hq] using hi
 have hagg : (isAgg ty).run P w = .ok true w:=by
  unfold isAgg;rw [Sem.run_bind,run_underlying hu w]
  cases d <;> simp_all [isAggD]
 simp [loadVar,Sem.run_bind,hagg,sizeOf,typeInfo,hq,hs,hl]
theorem wpList_load_part {ops : Array Oper} {rest : List Oper} {op : Oper} {a : Act} {w : World} {Q : Exit → Act → World → Prop} (hgd : op.guard = none) (ty : TypeId) (x : Operand) (hop : op.op = .load ty x)
 (b o : Nat) (hx : a.eval x = .pointer (some ⟨b,o,none⟩)) (cs : List Value) (d : TypeDesc) (hc : ∀ j v,cs[j]? = some v → w.cell? ⟨b,o + j,none⟩ = some v)
 (hu : P.underlying ty = some d) (hd : isAggD d = true) (hi : (P.info? ty).map (·.size) = some cs.length)
 (h : wpList P ops Q rest (a.put op.dst (.agg cs.toArray)) w) : wpList P ops Q (op :: rest) a w :=
 wpList_plain hgd fun K hK=>by
  unfold Oper.wp execOp;simp only [hop,hx,Instr.loadAt,Instr.sureAddr,Sem.run_bind,Sem.run_pure,Result.andThen_ok,run_loadVar_part w b o ty cs d hc hu hd hi];exact hK _ _ h
theorem results_cell_tmp {fn : Func} {p q : Tmp} {ty : TypeId} (h : fn.results = #[.cell p ty,.tmp q]) (tmps : Array Value) (w : World) (g : Nat) (t : TypeId) (cs : Array Value) (fr : Nat × Nat) (d : TypeDesc)
 (hp : tmps.getD p undef = .pointer (some ⟨g,0,none⟩)) (hg : w.heap[g]? = some (.cells cs t fr))
 (hu : P.underlying ty = some d) (hd : isAggD d = true) (hi : (P.info? ty).map (·.size) = some cs.size) :
 (results fn tmps).run P w = .ok (.tuple #[.agg cs,tmps.getD q undef]) w:=by
 have hp' : tmps[p]?.getD undef = .pointer (some ⟨g,0,none⟩):=by simpa using hp
 simp [results,h,hp',asAddr,run_loadVar_row w g t ty cs fr d hg hu (by cases d <;> simp_all [isAggD]) hi]
theorem results_cell_tmp2 {fn : Func} {p q r : Tmp} {ty : TypeId} (h : fn.results = #[.cell p ty,.tmp q,.tmp r]) (tmps : Array Value) (w : World) (g : Nat) (t : TypeId) (cs : Array Value) (fr : Nat × Nat) (d : TypeDesc)
 (hp : tmps.getD p undef = .pointer (some ⟨g,0,none⟩)) (hg : w.heap[g]? = some (.cells cs t fr))
 (hu : P.underlying ty = some d) (hd : isAggD d = true) (hi : (P.info? ty).map (·.size) = some cs.size) :
 (results fn tmps).run P w = .ok (.tuple #[.agg cs,tmps.getD q undef,tmps.getD r undef]) w:=by
 have hp' : tmps[p]?.getD undef = .pointer (some ⟨g,0,none⟩):=by simpa using hp
 simp [results,h,hp',asAddr,run_loadVar_row w g t ty cs fr d hg hu (by cases d <;> simp_all [isAggD]) hi]
end
theorem Tryz.sizeSet : (Tryz.prog.info? 91).map (·.size) = some 16:=by kernel_rfl
theorem Tryz.sizeMem : (Tryz.prog.info? 93).map (·.size) = some 16:=by kernel_rfl
theorem Tryz.sizeStand : (Tryz.prog.info? 95).map (·.size) = some 36:=by kernel_rfl
theorem zsetOne : (zB16 : Array Value).all (fun x=>x.oneCell') = true:=by kernel_rfl
theorem zmemOne : (zU16 : Array Value).all (fun x=>x.oneCell') = true:=by kernel_rfl
theorem Tryz.undSet : ∃ d,Tryz.prog.underlying 91 = some d ∧ isAggD d = true:=⟨_,Tryz.underlying91,rfl⟩
theorem Tryz.undMem : ∃ d,Tryz.prog.underlying 93 = some d ∧ isAggD d = true:=⟨_,Tryz.underlying93,rfl⟩
theorem Tryz.undStand : ∃ d,Tryz.prog.underlying 95 = some d ∧ isAggD d = true:=⟨_,Tryz.underlying95,rfl⟩
end Go.Proofs.YtnlbchmfcebeeaaGreat
