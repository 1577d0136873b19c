import Derived.Test.YtnlbchmfcebeeaaGreatTX2
import Derived.Test.YtnlbchmfcebeeaaGreatTA1
import Derived.Test.YtnlbchmfcebeeaaGreatTX4
set_option maxHeartbeats 12800000
set_option maxRecDepth 100000
namespace Go.Proofs.YtnlbchmfcebeeaaGreat
open Go.RowKit
theorem Ch.untilF_hit {t : ByteArray} {b : Int} {f i : Nat} (h : (Ch.peek t i == b) = true) : Ch.untilF t b (f + 1) i = i:=by simp [Ch.untilF,h]
theorem Ch.untilF_miss {t : ByteArray} {b : Int} {f i : Nat} (h : (Ch.peek t i == b) = false) : Ch.untilF t b (f + 1) i = Ch.untilF t b f (i + 1):=by simp [Ch.untilF,h]
theorem Ch.peek_get {t : ByteArray} {k : Nat} (h : k < t.size) : Ch.peek t k = (t[k].toNat : Int):=by unfold Ch.peek;rw [dif_pos h]
section
variable (w : World)
theorem rUntil_any (t : ByteArray) (fr : Nat) (b : Int) (ht : t.size ≤ 240) :
 Calls Tryz.prog 233 #[.string t,.int .i64 fr,.int .u8 b] w fun x w'=>x = .returned (.int .i64 (Ch.until_ t fr b)) ∧ w' = w:=by
 by_cases hle : fr ≤ t.size
 ·have HE0:=hid (show Ch.until_ t fr b = Ch.untilF t b (t.size - fr) fr by unfold Ch.until_;rw [if_pos hle])
  go_enter Tryz.func233,Tryz.ntmps233
  go_wp2
  go_loop [7] (fun i=>∃ k : Nat,i = .int .i64 k ∧ k ≤ t.size ∧ Hid (Ch.until_ t fr b = Ch.untilF t b (t.size - k) k)) (fun i=>t.size - (intOf i).toNat)
  case atStart=>exact ⟨fr,rfl,hle,HE0⟩
  case round =>
   obtain ⟨k,rfl,hk,HE⟩:=hrel
   by_cases hlt : k < t.size
   ·have hlt' : (k : Int) < (t.size : Int):=by omega
    have hg:=hid (Ch.peek_get hlt)
    cases q : (t[k].toNat : Int) == b with
    | true =>
      go_wp2;go_ret;rw [HE.out,show t.size - k = (t.size - (k + 1)) + 1 by omega,Ch.untilF_hit (by rw [hg.out];exact q)];exact ⟨rfl,rfl⟩
    | false=>?_
    go_wp2
    go_round
    case rel=>exact ⟨k + 1,by go_num,by omega,hid (by rw [HE.out,show t.size - k = (t.size - (k + 1)) + 1 by omega,Ch.untilF_miss (by rw [hg.out];exact q)])⟩
    case measure=>simp [intOf];omega
   have hge : ¬ (k : Int) < (t.size : Int):=by omega
   obtain rfl : k = t.size:=by omega
   go_wp2;go_ret;rw [HE.out,Nat.sub_self];exact ⟨rfl,rfl⟩
 have HE0:=hid (show Ch.until_ t fr b = t.size by unfold Ch.until_;rw [if_neg hle])
 have hge : ¬ (fr : Int) < (t.size : Int):=by omega
 go_enter Tryz.func233,Tryz.ntmps233
 go_wp2
 go_loop [7] (fun i=>i = .int .i64 fr) (fun i=>0)
 case atStart=>rfl
 case round =>
  subst hrel;go_wp2;go_ret;rw [HE0.out];exact ⟨rfl,rfl⟩
theorem rOpened_any (c : Int) :
 Calls Tryz.prog 231 #[.int .u8 c] w fun e w'=>e = .returned (.int .i64 (Ch.kindOf c)) ∧ w' = w:=by
 unfold Ch.kindOf
 cases b1 : c == 91 <;> cases b2 : c == 60 <;> cases b3 : c == 42 <;>
  (go_enter Tryz.func231,Tryz.ntmps231
   go_wp2;go_ret
   exact ⟨by simp,rfl⟩)
theorem Ch.until_le (t : ByteArray) (fr : Nat) (b : Int) : Ch.until_ t fr b ≤ t.size:=by
 have : ∀ f i,i + f ≤ t.size → Ch.untilF t b f i ≤ t.size:=by
  intro f
  induction f with
  | zero=>intro i h;simp [Ch.untilF];omega
  | succ f ih=>intro i h;simp only [Ch.untilF];split;omega;exact ih (i + 1) (by omega)
 unfold Ch.until_;split
 ·exact this _ _ (by omega)
 exact Nat.le_refl _
theorem rReaches_any (t : ByteArray) (p : Nat) (ht : t.size ≤ 240) (hp : p + 1 < t.size) :
 Calls Tryz.prog 232 #[.string t,.int .i64 p] w fun e w'=>e = .returned (.int .i64 (Ch.reachesR t p)) ∧ w' = w:=by
 unfold Ch.reachesR;have hg:=hid (Ch.peek_get hp)
 have hlt : (p : Int) + 1 < (t.size : Int):=by omega
 rw [hg.out]
 cases q : (t[p + 1].toNat : Int) == 63 with
 | true =>
   have E:=hid (rUntil_any w t (p + 4 + 1) 62 ht);have hu:=Ch.until_le t (p + 4 + 1) 62
   go_enter Tryz.func232,Tryz.ntmps232
   go_wp2_with fail
   refine hm E ?_;rintro x w2 ⟨rfl,rfl⟩;go_wp2;go_ret;exact ⟨by simp,rfl⟩
 | false=>?_
 have E:=hid (rUntil_any w t (p + 1) 62 ht);have hu:=Ch.until_le t (p + 1) 62
 go_enter Tryz.func232,Tryz.ntmps232
 go_wp2_with fail
 refine hm E ?_;rintro x w2 ⟨rfl,rfl⟩;go_wp2;go_ret;exact ⟨by simp,rfl⟩
end
namespace Ch
theorem wItem_len (k : Wk) (c : Int) : (wItem k c).2.open_.length ≤ k.open_.length + 1:=by
 unfold wItem
 split
 ·simp
 split
 ·simp
 split
 ·simp
 split
 ·simp
 split
 ·simp
 split
 ·simp
 split
 ·simp
 split
 ·simp
 simp;omega
theorem ite_len {p : Prop} [Decidable p] {a b : Int × Wk} {n : Nat} (ha : a.2.open_.length ≤ n) (hb : b.2.open_.length ≤ n) : (if p then a else b).2.open_.length ≤ n:=by split <;> assumption
theorem wNext_len (k : Wk) (c : Int) : (wNext k c).2.open_.length ≤ k.open_.length + 1:=by
 have:=wItem_len k c;unfold wNext
 repeat' (first | exact this | exact Nat.le_succ _ | refine ite_len ?_ ?_)
theorem placeRF_bad {t : ByteArray} {f i : Nat} {w : Wk} {c : Int} (hc : peek t i = c) (h : ((wNext w c).1 == -1) = true) : placeRF t (f + 1) i w = i:=by simp only [placeRF,hc,h,if_true]
theorem placeRF_go {t : ByteArray} {f i : Nat} {w : Wk} {c : Int} (hc : peek t i = c) (h : ((wNext w c).1 == -1) = false) : placeRF t (f + 1) i w = placeRF t f (i + 1) { (wNext w c).2 with mode:=(wNext w c).1 }:=by
 simp only [placeRF,hc,h,Bool.false_eq_true,if_false]
end Ch
section
variable (w : World)
theorem rPlace_any (t : ByteArray) (ht : t.size ≤ 240) :
 Calls Tryz.prog 193 #[.string t] w fun x w'=>x = .returned (.int .i64 (Ch.placeR t)) ∧ Kp (fun _=>False) w w':=by
 have hW : WkB (w.alloc (.cells #[.int .i64 0,.slice none 0 0,.int .u8 0] 289)) w.heap.size w.heap.size ⟨0,[],0⟩:=⟨.slice none 0 0,heap_alloc_new w _,.inl ⟨rfl,rfl⟩⟩
 have K0 : Kp (fun _=>False) w (w.alloc (.cells #[.int .i64 0,.slice none 0 0,.int .u8 0] 289)):=(Kp.refl _ _).alloc _
 go_enter Tryz.func193,Tryz.ntmps193
 go_upto_region 3 with (fail)
 generalize w.alloc (.cells #[.int .i64 0,.slice none 0 0,.int .u8 0] 289) = w1 at *
 go_loopw [4] (fun i wr=>∃ k : Nat,i = .int .i64 k ∧ k ≤ t.size ∧ ∃ wk : Ch.Wk,WkB wr w.heap.size w.heap.size wk ∧ wk.open_.length ≤ k ∧ Hid (Ch.placeR t = Ch.placeRF t (t.size - k) k wk) ∧ Kp (fun i=>w.heap.size ≤ i) w1 wr) (fun i _=>t.size - (intOf i).toNat)
 case atStart=>exact ⟨0,rfl,Nat.zero_le _,⟨0,[],0⟩,hW,Nat.zero_le _,hid rfl,Kp.refl _ _⟩
 case round =>
  obtain ⟨k,rfl,hk,wk,hB,hl,HE,KW⟩:=hrel
  by_cases hlt : k < t.size
  ·have hlt' : (k : Int) < (t.size : Int):=by omega
   have hg:=hid (Ch.peek_get hlt);have hn:=Ch.wNext_len wk (t[k].toNat : Int);have E:=hid (wNext_any wr w.heap.size w.heap.size wk (t[k].toNat : Int) hB (Nat.le_refl _) (by omega));have HX:=hid (And.intro KW HE);clear hB KW HE
   cases q : (Ch.wNext wk (t[k].toNat : Int)).1 == -1 with
   | true =>
     go_wp2_with fail
     refine hm E ?_;rintro x w2 ⟨rfl,h2,K2⟩;have z0:=h2.mode;have f0:=h2.free 0;have HY:=hid K2;clear h2 K2 E;go_wp2;go_ret;obtain ⟨KW,HE⟩:=HX.out;rw [HE.out,show t.size - k = (t.size - (k + 1)) + 1 by omega,Ch.placeRF_bad hg.out q];exact ⟨rfl,K0.trans' ((KW.trans HY.out).setCell (p:=⟨w.heap.size,0,none⟩) (fun _=>Nat.le_refl _) _) (fun i hi x=>by omega)⟩
   | false=>?_
   go_wp2_with fail
   refine hm E ?_;rintro x w2 ⟨rfl,h2,K2⟩;have z0:=h2.mode;have f0:=h2.free 0;have HY:=hid (And.intro h2 K2);clear h2 K2 E;go_wp2
   go_roundw
   case rel =>
    obtain ⟨KW,HE⟩:=HX.out;obtain ⟨h2,K2⟩:=HY.out;refine ⟨k + 1,by go_num,by omega,_,h2.set0 _,by simp only;omega,hid ?_,(KW.trans K2).setCell (p:=⟨w.heap.size,0,none⟩) (fun _=>Nat.le_refl _) _⟩;rw [HE.out,show t.size - k = (t.size - (k + 1)) + 1 by omega,Ch.placeRF_go hg.out q]
   case measure=>simp [intOf];omega
  have hge : ¬ (k : Int) < (t.size : Int):=by omega
  obtain rfl : k = t.size:=by omega
  have z0:=hB.mode;have HX:=hid (And.intro KW HE);clear hB KW HE
  cases q : wk.mode != 18 with
  | true =>
    go_wp2;go_ret;obtain ⟨KW,HE⟩:=HX.out;rw [HE.out,Nat.sub_self,show Ch.placeRF t 0 t.size wk = (t.size : Int) by simp only [Ch.placeRF,q,if_true]];exact ⟨rfl,K0.trans' KW (fun i hi x=>by omega)⟩
  | false=>?_
  go_wp2;go_ret;obtain ⟨KW,HE⟩:=HX.out;rw [HE.out,Nat.sub_self,show Ch.placeRF t 0 t.size wk = -1 by simp only [Ch.placeRF,q,Bool.false_eq_true,if_false]];exact ⟨rfl,K0.trans' KW (fun i hi x=>by omega)⟩
end
end Go.Proofs.YtnlbchmfcebeeaaGreat
