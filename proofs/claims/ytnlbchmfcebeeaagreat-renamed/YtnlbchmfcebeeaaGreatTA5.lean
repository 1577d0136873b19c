import Derived.Test.YtnlbchmfcebeeaaGreatTA4
set_option maxHeartbeats 12800000
set_option maxRecDepth 100000
namespace Go.Proofs.YtnlbchmfcebeeaaGreat
open Go.RowKit
theorem items_any (B b : Nat) (t : ByteArray) (ht : t.size ≤ 240) (m : Nat) : ItemsAt B b t m:=by
 induction m using Nat.strongRecOn with
 | _ m ih =>
 intro w r self cl H hok hcl hm
 go_enter Tryz.func156,Tryz.ntmps156
 go_wp2_with fail
 go_loopg [] m (fun k wr=>∃ r1,Hid (Ch.itemsF t m self cl r = Ch.itemsF t k self cl r1) ∧ Ch.Ok t r1 ∧ (t.size + 1 ≤ k + r1.pos ∧ k ≤ m) ∧ Rd wr B b t r1 ∧ Below B w wr)
 case atStart=>exact ⟨r,hid rfl,hok,⟨hm,Nat.le_refl _⟩,H,Below.refl _ _⟩
 case round =>
  obtain ⟨r1,HE,ho1,⟨hk,hkm⟩,⟨sv,tv,bv,uv,lt,lb,h1⟩,B1⟩:=hrel;have hp1:=ho1.2
  obtain ⟨k,rfl⟩ : ∃ k,gk = k + 1:=⟨gk - 1,by omega⟩
  clear H hok hm
  cases q40 : Ch.peek t r1.pos == 40 with
  | true =>
    have hlt : r1.pos < t.size:=Ch.lt_of_eq (c:=40) (by decide) q40;have hs:=Ch.stateW_ok (fun a c s hc hs=>Ch.itemsF_ok k a c s hc hs) self hlt ho1
    cases q9 : (Ch.stateW t (Ch.itemsF t k) self r1).1 with
    | false =>
      have HF:=hid (HE.out.trans (show Ch.itemsF t (k + 1) self cl r1 = (false,(Ch.stateW t (Ch.itemsF t k) self r1).2) by simp [Ch.itemsF,Ch.isOpen,q40,q9]))
      go_wp2_with fail
      refine (peek_any b t r1.pos _ h1.blk.text h1.blk.pos).mono ?_;rintro x w1 ⟨rfl,n1,rfl⟩;have K2 : Kp (fun k=>k = b) wr (wr.drewN n1):=(Kp.refl _ _).drewN _;have F2:=h1.move K2 (fun _ _ x=>x) (h1.blk.drewN n1);have B2 : Below B w (wr.drewN n1):=B1.trans (K2.below h1.lowSize (fun k x=>h1.low (Or.inl x)));generalize wr.drewN n1 = w2 at K2 F2 B2 ⊢;clear K2 h1 B1
      go_wp2_with fail
      have E:=state_any B b t k (ih k (by omega)) w2 r1 self ⟨_,_,_,_,_,_,F2⟩ ho1 hlt (by omega) ht;rw [q9] at E;refine Calls.mono E ?_;rintro x w3 ⟨rfl,R3,B3⟩;have B4:=B2.trans B3;clear E F2 B2 B3;go_wp2;go_ret;rw [HF.out];exact ⟨rfl,R3,B4⟩
    | true=>?_
    have HF:=hid (HE.out.trans (show Ch.itemsF t (k + 1) self cl r1 = Ch.itemsF t k self cl (Ch.stateW t (Ch.itemsF t k) self r1).2 by simp [Ch.itemsF,Ch.isOpen,q40,q9]))
    go_wp2_with fail
    refine (peek_any b t r1.pos _ h1.blk.text h1.blk.pos).mono ?_;rintro x w1 ⟨rfl,n1,rfl⟩;have K2 : Kp (fun k=>k = b) wr (wr.drewN n1):=(Kp.refl _ _).drewN _;have F2:=h1.move K2 (fun _ _ x=>x) (h1.blk.drewN n1);have B2 : Below B w (wr.drewN n1):=B1.trans (K2.below h1.lowSize (fun k x=>h1.low (Or.inl x)));generalize wr.drewN n1 = w2 at K2 F2 B2 ⊢;clear K2 h1 B1
    go_wp2_with fail
    have E:=state_any B b t k (ih k (by omega)) w2 r1 self ⟨_,_,_,_,_,_,F2⟩ ho1 hlt (by omega) ht;rw [q9] at E;refine Calls.mono E ?_;rintro x w3 ⟨rfl,R3,B3⟩;have B4:=B2.trans B3;clear E F2 B2 B3;go_wp2
    go_roundg k
    case measure=>omega
    case rel=>exact ⟨_,HF,hs.1,by omega,R3,B4⟩
  | false=>?_
  cases q91 : Ch.peek t r1.pos == 91 with
  | true =>
    have hlt : r1.pos < t.size:=Ch.lt_of_eq (c:=91) (by decide) q91;have hs:=Ch.stateW_ok (fun a c s hc hs=>Ch.itemsF_ok k a c s hc hs) self hlt ho1
    cases q9 : (Ch.stateW t (Ch.itemsF t k) self r1).1 with
    | false =>
      have HF:=hid (HE.out.trans (show Ch.itemsF t (k + 1) self cl r1 = (false,(Ch.stateW t (Ch.itemsF t k) self r1).2) by simp [Ch.itemsF,Ch.isOpen,q40,q91,q9]))
      go_wp2_with fail
      refine (peek_any b t r1.pos _ h1.blk.text h1.blk.pos).mono ?_;rintro x w1 ⟨rfl,n1,rfl⟩;have K2 : Kp (fun k=>k = b) wr (wr.drewN n1):=(Kp.refl _ _).drewN _;have F2:=h1.move K2 (fun _ _ x=>x) (h1.blk.drewN n1);have B2 : Below B w (wr.drewN n1):=B1.trans (K2.below h1.lowSize (fun k x=>h1.low (Or.inl x)));generalize wr.drewN n1 = w2 at K2 F2 B2 ⊢;clear K2 h1 B1
      go_wp2_with fail
      have E:=state_any B b t k (ih k (by omega)) w2 r1 self ⟨_,_,_,_,_,_,F2⟩ ho1 hlt (by omega) ht;rw [q9] at E;refine Calls.mono E ?_;rintro x w3 ⟨rfl,R3,B3⟩;have B4:=B2.trans B3;clear E F2 B2 B3;go_wp2;go_ret;rw [HF.out];exact ⟨rfl,R3,B4⟩
    | true=>?_
    have HF:=hid (HE.out.trans (show Ch.itemsF t (k + 1) self cl r1 = Ch.itemsF t k self cl (Ch.stateW t (Ch.itemsF t k) self r1).2 by simp [Ch.itemsF,Ch.isOpen,q40,q91,q9]))
    go_wp2_with fail
    refine (peek_any b t r1.pos _ h1.blk.text h1.blk.pos).mono ?_;rintro x w1 ⟨rfl,n1,rfl⟩;have K2 : Kp (fun k=>k = b) wr (wr.drewN n1):=(Kp.refl _ _).drewN _;have F2:=h1.move K2 (fun _ _ x=>x) (h1.blk.drewN n1);have B2 : Below B w (wr.drewN n1):=B1.trans (K2.below h1.lowSize (fun k x=>h1.low (Or.inl x)));generalize wr.drewN n1 = w2 at K2 F2 B2 ⊢;clear K2 h1 B1
    go_wp2_with fail
    have E:=state_any B b t k (ih k (by omega)) w2 r1 self ⟨_,_,_,_,_,_,F2⟩ ho1 hlt (by omega) ht;rw [q9] at E;refine Calls.mono E ?_;rintro x w3 ⟨rfl,R3,B3⟩;have B4:=B2.trans B3;clear E F2 B2 B3;go_wp2
    go_roundg k
    case measure=>omega
    case rel=>exact ⟨_,HF,hs.1,by omega,R3,B4⟩
  | false=>?_
  cases q60 : Ch.peek t r1.pos == 60 with
  | true =>
    have hlt : r1.pos < t.size:=Ch.lt_of_eq (c:=60) (by decide) q60;have hs:=Ch.stateW_ok (fun a c s hc hs=>Ch.itemsF_ok k a c s hc hs) self hlt ho1
    cases q9 : (Ch.stateW t (Ch.itemsF t k) self r1).1 with
    | false =>
      have HF:=hid (HE.out.trans (show Ch.itemsF t (k + 1) self cl r1 = (false,(Ch.stateW t (Ch.itemsF t k) self r1).2) by simp [Ch.itemsF,Ch.isOpen,q40,q91,q60,q9]))
      go_wp2_with fail
      refine (peek_any b t r1.pos _ h1.blk.text h1.blk.pos).mono ?_;rintro x w1 ⟨rfl,n1,rfl⟩;have K2 : Kp (fun k=>k = b) wr (wr.drewN n1):=(Kp.refl _ _).drewN _;have F2:=h1.move K2 (fun _ _ x=>x) (h1.blk.drewN n1);have B2 : Below B w (wr.drewN n1):=B1.trans (K2.below h1.lowSize (fun k x=>h1.low (Or.inl x)));generalize wr.drewN n1 = w2 at K2 F2 B2 ⊢;clear K2 h1 B1
      go_wp2_with fail
      have E:=state_any B b t k (ih k (by omega)) w2 r1 self ⟨_,_,_,_,_,_,F2⟩ ho1 hlt (by omega) ht;rw [q9] at E;refine Calls.mono E ?_;rintro x w3 ⟨rfl,R3,B3⟩;have B4:=B2.trans B3;clear E F2 B2 B3;go_wp2;go_ret;rw [HF.out];exact ⟨rfl,R3,B4⟩
    | true=>?_
    have HF:=hid (HE.out.trans (show Ch.itemsF t (k + 1) self cl r1 = Ch.itemsF t k self cl (Ch.stateW t (Ch.itemsF t k) self r1).2 by simp [Ch.itemsF,Ch.isOpen,q40,q91,q60,q9]))
    go_wp2_with fail
    refine (peek_any b t r1.pos _ h1.blk.text h1.blk.pos).mono ?_;rintro x w1 ⟨rfl,n1,rfl⟩;have K2 : Kp (fun k=>k = b) wr (wr.drewN n1):=(Kp.refl _ _).drewN _;have F2:=h1.move K2 (fun _ _ x=>x) (h1.blk.drewN n1);have B2 : Below B w (wr.drewN n1):=B1.trans (K2.below h1.lowSize (fun k x=>h1.low (Or.inl x)));generalize wr.drewN n1 = w2 at K2 F2 B2 ⊢;clear K2 h1 B1
    go_wp2_with fail
    have E:=state_any B b t k (ih k (by omega)) w2 r1 self ⟨_,_,_,_,_,_,F2⟩ ho1 hlt (by omega) ht;rw [q9] at E;refine Calls.mono E ?_;rintro x w3 ⟨rfl,R3,B3⟩;have B4:=B2.trans B3;clear E F2 B2 B3;go_wp2
    go_roundg k
    case measure=>omega
    case rel=>exact ⟨_,HF,hs.1,by omega,R3,B4⟩
  | false=>?_
  cases q42 : Ch.peek t r1.pos == 42 with
  | true =>
    have hlt : r1.pos < t.size:=Ch.lt_of_eq (c:=42) (by decide) q42;have hs:=Ch.stateW_ok (fun a c s hc hs=>Ch.itemsF_ok k a c s hc hs) self hlt ho1
    cases q9 : (Ch.stateW t (Ch.itemsF t k) self r1).1 with
    | false =>
      have HF:=hid (HE.out.trans (show Ch.itemsF t (k + 1) self cl r1 = (false,(Ch.stateW t (Ch.itemsF t k) self r1).2) by simp [Ch.itemsF,Ch.isOpen,q40,q91,q60,q42,q9]))
      go_wp2_with fail
      refine (peek_any b t r1.pos _ h1.blk.text h1.blk.pos).mono ?_;rintro x w1 ⟨rfl,n1,rfl⟩;have K2 : Kp (fun k=>k = b) wr (wr.drewN n1):=(Kp.refl _ _).drewN _;have F2:=h1.move K2 (fun _ _ x=>x) (h1.blk.drewN n1);have B2 : Below B w (wr.drewN n1):=B1.trans (K2.below h1.lowSize (fun k x=>h1.low (Or.inl x)));generalize wr.drewN n1 = w2 at K2 F2 B2 ⊢;clear K2 h1 B1
      go_wp2_with fail
      have E:=state_any B b t k (ih k (by omega)) w2 r1 self ⟨_,_,_,_,_,_,F2⟩ ho1 hlt (by omega) ht;rw [q9] at E;refine Calls.mono E ?_;rintro x w3 ⟨rfl,R3,B3⟩;have B4:=B2.trans B3;clear E F2 B2 B3;go_wp2;go_ret;rw [HF.out];exact ⟨rfl,R3,B4⟩
    | true=>?_
    have HF:=hid (HE.out.trans (show Ch.itemsF t (k + 1) self cl r1 = Ch.itemsF t k self cl (Ch.stateW t (Ch.itemsF t k) self r1).2 by simp [Ch.itemsF,Ch.isOpen,q40,q91,q60,q42,q9]))
    go_wp2_with fail
    refine (peek_any b t r1.pos _ h1.blk.text h1.blk.pos).mono ?_;rintro x w1 ⟨rfl,n1,rfl⟩;have K2 : Kp (fun k=>k = b) wr (wr.drewN n1):=(Kp.refl _ _).drewN _;have F2:=h1.move K2 (fun _ _ x=>x) (h1.blk.drewN n1);have B2 : Below B w (wr.drewN n1):=B1.trans (K2.below h1.lowSize (fun k x=>h1.low (Or.inl x)));generalize wr.drewN n1 = w2 at K2 F2 B2 ⊢;clear K2 h1 B1
    go_wp2_with fail
    have E:=state_any B b t k (ih k (by omega)) w2 r1 self ⟨_,_,_,_,_,_,F2⟩ ho1 hlt (by omega) ht;rw [q9] at E;refine Calls.mono E ?_;rintro x w3 ⟨rfl,R3,B3⟩;have B4:=B2.trans B3;clear E F2 B2 B3;go_wp2
    go_roundg k
    case measure=>omega
    case rel=>exact ⟨_,HF,hs.1,by omega,R3,B4⟩
  | false=>?_
  cases q58 : Ch.peek t r1.pos == 58 with
  | true =>
    have hlt : r1.pos < t.size:=Ch.lt_of_eq (c:=58) (by decide) q58;have hs:=Ch.transition_ok self hlt ho1
    cases q9 : (Ch.transition t self r1).1 with
    | false =>
      have HF:=hid (HE.out.trans (show Ch.itemsF t (k + 1) self cl r1 = (false,(Ch.transition t self r1).2) by simp [Ch.itemsF,Ch.isOpen,q40,q91,q60,q42,q58,q9]))
      go_wp2_with fail
      refine (peek_any b t r1.pos _ h1.blk.text h1.blk.pos).mono ?_;rintro x w1 ⟨rfl,n1,rfl⟩;have K2 : Kp (fun k=>k = b) wr (wr.drewN n1):=(Kp.refl _ _).drewN _;have F2:=h1.move K2 (fun _ _ x=>x) (h1.blk.drewN n1);have B2 : Below B w (wr.drewN n1):=B1.trans (K2.below h1.lowSize (fun k x=>h1.low (Or.inl x)));generalize wr.drewN n1 = w2 at K2 F2 B2 ⊢;clear K2 h1 B1
      go_wp2_with fail
      have E:=transition_any B b t w2 self r1 ⟨_,_,_,_,_,_,F2⟩ ho1.1 hlt ht;rw [q9] at E;refine Calls.mono E ?_;rintro x w3 ⟨rfl,R3,B3⟩;have B4:=B2.trans B3;clear E F2 B2 B3;go_wp2;go_ret;rw [HF.out];exact ⟨rfl,R3,B4⟩
    | true=>?_
    have HF:=hid (HE.out.trans (show Ch.itemsF t (k + 1) self cl r1 = Ch.itemsF t k self cl (Ch.transition t self r1).2 by simp [Ch.itemsF,Ch.isOpen,q40,q91,q60,q42,q58,q9]))
    go_wp2_with fail
    refine (peek_any b t r1.pos _ h1.blk.text h1.blk.pos).mono ?_;rintro x w1 ⟨rfl,n1,rfl⟩;have K2 : Kp (fun k=>k = b) wr (wr.drewN n1):=(Kp.refl _ _).drewN _;have F2:=h1.move K2 (fun _ _ x=>x) (h1.blk.drewN n1);have B2 : Below B w (wr.drewN n1):=B1.trans (K2.below h1.lowSize (fun k x=>h1.low (Or.inl x)));generalize wr.drewN n1 = w2 at K2 F2 B2 ⊢;clear K2 h1 B1
    go_wp2_with fail
    have E:=transition_any B b t w2 self r1 ⟨_,_,_,_,_,_,F2⟩ ho1.1 hlt ht;rw [q9] at E;refine Calls.mono E ?_;rintro x w3 ⟨rfl,R3,B3⟩;have B4:=B2.trans B3;clear E F2 B2 B3;go_wp2
    go_roundg k
    case measure=>omega
    case rel=>exact ⟨_,HF,hs.1,by omega,R3,B4⟩
  | false=>?_
  cases q94 : Ch.peek t r1.pos == 94 with
  | true =>
    have hlt : r1.pos < t.size:=Ch.lt_of_eq (c:=94) (by decide) q94;have hs:=Ch.block_ok self hlt ho1
    cases q9 : (Ch.block t self r1).1 with
    | false =>
      have HF:=hid (HE.out.trans (show Ch.itemsF t (k + 1) self cl r1 = (false,(Ch.block t self r1).2) by simp [Ch.itemsF,Ch.isOpen,q40,q91,q60,q42,q58,q94,q9]))
      go_wp2_with fail
      refine (peek_any b t r1.pos _ h1.blk.text h1.blk.pos).mono ?_;rintro x w1 ⟨rfl,n1,rfl⟩;have K2 : Kp (fun k=>k = b) wr (wr.drewN n1):=(Kp.refl _ _).drewN _;have F2:=h1.move K2 (fun _ _ x=>x) (h1.blk.drewN n1);have B2 : Below B w (wr.drewN n1):=B1.trans (K2.below h1.lowSize (fun k x=>h1.low (Or.inl x)));generalize wr.drewN n1 = w2 at K2 F2 B2 ⊢;clear K2 h1 B1
      go_wp2_with fail
      have E:=block_any B b t w2 self r1 ⟨_,_,_,_,_,_,F2⟩ ho1.1 hlt ht;rw [q9] at E;refine Calls.mono E ?_;rintro x w3 ⟨rfl,R3,B3⟩;have B4:=B2.trans B3;clear E F2 B2 B3;go_wp2;go_ret;rw [HF.out];exact ⟨rfl,R3,B4⟩
    | true=>?_
    have HF:=hid (HE.out.trans (show Ch.itemsF t (k + 1) self cl r1 = Ch.itemsF t k self cl (Ch.block t self r1).2 by simp [Ch.itemsF,Ch.isOpen,q40,q91,q60,q42,q58,q94,q9]))
    go_wp2_with fail
    refine (peek_any b t r1.pos _ h1.blk.text h1.blk.pos).mono ?_;rintro x w1 ⟨rfl,n1,rfl⟩;have K2 : Kp (fun k=>k = b) wr (wr.drewN n1):=(Kp.refl _ _).drewN _;have F2:=h1.move K2 (fun _ _ x=>x) (h1.blk.drewN n1);have B2 : Below B w (wr.drewN n1):=B1.trans (K2.below h1.lowSize (fun k x=>h1.low (Or.inl x)));generalize wr.drewN n1 = w2 at K2 F2 B2 ⊢;clear K2 h1 B1
    go_wp2_with fail
    have E:=block_any B b t w2 self r1 ⟨_,_,_,_,_,_,F2⟩ ho1.1 hlt ht;rw [q9] at E;refine Calls.mono E ?_;rintro x w3 ⟨rfl,R3,B3⟩;have B4:=B2.trans B3;clear E F2 B2 B3;go_wp2
    go_roundg k
    case measure=>omega
    case rel=>exact ⟨_,HF,hs.1,by omega,R3,B4⟩
  | false=>?_
  cases q36 : Ch.peek t r1.pos == 36 with
  | true =>
    have hlt : r1.pos < t.size:=Ch.lt_of_eq (c:=36) (by decide) q36;have hs:=Ch.block_ok self hlt ho1
    cases q9 : (Ch.block t self r1).1 with
    | false =>
      have HF:=hid (HE.out.trans (show Ch.itemsF t (k + 1) self cl r1 = (false,(Ch.block t self r1).2) by simp [Ch.itemsF,Ch.isOpen,q40,q91,q60,q42,q58,q94,q36,q9]))
      go_wp2_with fail
      refine (peek_any b t r1.pos _ h1.blk.text h1.blk.pos).mono ?_;rintro x w1 ⟨rfl,n1,rfl⟩;have K2 : Kp (fun k=>k = b) wr (wr.drewN n1):=(Kp.refl _ _).drewN _;have F2:=h1.move K2 (fun _ _ x=>x) (h1.blk.drewN n1);have B2 : Below B w (wr.drewN n1):=B1.trans (K2.below h1.lowSize (fun k x=>h1.low (Or.inl x)));generalize wr.drewN n1 = w2 at K2 F2 B2 ⊢;clear K2 h1 B1
      go_wp2_with fail
      have E:=block_any B b t w2 self r1 ⟨_,_,_,_,_,_,F2⟩ ho1.1 hlt ht;rw [q9] at E;refine Calls.mono E ?_;rintro x w3 ⟨rfl,R3,B3⟩;have B4:=B2.trans B3;clear E F2 B2 B3;go_wp2;go_ret;rw [HF.out];exact ⟨rfl,R3,B4⟩
    | true=>?_
    have HF:=hid (HE.out.trans (show Ch.itemsF t (k + 1) self cl r1 = Ch.itemsF t k self cl (Ch.block t self r1).2 by simp [Ch.itemsF,Ch.isOpen,q40,q91,q60,q42,q58,q94,q36,q9]))
    go_wp2_with fail
    refine (peek_any b t r1.pos _ h1.blk.text h1.blk.pos).mono ?_;rintro x w1 ⟨rfl,n1,rfl⟩;have K2 : Kp (fun k=>k = b) wr (wr.drewN n1):=(Kp.refl _ _).drewN _;have F2:=h1.move K2 (fun _ _ x=>x) (h1.blk.drewN n1);have B2 : Below B w (wr.drewN n1):=B1.trans (K2.below h1.lowSize (fun k x=>h1.low (Or.inl x)));generalize wr.drewN n1 = w2 at K2 F2 B2 ⊢;clear K2 h1 B1
    go_wp2_with fail
    have E:=block_any B b t w2 self r1 ⟨_,_,_,_,_,_,F2⟩ ho1.1 hlt ht;rw [q9] at E;refine Calls.mono E ?_;rintro x w3 ⟨rfl,R3,B3⟩;have B4:=B2.trans B3;clear E F2 B2 B3;go_wp2
    go_roundg k
    case measure=>omega
    case rel=>exact ⟨_,HF,hs.1,by omega,R3,B4⟩
  | false=>?_
  have HF:=hid (HE.out.trans (show Ch.itemsF t (k + 1) self cl r1 = (Ch.peek t r1.pos == cl,{ r1 with pos:=Ch.stepIf (Ch.peek t r1.pos == cl) r1.pos }) by simp [Ch.itemsF,Ch.isOpen,q40,q91,q60,q42,q58,q94,q36]))
  go_wp2_with fail
  refine (peek_any b t r1.pos _ h1.blk.text h1.blk.pos).mono ?_;rintro x w1 ⟨rfl,n1,rfl⟩;have K2 : Kp (fun k=>k = b) wr (wr.drewN n1):=(Kp.refl _ _).drewN _;have F2:=h1.move K2 (fun _ _ x=>x) (h1.blk.drewN n1);have B2 : Below B w (wr.drewN n1):=B1.trans (K2.below h1.lowSize (fun k x=>h1.low (Or.inl x)));generalize wr.drewN n1 = w2 at K2 F2 B2 ⊢;clear K2 h1 B1
  go_wp2_with fail
  refine (take_any b t r1.pos (.int .i64 0) (.int .i64 0) sv tv bv uv w2 cl F2.blk (by have:=ho1.2;omega)).mono ?_;rintro x w5 ⟨rfl,R5,K5⟩;have F5:=F2.move K5 (fun _ _ x=>x) R5;have B5:=B2.trans (K5.below F2.lowSize (fun k x=>F2.low (Or.inl x)));clear F2 B2 R5 K5;go_wp2;go_ret;rw [HF.out];exact ⟨rfl,⟨_,_,_,_,_,_,F5⟩,B5⟩
end Go.Proofs.YtnlbchmfcebeeaaGreat
