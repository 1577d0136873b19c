import Derived.Test.YtnlbchmfcebeeaaGreatTA4
set_option maxHeartbeats 12800000
set_option maxRecDepth 100000
namespace Go.Proofs.YtnlbchmfcebeeaaGreat
open Go.Proofs.Tryz Ch
open Go.RowKit
theorem lW (B b : Nat) (t : ByteArray) (ht : t.size <= 240) (m : Nat) : Bg B b t m:=by
 induction m using Nat.strongRecOn with
 | _ m ih =>
 intro w r self cl H hok hcl hm
 go_enter func156,ntmps156
 go_wp2_with fail
 go_loopg [] m (fun k wr=>∃ r1,Hid (ai t m self cl r = ai t k self cl r1) /\ Ok t r1 /\ (t.size + 1 <= k + r1.pos /\ k <= m) /\ Rd wr B b t r1 /\ Below B w wr)
 case atStart=>exact ⟨r,hid rfl,hok,⟨hm,Nat.le_refl _⟩,H,Below.refl _ _⟩
 case round =>
  obtain ⟨r1,HE,ho1,⟨hk,VK⟩,⟨sv,tv,bv,uv,lt,lb,h1⟩,B1⟩:=hrel;have hp1:=ho1.2
  obtain ⟨k,rfl⟩ : ∃ k,gk = k + 1:=⟨gk - 1,by omega⟩
  clear H hok hm
  cases kT : af t r1.pos == 40 with
  | true =>
    have hlt : r1.pos < t.size:=cd (c:=40) (by decide) kT;have hs:=fP (fun a c s hc hs=>gD k a c s hc hs) self hlt ho1
    cases q9 : (aE t (ai t k) self r1).1 with
    | false =>
      have HF:=hid (HE.out.trans (show ai t (k + 1) self cl r1 = (false,(aE t (ai t k) self r1).2) by simp [ai,isOpen,kT,q9]))
      go_wp2_with fail
      refine (aD b t r1.pos _ h1.blk.text h1.blk.pos).mono ?_;rintro x w1 ⟨rfl,n1,rfl⟩;have K2 : Kp (fun k=>k = b) wr (wr.drewN n1):=(Kp.refl _ _).drewN _;have F2:=h1.move K2 (fun _ _ x=>x) (h1.blk.drewN n1);have B2 : Below B w (wr.drewN n1):=B1.trans (K2.below h1.aJ (fun k x=>h1.low (Or.inl x)));generalize wr.drewN n1 = w2 at K2 F2 B2 ⊢;clear K2 h1 B1
      go_wp2_with fail
      have E:=dB B b t k (ih k (by omega)) w2 r1 self ⟨_,_,_,_,_,_,F2⟩ ho1 hlt (by omega) ht;rw [q9] at E;refine Calls.mono E ?_;rintro x w3 ⟨rfl,R3,B3⟩;have B4:=B2.trans B3;clear E F2 B2 B3;go_wp2;go_ret;rw [HF.out];exact ⟨rfl,R3,B4⟩
    | true=>?_
    have HF:=hid (HE.out.trans (show ai t (k + 1) self cl r1 = ai t k self cl (aE t (ai t k) self r1).2 by simp [ai,isOpen,kT,q9]))
    go_wp2_with fail
    refine (aD b t r1.pos _ h1.blk.text h1.blk.pos).mono ?_;rintro x w1 ⟨rfl,n1,rfl⟩;have K2 : Kp (fun k=>k = b) wr (wr.drewN n1):=(Kp.refl _ _).drewN _;have F2:=h1.move K2 (fun _ _ x=>x) (h1.blk.drewN n1);have B2 : Below B w (wr.drewN n1):=B1.trans (K2.below h1.aJ (fun k x=>h1.low (Or.inl x)));generalize wr.drewN n1 = w2 at K2 F2 B2 ⊢;clear K2 h1 B1
    go_wp2_with fail
    have E:=dB B b t k (ih k (by omega)) w2 r1 self ⟨_,_,_,_,_,_,F2⟩ ho1 hlt (by omega) ht;rw [q9] at E;refine Calls.mono E ?_;rintro x w3 ⟨rfl,R3,B3⟩;have B4:=B2.trans B3;clear E F2 B2 B3;go_wp2
    go_roundg k
    case measure=>omega
    case rel=>exact ⟨_,HF,hs.1,by omega,R3,B4⟩
  | false=>?_
  cases oh : af t r1.pos == 91 with
  | true =>
    have hlt : r1.pos < t.size:=cd (c:=91) (by decide) oh;have hs:=fP (fun a c s hc hs=>gD k a c s hc hs) self hlt ho1
    cases q9 : (aE t (ai t k) self r1).1 with
    | false =>
      have HF:=hid (HE.out.trans (show ai t (k + 1) self cl r1 = (false,(aE t (ai t k) self r1).2) by simp [ai,isOpen,kT,oh,q9]))
      go_wp2_with fail
      refine (aD b t r1.pos _ h1.blk.text h1.blk.pos).mono ?_;rintro x w1 ⟨rfl,n1,rfl⟩;have K2 : Kp (fun k=>k = b) wr (wr.drewN n1):=(Kp.refl _ _).drewN _;have F2:=h1.move K2 (fun _ _ x=>x) (h1.blk.drewN n1);have B2 : Below B w (wr.drewN n1):=B1.trans (K2.below h1.aJ (fun k x=>h1.low (Or.inl x)));generalize wr.drewN n1 = w2 at K2 F2 B2 ⊢;clear K2 h1 B1
      go_wp2_with fail
      have E:=dB B b t k (ih k (by omega)) w2 r1 self ⟨_,_,_,_,_,_,F2⟩ ho1 hlt (by omega) ht;rw [q9] at E;refine Calls.mono E ?_;rintro x w3 ⟨rfl,R3,B3⟩;have B4:=B2.trans B3;clear E F2 B2 B3;go_wp2;go_ret;rw [HF.out];exact ⟨rfl,R3,B4⟩
    | true=>?_
    have HF:=hid (HE.out.trans (show ai t (k + 1) self cl r1 = ai t k self cl (aE t (ai t k) self r1).2 by simp [ai,isOpen,kT,oh,q9]))
    go_wp2_with fail
    refine (aD b t r1.pos _ h1.blk.text h1.blk.pos).mono ?_;rintro x w1 ⟨rfl,n1,rfl⟩;have K2 : Kp (fun k=>k = b) wr (wr.drewN n1):=(Kp.refl _ _).drewN _;have F2:=h1.move K2 (fun _ _ x=>x) (h1.blk.drewN n1);have B2 : Below B w (wr.drewN n1):=B1.trans (K2.below h1.aJ (fun k x=>h1.low (Or.inl x)));generalize wr.drewN n1 = w2 at K2 F2 B2 ⊢;clear K2 h1 B1
    go_wp2_with fail
    have E:=dB B b t k (ih k (by omega)) w2 r1 self ⟨_,_,_,_,_,_,F2⟩ ho1 hlt (by omega) ht;rw [q9] at E;refine Calls.mono E ?_;rintro x w3 ⟨rfl,R3,B3⟩;have B4:=B2.trans B3;clear E F2 B2 B3;go_wp2
    go_roundg k
    case measure=>omega
    case rel=>exact ⟨_,HF,hs.1,by omega,R3,B4⟩
  | false=>?_
  cases zl : af t r1.pos == 60 with
  | true =>
    have hlt : r1.pos < t.size:=cd (c:=60) (by decide) zl;have hs:=fP (fun a c s hc hs=>gD k a c s hc hs) self hlt ho1
    cases q9 : (aE t (ai t k) self r1).1 with
    | false =>
      have HF:=hid (HE.out.trans (show ai t (k + 1) self cl r1 = (false,(aE t (ai t k) self r1).2) by simp [ai,isOpen,kT,oh,zl,q9]))
      go_wp2_with fail
      refine (aD b t r1.pos _ h1.blk.text h1.blk.pos).mono ?_;rintro x w1 ⟨rfl,n1,rfl⟩;have K2 : Kp (fun k=>k = b) wr (wr.drewN n1):=(Kp.refl _ _).drewN _;have F2:=h1.move K2 (fun _ _ x=>x) (h1.blk.drewN n1);have B2 : Below B w (wr.drewN n1):=B1.trans (K2.below h1.aJ (fun k x=>h1.low (Or.inl x)));generalize wr.drewN n1 = w2 at K2 F2 B2 ⊢;clear K2 h1 B1
      go_wp2_with fail
      have E:=dB B b t k (ih k (by omega)) w2 r1 self ⟨_,_,_,_,_,_,F2⟩ ho1 hlt (by omega) ht;rw [q9] at E;refine Calls.mono E ?_;rintro x w3 ⟨rfl,R3,B3⟩;have B4:=B2.trans B3;clear E F2 B2 B3;go_wp2;go_ret;rw [HF.out];exact ⟨rfl,R3,B4⟩
    | true=>?_
    have HF:=hid (HE.out.trans (show ai t (k + 1) self cl r1 = ai t k self cl (aE t (ai t k) self r1).2 by simp [ai,isOpen,kT,oh,zl,q9]))
    go_wp2_with fail
    refine (aD b t r1.pos _ h1.blk.text h1.blk.pos).mono ?_;rintro x w1 ⟨rfl,n1,rfl⟩;have K2 : Kp (fun k=>k = b) wr (wr.drewN n1):=(Kp.refl _ _).drewN _;have F2:=h1.move K2 (fun _ _ x=>x) (h1.blk.drewN n1);have B2 : Below B w (wr.drewN n1):=B1.trans (K2.below h1.aJ (fun k x=>h1.low (Or.inl x)));generalize wr.drewN n1 = w2 at K2 F2 B2 ⊢;clear K2 h1 B1
    go_wp2_with fail
    have E:=dB B b t k (ih k (by omega)) w2 r1 self ⟨_,_,_,_,_,_,F2⟩ ho1 hlt (by omega) ht;rw [q9] at E;refine Calls.mono E ?_;rintro x w3 ⟨rfl,R3,B3⟩;have B4:=B2.trans B3;clear E F2 B2 B3;go_wp2
    go_roundg k
    case measure=>omega
    case rel=>exact ⟨_,HF,hs.1,by omega,R3,B4⟩
  | false=>?_
  cases Ho : af t r1.pos == 42 with
  | true =>
    have hlt : r1.pos < t.size:=cd (c:=42) (by decide) Ho;have hs:=fP (fun a c s hc hs=>gD k a c s hc hs) self hlt ho1
    cases q9 : (aE t (ai t k) self r1).1 with
    | false =>
      have HF:=hid (HE.out.trans (show ai t (k + 1) self cl r1 = (false,(aE t (ai t k) self r1).2) by simp [ai,isOpen,kT,oh,zl,Ho,q9]))
      go_wp2_with fail
      refine (aD b t r1.pos _ h1.blk.text h1.blk.pos).mono ?_;rintro x w1 ⟨rfl,n1,rfl⟩;have K2 : Kp (fun k=>k = b) wr (wr.drewN n1):=(Kp.refl _ _).drewN _;have F2:=h1.move K2 (fun _ _ x=>x) (h1.blk.drewN n1);have B2 : Below B w (wr.drewN n1):=B1.trans (K2.below h1.aJ (fun k x=>h1.low (Or.inl x)));generalize wr.drewN n1 = w2 at K2 F2 B2 ⊢;clear K2 h1 B1
      go_wp2_with fail
      have E:=dB B b t k (ih k (by omega)) w2 r1 self ⟨_,_,_,_,_,_,F2⟩ ho1 hlt (by omega) ht;rw [q9] at E;refine Calls.mono E ?_;rintro x w3 ⟨rfl,R3,B3⟩;have B4:=B2.trans B3;clear E F2 B2 B3;go_wp2;go_ret;rw [HF.out];exact ⟨rfl,R3,B4⟩
    | true=>?_
    have HF:=hid (HE.out.trans (show ai t (k + 1) self cl r1 = ai t k self cl (aE t (ai t k) self r1).2 by simp [ai,isOpen,kT,oh,zl,Ho,q9]))
    go_wp2_with fail
    refine (aD b t r1.pos _ h1.blk.text h1.blk.pos).mono ?_;rintro x w1 ⟨rfl,n1,rfl⟩;have K2 : Kp (fun k=>k = b) wr (wr.drewN n1):=(Kp.refl _ _).drewN _;have F2:=h1.move K2 (fun _ _ x=>x) (h1.blk.drewN n1);have B2 : Below B w (wr.drewN n1):=B1.trans (K2.below h1.aJ (fun k x=>h1.low (Or.inl x)));generalize wr.drewN n1 = w2 at K2 F2 B2 ⊢;clear K2 h1 B1
    go_wp2_with fail
    have E:=dB B b t k (ih k (by omega)) w2 r1 self ⟨_,_,_,_,_,_,F2⟩ ho1 hlt (by omega) ht;rw [q9] at E;refine Calls.mono E ?_;rintro x w3 ⟨rfl,R3,B3⟩;have B4:=B2.trans B3;clear E F2 B2 B3;go_wp2
    go_roundg k
    case measure=>omega
    case rel=>exact ⟨_,HF,hs.1,by omega,R3,B4⟩
  | false=>?_
  cases Jx : af t r1.pos == 58 with
  | true =>
    have hlt : r1.pos < t.size:=cd (c:=58) (by decide) Jx;have hs:=fD self hlt ho1
    cases q9 : (transition t self r1).1 with
    | false =>
      have HF:=hid (HE.out.trans (show ai t (k + 1) self cl r1 = (false,(transition t self r1).2) by simp [ai,isOpen,kT,oh,zl,Ho,Jx,q9]))
      go_wp2_with fail
      refine (aD b t r1.pos _ h1.blk.text h1.blk.pos).mono ?_;rintro x w1 ⟨rfl,n1,rfl⟩;have K2 : Kp (fun k=>k = b) wr (wr.drewN n1):=(Kp.refl _ _).drewN _;have F2:=h1.move K2 (fun _ _ x=>x) (h1.blk.drewN n1);have B2 : Below B w (wr.drewN n1):=B1.trans (K2.below h1.aJ (fun k x=>h1.low (Or.inl x)));generalize wr.drewN n1 = w2 at K2 F2 B2 ⊢;clear K2 h1 B1
      go_wp2_with fail
      have E:=kR B b t w2 self r1 ⟨_,_,_,_,_,_,F2⟩ ho1.1 hlt ht;rw [q9] at E;refine Calls.mono E ?_;rintro x w3 ⟨rfl,R3,B3⟩;have B4:=B2.trans B3;clear E F2 B2 B3;go_wp2;go_ret;rw [HF.out];exact ⟨rfl,R3,B4⟩
    | true=>?_
    have HF:=hid (HE.out.trans (show ai t (k + 1) self cl r1 = ai t k self cl (transition t self r1).2 by simp [ai,isOpen,kT,oh,zl,Ho,Jx,q9]))
    go_wp2_with fail
    refine (aD b t r1.pos _ h1.blk.text h1.blk.pos).mono ?_;rintro x w1 ⟨rfl,n1,rfl⟩;have K2 : Kp (fun k=>k = b) wr (wr.drewN n1):=(Kp.refl _ _).drewN _;have F2:=h1.move K2 (fun _ _ x=>x) (h1.blk.drewN n1);have B2 : Below B w (wr.drewN n1):=B1.trans (K2.below h1.aJ (fun k x=>h1.low (Or.inl x)));generalize wr.drewN n1 = w2 at K2 F2 B2 ⊢;clear K2 h1 B1
    go_wp2_with fail
    have E:=kR B b t w2 self r1 ⟨_,_,_,_,_,_,F2⟩ ho1.1 hlt ht;rw [q9] at E;refine Calls.mono E ?_;rintro x w3 ⟨rfl,R3,B3⟩;have B4:=B2.trans B3;clear E F2 B2 B3;go_wp2
    go_roundg k
    case measure=>omega
    case rel=>exact ⟨_,HF,hs.1,by omega,R3,B4⟩
  | false=>?_
  cases LY : af t r1.pos == 94 with
  | true =>
    have hlt : r1.pos < t.size:=cd (c:=94) (by decide) LY;have hs:=kS self hlt ho1
    cases q9 : (Ch.block t self r1).1 with
    | false =>
      have HF:=hid (HE.out.trans (show ai t (k + 1) self cl r1 = (false,(Ch.block t self r1).2) by simp [ai,isOpen,kT,oh,zl,Ho,Jx,LY,q9]))
      go_wp2_with fail
      refine (aD b t r1.pos _ h1.blk.text h1.blk.pos).mono ?_;rintro x w1 ⟨rfl,n1,rfl⟩;have K2 : Kp (fun k=>k = b) wr (wr.drewN n1):=(Kp.refl _ _).drewN _;have F2:=h1.move K2 (fun _ _ x=>x) (h1.blk.drewN n1);have B2 : Below B w (wr.drewN n1):=B1.trans (K2.below h1.aJ (fun k x=>h1.low (Or.inl x)));generalize wr.drewN n1 = w2 at K2 F2 B2 ⊢;clear K2 h1 B1
      go_wp2_with fail
      have E:=lV B b t w2 self r1 ⟨_,_,_,_,_,_,F2⟩ ho1.1 hlt ht;rw [q9] at E;refine Calls.mono E ?_;rintro x w3 ⟨rfl,R3,B3⟩;have B4:=B2.trans B3;clear E F2 B2 B3;go_wp2;go_ret;rw [HF.out];exact ⟨rfl,R3,B4⟩
    | true=>?_
    have HF:=hid (HE.out.trans (show ai t (k + 1) self cl r1 = ai t k self cl (Ch.block t self r1).2 by simp [ai,isOpen,kT,oh,zl,Ho,Jx,LY,q9]))
    go_wp2_with fail
    refine (aD b t r1.pos _ h1.blk.text h1.blk.pos).mono ?_;rintro x w1 ⟨rfl,n1,rfl⟩;have K2 : Kp (fun k=>k = b) wr (wr.drewN n1):=(Kp.refl _ _).drewN _;have F2:=h1.move K2 (fun _ _ x=>x) (h1.blk.drewN n1);have B2 : Below B w (wr.drewN n1):=B1.trans (K2.below h1.aJ (fun k x=>h1.low (Or.inl x)));generalize wr.drewN n1 = w2 at K2 F2 B2 ⊢;clear K2 h1 B1
    go_wp2_with fail
    have E:=lV B b t w2 self r1 ⟨_,_,_,_,_,_,F2⟩ ho1.1 hlt ht;rw [q9] at E;refine Calls.mono E ?_;rintro x w3 ⟨rfl,R3,B3⟩;have B4:=B2.trans B3;clear E F2 B2 B3;go_wp2
    go_roundg k
    case measure=>omega
    case rel=>exact ⟨_,HF,hs.1,by omega,R3,B4⟩
  | false=>?_
  cases OP : af t r1.pos == 36 with
  | true =>
    have hlt : r1.pos < t.size:=cd (c:=36) (by decide) OP;have hs:=kS self hlt ho1
    cases q9 : (Ch.block t self r1).1 with
    | false =>
      have HF:=hid (HE.out.trans (show ai t (k + 1) self cl r1 = (false,(Ch.block t self r1).2) by simp [ai,isOpen,kT,oh,zl,Ho,Jx,LY,OP,q9]))
      go_wp2_with fail
      refine (aD b t r1.pos _ h1.blk.text h1.blk.pos).mono ?_;rintro x w1 ⟨rfl,n1,rfl⟩;have K2 : Kp (fun k=>k = b) wr (wr.drewN n1):=(Kp.refl _ _).drewN _;have F2:=h1.move K2 (fun _ _ x=>x) (h1.blk.drewN n1);have B2 : Below B w (wr.drewN n1):=B1.trans (K2.below h1.aJ (fun k x=>h1.low (Or.inl x)));generalize wr.drewN n1 = w2 at K2 F2 B2 ⊢;clear K2 h1 B1
      go_wp2_with fail
      have E:=lV B b t w2 self r1 ⟨_,_,_,_,_,_,F2⟩ ho1.1 hlt ht;rw [q9] at E;refine Calls.mono E ?_;rintro x w3 ⟨rfl,R3,B3⟩;have B4:=B2.trans B3;clear E F2 B2 B3;go_wp2;go_ret;rw [HF.out];exact ⟨rfl,R3,B4⟩
    | true=>?_
    have HF:=hid (HE.out.trans (show ai t (k + 1) self cl r1 = ai t k self cl (Ch.block t self r1).2 by simp [ai,isOpen,kT,oh,zl,Ho,Jx,LY,OP,q9]))
    go_wp2_with fail
    refine (aD b t r1.pos _ h1.blk.text h1.blk.pos).mono ?_;rintro x w1 ⟨rfl,n1,rfl⟩;have K2 : Kp (fun k=>k = b) wr (wr.drewN n1):=(Kp.refl _ _).drewN _;have F2:=h1.move K2 (fun _ _ x=>x) (h1.blk.drewN n1);have B2 : Below B w (wr.drewN n1):=B1.trans (K2.below h1.aJ (fun k x=>h1.low (Or.inl x)));generalize wr.drewN n1 = w2 at K2 F2 B2 ⊢;clear K2 h1 B1
    go_wp2_with fail
    have E:=lV B b t w2 self r1 ⟨_,_,_,_,_,_,F2⟩ ho1.1 hlt ht;rw [q9] at E;refine Calls.mono E ?_;rintro x w3 ⟨rfl,R3,B3⟩;have B4:=B2.trans B3;clear E F2 B2 B3;go_wp2
    go_roundg k
    case measure=>omega
    case rel=>exact ⟨_,HF,hs.1,by omega,R3,B4⟩
  | false=>?_
  have HF:=hid (HE.out.trans (show ai t (k + 1) self cl r1 = (af t r1.pos == cl,{ r1 with pos:=bm (af t r1.pos == cl) r1.pos }) by simp [ai,isOpen,kT,oh,zl,Ho,Jx,LY,OP]))
  go_wp2_with fail
  refine (aD b t r1.pos _ h1.blk.text h1.blk.pos).mono ?_;rintro x w1 ⟨rfl,n1,rfl⟩;have K2 : Kp (fun k=>k = b) wr (wr.drewN n1):=(Kp.refl _ _).drewN _;have F2:=h1.move K2 (fun _ _ x=>x) (h1.blk.drewN n1);have B2 : Below B w (wr.drewN n1):=B1.trans (K2.below h1.aJ (fun k x=>h1.low (Or.inl x)));generalize wr.drewN n1 = w2 at K2 F2 B2 ⊢;clear K2 h1 B1
  go_wp2_with fail
  refine (jG b t r1.pos (.int .i64 0) (.int .i64 0) sv tv bv uv w2 cl F2.blk (by have:=ho1.2;omega)).mono ?_;rintro x w5 ⟨rfl,R5,K5⟩;have F5:=F2.move K5 (fun _ _ x=>x) R5;have B5:=B2.trans (K5.below F2.aJ (fun k x=>F2.low (Or.inl x)));clear F2 B2 R5 K5;go_wp2;go_ret;rw [HF.out];exact ⟨rfl,⟨_,_,_,_,_,_,F5⟩,B5⟩
namespace Ch
def kU (ss : List St) (i : Int) : Option St:=match i with | .ofNat k=>ss[k]? | .negSucc _=>none
theorem ch (ss : List St) (k : Nat) : kU ss (k : Int) = ss[k]?:=rfl
theorem fQ {ss : List St} {i : Int} {s : St} (h : kU ss i = some s) : ∃ k : Nat,i = k /\ ss[k]? = some s /\ k < ss.length:=by
 cases i with
 | ofNat k=>exact ⟨k,rfl,h,by have:=(List.getElem?_eq_some_iff.1 (show ss[k]? = some s from h)).1;exact this⟩
 | negSucc k=>simp [kU] at h
theorem oB {ss : List St} {i : Int} (h : kU ss i = none) : i < 0 \/ (0 <= i /\ (ss.length : Int) <= i):=by
 cases i with
 | ofNat k=>right;have : ss[k]? = none:=h;have:=List.getElem?_eq_none_iff.1 this;simp;omega
 | negSucc k=>left;omega
def ay (ss : List St) (i : Int) : Int:=match kU ss i with | some s=>s.kind | none=>2
def aq (ss : List St) (i : Int) : Int:=match kU ss i with | some s=>s.parent | none=>-1
def aw (ss : List St) (i parent : Int) : Bool:=match kU ss i with | some s=>s.parent == parent && s.kind != 5 | none=>false
def gE (c : Int) : List St -> Nat -> Int
 | [],_=>-2
 | s :: l,k=>if s.name == c then k else gE c l (k + 1)
def place (ss : List St) (c : Int) : Int:=gE c ss 0
def bQ (ss : List St) (parent : Int) : Nat -> Nat -> Int
 | 0,_=>-2
 | f + 1,k=>if aw ss k parent then k else bQ ss parent f (k + 1)
def b9 (ss : List St) (parent : Int) : Int:=bQ ss parent ss.length 0
def gy (ss : List St) (i : Int) : Bool:=match kU ss i with
 | some s=>if s.kind == 5 || s.kind == 4 then ay ss s.parent == 3 else if s.kind == 3 || s.kind == 2 then b9 ss i == -2 else false
 | none=>false
def cI (p : Nat -> St -> Bool) : List St -> Nat -> Int
 | [],_=>-2
 | s :: l,k=>if p k s then s.pos else cI p l (k + 1)
def dH (ss : List St) : Int:=cI (fun k s=>decide (place ss s.name < (k : Int))) ss 0
def fE (ss : List St) : Int:=cI (fun k _=>gy ss k) ss 0
def bL (ss : List St) : List Us -> Int
 | []=>-2
 | u :: l=>if place ss u.name == -2 then u.pos else bL ss l
end Ch
def ib (w : World) (ob oo : Nat) (ss : List St) : Prop:=∃ sv base,w.cell? ⟨ob,oo + 2,none⟩ = some sv /\ w.ownsRow base 155 4 sv ss.length (bZ ss)
theorem ib.at_ {w : World} {ob oo : Nat} {ss : List St} (h : ib w ob oo ss) {k : Nat} {s : St} (hs : ss[k]? = some s) :
 ∃ g cap,w.cell? ⟨ob,oo + 2,none⟩ = some (.slice (some ⟨g,0,none⟩) ss.length cap) /\ w.cell? ⟨g,k * 4,none⟩ = some (.int .u8 s.name) /\ w.cell? ⟨g,k * 4 + 1,none⟩ = some (.int .i64 s.pos) /\
  w.cell? ⟨g,k * 4 + 2,none⟩ = some (.int .i64 s.kind) /\ w.cell? ⟨g,k * 4 + 3,none⟩ = some (.int .i64 s.parent):=by
 obtain ⟨sv,base,hc,ho⟩:=h;have hk:=(List.getElem?_eq_some_iff.1 hs).1;obtain ⟨g,cap,rfl⟩:=ey ho (by omega);obtain ⟨a0,a1,a2,a3⟩:=qV ss k s hs;exact ⟨g,cap,hc,(ho.cellAt (k * 4) (by omega)).trans a0,(ho.cellAt (k * 4 + 1) (by omega)).trans a1,(ho.cellAt (k * 4 + 2) (by omega)).trans a2,(ho.cellAt (k * 4 + 3) (by omega)).trans a3⟩
theorem ib.len {w : World} {ob oo : Nat} {ss : List St} (h : ib w ob oo ss) : ∃ ao cap,w.cell? ⟨ob,oo + 2,none⟩ = some (.slice ao ss.length cap):=by
 obtain ⟨sv,base,hc,ho⟩:=h
 rcases ho.2 with ⟨hv,hn⟩ | ⟨g,cap,_,hv,_⟩
 ·rw [hn];exact ⟨_,_,by rw [hc,hv]⟩
 exact ⟨_,_,by rw [hc,hv]⟩
section
variable (ob oo : Nat) (w : World) (ss : List St)
theorem gf (i : Int) (h : ib w ob oo ss) (_hl : ss.length <= 1000) :
 Calls prog 163 #[.pointer (some ⟨ob,oo,none⟩),.int .i64 i] w fun x w'=>x = .returned (.int .i64 (ay ss i)) /\ w' = w:=by
 unfold ay
 cases hs : kU ss i with
 | none =>
   obtain ⟨ao,cap,c2⟩:=h.len
   rcases oB hs with h1 | ⟨h0,h1⟩
   ·clear hs h
    go_enter func163,ntmps163
    go_wp2;go_ret;exact ⟨rfl,rfl⟩
   have hd : decide (i < 0) = false:=by simp;omega
   clear hs h
   go_enter func163,ntmps163
   go_wp2;go_ret;exact ⟨rfl,rfl⟩
 | some s=>?_
 obtain ⟨k,rfl,hk,hlt⟩:=fQ hs;obtain ⟨g,cap,c2,a0,a1,a2,a3⟩:=h.at_ hk
 have hd : decide ((k : Int) < 0) = false:=by simp
 have hlt' : (k : Int) < (ss.length : Int):=by omega
 clear hs hk h
 go_enter func163,ntmps163
 go_wp2;go_ret;exact ⟨rfl,rfl⟩
theorem eX (i parent : Int) (h : ib w ob oo ss) (_hl : ss.length <= 1000) :
 Calls prog 162 #[.pointer (some ⟨ob,oo,none⟩),.int .i64 i,.int .i64 parent] w fun x w'=>x = .returned (.bool (aw ss i parent)) /\ w' = w:=by
 unfold aw
 cases hs : kU ss i with
 | none =>
   obtain ⟨ao,cap,c2⟩:=h.len
   rcases oB hs with h1 | ⟨h0,h1⟩
   ·clear hs h
    go_enter func162,ntmps162
    go_wp2;go_ret;exact ⟨rfl,rfl⟩
   have hd : decide (i < 0) = false:=by simp;omega
   clear hs h
   go_enter func162,ntmps162
   go_wp2;go_ret;exact ⟨rfl,rfl⟩
 | some s=>?_
 obtain ⟨k,rfl,hk,hlt⟩:=fQ hs;obtain ⟨g,cap,c2,a0,a1,a2,a3⟩:=h.at_ hk
 have hd : decide ((k : Int) < 0) = false:=by simp
 have hlt' : (k : Int) < (ss.length : Int):=by omega
 clear hs hk h
 cases q1 : s.parent == parent with
 | false =>
   go_enter func162,ntmps162
   go_wp2;go_ret;exact ⟨by simp [q1],rfl⟩
 | true=>?_
 cases q2 : s.kind != 5 with
 | false =>
   go_enter func162,ntmps162
   go_wp2;go_ret;exact ⟨by simp [q1,q2],rfl⟩
 | true=>?_
 go_enter func162,ntmps162
 go_wp2;go_ret;exact ⟨by simp [q1,q2],rfl⟩
theorem gF (c : Int) (h : ib w ob oo ss) (hl : ss.length <= 1000) :
 Calls prog 158 #[.pointer (some ⟨ob,oo,none⟩),.int .u8 c] w fun x w'=>x = .returned (.int .i64 (Ch.place ss c)) /\ w' = w:=by
 go_enter func158,ntmps158
 go_wp2_with fail
 go_loop [5] (fun i=>∃ k : Nat,i = .int .i64 k /\ k <= ss.length /\ Hid (Ch.place ss c = gE c (ss.drop k) k)) (fun i=>ss.length - (intOf i).toNat)
 case atStart=>exact ⟨0,rfl,Nat.zero_le _,hid rfl⟩
 case round =>
  obtain ⟨k,rfl,hk,HE⟩:=hrel
  by_cases hlt : k < ss.length
  ·obtain ⟨s,hs⟩ : ∃ s,ss[k]? = some s:=⟨_,List.getElem?_eq_getElem hlt⟩
   obtain ⟨g,cap,c2,a0,a1,a2,a3⟩:=h.at_ hs
   have hlt' : (k : Int) < (ss.length : Int):=by omega
   have ed : ss.drop k = s :: ss.drop (k + 1):=by
    rw [List.drop_eq_getElem_cons hlt];congr 1;exact (List.getElem?_eq_some_iff.1 hs).2
   cases q : s.name == c with
   | true =>
     have HF:=hid (HE.out.trans (show _ = ((k : Nat) : Int) by rw [ed];simp [gE,q]));clear ed hs HE;go_wp2;go_ret;exact ⟨by rw [HF.out];rfl,rfl⟩
   | false=>?_
   have HF:=hid (HE.out.trans (show _ = gE c (ss.drop (k + 1)) (k + 1) by rw [ed];simp [gE,q]));clear ed hs HE;go_wp2
   go_round
   case rel=>exact ⟨k + 1,by go_num,by omega,HF⟩
   case measure=>simp [intOf];omega
  obtain ⟨ao,cap,c2⟩:=h.len;have HF:=hid (HE.out.trans (show _ = (-2 : Int) by rw [List.drop_eq_nil_of_le (by omega)];rfl))
  have hge : ¬ (k : Int) < (ss.length : Int):=by omega
  clear HE;go_wp2;go_ret;exact ⟨by rw [HF.out];rfl,rfl⟩
theorem iI (parent : Int) (h : ib w ob oo ss) (hl : ss.length <= 1000) :
 Calls prog 217 #[.pointer (some ⟨ob,oo,none⟩),.int .i64 parent] w fun x w'=>x = .returned (.int .i64 (b9 ss parent)) /\ w' = w:=by
 obtain ⟨ao,cap,c2⟩:=h.len
 go_enter func217,ntmps217
 go_wp2_with fail
 go_loop [5] (fun i=>∃ k : Nat,i = .int .i64 k /\ k <= ss.length /\ Hid (b9 ss parent = bQ ss parent (ss.length - k) k)) (fun i=>ss.length - (intOf i).toNat)
 case atStart=>exact ⟨0,rfl,Nat.zero_le _,hid rfl⟩
 case round =>
  obtain ⟨k,rfl,hk,HE⟩:=hrel;have E:=hid (eX ob oo w ss k parent h hl)
  by_cases hlt : k < ss.length
  ·have hlt' : (k : Int) < (ss.length : Int):=by omega
   have ef : ss.length - k = (ss.length - (k + 1)) + 1:=by omega
   cases q : aw ss k parent with
   | true =>
     have HF:=hid (HE.out.trans (show _ = ((k : Nat) : Int) by rw [ef];simp [bQ,q]));rw [q] at E;clear ef HE
     go_wp2_with fail
     refine hm E ?_;rintro x w1 ⟨rfl,rfl⟩;go_wp2;go_ret;exact ⟨by rw [HF.out];rfl,rfl⟩
   | false=>?_
   have HF:=hid (HE.out.trans (show _ = bQ ss parent (ss.length - (k + 1)) (k + 1) by rw [ef];simp [bQ,q]));rw [q] at E;clear ef HE
   go_wp2_with fail
   refine hm E ?_;rintro x w1 ⟨rfl,rfl⟩;go_wp2
   go_round
   case rel=>exact ⟨k + 1,by go_num,by omega,HF⟩
   case measure=>simp [intOf];omega
  have HF:=hid (HE.out.trans (show _ = (-2 : Int) by rw [show ss.length - k = 0 by omega];rfl))
  have hge : ¬ (k : Int) < (ss.length : Int):=by omega
  clear HE E
  go_wp2_with fail
  go_ret;exact ⟨by rw [HF.out];rfl,rfl⟩
theorem Cn (k : Nat) (hlt : k < ss.length) (h : ib w ob oo ss) (hl : ss.length <= 1000) :
 Calls prog 159 #[.pointer (some ⟨ob,oo,none⟩),.int .i64 k] w fun x w'=>x = .returned (.bool (gy ss k)) /\ w' = w:=by
 obtain ⟨s,hs⟩ : ∃ s,ss[k]? = some s:=⟨_,List.getElem?_eq_getElem hlt⟩
 obtain ⟨g,cap,c2,a0,a1,a2,a3⟩:=h.at_ hs
 have hlt' : (k : Int) < (ss.length : Int):=by omega
 have hsk : kU ss (k : Int) = some s:=hs;have E1:=hid (gf ob oo w ss s.parent h hl);have E2:=hid (iI ob oo w ss (k : Int) h hl)
 cases q5 : s.kind == 5 with
 | true =>
   rw [show gy ss k = (ay ss s.parent == 3) by simp [gy,hsk,q5]];clear hs hsk h
   go_enter func159,ntmps159
   go_wp2_with fail
   refine hm E1 ?_;rintro x w1 ⟨rfl,rfl⟩;go_wp2;go_ret;exact ⟨rfl,rfl⟩
 | false=>?_
 cases q4 : s.kind == 4 with
 | true =>
   rw [show gy ss k = (ay ss s.parent == 3) by simp [gy,hsk,q5,q4]];clear hs hsk h
   go_enter func159,ntmps159
   go_wp2_with fail
   refine hm E1 ?_;rintro x w1 ⟨rfl,rfl⟩;go_wp2;go_ret;exact ⟨rfl,rfl⟩
 | false=>?_
 cases q3 : s.kind == 3 with
 | true =>
   rw [show gy ss k = (b9 ss k == -2) by simp [gy,hsk,q5,q4,q3]];clear hs hsk h
   go_enter func159,ntmps159
   go_wp2_with fail
   refine hm E2 ?_;rintro x w1 ⟨rfl,rfl⟩;go_wp2;go_ret;exact ⟨rfl,rfl⟩
 | false=>?_
 cases q2 : s.kind == 2 with
 | true =>
   rw [show gy ss k = (b9 ss k == -2) by simp [gy,hsk,q5,q4,q3,q2]];clear hs hsk h
   go_enter func159,ntmps159
   go_wp2_with fail
   refine hm E2 ?_;rintro x w1 ⟨rfl,rfl⟩;go_wp2;go_ret;exact ⟨rfl,rfl⟩
 | false=>?_
 rw [show gy ss k = false by simp [gy,hsk,q5,q4,q3,q2]];clear hs hsk h E1 E2
 go_enter func159,ntmps159
 go_wp2;go_ret;exact ⟨rfl,rfl⟩
theorem qX (h : ib w ob oo ss) (hl : ss.length <= 1000) :
 Calls prog 112 #[.pointer (some ⟨ob,oo,none⟩)] w fun x w'=>x = .returned (.int .i64 (dH ss)) /\ w' = w:=by
 go_enter func112,ntmps112
 go_wp2_with fail
 go_loop [3] (fun i=>∃ k : Nat,i = .int .i64 k /\ k <= ss.length /\ Hid (dH ss = cI (fun k s=>decide (Ch.place ss s.name < (k : Int))) (ss.drop k) k)) (fun i=>ss.length - (intOf i).toNat)
 case atStart=>exact ⟨0,rfl,Nat.zero_le _,hid rfl⟩
 case round =>
  obtain ⟨k,rfl,hk,HE⟩:=hrel
  by_cases hlt : k < ss.length
  ·obtain ⟨s,hs⟩ : ∃ s,ss[k]? = some s:=⟨_,List.getElem?_eq_getElem hlt⟩
   obtain ⟨g,cap,c2,a0,a1,a2,a3⟩:=h.at_ hs
   have hlt' : (k : Int) < (ss.length : Int):=by omega
   have ed : ss.drop k = s :: ss.drop (k + 1):=by
    rw [List.drop_eq_getElem_cons hlt];congr 1;exact (List.getElem?_eq_some_iff.1 hs).2
   have E:=hid (gF ob oo w ss s.name h hl)
   cases q : decide (Ch.place ss s.name < (k : Int)) with
   | true =>
     have HF:=hid (HE.out.trans (show _ = s.pos by rw [ed];simp [cI];intro x;simp at q;omega));clear ed hs HE
     go_wp2_with fail
     refine hm E ?_;rintro x w1 ⟨rfl,rfl⟩;go_wp2;go_ret;exact ⟨by rw [HF.out];rfl,rfl⟩
   | false=>?_
   have HF:=hid (HE.out.trans (show _ = cI (fun k s=>decide (Ch.place ss s.name < (k : Int))) (ss.drop (k + 1)) (k + 1) by rw [ed];simp [cI];intro x;simp at q;omega));clear ed hs HE
   go_wp2_with fail
   refine hm E ?_;rintro x w1 ⟨rfl,rfl⟩;go_wp2
   go_round
   case rel=>exact ⟨k + 1,by go_num,by omega,HF⟩
   case measure=>simp [intOf];omega
  obtain ⟨ao,cap,c2⟩:=h.len;have HF:=hid (HE.out.trans (show _ = (-2 : Int) by rw [List.drop_eq_nil_of_le (by omega)];rfl))
  have hge : ¬ (k : Int) < (ss.length : Int):=by omega
  clear HE
  go_wp2_with fail
  go_ret;exact ⟨by rw [HF.out];rfl,rfl⟩
theorem vm (h : ib w ob oo ss) (hl : ss.length <= 1000) :
 Calls prog 113 #[.pointer (some ⟨ob,oo,none⟩)] w fun x w'=>x = .returned (.int .i64 (fE ss)) /\ w' = w:=by
 go_enter func113,ntmps113
 go_wp2_with fail
 go_loop [3] (fun i=>∃ k : Nat,i = .int .i64 k /\ k <= ss.length /\ Hid (fE ss = cI (fun k _=>gy ss k) (ss.drop k) k)) (fun i=>ss.length - (intOf i).toNat)
 case atStart=>exact ⟨0,rfl,Nat.zero_le _,hid rfl⟩
 case round =>
  obtain ⟨k,rfl,hk,HE⟩:=hrel
  by_cases hlt : k < ss.length
  ·obtain ⟨s,hs⟩ : ∃ s,ss[k]? = some s:=⟨_,List.getElem?_eq_getElem hlt⟩
   obtain ⟨g,cap,c2,a0,a1,a2,a3⟩:=h.at_ hs
   have hlt' : (k : Int) < (ss.length : Int):=by omega
   have ed : ss.drop k = s :: ss.drop (k + 1):=by
    rw [List.drop_eq_getElem_cons hlt];congr 1;exact (List.getElem?_eq_some_iff.1 hs).2
   have E:=hid (Cn ob oo w ss k hlt h hl)
   cases q : gy ss k with
   | true =>
     have HF:=hid (HE.out.trans (show _ = s.pos by rw [ed];simp [cI,q]));rw [q] at E;clear ed hs HE
     go_wp2_with fail
     refine hm E ?_;rintro x w1 ⟨rfl,rfl⟩;go_wp2;go_ret;exact ⟨by rw [HF.out];rfl,rfl⟩
   | false=>?_
   have HF:=hid (HE.out.trans (show _ = cI (fun k _=>gy ss k) (ss.drop (k + 1)) (k + 1) by rw [ed];simp [cI,q]));rw [q] at E;clear ed hs HE
   go_wp2_with fail
   refine hm E ?_;rintro x w1 ⟨rfl,rfl⟩;go_wp2
   go_round
   case rel=>exact ⟨k + 1,by go_num,by omega,HF⟩
   case measure=>simp [intOf];omega
  obtain ⟨ao,cap,c2⟩:=h.len;have HF:=hid (HE.out.trans (show _ = (-2 : Int) by rw [List.drop_eq_nil_of_le (by omega)];rfl))
  have hge : ¬ (k : Int) < (ss.length : Int):=by omega
  clear HE
  go_wp2_with fail
  go_ret;exact ⟨by rw [HF.out];rfl,rfl⟩
end
theorem zm (us : List Us) (k : Nat) (u : Us) (h : us[k]? = some u) :
 (cG us)[k * 2]? = some (.int .u8 u.name) /\ (cG us)[k * 2 + 1]? = some (.int .i64 u.pos):=by
 induction us generalizing k with
 | nil=>simp at h
 | cons a l ih=>?_
 cases k with
 | zero=>simp at h;subst h;simp [cG]
 | succ k=>?_
 have:=ih k (by simpa using h)
 have e : cG (a :: l) = [.int .u8 a.name,.int .i64 a.pos] ++ cG l:=by simp [cG]
 rw [e]
 have q : ∀ j,([Value.int .u8 a.name,.int .i64 a.pos] ++ cG l)[(k + 1) * 2 + j]? = (cG l)[k * 2 + j]?:=by
  intro j;rw [List.getElem?_append_right (by simp;omega)]
  congr 1
  simp;omega
 exact ⟨by simpa using (q 0).trans (by simpa using this.1),(q 1).trans this.2⟩
namespace Ch
def judge (ss : List St) (us : List Us) : Int × Int :=
 if 16 < ss.length then (3,match ss[16]? with | some s=>s.pos | none=>0)
 else if dH ss != -2 then (4,dH ss)
 else if fE ss != -2 then (5,fE ss)
 else if bL ss us != -2 then (6,bL ss us)
 else (0,0)
end Ch
section
variable (ob oo : Nat) (w : World) (ss : List St)
theorem vn (uv : Value) (us : List Us) (base : Nat) (ho : w.ownsRow base 242 2 uv us.length (cG us)) (hu : us.length <= 1000) (h : ib w ob oo ss) (hl : ss.length <= 1000) :
 Calls prog 114 #[.pointer (some ⟨ob,oo,none⟩),uv] w fun x w'=>x = .returned (.int .i64 (bL ss us)) /\ w' = w:=by
 obtain ⟨ao,cap,rfl⟩:=b7 ho
 go_enter func114,ntmps114
 go_wp2_with fail
 go_loop [5] (fun i=>∃ k : Nat,i = .int .i64 k /\ k <= us.length /\ Hid (bL ss us = bL ss (us.drop k))) (fun i=>us.length - (intOf i).toNat)
 case atStart=>exact ⟨0,rfl,Nat.zero_le _,hid rfl⟩
 case round =>
  obtain ⟨k,rfl,hk,HE⟩:=hrel
  by_cases hlt : k < us.length
  ·obtain ⟨u,hs⟩ : ∃ s,us[k]? = some s:=⟨_,List.getElem?_eq_getElem hlt⟩
   obtain ⟨g,cap',hg⟩:=ey ho (by omega);simp only [Value.slice.injEq,true_and] at hg;obtain ⟨rfl,rfl⟩:=hg;obtain ⟨z0,z1⟩:=zm us k u hs;have a0:=(ho.cellAt (k * 2) (by omega)).trans z0;have a1:=(ho.cellAt (k * 2 + 1) (by omega)).trans z1
   have hlt' : (k : Int) < (us.length : Int):=by omega
   have ed : us.drop k = u :: us.drop (k + 1):=by
    rw [List.drop_eq_getElem_cons hlt];congr 1;exact (List.getElem?_eq_some_iff.1 hs).2
   have E:=hid (gF ob oo w ss u.name h hl)
   cases q : Ch.place ss u.name == -2 with
   | true =>
     have HF:=hid (HE.out.trans (show _ = u.pos by rw [ed];simp [bL,q]));clear ed hs HE ho z0 z1
     go_wp2_with fail
     refine hm E ?_;rintro x w1 ⟨rfl,rfl⟩;go_wp2;go_ret;exact ⟨by rw [HF.out];rfl,rfl⟩
   | false=>?_
   have HF:=hid (HE.out.trans (show _ = bL ss (us.drop (k + 1)) by rw [ed];simp [bL,q]));clear ed hs HE ho z0 z1
   go_wp2_with fail
   refine hm E ?_;rintro x w1 ⟨rfl,rfl⟩;go_wp2
   go_round
   case rel=>exact ⟨k + 1,by go_num,by omega,HF⟩
   case measure=>simp [intOf];omega
  have HF:=hid (HE.out.trans (show _ = (-2 : Int) by rw [List.drop_eq_nil_of_le (by omega)];rfl))
  have hge : ¬ (k : Int) < (us.length : Int):=by omega
  clear HE
  go_wp2_with fail
  go_ret;exact ⟨by rw [HF.out];rfl,rfl⟩
theorem ib.keep {ob oo : Nat} {w w' : World} {ss : List St} {S : Nat -> Prop} (h : ib w ob oo ss) (k : Kp S w w') (h1 : ¬ S ob) (h2 : ∀ i cur,w.heap[i]? = some (.cells cur 155 (0,0)) -> ¬ S i) : ib w' ob oo ss:=by
 obtain ⟨sv,base,hc,ho⟩:=h;refine ⟨sv,base,?_,k.owns ho (fun i hi=>by obtain ⟨cur,hg⟩:=aR ho hi;exact h2 i cur hg)⟩;rw [World.cell?_of_block (k.block ob (World.block_lt_of_cell? w _ hc) h1)];exact hc
theorem ib.alloc {ob oo : Nat} {w : World} {ss : List St} (h : ib w ob oo ss) (o : Obj) : ib (w.alloc o) ob oo ss :=
 h.keep (S:=fun _=>False) ((Kp.refl _ _).alloc _) (fun x=>x) (fun _ _ _ x=>x)
theorem ue (uv : Value) (us : List Us) (base : Nat) (ho : w.ownsRow base 242 2 uv us.length (cG us)) (hu : us.length <= 1000) (h : ib w ob oo ss) (hl : ss.length <= 1000) :
 Calls prog 69 #[.pointer (some ⟨ob,oo,none⟩),uv] w fun x w'=>x = .returned (.agg #[.int .i64 (judge ss us).1,.int .i64 (judge ss us).2]) /\ Kp (fun _=>False) w w':=by
 have ha:=h.alloc (.cells #[.int .i64 0,.int .i64 0] 145);have hoa:=ho.alloc (.cells #[.int .i64 0,.int .i64 0] 145);clear h ho
 by_cases h16 : 16 < ss.length
 ·obtain ⟨s,hs⟩ : ∃ s,ss[16]? = some s:=⟨_,List.getElem?_eq_getElem h16⟩
  obtain ⟨g,cap,c2,a0,a1,a2,a3⟩:=ha.at_ hs;simp only [Nat.reduceMul,Nat.reduceAdd] at a0 a1 a2 a3
  have vo : (16 : Int) < (ss.length : Int):=by omega
  rw [show judge ss us = (3,s.pos) by unfold judge;rw [if_pos h16,hs]];clear hs ha hoa
  go_enter func69,ntmps69
  go_wp2_with fail
  exact bodyPost_ret (v:=.agg #[.int .i64 3,.int .i64 s.pos]) (by simp [results,Tryz.results69,go_sem]) rfl ⟨rfl,(Kp.refl _ _).alloc _⟩
 have vo : ¬ (16 : Int) < (ss.length : Int):=by omega
 obtain ⟨ao,cap,c2⟩:=ha.len;have E1:=hid (qX ob oo _ ss ha hl);have E2:=hid (vm ob oo _ ss ha hl);have E3:=hid (vn ob oo _ ss uv us base hoa hu ha hl);clear ha hoa
 cases q1 : dH ss != -2 with
 | true =>
   rw [show judge ss us = (4,dH ss) by unfold judge;rw [if_neg h16,if_pos q1]]
   go_enter func69,ntmps69
   go_wp2_with fail
   refine hm E1 ?_;rintro x w1 ⟨rfl,rfl⟩
   go_wp2_with fail
   exact bodyPost_ret (v:=.agg #[.int .i64 4,.int .i64 (dH ss)]) (by simp [results,Tryz.results69,go_sem]) rfl ⟨rfl,(Kp.refl _ _).alloc _⟩
 | false=>?_
 have q1' : ¬ (dH ss != -2) = true:=by simp [q1]
 cases q2 : fE ss != -2 with
 | true =>
   rw [show judge ss us = (5,fE ss) by unfold judge;rw [if_neg h16,if_neg q1',if_pos q2]];clear q1'
   go_enter func69,ntmps69
   go_wp2_with fail
   refine hm E1 ?_;rintro x w1 ⟨rfl,rfl⟩
   go_wp2_with fail
   refine hm E2 ?_;rintro x w1 ⟨rfl,rfl⟩
   go_wp2_with fail
   exact bodyPost_ret (v:=.agg #[.int .i64 5,.int .i64 (fE ss)]) (by simp [results,Tryz.results69,go_sem]) rfl ⟨rfl,(Kp.refl _ _).alloc _⟩
 | false=>?_
 have q2' : ¬ (fE ss != -2) = true:=by simp [q2]
 cases q3 : bL ss us != -2 with
 | true =>
   rw [show judge ss us = (6,bL ss us) by unfold judge;rw [if_neg h16,if_neg q1',if_neg q2',if_pos q3]];clear q1' q2'
   go_enter func69,ntmps69
   go_wp2_with fail
   refine hm E1 ?_;rintro x w1 ⟨rfl,rfl⟩
   go_wp2_with fail
   refine hm E2 ?_;rintro x w1 ⟨rfl,rfl⟩
   go_wp2_with fail
   refine hm E3 ?_;rintro x w1 ⟨rfl,rfl⟩
   go_wp2_with fail
   exact bodyPost_ret (v:=.agg #[.int .i64 6,.int .i64 (bL ss us)]) (by simp [results,Tryz.results69,go_sem]) rfl ⟨rfl,(Kp.refl _ _).alloc _⟩
 | false=>?_
 have q3' : ¬ (bL ss us != -2) = true:=by simp [q3]
 rw [show judge ss us = (0,0) by unfold judge;rw [if_neg h16,if_neg q1',if_neg q2',if_neg q3']];clear q1' q2' q3'
 go_enter func69,ntmps69
 go_wp2_with fail
 refine hm E1 ?_;rintro x w1 ⟨rfl,rfl⟩
 go_wp2_with fail
 refine hm E2 ?_;rintro x w1 ⟨rfl,rfl⟩
 go_wp2_with fail
 refine hm E3 ?_;rintro x w1 ⟨rfl,rfl⟩
 go_wp2_with fail
 exact bodyPost_ret (v:=.agg #[.int .i64 0,.int .i64 0]) (by simp [results,Tryz.results69,go_sem]) rfl ⟨rfl,(Kp.refl _ _).alloc _⟩
end
end Go.Proofs.YtnlbchmfcebeeaaGreat
