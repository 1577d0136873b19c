import Derived.Test.YtnlbchmfcebeeaaGreatTX1
import Derived.Test.YtnlbchmfcebeeaaGreatTB6
import Derived.Deep.QuietTactic
import Derived.BigQuiet
set_option maxHeartbeats 12800000
set_option maxRecDepth 100000
namespace Go.Proofs.YtnlbchmfcebeeaaGreat
open Go.RowKit
def WkB (w : World) (B b : Nat) (k : Ch.Wk) : Prop:=∃ v,w.heap[b]? = some (.cells #[.int .i64 k.mode,v,.int .u8 k.close] 289 (0,0)) ∧ OwnsQ w B v (byCells k.open_)
theorem WkB.close {w : World} {B b : Nat} {k : Ch.Wk} (h : WkB w B b k) : w.cell? ⟨b,2,none⟩ = some (.int .u8 k.close):=by
 obtain ⟨v,h,_⟩:=h;rw [World.cell?,h];rfl
section
variable (w : World) (B b : Nat)
theorem wAct_any (k : Ch.Wk) (c : Int) (h : WkB w B b k) :
 Calls Tryz.prog 263 #[.pointer (some ⟨b,0,none⟩),.int .u8 c] w fun x w'=>x = .returned (.int .i64 (Ch.wAct k c)) ∧ w' = w:=by
 have z:=h.close;clear h;unfold Ch.wAct
 cases q1 : c == 33 <;> cases q2 : c == 126 <;> cases q3 : c == 35 <;> cases q4 : c == 64 <;> cases q5 : c == 43 <;> cases q6 : c == 45 <;> cases q7 : c == 61 <;> cases q8 : c != k.close <;> cases q9 : c == 62 <;>
  first
   | (exfalso;simp at q1 q2 q3 q4 q5 q6 q7 q9;omega)
   | (go_enter Tryz.func263,Tryz.ntmps263
      go_wp2;go_ret
      exact ⟨rfl,rfl⟩)
end
theorem WkB.mode {w : World} {B b : Nat} {k : Ch.Wk} (h : WkB w B b k) : w.cell? ⟨b,0,none⟩ = some (.int .i64 k.mode):=by
 obtain ⟨v,h,_⟩:=h;rw [World.cell?,h];rfl
theorem WkB.free {w : World} {B b : Nat} {k : Ch.Wk} (h : WkB w B b k) (i : Nat) : w.frozen? ⟨b,i,none⟩ = false:=by
 obtain ⟨v,h,_⟩:=h;simp [World.frozen?,h]
theorem WkB.lt {w : World} {B b : Nat} {k : Ch.Wk} (h : WkB w B b k) : b < w.heap.size:=by
 obtain ⟨v,h,_⟩:=h;exact lt_of_block h
theorem WkB.set2 {w : World} {B b : Nat} {k : Ch.Wk} (h : WkB w B b k) (c : Int) : WkB (w.setCell ⟨b,2,none⟩ (.int .u8 c)) B b { k with close:=c }:=by
 obtain ⟨v,h,q⟩:=h;have ne:=q.ne h (by decide);refine ⟨v,by rw [heap_set_same _ h];rfl,q.keep (S:=fun i=>i = b) ((Kp.refl _ _).setCell (by intro _;rfl) _) (fun i hi x=>by subst x;exact ne hi)⟩
theorem WkB.set0 {w : World} {B b : Nat} {k : Ch.Wk} (h : WkB w B b k) (c : Int) : WkB (w.setCell ⟨b,0,none⟩ (.int .i64 c)) B b { k with mode:=c }:=by
 obtain ⟨v,h,q⟩:=h;have ne:=q.ne h (by decide);refine ⟨v,by rw [heap_set_same _ h];rfl,q.keep (S:=fun i=>i = b) ((Kp.refl _ _).setCell (by intro _;rfl) _) (fun i hi x=>by subst x;exact ne hi)⟩
theorem WkB.drewN {w : World} {B b : Nat} {k : Ch.Wk} (h : WkB w B b k) (n : Nat) : WkB (w.drewN n) B b k:=h
section
variable (w : World)
theorem rIn_any (b lo hi : Int) :
 Calls Tryz.prog 238 #[.int .u8 b,.int .u8 lo,.int .u8 hi] w fun x w'=>x = .returned (.bool (Ch.inR b lo hi)) ∧ w' = w:=by
 unfold Ch.inR
 cases q1 : decide (lo ≤ b) <;> cases q2 : decide (b ≤ hi) <;>
  (go_enter Tryz.func238,Tryz.ntmps238
   go_wp2;go_ret
   exact ⟨rfl,rfl⟩)
theorem rWhen_any (ok : Bool) (n : Int) :
 Calls Tryz.prog 262 #[.bool ok,.int .i64 n] w fun x w'=>x = .returned (.int .i64 (Ch.whenI ok n)) ∧ w' = w:=by
 cases ok <;>
  (go_enter Tryz.func262,Tryz.ntmps262
   go_wp2;go_ret
   exact ⟨rfl,rfl⟩)
end
section
variable (w : World) (B b : Nat)
theorem WkB.keepU {w w3 : World} {B b : Nat} {k : Ch.Wk} {v : Value} {T : TypeId} (hv : w.heap[b]? = some (.cells #[.int .i64 k.mode,v,.int .u8 k.close] T (0,0))) (hT : T ≠ 5) (q : OwnsQ w B v (byCells k.open_)) (g3 : Kp (fun i=>v.ownBlock = some i) w w3) :
 w3.heap[b]? = some (.cells #[.int .i64 k.mode,v,.int .u8 k.close] T (0,0)) ∧ Kp (fun i=>B ≤ i) w w3 :=
 ⟨g3.at_ hv (q.ne hv hT),(Kp.refl _ _).trans' g3 (fun i _ x=>(q.lt i x).1)⟩
theorem OwnsQ.pop {w : World} {B : Nat} {g off n cap : Nat} {l : List Int} {d : Int} (h : OwnsQ w B (.slice (some ⟨g,off,none⟩) n cap) (byCells (l ++ [d]))) : OwnsQ w B (.slice (some ⟨g,off,none⟩) l.length cap) (byCells l) ∧ w.cell? ⟨g,off + l.length,none⟩ = some (.int .u8 d):=by
 rcases h with ⟨h,_⟩ | ⟨g',off',cap',cur,h,hb,hg,hn,hs,hx⟩
 ·simp at h
 simp only [Value.slice.injEq,Option.some.injEq,Addr.mk.injEq,and_true] at h;obtain ⟨⟨rfl,rfl⟩,rfl,rfl⟩:=h
 have hl : (byCells (l ++ [d])).length = l.length + 1:=by simp [byCells]
 refine ⟨.inr ⟨g,off,cap,cur,by simp [byCells],hb,hg,by simp [byCells];omega,hs,fun j u hu=>hx j u ?_⟩,?_⟩
 ·rw [byCells_snoc,List.getElem?_append_left (List.getElem?_eq_some_iff.1 hu).1];exact hu
 rw [cell_of_row w g _ cur _ _ hg];exact hx l.length _ (by rw [byCells_snoc];simp [byCells])
theorem Ch.wItem_pop (km kc c d : Int) (o : List Int) (b1 : (c == 40) = false) (b2 : (c == 91) = false) (b3 : (c == 60) = false) (b4 : (c == 42) = false) (b5 : (c == 58) = false) (b6 : (c == 94) = false) (b7 : (c == 36) = false) (hd : (c != d) = false) :
 Ch.wItem ⟨km,o ++ [d],kc⟩ c = (if o.length == 0 then 18 else 5,⟨km,o,kc⟩):=by
 unfold Ch.wItem;simp only [b1,b2,b3,b4,b5,b6,b7,List.getLast?_concat,hd];simp
theorem wItem_any (k : Ch.Wk) (c : Int) (h : WkB w B b k) (hb : B ≤ b) (hl : k.open_.length ≤ 1000) :
 Calls Tryz.prog 261 #[.pointer (some ⟨b,0,none⟩),.int .u8 c] w fun x w'=>x = .returned (.int .i64 (Ch.wItem k c).1) ∧ WkB w' B b (Ch.wItem k c).2 ∧ Kp (fun i=>B ≤ i) w w':=by
 have hlt:=h.lt;obtain ⟨km,ko,kc⟩:=k;have hS:=h.set2 59;have fz:=h.free;have HW:=hid h;obtain ⟨v,hv,q⟩:=h
 change OwnsQ w B v (byCells ko) at q
 change ko.length ≤ 1000 at hl
 have z1 : w.cell? ⟨b,1,none⟩ = some v:=by rw [World.cell?,hv];rfl
 have z2 : w.cell? ⟨b,2,none⟩ = some (.int .u8 kc):=by rw [World.cell?,hv];rfl
 have HM:=hid hv;clear hv
 by_cases c1 : c = 40
 ·subst c1
  rw [show Ch.wItem ⟨km,ko,kc⟩ 40 = (1,⟨km,ko ++ [41],kc⟩) by simp [Ch.wItem]]
  go_enter Tryz.func261,Tryz.ntmps261
  go_wp2_with (at_builtin;refine wpList_append_q rfl (.tmp 13) (.tmp 14) rfl rfl (q.alloc _) ⟨w.heap.size,0,none⟩ 1 1 [.int .u8 41] rfl rfl (by decide) (by exact cell1_new _ _ _) (by intro u hu;simp at hu;subst hu;rfl) (by simp [byCells];omega) (by simp;omega) ?_)
  intro ga oa ca w3 q3 g3 hb3;have KG : Kp (fun i=>v.ownBlock = some i) w w3:=((Kp.refl _ _).alloc _).grown g3 (fun i hi _=>hi);obtain ⟨h3,K3⟩:=WkB.keepU (k:=⟨km,ko,kc⟩) HM.out (by decide) q KG
  have z13 : w3.cell? ⟨b,1,none⟩ = some v:=by rw [World.cell?,h3];rfl
  have f13 : w3.frozen? ⟨b,1,none⟩ = false:=by simp [World.frozen?,h3]
  have HH:=hid (And.intro h3 (And.intro q3 K3));clear HM KG q3 g3 hb3 h3 K3 z1 z2 q fz hS HW;go_wp2;go_ret;obtain ⟨h3,q3,K3⟩:=HH.out;refine ⟨rfl,⟨_,by rw [heap_set_same _ h3];rfl,?_⟩,K3.setCell (p:=⟨b,1,none⟩) (fun _=>hb) _⟩;rw [byCells_snoc];exact q3.keep (S:=fun i=>i = b) ((Kp.refl _ _).setCell (by intro _;rfl) _) (fun i hi x=>by subst x;exact q3.ne h3 (by decide) hi)
 by_cases c2 : c = 91
 ·subst c2
  rw [show Ch.wItem ⟨km,ko,kc⟩ 91 = (1,⟨km,ko ++ [93],kc⟩) by simp [Ch.wItem]]
  go_enter Tryz.func261,Tryz.ntmps261
  go_wp2_with (at_builtin;refine wpList_append_q rfl (.tmp 24) (.tmp 25) rfl rfl (q.alloc _) ⟨w.heap.size,0,none⟩ 1 1 [.int .u8 93] rfl rfl (by decide) (by exact cell1_new _ _ _) (by intro u hu;simp at hu;subst hu;rfl) (by simp [byCells];omega) (by simp;omega) ?_)
  intro ga oa ca w3 q3 g3 hb3;have KG : Kp (fun i=>v.ownBlock = some i) w w3:=((Kp.refl _ _).alloc _).grown g3 (fun i hi _=>hi);obtain ⟨h3,K3⟩:=WkB.keepU (k:=⟨km,ko,kc⟩) HM.out (by decide) q KG
  have z13 : w3.cell? ⟨b,1,none⟩ = some v:=by rw [World.cell?,h3];rfl
  have f13 : w3.frozen? ⟨b,1,none⟩ = false:=by simp [World.frozen?,h3]
  have HH:=hid (And.intro h3 (And.intro q3 K3));clear HM KG q3 g3 hb3 h3 K3 z1 z2 q fz hS HW;go_wp2;go_ret;obtain ⟨h3,q3,K3⟩:=HH.out;refine ⟨rfl,⟨_,by rw [heap_set_same _ h3];rfl,?_⟩,K3.setCell (p:=⟨b,1,none⟩) (fun _=>hb) _⟩;rw [byCells_snoc];exact q3.keep (S:=fun i=>i = b) ((Kp.refl _ _).setCell (by intro _;rfl) _) (fun i hi x=>by subst x;exact q3.ne h3 (by decide) hi)
 by_cases c3 : c = 60
 ·subst c3
  rw [show Ch.wItem ⟨km,ko,kc⟩ 60 = (2,⟨km,ko,kc⟩) by simp [Ch.wItem]]
  go_enter Tryz.func261,Tryz.ntmps261
  go_wp2;go_ret;exact ⟨rfl,HW.out,Kp.refl _ _⟩
 by_cases c4 : c = 42
 ·subst c4
  rw [show Ch.wItem ⟨km,ko,kc⟩ 42 = (4,⟨km,ko,kc⟩) by simp [Ch.wItem]]
  go_enter Tryz.func261,Tryz.ntmps261
  go_wp2;go_ret;exact ⟨rfl,HW.out,Kp.refl _ _⟩
 by_cases c5 : c = 58
 ·subst c5
  rw [show Ch.wItem ⟨km,ko,kc⟩ 58 = (6,⟨km,ko,kc⟩) by simp [Ch.wItem]]
  go_enter Tryz.func261,Tryz.ntmps261
  go_wp2;go_ret;exact ⟨rfl,HW.out,Kp.refl _ _⟩
 by_cases c6 : c = 94
 ·subst c6
  rw [show Ch.wItem ⟨km,ko,kc⟩ 94 = (11,⟨km,ko,59⟩) by simp [Ch.wItem]];have HS:=hid hS;clear hS;have f2:=fz 2
  go_enter Tryz.func261,Tryz.ntmps261
  go_wp2;go_ret;exact ⟨rfl,HS.out,(Kp.refl _ _).setCell (p:=⟨b,2,none⟩) (fun _=>hb) _⟩
 by_cases c7 : c = 36
 ·subst c7
  rw [show Ch.wItem ⟨km,ko,kc⟩ 36 = (11,⟨km,ko,59⟩) by simp [Ch.wItem]];have HS:=hid hS;clear hS;have f2:=fz 2
  go_enter Tryz.func261,Tryz.ntmps261
  go_wp2;go_ret;exact ⟨rfl,HS.out,(Kp.refl _ _).setCell (p:=⟨b,2,none⟩) (fun _=>hb) _⟩
 have b1 : (c == 40) = false:=by simpa using c1
 have b2 : (c == 91) = false:=by simpa using c2
 have b3 : (c == 60) = false:=by simpa using c3
 have b4 : (c == 42) = false:=by simpa using c4
 have b5 : (c == 58) = false:=by simpa using c5
 have b6 : (c == 94) = false:=by simpa using c6
 have b7 : (c == 36) = false:=by simpa using c7
 clear c1 c2 c3 c4 c5 c6 c7
 rcases List.eq_nil_or_concat ko with rfl | ⟨o,d,rfl⟩
 ·rw [show Ch.wItem ⟨km,[],kc⟩ c = (-1,⟨km,[],kc⟩) by simp [Ch.wItem,b1,b2,b3,b4,b5,b6,b7]]
  obtain ⟨ao,cap,rfl⟩:=q.len;rw [show ((byCells []).length : Nat) = 0 from rfl] at z1;clear hS
  go_enter Tryz.func261,Tryz.ntmps261
  go_wp2;go_ret;exact ⟨rfl,HW.out,Kp.refl _ _⟩
 rw [List.concat_eq_append] at *
 have hol : o.length ≤ 999:=by simp at hl;omega
 have hlen : (byCells (o ++ [d])).length = o.length + 1:=by simp [byCells]
 obtain ⟨g,off,cap,rfl⟩ : ∃ g off cap,v = .slice (some ⟨g,off,none⟩) (o.length + 1) cap:=by
  rcases q with ⟨_,hn⟩ | ⟨g,off,cap,cur,hv,_⟩
  ·simp [byCells] at hn
  exact ⟨g,off,cap,by rw [hv,hlen]⟩
 obtain ⟨qp,cz⟩:=q.pop;have hno:=q.ne HM.out (by decide)
 have hcap : o.length + 1 ≤ cap:=by
  rcases q with ⟨hn,_⟩ | ⟨g',off',cap',cur,hv,_,_,hc,_⟩
  ·simp at hn
  simp only [Value.slice.injEq] at hv;rw [hv.2.2];simp [byCells] at hc;exact hc
 clear hS hl hlen q
 cases qd : c != d with
 | true =>
   have hb1 : (((o.length : Int) + 1) == 0) = false:=by simp;omega
   rw [show Ch.wItem ⟨km,o ++ [d],kc⟩ c = (-1,⟨km,o ++ [d],kc⟩) by simp at qd;simp [Ch.wItem,b1,b2,b3,b4,b5,b6,b7,qd]]
   go_enter Tryz.func261,Tryz.ntmps261
   go_wp2;go_ret;exact ⟨rfl,HW.out,Kp.refl _ _⟩
 | false=>?_
 have hb1 : (((o.length : Int) + 1) == 0) = false:=by simp;omega
 have f1:=fz 1
 have hcap' : (o.length : Int) ≤ (cap : Int):=by omega
 have K2 : ∀ u,Kp (fun i=>i = b) w (w.setCell ⟨b,1,none⟩ u):=fun u=>(Kp.refl _ _).setCell (by intro _;rfl) _
 by_cases ho : o.length = 0
 ·have h1 : (((o.length : Int) + 1) == 1) = true:=by simp;omega
  rw [show Ch.wItem ⟨km,o ++ [d],kc⟩ c = (18,⟨km,o,kc⟩) by rw [Ch.wItem_pop km kc c d o b1 b2 b3 b4 b5 b6 b7 qd,ho];rfl];have HX:=hid (And.intro qp hno);clear qp hno ho
  go_enter Tryz.func261,Tryz.ntmps261
  go_wp2;go_ret;exact ⟨rfl,⟨_,by rw [heap_set_same _ HM.out];rfl,HX.out.1.keep (K2 _) (fun i hi x=>by subst x;exact HX.out.2 hi)⟩,(K2 _).mono (fun i _ x=>by omega)⟩
 have h1 : (((o.length : Int) + 1) == 1) = false:=by simp;omega
 rw [show Ch.wItem ⟨km,o ++ [d],kc⟩ c = (5,⟨km,o,kc⟩) by rw [Ch.wItem_pop km kc c d o b1 b2 b3 b4 b5 b6 b7 qd];simp;intro h;simp [h] at ho];have HX:=hid (And.intro qp hno);clear qp hno
 go_enter Tryz.func261,Tryz.ntmps261
 go_wp2;go_ret;exact ⟨rfl,⟨_,by rw [heap_set_same _ HM.out];rfl,HX.out.1.keep (K2 _) (fun i hi x=>by subst x;exact HX.out.2 hi)⟩,(K2 _).mono (fun i _ x=>by omega)⟩
end
section
variable (w : World) (B b : Nat)
theorem Ch.wNext_item (k : Ch.Wk) (c : Int) (h : k.mode = 5) : Ch.wNext k c = Ch.wItem k c:=by unfold Ch.wNext;rw [h];rfl
theorem wNext_any (k : Ch.Wk) (c : Int) (h : WkB w B b k) (hb : B ≤ b) (hl : k.open_.length ≤ 1000) :
 Calls Tryz.prog 230 #[.pointer (some ⟨b,0,none⟩),.int .u8 c] w fun x w'=>x = .returned (.int .i64 (Ch.wNext k c).1) ∧ WkB w' B b (Ch.wNext k c).2 ∧ Kp (fun i=>B ≤ i) w w':=by
 have E1:=hid (rIn_any w c 97 122);have E2:=hid (rIn_any w c 65 90);have E3:=hid (rIn_any w c 120 122);have E4:=hid (rIn_any w c 48 57);have EI:=hid (wItem_any w B b k c h hb hl);have EA:=hid (wAct_any w B b k c h);have z0:=h.mode;have z2:=h.close;have f2:=h.free 2;have HS:=hid (h.set2 62);have HW:=hid h;clear h hl;obtain ⟨km,ko,kc⟩:=k;simp only at z0 z2 HS
 by_cases m0 : km = 0
 ·subst m0
  cases q1 : c != 40 with
  | false =>
    rw [show Ch.wNext ⟨0,ko,kc⟩ c = Ch.wItem ⟨0,ko,kc⟩ c by simp [Ch.wNext,q1]]
    go_enter Tryz.func230,Tryz.ntmps230
    go_wp2_with fail
    refine hm E1 ?_;rintro x w1 ⟨rfl,rfl⟩
    go_wp2_with fail
    refine hm E2 ?_;rintro x w1 ⟨rfl,rfl⟩
    go_wp2_with fail
    refine hm E3 ?_;rintro x w1 ⟨rfl,rfl⟩
    go_wp2_with fail
    refine hm E4 ?_;rintro x w1 ⟨rfl,rfl⟩
    go_wp2_with fail
    refine hm EI ?_;rintro x w1 ⟨rfl,h1,K1⟩;go_wp2;go_ret;exact ⟨rfl,h1,K1⟩
  | true=>?_
  cases q2 : c != 91 with
  | false =>
    rw [show Ch.wNext ⟨0,ko,kc⟩ c = Ch.wItem ⟨0,ko,kc⟩ c by simp [Ch.wNext,q2]]
    go_enter Tryz.func230,Tryz.ntmps230
    go_wp2_with fail
    refine hm E1 ?_;rintro x w1 ⟨rfl,rfl⟩
    go_wp2_with fail
    refine hm E2 ?_;rintro x w1 ⟨rfl,rfl⟩
    go_wp2_with fail
    refine hm E3 ?_;rintro x w1 ⟨rfl,rfl⟩
    go_wp2_with fail
    refine hm E4 ?_;rintro x w1 ⟨rfl,rfl⟩
    go_wp2_with fail
    refine hm EI ?_;rintro x w1 ⟨rfl,h1,K1⟩;go_wp2;go_ret;exact ⟨rfl,h1,K1⟩
  | true=>?_
  rw [show Ch.wNext ⟨0,ko,kc⟩ c = (-1,⟨0,ko,kc⟩) by simp [Ch.wNext,q1,q2]]
  go_enter Tryz.func230,Tryz.ntmps230
  go_wp2_with fail
  refine hm E1 ?_;rintro x w1 ⟨rfl,rfl⟩
  go_wp2_with fail
  refine hm E2 ?_;rintro x w1 ⟨rfl,rfl⟩
  go_wp2_with fail
  refine hm E3 ?_;rintro x w1 ⟨rfl,rfl⟩
  go_wp2_with fail
  refine hm E4 ?_;rintro x w1 ⟨rfl,rfl⟩;go_wp2;go_ret;exact ⟨rfl,HW.out,Kp.refl _ _⟩
 by_cases m1 : km = 1
 ·subst m1
  rw [show Ch.wNext ⟨1,ko,kc⟩ c = (Ch.whenI (Ch.inR c 65 90) 5,⟨1,ko,kc⟩) by simp [Ch.wNext]]
  go_enter Tryz.func230,Tryz.ntmps230
  go_wp2_with fail
  refine hm E1 ?_;rintro x w1 ⟨rfl,rfl⟩
  go_wp2_with fail
  refine hm E2 ?_;rintro x w1 ⟨rfl,rfl⟩
  go_wp2_with fail
  refine hm E3 ?_;rintro x w1 ⟨rfl,rfl⟩
  go_wp2_with fail
  refine hm E4 ?_;rintro x w1 ⟨rfl,rfl⟩
  go_wp2_with fail
  refine (rWhen_any _ _ _).mono ?_;rintro x w1 ⟨rfl,rfl⟩;go_wp2;go_ret;exact ⟨rfl,HW.out,Kp.refl _ _⟩
 by_cases m4 : km = 4
 ·subst m4
  rw [show Ch.wNext ⟨4,ko,kc⟩ c = (Ch.whenI (Ch.inR c 65 90) 5,⟨4,ko,kc⟩) by simp [Ch.wNext]]
  go_enter Tryz.func230,Tryz.ntmps230
  go_wp2_with fail
  refine hm E1 ?_;rintro x w1 ⟨rfl,rfl⟩
  go_wp2_with fail
  refine hm E2 ?_;rintro x w1 ⟨rfl,rfl⟩
  go_wp2_with fail
  refine hm E3 ?_;rintro x w1 ⟨rfl,rfl⟩
  go_wp2_with fail
  refine hm E4 ?_;rintro x w1 ⟨rfl,rfl⟩
  go_wp2_with fail
  refine (rWhen_any _ _ _).mono ?_;rintro x w1 ⟨rfl,rfl⟩;go_wp2;go_ret;exact ⟨rfl,HW.out,Kp.refl _ _⟩
 by_cases m2 : km = 2
 ·subst m2
  rw [show Ch.wNext ⟨2,ko,kc⟩ c = (Ch.whenI (Ch.inR c 65 90) 3,⟨2,ko,kc⟩) by simp [Ch.wNext]]
  go_enter Tryz.func230,Tryz.ntmps230
  go_wp2_with fail
  refine hm E1 ?_;rintro x w1 ⟨rfl,rfl⟩
  go_wp2_with fail
  refine hm E2 ?_;rintro x w1 ⟨rfl,rfl⟩
  go_wp2_with fail
  refine hm E3 ?_;rintro x w1 ⟨rfl,rfl⟩
  go_wp2_with fail
  refine hm E4 ?_;rintro x w1 ⟨rfl,rfl⟩
  go_wp2_with fail
  refine (rWhen_any _ _ _).mono ?_;rintro x w1 ⟨rfl,rfl⟩;go_wp2;go_ret;exact ⟨rfl,HW.out,Kp.refl _ _⟩
 by_cases m3 : km = 3
 ·subst m3
  rw [show Ch.wNext ⟨3,ko,kc⟩ c = (Ch.whenI (c == 62) 5,⟨3,ko,kc⟩) by simp [Ch.wNext]]
  go_enter Tryz.func230,Tryz.ntmps230
  go_wp2_with fail
  refine hm E1 ?_;rintro x w1 ⟨rfl,rfl⟩
  go_wp2_with fail
  refine hm E2 ?_;rintro x w1 ⟨rfl,rfl⟩
  go_wp2_with fail
  refine hm E3 ?_;rintro x w1 ⟨rfl,rfl⟩
  go_wp2_with fail
  refine hm E4 ?_;rintro x w1 ⟨rfl,rfl⟩
  go_wp2_with fail
  refine (rWhen_any _ _ _).mono ?_;rintro x w1 ⟨rfl,rfl⟩;go_wp2;go_ret;exact ⟨rfl,HW.out,Kp.refl _ _⟩
 by_cases m5 : km = 5
 ·subst m5
  rw [Ch.wNext_item ⟨5,ko,kc⟩ c rfl]
  go_enter Tryz.func230,Tryz.ntmps230
  go_wp2_with fail
  refine hm E1 ?_;rintro x w1 ⟨rfl,rfl⟩
  go_wp2_with fail
  refine hm E2 ?_;rintro x w1 ⟨rfl,rfl⟩
  go_wp2_with fail
  refine hm E3 ?_;rintro x w1 ⟨rfl,rfl⟩
  go_wp2_with fail
  refine hm E4 ?_;rintro x w1 ⟨rfl,rfl⟩
  go_wp2_with fail
  refine hm EI ?_;rintro x w1 ⟨rfl,h1,K1⟩;go_wp2;go_ret;exact ⟨rfl,h1,K1⟩
 by_cases m6 : km = 6
 ·subst m6
  rw [show Ch.wNext ⟨6,ko,kc⟩ c = (Ch.whenI (Ch.inR c 97 122 || Ch.inR c 65 90 || c == 46) 7,⟨6,ko,62⟩) by simp [Ch.wNext]]
  cases q1 : Ch.inR c 97 122 <;> cases q2 : Ch.inR c 65 90 <;> cases q3 : c == 46 <;> rw [q1] at E1 <;> rw [q2] at E2
  all_goals
   go_enter Tryz.func230,Tryz.ntmps230
   go_wp2_with fail
   refine hm E1 ?_;rintro x w1 ⟨rfl,rfl⟩
   go_wp2_with fail
   refine hm E2 ?_;rintro x w1 ⟨rfl,rfl⟩
   go_wp2_with fail
   refine hm E3 ?_;rintro x w1 ⟨rfl,rfl⟩
   go_wp2_with fail
   refine hm E4 ?_;rintro x w1 ⟨rfl,rfl⟩
   go_wp2_with fail
   refine (rWhen_any _ _ _).mono ?_;rintro x w1 ⟨rfl,rfl⟩;go_wp2;go_ret;exact ⟨rfl,HS.out,(Kp.refl _ _).setCell (p:=⟨b,2,none⟩) (fun _=>hb) _⟩
 by_cases m7 : km = 7
 ·subst m7
  cases q1 : c == 63 with
  | true =>
    rw [show Ch.wNext ⟨7,ko,kc⟩ c = (8,⟨7,ko,kc⟩) by simp [Ch.wNext,q1]]
    go_enter Tryz.func230,Tryz.ntmps230
    go_wp2_with fail
    refine hm E1 ?_;rintro x w1 ⟨rfl,rfl⟩
    go_wp2_with fail
    refine hm E2 ?_;rintro x w1 ⟨rfl,rfl⟩
    go_wp2_with fail
    refine hm E3 ?_;rintro x w1 ⟨rfl,rfl⟩
    go_wp2_with fail
    refine hm E4 ?_;rintro x w1 ⟨rfl,rfl⟩;go_wp2;go_ret;exact ⟨rfl,HW.out,Kp.refl _ _⟩
  | false=>?_
  rw [show Ch.wNext ⟨7,ko,kc⟩ c = (Ch.wAct ⟨7,ko,kc⟩ c,⟨7,ko,kc⟩) by simp [Ch.wNext,q1]]
  go_enter Tryz.func230,Tryz.ntmps230
  go_wp2_with fail
  refine hm E1 ?_;rintro x w1 ⟨rfl,rfl⟩
  go_wp2_with fail
  refine hm E2 ?_;rintro x w1 ⟨rfl,rfl⟩
  go_wp2_with fail
  refine hm E3 ?_;rintro x w1 ⟨rfl,rfl⟩
  go_wp2_with fail
  refine hm E4 ?_;rintro x w1 ⟨rfl,rfl⟩
  go_wp2_with fail
  refine hm EA ?_;rintro x w1 ⟨rfl,rfl⟩;go_wp2;go_ret;exact ⟨rfl,HW.out,Kp.refl _ _⟩
 by_cases m8 : km = 8
 ·subst m8
  rw [show Ch.wNext ⟨8,ko,kc⟩ c = (Ch.whenI (Ch.inR c 120 122) 9,⟨8,ko,kc⟩) by simp [Ch.wNext]]
  go_enter Tryz.func230,Tryz.ntmps230
  go_wp2_with fail
  refine hm E1 ?_;rintro x w1 ⟨rfl,rfl⟩
  go_wp2_with fail
  refine hm E2 ?_;rintro x w1 ⟨rfl,rfl⟩
  go_wp2_with fail
  refine hm E3 ?_;rintro x w1 ⟨rfl,rfl⟩
  go_wp2_with fail
  refine hm E4 ?_;rintro x w1 ⟨rfl,rfl⟩
  go_wp2_with fail
  refine (rWhen_any _ _ _).mono ?_;rintro x w1 ⟨rfl,rfl⟩;go_wp2;go_ret;exact ⟨rfl,HW.out,Kp.refl _ _⟩
 by_cases m9 : km = 9
 ·subst m9
  rw [show Ch.wNext ⟨9,ko,kc⟩ c = (Ch.whenI (c == 60 || c == 61 || c == 62) 10,⟨9,ko,kc⟩) by simp [Ch.wNext]]
  cases q1 : c == 60 <;> cases q2 : c == 61 <;> cases q3 : c == 62
  all_goals
   go_enter Tryz.func230,Tryz.ntmps230
   go_wp2_with fail
   refine hm E1 ?_;rintro x w1 ⟨rfl,rfl⟩
   go_wp2_with fail
   refine hm E2 ?_;rintro x w1 ⟨rfl,rfl⟩
   go_wp2_with fail
   refine hm E3 ?_;rintro x w1 ⟨rfl,rfl⟩
   go_wp2_with fail
   refine hm E4 ?_;rintro x w1 ⟨rfl,rfl⟩
   go_wp2_with fail
   refine (rWhen_any _ _ _).mono ?_;rintro x w1 ⟨rfl,rfl⟩;go_wp2;go_ret;exact ⟨rfl,HW.out,Kp.refl _ _⟩
 by_cases m10 : km = 10
 ·subst m10
  rw [show Ch.wNext ⟨10,ko,kc⟩ c = (Ch.whenI (Ch.inR c 48 57) 11,⟨10,ko,kc⟩) by simp [Ch.wNext]]
  go_enter Tryz.func230,Tryz.ntmps230
  go_wp2_with fail
  refine hm E1 ?_;rintro x w1 ⟨rfl,rfl⟩
  go_wp2_with fail
  refine hm E2 ?_;rintro x w1 ⟨rfl,rfl⟩
  go_wp2_with fail
  refine hm E3 ?_;rintro x w1 ⟨rfl,rfl⟩
  go_wp2_with fail
  refine hm E4 ?_;rintro x w1 ⟨rfl,rfl⟩
  go_wp2_with fail
  refine (rWhen_any _ _ _).mono ?_;rintro x w1 ⟨rfl,rfl⟩;go_wp2;go_ret;exact ⟨rfl,HW.out,Kp.refl _ _⟩
 by_cases m16 : km = 16
 ·subst m16
  rw [show Ch.wNext ⟨16,ko,kc⟩ c = (Ch.whenI (Ch.inR c 48 57) 11,⟨16,ko,kc⟩) by simp [Ch.wNext]]
  go_enter Tryz.func230,Tryz.ntmps230
  go_wp2_with fail
  refine hm E1 ?_;rintro x w1 ⟨rfl,rfl⟩
  go_wp2_with fail
  refine hm E2 ?_;rintro x w1 ⟨rfl,rfl⟩
  go_wp2_with fail
  refine hm E3 ?_;rintro x w1 ⟨rfl,rfl⟩
  go_wp2_with fail
  refine hm E4 ?_;rintro x w1 ⟨rfl,rfl⟩
  go_wp2_with fail
  refine (rWhen_any _ _ _).mono ?_;rintro x w1 ⟨rfl,rfl⟩;go_wp2;go_ret;exact ⟨rfl,HW.out,Kp.refl _ _⟩
 by_cases m11 : km = 11
 ·subst m11
  rw [show Ch.wNext ⟨11,ko,kc⟩ c = (Ch.wAct ⟨11,ko,kc⟩ c,⟨11,ko,kc⟩) by simp [Ch.wNext]]
  go_enter Tryz.func230,Tryz.ntmps230
  go_wp2_with fail
  refine hm E1 ?_;rintro x w1 ⟨rfl,rfl⟩
  go_wp2_with fail
  refine hm E2 ?_;rintro x w1 ⟨rfl,rfl⟩
  go_wp2_with fail
  refine hm E3 ?_;rintro x w1 ⟨rfl,rfl⟩
  go_wp2_with fail
  refine hm E4 ?_;rintro x w1 ⟨rfl,rfl⟩
  go_wp2_with fail
  refine hm EA ?_;rintro x w1 ⟨rfl,rfl⟩;go_wp2;go_ret;exact ⟨rfl,HW.out,Kp.refl _ _⟩
 by_cases m12 : km = 12
 ·subst m12
  rw [show Ch.wNext ⟨12,ko,kc⟩ c = (Ch.whenI (Ch.inR c 97 122) 11,⟨12,ko,kc⟩) by simp [Ch.wNext]]
  go_enter Tryz.func230,Tryz.ntmps230
  go_wp2_with fail
  refine hm E1 ?_;rintro x w1 ⟨rfl,rfl⟩
  go_wp2_with fail
  refine hm E2 ?_;rintro x w1 ⟨rfl,rfl⟩
  go_wp2_with fail
  refine hm E3 ?_;rintro x w1 ⟨rfl,rfl⟩
  go_wp2_with fail
  refine hm E4 ?_;rintro x w1 ⟨rfl,rfl⟩
  go_wp2_with fail
  refine (rWhen_any _ _ _).mono ?_;rintro x w1 ⟨rfl,rfl⟩;go_wp2;go_ret;exact ⟨rfl,HW.out,Kp.refl _ _⟩
 by_cases m13 : km = 13
 ·subst m13
  rw [show Ch.wNext ⟨13,ko,kc⟩ c = (Ch.whenI (Ch.inR c 97 122) 14,⟨13,ko,kc⟩) by simp [Ch.wNext]]
  go_enter Tryz.func230,Tryz.ntmps230
  go_wp2_with fail
  refine hm E1 ?_;rintro x w1 ⟨rfl,rfl⟩
  go_wp2_with fail
  refine hm E2 ?_;rintro x w1 ⟨rfl,rfl⟩
  go_wp2_with fail
  refine hm E3 ?_;rintro x w1 ⟨rfl,rfl⟩
  go_wp2_with fail
  refine hm E4 ?_;rintro x w1 ⟨rfl,rfl⟩
  go_wp2_with fail
  refine (rWhen_any _ _ _).mono ?_;rintro x w1 ⟨rfl,rfl⟩;go_wp2;go_ret;exact ⟨rfl,HW.out,Kp.refl _ _⟩
 by_cases m14 : km = 14
 ·subst m14
  rw [show Ch.wNext ⟨14,ko,kc⟩ c = (Ch.whenI (Ch.inR c 48 57 && c != 48) 11,⟨14,ko,kc⟩) by simp [Ch.wNext]]
  cases q1 : Ch.inR c 48 57 <;> cases q2 : c != 48 <;> rw [q1] at E4
  all_goals
   go_enter Tryz.func230,Tryz.ntmps230
   go_wp2_with fail
   refine hm E1 ?_;rintro x w1 ⟨rfl,rfl⟩
   go_wp2_with fail
   refine hm E2 ?_;rintro x w1 ⟨rfl,rfl⟩
   go_wp2_with fail
   refine hm E3 ?_;rintro x w1 ⟨rfl,rfl⟩
   go_wp2_with fail
   refine hm E4 ?_;rintro x w1 ⟨rfl,rfl⟩
   go_wp2_with fail
   refine (rWhen_any _ _ _).mono ?_;rintro x w1 ⟨rfl,rfl⟩;go_wp2;go_ret;exact ⟨rfl,HW.out,Kp.refl _ _⟩
 by_cases m15 : km = 15
 ·subst m15
  rw [show Ch.wNext ⟨15,ko,kc⟩ c = (Ch.whenI (Ch.inR c 120 122) 16,⟨15,ko,kc⟩) by simp [Ch.wNext]]
  go_enter Tryz.func230,Tryz.ntmps230
  go_wp2_with fail
  refine hm E1 ?_;rintro x w1 ⟨rfl,rfl⟩
  go_wp2_with fail
  refine hm E2 ?_;rintro x w1 ⟨rfl,rfl⟩
  go_wp2_with fail
  refine hm E3 ?_;rintro x w1 ⟨rfl,rfl⟩
  go_wp2_with fail
  refine hm E4 ?_;rintro x w1 ⟨rfl,rfl⟩
  go_wp2_with fail
  refine (rWhen_any _ _ _).mono ?_;rintro x w1 ⟨rfl,rfl⟩;go_wp2;go_ret;exact ⟨rfl,HW.out,Kp.refl _ _⟩
 by_cases m17 : km = 17
 ·subst m17
  rw [show Ch.wNext ⟨17,ko,kc⟩ c = (Ch.whenI (Ch.inR c 65 90 || c == 45) 5,⟨17,ko,kc⟩) by simp [Ch.wNext]]
  cases q1 : Ch.inR c 65 90 <;> cases q2 : c == 45 <;> rw [q1] at E2
  all_goals
   go_enter Tryz.func230,Tryz.ntmps230
   go_wp2_with fail
   refine hm E1 ?_;rintro x w1 ⟨rfl,rfl⟩
   go_wp2_with fail
   refine hm E2 ?_;rintro x w1 ⟨rfl,rfl⟩
   go_wp2_with fail
   refine hm E3 ?_;rintro x w1 ⟨rfl,rfl⟩
   go_wp2_with fail
   refine hm E4 ?_;rintro x w1 ⟨rfl,rfl⟩
   go_wp2_with fail
   refine (rWhen_any _ _ _).mono ?_;rintro x w1 ⟨rfl,rfl⟩;go_wp2;go_ret;exact ⟨rfl,HW.out,Kp.refl _ _⟩
 have n0 : (km == 0) = false:=by simpa using m0
 have n1 : (km == 1) = false:=by simpa using m1
 have n2 : (km == 2) = false:=by simpa using m2
 have n3 : (km == 3) = false:=by simpa using m3
 have n4 : (km == 4) = false:=by simpa using m4
 have n5 : (km == 5) = false:=by simpa using m5
 have n6 : (km == 6) = false:=by simpa using m6
 have n7 : (km == 7) = false:=by simpa using m7
 have n8 : (km == 8) = false:=by simpa using m8
 have n9 : (km == 9) = false:=by simpa using m9
 have n10 : (km == 10) = false:=by simpa using m10
 have n11 : (km == 11) = false:=by simpa using m11
 have n12 : (km == 12) = false:=by simpa using m12
 have n13 : (km == 13) = false:=by simpa using m13
 have n14 : (km == 14) = false:=by simpa using m14
 have n15 : (km == 15) = false:=by simpa using m15
 have n16 : (km == 16) = false:=by simpa using m16
 have n17 : (km == 17) = false:=by simpa using m17
 rw [show Ch.wNext ⟨km,ko,kc⟩ c = (-1,⟨km,ko,kc⟩) by simp only [Ch.wNext,n0,n1,n2,n3,n4,n5,n6,n7,n8,n9,n10,n11,n12,n13,n14,n15,n16,n17];simp];clear m0 m1 m2 m3 m4 m5 m6 m7 m8 m9 m10 m11 m12 m13 m14 m15 m16 m17
 go_enter Tryz.func230,Tryz.ntmps230
 go_wp2_with fail
 refine hm E1 ?_;rintro x w1 ⟨rfl,rfl⟩
 go_wp2_with fail
 refine hm E2 ?_;rintro x w1 ⟨rfl,rfl⟩
 go_wp2_with fail
 refine hm E3 ?_;rintro x w1 ⟨rfl,rfl⟩
 go_wp2_with fail
 refine hm E4 ?_;rintro x w1 ⟨rfl,rfl⟩;go_wp2;go_ret;exact ⟨rfl,HW.out,Kp.refl _ _⟩
end
end Go.Proofs.YtnlbchmfcebeeaaGreat
