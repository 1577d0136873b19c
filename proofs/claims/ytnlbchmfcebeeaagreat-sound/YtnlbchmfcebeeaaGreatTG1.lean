import Derived.Test.YtnlbchmfcebeeaaGreatTF3
import Derived.Deep.CutRange
set_option maxHeartbeats 12800000
set_option maxRecDepth 100000
namespace Go.Proofs.YtnlbchmfcebeeaaGreat
open Go.RowKit
namespace Ch
def goes (n : Nat) (t : ByteArray) (a : As) (b : Int) : As × ByteArray × Int:=if isEv b then cFire t a (strOfNums [b]) else cWait n t a
end Ch
theorem asInfo (a : Ch.As) : (Tryz.prog.info? 26).map (·.size) = some (asA a).size:=Tryz.sizeAs
section
variable (w : World)
theorem same_any (a : Ch.As) :
 Calls Tryz.prog 21 #[.agg (asA a),.agg (asA a)] w fun x w'=>x = .returned (.bool true) ∧ Kp (fun _=>False) w w':=by
 have K1 : Kp (fun _=>False) w ((w.alloc (.cells (asA a) 26)).alloc (.cells (asA a) 26)):=((Kp.refl _ _).alloc _).alloc _;unfold asA at *
 go_enter Tryz.func21,Tryz.ntmps21
 go_wp2;go_ret;exact ⟨rfl,K1⟩
theorem goes_any (n : Nat) (hn : n ≤ 1000) (t : ByteArray) (a : Ch.As) (b : Int) (ha : a.Sm) (hw : Ch.isEv b = false → Ch.lgE t a = 0 → (Ch.waitF (Ch.read t).2.2 n (Ch.tick (Ch.lgS t a)) []).isSome = true) :
 Calls Tryz.prog 30 #[.string t,.agg (asA a),.int .u8 b] w fun x w'=>x = .returned (.tuple #[.agg (asA (Ch.goes n t a b).1),.string (Ch.goes n t a b).2.1,.int .i64 (Ch.goes n t a b).2.2]) ∧ Kp (fun _=>False) w w':=by
 obtain ⟨da,hdA,hdAa⟩:=Tryz.undAs
 have hb1 : ((w.alloc (.cells (asA a) 26)).alloc (.cells y6S 26)).heap[w.heap.size]? = some (.cells (asA a) 26):=by
  rw [Below.heap_alloc _ _ _ (by simp)];exact heap_alloc_new _ _
 have hr1 : ((w.alloc (.cells (asA a) 26)).alloc (.cells y6S 26)).heap[w.heap.size + 1]? = some (.cells y6S 26):=heap_alloc2_new w _ _;have K1 : Kp (fun _=>False) w ((w.alloc (.cells (asA a) 26)).alloc (.cells y6S 26)):=((Kp.refl _ _).alloc _).alloc _;have aI:=asInfo a;have EW:=hid (fun W h=>cWait_any W n hn t a ha h);have EF:=hid (fun W ev=>cFire_any W t a ev ha);generalize hAA : asA a = AA at hb1 hr1 K1 aI EW EF ⊢;clear hAA
 by_cases q : Ch.isEv b = true
 ·rw [show Ch.goes n t a b = Ch.cFire t a (strOfNums [b]) by unfold Ch.goes;rw [if_pos q]]
  have q':=q;simp only [Ch.isEv,Bool.and_eq_true,decide_eq_true_eq] at q';obtain ⟨q1,q2⟩:=q'
  have E1:=fun W=>hid (EF.out W (strOfNums [b]))
  clear EW EF hw;generalize hgf : Ch.cFire t a (strOfNums [b]) = r at *;clear hgf;obtain ⟨ra,ro,re⟩:=r;have rO:=asOne ra;have rI:=asInfo ra;have rS : (asA ra).size = 6:=rfl;simp only at E1 ⊢;generalize asA ra = RA at *
  go_enter Tryz.func30,Tryz.ntmps30
  go_upto_region 2 with (fail)
  generalize (w.alloc (.cells AA 26)).alloc (.cells y6S 26) = w1 at *
  have oq : OwnsQ (w1.alloc (.cells #[.int .u8 b] 5)) 0 (.slice (some ⟨w1.heap.size,0,none⟩) 1 1) (byCells [b]) :=
   .inr ⟨w1.heap.size,0,1,#[.int .u8 b],rfl,Nat.zero_le _,heap_alloc_new _ _,by simp [byCells],by simp,by intro j u hj;simpa [byCells] using hj⟩
  have hcv:=run_textQ oq;have hr2 : (w1.alloc (.cells #[.int .u8 b] 5)).heap[w.heap.size + 1]? = some (.cells y6S 26):=(Below.heap_alloc _ _ _ (lt_of_block hr1)).trans hr1;have K2:=K1.alloc (.cells #[.int .u8 b] 5);clear oq hr1 K1
  go_wp2_with (refine wpList_load_row rfl 26 (.tmp 4) rfl w.heap.size rfl 26 AA (0,0) da hb1 hdA (by cases da <;> first | rfl | exact absurd hdAa (by simp [isAggD])) aI ?_)
  refine Calls.mono (Hid.out (E1 _)) ?_;rintro x w3 ⟨rfl,K3⟩;have hr3:=K3.at_ hr2 (fun x=>x);have KF : Kp (fun _=>False) w (w3.setRow (w.heap.size + 1) RA):=(K2.trans K3).setRow (fun x=>by omega) _;clear K2 K3 hr2 E1 hcv hb1
  go_wp2_with (refine wpList_store_row rfl 26 (.tmp 6) (.tmp 21) rfl (w.heap.size + 1) RA rfl rfl 26 y6S hr3 rI (by rw [rS];rfl) rO ?_)
  refine bodyPost_ret (results_cell_tmp2 rfl _ _ (w.heap.size + 1) 26 RA (0,0) da rfl (setRow_heap _ _ _ _ _ _ hr3) hdA hdAa rI) rfl ?_;exact ⟨rfl,KF⟩
 rw [show Ch.goes n t a b = Ch.cWait n t a by unfold Ch.goes;rw [if_neg q]]
 have E1:=fun W=>hid (EW.out W (hw (by simpa using q)))
 have key : ∀ (Q : Prop),(97 ≤ b → ¬ b ≤ 122 → Q) → (¬ 97 ≤ b → Q) → Q:=by
  intro Q h1 h2
  by_cases h : 97 ≤ b
  ·exact h1 h (fun h'=>q (by simp [Ch.isEv,h,h']))
  exact h2 h
 clear hw EW EF;generalize hgw : Ch.cWait n t a = r at *;clear hgw;obtain ⟨ra,ro,re⟩:=r;have rO:=asOne ra;have rI:=asInfo ra;have rS : (asA ra).size = 6:=rfl;simp only at E1 ⊢;generalize asA ra = RA at *;refine key _ (fun h1 h2=>?_) (fun h1=>?_)
 ·clear key q
  go_enter Tryz.func30,Tryz.ntmps30
  go_upto_region 3 with (fail)
  generalize (w.alloc (.cells AA 26)).alloc (.cells y6S 26) = w1 at *
  go_wp2_with (refine wpList_load_row rfl 26 (.tmp 4) rfl w.heap.size rfl 26 AA (0,0) da hb1 hdA (by cases da <;> first | rfl | exact absurd hdAa (by simp [isAggD])) aI ?_)
  refine Calls.mono (Hid.out (E1 w1)) ?_;rintro x w3 ⟨rfl,K3⟩;have hr3:=K3.at_ hr1 (fun x=>x);have KF : Kp (fun _=>False) w (w3.setRow (w.heap.size + 1) RA):=(K1.trans K3).setRow (fun x=>by omega) _;clear K1 K3 hr1 E1 hb1
  go_wp2_with (refine wpList_store_row rfl 26 (.tmp 6) (.tmp 27) rfl (w.heap.size + 1) RA rfl rfl 26 y6S hr3 rI (by rw [rS];rfl) rO ?_)
  refine bodyPost_ret (results_cell_tmp2 rfl _ _ (w.heap.size + 1) 26 RA (0,0) da rfl (setRow_heap _ _ _ _ _ _ hr3) hdA hdAa rI) rfl ?_;exact ⟨rfl,KF⟩
 clear key q
 go_enter Tryz.func30,Tryz.ntmps30
 go_upto_region 3 with (fail)
 generalize (w.alloc (.cells AA 26)).alloc (.cells y6S 26) = w1 at *
 go_wp2_with (refine wpList_load_row rfl 26 (.tmp 4) rfl w.heap.size rfl 26 AA (0,0) da hb1 hdA (by cases da <;> first | rfl | exact absurd hdAa (by simp [isAggD])) aI ?_)
 refine Calls.mono (Hid.out (E1 w1)) ?_;rintro x w3 ⟨rfl,K3⟩;have hr3:=K3.at_ hr1 (fun x=>x);have KF : Kp (fun _=>False) w (w3.setRow (w.heap.size + 1) RA):=(K1.trans K3).setRow (fun x=>by omega) _;clear K1 K3 hr1 E1 hb1
 go_wp2_with (refine wpList_store_row rfl 26 (.tmp 6) (.tmp 27) rfl (w.heap.size + 1) RA rfl rfl 26 y6S hr3 rI (by rw [rS];rfl) rO ?_)
 refine bodyPost_ret (results_cell_tmp2 rfl _ _ (w.heap.size + 1) 26 RA (0,0) da rfl (setRow_heap _ _ _ _ _ _ hr3) hdA hdAa rI) rfl ?_;exact ⟨rfl,KF⟩
end
namespace Ch
def beqB (a b : ByteArray) : Bool:=a.data.toList == b.data.toList
def beqAs (a b : As) : Bool:=beqB a.act b.act && beqB a.past b.past && beqB a.tm b.tm && (a.x == b.x) && (a.y == b.y) && (a.z == b.z)
theorem beqB_eq {a b : ByteArray} (h : beqB a b = true) : a = b:=by
 unfold beqB at h
 have h2 : a.data.toList = b.data.toList:=by simpa using h
 obtain ⟨x⟩:=a;obtain ⟨y⟩:=b;simp only [ByteArray.mk.injEq];exact Array.ext' h2
theorem beqAs_eq {a b : As} (h : beqAs a b = true) : a = b:=by
 unfold beqAs at h;simp only [Bool.and_eq_true,beq_iff_eq] at h;obtain ⟨⟨⟨⟨⟨h1,h2⟩,h3⟩,h4⟩,h5⟩,h6⟩:=h;obtain ⟨a1,a2,a3,a4,a5,a6⟩:=a;obtain ⟨b1,b2,b3,b4,b5,b6⟩:=b;simp only at *;rw [beqB_eq h1,beqB_eq h2,beqB_eq h3,h4,h5,h6]
def okR (r : As × ByteArray × Int) (want : As) (out : ByteArray) : Bool:=beqAs r.1 want && beqB r.2.1 out && (r.2.2 == 0)
theorem okR_eq {r : As × ByteArray × Int} {want : As} {out : ByteArray} (h : okR r want out = true) : r = (want,out,0):=by
 unfold okR at h;simp only [Bool.and_eq_true,beq_iff_eq] at h;obtain ⟨⟨h1,h2⟩,h3⟩:=h;obtain ⟨a,b,c⟩:=r;simp only at *;rw [beqAs_eq h1,beqB_eq h2,h3]
theorem lg_of {t : ByteArray} {ol : Ol} (hr : read t = (0,0,ol)) {a : As} (ht : (takeA ol.sts a).1 = true) : lgE t a = 0 ∧ lgS t a = (takeA ol.sts a).2:=by
 unfold lgE lgS;rw [hr];simp [ht]
theorem peek_one (b : Int) (h1 : 0 ≤ b) (h2 : b < 256) : peek (strOfNums [b]) 0 = b:=by
 have hs : (strOfNums [b]).size = 1:=strOfNums_size [b];unfold peek;rw [dif_pos (by omega)];have e : (strOfNums [b])[0]'(by omega) = UInt8.ofNat b.toNat:=rfl;rw [e];simp;omega
end Ch
def AsR (w : World) (b : Nat) (a : Ch.As) : Prop:=w.heap[b]? = some (.cells (asA a) 26 (0,0))
theorem AsR.keep {S : Nat → Prop} {w w' : World} {b : Nat} {a : Ch.As} (h : AsR w b a) (k : Kp S w w') (hs : ¬ S b) : AsR w' b a:=k.at_ h hs
theorem AsR.lt {w : World} {b : Nat} {a : Ch.As} (h : AsR w b a) : b < w.heap.size:=lt_of_block h
section
variable {w : World} {b : Nat} {a : Ch.As}
theorem AsR.c0 (h : AsR w b a) : w.cell? ⟨b,0,none⟩ = some (.string a.act):=by rw [World.cell?,h];rfl
theorem AsR.c1 (h : AsR w b a) : w.cell? ⟨b,1,none⟩ = some (.string a.past):=by rw [World.cell?,h];rfl
theorem AsR.set1 (h : AsR w b a) (v : ByteArray) : AsR (w.setCell ⟨b,1,none⟩ (.string v)) b { a with past:=v }:=by
 unfold AsR at *;rw [heap_setCell_same _ _ _ _ _ _ h];rfl
end
namespace Ch
structure J3 where
 a : Bool
 b : Bool
 c : Bool
def J3.act (s : J3) : ByteArray:=⟨#[82,80,65,if s.a then 67 else 66,68,if s.b then 70 else 69,71,if s.c then 73 else 72]⟩
def plainA (s : ByteArray) : As:=⟨s,⟨#[]⟩,⟨#[]⟩,0,0,0⟩
end Ch
def DbR (w : World) (b : Nat) (s : Ch.J3) : Prop:=w.heap[b]? = some (.cells #[.bool s.a,.bool s.b,.bool s.c] 34 (0,0))
section
variable {w : World} {b : Nat} {s : Ch.J3}
theorem DbR.c0 (h : DbR w b s) : w.cell? ⟨b,0,none⟩ = some (.bool s.a):=by rw [World.cell?,h];rfl
theorem DbR.c1 (h : DbR w b s) : w.cell? ⟨b,1,none⟩ = some (.bool s.b):=by rw [World.cell?,h];rfl
theorem DbR.c2 (h : DbR w b s) : w.cell? ⟨b,2,none⟩ = some (.bool s.c):=by rw [World.cell?,h];rfl
theorem DbR.set1 (h : DbR w b s) (v : Bool) : DbR (w.setCell ⟨b,1,none⟩ (.bool v)) b ⟨s.a,v,s.c⟩:=by unfold DbR at *;rw [heap_setCell_same _ _ _ _ _ _ h];rfl
theorem DbR.set2 (h : DbR w b s) (v : Bool) : DbR (w.setCell ⟨b,2,none⟩ (.bool v)) b ⟨s.a,s.b,v⟩:=by unfold DbR at *;rw [heap_setCell_same _ _ _ _ _ _ h];rfl
end
theorem built_plain (s : ByteArray) : Tryz.prog.built 26 [(0,.string s)] = some (asA (Ch.plainA s)):=by kernel_rfl
section
variable (w : World)
theorem plain_any (s : ByteArray) :
 Calls Tryz.prog 23 #[.string s] w fun x w'=>x = .returned (.agg (asA (Ch.plainA s))) ∧ Kp (fun _=>False) w w':=by
 obtain ⟨da,hdA,hdAa⟩:=Tryz.undAs;have HB:=hid (built_plain s);have rO:=asOne (Ch.plainA s);have rI:=asInfo (Ch.plainA s);have rS : (asA (Ch.plainA s)).size = 6:=rfl;have hnew:=heap_alloc_new w (.cells y6S 26);have KF : Kp (fun _=>False) w ((w.alloc (.cells y6S 26)).setRow w.heap.size (asA (Ch.plainA s))):=((Kp.refl _ _).alloc _).setRow (fun x=>by omega) _;generalize asA (Ch.plainA s) = PA at *
 go_enter Tryz.func23,Tryz.ntmps23
 go_wp2_with (first | (refine wpList_build_eq rfl 26 #[(0,.tmp 3)] rfl PA [(0,.string s)] ?_ HB.out ?_;rfl) | refine wpList_store_row rfl 26 (.tmp 2) (.tmp 4) rfl w.heap.size PA rfl rfl 26 y6S hnew rI (by rw [rS];rfl) rO ?_)
 refine bodyPost_ret (results_cell_row rfl _ _ w.heap.size 26 PA (0,0) da rfl (setRow_heap _ _ _ _ _ _ hnew) hdA (by cases da <;> first | rfl | exact absurd hdAa (by simp [isAggD])) rI) rfl ?_;exact ⟨rfl,KF⟩
end
end Go.Proofs.YtnlbchmfcebeeaaGreat
