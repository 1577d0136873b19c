import Derived.Test.YtnlbchmfcebeeaaGreatTV2
import Derived.Test.YtnlbchmfcebeeaaGreatTEr
import Derived.Test.YtnlbchmfcebeeaaGreatTBb
import Derived.Test.YtnlbchmfcebeeaaGreatTZr
set_option maxHeartbeats 12800000
set_option maxRecDepth 100000
namespace Go.Proofs.YtnlbchmfcebeeaaGreat
open Go.RowKit
def AsR (w : World) (b : Nat) (a : Ch.As) : Prop:=w.heap[b]? = some (.cells (asA a) 26 (0,0))
theorem AsR.keep {S : Nat → Prop} {w w' : World} {b : Nat} {a : Ch.As} (h : AsR w b a) (k : Kp S w w') (hs : ¬ S b) : AsR w' b a:=k.at_ h hs
theorem AsR.lt {w : World} {b : Nat} {a : Ch.As} (h : AsR w b a) : b < w.heap.size:=lt_of_block h
section
variable {w : World} {b : Nat} {a : Ch.As}
theorem AsR.c0 (h : AsR w b a) : w.cell? ⟨b,0,none⟩ = some (.string a.act):=by rw [World.cell?,h];rfl
theorem AsR.c1 (h : AsR w b a) : w.cell? ⟨b,1,none⟩ = some (.string a.past):=by rw [World.cell?,h];rfl
theorem AsR.fz (h : AsR w b a) (i : Nat) : w.frozen? ⟨b,i,none⟩ = false:=by unfold AsR at h;simp [World.frozen?,h]
theorem AsR.set0 (h : AsR w b a) (v : ByteArray) : AsR (w.setCell ⟨b,0,none⟩ (.string v)) b { a with act:=v }:=by
 unfold AsR at *;rw [heap_setCell_same _ _ _ _ _ _ h];rfl
theorem AsR.set1 (h : AsR w b a) (v : ByteArray) : AsR (w.setCell ⟨b,1,none⟩ (.string v)) b { a with past:=v }:=by
 unfold AsR at *;rw [heap_setCell_same _ _ _ _ _ _ h];rfl
end
def ByR (w : World) (g : Nat) (l : List Int) : Prop:=∃ C : Array Value,w.heap[g]? = some (.cells C 5 (C.size,C.size + 1)) ∧ l.length ≤ C.size ∧ ∀ (j : Nat) (x : Int),l[j]? = some x → C[j]? = some (Value.int .u8 x)
section
variable {w : World} {g : Nat} {l : List Int}
theorem ByR.cell (h : ByR w g l) {j : Nat} {x : Int} (hj : l[j]? = some x) : w.cell? ⟨g,j,none⟩ = some (.int .u8 x):=by
 obtain ⟨C,h1,_,h3⟩:=h;rw [World.cell?,h1];exact h3 j x hj
theorem ByR.free (h : ByR w g l) {j : Nat} (hj : j < l.length) : w.frozen? ⟨g,j,none⟩ = false:=by
 obtain ⟨C,h1,h2,_⟩:=h;simp [World.frozen?,h1];omega
theorem ByR.set (h : ByR w g l) {j : Nat} (y : Int) : ByR (w.setCell ⟨g,j,none⟩ (.int .u8 y)) g (l.set j y):=by
 obtain ⟨C,h1,h2,h3⟩:=h;refine ⟨C.setIfInBounds j (.int .u8 y),?_,by simpa using h2,fun k x hk=>?_⟩
 ·rw [heap_set_same _ h1];simp
 by_cases e : j = k
 ·subst e
  have hl:=(List.getElem?_eq_some_iff.1 hk).1;rw [List.length_set] at hl;rw [List.getElem?_set_self hl] at hk;simp at hk;subst hk;rw [Array.getElem?_setIfInBounds_self_of_lt (by omega)]
 rw [List.getElem?_set_ne e] at hk;rw [Array.getElem?_setIfInBounds_ne e];exact h3 k x hk
theorem ByR.new (w : World) (s : ByteArray) : ByR (Lib.bytesWorld w 5 s) w.heap.size (Ch.bys s):=by
 refine ⟨_,Lib.bytesWorld_at_new w 5 s,?_,fun j x hj=>?_⟩
 ·simp [Lib.bytesCells,Ch.bys_len]
 have hl:=(List.getElem?_eq_some_iff.1 hj).1;rw [Ch.bys_len] at hl;have:=Lib.bytesWorld_cell w 5 s j hl;rw [World.cell?,Lib.bytesWorld_at_new] at this
 have e : x = ((s.data.toList.getD j 0).toNat : Int):=by
  unfold Ch.bys at hj;rw [List.getElem?_map] at hj
  have h2 : s.data.toList[j]? = some (s.data.toList.getD j 0):=by simp [List.getD,hl]
  rw [h2] at hj;simpa using hj.symm
 rw [e];exact this
end
namespace Ch
def tnL (n : Nat) (l : List Int) (k : Nat) : List Int:=(l.take k).map (rn n) ++ l.drop k
theorem tnL_len (n : Nat) (l : List Int) (k : Nat) : (tnL n l k).length = l.length:=by unfold tnL;simp;omega
theorem tnL_at {n : Nat} {l : List Int} {k : Nat} {x : Int} (h : l[k]? = some x) : (tnL n l k)[k]? = some x:=by
 have hl:=(List.getElem?_eq_some_iff.1 h).1;unfold tnL;rw [List.getElem?_append_right (by simp;omega)];simp only [List.length_map,List.length_take,List.getElem?_drop];rw [show k + (k - min k l.length) = k by omega];exact h
theorem tnL_succ {n : Nat} {l : List Int} {k : Nat} {x : Int} (h : l[k]? = some x) : (tnL n l k).set k (rn n x) = tnL n l (k + 1):=by
 obtain ⟨hl,e⟩:=List.getElem?_eq_some_iff.1 h;unfold tnL;rw [List.set_append_right _ _ (by simp;omega)];simp only [List.length_map,List.length_take];rw [show k - min k l.length = 0 by omega,List.drop_eq_getElem_cons hl,List.set_cons_zero,← List.take_append_getElem hl,List.map_append,List.append_assoc,e];rfl
theorem tnL_same {n : Nat} {l : List Int} {k : Nat} {x : Int} (h : l[k]? = some x) (hx : isNm x = false) : tnL n l k = tnL n l (k + 1):=by
 rw [← tnL_succ h,rn_id hx];have:=tnL_at (n:=n) h;obtain ⟨hl,e⟩:=List.getElem?_eq_some_iff.1 this;apply List.ext_getElem
 ·simp
 intro i h1 h2;rw [List.getElem_set]
 split
 ·rename_i c;subst c;exact e
 rfl
end Ch
section
variable (w : World)
theorem turned_any (s : ByteArray) (hs : s.size ≤ 1000000) (n : Nat) (hn : n < 26) :
 Calls Tryz.prog 32 #[.string s,.int .i64 n] w fun x w'=>x = .returned (.string (Ch.tnT n s)) ∧ Kp (fun _=>False) w w':=by
 have hcv:=Lib.run_convert_string_bytes (P:=Tryz.prog) w 9 47 5 s Tryz.underlying9 Tryz.underlying47 Tryz.underlying5;have KB:=bytes_kp w 5 s;have hB:=ByR.new w s;have hlen : (Ch.bys s).length = s.size:=Ch.bys_len s
 go_enter Tryz.func32,Tryz.ntmps32
 go_wp2_with fail
 generalize Lib.bytesWorld w 5 s = w1 at *;have hg0 : w.heap.size = w.heap.size:=rfl;generalize hcp : grownCap w s.size 0 5 = cap at *;generalize hg : w.heap.size = g at *
 go_loopw [6] (fun i wr=>∃ k : Nat,i = .int .i64 k ∧ k ≤ s.size ∧ Hid (ByR wr g (Ch.tnL n (Ch.bys s) k) ∧ Kp (fun i=>i = g) w1 wr)) (fun i _=>s.size - (intOf i).toNat)
 case atStart=>exact ⟨0,rfl,Nat.zero_le _,hid ⟨by simpa [Ch.tnL] using hB,Kp.refl _ _⟩⟩
 case round =>
  obtain ⟨k,rfl,hk,HH⟩:=hrel
  by_cases hlt : k < s.size
  ·have hlt' : (k : Int) < (s.size : Int):=by omega
   obtain ⟨x,hx⟩ : ∃ x,(Ch.bys s)[k]? = some x:=⟨_,List.getElem?_eq_getElem (by omega)⟩
   have hxb:=Ch.bys_byte s x (List.mem_of_getElem? hx);have c0:=HH.out.1.cell (Ch.tnL_at (n:=n) hx);have f0:=HH.out.1.free (j:=k) (by rw [Ch.tnL_len];omega);obtain ⟨hx0,hx1⟩:=hxb
   by_cases hnm : Ch.isNm x = true
   ·have hset:=HH.out.1.set (j:=k) (Ch.rn n x)
    rw [Ch.tnL_succ hx] at hset;have K6 : Kp (fun i=>i = g) w1 (wr.setCell ⟨g,k,none⟩ (.int .u8 (Ch.rn n x))):=HH.out.2.setCell (p:=⟨g,k,none⟩) (fun _=>rfl) _;have HN:=hid (And.intro hset K6)
    have hrn : Ch.rn n x = 65 + (x - 65 + (n : Int)) % 26:=by unfold Ch.rn;rw [hnm];rfl
    rw [hrn] at HN;have hb:=hnm;unfold Ch.isNm at hb;simp only [Bool.and_eq_true,decide_eq_true_eq] at hb;obtain ⟨hb1,hb2⟩:=hb;have hm : (x - 65 + (n : Int)).tmod 26 = (x - 65 + (n : Int)) % 26:=Int.tmod_eq_emod_of_nonneg (by omega)
    have hm0 : 0 ≤ (x - 65 + (n : Int)) % 26:=by omega
    have hm1 : (x - 65 + (n : Int)) % 26 < 26:=by omega
    have hw1 : IntKind.wrap .u8 (x - 65) = x - 65:=wrap_u8 (by omega) (by omega);have hw2 : IntKind.wrap .u8 (65 + (x - 65 + (n : Int)) % 26) = 65 + (x - 65 + (n : Int)) % 26:=wrap_u8 (by omega) (by omega);clear hset K6 hrn hx hnm HH;generalize (x - 65 + (n : Int)) % 26 = md at *
    go_wp2_with fail
    go_roundw
    case rel=>exact ⟨k + 1,by go_num,by omega,hid HN.out⟩
    case measure=>simp [intOf];omega
   have hnf : Ch.isNm x = false:=by simpa using hnm
   have HN:=hid (show ByR wr g (Ch.tnL n (Ch.bys s) (k + 1)) ∧ _ from ⟨by rw [← Ch.tnL_same hx hnf];exact HH.out.1,HH.out.2⟩)
   have key : ∀ (Q : Prop),(65 ≤ x → ¬ x ≤ 90 → Q) → (¬ 65 ≤ x → Q) → Q:=by
    intro Q h1 h2
    by_cases h : 65 ≤ x
    ·exact h1 h (fun h'=>by unfold Ch.isNm at hnf;simp [h,h'] at hnf)
    exact h2 h
   clear hx hnm hnf HH;refine key _ (fun h1 h2=>?_) (fun h1=>?_)
   ·clear key
    go_wp2_with fail
    go_roundw
    case rel=>exact ⟨k + 1,by go_num,by omega,hid HN.out⟩
    case measure=>simp [intOf];omega
   clear key
   go_wp2_with fail
   go_roundw
   case rel=>exact ⟨k + 1,by go_num,by omega,hid HN.out⟩
   case measure=>simp [intOf];omega
  have hlt' : ¬ (k : Int) < (s.size : Int):=by omega
  obtain rfl : k = s.size:=by omega
  have hfull : Ch.tnL n (Ch.bys s) s.size = (Ch.bys s).map (Ch.rn n):=by
   unfold Ch.tnL;rw [List.take_of_length_le (by omega),List.drop_eq_nil_of_le (by omega),List.append_nil]
  have hr:=HH.out.1;rw [hfull] at hr
  have hcb:=run_convert_bytes_arg (P:=Tryz.prog) wr 47 5 Tryz.underlying47 Tryz.underlying5 g 0 s.size cap ((Ch.bys s).map (Ch.rn n)) (by simp [hlen]) (by
   intro i hi
   have h2 : i < ((Ch.bys s).map (Ch.rn n)).length:=by simpa [hlen] using hi
   have h3:=hr.cell (List.getElem?_eq_getElem h2)
   have h4 : ((Ch.bys s).map (Ch.rn n)).getD i 0 = ((Ch.bys s).map (Ch.rn n))[i]:=by rw [List.getD_eq_getElem?_getD,List.getElem?_eq_getElem h2];rfl
   rw [h4,Nat.zero_add];exact h3) 9 Tryz.underlying9
  have KF : Kp (fun _=>False) w wr:=KB.trans' HH.out.2 (fun i hi x=>by omega);clear HH hr hfull;go_wp2;go_ret;exact ⟨rfl,KF⟩
end
section
variable (w : World)
theorem twin_any (a : Ch.As) (h1 : a.act.size ≤ 1000) (h2 : a.past.size ≤ 1000) (n : Nat) (hn : n < 26) :
 Calls Tryz.prog 33 #[.agg (asA a),.agg (asA (Ch.mAs n a)),.int .i64 n] w fun x w'=>x = .returned (.bool true) ∧ Kp (fun _=>False) w w':=by
 obtain ⟨da,hdA,hdAa⟩:=Tryz.undAs
 have hb1 : AsR ((w.alloc (.cells (asA a) 26)).alloc (.cells (asA (Ch.mAs n a)) 26)) w.heap.size a:=by
  unfold AsR;rw [Below.heap_alloc _ _ _ (by simp)];exact heap_alloc_new _ _
 have hb2 : AsR ((w.alloc (.cells (asA a) 26)).alloc (.cells (asA (Ch.mAs n a)) 26)) (w.heap.size + 1) (Ch.mAs n a):=heap_alloc2_new w _ _;have K1 : Kp (fun _=>False) w ((w.alloc (.cells (asA a) 26)).alloc (.cells (asA (Ch.mAs n a)) 26)):=((Kp.refl _ _).alloc _).alloc _
 have ES:=fun W=>hid (same_any W (Ch.mAs n a))
 have E1:=fun W=>hid (turned_any W a.act (by omega) n hn)
 have E2:=fun W=>hid (turned_any W a.past (by omega) n hn)
 have c0:=hb1.c0;have c1:=hb1.c1;have rO:=asOne a;have rI:=asInfo a;have rS : (asA a).size = 6:=rfl;have qI:=asInfo (Ch.mAs n a);unfold AsR at hb1 hb2;generalize hA : asA a = A at *;generalize hB : asA (Ch.mAs n a) = B at *;have HA:=hid hA;have HB:=hid hB;clear hA hB
 go_enter Tryz.func33,Tryz.ntmps33
 go_upto_region 1 with (fail)
 generalize (w.alloc (.cells A 26)).alloc (.cells B 26) = w1 at *;have hlt : w.heap.size + 1 < w1.heap.size:=lt_of_block hb2;have hnew:=heap_alloc_new w1 (.cells y6S 26);have h3u:=setRow_heap (w1.alloc (.cells y6S 26)) w1.heap.size y6S A 26 (0,0) hnew;have K3 : Kp (fun _=>False) w1 ((w1.alloc (.cells y6S 26)).setRow w1.heap.size A):=((Kp.refl _ _).alloc _).setRow (fun x=>by omega) _;replace c0:=K3.cellF c0;replace c1:=K3.cellF c1;have h3b:=K3.at_ hb2 (fun x=>x);replace K3:=K1.trans K3
 go_upto_region 2 with (first | refine wpList_load_row rfl 26 (.tmp 3) rfl w.heap.size rfl 26 A (0,0) da hb1 hdA (by cases da <;> first | rfl | exact absurd hdAa (by simp [isAggD])) rI ?_ | refine wpList_store_row rfl 26 (.tmp 7) (.tmp 8) rfl w1.heap.size A rfl rfl 26 y6S hnew rI (by rw [rS];rfl) rO ?_)
 have hu3 : AsR ((w1.alloc (.cells y6S 26)).setRow w1.heap.size A) w1.heap.size a:=by unfold AsR;rw [HA.out];exact h3u
 have hub : w.heap.size ≤ w1.heap.size:=by omega
 have hue : w1.heap.size ≠ w.heap.size + 1:=by omega
 have hue2 : w1.heap.size ≠ w.heap.size:=by omega
 generalize (w1.alloc (.cells y6S 26)).setRow w1.heap.size A = w3 at *;generalize w1.heap.size = ub at *;clear hnew K1 hb1 hb2 h3u
 go_wp2_with fail
 refine Calls.mono (Hid.out (E1 _)) ?_;rintro x w4 ⟨rfl,K4⟩;have hu4:=hu3.keep K4 (fun x=>x);have d0:=hu4.c0;have f0:=hu4.fz 0;have hu5:=hu4.set0 (Ch.tnT n a.act);have KS : Kp (fun k=>k = ub) w4 (w4.setCell ⟨ub,0,none⟩ (.string (Ch.tnT n a.act))):=(Kp.refl (fun k=>k = ub) _).setCell (p:=⟨ub,0,none⟩) (fun _=>rfl) _;have h5b:=KS.at_ (K4.at_ h3b (fun x=>x)) hue.symm
 have c15 : (w4.setCell ⟨ub,0,none⟩ (.string (Ch.tnT n a.act))).cell? ⟨w.heap.size,1,none⟩ = some (.string a.past):=by
  have:=K4.cellF c1;rw [World.cell?] at this ⊢;rw [show (w4.setCell ⟨ub,0,none⟩ (.string (Ch.tnT n a.act))).heap[w.heap.size]? = w4.heap[w.heap.size]? from heap_setCell_other _ _ _ _ hue2.symm];exact this
 have K5 : Kp (fun _=>False) w (w4.setCell ⟨ub,0,none⟩ (.string (Ch.tnT n a.act))):=(K3.trans K4).setCell (p:=⟨ub,0,none⟩) (fun x=>by have : ub < w.heap.size:=x;omega) _;clear E1 K3 K4 KS hu3 hu4 c0 c1 h3b
 go_upto_region 3 with (fail)
 generalize w4.setCell ⟨ub,0,none⟩ (.string (Ch.tnT n a.act)) = w5 at *;clear d0 f0
 go_wp2_with fail
 refine Calls.mono (Hid.out (E2 _)) ?_;rintro x w6 ⟨rfl,K6⟩;have hu6:=hu5.keep K6 (fun x=>x);have d0:=hu6.c1;have f0:=hu6.fz 1;have hu7:=hu6.set1 (Ch.tnT n a.past);have KS : Kp (fun k=>k = ub) w6 (w6.setCell ⟨ub,1,none⟩ (.string (Ch.tnT n a.past))):=(Kp.refl (fun k=>k = ub) _).setCell (p:=⟨ub,1,none⟩) (fun _=>rfl) _;have h7b:=KS.at_ (K6.at_ h5b (fun x=>x)) hue.symm;have K7 : Kp (fun _=>False) w (w6.setCell ⟨ub,1,none⟩ (.string (Ch.tnT n a.past))):=(K5.trans K6).setCell (p:=⟨ub,1,none⟩) (fun x=>by have : ub < w.heap.size:=x;omega) _;clear E2 K5 K6 KS hu5 hu6 c15 h5b
 go_upto_region 4 with (fail)
 generalize w6.setCell ⟨ub,1,none⟩ (.string (Ch.tnT n a.past)) = w7 at *;clear d0 f0
 have h7u : w7.heap[ub]? = some (.cells B 26 (0,0)):=by
  have h : AsR w7 ub (Ch.mAs n a):=hu7;unfold AsR at h;rw [HB.out] at h;exact h
 go_wp2_with (first | refine wpList_load_row rfl 26 (.tmp 7) rfl ub rfl 26 B (0,0) da h7u hdA (by cases da <;> first | rfl | exact absurd hdAa (by simp [isAggD])) qI ?_ | refine wpList_load_row rfl 26 (.tmp 4) rfl (w.heap.size + 1) rfl 26 B (0,0) da h7b hdA (by cases da <;> first | rfl | exact absurd hdAa (by simp [isAggD])) qI ?_)
 refine Calls.mono (Hid.out (ES _)) ?_;rintro x w8 ⟨rfl,K8⟩;have K9:=K7.trans K8;clear ES K7 K8;go_wp2;go_ret;exact ⟨rfl,K9⟩
end
end Go.Proofs.YtnlbchmfcebeeaaGreat
