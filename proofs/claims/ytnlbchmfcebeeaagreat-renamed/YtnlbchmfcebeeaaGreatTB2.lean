import Derived.Test.YtnlbchmfcebeeaaGreatTB1
set_option maxHeartbeats 12800000
set_option maxRecDepth 100000
namespace Go.Proofs.YtnlbchmfcebeeaaGreat
open Go.RowKit
namespace Ch
def noSet : List Bool:=List.replicate 16 false
def tkF (ss : List St) (t : ByteArray) : Nat → Nat → Int → List Bool → Option (List Bool)
 | 0,_,_,l=>some l
 | f + 1,k,last,l=>if place ss (peek t k) ≤ last then none else tkF ss t f (k + 1) (place ss (peek t k)) (putB l (place ss (peek t k)) true)
def allFit (ss : List St) (l : List Bool) (k : Nat) : Bool:=(List.range k).all fun j=>fits ss l (j : Int)
def takeAct (ss : List St) (t : ByteArray) : Option (List Bool) :=
 match tkF ss t t.size 0 (-1) noSet with
 | none=>none
 | some l=>if allFit ss l ss.length then some l else none
theorem allFit_succ (ss : List St) (l : List Bool) (k : Nat) : allFit ss l (k + 1) = (allFit ss l k && fits ss l (k : Int)):=by
 unfold allFit;rw [List.range_succ,List.all_append];simp
theorem allFit_no {ss : List St} {l : List Bool} {k : Nat} (hk : k < ss.length) (h : fits ss l (k : Int) = false) : allFit ss l ss.length = false:=by
 unfold allFit;rw [List.all_eq_false];exact ⟨k,by simpa using hk,by simp [h]⟩
def takeActV (ss : List St) (t : ByteArray) : List Bool × Bool:=match takeAct ss t with | some l=>(l,true) | none=>(noSet,false)
theorem tkF_len (ss : List St) (t : ByteArray) : ∀ (f k : Nat) (last : Int) (l m : List Bool),tkF ss t f k last l = some m → m.length = l.length:=by
 intro f
 induction f with
 | zero=>intro k last l m h;simp [tkF] at h;rw [h]
 | succ f ih=>?_
 intro k last l m h;simp only [tkF] at h
 split at h
 ·cases h
 have:=ih _ _ _ _ h;rw [this,putB_len]
theorem takeActV_len (ss : List St) (t : ByteArray) : (takeActV ss t).1.length = 16:=by
 unfold takeActV takeAct
 cases h : tkF ss t t.size 0 (-1) noSet with
 | none=>rfl
 | some l=>?_
 have:=tkF_len ss t _ _ _ _ _ h
 by_cases q : allFit ss l ss.length = true
 ·simp [q];rw [this];rfl
 simp [q];rfl
end Ch
section
variable (ob oo : Nat) (w : World) (ss : List Ch.St)
theorem takeActive_any (t : ByteArray) (ht : t.size ≤ 9223372036854775807) (hS : StR w ob oo ss) (hl : ss.length ≤ 1000) :
 Calls Tryz.prog 125 #[.pointer (some ⟨ob,oo,none⟩),.string t] w fun x w'=>x = .returned (.tuple #[.agg ((Ch.takeActV ss t).1.map Value.bool).toArray,.bool (Ch.takeActV ss t).2]) ∧ Kp (fun _=>False) w w':=by
 obtain ⟨ds,hds,hda⟩:=Tryz.undSet;have hS2 : StR ((w.alloc (.cells zB16 91)).alloc (.cells zB16 91)) ob oo ss:=(hS.alloc _).alloc _
 have hr2 : ((w.alloc (.cells zB16 91)).alloc (.cells zB16 91)).heap[w.heap.size]? = some (.cells zB16 91):=by
  rw [Below.heap_alloc _ _ _ (by simp)];exact heap_alloc_new _ _
 have ha2 : SeB ((w.alloc (.cells zB16 91)).alloc (.cells zB16 91)) (w.heap.size + 1) [] Ch.noSet [] 91:=heap_alloc2_new w _ _;have K2 : Kp (fun _=>False) w ((w.alloc (.cells zB16 91)).alloc (.cells zB16 91)):=((Kp.refl _ _).alloc _).alloc _
 have hob : ob < w.heap.size:=by obtain ⟨sv,base,hc,_⟩:=hS;exact World.block_lt_of_cell? w _ hc
 have hsn : ∀ cur,w.heap[w.heap.size + 1]? = some (.cells cur 155 (0,0)) → False:=by intro cur h;have:=lt_of_block h;omega
 clear hS
 go_enter Tryz.func125,Tryz.ntmps125
 go_wp2_with fail
 generalize ((w.alloc (.cells zB16 91)).alloc (.cells zB16 91)) = w2 at hS2 hr2 ha2 K2 ⊢
 go_loopw [7,8] (fun last i wr=>∃ (k : Nat) (la : Int) (l : List Bool),last = .int .i64 la ∧ i = .int .i64 k ∧ k ≤ t.size ∧ Hid (Ch.tkF ss t t.size 0 (-1) Ch.noSet = Ch.tkF ss t (t.size - k) k la l) ∧ l.length = 16 ∧
  SeB wr (w.heap.size + 1) [] l [] 91 ∧ Kp (fun k=>k = w.heap.size + 1) w2 wr) (fun _ i _=>t.size - (intOf i).toNat)
 case atStart=>exact ⟨0,-1,Ch.noSet,rfl,rfl,Nat.zero_le _,hid rfl,rfl,ha2,Kp.refl _ _⟩
 case round =>
  obtain ⟨k,la,l,rfl,rfl,hk,HE,h16,h1,K1⟩:=hrel;have hSr : StR wr ob oo ss:=hS2.keep K1 (fun x=>by omega) (fun i cur hc x=>by subst x;unfold SeB at ha2;rw [ha2] at hc;simp at hc);have hr : wr.heap[w.heap.size]? = some (.cells zB16 91):=K1.at_ hr2 (fun x=>by omega);have KX : Kp (fun _=>False) w wr:=K2.trans' K1 (fun i hi x=>by omega);have KZ : Kp (fun _=>False) w (wr.setRow w.heap.size zB16):=KX.setRow (fun x=>by omega) _
  by_cases hlt : k < t.size
  ·have hlt' : (k : Int) < (t.size : Int):=by omega
   have hpk : Ch.peek t k = ((t[k]'hlt).toNat : Int):=by simp [Ch.peek,hlt]
   have ef : t.size - k = (t.size - (k + 1)) + 1:=by omega
   have E1:=hid (place_any ob oo wr ss ((t[k]'hlt).toNat : Int) hSr hl)
   by_cases hle : Ch.place ss ((t[k]'hlt).toNat : Int) ≤ la
   ·have HF:=hid (show Ch.takeActV ss t = (Ch.noSet,false) by
     have e : Ch.tkF ss t t.size 0 (-1) Ch.noSet = none:=by rw [HE.out,ef];simp only [Ch.tkF];rw [hpk,if_pos hle]
     simp [Ch.takeActV,Ch.takeAct,e])
    clear HE ef hpk K1 h1 ha2 hS2
    go_wp2_with fail
    refine hm E1 ?_;rintro x w1 ⟨rfl,rfl⟩
    go_wp2_with (refine wpList_store_row rfl 91 (.tmp 4) (.tmp 25) rfl w.heap.size zB16 rfl rfl 91 zB16 hr Tryz.sizeSet rfl zsetOne ?_)
    refine bodyPost_ret (results_cell_tmp rfl _ _ w.heap.size 91 zB16 (0,0) ds rfl (setRow_heap _ _ _ _ _ _ hr) hds hda Tryz.sizeSet) rfl ?_;rw [HF.out];exact ⟨rfl,KZ⟩
   have HF:=hid (show Ch.tkF ss t t.size 0 (-1) Ch.noSet = Ch.tkF ss t (t.size - (k + 1)) (k + 1) (Ch.place ss ((t[k]'hlt).toNat : Int)) (Ch.putB l (Ch.place ss ((t[k]'hlt).toNat : Int)) true) by
    rw [HE.out,ef];simp only [Ch.tkF];rw [hpk,if_neg hle])
   have hle' : ¬ Ch.place ss ((t[k]'hlt).toNat : Int) ≤ la:=hle;have E2:=hid (put_any wr (w.heap.size + 1) 0 [] l [] 91 (Ch.place ss ((t[k]'hlt).toNat : Int)) h1 h16 rfl);have HK:=hid K1;clear HE ef hpk K1 KX KZ h1 ha2 hS2
   go_wp2_with fail
   refine hm E1 ?_;rintro x w1 ⟨rfl,rfl⟩
   go_wp2_with fail
   refine hm E2 ?_;rintro x w3 ⟨rfl,h3,K3⟩;have K4:=HK.out.trans K3;clear E1 E2 K3 HK
   go_wp2_with fail
   go_roundw
   case rel=>exact ⟨k + 1,_,_,rfl,by go_num,by omega,HF,by rw [Ch.putB_len];exact h16,h3,K4⟩
   case measure=>simp [intOf];omega
  have hge : ¬ (k : Int) < (t.size : Int):=by omega
  have HF:=hid (show Ch.tkF ss t t.size 0 (-1) Ch.noSet = some l by rw [HE.out,show t.size - k = 0 by omega];rfl);obtain ⟨ao,cap,c2⟩:=hSr.len;have HH:=hid (And.intro h1 (And.intro hr KX));clear HE K1 ha2 hS2 KZ
  go_wp2_with fail
  go_loop [10] (fun i=>∃ j : Nat,i = .int .i64 j ∧ j ≤ ss.length ∧ Hid (Ch.allFit ss l j = true)) (fun i=>ss.length - (intOf i).toNat)
  case atStart=>exact ⟨0,rfl,Nat.zero_le _,hid rfl⟩
  case round =>
   obtain ⟨j,rfl,hj,HA⟩:=hrel
   by_cases hjl : j < ss.length
   ·have hjl' : (j : Int) < (ss.length : Int):=by omega
    have E1:=hid (fits_any ob oo wr ss (w.heap.size + 1) 0 [] l [] 91 j hSr hl h1 h16 rfl)
    cases q : Ch.fits ss l (j : Int) with
    | false =>
      have HG:=hid (show Ch.takeActV ss t = (Ch.noSet,false) by simp [Ch.takeActV,Ch.takeAct,HF.out,Ch.allFit_no hjl q]);rw [q] at E1;clear h1 hr KX
      go_wp2_with fail
      refine hm E1 ?_;rintro x w1 ⟨rfl,rfl⟩;obtain ⟨h1,hr,KX⟩:=HH.out;have KZ : Kp (fun _=>False) w (w1.setRow w.heap.size zB16):=KX.setRow (fun x=>by omega) _
      go_wp2_with (refine wpList_store_row rfl 91 (.tmp 4) (.tmp 42) rfl w.heap.size zB16 rfl rfl 91 zB16 hr Tryz.sizeSet rfl zsetOne ?_)
      refine bodyPost_ret (results_cell_tmp rfl _ _ w.heap.size 91 zB16 (0,0) ds rfl (setRow_heap _ _ _ _ _ _ hr) hds hda Tryz.sizeSet) rfl ?_;rw [HG.out];exact ⟨rfl,KZ⟩
    | true=>?_
    have HG:=hid (show Ch.allFit ss l (j + 1) = true by rw [Ch.allFit_succ,HA.out,q];rfl);rw [q] at E1;clear h1 hr KX
    go_wp2_with fail
    refine hm E1 ?_;rintro x w1 ⟨rfl,rfl⟩
    go_wp2_with fail
    go_round
    case rel=>exact ⟨j + 1,by go_num,by omega,HG⟩
    case measure=>simp [intOf];omega
   have hjg : ¬ (j : Int) < (ss.length : Int):=by omega
   obtain rfl : j = ss.length:=by omega
   have HG:=hid (show Ch.takeActV ss t = (l,true) by simp [Ch.takeActV,Ch.takeAct,HF.out,HA.out])
   have hrow : wr.heap[w.heap.size + 1]? = some (.cells (l.map Value.bool).toArray 91 (0,0)):=by have:=h1;unfold SeB at this;simpa using this
   have hsz : ((l.map Value.bool).toArray).size = 16:=by simp [h16]
   have hszI : (Tryz.prog.info? 91).map (·.size) = some ((l.map Value.bool).toArray).size:=by rw [hsz];exact Tryz.sizeSet
   have hone : ((l.map Value.bool).toArray).all (·.oneCell') = true:=by apply Array.all_eq_true_iff_forall_mem.2;intro x hx;simp only [List.mem_toArray,List.mem_map] at hx;obtain ⟨a,_,rfl⟩:=hx;rfl
   have KZ : Kp (fun _=>False) w (wr.setRow w.heap.size (l.map Value.bool).toArray):=KX.setRow (fun x=>by omega) _;clear h1 KX;generalize hL : (l.map Value.bool).toArray = L at *;have HL:=hid hL;clear hL
   go_wp2_with (first | refine wpList_load_row rfl 91 (.tmp 6) rfl (w.heap.size + 1) rfl 91 L (0,0) ds hrow hds (by cases ds <;> simp_all [isAggD]) hszI ?_ | refine wpList_store_row rfl 91 (.tmp 4) (.tmp 43) rfl w.heap.size L rfl rfl 91 zB16 hr hszI hsz.symm hone ?_)
   refine bodyPost_ret (results_cell_tmp rfl _ _ w.heap.size 91 L (0,0) ds rfl (setRow_heap _ _ _ _ _ _ hr) hds hda hszI) rfl ?_;rw [HG.out,← HL.out];exact ⟨rfl,by rw [HL.out];exact KZ⟩
end
namespace Ch
def noPast : List Int:=List.replicate 16 0
def hist (ss : List St) (j : Nat) : Bool:=match ss[j]? with | some s=>s.kind == 5 | none=>false
def blankK (ss : List St) (k : Nat) : List Int:=(List.range 16).map fun j=>if decide (j < k) && hist ss j then 45 else 0
def blankP (ss : List St) : List Int:=blankK ss 16
theorem blankK_len (ss : List St) (k : Nat) : (blankK ss k).length = 16:=by simp [blankK]
theorem blankK_yes {ss : List St} {k : Nat} (hk : k < 16) (h : hist ss k = true) : blankK ss (k + 1) = (blankK ss k).set k 45:=by
 apply List.ext_getElem?;intro i
 by_cases hi : i < 16
 ·by_cases e : i = k
  ·subst e;simp [blankK,hi,h]
  rw [List.getElem?_set_ne (by omega)];simp [blankK,hi,show (i < k + 1) = (i < k) by simp;omega]
 rw [List.getElem?_eq_none (by rw [blankK_len];omega),List.getElem?_eq_none (by rw [List.length_set,blankK_len];omega)]
theorem blankK_no {ss : List St} {k : Nat} (h : hist ss k = false) : blankK ss (k + 1) = blankK ss k:=by
 unfold blankK;apply List.map_congr_left;intro j _
 by_cases e : j = k
 ·subst e;simp [h]
 simp [show (j < k + 1) = (j < k) by simp;omega]
theorem blankK_end {ss : List St} {k : Nat} (h : ss.length ≤ k ∨ 16 ≤ k) : blankK ss k = blankP ss:=by
 unfold blankP blankK;apply List.map_congr_left;intro j hj;simp at hj
 by_cases e : j < k
 ·simp [e,hj]
 have : hist ss j = false:=by
  unfold hist;rw [List.getElem?_eq_none (by omega)]
 simp [this]
theorem blankP_len (ss : List St) : (blankP ss).length = 16:=blankK_len _ _
end Ch
def MeB (w : World) (b : Nat) (l : List Int) : Prop:=w.heap[b]? = some (.cells (pastCells l).toArray 93 (0,0))
section
variable {w : World} {b : Nat} {l : List Int}
theorem MeB.cell (h : MeB w b l) (hl : l.length = 16) {k : Nat} (hk : k < 16) : w.cell? ⟨b,k,none⟩ = some (.int .u8 (l.getD k 0)):=by
 unfold MeB at h;simp [World.cell?,h,pastCells,show k < l.length by omega]
theorem MeB.free (h : MeB w b l) (i : Nat) : w.frozen? ⟨b,i,none⟩ = false:=by unfold MeB at h;simp [World.frozen?,h]
theorem MeB.set (h : MeB w b l) (k : Nat) (v : Int) : MeB (w.setCell ⟨b,k,none⟩ (.int .u8 v)) b (l.set k v):=by
 unfold MeB at *;rw [heap_set_same _ h];simp [pastCells,List.map_set]
end
theorem pastOne (l : List Int) : (pastCells l).toArray.all (fun x=>x.oneCell') = true:=by
 apply Array.all_eq_true_iff_forall_mem.2;intro x hx;simp only [pastCells,List.mem_toArray,List.mem_map] at hx;obtain ⟨a,_,rfl⟩:=hx;rfl
theorem pastSize {l : List Int} (hl : l.length = 16) : (pastCells l).toArray.size = 16:=by simp [pastCells,hl]
theorem Tryz.arrMem : Tryz.prog.underlying 93 = some (.array (Tryz.prog.arrayLen 93) (Tryz.prog.elem 93)):=by kernel_rfl
theorem Tryz.lenMem : Tryz.prog.arrayLen 93 = 16:=by kernel_rfl
theorem Tryz.elemMem : Tryz.prog.elem 93 = 5:=by kernel_rfl
theorem Tryz.sizeByte : (Tryz.prog.info? 5).map (·.size) = some 1:=by kernel_rfl
theorem run_ixMem (w : World) (b o k : Nat) (hk : k < 16) : (Instr.indexAt 93 (.pointer (some ⟨b,o,none⟩)) (.int .i64 (k : Int))).run Tryz.prog w = .ok (.pointer (some ⟨b,o + k,none⟩)) w:=by
 rw [run_indexAt_array (h:=Tryz.arrMem),Tryz.lenMem,Tryz.elemMem,if_pos (by omega)]
 have hs : (sizeOf 5).run Tryz.prog w = .ok 1 w:=by
  have h:=Tryz.sizeByte
  cases hq : Tryz.prog.info? 5 with
  | none=>simp [hq] at h
  | some i=>simp [hq] at h;simp [sizeOf,typeInfo,hq,h]
 rw [hs];simp only [Result.andThen_ok,Int.toNat_natCast,Nat.mul_one,Addr.add]
 split
 ·rename_i h;simp [h]
 rfl
section
variable (ob oo : Nat) (w : World) (ss : List Ch.St)
theorem blankPast_any (hS : StR w ob oo ss) :
 Calls Tryz.prog 115 #[.pointer (some ⟨ob,oo,none⟩)] w fun x w'=>x = .returned (.agg (pastCells (Ch.blankP ss)).toArray) ∧ Kp (fun _=>False) w w':=by
 obtain ⟨ds,hds,hda⟩:=Tryz.undMem;have hS2 : StR ((w.alloc (.cells zU16 93)).alloc (.cells zU16 93)) ob oo ss:=(hS.alloc _).alloc _
 have hr2 : ((w.alloc (.cells zU16 93)).alloc (.cells zU16 93)).heap[w.heap.size]? = some (.cells zU16 93):=by
  rw [Below.heap_alloc _ _ _ (by simp)];exact heap_alloc_new _ _
 have ha2 : MeB ((w.alloc (.cells zU16 93)).alloc (.cells zU16 93)) (w.heap.size + 1) (Ch.blankK ss 0):=heap_alloc2_new w _ _;have K2 : Kp (fun _=>False) w ((w.alloc (.cells zU16 93)).alloc (.cells zU16 93)):=((Kp.refl _ _).alloc _).alloc _
 have hob : ob < w.heap.size:=by obtain ⟨sv,base,hc,_⟩:=hS;exact World.block_lt_of_cell? w _ hc
 clear hS
 go_enter Tryz.func115,Tryz.ntmps115
 go_wp2_with fail
 generalize ((w.alloc (.cells zU16 93)).alloc (.cells zU16 93)) = w2 at hS2 hr2 ha2 K2 ⊢
 go_loopw [4] (fun i wr=>∃ k : Nat,i = .int .i64 k ∧ k ≤ 16 ∧ k ≤ ss.length ∧ MeB wr (w.heap.size + 1) (Ch.blankK ss k) ∧ Kp (fun k=>k = w.heap.size + 1) w2 wr) (fun i _=>16 - (intOf i).toNat)
 case atStart=>exact ⟨0,rfl,Nat.zero_le _,Nat.zero_le _,ha2,Kp.refl _ _⟩
 case round =>
  obtain ⟨k,rfl,hk16,hkn,h1,K1⟩:=hrel;have hSr : StR wr ob oo ss:=hS2.keep K1 (fun x=>by omega) (fun i cur hc x=>by subst x;unfold MeB at ha2;rw [ha2] at hc;simp at hc);have hr : wr.heap[w.heap.size]? = some (.cells zU16 93):=K1.at_ hr2 (fun x=>by omega);have KX : Kp (fun _=>False) w wr:=K2.trans' K1 (fun i hi x=>by omega)
  by_cases hgo : k < ss.length ∧ k < 16
  ·obtain ⟨hlt,h16⟩:=hgo
   obtain ⟨s,hs⟩ : ∃ s,ss[k]? = some s:=⟨_,List.getElem?_eq_getElem hlt⟩
   obtain ⟨g,cap,c2,a0,a1,a2,a3⟩:=hSr.at_ hs
   have hlt' : (k : Int) < (ss.length : Int):=by omega
   have h16' : (k : Int) < 16:=by omega
   have cw:=h1.cell (Ch.blankK_len _ _) h16;have fw:=h1.free k
   have hix:=fun w'=>run_ixMem w' (w.heap.size + 1) 0 k h16
   simp only [Nat.zero_add] at hix;have HH:=hid (And.intro h1 K1)
   cases q : s.kind == 5 with
   | true =>
     have HS:=hid (Ch.blankK_yes h16 (show Ch.hist ss k = true by simp [Ch.hist,hs,q]));clear h1 K1 KX hr hSr ha2 hS2 hs;go_wp2
     go_roundw
     case rel=>exact ⟨k + 1,by go_num,by omega,by omega,by rw [HS.out];exact HH.out.1.set k 45,HH.out.2.setCell (by intro _;rfl) _⟩
     case measure=>simp [intOf];omega
   | false=>?_
   have HS:=hid (Ch.blankK_no (show Ch.hist ss k = false by simp [Ch.hist,hs,q]));clear h1 K1 KX hr hSr ha2 hS2 hs;go_wp2
   go_roundw
   case rel=>exact ⟨k + 1,by go_num,by omega,by omega,by rw [HS.out];exact HH.out.1,HH.out.2⟩
   case measure=>simp [intOf];omega
  have HE:=hid (Ch.blankK_end (ss:=ss) (k:=k) (by omega))
  have hrow : wr.heap[w.heap.size + 1]? = some (.cells (pastCells (Ch.blankP ss)).toArray 93 (0,0)):=by have:=h1;rw [HE.out] at this;exact this
  have hszI : (Tryz.prog.info? 93).map (·.size) = some ((pastCells (Ch.blankP ss)).toArray).size:=by rw [pastSize (Ch.blankP_len ss)];exact Tryz.sizeMem
  have hsz:=pastSize (Ch.blankP_len ss);have hone:=pastOne (Ch.blankP ss);have KZ : Kp (fun _=>False) w (wr.setRow w.heap.size (pastCells (Ch.blankP ss)).toArray):=KX.setRow (fun x=>by omega) _;obtain ⟨ao,cap,c2⟩:=hSr.len;clear h1 K1 KX hSr ha2 hS2;generalize hL : (pastCells (Ch.blankP ss)).toArray = L at *;have HL:=hid hL;clear hL
  by_cases hlt : k < ss.length
  ·have hlt' : (k : Int) < (ss.length : Int):=by omega
   have h16' : decide ((k : Int) < 16) = false:=by simp;omega
   go_wp2_with (first | refine wpList_load_row rfl 93 (.tmp 3) rfl (w.heap.size + 1) rfl 93 L (0,0) ds hrow hds (by cases ds <;> simp_all [isAggD]) hszI ?_ | refine wpList_store_row rfl 93 (.tmp 2) (.tmp 29) rfl w.heap.size L rfl rfl 93 zU16 hr hszI hsz.symm hone ?_)
   refine bodyPost_ret (results_cell_row rfl _ _ w.heap.size 93 L (0,0) ds rfl (setRow_heap _ _ _ _ _ _ hr) hds (by cases ds <;> simp_all [isAggD]) hszI) rfl ?_;rw [HL.out];exact ⟨rfl,KZ⟩
  have hlt' : decide ((k : Int) < (ss.length : Int)) = false:=by simp;omega
  go_wp2_with (first | refine wpList_load_row rfl 93 (.tmp 3) rfl (w.heap.size + 1) rfl 93 L (0,0) ds hrow hds (by cases ds <;> simp_all [isAggD]) hszI ?_ | refine wpList_store_row rfl 93 (.tmp 2) (.tmp 29) rfl w.heap.size L rfl rfl 93 zU16 hr hszI hsz.symm hone ?_)
  refine bodyPost_ret (results_cell_row rfl _ _ w.heap.size 93 L (0,0) ds rfl (setRow_heap _ _ _ _ _ _ hr) hds (by cases ds <;> simp_all [isAggD]) hszI) rfl ?_;rw [HL.out];exact ⟨rfl,KZ⟩
end
end Go.Proofs.YtnlbchmfcebeeaaGreat
