import Derived.Test.YtnlbchmfcebeeaaGreatTB1
set_option maxHeartbeats 12800000
set_option maxRecDepth 100000
namespace Go.Proofs.YtnlbchmfcebeeaaGreat
open Go.Proofs.Tryz Ch
open Go.RowKit
namespace Ch
def cJ : List Bool:=List.replicate 16 false
def wZ (ss : List St) (t : ByteArray) : Nat -> Nat -> Int -> List Bool -> Option (List Bool)
 | 0,_,_,l=>some l
 | f + 1,k,last,l=>if place ss (af t k) <= last then none else wZ ss t f (k + 1) (place ss (af t k)) (kZ l (place ss (af t k)) true)
def allFit (ss : List St) (l : List Bool) (k : Nat) : Bool:=(List.range k).all fun j=>fits ss l (j : Int)
def lZ (ss : List St) (t : ByteArray) : Option (List Bool) :=
 match wZ ss t t.size 0 (-1) cJ with
 | none=>none
 | some l=>if allFit ss l ss.length then some l else none
theorem w_ (ss : List St) (l : List Bool) (k : Nat) : allFit ss l (k + 1) = (allFit ss l k && fits ss l (k : Int)):=by
 unfold allFit;rw [List.range_succ,List.all_append];simp
theorem Cx {ss : List St} {l : List Bool} {k : Nat} (hk : k < ss.length) (h : fits ss l (k : Int) = false) : allFit ss l ss.length = false:=by
 unfold allFit;rw [List.all_eq_false];exact ⟨k,by simpa using hk,by simp [h]⟩
def bz (ss : List St) (t : ByteArray) : List Bool × Bool:=match lZ ss t with | some l=>(l,true) | none=>(cJ,false)
theorem Ig (ss : List St) (t : ByteArray) : ∀ (f k : Nat) (last : Int) (l m : List Bool),wZ ss t f k last l = some m -> m.length = l.length:=by
 intro f
 induction f with
 | zero=>intro k last l m h;simp [wZ] at h;rw [h]
 | succ f ih=>?_
 intro k last l m h;simp only [wZ] at h
 split at h
 ·cases h
 have:=ih _ _ _ _ h;rw [this,gh]
theorem ka (ss : List St) (t : ByteArray) : (bz ss t).1.length = 16:=by
 unfold bz lZ
 cases h : wZ ss t t.size 0 (-1) cJ with
 | none=>rfl
 | some l=>?_
 have:=Ig ss t _ _ _ _ _ h
 by_cases q : allFit ss l ss.length = true
 ·simp [q];rw [this];rfl
 simp [q];rfl
end Ch
section
variable (ob oo : Nat) (w : World) (ss : List St)
theorem ru (t : ByteArray) (ht : t.size <= 9223372036854775807) (hS : ib w ob oo ss) (hl : ss.length <= 1000) :
 Calls prog 125 #[.pointer (some ⟨ob,oo,none⟩),.string t] w fun x w'=>x = .returned (.tuple #[.agg ((bz ss t).1.map Value.bool).toArray,.bool (bz ss t).2]) /\ Kp (fun _=>False) w w':=by
 obtain ⟨ds,hds,eH⟩:=rr;have hS2 : ib ((w.alloc (.cells aW 91)).alloc (.cells aW 91)) ob oo ss:=(hS.alloc _).alloc _
 have hr2 : ((w.alloc (.cells aW 91)).alloc (.cells aW 91)).heap[w.heap.size]? = some (.cells aW 91):=by
  rw [Below.heap_alloc _ _ _ (by simp)];exact heap_alloc_new _ _
 have ha2 : fj ((w.alloc (.cells aW 91)).alloc (.cells aW 91)) (w.heap.size + 1) [] cJ [] 91:=heap_alloc2_new w _ _;have K2 : Kp (fun _=>False) w ((w.alloc (.cells aW 91)).alloc (.cells aW 91)):=((Kp.refl _ _).alloc _).alloc _
 have Eo : ob < w.heap.size:=by obtain ⟨sv,base,hc,_⟩:=hS;exact World.block_lt_of_cell? w _ hc
 have hsn : ∀ cur,w.heap[w.heap.size + 1]? = some (.cells cur 155 (0,0)) -> False:=by intro cur h;have:=lt_of_block h;omega
 clear hS
 go_enter func125,ntmps125
 go_wp2_with fail
 generalize ((w.alloc (.cells aW 91)).alloc (.cells aW 91)) = w2 at hS2 hr2 ha2 K2 ⊢
 go_loopw [7,8] (fun last i wr=>∃ (k : Nat) (la : Int) (l : List Bool),last = .int .i64 la /\ i = .int .i64 k /\ k <= t.size /\ Hid (wZ ss t t.size 0 (-1) cJ = wZ ss t (t.size - k) k la l) /\ l.length = 16 /\
  fj wr (w.heap.size + 1) [] l [] 91 /\ Kp (fun k=>k = w.heap.size + 1) w2 wr) (fun _ i _=>t.size - (intOf i).toNat)
 case atStart=>exact ⟨0,-1,cJ,rfl,rfl,Nat.zero_le _,hid rfl,rfl,ha2,Kp.refl _ _⟩
 case round =>
  obtain ⟨k,la,l,rfl,rfl,hk,HE,h16,h1,K1⟩:=hrel;have hSr : ib wr ob oo ss:=hS2.keep K1 (fun x=>by omega) (fun i cur hc x=>by subst x;unfold fj at ha2;rw [ha2] at hc;simp at hc);have hr : wr.heap[w.heap.size]? = some (.cells aW 91):=K1.at_ hr2 (fun x=>by omega);have KX : Kp (fun _=>False) w wr:=K2.trans' K1 (fun i hi x=>by omega);have KZ : Kp (fun _=>False) w (wr.setRow w.heap.size aW):=KX.setRow (fun x=>by omega) _
  by_cases hlt : k < t.size
  ·have hlt' : (k : Int) < (t.size : Int):=by omega
   have hpk : af t k = ((t[k]'hlt).toNat : Int):=by simp [af,hlt]
   have ef : t.size - k = (t.size - (k + 1)) + 1:=by omega
   have E1:=hid (gF ob oo wr ss ((t[k]'hlt).toNat : Int) hSr hl)
   by_cases hle : Ch.place ss ((t[k]'hlt).toNat : Int) <= la
   ·have HF:=hid (show bz ss t = (cJ,false) by
     have e : wZ ss t t.size 0 (-1) cJ = none:=by rw [HE.out,ef];simp only [wZ];rw [hpk,if_pos hle]
     simp [bz,lZ,e])
    clear HE ef hpk K1 h1 ha2 hS2
    go_wp2_with fail
    refine hm E1 ?_;rintro x w1 ⟨rfl,rfl⟩
    go_wp2_with (refine wpList_store_row rfl 91 (.tmp 4) (.tmp 25) rfl w.heap.size aW rfl rfl 91 aW hr jk rfl Bo ?_)
    refine bodyPost_ret (results_cell_tmp rfl _ _ w.heap.size 91 aW (0,0) ds rfl (setRow_heap _ _ _ _ _ _ hr) hds eH jk) rfl ?_;rw [HF.out];exact ⟨rfl,KZ⟩
   have HF:=hid (show wZ ss t t.size 0 (-1) cJ = wZ ss t (t.size - (k + 1)) (k + 1) (Ch.place ss ((t[k]'hlt).toNat : Int)) (kZ l (Ch.place ss ((t[k]'hlt).toNat : Int)) true) by
    rw [HE.out,ef];simp only [wZ];rw [hpk,if_neg hle])
   have Cs : ¬ Ch.place ss ((t[k]'hlt).toNat : Int) <= la:=hle;have E2:=hid (vw wr (w.heap.size + 1) 0 [] l [] 91 (Ch.place ss ((t[k]'hlt).toNat : Int)) h1 h16 rfl);have HK:=hid K1;clear HE ef hpk K1 KX KZ h1 ha2 hS2
   go_wp2_with fail
   refine hm E1 ?_;rintro x w1 ⟨rfl,rfl⟩
   go_wp2_with fail
   refine hm E2 ?_;rintro x w3 ⟨rfl,h3,K3⟩;have K4:=HK.out.trans K3;clear E1 E2 K3 HK
   go_wp2_with fail
   go_roundw
   case rel=>exact ⟨k + 1,_,_,rfl,by go_num,by omega,HF,by rw [gh];exact h16,h3,K4⟩
   case measure=>simp [intOf];omega
  have hge : ¬ (k : Int) < (t.size : Int):=by omega
  have HF:=hid (show wZ ss t t.size 0 (-1) cJ = some l by rw [HE.out,show t.size - k = 0 by omega];rfl);obtain ⟨ao,cap,c2⟩:=hSr.len;have HH:=hid (ae h1 (ae hr KX));clear HE K1 ha2 hS2 KZ
  go_wp2_with fail
  go_loop [10] (fun i=>∃ j : Nat,i = .int .i64 j /\ j <= ss.length /\ Hid (Ch.allFit ss l j = true)) (fun i=>ss.length - (intOf i).toNat)
  case atStart=>exact ⟨0,rfl,Nat.zero_le _,hid rfl⟩
  case round =>
   obtain ⟨j,rfl,hj,HA⟩:=hrel
   by_cases hjl : j < ss.length
   ·have ME : (j : Int) < (ss.length : Int):=by omega
    have E1:=hid (Em ob oo wr ss (w.heap.size + 1) 0 [] l [] 91 j hSr hl h1 h16 rfl)
    cases q : Ch.fits ss l (j : Int) with
    | false =>
      have HG:=hid (show bz ss t = (cJ,false) by simp [bz,lZ,HF.out,Cx hjl q]);rw [q] at E1;clear h1 hr KX
      go_wp2_with fail
      refine hm E1 ?_;rintro x w1 ⟨rfl,rfl⟩;obtain ⟨h1,hr,KX⟩:=HH.out;have KZ : Kp (fun _=>False) w (w1.setRow w.heap.size aW):=KX.setRow (fun x=>by omega) _
      go_wp2_with (refine wpList_store_row rfl 91 (.tmp 4) (.tmp 42) rfl w.heap.size aW rfl rfl 91 aW hr jk rfl Bo ?_)
      refine bodyPost_ret (results_cell_tmp rfl _ _ w.heap.size 91 aW (0,0) ds rfl (setRow_heap _ _ _ _ _ _ hr) hds eH jk) rfl ?_;rw [HG.out];exact ⟨rfl,KZ⟩
    | true=>?_
    have HG:=hid (show Ch.allFit ss l (j + 1) = true by rw [w_,HA.out,q];rfl);rw [q] at E1;clear h1 hr KX
    go_wp2_with fail
    refine hm E1 ?_;rintro x w1 ⟨rfl,rfl⟩
    go_wp2_with fail
    go_round
    case rel=>exact ⟨j + 1,by go_num,by omega,HG⟩
    case measure=>simp [intOf];omega
   have VO : ¬ (j : Int) < (ss.length : Int):=by omega
   obtain rfl : j = ss.length:=by omega
   have HG:=hid (show bz ss t = (l,true) by simp [bz,lZ,HF.out,HA.out])
   have hrow : wr.heap[w.heap.size + 1]? = some (.cells (l.map Value.bool).toArray 91 (0,0)):=by have:=h1;unfold fj at this;simpa using this
   have hsz : ((l.map Value.bool).toArray).size = 16:=by simp [h16]
   have hszI : (prog.info? 91).map (·.size) = some ((l.map Value.bool).toArray).size:=by rw [hsz];exact jk
   have hone : ((l.map Value.bool).toArray).all (·.oneCell') = true:=by apply Array.all_eq_true_iff_forall_mem.2;intro x hx;simp only [List.mem_toArray,List.mem_map] at hx;obtain ⟨a,_,rfl⟩:=hx;rfl
   have KZ : Kp (fun _=>False) w (wr.setRow w.heap.size (l.map Value.bool).toArray):=KX.setRow (fun x=>by omega) _;clear h1 KX;generalize hL : (l.map Value.bool).toArray = L at *;have HL:=hid hL;clear hL
   go_wp2_with (first | refine wpList_load_row rfl 91 (.tmp 6) rfl (w.heap.size + 1) rfl 91 L (0,0) ds hrow hds (by cases ds <;> simp_all [ar]) hszI ?_ | refine wpList_store_row rfl 91 (.tmp 4) (.tmp 43) rfl w.heap.size L rfl rfl 91 aW hr hszI hsz.symm hone ?_)
   refine bodyPost_ret (results_cell_tmp rfl _ _ w.heap.size 91 L (0,0) ds rfl (setRow_heap _ _ _ _ _ _ hr) hds eH hszI) rfl ?_;rw [HG.out,<- HL.out];exact ⟨rfl,by rw [HL.out];exact KZ⟩
end
namespace Ch
def oK : List Int:=List.replicate 16 0
def dh (ss : List St) (j : Nat) : Bool:=match ss[j]? with | some s=>s.kind == 5 | none=>false
def dZ (ss : List St) (k : Nat) : List Int:=(List.range 16).map fun j=>if decide (j < k) && dh ss j then 45 else 0
def b_ (ss : List St) : List Int:=dZ ss 16
theorem kb (ss : List St) (k : Nat) : (dZ ss k).length = 16:=by simp [dZ]
theorem zC {ss : List St} {k : Nat} (hk : k < 16) (h : dh ss k = true) : dZ ss (k + 1) = (dZ ss k).set k 45:=by
 apply List.ext_getElem?;intro i
 by_cases hi : i < 16
 ·by_cases e : i = k
  ·subst e;simp [dZ,hi,h]
  rw [List.getElem?_set_ne (by omega)];simp [dZ,hi,show (i < k + 1) = (i < k) by simp;omega]
 rw [List.getElem?_eq_none (by rw [kb];omega),List.getElem?_eq_none (by rw [List.length_set,kb];omega)]
theorem Cy {ss : List St} {k : Nat} (h : dh ss k = false) : dZ ss (k + 1) = dZ ss k:=by
 unfold dZ;apply List.map_congr_left;intro j _
 by_cases e : j = k
 ·subst e;simp [h]
 simp [show (j < k + 1) = (j < k) by simp;omega]
theorem zD {ss : List St} {k : Nat} (h : ss.length <= k \/ 16 <= k) : dZ ss k = b_ ss:=by
 unfold b_ dZ;apply List.map_congr_left;intro j hj;simp at hj
 by_cases e : j < k
 ·simp [e,hj]
 have : dh ss j = false:=by
  unfold dh;rw [List.getElem?_eq_none (by omega)]
 simp [this]
theorem c_ (ss : List St) : (b_ ss).length = 16:=kb _ _
end Ch
def xa (w : World) (b : Nat) (l : List Int) : Prop:=w.heap[b]? = some (.cells (aG l).toArray 93 (0,0))
section
variable {w : World} {b : Nat} {l : List Int}
theorem xa.cell (h : xa w b l) (hl : l.length = 16) {k : Nat} (hk : k < 16) : w.cell? ⟨b,k,none⟩ = some (.int .u8 (l.getD k 0)):=by
 unfold xa at h;simp [World.cell?,h,aG,show k < l.length by omega]
theorem xa.free (h : xa w b l) (i : Nat) : w.frozen? ⟨b,i,none⟩ = false:=by unfold xa at h;simp [World.frozen?,h]
theorem xa.set (h : xa w b l) (k : Nat) (v : Int) : xa (w.setCell ⟨b,k,none⟩ (.int .u8 v)) b (l.set k v):=by
 unfold xa at *;rw [ah _ h];simp [aG,List.map_set]
end
theorem nB (l : List Int) : (aG l).toArray.all (fun x=>x.oneCell') = true:=by
 apply Array.all_eq_true_iff_forall_mem.2;intro x hx;simp only [aG,List.mem_toArray,List.mem_map] at hx;obtain ⟨a,_,rfl⟩:=hx;rfl
theorem jI {l : List Int} (hl : l.length = 16) : (aG l).toArray.size = 16:=by simp [aG,hl]
theorem Kk : prog.underlying 93 = some (.array (prog.arrayLen 93) (prog.elem 93)):=by kernel_rfl
theorem Kl : prog.arrayLen 93 = 16:=by kernel_rfl
theorem Ih : prog.elem 93 = 5:=by kernel_rfl
theorem sizeByte : (prog.info? 5).map (·.size) = some 1:=by kernel_rfl
theorem oL (w : World) (b o k : Nat) (hk : k < 16) : (Instr.indexAt 93 (.pointer (some ⟨b,o,none⟩)) (.int .i64 (k : Int))).run prog w = .ok (.pointer (some ⟨b,o + k,none⟩)) w:=by
 rw [run_indexAt_array (h:=Kk),Kl,Ih,if_pos (by omega)]
 have hs : (sizeOf 5).run prog w = .ok 1 w:=by
  have h:=sizeByte
  cases hq : prog.info? 5 with
  | none=>simp [hq] at h
  | some i=>simp [hq] at h;simp [sizeOf,typeInfo,hq,h]
 rw [hs];simp only [Result.andThen_ok,Int.toNat_natCast,Nat.mul_one,Addr.add]
 split
 ·rename_i h;simp [h]
 rfl
section
variable (ob oo : Nat) (w : World) (ss : List St)
theorem mr (hS : ib w ob oo ss) :
 Calls prog 115 #[.pointer (some ⟨ob,oo,none⟩)] w fun x w'=>x = .returned (.agg (aG (b_ ss)).toArray) /\ Kp (fun _=>False) w w':=by
 obtain ⟨ds,hds,eH⟩:=vA;have hS2 : ib ((w.alloc (.cells cU 93)).alloc (.cells cU 93)) ob oo ss:=(hS.alloc _).alloc _
 have hr2 : ((w.alloc (.cells cU 93)).alloc (.cells cU 93)).heap[w.heap.size]? = some (.cells cU 93):=by
  rw [Below.heap_alloc _ _ _ (by simp)];exact heap_alloc_new _ _
 have ha2 : xa ((w.alloc (.cells cU 93)).alloc (.cells cU 93)) (w.heap.size + 1) (dZ ss 0):=heap_alloc2_new w _ _;have K2 : Kp (fun _=>False) w ((w.alloc (.cells cU 93)).alloc (.cells cU 93)):=((Kp.refl _ _).alloc _).alloc _
 have Eo : ob < w.heap.size:=by obtain ⟨sv,base,hc,_⟩:=hS;exact World.block_lt_of_cell? w _ hc
 clear hS
 go_enter func115,ntmps115
 go_wp2_with fail
 generalize ((w.alloc (.cells cU 93)).alloc (.cells cU 93)) = w2 at hS2 hr2 ha2 K2 ⊢
 go_loopw [4] (fun i wr=>∃ k : Nat,i = .int .i64 k /\ k <= 16 /\ k <= ss.length /\ xa wr (w.heap.size + 1) (dZ ss k) /\ Kp (fun k=>k = w.heap.size + 1) w2 wr) (fun i _=>16 - (intOf i).toNat)
 case atStart=>exact ⟨0,rfl,Nat.zero_le _,Nat.zero_le _,ha2,Kp.refl _ _⟩
 case round =>
  obtain ⟨k,rfl,zE,hkn,h1,K1⟩:=hrel;have hSr : ib wr ob oo ss:=hS2.keep K1 (fun x=>by omega) (fun i cur hc x=>by subst x;unfold xa at ha2;rw [ha2] at hc;simp at hc);have hr : wr.heap[w.heap.size]? = some (.cells cU 93):=K1.at_ hr2 (fun x=>by omega);have KX : Kp (fun _=>False) w wr:=K2.trans' K1 (fun i hi x=>by omega)
  by_cases hgo : k < ss.length /\ k < 16
  ·obtain ⟨hlt,h16⟩:=hgo
   obtain ⟨s,hs⟩ : ∃ s,ss[k]? = some s:=⟨_,List.getElem?_eq_getElem hlt⟩
   obtain ⟨g,cap,c2,a0,a1,a2,a3⟩:=hSr.at_ hs
   have hlt' : (k : Int) < (ss.length : Int):=by omega
   have vo : (k : Int) < 16:=by omega
   have cw:=h1.cell (kb _ _) h16;have fw:=h1.free k
   have hix:=fun w'=>oL w' (w.heap.size + 1) 0 k h16
   simp only [Nat.zero_add] at hix;have HH:=hid (ae h1 K1)
   cases q : s.kind == 5 with
   | true =>
     have HS:=hid (zC h16 (show dh ss k = true by simp [dh,hs,q]));clear h1 K1 KX hr hSr ha2 hS2 hs;go_wp2
     go_roundw
     case rel=>exact ⟨k + 1,by go_num,by omega,by omega,by rw [HS.out];exact HH.out.1.set k 45,HH.out.2.setCell (by intro _;rfl) _⟩
     case measure=>simp [intOf];omega
   | false=>?_
   have HS:=hid (Cy (show dh ss k = false by simp [dh,hs,q]));clear h1 K1 KX hr hSr ha2 hS2 hs;go_wp2
   go_roundw
   case rel=>exact ⟨k + 1,by go_num,by omega,by omega,by rw [HS.out];exact HH.out.1,HH.out.2⟩
   case measure=>simp [intOf];omega
  have HE:=hid (zD (ss:=ss) (k:=k) (by omega))
  have hrow : wr.heap[w.heap.size + 1]? = some (.cells (aG (b_ ss)).toArray 93 (0,0)):=by have:=h1;rw [HE.out] at this;exact this
  have hszI : (prog.info? 93).map (·.size) = some ((aG (b_ ss)).toArray).size:=by rw [jI (c_ ss)];exact gm
  have hsz:=jI (c_ ss);have hone:=nB (b_ ss);have KZ : Kp (fun _=>False) w (wr.setRow w.heap.size (aG (b_ ss)).toArray):=KX.setRow (fun x=>by omega) _;obtain ⟨ao,cap,c2⟩:=hSr.len;clear h1 K1 KX hSr ha2 hS2;generalize hL : (aG (b_ ss)).toArray = L at *;have HL:=hid hL;clear hL
  by_cases hlt : k < ss.length
  ·have hlt' : (k : Int) < (ss.length : Int):=by omega
   have vo : decide ((k : Int) < 16) = false:=by simp;omega
   go_wp2_with (first | refine wpList_load_row rfl 93 (.tmp 3) rfl (w.heap.size + 1) rfl 93 L (0,0) ds hrow hds (by cases ds <;> simp_all [ar]) hszI ?_ | refine wpList_store_row rfl 93 (.tmp 2) (.tmp 29) rfl w.heap.size L rfl rfl 93 cU hr hszI hsz.symm hone ?_)
   refine bodyPost_ret (results_cell_row rfl _ _ w.heap.size 93 L (0,0) ds rfl (setRow_heap _ _ _ _ _ _ hr) hds (by cases ds <;> simp_all [ar]) hszI) rfl ?_;rw [HL.out];exact ⟨rfl,KZ⟩
  have hlt' : decide ((k : Int) < (ss.length : Int)) = false:=by simp;omega
  go_wp2_with (first | refine wpList_load_row rfl 93 (.tmp 3) rfl (w.heap.size + 1) rfl 93 L (0,0) ds hrow hds (by cases ds <;> simp_all [ar]) hszI ?_ | refine wpList_store_row rfl 93 (.tmp 2) (.tmp 29) rfl w.heap.size L rfl rfl 93 cU hr hszI hsz.symm hone ?_)
  refine bodyPost_ret (results_cell_row rfl _ _ w.heap.size 93 L (0,0) ds rfl (setRow_heap _ _ _ _ _ _ hr) hds (by cases ds <;> simp_all [ar]) hszI) rfl ?_;rw [HL.out];exact ⟨rfl,KZ⟩
end
namespace Ch
def sX (ss : List St) (t : ByteArray) : Nat -> Nat -> Nat -> List Int -> Option (List Int × Nat)
 | 0,_,n,l=>some (l,n)
 | f + 1,k,n,l =>
   if dh ss k then
    if decide (t.size <= n) || !iK ss (k : Int) (af t n) then none else sX ss t f (k + 1) (n + 1) (l.set k (af t n))
   else sX ss t f (k + 1) n l
def bf (ss : List St) (t : ByteArray) : List Int × Bool :=
 match sX ss t (min ss.length 16) 0 0 (b_ ss) with
 | some (l,n)=>if (n : Int) != (t.size : Int) then (oK,false) else (l,true)
 | none=>(oK,false)
theorem Ii (ss : List St) (t : ByteArray) : ∀ (f k n : Nat) (l : List Int) (r : List Int × Nat),sX ss t f k n l = some r -> r.1.length = l.length:=by
 intro f
 induction f with
 | zero=>intro k n l r h;simp [sX] at h;rw [<- h]
 | succ f ih=>?_
 intro k n l r h;simp only [sX] at h
 split at h
 ·split at h
  ·cases h
  have:=ih _ _ _ _ h;simpa using this
 exact ih _ _ _ _ h
theorem jz (ss : List St) (t : ByteArray) : (bf ss t).1.length = 16:=by
 unfold bf
 cases h : sX ss t (min ss.length 16) 0 0 (b_ ss) with
 | none=>rfl
 | some r=>?_
 obtain ⟨l,n⟩:=r;have:=Ii ss t _ _ _ _ _ h;simp only
 split
 ·rfl
 rw [this];exact c_ ss
end Ch
section
variable (ob oo : Nat) (w : World) (ss : List St)
theorem vB (t : ByteArray) (ht : t.size <= 9223372036854775807) (hS : ib w ob oo ss) (hl : ss.length <= 1000) :
 Calls prog 126 #[.pointer (some ⟨ob,oo,none⟩),.string t] w fun x w'=>x = .returned (.tuple #[.agg (aG (bf ss t).1).toArray,.bool (bf ss t).2]) /\ Kp (fun _=>False) w w':=by
 obtain ⟨ds,hds,eH⟩:=vA;have hS1 : ib (w.alloc (.cells cU 93)) ob oo ss:=hS.alloc _;have hr1 : (w.alloc (.cells cU 93)).heap[w.heap.size]? = some (.cells cU 93):=heap_alloc_new _ _;have K1 : Kp (fun _=>False) w (w.alloc (.cells cU 93)):=(Kp.refl _ _).alloc _
 have Eo : ob < w.heap.size:=by obtain ⟨sv,base,hc,_⟩:=hS;exact World.block_lt_of_cell? w _ hc
 have E0:=hid (mr ob oo (w.alloc (.cells cU 93)) ss hS1);have Cz:=jI (c_ ss)
 have xd : (prog.info? 93).map (·.size) = some ((aG (b_ ss)).toArray).size:=by rw [Cz];exact gm
 have Bp:=nB (b_ ss);clear hS
 go_enter func126,ntmps126
 go_wp2_with fail
 refine hm E0 ?_;rintro x w2 ⟨rfl,K2⟩;have hS2 : ib w2 ob oo ss:=hS1.keep K2 (fun x=>x) (fun _ _ _ x=>x);have hr2:=K2.at_ hr1 (fun x=>x);have K3:=K1.trans K2;have hsz2 : w.heap.size < w2.heap.size:=lt_of_block hr2;clear hS1 hr1 K1 K2 E0;have hn2:=heap_alloc_new w2 (.cells cU 93);generalize hL : (aG (b_ ss)).toArray = L at *;have HL:=hid hL;clear hL
 go_wp2_with (refine wpList_store_row rfl 93 (.tmp 6) (.tmp 10) rfl w2.heap.size L rfl rfl 93 cU hn2 xd Cz.symm Bp ?_)
 have th : xa ((w2.alloc (.cells cU 93)).setRow w2.heap.size L) w2.heap.size (b_ ss):=by
  unfold xa;rw [setRow_heap _ _ _ _ _ _ hn2,HL.out]
 have Kn : Kp (fun _=>False) w2 ((w2.alloc (.cells cU 93)).setRow w2.heap.size L):=((Kp.refl _ _).alloc _).setRow (fun x=>by omega) _;have j3 : ib ((w2.alloc (.cells cU 93)).setRow w2.heap.size L) ob oo ss:=hS2.keep Kn (fun x=>x) (fun _ _ _ x=>x);have hr4:=Kn.at_ hr2 (fun x=>x);have K4:=K3.trans Kn;generalize (w2.alloc (.cells cU 93)).setRow w2.heap.size L = w4 at th j3 hr4 K4 ⊢;have PX:=K3.size;generalize w2.heap.size = pb at th hsz2 PX ⊢;clear hS2 hr2 K3 Kn hn2 Cz xd Bp HL
 go_wp2_with fail
 go_loopw [7,8] (fun nn i wr=>∃ (k n : Nat) (l : List Int),nn = .int .i64 n /\ i = .int .i64 k /\ k <= 16 /\ k <= ss.length /\ n <= k /\ Hid (sX ss t (min ss.length 16) 0 0 (b_ ss) = sX ss t (min ss.length 16 - k) k n l) /\ l.length = 16 /\
  xa wr pb l /\ Kp (fun k=>k = pb) w4 wr) (fun _ i _=>16 - (intOf i).toNat)
 case atStart=>exact ⟨0,0,b_ ss,rfl,rfl,Nat.zero_le _,Nat.zero_le _,Nat.zero_le _,hid rfl,c_ ss,th,Kp.refl _ _⟩
 case round =>
  obtain ⟨k,n,l,rfl,rfl,zE,hkn,hnk,HE,mE,h1,K1⟩:=hrel;have hSr : ib wr ob oo ss:=j3.keep K1 (fun x=>by omega) (fun i cur hc x=>by subst x;unfold xa at th;rw [th] at hc;simp at hc);have hr : wr.heap[w.heap.size]? = some (.cells cU 93):=K1.at_ hr4 (fun x=>by omega);have KX : Kp (fun _=>False) w wr:=K4.trans' K1 (fun i hi x=>by omega)
  by_cases hgo : k < ss.length /\ k < 16
  ·obtain ⟨hlt,h16⟩:=hgo
   obtain ⟨s,hs⟩ : ∃ s,ss[k]? = some s:=⟨_,List.getElem?_eq_getElem hlt⟩
   obtain ⟨g,cap,c2,a0,a1,a2,a3⟩:=hSr.at_ hs
   have hlt' : (k : Int) < (ss.length : Int):=by omega
   have vo : (k : Int) < 16:=by omega
   have ef : min ss.length 16 - k = (min ss.length 16 - (k + 1)) + 1:=by omega
   have HH:=hid (ae h1 K1)
   cases q : s.kind != 5 with
   | true =>
     have hh : dh ss k = false:=by simp [dh,hs];simpa using q
     have HF:=hid (show sX ss t (min ss.length 16) 0 0 (b_ ss) = sX ss t (min ss.length 16 - (k + 1)) (k + 1) n l by rw [HE.out,ef];simp [sX,hh]);clear h1 K1 KX hr hSr th j3 hs hh HE ef;go_wp2
     go_roundw
     case rel=>exact ⟨k + 1,n,l,rfl,by go_num,by omega,by omega,by omega,HF,mE,HH.out.1,HH.out.2⟩
     case measure=>simp [intOf];omega
   | false=>?_
   have hh : dh ss k = true:=by simp [dh,hs];simpa using q
   by_cases hn : n < t.size
   ·have hn' : decide ((t.size : Int) <= (n : Int)) = false:=by simp;omega
    have TU : (n : Int) < (t.size : Int):=by omega
    have hnd : decide (t.size <= n) = false:=by simp;omega
    have hpk : af t n = ((t[n]'hn).toNat : Int):=by simp [af,hn]
    have E1:=hid (zB ob oo wr ss k ((t[n]'hn).toNat : Int) hSr hl)
    cases qi : iK ss (k : Int) ((t[n]'hn).toNat : Int) with
    | false =>
      have HF:=hid (show bf ss t = (oK,false) by
       have e : sX ss t (min ss.length 16) 0 0 (b_ ss) = none:=by rw [HE.out,ef];simp [sX,hh,hpk,qi]
       simp [bf,e])
      rw [qi] at E1;have KZ : Kp (fun _=>False) w (wr.setRow w.heap.size cU):=KX.setRow (fun x=>by omega) _;clear h1 K1 KX hSr th j3 hs hh HE ef hpk
      go_wp2_with fail
      refine hm E1 ?_;rintro x w1 ⟨rfl,rfl⟩
      go_wp2_with (refine wpList_store_row rfl 93 (.tmp 4) (.tmp 46) rfl w.heap.size cU rfl rfl 93 cU hr gm rfl vz ?_)
      refine bodyPost_ret (results_cell_tmp rfl _ _ w.heap.size 93 cU (0,0) ds rfl (setRow_heap _ _ _ _ _ _ hr) hds eH gm) rfl ?_;rw [HF.out];exact ⟨rfl,KZ⟩
    | true=>?_
    have HF:=hid (show sX ss t (min ss.length 16) 0 0 (b_ ss) = sX ss t (min ss.length 16 - (k + 1)) (k + 1) (n + 1) (l.set k ((t[n]'hn).toNat : Int)) by rw [HE.out,ef];simp [sX,hh,hpk,qi,hnd]);rw [qi] at E1
    have hix:=fun w'=>oL w' pb 0 k h16
    simp only [Nat.zero_add] at hix;have cw:=h1.cell mE h16;have fw:=h1.free k;clear h1 K1 KX hr hSr th j3 hs hh HE ef hpk
    go_wp2_with fail
    refine hm E1 ?_;rintro x w1 ⟨rfl,rfl⟩;go_wp2
    go_roundw
    case rel=>exact ⟨k + 1,n + 1,_,by go_num,by go_num,by omega,by omega,by omega,HF,by simpa using mE,HH.out.1.set k _,HH.out.2.setCell (by intro _;rfl) _⟩
    case measure=>simp [intOf];omega
   have hn' : (t.size : Int) <= (n : Int):=by omega
   have HF:=hid (show bf ss t = (oK,false) by
    have e : sX ss t (min ss.length 16) 0 0 (b_ ss) = none:=by rw [HE.out,ef];simp [sX,hh];intro x;omega
    simp [bf,e])
   have KZ : Kp (fun _=>False) w (wr.setRow w.heap.size cU):=KX.setRow (fun x=>by omega) _;clear h1 K1 KX hSr th j3 hs hh HE ef
   go_wp2_with (refine wpList_store_row rfl 93 (.tmp 4) (.tmp 46) rfl w.heap.size cU rfl rfl 93 cU hr gm rfl vz ?_)
   refine bodyPost_ret (results_cell_tmp rfl _ _ w.heap.size 93 cU (0,0) ds rfl (setRow_heap _ _ _ _ _ _ hr) hds eH gm) rfl ?_;rw [HF.out];exact ⟨rfl,KZ⟩
  have HG:=hid (show sX ss t (min ss.length 16) 0 0 (b_ ss) = some (l,n) by rw [HE.out,show min ss.length 16 - k = 0 by omega];rfl);obtain ⟨ao,cap,c2⟩:=hSr.len
  have hcond : ((k : Int) < (ss.length : Int) /\ decide ((k : Int) < 16) = false) \/ decide ((k : Int) < (ss.length : Int)) = false:=by
   by_cases x : k < ss.length
   ·left;exact ⟨by omega,by simp;omega⟩
   right;simp;omega
  cases qn : ((n : Int) != (t.size : Int)) with
  | true =>
    have HF:=hid (show bf ss t = (oK,false) by simp only [bf,HG.out,qn,if_true]);have KZ : Kp (fun _=>False) w (wr.setRow w.heap.size cU):=KX.setRow (fun x=>by omega) _;clear h1 K1 KX hSr th j3 HE
    rcases hcond with ⟨x1,x2⟩ | x1
    all_goals
     go_wp2_with (refine wpList_store_row rfl 93 (.tmp 4) (.tmp 58) rfl w.heap.size cU rfl rfl 93 cU hr gm rfl vz ?_)
     all_goals
      refine bodyPost_ret (results_cell_tmp rfl _ _ w.heap.size 93 cU (0,0) ds rfl (setRow_heap _ _ _ _ _ _ hr) hds eH gm) rfl ?_;rw [HF.out];exact ⟨rfl,KZ⟩
  | false=>?_
  have HF:=hid (show bf ss t = (l,true) by simp [bf,HG.out,qn]);have hrow : wr.heap[pb]? = some (.cells (aG l).toArray 93 (0,0)):=h1;have hsz:=jI mE
  have hszI : (prog.info? 93).map (·.size) = some ((aG l).toArray).size:=by rw [hsz];exact gm
  have hone:=nB l;have KZ : Kp (fun _=>False) w (wr.setRow w.heap.size (aG l).toArray):=KX.setRow (fun x=>by omega) _;clear h1 K1 KX hSr th j3 HE;generalize hL : (aG l).toArray = L at *;have HL:=hid hL;clear hL
  rcases hcond with ⟨x1,x2⟩ | x1
  all_goals
   go_wp2_with (first | refine wpList_load_row rfl 93 (.tmp 6) rfl pb rfl 93 L (0,0) ds hrow hds (by cases ds <;> simp_all [ar]) hszI ?_ | refine wpList_store_row rfl 93 (.tmp 4) (.tmp 59) rfl w.heap.size L rfl rfl 93 cU hr hszI hsz.symm hone ?_)
   all_goals
    refine bodyPost_ret (results_cell_tmp rfl _ _ w.heap.size 93 L (0,0) ds rfl (setRow_heap _ _ _ _ _ _ hr) hds eH hszI) rfl ?_;rw [HF.out,<- HL.out];exact ⟨rfl,by rw [HL.out];exact KZ⟩
end
namespace Ch
def send (s : Sd) (ev d : Int) : Bool × Sd:=if 16 <= s.tm.size then (false,s) else (true,{ s with tm:=s.tm ++ strOfNums [ev,48 + d] })
end Ch
section
variable (w : World) (b o : Nat) (pre : List Value) (s : Sd) (post : List Value) (T : TypeId)
theorem Ep (ev d : Int) (h : bM w b pre s post T) (hw : s.Wf) (ho : pre.length = o) (hd : 0 <= d) (hd' : d <= 9) :
 Calls prog 223 #[.pointer (some ⟨b,o,none⟩),.int .u8 ev,.int .i64 d] w fun x w'=>x = .returned (.bool (Ch.send s ev d).1) /\ bM w' b pre (Ch.send s ev d).2 post T /\ Kp (fun k=>k = b) w w':=by
 subst ho;have ct:=h.tm hw;have hbl:=h.lt;have HH:=hid h
 by_cases hb : 16 <= s.tm.size
 ·rw [show Ch.send s ev d = (false,s) by simp [Ch.send,hb]]
  have hb' : (16 : Int) <= (s.tm.size : Int):=by omega
  clear h
  go_enter func223,ntmps223
  go_wp2;go_ret;exact ⟨rfl,HH.out,Kp.refl _ _⟩
 rw [show Ch.send s ev d = (true,{ s with tm:=s.tm ++ strOfNums [ev,48 + d] }) by simp [Ch.send,hb]]
 have hb' : ¬ (16 : Int) <= (s.tm.size : Int):=by omega
 have hcv:=run_convert_bytes_arg (P:=prog) ((w.alloc (.cells #[.int .u8 ev,.int .u8 (48 + d)] 5)).drew) 47 5 underlying47 underlying5 w.heap.size 0 2 2 [ev,48 + d] rfl (by
  intro i hi
  match i,hi with
  | 0,_=>simp
  | 1,_=>simp) 9 underlying9
 have hadd:=fun w'=>run_string_add_sum (P:=prog) w' s.tm (strOfNums [ev,48 + d]) (by rw [strOfNums_size];simp;omega)
 have h2 : bM ((w.alloc (.cells #[.int .u8 ev,.int .u8 (48 + d)] 5)).drew) b pre s post T:=h.keep (S:=fun _=>False) ((Kp.refl _ _).alloc _).drew (fun x=>x);have VP:=h2.tm hw
 have VQ : ∀ o,(w.alloc o).cell? ⟨b,pre.length + 32,none⟩ = some (.string s.tm):=fun o=>(h.keep (S:=fun _=>False) ((Kp.refl _ _).alloc o) (fun x=>x)).tm hw
 have VR : ∀ o,(w.alloc o).frozen? ⟨b,pre.length + 32,none⟩ = false:=fun o=>(h.keep (S:=fun _=>False) ((Kp.refl _ _).alloc o) (fun x=>x)).free _
 clear h h2 hb
 go_enter func223,ntmps223
 go_wp2
 go_region
 all_goals
  go_wp2;go_ret;exact ⟨rfl,(HH.out.Bn hw _).keep (S:=fun _=>False) (((Kp.refl _ _).alloc _).drew) (fun x=>x),(((Kp.refl _ _).setCell (by intro _;rfl) _).alloc _).drew⟩
end
end Go.Proofs.YtnlbchmfcebeeaaGreat
