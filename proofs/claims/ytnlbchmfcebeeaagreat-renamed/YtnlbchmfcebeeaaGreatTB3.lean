import Derived.Test.YtnlbchmfcebeeaaGreatTB2
set_option maxHeartbeats 12800000
set_option maxRecDepth 100000
namespace Go.Proofs.YtnlbchmfcebeeaaGreat
open Go.RowKit
namespace Ch
def tpF (ss : List St) (t : ByteArray) : Nat → Nat → Nat → List Int → Option (List Int × Nat)
 | 0,_,n,l=>some (l,n)
 | f + 1,k,n,l =>
   if hist ss k then
    if decide (t.size ≤ n) || !isPast ss (k : Int) (peek t n) then none else tpF ss t f (k + 1) (n + 1) (l.set k (peek t n))
   else tpF ss t f (k + 1) n l
def takePastV (ss : List St) (t : ByteArray) : List Int × Bool :=
 match tpF ss t (min ss.length 16) 0 0 (blankP ss) with
 | some (l,n)=>if (n : Int) != (t.size : Int) then (noPast,false) else (l,true)
 | none=>(noPast,false)
theorem tpF_len (ss : List St) (t : ByteArray) : ∀ (f k n : Nat) (l : List Int) (r : List Int × Nat),tpF ss t f k n l = some r → r.1.length = l.length:=by
 intro f
 induction f with
 | zero=>intro k n l r h;simp [tpF] at h;rw [← h]
 | succ f ih=>?_
 intro k n l r h;simp only [tpF] at h
 split at h
 ·split at h
  ·cases h
  have:=ih _ _ _ _ h;simpa using this
 exact ih _ _ _ _ h
theorem takePastV_len (ss : List St) (t : ByteArray) : (takePastV ss t).1.length = 16:=by
 unfold takePastV
 cases h : tpF ss t (min ss.length 16) 0 0 (blankP ss) with
 | none=>rfl
 | some r=>?_
 obtain ⟨l,n⟩:=r;have:=tpF_len ss t _ _ _ _ _ h;simp only
 split
 ·rfl
 rw [this];exact blankP_len ss
end Ch
section
variable (ob oo : Nat) (w : World) (ss : List Ch.St)
theorem takePast_any (t : ByteArray) (ht : t.size ≤ 9223372036854775807) (hS : StR w ob oo ss) (hl : ss.length ≤ 1000) :
 Calls Tryz.prog 126 #[.pointer (some ⟨ob,oo,none⟩),.string t] w fun x w'=>x = .returned (.tuple #[.agg (pastCells (Ch.takePastV ss t).1).toArray,.bool (Ch.takePastV ss t).2]) ∧ Kp (fun _=>False) w w':=by
 obtain ⟨ds,hds,hda⟩:=Tryz.undMem;have hS1 : StR (w.alloc (.cells zU16 93)) ob oo ss:=hS.alloc _;have hr1 : (w.alloc (.cells zU16 93)).heap[w.heap.size]? = some (.cells zU16 93):=heap_alloc_new _ _;have K1 : Kp (fun _=>False) w (w.alloc (.cells zU16 93)):=(Kp.refl _ _).alloc _
 have hob : ob < w.heap.size:=by obtain ⟨sv,base,hc,_⟩:=hS;exact World.block_lt_of_cell? w _ hc
 have E0:=hid (blankPast_any ob oo (w.alloc (.cells zU16 93)) ss hS1);have hszB:=pastSize (Ch.blankP_len ss)
 have hszBI : (Tryz.prog.info? 93).map (·.size) = some ((pastCells (Ch.blankP ss)).toArray).size:=by rw [hszB];exact Tryz.sizeMem
 have honeB:=pastOne (Ch.blankP ss);clear hS
 go_enter Tryz.func126,Tryz.ntmps126
 go_wp2_with fail
 refine hm E0 ?_;rintro x w2 ⟨rfl,K2⟩;have hS2 : StR w2 ob oo ss:=hS1.keep K2 (fun x=>x) (fun _ _ _ x=>x);have hr2:=K2.at_ hr1 (fun x=>x);have K3:=K1.trans K2;have hsz2 : w.heap.size < w2.heap.size:=lt_of_block hr2;clear hS1 hr1 K1 K2 E0;have hn2:=heap_alloc_new w2 (.cells zU16 93);generalize hL : (pastCells (Ch.blankP ss)).toArray = L at *;have HL:=hid hL;clear hL
 go_wp2_with (refine wpList_store_row rfl 93 (.tmp 6) (.tmp 10) rfl w2.heap.size L rfl rfl 93 zU16 hn2 hszBI hszB.symm honeB ?_)
 have ha4 : MeB ((w2.alloc (.cells zU16 93)).setRow w2.heap.size L) w2.heap.size (Ch.blankP ss):=by
  unfold MeB;rw [setRow_heap _ _ _ _ _ _ hn2,HL.out]
 have Kn : Kp (fun _=>False) w2 ((w2.alloc (.cells zU16 93)).setRow w2.heap.size L):=((Kp.refl _ _).alloc _).setRow (fun x=>by omega) _;have hS4 : StR ((w2.alloc (.cells zU16 93)).setRow w2.heap.size L) ob oo ss:=hS2.keep Kn (fun x=>x) (fun _ _ _ x=>x);have hr4:=Kn.at_ hr2 (fun x=>x);have K4:=K3.trans Kn;generalize (w2.alloc (.cells zU16 93)).setRow w2.heap.size L = w4 at ha4 hS4 hr4 K4 ⊢;have hsz4:=K3.size;generalize w2.heap.size = pb at ha4 hsz2 hsz4 ⊢;clear hS2 hr2 K3 Kn hn2 hszB hszBI honeB HL
 go_wp2_with fail
 go_loopw [7,8] (fun nn i wr=>∃ (k n : Nat) (l : List Int),nn = .int .i64 n ∧ i = .int .i64 k ∧ k ≤ 16 ∧ k ≤ ss.length ∧ n ≤ k ∧ Hid (Ch.tpF ss t (min ss.length 16) 0 0 (Ch.blankP ss) = Ch.tpF ss t (min ss.length 16 - k) k n l) ∧ l.length = 16 ∧
  MeB wr pb l ∧ Kp (fun k=>k = pb) w4 wr) (fun _ i _=>16 - (intOf i).toNat)
 case atStart=>exact ⟨0,0,Ch.blankP ss,rfl,rfl,Nat.zero_le _,Nat.zero_le _,Nat.zero_le _,hid rfl,Ch.blankP_len ss,ha4,Kp.refl _ _⟩
 case round =>
  obtain ⟨k,n,l,rfl,rfl,hk16,hkn,hnk,HE,hl16,h1,K1⟩:=hrel;have hSr : StR wr ob oo ss:=hS4.keep K1 (fun x=>by omega) (fun i cur hc x=>by subst x;unfold MeB at ha4;rw [ha4] at hc;simp at hc);have hr : wr.heap[w.heap.size]? = some (.cells zU16 93):=K1.at_ hr4 (fun x=>by omega);have KX : Kp (fun _=>False) w wr:=K4.trans' K1 (fun i hi x=>by omega)
  by_cases hgo : k < ss.length ∧ k < 16
  ·obtain ⟨hlt,h16⟩:=hgo
   obtain ⟨s,hs⟩ : ∃ s,ss[k]? = some s:=⟨_,List.getElem?_eq_getElem hlt⟩
   obtain ⟨g,cap,c2,a0,a1,a2,a3⟩:=hSr.at_ hs
   have hlt' : (k : Int) < (ss.length : Int):=by omega
   have h16' : (k : Int) < 16:=by omega
   have ef : min ss.length 16 - k = (min ss.length 16 - (k + 1)) + 1:=by omega
   have HH:=hid (And.intro h1 K1)
   cases q : s.kind != 5 with
   | true =>
     have hh : Ch.hist ss k = false:=by simp [Ch.hist,hs];simpa using q
     have HF:=hid (show Ch.tpF ss t (min ss.length 16) 0 0 (Ch.blankP ss) = Ch.tpF ss t (min ss.length 16 - (k + 1)) (k + 1) n l by rw [HE.out,ef];simp [Ch.tpF,hh]);clear h1 K1 KX hr hSr ha4 hS4 hs hh HE ef;go_wp2
     go_roundw
     case rel=>exact ⟨k + 1,n,l,rfl,by go_num,by omega,by omega,by omega,HF,hl16,HH.out.1,HH.out.2⟩
     case measure=>simp [intOf];omega
   | false=>?_
   have hh : Ch.hist ss k = true:=by simp [Ch.hist,hs];simpa using q
   by_cases hn : n < t.size
   ·have hn' : decide ((t.size : Int) ≤ (n : Int)) = false:=by simp;omega
    have hn'' : (n : Int) < (t.size : Int):=by omega
    have hnd : decide (t.size ≤ n) = false:=by simp;omega
    have hpk : Ch.peek t n = ((t[n]'hn).toNat : Int):=by simp [Ch.peek,hn]
    have E1:=hid (isPast_any ob oo wr ss k ((t[n]'hn).toNat : Int) hSr hl)
    cases qi : Ch.isPast ss (k : Int) ((t[n]'hn).toNat : Int) with
    | false =>
      have HF:=hid (show Ch.takePastV ss t = (Ch.noPast,false) by
       have e : Ch.tpF ss t (min ss.length 16) 0 0 (Ch.blankP ss) = none:=by rw [HE.out,ef];simp [Ch.tpF,hh,hpk,qi]
       simp [Ch.takePastV,e])
      rw [qi] at E1;have KZ : Kp (fun _=>False) w (wr.setRow w.heap.size zU16):=KX.setRow (fun x=>by omega) _;clear h1 K1 KX hSr ha4 hS4 hs hh HE ef hpk
      go_wp2_with fail
      refine hm E1 ?_;rintro x w1 ⟨rfl,rfl⟩
      go_wp2_with (refine wpList_store_row rfl 93 (.tmp 4) (.tmp 46) rfl w.heap.size zU16 rfl rfl 93 zU16 hr Tryz.sizeMem rfl zmemOne ?_)
      refine bodyPost_ret (results_cell_tmp rfl _ _ w.heap.size 93 zU16 (0,0) ds rfl (setRow_heap _ _ _ _ _ _ hr) hds hda Tryz.sizeMem) rfl ?_;rw [HF.out];exact ⟨rfl,KZ⟩
    | true=>?_
    have HF:=hid (show Ch.tpF ss t (min ss.length 16) 0 0 (Ch.blankP ss) = Ch.tpF ss t (min ss.length 16 - (k + 1)) (k + 1) (n + 1) (l.set k ((t[n]'hn).toNat : Int)) by rw [HE.out,ef];simp [Ch.tpF,hh,hpk,qi,hnd]);rw [qi] at E1
    have hix:=fun w'=>run_ixMem w' pb 0 k h16
    simp only [Nat.zero_add] at hix;have cw:=h1.cell hl16 h16;have fw:=h1.free k;clear h1 K1 KX hr hSr ha4 hS4 hs hh HE ef hpk
    go_wp2_with fail
    refine hm E1 ?_;rintro x w1 ⟨rfl,rfl⟩;go_wp2
    go_roundw
    case rel=>exact ⟨k + 1,n + 1,_,by go_num,by go_num,by omega,by omega,by omega,HF,by simpa using hl16,HH.out.1.set k _,HH.out.2.setCell (by intro _;rfl) _⟩
    case measure=>simp [intOf];omega
   have hn' : (t.size : Int) ≤ (n : Int):=by omega
   have HF:=hid (show Ch.takePastV ss t = (Ch.noPast,false) by
    have e : Ch.tpF ss t (min ss.length 16) 0 0 (Ch.blankP ss) = none:=by rw [HE.out,ef];simp [Ch.tpF,hh];intro x;omega
    simp [Ch.takePastV,e])
   have KZ : Kp (fun _=>False) w (wr.setRow w.heap.size zU16):=KX.setRow (fun x=>by omega) _;clear h1 K1 KX hSr ha4 hS4 hs hh HE ef
   go_wp2_with (refine wpList_store_row rfl 93 (.tmp 4) (.tmp 46) rfl w.heap.size zU16 rfl rfl 93 zU16 hr Tryz.sizeMem rfl zmemOne ?_)
   refine bodyPost_ret (results_cell_tmp rfl _ _ w.heap.size 93 zU16 (0,0) ds rfl (setRow_heap _ _ _ _ _ _ hr) hds hda Tryz.sizeMem) rfl ?_;rw [HF.out];exact ⟨rfl,KZ⟩
  have HG:=hid (show Ch.tpF ss t (min ss.length 16) 0 0 (Ch.blankP ss) = some (l,n) by rw [HE.out,show min ss.length 16 - k = 0 by omega];rfl);obtain ⟨ao,cap,c2⟩:=hSr.len
  have hcond : ((k : Int) < (ss.length : Int) ∧ decide ((k : Int) < 16) = false) ∨ decide ((k : Int) < (ss.length : Int)) = false:=by
   by_cases x : k < ss.length
   ·left;exact ⟨by omega,by simp;omega⟩
   right;simp;omega
  cases qn : ((n : Int) != (t.size : Int)) with
  | true =>
    have HF:=hid (show Ch.takePastV ss t = (Ch.noPast,false) by simp only [Ch.takePastV,HG.out,qn,if_true]);have KZ : Kp (fun _=>False) w (wr.setRow w.heap.size zU16):=KX.setRow (fun x=>by omega) _;clear h1 K1 KX hSr ha4 hS4 HE
    rcases hcond with ⟨x1,x2⟩ | x1
    all_goals
     go_wp2_with (refine wpList_store_row rfl 93 (.tmp 4) (.tmp 58) rfl w.heap.size zU16 rfl rfl 93 zU16 hr Tryz.sizeMem rfl zmemOne ?_)
     all_goals
      refine bodyPost_ret (results_cell_tmp rfl _ _ w.heap.size 93 zU16 (0,0) ds rfl (setRow_heap _ _ _ _ _ _ hr) hds hda Tryz.sizeMem) rfl ?_;rw [HF.out];exact ⟨rfl,KZ⟩
  | false=>?_
  have HF:=hid (show Ch.takePastV ss t = (l,true) by simp [Ch.takePastV,HG.out,qn]);have hrow : wr.heap[pb]? = some (.cells (pastCells l).toArray 93 (0,0)):=h1;have hsz:=pastSize hl16
  have hszI : (Tryz.prog.info? 93).map (·.size) = some ((pastCells l).toArray).size:=by rw [hsz];exact Tryz.sizeMem
  have hone:=pastOne l;have KZ : Kp (fun _=>False) w (wr.setRow w.heap.size (pastCells l).toArray):=KX.setRow (fun x=>by omega) _;clear h1 K1 KX hSr ha4 hS4 HE;generalize hL : (pastCells l).toArray = L at *;have HL:=hid hL;clear hL
  rcases hcond with ⟨x1,x2⟩ | x1
  all_goals
   go_wp2_with (first | refine wpList_load_row rfl 93 (.tmp 6) rfl pb rfl 93 L (0,0) ds hrow hds (by cases ds <;> simp_all [isAggD]) hszI ?_ | refine wpList_store_row rfl 93 (.tmp 4) (.tmp 59) rfl w.heap.size L rfl rfl 93 zU16 hr hszI hsz.symm hone ?_)
   all_goals
    refine bodyPost_ret (results_cell_tmp rfl _ _ w.heap.size 93 L (0,0) ds rfl (setRow_heap _ _ _ _ _ _ hr) hds hda hszI) rfl ?_;rw [HF.out,← HL.out];exact ⟨rfl,by rw [HL.out];exact KZ⟩
end
namespace Ch
def send (s : Sd) (ev d : Int) : Bool × Sd:=if 16 ≤ s.tm.size then (false,s) else (true,{ s with tm:=s.tm ++ strOfNums [ev,48 + d] })
end Ch
section
variable (w : World) (b o : Nat) (pre : List Value) (s : Ch.Sd) (post : List Value) (T : TypeId)
theorem send_any (ev d : Int) (h : SdB w b pre s post T) (hw : s.Wf) (ho : pre.length = o) (hd : 0 ≤ d) (hd' : d ≤ 9) :
 Calls Tryz.prog 223 #[.pointer (some ⟨b,o,none⟩),.int .u8 ev,.int .i64 d] w fun x w'=>x = .returned (.bool (Ch.send s ev d).1) ∧ SdB w' b pre (Ch.send s ev d).2 post T ∧ Kp (fun k=>k = b) w w':=by
 subst ho;have ct:=h.tm hw;have hbl:=h.lt;have HH:=hid h
 by_cases hb : 16 ≤ s.tm.size
 ·rw [show Ch.send s ev d = (false,s) by simp [Ch.send,hb]]
  have hb' : (16 : Int) ≤ (s.tm.size : Int):=by omega
  clear h
  go_enter Tryz.func223,Tryz.ntmps223
  go_wp2;go_ret;exact ⟨rfl,HH.out,Kp.refl _ _⟩
 rw [show Ch.send s ev d = (true,{ s with tm:=s.tm ++ strOfNums [ev,48 + d] }) by simp [Ch.send,hb]]
 have hb' : ¬ (16 : Int) ≤ (s.tm.size : Int):=by omega
 have hcv:=run_convert_bytes_arg (P:=Tryz.prog) ((w.alloc (.cells #[.int .u8 ev,.int .u8 (48 + d)] 5)).drew) 47 5 Tryz.underlying47 Tryz.underlying5 w.heap.size 0 2 2 [ev,48 + d] rfl (by
  intro i hi
  match i,hi with
  | 0,_=>simp
  | 1,_=>simp) 9 Tryz.underlying9
 have hadd:=fun w'=>run_string_add_sum (P:=Tryz.prog) w' s.tm (strOfNums [ev,48 + d]) (by rw [strOfNums_size];simp;omega)
 have h2 : SdB ((w.alloc (.cells #[.int .u8 ev,.int .u8 (48 + d)] 5)).drew) b pre s post T:=h.keep (S:=fun _=>False) ((Kp.refl _ _).alloc _).drew (fun x=>x);have ct2:=h2.tm hw
 have ct3 : ∀ o,(w.alloc o).cell? ⟨b,pre.length + 32,none⟩ = some (.string s.tm):=fun o=>(h.keep (S:=fun _=>False) ((Kp.refl _ _).alloc o) (fun x=>x)).tm hw
 have ft3 : ∀ o,(w.alloc o).frozen? ⟨b,pre.length + 32,none⟩ = false:=fun o=>(h.keep (S:=fun _=>False) ((Kp.refl _ _).alloc o) (fun x=>x)).free _
 clear h h2 hb
 go_enter Tryz.func223,Tryz.ntmps223
 go_wp2
 go_region
 all_goals
  go_wp2;go_ret;exact ⟨rfl,(HH.out.setTm hw _).keep (S:=fun _=>False) (((Kp.refl _ _).alloc _).drew) (fun x=>x),(((Kp.refl _ _).setCell (by intro _;rfl) _).alloc _).drew⟩
end
end Go.Proofs.YtnlbchmfcebeeaaGreat
