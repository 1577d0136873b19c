import Derived.Test.YtnlbchmfcebeeaaGreatTF3
import Derived.BigQuiet
import Derived.Deep.QuietTactic
import Derived.OwnWalk
set_option maxHeartbeats 12800000
set_option maxRecDepth 100000
namespace Go.Proofs.YtnlbchmfcebeeaaGreat
open Go.RowKit
section
variable (w : World)
theorem cLegal_any (t : ByteArray) (a : Ch.As) (ha : a.Sm) :
 Calls Tryz.prog 54 #[.string t,.agg (asA a)] w fun x w'=>x = .returned (.int .i64 (Ch.lgE t a)) ∧ Kp (fun _=>False) w w':=by
 obtain ⟨da,hdA,hdAa⟩:=Tryz.undAs;have hb1:=heap_alloc_new w (.cells (asA a) 26);have K1 : Kp (fun _=>False) w (w.alloc (.cells (asA a) 26)):=(Kp.refl _ _).alloc _;have E0:=hid (cRead_any (w.alloc (.cells (asA a) 26)) t a ha)
 have hlw : (Ch.lgS t a).Wf:=by
  unfold Ch.lgS
  split
  ·exact Ch.noSd_wf
  split
  ·exact Ch.take_wf _ _ _ _ _ _ _
  exact Ch.noSd_wf
 generalize hAA : asA a = AA at hb1 K1 E0 ⊢
 have aI : (Tryz.prog.info? 26).map (·.size) = some AA.size:=by rw [← hAA];exact Tryz.sizeAs
 clear hAA
 go_enter Tryz.func54,Tryz.ntmps54
 go_upto_region 1 with (fail)
 generalize w.alloc (.cells AA 26) = w1 at *
 go_wp2_with (refine wpList_load_row rfl 26 (.tmp 3) rfl w.heap.size rfl 26 AA (0,0) da hb1 hdA (by cases da <;> first | rfl | exact absurd hdAa (by simp [isAggD])) aI ?_)
 refine hm E0 ?_;rintro x w2 ⟨sv,tv,bv,lt,lb,rfl,⟨o1,o2,o3⟩,_,K2⟩;have gI:=sgA_info (Ch.lgE t a) sv tv bv hlw;have gS:=sgA_size (Ch.lgE t a) sv tv bv hlw;have gO:=sgA_one (Ch.lgE t a) o1 o2 o3 (Ch.lgS t a);have hnew:=heap_alloc_new w2 (.cells yL42 119);have hrow:=setRow_heap (w2.alloc (.cells yL42 119)) w2.heap.size _ (sgA (Ch.lgE t a) sv tv bv (Ch.lgS t a)) 119 (0,0) hnew;have K3 : Kp (fun _=>False) w ((w2.alloc (.cells yL42 119)).setRow w2.heap.size (sgA (Ch.lgE t a) sv tv bv (Ch.lgS t a))):=((K1.trans K2).alloc _).setRow (fun x=>by have:=(K1.trans K2).size;omega) _
 have z0 : ((w2.alloc (.cells yL42 119)).setRow w2.heap.size (sgA (Ch.lgE t a) sv tv bv (Ch.lgS t a))).cell? ⟨w2.heap.size,0,none⟩ = some (.int .i64 (Ch.lgE t a)):=by rw [World.cell?,hrow];rfl
 clear E0 hb1 K1 K2 aI hrow;generalize sgA (Ch.lgE t a) sv tv bv (Ch.lgS t a) = GA at *
 go_wp2_with (refine wpList_store_row rfl 119 (.tmp 5) (.tmp 8) rfl w2.heap.size GA rfl rfl 119 yL42 hnew gI (by rw [gS];rfl) gO ?_)
 go_ret;exact ⟨rfl,K3⟩
end
def ndA (s : Ch.St) : Array Value:=#[.string (strOfNums [s.name]),.int .i64 s.kind,.int .i64 s.parent]
theorem Tryz.sizeNd : (Tryz.prog.info? 111).map (·.size) = some 3:=by kernel_rfl
theorem Tryz.undNd : ∃ d,Tryz.prog.underlying 111 = some d ∧ isAggD d = true:=⟨_,Tryz.underlying111,rfl⟩
section
variable (w : World)
theorem nodeOf_any (s : Ch.St) :
 Calls Tryz.prog 78 #[.agg #[.int .u8 s.name,.int .i64 s.pos,.int .i64 s.kind,.int .i64 s.parent]] w fun x w'=>x = .returned (.agg (ndA s)) ∧ Kp (fun _=>False) w w':=by
 obtain ⟨da,hdA,hdAa⟩:=Tryz.undNd
 have oq : OwnsQ (((w.alloc (.cells #[.int .u8 s.name,.int .i64 s.pos,.int .i64 s.kind,.int .i64 s.parent] 155)).alloc (.cells #[.string ⟨#[]⟩,.int .i64 0,.int .i64 0] 111)).alloc (.cells #[.int .u8 s.name] 5)) 0 (.slice (some ⟨w.heap.size + 2,0,none⟩) 1 1) (byCells [s.name]) :=
  .inr ⟨w.heap.size + 2,0,1,#[.int .u8 s.name],rfl,Nat.zero_le _,by
   have:=heap_alloc_new ((w.alloc (.cells #[.int .u8 s.name,.int .i64 s.pos,.int .i64 s.kind,.int .i64 s.parent] 155)).alloc (.cells #[.string ⟨#[]⟩,.int .i64 0,.int .i64 0] 111)) (.cells #[.int .u8 s.name] 5)
   simpa using this,by simp [byCells],by simp,by intro j u hj;simpa [byCells] using hj⟩
 have hcv:=run_textQ oq;clear oq
 go_enter Tryz.func78,Tryz.ntmps78
 go_wp2;refine bodyPost_ret (results_cell_row rfl _ _ (w.heap.size + 1) 111 (ndA s) (0,0) da rfl ?_ hdA (by cases da <;> first | rfl | exact absurd hdAa (by simp [isAggD])) Tryz.sizeNd) rfl ?_
 ·rw [Below.heap_alloc _ _ _ (by simp)];exact heap_alloc2_new w _ _
 exact ⟨rfl,(((Kp.refl _ _).alloc _).alloc _).alloc _⟩
end
theorem Tryz.infoNode : (Tryz.prog.info? 111).map (fun i=>(i.zero,i.size,i.bytes)) = some (some (.agg #[.string ⟨#[]⟩,.int .i64 0,.int .i64 0]),3,32):=by kernel_rfl
def NdR (w : World) (g n k : Nat) (ss : List Ch.St) : Prop:=∃ C,w.heap[g]? = some (.cells C 111 (0,0)) ∧ C.size = n * 3 ∧ ∀ i s,i < k → ss[i]? = some s → ∀ j,j < 3 → C[i * 3 + j]? = (ndA s)[j]?
theorem NdR.set {w : World} {g n k : Nat} {ss : List Ch.St} {s : Ch.St} (h : NdR w g n k ss) (hs : ss[k]? = some s) (hk : k < n) :
 NdR (((w.setCell ⟨g,k * 3,none⟩ (.string (strOfNums [s.name]))).setCell ⟨g,k * 3 + 1,none⟩ (.int .i64 s.kind)).setCell ⟨g,k * 3 + 2,none⟩ (.int .i64 s.parent)) g n (k + 1) ss:=by
 obtain ⟨C,hC,hsz,hx⟩:=h;have e1:=heap_setCell_same w g (k * 3) C 111 (.string (strOfNums [s.name])) hC;have e2:=heap_setCell_same _ g (k * 3 + 1) _ 111 (.int .i64 s.kind) e1;have e3:=heap_setCell_same _ g (k * 3 + 2) _ 111 (.int .i64 s.parent) e2;refine ⟨_,e3,by simp [hsz],?_⟩;intro i u hi hu j hj
 rcases Nat.lt_or_eq_of_le (Nat.le_of_lt_succ hi) with h | h
 ·rw [← hx i u h hu j hj]
  rw [Array.getElem?_setIfInBounds_ne (by omega),Array.getElem?_setIfInBounds_ne (by omega),Array.getElem?_setIfInBounds_ne (by omega)]
 subst h;rw [hs] at hu;simp at hu;subst hu
 have hj3 : j = 0 ∨ j = 1 ∨ j = 2:=by omega
 rcases hj3 with rfl | rfl | rfl
 ·rw [Array.getElem?_setIfInBounds_ne (by omega),Array.getElem?_setIfInBounds_ne (by omega),Nat.add_zero,Array.getElem?_setIfInBounds_self_of_lt (by omega)]
  rfl
 ·rw [Array.getElem?_setIfInBounds_ne (by omega),Array.getElem?_setIfInBounds_self_of_lt (by simp;omega)]
  rfl
 rw [Array.getElem?_setIfInBounds_self_of_lt (by simp;omega)];rfl
theorem NdR.cells {w : World} {g n k : Nat} {ss : List Ch.St} (h : NdR w g n k ss) {i : Nat} (hi : i < n) :
 (∃ u,w.cell? ⟨g,i * 3,none⟩ = some u) ∧ (∃ u,w.cell? ⟨g,i * 3 + 1,none⟩ = some u) ∧ (∃ u,w.cell? ⟨g,i * 3 + 2,none⟩ = some u) ∧ ∀ o,w.frozen? ⟨g,o,none⟩ = false:=by
 obtain ⟨C,hC,hsz,_⟩:=h;refine ⟨⟨C[i * 3]'(by omega),?_⟩,⟨C[i * 3 + 1]'(by omega),?_⟩,⟨C[i * 3 + 2]'(by omega),?_⟩,fun o=>by simp [World.frozen?,hC]⟩
 ·rw [cell_of_row w g _ C _ _ hC];exact Array.getElem?_eq_getElem _
 ·rw [cell_of_row w g _ C _ _ hC];exact Array.getElem?_eq_getElem _
 rw [cell_of_row w g _ C _ _ hC];exact Array.getElem?_eq_getElem _
section
variable (w : World)
theorem cTree_any (t : ByteArray) :
 Calls Tryz.prog 49 #[.string t] w fun x w'=>∃ v,x = .returned (.tuple #[v,.int .i64 (Ch.read t).1]) ∧ ((Ch.read t).1 ≠ 0 → v = .slice none 0 0) ∧
  ((Ch.read t).1 = 0 → ∃ g,v = .slice (some ⟨g,0,none⟩) (Ch.read t).2.2.sts.length (Ch.read t).2.2.sts.length ∧ w.heap.size ≤ g ∧ NdR w' g (Ch.read t).2.2.sts.length (Ch.read t).2.2.sts.length (Ch.read t).2.2.sts) ∧ Kp (fun _=>False) w w':=by
 obtain ⟨i0,hi,hz0,hz1,hz2⟩:=info_parts Tryz.infoNode;have E0:=hid (read_any t w);have hol:=Ch.read_ok t;generalize hrd : Ch.read t = rd at *;clear hrd;obtain ⟨re,rf,ol⟩:=rd;simp only at E0 hol ⊢;have hl16:=hol.sts
 go_enter Tryz.func49,Tryz.ntmps49
 go_wp2_with fail
 refine hm E0 ?_;rintro x w2 ⟨sv,tv,bv,lt,lb,rfl,F2,B2⟩;have K2:=kpOfBelow B2;have oOne:=olOne (e:=re) (f:=rf) (own_one F2.sts) (own_one F2.trs) (own_one F2.bls);have hnew:=heap_alloc_new w2 (.cells y5L 87);have hrow:=setRow_heap (w2.alloc (.cells y5L 87)) w2.heap.size _ (olA re rf sv tv bv) 87 (0,0) hnew;have K23 : Kp (fun _=>False) w2 ((w2.alloc (.cells y5L 87)).setRow w2.heap.size (olA re rf sv tv bv)):=((Kp.refl _ _).alloc _).setRow (fun x=>by omega) _;have hp3:=Pl.ofRow hrow (F2.keep0 K23);have K3:=K2.trans K23;have hge : w.heap.size ≤ w2.heap.size:=K2.size;clear E0 B2 F2 K2 K23
 go_upto_region 2 with (refine wpList_store_row rfl 87 (.tmp 4) (.tmp 8) rfl w2.heap.size (olA re rf sv tv bv) rfl rfl 87 y5L hnew Tryz.sizeOl rfl oOne ?_)
 generalize (w2.alloc (.cells y5L 87)).setRow w2.heap.size (olA re rf sv tv bv) = w3 at *;generalize w2.heap.size = ob at *
 have z0 : w3.cell? ⟨ob,0,none⟩ = some (.int .i64 re):=by rw [World.cell?,hrow];rfl
 clear hnew oOne hrow
 cases q1 : re != 0 with
 | true =>
   have hre : re ≠ 0:=by simpa using q1
   go_upto_region 3 with (fail)
   go_quiet (fail)
   go_wp2;go_ret2;exact ⟨_,rfl,fun _=>rfl,fun h=>absurd h hre,K3.drewN _⟩
 | false=>?_
 have hre : re = 0:=by simpa using q1
 obtain ⟨ao,cap,c2⟩:=hp3.str.len;simp only [Nat.zero_add] at c2;have HP:=hid (And.intro hp3 K3);clear hp3 K3
 go_wp2_with (at_make;refine wpList_make_full w3 rfl (.tmp 16) (.tmp 16) 107 rfl w3.heap.size 111 i0 (.agg #[.string ⟨#[]⟩,.int .i64 0,.int .i64 0]) 3 Tryz.underlying107 hi hz0 hz1 .i64 .i64 ol.sts.length ol.sts.length ol.sts.length rfl rfl rfl rfl ?c1 ?c2 (Nat.le_refl _) ?_)
 case c1=>rw [hz2];omega
 case c2=>unfold maxLen;omega
 intro w4 o4 g4;obtain ⟨hp3,K3⟩:=HP.out;have KG : Kp (fun _=>False) w3 w4:=(Kp.refl _ _).grown g4 (fun i hi _=>by simp at hi)
 have hN : NdR w4 w3.heap.size ol.sts.length 0 ol.sts:=by
  rcases o4.2 with ⟨h,_⟩ | ⟨g,cap',cur,h,hg,hh,hc,_,hcs,_⟩
  ·simp at h
  simp only [Value.slice.injEq,Option.some.injEq,Addr.mk.injEq,and_true,true_and] at h;obtain ⟨rfl,rfl⟩:=h;exact ⟨cur,hh,by first | exact hcs | omega,fun i s h=>absurd h (by omega)⟩
 have hp4:=hp3.keep KG (fun _ _ _ _ _ x=>x);have K4:=K3.trans KG;have hg3 : w.heap.size ≤ w3.heap.size:=K3.size
 have hob : ob < w3.heap.size:=by obtain ⟨sv',tv',bv',lt',lb',B',c',T',⟨hb',_⟩,_⟩:=hp3;exact lt_of_block hb'
 clear HP hp3 K3 KG o4 g4 c2 z0;generalize w3.heap.size = g at *
 go_wp2_with fail
 go_loopw [6] (fun i wr=>∃ k : Nat,i = .int .i64 k ∧ k ≤ ol.sts.length ∧ NdR wr g ol.sts.length k ol.sts ∧ Kp (fun k=>k = g) w4 wr) (fun i _=>ol.sts.length - (intOf i).toNat)
 case atStart=>exact ⟨0,rfl,Nat.zero_le _,hN,Kp.refl _ _⟩
 case round =>
  obtain ⟨k,rfl,hk,hNr,KW⟩:=hrel
  have hpr : Pl wr ob 0 ol:=hp4.keep KW (fun i cur T hi' hT x=>by
   subst x;obtain ⟨C,hC,_⟩:=hN
   rw [hC] at hi';simp at hi';obtain ⟨_,rfl⟩:=hi';revert hT;unfold plT oT;decide)
  by_cases hlt : k < ol.sts.length
  ·have hlt' : (k : Int) < (ol.sts.length : Int):=by omega
   obtain ⟨s,hs⟩ : ∃ s,ol.sts[k]? = some s:=⟨_,List.getElem?_eq_getElem hlt⟩
   obtain ⟨gs,cs,c2,a0,a1,a2,a3⟩:=hpr.str.at_ hs;simp only [Nat.zero_add] at c2;have E1 : Hid (Calls Tryz.prog 78 #[.agg #[.int .u8 s.name,.int .i64 s.pos,.int .i64 s.kind,.int .i64 s.parent]] wr fun x w'=>x = .returned (.agg #[.string (strOfNums [s.name]),.int .i64 s.kind,.int .i64 s.parent]) ∧ Kp (fun _=>False) wr w'):=hid (nodeOf_any wr s);have HX:=hid (And.intro hNr KW);clear hpr hNr KW
   go_wp2_with fail
   refine hm E1 ?_;rintro x w5 ⟨rfl,K5⟩;obtain ⟨⟨C,hC,hsz,hx⟩,KW⟩:=HX.out
   have hN5 : NdR w5 g ol.sts.length k ol.sts:=⟨C,K5.at_ hC (fun x=>x),hsz,hx⟩
   obtain ⟨⟨u0,d0⟩,⟨u1,d1⟩,⟨u2',d2⟩,fz⟩:=hN5.cells hlt;have hN6:=hN5.set hs hlt
   have K6 : Kp (fun k=>k = g) w4 (((w5.setCell ⟨g,k * 3,none⟩ (.string (strOfNums [s.name]))).setCell ⟨g,k * 3 + 1,none⟩ (.int .i64 s.kind)).setCell ⟨g,k * 3 + 2,none⟩ (.int .i64 s.parent)) :=
    (((KW.trans' K5 (fun i _ x=>x.elim)).setCell (p:=⟨g,k * 3,none⟩) (fun _=>rfl) _).setCell (p:=⟨g,k * 3 + 1,none⟩) (fun _=>rfl) _).setCell (p:=⟨g,k * 3 + 2,none⟩) (fun _=>rfl) _
   clear HX E1 hN5 hC hx K5 KW a0 a1 a2 a3 c2;go_wp2
   go_roundw
   case rel=>exact ⟨k + 1,by go_num,by omega,hN6,K6⟩
   case measure=>simp [intOf];omega
  have hge2 : ¬ (k : Int) < (ol.sts.length : Int):=by omega
  obtain rfl : k = ol.sts.length:=by omega
  have K6 : Kp (fun _=>False) w wr:=K4.trans' KW (fun i hi' x=>by omega);clear hpr KW;go_wp2;go_ret2;subst hre;exact ⟨_,rfl,⟨g,rfl,hg3,hNr⟩,K6⟩
end
end Go.Proofs.YtnlbchmfcebeeaaGreat
