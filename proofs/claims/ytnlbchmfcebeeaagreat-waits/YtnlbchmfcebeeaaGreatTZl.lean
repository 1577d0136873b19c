import Derived.Test.YtnlbchmfcebeeaaGreatTZj
import Derived.Test.YtnlbchmfcebeeaaGreatTC2
import Derived.Test.YtnlbchmfcebeeaaGreatTF2
import Derived.Test.YtnlbchmfcebeeaaGreatTXw
import Derived.Test.YtnlbchmfcebeeaaGreatTXp
import Derived.Test.YtnlbchmfcebeeaaGreatTXd
set_option maxHeartbeats 12800000
set_option maxRecDepth 100000
namespace Go.Proofs.YtnlbchmfcebeeaaGreat
open Go.RowKit
section
variable {P : Program} {a : Act} {w : World} {Q : Exit → Act → World → Prop}
theorem listed_comm (l : Array Bool) (i j : Nat) : (l.setIfInBounds j true).setIfInBounds i true = (l.setIfInBounds i true).setIfInBounds j true:=by
 apply Array.ext_getElem?;intro k;simp only [Array.getElem?_setIfInBounds,Array.size_setIfInBounds]
 by_cases e : i = k <;> by_cases e' : j = k <;> simp [e,e'] <;> omega
theorem put_comm2 (a : Act) {x y : Tmp} (u v : Value) (h : x ≠ y) : (a.put (some y) u).put (some x) v = (a.put (some x) v).put (some y) u :=
 (Act.put_comm a (x:=some x) (y:=some y) v u (fun _ hd hd'=>h ((Option.some.inj hd).trans (Option.some.inj hd').symm))).symm
theorem do_lac {S : World → Prop} {ops : Array Oper} (i j c : Nat) {oi oj oc : Oper} {fuel : Nat} {listed : Array Bool} (di dj dc : Tmp) (v u x : Value) (w' : World) (hdj : di ≠ dj) (hdc : di ≠ dc)
 (hr : Region.ready .any ops listed = [i,j]) (hr1 : Region.ready .any ops (listed.setIfInBounds i true) = [j]) (hr2 : Region.ready .any ops (listed.setIfInBounds j true) = [i,c]) (hr3 : Region.ready .any ops ((listed.setIfInBounds i true).setIfInBounds j true) = [c]) (hr4 : Region.ready .any ops ((listed.setIfInBounds j true).setIfInBounds c true) = [i])
 (hi : ops[i]? = some oi) (hj : ops[j]? = some oj) (hc : ops[c]? = some oc) (hgi : oi.guard = none) (hgj : oj.guard = none) (hgc : oc.guard = none) (hdi : oi.dst = some di) (hdj' : oj.dst = some dj) (hdc' : oc.dst = some dc)
 (r1 : (execOp a.eval oi).run P w = .ok (.value v) w) (r2 : (execOp (a.put (some di) v).eval oj).run P w = .ok (.value u) w') (r3 : (execOp a.eval oj).run P w = .ok (.value u) w') (r4 : (execOp (a.put (some dj) u).eval oi).run P w' = .ok (.value v) w')
 (r5 : (execOp ((a.put (some di) v).put (some dj) u).eval oc).run P w' = .ok (.value x) w') (r6 : (execOp (a.put (some dj) u).eval oc).run P w' = .ok (.value x) w') (r7 : (execOp ((a.put (some dj) u).put (some dc) x).eval oi).run P w' = .ok (.value v) w')
 (hS : S w) (hS' : S w') (h : wpAnyH P .any ops (NoPanic Q) S fuel (((listed.setIfInBounds i true).setIfInBounds j true).setIfInBounds c true) (((a.put (some di) v).put (some dj) u).put (some dc) x) w') : wpAnyH P .any ops (NoPanic Q) S (fuel + 1 + 1 + 1) listed a w:=by
 refine do_pair i j hr hi hj hgi hgj ?_ ?_
 ·exact wpr (some di) hdi v w r1 ⟨hS,do_op j hr1 hj hgj (wpr (some dj) hdj' u w' r2 ⟨hS',do_op c hr3 hc hgc (wpr (some dc) hdc' x w' r5 ⟨hS',h⟩)⟩)⟩
 refine wpr (some dj) hdj' u w' r3 ⟨hS',do_pair i c hr2 hi hc hgi hgc ?_ ?_⟩
 ·refine wpr (some di) hdi v w' r4 ⟨hS',?_⟩
  rw [listed_comm,put_comm2 a u v hdj];exact do_op c hr3 hc hgc (wpr (some dc) hdc' x w' r5 ⟨hS',h⟩)
 refine wpr (some dc) hdc' x w' r6 ⟨hS',do_op i hr4 hi hgi (wpr (some di) hdi v w' r7 ⟨hS',?_⟩)⟩;rw [listed_comm,listed_comm listed,put_comm2 _ x v hdc,put_comm2 a u v hdj];exact h
end
section
variable (w : World) (B B2 xb cb g : Nat) (pv v : Value) (l : List NV) (ol : Ch.Ol) (m : Ch.Ma)
theorem rState_any (h : NwX w B B2 xb cb g pv v l ol m) (hR : Rf l ol) (_hI : Ch.Inv ol m.s) :
 Calls Tryz.prog 204 #[.pointer (some ⟨xb,0,none⟩)] w fun y w'=>y = .returned (.agg (asA (Ch.asOf ol.sts m.s))) ∧ Kp (fun _=>False) w w':=by
 have hle:=hR.le;obtain ⟨ao,cap,rfl⟩:=h.ch.2.1.len;obtain ⟨pa,pc,hpv⟩:=OwnP.len h.ps;have K1 : Kp (fun _=>False) w (w.alloc (.cells y6S 26)):=(Kp.refl _ _).alloc _;have hb1:=heap_alloc_new w (.cells y6S 26);have h1:=h.keep0 K1;clear h
 go_enter Tryz.func204,Tryz.ntmps204
 go_upto_region 1 with (fail)
 generalize w.alloc (.cells y6S 26) = w1 at *;generalize hob : w.heap.size = ob at *;have c2 : w1.cell? ⟨xb,2,none⟩ = some pv:=h1.nb.cell 2;have c3 : w1.cell? ⟨xb,3,none⟩ = some (.string m.s.tm):=h1.nb.cell 3;have c4 : w1.cell? ⟨xb,4,none⟩ = some (.int .i64 m.s.x):=h1.nb.cell 4;have c5 : w1.cell? ⟨xb,5,none⟩ = some (.int .i64 m.s.y):=h1.nb.cell 5;have c6 : w1.cell? ⟨xb,6,none⟩ = some (.int .i64 m.s.z):=h1.nb.cell 6;rw [hpv] at c2
 have hcv:=fun (w' : World) (hS : Kp (fun _=>False) w1 w')=>OwnP.text (show OwnP w' B2 (.slice pa (Ch.pastR ol.sts m.s).length pc) (Ch.pastR ol.sts m.s).length (byCells (Ch.pastR ol.sts m.s)) by
  have:=h1.ps;unfold PsR at this;rw [hpv] at this
  exact this.keep hS (fun _ _ x=>x))
 have HX:=hid h1;clear h1;generalize (Ch.pastR ol.sts m.s).length = pn at *;generalize hpt : strOfNums (Ch.pastR ol.sts m.s) = pt at *;have HPT:=hid hpt;clear hpt;have hS0 : Kp (fun _=>False) w1 w1.drew:=(Kp.refl _ _).drew;have hS1 : Kp (fun _=>False) w1 (w1.drew.alloc (.cells y6S 26)):=hS0.alloc _;have hS2 : Kp (fun _=>False) w1 ((w1.drew.alloc (.cells y6S 26)).setRow w1.heap.size #[.string ⟨#[]⟩,.string pt,.string m.s.tm,.int .i64 m.s.x,.int .i64 m.s.y,.int .i64 m.s.z]):=hS1.setRow (fun x=>absurd x (by omega)) _;refine region_begin (fun w'=>Kp (fun _=>False) w1 w') (by kernel_rfl) ?_;refine tk 0 5 (.pointer (some ⟨xb,0,none⟩)) rfl (by kernel_rfl) rfl rfl (fun w' _=>by simp [execOp,Act.eval,go_sem]) hS0 ?_;simp only [Act.put,pA,pB,pC];refine tk 1 6 (.pointer (some ⟨xb,0,none⟩)) rfl (by kernel_rfl) rfl rfl (fun w' _=>by simp [execOp,Act.eval,go_sem]) hS0 ?_;simp only [Act.put,pA,pB,pC];refine tk 2 7 (.pointer (some ⟨xb,2,none⟩)) rfl (by kernel_rfl) rfl rfl (fun w' _=>by simp [execOp,Act.eval,go_sem]) hS0 ?_;simp only [Act.put,pA,pB,pC];refine tk 3 8 (.slice pa pn pc) rfl (by kernel_rfl) rfl rfl (fun w' hS=>by have:=hS.cellF c2;simp [execOp,Act.eval,go_sem,this]) hS0 ?_;simp only [Act.put,pA,pB,pC];refine tk 4 9 (.string pt) rfl (by kernel_rfl) rfl rfl (fun w' hS=>exec_convert 47 9 (.tmp 8) rfl (.slice pa pn pc) (.string pt) (by simp [Act.eval]) (hcv w' hS)) hS0 ?_;simp only [Act.put,pA,pB,pC];refine tk 5 10 (.pointer (some ⟨xb,0,none⟩)) rfl (by kernel_rfl) rfl rfl (fun w' _=>by simp [execOp,Act.eval,go_sem]) hS0 ?_;simp only [Act.put,pA,pB,pC];refine tk 6 11 (.pointer (some ⟨xb,0,none⟩)) rfl (by kernel_rfl) rfl rfl (fun w' _=>by simp [execOp,Act.eval,go_sem]) hS0 ?_;simp only [Act.put,pA,pB,pC];refine tk 7 12 (.pointer (some ⟨xb,3,none⟩)) rfl (by kernel_rfl) rfl rfl (fun w' _=>by simp [execOp,Act.eval,go_sem]) hS0 ?_;simp only [Act.put,pA,pB,pC];refine tk 8 13 (.string m.s.tm) rfl (by kernel_rfl) rfl rfl (fun w' hS=>by have:=hS.cellF c3;simp [execOp,Act.eval,go_sem,this]) hS0 ?_;simp only [Act.put,pA,pB,pC];refine tk 9 14 (.pointer (some ⟨xb,0,none⟩)) rfl (by kernel_rfl) rfl rfl (fun w' _=>by simp [execOp,Act.eval,go_sem]) hS0 ?_;simp only [Act.put,pA,pB,pC];refine tk 10 15 (.pointer (some ⟨xb,0,none⟩)) rfl (by kernel_rfl) rfl rfl (fun w' _=>by simp [execOp,Act.eval,go_sem]) hS0 ?_
 simp only [Act.put,pA,pB,pC];refine tk 11 16 (.pointer (some ⟨xb,4,none⟩)) rfl (by kernel_rfl) rfl rfl (fun w' _=>by simp [execOp,Act.eval,go_sem]) hS0 ?_;simp only [Act.put,pA,pB,pC];refine tk 12 17 (.pointer (some ⟨xb,4,none⟩)) rfl (by kernel_rfl) rfl rfl (fun w' _=>by simp [execOp,Act.eval,go_sem]) hS0 ?_;simp only [Act.put,pA,pB,pC];refine tk 13 18 (.int .i64 m.s.x) rfl (by kernel_rfl) rfl rfl (fun w' hS=>by have:=hS.cellF c4;simp [execOp,Act.eval,go_sem,this]) hS0 ?_;simp only [Act.put,pA,pB,pC];refine tk 14 19 (.pointer (some ⟨xb,0,none⟩)) rfl (by kernel_rfl) rfl rfl (fun w' _=>by simp [execOp,Act.eval,go_sem]) hS0 ?_;simp only [Act.put,pA,pB,pC];refine tk 15 20 (.pointer (some ⟨xb,0,none⟩)) rfl (by kernel_rfl) rfl rfl (fun w' _=>by simp [execOp,Act.eval,go_sem]) hS0 ?_;simp only [Act.put,pA,pB,pC];refine tk 16 21 (.pointer (some ⟨xb,4,none⟩)) rfl (by kernel_rfl) rfl rfl (fun w' _=>by simp [execOp,Act.eval,go_sem]) hS0 ?_;simp only [Act.put,pA,pB,pC];refine tk 17 22 (.pointer (some ⟨xb,5,none⟩)) rfl (by kernel_rfl) rfl rfl (fun w' _=>by simp [execOp,Act.eval,go_sem]) hS0 ?_;simp only [Act.put,pA,pB,pC];refine tk 18 23 (.int .i64 m.s.y) rfl (by kernel_rfl) rfl rfl (fun w' hS=>by have:=hS.cellF c5;simp [execOp,Act.eval,go_sem,this]) hS0 ?_;simp only [Act.put,pA,pB,pC];refine tk 19 24 (.pointer (some ⟨xb,0,none⟩)) rfl (by kernel_rfl) rfl rfl (fun w' _=>by simp [execOp,Act.eval,go_sem]) hS0 ?_;simp only [Act.put,pA,pB,pC];refine tk 20 25 (.pointer (some ⟨xb,0,none⟩)) rfl (by kernel_rfl) rfl rfl (fun w' _=>by simp [execOp,Act.eval,go_sem]) hS0 ?_;simp only [Act.put,pA,pB,pC];refine tk 21 26 (.pointer (some ⟨xb,4,none⟩)) rfl (by kernel_rfl) rfl rfl (fun w' _=>by simp [execOp,Act.eval,go_sem]) hS0 ?_;simp only [Act.put,pA,pB,pC];refine tk 22 27 (.pointer (some ⟨xb,6,none⟩)) rfl (by kernel_rfl) rfl rfl (fun w' _=>by simp [execOp,Act.eval,go_sem]) hS0 ?_;simp only [Act.put,pA,pB,pC];refine tk 23 28 (.int .i64 m.s.z) rfl (by kernel_rfl) rfl rfl (fun w' hS=>by have:=hS.cellF c6;simp [execOp,Act.eval,go_sem,this]) hS0 ?_;simp only [Act.put,pA,pB,pC]
 refine tk 24 29 (.agg #[.string ⟨#[]⟩,.string pt,.string m.s.tm,.int .i64 m.s.x,.int .i64 m.s.y,.int .i64 m.s.z]) rfl (by kernel_rfl) rfl rfl (fun w' _=>exec_build 26 _ rfl #[.string ⟨#[]⟩,.string pt,.string m.s.tm,.int .i64 m.s.x,.int .i64 m.s.y,.int .i64 m.s.z] [(1,.string pt),(2,.string m.s.tm),(3,.int .i64 m.s.x),(4,.int .i64 m.s.y),(5,.int .i64 m.s.z)] (by simp [Act.eval]) (by kernel_rfl)) hS0 ?_;simp only [Act.put,pA,pB,pC];refine do_op 25 (by kernel_rfl) rfl rfl ?_;refine wpr (some 3) rfl (.pointer (some ⟨w1.heap.size,0,none⟩)) (w1.drew.alloc (.cells y6S 26)) (by simp [execOp,go_sem]) ?_;simp only [Act.put,pA,pB,pC];refine ⟨hS1,?_⟩;refine do_store 26 (by kernel_rfl) rfl rfl 26 (.tmp 3) (.tmp 29) rfl rfl w1.heap.size #[.string ⟨#[]⟩,.string pt,.string m.s.tm,.int .i64 m.s.x,.int .i64 m.s.y,.int .i64 m.s.z] (by simp [Act.eval]) (by simp [Act.eval]) 26 y6S (heap_alloc_new w1.drew _) Tryz.sizeAs rfl (asOne ⟨⟨#[]⟩,pt,m.s.tm,m.s.x,m.s.y,m.s.z⟩) hS2 ?_;refine wpAnyH_done (by kernel_rfl) (NoPanic.normal ?_) _;have HR0:=hid (And.intro (setRow_heap (w1.drew.alloc (.cells y6S 26)) w1.heap.size y6S #[.string ⟨#[]⟩,.string pt,.string m.s.tm,.int .i64 m.s.x,.int .i64 m.s.y,.int .i64 m.s.z] 26 (0,0) (heap_alloc_new w1.drew _)) hS2);clear hcv c2 c3 c4 c5 c6 hS0 hS1 hS2;generalize (w1.drew.alloc (.cells y6S 26)).setRow w1.heap.size #[.string ⟨#[]⟩,.string pt,.string m.s.tm,.int .i64 m.s.x,.int .i64 m.s.y,.int .i64 m.s.z] = w2 at *;generalize hsb : w1.heap.size = sb at *
 go_wp2_with fail
 go_loopw [4] (fun kv wr=>∃ k : Nat,kv = .int .i64 k ∧ k ≤ l.length ∧ Hid (wr.heap[sb]? = some (.cells #[.string (strOfNums (Ch.actK ol.sts m.s k)),.string pt,.string m.s.tm,.int .i64 m.s.x,.int .i64 m.s.y,.int .i64 m.s.z] 26)) ∧ Kp (fun _=>False) w1 wr) (fun kv _=>l.length - (intOf kv).toNat)
 case atStart=>exact ⟨0,rfl,Nat.zero_le _,hid HR0.out.1,HR0.out.2⟩
 case round =>
  obtain ⟨k,rfl,hk,HB,KW⟩:=hrel;have hX:=HX.out.keep0 KW;obtain ⟨on,hon,hso⟩:=hX.on;have d0 : wr.cell? ⟨xb,0,none⟩ = some (.pointer (some ⟨cb,0,none⟩)):=hX.nb.cell 0;have d1 : wr.cell? ⟨xb,1,none⟩ = some (.slice (some ⟨g,0,none⟩) l.length l.length):=hX.nb.cell 1;have zd:=hX.ch.cell
  by_cases hlt : k < l.length
  ·have hlt' : (k : Int) < (l.length : Int):=by omega
   have zon:=hon.cell (k:=k) (by have:=hso.1;omega);have hak:=Ch.actK_succ ol.sts m.s k;rw [Ch.has_nat,← hso.2.2 k] at hak;have hal:=Ch.actK_len ol.sts m.s k
   cases qo : Ch.onAt on k with
   | false =>
     rw [qo] at zon hak;have HA:=hid (show Ch.actK ol.sts m.s (k + 1) = Ch.actK ol.sts m.s k by rw [hak];simp);clear hX hon hso hak;go_wp2
     go_roundw
     case rel=>exact ⟨k + 1,by go_num,by omega,hid (by rw [HA.out];exact HB.out),KW⟩
     case measure=>simp [intOf];omega
   | true=>?_
   rw [qo] at zon hak
   obtain ⟨y,hy⟩ : ∃ y,l[k]? = some y:=⟨_,List.getElem?_eq_getElem hlt⟩
   have hnm : Ch.nmAt ol.sts k = y.n.name:=by rw [← hR.sts];unfold Ch.sts;rw [Ch.nmAt_rn (by rw [Ch.mk_len];exact hlt),Ch.rnAt_mk hy]
   rw [hnm] at hak;have h1:=HX.out;have c0 : w1.cell? ⟨xb,0,none⟩ = some (.pointer (some ⟨cb,0,none⟩)):=h1.nb.cell 0;have zc:=h1.ch.cell;obtain ⟨g1,cap1,hv,_,hcell,_⟩:=h1.ch.2.1.form hy;simp only [Value.slice.injEq] at hv;obtain ⟨rfl,-,rfl⟩:=hv;have v0 : w1.cell? ⟨g1,k * 7,none⟩ = some (.int .u8 y.n.name):=hcell 0 (by omega);have hbr:=HB.out
   have s0 : wr.cell? ⟨sb,0,none⟩ = some (.string (strOfNums (Ch.actK ol.sts m.s k))):=by rw [World.cell?,hbr];rfl
   have hst : ∀ o (u : ByteArray),(((wr.drew.alloc o).setCell ⟨sb,0,none⟩ (.string u))).heap[sb]? = some (.cells #[.string u,.string pt,.string m.s.tm,.int .i64 m.s.x,.int .i64 m.s.y,.int .i64 m.s.z] 26):=fun o u=>by
    have h1:=(((Kp.refl (fun _=>False) wr).drew).alloc o).at_ hbr (fun x=>x);rw [heap_set_same _ h1];rfl
   have A_s0:=fun o=>((Kp.refl (fun _=>False) wr).alloc o).cellF s0
   have A_f0 : ∀ o,(wr.alloc o).frozen? ⟨sb,0,none⟩ = false:=fun o=>by
    have h1:=((Kp.refl (fun _=>False) wr).alloc o).at_ hbr (fun x=>x);simp [World.frozen?,h1]
   have HA:=hid (show strOfNums (Ch.actK ol.sts m.s (k + 1)) = strOfNums (Ch.actK ol.sts m.s k) ++ strOfNums [y.n.name] by rw [hak,← Ch.str_append];simp)
   have hadl : (strOfNums (Ch.actK ol.sts m.s k)).size ≤ 16:=by rw [strOfNums_size];omega
   generalize strOfNums (Ch.actK ol.sts m.s k) = A at *
   have hcv:=run_convert_bytes_arg (P:=Tryz.prog) ((wr.alloc (.cells #[.int .u8 y.n.name] 5)).drew) 47 5 Tryz.underlying47 Tryz.underlying5 wr.heap.size 0 1 1 [y.n.name] rfl (by
    intro i hi
    match i,hi with
    | 0,_=>simp) 9 Tryz.underlying9
   replace hcv : Sem.run Tryz.prog (convert 47 9 (.slice (some ⟨wr.heap.size,0,none⟩) 1 1)) (wr.drew.alloc (.cells #[.int .u8 y.n.name] 5)) = .ok (.string (strOfNums [y.n.name])) (wr.drew.alloc (.cells #[.int .u8 y.n.name] 5)):=hcv
   have hadd:=fun w'=>run_string_add_sum (P:=Tryz.prog) w' A (strOfNums [y.n.name]) (by rw [strOfNums_size];simp;omega)
   have HST:=hid hst;have hS0 : Kp (fun _=>False) w1 wr.drew:=KW.drew;have hS1 : Kp (fun _=>False) w1 (wr.drew.alloc (.cells #[.int .u8 y.n.name] 5)):=hS0.alloc _;have hS2 : Kp (fun _=>False) w1 ((wr.drew.alloc (.cells #[.int .u8 y.n.name] 5)).setCell ⟨sb,0,none⟩ (.string (A ++ strOfNums [y.n.name]))):=hS1.setCell (p:=⟨sb,0,none⟩) (fun x=>absurd x (by show ¬ sb < _;omega)) _;clear hX hon hso hak hbr hcell hst KW h1
   go_upto_region 6 with (fail)
   refine region_begin (fun w'=>Kp (fun _=>False) w1 w') (by kernel_rfl) ?_;refine tk 0 49 (.pointer (some ⟨sb,0,none⟩)) rfl (by kernel_rfl) rfl rfl (fun w' _=>by simp [execOp,Act.eval,go_sem]) hS0 ?_;simp only [Act.put,pA,pB,pC];refine tk 2 51 (.pointer (some ⟨xb,0,none⟩)) rfl (by kernel_rfl) rfl rfl (fun w' _=>by simp [execOp,Act.eval,go_sem]) hS0 ?_;simp only [Act.put,pA,pB,pC];refine tk 3 52 (.pointer (some ⟨xb,0,none⟩)) rfl (by kernel_rfl) rfl rfl (fun w' _=>by simp [execOp,Act.eval,go_sem]) hS0 ?_;simp only [Act.put,pA,pB,pC];refine tk 4 53 (.pointer (some ⟨xb,0,none⟩)) rfl (by kernel_rfl) rfl rfl (fun w' _=>by simp [execOp,Act.eval,go_sem]) hS0 ?_;simp only [Act.put,pA,pB,pC];refine tk 5 54 (.pointer (some ⟨cb,0,none⟩)) rfl (by kernel_rfl) rfl rfl (fun w' hS=>by have:=hS.cellF c0;simp [execOp,Act.eval,go_sem,this]) hS0 ?_;simp only [Act.put,pA,pB,pC];refine tk 6 55 (.pointer (some ⟨cb,0,none⟩)) rfl (by kernel_rfl) rfl rfl (fun w' _=>by simp [execOp,Act.eval,go_sem]) hS0 ?_;simp only [Act.put,pA,pB,pC];refine tk 7 56 (.pointer (some ⟨cb,0,none⟩)) rfl (by kernel_rfl) rfl rfl (fun w' _=>by simp [execOp,Act.eval,go_sem]) hS0 ?_;simp only [Act.put,pA,pB,pC];refine tk 8 57 (.slice (some ⟨g1,0,none⟩) l.length cap) rfl (by kernel_rfl) rfl rfl (fun w' hS=>by have:=hS.cellF zc;simp [execOp,Act.eval,go_sem,this]) hS0 ?_;simp only [Act.put,pA,pB,pC];refine tk 9 58 (.int .i64 (k : Int)) rfl (by kernel_rfl) rfl rfl (fun w' _=>by simp [execOp,Act.eval,go_sem]) hS0 ?_;simp only [Act.put,pA,pB,pC];refine tk 10 59 (.pointer (some ⟨g1,k * 7,none⟩)) rfl (by kernel_rfl) rfl rfl (fun w' _=>by simp [execOp,Act.eval,go_sem,hlt']) hS0 ?_;simp only [Act.put,pA,pB,pC];refine tk 11 60 (.pointer (some ⟨g1,k * 7,none⟩)) rfl (by kernel_rfl) rfl rfl (fun w' _=>by simp [execOp,Act.eval,go_sem]) hS0 ?_;simp only [Act.put,pA,pB,pC];refine tk 12 61 (.int .u8 y.n.name) rfl (by kernel_rfl) rfl rfl (fun w' hS=>by have:=hS.cellF v0;simp [execOp,Act.eval,go_sem,this]) hS0 ?_;simp only [Act.put,pA,pB,pC]
   refine do_lac 1 13 14 50 62 63 (.string A) (.slice (some ⟨wr.heap.size,0,none⟩) 1 1) (.string (strOfNums [y.n.name])) (wr.drew.alloc (.cells #[.int .u8 y.n.name] 5)) (by decide) (by decide) (by kernel_rfl) (by kernel_rfl) (by kernel_rfl) (by kernel_rfl) (by kernel_rfl) rfl rfl rfl rfl rfl rfl rfl rfl rfl (by simp [execOp,Act.eval,go_sem,s0]) (by simp [execOp,Act.eval,Act.put,go_sem]) (by simp [execOp,Act.eval,go_sem]) (by simp [execOp,Act.eval,Act.put,go_sem,A_s0]) (by simp [execOp,Act.eval,Act.put,hcv]) (by simp [execOp,Act.eval,Act.put,hcv]) (by simp [execOp,Act.eval,Act.put,go_sem,A_s0]) hS0 hS1 ?_;simp only [Act.put,pA,pB,pC];refine tk 15 64 (.string (A ++ strOfNums [y.n.name])) rfl (by kernel_rfl) rfl rfl (fun w' _=>by simp [execOp,Act.eval,go_sem,hadd]) hS1 ?_;simp only [Act.put,pA,pB,pC];refine tk 16 65 (.pointer (some ⟨sb,0,none⟩)) rfl (by kernel_rfl) rfl rfl (fun w' _=>by simp [execOp,Act.eval,go_sem]) hS1 ?_;simp only [Act.put,pA,pB,pC];refine do_op 17 (by kernel_rfl) rfl rfl ?_;unfold Oper.wp;simp [execOp,Act.eval,go_sem,A_s0,A_f0];refine ⟨hS2,wpAnyH_done (by kernel_rfl) (NoPanic.normal ?_) _⟩;have HZ:=hid (show (((wr.alloc (.cells #[.int .u8 y.n.name] 5)).setCell ⟨sb,0,none⟩ (.string (A ++ strOfNums [y.n.name]))).drew).heap[sb]? = _ ∧ Kp (fun _=>False) w1 ((wr.alloc (.cells #[.int .u8 y.n.name] 5)).setCell ⟨sb,0,none⟩ (.string (A ++ strOfNums [y.n.name]))).drew from And.intro (HST.out (.cells #[.int .u8 y.n.name] 5) (A ++ strOfNums [y.n.name])) hS2);generalize ((wr.alloc (.cells #[.int .u8 y.n.name] 5)).setCell ⟨sb,0,none⟩ (.string (A ++ strOfNums [y.n.name]))).drew = wz at *;clear hS0 hS1 hS2 A_s0 A_f0 hcv hadd s0 v0 c0 zc d0 d1 zd zon HST;go_wp2
   go_roundw
   case rel=>exact ⟨k + 1,by go_num,by omega,hid (by rw [HA.out];exact HZ.out.1),HZ.out.2⟩
   case measure=>simp [intOf];omega
  have hge : ¬ (k : Int) < (l.length : Int):=by omega
  obtain rfl : k = l.length:=by omega
  obtain ⟨da,hdA,hdAa⟩:=Tryz.undAs
  have hbr : wr.heap[sb]? = some (.cells (asA (Ch.asOf ol.sts m.s)) 26 (0,0)):=by
   rw [HB.out,← HPT.out];show _ = some (Obj.cells #[.string (strOfNums (Ch.actK ol.sts m.s (min ol.sts.length 16))),.string (strOfNums (Ch.pstK ol.sts m.s (min ol.sts.length 16))),.string m.s.tm,.int .i64 m.s.x,.int .i64 m.s.y,.int .i64 m.s.z] 26 (0,0));rw [show min ol.sts.length 16 = ol.sts.length by have:=hR.len;omega,hR.len]
   have : Ch.pastR ol.sts m.s = Ch.pstK ol.sts m.s l.length:=by rw [← hR.len];rfl
   rw [this]
  have hbo:=KW.at_ hb1 (fun x=>x);have HKW:=hid (K1.trans KW);have aO:=asOne (Ch.asOf ol.sts m.s);have aI : (Tryz.prog.info? 26).map (·.size) = some (asA (Ch.asOf ol.sts m.s)).size:=Tryz.sizeAs;have aS : (asA (Ch.asOf ol.sts m.s)).size = 6:=rfl;have KF : Kp (fun _=>False) w (wr.setRow ob (asA (Ch.asOf ol.sts m.s))):=HKW.out.setRow (fun x=>absurd x (by rw [hob];omega)) _;clear hX hon hso HB HX HR0;generalize hAA : asA (Ch.asOf ol.sts m.s) = AA at *;have HAA:=hid hAA;clear hAA
  go_wp2_with (first | refine wpList_load_row rfl 26 (.tmp 3) rfl sb rfl 26 AA (0,0) da hbr hdA (by cases da <;> first | rfl | exact absurd hdAa (by simp [isAggD])) aI ?_ | refine wpList_store_row rfl 26 (.tmp 2) (.tmp 66) rfl ob AA rfl rfl 26 y6S hbo aI aS.symm aO ?_)
  refine bodyPost_ret (results_cell_row rfl _ _ ob 26 AA (0,0) da rfl (setRow_heap _ _ _ _ _ _ hbo) hdA (by cases da <;> first | rfl | exact absurd hdAa (by simp [isAggD])) aI) rfl ?_;exact ⟨by rw [HAA.out],KF⟩
end
namespace Ch
def m0 (ol : Ol) : Ma:=⟨blankSd ol.sts,[],[]⟩
end Ch
theorem rf_read {t : ByteArray} {l : List NV} (h0 : (Ch.read t).1 = 0) (hN : Ch.NR (Ch.mk l) (Ch.chart t).2) (hT : Ch.TB (Ch.mk l)) : Rf l (Ch.read t).2.2:=by
 obtain ⟨hO,e,_,_⟩:=Ch.read_ols h0;have hA:=Ch.aca_of hN (Ch.chart_t0 t);have hok:=Ch.read_ok t;rw [e] at hO hok ⊢
 have at_ : ∀ (k : Nat) (x : NV),l[k]? = some x → (Ch.mk l)[k]? = some x.n:=fun k x hx=>by unfold Ch.mk;rw [List.getElem?_map,hx];rfl
 refine ⟨hN.sts,fun k x hx=>hN.trs k _ (at_ k x hx),fun k x hx=>hN.ent k _ (at_ k x hx),fun k x hx=>hN.lea k _ (at_ k x hx),hO,hA,hok,fun k x hx=>?_,fun x hx rt hr=>?_,fun k x hx=>?_⟩
 ·have:=(hN.wf k _ (at_ k x hx)).2.2.1
  unfold Ch.isNm at this;simpa using this
 ·obtain ⟨k,hk⟩:=List.getElem?_of_mem hx
  exact (hT x.n (List.mem_of_getElem? (at_ k x hk)) rt hr).1
 have:=hN.wf k _ (at_ k x hx);exact ⟨this.2.2.2.2.1,this.2.2.2.2.2.1⟩
end Go.Proofs.YtnlbchmfcebeeaaGreat
