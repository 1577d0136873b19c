import Derived.Test.YtnlbchmfcebeeaaGreatTY5
import Derived.Test.YtnlbchmfcebeeaaGreatTY2
import Derived.Test.YtnlbchmfcebeeaaGreatTZr
set_option maxHeartbeats 12800000
set_option maxRecDepth 100000
namespace Go.Proofs.YtnlbchmfcebeeaaGreat
open Go.RowKit
section
variable (w : World) (wb : Nat)
theorem works_wait_any (o : OpV) (hk : o.kind = 6) (hsm : o.Sm) :
 Calls Tryz.prog 65 #[.agg (opA o)] w fun x w'=>x = .returned (.bool true) ∧ Kp (fun _=>False) w w':=by
 have hb1:=heap_alloc_new w (.cells (opA o) 81);have K1 : Kp (fun _=>False) w (w.alloc (.cells (opA o) 81)):=(Kp.refl _ _).alloc _;obtain ⟨da,hdA,hdAa⟩:=Tryz.undAs;have hsm':=hsm.as
 go_enter Tryz.func65,Tryz.ntmps65
 go_upto_region 1 with (fail)
 generalize w.alloc (.cells (opA o) 81) = w1 at *;generalize w.heap.size = ob at *
 have c0 : w1.cell? ⟨ob,0,none⟩ = some (.int .i64 6):=by rw [World.cell?,hb1,← hk];rfl
 have c1 : w1.cell? ⟨ob,1,none⟩ = some (.string o.t):=by rw [World.cell?,hb1];rfl
 have c2 : w1.cell? ⟨ob,2,none⟩ = some (.string o.e):=by rw [World.cell?,hb1];rfl
 have hsz : (Tryz.prog.info? 26).map (·.size) = some (asL o.s).length:=Tryz.sizeAs;have cs:=asL_cells hb1;have E1:=hid (cWait_any w1 17 (by omega) o.t o.s hsm' (fun h=>Ch.wait17 h))
 go_wp2_with (refine wpList_load_part rfl 26 (.tmp 120) rfl ob 3 rfl (asL o.s) da cs hdA hdAa hsz ?_)
 refine hm E1 ?_;rintro x w2 ⟨rfl,K2⟩;have hb2:=K2.at_ hb1 (fun x=>x);have aO:=asOne (Ch.cWait 17 o.t o.s).1;have aI : (Tryz.prog.info? 26).map (·.size) = some (asA (Ch.cWait 17 o.t o.s).1).size:=Tryz.sizeAs;have aS : (asA (Ch.cWait 17 o.t o.s).1).size = 6:=rfl
 have ES:=fun W=>hid (same_any W (Ch.cWait 17 o.t o.s).1)
 have E2:=fun W=>hid (rWait_any W o.t o.s hsm')
 generalize hAA : asA (Ch.cWait 17 o.t o.s).1 = AA at *;generalize (Ch.cWait 17 o.t o.s).2.1 = so at *;generalize (Ch.cWait 17 o.t o.s).2.2 = se at *;clear hAA E1 c0 c1 c2 cs;have n2:=heap_alloc_new w2 (.cells y6S 26);have K3 : Kp (fun _=>False) w2 ((w2.alloc (.cells y6S 26)).setRow w2.heap.size AA):=((Kp.refl _ _).alloc _).setRow (fun x=>by omega) _;have r3:=setRow_heap (w2.alloc (.cells y6S 26)) w2.heap.size y6S AA 26 (0,0) n2;have hb3:=K3.at_ hb2 (fun x=>x);have HK:=hid ((K1.trans K2).trans K3)
 go_upto_region 17 with (refine wpList_store_row rfl 26 (.tmp 19) (.tmp 123) rfl w2.heap.size AA rfl rfl 26 y6S n2 aI aS.symm aO ?_)
 generalize (w2.alloc (.cells y6S 26)).setRow w2.heap.size AA = w3 at *;generalize w2.heap.size = b5 at *
 have c1 : w3.cell? ⟨ob,1,none⟩ = some (.string o.t):=by rw [World.cell?,hb3];rfl
 have c2 : w3.cell? ⟨ob,2,none⟩ = some (.string o.e):=by rw [World.cell?,hb3];rfl
 have cs:=asL_cells hb3;clear n2 K3 K2 hb2 hb1 hb3 K1;have E3:=E2 w3
 go_wp2_with (refine wpList_load_part rfl 26 (.tmp 129) rfl ob 3 rfl (asL o.s) da cs hdA hdAa hsz ?_)
 refine hm E3 ?_;rintro x w4 ⟨rfl,K4⟩;have r4:=K4.at_ r3 (fun x=>x);have n4:=heap_alloc_new w4 (.cells y6S 26);have K5 : Kp (fun _=>False) w4 ((w4.alloc (.cells y6S 26)).setRow w4.heap.size AA):=((Kp.refl _ _).alloc _).setRow (fun x=>by omega) _;have q5:=setRow_heap (w4.alloc (.cells y6S 26)) w4.heap.size y6S AA 26 (0,0) n4;have r5:=K5.at_ r4 (fun x=>x);have HK5:=hid ((HK.out.trans K4).trans K5);clear E3 E2 c1 c2 cs r3 K4 K5 HK r4
 go_upto_region 18 with (refine wpList_store_row rfl 26 (.tmp 22) (.tmp 132) rfl w4.heap.size AA rfl rfl 26 y6S n4 aI aS.symm aO ?_)
 generalize (w4.alloc (.cells y6S 26)).setRow w4.heap.size AA = w5 at *;generalize w4.heap.size = b8 at *;clear n4;have E5:=ES w5
 go_wp2_with (first | refine wpList_load_row rfl 26 (.tmp 19) rfl b5 rfl 26 AA (0,0) da r5 hdA (by cases da <;> first | rfl | exact absurd hdAa (by simp [isAggD])) aI ?_ | refine wpList_load_row rfl 26 (.tmp 22) rfl b8 rfl 26 AA (0,0) da q5 hdA (by cases da <;> first | rfl | exact absurd hdAa (by simp [isAggD])) aI ?_)
 refine hm E5 ?_;rintro x w6 ⟨rfl,K6⟩;have HK6:=hid (HK5.out.trans K6);have E6:=hid (num_any w6 se);clear E5 ES K6 HK5 r5 q5
 go_wp2_with fail
 refine hm E6 ?_;rintro x w7 ⟨rfl,e7⟩;rw [e7];clear e7 w7
 go_wp2_with fail
 refine hm E6 ?_;rintro x w7 ⟨rfl,e7⟩;rw [e7];clear e7 w7;go_wp2;go_ret;exact ⟨rfl,HK6.out⟩
theorem step_wait_any (o : OpV) (hk : o.kind = 6) (hsm : o.Sm) :
 Calls Tryz.prog 39 #[.pointer (some ⟨wb,0,none⟩),.agg (opA o)] w fun x w'=>x = .returned (.bool true) ∧ Kp (fun _=>False) w w':=by
 obtain ⟨d,hd,hda⟩:=Tryz.undOp;have hb1:=heap_alloc_new w (.cells (opA o) 81);have K1 : Kp (fun _=>False) w (w.alloc (.cells (opA o) 81)):=(Kp.refl _ _).alloc _;have E:=hid (works_wait_any (w.alloc (.cells (opA o) 81)) o hk hsm)
 have hk0 : (opA o)[0]? = some (.int .i64 6):=by rw [← hk];rfl
 have hsz:=opA_size o;generalize opA o = OA at *
 have aI : (Tryz.prog.info? 81).map (·.size) = some OA.size:=by rw [hsz];exact Tryz.sizeOp
 go_enter Tryz.func39,Tryz.ntmps39
 go_upto_region 1 with (fail)
 generalize w.alloc (.cells OA 81) = w1 at *;generalize w.heap.size = ob at *
 have c0 : w1.cell? ⟨ob,0,none⟩ = some (.int .i64 6):=by rw [World.cell?,hb1];exact hk0
 go_wp2_with (refine wpList_load_row rfl 81 (.tmp 3) rfl ob rfl 81 OA (0,0) d hb1 hd (by cases d <;> first | rfl | exact absurd hda (by simp [isAggD])) aI ?_)
 refine hm E ?_;rintro x w2 ⟨rfl,K2⟩;go_wp2;go_ret;exact ⟨rfl,K1.trans K2⟩
theorem waits_any (v : Value) (ops : List OpV) (hs : ScR w v ops) (hl : ops.length ≤ maxLen) (hsm : ∀ o ∈ ops,o.Sm) :
 Calls Tryz.prog 10 #[v] w fun x w'=>x = .returned (.bool true) ∧ Kp (fun _=>False) w w':=by
 have E:=hid (plays_any w v ops 6 6 (WlZ w.heap.size) hs hl (heap_alloc_new w _)
  (fun W o ho h1 h2 hW _=>(step_wait_any W w.heap.size o (by omega) (hsm o ho)).mono (fun x W' ⟨hx,hk⟩=>⟨hx,hk.at_ hW (fun x=>x),hk.mono (fun _ _ x=>x.elim)⟩))
  (fun W hW _=>(ends_none_any W w.heap.size hW).mono (fun x W' ⟨hx,hk⟩=>by subst hk;exact ⟨hx,hW,Kp.refl _ _⟩))
  (fun W hW _=>(looks_none_any W w.heap.size hW).mono (fun x W' ⟨hx,hk⟩=>by subst hk;exact ⟨hx,Kp.refl _ _⟩)))
 go_enter Tryz.func10,Tryz.ntmps10
 go_wp2_with fail
 refine hm E ?_;rintro x w2 ⟨rfl,K⟩;go_wp2;go_ret;exact ⟨rfl,K⟩
end
end Go.Proofs.YtnlbchmfcebeeaaGreat
