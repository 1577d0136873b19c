import Derived.Test.YtnlbchmfcebeeaaGreatTY1
set_option maxHeartbeats 12800000
set_option maxRecDepth 100000
namespace Go.Proofs.YtnlbchmfcebeeaaGreat
open Go.Proofs.Tryz Ch
open Go.RowKit
section
variable (w:World) (wb:Nat)
theorem gH(a:As):
 Calls prog 99 #[.agg (aN a),.agg (aN a)] w λx w'=>x= .returned (.bool true)/\Kp (λ_=>False) w w':=by
 have K1:Kp (λ_=>False) w ((w.alloc (.cells (aN a) 26)).alloc (.cells (aN a) 26)):=((Kp.refl _ _).alloc _).alloc _
 have hb1:((w.alloc (.cells (aN a) 26)).alloc (.cells (aN a) 26)).heap[w.heap.size]? =some (.cells (aN a) 26):=by rw[Below.heap_alloc _ _ _ (by simp)];exact heap_alloc_new _ _
 have hb2:((w.alloc (.cells (aN a) 26)).alloc (.cells (aN a) 26)).heap[w.heap.size+1]? =some (.cells (aN a) 26):=by
  have:=heap_alloc_new (w.alloc (.cells (aN a) 26)) (.cells (aN a) 26);simpa using this
 go_enter func99,ntmps99
 go_upto_region 1 with(fail)
 generalize (w.alloc (.cells (aN a) 26)).alloc (.cells (aN a) 26)=w1 at*;generalize w.heap.size=ob at*
 have c0:w1.cell? ⟨ob,0,none⟩=some (.string a.act):=by rw[World.cell?,hb1];rfl
 have d0:w1.cell? ⟨ob+1,0,none⟩=some (.string a.act):=by rw[World.cell?,hb2];rfl
 have c1:w1.cell? ⟨ob,1,none⟩=some (.string a.past):=by rw[World.cell?,hb1];rfl
 have d1:w1.cell? ⟨ob+1,1,none⟩=some (.string a.past):=by rw[World.cell?,hb2];rfl
 have c2:w1.cell? ⟨ob,2,none⟩=some (.string a.tm):=by rw[World.cell?,hb1];rfl
 have d2:w1.cell? ⟨ob+1,2,none⟩=some (.string a.tm):=by rw[World.cell?,hb2];rfl
 have c3:w1.cell? ⟨ob,3,none⟩=some (.int .i64 a.x):=by rw[World.cell?,hb1];rfl
 have d3:w1.cell? ⟨ob+1,3,none⟩=some (.int .i64 a.x):=by rw[World.cell?,hb2];rfl
 have c4:w1.cell? ⟨ob,4,none⟩=some (.int .i64 a.y):=by rw[World.cell?,hb1];rfl
 have d4:w1.cell? ⟨ob+1,4,none⟩=some (.int .i64 a.y):=by rw[World.cell?,hb2];rfl
 have c5:w1.cell? ⟨ob,5,none⟩=some (.int .i64 a.z):=by rw[World.cell?,hb1];rfl
 have d5:w1.cell? ⟨ob+1,5,none⟩=some (.int .i64 a.z):=by rw[World.cell?,hb2];rfl
 clear hb1 hb2;go_wp2;go_ret;exact⟨rfl,K1⟩
theorem zR(o:qX)(hk:o.kind=4):
 Calls prog 65 #[.agg (jR o)] w λx w'=>x= .returned (.bool true)/\Kp (λ_=>False) w w':=by
 have hb1:=heap_alloc_new w (.cells (jR o) 81);have K1:Kp (λ_=>False) w (w.alloc (.cells (jR o) 81)):=(Kp.refl _ _).alloc _
 go_enter func65,ntmps65
 go_upto_region 1 with(fail)
 generalize w.alloc (.cells (jR o) 81)=w1 at*;generalize w.heap.size=ob at*
 have c0:w1.cell? ⟨ob,0,none⟩=some (.int .i64 4):=by rw[World.cell?,hb1,<-hk];rfl
 have c1:w1.cell? ⟨ob,1,none⟩=some (.string o.t):=by rw[World.cell?,hb1];rfl
 have E1:=hid (jX w1 o.t)
 go_wp2_with fail
 refine hm E1 ?_;rintro x w2 ⟨rfl,K2⟩;have hb2:=K2.at_ hb1 (λx=>x);have aO:=bZ (lC o.t).1;have aI:(prog.info? 26).map (·.size)=some (aN (lC o.t).1).size:=aP;have aS:(aN (lC o.t).1).size=6:=rfl;obtain⟨da,dE,bq⟩:=fN;rw[Uk]
 have ES:=λW=>hid (gH W (lC o.t).1)
 have E2:=λW=>hid (OT W o.t)
 generalize kQ:aN (lC o.t).1=AA at*;generalize (lC o.t).2.1=so at*;generalize (lC o.t).2.2=se at*;clear kQ E1 c0 c1;have n2:=heap_alloc_new w2 (.cells aD 26);have K3:Kp (λ_=>False) w2 ((w2.alloc (.cells aD 26)).setRow w2.heap.size AA):=((Kp.refl _ _).alloc _).setRow (λx=>by omega) _;have r3:=setRow_heap (w2.alloc (.cells aD 26)) w2.heap.size aD AA 26 (0,0) n2;have hb3:=K3.at_ hb2 (λx=>x);have HK:=hid ((K1.trans K2).trans K3)
 go_upto_region 8 with(refine wpList_store_row rfl 26 (.tmp 5) (.tmp 51) rfl w2.heap.size AA rfl rfl 26 aD n2 aI aS.symm aO ?_)
 generalize (w2.alloc (.cells aD 26)).setRow w2.heap.size AA=w3 at*;generalize w2.heap.size=b5 at*
 have c1:w3.cell? ⟨ob,1,none⟩=some (.string o.t):=by rw[World.cell?,hb3];rfl
 clear n2 K3 K2 hb2 hb1 hb3 K1;have E3:=E2 w3
 go_wp2_with fail
 refine hm E3 ?_;rintro x w4 ⟨rfl,K4⟩;have r4:=K4.at_ r3 (λx=>x);have n4:=heap_alloc_new w4 (.cells aD 26);have K5:Kp (λ_=>False) w4 ((w4.alloc (.cells aD 26)).setRow w4.heap.size AA):=((Kp.refl _ _).alloc _).setRow (λx=>by omega) _;have q5:=setRow_heap (w4.alloc (.cells aD 26)) w4.heap.size aD AA 26 (0,0) n4;have r5:=K5.at_ r4 (λx=>x);have rL:=hid ((HK.out.trans K4).trans K5);clear E3 E2 c1 r3 K4 K5 HK r4
 go_upto_region 9 with(refine wpList_store_row rfl 26 (.tmp 8) (.tmp 58) rfl w4.heap.size AA rfl rfl 26 aD n4 aI aS.symm aO ?_)
 generalize (w4.alloc (.cells aD 26)).setRow w4.heap.size AA=w5 at*;generalize w4.heap.size=b8 at*;clear n4;have E5:=ES w5
 go_wp2_with (first|refine wpList_load_row rfl 26 (.tmp 5) rfl b5 rfl 26 AA (0,0) da r5 dE (by cases da<;>first|rfl|exact absurd bq (by simp[ak])) aI ?_|refine wpList_load_row rfl 26 (.tmp 8) rfl b8 rfl 26 AA (0,0) da q5 dE (by cases da<;>first|rfl|exact absurd bq (by simp[ak])) aI ?_)
 refine hm E5 ?_;rintro x w6 ⟨rfl,K6⟩;have HK6:=hid (rL.out.trans K6);have E6:=hid (uL w6 se);clear E5 ES K6 rL r5 q5
 go_wp2_with fail
 refine hm E6 ?_;rintro x w7 ⟨rfl,e7⟩;rw[e7];clear e7 w7
 go_wp2_with fail
 refine hm E6 ?_;rintro x w7 ⟨rfl,e7⟩;rw[e7];clear e7 w7;go_wp2;go_ret;exact⟨rfl,HK6.out⟩
theorem CF(o:qX)(hk:o.kind=4):
 Calls prog 39 #[.pointer (some ⟨wb,0,none⟩),.agg (jR o)] w λx w'=>x= .returned (.bool true)/\Kp (λ_=>False) w w':=by
 obtain⟨d,hd,eY⟩:=zm;have hb1:=heap_alloc_new w (.cells (jR o) 81);have K1:Kp (λ_=>False) w (w.alloc (.cells (jR o) 81)):=(Kp.refl _ _).alloc _;have E:=hid (zR (w.alloc (.cells (jR o) 81)) o hk)
 have hk0:(jR o)[0]? =some (.int .i64 4):=by rw[<-hk];rfl
 have hsz:=qH o;generalize jR o=OA at*
 have aI:(prog.info? 81).map (·.size)=some OA.size:=by rw[hsz];exact tR
 go_enter func39,ntmps39
 go_upto_region 1 with(fail)
 generalize w.alloc (.cells OA 81)=w1 at*;generalize w.heap.size=ob at*
 have c0:w1.cell? ⟨ob,0,none⟩=some (.int .i64 4):=by rw[World.cell?,hb1];exact hk0
 go_wp2_with (refine wpList_load_row rfl 81 (.tmp 3) rfl ob rfl 81 OA (0,0) d hb1 hd (by cases d<;>first|rfl|exact absurd eY (by simp[ak])) aI ?_)
 refine hm E ?_;rintro x w2 ⟨rfl,K2⟩;go_wp2;go_ret;exact⟨rfl,K1.trans K2⟩
theorem O9(v:Value)(ops:List qX)(hs:Mp w v ops)(hl:ops.length<=maxLen):
 Calls prog 6 #[v] w λx w'=>x= .returned (.bool true)/\Kp (λ_=>False) w w':=by
 have E:=hid (qJ w v ops 4 4 (WlZ w.heap.size) hs hl (heap_alloc_new w _)
  (λW o _ h1 h2 hW _=>(CF W w.heap.size o (by omega)).mono (λx W' ⟨hx,hk⟩=>⟨hx,hk.at_ hW (λx=>x),hk.mono (λ_ _ x=>x.elim)⟩))
  (λW hW _=>(jO W w.heap.size hW).mono (λx W' ⟨hx,hk⟩=>by subst hk;exact⟨hx,hW,Kp.refl _ _⟩))
  (λW hW _=>(jr W w.heap.size hW).mono (λx W' ⟨hx,hk⟩=>by subst hk;exact⟨hx,Kp.refl _ _⟩)))
 go_enter func6,ntmps6
 go_wp2_with fail
 refine hm E ?_;rintro x w2 ⟨rfl,K⟩;go_wp2;go_ret;exact⟨rfl,K⟩
end
end Go.Proofs.YtnlbchmfcebeeaaGreat
