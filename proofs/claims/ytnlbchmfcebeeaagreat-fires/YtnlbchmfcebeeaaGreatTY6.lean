import Derived.Test.YtnlbchmfcebeeaaGreatTY5
import Derived.Test.YtnlbchmfcebeeaaGreatTZp
set_option maxHeartbeats 12800000
set_option maxRecDepth 100000
namespace Go.Proofs.YtnlbchmfcebeeaaGreat
open Go.Proofs.Tryz Ch
open Go.RowKit
section
variable (w:World) (wb:Nat)
theorem CG(o:qX)(hk:o.kind=5)(hsm:o.Sm):
 Calls prog 65 #[.agg (jR o)] w λx w'=>x= .returned (.bool true)/\Kp (λ_=>False) w w':=by
 have hb1:=heap_alloc_new w (.cells (jR o) 81);have K1:Kp (λ_=>False) w (w.alloc (.cells (jR o) 81)):=(Kp.refl _ _).alloc _;obtain⟨da,dE,bq⟩:=fN;have Lg:=hsm.as
 go_enter func65,ntmps65
 go_upto_region 1 with(fail)
 generalize w.alloc (.cells (jR o) 81)=w1 at*;generalize w.heap.size=ob at*
 have c0:w1.cell? ⟨ob,0,none⟩=some (.int .i64 5):=by rw[World.cell?,hb1,<-hk];rfl
 have c1:w1.cell? ⟨ob,1,none⟩=some (.string o.t):=by rw[World.cell?,hb1];rfl
 have c2:w1.cell? ⟨ob,2,none⟩=some (.string o.e):=by rw[World.cell?,hb1];rfl
 have hsz:(prog.info? 26).map (·.size)=some (Y4 o.s).length:=aP;have cs:=ns hb1;have E1:=hid (mV w1 o.t o.s o.e Lg)
 go_wp2_with (refine aY rfl 26 (.tmp 82) rfl ob 3 rfl (Y4 o.s) da cs dE bq hsz ?_)
 refine hm E1 ?_;rintro x w2 ⟨rfl,K2⟩;have hb2:=K2.at_ hb1 (λx=>x);have aO:=bZ (qM o.t o.s o.e).1;have aI:(prog.info? 26).map (·.size)=some (aN (qM o.t o.s o.e).1).size:=aP;have aS:(aN (qM o.t o.s o.e).1).size=6:=rfl;rw[XP]
 have ES:=λW=>hid (gH W (qM o.t o.s o.e).1)
 have E2:=λW=>hid (Um W o.t o.s o.e Lg)
 generalize kQ:aN (qM o.t o.s o.e).1=AA at*;generalize (qM o.t o.s o.e).2.1=so at*;generalize (qM o.t o.s o.e).2.2=se at*;clear kQ E1 c0 c1 c2 cs;have n2:=heap_alloc_new w2 (.cells aD 26);have K3:Kp (λ_=>False) w2 ((w2.alloc (.cells aD 26)).setRow w2.heap.size AA):=((Kp.refl _ _).alloc _).setRow (λx=>by omega) _;have r3:=setRow_heap (w2.alloc (.cells aD 26)) w2.heap.size aD AA 26 (0,0) n2;have hb3:=K3.at_ hb2 (λx=>x);have HK:=hid ((K1.trans K2).trans K3)
 go_upto_region 13 with(refine wpList_store_row rfl 26 (.tmp 12) (.tmp 87) rfl w2.heap.size AA rfl rfl 26 aD n2 aI aS.symm aO ?_)
 generalize (w2.alloc (.cells aD 26)).setRow w2.heap.size AA=w3 at*;generalize w2.heap.size=b5 at*
 have c1:w3.cell? ⟨ob,1,none⟩=some (.string o.t):=by rw[World.cell?,hb3];rfl
 have c2:w3.cell? ⟨ob,2,none⟩=some (.string o.e):=by rw[World.cell?,hb3];rfl
 have cs:=ns hb3;clear n2 K3 K2 hb2 hb1 hb3 K1;have E3:=E2 w3
 go_wp2_with (refine aY rfl 26 (.tmp 93) rfl ob 3 rfl (Y4 o.s) da cs dE bq hsz ?_)
 refine hm E3 ?_;rintro x w4 ⟨rfl,K4⟩;have r4:=K4.at_ r3 (λx=>x);have n4:=heap_alloc_new w4 (.cells aD 26);have K5:Kp (λ_=>False) w4 ((w4.alloc (.cells aD 26)).setRow w4.heap.size AA):=((Kp.refl _ _).alloc _).setRow (λx=>by omega) _;have q5:=setRow_heap (w4.alloc (.cells aD 26)) w4.heap.size aD AA 26 (0,0) n4;have r5:=K5.at_ r4 (λx=>x);have rL:=hid ((HK.out.trans K4).trans K5);clear E3 E2 c1 c2 cs r3 K4 K5 HK r4
 go_upto_region 14 with(refine wpList_store_row rfl 26 (.tmp 15) (.tmp 98) rfl w4.heap.size AA rfl rfl 26 aD n4 aI aS.symm aO ?_)
 generalize (w4.alloc (.cells aD 26)).setRow w4.heap.size AA=w5 at*;generalize w4.heap.size=b8 at*;clear n4;have E5:=ES w5
 go_wp2_with (first|refine wpList_load_row rfl 26 (.tmp 12) rfl b5 rfl 26 AA (0,0) da r5 dE (by cases da<;>first|rfl|exact absurd bq (by simp[ak])) aI ?_|refine wpList_load_row rfl 26 (.tmp 15) rfl b8 rfl 26 AA (0,0) da q5 dE (by cases da<;>first|rfl|exact absurd bq (by simp[ak])) aI ?_)
 refine hm E5 ?_;rintro x w6 ⟨rfl,K6⟩;have HK6:=hid (rL.out.trans K6);have E6:=hid (uL w6 se);clear E5 ES K6 rL r5 q5
 go_wp2_with fail
 refine hm E6 ?_;rintro x w7 ⟨rfl,e7⟩;rw[e7];clear e7 w7
 go_wp2_with fail
 refine hm E6 ?_;rintro x w7 ⟨rfl,e7⟩;rw[e7];clear e7 w7;go_wp2;go_ret;exact⟨rfl,HK6.out⟩
theorem DO(o:qX)(hk:o.kind=5)(hsm:o.Sm):
 Calls prog 39 #[.pointer (some ⟨wb,0,none⟩),.agg (jR o)] w λx w'=>x= .returned (.bool true)/\Kp (λ_=>False) w w':=by
 obtain⟨d,hd,eY⟩:=zm;have hb1:=heap_alloc_new w (.cells (jR o) 81);have K1:Kp (λ_=>False) w (w.alloc (.cells (jR o) 81)):=(Kp.refl _ _).alloc _;have E:=hid (CG (w.alloc (.cells (jR o) 81)) o hk hsm)
 have hk0:(jR o)[0]? =some (.int .i64 5):=by rw[<-hk];rfl
 have hsz:=qH o;generalize jR o=OA at*
 have aI:(prog.info? 81).map (·.size)=some OA.size:=by rw[hsz];exact tR
 go_enter func39,ntmps39
 go_upto_region 1 with(fail)
 generalize w.alloc (.cells OA 81)=w1 at*;generalize w.heap.size=ob at*
 have c0:w1.cell? ⟨ob,0,none⟩=some (.int .i64 5):=by rw[World.cell?,hb1];exact hk0
 go_wp2_with (refine wpList_load_row rfl 81 (.tmp 3) rfl ob rfl 81 OA (0,0) d hb1 hd (by cases d<;>first|rfl|exact absurd eY (by simp[ak])) aI ?_)
 refine hm E ?_;rintro x w2 ⟨rfl,K2⟩;go_wp2;go_ret;exact⟨rfl,K1.trans K2⟩
theorem Uu(v:Value)(ops:List qX)(hs:Mp w v ops)(hl:ops.length<=maxLen)(hsm:∀o∈ops,o.Sm):
 Calls prog 7 #[v] w λx w'=>x= .returned (.bool true)/\Kp (λ_=>False) w w':=by
 have E:=hid (qJ w v ops 5 5 (WlZ w.heap.size) hs hl (heap_alloc_new w _)
  (λW o ho h1 h2 hW _=>(DO W w.heap.size o (by omega) (hsm o ho)).mono (λx W' ⟨hx,hk⟩=>⟨hx,hk.at_ hW (λx=>x),hk.mono (λ_ _ x=>x.elim)⟩))
  (λW hW _=>(jO W w.heap.size hW).mono (λx W' ⟨hx,hk⟩=>by subst hk;exact⟨hx,hW,Kp.refl _ _⟩))
  (λW hW _=>(jr W w.heap.size hW).mono (λx W' ⟨hx,hk⟩=>by subst hk;exact⟨hx,Kp.refl _ _⟩)))
 go_enter func7,ntmps7
 go_wp2_with fail
 refine hm E ?_;rintro x w2 ⟨rfl,K⟩;go_wp2;go_ret;exact⟨rfl,K⟩
end
end Go.Proofs.YtnlbchmfcebeeaaGreat
