import Derived.Test.YtnlbchmfcebeeaaGreatTOb
set_option maxHeartbeats 12800000
set_option maxRecDepth 100000
namespace Go.Proofs.YtnlbchmfcebeeaaGreat
open Go.Proofs.Tryz Ch
open Go.RowKit
namespace Ch
def r_(len n m:Nat)(o:ByteArray):Rp:=
 if m=n then {dR with ia:=(len:Int),idx:=(n:Int),text:=o}else {dR with err:=9,ia:=(len:Int)-1,idx:=(m:Int)}
end Ch
section
variable (w:World) {p:Lp} {t:ByteArray} {L:Ln} {av:Value}
theorem UW(h:h_ w p t L av)(r:Rq)(h0:0<=r.at_)(h1:r.at_≠(L.all.length:Int)-1)(hal:L.all.length<=1900000000000):
 Calls prog 86 #[.pointer (some ⟨p.wb,0,none⟩),.agg (dY r),.agg (bW {dR with err:=14,ia:=(L.all.length:Int)-1})] w λx w'=>x= .returned (.bool true)/\Kp (λ_=>False) w w':=by
 obtain⟨ao,cap,u2⟩:=aF h.row;have K1:Kp (λ_=>False) w ((w.alloc (.cells (dY r) 79)).alloc (.cells (bW {dR with err:=14,ia:=(L.all.length:Int)-1}) 64)):=((Kp.refl _ _).alloc _).alloc _
 have hb1:((w.alloc (.cells (dY r) 79)).alloc (.cells (bW {dR with err:=14,ia:=(L.all.length:Int)-1}) 64)).heap[w.heap.size]? =some (.cells (dY r) 79):=by
  rw[Below.heap_alloc _ _ _ (by simp)];exact heap_alloc_new _ _
 have hb2:((w.alloc (.cells (dY r) 79)).alloc (.cells (bW {dR with err:=14,ia:=(L.all.length:Int)-1}) 64)).heap[w.heap.size+1]? =some (.cells (bW {dR with err:=14,ia:=(L.all.length:Int)-1}) 64):=heap_alloc2_new w _ _
 have x1:((w.alloc (.cells (dY r) 79)).alloc (.cells (bW {dR with err:=14,ia:=(L.all.length:Int)-1}) 64)).cell? ⟨p.wb,1,none⟩=some (.slice ao L.all.length cap):=by rw[<-u2];exact(h.ai K1).cell 1
 have HK:=hid K1;clear K1 h u2;generalize rY:bW {dR with err:=14,ia:=(L.all.length:Int)-1}=RP at*;have my:=hid rY;generalize zx:dY r=RQ at*;have L_:=hid zx;clear rY zx
 go_enter func86,ntmps86
 go_upto_region 1 with(fail)
 generalize (w.alloc (.cells RQ 79)).alloc (.cells RP 64)=w1 at*
 have q2:w1.cell? ⟨w.heap.size,2,none⟩=some (.int .i64 r.at_):=by rw[World.cell?,hb1,<-L_.out];rfl
 have r0:w1.cell? ⟨w.heap.size+1,0,none⟩=some (.int .i64 14):=by rw[World.cell?,hb2,<-my.out];rfl
 have r1:w1.cell? ⟨w.heap.size+1,1,none⟩=some (.int .i64 ((L.all.length:Int)-1)):=by rw[World.cell?,hb2,<-my.out];rfl
 have r2:w1.cell? ⟨w.heap.size+1,2,none⟩=some (.int .i64 0):=by rw[World.cell?,hb2,<-my.out];rfl
 have r5:w1.cell? ⟨w.heap.size+1,10,none⟩=some (.string ⟨#[]⟩):=by rw[World.cell?,hb2,<-my.out];rfl
 have h1':(r.at_ !=(L.all.length:Int)-1)=true:=by simpa using h1
 clear hb1 hb2;go_wp2;go_ret;exact⟨rfl,HK.out⟩
theorem FR(h:h_ w p t L av)(r:Rq)(hat:r.at_<0\/r.at_=(L.all.length:Int)-1){a:As}(hl:L.all[L.all.length-1]? =some a)(hal:L.all.length<=1900000000000){m:Nat}{S:Nat->As}{D O:Nat->ByteArray}
 (kU:r.events.size<=1000) (Y7:m<=r.events.size) (hS0:S 0=a) (hO0:O 0=⟨#[]⟩) (hOs:∀i,O (i+1)=O i++D i) (hOb:∀i,i<=m->(O i).size<=1900000000000) (sD:L.log.size<=7700000000000000000)
 (EF:∀i,i<m->∀W,Hid (Calls prog 31 #[.string t,.agg (aN (S i)),.string (r.events.extract i (i+1))] W λx w'=>x= .returned (.tuple #[.agg (aN (S (i+1))),.string (D i),.int .i64 0])/\Kp (λ_=>False) W w'))
 (EX:m<r.events.size->∀W,Hid (Calls prog 31 #[.string t,.agg (aN (S m)),.string (r.events.extract m (m+1))] W λx w'=>x= .returned (.tuple #[.agg (aN dX),.string ⟨#[]⟩,.int .i64 9])/\Kp (λ_=>False) W w')):
 Calls prog 86 #[.pointer (some ⟨p.wb,0,none⟩),.agg (dY r),.agg (bW (r_ L.all.length r.events.size m (O m)))] w λx w'=>x= .returned (.bool true)/\xM w w' p t av (if m=r.events.size then {L with all:=L.all++[S m],log:=L.log++O m}else L):=by
 obtain⟨da,dE,bq⟩:=fN;obtain⟨i0,hi0,hz0,hz1,hz2⟩:=info_parts PK
 have hpos:0<L.all.length:=by have:=(List.getElem?_eq_some_iff.1 hl).1;omega
 obtain⟨g,cap,u2⟩:=h.rowAt hpos;subst u2;have hlow:=h.low;have K1:Kp (λ_=>False) w ((w.alloc (.cells (dY r) 79)).alloc (.cells (bW (r_ L.all.length r.events.size m (O m))) 64)):=((Kp.refl _ _).alloc _).alloc _
 have hb1:((w.alloc (.cells (dY r) 79)).alloc (.cells (bW (r_ L.all.length r.events.size m (O m))) 64)).heap[w.heap.size]? =some (.cells (dY r) 79):=by
  rw[Below.heap_alloc _ _ _ (by simp)];exact heap_alloc_new _ _
 have hb2:((w.alloc (.cells (dY r) 79)).alloc (.cells (bW (r_ L.all.length r.events.size m (O m))) 64)).heap[w.heap.size+1]? =some (.cells (bW (r_ L.all.length r.events.size m (O m))) 64):=heap_alloc2_new w _ _;have h1:=h.ai K1;have HEF:=hid (ae EF (ae EX hOs));clear h EF EX hOs;generalize rY:bW (r_ L.all.length r.events.size m (O m))=RP at*;have my:=hid rY;generalize zx:dY r=RQ at*;have L_:=hid zx;clear rY zx
 go_enter func86,ntmps86
 go_upto_region 1 with(fail)
 have hsz1:w.heap.size+1<((w.alloc (.cells RQ 79)).alloc (.cells RP 64)).heap.size:=lt_of_block hb2;generalize (w.alloc (.cells RQ 79)).alloc (.cells RP 64)=w1 at*
 have q2:w1.cell? ⟨w.heap.size,2,none⟩=some (.int .i64 r.at_):=by rw[World.cell?,hb1,<-L_.out];rfl
 have x1:w1.cell? ⟨p.wb,1,none⟩=some (.slice (some ⟨g,0,none⟩) L.all.length cap):=h1.cell 1;have xc:∀j u,(gr a)[j]? =some u->w1.cell? ⟨g,(L.all.length-1)*6+j,none⟩=some u:=h1.at_ rfl hl
 have h0l:(1:Int)<=(L.all.length:Int):=by omega
 have h0m:¬(L.all.length:Int)<=(L.all.length:Int)-1:=by omega
 have sL:(prog.info? 26).map (·.size)=some (gr a).length:=aP;have hnb:=heap_alloc_new w1 (.cells aD 26);have hx2:=setRow_heap (w1.alloc (.cells aD 26)) w1.heap.size aD (aN a) 26 (0,0) hnb;have K2:Kp (λ_=>False) w1 ((w1.alloc (.cells aD 26)).setRow w1.heap.size (aN a)):=((Kp.refl _ _).alloc _).setRow (λx=>by omega) _;have h2:=h1.ai K2;have akW:=K2.at_ hb1 (λx=>x);have akX:=K2.at_ hb2 (λx=>x);have KA:=K1.trans K2
 have yE:¬(L.all.length:Int)-1<0:=by omega
 clear K1 K2 h1 hb1 hb2
 go_upto_region 2 with(fail)
 go_cut [28]from 20 to 28 (λv wx=>v= .bool false/\wx=w1)
 case first=>
  by_cases q:0<=r.at_
  ·have q':(r.at_ !=(L.all.length:Int)-1)=false:=by simp;omega
   go_wp2_with fail
   go_meet
   exact⟨rfl,by first|rfl|trivial⟩
  go_wp2_with fail
  go_meet
  exact⟨rfl,by first|rfl|trivial⟩
 case rest=>
  obtain⟨rfl,rfl⟩:=hcut
  go_upto_region 5 with(first|refine aY rfl 26 (.tmp 53) rfl g ((L.all.length-1)*6) rfl (gr a) da xc dE bq sL ?_|refine wpList_store_row rfl 26 (.tmp 8) (.tmp 54) rfl wc.heap.size (aN a) rfl rfl 26 aD hnb aP rfl (bZ _) ?_)
  generalize (wc.alloc (.cells aD 26)).setRow wc.heap.size (aN a)=w2 at*;generalize wc.heap.size=sb at*;clear hnb x1 xc q2;have HX:=hid (ae h2 KA);clear h2 KA
  go_wp2_with fail
  go_loopw [9,10] (λov iv wr=>∃i:Nat,iv= .int .i64 i/\ov= .string (O i)/\i<=m/\wr.heap[sb]? =some (.cells (aN (S i)) 26 (0,0))/\Kp (λk=>k=sb) w2 wr) (λ_ iv _=>r.events.size-(intOf iv).toNat)
  case atStart=>exact⟨0,rfl,by rw[hO0],Nat.zero_le _,by rw[hS0];exact hx2,Kp.refl _ _⟩
  case round=>
   obtain⟨i,rfl,rfl,him,hsb,KW⟩:=hrel;have KF:Kp (λ_=>False) w wr:=HX.out.2.trans' KW (λk hk e=>by omega);have hbr:=KW.at_ akW (by show¬w.heap.size=sb;omega);have hbp:=KW.at_ akX (by show¬w.heap.size+1=sb;omega);have IY:h_ wr p t L (.slice (some ⟨g,0,none⟩) L.all.length cap):=HX.out.1.keep KW (λk hk e=>by have:=hlow k hk;omega)
   have y1:wr.cell? ⟨w.heap.size,1,none⟩=some (.string r.events):=by rw[World.cell?,hbr,<-L_.out];rfl
   have yt:wr.cell? ⟨p.wb,0,none⟩=some (.string t):=IY.cell 0;have akG:sb<wr.heap.size:=lt_of_block hsb
   by_cases hlt:i<r.events.size
   ·have hlt':(i:Int)<(r.events.size:Int):=by omega
    obtain⟨B,dd,ee,EI,hcs⟩:∃(B:As) (dd:ByteArray) (ee:Int),(∀W,Hid (Calls prog 31 #[.string t,.agg (aN (S i)),.string (r.events.extract i (i+1))] W λx w'=>x= .returned (.tuple #[.agg (aN B),.string dd,.int .i64 ee])/\Kp (λ_=>False) W w'))/\((i<m/\B=S (i+1)/\dd=D i/\ee=0)\/(i=m/\ee=9)):=by
     by_cases q:i<m
     ·exact⟨_,_,_,HEF.out.1 i q,.inl ⟨q,rfl,rfl,rfl⟩⟩
     obtain rfl:i=m:=by omega
     exact⟨_,_,_,HEF.out.2.1 hlt,.inr ⟨rfl,rfl⟩⟩
    have HEI:=hid EI
    have hsl1:(i:Int)+1<=(r.events.size:Int):=by omega
    have hle1:(i:Int)<=(i:Int)+1:=by omega
    have hwr:IntKind.i64.wrap ((i:Int)+1)=(i:Int)+1:=by rw[IntKind.wrap_i64];omega
    have HF:=hid (ae KF (ae KW IY));clear EI KF KW IY
    go_upto_region 9 with(fail)
    go_cut [11,12,13]from 62 to 77 (λq e f wx=>∃fb,q= .pointer (some ⟨fb,0,none⟩)/\e= .string dd/\f= .int .i64 ee/\wx.heap[fb]? =some (.cells (aN B) 26 (0,0))/\Kp (λ_=>False) wr wx/\wr.heap.size<=fb)
    case first=>
     have CY:wr.drew.cell? ⟨p.wb,0,none⟩=some (.string t)/\wr.drew.heap[sb]? =some (.cells (aN (S i)) 26 (0,0))/\wr.drew.cell? ⟨w.heap.size,1,none⟩=some (.string r.events):=⟨yt,hsb,y1⟩
     have pq:Kp (λ_=>False) wr wr.drew:=(Kp.refl _ _).drewN 1;refine az (λw'=>w'.cell? ⟨p.wb,0,none⟩=some (.string t)/\w'.heap[sb]? =some (.cells (aN (S i)) 26 (0,0))/\w'.cell? ⟨w.heap.size,1,none⟩=some (.string r.events)) (by kernel_rfl) ?_;refine tk 0 63 (.pointer (some ⟨p.wb,0,none⟩)) rfl (by kernel_rfl) rfl rfl (λw' _=>by simp[execOp,Act.eval,go_sem]) CY ?_;simp only[Act.put,pA,pB,pC];refine tk 1 64 (.pointer (some ⟨p.wb,0,none⟩)) rfl (by kernel_rfl) rfl rfl (λw' _=>by simp[execOp,Act.eval,go_sem]) CY ?_;simp only[Act.put,pA,pB,pC];refine tk 2 65 (.pointer (some ⟨p.wb,0,none⟩)) rfl (by kernel_rfl) rfl rfl (λw' _=>by simp[execOp,Act.eval,go_sem]) CY ?_;simp only[Act.put,pA,pB,pC];refine tk 3 66 (.string t) rfl (by kernel_rfl) rfl rfl (λw' hS=>by simp[execOp,Act.eval,go_sem,hS.1]) CY ?_;simp only[Act.put,pA,pB,pC];refine tk 4 67 (.agg (aN (S i))) rfl (by kernel_rfl) rfl rfl (λw' hS=>bu 26 (.tmp 8) rfl sb rfl 26 (aN (S i)) (0,0) da hS.2.1 dE bq aP) CY ?_;simp only[Act.put,pA,pB,pC];refine tk 5 68 (.pointer (some ⟨w.heap.size,1,none⟩)) rfl (by kernel_rfl) rfl rfl (λw' _=>by simp[execOp,Act.eval,go_sem]) CY ?_;simp only[Act.put,pA,pB,pC];refine tk 6 69 (.string r.events) rfl (by kernel_rfl) rfl rfl (λw' hS=>by simp[execOp,Act.eval,go_sem,hS.2.2]) CY ?_;simp only[Act.put,pA,pB,pC];refine tk 7 70 (.int .i64 i) rfl (by kernel_rfl) rfl rfl (λw' _=>by simp[execOp,Act.eval,go_sem]) CY ?_;simp only[Act.put,pA,pB,pC];refine tk 8 71 (.int .i64 i) rfl (by kernel_rfl) rfl rfl (λw' _=>by simp[execOp,Act.eval,go_sem]) CY ?_;simp only[Act.put,pA,pB,pC];refine tk 9 72 (.int .i64 ((i:Int)+1)) rfl (by kernel_rfl) rfl rfl (λw' _=>by simp[execOp,Act.eval,go_sem,hwr]) CY ?_;simp only[Act.put,pA,pB,pC];refine tk 10 73 (.string (r.events.extract i (i+1))) rfl (by kernel_rfl) rfl rfl (λw' _=>by simp[execOp,Act.eval,go_sem,hsl1,hle1]) CY ?_;simp only[Act.put,pA,pB,pC]
     have dG:∀W:World,Kp (λ_=>False) wr W->W.cell? ⟨p.wb,0,none⟩=some (.string t)/\W.heap[sb]? =some (.cells (aN (S i)) 26 (0,0))/\W.cell? ⟨w.heap.size,1,none⟩=some (.string r.events):=
      λW K=>⟨K.cell0 yt,K.at_ hsb (λx=>x),K.cell0 y1⟩
     refine k6 11 16 (by kernel_rfl) rfl rfl rfl rfl ?_ ?_
     ·refine bS (some 74) rfl 31 #[.string t,.agg (aN (S i)),.string (r.events.extract i (i+1))] (by simp[execOp,Act.eval,go_sem]) _ (λw'=>Kp (λ_=>False) wr.drew w') (HEI.out wr.drew).out ?_
      intro w5 K5;have KQ:=pq.trans K5;have od:=heap_alloc_new w5 (.cells aD 26);refine⟨dG _ KQ,?_⟩;refine eC 12 62 (.tuple #[.agg (aN B),.string dd,.int .i64 ee]) rfl (λw' _=>by simp[execOp,Act.eval,Act.put,go_sem]) (dG _ KQ) ?_;refine eC 13 75 (.agg (aN B)) rfl (λw' _=>by simp[execOp,Act.eval,Act.put,go_sem]) (dG _ KQ) ?_;refine eC 14 76 (.string dd) rfl (λw' _=>by simp[execOp,Act.eval,Act.put,go_sem]) (dG _ KQ) ?_;refine eC 15 77 (.int .i64 ee) rfl (λw' _=>by simp[execOp,Act.eval,Act.put,go_sem]) (dG _ KQ) ?_;refine jD 16 ?_;refine dZ (some 11) rfl (.pointer (some ⟨w5.heap.size,0,none⟩)) (w5.alloc (.cells aD 26)) (by simp[execOp,go_sem]) ?_;have K6:=KQ.alloc (.cells aD 26);have hsz:=KQ.size;have K7:=K6.setRow (g:=w5.heap.size) (λx=>by omega) (aN B);refine⟨dG _ K6,?_⟩;refine bF 17 (by kernel_rfl) rfl rfl 26 (.tmp 11) (.tmp 75) rfl rfl w5.heap.size (aN B) (by simp[Act.eval,Act.put]) (by simp[Act.eval,Act.put]) 26 aD od aP rfl (bZ _) (dG _ K7) ?_;refine eC 18 12 (.string dd) rfl (λw' _=>by simp[execOp,Act.eval,Act.put,go_sem]) (dG _ K7) ?_;refine eC 19 13 (.int .i64 ee) rfl (λw' _=>by simp[execOp,Act.eval,Act.put,go_sem]) (dG _ K7) ?_;refine wpAnyH_done (by kernel_rfl) (NoPanic.normal ?_) _;simp only[Act.put,pA,pB,pC]
      go_wp2_with fail
      go_meet
      exact⟨w5.heap.size,rfl,rfl,rfl,setRow_heap _ _ _ _ _ _ od,K7,hsz⟩
     refine dZ (some 11) rfl (.pointer (some ⟨wr.heap.size,0,none⟩)) (wr.drew.alloc (.cells aD 26)) (by simp[execOp,go_sem]) ?_;have kU:=heap_alloc_new wr.drew (.cells aD 26);have K4:=pq.alloc (.cells aD 26);refine⟨dG _ K4,?_⟩;refine jD 11 ?_;simp only[Act.put,pA,pB,pC];refine bS (some 74) rfl 31 #[.string t,.agg (aN (S i)),.string (r.events.extract i (i+1))] (by simp[execOp,Act.eval,go_sem]) _ (λw'=>Kp (λ_=>False) (wr.drew.alloc (.cells aD 26)) w') (HEI.out _).out ?_;intro w5 K5;have KQ:=K4.trans K5;have od:w5.heap[wr.heap.size]? =some (.cells aD 26 (0,0)):=K5.at_ (k:=wr.heap.size) (by exact kU) (λx=>x);have K7:=KQ.setRow (g:=wr.heap.size) (λx=>by omega) (aN B);refine⟨dG _ KQ,?_⟩;refine eC 12 62 (.tuple #[.agg (aN B),.string dd,.int .i64 ee]) rfl (λw' _=>by simp[execOp,Act.eval,Act.put,go_sem]) (dG _ KQ) ?_;refine eC 13 75 (.agg (aN B)) rfl (λw' _=>by simp[execOp,Act.eval,Act.put,go_sem]) (dG _ KQ) ?_;refine eC 14 76 (.string dd) rfl (λw' _=>by simp[execOp,Act.eval,Act.put,go_sem]) (dG _ KQ) ?_;refine eC 15 77 (.int .i64 ee) rfl (λw' _=>by simp[execOp,Act.eval,Act.put,go_sem]) (dG _ KQ) ?_;refine bF 17 (by kernel_rfl) rfl rfl 26 (.tmp 11) (.tmp 75) rfl rfl wr.heap.size (aN B) (by simp[Act.eval,Act.put]) (by simp[Act.eval,Act.put]) 26 aD od aP rfl (bZ _) (dG _ K7) ?_;refine eC 18 12 (.string dd) rfl (λw' _=>by simp[execOp,Act.eval,Act.put,go_sem]) (dG _ K7) ?_;refine eC 19 13 (.int .i64 ee) rfl (λw' _=>by simp[execOp,Act.eval,Act.put,go_sem]) (dG _ K7) ?_;refine wpAnyH_done (by kernel_rfl) (NoPanic.normal ?_) _;simp only[Act.put,pA,pB,pC]
     go_wp2_with fail
     go_meet
     exact⟨wr.heap.size,rfl,rfl,rfl,setRow_heap _ _ _ _ _ _ od,K7,Nat.le_refl _⟩
    case rest=>
     obtain⟨fb,rfl,rfl,rfl,GF,KC,akU⟩:=hcut
     rcases hcs with⟨hi,rfl,rfl,rfl⟩|⟨rfl,rfl⟩
     ·have aha:=KC.at_ hsb (λx=>x)
      have hOi:=HEF.out.2.2 i;have ho1:=hOb i (by omega);have ho2:=hOb (i+1) (by omega);rw[hOi,ByteArray.size_append]at ho2
      have hadd:=λw'=>run_string_add_sum (P:=prog) w' (O i) (D i) (by omega)
      have K8:Kp (λk=>k=sb) w2 (wc.setRow sb (aN (S (i+1)))):=(HF.out.2.1.trans' KC (λ_ _ x=>x.elim)).setRow (λ_=>rfl) _;have ahb:=setRow_heap wc sb (aN (S i)) (aN (S (i+1))) 26 (0,0) aha;have HK8:=hid (ae K8 (ae ahb hOi));clear K8 ahb KC hOi yt y1 HF HEI hbr hbp
      go_wp2_with (first|refine wpList_load_row rfl 26 (.tmp 11) rfl fb rfl 26 (aN (S (i+1))) (0,0) da GF dE (by cases da<;>first|rfl|exact absurd bq (by simp[ak])) aP ?_|refine wpList_store_row rfl 26 (.tmp 8) (.tmp 100) rfl sb (aN (S (i+1))) rfl rfl 26 (aN (S i)) aha aP rfl (bZ _) ?_)
      go_roundw
      case rel=>exact⟨i+1,by go_num,by rw[HK8.out.2.2],by omega,HK8.out.2.1,HK8.out.1⟩
      case measure=>simp[intOf];omega
     have ak1:¬i=r.events.size:=by omega
     have hbq:=KC.at_ hbp (λx=>x);have hLC:=HF.out.2.2.ai KC;have KQ:=HF.out.1.trans KC;have HZ:=hid (xM.of (w:=w) hLC (KQ.mono (λ_ _ x=>x.elim)));have HRR:=hid (my.out.symm.trans (congrArg bW (show r_ L.all.length r.events.size i (O i)={dR with err:=9,ia:=(L.all.length:Int)-1,idx:=(i:Int)}by unfold r_;rw[if_neg ak1])))
     have r0:wc.cell? ⟨w.heap.size+1,0,none⟩=some (.int .i64 9):=by rw[World.cell?,hbq,HRR.out];rfl
     have r1:wc.cell? ⟨w.heap.size+1,1,none⟩=some (.int .i64 ((L.all.length:Int)-1)):=by rw[World.cell?,hbq,HRR.out];rfl
     have r2:wc.cell? ⟨w.heap.size+1,2,none⟩=some (.int .i64 i):=by rw[World.cell?,hbq,HRR.out];rfl
     have r5:wc.cell? ⟨w.heap.size+1,10,none⟩=some (.string ⟨#[]⟩):=by rw[World.cell?,hbq,HRR.out];rfl
     clear hbq hLC KQ KC hbp hbr HF;go_wp2;go_ret;exact⟨rfl,HZ.out⟩
   have hlt':¬(i:Int)<(r.events.size:Int):=by omega
   obtain rfl:i=m:=by omega
   obtain hie:i=r.events.size:=by omega
   have hW:=IY;have GF:=hsb
   have hfl:∀k,oe p (.slice (some ⟨g,0,none⟩) L.all.length cap) k->k<sb:=λk hk=>by have:=hlow k hk;omega
   have ho1:=hOb i (Nat.le_refl _);have HRR:=hid (my.out.symm.trans (congrArg bW (show r_ L.all.length r.events.size i (O i)={dR with ia:=(L.all.length:Int),idx:=(r.events.size:Int),text:=O i}by unfold r_;rw[if_pos hie])));generalize hoo:O i=oo at*;generalize hbb:S i=b at*;have HO:=hid (ae hoo (ae hbb hie));clear hoo hbb;clear KW IY hsb yt HEF;generalize hao:(some (⟨g,0,none⟩:Addr))=ao at*
   obtain⟨mm,hmm⟩:∃mm,mm=L.all.length:=⟨_,rfl⟩
   rw[<-hmm]at hW hfl
   go_upto_region 14 with(fail)
   have hS0:wr.drew.heap[sb]? =some (.cells (aN b) 26 (0,0)):=GF;refine az (λw'=>w'.heap[sb]? =some (.cells (aN b) 26 (0,0))) (by kernel_rfl) ?_;refine aU 0 104 (.pointer (some ⟨p.wb,0,none⟩)) hS0 ?_;refine aU 1 105 (.pointer (some ⟨p.wb,0,none⟩)) hS0 ?_;refine aU 2 106 (.pointer (some ⟨p.wb,0,none⟩)) hS0 ?_;refine aU 3 107 (.pointer (some ⟨p.wb,1,none⟩)) hS0 ?_;refine dM 5 109 (.agg (aN b)) rfl (λw' hS=>bu 26 (.tmp 8) rfl sb rfl 26 (aN b) (0,0) da hS dE bq aP) hS0 ?_;have KA:Kp (λ_=>False) wr.drew (wr.drew.alloc (.cells (aN b) 26)):=(Kp.refl _ _).alloc _;have pq:Kp (λ_=>False) wr wr.drew:=(Kp.refl _ _).drewN 1;have hA:=hW.ai (pq.trans KA);have hfA:=KA.at_ hS0 (λx=>x);have x1:wr.drew.cell? ⟨p.wb,1,none⟩=some (.slice ao mm cap):=hW.cell 1;have y1:(wr.alloc (.cells (aN b) 26)).drew.cell? ⟨p.wb,1,none⟩=some (.slice ao mm cap):=hA.cell 1
   refine BC 4 6 108 110 (.slice ao mm cap) (.slice (some ⟨wr.drew.heap.size,0,none⟩) 1 1) (wr.drew.alloc (.cells (aN b) 26)) (by decide) (by kernel_rfl) (by kernel_rfl) (by kernel_rfl) rfl rfl rfl rfl rfl rfl (by simp[execOp,Act.eval,go_sem,x1])
    (ez 67 (.tmp 109) rfl 26 i0 (.agg aD) underlying67 hi0 hz0 (by omega) (by omega) (aN b) rfl (by rw[hz1];rfl))
    (ez 67 (.tmp 109) rfl 26 i0 (.agg aD) underlying67 hi0 hz0 (by omega) (by omega) (aN b) rfl (by rw[hz1];rfl))
    (by simp[execOp,Act.eval,go_sem,y1]) hS0 hfA ?_
   simp only[Act.put,pA,pB,pC];have sK:=heap_alloc_new wr.drew (.cells (aN b) 26)
   have hc6:∀j u,(gr b)[j]? =some u->(wr.drew.alloc (.cells (aN b) 26)).cell? ((⟨wr.drew.heap.size,0,none⟩:Addr).add j)=some u:=by
    intro j u hj;rw[qR,World.cell?,sK];show(aN b)[j]? =some u;rw[<-Q1,List.getElem?_toArray];exact hj
   refine jD 7 ?_;refine FQ (.tmp 108) (.tmp 110) 67 rfl 0 26 i0 (.agg aD) 6 72 underlying67 hi0 hz0 hz1 hz2 rfl (by decide) _ _ _ rfl hA.row ⟨wr.drew.heap.size,0,none⟩ 1 1 (gr b) rfl rfl hc6 (Q6 _) (by decide) ?c3 ?c4 (Nat.zero_le _) ?_
   case c3=>unfold maxLen;omega
   case c4=>omega
   intro gg cc w8 o8 g8 n8;have KG:Kp (λk=>(Value.slice ao mm cap).ownBlock=some k) (wr.drew.alloc (.cells (aN b) 26)) w8:=(Kp.refl _ _).grown g8 (λk hk _=>hk);have hrw:(Value.slice ao mm cap).ownBlock≠some p.wb:=own_ne hA.row hA.blk (by decide);have zP:=KG.at_ hA.blk hrw;have QV:w8.heap[sb]? =some (.cells (aN b) 26 (0,0)):=KG.at_ hfA (λe=>by have:=hfl _ (.inr (.inr (.inr (.inr (.inr e)))));omega);refine⟨QV,?_⟩;refine eC 8 112 (.pointer (some ⟨p.wb,0,none⟩)) rfl (λw' _=>by simp[execOp,Act.eval,go_sem,Act.put]) QV ?_;refine eC 9 113 (.pointer (some ⟨p.wb,1,none⟩)) rfl (λw' _=>by simp[execOp,Act.eval,go_sem,Act.put]) QV ?_
   have hx8:w8.cell? ⟨p.wb,1,none⟩=some (.slice ao mm cap):=by rw[World.cell?,zP];rfl
   have hz8:w8.frozen? ⟨p.wb,1,none⟩=false:=by simp[World.frozen?,zP]
   have KS:Kp (λk=>k=p.wb) w8 (w8.setCell ⟨p.wb,1,none⟩ (.slice (some ⟨gg,0,none⟩) (L.all.length+1) cc)):=(Kp.refl (λk=>k=p.wb) w8).setCell (p:=⟨p.wb,1,none⟩) (λ_=>rfl) _;have hf9:(w8.setCell ⟨p.wb,1,none⟩ (.slice (some ⟨gg,0,none⟩) (L.all.length+1) cc)).heap[sb]? =some (.cells (aN b) 26 (0,0)):=KS.at_ QV (λe=>by have:=hfl _ (.inl rfl);omega);have KR:Kp (oe p (.slice ao mm cap)) wr w8:=((pq.trans KA).mono (λ_ _ x=>x.elim)).trans' KG (λi _ x=>.inr (.inr (.inr (.inr (.inr x)))));have K9:Kp (oe p (.slice ao mm cap)) wr (w8.setCell ⟨p.wb,1,none⟩ (.slice (some ⟨gg,0,none⟩) (L.all.length+1) cc)):=KR.trans' KS (λi _ x=>.inl x);have h9:h_ (w8.setCell ⟨p.wb,1,none⟩ (.slice (some ⟨gg,0,none⟩) (L.all.length+1) cc)) p t {L with all:=L.all++[b]} (.slice (some ⟨gg,0,none⟩) (L.all.length+1) cc):=hA.snoc KG o8
   have n9:∀k,(Value.slice (some ⟨gg,0,none⟩) (L.all.length+1) cc).ownBlock=some k->(Value.slice ao mm cap).ownBlock=some k\/wr.heap.size<=k:=by
    intro k e
    obtain rfl:gg=k:=by simpa[Value.ownBlock]using e
    exact n8.imp id (Nat.le_trans (pq.trans KA).size)
   refine jD 10 ?_;unfold Oper.wp;simp only[execOp,Act.eval,Act.put];simp[go_sem,hx8,hz8];refine⟨hf9,?_⟩;refine wpAnyH_done (by kernel_rfl) (NoPanic.normal ?_) _;clear hS0 KA pq hA hfA x1 y1 sK hc6 o8 g8 n8 KG hrw zP QV hx8 hz8 KS KR;generalize w8.setCell ⟨p.wb,1,none⟩ (.slice (some ⟨gg,0,none⟩) (L.all.length+1) cc)=w9 at*;have Qu:w9.heap[w.heap.size+1]? =some (.cells RP 64 (0,0)):=K9.at_ hbp (λx=>by subst hmm;subst hao;have:=hlow _ x;omega);have hq9:w9.heap[w.heap.size]? =some (.cells RQ 79 (0,0)):=K9.at_ hbr (λx=>by subst hmm;subst hao;have:=hlow _ x;omega);have y2:w9.cell? ⟨p.wb,2,none⟩=some (.string L.log):=h9.cell 2;have f2:=h9.free 2
   have hadd:=λw'=>run_string_add_sum (P:=prog) w' L.log oo (by omega)
   have h10:=h9.Yz (L.log++oo);have tF:Kp (oe p (.slice ao mm cap)) wr (w9.setCell ⟨p.wb,2,none⟩ (.string (L.log++oo))):=K9.setCell (p:=⟨p.wb,2,none⟩) (λ_=>.inl rfl) _;have hwb:=hlow p.wb (.inl rfl)
   have CX:(w9.setCell ⟨p.wb,2,none⟩ (.string (L.log++oo))).heap[w.heap.size+1]? =some (.cells RP 64 (0,0)):=by
    rw[Below.heap_setCell _ _ _ _ (by show w.heap.size+1≠p.wb;omega)];exact Qu
   have ahc:(w9.setCell ⟨p.wb,2,none⟩ (.string (L.log++oo))).heap[w.heap.size]? =some (.cells RQ 79 (0,0)):=by
    rw[Below.heap_setCell _ _ _ _ (by show w.heap.size≠p.wb;omega)];exact hq9
   have HQ:=hid (xM.trans (p:=p) (KF.mono (λ_ _ x=>x.elim)) (λ_ e=>.inl e) ⟨_,h10,n9,tF⟩);clear h9 n9 K9 h10 tF hW hfl GF KF hbr hbp y1 hwb;generalize hLO:L.log++oo=LO at*;have HLO:=hid hLO;clear hLO
   go_upto_region 16 with(fail)
   generalize w9.setCell ⟨p.wb,2,none⟩ (.string LO)=pe at*
   have r0:pe.cell? ⟨w.heap.size+1,0,none⟩=some (.int .i64 0):=by rw[World.cell?,CX,HRR.out];rfl
   have r1:pe.cell? ⟨w.heap.size+1,1,none⟩=some (.int .i64 L.all.length):=by rw[World.cell?,CX,HRR.out];rfl
   have r2:pe.cell? ⟨w.heap.size+1,2,none⟩=some (.int .i64 r.events.size):=by rw[World.cell?,CX,HRR.out];rfl
   have r5:pe.cell? ⟨w.heap.size+1,10,none⟩=some (.string oo):=by rw[World.cell?,CX,HRR.out];rfl
   have s1:pe.cell? ⟨w.heap.size,1,none⟩=some (.string r.events):=by rw[World.cell?,ahc,<-L_.out];rfl
   clear CX Qu hq9 ahc y2 f2 hadd;go_wp2;go_ret;rw[hmm]at HQ;exact⟨rfl,by rw[<-HO.out.2.2,HO.out.1,HO.out.2.1,HLO.out];exact HQ.out⟩
end
end Go.Proofs.YtnlbchmfcebeeaaGreat
