import Derived.Test.YtnlbchmfcebeeaaGreatTOc
import Derived.Test.YtnlbchmfcebeeaaGreatTJa
set_option maxHeartbeats 12800000
set_option maxRecDepth 100000
namespace Go.Proofs.YtnlbchmfcebeeaaGreat
open Go.Proofs.Tryz Ch
open Go.RowKit
section
variable (w:World) {p:Lp} {t:ByteArray} {L:Ln} {av:Value}
theorem YA(h:h_ w p t L av)(r:Rq)(h0:(L.log.size:Int)<r.at_)(hal:L.all.length<=1900000000000):
 Calls prog 89 #[.pointer (some ⟨p.wb,0,none⟩),.agg (dY r),.agg (bW {dR with err:=14,ia:=(L.all.length:Int)-1})] w λx w'=>x= .returned (.bool true)/\Kp (λ_=>False) w w':=by
 obtain⟨ao,cap,u2⟩:=aF h.row;have K1:Kp (λ_=>False) w ((w.alloc (.cells (dY r) 79)).alloc (.cells (bW {dR with err:=14,ia:=(L.all.length:Int)-1}) 64)):=((Kp.refl _ _).alloc _).alloc _
 have hb1:((w.alloc (.cells (dY r) 79)).alloc (.cells (bW {dR with err:=14,ia:=(L.all.length:Int)-1}) 64)).heap[w.heap.size]? =some (.cells (dY r) 79):=by
  rw[Below.heap_alloc _ _ _ (by simp)];exact heap_alloc_new _ _
 have hb2:((w.alloc (.cells (dY r) 79)).alloc (.cells (bW {dR with err:=14,ia:=(L.all.length:Int)-1}) 64)).heap[w.heap.size+1]? =some (.cells (bW {dR with err:=14,ia:=(L.all.length:Int)-1}) 64):=heap_alloc2_new w _ _;have h1:=h.ai K1;have HK:=hid K1;clear K1 h;generalize rY:bW {dR with err:=14,ia:=(L.all.length:Int)-1}=RP at*;have my:=hid rY;generalize zx:dY r=RQ at*;have L_:=hid zx;clear rY zx
 go_enter func89,ntmps89
 go_upto_region 1 with(fail)
 generalize (w.alloc (.cells RQ 79)).alloc (.cells RP 64)=w1 at*
 have q2:w1.cell? ⟨w.heap.size,2,none⟩=some (.int .i64 r.at_):=by rw[World.cell?,hb1,<-L_.out];rfl
 have r0:w1.cell? ⟨w.heap.size+1,0,none⟩=some (.int .i64 (14)):=by rw[World.cell?,hb2,<-my.out];rfl
 have r1:w1.cell? ⟨w.heap.size+1,1,none⟩=some (.int .i64 ((L.all.length:Int)-1)):=by rw[World.cell?,hb2,<-my.out];rfl
 have r2:w1.cell? ⟨w.heap.size+1,2,none⟩=some (.int .i64 (0)):=by rw[World.cell?,hb2,<-my.out];rfl
 have r3:w1.cell? ⟨w.heap.size+1,3,none⟩=some (.int .i64 (0)):=by rw[World.cell?,hb2,<-my.out];rfl
 have r5:w1.cell? ⟨w.heap.size+1,10,none⟩=some (.string (⟨#[]⟩)):=by rw[World.cell?,hb2,<-my.out];rfl
 have x1:w1.cell? ⟨p.wb,1,none⟩=some (.slice ao L.all.length cap):=by rw[<-u2];exact h1.cell 1
 have x2:w1.cell? ⟨p.wb,2,none⟩=some (.string L.log):=h1.cell 2;clear hb1 hb2 h1 u2;go_wp2;go_ret;exact⟨rfl,HK.out⟩
theorem YB(h:h_ w p t L av)(r:Rq)(h0:r.at_<(L.log.size:Int)-24)(hal:L.all.length<=1900000000000)(sD:L.log.size<=7700000000000000000):
 Calls prog 89 #[.pointer (some ⟨p.wb,0,none⟩),.agg (dY r),.agg (bW {dR with err:=15,ia:=(L.all.length:Int)-1})] w λx w'=>x= .returned (.bool true)/\Kp (λ_=>False) w w':=by
 obtain⟨ao,cap,u2⟩:=aF h.row;have K1:Kp (λ_=>False) w ((w.alloc (.cells (dY r) 79)).alloc (.cells (bW {dR with err:=15,ia:=(L.all.length:Int)-1}) 64)):=((Kp.refl _ _).alloc _).alloc _
 have hb1:((w.alloc (.cells (dY r) 79)).alloc (.cells (bW {dR with err:=15,ia:=(L.all.length:Int)-1}) 64)).heap[w.heap.size]? =some (.cells (dY r) 79):=by
  rw[Below.heap_alloc _ _ _ (by simp)];exact heap_alloc_new _ _
 have hb2:((w.alloc (.cells (dY r) 79)).alloc (.cells (bW {dR with err:=15,ia:=(L.all.length:Int)-1}) 64)).heap[w.heap.size+1]? =some (.cells (bW {dR with err:=15,ia:=(L.all.length:Int)-1}) 64):=heap_alloc2_new w _ _;have h1:=h.ai K1;have HK:=hid K1;clear K1 h;generalize rY:bW {dR with err:=15,ia:=(L.all.length:Int)-1}=RP at*;have my:=hid rY;generalize zx:dY r=RQ at*;have L_:=hid zx;clear rY zx
 go_enter func89,ntmps89
 go_upto_region 1 with(fail)
 generalize (w.alloc (.cells RQ 79)).alloc (.cells RP 64)=w1 at*
 have q2:w1.cell? ⟨w.heap.size,2,none⟩=some (.int .i64 r.at_):=by rw[World.cell?,hb1,<-L_.out];rfl
 have r0:w1.cell? ⟨w.heap.size+1,0,none⟩=some (.int .i64 (15)):=by rw[World.cell?,hb2,<-my.out];rfl
 have r1:w1.cell? ⟨w.heap.size+1,1,none⟩=some (.int .i64 ((L.all.length:Int)-1)):=by rw[World.cell?,hb2,<-my.out];rfl
 have r2:w1.cell? ⟨w.heap.size+1,2,none⟩=some (.int .i64 (0)):=by rw[World.cell?,hb2,<-my.out];rfl
 have r3:w1.cell? ⟨w.heap.size+1,3,none⟩=some (.int .i64 (0)):=by rw[World.cell?,hb2,<-my.out];rfl
 have r5:w1.cell? ⟨w.heap.size+1,10,none⟩=some (.string (⟨#[]⟩)):=by rw[World.cell?,hb2,<-my.out];rfl
 have x1:w1.cell? ⟨p.wb,1,none⟩=some (.slice ao L.all.length cap):=by rw[<-u2];exact h1.cell 1
 have x2:w1.cell? ⟨p.wb,2,none⟩=some (.string L.log):=h1.cell 2;clear hb1 hb2 h1 u2
 have h0':¬(L.log.size:Int)<r.at_:=by omega
 go_wp2;go_ret;exact⟨rfl,HK.out⟩
theorem YC(h:h_ w p t L av)(r:Rq){e:Int}(h0:0<=r.at_)(h11:r.at_<=(L.log.size:Int))(h2:(L.log.size:Int)-24<=r.at_)(he:e=if r.at_+8<(L.log.size:Int)then r.at_+8 else(L.log.size:Int))(hal:L.all.length<=1900000000000)(sD:L.log.size<=7700000000000000000):
 Calls prog 89 #[.pointer (some ⟨p.wb,0,none⟩),.agg (dY r),.agg (bW {dR with ia:=(L.all.length:Int)-1,next:=e,text:=L.log.extract r.at_.toNat e.toNat})] w λx w'=>x= .returned (.bool true)/\Kp (λ_=>False) w w':=by
 obtain⟨ao,cap,u2⟩:=aF h.row;have K1:Kp (λ_=>False) w ((w.alloc (.cells (dY r) 79)).alloc (.cells (bW {dR with ia:=(L.all.length:Int)-1,next:=e,text:=L.log.extract r.at_.toNat e.toNat}) 64)):=((Kp.refl _ _).alloc _).alloc _
 have hb1:((w.alloc (.cells (dY r) 79)).alloc (.cells (bW {dR with ia:=(L.all.length:Int)-1,next:=e,text:=L.log.extract r.at_.toNat e.toNat}) 64)).heap[w.heap.size]? =some (.cells (dY r) 79):=by
  rw[Below.heap_alloc _ _ _ (by simp)];exact heap_alloc_new _ _
 have hb2:((w.alloc (.cells (dY r) 79)).alloc (.cells (bW {dR with ia:=(L.all.length:Int)-1,next:=e,text:=L.log.extract r.at_.toNat e.toNat}) 64)).heap[w.heap.size+1]? =some (.cells (bW {dR with ia:=(L.all.length:Int)-1,next:=e,text:=L.log.extract r.at_.toNat e.toNat}) 64):=heap_alloc2_new w _ _;have h1:=h.ai K1;have HK:=hid K1;clear K1 h;generalize rY:bW {dR with ia:=(L.all.length:Int)-1,next:=e,text:=L.log.extract r.at_.toNat e.toNat}=RP at*;have my:=hid rY;generalize zx:dY r=RQ at*;have L_:=hid zx;clear rY zx
 go_enter func89,ntmps89
 go_upto_region 1 with(fail)
 generalize (w.alloc (.cells RQ 79)).alloc (.cells RP 64)=w1 at*
 have q2:w1.cell? ⟨w.heap.size,2,none⟩=some (.int .i64 r.at_):=by rw[World.cell?,hb1,<-L_.out];rfl
 have r0:w1.cell? ⟨w.heap.size+1,0,none⟩=some (.int .i64 (0)):=by rw[World.cell?,hb2,<-my.out];rfl
 have r1:w1.cell? ⟨w.heap.size+1,1,none⟩=some (.int .i64 ((L.all.length:Int)-1)):=by rw[World.cell?,hb2,<-my.out];rfl
 have r2:w1.cell? ⟨w.heap.size+1,2,none⟩=some (.int .i64 (0)):=by rw[World.cell?,hb2,<-my.out];rfl
 have r3:w1.cell? ⟨w.heap.size+1,3,none⟩=some (.int .i64 (e)):=by rw[World.cell?,hb2,<-my.out];rfl
 have r5:w1.cell? ⟨w.heap.size+1,10,none⟩=some (.string (L.log.extract r.at_.toNat e.toNat)):=by rw[World.cell?,hb2,<-my.out];rfl
 have x1:w1.cell? ⟨p.wb,1,none⟩=some (.slice ao L.all.length cap):=by rw[<-u2];exact h1.cell 1
 have x2:w1.cell? ⟨p.wb,2,none⟩=some (.string L.log):=h1.cell 2;clear hb1 hb2 h1 u2
 have g1:¬(L.log.size:Int)<r.at_:=by omega
 have g2:¬r.at_<(L.log.size:Int)-24:=by omega
 by_cases q:r.at_+8<(L.log.size:Int)
 ·rw[if_pos q]at he
  subst he
  have g3:r.at_<=r.at_+8:=by omega
  have g4:r.at_+8<=(L.log.size:Int):=by omega
  have g5:0<=r.at_+8:=by omega
  go_upto_region 10 with(fail)
  go_quiet (fail)
  rename_i nq;have Mw:=hid (HK.out.drewN nq);go_wp2;go_ret;exact⟨rfl,Mw.out⟩
 rw[if_neg q]at he;subst he
 go_upto_region 10 with(fail)
 go_quiet (fail)
 rename_i nq;have Mw:=hid (HK.out.drewN nq);go_wp2;go_ret;exact⟨rfl,Mw.out⟩
theorem YD(h:h_ w p t L av)(r:Rq)(u:Int)(h0:(L.all.length:Int)-1<r.at_)(hal:L.all.length<=1900000000000):
 Calls prog 88 #[.pointer (some ⟨p.wb,0,none⟩),.int .i64 u,.agg (dY r),.agg (bW {dR with err:=14,ia:=(L.all.length:Int)-1})] w λx w'=>x= .returned (.bool true)/\Kp (λ_=>False) w w':=by
 obtain⟨da,dE,bq⟩:=fN;obtain⟨ao,cap,u2⟩:=aF h.row;have K1:Kp (λ_=>False) w ((w.alloc (.cells (dY r) 79)).alloc (.cells (bW {dR with err:=14,ia:=(L.all.length:Int)-1}) 64)):=((Kp.refl _ _).alloc _).alloc _
 have hb1:((w.alloc (.cells (dY r) 79)).alloc (.cells (bW {dR with err:=14,ia:=(L.all.length:Int)-1}) 64)).heap[w.heap.size]? =some (.cells (dY r) 79):=by
  rw[Below.heap_alloc _ _ _ (by simp)];exact heap_alloc_new _ _
 have hb2:((w.alloc (.cells (dY r) 79)).alloc (.cells (bW {dR with err:=14,ia:=(L.all.length:Int)-1}) 64)).heap[w.heap.size+1]? =some (.cells (bW {dR with err:=14,ia:=(L.all.length:Int)-1}) 64):=heap_alloc2_new w _ _;have h1:=h.ai K1;have HK:=hid K1;clear K1 h;generalize rY:bW {dR with err:=14,ia:=(L.all.length:Int)-1}=RP at*;have my:=hid rY;generalize zx:dY r=RQ at*;have L_:=hid zx;clear rY zx
 go_enter func88,ntmps88
 go_upto_region 1 with(fail)
 generalize (w.alloc (.cells RQ 79)).alloc (.cells RP 64)=w1 at*
 have q2:w1.cell? ⟨w.heap.size,2,none⟩=some (.int .i64 r.at_):=by rw[World.cell?,hb1,<-L_.out];rfl
 have r0:w1.cell? ⟨w.heap.size+1,0,none⟩=some (.int .i64 (14)):=by rw[World.cell?,hb2,<-my.out];rfl
 have r1:w1.cell? ⟨w.heap.size+1,1,none⟩=some (.int .i64 ((L.all.length:Int)-1)):=by rw[World.cell?,hb2,<-my.out];rfl
 have r2:w1.cell? ⟨w.heap.size+1,2,none⟩=some (.int .i64 (0)):=by rw[World.cell?,hb2,<-my.out];rfl
 have r3:w1.cell? ⟨w.heap.size+1,3,none⟩=some (.int .i64 (0)):=by rw[World.cell?,hb2,<-my.out];rfl
 have r5:w1.cell? ⟨w.heap.size+1,10,none⟩=some (.string (⟨#[]⟩)):=by rw[World.cell?,hb2,<-my.out];rfl
 have x1:w1.cell? ⟨p.wb,1,none⟩=some (.slice ao L.all.length cap):=by rw[<-u2];exact h1.cell 1
 have xs:∀j v,(gr dX)[j]? =some v->w1.cell? ⟨w.heap.size+1,4+j,none⟩=some v:=by
  intro j v hj;have hj6:j<6:=(List.getElem?_eq_some_iff.1 hj).1;rw[World.cell?,hb2,<-my.out,<-hj]
  match j,hj6 with
  |0,_=>rfl
  |1,_=>rfl
  |2,_=>rfl
  |3,_=>rfl
  |4,_=>rfl
  |5,_=>rfl
 have ES:=hid (gH w1 dX);have sL:(prog.info? 26).map (·.size)=some (gr dX).length:=aP;clear h1 u2
 have hlen:0<=(L.all.length:Int):=by omega
 go_wp2_with (refine aY rfl 26 (.tmp 18) rfl (w.heap.size+1) 4 rfl (gr dX) da xs dE bq sL ?_)
 refine hm ES ?_;rintro y w2 ⟨rfl,K2⟩;have q2':=K2.cell0 q2;have r0':=K2.cell0 r0;have r1':=K2.cell0 r1;have Mw:=hid (HK.out.trans K2);clear ES K2 xs q2 r0 r1 r2 r3 r5 x1 hb1 hb2;go_wp2;go_ret;exact⟨rfl,Mw.out⟩
theorem YE(h:h_ w p t L av)(r:Rq)(u:Int)(h0:0<=r.at_)(h5:r.at_<=(L.all.length:Int)-5)(hal:L.all.length<=1900000000000):
 Calls prog 88 #[.pointer (some ⟨p.wb,0,none⟩),.int .i64 u,.agg (dY r),.agg (bW {dR with err:=15,ia:=(L.all.length:Int)-1})] w λx w'=>x= .returned (.bool true)/\Kp (λ_=>False) w w':=by
 obtain⟨da,dE,bq⟩:=fN;obtain⟨ao,cap,u2⟩:=aF h.row;have K1:Kp (λ_=>False) w ((w.alloc (.cells (dY r) 79)).alloc (.cells (bW {dR with err:=15,ia:=(L.all.length:Int)-1}) 64)):=((Kp.refl _ _).alloc _).alloc _
 have hb1:((w.alloc (.cells (dY r) 79)).alloc (.cells (bW {dR with err:=15,ia:=(L.all.length:Int)-1}) 64)).heap[w.heap.size]? =some (.cells (dY r) 79):=by
  rw[Below.heap_alloc _ _ _ (by simp)];exact heap_alloc_new _ _
 have hb2:((w.alloc (.cells (dY r) 79)).alloc (.cells (bW {dR with err:=15,ia:=(L.all.length:Int)-1}) 64)).heap[w.heap.size+1]? =some (.cells (bW {dR with err:=15,ia:=(L.all.length:Int)-1}) 64):=heap_alloc2_new w _ _;have h1:=h.ai K1;have HK:=hid K1;clear K1 h;generalize rY:bW {dR with err:=15,ia:=(L.all.length:Int)-1}=RP at*;have my:=hid rY;generalize zx:dY r=RQ at*;have L_:=hid zx;clear rY zx
 go_enter func88,ntmps88
 go_upto_region 1 with(fail)
 generalize (w.alloc (.cells RQ 79)).alloc (.cells RP 64)=w1 at*
 have q2:w1.cell? ⟨w.heap.size,2,none⟩=some (.int .i64 r.at_):=by rw[World.cell?,hb1,<-L_.out];rfl
 have r0:w1.cell? ⟨w.heap.size+1,0,none⟩=some (.int .i64 (15)):=by rw[World.cell?,hb2,<-my.out];rfl
 have r1:w1.cell? ⟨w.heap.size+1,1,none⟩=some (.int .i64 ((L.all.length:Int)-1)):=by rw[World.cell?,hb2,<-my.out];rfl
 have r2:w1.cell? ⟨w.heap.size+1,2,none⟩=some (.int .i64 (0)):=by rw[World.cell?,hb2,<-my.out];rfl
 have r3:w1.cell? ⟨w.heap.size+1,3,none⟩=some (.int .i64 (0)):=by rw[World.cell?,hb2,<-my.out];rfl
 have r5:w1.cell? ⟨w.heap.size+1,10,none⟩=some (.string (⟨#[]⟩)):=by rw[World.cell?,hb2,<-my.out];rfl
 have x1:w1.cell? ⟨p.wb,1,none⟩=some (.slice ao L.all.length cap):=by rw[<-u2];exact h1.cell 1
 have xs:∀j v,(gr dX)[j]? =some v->w1.cell? ⟨w.heap.size+1,4+j,none⟩=some v:=by
  intro j v hj;have hj6:j<6:=(List.getElem?_eq_some_iff.1 hj).1;rw[World.cell?,hb2,<-my.out,<-hj]
  match j,hj6 with
  |0,_=>rfl
  |1,_=>rfl
  |2,_=>rfl
  |3,_=>rfl
  |4,_=>rfl
  |5,_=>rfl
 have ES:=hid (gH w1 dX);have sL:(prog.info? 26).map (·.size)=some (gr dX).length:=aP;clear h1 u2
 have h5':r.at_<=(L.all.length:Int)-1-4:=by omega
 go_wp2_with (refine aY rfl 26 (.tmp 18) rfl (w.heap.size+1) 4 rfl (gr dX) da xs dE bq sL ?_)
 refine hm ES ?_;rintro y w2 ⟨rfl,K2⟩;have q2':=K2.cell0 q2;have r0':=K2.cell0 r0;have r1':=K2.cell0 r1;have Mw:=hid (HK.out.trans K2);clear ES K2 xs q2 r0 r1 r2 r3 r5 x1 hb1 hb2;go_wp2;go_ret;exact⟨rfl,Mw.out⟩
theorem YF(h:h_ w p t L av)(r:Rq){u v:Nat}{s:As}{l:Int}(hv:L.all[v]? =some s)(hu:L.latest[u]? =some l)(h0:0<=r.at_->(v:Int)=r.at_)(h2:r.at_<0->l<=(v:Int))(hal:L.all.length<=1900000000000):
 Calls prog 88 #[.pointer (some ⟨p.wb,0,none⟩),.int .i64 (u:Int),.agg (dY r),.agg (bW {dR with ia:=(v:Int),st:=s})] w λx w'=>x= .returned (.bool true)/\Kp (λ_=>False) w w':=by
 obtain⟨da,dE,bq⟩:=fN;have hvl:v<L.all.length:=(List.getElem?_eq_some_iff.1 hv).1;have hul:u<L.latest.length:=(List.getElem?_eq_some_iff.1 hu).1;obtain⟨g,cap,u2⟩:=h.rowAt (by omega);subst u2;have K1:Kp (λ_=>False) w ((w.alloc (.cells (dY r) 79)).alloc (.cells (bW {dR with ia:=(v:Int),st:=s}) 64)):=((Kp.refl _ _).alloc _).alloc _
 have hb1:((w.alloc (.cells (dY r) 79)).alloc (.cells (bW {dR with ia:=(v:Int),st:=s}) 64)).heap[w.heap.size]? =some (.cells (dY r) 79):=by
  rw[Below.heap_alloc _ _ _ (by simp)];exact heap_alloc_new _ _
 have hb2:((w.alloc (.cells (dY r) 79)).alloc (.cells (bW {dR with ia:=(v:Int),st:=s}) 64)).heap[w.heap.size+1]? =some (.cells (bW {dR with ia:=(v:Int),st:=s}) 64):=heap_alloc2_new w _ _;have h1:=h.ai K1;have HK:=hid K1;clear K1 h;generalize rY:bW {dR with ia:=(v:Int),st:=s}=RP at*;have my:=hid rY;generalize zx:dY r=RQ at*;have L_:=hid zx;clear rY zx
 go_enter func88,ntmps88
 go_upto_region 1 with(fail)
 generalize (w.alloc (.cells RQ 79)).alloc (.cells RP 64)=w1 at*
 have q2:w1.cell? ⟨w.heap.size,2,none⟩=some (.int .i64 r.at_):=by rw[World.cell?,hb1,<-L_.out];rfl
 have r0:w1.cell? ⟨w.heap.size+1,0,none⟩=some (.int .i64 (0)):=by rw[World.cell?,hb2,<-my.out];rfl
 have r1:w1.cell? ⟨w.heap.size+1,1,none⟩=some (.int .i64 ((v:Int))):=by rw[World.cell?,hb2,<-my.out];rfl
 have r2:w1.cell? ⟨w.heap.size+1,2,none⟩=some (.int .i64 (0)):=by rw[World.cell?,hb2,<-my.out];rfl
 have r3:w1.cell? ⟨w.heap.size+1,3,none⟩=some (.int .i64 (0)):=by rw[World.cell?,hb2,<-my.out];rfl
 have r5:w1.cell? ⟨w.heap.size+1,10,none⟩=some (.string (⟨#[]⟩)):=by rw[World.cell?,hb2,<-my.out];rfl
 have x1:w1.cell? ⟨p.wb,1,none⟩=some (.slice (some ⟨g,0,none⟩) L.all.length cap):=h1.cell 1;have x5:w1.cell? ⟨p.wb,5,none⟩=some (.slice (some ⟨p.lb,0,none⟩) L.latest.length L.latest.length):=h1.cell 5
 have xl:w1.cell? ⟨p.lb,u,none⟩=some (.int .i64 l):=by
  rw[hY h1.L6,aJ,List.getElem?_map,hu];rfl
 have xv:∀j y,(gr s)[j]? =some y->w1.cell? ⟨g,v*6+j,none⟩=some y:=h1.at_ rfl hv
 have xs:∀j y,(gr s)[j]? =some y->w1.cell? ⟨w.heap.size+1,4+j,none⟩=some y:=by
  intro j y hj;have hj6:j<6:=(List.getElem?_eq_some_iff.1 hj).1;rw[World.cell?,hb2,<-my.out,<-hj]
  match j,hj6 with
  |0,_=>rfl
  |1,_=>rfl
  |2,_=>rfl
  |3,_=>rfl
  |4,_=>rfl
  |5,_=>rfl
 have ES:=hid (FP w1 s dX)
 have EB:∀W,Hid (Calls prog 21 #[.agg (aN s),.agg (aN s)] W λx w'=>x= .returned (.bool true)/\Kp (λ_=>False) W w'):=λW=>hid (gH W s)
 have HEB:=hid EB;have sL:(prog.info? 26).map (·.size)=some (gr s).length:=aP;clear h1 EB
 go_wp2_with (refine aY rfl 26 (.tmp 18) rfl (w.heap.size+1) 4 rfl (gr s) da xs dE bq sL ?_)
 refine hm ES ?_;rintro y w2 ⟨vb,rfl,K2⟩;have q2':=K2.cell0 q2;have r0':=K2.cell0 r0;have r1':=K2.cell0 r1;have x1':=K2.cell0 x1;have x5':=K2.cell0 x5;have xl':=K2.cell0 xl
 have xv':∀j y,(gr s)[j]? =some y->w2.cell? ⟨g,v*6+j,none⟩=some y:=λj y hj=>K2.cell0 (xv j y hj)
 have xs':∀j y,(gr s)[j]? =some y->w2.cell? ⟨w.heap.size+1,4+j,none⟩=some y:=λj y hj=>K2.cell0 (xs j y hj)
 have Mw:=hid (HK.out.trans K2);clear ES K2 xs q2 r0 r1 r2 r3 r5 x1 hb1 hb2 x5 xl xv HK
 have e1:¬(v:Int)<0:=by omega
 have e2:¬(L.all.length:Int)-1<(v:Int):=by omega
 have e3:(v:Int)<(L.all.length:Int):=by omega
 have e4:(u:Int)<(L.latest.length:Int):=by omega
 go_upto_region 8 with(fail)
 go_cut [100]from 62 to 100 (λy wx=>y= .bool false/\wx=w2)
 case first=>
  by_cases q:0<=r.at_
  ·have q3:((v:Int)!=r.at_)=false:=by simp[h0 q]
   clear h0 h2
   have q4:¬r.at_<0:=by omega
   go_wp2_with fail
   go_meet
   exact⟨congrArg Value.bool (by simp;omega),by first|rfl|trivial⟩
  have q1:=h2 (by omega)
  have q3:¬(v:Int)<l:=by omega
  have q4:r.at_<0:=by omega
  clear h0 h2
  go_wp2_with fail
  go_meet
  exact⟨congrArg Value.bool (by simp;omega),by first|rfl|trivial⟩
 case rest=>
  obtain⟨rfl,rfl⟩:=hcut
  go_upto_region 10 with(fail)
  have hS0:wc.drew.cell? ⟨p.wb,1,none⟩=some (.slice (some ⟨g,0,none⟩) L.all.length cap)/\(∀j y,(gr s)[j]? =some y->wc.drew.cell? ⟨g,v*6+j,none⟩=some y)/\(∀j y,(gr s)[j]? =some y->wc.drew.cell? ⟨w.heap.size+1,4+j,none⟩=some y):=⟨x1',xv',xs'⟩
  have pq:Kp (λ_=>False) wc wc.drew:=(Kp.refl _ _).drewN 1;refine az (λw'=>w'.cell? ⟨p.wb,1,none⟩=some (.slice (some ⟨g,0,none⟩) L.all.length cap)/\(∀j y,(gr s)[j]? =some y->w'.cell? ⟨g,v*6+j,none⟩=some y)/\(∀j y,(gr s)[j]? =some y->w'.cell? ⟨w.heap.size+1,4+j,none⟩=some y)) (by kernel_rfl) ?_;refine aU 0 101 (.pointer (some ⟨w.heap.size+1,4,none⟩)) hS0 ?_;refine dM 1 102 (.agg (aN s)) rfl (λw' hS=>ei 26 (.tmp 101) rfl (w.heap.size+1) 4 rfl (gr s) da hS.2.2 dE bq sL) hS0 ?_;refine aU 2 103 (.pointer (some ⟨p.wb,0,none⟩)) hS0 ?_;refine aU 3 104 (.pointer (some ⟨p.wb,0,none⟩)) hS0 ?_;refine aU 4 105 (.pointer (some ⟨p.wb,1,none⟩)) hS0 ?_;refine dM 5 106 (.slice (some ⟨g,0,none⟩) L.all.length cap) rfl (λw' hS=>by simp[execOp,Act.eval,go_sem,hS.1]) hS0 ?_;refine aU 6 107 (.int .i64 v) hS0 ?_;refine dM 7 108 (.pointer (some ⟨g,v*6,none⟩)) rfl (λw' _=>by simp[execOp,Act.eval,go_sem,e3]) hS0 ?_;refine dM 8 109 (.agg (aN s)) rfl (λw' hS=>ei 26 (.tmp 108) rfl g (v*6) rfl (gr s) da hS.2.1 dE bq sL) hS0 ?_;refine jD 9 ?_;refine bS (some 110) rfl 21 #[.agg (aN s),.agg (aN s)] (by simp[execOp,Act.eval,go_sem]) (.bool true) _ (HEB.out wc.drew).out ?_;intro w5 K5;have KQ:=pq.trans K5
  have hS5:w5.cell? ⟨p.wb,1,none⟩=some (.slice (some ⟨g,0,none⟩) L.all.length cap)/\(∀j y,(gr s)[j]? =some y->w5.cell? ⟨g,v*6+j,none⟩=some y)/\(∀j y,(gr s)[j]? =some y->w5.cell? ⟨w.heap.size+1,4+j,none⟩=some y):=⟨KQ.cell0 x1',λj y hj=>KQ.cell0 (xv' j y hj),λj y hj=>KQ.cell0 (xs' j y hj)⟩
  refine⟨hS5,?_⟩;refine eC 10 8 (.bool true) rfl (λw' _=>by simp[execOp,Act.eval,Act.put,go_sem]) hS5 ?_;refine wpAnyH_done (by kernel_rfl) (NoPanic.normal ?_) _;simp only[Act.put,pA,pB,pC];have rL:=hid (Mw.out.trans KQ);clear hS5 hS0 KQ K5 pq
  go_wp2_with fail
  go_ret;exact⟨rfl,rL.out⟩
end
section
variable {w:World} {p:Lp} {t:ByteArray} {L:Ln} {av:Value}
theorem h_.neK(h:h_ w p t L av):p.sb≠p.wb/\p.sb≠p.qb/\p.sb≠p.lb/\p.sb≠p.pb/\p.qb≠p.lb/\p.qb≠p.pb:=by
 have f:∀{b b':Nat} {c c':Array Value} {e e':TypeId},w.heap[b]? =some (.cells c e (0,0))->w.heap[b']? =some (.cells c' e' (0,0))->e≠e'->b≠b':=by
  intro b b' c c' e e' hb hb' he x;rw[x,hb']at hb;simp only[Option.some.injEq,Obj.cells.injEq]at hb;exact he hb.2.1.symm
 exact⟨f h.Iq h.blk (by decide),f h.Iq h.ask (by decide),f h.Iq h.L6 (by decide),f h.Iq h.FO (by decide),f h.ask h.L6 (by decide),f h.ask h.FO (by decide)⟩
theorem h_.YG(h:h_ w p t L av)(u:Nat)(b:Bool):h_ (w.setCell ⟨p.sb,u,none⟩ (.bool b)) p t {L with stands:=L.stands.set u b} av:=by
 have KS:Kp (λk=>k=p.sb) w (w.setCell ⟨p.sb,u,none⟩ (.bool b)):=(Kp.refl (λk=>k=p.sb) w).setCell (p:=⟨p.sb,u,none⟩) (λ_=>rfl) _;have hne:=own_ne h.row h.Iq (by decide);obtain⟨n1,n2,n3,n4,_,_⟩:=h.neK;refine⟨?_,KS.owns h.row (λk e x=>hne (by rw[<-x];exact e)),?_,KS.at_ h.ask n2.symm,KS.at_ h.L6 n3.symm,KS.at_ h.FO n4.symm,h.ne⟩
 ·rw[KS.at_ h.blk n1.symm];simp[Y8]
 rw[ah _ h.Iq];simp[mU,List.map_set]
theorem h_.Mb(h:h_ w p t L av){u:Nat}{b:Bool}(hu:L.stands[u]? =some b):w.cell? ⟨p.sb,u,none⟩=some (.bool b):=by
 rw[hY h.Iq,mU,List.getElem?_map,hu];rfl
theorem h_.YH(h:h_ w p t L av){u:Nat}{b:Int}(hu:L.steps[u]? =some b):w.cell? ⟨p.pb,u,none⟩=some (.int .i64 b):=by
 rw[hY h.FO,aJ,List.getElem?_map,hu];rfl
theorem h_.ace(h:h_ w p t L av){u:Nat}{r:Rq}(hu:L.asked[u]? =some r):∀j y,(zv r)[j]? =some y->w.cell? ⟨p.qb,u*3+j,none⟩=some y:=by
 intro j y hj;have hj3:j<3:=(List.getElem?_eq_some_iff.1 hj).1;rw[hY h.ask];exact(jP zv 3 L.asked u r j (λa _=>Ip a) hu hj3).trans hj
end
theorem xM.acf{w w':World}{p:Lp}{t:ByteArray}{L:Ln}{av:Value}(q:xM w w' p t av L){b j:Nat}{v:Value}(hn:∀k,oe p av k->k≠b)(hv:w.cell? ⟨b,j,none⟩=some v):w'.cell? ⟨b,j,none⟩=some v:=by
 obtain⟨Aq,h1,h2,K⟩:=q
 have hlt:b<w.heap.size:=by
  unfold World.cell? at hv
  cases q:w.heap[b]? with
  |none=>rw[q]at hv;simp at hv
  |some o=>exact(Array.getElem?_eq_some_iff.1 q).1
 unfold World.cell? at*;simp only at*;rw[K.block b hlt (λs=>hn b s rfl)];exact hv
section
variable (w:World) {p:Lp} {t:ByteArray} {L L':Ln} {av:Value}
theorem UX(a:As):Calls prog 21 #[.agg (aN a),.agg (aN dX)] w λx w'=>∃v,x= .returned (.bool v)/\(a=dX->v=true)/\Kp (λ_=>False) w w':=by
 by_cases q:a=dX
 ·subst q
  exact(gH w dX).mono (λx w' h=>⟨true,h.1,λ_=>rfl,h.2⟩)
 exact(FP w a dX).mono (λx w' h=>by obtain⟨v,h1,h2⟩:=h;exact⟨v,h1,λe=>absurd e q,h2⟩)
def Q8(p:Lp)(t:ByteArray)(L L':Ln)(av:Value)(u:Nat)(r:Rq)(a:Rp):Prop:=
 (r.kind=1/\a.st=dX/\a.next=0/\∀W,h_ W p t {L with stands:=L.stands.set u false} av->Hid (Calls prog 86 #[.pointer (some ⟨p.wb,0,none⟩),.agg (dY r),.agg (bW a)] W λx w'=>x= .returned (.bool true)/\xM W w' p t av L'))\/
 (r.kind=2/\a.st=dX/\a.next=0/\∀W,h_ W p t {L with stands:=L.stands.set u false} av->Hid (Calls prog 87 #[.pointer (some ⟨p.wb,0,none⟩),.agg (bW a)] W λx w'=>x= .returned (.bool true)/\xM W w' p t av L'))\/
 (r.kind=3/\a.text=⟨#[]⟩/\a.idx=0/\a.next=0/\L'={L with stands:=L.stands.set u false}/\∀W,h_ W p t {L with stands:=L.stands.set u false} av->Hid (Calls prog 88 #[.pointer (some ⟨p.wb,0,none⟩),.int .i64 (u:Int),.agg (dY r),.agg (bW a)] W λx w'=>x= .returned (.bool true)/\Kp (λ_=>False) W w'))\/
 (r.kind=4/\a.st=dX/\a.idx=0/\L'={L with stands:=L.stands.set u false}/\∀W,h_ W p t {L with stands:=L.stands.set u false} av->Hid (Calls prog 89 #[.pointer (some ⟨p.wb,0,none⟩),.agg (dY r),.agg (bW a)] W λx w'=>x= .returned (.bool true)/\Kp (λ_=>False) W w'))
theorem YI(h:h_ w p t L av){u:Nat}{r:Rq}{b0:Bool}(hu:L.asked[u]? =some r)(hb:L.stands[u]? =some b0)(a:Rp)(hc:Q8 p t L L' av u r a):
 Calls prog 62 #[.pointer (some ⟨p.wb,0,none⟩),.int .i64 (u:Int),.agg (bW a)] w λx w'=>x= .returned (.bool true)/\xM w w' p t av L':=by
 obtain⟨da,dE,bq⟩:=fN;obtain⟨dq,xX,nX⟩:=LS;obtain⟨dr,hdr,kK⟩:=vf;have hlow:=h.low;have K1:Kp (λ_=>False) w (w.alloc (.cells (bW a) 64)):=(Kp.refl _ _).alloc _;have hn1:=heap_alloc_new w (.cells (bW a) 64);have h1:=h.ai K1;have hul:u<L.asked.length:=(List.getElem?_eq_some_iff.1 hu).1;have hsl:u<L.stands.length:=(List.getElem?_eq_some_iff.1 hb).1
 have ad_:(u:Int)<(L.asked.length:Int):=by omega
 have ahd:(u:Int)<(L.stands.length:Int):=by omega
 have sQ:(prog.info? 79).map (·.size)=some (zv r).length:=rQ;have sL:(prog.info? 26).map (·.size)=some (gr a.st).length:=aP;have rI:=Im r;have rO:=zw r;have HC:=hid hc;clear h hc
 go_enter func62,ntmps62
 go_upto_region 1 with(fail)
 have hsz1:w.heap.size<(w.alloc (.cells (bW a) 64)).heap.size:=lt_of_block hn1;generalize w.alloc (.cells (bW a) 64)=w1 at*;have x4:w1.cell? ⟨p.wb,4,none⟩=some (.slice (some ⟨p.qb,0,none⟩) L.asked.length L.asked.length):=h1.cell 4;have xq:=h1.ace hu;have hnb:=heap_alloc_new w1 (.cells #[.int .i64 0,.string ⟨#[]⟩,.int .i64 0] 79);have hx2:=setRow_heap (w1.alloc (.cells #[.int .i64 0,.string ⟨#[]⟩,.int .i64 0] 79)) w1.heap.size #[.int .i64 0,.string ⟨#[]⟩,.int .i64 0] (dY r) 79 (0,0) hnb;have K2:Kp (λ_=>False) w1 ((w1.alloc (.cells #[.int .i64 0,.string ⟨#[]⟩,.int .i64 0] 79)).setRow w1.heap.size (dY r)):=((Kp.refl _ _).alloc _).setRow (λx=>by omega) _;have h2:=h1.ai K2;have hn2:=K2.at_ hn1 (λx=>x);have KA:=K1.trans K2;clear K2 h1 K1
 go_upto_region 2 with(first|refine aY rfl 79 (.tmp 18) rfl p.qb (u*3) rfl (zv r) dq xq xX nX sQ ?_|refine wpList_store_row rfl 79 (.tmp 7) (.tmp 19) rfl w1.heap.size (dY r) rfl rfl 79 #[.int .i64 0,.string ⟨#[]⟩,.int .i64 0] hnb rI rfl rO ?_)
 generalize (w1.alloc (.cells #[.int .i64 0,.string ⟨#[]⟩,.int .i64 0] 79)).setRow w1.heap.size (dY r)=w2 at*;generalize w1.heap.size=qb2 at*;have x3:w2.cell? ⟨p.wb,3,none⟩=some (.slice (some ⟨p.sb,0,none⟩) L.stands.length L.stands.length):=h2.cell 3;have xb:=h2.Mb hb
 have xf:w2.frozen? ⟨p.sb,u,none⟩=false:=by simp[World.frozen?,h2.Iq]
 have h3:=h2.YG u false;have hws:=hlow p.sb (.inr (.inl rfl));have K3:Kp (oe p av) w (w2.setCell ⟨p.sb,u,none⟩ (.bool false)):=(KA.mono (S':=oe p av) (λ_ _ x=>x.elim)).setCell (p:=⟨p.sb,u,none⟩) (λ_=>.inr (.inl rfl)) _
 have nD:(w2.setCell ⟨p.sb,u,none⟩ (.bool false)).heap[w.heap.size]? =some (.cells (bW a) 64 (0,0)):=by
  rw[Below.heap_setCell _ _ _ _ (by show w.heap.size≠p.sb;omega)];exact hn2
 have hx3:(w2.setCell ⟨p.sb,u,none⟩ (.bool false)).heap[qb2]? =some (.cells (dY r) 79 (0,0)):=by
  rw[Below.heap_setCell _ _ _ _ (by show qb2≠p.sb;omega)];exact hx2
 clear h2 hnb hn2 hx2 x4 xq KA hn1
 go_upto_region 3 with(fail)
 generalize w2.setCell ⟨p.sb,u,none⟩ (.bool false)=w3 at*
 have xs:∀j y,(gr a.st)[j]? =some y->w3.cell? ⟨w.heap.size,4+j,none⟩=some y:=by
  intro j y hj;have hj6:j<6:=(List.getElem?_eq_some_iff.1 hj).1;rw[World.cell?,nD,<-hj]
  match j,hj6 with
  |0,_=>rfl
  |1,_=>rfl
  |2,_=>rfl
  |3,_=>rfl
  |4,_=>rfl
  |5,_=>rfl
 have ES:=hid (UX w3 a.st);clear x3 xb xf
 go_wp2_with (refine aY rfl 26 (.tmp 26) rfl w.heap.size 4 rfl (gr a.st) da xs dE bq sL ?_)
 refine hm ES ?_;rintro y w4 ⟨vb,rfl,hvb,K4⟩;have h4:=h3.ai K4;have K5:Kp (oe p av) w w4:=K3.trans' K4 (λ_ _ x=>x.elim);have kU:=K4.at_ nD (λx=>x);have hx4:=K4.at_ hx3 (λx=>x)
 have y0:w4.cell? ⟨qb2,0,none⟩=some (.int .i64 r.kind):=by rw[World.cell?,hx4];rfl
 have r2:w4.cell? ⟨w.heap.size,2,none⟩=some (.int .i64 a.idx):=by rw[World.cell?,kU];rfl
 have r3:w4.cell? ⟨w.heap.size,3,none⟩=some (.int .i64 a.next):=by rw[World.cell?,kU];rfl
 have r5:w4.cell? ⟨w.heap.size,10,none⟩=some (.string a.text):=by rw[World.cell?,kU];rfl
 have hns:∀k,oe p av k->k≠w.heap.size:=λk hk=>by have:=hlow k hk;omega
 clear ES K4 h3 K3 nD hx3 xs;unfold Q8 at HC
 rcases HC.out with⟨q1,q2,q3,EC⟩|⟨q1,q2,q3,EC⟩|⟨q1,q2,q3,q4,eL,EC⟩|⟨q1,q2,q3,eL,EC⟩
 ·rw[q1]at y0
  have EE:=EC w4 h4;have vt:=hvb q2;subst vt;rw[q3]at r3;have rL:=hid K5;clear h4 EC K5 hvb
  go_wp2_with (first|refine wpList_load_row rfl 79 (.tmp 7) rfl qb2 rfl 79 (dY r) (0,0) dq hx4 xX (by cases dq<;>first|rfl|exact absurd nX (by simp[ak])) rI ?_|refine wpList_load_row rfl 64 (.tmp 5) rfl w.heap.size rfl 64 (bW a) (0,0) dr kU hdr (by cases dr<;>first|rfl|exact absurd kK (by simp[ak])) bK ?_)
  refine hm EE ?_;rintro y w6 ⟨rfl,q6⟩;have r3':w6.cell? ⟨w.heap.size,3,none⟩=some (.int .i64 0):=q6.acf hns r3;have HQ:=hid (xM.trans rL.out (λ_ e=>.inl e) q6);clear EE q6 r3 r2 r5 y0 kU hx4;go_wp2;go_ret;exact⟨rfl,HQ.out⟩
 ·rw[q1]at y0
  have EE:=EC w4 h4;have vt:=hvb q2;subst vt;rw[q3]at r3;have rL:=hid K5;clear h4 EC K5 hvb
  go_wp2_with (first|refine wpList_load_row rfl 64 (.tmp 5) rfl w.heap.size rfl 64 (bW a) (0,0) dr kU hdr (by cases dr<;>first|rfl|exact absurd kK (by simp[ak])) bK ?_)
  refine hm EE ?_;rintro y w6 ⟨rfl,q6⟩;have r3':w6.cell? ⟨w.heap.size,3,none⟩=some (.int .i64 0):=q6.acf hns r3;have HQ:=hid (xM.trans rL.out (λ_ e=>.inl e) q6);clear EE q6 r3 r2 r5 y0 kU hx4;go_wp2;go_ret;exact⟨rfl,HQ.out⟩
 ·rw[q1]at y0
  have EE:=EC w4 h4;rw[q4]at r3;rw[q3]at r2;rw[q2]at r5;have rL:=hid (ae h4 K5);clear h4 EC K5 hvb
  go_wp2_with (first|refine wpList_load_row rfl 79 (.tmp 7) rfl qb2 rfl 79 (dY r) (0,0) dq hx4 xX (by cases dq<;>first|rfl|exact absurd nX (by simp[ak])) rI ?_|refine wpList_load_row rfl 64 (.tmp 5) rfl w.heap.size rfl 64 (bW a) (0,0) dr kU hdr (by cases dr<;>first|rfl|exact absurd kK (by simp[ak])) bK ?_)
  refine hm EE ?_;rintro y w6 ⟨rfl,K6⟩;have r3':=K6.cell0 r3;have r2':=K6.cell0 r2;have r5':=K6.cell0 r5;have HQ:=hid (xM.of (rL.out.1.ai K6) (rL.out.2.trans' K6 (λ_ _ x=>x.elim)));clear EE K6 r3 r2 r5 y0 kU hx4;go_wp2;go_ret;exact⟨rfl,by rw[eL];exact HQ.out⟩
 rw[q1]at y0;have EE:=EC w4 h4;have vt:=hvb q2;subst vt;rw[q3]at r2;have rL:=hid (ae h4 K5);clear h4 EC K5 hvb
 go_wp2_with (first|refine wpList_load_row rfl 79 (.tmp 7) rfl qb2 rfl 79 (dY r) (0,0) dq hx4 xX (by cases dq<;>first|rfl|exact absurd nX (by simp[ak])) rI ?_|refine wpList_load_row rfl 64 (.tmp 5) rfl w.heap.size rfl 64 (bW a) (0,0) dr kU hdr (by cases dr<;>first|rfl|exact absurd kK (by simp[ak])) bK ?_)
 refine hm EE ?_;rintro y w6 ⟨rfl,K6⟩;have r2':=K6.cell0 r2;have HQ:=hid (xM.of (rL.out.1.ai K6) (rL.out.2.trans' K6 (λ_ _ x=>x.elim)));clear EE K6 r3 r2 r5 y0 kU hx4;go_wp2;go_ret;exact⟨rfl,by rw[eL];exact HQ.out⟩
end
namespace Ch
def rdB(L:Ln)(i:Nat):Bool:=L.stands.getD i false&&decide ((L.asked.getD i ⟨0,⟨#[]⟩,0⟩).kind=3)&&decide (0<L.steps.getD i 0)
def Q_(L:Ln):Nat->Nat
 |0=>0
 |i+1=>Q_ L i+(if rdB L i then 1 else 0)
theorem YJ(L:Ln)(i:Nat):Q_ L i<=i:=by
 induction i with
 |zero=>exact Nat.le_refl _
 |succ i ih=>unfold Q_;split<;>omega
structure acg(L:Ln)(N:List Nat):Prop where
 pos:0<L.all.length
 lo:L.all.length-(L.all.length-4)<=N.length
 hi:N.length<=(L.all.length-(L.all.length-4))+Q_ L L.stands.length
 lt:∀k∈N,k<L.all.length
 rise:N.Pairwise (· < ·)
 at_:N[N.length-(L.all.length-(L.all.length-4))]? =some (L.all.length-4)
 la:L.asked.length=L.stands.length
 ls:L.steps.length=L.stands.length
 l6:L.stands.length<=6
end Ch
section
variable (w:World) {p:Lp} {t:ByteArray} {L:Ln} {av:Value} {xb tb:Nat} {pc:Pc} {ol:Ol} {x:Sv} {kv:Value}
theorem YK(h:h_ w p t L av)(hx:dT w xb tb 138 pc ol x kv)(hk:x.kept.length<=1000)(hH:acg L (x.kept.map Vr.num))(hal:L.all.length<=1900000000000):
 Calls prog 36 #[.pointer (some ⟨p.wb,0,none⟩),.pointer (some ⟨xb,0,none⟩)] w λy w'=>y= .returned (.bool true)/\Kp (λ_=>False) w w':=by
 obtain⟨ao,cap,u2⟩:=aF h.row;have EV:=hid (DX w hx hk)
 have hNl:(x.kept.map Vr.num).length=x.kept.length:=by simp
 have hNc:(x.kept.map λv=>Value.int .i64 v.num)=(x.kept.map Vr.num).map (λk=>Value.int .i64 (k:Nat)):=by simp[List.map_map,Function.comp_def]
 rw[hNc,<-hNl]at EV;rw[<-hNl]at hk;clear hNc hNl hx;generalize x.kept.map Vr.num=N at*;have HL:=hid h;have hpos:=hH.pos;have hlo:=hH.lo;have hhi:=hH.hi;have Vn:=hH.l6;have HH:=hid hH;clear h hH
 go_enter func36,ntmps36
 go_wp2_with fail
 refine hm EV ?_;rintro y w1 ⟨rfl,o1,K1⟩;have h1:=HL.out.ai K1
 have x1:w1.cell? ⟨p.wb,1,none⟩=some (.slice ao L.all.length cap):=by rw[<-u2];exact h1.cell 1
 have x3:w1.cell? ⟨p.wb,3,none⟩=some (.slice (some ⟨p.sb,0,none⟩) L.stands.length L.stands.length):=h1.cell 3;have x4:w1.cell? ⟨p.wb,4,none⟩=some (.slice (some ⟨p.qb,0,none⟩) L.asked.length L.asked.length):=h1.cell 4;have x6:w1.cell? ⟨p.wb,6,none⟩=some (.slice (some ⟨p.pb,0,none⟩) L.steps.length L.steps.length):=h1.cell 6;have HX:=hid (ae h1 (ae o1 K1));generalize w.heap.size=g at*;clear EV h1 o1 K1 HL u2
 go_upto_if 20 with(fail)
 go_cut [7,20]from 19 to 20 (λv _ wx=>v= .int .i64 ((L.all.length-(L.all.length-4):Nat):Int)/\wx=w1)
 case first=>
  by_cases q:4<L.all.length
  ·have q':(4:Int)<(L.all.length:Int):=by omega
   have HE:=hid (show((L.all.length-(L.all.length-4):Nat):Int)=4 by omega)
   go_wp2_with fail
   go_meet
   exact⟨by rw[HE.out],by first|rfl|trivial⟩
  have q':¬(4:Int)<(L.all.length:Int):=by omega
  have HE:=hid (show((L.all.length-(L.all.length-4):Nat):Int)=(L.all.length:Int)by omega)
  go_wp2_with fail
  go_meet
  exact⟨by rw[HE.out],by first|rfl|trivial⟩
 case rest=>
  obtain⟨rfl,rfl⟩:=hcut;have hat:=HH.out.at_
  obtain⟨mu,hmu⟩:∃mu,mu=L.all.length-(L.all.length-4):=⟨_,rfl⟩
  rw[<-hmu]at hlo hhi hat⊢
  have ahe:(mu:Int)=(L.all.length:Int)-((L.all.length-4:Nat):Int):=by omega
  have HM:=hid (ae hmu (ae ahe hat))
  have hm1:1<=mu:=by omega
  have Zu:mu<=4:=by omega
  clear hmu ahe hat
  go_wp2_with fail
  go_loopw [8,9] (λrv uv wr=>∃i:Nat,uv= .int .i64 i/\rv= .int .i64 (Q_ L i:Nat)/\i<=L.stands.length/\wr=wc) (λ_ uv _=>L.stands.length-(intOf uv).toNat)
  case atStart=>exact⟨0,rfl,rfl,Nat.zero_le _,rfl⟩
  case round=>
   obtain⟨i,rfl,rfl,hil,rfl⟩:=hrel
   by_cases hlt:i<L.stands.length
   ·have hlt':(i:Int)<(L.stands.length:Int):=by omega
    obtain⟨b,hb⟩:∃b,L.stands[i]? =some b:=⟨_,List.getElem?_eq_getElem hlt⟩
    obtain⟨r,hr⟩:∃r,L.asked[i]? =some r:=⟨_,List.getElem?_eq_getElem (by rw[HH.out.la];exact hlt)⟩
    obtain⟨st,hs⟩:∃st,L.steps[i]? =some st:=⟨_,List.getElem?_eq_getElem (by rw[HH.out.ls];exact hlt)⟩
    have hrd:rdB L i=(b&&decide (r.kind=3)&&decide (0<st)):=by unfold rdB;simp[List.getD_eq_getElem?_getD,hb,hr,hs]
    have hsu:Q_ L (i+1)=Q_ L i+(if rdB L i then 1 else 0):=rfl;rw[hrd]at hsu;have c1:=HX.out.1.Mb hb;have c2:wr.cell? ⟨p.qb,i*3,none⟩=some (.int .i64 r.kind):=HX.out.1.ace hr 0 _ rfl;have c3:=HX.out.1.YH hs
    have hla:(i:Int)<(L.asked.length:Int):=by rw[HH.out.la];exact hlt'
    have hls:(i:Int)<(L.steps.length:Int):=by rw[HH.out.ls];exact hlt'
    have hrn:=YJ L i;have HS:=hid hsu;clear hrd hsu hb hr hs;generalize Q_ L i=rd at*
    cases b with
    |false=>
     go_wp2_with fail
     go_roundw
     case rel=>exact⟨i+1,by go_num,by rw[HS.out];rfl,by omega,by first|rfl|trivial⟩
     case measure=>simp[intOf];omega
    |true=>?_
    by_cases q:r.kind=3
    ·by_cases q2:0<st
     ·have HS2:=hid (HS.out.trans (show _=rd+1 by simp[q,q2]))
      have HS3:=hid (show(Value.int .i64 ((rd:Int)+1))= .int .i64 ((rd+1:Nat):Int)by simp);clear HS
      go_wp2_with fail
      go_roundw
      case rel=>exact⟨i+1,by go_num,by rw[HS2.out,<-HS3.out],by omega,by first|rfl|trivial⟩
      case measure=>simp[intOf];omega
     have HS2:=hid (HS.out.trans (show _=rd by simp[q2]));clear HS
     go_wp2_with fail
     go_roundw
     case rel=>exact⟨i+1,by go_num,by rw[HS2.out],by omega,by first|rfl|trivial⟩
     case measure=>simp[intOf];omega
    have HS2:=hid (HS.out.trans (show _=rd by simp[q]));clear HS
    go_wp2_with fail
    go_roundw
    case rel=>exact⟨i+1,by go_num,by rw[HS2.out],by omega,by first|rfl|trivial⟩
    case measure=>simp[intOf];omega
   have hlt':¬(i:Int)<(L.stands.length:Int):=by omega
   obtain rfl:i=L.stands.length:=by omega
   have e1:¬(N.length:Int)<(mu:Int):=by omega
   have e2:¬(mu:Int)+(Q_ L L.stands.length:Int)<(N.length:Int):=by omega
   have hrn:=YJ L L.stands.length;generalize Q_ L L.stands.length=rd at*
   have hcl:∀i v,N[i]? =some v->wr.cell? ⟨g,i,none⟩=some (.int .i64 (v:Nat)):=by
    intro i v hi;have hil:=(List.getElem?_eq_some_iff.1 hi).1;have:=HX.out.2.1.cellAt i (by simpa using hil);rw[this,List.getElem?_map,hi];rfl
   have HCL:=hid hcl;clear hcl x1 x4 x6
   have hwr:IntKind.i64.wrap ((mu:Int)+(rd:Int))=(mu:Int)+(rd:Int):=by rw[IntKind.wrap_i64];omega
   go_wp2_with fail
   go_loopw [10] (λiv wr2=>∃i:Nat,iv= .int .i64 i/\i<=N.length/\Kp (λ_=>False) wr wr2) (λiv _=>N.length-(intOf iv).toNat)
   case atStart=>exact⟨0,rfl,Nat.zero_le _,Kp.refl _ _⟩
   case round=>
    obtain⟨i,rfl,hil,KW⟩:=hrel
    by_cases hlt2:i<N.length
    ·have ahf:(i:Int)<(N.length:Int):=by omega
     obtain⟨v,hv⟩:∃v,N[i]? =some v:=⟨_,List.getElem?_eq_getElem hlt2⟩
     have hvn:=HH.out.lt v (List.mem_of_getElem? hv);have c1:=KW.cell0 (HCL.out i v hv)
     have e3:¬(v:Int)<0:=by omega
     have e4:¬(L.all.length:Int)<=(v:Int):=by omega
     have HK:=hid KW
     cases i with
     |zero=>
      clear KW hv
      go_upto_region 17 with(fail)
      go_quiet (fail)
      rename_i nq;have Mw:=hid (HK.out.drewN nq)
      go_wp2_with fail
      go_roundw
      case rel=>exact⟨1,by go_num,by omega,Mw.out⟩
      case measure=>simp[intOf];omega
     |succ k=>?_
     obtain⟨v0,hv0⟩:∃v0,N[k]? =some v0:=⟨_,List.getElem?_eq_getElem (by omega)⟩
     have c0:=KW.cell0 (HCL.out k v0 hv0)
     have hrs:v0<v:=by
      obtain⟨a1,b1⟩:=List.getElem?_eq_some_iff.1 hv0;obtain⟨a2,b2⟩:=List.getElem?_eq_some_iff.1 hv;have:=List.pairwise_iff_getElem.1 HH.out.rise k (k+1) a1 a2 (by omega);rw[b1,b2]at this;exact this
     have e5:¬(v:Int)<=(v0:Int):=by omega
     have e6:((k:Int)+1-1)=(k:Int):=by omega
     have e7:(k:Int)<(N.length:Int):=by omega
     have e8:(0:Int)<(k:Int)+1:=by omega
     clear KW hv hv0
     go_upto_region 17 with(fail)
     go_quiet (fail)
     rename_i nq;have Mw:=hid (HK.out.drewN nq)
     go_wp2_with fail
     go_roundw
     case rel=>exact⟨k+1+1,by go_num,by omega,Mw.out⟩
     case measure=>simp[intOf];omega
    have ahf:¬(i:Int)<(N.length:Int):=by omega
    have c1:=KW.cell0 (HCL.out _ _ HM.out.2.2)
    have c1':wr.cell? ⟨g,((N.length:Int)-(mu:Int)).toNat,none⟩=some (.int .i64 (L.all.length-4:Nat)):=by
     rw[show((N.length:Int)-(mu:Int)).toNat=N.length-mu by omega];exact c1
    have e3:(mu:Int)<=(N.length:Int):=by omega
    have e4:¬(N.length:Int)<=(N.length:Int)-(mu:Int):=by omega
    have e6:(0:Int)<=(N.length:Int)-(mu:Int):=by omega
    have e7:(N.length:Int)-(mu:Int)<(N.length:Int):=by omega
    have e5:(((L.all.length-4:Nat):Int)==(L.all.length:Int)-(mu:Int))=true:=by
     have:=HM.out.2.1;simp;omega
    have HK:=hid (HX.out.2.2.trans KW);clear KW;generalize ((L.all.length-4:Nat):Int)=L4 at*;go_wp2;go_ret;exact⟨by first|rfl|(simp_all),HK.out⟩
end
end Go.Proofs.YtnlbchmfcebeeaaGreat
