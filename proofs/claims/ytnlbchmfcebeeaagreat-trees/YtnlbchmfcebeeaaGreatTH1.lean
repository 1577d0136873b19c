import Derived.Test.YtnlbchmfcebeeaaGreatTZr
set_option maxHeartbeats 12800000
set_option maxRecDepth 100000
namespace Go.Proofs.YtnlbchmfcebeeaaGreat
open Go.Proofs.Tryz Ch
open Go.RowKit
namespace Ch
theorem ZR(ss:List St)(a p t:ByteArray)(x y z:Int):(take ss a p t x y z).2.Wf:=by
 unfold take
 split
 ·split
  ·split
   ·exact⟨kB ss a,jM ss p⟩
   exact kC
  exact kC
 exact kC
end Ch
theorem yl.set0{w:World}{B b:Nat}{k:Wk}(h:yl w B b k)(c:Int):yl (w.setCell ⟨b,0,none⟩ (.int .i64 c)) B b {k with mode:=c}:=by
 obtain⟨v,h,q⟩:=h;have ne:=q.ne h (by decide);refine⟨v,by rw[ah _ h];rfl,q.keep (S:=λi=>i=b) ((Kp.refl _ _).setCell (by intro _;rfl) _) (λi hi x=>by subst x;exact ne hi)⟩
theorem Kp.bj{w w':World}(k:Kp (λ_=>False) w w'){p:Addr}{v:Value}(h:w.cell? p=some v):w'.cell? p=some v:=by
 have hb:p.block<w.heap.size:=World.block_lt_of_cell? w p h;rw[<-h];exact World.cell?_of_block (k.block _ hb (λx=>x))
theorem wW:(prog.info? 4).map (λi=>(i.zero,i.size,i.bytes))=some (some (.bool false),1,1):=by kernel_rfl
namespace Ch
theorem SH{ss:List St}(h:sH ss){S:Nat->Bool}{goals:List Int}(hC:Jp ss S)(hE:YV ss S goals)(k:Nat):uW ss S goals k=S k:=by
 have:∀(n k:Nat),k<n->uW ss S goals k=true->S k=true:=by
  intro n
  induction n with
  |zero=>intro k hk;omega
  |succ n ih=>?_
  intro k hk hN
  by_cases c:k=0
  ·subst c;exact hC.root
  obtain⟨p,hp,hlt⟩:=h.par (k:=k) (by omega) (Be h hN);obtain⟨h1,h2,h3⟩:=(kG h S goals hp).1 hN;have hsp:=ih p (by omega) h1
  rcases h3 with e|⟨e,e2⟩
  ·exact hC.ZM p k hsp e h2
  obtain⟨i,hi,hsi⟩:=hC.Qp p hsp e;rw[e2,yo hE e hi hsi];exact hsi
 cases q:S k with
 |true=>exact GJ h hE (k+1) k (by omega) q
 |false=>?_
 cases q2:uW ss S goals k with
 |false=>rfl
 |true=>rw[this (k+1) k (by omega) q2]at q;cases q
theorem SJ(ol:Ol):∀(l:List Nat) (m:Ma),(∀k∈l,bit m.s.act k=true)->mP ol l m=m:=by
 intro l
 induction l with
 |nil=>intro m _;rfl
 |cons a l ih=>intro m h;simp only[mP];rw[h a (by simp),if_pos rfl];exact ih m (λk hk=>h k (by simp[hk]))
theorem SK(ss:List St)(act:List Bool):∀(f k:Nat) (p:List Int),mJ ss act db f k p=p:=by
 intro f
 induction f with
 |zero=>intro k p;rfl
 |succ f ih=>?_
 intro k p;simp only[mJ]
 have:ry ss act db k=false:=by
  unfold ry
  have:has db (aw ss k)=false:=by
   cases aw ss k with
   |ofNat n=>exact iB n
   |negSucc n=>rfl
  rw[this];simp
 rw[this];simp only[Bool.false_eq_true,if_false];exact ih (k+1) p
theorem JE(ol:Ol):∀(k:Nat) (m:Ma),bP ol db k m=m:=by
 intro k
 induction k with
 |zero=>intro m;rfl
 |succ k ih=>?_
 intro m;simp only[bP];rw[cT,iB,if_neg (by simp)];exact ih m
theorem Er{ol:Ol}(hO:Ah ol){m:Ma}(hI:Inv ol m.s):cd ol m []=m:=by
 obtain⟨e1,_,hE⟩:=yr hO hI (list:=[]) (by intro t ht;cases ht) (by intro a ha;cases ha)
 have hm:mid ol m []=m:=by
  unfold mid;show bP ol db ol.ag.length {m with s:={m.s with past:=mJ ol.ag m.s.act db (min ol.ag.length 16) 0 m.s.past}}=m;rw[JE,SK]
 rw[e1];rw[hm]at hE⊢;refine SJ ol _ m (λk hk=>?_);rw[Qn hO.qg,List.mem_filter]at hk;rw[<-SH hO.qg hI.conf hE k];exact hk.2
end Ch
section
variable (w:World)
theorem Bq(t:ByteArray)(a:As)(ha:a.Sm):
 Calls prog 54 #[.string t,.agg (aN a)] w λx w'=>x= .returned (.int .i64 (kP t a))/\Kp (λ_=>False) w w':=by
 obtain⟨da,dE,bq⟩:=fN;have hb1:=heap_alloc_new w (.cells (aN a) 26);have K1:Kp (λ_=>False) w (w.alloc (.cells (aN a) 26)):=(Kp.refl _ _).alloc _;have E0:=hid (yg (w.alloc (.cells (aN a) 26)) t a ha)
 have Qt:(mj t a).Wf:=by
  unfold mj
  split
  ·exact kC
  split
  ·exact ZR _ _ _ _ _ _ _
  exact kC
 generalize kQ:aN a=AA at hb1 K1 E0⊢
 have aI:(prog.info? 26).map (·.size)=some AA.size:=by rw[<-kQ];exact aP
 clear kQ
 go_enter func54,ntmps54
 go_upto_region 1 with(fail)
 generalize w.alloc (.cells AA 26)=w1 at*
 go_wp2_with (refine wpList_load_row rfl 26 (.tmp 3) rfl w.heap.size rfl 26 AA (0,0) da hb1 dE (by cases da<;>first|rfl|exact absurd bq (by simp[ak])) aI ?_)
 refine hm E0 ?_;rintro x w2 ⟨sv,tv,bv,lt,lb,rfl,⟨o1,o2,o3⟩,_,K2⟩;have gI:=pV (kP t a) sv tv bv Qt;have gS:=nJ (kP t a) sv tv bv Qt;have gO:=uy (kP t a) o1 o2 o3 (mj t a);have hnew:=heap_alloc_new w2 (.cells kM 119);have hrow:=setRow_heap (w2.alloc (.cells kM 119)) w2.heap.size _ (xI (kP t a) sv tv bv (mj t a)) 119 (0,0) hnew;have K3:Kp (λ_=>False) w ((w2.alloc (.cells kM 119)).setRow w2.heap.size (xI (kP t a) sv tv bv (mj t a))):=((K1.trans K2).alloc _).setRow (λx=>by have:=(K1.trans K2).size;omega) _
 have z0:((w2.alloc (.cells kM 119)).setRow w2.heap.size (xI (kP t a) sv tv bv (mj t a))).cell? ⟨w2.heap.size,0,none⟩=some (.int .i64 (kP t a)):=by rw[World.cell?,hrow];rfl
 clear E0 hb1 K1 K2 aI hrow;generalize xI (kP t a) sv tv bv (mj t a)=GA at*
 go_wp2_with (refine wpList_store_row rfl 119 (.tmp 5) (.tmp 8) rfl w2.heap.size GA rfl rfl 119 kM hnew gI (by rw[gS];rfl) gO ?_)
 go_ret;exact⟨rfl,K3⟩
end
theorem acW:(prog.info? 111).map (·.size)=some 3:=by kernel_rfl
theorem afw:∃d,prog.underlying 111=some d/\ak d=true:=⟨_,underlying111,rfl⟩
section
variable (w:World)
theorem Np(s:St):
 Calls prog 78 #[.agg #[.int .u8 s.name,.int .i64 s.pos,.int .i64 s.kind,.int .i64 s.parent]] w λx w'=>x= .returned (.agg (ndA s))/\Kp (λ_=>False) w w':=by
 obtain⟨da,dE,bq⟩:=afw
 have oq:cD (((w.alloc (.cells #[.int .u8 s.name,.int .i64 s.pos,.int .i64 s.kind,.int .i64 s.parent] 155)).alloc (.cells #[.string ⟨#[]⟩,.int .i64 0,.int .i64 0] 111)).alloc (.cells #[.int .u8 s.name] 5)) 0 (.slice (some ⟨w.heap.size+2,0,none⟩) 1 1) (ar [s.name]):=
  .inr ⟨w.heap.size+2,0,1,#[.int .u8 s.name],rfl,Nat.zero_le _,by
   have:=heap_alloc_new ((w.alloc (.cells #[.int .u8 s.name,.int .i64 s.pos,.int .i64 s.kind,.int .i64 s.parent] 155)).alloc (.cells #[.string ⟨#[]⟩,.int .i64 0,.int .i64 0] 111)) (.cells #[.int .u8 s.name] 5)
   simpa using this,by simp[ar],by simp,by intro j u hj;simpa[ar]using hj⟩
 have hcv:=jy oq;clear oq
 go_enter func78,ntmps78
 go_wp2;refine bodyPost_ret (results_cell_row rfl _ _ (w.heap.size+1) 111 (ndA s) (0,0) da rfl ?_ dE (by cases da<;>first|rfl|exact absurd bq (by simp[ak])) acW) rfl ?_
 ·rw[Below.heap_alloc _ _ _ (by simp)];exact heap_alloc2_new w _ _
 exact⟨rfl,(((Kp.refl _ _).alloc _).alloc _).alloc _⟩
end
theorem Br:(prog.info? 111).map (λi=>(i.zero,i.size,i.bytes))=some (some (.agg #[.string ⟨#[]⟩,.int .i64 0,.int .i64 0]),3,32):=by kernel_rfl
section
variable (w:World)
theorem Es(t:ByteArray):
 Calls prog 49 #[.string t] w λx w'=>∃v,x= .returned (.tuple #[v,.int .i64 (Ch.read t).1])/\((Ch.read t).1≠0->v= .slice none 0 0)/\
  ((Ch.read t).1=0->∃g,v= .slice (some ⟨g,0,none⟩) (Ch.read t).2.2.ag.length (Ch.read t).2.2.ag.length/\w.heap.size<=g/\Qs w' g (Ch.read t).2.2.ag.length (Ch.read t).2.2.ag.length (Ch.read t).2.2.ag)/\Kp (λ_=>False) w w':=by
 obtain⟨i0,hi,hz0,hz1,hz2⟩:=info_parts Br;have E0:=hid (sU t w);have hol:=mK t;generalize hrd:Ch.read t=rd at*;clear hrd;obtain⟨re,rf,ol⟩:=rd;simp only at E0 hol⊢;have uT:=hol.ag
 go_enter func49,ntmps49
 go_wp2_with fail
 refine hm E0 ?_;rintro x w2 ⟨sv,tv,bv,lt,lb,rfl,F2,B2⟩;have K2:=kZ B2;have v_:=IL (e:=re) (f:=rf) (fF F2.ag) (fF F2.bG) (fF F2.dz);have hnew:=heap_alloc_new w2 (.cells zy 87);have hrow:=setRow_heap (w2.alloc (.cells zy 87)) w2.heap.size _ (sV re rf sv tv bv) 87 (0,0) hnew;have K23:Kp (λ_=>False) w2 ((w2.alloc (.cells zy 87)).setRow w2.heap.size (sV re rf sv tv bv)):=((Kp.refl _ _).alloc _).setRow (λx=>by omega) _;have hp3:=Pl.ofRow hrow (F2.ai K23);have K3:=K2.trans K23;have hge:w.heap.size<=w2.heap.size:=K2.size;clear E0 B2 F2 K2 K23
 go_upto_region 2 with(refine wpList_store_row rfl 87 (.tmp 4) (.tmp 8) rfl w2.heap.size (sV re rf sv tv bv) rfl rfl 87 zy hnew vj rfl v_ ?_)
 generalize (w2.alloc (.cells zy 87)).setRow w2.heap.size (sV re rf sv tv bv)=w3 at*;generalize w2.heap.size=ob at*
 have z0:w3.cell? ⟨ob,0,none⟩=some (.int .i64 re):=by rw[World.cell?,hrow];rfl
 clear hnew v_ hrow
 cases q1:re !=0 with
 |true=>
  have hre:re≠0:=by simpa using q1
  go_upto_region 3 with(fail)
  go_quiet (fail)
  go_wp2;go_ret2;exact⟨_,rfl,λ_=>rfl,λh=>absurd h hre,K3.drewN _⟩
 |false=>?_
 have hre:re=0:=by simpa using q1
 obtain⟨ao,cap,c2⟩:=hp3.str.len;simp only[Nat.zero_add]at c2;have HP:=hid (ae hp3 K3);clear hp3 K3
 go_wp2_with (at_make;refine wpList_make_full w3 rfl (.tmp 16) (.tmp 16) 107 rfl w3.heap.size 111 i0 (.agg #[.string ⟨#[]⟩,.int .i64 0,.int .i64 0]) 3 underlying107 hi hz0 hz1 .i64 .i64 ol.ag.length ol.ag.length ol.ag.length rfl rfl rfl rfl ?c1 ?c2 (Nat.le_refl _) ?_)
 case c1=>rw[hz2];omega
 case c2=>unfold maxLen;omega
 intro w4 o4 g4;obtain⟨hp3,K3⟩:=HP.out;have KG:Kp (λ_=>False) w3 w4:=(Kp.refl _ _).grown g4 (λi hi _=>by simp at hi)
 have hN:Qs w4 w3.heap.size ol.ag.length 0 ol.ag:=by
  rcases o4.2 with⟨h,_⟩|⟨g,cap',cur,h,hg,hh,hc,_,hcs,_⟩
  ·simp at h
  simp only[Value.slice.injEq,Option.some.injEq,Addr.mk.injEq,and_true,true_and]at h;obtain⟨rfl,rfl⟩:=h;exact⟨cur,hh,by first|exact hcs|omega,λi s h=>absurd h (by omega)⟩
 have uU:=hp3.keep KG (λ_ _ _ _ _ x=>x);have K4:=K3.trans KG;have hg3:w.heap.size<=w3.heap.size:=K3.size
 have AJ:ob<w3.heap.size:=by obtain⟨sv',tv',bv',lt',lb',B',c',T',⟨hb',_⟩,_⟩:=hp3;exact lt_of_block hb'
 clear HP hp3 K3 KG o4 g4 c2 z0;generalize w3.heap.size=g at*
 go_wp2_with fail
 go_loopw [6] (λi wr=>∃k:Nat,i= .int .i64 k/\k<=ol.ag.length/\Qs wr g ol.ag.length k ol.ag/\Kp (λk=>k=g) w4 wr) (λi _=>ol.ag.length-(intOf i).toNat)
 case atStart=>exact⟨0,rfl,Nat.zero_le _,hN,Kp.refl _ _⟩
 case round=>
  obtain⟨k,rfl,hk,hNr,KW⟩:=hrel
  have hpr:Pl wr ob 0 ol:=uU.keep KW (λi cur T hi' hT x=>by
   subst x;obtain⟨C,hC,_⟩:=hN
   rw[hC]at hi';simp at hi';obtain⟨_,rfl⟩:=hi';revert hT;unfold YS oT;decide)
  by_cases hlt:k<ol.ag.length
  ·have hlt':(k:Int)<(ol.ag.length:Int):=by omega
   obtain⟨s,hs⟩:∃s,ol.ag[k]? =some s:=⟨_,List.getElem?_eq_getElem hlt⟩
   obtain⟨gs,cs,c2,a0,a1,a2,a3⟩:=hpr.str.at_ hs;simp only[Nat.zero_add]at c2;have E1:Hid (Calls prog 78 #[.agg #[.int .u8 s.name,.int .i64 s.pos,.int .i64 s.kind,.int .i64 s.parent]] wr λx w'=>x= .returned (.agg #[.string (strOfNums [s.name]),.int .i64 s.kind,.int .i64 s.parent])/\Kp (λ_=>False) wr w'):=hid (Np wr s);have HX:=hid (ae hNr KW);clear hpr hNr KW
   go_wp2_with fail
   refine hm E1 ?_;rintro x w5 ⟨rfl,K5⟩;obtain⟨⟨C,hC,hsz,hx⟩,KW⟩:=HX.out
   have hN5:Qs w5 g ol.ag.length k ol.ag:=⟨C,K5.at_ hC (λx=>x),hsz,hx⟩
   obtain⟨⟨u0,d0⟩,⟨u1,d1⟩,⟨u2',d2⟩,fz⟩:=hN5.cells hlt;have hN6:=hN5.set hs hlt
   have K6:Kp (λk=>k=g) w4 (((w5.setCell ⟨g,k*3,none⟩ (.string (strOfNums [s.name]))).setCell ⟨g,k*3+1,none⟩ (.int .i64 s.kind)).setCell ⟨g,k*3+2,none⟩ (.int .i64 s.parent)):=
    (((KW.trans' K5 (λi _ x=>x.elim)).setCell (p:=⟨g,k*3,none⟩) (λ_=>rfl) _).setCell (p:=⟨g,k*3+1,none⟩) (λ_=>rfl) _).setCell (p:=⟨g,k*3+2,none⟩) (λ_=>rfl) _
   clear HX E1 hN5 hC hx K5 KW a0 a1 a2 a3 c2;go_wp2
   go_roundw
   case rel=>exact⟨k+1,by go_num,by omega,hN6,K6⟩
   case measure=>simp[intOf];omega
  have afx:¬(k:Int)<(ol.ag.length:Int):=by omega
  obtain rfl:k=ol.ag.length:=by omega
  have K6:Kp (λ_=>False) w wr:=K4.trans' KW (λi hi' x=>by omega);clear hpr KW;go_wp2;go_ret2;subst hre;exact⟨_,rfl,⟨g,rfl,hg3,hNr⟩,K6⟩
end
end Go.Proofs.YtnlbchmfcebeeaaGreat
