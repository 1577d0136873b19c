import Derived.Test.YtnlbchmfcebeeaaGreatTHrv1
set_option maxHeartbeats 12800000
set_option maxRecDepth 100000
namespace Go.Proofs.YtnlbchmfcebeeaaGreat
open Go.Proofs.Tryz Ch
open Go.RowKit
section
variable (w:World)
theorem J1{lv:Value}{n:Nat}(hI:qs w w.heap.size lv n)(hn:n<=maxLen)(ev:ByteArray)(hsz:ev.size<=140737488351232)(by_:Int)(hw1: -9223372036854775808<=by_)(hw2:by_<=9223372036854775807):
 Calls prog 14 #[lv,.string ev,.int .i64 by_] w λx w'=>x= .returned (.bool true)/\Below w.heap.size w w':=by
 obtain⟨da,dE,bq⟩:=fN;have E0:=hid (nO w hI hn);clear hI hn
 go_enter func14,ntmps14
 go_wp2_with fail
 refine hm E0 ?_;rintro x w1 ⟨L,P,pv,rfl,_,B1,hP,hW,hL⟩;obtain⟨ol,hR,_⟩:=qB hP hW hL
 have hTs:(strOfNums L).size<=1000000:=by rw[strOfNums_size];omega
 have HR:=hid hR;generalize strOfNums L=T at HR hTs;clear E0 hP hW hL hR;have E1:=hid (tE w1)
 go_wp2_with fail
 refine hm E1 ?_;rintro x w2 ⟨rfl,K2⟩;have B2:=B1.trans (aG K2 B1.size);have E2:=hid (yx w2 by_ hw1 hw2 26 (by omega) (by omega));have hr:=Bt by_ (n:=26) (by omega);generalize Ev by_ 26=r at hr E2;clear E1 K2 B1
 go_wp2_with fail
 refine hm E2 ?_;rintro x w3 ⟨rfl,rfl⟩;have E3:=hid (vE w3 T hTs r hr);clear E2
 go_wp2_with fail
 refine hm E3 ?_;rintro x w4 ⟨rfl,K4⟩;have B4:=B2.trans (aG K4 B2.size);clear E3 K4 B2
 have E4:=λW=>jX W T
 have E5:=λW=>jX W (vV r T)
 have ETW:=λW (a:As) (q1:a.act.size<=1000) (q2:a.past.size<=1000)=>hid (W3 W a q1 q2 r hr)
 have hst:=Tl (n:=r) HR.out;have HT:=hid (show qw (vV r T) (kg r ol)from G6 HR.out);have WD:=hid (λ(s:Sd) (g:Ch.Good ol s) (g':Ch.Good (kg r ol) (kj r s)) (y:Int) (h0:0<=y) (h1:y<256)=>WZ (n:=r) HR.out g g' h0 h1);have HAS:=hid (λ(s:Sd) (g:Ch.Good ol s)=>tK (n:=r) HR.out g.inv);generalize vV r T=T2 at*
 rcases hst with⟨s0,o0,hs1,hs2,hg,hg'⟩|⟨hs1,hs2⟩
 rotate_left
 ·rw[hs1]at E4
  rw[hs2]at E5;simp only at E4 E5
  replace E4:=λW=>hid (E4 W)
  replace E5:=λW=>hid (E5 W)
  have ET:=ETW;clear ETW
  have ET0:∀W,Hid (Calls prog 33 #[.agg (aN dX),.agg (aN dX),.int .i64 r] W λx w'=>x= .returned (.bool true)/\Kp (λ_=>False) W w'):=λW=>ET W dX (by decide) (by decide)
  have rO:=bZ dX;have rI:=fA dX;have rS:(aN dX).size=6:=rfl;clear ET;generalize aN dX=A0 at*
  go_wp2_with fail
  refine Calls.mono (Hid.out (E4 _)) ?_;rintro x w5 ⟨rfl,K5⟩;have hnew:=heap_alloc_new w5 (.cells aD 26);have Mr:=setRow_heap (w5.alloc (.cells aD 26)) w5.heap.size aD A0 26 (0,0) hnew;have K6:Kp (λ_=>False) w5 ((w5.alloc (.cells aD 26)).setRow w5.heap.size A0):=((Kp.refl _ _).alloc _).setRow (λx=>by omega) _;have B6:=B4.trans (aG (K5.trans K6) B4.size);clear E4 K5 K6
  go_upto_region 8 with(refine wpList_store_row rfl 26 (.tmp 12) (.tmp 42) rfl w5.heap.size A0 rfl rfl 26 aD hnew rI (by rw[rS];rfl) rO ?_)
  generalize (w5.alloc (.cells aD 26)).setRow w5.heap.size A0=w6 at*;generalize w5.heap.size=sb at*;clear hnew
  go_wp2_with fail
  refine Calls.mono (Hid.out (E5 _)) ?_;rintro x w7 ⟨rfl,K7⟩;have vC:=K7.at_ Mr (λx=>x);have hlt:=lt_of_block vC;have hnew:=heap_alloc_new w7 (.cells aD 26);have Ve:=setRow_heap (w7.alloc (.cells aD 26)) w7.heap.size aD A0 26 (0,0) hnew;have K8:Kp (λ_=>False) w7 ((w7.alloc (.cells aD 26)).setRow w7.heap.size A0):=((Kp.refl _ _).alloc _).setRow (λx=>by omega) _;have WE:=K8.at_ vC (λx=>x);have B8:=B6.trans (aG (K7.trans K8) B6.size);clear E5 K7 K8 Mr vC B6
  go_upto_region 9 with(refine wpList_store_row rfl 26 (.tmp 15) (.tmp 48) rfl w7.heap.size A0 rfl rfl 26 aD hnew rI (by rw[rS];rfl) rO ?_)
  generalize (w7.alloc (.cells aD 26)).setRow w7.heap.size A0=w8 at*;generalize w7.heap.size=tb at*;clear hnew
  go_wp2_with (first|refine wpList_load_row rfl 26 (.tmp 12) rfl sb rfl 26 A0 (0,0) da WE dE (by cases da<;>first|rfl|exact absurd bq (by simp[ak])) rI ?_|refine wpList_load_row rfl 26 (.tmp 15) rfl tb rfl 26 A0 (0,0) da Ve dE (by cases da<;>first|rfl|exact absurd bq (by simp[ak])) rI ?_)
  refine Calls.mono (Hid.out (ET0 _)) ?_;rintro x w9 ⟨rfl,K9⟩;have B9:=B8.trans (aG K9 B8.size);clear ET0 K9;go_wp2;go_ret;exact⟨rfl,B9⟩
 rw[hs1]at E4;rw[hs2]at E5;simp only at E4 E5
 replace E4:=λW=>hid (E4 W)
 replace E5:=λW=>hid (E5 W)
 have HG:=hid (ae hg hg')
 have ha16:(aH ol.ag s0).act.size<=1000:=by
  show(dV ol.ag s0).size<=1000;unfold dV;rw[strOfNums_size];have:=pN ol.ag s0 (min ol.ag.length 16);omega
 have W4:(aH ol.ag s0).past.size<=1000:=by
  show(dh ol.ag s0).size<=1000;unfold dh;rw[strOfNums_size];have:=sY ol.ag s0 (min ol.ag.length 16);omega
 have ET0:=λW=>ETW W (aH ol.ag s0) ha16 W4
 have HTW:=hid ETW;clear ETW hg hg' hs1 hs2 ha16 W4;have rO:=bZ (aH ol.ag s0);have rI:=fA (aH ol.ag s0);have rS:(aN (aH ol.ag s0)).size=6:=rfl;have pO:=bZ (y7 r (aH ol.ag s0));have pI:=fA (y7 r (aH ol.ag s0));have pS:(aN (y7 r (aH ol.ag s0))).size=6:=rfl;generalize hA0:aN (aH ol.ag s0)=A0 at*;generalize hC0:aN (y7 r (aH ol.ag s0))=C0 at*;have Z2:=hid (ae hA0 hC0);clear hA0 hC0
 go_wp2_with fail
 refine Calls.mono (Hid.out (E4 _)) ?_;rintro x w5 ⟨rfl,K5⟩;have hnew:=heap_alloc_new w5 (.cells aD 26);have Mr:=setRow_heap (w5.alloc (.cells aD 26)) w5.heap.size aD A0 26 (0,0) hnew;have K6:Kp (λ_=>False) w5 ((w5.alloc (.cells aD 26)).setRow w5.heap.size A0):=((Kp.refl _ _).alloc _).setRow (λx=>by omega) _;have B6:=B4.trans (aG (K5.trans K6) B4.size)
 have hsb:w.heap.size<=w5.heap.size:=by have:=B4.size;have:=K5.size;omega
 clear E4 K5 K6 B4
 go_upto_region 8 with(refine wpList_store_row rfl 26 (.tmp 12) (.tmp 42) rfl w5.heap.size A0 rfl rfl 26 aD hnew rI (by rw[rS];rfl) rO ?_)
 generalize (w5.alloc (.cells aD 26)).setRow w5.heap.size A0=w6 at*;generalize w5.heap.size=sb at*;clear hnew
 go_wp2_with fail
 refine Calls.mono (Hid.out (E5 _)) ?_;rintro x w7 ⟨rfl,K7⟩;have vC:=K7.at_ Mr (λx=>x);have hlt:=lt_of_block vC;have hnew:=heap_alloc_new w7 (.cells aD 26);have Ve:=setRow_heap (w7.alloc (.cells aD 26)) w7.heap.size aD C0 26 (0,0) hnew;have K8:Kp (λ_=>False) w7 ((w7.alloc (.cells aD 26)).setRow w7.heap.size C0):=((Kp.refl _ _).alloc _).setRow (λx=>by omega) _;have WE:=K8.at_ vC (λx=>x);have B8:=B6.trans (aG (K7.trans K8) B6.size)
 have afZ:sb≠w7.heap.size:=by omega
 have htb:w.heap.size<=w7.heap.size:=by omega
 clear E5 K7 K8 Mr vC B6
 go_upto_region 9 with(refine wpList_store_row rfl 26 (.tmp 15) (.tmp 48) rfl w7.heap.size C0 rfl rfl 26 aD hnew pI (by rw[pS];rfl) pO ?_)
 generalize (w7.alloc (.cells aD 26)).setRow w7.heap.size C0=w8 at*;generalize w7.heap.size=tb at*;clear hnew
 go_wp2_with (first|refine wpList_load_row rfl 26 (.tmp 12) rfl sb rfl 26 A0 (0,0) da WE dE (by cases da<;>first|rfl|exact absurd bq (by simp[ak])) rI ?_|refine wpList_load_row rfl 26 (.tmp 15) rfl tb rfl 26 C0 (0,0) da Ve dE (by cases da<;>first|rfl|exact absurd bq (by simp[ak])) pI ?_)
 refine Calls.mono (Hid.out (ET0 _)) ?_;rintro x w9 ⟨rfl,K9⟩
 have Ez:jQ w9 sb (aH ol.ag s0):=by unfold jQ;rw[Z2.out.1];exact K9.at_ WE (λx=>x)
 have SX:jQ w9 tb (y7 r (aH ol.ag s0)):=by unfold jQ;rw[Z2.out.2];exact K9.at_ Ve (λx=>x)
 have B9:=B8.trans (aG K9 B8.size);have HS:=hid (ae Ez (ae SX B9));clear ET0 K9 WE Ve B8 Z2 rO rI rS pO pI pS Ez SX B9
 go_wp2_with fail
 go_loopw [19] (λi wr=>∃(k:Nat) (s:Sd),i= .int .i64 k/\k<=ev.size/\Hid (Ch.Good ol s/\Ch.Good (kg r ol) (kj r s)/\jQ wr sb (aH ol.ag s)/\jQ wr tb (y7 r (aH ol.ag s))/\Below w.heap.size w wr)) (λi _=>ev.size-(intOf i).toNat)
 case atStart=>exact⟨0,s0,rfl,Nat.zero_le _,hid ⟨HG.out.1,HG.out.2,HS.out.1,HS.out.2.1,HS.out.2.2⟩⟩
 case round=>
  obtain⟨k,s,rfl,hk,HH⟩:=hrel;clear HS HG;obtain⟨g,g',xK,htr,BR⟩:=HH.out;clear HH
  by_cases hkl:k<ev.size
  ·have hkl':(k:Int)<(ev.size:Int):=by omega
   have hy0:(0:Int)<=(((ev[k]'hkl).toNat:Nat):Int):=by omega
   have hy1:(((ev[k]'hkl).toNat:Nat):Int)<256:=by have:=(ev[k]'hkl).toNat_lt;omega
   have Mt:=λW=>hid (wZ W 17 (by omega) T (aH ol.ag s) (((ev[k]'hkl).toNat:Nat):Int) g.sm (λ_ _=>(mZ HR.out g hy0 hy1).2))
   have EG2:=λW=>wZ W 17 (by omega) T2 (aH (kg r ol).ag (kj r s)) (((ev[k]'hkl).toNat:Nat):Int) g'.sm (λ_ _=>(mZ HT.out g' hy0 hy1).2)
   rw[HAS.out s g]at EG2
   replace EG2:=λW=>hid (EG2 W)
   have Z3:=hid (WD.out s g g' _ hy0 hy1);have HG:=hid (ae g g');clear g g';have rO:=bZ (aH ol.ag s);have rI:=fA (aH ol.ag s);have rS:(aN (aH ol.ag s)).size=6:=rfl;have pO:=bZ (y7 r (aH ol.ag s));have pI:=fA (y7 r (aH ol.ag s));have pS:(aN (y7 r (aH ol.ag s))).size=6:=rfl;unfold jQ at xK htr;generalize hA:aN (aH ol.ag s)=A at*;generalize hC:aN (y7 r (aH ol.ag s))=C at*;have HA:=hid (ae hA hC);clear hA hC;generalize hb:(((ev[k]'hkl).toNat:Nat):Int)=y at*;generalize ajA:Ch.goes 17 T (aH ol.ag s) y=r3 at Mt Z3;generalize ajB:Ch.goes 17 T2 (y7 r (aH ol.ag s)) y=r4 at EG2 Z3;obtain⟨ra,ro,re⟩:=r3;obtain⟨rb,rp,rf⟩:=r4;simp only at Mt EG2;have qO:=bZ ra;have qI:=fA ra;have qS:(aN ra).size=6:=rfl;have vO:=bZ rb;have vI:=fA rb;have vS:(aN rb).size=6:=rfl;generalize rJ:aN ra=RA at*;generalize hRB:aN rb=RB at*;have Da:=hid (ae rJ hRB);clear rJ hRB ajA ajB
   go_upto_region 17 with(fail)
   go_cut [20,21,22]from 77 to 86 (λv14 v15 v16 wx=>∃ub,v14= .pointer (some ⟨ub,0,none⟩)/\v15= .string ro/\v16= .int .i64 re/\wx.heap[ub]? =some (.cells RA 26 (0,0))/\wx.heap[sb]? =some (.cells A 26 (0,0))/\wx.heap[tb]? =some (.cells C 26 (0,0))/\Below w.heap.size w wx)
   case first=>
    have BD:Below w.heap.size w wr.drew:=BR.trans (aG ((Kp.refl (λ_=>False) wr).drew) BR.size);have hS0:wr.drew.heap[sb]? =some (.cells A 26 (0,0)):=xK;have hT0:wr.drew.heap[tb]? =some (.cells C 26 (0,0)):=htr;refine az (λw'=>w'.heap[sb]? =some (.cells A 26 (0,0))) (by kernel_rfl) ?_;refine aU 0 78 (.string T) hS0 ?_;refine dM 1 79 (.agg A) rfl (λw' hS=>bu 26 (.tmp 12) rfl sb rfl 26 A (0,0) da hS dE (by cases da<;>first|rfl|exact absurd bq (by simp[ak])) rI) hS0 ?_;refine aU 2 80 (.string ev) hS0 ?_;refine aU 3 81 (.int .i64 (k:Int)) hS0 ?_;refine dM 4 82 (.int .u8 y) rfl (λw' _=>by simp[execOp,Act.eval,go_sem,hkl',hb]) hS0 ?_;refine k6 5 10 (by kernel_rfl) rfl rfl rfl rfl ?_ ?_
    ·refine bS (some 83) rfl 30 #[.string T,.agg A,.int .u8 y] (by simp[execOp,Act.eval,go_sem]) _ (λw'=>Kp (λ_=>False) wr.drew w') (Mt _).out ?_
     intro w7 K7;have qE:=K7.at_ hS0 (λx=>x);have G_:=K7.at_ hT0 (λx=>x);have ajC:=lt_of_block qE;have hnew:=heap_alloc_new w7 (.cells aD 26);have KA:Kp (λ_=>False) w7 ((w7.alloc (.cells aD 26)).setRow w7.heap.size RA):=((Kp.refl _ _).alloc _).setRow (λx=>by omega) _;have h8:=((Kp.refl (λ_=>False) w7).alloc (.cells aD 26)).at_ qE (λx=>x);have uY:=KA.at_ qE (λx=>x);have Tm:=KA.at_ G_ (λx=>x);have h9n:=setRow_heap (w7.alloc (.cells aD 26)) w7.heap.size aD RA 26 (0,0) hnew;have B9:=BD.trans (aG (K7.trans KA) BD.size);refine⟨qE,?_⟩;simp only[Act.put,pA,pB,pC];refine aU 6 77 (.tuple #[.agg RA,.string ro,.int .i64 re]) qE ?_;refine aU 7 84 (.agg RA) qE ?_;refine aU 8 85 (.string ro) qE ?_;refine aU 9 86 (.int .i64 re) qE ?_;refine jD 10 ?_;refine dZ (some 20) rfl (.pointer (some ⟨w7.heap.size,0,none⟩)) (w7.alloc (.cells aD 26)) (by simp[execOp,go_sem]) ?_;refine⟨h8,?_⟩;simp only[Act.put,pA,pB,pC];refine bF 11 (by kernel_rfl) rfl rfl 26 (.tmp 20) (.tmp 84) rfl rfl w7.heap.size RA (by simp[Act.eval]) (by simp[Act.eval]) 26 aD hnew qI (by rw[qS];rfl) qO uY ?_;refine aU 12 21 (.string ro) uY ?_;refine aU 13 22 (.int .i64 re) uY ?_;refine wpAnyH_done (by kernel_rfl) (NoPanic.normal ?_) _
     go_wp2_with fail
     go_meet
     exact⟨w7.heap.size,rfl,rfl,rfl,h9n,uY,Tm,B9⟩
    refine dZ (some 20) rfl (.pointer (some ⟨wr.heap.size,0,none⟩)) (wr.drew.alloc (.cells aD 26)) (by simp[execOp,go_sem]) ?_;have hnew:=heap_alloc_new wr.drew (.cells aD 26);have KA:=(Kp.refl (λ_=>False) wr.drew).alloc (.cells aD 26);have yz:=KA.at_ hS0 (λx=>x);have hT6:=KA.at_ hT0 (λx=>x);refine⟨yz,?_⟩;simp only[Act.put,pA,pB,pC];refine jD 5 ?_;refine bS (some 83) rfl 30 #[.string T,.agg A,.int .u8 y] (by simp[execOp,Act.eval,go_sem]) _ (λw'=>Kp (λ_=>False) (wr.drew.alloc (.cells aD 26)) w') (Mt _).out ?_;intro w7 K7;have qE:=K7.at_ yz (λx=>x);have G_:=K7.at_ hT6 (λx=>x);have h7n:=K7.at_ hnew (λx=>x);have uY:(w7.setRow wr.drew.heap.size RA).heap[sb]? =some (.cells A 26 (0,0)):=(setRow_other _ _ _ _ (by have:=lt_of_block hS0;omega)).trans qE;have Tm:(w7.setRow wr.drew.heap.size RA).heap[tb]? =some (.cells C 26 (0,0)):=(setRow_other _ _ _ _ (by have:=lt_of_block hT0;omega)).trans G_;have h9n:=setRow_heap w7 wr.drew.heap.size _ RA 26 (0,0) h7n;have KB:Kp (λ_=>False) wr.drew (w7.setRow wr.drew.heap.size RA):=(KA.trans K7).setRow (λx=>by omega) _;have B9:=BD.trans (aG KB BD.size);refine⟨qE,?_⟩;simp only[Act.put,pA,pB,pC];refine aU 6 77 (.tuple #[.agg RA,.string ro,.int .i64 re]) qE ?_;refine aU 7 84 (.agg RA) qE ?_;refine aU 8 85 (.string ro) qE ?_;refine aU 9 86 (.int .i64 re) qE ?_;refine bF 11 (by kernel_rfl) rfl rfl 26 (.tmp 20) (.tmp 84) rfl rfl wr.drew.heap.size RA (by simp[Act.eval]) (by simp[Act.eval]) 26 aD h7n qI (by rw[qS];rfl) qO uY ?_;refine aU 12 21 (.string ro) uY ?_;refine aU 13 22 (.int .i64 re) uY ?_;refine wpAnyH_done (by kernel_rfl) (NoPanic.normal ?_) _
    go_wp2_with fail
    go_meet
    exact⟨wr.drew.heap.size,rfl,rfl,rfl,h9n,uY,Tm,B9⟩
   case rest=>
    obtain⟨ub,rfl,rfl,rfl,hu1,hs1,ht1,BR1⟩:=hcut;clear Mt xK htr BR
    go_upto_region 18 with(fail)
    go_cut [23,24,25]from 87 to 96 (λv14 v15 v16 wx=>∃vb,v14= .pointer (some ⟨vb,0,none⟩)/\vb≠sb/\v15= .string rp/\v16= .int .i64 rf/\wx.heap[vb]? =some (.cells RB 26 (0,0))/\wx.heap[ub]? =some (.cells RA 26 (0,0))/\wx.heap[sb]? =some (.cells A 26 (0,0))/\wx.heap[tb]? =some (.cells C 26 (0,0))/\Below w.heap.size w wx)
    case first=>
     have BD:Below w.heap.size w wc.drew:=BR1.trans (aG ((Kp.refl (λ_=>False) wc).drew) BR1.size);have hS0:wc.drew.heap[sb]? =some (.cells A 26 (0,0)):=hs1;have hT0:wc.drew.heap[tb]? =some (.cells C 26 (0,0)):=ht1;have hU0:wc.drew.heap[ub]? =some (.cells RA 26 (0,0)):=hu1;refine az (λw'=>w'.heap[tb]? =some (.cells C 26 (0,0))) (by kernel_rfl) ?_;refine aU 0 88 (.string T2) hT0 ?_;refine dM 1 89 (.agg C) rfl (λw' hS=>bu 26 (.tmp 15) rfl tb rfl 26 C (0,0) da hS dE (by cases da<;>first|rfl|exact absurd bq (by simp[ak])) pI) hT0 ?_;refine aU 2 90 (.string ev) hT0 ?_;refine aU 3 91 (.int .i64 (k:Int)) hT0 ?_;refine dM 4 92 (.int .u8 y) rfl (λw' _=>by simp[execOp,Act.eval,go_sem,hkl',hb]) hT0 ?_;refine k6 5 10 (by kernel_rfl) rfl rfl rfl rfl ?_ ?_
     ·refine bS (some 93) rfl 30 #[.string T2,.agg C,.int .u8 y] (by simp[execOp,Act.eval,go_sem]) _ (λw'=>Kp (λ_=>False) wc.drew w') (EG2 _).out ?_
      intro w7 K7;have G_:=K7.at_ hT0 (λx=>x);have qE:=K7.at_ hS0 (λx=>x);have hU7:=K7.at_ hU0 (λx=>x);have ajC:=lt_of_block G_;have hnew:=heap_alloc_new w7 (.cells aD 26);have KA:Kp (λ_=>False) w7 ((w7.alloc (.cells aD 26)).setRow w7.heap.size RB):=((Kp.refl _ _).alloc _).setRow (λx=>by omega) _;have h8:=((Kp.refl (λ_=>False) w7).alloc (.cells aD 26)).at_ G_ (λx=>x);have Tm:=KA.at_ G_ (λx=>x);have uY:=KA.at_ qE (λx=>x);have hU9:=KA.at_ hU7 (λx=>x);have h9n:=setRow_heap (w7.alloc (.cells aD 26)) w7.heap.size aD RB 26 (0,0) hnew;have B9:=BD.trans (aG (K7.trans KA) BD.size);refine⟨G_,?_⟩;simp only[Act.put,pA,pB,pC];refine aU 6 87 (.tuple #[.agg RB,.string rp,.int .i64 rf]) G_ ?_;refine aU 7 94 (.agg RB) G_ ?_;refine aU 8 95 (.string rp) G_ ?_;refine aU 9 96 (.int .i64 rf) G_ ?_;refine jD 10 ?_;refine dZ (some 23) rfl (.pointer (some ⟨w7.heap.size,0,none⟩)) (w7.alloc (.cells aD 26)) (by simp[execOp,go_sem]) ?_;refine⟨h8,?_⟩;simp only[Act.put,pA,pB,pC];refine bF 11 (by kernel_rfl) rfl rfl 26 (.tmp 23) (.tmp 94) rfl rfl w7.heap.size RB (by simp[Act.eval]) (by simp[Act.eval]) 26 aD hnew vI (by rw[vS];rfl) vO Tm ?_;refine aU 12 24 (.string rp) Tm ?_;refine aU 13 25 (.int .i64 rf) Tm ?_;refine wpAnyH_done (by kernel_rfl) (NoPanic.normal ?_) _
      go_wp2_with fail
      go_meet
      exact⟨w7.heap.size,rfl,(by have:=lt_of_block qE;omega),rfl,rfl,h9n,hU9,uY,Tm,B9⟩
     refine dZ (some 23) rfl (.pointer (some ⟨wc.heap.size,0,none⟩)) (wc.drew.alloc (.cells aD 26)) (by simp[execOp,go_sem]) ?_;have hnew:=heap_alloc_new wc.drew (.cells aD 26);have KA:=(Kp.refl (λ_=>False) wc.drew).alloc (.cells aD 26);have hT6:=KA.at_ hT0 (λx=>x);have yz:=KA.at_ hS0 (λx=>x);have hU6:=KA.at_ hU0 (λx=>x);refine⟨hT6,?_⟩;simp only[Act.put,pA,pB,pC];refine jD 5 ?_;refine bS (some 93) rfl 30 #[.string T2,.agg C,.int .u8 y] (by simp[execOp,Act.eval,go_sem]) _ (λw'=>Kp (λ_=>False) (wc.drew.alloc (.cells aD 26)) w') (EG2 _).out ?_;intro w7 K7;have G_:=K7.at_ hT6 (λx=>x);have qE:=K7.at_ yz (λx=>x);have hU7:=K7.at_ hU6 (λx=>x);have h7n:=K7.at_ hnew (λx=>x);have Tm:(w7.setRow wc.drew.heap.size RB).heap[tb]? =some (.cells C 26 (0,0)):=(setRow_other _ _ _ _ (by have:=lt_of_block hT0;omega)).trans G_;have uY:(w7.setRow wc.drew.heap.size RB).heap[sb]? =some (.cells A 26 (0,0)):=(setRow_other _ _ _ _ (by have:=lt_of_block hS0;omega)).trans qE;have hU9:(w7.setRow wc.drew.heap.size RB).heap[ub]? =some (.cells RA 26 (0,0)):=(setRow_other _ _ _ _ (by have:=lt_of_block hU0;omega)).trans hU7;have h9n:=setRow_heap w7 wc.drew.heap.size _ RB 26 (0,0) h7n;have KB:Kp (λ_=>False) wc.drew (w7.setRow wc.drew.heap.size RB):=(KA.trans K7).setRow (λx=>by omega) _;have B9:=BD.trans (aG KB BD.size);refine⟨G_,?_⟩;simp only[Act.put,pA,pB,pC];refine aU 6 87 (.tuple #[.agg RB,.string rp,.int .i64 rf]) G_ ?_;refine aU 7 94 (.agg RB) G_ ?_;refine aU 8 95 (.string rp) G_ ?_;refine aU 9 96 (.int .i64 rf) G_ ?_;refine bF 11 (by kernel_rfl) rfl rfl 26 (.tmp 23) (.tmp 94) rfl rfl wc.drew.heap.size RB (by simp[Act.eval]) (by simp[Act.eval]) 26 aD h7n vI (by rw[vS];rfl) vO Tm ?_;refine aU 12 24 (.string rp) Tm ?_;refine aU 13 25 (.int .i64 rf) Tm ?_;refine wpAnyH_done (by kernel_rfl) (NoPanic.normal ?_) _
     go_wp2_with fail
     go_meet
     exact⟨wc.drew.heap.size,rfl,(by have:=lt_of_block hS0;omega),rfl,rfl,h9n,hU9,uY,Tm,B9⟩
    case rest=>
     obtain⟨vb,rfl,hvs,rfl,rfl,hv2,hu2,hs2,ht2,BR2⟩:=hcut;clear EG2 hs1 ht1 hu1 BR1;rename_i wc1 wc2
     rcases Z3.out with⟨s2,o2,W5,W6,hg2,af1⟩|⟨W5,W6⟩
     ·simp only[Prod.mk.injEq]at W5 W6
      obtain⟨rfl,rfl,rfl⟩:=W5;obtain⟨rfl,rfl,rfl⟩:=W6
      have ha16:(aH ol.ag s2).act.size<=1000:=by
       show(dV ol.ag s2).size<=1000;unfold dV;rw[strOfNums_size];have:=pN ol.ag s2 (min ol.ag.length 16);omega
      have W4:(aH ol.ag s2).past.size<=1000:=by
       show(dh ol.ag s2).size<=1000;unfold dh;rw[strOfNums_size];have:=sY ol.ag s2 (min ol.ag.length 16);omega
      have ET:=λW=>HTW.out W (aH ol.ag s2) ha16 W4
      rw[Da.out.1,Da.out.2]at ET;have HG2:=hid (ae hg2 af1);clear hg2 af1 ha16 W4
      go_wp2_with (first|refine wpList_load_row rfl 26 (.tmp 20) rfl ub rfl 26 RA (0,0) da hu2 dE (by cases da<;>first|rfl|exact absurd bq (by simp[ak])) qI ?_|refine wpList_load_row rfl 26 (.tmp 23) rfl vb rfl 26 RB (0,0) da hv2 dE (by cases da<;>first|rfl|exact absurd bq (by simp[ak])) vI ?_)
      refine Calls.mono (Hid.out (ET _)) ?_;rintro x JJ ⟨rfl,Nx⟩;have hu3:=Nx.at_ hu2 (λx=>x);have hv3:=Nx.at_ hv2 (λx=>x);have hs3:=Nx.at_ hs2 (λx=>x);have ht3:=Nx.at_ ht2 (λx=>x);have B11:=BR2.trans (aG Nx BR2.size);have WH:(JJ.setRow sb RA).heap[sb]? =some (.cells RA 26 (0,0)):=setRow_heap _ _ _ _ _ _ hs3;have af2:(JJ.setRow sb RA).heap[tb]? =some (.cells C 26 (0,0)):=(setRow_other _ _ _ _ afZ.symm).trans ht3;have ajH:(JJ.setRow sb RA).heap[vb]? =some (.cells RB 26 (0,0)):=(setRow_other _ _ _ _ hvs).trans hv3;have af3:((JJ.setRow sb RA).setRow tb RB).heap[tb]? =some (.cells RB 26 (0,0)):=setRow_heap _ _ _ _ _ _ af2;have af4:((JJ.setRow sb RA).setRow tb RB).heap[sb]? =some (.cells RA 26 (0,0)):=(setRow_other _ _ _ _ afZ).trans WH;have B12:=B11.trans (((Kp.refl (λk=>k=sb) JJ).setRow (g:=sb) (λ_=>rfl) RA).below B11.size (λi x=>by omega));have B13:=B12.trans (((Kp.refl (λk=>k=tb) (JJ.setRow sb RA)).setRow (g:=tb) (λ_=>rfl) RB).below B12.size (λi x=>by omega));have HF:=hid (ae af4 (ae af3 B13));clear ET Nx hu2 hv2 hs2 ht2 BR2 af4 af3 B12 B13 B11 hv3
      go_wp2_with (first|refine wpList_load_row rfl 26 (.tmp 20) rfl ub rfl 26 RA (0,0) da hu3 dE (by cases da<;>first|rfl|exact absurd bq (by simp[ak])) qI ?_|refine wpList_store_row rfl 26 (.tmp 12) (.tmp 115) rfl sb RA rfl rfl 26 A hs3 qI (by rw[rS,qS]) qO ?_|refine wpList_load_row rfl 26 (.tmp 23) rfl vb rfl 26 RB (0,0) da ajH dE (by cases da<;>first|rfl|exact absurd bq (by simp[ak])) vI ?_|refine wpList_store_row rfl 26 (.tmp 15) (.tmp 116) rfl tb RB rfl rfl 26 C af2 vI (by rw[pS,vS]) vO ?_)
      go_roundw
      case rel=>exact⟨k+1,s2,by go_num,by omega,hid ⟨HG2.out.1,HG2.out.2,by unfold jQ;rw[Da.out.1];exact HF.out.1,by unfold jQ;rw[Da.out.2];exact HF.out.2.1,HF.out.2.2⟩⟩
      case measure=>simp[intOf];omega
     simp only[Prod.mk.injEq]at W5 W6;obtain⟨rfl,rfl,rfl⟩:=W5;obtain⟨rfl,rfl,rfl⟩:=W6
     have ET:∀W,Hid (Calls prog 33 #[.agg (aN dX),.agg (aN dX),.int .i64 r] W λx w'=>x= .returned (.bool true)/\Kp (λ_=>False) W w'):=λW=>HTW.out W dX (by decide) (by decide)
     obtain rfl:RA=RB:=by rw[<-Da.out.1,Da.out.2]
     rw[Da.out.1]at ET
     go_wp2_with (first|refine wpList_load_row rfl 26 (.tmp 20) rfl ub rfl 26 RA (0,0) da hu2 dE (by cases da<;>first|rfl|exact absurd bq (by simp[ak])) qI ?_|refine wpList_load_row rfl 26 (.tmp 23) rfl vb rfl 26 RA (0,0) da hv2 dE (by cases da<;>first|rfl|exact absurd bq (by simp[ak])) vI ?_)
     refine Calls.mono (Hid.out (ET _)) ?_;rintro x JJ ⟨rfl,Nx⟩;have hs3:=Nx.at_ hs2 (λx=>x);have ht3:=Nx.at_ ht2 (λx=>x);have B11:=BR2.trans (aG Nx BR2.size);have HF:=hid (ae hs3 (ae ht3 B11));clear ET Nx hu2 hv2 hs2 ht2 BR2 hs3 ht3 B11
     go_wp2_with fail
     go_roundw
     case rel=>exact⟨k+1,s,by go_num,by omega,hid ⟨HG.out.1,HG.out.2,by unfold jQ;rw[HA.out.1];exact HF.out.1,by unfold jQ;rw[HA.out.2];exact HF.out.2.1,HF.out.2.2⟩⟩
     case measure=>simp[intOf];omega
  have hkl':¬(k:Int)<(ev.size:Int):=by omega
  go_wp2;go_ret;exact⟨rfl,BR⟩
end
end Go.Proofs.YtnlbchmfcebeeaaGreat
