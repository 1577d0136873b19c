import Derived.Test.YtnlbchmfcebeeaaGreatTE5
set_option maxHeartbeats 12800000
set_option maxRecDepth 100000
namespace Go.Proofs.YtnlbchmfcebeeaaGreat
open Go.Proofs.Tryz Ch
open Go.RowKit
section
variable (w:World) (B mb ob po:Nat) (ol:Ol)
theorem I_(m:Ma)(hp:Pl w ob po ol)(hol:ol.Ok)(hm:Mm w B mb ob po m)(hs:m.s.Ok):
 Calls prog 119 #[.pointer (some ⟨mb,0,none⟩)] w λx w'=>x= .returned (.bool (Ch.busy ol m))/\Kp (λ_=>False) w w':=by
 obtain⟨qv,ov,hmb,oq,_⟩:=id hm;have E0:=hid (nI w mb ob po m.s qv ov ol 46 hmb hs.1 hp hol);have HU:=hid (show Ch.busy ol m=(decide (0<(Ch.choose ol m.s 46).length)||decide (0<m.q.length))from rfl);have HX:=hid hmb;clear hmb
 go_enter func119,ntmps119
 go_wp2_with fail
 refine bH E0 ?_;rintro x w1 ⟨v1,rfl,h1,K1⟩;have hmb:iq w1 mb ob po m.s qv ov:=du.keep HX.out K1 (λx=>x);have cq:=hmb.queue hs.1;obtain⟨qo,qc,rfl⟩:=oq.len
 have Zx:(ar m.q).length=m.q.length:=by simp[ar]
 rw[Zx]at cq;generalize Ch.choose ol m.s 46=list at*;obtain⟨ao,cap,rfl⟩:=h1.len;clear HX hmb E0 oq h1 hm hp Zx
 by_cases q1:0<list.length
 ·have q1':(0:Int)<(list.length:Int):=by omega
  go_wp2;go_ret;rw[HU.out];exact⟨by simp[q1],K1⟩
 have q1':¬(0:Int)<(list.length:Int):=by omega
 by_cases q2:0<m.q.length
 ·have q2':(0:Int)<(m.q.length:Int):=by omega
  go_wp2;go_ret;rw[HU.out];exact⟨by simp[q1,q2],K1⟩
 have q2':¬(0:Int)<(m.q.length:Int):=by omega
 go_wp2;go_ret;rw[HU.out];exact⟨by simp[q1,q2],K1⟩
end
theorem cD.head{w:World}{base:Nat}{v:Value}{a:Int}{q:List Int}(h:cD w base v (ar (a::q))):
 ∃g off cap,v= .slice (some ⟨g,off,none⟩) (q.length+1) cap/\w.cell? ⟨g,off,none⟩=some (.int .u8 a)/\q.length+1<=cap/\cD w base (.slice (some ⟨g,off+1,none⟩) q.length (cap-1)) (ar q)/\(cap=1->cD w base (.slice (some ⟨g,off,none⟩) q.length 0) (ar q)):=by
 rcases h with⟨_,h⟩|⟨g,off,cap,cur,rfl,hb,hg,hn,hs,hx⟩
 ·simp[ar]at h
 have hl:(ar (a::q)).length=q.length+1:=by simp[ar]
 have hq:(ar q).length=q.length:=by simp[ar]
 rw[hl]at hn⊢;refine⟨g,off,cap,rfl,?_,hn,.inr ⟨g,off+1,cap-1,cur,by rw[hq],hb,hg,by rw[hq];omega,by omega,?_⟩,λe=>.inr ⟨g,off,0,cur,by rw[hq],hb,hg,by rw[hq];omega,by omega,?_⟩⟩
 ·rw[cell_of_row w g off cur _ _ hg]
  exact hx 0 _ (by simp[ar])
 ·intro j u hj
  have:=hx (j+1) u (by simpa[ar]using hj);rw[<-this];congr 1;omega
 intro j u hj
 have hl0:q.length=0:=by omega
 rw[List.getElem?_eq_none (by rw[hq];omega)]at hj;simp at hj
theorem Mm.deq{w:World}{B mb ob po:Nat}{s:Sd}{qv ov V:Value}{q out:List Int}(hm:iq w mb ob po s qv ov)(hw:s.Wf)(oq:cD w B V (ar q))(oo:cD w B ov (ar out))(ap:Apart V ov):
 Mm (w.setCell ⟨mb,37,none⟩ V) B mb ob po ⟨s,q,out⟩/\iq (w.setCell ⟨mb,37,none⟩ V) mb ob po s V ov/\Kp (km B mb w) w (w.setCell ⟨mb,37,none⟩ V):=by
 have hm2:=hm.MR hw V;have K2:Kp (λk=>k=mb) w (w.setCell ⟨mb,37,none⟩ V):=Kp.setCell (S:=λk=>k=mb) (Kp.refl _ _) (p:=⟨mb,37,none⟩) (λ_=>rfl) V;have n1:=oq.ne hm (by decide);have n2:=oo.ne hm (by decide);exact⟨⟨_,_,hm2,oq.keep K2 (λi hi x=>by subst x;exact n1 hi),oo.keep K2 (λi hi x=>by subst x;exact n2 hi),ap⟩,hm2,(Kp.refl _ _).trans' K2 (λi _ x=>.inl x)⟩
section
variable (w:World) (B mb ob po:Nat) (ol:Ol)
theorem Sb(m:Ma)(hp:Pl w ob po ol)(hol:ol.Ok)(hm:Mm w B mb ob po m)(hs:m.s.Ok)(hB:B<=w.heap.size)(hz:m.Sz 700000000):
 Calls prog 120 #[.pointer (some ⟨mb,0,none⟩)] w λx w'=>x= .returned (.tuple #[])/\Mm w' B mb ob po (Ch.round ol m)/\Kp (km B mb w) w w':=by
 obtain⟨qv,ov,hmb,oq,oo,ap⟩:=id hm;have E0:=hid (nI w mb ob po m.s qv ov ol 46 hmb hs.1 hp hol);have HX:=hid (ae hmb (ae oq (ae oo (ae ap (ae hm hp)))));obtain⟨hin,h16⟩:=j4 ol m.s 46;have uT:=hol.ag;clear hmb oq oo ap hm hp
 cases q1:(Ch.choose ol m.s 46).length==0 with
 |false=>
  rw[show Ch.round ol m=cd ol m (Ch.choose ol m.s 46)by unfold Ch.round;rw[q1];rfl]
  go_enter func120,ntmps120
  go_wp2_with fail
  refine bH E0 ?_;rintro x w1 ⟨v1,rfl,h1,K1⟩;obtain⟨hmb,oq,oo,ap,hm,hp⟩:=HX.out;have hm1:=hm.still K1;have hp1:Pl w1 ob po ol:=hp.keep K1 (λ_ _ _ _ _ x=>x);have E1:=hid (pU w1 B mb ob po ol m _ _ h1 hin (by omega) hp1 hol hm1 hs (by have:=K1.size;omega) hz);generalize hli:Ch.choose ol m.s 46=list at*;have HL:=hid hli;clear hli;obtain⟨ao,cap,rfl⟩:=h1.len
  have q2':¬((list.length:Int)=0):=by intro e;have:list.length=0:=by omega
                                      rw[this]at q1;exact absurd q1 (by decide)
  have q1':((list.length:Int)==0)=false:=by simpa using q2'
  clear hmb oq oo ap hm hp HX hm1 hp1 h1 E0
  go_wp2_with fail
  refine bH E1 ?_;rintro x w2 ⟨rfl,M2,K2⟩;have K3:=Km.trans (Kp.km K1) K2;clear E1 K1 K2;go_wp2
  go_end0
  rw[HL.out];exact⟨rfl,M2,K3⟩
 |true=>?_
 have e0:Ch.choose ol m.s 46=[]:=by
  cases q:Ch.choose ol m.s 46 with
  |nil=>rfl
  |cons a l=>rw[q]at q1;simp at q1
 cases q2:m.q with
 |nil=>
  rw[show Ch.round ol m=cd ol m []by unfold Ch.round;rw[q1,q2,e0];rfl];rw[e0]at E0;clear q1 e0 hin h16
  go_enter func120,ntmps120
  go_wp2_with fail
  refine bH E0 ?_;rintro x w1 ⟨v1,rfl,h1,K1⟩;obtain⟨hmb,oq,oo,ap,hm,hp⟩:=HX.out;have hm1:=hm.still K1;have hp1:Pl w1 ob po ol:=hp.keep K1 (λ_ _ _ _ _ x=>x);have E1:=hid (pU w1 B mb ob po ol m _ _ h1 (by intro n hn;simp at hn) (by simp) hp1 hol hm1 hs (by have:=K1.size;omega) hz);have afb:iq w1 mb ob po m.s qv ov:=du.keep hmb K1 (λx=>x);have cq:=afb.queue hs.1;obtain⟨qo,qc,rfl⟩:=oq.len
  have Zx:(ar m.q).length=0:=by rw[q2];rfl
  rw[Zx]at cq;obtain⟨ao,cap,rfl⟩:=h1.len;simp only[List.length_nil]at E1;clear hmb oq oo ap hm hp HX hm1 hp1 h1 E0 afb Zx
  go_wp2_with fail
  refine bH E1 ?_;rintro x w2 ⟨rfl,M2,K2⟩;have K3:=Km.trans (Kp.km K1) K2;clear E1 K1 K2 cq;go_wp2
  go_end0
  exact⟨rfl,M2,K3⟩
 |cons a q=>?_
 have hz2:({m with q:=q}:Ma).Sz 700000000:=⟨by have:=hz.1;rw[q2]at this;simp at this⊢;omega,hz.2⟩
 rw[show Ch.round ol m=cd ol {m with q:=q} (Ch.choose ol m.s a)by unfold Ch.round;rw[q1,q2];rfl];rw[e0]at E0;clear q1 e0 hin h16
 go_enter func120,ntmps120
 go_wp2_with fail
 refine bH E0 ?_;rintro x w1 ⟨v1,rfl,h1,K1⟩;obtain⟨ao,cap,rfl⟩:=h1.len;simp only[List.length_nil];obtain⟨hmb,oq,oo,ap,hm,hp⟩:=HX.out;have hm1:iq w1 mb ob po m.s qv ov:=du.keep hmb K1 (λx=>x);have hp1:Pl w1 ob po ol:=hp.keep K1 (λ_ _ _ _ _ x=>x);have cq:=hm1.queue hs.1;have oq1:=oq.keep K1 (λ_ _ x=>x);have oo1:=oo.keep K1 (λ_ _ x=>x);rw[q2]at oq1;obtain⟨g,off,Zy,rfl,cg,hqc,oq2,oq3⟩:=oq1.head
 have fz:∀i,w1.frozen? ⟨mb,i,none⟩=false:=λi=>du.free hm1 i
 have Zz:=hm.still K1
 have hlq:(q.length:Int)+1<=(Zy:Int):=by omega
 by_cases hc1:Zy=1
 ·subst hc1
  obtain rfl:q=[]:=by
   cases q with
   |nil=>rfl
   |cons b l=>simp at hqc
  obtain⟨M2,hm2,K2⟩:=Mm.deq (V:=.slice (some ⟨g,off,none⟩) 0 0) hm1 hs.1 (oq3 rfl) oo1 (λi hi x=>ap i (by simpa[Value.ownBlock]using hi) x);have hp2:=Zz.pl K2 hp1;have K3:=Km.trans (Kp.km K1) K2;have E1:=hid (nI (w1.setCell ⟨mb,37,none⟩ (.slice (some ⟨g,off,none⟩) 0 0)) mb ob po m.s _ _ ol a hm2 hs.1 hp2 hol);have HY:=hid (ae M2 (ae hp2 K3));obtain⟨hin,h16⟩:=j4 ol m.s a;clear hmb oq oo ap hm hp HX hm1 hp1 oq1 oo1 oq2 oq3 hm2 M2 hp2 K2 K3 E0 h1 K1 Zz
  go_wp2_with fail
  refine bH E1 ?_;rintro x w4 ⟨v4,rfl,h4,K4⟩;obtain⟨M2,hp2,K3⟩:=HY.out;have M4:=M2.still K4;have uU:Pl w4 ob po ol:=hp2.keep K4 (λ_ _ _ _ _ x=>x);have K5:=Km.trans K3 (Kp.km K4);have E2:=hid (pU w4 B mb ob po ol _ _ _ h4 hin (by omega) uU hol M4 hs (by have:=K5.size;omega) hz2);clear M2 hp2 K3 K4 HY E1 M4 uU h4 cq cg fz
  go_wp2_with fail
  refine bH E2 ?_;rintro x w5 ⟨rfl,M5,K6⟩;have K7:=Km.trans K5 K6;clear E2 K5 K6;go_wp2
  go_end0
  exact⟨rfl,M5,K7⟩
 obtain⟨M2,hm2,K2⟩:=Mm.deq (V:=.slice (some ⟨g,off+1,none⟩) q.length (Zy-1)) hm1 hs.1 (oq2) oo1 (λi hi x=>ap i (by simpa[Value.ownBlock]using hi) x);have hp2:=Zz.pl K2 hp1;have K3:=Km.trans (Kp.km K1) K2;have E1:=hid (nI (w1.setCell ⟨mb,37,none⟩ (.slice (some ⟨g,off+1,none⟩) q.length (Zy-1))) mb ob po m.s _ _ ol a hm2 hs.1 hp2 hol);have HY:=hid (ae M2 (ae hp2 K3));obtain⟨hin,h16⟩:=j4 ol m.s a;clear hmb oq oo ap hm hp HX hm1 hp1 oq1 oo1 oq2 oq3 hm2 M2 hp2 K2 K3 E0 h1 K1 Zz
 go_wp2_with fail
 refine bH E1 ?_;rintro x w4 ⟨v4,rfl,h4,K4⟩;obtain⟨M2,hp2,K3⟩:=HY.out;have M4:=M2.still K4;have uU:Pl w4 ob po ol:=hp2.keep K4 (λ_ _ _ _ _ x=>x);have K5:=Km.trans K3 (Kp.km K4);have E2:=hid (pU w4 B mb ob po ol _ _ _ h4 hin (by omega) uU hol M4 hs (by have:=K5.size;omega) hz2);clear M2 hp2 K3 K4 HY E1 M4 uU h4 cq cg fz
 go_wp2_with fail
 refine bH E2 ?_;rintro x w5 ⟨rfl,M5,K6⟩;have K7:=Km.trans K5 K6;clear E2 K5 K6;go_wp2
 go_end0
 exact⟨rfl,M5,K7⟩
end
theorem VP:(prog.info? 149).map (·.size)=some 39:=by kernel_rfl
theorem acD:(prog.info? 119).map (·.size)=some 42:=by kernel_rfl
theorem abm:∃d,prog.underlying 87=some d/\ak d=true:=⟨_,underlying87,rfl⟩
theorem afc:∃d,prog.underlying 119=some d/\ak d=true:=⟨_,underlying119,rfl⟩
theorem AQ(q:Option Addr)(a0 a1 a2 a3 a4 a5 a6 a7 a8 a9 zV C6 a12 C7 C8 C_:Bool)(p0 p1 p2 p3 p4 p5 p6 p7 p8 p9 zW zX zY zZ z9 z_:Int)(tm:ByteArray)(x y z:Int):
 prog.built 149 [(0,.pointer q),(1,.agg #[.bool a0,.bool a1,.bool a2,.bool a3,.bool a4,.bool a5,.bool a6,.bool a7,.bool a8,.bool a9,.bool zV,.bool C6,.bool a12,.bool C7,.bool C8,.bool C_,.int .u8 p0,.int .u8 p1,.int .u8 p2,.int .u8 p3,.int .u8 p4,.int .u8 p5,.int .u8 p6,.int .u8 p7,.int .u8 p8,.int .u8 p9,.int .u8 zW,.int .u8 zX,.int .u8 zY,.int .u8 zZ,.int .u8 z9,.int .u8 z_,.string tm,.int .i64 x,.int .i64 y,.int .i64 z])]=some #[.pointer q,.bool a0,.bool a1,.bool a2,.bool a3,.bool a4,.bool a5,.bool a6,.bool a7,.bool a8,.bool a9,.bool zV,.bool C6,.bool a12,.bool C7,.bool C8,.bool C_,.int .u8 p0,.int .u8 p1,.int .u8 p2,.int .u8 p3,.int .u8 p4,.int .u8 p5,.int .u8 p6,.int .u8 p7,.int .u8 p8,.int .u8 p9,.int .u8 zW,.int .u8 zX,.int .u8 zY,.int .u8 zZ,.int .u8 z9,.int .u8 z_,.string tm,.int .i64 x,.int .i64 y,.int .i64 z,.slice none 0 0,.slice none 0 0]:=by kernel_rfl
def U_(q:Option Addr)(s:Sd):Array Value:=([Value.pointer q]++s.act.map Value.bool++(cf s++[Value.slice none 0 0,Value.slice none 0 0])).toArray
theorem AR(q:Option Addr)(s:Sd)(hw:s.Wf):prog.built 149 [(0,.pointer q),(1,.agg (ax s).toArray)]=some (U_ q s):=by
 obtain⟨act,past,tm,x,y,z⟩:=s;obtain⟨h1,h2⟩:=hw;simp only at h1 h2;obtain⟨a0,a1,a2,a3,a4,a5,a6,a7,a8,a9,zV,C6,a12,C7,C8,C_,rfl⟩:=ru act h1;obtain⟨p0,p1,p2,p3,p4,p5,p6,p7,p8,p9,zW,zX,zY,zZ,z9,z_,rfl⟩:=ru past h2;exact AQ q a0 a1 a2 a3 a4 a5 a6 a7 a8 a9 zV C6 a12 C7 C8 C_ p0 p1 p2 p3 p4 p5 p6 p7 p8 p9 zW zX zY zZ z9 z_ tm x y z
theorem AS(q:Option Addr){s:Sd}(hw:s.Wf):(U_ q s).size=39:=by simp[U_,cf,bf,hw.1,hw.2]
theorem Ja(q:Option Addr){s:Sd}(hw:s.Wf):(prog.info? 149).map (·.size)=some (U_ q s).size:=by rw[AS q hw];exact VP
theorem Qe(q:Option Addr)(s:Sd):(U_ q s).all (λx=>x.oneCell')=true:=by
 apply Array.all_eq_true_iff_forall_mem.2;intro x hx;simp only[U_,cf,bf,List.mem_toArray,List.mem_append,List.mem_map,List.mem_cons,List.not_mem_nil,or_false]at hx
 rcases hx with(rfl|⟨a,_,rfl⟩)|((⟨a,_,rfl⟩|rfl|rfl|rfl|rfl)|rfl|rfl)<;>rfl
theorem iq.ofRow{w:World}{mb ob po:Nat}{s:Sd}(h:w.heap[mb]? =some (.cells (U_ (some ⟨ob,po,none⟩) s) 149 (0,0))):iq w mb ob po s (.slice none 0 0) (.slice none 0 0):=h
def xI(e:Int)(sv tv bv:Value)(s:Sd):Array Value:=([Value.int .i64 e,.int .i64 0,.int .i64 0,sv,tv,bv]++ax s).toArray
theorem wD(e:Int):prog.built 119 [(0,.int .i64 e)]=some (xI e (.slice none 0 0) (.slice none 0 0) (.slice none 0 0) jH):=by kernel_rfl
theorem zE(a b c:Option Addr)(l1 c1 l2 c2 l3 c3:Nat)(a0 a1 a2 a3 a4 a5 a6 a7 a8 a9 zV C6 a12 C7 C8 C_:Bool)(p0 p1 p2 p3 p4 p5 p6 p7 p8 p9 zW zX zY zZ z9 z_:Int)(tm:ByteArray)(x y z:Int):
 prog.built 119 [(1,.agg #[.int .i64 0,.int .i64 0,.slice a l1 c1,.slice b l2 c2,.slice c l3 c3]),(2,.agg #[.bool a0,.bool a1,.bool a2,.bool a3,.bool a4,.bool a5,.bool a6,.bool a7,.bool a8,.bool a9,.bool zV,.bool C6,.bool a12,.bool C7,.bool C8,.bool C_,.int .u8 p0,.int .u8 p1,.int .u8 p2,.int .u8 p3,.int .u8 p4,.int .u8 p5,.int .u8 p6,.int .u8 p7,.int .u8 p8,.int .u8 p9,.int .u8 zW,.int .u8 zX,.int .u8 zY,.int .u8 zZ,.int .u8 z9,.int .u8 z_,.string tm,.int .i64 x,.int .i64 y,.int .i64 z])]=some #[.int .i64 0,.int .i64 0,.int .i64 0,.slice a l1 c1,.slice b l2 c2,.slice c l3 c3,.bool a0,.bool a1,.bool a2,.bool a3,.bool a4,.bool a5,.bool a6,.bool a7,.bool a8,.bool a9,.bool zV,.bool C6,.bool a12,.bool C7,.bool C8,.bool C_,.int .u8 p0,.int .u8 p1,.int .u8 p2,.int .u8 p3,.int .u8 p4,.int .u8 p5,.int .u8 p6,.int .u8 p7,.int .u8 p8,.int .u8 p9,.int .u8 zW,.int .u8 zX,.int .u8 zY,.int .u8 zZ,.int .u8 z9,.int .u8 z_,.string tm,.int .i64 x,.int .i64 y,.int .i64 z]:=by kernel_rfl
theorem Jb(a b c:Option Addr)(l1 c1 l2 c2 l3 c3:Nat)(s:Sd)(hw:s.Wf):
 prog.built 119 [(1,.agg #[.int .i64 0,.int .i64 0,.slice a l1 c1,.slice b l2 c2,.slice c l3 c3]),(2,.agg (ax s).toArray)]=some (xI 0 (.slice a l1 c1) (.slice b l2 c2) (.slice c l3 c3) s):=by
 obtain⟨act,past,tm,x,y,z⟩:=s;obtain⟨h1,h2⟩:=hw;simp only at h1 h2;obtain⟨a0,a1,a2,a3,a4,a5,a6,a7,a8,a9,zV,C6,a12,C7,C8,C_,rfl⟩:=ru act h1;obtain⟨p0,p1,p2,p3,p4,p5,p6,p7,p8,p9,zW,zX,zY,zZ,z9,z_,rfl⟩:=ru past h2;exact zE a b c l1 c1 l2 c2 l3 c3 a0 a1 a2 a3 a4 a5 a6 a7 a8 a9 zV C6 a12 C7 C8 C_ p0 p1 p2 p3 p4 p5 p6 p7 p8 p9 zW zX zY zZ z9 z_ tm x y z
theorem nJ(e:Int)(sv tv bv:Value){s:Sd}(hw:s.Wf):(xI e sv tv bv s).size=42:=by simp[xI,bE hw]
theorem pV(e:Int)(sv tv bv:Value){s:Sd}(hw:s.Wf):(prog.info? 119).map (·.size)=some (xI e sv tv bv s).size:=by rw[nJ e sv tv bv hw];exact acD
theorem uy(e:Int){sv tv bv:Value}(h1:sv.oneCell'=true)(h2:tv.oneCell'=true)(h3:bv.oneCell'=true)(s:Sd):(xI e sv tv bv s).all (λx=>x.oneCell')=true:=by
 apply Array.all_eq_true_iff_forall_mem.2;intro x hx;simp only[xI,ax,cf,bf,List.mem_toArray,List.mem_append,List.mem_map,List.mem_cons,List.not_mem_nil,or_false]at hx
 rcases hx with(rfl|rfl|rfl|rfl|rfl|rfl)|(⟨a,_,rfl⟩|⟨a,_,rfl⟩|rfl|rfl|rfl|rfl)<;>first|rfl|assumption
section
variable {P:Program} {Q:Exit->Act->World->Prop} {S:World->Prop}
theorem bF{ops:Array Oper}(i:Nat){oi:Oper}{fuel:Nat}{listed:Array Bool}{a:Act}{w:World}(hr:Region.ready .any ops listed=[i])(hi:ops[i]? =some oi)(hg:oi.guard=none)
 (ty:TypeId) (x y:Operand) (ho:oi.op= .store ty x y) (hd:oi.dst=none) (g:Nat) (cells:Array Value) (hx:a.eval x= .pointer (some ⟨g,0,none⟩)) (hy:a.eval y= .agg cells)
 (t:TypeId) (old:Array Value) (YT:w.heap[g]? =some (.cells old t (0,0))) (hI:(P.info? ty).map (·.size)=some cells.size) (hold:old.size=cells.size) (h1:cells.all (·.oneCell')=true)
 (hS:S (w.setRow g cells)) (h:wpAnyH P .any ops (NoPanic Q) S fuel (listed.setIfInBounds i true) a (w.setRow g cells)):wpAnyH P .any ops (NoPanic Q) S (fuel+1) listed a w:=
 ot i hr hi hg (wp_store_row ty x y ho g cells hx hy t old YT hI hold h1 (by rw[hd];exact⟨hS,h⟩))
theorem ei{o:Oper}{a:Act}{w:World}(ty:TypeId)(x:Operand)(hop:o.op= .load ty x)
 (b k:Nat) (hx:a.eval x= .pointer (some ⟨b,k,none⟩)) (cs:List Value) (d:TypeDesc) (hc:∀j v,cs[j]? =some v->w.cell? ⟨b,k+j,none⟩=some v)
 (hu:P.underlying ty=some d) (hd:ak d=true) (hi:(P.info? ty).map (·.size)=some cs.length):(execOp a.eval o).run P w= .ok (.value (.agg cs.toArray)) w:=by
 unfold execOp;simp only[hop,hx,Instr.loadAt,Instr.sureAddr,Sem.run_bind,Sem.run_pure,Result.andThen_ok,pK w b k ty cs d hc hu hd hi]
theorem bu{o:Oper}{a:Act}{w:World}(ty:TypeId)(x:Operand)(hop:o.op= .load ty x)
 (g:Nat) (hx:a.eval x= .pointer (some ⟨g,0,none⟩)) (t:TypeId) (cs:Array Value) (fr:Nat×Nat) (d:TypeDesc) (hg:w.heap[g]? =some (.cells cs t fr))
 (hu:P.underlying ty=some d) (hd:ak d=true) (hi:(P.info? ty).map (·.size)=some cs.size):(execOp a.eval o).run P w= .ok (.value (.agg cs)) w:=by
 unfold execOp;simp only[hop,hx,Instr.loadAt,Instr.sureAddr,Sem.run_bind,Sem.run_pure,Result.andThen_ok,run_loadVar_row w g t ty cs fr d hg hu (by cases d<;>simp_all [ak]) hi]
theorem mL{o:Oper}{a:Act}{w:World}(t u:TypeId)(x:Operand)(hop:o.op= .convert t u x)(v r:Value)(hx:a.eval x=v)(h:(convert t u v).run P w= .ok r w):
 (execOp a.eval o).run P w= .ok (.value r) w:=by
 unfold execOp;simp only[hop,hx,Sem.run_bind,Sem.run_pure,h,Result.andThen_ok]
end
theorem iq.stand{w:World}{mb ob po:Nat}{s:Sd}{qv ov:Value}(h:iq w mb ob po s qv ov):∀j v,(ax s)[j]? =some v->w.cell? ⟨mb,1+j,none⟩=some v:=by
 intro j v hj;unfold iq du ju at h;rw[World.cell?,h];simp only[ax]at hj
 have e:([Value.pointer (some ⟨ob,po,none⟩)]++s.act.map Value.bool++(cf s++[qv,ov]))=[Value.pointer (some ⟨ob,po,none⟩)]++((s.act.map Value.bool++cf s)++[qv,ov]):=by simp
 simp only[e];have hlt:=(List.getElem?_eq_some_iff.1 hj).1;show(([Value.pointer (some ⟨ob,po,none⟩)]++((s.act.map Value.bool++cf s)++[qv,ov])).toArray)[1+j]? =some v;rw[List.getElem?_toArray,List.getElem?_append_right (by simp),List.getElem?_append_left (by simp at hlt⊢;omega)];simpa using hj
namespace Ch
theorem rounds_succ(ol:Ol)(n:Nat)(m:Ma):rounds ol (n+1) m=if busy ol m then rounds ol n (round ol m)else m:=rfl
theorem Jc{ol:Ol}{m:Ma}(h:busy ol m=false):∀n,rounds ol n m=m:=by
 intro n
 cases n with
 |zero=>rfl
 |succ n=>rw[rounds_succ,h];rfl
end Ch
section
variable (w:World) (B mb ob po:Nat) (ol:Ol)
theorem AT(m:Ma)(n:Nat)(hn:n<=30)(hp:Pl w ob po ol)(hol:ol.Ok)(hm:Mm w B mb ob po m)(hs:m.s.Ok)(hB:B<=w.heap.size)(hz:m.Sz 500000000):
 Calls prog 72 #[.pointer (some ⟨mb,0,none⟩),.int .i64 n] w λx w'=>
  x= .returned (.tuple #[.agg (ax (Ch.finish ol n m).1).toArray,.string (Ch.finish ol n m).2.1,.int .i64 (Ch.finish ol n m).2.2])/\Kp (km B mb w) w w':=by
 obtain⟨ds,hds,eY⟩:=eT;have hr1:=heap_alloc_new w (.cells aW 95);have K1:Kp (λ_=>False) w (w.alloc (.cells aW 95)):=(Kp.refl _ _).alloc _;have hM1:=hm.still K1;have hp1:Pl (w.alloc (.cells aW 95)) ob po ol:=hp.keep K1 (λ_ _ _ _ _ x=>x);have afd:=hm.lt;clear hp hm
 go_enter func72,ntmps72
 go_wp2_with fail
 generalize w.alloc (.cells aW 95)=w1 at*;generalize hrb:w.heap.size=rb at*
 go_loopw [7] (λi wr=>∃(k:Nat) (m':Ma),i= .int .i64 k/\k<=n/\Hid (Ch.rounds ol n m=Ch.rounds ol (n-k) m')/\Mm wr B mb ob po m'/\m'.s.Ok/\m'.Sz (500000000+3900000*k)/\Kp (km B mb w1) w1 wr) (λi _=>n-(intOf i).toNat)
 case atStart=>exact⟨0,m,rfl,Nat.zero_le _,hid rfl,hM1,hs,hz,Kp.refl _ _⟩
 case round=>
  obtain⟨k,m',rfl,hk,HE,hm',hs',hz',KW⟩:=hrel;have hpr:Pl wr ob po ol:=hM1.pl KW hp1;have hrr:=hM1.at_ KW hr1 (by decide) (by decide)
  have hBr:B<=wr.heap.size:=by have:=KW.size;have:=K1.size;omega
  have E1:=hid (I_ wr B mb ob po ol m' hpr hol hm' hs');have HX:=hid (ae hm' (ae hpr (ae hrr KW)));clear hm' hpr hrr KW
  by_cases hlt:k<n
  ·have hlt':(k:Int)<(n:Int):=by omega
   have ef:n-k=(n-(k+1))+1:=by omega
   cases q:Ch.busy ol m' with
   |true=>
    rw[q]at E1;have HF:=hid (HE.out.trans (show _=Ch.rounds ol (n-(k+1)) (Ch.round ol m')by rw[ef,Ch.rounds_succ,q];rfl));have hs2:=I7 (ol:=ol) hs';have hz2:=I8 hol hz';clear HE ef
    go_wp2_with fail
    refine bH E1 ?_;rintro x w2 ⟨rfl,K2⟩;obtain⟨hm',hpr,hrr,KW⟩:=HX.out;have M2:=hm'.still K2;have hp2:Pl w2 ob po ol:=hpr.keep K2 (λ_ _ _ _ _ x=>x);have E2:=hid (Sb w2 B mb ob po ol m' hp2 hol M2 hs' (by have:=K2.size;omega) (hz'.le (by omega)));have K3:=Km.trans KW (Kp.km K2);clear hm' hpr hrr KW HX E1 M2 hp2 K2
    go_wp2_with fail
    refine bH E2 ?_;rintro x w3 ⟨rfl,M3,K4⟩;have K5:=Km.trans K3 K4;clear E2 K3 K4;go_wp2
    go_roundw
    case rel=>exact⟨k+1,_,by go_num,by omega,HF,M3,hs2,hz2.le (by omega),K5⟩
    case measure=>simp[intOf];omega
   |false=>?_
   rw[q]at E1
   have HF:=hid (show Ch.finish ol n m=(m'.s,strOfNums m'.out,0)by
    have e:=HE.out.trans (Jc q _)
    unfold Ch.finish;rw[e,q];rfl)
   clear HE ef
   go_wp2_with fail
   refine bH E1 ?_;rintro x w2 ⟨rfl,K2⟩;obtain⟨hm',hpr,hrr,KW⟩:=HX.out;have M2:=hm'.still K2;have hp2:Pl w2 ob po ol:=hpr.keep K2 (λ_ _ _ _ _ x=>x);have hr2:=K2.at_ hrr (λx=>x);have E2:=hid (I_ w2 B mb ob po ol m' hp2 hol M2 hs');rw[q]at E2;have K3:=Km.trans KW (Kp.km K2);have HY:=hid (ae M2 (ae hr2 K3));clear hm' hpr hrr KW HX E1 M2 hp2 K2 hr2 K3
   go_wp2_with fail
   refine bH E2 ?_;rintro x w3 ⟨rfl,K4⟩;obtain⟨M2,hr2,K3⟩:=HY.out;have M3:=M2.still K4;have hr3:=K4.at_ hr2 (λx=>x);have K5:=Km.trans K3 (Kp.km K4);obtain⟨qv,ov,hmb,oq,oo,ap⟩:=id M3;clear HY E2 M2 hr2 K3 K4
   go_upto_region 7 with(fail)
   refine az (λw'=>iq w' mb ob po m'.s qv ov/\cD w' B ov (ar m'.out)) (by kernel_rfl) ?_
   have hS0:iq w3.drew mb ob po m'.s qv ov/\cD w3.drew B ov (ar m'.out):=⟨hmb,oo⟩
   have Ml:(prog.info? 95).map (·.size)=some (ax m'.s).length:=by rw[bE hs'.1];exact bV
   have hne:mb≠rb:=by
    intro e;have h1:w3.heap[mb]? =some (.cells _ 149 (0,0)):=hmb;rw[e,hr3]at h1;simp at h1
   have hS1:iq (w3.drew.setRow rb (ax m'.s).toArray) mb ob po m'.s qv ov/\cD (w3.drew.setRow rb (ax m'.s).toArray) B ov (ar m'.out):=by
    have n1:=oo.ne hr3 (by decide);have KR:Kp (λk=>k=rb) w3.drew (w3.drew.setRow rb (ax m'.s).toArray):=Kp.setRow (S:=λk=>k=rb) (Kp.refl _ _) (g:=rb) (λ_=>rfl) _;exact⟨du.keep (w:=w3.drew) hmb KR hne,cD.keep (w:=w3.drew) oo KR (λi hi x=>by subst x;exact n1 hi)⟩
   have KF:Kp (km B mb w) w (w3.drew.setRow rb (ax m'.s).toArray):=((Km.trans (Kp.km K1) K5).drewN 1).setRow (λx=>by omega) _;refine eC 0 22 (.pointer (some ⟨mb,0,none⟩)) rfl (λw' _=>by rfl) hS0 ?_;refine eC 1 23 (.pointer (some ⟨mb,0,none⟩)) rfl (λw' _=>by simp[execOp,Act.eval,Act.put,go_sem]) hS0 ?_;refine eC 2 24 (.pointer (some ⟨mb,1,none⟩)) rfl (λw' _=>by simp[execOp,Act.eval,Act.put,go_sem]) hS0 ?_;refine eC 3 25 (.agg (ax m'.s).toArray) rfl (λw' hS=>ei 95 (.tmp 24) rfl mb 1 (by simp[Act.eval,Act.put]) (ax m'.s) ds hS.1.stand hds eY Ml) hS0 ?_;refine eC 4 26 (.pointer (some ⟨mb,0,none⟩)) rfl (λw' _=>by simp[execOp,Act.eval,Act.put,go_sem]) hS0 ?_;refine eC 5 27 (.pointer (some ⟨mb,0,none⟩)) rfl (λw' _=>by simp[execOp,Act.eval,Act.put,go_sem]) hS0 ?_;refine eC 6 28 (.pointer (some ⟨mb,38,none⟩)) rfl (λw' _=>by simp[execOp,Act.eval,Act.put,go_sem]) hS0 ?_;refine tk 7 29 ov rfl (by kernel_rfl) rfl rfl (λw' hS=>by have c:=hS.1.out hs'.1;simp[execOp,Act.eval,Act.put,go_sem,c]) hS0 ?_;refine eC 8 30 (.string (strOfNums m'.out)) rfl (λw' hS=>mL 47 9 (.tmp 29) rfl ov _ (by simp[Act.eval,Act.put]) (jy hS.2)) hS0 ?_;refine bF 9 (by kernel_rfl) rfl rfl 95 (.tmp 4) (.tmp 25) rfl rfl rb (ax m'.s).toArray (by simp[Act.eval,Act.put]) (by simp[Act.eval,Act.put]) 95 aW (by exact hr3) (fG hs'.1) (by rw[gz hs'.1];rfl) (j3 _) hS1 ?_;refine eC 10 5 (.string (strOfNums m'.out)) rfl (λw' _=>by simp[execOp,Act.eval,Act.put,go_sem]) hS1 ?_;refine eC 11 6 (.int .i64 0) rfl (λw' _=>by rfl) hS1 ?_;refine wpAnyH_done (by kernel_rfl) (NoPanic.normal ?_) _;simp only[Act.put,pA,pB,pC];go_wp2;refine bodyPost_ret (aq rfl _ _ rb 95 (ax m'.s).toArray (0,0) ds rfl (setRow_heap w3.drew _ _ _ _ _ (by exact hr3)) hds eY (fG hs'.1)) rfl ?_;rw[HF.out];exact⟨rfl,KF⟩
  have hge:¬(k:Int)<(n:Int):=by omega
  have ek:n-k=0:=by omega
  cases q:Ch.busy ol m' with
  |true=>
   rw[q]at E1
   have HF:=hid (show Ch.finish ol n m=(jH,ByteArray.empty,9)by
    have e:Ch.rounds ol n m=m':=HE.out.trans (by rw[ek];rfl)
    unfold Ch.finish;rw[e,q];rfl)
   clear HE ek
   go_wp2_with fail
   refine bH E1 ?_;rintro x w2 ⟨rfl,K2⟩;obtain⟨hm',hpr,hrr,KW⟩:=HX.out;have hr2:=K2.at_ hrr (λx=>x);have K3:=Km.trans (Kp.km K1) (Km.trans KW (Kp.km K2));have KF:Kp (km B mb w) w (w2.setRow rb aW):=K3.setRow (λx=>by omega) _;clear hm' hpr hrr KW HX E1 K2 K3
   go_wp2_with (refine wpList_store_row rfl 95 (.tmp 4) (.tmp 21) rfl rb aW rfl rfl 95 aW hr2 bV rfl vo ?_)
   refine bodyPost_ret (aq rfl _ _ rb 95 aW (0,0) ds rfl (setRow_heap _ _ _ _ _ _ hr2) hds eY bV) rfl ?_;rw[HF.out];exact⟨rfl,KF⟩
  |false=>?_
  rw[q]at E1
  have HF:=hid (show Ch.finish ol n m=(m'.s,strOfNums m'.out,0)by
   have e:Ch.rounds ol n m=m':=HE.out.trans (by rw[ek];rfl)
   unfold Ch.finish;rw[e,q];rfl)
  clear HE ek
  go_wp2_with fail
  refine bH E1 ?_;rintro x w3 ⟨rfl,K4⟩;obtain⟨hm',hpr,hrr,KW⟩:=HX.out;have M3:=hm'.still K4;have hr3:=K4.at_ hrr (λx=>x);have K5:=Km.trans KW (Kp.km K4);obtain⟨qv,ov,hmb,oq,oo,ap⟩:=id M3;clear HX E1 hm' hpr hrr KW K4
  go_upto_region 7 with(fail)
  refine az (λw'=>iq w' mb ob po m'.s qv ov/\cD w' B ov (ar m'.out)) (by kernel_rfl) ?_
  have hS0:iq w3.drew mb ob po m'.s qv ov/\cD w3.drew B ov (ar m'.out):=⟨hmb,oo⟩
  have Ml:(prog.info? 95).map (·.size)=some (ax m'.s).length:=by rw[bE hs'.1];exact bV
  have hne:mb≠rb:=by
   intro e;have h1:w3.heap[mb]? =some (.cells _ 149 (0,0)):=hmb;rw[e,hr3]at h1;simp at h1
  have hS1:iq (w3.drew.setRow rb (ax m'.s).toArray) mb ob po m'.s qv ov/\cD (w3.drew.setRow rb (ax m'.s).toArray) B ov (ar m'.out):=by
   have n1:=oo.ne hr3 (by decide);have KR:Kp (λk=>k=rb) w3.drew (w3.drew.setRow rb (ax m'.s).toArray):=Kp.setRow (S:=λk=>k=rb) (Kp.refl _ _) (g:=rb) (λ_=>rfl) _;exact⟨du.keep (w:=w3.drew) hmb KR hne,cD.keep (w:=w3.drew) oo KR (λi hi x=>by subst x;exact n1 hi)⟩
  have KF:Kp (km B mb w) w (w3.drew.setRow rb (ax m'.s).toArray):=((Km.trans (Kp.km K1) K5).drewN 1).setRow (λx=>by omega) _;refine eC 0 22 (.pointer (some ⟨mb,0,none⟩)) rfl (λw' _=>by rfl) hS0 ?_;refine eC 1 23 (.pointer (some ⟨mb,0,none⟩)) rfl (λw' _=>by simp[execOp,Act.eval,Act.put,go_sem]) hS0 ?_;refine eC 2 24 (.pointer (some ⟨mb,1,none⟩)) rfl (λw' _=>by simp[execOp,Act.eval,Act.put,go_sem]) hS0 ?_;refine eC 3 25 (.agg (ax m'.s).toArray) rfl (λw' hS=>ei 95 (.tmp 24) rfl mb 1 (by simp[Act.eval,Act.put]) (ax m'.s) ds hS.1.stand hds eY Ml) hS0 ?_;refine eC 4 26 (.pointer (some ⟨mb,0,none⟩)) rfl (λw' _=>by simp[execOp,Act.eval,Act.put,go_sem]) hS0 ?_;refine eC 5 27 (.pointer (some ⟨mb,0,none⟩)) rfl (λw' _=>by simp[execOp,Act.eval,Act.put,go_sem]) hS0 ?_;refine eC 6 28 (.pointer (some ⟨mb,38,none⟩)) rfl (λw' _=>by simp[execOp,Act.eval,Act.put,go_sem]) hS0 ?_;refine tk 7 29 ov rfl (by kernel_rfl) rfl rfl (λw' hS=>by have c:=hS.1.out hs'.1;simp[execOp,Act.eval,Act.put,go_sem,c]) hS0 ?_;refine eC 8 30 (.string (strOfNums m'.out)) rfl (λw' hS=>mL 47 9 (.tmp 29) rfl ov _ (by simp[Act.eval,Act.put]) (jy hS.2)) hS0 ?_;refine bF 9 (by kernel_rfl) rfl rfl 95 (.tmp 4) (.tmp 25) rfl rfl rb (ax m'.s).toArray (by simp[Act.eval,Act.put]) (by simp[Act.eval,Act.put]) 95 aW (by exact hr3) (fG hs'.1) (by rw[gz hs'.1];rfl) (j3 _) hS1 ?_;refine eC 10 5 (.string (strOfNums m'.out)) rfl (λw' _=>by simp[execOp,Act.eval,Act.put,go_sem]) hS1 ?_;refine eC 11 6 (.int .i64 0) rfl (λw' _=>by rfl) hS1 ?_;refine wpAnyH_done (by kernel_rfl) (NoPanic.normal ?_) _;simp only[Act.put,pA,pB,pC];go_wp2;refine bodyPost_ret (aq rfl _ _ rb 95 (ax m'.s).toArray (0,0) ds rfl (setRow_heap w3.drew _ _ _ _ _ (by exact hr3)) hds eY (fG hs'.1)) rfl ?_;rw[HF.out];exact⟨rfl,KF⟩
end
theorem Gw{B mb:Nat}{w0 w w':World}(hA:Kp (λ_=>False) w0 w)(k:Kp (km B mb w) w w')(hB:w0.heap.size<=B)(hm:w0.heap.size<=mb):Kp (λ_=>False) w0 w':=
 hA.trans' k (λi hi x=>by rcases x with x|⟨x,_⟩<;>omega)
theorem Mm.new{w:World}{B mb ob po:Nat}{s:Sd}(h:w.heap[mb]? =some (.cells (U_ (some ⟨ob,po,none⟩) s) 149 (0,0))):Mm w B mb ob po ⟨s,[],[]⟩:=
 ⟨.slice none 0 0,.slice none 0 0,iq.ofRow h,.inl ⟨rfl,rfl⟩,.inl ⟨rfl,rfl⟩,λi hi=>by simp[Value.ownBlock]at hi⟩
theorem ZA(ol:Ol):InT ol []:=by intro n hn;simp at hn
namespace Ch
theorem Sc{ol:Ol}:∀(n:Nat) {m:Ma},m.s.Ok->(rounds ol n m).s.Ok:=by
 intro n
 induction n with
 |zero=>intro m h;exact h
 |succ n ih=>?_
 intro m h;rw[rounds_succ]
 split
 ·exact ih (I7 h)
 exact h
theorem Gx:jH.Ok:=⟨kC,by simp[jH],by simp[jH]⟩
theorem uz{ol:Ol}{m:Ma}(h:m.s.Ok)(n:Nat):(finish ol n m).1.Ok:=by
 unfold finish
 split
 ·exact Gx
 exact Sc n h
theorem Ea{ol:Ol}{m:Ma}(h:m.s.Ok)(n:Nat):(finish ol n m).1.Wf:=(uz h n).1
end Ch
section
variable (w:World) (ob po:Nat) (ol:Ol)
theorem AU(hp:Pl w ob po ol)(hol:ol.Ok):
 Calls prog 43 #[.pointer (some ⟨ob,po,none⟩)] w λx w'=>
  x= .returned (.tuple #[.agg (ax (Ch.mstart ol).1).toArray,.string (Ch.mstart ol).2.1,.int .i64 (Ch.mstart ol).2.2])/\Kp (λ_=>False) w w':=by
 obtain⟨ds,hds,eY⟩:=eT;have hwf:=ny ol.ag;have hok:=rC ol.ag;have HB:=hid (AR (some ⟨ob,po,none⟩) (bM ol.ag) hwf);have hr1:=heap_alloc_new w (.cells aW 95);have K1:Kp (λ_=>False) w (w.alloc (.cells aW 95)):=(Kp.refl _ _).alloc _;have hp1:Pl (w.alloc (.cells aW 95)) ob po ol:=hp.keep K1 (λ_ _ _ _ _ x=>x);have E0:=hid (RE ob po (w.alloc (.cells aW 95)) ol.ag hp1.str);have HU:=hid (show Ch.mstart ol=Ch.finish ol 30 (Ch.enter ol ⟨bM ol.ag,[],[]⟩ [])from rfl);have mI:=Ja (some ⟨ob,po,none⟩) hwf;have mS:=AS (some ⟨ob,po,none⟩) hwf;have mO:=Qe (some ⟨ob,po,none⟩) (bM ol.ag);clear hp
 go_enter func43,ntmps43
 go_wp2_with fail
 refine bH E0 ?_;rintro x w2 ⟨rfl,K2⟩;have hr2:=K2.at_ hr1 (λx=>x);have hp2:Pl w2 ob po ol:=hp1.keep K2 (λ_ _ _ _ _ x=>x);have KA:=K1.trans K2;have hsz2:w.heap.size<w2.heap.size:=lt_of_block hr2;have hnew:=heap_alloc_new w2 (.cells xO 149);have hmr:=setRow_heap (w2.alloc (.cells xO 149)) w2.heap.size xO (U_ (some ⟨ob,po,none⟩) (bM ol.ag)) 149 (0,0) hnew;have K3:Kp (λ_=>False) w2 ((w2.alloc (.cells xO 149)).setRow w2.heap.size (U_ (some ⟨ob,po,none⟩) (bM ol.ag))):=((Kp.refl _ _).alloc _).setRow (λx=>by omega) _;have M3:=Mm.new (B:=w.heap.size) hmr;have hp3:=hp2.keep K3 (λ_ _ _ _ _ x=>x);have hr3:=K3.at_ hr2 (λx=>x);have KB:=KA.trans K3;clear hr1 hp1 hr2 hp2 K1 K2 KA K3 E0 hmr;generalize (ax (bM ol.ag)).toArray=BL at*;generalize U_ (some ⟨ob,po,none⟩) (bM ol.ag)=MA at*
 go_wp2_with (first|(refine bX rfl 149 #[(0,.tmp 6),(1,.tmp 8)] rfl MA [(0,.pointer (some ⟨ob,po,none⟩)),(1,.agg BL)] ?_ HB.out ?_;rfl)|refine wpList_store_row rfl 149 (.tmp 5) (.tmp 9) rfl w2.heap.size MA rfl rfl 149 xO hnew mI (by rw[mS];rfl) mO ?_)
 generalize (w2.alloc (.cells xO 149)).setRow w2.heap.size MA=w3 at*;generalize w2.heap.size=mb at*;have hB3:w.heap.size<=w3.heap.size:=KB.size;have E1:=hid (D_ w3 w.heap.size mb ob po ol ⟨bM ol.ag,[],[]⟩ (.slice none 0 0) [] ⟨0,World.ownsRow_nil _ _ _ _⟩ (ZA ol) (by simp) hp3 hol M3 hok hB3 ⟨by simp,by simp⟩);have afe:=s_ (ol:=ol) (m:=⟨bM ol.ag,[],[]⟩) hok [];have Zw:=wA hol (m:=⟨bM ol.ag,[],[]⟩) (n:=0) ⟨by simp,by simp⟩ [];have HX:=hid (ae M3 (ae hp3 (ae hr3 KB)));clear hnew mI mS mO HB M3 hp3 hr3 KB
 go_wp2_with fail
 refine bH E1 ?_;rintro x w4 ⟨rfl,M4,K4⟩;obtain⟨M3,hp3,hr3,KB⟩:=HX.out;have uU:=M3.pl K4 hp3;have hr4:=M3.at_ K4 hr3 (by decide) (by decide);have KC:=Gw KB K4 (Nat.le_refl _) (by omega);generalize Zu:Ch.enter ol ⟨bM ol.ag,[],[]⟩ []=m4 at*;have HM4:=hid Zu;clear Zu;have E2:=hid (AT w4 w.heap.size mb ob po ol m4 30 (by omega) uU hol M4 afe KC.size (Zw.le (by omega)));have HY:=hid (ae M4 (ae hr4 KC));clear M3 hp3 hr3 KB HX K4 E1 uU M4 hr4 KC
 go_wp2_with fail
 refine bH E2 ?_;rintro x w5 ⟨rfl,K5⟩;obtain⟨M4,hr4,KC⟩:=HY.out;have jV:=M4.at_ K5 hr4 (by decide) (by decide);have KD:=Gw KC K5 (Nat.le_refl _) (by omega);clear M4 hr4 KC HY K5 E2;generalize hf:Ch.finish ol 30 m4=fr at*;obtain⟨fs,ft,fe⟩:=fr
 have hfw:fs.Wf:=by
  have:(Ch.finish ol 30 m4).1=fs:=by rw[hf]
  rw[<-this];exact Ea afe _
 have HF:=hid hf;clear hf;have fI:=fG hfw;have fS:=gz hfw;have fO:=j3 fs;have KF:Kp (λ_=>False) w (w5.setRow w.heap.size (ax fs).toArray):=KD.setRow (λx=>by omega) _;simp only;generalize yT:(ax fs).toArray=FA at*;have HA:=hid yT;clear yT
 go_wp2_with (refine wpList_store_row rfl 95 (.tmp 2) (.tmp 12) rfl w.heap.size FA rfl rfl 95 aW jV fI (by rw[fS];rfl) fO ?_)
 refine bodyPost_ret (aq rfl _ _ w.heap.size 95 FA (0,0) ds rfl (setRow_heap _ _ _ _ _ _ jV) hds eY fI) rfl ?_
 first|rw[HU.out,HM4.out,HF.out,<-HA.out]|rw[HU.out,HF.out,<-HA.out]|rw[HU.out,<-HA.out]
 exact⟨rfl,by rw[HA.out];exact KF⟩
theorem yd(s:Sd)(ev:Int)(hok:s.Ok)(hp:Pl w ob po ol)(hol:ol.Ok):
 Calls prog 57 #[.pointer (some ⟨ob,po,none⟩),.agg (ax s).toArray,.int .u8 ev] w λx w'=>
  x= .returned (.tuple #[.agg (ax (aQ ol s ev).1).toArray,.string (aQ ol s ev).2.1,.int .i64 (aQ ol s ev).2.2])/\Kp (λ_=>False) w w':=by
 obtain⟨ds,hds,eY⟩:=eT;have hwf:=hok.1;have HB:=hid (AR (some ⟨ob,po,none⟩) s hwf);have HU:=hid (show aQ ol s ev=Ch.finish ol 29 (cd ol ⟨s,[],[]⟩ (Ch.choose ol s ev))from rfl);have mI:=Ja (some ⟨ob,po,none⟩) hwf;have mS:=AS (some ⟨ob,po,none⟩) hwf;have mO:=Qe (some ⟨ob,po,none⟩) s;have sI:=fG hwf
 have hb1:((w.alloc (.cells (ax s).toArray 95)).alloc (.cells aW 95)).heap[w.heap.size]? =some (.cells (ax s).toArray 95):=by
  rw[Below.heap_alloc _ _ _ (by simp)];exact heap_alloc_new _ _
 have hr1:((w.alloc (.cells (ax s).toArray 95)).alloc (.cells aW 95)).heap[w.heap.size+1]? =some (.cells aW 95):=heap_alloc2_new w _ _;have K1:Kp (λ_=>False) w ((w.alloc (.cells (ax s).toArray 95)).alloc (.cells aW 95)):=((Kp.refl _ _).alloc _).alloc _
 have hs1:w.heap.size+1<((w.alloc (.cells (ax s).toArray 95)).alloc (.cells aW 95)).heap.size:=by simp
 have hp1:=hp.keep K1 (λ_ _ _ _ _ x=>x);obtain⟨hin,h16⟩:=j4 ol s ev;have uT:=hol.ag;clear hp;generalize ye:(ax s).toArray=SA at*;generalize hMA:U_ (some ⟨ob,po,none⟩) s=MA at*;have HMA:=hid hMA;clear ye hMA
 go_enter func57,ntmps57
 go_upto_region 1 with(fail)
 generalize (w.alloc (.cells SA 95)).alloc (.cells aW 95)=w2 at*;have hnew:=heap_alloc_new w2 (.cells xO 149);have hmr:=setRow_heap (w2.alloc (.cells xO 149)) w2.heap.size xO MA 149 (0,0) hnew;have K3:Kp (λ_=>False) w2 ((w2.alloc (.cells xO 149)).setRow w2.heap.size MA):=((Kp.refl _ _).alloc _).setRow (λx=>by omega) _;have M3:Mm ((w2.alloc (.cells xO 149)).setRow w2.heap.size MA) w.heap.size w2.heap.size ob po ⟨s,[],[]⟩:=Mm.new (by rw[HMA.out];exact hmr);have hp3:=hp1.keep K3 (λ_ _ _ _ _ x=>x);have hr3:=K3.at_ hr1 (λx=>x);have KB:=K1.trans K3;have HX:=hid (ae M3 (ae hp3 (ae hr3 KB)));clear hr1 hp1 K1 K3 hmr M3 hp3 hr3 KB
 go_wp2_with (first|refine wpList_load_row rfl 95 (.tmp 4) rfl w.heap.size rfl 95 SA (0,0) ds hb1 hds (by cases ds<;>first|rfl|exact absurd eY (by simp[ak])) sI ?_|(refine bX rfl 149 #[(0,.tmp 11),(1,.tmp 12)] rfl MA [(0,.pointer (some ⟨ob,po,none⟩)),(1,.agg SA)] ?_ HB.out ?_;rfl)|refine wpList_store_row rfl 149 (.tmp 9) (.tmp 13) rfl w2.heap.size MA rfl rfl 149 xO hnew mI (by rw[mS];rfl) mO ?_)
 generalize (w2.alloc (.cells xO 149)).setRow w2.heap.size MA=w3 at*;generalize w2.heap.size=mb at*;obtain⟨M3,hp3,hr3,KB⟩:=HX.out;obtain⟨qv,ov,hmm,_⟩:=id M3;have E0:=hid (nI w3 mb ob po s qv ov ol ev hmm hwf hp3 hol);clear hnew mI mS mO HB M3 hp3 hr3 KB hb1 sI hmm
 go_wp2_with fail
 refine bH E0 ?_;rintro x w4 ⟨v4,rfl,h4,K4⟩;obtain⟨M3,hp3,hr3,KB⟩:=HX.out;have M4:=M3.still K4;have uU:=hp3.keep K4 (λ_ _ _ _ _ x=>x);have hr4:=K4.at_ hr3 (λx=>x);have KC:=KB.trans K4;generalize hch:Ch.choose ol s ev=list at*;have HCH:=hid hch;clear hch;have E1:=hid (pU w4 w.heap.size mb ob po ol ⟨s,[],[]⟩ v4 list h4 hin (by omega) uU hol M4 hok KC.size ⟨by simp,by simp⟩);have aff:=nG (ol:=ol) (m:=⟨s,[],[]⟩) hok list;have hz5:=pT hol (m:=⟨s,[],[]⟩) (n:=0) ⟨by simp,by simp⟩ (list:=list) (by omega);have HY:=hid (ae M4 (ae uU (ae hr4 KC)));clear M3 hp3 hr3 KB HX K4 E0 M4 uU hr4 KC h4
 go_wp2_with fail
 refine bH E1 ?_;rintro x w5 ⟨rfl,M5,K5⟩;obtain⟨M4,uU,hr4,KC⟩:=HY.out;have xJ:=M4.pl K5 uU;have jV:=M4.at_ K5 hr4 (by decide) (by decide);have KD:=Gw KC K5 (Nat.le_refl _) (by omega);generalize Zu:cd ol ⟨s,[],[]⟩ list=m4 at*;have HM4:=hid Zu;clear Zu;have E2:=hid (AT w5 w.heap.size mb ob po ol m4 29 (by omega) xJ hol M5 aff KD.size (hz5.le (by omega)));have HZ:=hid (ae M5 (ae jV KD));clear M4 uU hr4 KC HY K5 E1 xJ M5 jV KD
 go_wp2_with fail
 refine bH E2 ?_;rintro x w6 ⟨rfl,K6⟩;obtain⟨M5,jV,KD⟩:=HZ.out;have s9:=M5.at_ K6 jV (by decide) (by decide);have KE:=Gw KD K6 (Nat.le_refl _) (by omega);clear M5 jV KD HZ K6 E2;generalize hf:Ch.finish ol 29 m4=fr at*;obtain⟨fs,ft,fe⟩:=fr
 have hfw:fs.Wf:=by
  have:(Ch.finish ol 29 m4).1=fs:=by rw[hf]
  rw[<-this];exact Ea aff _
 have HF:=hid hf;clear hf;have fI:=fG hfw;have fS:=gz hfw;have fO:=j3 fs;have KF:Kp (λ_=>False) w (w6.setRow (w.heap.size+1) (ax fs).toArray):=KE.setRow (λx=>by omega) _;simp only;generalize yT:(ax fs).toArray=FA at*;have HA:=hid yT;clear yT
 go_wp2_with (refine wpList_store_row rfl 95 (.tmp 6) (.tmp 19) rfl (w.heap.size+1) FA rfl rfl 95 aW s9 fI (by rw[fS];rfl) fO ?_)
 refine bodyPost_ret (aq rfl _ _ (w.heap.size+1) 95 FA (0,0) ds rfl (setRow_heap _ _ _ _ _ _ s9) hds eY fI) rfl ?_
 first|rw[HU.out,HCH.out,HM4.out,HF.out,<-HA.out]|rw[HU.out,HM4.out,HF.out,<-HA.out]|rw[HU.out,HF.out,<-HA.out]|rw[HU.out,<-HA.out]
 exact⟨rfl,by rw[HA.out];exact KF⟩
end
end Go.Proofs.YtnlbchmfcebeeaaGreat
