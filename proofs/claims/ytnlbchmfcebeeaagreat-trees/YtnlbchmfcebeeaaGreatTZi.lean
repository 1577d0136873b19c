import Derived.Test.YtnlbchmfcebeeaaGreatTZb
set_option maxHeartbeats 12800000
set_option maxRecDepth 100000
namespace Go.Proofs.YtnlbchmfcebeeaaGreat
open Go.Proofs.Tryz Ch
open Go.RowKit
namespace Ch
theorem Fz(k:Nat)(sg:Int):∀(l:List Bl) (m:Ma),df k sg l m=kT (l.filter (lS k sg)) m:=by
 intro l
 induction l with
 |nil=>intro m;rfl
 |cons b l ih=>?_
 intro m;simp only[df];rw[ih,List.filter_cons];have:((b.state==(k:Int))&&(b.sign==sg))=lS k sg b:=rfl;rw[this]
 cases lS k sg b<;>rfl
theorem Cv{bs:List Bl}{k:Nat}{b:Bl}(h:bs[k]? =some b)(m:Ma):kT (bs.take (k+1)) m=cJ b.acts (kT (bs.take k) m):=by
 unfold kT;rw[List.take_add_one,h,List.foldl_append];rfl
theorem Kv{s:ByteArray}{rz:List Ac}(h:dW s=enc rz)(hl:rz.length<=240):s.size<=1000:=by
 rw[<-bz,h]
 have:∀l:List Ac,(enc l).length<=3*l.length:=by
  intro l
  induction l with
  |nil=>simp[enc]
  |cons a l ih=>?_
  rw[Cq]
  have:(vq a).length<=3:=by unfold vq;split<;>simp
  simp;omega
 have:=this rz;omega
end Ch
theorem FB{l:List ByteArray}{k:Nat}{t:ByteArray}(h:l[k]? =some t):(kF l)[k]? =some (.string t):=by simp[kF,h]
section
variable (w:World) (B B2 xb cb g:Nat) (pv v:Value) (l:List NV) (ol:Ol) (m:Ma)
theorem Kw(i N:Nat)(h:lW w B B2 xb cb g pv v l ol m)(hR:Rf l ol)(hM:o_ m N)(hN:N<=900000000)(hi:i<l.length):
 Calls prog 240 #[.pointer (some ⟨xb,0,none⟩),.int .i64 i] w λy w'=>y= .returned (.tuple #[])/\lW w' B B2 xb cb g pv v l ol (bY ol m i)/\Kp (nS xb g pv) w w':=by
 have hle:=hR.le;obtain⟨ao,cap,rfl⟩:=h.ch.2.1.len
 have hi':(i:Int)<(l.length:Int):=by omega
 obtain⟨on,hon,hso⟩:=h.on;have c1:w.cell? ⟨xb,1,none⟩=some (.slice (some ⟨g,0,none⟩) l.length l.length):=h.nb.cell 1;have DE:=hon.cell (k:=i) (by have:=hso.1;omega);have fon:=hon.free i;have sC:=hon.set i true;have K1:Kp (λk=>k=g) w (w.setCell ⟨g,i,none⟩ (.bool true)):=(Kp.refl _ _).setCell (by intro _;rfl) _
 have hX1:lW (w.setCell ⟨g,i,none⟩ (.bool true)) B B2 xb cb g pv (.slice ao l.length cap) l ol (cK m i true):=by
  refine⟨h.nb.keep K1 h.xg,⟨on.set i true,sC,hso.set hi hle⟩,?_,h.chart (K1.mono (λ_ _ e=>.inr (.inl e)))⟩;exact eu.keep h.ps K1 (λj hj e=>h.pg (by rw[hj,e]))
 have hM1:o_ (cK m i true) N:=⟨k_ hM.ok _ _,hM.tm,hM.sz⟩
 have HX:=hid (ae hX1 (ae hM1 (K1.mono (S':=nS xb g pv) (λ_ _ e=>.inr (.inl e)))));clear hX1 hM1 K1 sC hon h
 go_enter func240,ntmps240
 go_upto_region 1 with(fail)
 generalize w.setCell ⟨g,i,none⟩ (.bool true)=w1 at*
 obtain⟨x,hx⟩:∃x,l[i]? =some x:=⟨_,List.getElem?_eq_getElem hi⟩
 have hF1:=HX.out.1.ch;have c0:w1.cell? ⟨xb,0,none⟩=some (.pointer (some ⟨cb,0,none⟩)):=HX.out.1.nb.cell 0;have zc:=hF1.cell;obtain⟨g1,cap',hv,hBg,hcell,hfr⟩:=hF1.2.1.form hx;simp only[Value.slice.injEq]at hv;obtain⟨rfl,-,rfl⟩:=hv;have hxm:=List.mem_of_getElem? hx;have z0:w1.cell? ⟨g1,i*7,none⟩=some (.int .u8 x.n.name):=hcell 0 (by omega);have z1:w1.cell? ⟨g1,i*7+1,none⟩=some (.int .i64 x.n.kind):=hcell 1 (by omega);have z2:w1.cell? ⟨g1,i*7+2,none⟩=some (.int .i64 x.n.parent):=hcell 2 (by omega);have z3:w1.cell? ⟨g1,i*7+3,none⟩=some (.int .i64 x.n.pos):=hcell 3 (by omega);have z4:w1.cell? ⟨g1,i*7+4,none⟩=some x.ev:=hcell 4 (by omega);have z5:w1.cell? ⟨g1,i*7+5,none⟩=some x.lv:=hcell 5 (by omega);have z6:w1.cell? ⟨g1,i*7+6,none⟩=some x.tv:=hcell 6 (by omega);obtain⟨ea,ec,hev⟩:=aF (hF1.2.1.rR x hxm);obtain⟨la,lc,hlv⟩:=aF (hF1.2.1.rD x hxm);obtain⟨ta,tc,Tv⟩:=aF (hF1.2.1.iX x hxm);have hent:=hF1.2.1.rR x hxm;rw[hev]at z4 hent;rw[hlv]at z5;rw[Tv]at z6;have K3:Kp (λ_=>False) w1 (w1.alloc (.cells #[.int .u8 x.n.name,.int .i64 x.n.kind,.int .i64 x.n.parent,.int .i64 x.n.pos,.slice ea x.n.enter.length ec,.slice la x.n.leave.length lc,.slice ta x.n.trans.length tc] 223)):=(Kp.refl _ _).alloc _;have hb3:=heap_alloc_new w1 (.cells #[.int .u8 x.n.name,.int .i64 x.n.kind,.int .i64 x.n.parent,.int .i64 x.n.pos,.slice ea x.n.enter.length ec,.slice la x.n.leave.length lc,.slice ta x.n.trans.length tc] 223);have hfa:=hR.rR i x hx;have HEL:=hid hfa.len
 have hbl:∀b∈ol.dz.filter (lS i 94),(∀a∈b.acts,uB a)/\b.acts.length<=240:=λb hb=>by
  obtain⟨_,_,hok⟩:=hfa.right hb;exact⟨hok.ac,(hR.ok.rh b (List.mem_filter.1 hb).1).1⟩
 have hfl:(ol.dz.filter (lS i 94)).length<=240:=Nat.le_trans (List.length_filter_le _ _) hR.ok.dz
 have agj:x.n.enter.length<=240:=by rw[hfa.len];exact hfl
 have hen:df i 94 ol.dz (cK m i true)=kT (ol.dz.filter (lS i 94)) (cK m i true):=Fz i 94 _ _
 have hes:bY ol m i=if x.n.kind==4 then eR ol.ag (kT (ol.dz.filter (lS i 94)) (cK m i true)) x.n.parent else kT (ol.dz.filter (lS i 94)) (cK m i true):=by
  unfold bY;rw[hen,hR.kind hx,hR.par hx]
 have hX2:=HX.out.1.ai K3;have HQ:=hid (ae hX2 (ae HX.out.2.1 (ae (HX.out.2.2.trans' K3 (λ_ _ x=>x.elim)) (ae (K3.owns hent (λ_ _ x=>x)) (ae hfa (ae hbl hes))))));clear hF1 hcell hfr hent hX2 hfa hbl hen hes HX c1 DE fon
 go_upto_region 2 with(fail)
 generalize w1.alloc (.cells #[.int .u8 x.n.name,.int .i64 x.n.kind,.int .i64 x.n.parent,.int .i64 x.n.pos,.slice ea x.n.enter.length ec,.slice la x.n.leave.length lc,.slice ta x.n.trans.length tc] 223)=w2 at*;generalize w1.heap.size=nb at*;generalize ol.dz.filter (lS i 94)=fl at*;clear z0 z1 z2 z3 z4 z5 z6 zc c0 hev hlv Tv K3
 have Vk:¬nS xb g pv nb:=λe=>by
  have hx2:=HQ.out.1
  rcases e with e|e|e
  ·have h1:=hx2.nb
   unfold fy at h1;rw[<-e,hb3]at h1;simp only[Option.some.injEq,Obj.cells.injEq]at h1;exact absurd h1.2.1 (by decide)
  ·obtain⟨on',ho',_⟩:=hx2.on
   unfold iH at ho';rw[<-e,hb3]at ho';simp only[Option.some.injEq,Obj.cells.injEq]at ho';exact absurd ho'.2.1 (by decide)
  exact eu.ne hx2.ps hb3 (by decide) e
 go_wp2_with fail
 go_loopw [5] (λkv wr=>∃k:Nat,kv= .int .i64 k/\k<=x.n.enter.length/\Hid (lW wr B B2 xb cb g pv (.slice (some ⟨g1,0,none⟩) l.length cap) l ol (kT (fl.take k) (cK m i true)))/\Hid (o_ (kT (fl.take k) (cK m i true)) (N+480*k))/\Kp (nS xb g pv) w2 wr) (λkv _=>x.n.enter.length-(intOf kv).toNat)
 case atStart=>exact⟨0,rfl,Nat.zero_le _,hid HQ.out.1,hid HQ.out.2.1,Kp.refl _ _⟩
 case round=>
  obtain⟨k,rfl,hk,Ky,Mv,KW⟩:=hrel;have hbr:=KW.at_ hb3 Vk
  have n1:wr.cell? ⟨nb,1,none⟩=some (.int .i64 x.n.kind):=by rw[World.cell?,hbr];rfl
  have n2:wr.cell? ⟨nb,2,none⟩=some (.int .i64 x.n.parent):=by rw[World.cell?,hbr];rfl
  have n4:wr.cell? ⟨nb,4,none⟩=some (.slice ea x.n.enter.length ec):=by rw[World.cell?,hbr];rfl
  by_cases hlt:k<x.n.enter.length
  ·have hlt':(k:Int)<(x.n.enter.length:Int):=by omega
   obtain⟨t,ht⟩:∃t,x.n.enter[k]? =some t:=⟨_,List.getElem?_eq_getElem hlt⟩
   obtain⟨b,hb,hok⟩:=HQ.out.2.2.2.2.1.adn ht;have hbb:=HQ.out.2.2.2.2.2.1 b (List.mem_of_getElem? hb)
   have her:wr.ownsRow B 9 1 (.slice ea x.n.enter.length ec) x.n.enter.length (kF x.n.enter):=KW.owns HQ.out.2.2.2.1 (λj hj e=>by
    have hx2:=HQ.out.1
    obtain⟨g9,aaF,Xz,hh9,_,adx,_⟩:∃g9 aaF Xz,(Value.slice ea x.n.enter.length ec)= .slice (some ⟨g9,0,none⟩) x.n.enter.length aaF/\B<=g9/\w2.heap[g9]? =some (.cells Xz 9 (0,0))/\True:=by
     rcases HQ.out.2.2.2.1.2 with⟨_,h0⟩|⟨g9,aaF,Xz,h1,h2,h3,_⟩
     ·omega
     exact⟨g9,aaF,Xz,h1,h2,h3,trivial⟩
    have hjg:j=g9:=by rw[hh9]at hj;simpa[Value.ownBlock]using hj.symm
    subst hjg
    rcases e with e|e|e
    ·have h1:=hx2.nb
     unfold fy at h1;rw[<-e,adx]at h1;simp only[Option.some.injEq,Obj.cells.injEq]at h1;exact absurd h1.2.1 (by decide)
    ·obtain⟨on',ho',_⟩:=hx2.on
     unfold iH at ho';rw[<-e,adx]at ho';simp only[Option.some.injEq,Obj.cells.injEq]at ho';exact absurd ho'.2.1 (by decide)
    exact eu.ne hx2.ps adx (by decide) e)
   obtain⟨g3,xk,hv3,_⟩:=World.ownsRow.form her (by omega);simp only[Value.slice.injEq]at hv3;obtain⟨rfl,-,rfl⟩:=hv3;have zt:=(World.ownsRow.cellAt her k (by omega)).trans (FB ht);have E:=hid (yG wr xb cb g l.length pv _ b.acts t Ky.out.nb hok.txt hbb.1 Mv.out.ok Mv.out.tm ⟨by have:=Mv.out.sz.1;omega,by have:=Mv.out.sz.2;omega⟩ (by omega) (Kv hok.txt hbb.2));have IC:=hid (Cv hb (cK m i true));have HAP:=hid (p_ b.acts (kT (fl.take k) (cK m i true)));have Ub:=hid (Mv.out.acts hbb.1 hbb.2);clear her hbr
   go_wp2_with fail
   refine hm E ?_;rintro z w5 ⟨rfl,N5,K5⟩;have X5:=hid (Ky.out.acts K5 N5 HAP.out);have Vj:Kp (nS xb g pv) w2 w5:=KW.trans' K5 (λ_ _ e=>.inl e);clear E N5 K5 n1 n2 n4 zt;go_wp2
   go_roundw
   case rel=>exact⟨k+1,by go_num,by omega,hid (by rw[IC.out];exact X5.out),hid (by rw[IC.out];exact Ub.out.le (by omega)),Vj⟩
   case measure=>simp[intOf];omega
  have hge:¬(k:Int)<(x.n.enter.length:Int):=by omega
  obtain rfl:k=x.n.enter.length:=by omega
  have ID:=Ky.out;have hMr:=Mv.out;have hes:=HQ.out.2.2.2.2.2.2;rw[HEL.out,List.take_length]at ID hMr;have KF:=HQ.out.2.2.1.trans KW;generalize kT fl (cK m i true)=ma at*
  cases q4:x.n.kind !=4 with
  |true=>
   have q4':(x.n.kind==4)=false:=by simpa using q4
   rw[q4']at hes;have HN:=hid (ae (hes.trans rfl) (ae ID KF));clear ID hMr hes KF hbr Ky Mv;go_wp2;refine bodyPost_ret (results_none rfl _ _ _) rfl ?_;rw[HN.out.1];exact⟨rfl,HN.out.2.1,HN.out.2.2⟩
  |false=>?_
  have e4:x.n.kind=4:=by simpa using q4
  rw[e4]at hes;replace hes:=hes.trans rfl;have hsh:=hR.iP.qg.hs i (by rw[hR.len];exact hi) (.inr (by rw[hR.kind hx];exact e4));obtain⟨p,yi,agi⟩:=hR.iP.qg.par hsh.1 (by rw[hR.len];exact hi);rw[hR.par hx]at yi
  have hpl:p<l.length:=by omega
  have hpl':(p:Int)<(l.length:Int):=by omega
  obtain⟨y,hy⟩:∃y,l[p]? =some y:=⟨_,List.getElem?_eq_getElem hpl⟩
  have hym:=List.mem_of_getElem? hy;rw[yi]at hes n2;rw[e4]at n1;have ey:=ID.ch;have c0:wr.cell? ⟨xb,0,none⟩=some (.pointer (some ⟨cb,0,none⟩)):=ID.nb.cell 0;have zc:=ey.cell;obtain⟨g1',Ku,hv',_,hcell',_⟩:=ey.2.1.form hy;simp only[Value.slice.injEq,Option.some.injEq,Addr.mk.injEq,true_and,and_true]at hv';obtain⟨rfl,rfl⟩:=hv';have y0:wr.cell? ⟨g1,p*7,none⟩=some (.int .u8 y.n.name):=hcell' 0 (by omega);have y1:wr.cell? ⟨g1,p*7+1,none⟩=some (.int .i64 y.n.kind):=hcell' 1 (by omega);have y2:wr.cell? ⟨g1,p*7+2,none⟩=some (.int .i64 y.n.parent):=hcell' 2 (by omega);have y3:wr.cell? ⟨g1,p*7+3,none⟩=some (.int .i64 y.n.pos):=hcell' 3 (by omega);have y4:wr.cell? ⟨g1,p*7+4,none⟩=some y.ev:=hcell' 4 (by omega);have y5:wr.cell? ⟨g1,p*7+5,none⟩=some y.lv:=hcell' 5 (by omega);have y6:wr.cell? ⟨g1,p*7+6,none⟩=some y.tv:=hcell' 6 (by omega);obtain⟨ea2,ec2,aj9⟩:=aF (ey.2.1.rR y hym);obtain⟨la2,lc2,hlv2⟩:=aF (ey.2.1.rD y hym);obtain⟨ta2,tc2,aaq⟩:=aF (ey.2.1.iX y hym);rw[aj9]at y4;rw[hlv2]at y5;rw[aaq]at y6;have K3:Kp (λ_=>False) wr (wr.alloc (.cells #[.int .u8 y.n.name,.int .i64 y.n.kind,.int .i64 y.n.parent,.int .i64 y.n.pos,.slice ea2 y.n.enter.length ec2,.slice la2 y.n.leave.length lc2,.slice ta2 y.n.trans.length tc2] 223)):=(Kp.refl _ _).alloc _;have hb4:=heap_alloc_new wr (.cells #[.int .u8 y.n.name,.int .i64 y.n.kind,.int .i64 y.n.parent,.int .i64 y.n.pos,.slice ea2 y.n.enter.length ec2,.slice la2 y.n.leave.length lc2,.slice ta2 y.n.trans.length tc2] 223);have hX4:=ID.ai K3;have KF4:Kp (nS xb g pv) w _:=KF.trans' K3 (λ_ _ x=>x.elim);have HZ:=hid (ae hX4 (ae hMr (ae hes KF4)));clear ID hMr hes KF hbr Ky Mv ey hcell' hX4 KF4 K3
  go_upto_region 7 with(fail)
  have aj_:=λo=>((Kp.refl (λ_=>False) wr).alloc o).bj n2
  have agk:=λo=>((Kp.refl (λ_=>False) wr).alloc o).bj c0
  have agl:=λo=>((Kp.refl (λ_=>False) wr).alloc o).bj zc
  have aka:=λo=>((Kp.refl (λ_=>False) wr).alloc o).bj y0
  have akb:=λo=>((Kp.refl (λ_=>False) wr).alloc o).bj y1
  have akc:=λo=>((Kp.refl (λ_=>False) wr).alloc o).bj y2
  have akd:=λo=>((Kp.refl (λ_=>False) wr).alloc o).bj y3
  have ake:=λo=>((Kp.refl (λ_=>False) wr).alloc o).bj y4
  have akf:=λo=>((Kp.refl (λ_=>False) wr).alloc o).bj y5
  have akg:=λo=>((Kp.refl (λ_=>False) wr).alloc o).bj y6
  go_region
  have Y1:=hid (ae (HZ.out.1.ai (Kp.refl _ _).drew) (ae HZ.out.2.1 (ae HZ.out.2.2.1 HZ.out.2.2.2.drew)));have hb5:(wr.alloc (.cells #[.int .u8 y.n.name,.int .i64 y.n.kind,.int .i64 y.n.parent,.int .i64 y.n.pos,.slice ea2 y.n.enter.length ec2,.slice la2 y.n.leave.length lc2,.slice ta2 y.n.trans.length tc2] 223)).drew.heap[wr.heap.size]? =_:=hb4;clear aj_ agk agl aka akb akc akd ake akf akg n1 n2 n4 y0 y1 y2 y3 y4 y5 y6 c0 zc hb4 HZ
  go_upto_region 8 with(fail)
  generalize (wr.alloc (.cells #[.int .u8 y.n.name,.int .i64 y.n.kind,.int .i64 y.n.parent,.int .i64 y.n.pos,.slice ea2 y.n.enter.length ec2,.slice la2 y.n.leave.length lc2,.slice ta2 y.n.trans.length tc2] 223)).drew=w4 at*;generalize wr.heap.size=pb at*;have hqs:=Y1.out.2.1.sz.1
  have p0:w4.cell? ⟨pb,0,none⟩=some (.int .u8 y.n.name):=by rw[World.cell?,hb5];rfl
  have c7:w4.cell? ⟨xb,7,none⟩=some (.string (strOfNums ma.q)):=Y1.out.1.nb.cell 7;have f7:=Y1.out.1.nb.free 7
  have akh:=λo=>((Kp.refl (λ_=>False) w4).alloc o).bj p0
  have agm:=λo=>((Kp.refl (λ_=>False) w4).alloc o).bj c7
  have agn:∀o,(w4.alloc o).frozen? ⟨xb,7,none⟩=false:=λo=>fy.free (Y1.out.1.nb.keep ((Kp.refl (λ_=>False) w4).alloc o) (λx=>x)) 7
  have hcv:=run_convert_bytes_arg (P:=prog) ((w4.alloc (.cells #[.int .u8 y.n.name] 5)).drew) 47 5 underlying47 underlying5 w4.heap.size 0 1 1 [y.n.name] rfl (by
   intro i hi
   match i,hi with
   |0,_=>simp) 9 underlying9
  have hadd:=λw'=>run_string_add_sum (P:=prog) w' (strOfNums ma.q) (strOfNums [y.n.name]) (by rw[strOfNums_size,strOfNums_size];simp;omega)
  go_region
  obtain⟨Uc,K5⟩:=Y1.out.1.push y.n.name
  have hpS:¬pb=xb:=λe=>by
   have h1:=Y1.out.1.nb;unfold fy at h1;rw[<-e,hb5]at h1;simp only[Option.some.injEq,Obj.cells.injEq]at h1;exact absurd h1.2.1 (by decide)
  have hb6:=K5.at_ hb5 hpS;have KF5:=Y1.out.2.2.2.trans' K5 (λ_ _ e=>.inl e);have hte:=Y1.out.2.2.1;have hsz5:=Y1.out.2.1
  have aki:dN ol.ag p=y.n.name:=by rw[<-hR.ag];unfold Ch.ag;rw[uF (by rw[cP];exact hpl),iL hy]
  unfold eR at hte;rw[show((p:Int)== -1)=false by simp,hR.par hy,Int.toNat_natCast,aki]at hte;simp only[Bool.false_eq_true,if_false]at hte;clear hcv hadd akh agm agn p0 c7 f7 hb5 Y1 hqs;generalize ((w4.alloc (.cells #[.int .u8 y.n.name] 5)).setCell ⟨xb,7,none⟩ (.string (strOfNums ma.q++strOfNums [y.n.name]))).drew=w5 at*
  have d2:w5.cell? ⟨pb,2,none⟩=some (.int .i64 y.n.parent):=by rw[World.cell?,hb6];rfl
  have c0:w5.cell? ⟨xb,0,none⟩=some (.pointer (some ⟨cb,0,none⟩)):=Uc.nb.cell 0;have zc:=Uc.ch.cell;have hpy:=hR.up p ⟨y.n.name,y.n.pos,y.n.kind,y.n.parent⟩ (by unfold Ch.ag Ch.mk;rw[List.getElem?_map,List.getElem?_map,hy];rfl);simp only at hpy
  by_cases hp0:y.n.parent<0
  ·have hpm:y.n.parent= -1:=by omega
   rw[hpm]at hte;have HN:=hid (ae (hte.trans rfl) (ae Uc KF5));clear hte Uc KF5 hb6 K5
   go_upto_region 9 with(fail)
   go_quiet (fail)
   go_wp2;refine bodyPost_ret (results_none rfl _ _ _) rfl ?_;rw[HN.out.1];exact⟨rfl,HN.out.2.1.ai ((Kp.refl _ _).drewN _),HN.out.2.2.drewN _⟩
  obtain⟨q,hq⟩:∃q:Nat,y.n.parent=q:=⟨y.n.parent.toNat,by omega⟩
  rw[hq]at hte d2
  have Zx:q<l.length:=by omega
  have ago:(q:Int)<(l.length:Int):=by omega
  obtain⟨z,hz⟩:∃z,l[q]? =some z:=⟨_,List.getElem?_eq_getElem Zx⟩
  have ey:=Uc.ch;obtain⟨g1',Ku,hv',_,hcell',_⟩:=ey.2.1.form hz;simp only[Value.slice.injEq,Option.some.injEq,Addr.mk.injEq,true_and,and_true]at hv';obtain⟨rfl,rfl⟩:=hv';have v0:w5.cell? ⟨g1,q*7,none⟩=some (.int .u8 z.n.name):=hcell' 0 (by omega);have v1:w5.cell? ⟨g1,q*7+1,none⟩=some (.int .i64 z.n.kind):=hcell' 1 (by omega);rw[hR.kind hz]at hte
  have akj:dN ol.ag q=z.n.name:=by rw[<-hR.ag];unfold Ch.ag;rw[uF (by rw[cP];exact Zx),iL hz]
  rw[Int.toNat_natCast,akj]at hte
  cases q3:z.n.kind !=3 with
  |true=>
   have q3':(z.n.kind==3)=false:=by simpa using q3
   rw[q3']at hte;have HN:=hid (ae (hte.trans rfl) (ae Uc KF5));clear hte Uc KF5 hb6 K5 ey hcell'
   go_upto_region 9 with(fail)
   go_quiet (fail)
   go_wp2;refine bodyPost_ret (results_none rfl _ _ _) rfl ?_;rw[HN.out.1];exact⟨rfl,HN.out.2.1.ai ((Kp.refl _ _).drewN _),HN.out.2.2.drewN _⟩
  |false=>?_
  have e3:z.n.kind=3:=by simpa using q3
  rw[e3]at hte v1;have HY:=hid (ae Uc (ae KF5 (ae hb6 hte)));clear hte Uc KF5 hb6 K5 ey hcell' c0 zc;have c0:w5.cell? ⟨xb,0,none⟩=some (.pointer (some ⟨cb,0,none⟩)):=HY.out.1.nb.cell 0;have zc:=HY.out.1.ch.cell
  go_upto_region 9 with(fail)
  go_quiet (fail)
  have hX6:=HY.out.1.ai ((Kp.refl (λ_=>False) w5).drewN nq);have KF6:=HY.out.2.1.drewN nq;have XA:(w5.drewN nq).heap[pb]? =_:=HY.out.2.2.1;have hte:=HY.out.2.2.2;clear HY c0 zc v0 v1 d2;generalize w5.drewN nq=w6 at*;obtain⟨on6,DH,hs6⟩:=hX6.on;have E:=hid (TW B xb cb g pv {ma with q:=ma.q++[y.n.name]} l (.slice (some ⟨g1,0,none⟩) l.length cap) ol on6 hs6 hR l.length w6 q (by omega) Zx hX6.nb DH hX6.ch)
  have d2:w6.cell? ⟨pb,2,none⟩=some (.int .i64 q):=by rw[World.cell?,XA,<-hq];rfl
  have HY:=hid (ae hX6 (ae KF6 (ae XA hte)));clear hX6 KF6 XA hte DH hs6
  go_wp2_with fail
  refine hm E ?_;rintro u w7 ⟨rfl,K7⟩;have Y2:=HY.out.1.ai K7;have KF7:=HY.out.2.1.trans' K7 (λ_ _ x=>x.elim);have zP:=K7.at_ HY.out.2.2.1 (λx=>x);have hte:=HY.out.2.2.2;clear E HY d2 K7
  cases qe:Ch.atEnd ol.ag ma.s.act q with
  |false=>
   rw[qe]at hte;have HN:=hid (ae (hte.trans rfl) (ae Y2 KF7));clear hte Y2 KF7 zP
   go_wp2_with fail
   go_end0
   rw[HN.out.1];exact⟨rfl,HN.out.2.1,HN.out.2.2⟩
  |true=>?_
  rw[qe]at hte;have HN:=hid (ae (hte.trans rfl) (ae Y2 KF7))
  have d2:w7.cell? ⟨pb,2,none⟩=some (.int .i64 q):=by rw[World.cell?,zP,<-hq];rfl
  have c0:w7.cell? ⟨xb,0,none⟩=some (.pointer (some ⟨cb,0,none⟩)):=Y2.nb.cell 0;have zc:=Y2.ch.cell;have c7:w7.cell? ⟨xb,7,none⟩=some (.string (strOfNums (ma.q++[y.n.name]))):=Y2.nb.cell 7;have f7:=Y2.nb.free 7;obtain⟨g1',Ku,hv',_,hcell',_⟩:=Y2.ch.2.1.form hz;simp only[Value.slice.injEq,Option.some.injEq,Addr.mk.injEq,true_and,and_true]at hv';obtain⟨rfl,rfl⟩:=hv';have v0:w7.cell? ⟨g1,q*7,none⟩=some (.int .u8 z.n.name):=hcell' 0 (by omega);have hqs:=hsz5.sz.1
  have apu:=λo=>((Kp.refl (λ_=>False) w7).alloc o).bj d2
  have agk:=λo=>((Kp.refl (λ_=>False) w7).alloc o).bj c0
  have agl:=λo=>((Kp.refl (λ_=>False) w7).alloc o).bj zc
  have agm:=λo=>((Kp.refl (λ_=>False) w7).alloc o).bj c7
  have apv:=λo=>((Kp.refl (λ_=>False) w7).alloc o).bj v0
  have agn:∀o,(w7.alloc o).frozen? ⟨xb,7,none⟩=false:=λo=>fy.free (Y2.nb.keep ((Kp.refl (λ_=>False) w7).alloc o) (λx=>x)) 7
  have hcv:=run_convert_bytes_arg (P:=prog) ((w7.alloc (.cells #[.int .u8 z.n.name] 5)).drew) 47 5 underlying47 underlying5 w7.heap.size 0 1 1 [z.n.name] rfl (by
   intro i hi
   match i,hi with
   |0,_=>simp) 9 underlying9
  have hadd:=λw'=>run_string_add_sum (P:=prog) w' (strOfNums (ma.q++[y.n.name])) (strOfNums [z.n.name]) (by rw[strOfNums_size,strOfNums_size];simp;omega)
  clear hte Y2 KF7 zP hcell'
  go_upto_region 12 with(fail)
  go_region
  go_wp2_with fail
  go_end0
  rw[HN.out.1];obtain⟨hX8,K8⟩:=HN.out.2.1.push z.n.name;refine⟨rfl,?_,HN.out.2.2.trans' K8 (λ_ _ e=>.inl e)⟩;exact hX8
end
namespace Ch
theorem KH(ol:Ol):∀(a b:List Nat) (m:Ma),mP ol (a++b) m=mP ol b (mP ol a m):=by
 intro a
 induction a with
 |nil=>intro b m;rfl
 |cons x a ih=>intro b m;exact ih b _
theorem Ud(ol:Ol){l:List Nat}{k j:Nat}(h:l[k]? =some j)(m:Ma):mP ol (l.take (k+1)) m=if bit (mP ol (l.take k) m).s.act j then mP ol (l.take k) m else bY ol (mP ol (l.take k) m) j:=by
 rw[List.take_add_one,h,KH];rfl
end Ch
section
variable (w:World) (B B2 xb cb g:Nat) (pv v:Value) (l:List NV) (ol:Ol) (m:Ma)
theorem ve(N B3:Nat)(goals:List Int)(gv:Value)(h:lW w B B2 xb cb g pv v l ol m)(hR:Rf l ol)(hM:o_ m N)(hN:N<=890000000)(hgl:goals.length<=16)(hgo:∀x∈goals,x<l.length)(hg:w.ownsRow B3 3 1 gv goals.length (aJ goals)):
 Calls prog 202 #[.pointer (some ⟨xb,0,none⟩),gv] w λy w'=>y= .returned (.tuple #[])/\lW w' B B2 xb cb g pv v l ol (mP ol (cY ol.ag (Ch.bit m.s.act) goals ol.ag.length 0) m)/\Kp (nS xb g pv) w w':=by
 have hle:=hR.le;have hne:=hR.iP.qg.ne;rw[hR.len]at hne;obtain⟨on,hon,hso⟩:=h.on;have E0:=hid (Xt B xb cb g pv m l v ol on hso hR goals gv B3 hgl hgo l.length w 0 (by omega) hne h.nb hon h.ch hg);obtain⟨_,_,hmem,_,_⟩:=nM hR.iP.qg (Ch.bit m.s.act) goals ol.ag.length 0 hR.iP.qg.ne (by omega);have hlen:=Nat.le_trans (Ks hR.iP.qg (Ch.bit m.s.act) goals hR.iP.qg.ne) hR.iP.le
 have yE:∀j∈cY ol.ag (Ch.bit m.s.act) goals ol.ag.length 0,j<l.length:=λj hj=>by rw[<-hR.len];exact(hmem j hj).1
 generalize cY ol.ag (Ch.bit m.s.act) goals ol.ag.length 0=nx at*;have HL:=hid yE;have HX:=hid (ae h hM);clear h hg hon hso hmem yE hM
 go_enter func202,ntmps202
 go_wp2_with fail
 refine hm E0 ?_;rintro z w2 ⟨u,rfl,hu,K2⟩;obtain⟨ua,uc,rfl⟩:=aF hu;have hX2:=HX.out.1.ai K2
 have huS:∀k,(Value.slice ua nx.length uc).ownBlock=some k->¬nS xb g pv k:=λk hk e=>by
  obtain⟨on',ho',_⟩:=hX2.on
  rcases e with e|e|e
  ·exact own_ne hu hX2.nb (by decide) (by rw[hk,e])
  ·exact own_ne hu ho' (by decide) (by rw[hk,e])
  rcases hu.2 with⟨h0,_⟩|⟨g9,c9,Xz,h1,_,h3,_⟩
  ·rw[h0]at hk;simp[Value.ownBlock]at hk
  rw[h1]at hk
  have hkg:k=g9:=by simpa[Value.ownBlock]using hk.symm
  subst hkg;exact eu.ne hX2.ps h3 (by decide) e
 have HU:=hid (ae hu (ae K2 (ae hX2 HX.out.2)));clear hu K2 E0 hX2 HX
 go_wp2_with fail
 go_loopw [5] (λkv wr=>∃k:Nat,kv= .int .i64 k/\k<=nx.length/\Hid (lW wr B B2 xb cb g pv v l ol (mP ol (nx.take k) m))/\Hid (o_ (mP ol (nx.take k) m) (N+115202*k))/\Kp (nS xb g pv) w2 wr) (λkv _=>nx.length-(intOf kv).toNat)
 case atStart=>exact⟨0,rfl,Nat.zero_le _,hid HU.out.2.2.1,hid HU.out.2.2.2,Kp.refl _ _⟩
 case round=>
  obtain⟨k,rfl,hk,Ky,Mv,KW⟩:=hrel
  by_cases hlt:k<nx.length
  ·have hlt':(k:Int)<(nx.length:Int):=by omega
   obtain⟨j,hj⟩:∃j,nx[k]? =some j:=⟨_,List.getElem?_eq_getElem hlt⟩
   have hjl:=HL.out j (List.mem_of_getElem? hj)
   have AK:(j:Int)<(l.length:Int):=by omega
   have hur:=KW.owns HU.out.1 huS;obtain⟨g2,cap2,hv2,_⟩:=World.ownsRow.form hur (by omega);simp only[Value.slice.injEq]at hv2;obtain⟨rfl,-,rfl⟩:=hv2
   have zk:wr.cell? ⟨g2,k,none⟩=some (.int .i64 j):=by
    rw[World.ownsRow.cellAt hur k (by omega)];simp[aJ,im,hj]
   obtain⟨onr,iI,ady⟩:=Ky.out.on;have c1:wr.cell? ⟨xb,1,none⟩=some (.slice (some ⟨g,0,none⟩) l.length l.length):=Ky.out.nb.cell 1;have DE:=iI.cell (k:=j) (by have:=ady.1;omega);have hsn:=Ud ol hj m;have hbj:=ady.2.2 j;have E:=hid (λnn=>Kw (wr.drewN nn) B B2 xb cb g pv v l ol (mP ol (nx.take k) m) j (N+115202*k) (Ky.out.ai ((Kp.refl _ _).drewN nn)) hR Mv.out (by omega) hjl);have Ub:=hid (Mv.out.enter hR.ok hR.uX j);generalize mP ol (nx.take k) m=mk at*;rw[<-hbj]at hsn;generalize eJ onr j=oj at*;have IC:=hid hsn;have Dc:=hid KW;clear hur iI ady hsn hbj KW
   cases oj with
   |true=>
    have HF:=hid (IC.out.trans (if_pos rfl));clear IC
    go_wp2_with fail
    go_quiet (fail)
    go_wp2
    go_roundw
    case rel=>exact⟨k+1,by go_num,by omega,hid (by rw[HF.out];exact Ky.out.ai ((Kp.refl _ _).drewN _)),hid (by rw[HF.out];exact Mv.out.le (by omega)),Dc.out.drewN _⟩
    case measure=>simp[intOf];omega
   |false=>?_
   have HF:=hid (IC.out.trans (if_neg (by simp)));clear IC
   go_wp2_with fail
   go_quiet (fail)
   have zk':(wr.drewN nq).cell? ⟨g2,k,none⟩=some (.int .i64 j):=zk
   go_wp2_with fail
   refine Calls.mono (Hid.out E _) ?_;rintro z w5 ⟨rfl,X5,K5⟩;have HX5:=hid (ae X5 ((Dc.out.drewN nq).trans K5));clear E X5 K5 zk zk' c1 DE;go_wp2
   go_roundw
   case rel=>exact⟨k+1,by go_num,by omega,hid (by rw[HF.out];exact HX5.out.1),hid (by rw[HF.out];exact Ub.out.le (by omega)),HX5.out.2⟩
   case measure=>simp[intOf];omega
  have hge:¬(k:Int)<(nx.length:Int):=by omega
  obtain rfl:k=nx.length:=by omega
  have ID:=Ky.out;rw[List.take_length]at ID;have HN:=hid (ae ID ((HU.out.2.1.mono (S':=nS xb g pv) (λ_ _ x=>x.elim)).trans KW));clear ID KW Ky Mv
  go_wp2_with fail
  go_end0
  exact⟨rfl,HN.out.1,HN.out.2⟩
end
namespace Ch
def mr{α:Type}(n:Nat)(new:Nat->α)(old:Nat->α)(k:Nat)(cur:α):List α:=(List.range n).map λe=>if e<k then new e else if e=k then cur else old e
theorem KI{α:Type}(n:Nat)(new old:Nat->α)(k:Nat)(cur:α):(mr n new old k cur).length=n:=by simp[mr]
theorem QS{α:Type}{n:Nat}(new old:Nat->α){k:Nat}(cur:α)(hk:k<n):(mr n new old k cur)[k]? =some cur:=by
 unfold mr;rw[List.getElem?_map,List.getElem?_range hk];simp
theorem KJ{α:Type}{n:Nat}(new old:Nat->α){k:Nat}(cur c:α):(mr n new old k cur).set k c=mr n new old k c:=by
 apply List.ext_getElem?;intro j;unfold mr
 by_cases hj:j<n
 ·rw[List.getElem?_set]
  by_cases e:k=j
  ·subst e;simp[hj]
  simp[hj,e,Ne.symm e]
 simp[hj]
theorem FC{α:Type}(n:Nat)(new old:Nat->α)(k:Nat):mr n new old k (new k)=mr n new old (k+1) (old (k+1)):=by
 unfold mr;apply List.map_congr_left;intro j _
 by_cases h1:j<k
 ·rw[if_pos h1,if_pos (by omega)]
 rw[if_neg h1]
 by_cases h2:j=k
 ·subst h2;rw[if_pos rfl,if_pos (by omega)]
 rw[if_neg h2,if_neg (by omega)]
 by_cases h3:j=k+1
 ·subst h3;rw[if_pos rfl]
 rw[if_neg h3]
theorem Cw{α:Type}(n:Nat)(new old:Nat->α):mr n new old 0 (old 0)=(List.range n).map old:=by
 unfold mr;apply List.map_congr_left;intro j _;rw[if_neg (by omega)]
 by_cases h:j=0
 ·subst h;rw[if_pos rfl]
 rw[if_neg h]
theorem KL{α:Type}(n:Nat)(new old:Nat->α)(c:α):mr n new old n c=(List.range n).map new:=by
 unfold mr;apply List.map_congr_left;intro j hj;rw[if_pos (by simpa using hj)]
theorem KO{α:Type}(l:List Nat)(f:Nat->α):(List.range l.length).map (λe=>f (l.getD e 0))=l.map f:=by
 apply List.ext_getElem?;intro j
 by_cases hj:j<l.length
 ·simp[hj]
 simp[hj]
theorem XB{α:Type}{l:List α}{k:Nat}{x:α}(h:l[k]? =some x)(p:α->Bool):(l.take (k+1)).any p=((l.take k).any p||p x):=by
 rw[List.take_add_one,h,List.any_append];simp
theorem Ue{α β:Type}{l:List α}{k:Nat}{x:α}(h:l[k]? =some x)(f:β->α->β)(c:β):(l.take (k+1)).foldl f c=f ((l.take k).foldl f c) x:=by
 rw[List.take_add_one,h,List.foldl_append];rfl
theorem Uf{ol:Ol}{n:Nat}(hn:ol.ag.length=n)(h16:n<=16)(s:Sd)(list:List Int):fJ n ((List.range n).map λj=>list.any λt=>lv ol s t j) (bO ol s list):=by
 refine⟨by simp,yR _ _ _,λk=>?_⟩;rw[Jr (by omega)];unfold eJ
 by_cases hk:k<n
 ·simp[hk]
 have:list.any (λt=>lv ol s t k)=false:=by
  rw[List.any_eq_false];intro t _ ht;obtain⟨x,hx⟩:=Ai ht;have:=((oZ hx k).1 ht).2.1;omega
 rw[this];simp[hk]
end Ch
section
variable {w w':World} {B B2 xb cb g:Nat} {pv v:Value} {l:List NV} {ol:Ol} {m:Ma}
theorem lW.aside(h:lW w B B2 xb cb g pv v l ol m){gb:Nat}{gn:List Bool}(hg:iH w gb gn)(hne:gb≠g)(k:Kp (λi=>i=gb) w w'):lW w' B B2 xb cb g pv v l ol m:=by
 obtain⟨on,ho,hs⟩:=h.on
 have hx:xb≠gb:=λe=>by
  have h1:=h.nb;unfold fy at h1;unfold iH at hg;rw[e,hg]at h1;simp only[Option.some.injEq,Obj.cells.injEq]at h1;exact absurd h1.2.1 (by decide)
 refine⟨h.nb.keep k hx,⟨on,k.at_ ho (λe=>hne e.symm),hs⟩,eu.keep h.ps k (λj hj e=>eu.ne h.ps hg (by decide) (by rw[hj,e])),h.ch.A4 k (λi cur T hi _ hT e=>?_)⟩;subst e;unfold iH at hg;rw[hg]at hi;simp only[Option.some.injEq,Obj.cells.injEq]at hi
 rcases hT with h|h|h|h<;>rw[h]at hi<;>exact absurd hi.2.1 (by decide)
theorem lW.gne(h:lW w B B2 xb cb g pv v l ol m):w.heap.size≠g:=λe=>by
 obtain⟨on,ho,_⟩:=h.on;unfold iH at ho;rw[<-e]at ho;simp at ho
end
section
variable (w:World) (B B2 xb cb g:Nat) (pv v:Value) (l:List NV) (ol:Ol) (m:Ma)
theorem Hq(N B3:Nat)(list:List Int)(lw:Value)(h:lW w B B2 xb cb g pv v l ol m)(hR:Rf l ol)(hI:Ch.Inv ol m.s)(hM:o_ m N)(hN:N<=880000000)(hll:list.length<=16)(hin:InT ol list)(Qt:w.ownsRow B3 301 2 lw list.length (eS ol list)):
 Calls prog 244 #[.pointer (some ⟨xb,0,none⟩),lw] w λy w'=>y= .returned (.tuple #[])/\lW w' B B2 xb cb g pv v l ol (bP ol (bO ol m.s list) ol.ag.length {m with s:=Ch.rem ol.ag m.s (bO ol m.s list)})/\Kp (nS xb g pv) w w':=by
 obtain⟨left,hleft⟩:∃x,x=bO ol m.s list:=⟨_,rfl⟩
 rw[<-hleft]
 obtain⟨m1,hm1⟩:∃x:Ma,x={m with s:=Ch.rem ol.ag m.s left}:=⟨_,rfl⟩
 rw[<-hm1];have HLE:=hid hleft;have HM1:=hid hm1;clear hleft hm1;obtain⟨i0,hi0,hz0,hz1,hz2⟩:=info_parts wW;obtain⟨d,hd,eY⟩:=Cr;have hle:=hR.le;obtain⟨ao,cap,rfl⟩:=h.ch.2.1.len;obtain⟨la,lc,rfl⟩:=aF Qt;have c0:w.cell? ⟨xb,0,none⟩=some (.pointer (some ⟨cb,0,none⟩)):=h.nb.cell 0;have zc:=h.ch.cell;have adA:=h.gne;have HIN:=hid hin;have HX:=hid (ae h (ae hM Qt));clear h hM Qt hin
 go_enter func244,ntmps244
 go_wp2_with (at_make;refine wpList_make_full w rfl (.tmp 22) (.tmp 22) 68 rfl w.heap.size 4 i0 (.bool false) 1 underlying68 hi0 hz0 hz1 .i64 .i64 l.length l.length l.length rfl rfl rfl rfl ?c1 ?c2 (Nat.le_refl _) ?_)
 case c1=>rw[hz2];omega
 case c2=>unfold maxLen;omega
 intro w4 o4 g4;have K4:Kp (λ_=>False) w w4:=(Kp.refl _ _).grown g4 (λi hi _=>by simp at hi);have agq:=iH.made o4;have hX4:=HX.out.1.ai K4;have HW:=hid (ae hX4 (ae agq (ae (K4.owns HX.out.2.2 (λ_ _ x=>x)) (ae K4 HX.out.2.1))));clear c0 zc HX o4 g4 hX4 agq K4;generalize hgb:w.heap.size=gb at*
 go_wp2_with fail
 go_loopw [5] (λiv wr=>∃i:Nat,iv= .int .i64 i/\i<=l.length/\Hid (iH wr gb (mr l.length (λj=>list.any λt=>Ch.lv ol m.s t j) (λ_=>false) i false))/\Kp (λk=>k=gb) w4 wr) (λiv _=>l.length-(intOf iv).toNat)
 case atStart=>exact⟨0,rfl,Nat.zero_le _,hid (by rw[Cw l.length (λj=>list.any λt=>Ch.lv ol m.s t j) (λ_=>false),List.map_const'];simpa using HW.out.2.1),Kp.refl _ _⟩
 case round=>
  obtain⟨i,rfl,hi,HG,KW⟩:=hrel;have ID:=HW.out.1.aside HW.out.2.1 adA KW;have c0:wr.cell? ⟨xb,0,none⟩=some (.pointer (some ⟨cb,0,none⟩)):=ID.nb.cell 0;have zc:=ID.ch.cell
  by_cases hlt:i<l.length
  ·have hlt':(i:Int)<(l.length:Int):=by omega
   clear ID
   go_wp2_with fail
   go_loopw [6] (λkv wq=>∃k:Nat,kv= .int .i64 k/\k<=list.length/\Hid (iH wq gb (mr l.length (λj=>list.any λt=>Ch.lv ol m.s t j) (λ_=>false) i ((list.take k).any λt=>Ch.lv ol m.s t i)))/\Kp (λk=>k=gb) w4 wq) (λkv _=>list.length-(intOf kv).toNat)
   case atStart=>exact⟨0,rfl,Nat.zero_le _,hid HG.out,KW⟩
   case round=>
    obtain⟨k,rfl,hk,HGk,KQ⟩:=hrel
    by_cases hkl:k<list.length
    ·have hkl':(k:Int)<(list.length:Int):=by omega
     have hXq:=HW.out.1.aside HW.out.2.1 adA KQ;have hlq:=KQ.owns HW.out.2.2.1 (λj hj e=>own_ne HW.out.2.2.1 HW.out.2.1 (by decide) (by rw[hj,e]))
     obtain⟨ti,hti⟩:∃ti,list[k]? =some ti:=⟨_,List.getElem?_eq_getElem hkl⟩
     have agf:=HIN.out ti (List.mem_of_getElem? hti)
     obtain⟨t,rfl⟩:∃t:Nat,ti=t:=⟨ti.toNat,by omega⟩
     obtain⟨a,nd,rt,x,hsa,aaA,hmr⟩:=hR.mv (t:=t) (by omega);obtain⟨g2,cap2,hv2,_⟩:=World.ownsRow.form hlq (by omega);simp only[Value.slice.injEq]at hv2;obtain⟨rfl,-,rfl⟩:=hv2;obtain⟨q0,q1⟩:=lB ol list k t hti;rw[Int.toNat_natCast]at q0 q1;rw[hsa]at q0;have z0:=(World.ownsRow.cellAt hlq (k*2) (by omega)).trans q0;have z1:=(World.ownsRow.cellAt hlq (k*2+1) (by omega)).trans q1;obtain⟨on,hon,hso⟩:=hXq.on;have E:=hid (yH wr B xb cb g pv m l _ ol t a _ i nd rt x on hXq.nb hon hso hXq.ch hR hmr hlt);have IC:=hid (XB hti (λt=>Ch.lv ol m.s t i));have HKQ:=hid KQ;clear hXq hlq q0 q1 hon hso hmr KQ
     go_wp2_with fail
     refine hm E ?_;rintro y w5 ⟨rfl,K5⟩;have hg5:iH w5 gb _:=K5.at_ HGk.out (λx=>x);have zg:=hg5.cell (k:=i) (by rw[KI];exact hlt);have fg:=hg5.free i
     have hoa:eJ (mr l.length (λj=>list.any λt=>Ch.lv ol m.s t j) (λ_=>false) i ((list.take k).any λt=>Ch.lv ol m.s t i)) i=(list.take k).any λt=>Ch.lv ol m.s t i:=by
      unfold eJ;rw[List.getD_eq_getElem?_getD,QS _ _ _ hlt];rfl
     rw[hoa]at zg
     have mW:=hid (λb=>by
      have:=hg5.set i b;rw[KJ]at this
      exact this)
     have rL:=hid (λb=>(HKQ.out.trans' K5 (λ_ _ x=>x.elim)).setCell (p:=⟨gb,i,none⟩) (λ_=>rfl) (.bool b));clear E K5 hg5 hoa HKQ HGk z0 z1;generalize Ch.lv ol m.s (t:Int) i=v1 at*;generalize (list.take k).any (λt=>Ch.lv ol m.s t i)=v2 at*
     cases v2
     ·go_wp2
      go_roundw
      case rel=>exact⟨k+1,by go_num,by omega,hid (by rw[IC.out];exact mW.out _),rL.out _⟩
      case measure=>simp[intOf];omega
     go_wp2
     go_roundw
     case rel=>exact⟨k+1,by go_num,by omega,hid (by rw[IC.out];exact mW.out _),rL.out _⟩
     case measure=>simp[intOf];omega
    have hge:¬(k:Int)<(list.length:Int):=by omega
    obtain rfl:k=list.length:=by omega
    have HN:=hid (show iH wr gb _ by
     have:=HGk.out;rw[List.take_length,FC l.length (λj=>list.any λt=>Ch.lv ol m.s t j) (λ_=>false) i]at this
     exact this)
    clear HGk HG;go_wp2
    go_roundw
    case rel=>exact⟨i+1,by go_num,by omega,HN,KQ⟩
    case measure=>simp[intOf];omega
  have hge:¬(i:Int)<(l.length:Int):=by omega
  obtain rfl:i=l.length:=by omega
  have hsl:=Uf hR.len hle m.s list;rw[<-HLE.out]at hsl;have hG:=HG.out;rw[KL]at hG;have KF:Kp (λ_=>False) w wr:=HW.out.2.2.2.1.trans' KW (λi hi e=>by omega);have E1:=hid (uK wr B cb l _ ID.ch (by omega))
  have hrf:=λ(k p:Nat) (hk:k<ol.ag.length)=>Xn hR.iP hI left (k:=k) (p:=p) hk
  have hM2:=HW.out.2.2.2.2;generalize (List.range l.length).map (λj=>list.any λt=>Ch.lv ol m.s t j)=gn at*;have HA:=hid (ae ID (ae hG (ae KF (ae hsl (ae hrf hM2)))));clear ID hG KF hsl hrf hM2 HW KW HG
  go_wp2_with fail
  refine hm E1 ?_;rintro z w5 ⟨u,rfl,hu,K5⟩;obtain⟨ua,uc,rfl⟩:=aF hu;have Uc:=HA.out.1.ai K5;have hps:=Uc.ps;unfold Qr at hps;rw[xp hR m.s]at hps;have hpn:=xp hR (Ch.rem ol.ag m.s left);have hhl:=tN (Ch.mk l);rw[cP]at hhl
  have hhm:∀h∈cG (Ch.mk l),h<ol.ag.length/\cX ol.ag h=true:=λh hh=>by
   rw[QR hR,List.mem_filter]at hh;exact⟨by simpa using hh.1,hh.2⟩
  generalize cG (Ch.mk l)=hs at*;rw[List.length_map]at hps;obtain⟨pa,pc,hpv⟩:=hps.len;subst hpv
  obtain⟨new,hnew⟩:∃f:Nat->Int,f=λe=>aR (Ch.rem ol.ag m.s left) (hs.getD e 0):=⟨_,rfl⟩
  obtain⟨old,hold⟩:∃f:Nat->Int,f=λe=>aR m.s (hs.getD e 0):=⟨_,rfl⟩
  have hp0:eu w5 B2 (.slice pa hs.length pc) hs.length (ar (mr hs.length new old 0 (old 0))):=by
   rw[Cw,hold,KO hs (aR m.s)];exact hps
  have hpN:mr hs.length new old hs.length (old hs.length)=jq ol.ag (Ch.rem ol.ag m.s left):=by
   rw[KL,hnew,KO hs (aR (Ch.rem ol.ag m.s left)),hpn]
  have HB:=hid (ae Uc (ae (K5.at_ HA.out.2.1 (λx=>x):iH w5 gb gn) (ae hu (ae (HA.out.2.2.1.trans K5) (ae hpN (ae hhm (ae hnew hold)))))));have HSL:=hid HA.out.2.2.2.1;have HRF:=hid HA.out.2.2.2.2.1;have HM2:=hid HA.out.2.2.2.2.2;have HP0:=hid hp0;clear Uc hu K5 hpN hhm hnew hold hp0 hps hpn HA E1 c0 zc
  go_wp2_with fail
  go_loopw [9] (λkv wr=>∃k:Nat,kv= .int .i64 k/\k<=hs.length/\Hid (eu wr B2 (.slice pa hs.length pc) hs.length (ar (mr hs.length new old k (old k))))/\Kp (λi=>(Value.slice pa hs.length pc).ownBlock=some i) w5 wr) (λkv _=>hs.length-(intOf kv).toNat)
  case atStart=>exact⟨0,rfl,Nat.zero_le _,hid HP0.out,Kp.refl _ _⟩
  case round=>
   obtain⟨k,rfl,hk,HPk,KR⟩:=hrel;have Ug:fy wr xb cb g l.length (.slice pa hs.length pc) m:=HB.out.1.nb.keep KR HB.out.1.px;have ey:=HB.out.1.chart (KR.mono (λ_ _ e=>.inr (.inr e)));have Mn:iH wr gb gn:=KR.at_ HB.out.2.1 (eu.ne HB.out.1.ps HB.out.2.1 (by decide))
   have iI:∃on,iH wr g on/\fJ l.length on m.s.act:=by
    obtain⟨on,ho,hs⟩:=HB.out.1.on;exact⟨on,KR.at_ ho HB.out.1.pg,hs⟩
   have c0:wr.cell? ⟨xb,0,none⟩=some (.pointer (some ⟨cb,0,none⟩)):=Ug.cell 0;have zc:=ey.cell
   by_cases hkl:k<hs.length
   ·have hkl':(k:Int)<(hs.length:Int):=by omega
    have hur:=KR.owns HB.out.2.2.1 (eu.apart HB.out.1.ps HB.out.2.2.1 (by decide))
    obtain⟨hj,Xy⟩:∃hj,hs[k]? =some hj:=⟨_,List.getElem?_eq_getElem hkl⟩
    have hhm:=HB.out.2.2.2.2.2.1 hj (List.mem_of_getElem? Xy)
    have hjl:hj<l.length:=by rw[<-hR.len];exact hhm.1
    have AK:(hj:Int)<(l.length:Int):=by omega
    obtain⟨y,hy⟩:∃y,l[hj]? =some y:=⟨_,List.getElem?_eq_getElem hjl⟩
    have hk5:=hhm.2;rw[uE hhm.1]at hk5;have hsh:=hR.iP.qg.hs hj hhm.1 (.inl (by simpa using hk5));obtain⟨p,yi,agi⟩:=hR.iP.qg.par hsh.1 hhm.1
    have hyp:y.n.parent=p:=by rw[<-hR.par hy];exact yi
    have hpl:p<l.length:=by omega
    have hpl':(p:Int)<(l.length:Int):=by omega
    obtain⟨g2,cap2,hv2,_⟩:=World.ownsRow.form hur (by omega);simp only[Value.slice.injEq]at hv2;obtain⟨rfl,-,rfl⟩:=hv2
    have zh:wr.cell? ⟨g2,k,none⟩=some (.int .i64 hj):=by
     rw[World.ownsRow.cellAt hur k (by omega)];simp[aJ,im,Xy]
    obtain⟨g1,Hm,hv1,_,hcell,_⟩:=ey.2.1.form hy;simp only[Value.slice.injEq]at hv1;obtain⟨rfl,-,rfl⟩:=hv1
    have zp:wr.cell? ⟨g1,hj*7+2,none⟩=some (.int .i64 p):=by rw[<-hyp];exact hcell 2 (by omega)
    have E2:=hid (λnn=>iE (wr.drewN nn) B cb l _ (p:Int) (ey.ai ((Kp.refl _ _).drewN nn)) (by omega))
    have hnk:new k=(cQ ol.ag p).foldl (λc j=>if Ch.bit left p&&Ch.bit m.s.act j then dN ol.ag j else c) (old k):=by
     have:=HRF.out hj p hhm.1 hhm.2 yi;rw[HB.out.2.2.2.2.2.2.1,HB.out.2.2.2.2.2.2.2];simp only[List.getD_eq_getElem?_getD,Xy,Option.getD_some];exact this
    rw[<-oL hR]at hnk
    obtain⟨fd,hfd⟩:∃f:Int->Nat->Int,f=λc j=>if Ch.bit left p&&Ch.bit m.s.act j then dN ol.ag j else c:=⟨_,rfl⟩
    rw[<-hfd]at hnk;have HFD:=hid hfd;have HNK:=hid hnk;clear hfd;have HC:=hid (ae Ug (ae ey (ae Mn (ae iI (ae HPk.out KR)))));clear Ug ey Mn iI HPk KR hur hhm hk5 hsh hnk hcell Xy hyp yi
    go_wp2_with fail
    go_quiet (fail)
    have c0':(wr.drewN nq).cell? ⟨xb,0,none⟩=some (.pointer (some ⟨cb,0,none⟩)):=c0;clear c0 zc zh zp
    go_wp2_with fail
    refine Calls.mono (Hid.out E2 _) ?_;rintro z w7 ⟨u7,rfl,hu7,K7⟩;obtain⟨ka,kc,rfl⟩:=aF hu7;have KD:Kp (λ_=>False) wr w7:=((Kp.refl _ _).drewN nq).trans K7
    have hbk:(cE (Ch.mk l) (p:Int)).length<=16/\∀j∈cE (Ch.mk l) (p:Int),j<l.length:=by
     refine⟨Nat.le_trans (jB (Ch.mk l) _) (by rw[cP];exact hle),λj hj=>?_⟩;have:=Cn hj;rw[cP]at this;exact this
    generalize cE (Ch.mk l) (p:Int)=ks at*;obtain⟨on,hon,hso⟩:=HC.out.2.2.2.1;have HD:=hid (ae (HC.out.1.keep KD (λx=>x):fy w7 xb cb g l.length (.slice pa hs.length pc) m) (ae (HC.out.2.1.ai KD) (ae (KD.at_ HC.out.2.2.1 (λx=>x):iH w7 gb gn) (ae (KD.at_ hon (λx=>x):iH w7 g on) (ae (HC.out.2.2.2.2.1.keep KD (λ_ _ x=>x)) (ae (HC.out.2.2.2.2.2.trans' KD (λ_ _ x=>x.elim)) hu7))))));have HSO:=hid hso;have apE:=hbk.1;have HKM:=hid hbk.2;clear hu7 K7 KD hbk hon hso HC c0' E2
    go_wp2_with fail
    go_loopw [12] (λjv wq=>∃j:Nat,jv= .int .i64 j/\j<=ks.length/\Hid (eu wq B2 (.slice pa hs.length pc) hs.length (ar (mr hs.length new old k ((ks.take j).foldl fd (old k)))))/\Kp (λi=>(Value.slice pa hs.length pc).ownBlock=some i) w7 wq) (λjv _=>ks.length-(intOf jv).toNat)
    case atStart=>exact⟨0,rfl,Nat.zero_le _,hid HD.out.2.2.2.2.1,Kp.refl _ _⟩
    case round=>
     obtain⟨j,rfl,hj2,HPj,KQ⟩:=hrel
     by_cases hjk:j<ks.length
     ·have apG:(j:Int)<(ks.length:Int):=by omega
      have Uh:=HD.out.2.2.2.2.1;have hnq:fy wr xb cb g l.length (.slice pa hs.length pc) m:=HD.out.1.keep KQ (Uh.ne HD.out.1 (by decide))
      have yB:iG wr B cb l _:=HD.out.2.1.A4 KQ (λi cur T hi _ hT e=>by
       rcases hT with h'|h'|h'|h'<;>subst h'<;>exact Uh.ne hi (by decide) e)
      have hGq:iH wr gb gn:=KQ.at_ HD.out.2.2.1 (Uh.ne HD.out.2.2.1 (by decide));have Xw:iH wr g on:=KQ.at_ HD.out.2.2.2.1 (Uh.ne HD.out.2.2.2.1 (by decide));have hkq:=KQ.owns HD.out.2.2.2.2.2.2 (Uh.apart HD.out.2.2.2.2.2.2 (by decide))
      obtain⟨kid,lf⟩:∃kid,ks[j]? =some kid:=⟨_,List.getElem?_eq_getElem hjk⟩
      have hkd:=HKM.out kid (List.mem_of_getElem? lf)
      have apH:(kid:Int)<(l.length:Int):=by omega
      obtain⟨x,hx⟩:∃x,l[kid]? =some x:=⟨_,List.getElem?_eq_getElem hkd⟩
      have hnm:dN ol.ag kid=x.n.name:=by rw[<-hR.ag];unfold Ch.ag;rw[uF (by rw[cP];exact hkd),iL hx]
      obtain⟨g3,xk,hv3,_⟩:=World.ownsRow.form hkq (by omega);simp only[Value.slice.injEq]at hv3;obtain⟨rfl,-,rfl⟩:=hv3
      have zk:wr.cell? ⟨g3,j,none⟩=some (.int .i64 kid):=by
       rw[World.ownsRow.cellAt hkq j (by omega)];simp[aJ,im,lf]
      have c0:wr.cell? ⟨xb,0,none⟩=some (.pointer (some ⟨cb,0,none⟩)):=hnq.cell 0;have c1:wr.cell? ⟨xb,1,none⟩=some (.slice (some ⟨g,0,none⟩) l.length l.length):=hnq.cell 1;have c2:wr.cell? ⟨xb,2,none⟩=some (.slice pa hs.length pc):=hnq.cell 2;have zc:=yB.cell;obtain⟨g1',Ku,agr,_,hcell',_⟩:=yB.2.1.form hx;simp only[Value.slice.injEq,Option.some.injEq,Addr.mk.injEq,true_and,and_true]at agr;obtain⟨rfl,rfl⟩:=agr;have z0:wr.cell? ⟨g1,kid*7,none⟩=some (.int .u8 x.n.name):=hcell' 0 (by omega);have zg:=hGq.cell (k:=p) (by rw[HSL.out.1];exact hpl);have zo:=Xw.cell (k:=kid) (by rw[HSO.out.1];exact hkd);rw[HSL.out.2.2 p]at zg;rw[HSO.out.2.2 kid]at zo
      have hgl:(p:Int)<(l.length:Int):=by omega
      have hst:(ks.take (j+1)).foldl fd (old k)=if Ch.bit left p&&Ch.bit m.s.act kid then x.n.name else(ks.take j).foldl fd (old k):=by
       rw[Ue lf fd (old k),<-hnm];rw[HFD.out]
      have HPQ:=hid (ae HPj.out KQ);clear hnq yB hGq Xw hkq Uh hcell' HPj KQ lf hnm;generalize Ch.bit left p=b1 at*;generalize Ch.bit m.s.act kid=b2 at*
      cases b1 with
      |false=>
       have HST:=hid (show(ks.take (j+1)).foldl fd (old k)=(ks.take j).foldl fd (old k)from hst);clear hst
       go_upto_region 18 with(fail)
       go_quiet (fail)
       go_wp2
       go_roundw
       case rel=>exact⟨j+1,by go_num,by omega,hid (by rw[HST.out];exact HPQ.out.1),HPQ.out.2.drewN _⟩
       case measure=>simp[intOf];omega
      |true=>?_
      cases b2 with
      |false=>
       have HST:=hid (show(ks.take (j+1)).foldl fd (old k)=(ks.take j).foldl fd (old k)from hst);clear hst
       go_upto_region 18 with(fail)
       go_quiet (fail)
       go_wp2
       go_roundw
       case rel=>exact⟨j+1,by go_num,by omega,hid (by rw[HST.out];exact HPQ.out.1),HPQ.out.2.drewN _⟩
       case measure=>simp[intOf];omega
      |true=>?_
      have HST:=hid (show(ks.take (j+1)).foldl fd (old k)=x.n.name from hst);clear hst
      go_upto_region 18 with(fail)
      go_quiet (fail)
      go_upto_region 19 with(fail)
      obtain⟨hPQ,KQ⟩:=HPQ.out;obtain⟨gp,pcap,hv4,_⟩:=hPQ.form (by omega);simp only[Value.slice.injEq]at hv4;obtain⟨rfl,-,rfl⟩:=hv4;have hP6:eu (wr.drewN nq) B2 (.slice (some ⟨gp,0,none⟩) hs.length pc) hs.length _:=hPQ;have d0:(wr.drewN nq).cell? ⟨xb,0,none⟩=some (.pointer (some ⟨cb,0,none⟩)):=c0;have d2:(wr.drewN nq).cell? ⟨xb,2,none⟩=some (.slice (some ⟨gp,0,none⟩) hs.length pc):=c2;have dc:(wr.drewN nq).cell? ⟨cb,0,none⟩=some (.slice (some ⟨g1,0,none⟩) l.length cap):=zc;have dk:(wr.drewN nq).cell? ⟨g3,j,none⟩=some (.int .i64 kid):=zk;have dn:(wr.drewN nq).cell? ⟨g1,kid*7,none⟩=some (.int .u8 x.n.name):=z0;have KQ6:=KQ.drewN nq;clear c0 c1 c2 zc zk z0 zg zo hPQ KQ HPQ;generalize wr.drewN nq=w6 at*;have fp:=hP6.free k hkl;have zpk:=hP6.cellAt k hkl;rw[show(ar (mr hs.length new old k ((ks.take j).foldl fd (old k))))[k]? =some (.int .u8 ((ks.take j).foldl fd (old k)))by simp[ar,QS _ _ _ hkl]]at zpk;have adC:=hP6.stored k (.int .u8 x.n.name)
      have hse:(ar (mr hs.length new old k ((ks.take j).foldl fd (old k)))).set k (.int .u8 x.n.name)=ar (mr hs.length new old k x.n.name):=by
       rw[<-KJ new old ((ks.take j).foldl fd (old k)) x.n.name];simp[ar,List.map_set]
      rw[hse]at adC;have HZ:=hid (ae adC (KQ6.setCell (p:=⟨gp,k,none⟩) (λ_=>rfl) (.int .u8 x.n.name)));clear hP6 KQ6 adC hse
      go_region
      have HZ6:=hid (ae HZ.out.1 HZ.out.2.drew);clear HZ fp zpk d0 d2 dc dk dn;go_wp2
      go_roundw
      case rel=>exact⟨j+1,by go_num,by omega,hid (by rw[HST.out];exact HZ6.out.1),HZ6.out.2⟩
      case measure=>simp[intOf];omega
     have apI:¬(j:Int)<(ks.length:Int):=by omega
     obtain rfl:j=ks.length:=by omega
     have HN:=hid (show eu wr B2 (.slice pa hs.length pc) hs.length (ar (mr hs.length new old (k+1) (old (k+1))))by
      have:=HPj.out;rw[List.take_length,<-HNK.out,FC]at this
      exact this)
     have HK:=hid (HD.out.2.2.2.2.2.1.trans KQ);clear HPj KQ HD;go_wp2
     go_roundw
     case rel=>exact⟨k+1,by go_num,by omega,hid HN.out,HK.out⟩
     case measure=>simp[intOf];omega
   have afx:¬(k:Int)<(hs.length:Int):=by omega
   obtain rfl:k=hs.length:=by omega
   have hps:Qr wr B2 ol (Ch.rem ol.ag m.s left) (.slice pa hs.length pc):=by
    have:=HPk.out;have hq:=HB.out.2.2.2.2.1;unfold Qr;rw[<-hq,KI];exact this
   have hX6:lW wr B B2 xb cb g (.slice pa hs.length pc) (.slice ao l.length cap) l ol m1:=by rw[HM1.out];exact⟨Ug,iI,hps,ey⟩
   have hM6:o_ m1 N:=by rw[HM1.out];exact⟨Gv _ HM2.out.ok,HM2.out.tm,HM2.out.sz⟩
   have Vk:¬nS xb g (.slice pa hs.length pc) gb:=λe=>by
    rcases e with e|e|e
    ·subst e
     have h1:=Ug;unfold fy at h1;unfold iH at Mn;rw[Mn]at h1;simp only[Option.some.injEq,Obj.cells.injEq]at h1;exact absurd h1.2.1 (by decide)
    ·exact adA e
    exact eu.ne hps Mn (by decide) e
   have KF6:Kp (nS xb g (.slice pa hs.length pc)) w wr:=(HB.out.2.2.2.1.mono (S':=nS xb g (.slice pa hs.length pc)) (λ_ _ x=>x.elim)).trans' KR (λ_ _ e=>.inr (.inr e));have HQ:=hid (ae hX6 (ae hM6 (ae Mn KF6)));have HNS:=hid Vk;clear hX6 hM6 Mn KF6 Vk hps Ug ey iI KR HPk HB HRF HM2 HP0
   go_wp2_with fail
   generalize hw6:wr=w6 at*
   go_loopw [13] (λiv wr=>∃(k:Nat) (m':Ma),iv= .int .i64 ((k:Int)-1)/\k<=l.length/\Hid (bP ol left ol.ag.length m1=bP ol left k m')/\Hid (lW wr B B2 xb cb g (.slice pa hs.length pc) (.slice ao l.length cap) l ol m')/\Hid (o_ m' (N+115200*(l.length-k)))/\Kp (nS xb g (.slice pa hs.length pc)) w6 wr) (λiv _=>(intOf iv+1).toNat)
   case atStart=>exact⟨l.length,m1,by go_num,Nat.le_refl _,hid (by rw[hR.len]),hid HQ.out.1,hid (HQ.out.2.1.le (by omega)),Kp.refl _ _⟩
   case round=>
    obtain⟨k,m',rfl,hk7,HE,Ky,Mv,KR⟩:=hrel
    cases k with
    |zero=>
     have HF:=hid (HE.out.trans (show _=m' from rfl));clear HE c0 zc
     go_wp2_with fail
     go_end0
     rw[HF.out];exact⟨rfl,Ky.out,HQ.out.2.2.2.trans KR⟩
    |succ k=>?_
    have e1:((k+1:Nat):Int)-1=k:=by omega
    rw[e1]
    have apK:(0:Int)<=(k:Int):=by omega
    have apL:(k:Int)<(l.length:Int):=by omega
    have Mn:iH wr gb gn:=KR.at_ HQ.out.2.2.1 HNS.out;have zg:=Mn.cell (k:=k) (by rw[HSL.out.1];omega);rw[HSL.out.2.2 k]at zg
    cases q1:Ch.bit left k with
    |false=>
     rw[q1]at zg;have HF:=hid (HE.out.trans (show _=bP ol left k m' by simp only[bP];rw[cT,q1];rfl));clear HE c0 zc e1 Mn q1;go_wp2
     go_roundw
     case rel=>exact⟨k,m',by go_num,by omega,HF,Ky,hid (Mv.out.le (by omega)),KR⟩
     case measure=>simp[intOf]
    |true=>?_
    rw[q1]at zg
    obtain⟨x,hx⟩:∃x,l[k]? =some x:=⟨_,List.getElem?_eq_getElem (by omega)⟩
    have hxm:=List.mem_of_getElem? hx;have hfa:=hR.rD k x hx;have HF:=hid (HE.out.trans (show _=bP ol left k (cK (kT (ol.dz.filter (lS k 36)) m') k false)by rw[<-Fz];simp only[bP];rw[cT,q1];rfl))
    have hbl:∀b∈ol.dz.filter (lS k 36),(∀a∈b.acts,uB a)/\b.acts.length<=240:=λb hb=>by
     obtain⟨_,_,hok⟩:=hfa.right hb;exact⟨hok.ac,(hR.ok.rh b (List.mem_filter.1 hb).1).1⟩
    have hfl:(ol.dz.filter (lS k 36)).length<=240:=Nat.le_trans (List.length_filter_le _ _) hR.ok.dz
    have hel:x.n.leave.length<=240:=by rw[hfa.len];exact hfl
    generalize ol.dz.filter (lS k 36)=fl at*;obtain⟨ra,rc,hrv⟩:=aF (Ky.out.ch.2.1.rD x hxm);have HL:=hid (ae hfa (ae hbl hrv));clear HE c0 zc e1 Mn q1 hfa hbl hfl hrv
    go_wp2_with fail
    generalize hw7:wr=w7 at*
    go_loopw [14] (λev wr=>∃e:Nat,ev= .int .i64 e/\e<=x.n.leave.length/\Hid (lW wr B B2 xb cb g (.slice pa hs.length pc) (.slice ao l.length cap) l ol (kT (fl.take e) m'))/\Hid (o_ (kT (fl.take e) m') (N+115200*(l.length-(k+1))+480*e))/\Kp (nS xb g (.slice pa hs.length pc)) w7 wr) (λev _=>x.n.leave.length-(intOf ev).toNat)
    case atStart=>exact⟨0,rfl,Nat.zero_le _,Ky,Mv,Kp.refl _ _⟩
    case round=>
     obtain⟨e,rfl,he,HXe,HMe,KE⟩:=hrel;have c0:wr.cell? ⟨xb,0,none⟩=some (.pointer (some ⟨cb,0,none⟩)):=HXe.out.nb.cell 0;have zc:=HXe.out.ch.cell;obtain⟨g1,Hm,hv1,_,hcell,_⟩:=HXe.out.ch.2.1.form hx;simp only[Value.slice.injEq]at hv1;obtain⟨rfl,-,rfl⟩:=hv1;have z5:wr.cell? ⟨g1,k*7+5,none⟩=some x.lv:=hcell 5 (by omega);rw[HL.out.2.2]at z5;have XC:=HXe.out.ch.2.1.rD x hxm;rw[HL.out.2.2]at XC;clear hcell
     by_cases agj:e<x.n.leave.length
     ·have ajX:(e:Int)<(x.n.leave.length:Int):=by omega
      obtain⟨t,ht⟩:∃t,x.n.leave[e]? =some t:=⟨_,List.getElem?_eq_getElem agj⟩
      obtain⟨b,hb,hok⟩:=HL.out.1.adn ht;have hbb:=HL.out.2.1 b (List.mem_of_getElem? hb);obtain⟨g3,xk,hv3,_⟩:=World.ownsRow.form XC (by omega);simp only[Value.slice.injEq]at hv3;obtain⟨rfl,-,rfl⟩:=hv3;have zt:=(World.ownsRow.cellAt XC e (by omega)).trans (FB ht);have E:=hid (yG wr xb cb g l.length _ _ b.acts t HXe.out.nb hok.txt hbb.1 HMe.out.ok HMe.out.tm ⟨by have:=HMe.out.sz.1;omega,by have:=HMe.out.sz.2;omega⟩ (by omega) (Kv hok.txt hbb.2));have IC:=hid (Cv hb m');have HAP:=hid (p_ b.acts (kT (fl.take e) m'));have Ub:=hid (HMe.out.acts hbb.1 hbb.2);clear XC hb hok hbb ht
      go_wp2_with fail
      refine hm E ?_;rintro z w8 ⟨rfl,N8,K8⟩;have X8:=hid (HXe.out.acts K8 N8 HAP.out);have KE8:Kp (nS xb g (.slice pa hs.length pc)) w7 w8:=KE.trans' K8 (λ_ _ e=>.inl e);clear E N8 K8 c0 zc z5 zt;go_wp2
      go_roundw
      case rel=>exact⟨e+1,by go_num,by omega,hid (by rw[IC.out];exact X8.out),hid (by rw[IC.out];exact Ub.out.le (by omega)),KE8⟩
      case measure=>simp[intOf];omega
     have apN:¬(e:Int)<(x.n.leave.length:Int):=by omega
     obtain rfl:e=x.n.leave.length:=by omega
     have hXe:=HXe.out;have hMe:=HMe.out;rw[HL.out.1.len,List.take_length]at hXe hMe;obtain⟨hX9,K9⟩:=hXe.turn (i:=k) (by omega) hle false;have hM9:o_ (cK (kT fl m') k false) (N+115200*(l.length-k)):=(show o_ _ _ from⟨k_ hMe.ok _ _,hMe.tm,hMe.sz⟩:o_ (cK (kT fl m') k false) _).le (by have:=HL.out.1.len;omega);have c1:wr.cell? ⟨xb,1,none⟩=some (.slice (some ⟨g,0,none⟩) l.length l.length):=hXe.nb.cell 1;obtain⟨on,hon,hso⟩:=hXe.on;have DE:=hon.cell (k:=k) (by rw[hso.1];omega);have fon:=hon.free k;have HN:=hid (ae hX9 (ae hM9 ((KR.trans KE).trans K9)));clear hX9 K9 hM9 hXe hMe hon hso XC HXe HMe;go_wp2
     go_roundw
     case rel=>exact⟨k,_,by go_num,by omega,HF,hid HN.out.1,hid HN.out.2.1,HN.out.2.2⟩
     case measure=>simp[intOf]
end
end Go.Proofs.YtnlbchmfcebeeaaGreat
