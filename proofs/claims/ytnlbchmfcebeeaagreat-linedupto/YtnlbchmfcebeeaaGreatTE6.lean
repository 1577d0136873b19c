import Derived.Test.YtnlbchmfcebeeaaGreatTE3
set_option maxHeartbeats 12800000
set_option maxRecDepth 100000
namespace Go.Proofs.YtnlbchmfcebeeaaGreat
open Go.Proofs.Tryz Ch
open Go.RowKit
theorem kI.km {w w' : World} {B mb ob po : Nat} {m : Ma} (h : Mm w B mb ob po m) (k : Kp (km B mb w) w w') {v : Value} {l : List Int} (r : kI w v l) : kI w' v l:=by
 obtain ⟨base,ho⟩:=r;exact ⟨base,h.row k ho (by decide) (by decide)⟩
section
variable (w : World) (B mb ob po : Nat) (ol : Ol)
theorem ux (m : Ma) (v : Value) (list : List Int) (h : kI w v list) (hin : InT ol list) (hl : list.length <= 1000) (hp : Pl w ob po ol) (hol : ol.Ok) (hm : Mm w B mb ob po m) (hs : m.s.Ok) (hB : B <= w.heap.size) (hz : m.Sz 800000000) :
 Calls prog 71 #[.pointer (some ⟨mb,0,none⟩),v] w fun x w'=>x = .returned (.tuple #[]) /\ Mm w' B mb ob po (Ch.enter ol m list) /\ Kp (km B mb w) w w':=by
 obtain ⟨ds,hds,eH⟩:=rr;have mE:=hol.ag;have h16 : m.s.act.length = 16:=hs.1.1;have hnew:=heap_alloc_new w (.cells aW 91);have hS2:=fj.ofRow (setRow_heap (w.alloc (.cells aW 91)) w.heap.size aW (eI m.s.act) 91 (0,0) hnew);have K2 : Kp (fun _=>False) w ((w.alloc (.cells aW 91)).setRow w.heap.size (eI m.s.act)):=((Kp.refl _ _).alloc _).setRow (fun x=>by omega) _;have hM2:=hm.still K2;have hp2 : Pl ((w.alloc (.cells aW 91)).setRow w.heap.size (eI m.s.act)) ob po ol:=hp.keep K2 (fun _ _ _ _ _ x=>x);have h2:=h.keep K2 (fun _ _ _ x=>x);obtain ⟨qv,ov,hmb,_⟩:=id hm
 have hcs : ∀ j u,(m.s.act.map Value.bool)[j]? = some u -> w.cell? ⟨mb,1 + j,none⟩ = some u:=by
  intro j u hj
  have P8 : j < 16:=by have:=(List.getElem?_eq_some_iff.1 hj).1;simp at this;omega
  have:=fj.cell (pre:=[.pointer (some ⟨ob,po,none⟩)]) hmb h16 P8;rw [List.getElem?_map] at hj
  cases e : m.s.act[j]? with
  | none=>rw [e] at hj;simp at hj
  | some b=>rw [e] at hj;simp at hj;subst hj;simpa [Ch.bit,e] using this
 have hsI:=gL h16;have nL:=fU h16;have hs1:=iP m.s.act
 have y_ : (prog.info? 91).map (·.size) = some (m.s.act.map Value.bool).length:=by rw [hsI];simp [eI]
 have HU:=hid (show Ch.enter ol m list = cL ol m.s.act (bI ol m.s list) ol.ag.length 0 m from rfl);have hgl:=zS ol m.s list;clear hm hp h hmb
 go_enter func71,ntmps71
 go_wp2_with (first | refine a_ rfl 91 (.tmp 10) rfl mb 1 rfl (m.s.act.map Value.bool) ds hcs hds eH y_ ?_ | refine wpList_store_row rfl 91 (.tmp 4) (.tmp 11) rfl w.heap.size (eI m.s.act) rfl rfl 91 aW hnew hsI nL.symm hs1 ?_)
 generalize (w.alloc (.cells aW 91)).setRow w.heap.size (eI m.s.act) = w2 at *;have hsb:=hS2.lt;clear hcs y_ hsI nL hs1 hnew;obtain ⟨qv,ov,hmb,_⟩:=id hM2;have E0:=hid (CO w2 mb ob po m.s qv ov ol v list h2 hin hl hmb hs.1 hp2 hol);clear hmb
 go_wp2_with fail
 refine br E0 ?_;rintro x w3 ⟨gv,rfl,og,K3⟩
 have hG3 : kI w3 gv (bI ol m.s list):=⟨_,og⟩
 have OZ:=hM2.still K3;have hp3 : Pl w3 ob po ol:=hp2.keep K3 (fun _ _ _ _ _ x=>x);have tC:=hS2.keep K3 (fun x=>x);have KW:=K2.trans K3
 have hB3 : B <= w3.heap.size:=by have:=KW.size;omega
 clear og hM2 hp2 hS2 K2 K3 E0 h2 hsb;generalize bI ol m.s list = goals at *;generalize w.heap.size = sb at *;generalize hst : m.s.act = aP at *;clear hst
 go_wp2_with fail
 go_loopw [6] (fun i wr=>∃ (k : Nat) (m' : Ma),i = .int .i64 k /\ k <= ol.ag.length /\ Hid (cL ol aP goals ol.ag.length 0 m = cL ol aP goals (ol.ag.length - k) k m') /\ Mm wr B mb ob po m' /\ m'.s.Ok /\ m'.Sz (800000000 + 115202 * k) /\ Kp (km B mb w3) w3 wr) (fun i _=>ol.ag.length - (intOf i).toNat)
 case atStart=>exact ⟨0,m,rfl,Nat.zero_le _,hid rfl,OZ,hs,hz,Kp.refl _ _⟩
 case round =>
  obtain ⟨k,m',rfl,hk,HE,hm',hs',hz',K1⟩:=hrel;have hpr : Pl wr ob po ol:=OZ.pl K1 hp3;have O0:=kI.km OZ K1 hG3;have hSr : fj wr sb [] aP [] 91:=OZ.at_ K1 tC (by decide) (by decide)
  have hBr : B <= wr.heap.size:=by have:=K1.size;omega
  have cp:=hm'.plan;obtain ⟨ao,cap,c2⟩:=hpr.str.len
  by_cases hlt : k < ol.ag.length
  ·have hlt' : (k : Int) < (ol.ag.length : Int):=by omega
   have ef : ol.ag.length - k = (ol.ag.length - (k + 1)) + 1:=by omega
   obtain ⟨Ui,Uj,hmb,_⟩:=id hm';have E1:=hid (CN wr mb ob po m'.s Ui Uj ol k sb aP gv goals hSr h16 O0 (by omega) hmb hs'.1 hpr hol);have HX:=hid (ae hm' (ae hpr K1))
   cases q1 : eM ol.ag m'.s.act aP goals (k : Int) with
   | false =>
     rw [q1] at E1;have HF:=hid (HE.out.trans (show _ = cL ol aP goals (ol.ag.length - (k + 1)) (k + 1) m' by rw [ef];simp only [cL];rw [q1];rfl));clear HE ef hm' hpr K1 hmb O0 hSr
     go_wp2_with fail
     refine br E1 ?_;rintro x w4 ⟨rfl,K4⟩;obtain ⟨hm',hpr,K1⟩:=HX.out;have M4:=hm'.still K4;have K5:=Km.trans K1 (Kp.km K4);clear hm' hpr K1 K4 HX E1 cp c2;go_wp2
     go_roundw
     case rel=>exact ⟨k + 1,m',by go_num,by omega,HF,M4,hs',hz'.le (by omega),K5⟩
     case measure=>simp [intOf];omega
   | true=>?_
   rw [q1] at E1;have HF:=hid (HE.out.trans (show _ = cL ol aP goals (ol.ag.length - (k + 1)) (k + 1) (ck ol m' k) by rw [ef];simp only [cL];rw [q1];rfl));have hok2:=rF (ol:=ol) hs' k;have hz2:=rG hol hz' k;clear HE ef hm' hpr K1 hmb O0 hSr
   go_wp2_with fail
   refine br E1 ?_;rintro x w4 ⟨rfl,K4⟩;obtain ⟨hm',hpr,K1⟩:=HX.out;have M4:=hm'.still K4;have mL : Pl w4 ob po ol:=hpr.keep K4 (fun _ _ _ _ _ x=>x);have K5:=Km.trans K1 (Kp.km K4);have E2:=hid (rH w4 B mb ob po ol m' k mL hol M4 hs' (by have:=K4.size;omega) (hz'.le (by omega)) hlt);clear hm' hpr K1 K4 HX E1 cp c2 M4 mL
   go_wp2_with fail
   refine br E2 ?_;rintro x w5 ⟨rfl,M5,K6⟩;have K7:=Km.trans K5 K6;clear E2 K5 K6;go_wp2
   go_roundw
   case rel=>exact ⟨k + 1,_,by go_num,by omega,HF,M5,hok2,hz2.le (by omega),K7⟩
   case measure=>simp [intOf];omega
  have hge : ¬ (k : Int) < (ol.ag.length : Int):=by omega
  have HF:=hid (HE.out.trans (show _ = m' by rw [show ol.ag.length - k = 0 by omega];rfl));have K2:=Km.trans (Kp.km KW) K1;clear HE hpr O0 hSr
  go_wp2_with fail
  go_end0
  rw [HU.out,HF.out];exact ⟨rfl,hm',K2⟩
end
theorem Km.KH {B mb : Nat} {w w' : World} (k : Kp (km B mb w.drew) w.drew w') : Kp (km B mb w) w w':=⟨k.os,k.tape,k.output,k.size,k.block⟩
theorem oU {w w' : World} {b o : Nat} {c : Array Value} {T : TypeId} {f : Nat × Nat} (h : w.heap[b]? = some (.cells c T f)) (h' : w'.heap[b]? = some (.cells c T f)) {v : Value} (hc : w.cell? ⟨b,o,none⟩ = some v) : w'.cell? ⟨b,o,none⟩ = some v:=by
 unfold World.cell? at *;simp only at *;rw [h'];rw [h] at hc;exact hc
theorem Pl.Uk {w : World} {ob po : Nat} {ol : Ol} (h : Pl w ob po ol) {k : Nat} {t : Tr} (ht : ol.bH[k]? = some t) :
 ∃ g cap ac B,w.cell? ⟨ob,po + 3,none⟩ = some (.slice (some ⟨g,0,none⟩) ol.bH.length cap) /\ w.cell? ⟨g,k * 7 + 5,none⟩ = some ac /\ w.ownsRow B 255 3 ac t.acts.length (cX t.acts) /\
  (∃ c T,w.heap[ob]? = some (.cells c T (0,0)) /\ T ≠ 149 /\ T ≠ 5) /\ ∃ c,w.heap[g]? = some (.cells c 209 (0,0)):=by
 obtain ⟨sv,tv,bv,lt,lb,B,c,T,⟨hb,hT,c2,c3,c4⟩,F⟩:=h;rw [<- F.wM,List.getElem?_map] at ht
 cases hx : lt[k]? with
 | none=>rw [hx] at ht;simp at ht
 | some x=>?_
 rw [hx] at ht;simp at ht;subst ht;have hk:=(List.getElem?_eq_some_iff.1 hx).1;obtain ⟨g,cap,rfl⟩:=ey F.bH (by omega);refine ⟨g,cap,x.2,B,by rw [<- F.wM,List.length_map];simp [World.cell?,hb,c3],?_,F.kx x (List.mem_of_getElem? hx),⟨c,T,hb,?_,?_⟩,aR F.bH rfl⟩
 ·rw [F.bH.cellAt (k * 7 + 5) (by omega)]
  exact qC _ 7 (by intro _;rfl) lt k 5 x hx (by omega)
 ·intro e;subst e;revert hT;unfold oT;decide
 intro e;subst e;revert hT;unfold oT;decide
theorem kI.blk {w : World} {g n cap : Nat} {l : List Int} (h : kI w (.slice (some ⟨g,0,none⟩) n cap) l) : ∃ c,w.heap[g]? = some (.cells c 3 (0,0)):=by
 obtain ⟨base,ho⟩:=h;exact aR ho rfl
section
variable (w : World) (B mb ob po : Nat) (ol : Ol)
theorem jQ (m : Ma) (v : Value) (list : List Int) (h : kI w v list) (hin : InT ol list) (hl : list.length <= 16) (hp : Pl w ob po ol) (hol : ol.Ok) (hm : Mm w B mb ob po m) (hs : m.s.Ok) (hB : B <= w.heap.size) (hz : m.Sz 700000000) :
 Calls prog 81 #[.pointer (some ⟨mb,0,none⟩),v] w fun x w'=>x = .returned (.tuple #[]) /\ Mm w' B mb ob po (dE ol m list) /\ Kp (km B mb w) w w':=by
 have mE:=hol.ag;have O1:=xC ol m.s list;have HU:=hid (show dE ol m list = Ch.enter ol (fF ol list (cu ol (cO ol m.s list) ol.ag.length { m with s:=Ch.rem ol.ag m.s (cO ol m.s list) })) list from rfl);obtain ⟨qv,ov,hmb,_⟩:=id hm;have E0:=hid (xG w mb ob po m.s qv ov ol v list h hin (by omega) hmb hs.1 hp hol);clear hmb
 go_enter func81,ntmps81
 go_wp2_with fail
 refine br E0 ?_;rintro x w1 ⟨rfl,K1⟩;generalize cO ol m.s list = left at *;have hnew:=heap_alloc_new w1 (.cells aW 91);have hS2:=fj.ofRow (setRow_heap (w1.alloc (.cells aW 91)) w1.heap.size aW (eI left) 91 (0,0) hnew);have K2 : Kp (fun _=>False) w ((w1.alloc (.cells aW 91)).setRow w1.heap.size (eI left)):=(K1.alloc _).setRow (fun x=>by have:=K1.size;omega) _;have hM2:=hm.still K2;have hp2 : Pl ((w1.alloc (.cells aW 91)).setRow w1.heap.size (eI left)) ob po ol:=hp.keep K2 (fun _ _ _ _ _ x=>x);have h2:=h.keep K2 (fun _ _ _ x=>x)
 have hlm : mb < w1.heap.size:=by have:=hm.lt;have:=K1.size;omega
 have hsI:=gL O1;have nL:=fU O1;have hs1:=iP left;clear K1 E0 hm hp h;generalize hlv : eI left = LV at *;clear hlv
 go_wp2_with (refine wpList_store_row rfl 91 (.tmp 4) (.tmp 8) rfl w1.heap.size LV rfl rfl 91 aW hnew hsI nL.symm hs1 ?_)
 clear hnew hsI nL hs1;generalize (w1.alloc (.cells aW 91)).setRow w1.heap.size LV = w2 at *;generalize w1.heap.size = lb at *
 go_upto_region 1 with (fail)
 dsimp only [Act.put];obtain ⟨qv,ov,hmb,oq,oo,ap⟩:=id hM2;have cp:=hmb.plan
 have P_ : ob ≠ mb:=by
  obtain ⟨sv,tv,bv,lt,lb',B',c,T,⟨hb,hT,_⟩,_⟩:=hp2;intro e;have Qa : w2.heap[mb]? = some (.cells _ 149 (0,0)):=hmb;rw [e,Qa] at hb;simp at hb;obtain ⟨_,rfl⟩:=hb
  revert hT;unfold oT;decide
 have E1:=hid (vE ob po w2.drew ol.ag mb 1 [.pointer (some ⟨ob,po,none⟩)] m.s [qv,ov] 149 lb 0 [] left [] 91 (by exact hp2.str) (by omega) (by exact hmb) hs.1 rfl (by exact hS2) O1 rfl (by omega) P_ (by decide));have HX:=hid (ae hmb (ae oq (ae oo ap)));have HY:=hid (ae hM2 (ae hp2 (ae hS2 (ae h2 K2))));clear hmb oq oo ap hM2 hp2 hS2 h2 K2
 go_cut [4] from 9 to 16 (fun b wx=>b = .pointer (some ⟨lb,0,none⟩) /\ Mm wx B mb ob po { m with s:=Ch.rem ol.ag m.s left } /\ Kp (km B mb w2) w2 wx)
 case first =>
  go_region_with (go_at_call 132;refine br E1 ?_;rintro x w3 ⟨rfl,h3,K3⟩;have H:=hid (ae h3 K3);clear E1 h3 K3)
  all_goals (go_wp2_with fail;go_meet;obtain ⟨hmb,oq,oo,ap⟩:=HX.out;obtain ⟨h3,K3⟩:=H.out;exact ⟨rfl,Mm.put (w:=w2) hmb oq oo ap (((Kp.refl (fun k=>k = mb) w2).drewN 1).trans K3) (by exact h3)⟩)
 case rest =>
 obtain ⟨rfl,M3,K3⟩:=hcut;obtain ⟨hM2,hp2,hS2,h2,K2⟩:=HY.out;have hp3:=hM2.pl K3 hp2;have tC : fj wc lb [] left [] 91:=hM2.at_ K3 hS2 (by decide) (by decide);have h3:=kI.km hM2 K3 h2;have KC:=Km.trans (Kp.km (B:=B) (mb:=mb) K2) K3;have hs3 : ({ m with s:=Ch.rem ol.ag m.s left } : Ma).s.Ok:=Fh _ hs;have hz3 : ({ m with s:=Ch.rem ol.ag m.s left } : Ma).Sz 700000000:=hz;clear HX HY E1 hM2 hp2 hS2 h2 K2 K3 cp;generalize ({ m with s:=Ch.rem ol.ag m.s left } : Ma) = m1 at *
 have hB3 : B <= wc.heap.size:=by have:=KC.size;omega
 have E2:=hid (CK wc B mb ob po ol m1 lb left tC O1 hp3 hol M3 hs3 hB3 (hz3.le (by omega)));have HY:=hid (ae M3 (ae hp3 (ae h3 KC)));have hs4:=uu ol left ol.ag.length hs3;have Iw:=uw hol left ol.ag.length hz3;clear M3 hp3 h3 KC tC
 go_wp2_with fail
 refine br E2 ?_;rintro x w4 ⟨rfl,M4,K4⟩;obtain ⟨M3,hp3,h3,KC⟩:=HY.out;have mL:=M3.pl K4 hp3;have h4:=kI.km M3 K4 h3;have KD:=Km.trans KC K4
 have hB4 : B <= w4.heap.size:=by have:=K4.size;omega
 clear M3 hp3 h3 KC K4 HY E2;generalize cu ol left ol.ag.length m1 = m2 at *;have Qb : m2.Sz 710000000:=Iw.le (by omega);clear Iw hz3 hs3;obtain ⟨ao,cap,rfl⟩:=h4.len
 go_wp2_with fail
 go_loopw [5] (fun i wr=>∃ (k : Nat) (m' : Ma),i = .int .i64 k /\ k <= list.length /\ Hid (fF ol list m2 = fF ol (list.drop k) m') /\ Mm wr B mb ob po m' /\ m'.s.Ok /\ m'.Sz (710000000 + 480 * k) /\ Kp (km B mb w4) w4 wr) (fun i _=>list.length - (intOf i).toNat)
 case atStart=>exact ⟨0,m2,rfl,Nat.zero_le _,hid rfl,M4,hs4,Qb,Kp.refl _ _⟩
 case round =>
  obtain ⟨k,m',rfl,hk,HE,hm',hs',hz',K1⟩:=hrel;have hpr : Pl wr ob po ol:=M4.pl K1 mL;have hr:=kI.km M4 K1 h4
  have hBr : B <= wr.heap.size:=by have:=K1.size;omega
  by_cases hlt : k < list.length
  ·have hlt' : (k : Int) < (list.length : Int):=by omega
   obtain ⟨a,ha⟩ : ∃ s,list[k]? = some s:=⟨_,List.getElem?_eq_getElem hlt⟩
   obtain ⟨g,cap',hg,a0⟩:=hr.at_ ha;simp only [Value.slice.injEq,true_and] at hg;obtain ⟨rfl,rfl⟩:=hg
   have ed : list.drop k = a :: list.drop (k + 1):=by
    rw [List.drop_eq_getElem_cons hlt];congr 1;exact (List.getElem?_eq_some_iff.1 ha).2
   obtain ⟨ha1,ha2⟩:=hin a (List.mem_of_getElem? ha)
   obtain ⟨j,rfl⟩ : ∃ j : Nat,a = j:=⟨a.toNat,by omega⟩
   have hj : j < ol.bH.length:=by omega
   have hj' : (j : Int) < (ol.bH.length : Int):=by omega
   obtain ⟨t,ht⟩ : ∃ s,ol.bH[j]? = some s:=⟨_,List.getElem?_eq_getElem hj⟩
   obtain ⟨tg,MQ,ac,base,c3,b5,hac,⟨V3,V4,Eo,hT1,Ul⟩,V5,L8⟩:=hpr.Uk ht;obtain ⟨cg,hgb⟩:=hr.blk;have cp:=hm'.plan;have htr:=hol.kx t (List.mem_of_getElem? ht);have HF:=hid (HE.out.trans (show _ = fF ol (list.drop (k + 1)) (cV t.acts m') by rw [ed];simp only [fF,Int.toNat_natCast,oS,ht]));have E1:=hid (Ez wr.drew B mb ob po m' t.acts ac base (by exact hac) (by exact hm') hs' htr.2 hBr (by have:=htr.1;omega) (by have:=hz'.1;omega) (by have:=hz'.2;omega));have hok:=l_ t.acts hs';have hz2:=oN hz' htr.1;have HK:=hid (ae K1 (ae hm' (ae Eo (ae L8 hgb))));clear HE hpr hr hac ht ha ed hm' K1 Eo L8 hgb
   go_upto_region 6 with (fail)
   go_region_held3 (fun w'=>w'.cell? ⟨mb,0,none⟩ = some (.pointer (some ⟨ob,po,none⟩)) /\ w'.cell? ⟨ob,po + 3,none⟩ = some (.slice (some ⟨tg,0,none⟩) ol.bH.length MQ) /\ w'.cell? ⟨g,k,none⟩ = some (.int .i64 j) /\ w'.cell? ⟨tg,j * 7 + 5,none⟩ = some ac) (first | exact ⟨cp,c3,a0,b5⟩ | exact HS.out) ((go_at_call 134;refine br E1 ?_;rintro x w5 ⟨rfl,h5,K5⟩;have H:=hid (ae h5 K5);obtain ⟨K1,hm',Eo,L8,hgb⟩:=HK.out;have HS:=hid (ae h5.plan (ae (oU Eo (Mm.at_ (w:=wr.drew) (by exact hm') K5 (by exact Eo) hT1 Ul) c3) (ae (oU hgb (Mm.at_ (w:=wr.drew) (by exact hm') K5 (by exact hgb) (by decide) (by decide)) a0) (oU L8 (Mm.at_ (w:=wr.drew) (by exact hm') K5 (by exact L8) (by decide) (by decide)) b5))));clear E1 h5 K5 K1 hm' Eo L8 hgb))
   all_goals (
    obtain ⟨M5,K6⟩:=H.out;have K5:=Km.trans HK.out.1 (Km.KH K6);clear H HS HK K6 c3 b5 cp a0;go_wp2
    go_roundw
    case rel=>exact ⟨k + 1,_,by go_num,by omega,HF,M5,hok,hz2.le (by omega),K5⟩
    case measure=>simp [intOf];omega)
  have hge : ¬ (k : Int) < (list.length : Int):=by omega
  have HF:=hid (HE.out.trans (show _ = m' by rw [List.drop_eq_nil_of_le (by omega)];rfl));have K2:=Km.trans KD K1;have E2:=hid (ux wr B mb ob po ol m' _ list hr hin (by omega) hpr hol hm' hs' hBr (hz'.le (by omega)));clear HE hpr hr K1 hm'
  go_wp2_with fail
  refine br E2 ?_;rintro x w5 ⟨rfl,M5,K5⟩;have K6:=Km.trans K2 K5;clear E2 K2 K5;go_wp2
  go_end0
  rw [HU.out,HF.out];exact ⟨rfl,M5,K6⟩
end
section
variable (w : World) (B mb ob po : Nat) (ol : Ol)
theorem xH (m : Ma) (hp : Pl w ob po ol) (hol : ol.Ok) (hm : Mm w B mb ob po m) (hs : m.s.Ok) :
 Calls prog 119 #[.pointer (some ⟨mb,0,none⟩)] w fun x w'=>x = .returned (.bool (Ch.busy ol m)) /\ Kp (fun _=>False) w w':=by
 obtain ⟨qv,ov,hmb,oq,_⟩:=id hm;have E0:=hid (iQ w mb ob po m.s qv ov ol 46 hmb hs.1 hp hol);have HU:=hid (show Ch.busy ol m = (decide (0 < (Ch.choose ol m.s 46).length) || decide (0 < m.q.length)) from rfl);have HX:=hid hmb;clear hmb
 go_enter func119,ntmps119
 go_wp2_with fail
 refine br E0 ?_;rintro x w1 ⟨v1,rfl,h1,K1⟩;have hmb : eF w1 mb ob po m.s qv ov:=bM.keep HX.out K1 (fun x=>x);have cq:=hmb.queue hs.1;obtain ⟨qo,qc,rfl⟩:=oq.len
 have MT : (ax m.q).length = m.q.length:=by simp [ax]
 rw [MT] at cq;generalize Ch.choose ol m.s 46 = list at *;obtain ⟨ao,cap,rfl⟩:=h1.len;clear HX hmb E0 oq h1 hm hp MT
 by_cases q1 : 0 < list.length
 ·have q1' : (0 : Int) < (list.length : Int):=by omega
  go_wp2;go_ret;rw [HU.out];exact ⟨by simp [q1],K1⟩
 have q1' : ¬ (0 : Int) < (list.length : Int):=by omega
 by_cases q2 : 0 < m.q.length
 ·have q2' : (0 : Int) < (m.q.length : Int):=by omega
  go_wp2;go_ret;rw [HU.out];exact ⟨by simp [q1,q2],K1⟩
 have q2' : ¬ (0 : Int) < (m.q.length : Int):=by omega
 go_wp2;go_ret;rw [HU.out];exact ⟨by simp [q1,q2],K1⟩
end
theorem bA.head {w : World} {base : Nat} {v : Value} {a : Int} {q : List Int} (h : bA w base v (ax (a :: q))) :
 ∃ g off cap,v = .slice (some ⟨g,off,none⟩) (q.length + 1) cap /\ w.cell? ⟨g,off,none⟩ = some (.int .u8 a) /\ q.length + 1 <= cap /\ bA w base (.slice (some ⟨g,off + 1,none⟩) q.length (cap - 1)) (ax q) /\ (cap = 1 -> bA w base (.slice (some ⟨g,off,none⟩) q.length 0) (ax q)):=by
 rcases h with ⟨_,h⟩ | ⟨g,off,cap,cur,rfl,hb,hg,hn,hs,hx⟩
 ·simp [ax] at h
 have hl : (ax (a :: q)).length = q.length + 1:=by simp [ax]
 have hq : (ax q).length = q.length:=by simp [ax]
 rw [hl] at hn ⊢;refine ⟨g,off,cap,rfl,?_,hn,.inr ⟨g,off + 1,cap - 1,cur,by rw [hq],hb,hg,by rw [hq];omega,by omega,?_⟩,fun e=>.inr ⟨g,off,0,cur,by rw [hq],hb,hg,by rw [hq];omega,by omega,?_⟩⟩
 ·rw [cell_of_row w g off cur _ _ hg]
  exact hx 0 _ (by simp [ax])
 ·intro j u hj
  have:=hx (j + 1) u (by simpa [ax] using hj);rw [<- this];congr 1;omega
 intro j u hj
 have hl0 : q.length = 0:=by omega
 rw [List.getElem?_eq_none (by rw [hq];omega)] at hj;simp at hj
theorem Mm.Sj {w : World} {B mb ob po : Nat} {s : Sd} {qv ov V : Value} {q out : List Int} (hm : eF w mb ob po s qv ov) (hw : s.Wf) (oq : bA w B V (ax q)) (oo : bA w B ov (ax out)) (ap : Apart V ov) :
 Mm (w.setCell ⟨mb,37,none⟩ V) B mb ob po ⟨s,q,out⟩ /\ eF (w.setCell ⟨mb,37,none⟩ V) mb ob po s V ov /\ Kp (km B mb w) w (w.setCell ⟨mb,37,none⟩ V):=by
 have hm2:=hm.MK hw V;have K2 : Kp (fun k=>k = mb) w (w.setCell ⟨mb,37,none⟩ V):=Kp.setCell (S:=fun k=>k = mb) (Kp.refl _ _) (p:=⟨mb,37,none⟩) (fun _=>rfl) V;have n1:=oq.ne hm (by decide);have n2:=oo.ne hm (by decide);exact ⟨⟨_,_,hm2,oq.keep K2 (fun i hi x=>by subst x;exact n1 hi),oo.keep K2 (fun i hi x=>by subst x;exact n2 hi),ap⟩,hm2,(Kp.refl _ _).trans' K2 (fun i _ x=>.inl x)⟩
section
variable (w : World) (B mb ob po : Nat) (ol : Ol)
theorem CV (m : Ma) (hp : Pl w ob po ol) (hol : ol.Ok) (hm : Mm w B mb ob po m) (hs : m.s.Ok) (hB : B <= w.heap.size) (hz : m.Sz 700000000) :
 Calls prog 120 #[.pointer (some ⟨mb,0,none⟩)] w fun x w'=>x = .returned (.tuple #[]) /\ Mm w' B mb ob po (Ch.round ol m) /\ Kp (km B mb w) w w':=by
 obtain ⟨qv,ov,hmb,oq,oo,ap⟩:=id hm;have E0:=hid (iQ w mb ob po m.s qv ov ol 46 hmb hs.1 hp hol);have HX:=hid (ae hmb (ae oq (ae oo (ae ap (ae hm hp)))));obtain ⟨hin,h16⟩:=jO ol m.s 46;have mE:=hol.ag;clear hmb oq oo ap hm hp
 cases q1 : (Ch.choose ol m.s 46).length == 0 with
 | false =>
   rw [show Ch.round ol m = dE ol m (Ch.choose ol m.s 46) by unfold Ch.round;rw [q1];rfl]
   go_enter func120,ntmps120
   go_wp2_with fail
   refine br E0 ?_;rintro x w1 ⟨v1,rfl,h1,K1⟩;obtain ⟨hmb,oq,oo,ap,hm,hp⟩:=HX.out;have hm1:=hm.still K1;have hp1 : Pl w1 ob po ol:=hp.keep K1 (fun _ _ _ _ _ x=>x);have E1:=hid (jQ w1 B mb ob po ol m _ _ h1 hin (by omega) hp1 hol hm1 hs (by have:=K1.size;omega) hz);generalize Sk : Ch.choose ol m.s 46 = list at *;have HL:=hid Sk;clear Sk;obtain ⟨ao,cap,rfl⟩:=h1.len
   have q2' : ¬ ((list.length : Int) = 0) := by intro e; have : list.length = 0 := by omega
                                                rw [this] at q1;exact absurd q1 (by decide)
   have q1' : ((list.length : Int) == 0) = false:=by simpa using q2'
   clear hmb oq oo ap hm hp HX hm1 hp1 h1 E0
   go_wp2_with fail
   refine br E1 ?_;rintro x w2 ⟨rfl,M2,K2⟩;have K3:=Km.trans (Kp.km K1) K2;clear E1 K1 K2;go_wp2
   go_end0
   rw [HL.out];exact ⟨rfl,M2,K3⟩
 | true=>?_
 have e0 : Ch.choose ol m.s 46 = []:=by
  cases q : Ch.choose ol m.s 46 with
  | nil=>rfl
  | cons a l=>rw [q] at q1;simp at q1
 cases q2 : m.q with
 | nil =>
   rw [show Ch.round ol m = dE ol m [] by unfold Ch.round;rw [q1,q2,e0];rfl];rw [e0] at E0;clear q1 e0 hin h16
   go_enter func120,ntmps120
   go_wp2_with fail
   refine br E0 ?_;rintro x w1 ⟨v1,rfl,h1,K1⟩;obtain ⟨hmb,oq,oo,ap,hm,hp⟩:=HX.out;have hm1:=hm.still K1;have hp1 : Pl w1 ob po ol:=hp.keep K1 (fun _ _ _ _ _ x=>x);have E1:=hid (jQ w1 B mb ob po ol m _ _ h1 (by intro n hn;simp at hn) (by simp) hp1 hol hm1 hs (by have:=K1.size;omega) hz);have MU : eF w1 mb ob po m.s qv ov:=bM.keep hmb K1 (fun x=>x);have cq:=MU.queue hs.1;obtain ⟨qo,qc,rfl⟩:=oq.len
   have MT : (ax m.q).length = 0:=by rw [q2];rfl
   rw [MT] at cq;obtain ⟨ao,cap,rfl⟩:=h1.len;simp only [List.length_nil] at E1;clear hmb oq oo ap hm hp HX hm1 hp1 h1 E0 MU MT
   go_wp2_with fail
   refine br E1 ?_;rintro x w2 ⟨rfl,M2,K2⟩;have K3:=Km.trans (Kp.km K1) K2;clear E1 K1 K2 cq;go_wp2
   go_end0
   exact ⟨rfl,M2,K3⟩
 | cons a q=>?_
 have hz2 : ({ m with q:=q } : Ma).Sz 700000000:=⟨by have:=hz.1;rw [q2] at this;simp at this ⊢;omega,hz.2⟩
 rw [show Ch.round ol m = dE ol { m with q:=q } (Ch.choose ol m.s a) by unfold Ch.round;rw [q1,q2];rfl];rw [e0] at E0;clear q1 e0 hin h16
 go_enter func120,ntmps120
 go_wp2_with fail
 refine br E0 ?_;rintro x w1 ⟨v1,rfl,h1,K1⟩;obtain ⟨ao,cap,rfl⟩:=h1.len;simp only [List.length_nil];obtain ⟨hmb,oq,oo,ap,hm,hp⟩:=HX.out;have hm1 : eF w1 mb ob po m.s qv ov:=bM.keep hmb K1 (fun x=>x);have hp1 : Pl w1 ob po ol:=hp.keep K1 (fun _ _ _ _ _ x=>x);have cq:=hm1.queue hs.1;have O9:=oq.keep K1 (fun _ _ x=>x);have O_:=oo.keep K1 (fun _ _ x=>x);rw [q2] at O9;obtain ⟨g,off,Ix,rfl,cg,hqc,Qc,Kw⟩:=O9.head
 have fz : ∀ i,w1.frozen? ⟨mb,i,none⟩ = false:=fun i=>bM.free hm1 i
 have Iy:=hm.still K1
 have hlq : (q.length : Int) + 1 <= (Ix : Int):=by omega
 by_cases hc1 : Ix = 1
 ·subst hc1
  obtain rfl : q = []:=by
   cases q with
   | nil=>rfl
   | cons b l=>simp at hqc
  obtain ⟨M2,hm2,K2⟩:=Mm.Sj (V:=.slice (some ⟨g,off,none⟩) 0 0) hm1 hs.1 (Kw rfl) O_ (fun i hi x=>ap i (by simpa [Value.ownBlock] using hi) x);have hp2:=Iy.pl K2 hp1;have K3:=Km.trans (Kp.km K1) K2;have E1:=hid (iQ (w1.setCell ⟨mb,37,none⟩ (.slice (some ⟨g,off,none⟩) 0 0)) mb ob po m.s _ _ ol a hm2 hs.1 hp2 hol);have HY:=hid (ae M2 (ae hp2 K3));obtain ⟨hin,h16⟩:=jO ol m.s a;clear hmb oq oo ap hm hp HX hm1 hp1 O9 O_ Qc Kw hm2 M2 hp2 K2 K3 E0 h1 K1 Iy
  go_wp2_with fail
  refine br E1 ?_;rintro x w4 ⟨v4,rfl,h4,K4⟩;obtain ⟨M2,hp2,K3⟩:=HY.out;have M4:=M2.still K4;have mL : Pl w4 ob po ol:=hp2.keep K4 (fun _ _ _ _ _ x=>x);have K5:=Km.trans K3 (Kp.km K4);have E2:=hid (jQ w4 B mb ob po ol _ _ _ h4 hin (by omega) mL hol M4 hs (by have:=K5.size;omega) hz2);clear M2 hp2 K3 K4 HY E1 M4 mL h4 cq cg fz
  go_wp2_with fail
  refine br E2 ?_;rintro x w5 ⟨rfl,M5,K6⟩;have K7:=Km.trans K5 K6;clear E2 K5 K6;go_wp2
  go_end0
  exact ⟨rfl,M5,K7⟩
 obtain ⟨M2,hm2,K2⟩:=Mm.Sj (V:=.slice (some ⟨g,off + 1,none⟩) q.length (Ix - 1)) hm1 hs.1 (Qc) O_ (fun i hi x=>ap i (by simpa [Value.ownBlock] using hi) x);have hp2:=Iy.pl K2 hp1;have K3:=Km.trans (Kp.km K1) K2;have E1:=hid (iQ (w1.setCell ⟨mb,37,none⟩ (.slice (some ⟨g,off + 1,none⟩) q.length (Ix - 1))) mb ob po m.s _ _ ol a hm2 hs.1 hp2 hol);have HY:=hid (ae M2 (ae hp2 K3));obtain ⟨hin,h16⟩:=jO ol m.s a;clear hmb oq oo ap hm hp HX hm1 hp1 O9 O_ Qc Kw hm2 M2 hp2 K2 K3 E0 h1 K1 Iy
 go_wp2_with fail
 refine br E1 ?_;rintro x w4 ⟨v4,rfl,h4,K4⟩;obtain ⟨M2,hp2,K3⟩:=HY.out;have M4:=M2.still K4;have mL : Pl w4 ob po ol:=hp2.keep K4 (fun _ _ _ _ _ x=>x);have K5:=Km.trans K3 (Kp.km K4);have E2:=hid (jQ w4 B mb ob po ol _ _ _ h4 hin (by omega) mL hol M4 hs (by have:=K5.size;omega) hz2);clear M2 hp2 K3 K4 HY E1 M4 mL h4 cq cg fz
 go_wp2_with fail
 refine br E2 ?_;rintro x w5 ⟨rfl,M5,K6⟩;have K7:=Km.trans K5 K6;clear E2 K5 K6;go_wp2
 go_end0
 exact ⟨rfl,M5,K7⟩
end
end Go.Proofs.YtnlbchmfcebeeaaGreat
