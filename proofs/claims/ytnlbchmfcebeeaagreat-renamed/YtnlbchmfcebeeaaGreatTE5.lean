import Derived.Test.YtnlbchmfcebeeaaGreatTE1
import Derived.Test.YtnlbchmfcebeeaaGreatTE3
import Derived.Deep.RegionHeld3
set_option maxHeartbeats 12800000
set_option maxRecDepth 100000
namespace Go.Proofs.YtnlbchmfcebeeaaGreat
open Go.RowKit
theorem InR.km {w w' : World} {B mb ob po : Nat} {m : Ch.Ma} (h : Mm w B mb ob po m) (k : Kp (km B mb w) w w') {v : Value} {l : List Int} (r : InR w v l) : InR w' v l:=by
 obtain ⟨base,ho⟩:=r;exact ⟨base,h.row k ho (by decide) (by decide)⟩
section
variable (w : World) (B mb ob po : Nat) (ol : Ch.Ol)
theorem enter_any (m : Ch.Ma) (v : Value) (list : List Int) (h : InR w v list) (hin : Ch.InT ol list) (hl : list.length ≤ 1000) (hp : Pl w ob po ol) (hol : ol.Ok) (hm : Mm w B mb ob po m) (hs : m.s.Ok) (hB : B ≤ w.heap.size) (hz : m.Sz 800000000) :
 Calls Tryz.prog 71 #[.pointer (some ⟨mb,0,none⟩),v] w fun x w'=>x = .returned (.tuple #[]) ∧ Mm w' B mb ob po (Ch.enter ol m list) ∧ Kp (km B mb w) w w':=by
 obtain ⟨ds,hds,hda⟩:=Tryz.undSet;have hl16:=hol.sts;have h16 : m.s.act.length = 16:=hs.1.1;have hnew:=heap_alloc_new w (.cells zB16 91);have hS2:=SeB.ofRow (setRow_heap (w.alloc (.cells zB16 91)) w.heap.size zB16 (setA m.s.act) 91 (0,0) hnew);have K2 : Kp (fun _=>False) w ((w.alloc (.cells zB16 91)).setRow w.heap.size (setA m.s.act)):=((Kp.refl _ _).alloc _).setRow (fun x=>by omega) _;have hM2:=hm.still K2;have hp2 : Pl ((w.alloc (.cells zB16 91)).setRow w.heap.size (setA m.s.act)) ob po ol:=hp.keep K2 (fun _ _ _ _ _ x=>x);have h2:=h.keep K2 (fun _ _ _ x=>x);obtain ⟨qv,ov,hmb,_⟩:=id hm
 have hcs : ∀ j u,(m.s.act.map Value.bool)[j]? = some u → w.cell? ⟨mb,1 + j,none⟩ = some u:=by
  intro j u hj
  have hj16 : j < 16:=by have:=(List.getElem?_eq_some_iff.1 hj).1;simp at this;omega
  have:=SeB.cell (pre:=[.pointer (some ⟨ob,po,none⟩)]) hmb h16 hj16;rw [List.getElem?_map] at hj
  cases e : m.s.act[j]? with
  | none=>rw [e] at hj;simp at hj
  | some b=>rw [e] at hj;simp at hj;subst hj;simpa [Ch.bit,e] using this
 have hsI:=setA_info h16;have hs16:=setA_size h16;have hs1:=setA_one m.s.act
 have hlI : (Tryz.prog.info? 91).map (·.size) = some (m.s.act.map Value.bool).length:=by rw [hsI];simp [setA]
 have HU:=hid (show Ch.enter ol m list = Ch.enterF ol m.s.act (Ch.goalsF ol m.s list) ol.sts.length 0 m from rfl);have hgl:=Ch.goalsF_len ol m.s list;clear hm hp h hmb
 go_enter Tryz.func71,Tryz.ntmps71
 go_wp2_with (first | refine wpList_load_part rfl 91 (.tmp 10) rfl mb 1 rfl (m.s.act.map Value.bool) ds hcs hds hda hlI ?_ | refine wpList_store_row rfl 91 (.tmp 4) (.tmp 11) rfl w.heap.size (setA m.s.act) rfl rfl 91 zB16 hnew hsI hs16.symm hs1 ?_)
 generalize (w.alloc (.cells zB16 91)).setRow w.heap.size (setA m.s.act) = w2 at *;have hsb:=hS2.lt;clear hcs hlI hsI hs16 hs1 hnew;obtain ⟨qv,ov,hmb,_⟩:=id hM2;have E0:=hid (goals_any w2 mb ob po m.s qv ov ol v list h2 hin hl hmb hs.1 hp2 hol);clear hmb
 go_wp2_with fail
 refine cMo E0 ?_;rintro x w3 ⟨gv,rfl,og,K3⟩
 have hG3 : InR w3 gv (Ch.goalsF ol m.s list):=⟨_,og⟩
 have hM3:=hM2.still K3;have hp3 : Pl w3 ob po ol:=hp2.keep K3 (fun _ _ _ _ _ x=>x);have hS3:=hS2.keep K3 (fun x=>x);have KW:=K2.trans K3
 have hB3 : B ≤ w3.heap.size:=by have:=KW.size;omega
 clear og hM2 hp2 hS2 K2 K3 E0 h2 hsb;generalize Ch.goalsF ol m.s list = goals at *;generalize w.heap.size = sb at *;generalize hst : m.s.act = stayed at *;clear hst
 go_wp2_with fail
 go_loopw [6] (fun i wr=>∃ (k : Nat) (m' : Ch.Ma),i = .int .i64 k ∧ k ≤ ol.sts.length ∧ Hid (Ch.enterF ol stayed goals ol.sts.length 0 m = Ch.enterF ol stayed goals (ol.sts.length - k) k m') ∧ Mm wr B mb ob po m' ∧ m'.s.Ok ∧ m'.Sz (800000000 + 115202 * k) ∧ Kp (km B mb w3) w3 wr) (fun i _=>ol.sts.length - (intOf i).toNat)
 case atStart=>exact ⟨0,m,rfl,Nat.zero_le _,hid rfl,hM3,hs,hz,Kp.refl _ _⟩
 case round =>
  obtain ⟨k,m',rfl,hk,HE,hm',hs',hz',K1⟩:=hrel;have hpr : Pl wr ob po ol:=hM3.pl K1 hp3;have hGr:=InR.km hM3 K1 hG3;have hSr : SeB wr sb [] stayed [] 91:=hM3.at_ K1 hS3 (by decide) (by decide)
  have hBr : B ≤ wr.heap.size:=by have:=K1.size;omega
  have cp:=hm'.plan;obtain ⟨ao,cap,c2⟩:=hpr.str.len
  by_cases hlt : k < ol.sts.length
  ·have hlt' : (k : Int) < (ol.sts.length : Int):=by omega
   have ef : ol.sts.length - k = (ol.sts.length - (k + 1)) + 1:=by omega
   obtain ⟨qv',ov',hmb,_⟩:=id hm';have E1:=hid (isDue_any wr mb ob po m'.s qv' ov' ol k sb stayed gv goals hSr h16 hGr (by omega) hmb hs'.1 hpr hol);have HX:=hid (And.intro hm' (And.intro hpr K1))
   cases q1 : Ch.isDue ol.sts m'.s.act stayed goals (k : Int) with
   | false =>
     rw [q1] at E1;have HF:=hid (HE.out.trans (show _ = Ch.enterF ol stayed goals (ol.sts.length - (k + 1)) (k + 1) m' by rw [ef];simp only [Ch.enterF];rw [q1];rfl));clear HE ef hm' hpr K1 hmb hGr hSr
     go_wp2_with fail
     refine cMo E1 ?_;rintro x w4 ⟨rfl,K4⟩;obtain ⟨hm',hpr,K1⟩:=HX.out;have M4:=hm'.still K4;have K5:=Km.trans K1 (Kp.km K4);clear hm' hpr K1 K4 HX E1 cp c2;go_wp2
     go_roundw
     case rel=>exact ⟨k + 1,m',by go_num,by omega,HF,M4,hs',hz'.le (by omega),K5⟩
     case measure=>simp [intOf];omega
   | true=>?_
   rw [q1] at E1;have HF:=hid (HE.out.trans (show _ = Ch.enterF ol stayed goals (ol.sts.length - (k + 1)) (k + 1) (Ch.enterSt ol m' k) by rw [ef];simp only [Ch.enterF];rw [q1];rfl));have hok2:=Ch.enterSt_ok (ol:=ol) hs' k;have hz2:=Ch.enterSt_sz hol hz' k;clear HE ef hm' hpr K1 hmb hGr hSr
   go_wp2_with fail
   refine cMo E1 ?_;rintro x w4 ⟨rfl,K4⟩;obtain ⟨hm',hpr,K1⟩:=HX.out;have M4:=hm'.still K4;have hp4 : Pl w4 ob po ol:=hpr.keep K4 (fun _ _ _ _ _ x=>x);have K5:=Km.trans K1 (Kp.km K4);have E2:=hid (enterState_any w4 B mb ob po ol m' k hp4 hol M4 hs' (by have:=K4.size;omega) (hz'.le (by omega)) hlt);clear hm' hpr K1 K4 HX E1 cp c2 M4 hp4
   go_wp2_with fail
   refine cMo E2 ?_;rintro x w5 ⟨rfl,M5,K6⟩;have K7:=Km.trans K5 K6;clear E2 K5 K6;go_wp2
   go_roundw
   case rel=>exact ⟨k + 1,_,by go_num,by omega,HF,M5,hok2,hz2.le (by omega),K7⟩
   case measure=>simp [intOf];omega
  have hge : ¬ (k : Int) < (ol.sts.length : Int):=by omega
  have HF:=hid (HE.out.trans (show _ = m' by rw [show ol.sts.length - k = 0 by omega];rfl));have K2:=Km.trans (Kp.km KW) K1;clear HE hpr hGr hSr
  go_wp2_with fail
  go_end0
  rw [HU.out,HF.out];exact ⟨rfl,hm',K2⟩
end
theorem Km.ofDrew {B mb : Nat} {w w' : World} (k : Kp (km B mb w.drew) w.drew w') : Kp (km B mb w) w w':=⟨k.os,k.tape,k.output,k.size,k.block⟩
theorem cell_same {w w' : World} {b o : Nat} {c : Array Value} {T : TypeId} {f : Nat × Nat} (h : w.heap[b]? = some (.cells c T f)) (h' : w'.heap[b]? = some (.cells c T f)) {v : Value} (hc : w.cell? ⟨b,o,none⟩ = some v) : w'.cell? ⟨b,o,none⟩ = some v:=by
 unfold World.cell? at *;simp only at *;rw [h'];rw [h] at hc;exact hc
theorem Pl.trB {w : World} {ob po : Nat} {ol : Ch.Ol} (h : Pl w ob po ol) {k : Nat} {t : Ch.Tr} (ht : ol.trs[k]? = some t) :
 ∃ g cap ac B,w.cell? ⟨ob,po + 3,none⟩ = some (.slice (some ⟨g,0,none⟩) ol.trs.length cap) ∧ w.cell? ⟨g,k * 7 + 5,none⟩ = some ac ∧ w.ownsRow B 255 3 ac t.acts.length (acCells t.acts) ∧
  (∃ c T,w.heap[ob]? = some (.cells c T (0,0)) ∧ T ≠ 149 ∧ T ≠ 5) ∧ ∃ c,w.heap[g]? = some (.cells c 209 (0,0)):=by
 obtain ⟨sv,tv,bv,lt,lb,B,c,T,⟨hb,hT,c2,c3,c4⟩,F⟩:=h;rw [← F.mtr,List.getElem?_map] at ht
 cases hx : lt[k]? with
 | none=>rw [hx] at ht;simp at ht
 | some x=>?_
 rw [hx] at ht;simp at ht;subst ht;have hk:=(List.getElem?_eq_some_iff.1 hx).1;obtain ⟨g,cap,rfl⟩:=own_form F.trs (by omega);refine ⟨g,cap,x.2,B,by rw [← F.mtr,List.length_map];simp [World.cell?,hb,c3],?_,F.tra x (List.mem_of_getElem? hx),⟨c,T,hb,?_,?_⟩,own_block F.trs rfl⟩
 ·rw [F.trs.cellAt (k * 7 + 5) (by omega)]
  exact flat_at _ 7 (by intro _;rfl) lt k 5 x hx (by omega)
 ·intro e;subst e;revert hT;unfold oT;decide
 intro e;subst e;revert hT;unfold oT;decide
theorem InR.blk {w : World} {g n cap : Nat} {l : List Int} (h : InR w (.slice (some ⟨g,0,none⟩) n cap) l) : ∃ c,w.heap[g]? = some (.cells c 3 (0,0)):=by
 obtain ⟨base,ho⟩:=h;exact own_block ho rfl
section
variable (w : World) (B mb ob po : Nat) (ol : Ch.Ol)
theorem micro_any (m : Ch.Ma) (v : Value) (list : List Int) (h : InR w v list) (hin : Ch.InT ol list) (hl : list.length ≤ 16) (hp : Pl w ob po ol) (hol : ol.Ok) (hm : Mm w B mb ob po m) (hs : m.s.Ok) (hB : B ≤ w.heap.size) (hz : m.Sz 700000000) :
 Calls Tryz.prog 81 #[.pointer (some ⟨mb,0,none⟩),v] w fun x w'=>x = .returned (.tuple #[]) ∧ Mm w' B mb ob po (Ch.micro ol m list) ∧ Kp (km B mb w) w w':=by
 have hl16:=hol.sts;have l16:=Ch.leftAll_len ol m.s list;have HU:=hid (show Ch.micro ol m list = Ch.enter ol (Ch.doTrs ol list (Ch.leaveF ol (Ch.leftAll ol m.s list) ol.sts.length { m with s:=Ch.rem ol.sts m.s (Ch.leftAll ol m.s list) })) list from rfl);obtain ⟨qv,ov,hmb,_⟩:=id hm;have E0:=hid (leftAll_any w mb ob po m.s qv ov ol v list h hin (by omega) hmb hs.1 hp hol);clear hmb
 go_enter Tryz.func81,Tryz.ntmps81
 go_wp2_with fail
 refine cMo E0 ?_;rintro x w1 ⟨rfl,K1⟩;generalize Ch.leftAll ol m.s list = left at *;have hnew:=heap_alloc_new w1 (.cells zB16 91);have hS2:=SeB.ofRow (setRow_heap (w1.alloc (.cells zB16 91)) w1.heap.size zB16 (setA left) 91 (0,0) hnew);have K2 : Kp (fun _=>False) w ((w1.alloc (.cells zB16 91)).setRow w1.heap.size (setA left)):=(K1.alloc _).setRow (fun x=>by have:=K1.size;omega) _;have hM2:=hm.still K2;have hp2 : Pl ((w1.alloc (.cells zB16 91)).setRow w1.heap.size (setA left)) ob po ol:=hp.keep K2 (fun _ _ _ _ _ x=>x);have h2:=h.keep K2 (fun _ _ _ x=>x)
 have hlm : mb < w1.heap.size:=by have:=hm.lt;have:=K1.size;omega
 have hsI:=setA_info l16;have hs16:=setA_size l16;have hs1:=setA_one left;clear K1 E0 hm hp h;generalize hlv : setA left = LV at *;clear hlv
 go_wp2_with (refine wpList_store_row rfl 91 (.tmp 4) (.tmp 8) rfl w1.heap.size LV rfl rfl 91 zB16 hnew hsI hs16.symm hs1 ?_)
 clear hnew hsI hs16 hs1;generalize (w1.alloc (.cells zB16 91)).setRow w1.heap.size LV = w2 at *;generalize w1.heap.size = lb at *
 go_upto_region 1 with (fail)
 dsimp only [Act.put];obtain ⟨qv,ov,hmb,oq,oo,ap⟩:=id hM2;have cp:=hmb.plan
 have hobm : ob ≠ mb:=by
  obtain ⟨sv,tv,bv,lt,lb',B',c,T,⟨hb,hT,_⟩,_⟩:=hp2;intro e;have hmb' : w2.heap[mb]? = some (.cells _ 149 (0,0)):=hmb;rw [e,hmb'] at hb;simp at hb;obtain ⟨_,rfl⟩:=hb
  revert hT;unfold oT;decide
 have E1:=hid (remember_any ob po w2.drew ol.sts mb 1 [.pointer (some ⟨ob,po,none⟩)] m.s [qv,ov] 149 lb 0 [] left [] 91 (by exact hp2.str) (by omega) (by exact hmb) hs.1 rfl (by exact hS2) l16 rfl (by omega) hobm (by decide));have HX:=hid (And.intro hmb (And.intro oq (And.intro oo ap)));have HY:=hid (And.intro hM2 (And.intro hp2 (And.intro hS2 (And.intro h2 K2))));clear hmb oq oo ap hM2 hp2 hS2 h2 K2
 go_cut [4] from 9 to 16 (fun b wx=>b = .pointer (some ⟨lb,0,none⟩) ∧ Mm wx B mb ob po { m with s:=Ch.rem ol.sts m.s left } ∧ Kp (km B mb w2) w2 wx)
 case first =>
  go_region_with (go_at_call 132;refine cMo E1 ?_;rintro x w3 ⟨rfl,h3,K3⟩;have H:=hid (And.intro h3 K3);clear E1 h3 K3)
  all_goals (go_wp2_with fail;go_meet;obtain ⟨hmb,oq,oo,ap⟩:=HX.out;obtain ⟨h3,K3⟩:=H.out;exact ⟨rfl,Mm.put (w:=w2) hmb oq oo ap (((Kp.refl (fun k=>k = mb) w2).drewN 1).trans K3) (by exact h3)⟩)
 case rest =>
 obtain ⟨rfl,M3,K3⟩:=hcut;obtain ⟨hM2,hp2,hS2,h2,K2⟩:=HY.out;have hp3:=hM2.pl K3 hp2;have hS3 : SeB wc lb [] left [] 91:=hM2.at_ K3 hS2 (by decide) (by decide);have h3:=InR.km hM2 K3 h2;have KC:=Km.trans (Kp.km (B:=B) (mb:=mb) K2) K3;have hs3 : ({ m with s:=Ch.rem ol.sts m.s left } : Ch.Ma).s.Ok:=Ch.rem_ok _ hs;have hz3 : ({ m with s:=Ch.rem ol.sts m.s left } : Ch.Ma).Sz 700000000:=hz;clear HX HY E1 hM2 hp2 hS2 h2 K2 K3 cp;generalize ({ m with s:=Ch.rem ol.sts m.s left } : Ch.Ma) = m1 at *
 have hB3 : B ≤ wc.heap.size:=by have:=KC.size;omega
 have E2:=hid (leave_any wc B mb ob po ol m1 lb left hS3 l16 hp3 hol M3 hs3 hB3 (hz3.le (by omega)));have HY:=hid (And.intro M3 (And.intro hp3 (And.intro h3 KC)));have hs4:=Ch.leaveF_ok ol left ol.sts.length hs3;have hz4:=Ch.leaveF_sz hol left ol.sts.length hz3;clear M3 hp3 h3 KC hS3
 go_wp2_with fail
 refine cMo E2 ?_;rintro x w4 ⟨rfl,M4,K4⟩;obtain ⟨M3,hp3,h3,KC⟩:=HY.out;have hp4:=M3.pl K4 hp3;have h4:=InR.km M3 K4 h3;have KD:=Km.trans KC K4
 have hB4 : B ≤ w4.heap.size:=by have:=K4.size;omega
 clear M3 hp3 h3 KC K4 HY E2;generalize Ch.leaveF ol left ol.sts.length m1 = m2 at *;have hz4' : m2.Sz 710000000:=hz4.le (by omega);clear hz4 hz3 hs3;obtain ⟨ao,cap,rfl⟩:=h4.len
 go_wp2_with fail
 go_loopw [5] (fun i wr=>∃ (k : Nat) (m' : Ch.Ma),i = .int .i64 k ∧ k ≤ list.length ∧ Hid (Ch.doTrs ol list m2 = Ch.doTrs ol (list.drop k) m') ∧ Mm wr B mb ob po m' ∧ m'.s.Ok ∧ m'.Sz (710000000 + 480 * k) ∧ Kp (km B mb w4) w4 wr) (fun i _=>list.length - (intOf i).toNat)
 case atStart=>exact ⟨0,m2,rfl,Nat.zero_le _,hid rfl,M4,hs4,hz4',Kp.refl _ _⟩
 case round =>
  obtain ⟨k,m',rfl,hk,HE,hm',hs',hz',K1⟩:=hrel;have hpr : Pl wr ob po ol:=M4.pl K1 hp4;have hr:=InR.km M4 K1 h4
  have hBr : B ≤ wr.heap.size:=by have:=K1.size;omega
  by_cases hlt : k < list.length
  ·have hlt' : (k : Int) < (list.length : Int):=by omega
   obtain ⟨a,ha⟩ : ∃ s,list[k]? = some s:=⟨_,List.getElem?_eq_getElem hlt⟩
   obtain ⟨g,cap',hg,a0⟩:=hr.at_ ha;simp only [Value.slice.injEq,true_and] at hg;obtain ⟨rfl,rfl⟩:=hg
   have ed : list.drop k = a :: list.drop (k + 1):=by
    rw [List.drop_eq_getElem_cons hlt];congr 1;exact (List.getElem?_eq_some_iff.1 ha).2
   obtain ⟨ha1,ha2⟩:=hin a (List.mem_of_getElem? ha)
   obtain ⟨j,rfl⟩ : ∃ j : Nat,a = j:=⟨a.toNat,by omega⟩
   have hj : j < ol.trs.length:=by omega
   have hj' : (j : Int) < (ol.trs.length : Int):=by omega
   obtain ⟨t,ht⟩ : ∃ s,ol.trs[j]? = some s:=⟨_,List.getElem?_eq_getElem hj⟩
   obtain ⟨tg,tcap,ac,base,c3,b5,hac,⟨cob,Tob,hob,hT1,hT2⟩,ctg,htg⟩:=hpr.trB ht;obtain ⟨cg,hgb⟩:=hr.blk;have cp:=hm'.plan;have htr:=hol.tra t (List.mem_of_getElem? ht);have HF:=hid (HE.out.trans (show _ = Ch.doTrs ol (list.drop (k + 1)) (Ch.doActs t.acts m') by rw [ed];simp only [Ch.doTrs,Int.toNat_natCast,Ch.actsOf,ht]));have E1:=hid (do_any wr.drew B mb ob po m' t.acts ac base (by exact hac) (by exact hm') hs' htr.2 hBr (by have:=htr.1;omega) (by have:=hz'.1;omega) (by have:=hz'.2;omega));have hok:=Ch.doActs_ok t.acts hs';have hz2:=Ch.doActs_sz hz' htr.1;have HK:=hid (And.intro K1 (And.intro hm' (And.intro hob (And.intro htg hgb))));clear HE hpr hr hac ht ha ed hm' K1 hob htg hgb
   go_upto_region 6 with (fail)
   go_region_held3 (fun w'=>w'.cell? ⟨mb,0,none⟩ = some (.pointer (some ⟨ob,po,none⟩)) ∧ w'.cell? ⟨ob,po + 3,none⟩ = some (.slice (some ⟨tg,0,none⟩) ol.trs.length tcap) ∧ w'.cell? ⟨g,k,none⟩ = some (.int .i64 j) ∧ w'.cell? ⟨tg,j * 7 + 5,none⟩ = some ac) (first | exact ⟨cp,c3,a0,b5⟩ | exact HS.out) ((go_at_call 134;refine cMo E1 ?_;rintro x w5 ⟨rfl,h5,K5⟩;have H:=hid (And.intro h5 K5);obtain ⟨K1,hm',hob,htg,hgb⟩:=HK.out;have HS:=hid (And.intro h5.plan (And.intro (cell_same hob (Mm.at_ (w:=wr.drew) (by exact hm') K5 (by exact hob) hT1 hT2) c3) (And.intro (cell_same hgb (Mm.at_ (w:=wr.drew) (by exact hm') K5 (by exact hgb) (by decide) (by decide)) a0) (cell_same htg (Mm.at_ (w:=wr.drew) (by exact hm') K5 (by exact htg) (by decide) (by decide)) b5))));clear E1 h5 K5 K1 hm' hob htg hgb))
   all_goals (
    obtain ⟨M5,K6⟩:=H.out;have K5:=Km.trans HK.out.1 (Km.ofDrew K6);clear H HS HK K6 c3 b5 cp a0;go_wp2
    go_roundw
    case rel=>exact ⟨k + 1,_,by go_num,by omega,HF,M5,hok,hz2.le (by omega),K5⟩
    case measure=>simp [intOf];omega)
  have hge : ¬ (k : Int) < (list.length : Int):=by omega
  have HF:=hid (HE.out.trans (show _ = m' by rw [List.drop_eq_nil_of_le (by omega)];rfl));have K2:=Km.trans KD K1;have E2:=hid (enter_any wr B mb ob po ol m' _ list hr hin (by omega) hpr hol hm' hs' hBr (hz'.le (by omega)));clear HE hpr hr K1 hm'
  go_wp2_with fail
  refine cMo E2 ?_;rintro x w5 ⟨rfl,M5,K5⟩;have K6:=Km.trans K2 K5;clear E2 K2 K5;go_wp2
  go_end0
  rw [HU.out,HF.out];exact ⟨rfl,M5,K6⟩
end
end Go.Proofs.YtnlbchmfcebeeaaGreat
