import Derived.Test.YtnlbchmfcebeeaaGreatTZf
set_option maxHeartbeats 12800000
set_option maxRecDepth 100000
namespace Go.Proofs.YtnlbchmfcebeeaaGreat
open Go.RowKit
namespace Ch
def rowQ {α : Type} (n : Nat) (new : Nat → α) (old : Nat → α) (k : Nat) (cur : α) : List α:=(List.range n).map fun e=>if e < k then new e else if e = k then cur else old e
theorem rowQ_len {α : Type} (n : Nat) (new old : Nat → α) (k : Nat) (cur : α) : (rowQ n new old k cur).length = n:=by simp [rowQ]
theorem rowQ_at {α : Type} {n : Nat} (new old : Nat → α) {k : Nat} (cur : α) (hk : k < n) : (rowQ n new old k cur)[k]? = some cur:=by
 unfold rowQ;rw [List.getElem?_map,List.getElem?_range hk];simp
theorem rowQ_set {α : Type} {n : Nat} (new old : Nat → α) {k : Nat} (cur c : α) : (rowQ n new old k cur).set k c = rowQ n new old k c:=by
 apply List.ext_getElem?;intro j;unfold rowQ
 by_cases hj : j < n
 ·rw [List.getElem?_set]
  by_cases e : k = j
  ·subst e;simp [hj]
  simp [hj,e,Ne.symm e]
 simp [hj]
theorem rowQ_next {α : Type} (n : Nat) (new old : Nat → α) (k : Nat) : rowQ n new old k (new k) = rowQ n new old (k + 1) (old (k + 1)):=by
 unfold rowQ;apply List.map_congr_left;intro j _
 by_cases h1 : j < k
 ·rw [if_pos h1,if_pos (by omega)]
 rw [if_neg h1]
 by_cases h2 : j = k
 ·subst h2;rw [if_pos rfl,if_pos (by omega)]
 rw [if_neg h2,if_neg (by omega)]
 by_cases h3 : j = k + 1
 ·subst h3;rw [if_pos rfl]
 rw [if_neg h3]
theorem rowQ_start {α : Type} (n : Nat) (new old : Nat → α) : rowQ n new old 0 (old 0) = (List.range n).map old:=by
 unfold rowQ;apply List.map_congr_left;intro j _;rw [if_neg (by omega)]
 by_cases h : j = 0
 ·subst h;rw [if_pos rfl]
 rw [if_neg h]
theorem rowQ_end {α : Type} (n : Nat) (new old : Nat → α) (c : α) : rowQ n new old n c = (List.range n).map new:=by
 unfold rowQ;apply List.map_congr_left;intro j hj;rw [if_pos (by simpa using hj)]
theorem range_at {α : Type} (l : List Nat) (f : Nat → α) : (List.range l.length).map (fun e=>f (l.getD e 0)) = l.map f:=by
 apply List.ext_getElem?;intro j
 by_cases hj : j < l.length
 ·simp [hj]
 simp [hj]
theorem any_snoc {α : Type} {l : List α} {k : Nat} {x : α} (h : l[k]? = some x) (p : α → Bool) : (l.take (k + 1)).any p = ((l.take k).any p || p x):=by
 rw [List.take_add_one,h,List.any_append];simp
theorem fold_snoc {α β : Type} {l : List α} {k : Nat} {x : α} (h : l[k]? = some x) (f : β → α → β) (c : β) : (l.take (k + 1)).foldl f c = f ((l.take k).foldl f c) x:=by
 rw [List.take_add_one,h,List.foldl_append];rfl
theorem left_same {ol : Ol} {n : Nat} (hn : ol.sts.length = n) (h16 : n ≤ 16) (s : Sd) (list : List Int) : SameOn n ((List.range n).map fun j=>list.any fun t=>lv ol s t j) (leftAll ol s list):=by
 refine ⟨by simp,leftAll_len _ _ _,fun k=>?_⟩;rw [left_bit (by omega)];unfold onAt
 by_cases hk : k < n
 ·simp [hk]
 have : list.any (fun t=>lv ol s t k) = false:=by
  rw [List.any_eq_false];intro t _ ht;obtain ⟨x,hx⟩:=lv_some ht;have:=((lv_iff hx k).1 ht).2.1;omega
 rw [this];simp [hk]
end Ch
section
variable {w w' : World} {B B2 xb cb g : Nat} {pv v : Value} {l : List NV} {ol : Ch.Ol} {m : Ch.Ma}
theorem NwX.aside (h : NwX w B B2 xb cb g pv v l ol m) {gb : Nat} {gn : List Bool} (hg : OnB w gb gn) (hne : gb ≠ g) (k : Kp (fun i=>i = gb) w w') : NwX w' B B2 xb cb g pv v l ol m:=by
 obtain ⟨on,ho,hs⟩:=h.on
 have hx : xb ≠ gb:=fun e=>by
  have h1:=h.nb;unfold NwB at h1;unfold OnB at hg;rw [e,hg] at h1;simp only [Option.some.injEq,Obj.cells.injEq] at h1;exact absurd h1.2.1 (by decide)
 refine ⟨h.nb.keep k hx,⟨on,k.at_ ho (fun e=>hne e.symm),hs⟩,OwnP.keep h.ps k (fun j hj e=>OwnP.ne h.ps hg (by decide) (by rw [hj,e])),h.ch.keepT k (fun i cur T hi _ hT e=>?_)⟩;subst e;unfold OnB at hg;rw [hg] at hi;simp only [Option.some.injEq,Obj.cells.injEq] at hi
 rcases hT with h | h | h | h <;> rw [h] at hi <;> exact absurd hi.2.1 (by decide)
theorem Ch.SameOn.put {n i : Nat} {on l : List Bool} (h : Ch.SameOn n on l) (hi : i < n) (hn : n ≤ 16) (b : Bool) : Ch.SameOn n (on.set i b) (Ch.putB l (i : Int) b):=by
 obtain ⟨h1,h2,h3⟩:=h;refine ⟨by simp [h1],by show (l.set i b).length = 16;simp [h2],fun k=>?_⟩;show (on.set i b).getD k false = (l.set i b).getD k false;have:=h3 k;unfold Ch.onAt Ch.bit at this;simp only [List.getD_eq_getElem?_getD,List.getElem?_set] at this ⊢
 by_cases e : i = k
 ·subst e;rw [if_pos rfl,if_pos rfl,if_pos (by omega),if_pos (by omega)]
 rw [if_neg e,if_neg e];exact this
theorem NwX.turn (h : NwX w B B2 xb cb g pv v l ol m) {i : Nat} (hi : i < l.length) (hle : l.length ≤ 16) (b : Bool) : NwX (w.setCell ⟨g,i,none⟩ (.bool b)) B B2 xb cb g pv v l ol (Ch.setAct m i b) ∧ Kp (nS xb g pv) w (w.setCell ⟨g,i,none⟩ (.bool b)):=by
 obtain ⟨on,hon,hso⟩:=h.on;have K1 : Kp (fun k=>k = g) w (w.setCell ⟨g,i,none⟩ (.bool b)):=(Kp.refl _ _).setCell (by intro _;rfl) _;have K2:=K1.mono (S':=nS xb g pv) (fun _ _ e=>.inr (.inl e));exact ⟨⟨h.nb.keep K1 h.xg,⟨on.set i b,hon.set i b,hso.put hi hle b⟩,OwnP.keep h.ps K1 (fun j hj e=>h.pg (by rw [hj,e])),h.chart K2⟩,K2⟩
theorem NwX.gne (h : NwX w B B2 xb cb g pv v l ol m) : w.heap.size ≠ g:=fun e=>by
 obtain ⟨on,ho,_⟩:=h.on;unfold OnB at ho;rw [← e] at ho;simp at ho
end
section
variable (w : World) (B B2 xb cb g : Nat) (pv v : Value) (l : List NV) (ol : Ch.Ol) (m : Ch.Ma)
theorem rLeaving_any (N B3 : Nat) (list : List Int) (lw : Value) (h : NwX w B B2 xb cb g pv v l ol m) (hR : Rf l ol) (hI : Ch.Inv ol m.s) (hM : Ch.MOk m N) (hN : N ≤ 880000000) (hll : list.length ≤ 16) (hin : Ch.InT ol list) (hlw : w.ownsRow B3 301 2 lw list.length (mvCells ol list)) :
 Calls Tryz.prog 244 #[.pointer (some ⟨xb,0,none⟩),lw] w fun y w'=>y = .returned (.tuple #[]) ∧ NwX w' B B2 xb cb g pv v l ol (Ch.leaveF ol (Ch.leftAll ol m.s list) ol.sts.length { m with s:=Ch.rem ol.sts m.s (Ch.leftAll ol m.s list) }) ∧ Kp (nS xb g pv) w w':=by
 obtain ⟨left,hleft⟩ : ∃ x,x = Ch.leftAll ol m.s list:=⟨_,rfl⟩
 rw [← hleft]
 obtain ⟨m1,hm1⟩ : ∃ x : Ch.Ma,x = { m with s:=Ch.rem ol.sts m.s left }:=⟨_,rfl⟩
 rw [← hm1];have HLE:=hid hleft;have HM1:=hid hm1;clear hleft hm1;obtain ⟨i0,hi0,hz0,hz1,hz2⟩:=info_parts Tryz.infoBool;obtain ⟨d,hd,hda⟩:=Tryz.undMv;have hle:=hR.le;obtain ⟨ao,cap,rfl⟩:=h.ch.2.1.len;obtain ⟨la,lc,rfl⟩:=own_len hlw;have c0 : w.cell? ⟨xb,0,none⟩ = some (.pointer (some ⟨cb,0,none⟩)):=h.nb.cell 0;have zc:=h.ch.cell;have hgne:=h.gne;have HIN:=hid hin;have HX:=hid (And.intro h (And.intro hM hlw));clear h hM hlw hin
 go_enter Tryz.func244,Tryz.ntmps244
 go_wp2_with (at_make;refine wpList_make_full w rfl (.tmp 22) (.tmp 22) 68 rfl w.heap.size 4 i0 (.bool false) 1 Tryz.underlying68 hi0 hz0 hz1 .i64 .i64 l.length l.length l.length rfl rfl rfl rfl ?c1 ?c2 (Nat.le_refl _) ?_)
 case c1=>rw [hz2];omega
 case c2=>unfold maxLen;omega
 intro w4 o4 g4;have K4 : Kp (fun _=>False) w w4:=(Kp.refl _ _).grown g4 (fun i hi _=>by simp at hi);have hgn4:=OnB.made o4;have hX4:=HX.out.1.keep0 K4;have HW:=hid (And.intro hX4 (And.intro hgn4 (And.intro (K4.owns HX.out.2.2 (fun _ _ x=>x)) (And.intro K4 HX.out.2.1))));clear c0 zc HX o4 g4 hX4 hgn4 K4;generalize hgb : w.heap.size = gb at *
 go_wp2_with fail
 go_loopw [5] (fun iv wr=>∃ i : Nat,iv = .int .i64 i ∧ i ≤ l.length ∧ Hid (OnB wr gb (Ch.rowQ l.length (fun j=>list.any fun t=>Ch.lv ol m.s t j) (fun _=>false) i false)) ∧ Kp (fun k=>k = gb) w4 wr) (fun iv _=>l.length - (intOf iv).toNat)
 case atStart=>exact ⟨0,rfl,Nat.zero_le _,hid (by rw [Ch.rowQ_start l.length (fun j=>list.any fun t=>Ch.lv ol m.s t j) (fun _=>false),List.map_const'];simpa using HW.out.2.1),Kp.refl _ _⟩
 case round =>
  obtain ⟨i,rfl,hi,HG,KW⟩:=hrel;have hXr:=HW.out.1.aside HW.out.2.1 hgne KW;have c0 : wr.cell? ⟨xb,0,none⟩ = some (.pointer (some ⟨cb,0,none⟩)):=hXr.nb.cell 0;have zc:=hXr.ch.cell
  by_cases hlt : i < l.length
  ·have hlt' : (i : Int) < (l.length : Int):=by omega
   clear hXr
   go_wp2_with fail
   go_loopw [6] (fun kv wq=>∃ k : Nat,kv = .int .i64 k ∧ k ≤ list.length ∧ Hid (OnB wq gb (Ch.rowQ l.length (fun j=>list.any fun t=>Ch.lv ol m.s t j) (fun _=>false) i ((list.take k).any fun t=>Ch.lv ol m.s t i))) ∧ Kp (fun k=>k = gb) w4 wq) (fun kv _=>list.length - (intOf kv).toNat)
   case atStart=>exact ⟨0,rfl,Nat.zero_le _,hid HG.out,KW⟩
   case round =>
    obtain ⟨k,rfl,hk,HGk,KQ⟩:=hrel
    by_cases hkl : k < list.length
    ·have hkl' : (k : Int) < (list.length : Int):=by omega
     have hXq:=HW.out.1.aside HW.out.2.1 hgne KQ;have hlq:=KQ.owns HW.out.2.2.1 (fun j hj e=>own_ne HW.out.2.2.1 HW.out.2.1 (by decide) (by rw [hj,e]))
     obtain ⟨ti,hti⟩ : ∃ ti,list[k]? = some ti:=⟨_,List.getElem?_eq_getElem hkl⟩
     have htin:=HIN.out ti (List.mem_of_getElem? hti)
     obtain ⟨t,rfl⟩ : ∃ t : Nat,ti = t:=⟨ti.toNat,by omega⟩
     obtain ⟨a,nd,rt,x,hsa,hal',hmr⟩:=hR.mv (t:=t) (by omega);obtain ⟨g2,cap2,hv2,_⟩:=World.ownsRow.form hlq (by omega);simp only [Value.slice.injEq] at hv2;obtain ⟨rfl,-,rfl⟩:=hv2;obtain ⟨q0,q1⟩:=mvCells_at ol list k t hti;rw [Int.toNat_natCast] at q0 q1;rw [hsa] at q0;have z0:=(World.ownsRow.cellAt hlq (k * 2) (by omega)).trans q0;have z1:=(World.ownsRow.cellAt hlq (k * 2 + 1) (by omega)).trans q1;obtain ⟨on,hon,hso⟩:=hXq.on;have E:=hid (rLeft_any wr B xb cb g pv m l _ ol t a _ i nd rt x on hXq.nb hon hso hXq.ch hR hmr hlt);have HSN:=hid (Ch.any_snoc hti (fun t=>Ch.lv ol m.s t i));have HKQ:=hid KQ;clear hXq hlq q0 q1 hon hso hmr KQ
     go_wp2_with fail
     refine hm E ?_;rintro y w5 ⟨rfl,K5⟩;have hg5 : OnB w5 gb _:=K5.at_ HGk.out (fun x=>x);have zg:=hg5.cell (k:=i) (by rw [Ch.rowQ_len];exact hlt);have fg:=hg5.free i
     have hoa : Ch.onAt (Ch.rowQ l.length (fun j=>list.any fun t=>Ch.lv ol m.s t j) (fun _=>false) i ((list.take k).any fun t=>Ch.lv ol m.s t i)) i = (list.take k).any fun t=>Ch.lv ol m.s t i:=by
      unfold Ch.onAt;rw [List.getD_eq_getElem?_getD,Ch.rowQ_at _ _ _ hlt];rfl
     rw [hoa] at zg
     have HS5:=hid (fun b=>by
      have:=hg5.set i b;rw [Ch.rowQ_set] at this
      exact this)
     have HK5:=hid (fun b=>(HKQ.out.trans' K5 (fun _ _ x=>x.elim)).setCell (p:=⟨gb,i,none⟩) (fun _=>rfl) (.bool b));clear E K5 hg5 hoa HKQ HGk z0 z1;generalize Ch.lv ol m.s (t : Int) i = v1 at *;generalize (list.take k).any (fun t=>Ch.lv ol m.s t i) = v2 at *
     cases v2
     ·go_wp2
      go_roundw
      case rel=>exact ⟨k + 1,by go_num,by omega,hid (by rw [HSN.out];exact HS5.out _),HK5.out _⟩
      case measure=>simp [intOf];omega
     go_wp2
     go_roundw
     case rel=>exact ⟨k + 1,by go_num,by omega,hid (by rw [HSN.out];exact HS5.out _),HK5.out _⟩
     case measure=>simp [intOf];omega
    have hge : ¬ (k : Int) < (list.length : Int):=by omega
    obtain rfl : k = list.length:=by omega
    have HN:=hid (show OnB wr gb _ by
     have:=HGk.out;rw [List.take_length,Ch.rowQ_next l.length (fun j=>list.any fun t=>Ch.lv ol m.s t j) (fun _=>false) i] at this
     exact this)
    clear HGk HG;go_wp2
    go_roundw
    case rel=>exact ⟨i + 1,by go_num,by omega,HN,KQ⟩
    case measure=>simp [intOf];omega
  have hge : ¬ (i : Int) < (l.length : Int):=by omega
  obtain rfl : i = l.length:=by omega
  have hsl:=Ch.left_same hR.len hle m.s list;rw [← HLE.out] at hsl;have hG:=HG.out;rw [Ch.rowQ_end] at hG;have KF : Kp (fun _=>False) w wr:=HW.out.2.2.2.1.trans' KW (fun i hi e=>by omega);have E1:=hid (rHist_any wr B cb l _ hXr.ch (by omega))
  have hrf:=fun (k p : Nat) (hk : k < ol.sts.length)=>Ch.rem_fold hR.ols hI left (k:=k) (p:=p) hk
  have hM2:=HW.out.2.2.2.2;generalize (List.range l.length).map (fun j=>list.any fun t=>Ch.lv ol m.s t j) = gn at *;have HA:=hid (And.intro hXr (And.intro hG (And.intro KF (And.intro hsl (And.intro hrf hM2)))));clear hXr hG KF hsl hrf hM2 HW KW HG
  go_wp2_with fail
  refine hm E1 ?_;rintro z w5 ⟨u,rfl,hu,K5⟩;obtain ⟨ua,uc,rfl⟩:=own_len hu;have hX5:=HA.out.1.keep0 K5;have hps:=hX5.ps;unfold PsR at hps;rw [Ch.pastR_eq hR m.s] at hps;have hpn:=Ch.pastR_eq hR (Ch.rem ol.sts m.s left);have hhl:=Ch.histR_len16 (Ch.mk l);rw [Ch.mk_len] at hhl
  have hhm : ∀ h ∈ Ch.histR (Ch.mk l),h < ol.sts.length ∧ Ch.hist ol.sts h = true:=fun h hh=>by
   rw [Ch.hist_eq hR,List.mem_filter] at hh;exact ⟨by simpa using hh.1,hh.2⟩
  generalize Ch.histR (Ch.mk l) = hs at *;rw [List.length_map] at hps;obtain ⟨pa,pc,hpv⟩:=hps.len;subst hpv
  obtain ⟨new,hnew⟩ : ∃ f : Nat → Int,f = fun e=>Ch.pastAt (Ch.rem ol.sts m.s left) (hs.getD e 0):=⟨_,rfl⟩
  obtain ⟨old,hold⟩ : ∃ f : Nat → Int,f = fun e=>Ch.pastAt m.s (hs.getD e 0):=⟨_,rfl⟩
  have hp0 : OwnP w5 B2 (.slice pa hs.length pc) hs.length (byCells (Ch.rowQ hs.length new old 0 (old 0))):=by
   rw [Ch.rowQ_start,hold,Ch.range_at hs (Ch.pastAt m.s)];exact hps
  have hpN : Ch.rowQ hs.length new old hs.length (old hs.length) = Ch.pastR ol.sts (Ch.rem ol.sts m.s left):=by
   rw [Ch.rowQ_end,hnew,Ch.range_at hs (Ch.pastAt (Ch.rem ol.sts m.s left)),hpn]
  have HB:=hid (And.intro hX5 (And.intro (K5.at_ HA.out.2.1 (fun x=>x) : OnB w5 gb gn) (And.intro hu (And.intro (HA.out.2.2.1.trans K5) (And.intro hpN (And.intro hhm (And.intro hnew hold)))))));have HSL:=hid HA.out.2.2.2.1;have HRF:=hid HA.out.2.2.2.2.1;have HM2:=hid HA.out.2.2.2.2.2;have HP0:=hid hp0;clear hX5 hu K5 hpN hhm hnew hold hp0 hps hpn HA E1 c0 zc
  go_wp2_with fail
  go_loopw [9] (fun kv wr=>∃ k : Nat,kv = .int .i64 k ∧ k ≤ hs.length ∧ Hid (OwnP wr B2 (.slice pa hs.length pc) hs.length (byCells (Ch.rowQ hs.length new old k (old k)))) ∧ Kp (fun i=>(Value.slice pa hs.length pc).ownBlock = some i) w5 wr) (fun kv _=>hs.length - (intOf kv).toNat)
  case atStart=>exact ⟨0,rfl,Nat.zero_le _,hid HP0.out,Kp.refl _ _⟩
  case round =>
   obtain ⟨k,rfl,hk,HPk,KR⟩:=hrel;have hnbr : NwB wr xb cb g l.length (.slice pa hs.length pc) m:=HB.out.1.nb.keep KR HB.out.1.px;have hFr:=HB.out.1.chart (KR.mono (fun _ _ e=>.inr (.inr e)));have hGr : OnB wr gb gn:=KR.at_ HB.out.2.1 (OwnP.ne HB.out.1.ps HB.out.2.1 (by decide))
   have honr : ∃ on,OnB wr g on ∧ Ch.SameOn l.length on m.s.act:=by
    obtain ⟨on,ho,hs⟩:=HB.out.1.on;exact ⟨on,KR.at_ ho HB.out.1.pg,hs⟩
   have c0 : wr.cell? ⟨xb,0,none⟩ = some (.pointer (some ⟨cb,0,none⟩)):=hnbr.cell 0;have zc:=hFr.cell
   by_cases hkl : k < hs.length
   ·have hkl' : (k : Int) < (hs.length : Int):=by omega
    have hur:=KR.owns HB.out.2.2.1 (OwnP.apart HB.out.1.ps HB.out.2.2.1 (by decide))
    obtain ⟨hj,hhj⟩ : ∃ hj,hs[k]? = some hj:=⟨_,List.getElem?_eq_getElem hkl⟩
    have hhm:=HB.out.2.2.2.2.2.1 hj (List.mem_of_getElem? hhj)
    have hjl : hj < l.length:=by rw [← hR.len];exact hhm.1
    have hjl' : (hj : Int) < (l.length : Int):=by omega
    obtain ⟨y,hy⟩ : ∃ y,l[hj]? = some y:=⟨_,List.getElem?_eq_getElem hjl⟩
    have hk5:=hhm.2;rw [Ch.hist_kind hhm.1] at hk5;have hsh:=hR.ols.shp.hs hj hhm.1 (.inl (by simpa using hk5));obtain ⟨p,hpp,hplt⟩:=hR.ols.shp.par hsh.1 hhm.1
    have hyp : y.n.parent = p:=by rw [← hR.par hy];exact hpp
    have hpl : p < l.length:=by omega
    have hpl' : (p : Int) < (l.length : Int):=by omega
    obtain ⟨g2,cap2,hv2,_⟩:=World.ownsRow.form hur (by omega);simp only [Value.slice.injEq] at hv2;obtain ⟨rfl,-,rfl⟩:=hv2
    have zh : wr.cell? ⟨g2,k,none⟩ = some (.int .i64 hj):=by
     rw [World.ownsRow.cellAt hur k (by omega)];simp [inCells,Ch.natI,hhj]
    obtain ⟨g1,cap1,hv1,_,hcell,_⟩:=hFr.2.1.form hy;simp only [Value.slice.injEq] at hv1;obtain ⟨rfl,-,rfl⟩:=hv1
    have zp : wr.cell? ⟨g1,hj * 7 + 2,none⟩ = some (.int .i64 p):=by rw [← hyp];exact hcell 2 (by omega)
    have E2:=hid (fun nn=>rKids_any (wr.drewN nn) B cb l _ (p : Int) (hFr.keep0 ((Kp.refl _ _).drewN nn)) (by omega))
    have hnk : new k = (Ch.kidsS ol.sts p).foldl (fun c j=>if Ch.bit left p && Ch.bit m.s.act j then Ch.nmAt ol.sts j else c) (old k):=by
     have:=HRF.out hj p hhm.1 hhm.2 hpp;rw [HB.out.2.2.2.2.2.2.1,HB.out.2.2.2.2.2.2.2];simp only [List.getD_eq_getElem?_getD,hhj,Option.getD_some];exact this
    rw [← Ch.kids_eq hR] at hnk
    obtain ⟨fd,hfd⟩ : ∃ f : Int → Nat → Int,f = fun c j=>if Ch.bit left p && Ch.bit m.s.act j then Ch.nmAt ol.sts j else c:=⟨_,rfl⟩
    rw [← hfd] at hnk;have HFD:=hid hfd;have HNK:=hid hnk;clear hfd;have HC:=hid (And.intro hnbr (And.intro hFr (And.intro hGr (And.intro honr (And.intro HPk.out KR)))));clear hnbr hFr hGr honr HPk KR hur hhm hk5 hsh hnk hcell hhj hyp hpp
    go_wp2_with fail
    go_quiet (fail)
    have c0' : (wr.drewN nq).cell? ⟨xb,0,none⟩ = some (.pointer (some ⟨cb,0,none⟩)):=c0;clear c0 zc zh zp
    go_wp2_with fail
    refine Calls.mono (Hid.out E2 _) ?_;rintro z w7 ⟨u7,rfl,hu7,K7⟩;obtain ⟨ka,kc,rfl⟩:=own_len hu7;have KD : Kp (fun _=>False) wr w7:=((Kp.refl _ _).drewN nq).trans K7
    have hbk : (Ch.kidsR (Ch.mk l) (p : Int)).length ≤ 16 ∧ ∀ j ∈ Ch.kidsR (Ch.mk l) (p : Int),j < l.length:=by
     refine ⟨Nat.le_trans (Ch.kidsR_len (Ch.mk l) _) (by rw [Ch.mk_len];exact hle),fun j hj=>?_⟩;have:=Ch.kidsR_lt hj;rw [Ch.mk_len] at this;exact this
    generalize Ch.kidsR (Ch.mk l) (p : Int) = ks at *;obtain ⟨on,hon,hso⟩:=HC.out.2.2.2.1;have HD:=hid (And.intro (HC.out.1.keep KD (fun x=>x) : NwB w7 xb cb g l.length (.slice pa hs.length pc) m) (And.intro (HC.out.2.1.keep0 KD) (And.intro (KD.at_ HC.out.2.2.1 (fun x=>x) : OnB w7 gb gn) (And.intro (KD.at_ hon (fun x=>x) : OnB w7 g on) (And.intro (HC.out.2.2.2.2.1.keep KD (fun _ _ x=>x)) (And.intro (HC.out.2.2.2.2.2.trans' KD (fun _ _ x=>x.elim)) hu7))))));have HSO:=hid hso;have hksl:=hbk.1;have HKM:=hid hbk.2;clear hu7 K7 KD hbk hon hso HC c0' E2
    go_wp2_with fail
    go_loopw [12] (fun jv wq=>∃ j : Nat,jv = .int .i64 j ∧ j ≤ ks.length ∧ Hid (OwnP wq B2 (.slice pa hs.length pc) hs.length (byCells (Ch.rowQ hs.length new old k ((ks.take j).foldl fd (old k))))) ∧ Kp (fun i=>(Value.slice pa hs.length pc).ownBlock = some i) w7 wq) (fun jv _=>ks.length - (intOf jv).toNat)
    case atStart=>exact ⟨0,rfl,Nat.zero_le _,hid HD.out.2.2.2.2.1,Kp.refl _ _⟩
    case round =>
     obtain ⟨j,rfl,hj2,HPj,KQ⟩:=hrel
     by_cases hjk : j < ks.length
     ·have hjk' : (j : Int) < (ks.length : Int):=by omega
      have hpsr:=HD.out.2.2.2.2.1;have hnq : NwB wr xb cb g l.length (.slice pa hs.length pc) m:=HD.out.1.keep KQ (hpsr.ne HD.out.1 (by decide))
      have hFq : ChF wr B cb l _:=HD.out.2.1.keepT KQ (fun i cur T hi _ hT e=>by
       rcases hT with h' | h' | h' | h' <;> subst h' <;> exact hpsr.ne hi (by decide) e)
      have hGq : OnB wr gb gn:=KQ.at_ HD.out.2.2.1 (hpsr.ne HD.out.2.2.1 (by decide));have honq : OnB wr g on:=KQ.at_ HD.out.2.2.2.1 (hpsr.ne HD.out.2.2.2.1 (by decide));have hkq:=KQ.owns HD.out.2.2.2.2.2.2 (hpsr.apart HD.out.2.2.2.2.2.2 (by decide))
      obtain ⟨kid,hkid⟩ : ∃ kid,ks[j]? = some kid:=⟨_,List.getElem?_eq_getElem hjk⟩
      have hkd:=HKM.out kid (List.mem_of_getElem? hkid)
      have hkd' : (kid : Int) < (l.length : Int):=by omega
      obtain ⟨x,hx⟩ : ∃ x,l[kid]? = some x:=⟨_,List.getElem?_eq_getElem hkd⟩
      have hnm : Ch.nmAt ol.sts kid = x.n.name:=by rw [← hR.sts];unfold Ch.sts;rw [Ch.nmAt_rn (by rw [Ch.mk_len];exact hkd),Ch.rnAt_mk hx]
      obtain ⟨g3,cap3,hv3,_⟩:=World.ownsRow.form hkq (by omega);simp only [Value.slice.injEq] at hv3;obtain ⟨rfl,-,rfl⟩:=hv3
      have zk : wr.cell? ⟨g3,j,none⟩ = some (.int .i64 kid):=by
       rw [World.ownsRow.cellAt hkq j (by omega)];simp [inCells,Ch.natI,hkid]
      have c0 : wr.cell? ⟨xb,0,none⟩ = some (.pointer (some ⟨cb,0,none⟩)):=hnq.cell 0;have c1 : wr.cell? ⟨xb,1,none⟩ = some (.slice (some ⟨g,0,none⟩) l.length l.length):=hnq.cell 1;have c2 : wr.cell? ⟨xb,2,none⟩ = some (.slice pa hs.length pc):=hnq.cell 2;have zc:=hFq.cell;obtain ⟨g1',cap1',hv1',_,hcell',_⟩:=hFq.2.1.form hx;simp only [Value.slice.injEq,Option.some.injEq,Addr.mk.injEq,true_and,and_true] at hv1';obtain ⟨rfl,rfl⟩:=hv1';have z0 : wr.cell? ⟨g1,kid * 7,none⟩ = some (.int .u8 x.n.name):=hcell' 0 (by omega);have zg:=hGq.cell (k:=p) (by rw [HSL.out.1];exact hpl);have zo:=honq.cell (k:=kid) (by rw [HSO.out.1];exact hkd);rw [HSL.out.2.2 p] at zg;rw [HSO.out.2.2 kid] at zo
      have hgl : (p : Int) < (l.length : Int):=by omega
      have hst : (ks.take (j + 1)).foldl fd (old k) = if Ch.bit left p && Ch.bit m.s.act kid then x.n.name else (ks.take j).foldl fd (old k):=by
       rw [Ch.fold_snoc hkid fd (old k),← hnm];rw [HFD.out]
      have HPQ:=hid (And.intro HPj.out KQ);clear hnq hFq hGq honq hkq hpsr hcell' HPj KQ hkid hnm;generalize Ch.bit left p = b1 at *;generalize Ch.bit m.s.act kid = b2 at *
      cases b1 with
      | false =>
        have HST:=hid (show (ks.take (j + 1)).foldl fd (old k) = (ks.take j).foldl fd (old k) from hst);clear hst
        go_upto_region 18 with (fail)
        go_quiet (fail)
        go_wp2
        go_roundw
        case rel=>exact ⟨j + 1,by go_num,by omega,hid (by rw [HST.out];exact HPQ.out.1),HPQ.out.2.drewN _⟩
        case measure=>simp [intOf];omega
      | true=>?_
      cases b2 with
      | false =>
        have HST:=hid (show (ks.take (j + 1)).foldl fd (old k) = (ks.take j).foldl fd (old k) from hst);clear hst
        go_upto_region 18 with (fail)
        go_quiet (fail)
        go_wp2
        go_roundw
        case rel=>exact ⟨j + 1,by go_num,by omega,hid (by rw [HST.out];exact HPQ.out.1),HPQ.out.2.drewN _⟩
        case measure=>simp [intOf];omega
      | true=>?_
      have HST:=hid (show (ks.take (j + 1)).foldl fd (old k) = x.n.name from hst);clear hst
      go_upto_region 18 with (fail)
      go_quiet (fail)
      go_upto_region 19 with (fail)
      obtain ⟨hPQ,KQ⟩:=HPQ.out;obtain ⟨gp,pcap,hv4,_⟩:=hPQ.form (by omega);simp only [Value.slice.injEq] at hv4;obtain ⟨rfl,-,rfl⟩:=hv4;have hP6 : OwnP (wr.drewN nq) B2 (.slice (some ⟨gp,0,none⟩) hs.length pc) hs.length _:=hPQ;have d0 : (wr.drewN nq).cell? ⟨xb,0,none⟩ = some (.pointer (some ⟨cb,0,none⟩)):=c0;have d2 : (wr.drewN nq).cell? ⟨xb,2,none⟩ = some (.slice (some ⟨gp,0,none⟩) hs.length pc):=c2;have dc : (wr.drewN nq).cell? ⟨cb,0,none⟩ = some (.slice (some ⟨g1,0,none⟩) l.length cap):=zc;have dk : (wr.drewN nq).cell? ⟨g3,j,none⟩ = some (.int .i64 kid):=zk;have dn : (wr.drewN nq).cell? ⟨g1,kid * 7,none⟩ = some (.int .u8 x.n.name):=z0;have KQ6:=KQ.drewN nq;clear c0 c1 c2 zc zk z0 zg zo hPQ KQ HPQ;generalize wr.drewN nq = w6 at *;have fp:=hP6.free k hkl;have zpk:=hP6.cellAt k hkl;rw [show (byCells (Ch.rowQ hs.length new old k ((ks.take j).foldl fd (old k))))[k]? = some (.int .u8 ((ks.take j).foldl fd (old k))) by simp [byCells,Ch.rowQ_at _ _ _ hkl]] at zpk;have hst6:=hP6.stored k (.int .u8 x.n.name)
      have hse : (byCells (Ch.rowQ hs.length new old k ((ks.take j).foldl fd (old k)))).set k (.int .u8 x.n.name) = byCells (Ch.rowQ hs.length new old k x.n.name):=by
       rw [← Ch.rowQ_set new old ((ks.take j).foldl fd (old k)) x.n.name];simp [byCells,List.map_set]
      rw [hse] at hst6;have HZ:=hid (And.intro hst6 (KQ6.setCell (p:=⟨gp,k,none⟩) (fun _=>rfl) (.int .u8 x.n.name)));clear hP6 KQ6 hst6 hse
      go_region
      have HZ6:=hid (And.intro HZ.out.1 HZ.out.2.drew);clear HZ fp zpk d0 d2 dc dk dn;go_wp2
      go_roundw
      case rel=>exact ⟨j + 1,by go_num,by omega,hid (by rw [HST.out];exact HZ6.out.1),HZ6.out.2⟩
      case measure=>simp [intOf];omega
     have hge3 : ¬ (j : Int) < (ks.length : Int):=by omega
     obtain rfl : j = ks.length:=by omega
     have HN:=hid (show OwnP wr B2 (.slice pa hs.length pc) hs.length (byCells (Ch.rowQ hs.length new old (k + 1) (old (k + 1)))) by
      have:=HPj.out;rw [List.take_length,← HNK.out,Ch.rowQ_next] at this
      exact this)
     have HK:=hid (HD.out.2.2.2.2.2.1.trans KQ);clear HPj KQ HD;go_wp2
     go_roundw
     case rel=>exact ⟨k + 1,by go_num,by omega,hid HN.out,HK.out⟩
     case measure=>simp [intOf];omega
   have hge2 : ¬ (k : Int) < (hs.length : Int):=by omega
   obtain rfl : k = hs.length:=by omega
   have hps : PsR wr B2 ol (Ch.rem ol.sts m.s left) (.slice pa hs.length pc):=by
    have:=HPk.out;have hq:=HB.out.2.2.2.2.1;unfold PsR;rw [← hq,Ch.rowQ_len];exact this
   have hX6 : NwX wr B B2 xb cb g (.slice pa hs.length pc) (.slice ao l.length cap) l ol m1:=by rw [HM1.out];exact ⟨hnbr,honr,hps,hFr⟩
   have hM6 : Ch.MOk m1 N:=by rw [HM1.out];exact ⟨Ch.rem_ok _ HM2.out.ok,HM2.out.tm,HM2.out.sz⟩
   have hnS : ¬ nS xb g (.slice pa hs.length pc) gb:=fun e=>by
    rcases e with e | e | e
    ·subst e
     have h1:=hnbr;unfold NwB at h1;unfold OnB at hGr;rw [hGr] at h1;simp only [Option.some.injEq,Obj.cells.injEq] at h1;exact absurd h1.2.1 (by decide)
    ·exact hgne e
    exact OwnP.ne hps hGr (by decide) e
   have KF6 : Kp (nS xb g (.slice pa hs.length pc)) w wr:=(HB.out.2.2.2.1.mono (S':=nS xb g (.slice pa hs.length pc)) (fun _ _ x=>x.elim)).trans' KR (fun _ _ e=>.inr (.inr e));have HQ:=hid (And.intro hX6 (And.intro hM6 (And.intro hGr KF6)));have HNS:=hid hnS;clear hX6 hM6 hGr KF6 hnS hps hnbr hFr honr KR HPk HB HRF HM2 HP0
   go_wp2_with fail
   generalize hw6 : wr = w6 at *
   go_loopw [13] (fun iv wr=>∃ (k : Nat) (m' : Ch.Ma),iv = .int .i64 ((k : Int) - 1) ∧ k ≤ l.length ∧ Hid (Ch.leaveF ol left ol.sts.length m1 = Ch.leaveF ol left k m') ∧ Hid (NwX wr B B2 xb cb g (.slice pa hs.length pc) (.slice ao l.length cap) l ol m') ∧ Hid (Ch.MOk m' (N + 115200 * (l.length - k))) ∧ Kp (nS xb g (.slice pa hs.length pc)) w6 wr) (fun iv _=>(intOf iv + 1).toNat)
   case atStart=>exact ⟨l.length,m1,by go_num,Nat.le_refl _,hid (by rw [hR.len]),hid HQ.out.1,hid (HQ.out.2.1.le (by omega)),Kp.refl _ _⟩
   case round =>
    obtain ⟨k,m',rfl,hk7,HE,HXr,HMr,KR⟩:=hrel
    cases k with
    | zero =>
      have HF:=hid (HE.out.trans (show _ = m' from rfl));clear HE c0 zc
      go_wp2_with fail
      go_end0
      rw [HF.out];exact ⟨rfl,HXr.out,HQ.out.2.2.2.trans KR⟩
    | succ k=>?_
    have e1 : ((k + 1 : Nat) : Int) - 1 = k:=by omega
    rw [e1]
    have hge7 : (0 : Int) ≤ (k : Int):=by omega
    have hkl7 : (k : Int) < (l.length : Int):=by omega
    have hGr : OnB wr gb gn:=KR.at_ HQ.out.2.2.1 HNS.out;have zg:=hGr.cell (k:=k) (by rw [HSL.out.1];omega);rw [HSL.out.2.2 k] at zg
    cases q1 : Ch.bit left k with
    | false =>
      rw [q1] at zg;have HF:=hid (HE.out.trans (show _ = Ch.leaveF ol left k m' by simp only [Ch.leaveF];rw [Ch.has_nat,q1];rfl));clear HE c0 zc e1 hGr q1;go_wp2
      go_roundw
      case rel=>exact ⟨k,m',by go_num,by omega,HF,HXr,hid (HMr.out.le (by omega)),KR⟩
      case measure=>simp [intOf]
    | true=>?_
    rw [q1] at zg
    obtain ⟨x,hx⟩ : ∃ x,l[k]? = some x:=⟨_,List.getElem?_eq_getElem (by omega)⟩
    have hxm:=List.mem_of_getElem? hx;have hfa:=hR.lea k x hx;have HF:=hid (HE.out.trans (show _ = Ch.leaveF ol left k (Ch.setAct (Ch.doAll (ol.bls.filter (Ch.inB_ k 36)) m') k false) by rw [← Ch.doBls_all];simp only [Ch.leaveF];rw [Ch.has_nat,q1];rfl))
    have hbl : ∀ b ∈ ol.bls.filter (Ch.inB_ k 36),(∀ a ∈ b.acts,Ch.AcV a) ∧ b.acts.length ≤ 240:=fun b hb=>by
     obtain ⟨_,_,hok⟩:=hfa.right hb;exact ⟨hok.ac,(hR.ok.bla b (List.mem_filter.1 hb).1).1⟩
    have hfl : (ol.bls.filter (Ch.inB_ k 36)).length ≤ 240:=Nat.le_trans (List.length_filter_le _ _) hR.ok.bls
    have hel : x.n.leave.length ≤ 240:=by rw [hfa.len];exact hfl
    generalize ol.bls.filter (Ch.inB_ k 36) = fl at *;obtain ⟨ra,rc,hrv⟩:=own_len (HXr.out.ch.2.1.lea x hxm);have HL:=hid (And.intro hfa (And.intro hbl hrv));clear HE c0 zc e1 hGr q1 hfa hbl hfl hrv
    go_wp2_with fail
    generalize hw7 : wr = w7 at *
    go_loopw [14] (fun ev wr=>∃ e : Nat,ev = .int .i64 e ∧ e ≤ x.n.leave.length ∧ Hid (NwX wr B B2 xb cb g (.slice pa hs.length pc) (.slice ao l.length cap) l ol (Ch.doAll (fl.take e) m')) ∧ Hid (Ch.MOk (Ch.doAll (fl.take e) m') (N + 115200 * (l.length - (k + 1)) + 480 * e)) ∧ Kp (nS xb g (.slice pa hs.length pc)) w7 wr) (fun ev _=>x.n.leave.length - (intOf ev).toNat)
    case atStart=>exact ⟨0,rfl,Nat.zero_le _,HXr,HMr,Kp.refl _ _⟩
    case round =>
     obtain ⟨e,rfl,he,HXe,HMe,KE⟩:=hrel;have c0 : wr.cell? ⟨xb,0,none⟩ = some (.pointer (some ⟨cb,0,none⟩)):=HXe.out.nb.cell 0;have zc:=HXe.out.ch.cell;obtain ⟨g1,cap1,hv1,_,hcell,_⟩:=HXe.out.ch.2.1.form hx;simp only [Value.slice.injEq] at hv1;obtain ⟨rfl,-,rfl⟩:=hv1;have z5 : wr.cell? ⟨g1,k * 7 + 5,none⟩ = some x.lv:=hcell 5 (by omega);rw [HL.out.2.2] at z5;have hlea:=HXe.out.ch.2.1.lea x hxm;rw [HL.out.2.2] at hlea;clear hcell
     by_cases hel2 : e < x.n.leave.length
     ·have hel' : (e : Int) < (x.n.leave.length : Int):=by omega
      obtain ⟨t,ht⟩ : ∃ t,x.n.leave[e]? = some t:=⟨_,List.getElem?_eq_getElem hel2⟩
      obtain ⟨b,hb,hok⟩:=HL.out.1.getL ht;have hbb:=HL.out.2.1 b (List.mem_of_getElem? hb);obtain ⟨g3,cap3,hv3,_⟩:=World.ownsRow.form hlea (by omega);simp only [Value.slice.injEq] at hv3;obtain ⟨rfl,-,rfl⟩:=hv3;have zt:=(World.ownsRow.cellAt hlea e (by omega)).trans (sCells_at ht);have E:=hid (rActs_any wr xb cb g l.length _ _ b.acts t HXe.out.nb hok.txt hbb.1 HMe.out.ok HMe.out.tm ⟨by have:=HMe.out.sz.1;omega,by have:=HMe.out.sz.2;omega⟩ (by omega) (Ch.enc_size hok.txt hbb.2));have HSN:=hid (Ch.doAll_snoc hb m');have HAP:=hid (Ch.doActs_ap b.acts (Ch.doAll (fl.take e) m'));have HMN:=hid (HMe.out.acts hbb.1 hbb.2);clear hlea hb hok hbb ht
      go_wp2_with fail
      refine hm E ?_;rintro z w8 ⟨rfl,N8,K8⟩;have X8:=hid (HXe.out.acts K8 N8 HAP.out);have KE8 : Kp (nS xb g (.slice pa hs.length pc)) w7 w8:=KE.trans' K8 (fun _ _ e=>.inl e);clear E N8 K8 c0 zc z5 zt;go_wp2
      go_roundw
      case rel=>exact ⟨e + 1,by go_num,by omega,hid (by rw [HSN.out];exact X8.out),hid (by rw [HSN.out];exact HMN.out.le (by omega)),KE8⟩
      case measure=>simp [intOf];omega
     have hge9 : ¬ (e : Int) < (x.n.leave.length : Int):=by omega
     obtain rfl : e = x.n.leave.length:=by omega
     have hXe:=HXe.out;have hMe:=HMe.out;rw [HL.out.1.len,List.take_length] at hXe hMe;obtain ⟨hX9,K9⟩:=hXe.turn (i:=k) (by omega) hle false;have hM9 : Ch.MOk (Ch.setAct (Ch.doAll fl m') k false) (N + 115200 * (l.length - k)):=(show Ch.MOk _ _ from ⟨Ch.setAct_ok hMe.ok _ _,hMe.tm,hMe.sz⟩ : Ch.MOk (Ch.setAct (Ch.doAll fl m') k false) _).le (by have:=HL.out.1.len;omega);have c1 : wr.cell? ⟨xb,1,none⟩ = some (.slice (some ⟨g,0,none⟩) l.length l.length):=hXe.nb.cell 1;obtain ⟨on,hon,hso⟩:=hXe.on;have zon:=hon.cell (k:=k) (by rw [hso.1];omega);have fon:=hon.free k;have HN:=hid (And.intro hX9 (And.intro hM9 ((KR.trans KE).trans K9)));clear hX9 K9 hM9 hXe hMe hon hso hlea HXe HMe;go_wp2
     go_roundw
     case rel=>exact ⟨k,_,by go_num,by omega,HF,hid HN.out.1,hid HN.out.2.1,HN.out.2.2⟩
     case measure=>simp [intOf]
end
end Go.Proofs.YtnlbchmfcebeeaaGreat
