import Derived.Test.YtnlbchmfcebeeaaGreatTZd
import Derived.Test.YtnlbchmfcebeeaaGreatTZb
import Derived.Test.YtnlbchmfcebeeaaGreatTXr
set_option maxHeartbeats 12800000
set_option maxRecDepth 100000
namespace Go.Proofs.YtnlbchmfcebeeaaGreat
open Go.RowKit
structure NwX (w : World) (B B2 xb cb g : Nat) (pv v : Value) (l : List NV) (ol : Ch.Ol) (m : Ch.Ma) : Prop where
 nb : NwB w xb cb g l.length pv m
 on : ∃ on,OnB w g on ∧ Ch.SameOn l.length on m.s.act
 ps : PsR w B2 ol m.s pv
 ch : ChF w B cb l v
def nS (xb g : Nat) (pv : Value) (k : Nat) : Prop:=k = xb ∨ k = g ∨ pv.ownBlock = some k
section
variable {w w' : World} {B B2 xb cb g : Nat} {pv v : Value} {l : List NV} {ol : Ch.Ol} {m : Ch.Ma}
theorem NwX.xg (h : NwX w B B2 xb cb g pv v l ol m) : xb ≠ g:=fun e=>by
 obtain ⟨on,ho,_⟩:=h.on;have h1:=h.nb;unfold NwB at h1;unfold OnB at ho;rw [e,ho] at h1;simp only [Option.some.injEq,Obj.cells.injEq] at h1;exact absurd h1.2.1 (by decide)
theorem NwX.px (h : NwX w B B2 xb cb g pv v l ol m) : pv.ownBlock ≠ some xb:=OwnP.ne h.ps h.nb (by decide)
theorem NwX.pg (h : NwX w B B2 xb cb g pv v l ol m) : pv.ownBlock ≠ some g:=by
 obtain ⟨on,ho,_⟩:=h.on;exact OwnP.ne h.ps ho (by decide)
theorem NwX.keep0 (h : NwX w B B2 xb cb g pv v l ol m) (k : Kp (fun _=>False) w w') : NwX w' B B2 xb cb g pv v l ol m:=by
 obtain ⟨on,ho,hs⟩:=h.on;exact ⟨h.nb.keep k (fun x=>x),⟨on,k.at_ ho (fun x=>x),hs⟩,OwnP.keep h.ps k (fun _ _ x=>x),h.ch.keep0 k⟩
theorem NwX.chart (h : NwX w B B2 xb cb g pv v l ol m) (k : Kp (nS xb g pv) w w') : ChF w' B cb l v :=
 h.ch.keepT k (fun i cur T hi _ hT e=>by
  obtain ⟨on,ho,_⟩:=h.on
  rcases e with e | e | e
  ·subst e
   have h1:=h.nb;unfold NwB at h1;rw [h1] at hi;simp only [Option.some.injEq,Obj.cells.injEq] at hi
   rcases hT with h | h | h | h <;> rw [h] at hi <;> exact absurd hi.2.1 (by decide)
  ·subst e
   unfold OnB at ho;rw [ho] at hi;simp only [Option.some.injEq,Obj.cells.injEq] at hi
   rcases hT with h | h | h | h <;> rw [h] at hi <;> exact absurd hi.2.1 (by decide)
  rcases hT with h' | h' | h' | h' <;> subst h' <;> exact OwnP.ne h.ps hi (by decide) e)
theorem NwX.acts {m' : Ch.Ma} (h : NwX w B B2 xb cb g pv v l ol m) (k : Kp (fun k=>k = xb) w w') (hn : NwB w' xb cb g l.length pv m') (ha : Ch.SameAP m'.s m.s) : NwX w' B B2 xb cb g pv v l ol m':=by
 obtain ⟨on,ho,hs⟩:=h.on;refine ⟨hn,⟨on,k.at_ ho (fun e=>h.xg e.symm),by rw [ha.1];exact hs⟩,?_,h.chart (k.mono (fun _ _ e=>.inl e))⟩;have : PsR w' B2 ol m.s pv:=OwnP.keep h.ps k (fun j hj e=>h.px (by rw [hj,e]));unfold PsR Ch.pastR at this ⊢
 have hp : Ch.pastAt m'.s = Ch.pastAt m.s:=by funext j;unfold Ch.pastAt;rw [ha.2]
 rw [hp];exact this
theorem NwX.push (h : NwX w B B2 xb cb g pv v l ol m) (c : Int) : NwX (((w.alloc (.cells #[.int .u8 c] 5)).setCell ⟨xb,7,none⟩ (.string (strOfNums m.q ++ strOfNums [c]))).drew) B B2 xb cb g pv v l ol { m with q:=m.q ++ [c] } ∧ Kp (fun k=>k = xb) w (((w.alloc (.cells #[.int .u8 c] 5)).setCell ⟨xb,7,none⟩ (.string (strOfNums m.q ++ strOfNums [c]))).drew):=by
 have K : Kp (fun k=>k = xb) w (((w.alloc (.cells #[.int .u8 c] 5)).setCell ⟨xb,7,none⟩ (.string (strOfNums m.q ++ strOfNums [c]))).drew):=(((Kp.refl _ _).alloc _).setCell (by intro _;rfl) _).drew;refine ⟨h.acts K ?_ (Ch.SameAP.refl _),K⟩;have h1 : NwB (w.alloc (.cells #[.int .u8 c] 5)) xb cb g l.length pv m:=h.nb.keep ((Kp.refl (fun _=>False) _).alloc _) (fun x=>x);have h2:=h1.setQ (m.q ++ [c]);rw [Ch.str_append] at h2;exact h2.keep ((Kp.refl (fun _=>False) _).drew) (fun x=>x)
end
namespace Ch
def doAll (bs : List Bl) (m : Ma) : Ma:=bs.foldl (fun m b=>doActs b.acts m) m
theorem doBls_all (k : Nat) (sg : Int) : ∀ (l : List Bl) (m : Ma),doBls k sg l m = doAll (l.filter (inB_ k sg)) m:=by
 intro l
 induction l with
 | nil=>intro m;rfl
 | cons b l ih=>?_
 intro m;simp only [doBls];rw [ih,List.filter_cons];have : ((b.state == (k : Int)) && (b.sign == sg)) = inB_ k sg b:=rfl;rw [this]
 cases inB_ k sg b <;> rfl
theorem doAll_snoc {bs : List Bl} {k : Nat} {b : Bl} (h : bs[k]? = some b) (m : Ma) : doAll (bs.take (k + 1)) m = doActs b.acts (doAll (bs.take k) m):=by
 unfold doAll;rw [List.take_add_one,h,List.foldl_append];rfl
structure MOk (m : Ma) (N : Nat) : Prop where
 ok : m.s.Ok
 tm : TmL 48 m.s
 sz : m.Sz N
theorem MOk.acts {m : Ma} {N : Nat} (h : MOk m N) {acs : List Ac} (hv : ∀ a ∈ acs,AcV a) (hl : acs.length ≤ 240) : MOk (doActs acs m) (N + 480) :=
 ⟨doActs_ok acs h.ok,(keeps_tl (by omega) ⟨[],[],[]⟩).acts acs h.tm hv,doActs_sz h.sz hl⟩
theorem MOk.le {m : Ma} {N M : Nat} (h : MOk m N) (hl : N ≤ M) : MOk m M:=⟨h.ok,h.tm,h.sz.le hl⟩
theorem MOk.all : ∀ (bs : List Bl) {m : Ma} {N : Nat},MOk m N → (∀ b ∈ bs,(∀ a ∈ b.acts,AcV a) ∧ b.acts.length ≤ 240) → MOk (doAll bs m) (N + 480 * bs.length):=by
 intro bs
 induction bs with
 | nil=>intro m N h _;exact h
 | cons b l ih=>?_
 intro m N h hb;have h1:=h.acts (hb b (by simp)).1 (hb b (by simp)).2;have:=ih h1 (fun c hc=>hb c (by simp [hc]));exact this.le (by simp;omega)
theorem enc_size {s : ByteArray} {acs : List Ac} (h : bys s = enc acs) (hl : acs.length ≤ 240) : s.size ≤ 1000:=by
 rw [← bys_len,h]
 have : ∀ l : List Ac,(enc l).length ≤ 3 * l.length:=by
  intro l
  induction l with
  | nil=>simp [enc]
  | cons a l ih=>?_
  rw [enc_cons]
  have : (encA a).length ≤ 3:=by unfold encA;split <;> simp
  simp;omega
 have:=this acs;omega
end Ch
theorem sCells_at {l : List ByteArray} {k : Nat} {t : ByteArray} (h : l[k]? = some t) : (sCells l)[k]? = some (.string t):=by simp [sCells,h]
section
variable (w : World) (B B2 xb cb g : Nat) (pv v : Value) (l : List NV) (ol : Ch.Ol) (m : Ch.Ma)
theorem rEnters_any (i N : Nat) (h : NwX w B B2 xb cb g pv v l ol m) (hR : Rf l ol) (hM : Ch.MOk m N) (hN : N ≤ 900000000) (hi : i < l.length) :
 Calls Tryz.prog 240 #[.pointer (some ⟨xb,0,none⟩),.int .i64 i] w fun y w'=>y = .returned (.tuple #[]) ∧ NwX w' B B2 xb cb g pv v l ol (Ch.enterSt ol m i) ∧ Kp (nS xb g pv) w w':=by
 have hle:=hR.le;obtain ⟨ao,cap,rfl⟩:=h.ch.2.1.len
 have hi' : (i : Int) < (l.length : Int):=by omega
 obtain ⟨on,hon,hso⟩:=h.on;have c1 : w.cell? ⟨xb,1,none⟩ = some (.slice (some ⟨g,0,none⟩) l.length l.length):=h.nb.cell 1;have zon:=hon.cell (k:=i) (by have:=hso.1;omega);have fon:=hon.free i;have hon1:=hon.set i true;have K1 : Kp (fun k=>k = g) w (w.setCell ⟨g,i,none⟩ (.bool true)):=(Kp.refl _ _).setCell (by intro _;rfl) _
 have hX1 : NwX (w.setCell ⟨g,i,none⟩ (.bool true)) B B2 xb cb g pv (.slice ao l.length cap) l ol (Ch.setAct m i true):=by
  refine ⟨h.nb.keep K1 h.xg,⟨on.set i true,hon1,hso.set hi hle⟩,?_,h.chart (K1.mono (fun _ _ e=>.inr (.inl e)))⟩;exact OwnP.keep h.ps K1 (fun j hj e=>h.pg (by rw [hj,e]))
 have hM1 : Ch.MOk (Ch.setAct m i true) N:=⟨Ch.setAct_ok hM.ok _ _,hM.tm,hM.sz⟩
 have HX:=hid (And.intro hX1 (And.intro hM1 (K1.mono (S':=nS xb g pv) (fun _ _ e=>.inr (.inl e)))));clear hX1 hM1 K1 hon1 hon h
 go_enter Tryz.func240,Tryz.ntmps240
 go_upto_region 1 with (fail)
 generalize w.setCell ⟨g,i,none⟩ (.bool true) = w1 at *
 obtain ⟨x,hx⟩ : ∃ x,l[i]? = some x:=⟨_,List.getElem?_eq_getElem hi⟩
 have hF1:=HX.out.1.ch;have c0 : w1.cell? ⟨xb,0,none⟩ = some (.pointer (some ⟨cb,0,none⟩)):=HX.out.1.nb.cell 0;have zc:=hF1.cell;obtain ⟨g1,cap',hv,hBg,hcell,hfr⟩:=hF1.2.1.form hx;simp only [Value.slice.injEq] at hv;obtain ⟨rfl,-,rfl⟩:=hv;have hxm:=List.mem_of_getElem? hx;have z0 : w1.cell? ⟨g1,i * 7,none⟩ = some (.int .u8 x.n.name):=hcell 0 (by omega);have z1 : w1.cell? ⟨g1,i * 7 + 1,none⟩ = some (.int .i64 x.n.kind):=hcell 1 (by omega);have z2 : w1.cell? ⟨g1,i * 7 + 2,none⟩ = some (.int .i64 x.n.parent):=hcell 2 (by omega);have z3 : w1.cell? ⟨g1,i * 7 + 3,none⟩ = some (.int .i64 x.n.pos):=hcell 3 (by omega);have z4 : w1.cell? ⟨g1,i * 7 + 4,none⟩ = some x.ev:=hcell 4 (by omega);have z5 : w1.cell? ⟨g1,i * 7 + 5,none⟩ = some x.lv:=hcell 5 (by omega);have z6 : w1.cell? ⟨g1,i * 7 + 6,none⟩ = some x.tv:=hcell 6 (by omega);obtain ⟨ea,ec,hev⟩:=own_len (hF1.2.1.ent x hxm);obtain ⟨la,lc,hlv⟩:=own_len (hF1.2.1.lea x hxm);obtain ⟨ta,tc,htv⟩:=own_len (hF1.2.1.tra x hxm);have hent:=hF1.2.1.ent x hxm;rw [hev] at z4 hent;rw [hlv] at z5;rw [htv] at z6;have K3 : Kp (fun _=>False) w1 (w1.alloc (.cells #[.int .u8 x.n.name,.int .i64 x.n.kind,.int .i64 x.n.parent,.int .i64 x.n.pos,.slice ea x.n.enter.length ec,.slice la x.n.leave.length lc,.slice ta x.n.trans.length tc] 223)):=(Kp.refl _ _).alloc _;have hb3:=heap_alloc_new w1 (.cells #[.int .u8 x.n.name,.int .i64 x.n.kind,.int .i64 x.n.parent,.int .i64 x.n.pos,.slice ea x.n.enter.length ec,.slice la x.n.leave.length lc,.slice ta x.n.trans.length tc] 223);have hfa:=hR.ent i x hx;have HEL:=hid hfa.len
 have hbl : ∀ b ∈ ol.bls.filter (Ch.inB_ i 94),(∀ a ∈ b.acts,Ch.AcV a) ∧ b.acts.length ≤ 240:=fun b hb=>by
  obtain ⟨_,_,hok⟩:=hfa.right hb;exact ⟨hok.ac,(hR.ok.bla b (List.mem_filter.1 hb).1).1⟩
 have hfl : (ol.bls.filter (Ch.inB_ i 94)).length ≤ 240:=Nat.le_trans (List.length_filter_le _ _) hR.ok.bls
 have hel2 : x.n.enter.length ≤ 240:=by rw [hfa.len];exact hfl
 have hen : Ch.doBls i 94 ol.bls (Ch.setAct m i true) = Ch.doAll (ol.bls.filter (Ch.inB_ i 94)) (Ch.setAct m i true):=Ch.doBls_all i 94 _ _
 have hes : Ch.enterSt ol m i = if x.n.kind == 4 then Ch.tellEnd ol.sts (Ch.doAll (ol.bls.filter (Ch.inB_ i 94)) (Ch.setAct m i true)) x.n.parent else Ch.doAll (ol.bls.filter (Ch.inB_ i 94)) (Ch.setAct m i true):=by
  unfold Ch.enterSt;rw [hen,hR.kind hx,hR.par hx]
 have hX2:=HX.out.1.keep0 K3;have HQ:=hid (And.intro hX2 (And.intro HX.out.2.1 (And.intro (HX.out.2.2.trans' K3 (fun _ _ x=>x.elim)) (And.intro (K3.owns hent (fun _ _ x=>x)) (And.intro hfa (And.intro hbl hes))))));clear hF1 hcell hfr hent hX2 hfa hbl hen hes HX c1 zon fon
 go_upto_region 2 with (fail)
 generalize w1.alloc (.cells #[.int .u8 x.n.name,.int .i64 x.n.kind,.int .i64 x.n.parent,.int .i64 x.n.pos,.slice ea x.n.enter.length ec,.slice la x.n.leave.length lc,.slice ta x.n.trans.length tc] 223) = w2 at *;generalize w1.heap.size = nb at *;generalize ol.bls.filter (Ch.inB_ i 94) = fl at *;clear z0 z1 z2 z3 z4 z5 z6 zc c0 hev hlv htv K3
 have hnS : ¬ nS xb g pv nb:=fun e=>by
  have hx2:=HQ.out.1
  rcases e with e | e | e
  ·have h1:=hx2.nb
   unfold NwB at h1;rw [← e,hb3] at h1;simp only [Option.some.injEq,Obj.cells.injEq] at h1;exact absurd h1.2.1 (by decide)
  ·obtain ⟨on',ho',_⟩:=hx2.on
   unfold OnB at ho';rw [← e,hb3] at ho';simp only [Option.some.injEq,Obj.cells.injEq] at ho';exact absurd ho'.2.1 (by decide)
  exact OwnP.ne hx2.ps hb3 (by decide) e
 go_wp2_with fail
 go_loopw [5] (fun kv wr=>∃ k : Nat,kv = .int .i64 k ∧ k ≤ x.n.enter.length ∧ Hid (NwX wr B B2 xb cb g pv (.slice (some ⟨g1,0,none⟩) l.length cap) l ol (Ch.doAll (fl.take k) (Ch.setAct m i true))) ∧ Hid (Ch.MOk (Ch.doAll (fl.take k) (Ch.setAct m i true)) (N + 480 * k)) ∧ Kp (nS xb g pv) w2 wr) (fun kv _=>x.n.enter.length - (intOf kv).toNat)
 case atStart=>exact ⟨0,rfl,Nat.zero_le _,hid HQ.out.1,hid HQ.out.2.1,Kp.refl _ _⟩
 case round =>
  obtain ⟨k,rfl,hk,HXr,HMr,KW⟩:=hrel;have hbr:=KW.at_ hb3 hnS
  have n1 : wr.cell? ⟨nb,1,none⟩ = some (.int .i64 x.n.kind):=by rw [World.cell?,hbr];rfl
  have n2 : wr.cell? ⟨nb,2,none⟩ = some (.int .i64 x.n.parent):=by rw [World.cell?,hbr];rfl
  have n4 : wr.cell? ⟨nb,4,none⟩ = some (.slice ea x.n.enter.length ec):=by rw [World.cell?,hbr];rfl
  by_cases hlt : k < x.n.enter.length
  ·have hlt' : (k : Int) < (x.n.enter.length : Int):=by omega
   obtain ⟨t,ht⟩ : ∃ t,x.n.enter[k]? = some t:=⟨_,List.getElem?_eq_getElem hlt⟩
   obtain ⟨b,hb,hok⟩:=HQ.out.2.2.2.2.1.getL ht;have hbb:=HQ.out.2.2.2.2.2.1 b (List.mem_of_getElem? hb)
   have her : wr.ownsRow B 9 1 (.slice ea x.n.enter.length ec) x.n.enter.length (sCells x.n.enter):=KW.owns HQ.out.2.2.2.1 (fun j hj e=>by
    have hx2:=HQ.out.1
    obtain ⟨g9,cap9,cur9,hh9,_,hhp9,_⟩ : ∃ g9 cap9 cur9,(Value.slice ea x.n.enter.length ec) = .slice (some ⟨g9,0,none⟩) x.n.enter.length cap9 ∧ B ≤ g9 ∧ w2.heap[g9]? = some (.cells cur9 9 (0,0)) ∧ True:=by
     rcases HQ.out.2.2.2.1.2 with ⟨_,h0⟩ | ⟨g9,cap9,cur9,h1,h2,h3,_⟩
     ·omega
     exact ⟨g9,cap9,cur9,h1,h2,h3,trivial⟩
    have hjg : j = g9:=by rw [hh9] at hj;simpa [Value.ownBlock] using hj.symm
    subst hjg
    rcases e with e | e | e
    ·have h1:=hx2.nb
     unfold NwB at h1;rw [← e,hhp9] at h1;simp only [Option.some.injEq,Obj.cells.injEq] at h1;exact absurd h1.2.1 (by decide)
    ·obtain ⟨on',ho',_⟩:=hx2.on
     unfold OnB at ho';rw [← e,hhp9] at ho';simp only [Option.some.injEq,Obj.cells.injEq] at ho';exact absurd ho'.2.1 (by decide)
    exact OwnP.ne hx2.ps hhp9 (by decide) e)
   obtain ⟨g3,cap3,hv3,_⟩:=World.ownsRow.form her (by omega);simp only [Value.slice.injEq] at hv3;obtain ⟨rfl,-,rfl⟩:=hv3;have zt:=(World.ownsRow.cellAt her k (by omega)).trans (sCells_at ht);have E:=hid (rActs_any wr xb cb g l.length pv _ b.acts t HXr.out.nb hok.txt hbb.1 HMr.out.ok HMr.out.tm ⟨by have:=HMr.out.sz.1;omega,by have:=HMr.out.sz.2;omega⟩ (by omega) (Ch.enc_size hok.txt hbb.2));have HSN:=hid (Ch.doAll_snoc hb (Ch.setAct m i true));have HAP:=hid (Ch.doActs_ap b.acts (Ch.doAll (fl.take k) (Ch.setAct m i true)));have HMN:=hid (HMr.out.acts hbb.1 hbb.2);clear her hbr
   go_wp2_with fail
   refine hm E ?_;rintro z w5 ⟨rfl,N5,K5⟩;have X5:=hid (HXr.out.acts K5 N5 HAP.out);have KW5 : Kp (nS xb g pv) w2 w5:=KW.trans' K5 (fun _ _ e=>.inl e);clear E N5 K5 n1 n2 n4 zt;go_wp2
   go_roundw
   case rel=>exact ⟨k + 1,by go_num,by omega,hid (by rw [HSN.out];exact X5.out),hid (by rw [HSN.out];exact HMN.out.le (by omega)),KW5⟩
   case measure=>simp [intOf];omega
  have hge : ¬ (k : Int) < (x.n.enter.length : Int):=by omega
  obtain rfl : k = x.n.enter.length:=by omega
  have hXr:=HXr.out;have hMr:=HMr.out;have hes:=HQ.out.2.2.2.2.2.2;rw [HEL.out,List.take_length] at hXr hMr;have KF:=HQ.out.2.2.1.trans KW;generalize Ch.doAll fl (Ch.setAct m i true) = ma at *
  cases q4 : x.n.kind != 4 with
  | true =>
    have q4' : (x.n.kind == 4) = false:=by simpa using q4
    rw [q4'] at hes;have HN:=hid (And.intro (hes.trans rfl) (And.intro hXr KF));clear hXr hMr hes KF hbr HXr HMr;go_wp2;refine bodyPost_ret (results_none rfl _ _ _) rfl ?_;rw [HN.out.1];exact ⟨rfl,HN.out.2.1,HN.out.2.2⟩
  | false=>?_
  have e4 : x.n.kind = 4:=by simpa using q4
  rw [e4] at hes;replace hes:=hes.trans rfl;have hsh:=hR.ols.shp.hs i (by rw [hR.len];exact hi) (.inr (by rw [hR.kind hx];exact e4));obtain ⟨p,hpp,hplt⟩:=hR.ols.shp.par hsh.1 (by rw [hR.len];exact hi);rw [hR.par hx] at hpp
  have hpl : p < l.length:=by omega
  have hpl' : (p : Int) < (l.length : Int):=by omega
  obtain ⟨y,hy⟩ : ∃ y,l[p]? = some y:=⟨_,List.getElem?_eq_getElem hpl⟩
  have hym:=List.mem_of_getElem? hy;rw [hpp] at hes n2;rw [e4] at n1;have hFr:=hXr.ch;have c0 : wr.cell? ⟨xb,0,none⟩ = some (.pointer (some ⟨cb,0,none⟩)):=hXr.nb.cell 0;have zc:=hFr.cell;obtain ⟨g1',cap1',hv',_,hcell',_⟩:=hFr.2.1.form hy;simp only [Value.slice.injEq,Option.some.injEq,Addr.mk.injEq,true_and,and_true] at hv';obtain ⟨rfl,rfl⟩:=hv';have y0 : wr.cell? ⟨g1,p * 7,none⟩ = some (.int .u8 y.n.name):=hcell' 0 (by omega);have y1 : wr.cell? ⟨g1,p * 7 + 1,none⟩ = some (.int .i64 y.n.kind):=hcell' 1 (by omega);have y2 : wr.cell? ⟨g1,p * 7 + 2,none⟩ = some (.int .i64 y.n.parent):=hcell' 2 (by omega);have y3 : wr.cell? ⟨g1,p * 7 + 3,none⟩ = some (.int .i64 y.n.pos):=hcell' 3 (by omega);have y4 : wr.cell? ⟨g1,p * 7 + 4,none⟩ = some y.ev:=hcell' 4 (by omega);have y5 : wr.cell? ⟨g1,p * 7 + 5,none⟩ = some y.lv:=hcell' 5 (by omega);have y6 : wr.cell? ⟨g1,p * 7 + 6,none⟩ = some y.tv:=hcell' 6 (by omega);obtain ⟨ea2,ec2,hev2⟩:=own_len (hFr.2.1.ent y hym);obtain ⟨la2,lc2,hlv2⟩:=own_len (hFr.2.1.lea y hym);obtain ⟨ta2,tc2,htv2⟩:=own_len (hFr.2.1.tra y hym);rw [hev2] at y4;rw [hlv2] at y5;rw [htv2] at y6;have K3 : Kp (fun _=>False) wr (wr.alloc (.cells #[.int .u8 y.n.name,.int .i64 y.n.kind,.int .i64 y.n.parent,.int .i64 y.n.pos,.slice ea2 y.n.enter.length ec2,.slice la2 y.n.leave.length lc2,.slice ta2 y.n.trans.length tc2] 223)):=(Kp.refl _ _).alloc _;have hb4:=heap_alloc_new wr (.cells #[.int .u8 y.n.name,.int .i64 y.n.kind,.int .i64 y.n.parent,.int .i64 y.n.pos,.slice ea2 y.n.enter.length ec2,.slice la2 y.n.leave.length lc2,.slice ta2 y.n.trans.length tc2] 223);have hX4:=hXr.keep0 K3;have KF4 : Kp (nS xb g pv) w _:=KF.trans' K3 (fun _ _ x=>x.elim);have HZ:=hid (And.intro hX4 (And.intro hMr (And.intro hes KF4)));clear hXr hMr hes KF hbr HXr HMr hFr hcell' hX4 KF4 K3
  go_upto_region 7 with (fail)
  have A_n2:=fun o=>((Kp.refl (fun _=>False) wr).alloc o).cellF n2
  have A_c0:=fun o=>((Kp.refl (fun _=>False) wr).alloc o).cellF c0
  have A_zc:=fun o=>((Kp.refl (fun _=>False) wr).alloc o).cellF zc
  have A_y0:=fun o=>((Kp.refl (fun _=>False) wr).alloc o).cellF y0
  have A_y1:=fun o=>((Kp.refl (fun _=>False) wr).alloc o).cellF y1
  have A_y2:=fun o=>((Kp.refl (fun _=>False) wr).alloc o).cellF y2
  have A_y3:=fun o=>((Kp.refl (fun _=>False) wr).alloc o).cellF y3
  have A_y4:=fun o=>((Kp.refl (fun _=>False) wr).alloc o).cellF y4
  have A_y5:=fun o=>((Kp.refl (fun _=>False) wr).alloc o).cellF y5
  have A_y6:=fun o=>((Kp.refl (fun _=>False) wr).alloc o).cellF y6
  go_region
  have HZ4:=hid (And.intro (HZ.out.1.keep0 (Kp.refl _ _).drew) (And.intro HZ.out.2.1 (And.intro HZ.out.2.2.1 HZ.out.2.2.2.drew)));have hb5 : (wr.alloc (.cells #[.int .u8 y.n.name,.int .i64 y.n.kind,.int .i64 y.n.parent,.int .i64 y.n.pos,.slice ea2 y.n.enter.length ec2,.slice la2 y.n.leave.length lc2,.slice ta2 y.n.trans.length tc2] 223)).drew.heap[wr.heap.size]? = _:=hb4;clear A_n2 A_c0 A_zc A_y0 A_y1 A_y2 A_y3 A_y4 A_y5 A_y6 n1 n2 n4 y0 y1 y2 y3 y4 y5 y6 c0 zc hb4 HZ
  go_upto_region 8 with (fail)
  generalize (wr.alloc (.cells #[.int .u8 y.n.name,.int .i64 y.n.kind,.int .i64 y.n.parent,.int .i64 y.n.pos,.slice ea2 y.n.enter.length ec2,.slice la2 y.n.leave.length lc2,.slice ta2 y.n.trans.length tc2] 223)).drew = w4 at *;generalize wr.heap.size = pb at *;have hqs:=HZ4.out.2.1.sz.1
  have p0 : w4.cell? ⟨pb,0,none⟩ = some (.int .u8 y.n.name):=by rw [World.cell?,hb5];rfl
  have c7 : w4.cell? ⟨xb,7,none⟩ = some (.string (strOfNums ma.q)):=HZ4.out.1.nb.cell 7;have f7:=HZ4.out.1.nb.free 7
  have A_p0:=fun o=>((Kp.refl (fun _=>False) w4).alloc o).cellF p0
  have A_c7:=fun o=>((Kp.refl (fun _=>False) w4).alloc o).cellF c7
  have A_f7 : ∀ o,(w4.alloc o).frozen? ⟨xb,7,none⟩ = false:=fun o=>NwB.free (HZ4.out.1.nb.keep ((Kp.refl (fun _=>False) w4).alloc o) (fun x=>x)) 7
  have hcv:=run_convert_bytes_arg (P:=Tryz.prog) ((w4.alloc (.cells #[.int .u8 y.n.name] 5)).drew) 47 5 Tryz.underlying47 Tryz.underlying5 w4.heap.size 0 1 1 [y.n.name] rfl (by
   intro i hi
   match i,hi with
   | 0,_=>simp) 9 Tryz.underlying9
  have hadd:=fun w'=>run_string_add_sum (P:=Tryz.prog) w' (strOfNums ma.q) (strOfNums [y.n.name]) (by rw [strOfNums_size,strOfNums_size];simp;omega)
  go_region
  obtain ⟨hX5,K5⟩:=HZ4.out.1.push y.n.name
  have hpS : ¬ pb = xb:=fun e=>by
   have h1:=HZ4.out.1.nb;unfold NwB at h1;rw [← e,hb5] at h1;simp only [Option.some.injEq,Obj.cells.injEq] at h1;exact absurd h1.2.1 (by decide)
  have hb6:=K5.at_ hb5 hpS;have KF5:=HZ4.out.2.2.2.trans' K5 (fun _ _ e=>.inl e);have hte:=HZ4.out.2.2.1;have hsz5:=HZ4.out.2.1
  have hnmp : Ch.nmAt ol.sts p = y.n.name:=by rw [← hR.sts];unfold Ch.sts;rw [Ch.nmAt_rn (by rw [Ch.mk_len];exact hpl),Ch.rnAt_mk hy]
  unfold Ch.tellEnd at hte;rw [show ((p : Int) == -1) = false by simp,hR.par hy,Int.toNat_natCast,hnmp] at hte;simp only [Bool.false_eq_true,if_false] at hte;clear hcv hadd A_p0 A_c7 A_f7 p0 c7 f7 hb5 HZ4 hqs;generalize ((w4.alloc (.cells #[.int .u8 y.n.name] 5)).setCell ⟨xb,7,none⟩ (.string (strOfNums ma.q ++ strOfNums [y.n.name]))).drew = w5 at *
  have d2 : w5.cell? ⟨pb,2,none⟩ = some (.int .i64 y.n.parent):=by rw [World.cell?,hb6];rfl
  have c0 : w5.cell? ⟨xb,0,none⟩ = some (.pointer (some ⟨cb,0,none⟩)):=hX5.nb.cell 0;have zc:=hX5.ch.cell;have hpy:=hR.up p ⟨y.n.name,y.n.pos,y.n.kind,y.n.parent⟩ (by unfold Ch.sts Ch.mk;rw [List.getElem?_map,List.getElem?_map,hy];rfl);simp only at hpy
  by_cases hp0 : y.n.parent < 0
  ·have hpm : y.n.parent = -1:=by omega
   rw [hpm] at hte;have HN:=hid (And.intro (hte.trans rfl) (And.intro hX5 KF5));clear hte hX5 KF5 hb6 K5
   go_upto_region 9 with (fail)
   go_quiet (fail)
   go_wp2;refine bodyPost_ret (results_none rfl _ _ _) rfl ?_;rw [HN.out.1];exact ⟨rfl,HN.out.2.1.keep0 ((Kp.refl _ _).drewN _),HN.out.2.2.drewN _⟩
  obtain ⟨q,hq⟩ : ∃ q : Nat,y.n.parent = q:=⟨y.n.parent.toNat,by omega⟩
  rw [hq] at hte d2
  have hql : q < l.length:=by omega
  have hql' : (q : Int) < (l.length : Int):=by omega
  obtain ⟨z,hz⟩ : ∃ z,l[q]? = some z:=⟨_,List.getElem?_eq_getElem hql⟩
  have hFr:=hX5.ch;obtain ⟨g1',cap1',hv',_,hcell',_⟩:=hFr.2.1.form hz;simp only [Value.slice.injEq,Option.some.injEq,Addr.mk.injEq,true_and,and_true] at hv';obtain ⟨rfl,rfl⟩:=hv';have v0 : w5.cell? ⟨g1,q * 7,none⟩ = some (.int .u8 z.n.name):=hcell' 0 (by omega);have v1 : w5.cell? ⟨g1,q * 7 + 1,none⟩ = some (.int .i64 z.n.kind):=hcell' 1 (by omega);rw [hR.kind hz] at hte
  have hnmq : Ch.nmAt ol.sts q = z.n.name:=by rw [← hR.sts];unfold Ch.sts;rw [Ch.nmAt_rn (by rw [Ch.mk_len];exact hql),Ch.rnAt_mk hz]
  rw [Int.toNat_natCast,hnmq] at hte
  cases q3 : z.n.kind != 3 with
  | true =>
    have q3' : (z.n.kind == 3) = false:=by simpa using q3
    rw [q3'] at hte;have HN:=hid (And.intro (hte.trans rfl) (And.intro hX5 KF5));clear hte hX5 KF5 hb6 K5 hFr hcell'
    go_upto_region 9 with (fail)
    go_quiet (fail)
    go_wp2;refine bodyPost_ret (results_none rfl _ _ _) rfl ?_;rw [HN.out.1];exact ⟨rfl,HN.out.2.1.keep0 ((Kp.refl _ _).drewN _),HN.out.2.2.drewN _⟩
  | false=>?_
  have e3 : z.n.kind = 3:=by simpa using q3
  rw [e3] at hte v1;have HY:=hid (And.intro hX5 (And.intro KF5 (And.intro hb6 hte)));clear hte hX5 KF5 hb6 K5 hFr hcell' c0 zc;have c0 : w5.cell? ⟨xb,0,none⟩ = some (.pointer (some ⟨cb,0,none⟩)):=HY.out.1.nb.cell 0;have zc:=HY.out.1.ch.cell
  go_upto_region 9 with (fail)
  go_quiet (fail)
  have hX6:=HY.out.1.keep0 ((Kp.refl (fun _=>False) w5).drewN nq);have KF6:=HY.out.2.1.drewN nq;have hb7 : (w5.drewN nq).heap[pb]? = _:=HY.out.2.2.1;have hte:=HY.out.2.2.2;clear HY c0 zc v0 v1 d2;generalize w5.drewN nq = w6 at *;obtain ⟨on6,ho6,hs6⟩:=hX6.on;have E:=hid (rEnded_at B xb cb g pv { ma with q:=ma.q ++ [y.n.name] } l (.slice (some ⟨g1,0,none⟩) l.length cap) ol on6 hs6 hR l.length w6 q (by omega) hql hX6.nb ho6 hX6.ch)
  have d2 : w6.cell? ⟨pb,2,none⟩ = some (.int .i64 q):=by rw [World.cell?,hb7,← hq];rfl
  have HY:=hid (And.intro hX6 (And.intro KF6 (And.intro hb7 hte)));clear hX6 KF6 hb7 hte ho6 hs6
  go_wp2_with fail
  refine hm E ?_;rintro u w7 ⟨rfl,K7⟩;have hX7:=HY.out.1.keep0 K7;have KF7:=HY.out.2.1.trans' K7 (fun _ _ x=>x.elim);have hb8:=K7.at_ HY.out.2.2.1 (fun x=>x);have hte:=HY.out.2.2.2;clear E HY d2 K7
  cases qe : Ch.atEnd ol.sts ma.s.act q with
  | false =>
    rw [qe] at hte;have HN:=hid (And.intro (hte.trans rfl) (And.intro hX7 KF7));clear hte hX7 KF7 hb8
    go_wp2_with fail
    go_end0
    rw [HN.out.1];exact ⟨rfl,HN.out.2.1,HN.out.2.2⟩
  | true=>?_
  rw [qe] at hte;have HN:=hid (And.intro (hte.trans rfl) (And.intro hX7 KF7))
  have d2 : w7.cell? ⟨pb,2,none⟩ = some (.int .i64 q):=by rw [World.cell?,hb8,← hq];rfl
  have c0 : w7.cell? ⟨xb,0,none⟩ = some (.pointer (some ⟨cb,0,none⟩)):=hX7.nb.cell 0;have zc:=hX7.ch.cell;have c7 : w7.cell? ⟨xb,7,none⟩ = some (.string (strOfNums (ma.q ++ [y.n.name]))):=hX7.nb.cell 7;have f7:=hX7.nb.free 7;obtain ⟨g1',cap1',hv',_,hcell',_⟩:=hX7.ch.2.1.form hz;simp only [Value.slice.injEq,Option.some.injEq,Addr.mk.injEq,true_and,and_true] at hv';obtain ⟨rfl,rfl⟩:=hv';have v0 : w7.cell? ⟨g1,q * 7,none⟩ = some (.int .u8 z.n.name):=hcell' 0 (by omega);have hqs:=hsz5.sz.1
  have A_d2:=fun o=>((Kp.refl (fun _=>False) w7).alloc o).cellF d2
  have A_c0:=fun o=>((Kp.refl (fun _=>False) w7).alloc o).cellF c0
  have A_zc:=fun o=>((Kp.refl (fun _=>False) w7).alloc o).cellF zc
  have A_c7:=fun o=>((Kp.refl (fun _=>False) w7).alloc o).cellF c7
  have A_v0:=fun o=>((Kp.refl (fun _=>False) w7).alloc o).cellF v0
  have A_f7 : ∀ o,(w7.alloc o).frozen? ⟨xb,7,none⟩ = false:=fun o=>NwB.free (hX7.nb.keep ((Kp.refl (fun _=>False) w7).alloc o) (fun x=>x)) 7
  have hcv:=run_convert_bytes_arg (P:=Tryz.prog) ((w7.alloc (.cells #[.int .u8 z.n.name] 5)).drew) 47 5 Tryz.underlying47 Tryz.underlying5 w7.heap.size 0 1 1 [z.n.name] rfl (by
   intro i hi
   match i,hi with
   | 0,_=>simp) 9 Tryz.underlying9
  have hadd:=fun w'=>run_string_add_sum (P:=Tryz.prog) w' (strOfNums (ma.q ++ [y.n.name])) (strOfNums [z.n.name]) (by rw [strOfNums_size,strOfNums_size];simp;omega)
  clear hte hX7 KF7 hb8 hcell'
  go_upto_region 12 with (fail)
  go_region
  go_wp2_with fail
  go_end0
  rw [HN.out.1];obtain ⟨hX8,K8⟩:=HN.out.2.1.push z.n.name;refine ⟨rfl,?_,HN.out.2.2.trans' K8 (fun _ _ e=>.inl e)⟩;exact hX8
end
namespace Ch
theorem entL_append (ol : Ol) : ∀ (a b : List Nat) (m : Ma),entL ol (a ++ b) m = entL ol b (entL ol a m):=by
 intro a
 induction a with
 | nil=>intro b m;rfl
 | cons x a ih=>intro b m;exact ih b _
theorem entL_snoc (ol : Ol) {l : List Nat} {k j : Nat} (h : l[k]? = some j) (m : Ma) : entL ol (l.take (k + 1)) m = if bit (entL ol (l.take k) m).s.act j then entL ol (l.take k) m else enterSt ol (entL ol (l.take k) m) j:=by
 rw [List.take_add_one,h,entL_append];rfl
theorem MOk.enter {ol : Ol} (hol : ol.Ok) (hA : AcA ol) {m : Ma} {N : Nat} (h : MOk m N) (i : Nat) : MOk (enterSt ol m i) (N + 115202) :=
 ⟨enterSt_ok h.ok i,(keeps_tl (by omega) ol).enterSt hA h.tm i,enterSt_sz hol h.sz i⟩
end Ch
section
variable (w : World) (B B2 xb cb g : Nat) (pv v : Value) (l : List NV) (ol : Ch.Ol) (m : Ch.Ma)
theorem rEntering_any (N B3 : Nat) (goals : List Int) (gv : Value) (h : NwX w B B2 xb cb g pv v l ol m) (hR : Rf l ol) (hM : Ch.MOk m N) (hN : N ≤ 890000000) (hgl : goals.length ≤ 16) (hgo : ∀ x ∈ goals,x < l.length) (hg : w.ownsRow B3 3 1 gv goals.length (inCells goals)) :
 Calls Tryz.prog 202 #[.pointer (some ⟨xb,0,none⟩),gv] w fun y w'=>y = .returned (.tuple #[]) ∧ NwX w' B B2 xb cb g pv v l ol (Ch.entL ol (Ch.nextR ol.sts (Ch.bit m.s.act) goals ol.sts.length 0) m) ∧ Kp (nS xb g pv) w w':=by
 have hle:=hR.le;have hne:=hR.ols.shp.ne;rw [hR.len] at hne;obtain ⟨on,hon,hso⟩:=h.on;have E0:=hid (rNext_at B xb cb g pv m l v ol on hso hR goals gv B3 hgl hgo l.length w 0 (by omega) hne h.nb hon h.ch hg);obtain ⟨_,_,hmem,_,_⟩:=Ch.next_mem hR.ols.shp (Ch.bit m.s.act) goals ol.sts.length 0 hR.ols.shp.ne (by omega);have hlen:=Nat.le_trans (Ch.next_len hR.ols.shp (Ch.bit m.s.act) goals hR.ols.shp.ne) hR.ols.le
 have hlt0 : ∀ j ∈ Ch.nextR ol.sts (Ch.bit m.s.act) goals ol.sts.length 0,j < l.length:=fun j hj=>by rw [← hR.len];exact (hmem j hj).1
 generalize Ch.nextR ol.sts (Ch.bit m.s.act) goals ol.sts.length 0 = nx at *;have HL:=hid hlt0;have HX:=hid (And.intro h hM);clear h hg hon hso hmem hlt0 hM
 go_enter Tryz.func202,Tryz.ntmps202
 go_wp2_with fail
 refine hm E0 ?_;rintro z w2 ⟨u,rfl,hu,K2⟩;obtain ⟨ua,uc,rfl⟩:=own_len hu;have hX2:=HX.out.1.keep0 K2
 have huS : ∀ k,(Value.slice ua nx.length uc).ownBlock = some k → ¬ nS xb g pv k:=fun k hk e=>by
  obtain ⟨on',ho',_⟩:=hX2.on
  rcases e with e | e | e
  ·exact own_ne hu hX2.nb (by decide) (by rw [hk,e])
  ·exact own_ne hu ho' (by decide) (by rw [hk,e])
  rcases hu.2 with ⟨h0,_⟩ | ⟨g9,c9,cur9,h1,_,h3,_⟩
  ·rw [h0] at hk;simp [Value.ownBlock] at hk
  rw [h1] at hk
  have hkg : k = g9:=by simpa [Value.ownBlock] using hk.symm
  subst hkg;exact OwnP.ne hX2.ps h3 (by decide) e
 have HU:=hid (And.intro hu (And.intro K2 (And.intro hX2 HX.out.2)));clear hu K2 E0 hX2 HX
 go_wp2_with fail
 go_loopw [5] (fun kv wr=>∃ k : Nat,kv = .int .i64 k ∧ k ≤ nx.length ∧ Hid (NwX wr B B2 xb cb g pv v l ol (Ch.entL ol (nx.take k) m)) ∧ Hid (Ch.MOk (Ch.entL ol (nx.take k) m) (N + 115202 * k)) ∧ Kp (nS xb g pv) w2 wr) (fun kv _=>nx.length - (intOf kv).toNat)
 case atStart=>exact ⟨0,rfl,Nat.zero_le _,hid HU.out.2.2.1,hid HU.out.2.2.2,Kp.refl _ _⟩
 case round =>
  obtain ⟨k,rfl,hk,HXr,HMr,KW⟩:=hrel
  by_cases hlt : k < nx.length
  ·have hlt' : (k : Int) < (nx.length : Int):=by omega
   obtain ⟨j,hj⟩ : ∃ j,nx[k]? = some j:=⟨_,List.getElem?_eq_getElem hlt⟩
   have hjl:=HL.out j (List.mem_of_getElem? hj)
   have hjl' : (j : Int) < (l.length : Int):=by omega
   have hur:=KW.owns HU.out.1 huS;obtain ⟨g2,cap2,hv2,_⟩:=World.ownsRow.form hur (by omega);simp only [Value.slice.injEq] at hv2;obtain ⟨rfl,-,rfl⟩:=hv2
   have zk : wr.cell? ⟨g2,k,none⟩ = some (.int .i64 j):=by
    rw [World.ownsRow.cellAt hur k (by omega)];simp [inCells,Ch.natI,hj]
   obtain ⟨onr,honr,hsor⟩:=HXr.out.on;have c1 : wr.cell? ⟨xb,1,none⟩ = some (.slice (some ⟨g,0,none⟩) l.length l.length):=HXr.out.nb.cell 1;have zon:=honr.cell (k:=j) (by have:=hsor.1;omega);have hsn:=Ch.entL_snoc ol hj m;have hbj:=hsor.2.2 j;have E:=hid (fun nn=>rEnters_any (wr.drewN nn) B B2 xb cb g pv v l ol (Ch.entL ol (nx.take k) m) j (N + 115202 * k) (HXr.out.keep0 ((Kp.refl _ _).drewN nn)) hR HMr.out (by omega) hjl);have HMN:=hid (HMr.out.enter hR.ok hR.aca j);generalize Ch.entL ol (nx.take k) m = mk at *;rw [← hbj] at hsn;generalize Ch.onAt onr j = oj at *;have HSN:=hid hsn;have HKW:=hid KW;clear hur honr hsor hsn hbj KW
   cases oj with
   | true =>
     have HF:=hid (HSN.out.trans (if_pos rfl));clear HSN
     go_wp2_with fail
     go_quiet (fail)
     go_wp2
     go_roundw
     case rel=>exact ⟨k + 1,by go_num,by omega,hid (by rw [HF.out];exact HXr.out.keep0 ((Kp.refl _ _).drewN _)),hid (by rw [HF.out];exact HMr.out.le (by omega)),HKW.out.drewN _⟩
     case measure=>simp [intOf];omega
   | false=>?_
   have HF:=hid (HSN.out.trans (if_neg (by simp)));clear HSN
   go_wp2_with fail
   go_quiet (fail)
   have zk' : (wr.drewN nq).cell? ⟨g2,k,none⟩ = some (.int .i64 j):=zk
   go_wp2_with fail
   refine Calls.mono (Hid.out E _) ?_;rintro z w5 ⟨rfl,X5,K5⟩;have HX5:=hid (And.intro X5 ((HKW.out.drewN nq).trans K5));clear E X5 K5 zk zk' c1 zon;go_wp2
   go_roundw
   case rel=>exact ⟨k + 1,by go_num,by omega,hid (by rw [HF.out];exact HX5.out.1),hid (by rw [HF.out];exact HMN.out.le (by omega)),HX5.out.2⟩
   case measure=>simp [intOf];omega
  have hge : ¬ (k : Int) < (nx.length : Int):=by omega
  obtain rfl : k = nx.length:=by omega
  have hXr:=HXr.out;rw [List.take_length] at hXr;have HN:=hid (And.intro hXr ((HU.out.2.1.mono (S':=nS xb g pv) (fun _ _ x=>x.elim)).trans KW));clear hXr KW HXr HMr
  go_wp2_with fail
  go_end0
  exact ⟨rfl,HN.out.1,HN.out.2⟩
end
end Go.Proofs.YtnlbchmfcebeeaaGreat
