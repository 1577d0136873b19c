import Derived.Test.YtnlbchmfcebeeaaGreatTZi
set_option maxHeartbeats 12800000
set_option maxRecDepth 100000
namespace Go.Proofs.YtnlbchmfcebeeaaGreat
open Go.RowKit
namespace Ch
theorem place_lt (ss : List St) (c : Int) : place ss c < ss.length:=by
 by_cases h : place ss c = -2
 ·rw [h];omega
 obtain ⟨g,h1,h2⟩:=place_in h;rw [h1];omega
theorem goal_lt {ss : List St} (s : Sd) {g : Int} (h : g < ss.length) : goal ss s g < ss.length:=by
 unfold goal
 split
 ·exact h
 split
 ·unfold firstChild
  rcases firstChildF_spec ss (parAt ss g) ss.length 0 with ⟨e,_⟩ | ⟨j,_,h1,_,e⟩
  ·rw [e];omega
  first | rw [e.1];omega | rw [e];omega
 exact place_lt _ _
theorem goalR_lt (ol : Ol) (s : Sd) (t : Int) : goalR ol s t < ol.sts.length:=by
 unfold goalR
 split
 ·split
  ·omega
  exact goal_lt s (place_lt _ _)
 omega
theorem goalR_past {ol : Ol} {s s' : Sd} (e : s'.past = s.past) (t : Int) : goalR ol s' t = goalR ol s t:=by
 unfold goalR goal pastAt;rw [e]
theorem doTrs_append (ol : Ol) : ∀ (a b : List Int) (m : Ma),doTrs ol (a ++ b) m = doTrs ol b (doTrs ol a m):=by
 intro a
 induction a with
 | nil=>intro b m;rfl
 | cons x a ih=>intro b m;exact ih b _
theorem doTrs_snoc (ol : Ol) {l : List Int} {k : Nat} {t : Int} (h : l[k]? = some t) (m : Ma) : doTrs ol (l.take (k + 1)) m = doActs (actsOf ol t.toNat) (doTrs ol (l.take k) m):=by
 rw [List.take_add_one,h,doTrs_append];rfl
theorem MOk.leave {ol : Ol} (hol : ol.Ok) (hA : AcA ol) {m : Ma} {N : Nat} (h : MOk m N) (left : List Bool) (k : Nat) : MOk (leaveF ol left k m) (N + 115200 * k) :=
 ⟨leaveF_ok _ _ _ h.ok,(keeps_tl (by omega) ol).leaveF hA left k h.tm,leaveF_sz hol left k h.sz⟩
theorem MOk.rem {ol : Ol} {m : Ma} {N : Nat} (h : MOk m N) (left : List Bool) : MOk { m with s:=Ch.rem ol.sts m.s left } N:=⟨rem_ok _ h.ok,h.tm,h.sz⟩
end Ch
theorem NwX.rowS {w : World} {B B2 xb cb g : Nat} {pv v : Value} {l : List NV} {ol : Ch.Ol} {m : Ch.Ma} (h : NwX w B B2 xb cb g pv v l ol m) {base : Nat} {T : TypeId} {sz : Nat} {u : Value} {n : Nat} {xs : List Value} (hu : w.ownsRow base T sz u n xs) (h1 : T ≠ 274) (h2 : T ≠ 4) (h3 : T ≠ 5) : ∀ k,u.ownBlock = some k → ¬ nS xb g pv k:=fun k hk e=>by
 obtain ⟨on,ho,_⟩:=h.on
 rcases e with e | e | e
 ·exact own_ne hu h.nb h1 (by rw [hk,e])
 ·exact own_ne hu ho h2 (by rw [hk,e])
 exact OwnP.apart h.ps hu h3 k hk e
theorem NwX.beside {w w' : World} {B B2 xb cb g : Nat} {pv v : Value} {l : List NV} {ol : Ch.Ol} {m : Ch.Ma} (h : NwX w B B2 xb cb g pv v l ol m) {base sz : Nat} {u : Value} {n : Nat} {xs : List Value} (hu : w.ownsRow base 3 sz u n xs) (k : Kp (fun i=>u.ownBlock = some i) w w') : NwX w' B B2 xb cb g pv v l ol m:=by
 obtain ⟨on,ho,hs⟩:=h.on
 exact ⟨h.nb.keep k (own_ne hu h.nb (by decide)),⟨on,k.at_ ho (own_ne hu ho (by decide)),hs⟩,OwnP.keep h.ps k (fun j hj e=>OwnP.apart h.ps hu (by decide) j e hj),h.ch.keepT k (fun i cur T hi _ hT e=>by
  rcases hT with h' | h' | h' | h' <;> subst h' <;> exact own_ne hu hi (by decide) e)⟩
section
variable (w : World) (B B2 xb cb g : Nat) (pv v : Value) (l : List NV) (ol : Ch.Ol) (m : Ch.Ma)
theorem rMicro_any (N B3 : Nat) (list : List Int) (lw : Value) (h : NwX w B B2 xb cb g pv v l ol m) (hR : Rf l ol) (hI : Ch.Inv ol m.s) (hM : Ch.MOk m N) (hN : N ≤ 880000000) (hll : list.length ≤ 16) (hin : Ch.InT ol list) (hsrc : ∀ t ∈ list,Ch.Src ol m.s t) (hcl : Ch.Clear ol m.s list) (hlw : w.ownsRow B3 301 2 lw list.length (mvCells ol list)) :
 Calls Tryz.prog 206 #[.pointer (some ⟨xb,0,none⟩),lw] w fun y w'=>y = .returned (.tuple #[]) ∧ NwX w' B B2 xb cb g pv v l ol (Ch.micro ol m list) ∧ Kp (nS xb g pv) w w':=by
 obtain ⟨i0,hi0,hz0,hz1,hz2⟩:=info_parts Tryz.infoInt;obtain ⟨d,hd,hda⟩:=Tryz.undMv;have hle:=hR.le;obtain ⟨la,lc,rfl⟩:=own_len hlw
 by_cases hl0 : list.length = 0
 ·obtain rfl : list = []:=List.length_eq_zero_iff.1 hl0
  rw [Ch.micro_nil hR.ols hI];have HX:=hid h;clear h hM hlw hsrc hcl hin hI
  go_enter Tryz.func206,Tryz.ntmps206
  go_wp2;refine bodyPost_ret (results_none rfl _ _ _) rfl ?_;exact ⟨rfl,HX.out,Kp.refl _ _⟩
 have hl0' : ((list.length : Int) == 0) = false:=by rw [beq_eq_false_iff_ne];omega
 have E0:=hid (rLeaving_any w B B2 xb cb g pv v l ol m N B3 list _ h hR hI hM hN hll hin hlw);have hmic:=(Ch.micro_ref hR.ols hI hsrc hcl).1;have hmid : Ch.mid ol m list = Ch.doTrs ol list (Ch.leaveF ol (Ch.leftAll ol m.s list) ol.sts.length { m with s:=Ch.rem ol.sts m.s (Ch.leftAll ol m.s list) }):=rfl;have hMl:=(hM.rem (ol:=ol) (Ch.leftAll ol m.s list)).leave hR.ok hR.aca (Ch.leftAll ol m.s list) ol.sts.length;obtain ⟨_,hp1,hp2⟩:=Ch.leaveF_bit ol (Ch.leftAll ol m.s list) ol.sts.length { m with s:=Ch.rem ol.sts m.s (Ch.leftAll ol m.s list) } (by show ol.sts.length ≤ m.s.act.length;rw [hI.la,hR.len];exact hle);have hpo:=(Ch.rem_past hR.ols hI.past hI.lp (Ch.leftAll ol m.s list)).same hp1
 have hlp : (Ch.leaveF ol (Ch.leftAll ol m.s list) ol.sts.length { m with s:=Ch.rem ol.sts m.s (Ch.leftAll ol m.s list) }).s.past.length = 16:=by
  rw [hp1];show (Ch.rem ol.sts m.s _).past.length = 16;unfold Ch.rem;rw [Ch.remF_len];exact hI.lp
 rw [hmic,hmid];rw [← Ch.next_congr (fun k=>Ch.goals_hit _ k list)];generalize Ch.leaveF ol (Ch.leftAll ol m.s list) ol.sts.length { m with s:=Ch.rem ol.sts m.s (Ch.leftAll ol m.s list) } = ml at *;rw [hR.len] at hMl;have hap:=Ch.doTrs_ap ol list ml;have hgm : list.map (Ch.goalR ol (Ch.doTrs ol list ml).s) = list.map (Ch.goalR ol ml.s):=List.map_congr_left (fun t _=>Ch.goalR_past hap.2 t);rw [hgm];have HIN:=hid hin;have HL:=hid (And.intro hlw (h.rowS hlw (by decide) (by decide) (by decide)));have HP:=hid (And.intro hpo (And.intro hlp (And.intro hMl hI)));clear h hM hlw hsrc hcl hin hI hmic hmid hap hgm hp1 hp2 hpo hlp hMl
 go_enter Tryz.func206,Tryz.ntmps206
 go_wp2_with fail
 refine hm E0 ?_;rintro z w2 ⟨rfl,X2,K2⟩;have HX2:=hid (And.intro X2 (And.intro (K2.owns HL.out.1 HL.out.2) K2));clear E0 X2 K2
 go_wp2_with fail
 go_loopw [4,5] (fun gv kv wr=>∃ k : Nat,kv = .int .i64 k ∧ k ≤ list.length ∧ wr.ownsRow w2.heap.size 3 1 gv k (inCells ((list.take k).map (Ch.goalR ol ml.s))) ∧ Hid (NwX wr B B2 xb cb g pv v l ol (Ch.doTrs ol (list.take k) ml)) ∧ Hid (Ch.MOk (Ch.doTrs ol (list.take k) ml) (N + 115200 * l.length + 480 * k)) ∧ Kp (nS xb g pv) w2 wr) (fun _ kv _=>list.length - (intOf kv).toNat)
 case atStart=>exact ⟨0,rfl,Nat.zero_le _,World.ownsRow_nil _ _ _ _,hid HX2.out.1,hid HP.out.2.2.1,Kp.refl _ _⟩
 case round =>
  obtain ⟨k,rfl,hk,hgr,HXk,HMk,KW⟩:=hrel
  by_cases hlt : k < list.length
  ·have hlt' : (k : Int) < (list.length : Int):=by omega
   obtain ⟨ti,hti⟩ : ∃ ti,list[k]? = some ti:=⟨_,List.getElem?_eq_getElem hlt⟩
   have htin:=HIN.out ti (List.mem_of_getElem? hti)
   obtain ⟨t,rfl⟩ : ∃ t : Nat,ti = t:=⟨ti.toNat,by omega⟩
   obtain ⟨a,nd,rt,x,hsa,hal',hmr⟩:=hR.mv (t:=t) (by omega);have hlr:=KW.owns HX2.out.2.1 HL.out.2;obtain ⟨g2,cap2,hv2,_⟩:=World.ownsRow.form hlr (by omega);simp only [Value.slice.injEq] at hv2;obtain ⟨rfl,-,rfl⟩:=hv2;obtain ⟨q0,q1⟩:=mvCells_at ol list k t hti;rw [Int.toNat_natCast] at q0 q1;rw [hsa] at q0;have z0:=(World.ownsRow.cellAt hlr (k * 2) (by omega)).trans q0;have z1:=(World.ownsRow.cellAt hlr (k * 2 + 1) (by omega)).trans q1;have E1:=hid (rText_any wr B xb cb g l.length pv _ l v a _ nd rt HXk.out.nb HXk.out.ch hmr.hnd hmr.hrt)
   have hao : Ch.actsOf ol t = x.acts:=by unfold Ch.actsOf;rw [hmr.htr]
   have hsn:=Ch.doTrs_snoc ol hti ml;rw [Int.toNat_natCast,hao] at hsn
   have hgs : (list.take (k + 1)).map (Ch.goalR ol ml.s) = (list.take k).map (Ch.goalR ol ml.s) ++ [Ch.goalR ol ml.s t]:=by rw [List.take_add_one,hti,List.map_append];rfl
   have hac : (∀ a ∈ x.acts,Ch.AcV a) ∧ x.acts.length ≤ 240:=⟨hmr.hok.ac,(hR.ok.tra x (List.mem_of_getElem? hmr.htr)).1⟩
   have hap:=Ch.doTrs_ap ol (list.take k) ml;have HS:=hid (And.intro hsn (And.intro hgs (And.intro hac (And.intro hap (And.intro hgr KW)))));clear hlr q0 q1 hao hsn hgs hac hap hgr KW
   go_wp2_with fail
   refine hm E1 ?_;rintro y w3 ⟨rfl,K3⟩;have E2:=hid (rDeed_any w3 rt x hmr.hok (by have:=hmr.hsz;omega));have HX3:=hid (And.intro (HXk.out.keep0 K3) (HS.out.2.2.2.2.2.trans' K3 (fun _ _ x=>x.elim)));have HG3:=hid (K3.owns HS.out.2.2.2.2.1 (fun _ _ x=>x));clear E1 K3 z0 z1
   go_wp2_with fail
   refine hm E2 ?_;rintro y w3' ⟨s,rfl,hs,rfl⟩;have E3:=hid (rActs_any w3' xb cb g l.length pv _ x.acts s HX3.out.1.nb hs.1 HS.out.2.2.1.1 HMk.out.ok HMk.out.tm ⟨by have:=HMk.out.sz.1;omega,by have:=HMk.out.sz.2;omega⟩ (by have:=HS.out.2.2.1.2;omega) hs.2);clear E2 hs
   go_wp2_with fail
   refine hm E3 ?_;rintro y w4 ⟨rfl,N4,K4⟩;have X4:=HX3.out.1.acts K4 N4 (Ch.doActs_ap _ _);have KW4 : Kp (nS xb g pv) w2 w4:=HX3.out.2.trans' K4 (fun _ _ e=>.inl e);have hG4:=K4.owns HG3.out (fun j hj e=>own_ne HG3.out HX3.out.1.nb (by decide) (by rw [hj,e]));have M4:=HMk.out.acts HS.out.2.2.1.1 HS.out.2.2.1.2;rw [← HS.out.1] at X4 M4;have hlr:=KW4.owns HX2.out.2.1 HL.out.2;obtain ⟨q0,q1⟩:=mvCells_at ol list k t hti;rw [Int.toNat_natCast] at q0 q1;rw [hsa] at q0;have z0:=(World.ownsRow.cellAt hlr (k * 2) (by omega)).trans q0;have z1:=(World.ownsRow.cellAt hlr (k * 2 + 1) (by omega)).trans q1;have hapn:=Ch.doTrs_ap ol (list.take (k + 1)) ml
   have hIk : Ch.Inv ol { (Ch.doTrs ol (list.take (k + 1)) ml).s with act:=m.s.act }:=⟨HP.out.2.2.2.conf,HP.out.1.same hapn.2,HP.out.2.2.2.la,by show (Ch.doTrs ol (list.take (k + 1)) ml).s.past.length = 16;rw [hapn.2];exact HP.out.2.1⟩
   have E5:=hid (rGoal_any w4 B B2 xb cb g pv { (Ch.doTrs ol (list.take (k + 1)) ml) with s:={ (Ch.doTrs ol (list.take (k + 1)) ml).s with act:=m.s.act } } l v ol t a _ nd rt x X4.nb X4.ps hIk X4.ch hR hmr);have hge : Ch.goalR ol { (Ch.doTrs ol (list.take (k + 1)) ml).s with act:=m.s.act } t = Ch.goalR ol ml.s t:=Ch.goalR_past hapn.2 t;rw [hge] at E5;have HX4:=hid (And.intro X4 (And.intro M4 (And.intro KW4 hG4)));clear E3 N4 K4 X4 KW4 hG4 M4 hlr q0 q1 hapn hIk hge HX3 HG3 HXk HMk
   go_wp2_with fail
   refine hm E5 ?_;rintro y w5 ⟨rfl,K5⟩;have hG5:=K5.owns HX4.out.2.2.2 (fun _ _ x=>x);have hKW5 : Kp (nS xb g pv) w2 w5:=HX4.out.2.2.1.trans' K5 (fun _ _ x=>x.elim);have X5:=HX4.out.1.keep0 K5;have hsz5:=hKW5.size;have HX5:=hid (And.intro X5 (And.intro hKW5 HX4.out.2.1));have HGS:=hid HS.out.2.1;clear E5 K5 X5 hKW5 HX4 HS z0 z1
   go_wp2_with (at_builtin;refine wpList_append_own (P:=Tryz.prog) _ rfl (.tmp 36) (.tmp 38) 38 rfl w2.heap.size 3 i0 (.int .i64 0) 1 8 Tryz.underlying38 hi0 hz0 hz1 hz2 rfl (by decide) u4 k (inCells ((list.take k).map (Ch.goalR ol ml.s))) rfl (by exact World.ownsRow.alloc hG5 _) ⟨w5.heap.size,0,none⟩ 1 1 [.int .i64 (Ch.goalR ol ml.s t)] rfl rfl (by exact cell1_new _ _ _) (by intro u hu;simp at hu;subst hu;rfl) (by unfold maxLen;omega) (by omega) (by simp;omega) ?_)
   intro v' w9 o9 g9 _;have K9 : Kp (fun i=>u4.ownBlock = some i) w5 w9:=((Kp.refl (fun i=>u4.ownBlock = some i) w5).alloc (.cells #[.int .i64 (Ch.goalR ol ml.s t)] 3)).grown (by exact g9) (fun j hj _=>hj);have X9:=HX5.out.1.beside hG5 K9;have KW9 : Kp (nS xb g pv) w2 w9:=HX5.out.2.1.trans' K9 (fun i hi e=>by have:=(World.ownsRow.lt hG5 i e).1;omega);have HO:=hid (And.intro o9 (And.intro X9 (And.intro KW9 HX5.out.2.2)));clear o9 g9 K9 X9 KW9 hG5 HX5;go_wp2
   go_roundw
   case rel =>
    refine ⟨k + 1,by go_num,by omega,?_,hid HO.out.2.1,hid (HO.out.2.2.2.le (by omega)),HO.out.2.2.1⟩;rw [HGS.out];have:=HO.out.1;simpa [inCells] using this
   case measure=>simp [intOf];omega
  have hge : ¬ (k : Int) < (list.length : Int):=by omega
  obtain rfl : k = list.length:=by omega
  have hXk:=HXk.out;have hMk:=HMk.out;rw [List.take_length] at hXk hMk hgr
  have hgo : ∀ x ∈ list.map (Ch.goalR ol ml.s),x < (l.length : Int):=fun x hx=>by
   obtain ⟨t,_,rfl⟩:=List.mem_map.1 hx;rw [← hR.len];exact Ch.goalR_lt _ _ _
  have E6:=hid (rEntering_any wr B B2 xb cb g pv v l ol _ (N + 115200 * l.length + 480 * list.length) w2.heap.size (list.map (Ch.goalR ol ml.s)) u4 hXk hR hMk (by omega) (by simpa using hll) hgo (by rw [List.length_map];exact hgr));have HK:=hid (HX2.out.2.2.trans KW);clear hXk hMk hgr hgo HXk HMk KW
  go_wp2_with fail
  refine hm E6 ?_;rintro y w7 ⟨rfl,X7,K7⟩;have HX7:=hid (And.intro X7 (HK.out.trans K7));clear E6 X7 K7 HK
  go_wp2_with fail
  go_end0
  exact ⟨rfl,HX7.out.1,HX7.out.2⟩
end
namespace Ch
def QB (m : Ma) : Prop:=∀ a ∈ m.q,0 ≤ a ∧ a < 256
theorem QB.push {m : Ma} (h : QB m) {c : Int} (h0 : 0 ≤ c) (h1 : c < 256) : QB { m with q:=m.q ++ [c] }:=by
 intro a ha
 rcases List.mem_append.1 ha with ha | ha
 ·exact h a ha
 obtain rfl : a = c:=by simpa using ha
 exact ⟨h0,h1⟩
theorem QB.act {m : Ma} (h : QB m) {a : Ac} (ha : AcV a) : QB (doAct m a).2:=by
 unfold doAct
 split
 ·exact h.push (by have:=ha.byte;omega) (by have:=ha.byte;omega)
 split
 ·exact h
 split
 ·exact h
 split
 ·exact h
 exact h
theorem QB.acts : ∀ (l : List Ac) {m : Ma},QB m → (∀ a ∈ l,AcV a) → QB (doActs l m):=by
 intro l
 induction l with
 | nil=>intro m hp _;exact hp
 | cons a l ih=>?_
 intro m hp ha;simp only [doActs];have h1:=hp.act (ha a (by simp))
 split
 ·exact ih h1 (fun b hb=>ha b (by simp [hb]))
 exact h1.push (by omega) (by omega)
theorem QB.bls {k : Nat} {sg : Int} (hsg : sg = 94 ∨ sg = 36) : ∀ (l : List Bl) {m : Ma},(∀ b ∈ l,∀ k : Nat,∀ sg : Int,b.state = k → b.sign = sg → (sg = 94 ∨ sg = 36) → ∀ a ∈ b.acts,AcV a) → QB m → QB (doBls k sg l m):=by
 intro l
 induction l with
 | nil=>intro m _ hp;exact hp
 | cons b l ih=>?_
 intro m hA hp;simp only [doBls];refine ih (fun b hb=>hA b (by simp [hb])) ?_
 split
 ·rename_i c
  simp only [Bool.and_eq_true,beq_iff_eq] at c;exact hp.acts _ (hA b (by simp) k sg c.1 c.2 hsg)
 exact hp
def NmB (ol : Ol) : Prop:=∀ k,0 ≤ nmAt ol.sts k ∧ nmAt ol.sts k < 256
theorem QB.enterSt {ol : Ol} (hn : NmB ol) (hA : AcA ol) {m : Ma} (hp : QB m) (k : Nat) : QB (enterSt ol m k):=by
 have h1 : QB (doBls k 94 ol.bls (setAct m k true)):=QB.bls (k:=k) (.inl rfl) ol.bls hA.bl hp;unfold Ch.enterSt
 split
 ·unfold tellEnd
  split
  ·exact h1
  split
  ·exact (h1.push (hn _).1 (hn _).2).push (hn _).1 (hn _).2
  exact h1.push (hn _).1 (hn _).2
 exact h1
theorem QB.entL {ol : Ol} (hn : NmB ol) (hA : AcA ol) : ∀ (l : List Nat) {m : Ma},QB m → QB (entL ol l m):=by
 intro l
 induction l with
 | nil=>intro m hp;exact hp
 | cons a l ih=>?_
 intro m hp;simp only [Ch.entL];refine ih ?_
 split
 ·exact hp
 exact hp.enterSt hn hA a
theorem QB.enterF {ol : Ol} (hn : NmB ol) (hA : AcA ol) (st : List Bool) (gl : List Int) : ∀ (f k : Nat) {m : Ma},QB m → QB (enterF ol st gl f k m):=by
 intro f
 induction f with
 | zero=>intro k m hp;exact hp
 | succ f ih=>?_
 intro k m hp;simp only [Ch.enterF];refine ih _ ?_
 split
 ·exact hp.enterSt hn hA k
 exact hp
theorem QB.leaveF {ol : Ol} (hA : AcA ol) (left : List Bool) : ∀ (k : Nat) {m : Ma},QB m → QB (leaveF ol left k m):=by
 intro k
 induction k with
 | zero=>intro m hp;exact hp
 | succ k ih=>?_
 intro m hp;simp only [Ch.leaveF];refine ih ?_
 split
 ·exact (QB.bls (k:=k) (.inr rfl) ol.bls hA.bl hp : QB (doBls k 36 ol.bls m))
 exact hp
theorem QB.doTrs {ol : Ol} (hA : AcA ol) : ∀ (l : List Int) {m : Ma},QB m → QB (doTrs ol l m):=by
 intro l
 induction l with
 | nil=>intro m hp;exact hp
 | cons x l ih=>?_
 intro m hp;simp only [Ch.doTrs];refine ih (hp.acts _ ?_);unfold actsOf
 split
 ·rename_i y hy;exact hA.tr y (List.mem_of_getElem? hy)
 simp
theorem QB.micro {ol : Ol} (hn : NmB ol) (hA : AcA ol) {m : Ma} (hp : QB m) (l : List Int) : QB (micro ol m l) :=
 QB.enterF hn hA _ _ _ _ (QB.doTrs hA l (QB.leaveF hA _ _ (m:={ m with s:=Ch.rem ol.sts m.s (leftAll ol m.s l) }) hp))
theorem MOk.micro {ol : Ol} (hol : ol.Ok) (hA : AcA ol) {m : Ma} {N : Nat} (h : MOk m N) {l : List Int} (hl : l.length ≤ 16) : MOk (micro ol m l) (N + 3900000) :=
 ⟨micro_ok h.ok l,(keeps_tl (by omega) ol).micro hA h.tm l,micro_sz hol h.sz hl⟩
theorem str_cons {a : Int} {q : List Int} (h0 : 0 ≤ a) (h1 : a < 256) : peek (strOfNums (a :: q)) 0 = a:=by
 have hs : (strOfNums (a :: q)).size = q.length + 1:=by rw [strOfNums_size];rfl
 unfold peek;rw [dif_pos (by omega)];show ((UInt8.ofNat a.toNat).toNat : Int) = a;rw [UInt8.toNat_ofNat'];omega
theorem str_tail (a : Int) (q : List Int) : (strOfNums (a :: q)).extract 1 (strOfNums (a :: q)).size = strOfNums q:=by
 apply ByteArray.ext;rw [strOfNums_size];simp [strOfNums,ByteArray.data_extract];exact List.take_of_length_le (by simp)
theorem str_ne (a : Int) (q : List Int) : strOfNums (a :: q) ≠ ⟨#[]⟩:=fun e=>by
 have:=congrArg ByteArray.size e;rw [strOfNums_size] at this;simp [ByteArray.size] at this
theorem busy_not {ol : Ol} {m : Ma} (h1 : (choose ol m.s 46).length = 0) (h2 : m.q = []) : busy ol m = false:=by unfold busy;rw [h1,h2];rfl
theorem busy_q {ol : Ol} {m : Ma} {a : Int} {q : List Int} (h2 : m.q = a :: q) : busy ol m = true:=by unfold busy;rw [h2];simp
theorem busy_c {ol : Ol} {m : Ma} (h1 : (choose ol m.s 46).length ≠ 0) : busy ol m = true:=by unfold busy;simp;omega
theorem roundsR_not {ol : Ol} {m : Ma} (h : busy ol m = false) (n : Nat) : roundsR ol n m = (true,m):=by
 cases n with
 | zero=>simp only [roundsR,h];rfl
 | succ n=>simp only [roundsR,h];rfl
theorem roundsR_zero {ol : Ol} {m : Ma} (h : busy ol m = true) : roundsR ol 0 m = (false,m):=by simp only [roundsR,h];rfl
theorem roundsR_q {ol : Ol} {m : Ma} {a : Int} {q : List Int} (h1 : (choose ol m.s 46).length = 0) (h2 : m.q = a :: q) (n : Nat) : roundsR ol (n + 1) m = roundsR ol n (micro ol { m with q:=q } (choose ol m.s a)):=by
 simp only [roundsR,busy_q h2,if_true];unfold round;rw [h1,h2];rfl
theorem roundsR_c {ol : Ol} {m : Ma} (h1 : (choose ol m.s 46).length ≠ 0) (n : Nat) : roundsR ol (n + 1) m = roundsR ol n (micro ol m (choose ol m.s 46)):=by
 simp only [roundsR,busy_c h1,if_true];unfold round
 have : ((choose ol m.s 46).length == 0) = false:=by rw [beq_eq_false_iff_ne];exact h1
 rw [this];rfl
end Ch
theorem Rf.nmb {l : List NV} {ol : Ch.Ol} (h : Rf l ol) : Ch.NmB ol:=fun k=>by
 by_cases hk : k < l.length
 ·obtain ⟨x,hx⟩ : ∃ x,l[k]? = some x:=⟨_,List.getElem?_eq_getElem hk⟩
  have hnm : Ch.nmAt ol.sts k = x.n.name:=by rw [← h.sts];unfold Ch.sts;rw [Ch.nmAt_rn (by rw [Ch.mk_len];exact hk),Ch.rnAt_mk hx]
  have:=h.nm k x hx;rw [hnm];omega
 unfold Ch.nmAt;rw [List.getElem?_eq_none (by rw [h.len];omega)];simp
section
variable (B B2 xb cb g : Nat) (pv v : Value) (l : List NV) (ol : Ch.Ol)
theorem rRounds_at (hR : Rf l ol) : ∀ (n : Nat) (w : World) (m : Ch.Ma) (N : Nat),NwX w B B2 xb cb g pv v l ol m → Ch.Inv ol m.s → Ch.MOk m N → Ch.QB m → N + 3900000 * n ≤ 880000000 →
 Calls Tryz.prog 203 #[.pointer (some ⟨xb,0,none⟩),.int .i64 n] w fun y w'=>y = .returned (.bool (Ch.roundsR ol n m).1) ∧ NwX w' B B2 xb cb g pv v l ol (Ch.roundsR ol n m).2 ∧ Kp (nS xb g pv) w w':=by
 intro n
 induction n with
 | zero =>
   intro w m N h hI hM hQ hN;obtain ⟨on,hon,hso⟩:=h.on;have E0:=hid (rChoose_any w B xb cb g pv m l v ol 46 on h.nb hon hso hI h.ch hR);have hc16:=Ch.choose_16 hR.ok m.s 46;have c7 : w.cell? ⟨xb,7,none⟩ = some (.string (strOfNums m.q)):=h.nb.cell 7;have HX:=hid h
   cases qb : Ch.busy ol m with
   | false =>
     have hc0 : (Ch.choose ol m.s 46).length = 0:=by unfold Ch.busy at qb;simp at qb;simp [qb.1]
     have hq : m.q = []:=by unfold Ch.busy at qb;simp at qb;exact qb.2
     have HN:=hid (Ch.roundsR_not qb 0);rw [hq] at c7;replace c7 : w.cell? ⟨xb,7,none⟩ = some (.string ⟨#[]⟩):=c7;rw [hc0] at E0;clear h hI hM hQ hon hso hq hc16 hc0 qb
     go_enter Tryz.func203,Tryz.ntmps203
     go_wp2_with fail
     refine hm E0 ?_;rintro y w2 ⟨u,rfl,hu,K2⟩;obtain ⟨ua,uc,rfl⟩:=own_len hu;have d7:=K2.cellF c7;have HX2:=hid (And.intro (HX.out.keep0 K2) K2);clear E0 hu K2 c7 HX;go_wp2;go_ret;rw [HN.out];exact ⟨rfl,HX2.out.1,HX2.out.2.mono (fun _ _ x=>x.elim)⟩
   | true=>?_
   have HN:=hid (Ch.roundsR_zero qb)
   have hor : (Ch.choose ol m.s 46).length ≠ 0 ∨ strOfNums m.q ≠ ⟨#[]⟩:=by
    cases hq : m.q with
    | nil=>left;unfold Ch.busy at qb;rw [hq] at qb;simp at qb;omega
    | cons a q=>right;exact Ch.str_ne a q
   generalize strOfNums m.q = S at *;generalize (Ch.choose ol m.s 46).length = cl at *;have hE0:=E0.out;generalize mvCells ol (Ch.choose ol m.s 46) = mc at *;have E1:=hid hE0;clear h hI hM hQ hon hso qb E0 hE0
   have hcl0 : (cl : Int) ≤ 16:=by omega
   by_cases c : cl = 0
   ·subst c
    have hS : S ≠ ⟨#[]⟩:=by rcases hor with h | h;exact absurd rfl h;exact h
    have hS2 : S.toList.isEmpty = false:=by rw [← decide_eq_emptyBytes];exact decide_eq_false hS
    clear hor hc16
    go_enter Tryz.func203,Tryz.ntmps203
    go_wp2_with fail
    refine hm E1 ?_;rintro y w2 ⟨u,rfl,hu,K2⟩;obtain ⟨ua,uc,rfl⟩:=own_len hu;have d7:=K2.cellF c7;have HX2:=hid (And.intro (HX.out.keep0 K2) K2);clear E1 hu K2 c7 HX;go_wp2;go_ret;rw [HN.out];exact ⟨rfl,HX2.out.1,HX2.out.2.mono (fun _ _ x=>x.elim)⟩
   have c' : ((cl : Int) == 0) = false:=by rw [beq_eq_false_iff_ne];omega
   clear hor
   go_enter Tryz.func203,Tryz.ntmps203
   go_wp2_with fail
   refine hm E1 ?_;rintro y w2 ⟨u,rfl,hu,K2⟩;obtain ⟨ua,uc,rfl⟩:=own_len hu;have d7:=K2.cellF c7;have HX2:=hid (And.intro (HX.out.keep0 K2) K2);clear E1 hu K2 c7 HX;go_wp2;go_ret;rw [HN.out];exact ⟨rfl,HX2.out.1,HX2.out.2.mono (fun _ _ x=>x.elim)⟩
 | succ n ih=>?_
 intro w m N h hI hM hQ hN;obtain ⟨on,hon,hso⟩:=h.on;have E0:=hid (rChoose_any w B xb cb g pv m l v ol 46 on h.nb hon hso hI h.ch hR);have hc16:=Ch.choose_16 hR.ok m.s 46;have c7 : w.cell? ⟨xb,7,none⟩ = some (.string (strOfNums m.q)):=h.nb.cell 7
 obtain ⟨nn,hnn⟩ : ∃ x : Int,x = ((n + 1 : Nat) : Int):=⟨_,rfl⟩
 rw [← hnn]
 have hn1 : nn - 1 = n:=by omega
 have hn0 : (nn == 0) = false:=by rw [beq_eq_false_iff_ne];omega
 have hna : 1 ≤ nn:=by omega
 have hnb : nn ≤ 1000:=by omega
 clear hnn
 by_cases hc0 : (Ch.choose ol m.s 46).length = 0
 ·cases hq : m.q with
  | nil =>
    have HN:=hid (Ch.roundsR_not (Ch.busy_not hc0 hq) (n + 1));rw [hq] at c7;replace c7 : w.cell? ⟨xb,7,none⟩ = some (.string ⟨#[]⟩):=c7;have HX:=hid h;rw [hc0] at E0;clear h hI hM hQ hon hso hq hc16 ih hc0
    go_enter Tryz.func203,Tryz.ntmps203
    go_wp2_with fail
    refine hm E0 ?_;rintro y w2 ⟨u,rfl,hu,K2⟩;obtain ⟨ua,uc,rfl⟩:=own_len hu;have d7:=K2.cellF c7;have HX2:=hid (And.intro (HX.out.keep0 K2) K2);clear E0 hu K2 c7 HX;go_wp2;go_ret;rw [HN.out];exact ⟨rfl,HX2.out.1,HX2.out.2.mono (fun _ _ x=>x.elim)⟩
  | cons a q =>
    have hab:=hQ a (by rw [hq];simp);have hc16a:=Ch.choose_16 hR.ok m.s a;have HN:=hid (Ch.roundsR_q hc0 hq n)
    have hM' : Ch.MOk { m with q:=q } N:=⟨hM.ok,hM.tm,⟨by have:=hM.sz.1;rw [hq] at this;show q.length ≤ N;simp at this;omega,hM.sz.2⟩⟩
    have hQ' : Ch.QB { m with q:=q }:=fun x hx=>hQ x (by rw [hq];exact List.mem_cons_of_mem _ hx)
    have hI' : Ch.Inv ol ({ m with q:=q } : Ch.Ma).s:=hI;have hck:=Ch.choose_ok hR.ols hI' a;have hin:=(Ch.choose_in ol m.s a).1;have HMN:=hid (And.intro (hM'.micro hR.ok hR.aca hc16a) (And.intro (hQ'.micro hR.nmb hR.aca (Ch.choose ol m.s a)) (Ch.micro_inv hR.ols hI' a)));rw [hq] at c7
    have hS1 : 0 < (strOfNums (a :: q)).size:=by rw [strOfNums_size];simp
    have hS3 : (strOfNums (a :: q)).size ≤ 880000001:=by
     have:=hM.sz.1;rw [hq] at this;rw [strOfNums_size];omega
    have hS2 : (strOfNums (a :: q)).toList.isEmpty = false:=by rw [← decide_eq_emptyBytes];exact decide_eq_false (Ch.str_ne a q)
    have hpk : (((strOfNums (a :: q))[0]'hS1).toNat : Int) = a:=by
     have:=Ch.str_cons (q:=q) hab.1 hab.2;unfold Ch.peek at this;rw [dif_pos hS1] at this;exact this
    have htl:=Ch.str_tail a q;have HX:=hid (And.intro h (And.intro hM' hI'));have HCK:=hid (And.intro hck hin);have HIH:=hid ih;rw [hc0] at E0;generalize strOfNums (a :: q) = S at *
    have hS1' : (0 : Int) < (S.size : Int):=by omega
    have hS1'' : (1 : Int) ≤ (S.size : Int):=by omega
    have HTL:=hid htl;have HPK:=hid hpk;have HNN:=hid hN;have HN1:=hid hn1;clear h hI hM hQ hon hso hq hc16 ih hc0 hM' hQ' hI' hck hin htl hpk hN hn1 hab
    go_enter Tryz.func203,Tryz.ntmps203
    go_wp2_with fail
    refine hm E0 ?_;rintro y w2 ⟨u,rfl,hu,K2⟩;obtain ⟨ua,uc,rfl⟩:=own_len hu;have d7:=K2.cellF c7;have hX2:=HX.out.1.keep0 K2;have f7:=hX2.nb.free 7;have K3 : Kp (fun k=>k = xb) w2 (w2.setCell ⟨xb,7,none⟩ (.string (strOfNums q))):=(Kp.refl _ _).setCell (by intro _;rfl) _;have hX3 : NwX (w2.setCell ⟨xb,7,none⟩ (.string (strOfNums q))) B B2 xb cb g pv v l ol { m with q:=q }:=hX2.acts K3 (hX2.nb.setQ q) (Ch.SameAP.refl _);have HX3:=hid (And.intro hX3 ((K2.mono (S':=nS xb g pv) (fun _ _ x=>x.elim)).trans' K3 (fun _ _ e=>.inl e)));clear E0 hu K2 c7 hX2 hX3 K3
    go_wp2_with fail
    rw [HTL.out,HPK.out];generalize w2.setCell ⟨xb,7,none⟩ (.string (strOfNums q)) = w3 at *;obtain ⟨on3,hon3,hso3⟩:=HX3.out.1.on;have E1:=hid (rChoose_any w3 B xb cb g pv _ l v ol a on3 HX3.out.1.nb hon3 hso3 HX.out.2.2 HX3.out.1.ch hR);clear hon3 hso3 d7 f7;replace E1 : Hid (Calls Tryz.prog 205 #[.pointer (some ⟨xb,0,none⟩),.int .u8 a] w3 fun y w'=>∃ u,y = .returned u ∧ w'.ownsRow w3.heap.size 301 2 u (Ch.choose ol m.s a).length (mvCells ol (Ch.choose ol m.s a)) ∧ Kp (fun _=>False) w3 w'):=E1;generalize Ch.choose ol m.s a = cs at *;refine hm E1 ?_;rintro y w4 ⟨u4,rfl,hu4,K4⟩;obtain ⟨ua4,uc4,rfl⟩:=own_len hu4;have hX4:=HX3.out.1.keep0 K4;have E2:=hid (rMicro_any w4 B B2 xb cb g pv v l ol _ N _ cs _ hX4 hR HX.out.2.2 HX.out.2.1 (by have:=HNN.out;omega) hc16a HCK.out.2 HCK.out.1.2 HCK.out.1.1 hu4);have HK4:=hid (HX3.out.2.trans' K4 (fun _ _ x=>x.elim));clear E1 hu4 K4 HX hX4 HX3
    go_wp2_with fail
    refine hm E2 ?_;rintro y w5 ⟨rfl,X5,K5⟩;have E3:=hid (HIH.out w5 _ _ X5 HMN.out.2.2 HMN.out.1 HMN.out.2.1 (by have:=HNN.out;omega));have HK5:=hid (HK4.out.trans K5);clear E2 X5 K5 HK4 HIH;rw [← HN.out] at E3
    go_wp2_with fail
    rw [HN1.out];refine hm E3 ?_;rintro y w6 ⟨rfl,X6,K6⟩;have HX6:=hid (And.intro X6 (HK5.out.trans K6));clear E3 X6 K6 HK5;go_wp2;go_ret;exact ⟨rfl,HX6.out.1,HX6.out.2⟩
 have hc0' : (((Ch.choose ol m.s 46).length : Int) == 0) = false:=by rw [beq_eq_false_iff_ne];omega
 have HN:=hid (Ch.roundsR_c hc0 n);have hck:=Ch.choose_ok hR.ols hI 46;have hin:=(Ch.choose_in ol m.s 46).1;have HMN:=hid (And.intro (hM.micro hR.ok hR.aca hc16) (And.intro (hQ.micro hR.nmb hR.aca (Ch.choose ol m.s 46)) (Ch.micro_inv hR.ols hI 46)));have HH:=hid (And.intro h (And.intro hI hM));have HCK:=hid (And.intro hck hin);have HIH:=hid ih;generalize Ch.choose ol m.s 46 = cs at *;generalize strOfNums m.q = S at c7;have HNN:=hid hN;have HN1:=hid hn1;clear hN hn1;clear h hI hM hQ hon hso ih hck hin hc0
 go_enter Tryz.func203,Tryz.ntmps203
 go_wp2_with fail
 refine hm E0 ?_;rintro y w2 ⟨u,rfl,hu,K2⟩;obtain ⟨ua,uc,rfl⟩:=own_len hu;have d7:=K2.cellF c7;have hX2:=HH.out.1.keep0 K2;have E1:=hid (rMicro_any w2 B B2 xb cb g pv v l ol m N _ cs _ hX2 hR HH.out.2.1 HH.out.2.2 (by have:=HNN.out;omega) hc16 HCK.out.2 HCK.out.1.2 HCK.out.1.1 hu);have HK2:=hid K2;clear E0 hu K2 c7 HH hX2
 go_wp2_with fail
 refine hm E1 ?_;rintro y w3 ⟨rfl,X3,K3⟩;have E2:=hid (HIH.out w3 _ _ X3 HMN.out.2.2 HMN.out.1 HMN.out.2.1 (by have:=HNN.out;omega));have HK3:=hid ((HK2.out.mono (S':=nS xb g pv) (fun _ _ x=>x.elim)).trans K3);clear E1 X3 K3 d7 HK2 HIH;rw [← HN.out] at E2
 go_wp2_with fail
 rw [HN1.out];refine hm E2 ?_;rintro y w4 ⟨rfl,X4,K4⟩;have HX4:=hid (And.intro X4 (HK3.out.trans K4));clear E2 X4 K4 HK3;go_wp2;go_ret;exact ⟨rfl,HX4.out.1,HX4.out.2⟩
end
end Go.Proofs.YtnlbchmfcebeeaaGreat
