import Derived.Test.YtnlbchmfcebeeaaGreatTZb
import Derived.Test.YtnlbchmfcebeeaaGreatTXp
import Derived.Test.YtnlbchmfcebeeaaGreatTC2
import Derived.Test.YtnlbchmfcebeeaaGreatTF2
set_option maxHeartbeats 12800000
set_option maxRecDepth 100000
namespace Go.Proofs.YtnlbchmfcebeeaaGreat
open Go.RowKit
structure NwX (w : World) (B B2 xb cb g : Nat) (pv v : Value) (l : List NV) (ol : Ch.Ol) (m : Ch.Ma) : Prop where
 nb : NwB w xb cb g l.length pv m
 on : ∃ on,OnB w g on ∧ Ch.SameOn l.length on m.s.act
 ps : PsR w B2 ol m.s pv
 ch : ChF w B cb l v
def nS (xb g : Nat) (pv : Value) (k : Nat) : Prop:=k = xb ∨ k = g ∨ pv.ownBlock = some k
section
variable {w w' : World} {B B2 xb cb g : Nat} {pv v : Value} {l : List NV} {ol : Ch.Ol} {m : Ch.Ma}
theorem NwX.xg (h : NwX w B B2 xb cb g pv v l ol m) : xb ≠ g:=fun e=>by
 obtain ⟨on,ho,_⟩:=h.on;have h1:=h.nb;unfold NwB at h1;unfold OnB at ho;rw [e,ho] at h1;simp only [Option.some.injEq,Obj.cells.injEq] at h1;exact absurd h1.2.1 (by decide)
theorem NwX.px (h : NwX w B B2 xb cb g pv v l ol m) : pv.ownBlock ≠ some xb:=OwnP.ne h.ps h.nb (by decide)
theorem NwX.keep0 (h : NwX w B B2 xb cb g pv v l ol m) (k : Kp (fun _=>False) w w') : NwX w' B B2 xb cb g pv v l ol m:=by
 obtain ⟨on,ho,hs⟩:=h.on;exact ⟨h.nb.keep k (fun x=>x),⟨on,k.at_ ho (fun x=>x),hs⟩,OwnP.keep h.ps k (fun _ _ x=>x),h.ch.keep0 k⟩
theorem NwX.chart (h : NwX w B B2 xb cb g pv v l ol m) (k : Kp (nS xb g pv) w w') : ChF w' B cb l v :=
 h.ch.keepT k (fun i cur T hi _ hT e=>by
  obtain ⟨on,ho,_⟩:=h.on
  rcases e with e | e | e
  ·subst e
   have h1:=h.nb;unfold NwB at h1;rw [h1] at hi;simp only [Option.some.injEq,Obj.cells.injEq] at hi
   rcases hT with h | h | h | h <;> rw [h] at hi <;> exact absurd hi.2.1 (by decide)
  ·subst e
   unfold OnB at ho;rw [ho] at hi;simp only [Option.some.injEq,Obj.cells.injEq] at hi
   rcases hT with h | h | h | h <;> rw [h] at hi <;> exact absurd hi.2.1 (by decide)
  rcases hT with h' | h' | h' | h' <;> subst h' <;> exact OwnP.ne h.ps hi (by decide) e)
theorem NwX.acts {m' : Ch.Ma} (h : NwX w B B2 xb cb g pv v l ol m) (k : Kp (fun k=>k = xb) w w') (hn : NwB w' xb cb g l.length pv m') (ha : Ch.SameAP m'.s m.s) : NwX w' B B2 xb cb g pv v l ol m':=by
 obtain ⟨on,ho,hs⟩:=h.on;refine ⟨hn,⟨on,k.at_ ho (fun e=>h.xg e.symm),by rw [ha.1];exact hs⟩,?_,h.chart (k.mono (fun _ _ e=>.inl e))⟩;have : PsR w' B2 ol m.s pv:=OwnP.keep h.ps k (fun j hj e=>h.px (by rw [hj,e]));unfold PsR Ch.pastR at this ⊢
 have hp : Ch.pastAt m'.s = Ch.pastAt m.s:=by funext j;unfold Ch.pastAt;rw [ha.2]
 rw [hp];exact this
theorem NwX.push (h : NwX w B B2 xb cb g pv v l ol m) (c : Int) : NwX (((w.alloc (.cells #[.int .u8 c] 5)).setCell ⟨xb,7,none⟩ (.string (strOfNums m.q ++ strOfNums [c]))).drew) B B2 xb cb g pv v l ol { m with q:=m.q ++ [c] } ∧ Kp (fun k=>k = xb) w (((w.alloc (.cells #[.int .u8 c] 5)).setCell ⟨xb,7,none⟩ (.string (strOfNums m.q ++ strOfNums [c]))).drew):=by
 have K : Kp (fun k=>k = xb) w (((w.alloc (.cells #[.int .u8 c] 5)).setCell ⟨xb,7,none⟩ (.string (strOfNums m.q ++ strOfNums [c]))).drew):=(((Kp.refl _ _).alloc _).setCell (by intro _;rfl) _).drew;refine ⟨h.acts K ?_ (Ch.SameAP.refl _),K⟩;have h1 : NwB (w.alloc (.cells #[.int .u8 c] 5)) xb cb g l.length pv m:=h.nb.keep ((Kp.refl (fun _=>False) _).alloc _) (fun x=>x);have h2:=h1.setQ (m.q ++ [c]);rw [Ch.str_append] at h2;exact h2.keep ((Kp.refl (fun _=>False) _).drew) (fun x=>x)
end
namespace Ch
def doAll (bs : List Bl) (m : Ma) : Ma:=bs.foldl (fun m b=>doActs b.acts m) m
structure MOk (m : Ma) (N : Nat) : Prop where
 ok : m.s.Ok
 tm : TmL 48 m.s
 sz : m.Sz N
theorem MOk.acts {m : Ma} {N : Nat} (h : MOk m N) {acs : List Ac} (hv : ∀ a ∈ acs,AcV a) (hl : acs.length ≤ 240) : MOk (doActs acs m) (N + 480) :=
 ⟨doActs_ok acs h.ok,(keeps_tl (by omega) ⟨[],[],[]⟩).acts acs h.tm hv,doActs_sz h.sz hl⟩
theorem MOk.le {m : Ma} {N M : Nat} (h : MOk m N) (hl : N ≤ M) : MOk m M:=⟨h.ok,h.tm,h.sz.le hl⟩
theorem MOk.all : ∀ (bs : List Bl) {m : Ma} {N : Nat},MOk m N → (∀ b ∈ bs,(∀ a ∈ b.acts,AcV a) ∧ b.acts.length ≤ 240) → MOk (doAll bs m) (N + 480 * bs.length):=by
 intro bs
 induction bs with
 | nil=>intro m N h _;exact h
 | cons b l ih=>?_
 intro m N h hb;have h1:=h.acts (hb b (by simp)).1 (hb b (by simp)).2;have:=ih h1 (fun c hc=>hb c (by simp [hc]));exact this.le (by simp;omega)
theorem MOk.enter {ol : Ol} (hol : ol.Ok) (hA : AcA ol) {m : Ma} {N : Nat} (h : MOk m N) (i : Nat) : MOk (enterSt ol m i) (N + 115202) :=
 ⟨enterSt_ok h.ok i,(keeps_tl (by omega) ol).enterSt hA h.tm i,enterSt_sz hol h.sz i⟩
end Ch
section
variable {w w' : World} {B B2 xb cb g : Nat} {pv v : Value} {l : List NV} {ol : Ch.Ol} {m : Ch.Ma}
theorem Ch.SameOn.put {n i : Nat} {on l : List Bool} (h : Ch.SameOn n on l) (hi : i < n) (hn : n ≤ 16) (b : Bool) : Ch.SameOn n (on.set i b) (Ch.putB l (i : Int) b):=by
 obtain ⟨h1,h2,h3⟩:=h;refine ⟨by simp [h1],by show (l.set i b).length = 16;simp [h2],fun k=>?_⟩;show (on.set i b).getD k false = (l.set i b).getD k false;have:=h3 k;unfold Ch.onAt Ch.bit at this;simp only [List.getD_eq_getElem?_getD,List.getElem?_set] at this ⊢
 by_cases e : i = k
 ·subst e;rw [if_pos rfl,if_pos rfl,if_pos (by omega),if_pos (by omega)]
 rw [if_neg e,if_neg e];exact this
end
namespace Ch
theorem MOk.leave {ol : Ol} (hol : ol.Ok) (hA : AcA ol) {m : Ma} {N : Nat} (h : MOk m N) (left : List Bool) (k : Nat) : MOk (leaveF ol left k m) (N + 115200 * k) :=
 ⟨leaveF_ok _ _ _ h.ok,(keeps_tl (by omega) ol).leaveF hA left k h.tm,leaveF_sz hol left k h.sz⟩
theorem MOk.rem {ol : Ol} {m : Ma} {N : Nat} (h : MOk m N) (left : List Bool) : MOk { m with s:=Ch.rem ol.sts m.s left } N:=⟨rem_ok _ h.ok,h.tm,h.sz⟩
end Ch
theorem NwX.rowS {w : World} {B B2 xb cb g : Nat} {pv v : Value} {l : List NV} {ol : Ch.Ol} {m : Ch.Ma} (h : NwX w B B2 xb cb g pv v l ol m) {base : Nat} {T : TypeId} {sz : Nat} {u : Value} {n : Nat} {xs : List Value} (hu : w.ownsRow base T sz u n xs) (h1 : T ≠ 274) (h2 : T ≠ 4) (h3 : T ≠ 5) : ∀ k,u.ownBlock = some k → ¬ nS xb g pv k:=fun k hk e=>by
 obtain ⟨on,ho,_⟩:=h.on
 rcases e with e | e | e
 ·exact own_ne hu h.nb h1 (by rw [hk,e])
 ·exact own_ne hu ho h2 (by rw [hk,e])
 exact OwnP.apart h.ps hu h3 k hk e
namespace Ch
def QB (m : Ma) : Prop:=∀ a ∈ m.q,0 ≤ a ∧ a < 256
theorem QB.push {m : Ma} (h : QB m) {c : Int} (h0 : 0 ≤ c) (h1 : c < 256) : QB { m with q:=m.q ++ [c] }:=by
 intro a ha
 rcases List.mem_append.1 ha with ha | ha
 ·exact h a ha
 obtain rfl : a = c:=by simpa using ha
 exact ⟨h0,h1⟩
theorem QB.act {m : Ma} (h : QB m) {a : Ac} (ha : AcV a) : QB (doAct m a).2:=by
 unfold doAct
 split
 ·exact h.push (by have:=ha.byte;omega) (by have:=ha.byte;omega)
 split
 ·exact h
 split
 ·exact h
 split
 ·exact h
 exact h
theorem QB.acts : ∀ (l : List Ac) {m : Ma},QB m → (∀ a ∈ l,AcV a) → QB (doActs l m):=by
 intro l
 induction l with
 | nil=>intro m hp _;exact hp
 | cons a l ih=>?_
 intro m hp ha;simp only [doActs];have h1:=hp.act (ha a (by simp))
 split
 ·exact ih h1 (fun b hb=>ha b (by simp [hb]))
 exact h1.push (by omega) (by omega)
theorem QB.bls {k : Nat} {sg : Int} (hsg : sg = 94 ∨ sg = 36) : ∀ (l : List Bl) {m : Ma},(∀ b ∈ l,∀ k : Nat,∀ sg : Int,b.state = k → b.sign = sg → (sg = 94 ∨ sg = 36) → ∀ a ∈ b.acts,AcV a) → QB m → QB (doBls k sg l m):=by
 intro l
 induction l with
 | nil=>intro m _ hp;exact hp
 | cons b l ih=>?_
 intro m hA hp;simp only [doBls];refine ih (fun b hb=>hA b (by simp [hb])) ?_
 split
 ·rename_i c
  simp only [Bool.and_eq_true,beq_iff_eq] at c;exact hp.acts _ (hA b (by simp) k sg c.1 c.2 hsg)
 exact hp
def NmB (ol : Ol) : Prop:=∀ k,0 ≤ nmAt ol.sts k ∧ nmAt ol.sts k < 256
theorem QB.enterSt {ol : Ol} (hn : NmB ol) (hA : AcA ol) {m : Ma} (hp : QB m) (k : Nat) : QB (enterSt ol m k):=by
 have h1 : QB (doBls k 94 ol.bls (setAct m k true)):=QB.bls (k:=k) (.inl rfl) ol.bls hA.bl hp;unfold Ch.enterSt
 split
 ·unfold tellEnd
  split
  ·exact h1
  split
  ·exact (h1.push (hn _).1 (hn _).2).push (hn _).1 (hn _).2
  exact h1.push (hn _).1 (hn _).2
 exact h1
theorem QB.enterF {ol : Ol} (hn : NmB ol) (hA : AcA ol) (st : List Bool) (gl : List Int) : ∀ (f k : Nat) {m : Ma},QB m → QB (enterF ol st gl f k m):=by
 intro f
 induction f with
 | zero=>intro k m hp;exact hp
 | succ f ih=>?_
 intro k m hp;simp only [Ch.enterF];refine ih _ ?_
 split
 ·exact hp.enterSt hn hA k
 exact hp
theorem QB.leaveF {ol : Ol} (hA : AcA ol) (left : List Bool) : ∀ (k : Nat) {m : Ma},QB m → QB (leaveF ol left k m):=by
 intro k
 induction k with
 | zero=>intro m hp;exact hp
 | succ k ih=>?_
 intro m hp;simp only [Ch.leaveF];refine ih ?_
 split
 ·exact (QB.bls (k:=k) (.inr rfl) ol.bls hA.bl hp : QB (doBls k 36 ol.bls m))
 exact hp
theorem QB.doTrs {ol : Ol} (hA : AcA ol) : ∀ (l : List Int) {m : Ma},QB m → QB (doTrs ol l m):=by
 intro l
 induction l with
 | nil=>intro m hp;exact hp
 | cons x l ih=>?_
 intro m hp;simp only [Ch.doTrs];refine ih (hp.acts _ ?_);unfold actsOf
 split
 ·rename_i y hy;exact hA.tr y (List.mem_of_getElem? hy)
 simp
theorem QB.micro {ol : Ol} (hn : NmB ol) (hA : AcA ol) {m : Ma} (hp : QB m) (l : List Int) : QB (micro ol m l) :=
 QB.enterF hn hA _ _ _ _ (QB.doTrs hA l (QB.leaveF hA _ _ (m:={ m with s:=Ch.rem ol.sts m.s (leftAll ol m.s l) }) hp))
theorem MOk.micro {ol : Ol} (hol : ol.Ok) (hA : AcA ol) {m : Ma} {N : Nat} (h : MOk m N) {l : List Int} (hl : l.length ≤ 16) : MOk (micro ol m l) (N + 3900000) :=
 ⟨micro_ok h.ok l,(keeps_tl (by omega) ol).micro hA h.tm l,micro_sz hol h.sz hl⟩
end Ch
theorem Rf.nmb {l : List NV} {ol : Ch.Ol} (h : Rf l ol) : Ch.NmB ol:=fun k=>by
 by_cases hk : k < l.length
 ·obtain ⟨x,hx⟩ : ∃ x,l[k]? = some x:=⟨_,List.getElem?_eq_getElem hk⟩
  have hnm : Ch.nmAt ol.sts k = x.n.name:=by rw [← h.sts];unfold Ch.sts;rw [Ch.nmAt_rn (by rw [Ch.mk_len];exact hk),Ch.rnAt_mk hx]
  have:=h.nm k x hx;rw [hnm];omega
 unfold Ch.nmAt;rw [List.getElem?_eq_none (by rw [h.len];omega)];simp
namespace Ch
def m0 (ol : Ol) : Ma:=⟨blankSd ol.sts,[],[]⟩
end Ch
end Go.Proofs.YtnlbchmfcebeeaaGreat
