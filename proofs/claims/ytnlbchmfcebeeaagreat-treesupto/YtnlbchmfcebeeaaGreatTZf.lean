import Derived.Test.YtnlbchmfcebeeaaGreatTXw
import Derived.Test.YtnlbchmfcebeeaaGreatTXp
import Derived.Test.YtnlbchmfcebeeaaGreatTZb
import Derived.Test.YtnlbchmfcebeeaaGreatTXr
set_option maxHeartbeats 12800000
set_option maxRecDepth 100000
namespace Go.Proofs.YtnlbchmfcebeeaaGreat
open Go.RowKit
structure NwX (w : World) (B B2 xb cb g : Nat) (pv v : Value) (l : List NV) (ol : Ch.Ol) (m : Ch.Ma) : Prop where
 nb : NwB w xb cb g l.length pv m
 on : ∃ on,OnB w g on ∧ Ch.SameOn l.length on m.s.act
 ps : PsR w B2 ol m.s pv
 ch : ChF w B cb l v
def nS (xb g : Nat) (pv : Value) (k : Nat) : Prop:=k = xb ∨ k = g ∨ pv.ownBlock = some k
section
variable {w w' : World} {B B2 xb cb g : Nat} {pv v : Value} {l : List NV} {ol : Ch.Ol} {m : Ch.Ma}
theorem NwX.xg (h : NwX w B B2 xb cb g pv v l ol m) : xb ≠ g:=fun e=>by
 obtain ⟨on,ho,_⟩:=h.on;have h1:=h.nb;unfold NwB at h1;unfold OnB at ho;rw [e,ho] at h1;simp only [Option.some.injEq,Obj.cells.injEq] at h1;exact absurd h1.2.1 (by decide)
theorem NwX.px (h : NwX w B B2 xb cb g pv v l ol m) : pv.ownBlock ≠ some xb:=OwnP.ne h.ps h.nb (by decide)
theorem NwX.keep0 (h : NwX w B B2 xb cb g pv v l ol m) (k : Kp (fun _=>False) w w') : NwX w' B B2 xb cb g pv v l ol m:=by
 obtain ⟨on,ho,hs⟩:=h.on;exact ⟨h.nb.keep k (fun x=>x),⟨on,k.at_ ho (fun x=>x),hs⟩,OwnP.keep h.ps k (fun _ _ x=>x),h.ch.keep0 k⟩
theorem NwX.chart (h : NwX w B B2 xb cb g pv v l ol m) (k : Kp (nS xb g pv) w w') : ChF w' B cb l v :=
 h.ch.keepT k (fun i cur T hi _ hT e=>by
  obtain ⟨on,ho,_⟩:=h.on
  rcases e with e | e | e
  ·subst e
   have h1:=h.nb;unfold NwB at h1;rw [h1] at hi;simp only [Option.some.injEq,Obj.cells.injEq] at hi
   rcases hT with h | h | h | h <;> rw [h] at hi <;> exact absurd hi.2.1 (by decide)
  ·subst e
   unfold OnB at ho;rw [ho] at hi;simp only [Option.some.injEq,Obj.cells.injEq] at hi
   rcases hT with h | h | h | h <;> rw [h] at hi <;> exact absurd hi.2.1 (by decide)
  rcases hT with h' | h' | h' | h' <;> subst h' <;> exact OwnP.ne h.ps hi (by decide) e)
theorem NwX.acts {m' : Ch.Ma} (h : NwX w B B2 xb cb g pv v l ol m) (k : Kp (fun k=>k = xb) w w') (hn : NwB w' xb cb g l.length pv m') (ha : Ch.SameAP m'.s m.s) : NwX w' B B2 xb cb g pv v l ol m':=by
 obtain ⟨on,ho,hs⟩:=h.on;refine ⟨hn,⟨on,k.at_ ho (fun e=>h.xg e.symm),by rw [ha.1];exact hs⟩,?_,h.chart (k.mono (fun _ _ e=>.inl e))⟩;have : PsR w' B2 ol m.s pv:=OwnP.keep h.ps k (fun j hj e=>h.px (by rw [hj,e]));unfold PsR Ch.pastR at this ⊢
 have hp : Ch.pastAt m'.s = Ch.pastAt m.s:=by funext j;unfold Ch.pastAt;rw [ha.2]
 rw [hp];exact this
theorem NwX.push (h : NwX w B B2 xb cb g pv v l ol m) (c : Int) : NwX (((w.alloc (.cells #[.int .u8 c] 5)).setCell ⟨xb,7,none⟩ (.string (strOfNums m.q ++ strOfNums [c]))).drew) B B2 xb cb g pv v l ol { m with q:=m.q ++ [c] } ∧ Kp (fun k=>k = xb) w (((w.alloc (.cells #[.int .u8 c] 5)).setCell ⟨xb,7,none⟩ (.string (strOfNums m.q ++ strOfNums [c]))).drew):=by
 have K : Kp (fun k=>k = xb) w (((w.alloc (.cells #[.int .u8 c] 5)).setCell ⟨xb,7,none⟩ (.string (strOfNums m.q ++ strOfNums [c]))).drew):=(((Kp.refl _ _).alloc _).setCell (by intro _;rfl) _).drew;refine ⟨h.acts K ?_ (Ch.SameAP.refl _),K⟩;have h1 : NwB (w.alloc (.cells #[.int .u8 c] 5)) xb cb g l.length pv m:=h.nb.keep ((Kp.refl (fun _=>False) _).alloc _) (fun x=>x);have h2:=h1.setQ (m.q ++ [c]);rw [Ch.str_append] at h2;exact h2.keep ((Kp.refl (fun _=>False) _).drew) (fun x=>x)
end
namespace Ch
def doAll (bs : List Bl) (m : Ma) : Ma:=bs.foldl (fun m b=>doActs b.acts m) m
structure MOk (m : Ma) (N : Nat) : Prop where
 ok : m.s.Ok
 tm : TmL 48 m.s
 sz : m.Sz N
theorem MOk.acts {m : Ma} {N : Nat} (h : MOk m N) {acs : List Ac} (hv : ∀ a ∈ acs,AcV a) (hl : acs.length ≤ 240) : MOk (doActs acs m) (N + 480) :=
 ⟨doActs_ok acs h.ok,(keeps_tl (by omega) ⟨[],[],[]⟩).acts acs h.tm hv,doActs_sz h.sz hl⟩
theorem MOk.le {m : Ma} {N M : Nat} (h : MOk m N) (hl : N ≤ M) : MOk m M:=⟨h.ok,h.tm,h.sz.le hl⟩
theorem MOk.all : ∀ (bs : List Bl) {m : Ma} {N : Nat},MOk m N → (∀ b ∈ bs,(∀ a ∈ b.acts,AcV a) ∧ b.acts.length ≤ 240) → MOk (doAll bs m) (N + 480 * bs.length):=by
 intro bs
 induction bs with
 | nil=>intro m N h _;exact h
 | cons b l ih=>?_
 intro m N h hb;have h1:=h.acts (hb b (by simp)).1 (hb b (by simp)).2;have:=ih h1 (fun c hc=>hb c (by simp [hc]));exact this.le (by simp;omega)
theorem MOk.enter {ol : Ol} (hol : ol.Ok) (hA : AcA ol) {m : Ma} {N : Nat} (h : MOk m N) (i : Nat) : MOk (enterSt ol m i) (N + 115202) :=
 ⟨enterSt_ok h.ok i,(keeps_tl (by omega) ol).enterSt hA h.tm i,enterSt_sz hol h.sz i⟩
end Ch
end Go.Proofs.YtnlbchmfcebeeaaGreat
