import Derived.Test.YtnlbchmfcebeeaaGreatTX2
import Derived.Test.YtnlbchmfcebeeaaGreatTB6
import Derived.ArgAppend
set_option maxHeartbeats 12800000
set_option maxRecDepth 100000
namespace Go.Proofs.YtnlbchmfcebeeaaGreat
open Go.RowKit
structure NV where
 n : Ch.RN
 ev : Value
 lv : Value
 tv : Value
def nvRow (x : NV) : List Value:=[.int .u8 x.n.name,.int .i64 x.n.kind,.int .i64 x.n.parent,.int .i64 x.n.pos,x.ev,x.lv,x.tv]
def nvCells (l : List NV) : List Value:=l.flatMap nvRow
def sCells (l : List ByteArray) : List Value:=l.map .string
def rtCells (l : List Ch.RT) : List Value:=l.flatMap fun x=>[.string x.text,.int .i64 x.pos]
theorem nvCells_snoc (l : List NV) (x : NV) : nvCells (l ++ [x]) = nvCells l ++ nvRow x:=by simp [nvCells]
theorem Apart.symm {v u : Value} (h : Apart v u) : Apart u v:=fun k hk x=>h k x hk
theorem apart_none (u : Value) : Apart (.slice none 0 0) u:=fun k hk=>by simp [Value.ownBlock] at hk
structure NdF (w : World) (B : Nat) (l : List NV) (v : Value) : Prop where
 row : w.ownsRow B 223 7 v l.length (nvCells l)
 ent : ∀ x ∈ l,w.ownsRow B 9 1 x.ev x.n.enter.length (sCells x.n.enter)
 lea : ∀ x ∈ l,w.ownsRow B 9 1 x.lv x.n.leave.length (sCells x.n.leave)
 tra : ∀ x ∈ l,w.ownsRow B 292 2 x.tv x.n.trans.length (rtCells x.n.trans)
 aE : ∀ (i j : Nat) (x y : NV),i ≠ j → l[i]? = some x → l[j]? = some y → Apart x.ev y.ev
 aL : ∀ (i j : Nat) (x y : NV),i ≠ j → l[i]? = some x → l[j]? = some y → Apart x.lv y.lv
 aX : ∀ (i j : Nat) (x y : NV),l[i]? = some x → l[j]? = some y → Apart x.ev y.lv
 aT : ∀ (i j : Nat) (x y : NV),i ≠ j → l[i]? = some x → l[j]? = some y → Apart x.tv y.tv
theorem NdF.keep {S : Nat → Prop} {w w' : World} {B : Nat} {l : List NV} {v : Value} (h : NdF w B l v) (k : Kp S w w')
 (hS : ∀ i cur T,w.heap[i]? = some (.cells cur T (0,0)) → B ≤ i → T = 223 ∨ T = 9 ∨ T = 292 → ¬ S i) : NdF w' B l v:=by
 have own : ∀ {e size v n xs},w.ownsRow B e size v n xs → e = 223 ∨ e = 9 ∨ e = 292 → w'.ownsRow B e size v n xs:=by
  intro e size v n xs ho he;refine k.owns ho (fun i hi=>?_);obtain ⟨cur,hc⟩:=own_block ho hi;exact hS i cur e hc (ho.lt i hi).1 he
 exact ⟨own h.row (.inl rfl),fun x hx=>own (h.ent x hx) (.inr (.inl rfl)),fun x hx=>own (h.lea x hx) (.inr (.inl rfl)),fun x hx=>own (h.tra x hx) (.inr (.inr rfl)),h.aE,h.aL,h.aX,h.aT⟩
theorem NdF.keep0 {w w' : World} {B : Nat} {l : List NV} {v : Value} (h : NdF w B l v) (k : Kp (fun _=>False) w w') : NdF w' B l v:=h.keep k (fun _ _ _ _ _ _ x=>x)
theorem NdF.len {w : World} {B : Nat} {l : List NV} {v : Value} (h : NdF w B l v) : ∃ ao cap,v = .slice ao l.length cap:=own_len h.row
theorem NdF.kpSet (w : World) (g o : Nat) (u : Value) : Kp (fun i=>i = g) w (w.setCell ⟨g,o,none⟩ u):=(Kp.refl _ _).setCell (by intro _;rfl) _
theorem mem_set_or {l : List NV} {k : Nat} {y z : NV} (h : z ∈ l.set k y) : z ∈ l ∨ z = y:=by
 rcases List.mem_or_eq_of_mem_set h with h | h
 ·exact .inl h
 exact .inr h
theorem NdF.push {w w' : World} {B : Nat} {l : List NV} {v v' : Value} (h : NdF w B l v) (hg : w.grownBy w' v.ownBlock) {n : Ch.RN} (hn : n.enter = [] ∧ n.leave = [] ∧ n.trans = [])
 (ho : w'.ownsRow B 223 7 v' (l.length + 1) (nvCells l ++ nvRow ⟨n,.slice none 0 0,.slice none 0 0,.slice none 0 0⟩)) :
 NdF w' B (l ++ [⟨n,.slice none 0 0,.slice none 0 0,.slice none 0 0⟩]) v':=by
 have K : Kp (fun i=>v.ownBlock = some i) w w':=(Kp.refl _ _).grown hg (fun i hi _=>hi)
 have ng : ∀ {e size u n xs},w.ownsRow B e size u n xs → e ≠ 223 → ∀ i,u.ownBlock = some i → ¬ v.ownBlock = some i :=
  fun ho he i hi=>own_apart ho h.row he i hi
 have get : ∀ (i : Nat) (z : NV),(l ++ [⟨n,.slice none 0 0,.slice none 0 0,.slice none 0 0⟩])[i]? = some z → l[i]? = some z ∨ (z.ev = .slice none 0 0 ∧ z.lv = .slice none 0 0 ∧ z.tv = .slice none 0 0):=by
  intro i z hz
  rcases Nat.lt_or_ge i l.length with hl | hl
  ·rw [List.getElem?_append_left hl] at hz;exact .inl hz
  rw [List.getElem?_append_right hl] at hz
  have : i - l.length = 0:=by
   rcases Nat.eq_zero_or_pos (i - l.length) with e | e
   ·exact e
   rw [List.getElem?_eq_none (by simp;omega)] at hz;simp at hz
  rw [this] at hz;simp at hz;subst hz;exact .inr ⟨rfl,rfl,rfl⟩
 refine ⟨by rw [nvCells_snoc];simpa using ho,?_,?_,?_,?_,?_,?_,?_⟩
 ·intro z hz
  rcases List.mem_append.1 hz with hz | hz
  ·exact K.owns (h.ent z hz) (ng (h.ent z hz) (by decide))
  simp at hz;subst hz;simp only [hn.1];exact World.ownsRow_nil _ _ _ _
 ·intro z hz
  rcases List.mem_append.1 hz with hz | hz
  ·exact K.owns (h.lea z hz) (ng (h.lea z hz) (by decide))
  simp at hz;subst hz;simp only [hn.2.1];exact World.ownsRow_nil _ _ _ _
 ·intro z hz
  rcases List.mem_append.1 hz with hz | hz
  ·exact K.owns (h.tra z hz) (ng (h.tra z hz) (by decide))
  simp at hz;subst hz;simp only [hn.2.2];exact World.ownsRow_nil _ _ _ _
 ·intro i j a b hij ha hb
  rcases get i a ha with ha | ⟨e,_,_⟩
  ·rcases get j b hb with hb | ⟨e,_,_⟩
   ·exact h.aE i j a b hij ha hb
   rw [e];exact (apart_none _).symm
  rw [e];exact apart_none _
 ·intro i j a b hij ha hb
  rcases get i a ha with ha | ⟨_,e,_⟩
  ·rcases get j b hb with hb | ⟨_,e,_⟩
   ·exact h.aL i j a b hij ha hb
   rw [e];exact (apart_none _).symm
  rw [e];exact apart_none _
 ·intro i j a b ha hb
  rcases get i a ha with ha | ⟨e,_,_⟩
  ·rcases get j b hb with hb | ⟨_,e,_⟩
   ·exact h.aX i j a b ha hb
   rw [e];exact (apart_none _).symm
  rw [e];exact apart_none _
 intro i j a b hij ha hb
 rcases get i a ha with ha | ⟨_,_,e⟩
 ·rcases get j b hb with hb | ⟨_,_,e⟩
  ·exact h.aT i j a b hij ha hb
  rw [e];exact (apart_none _).symm
 rw [e];exact apart_none _
def ChF (w : World) (B cb : Nat) (l : List NV) (v : Value) : Prop:=w.heap[cb]? = some (.cells #[v] 219 (0,0)) ∧ NdF w B l v ∧ B ≤ cb
section
variable {w w' : World} {B cb : Nat} {l : List NV} {v : Value}
theorem ChF.cell (h : ChF w B cb l v) : w.cell? ⟨cb,0,none⟩ = some v:=by rw [World.cell?,h.1];rfl
theorem ChF.free (h : ChF w B cb l v) (i : Nat) : w.frozen? ⟨cb,i,none⟩ = false:=by simp [World.frozen?,h.1]
theorem ChF.keep0 (h : ChF w B cb l v) (k : Kp (fun _=>False) w w') : ChF w' B cb l v:=⟨k.at_ h.1 (fun x=>x),h.2.1.keep0 k,h.2.2⟩
theorem ChF.low (h : ChF w B cb l v) : B ≤ w.heap.size:=by have:=lt_of_block h.1;have:=h.2.2;omega
theorem ChF.keepT {S : Nat → Prop} (h : ChF w B cb l v) (k : Kp S w w') (hS : ∀ i cur T,w.heap[i]? = some (.cells cur T (0,0)) → B ≤ i → T = 223 ∨ T = 9 ∨ T = 292 ∨ T = 219 → ¬ S i) : ChF w' B cb l v :=
 ⟨k.at_ h.1 (hS cb _ _ h.1 h.2.2 (.inr (.inr (.inr rfl)))),h.2.1.keep k (fun i cur T hi hb hT=>hS i cur T hi hb (by rcases hT with h | h | h;exact .inl h;exact .inr (.inl h);exact .inr (.inr (.inl h)))),h.2.2⟩
theorem ChF.ne (h : ChF w B cb l v) : v.ownBlock ≠ some cb:=own_ne h.2.1.row h.1 (by decide)
theorem ChF.push {v' : Value} (h : ChF w B cb l v) (hg : w.grownBy w' v.ownBlock) {n : Ch.RN} (hn : n.enter = [] ∧ n.leave = [] ∧ n.trans = [])
 (ho : w'.ownsRow B 223 7 v' (l.length + 1) (nvCells l ++ nvRow ⟨n,.slice none 0 0,.slice none 0 0,.slice none 0 0⟩)) :
 ChF (w'.setCell ⟨cb,0,none⟩ v') B cb (l ++ [⟨n,.slice none 0 0,.slice none 0 0,.slice none 0 0⟩]) v':=by
 have K : Kp (fun i=>v.ownBlock = some i) w w':=(Kp.refl _ _).grown hg (fun i hi _=>hi);have hc : w'.heap[cb]? = some (.cells #[v] 219 (0,0)):=K.at_ h.1 h.ne;refine ⟨by rw [heap_set_same _ hc];rfl,(h.2.1.push hg hn ho).keep (NdF.kpSet w' cb 0 v') (fun i cur T hi _ hT e=>?_),h.2.2⟩;subst e;rw [hc] at hi;simp at hi
 rcases hT with hT | hT | hT <;> rw [hT] at hi <;> exact absurd hi.2 (by decide)
end
namespace Ch
def mk (l : List NV) : List RN:=l.map (·.n)
theorem NRun.close {t : ByteArray} {k : Nat} {up : Int} {L res : List RN} (h : NRun t k up L res) (hk : k < t.size) (ho : (peek t k == 41 || peek t k == 93) = true) :
 ∃ n,nAt L up = some n ∧ NRun t (k + 1) n.parent L res:=by
 have h1 : isOpen (peek t k) = false:=by
  rcases (by simpa using ho : peek t k = 41 ∨ peek t k = 93) with e | e <;> rw [e] <;> decide
 cases h with
 | done h=>omega
 | step _ hst hn=>?_
 unfold nstep at hst;simp only [h1,ho,Bool.false_eq_true,if_false,if_true] at hst
 cases hn' : nAt L up with
 | none=>rw [hn'] at hst;simp at hst
 | some n=>?_
 rw [hn'] at hst;simp only [Option.some.injEq,Prod.mk.injEq] at hst;obtain ⟨rfl,rfl,rfl⟩:=hst;exact ⟨n,rfl,hn⟩
theorem NRun.blk {t : ByteArray} {k : Nat} {up : Int} {L res : List RN} (h : NRun t k up L res) (hk : k < t.size) (ho : (peek t k == 94 || peek t k == 36) = true) :
 ∃ n,nAt L up = some n ∧ k + 1 ≤ until_ t k 59 ∧ NRun t (until_ t k 59 + 1) up (nMod L up fun n=>if peek t k == 94 then { n with enter:=n.enter ++ [t.extract (k + 1) (until_ t k 59)] } else { n with leave:=n.leave ++ [t.extract (k + 1) (until_ t k 59)] }) res:=by
 have h1 : isOpen (peek t k) = false ∧ (peek t k == 41 || peek t k == 93) = false ∧ (peek t k == 58) = false:=by
  rcases (by simpa using ho : peek t k = 94 ∨ peek t k = 36) with e | e <;> rw [e] <;> decide
 cases h with
 | done h=>omega
 | step _ hst hn=>?_
 unfold nstep at hst;simp only [h1.1,h1.2.1,h1.2.2,ho,Bool.false_eq_true,if_false,if_true] at hst
 split at hst
 ·rename_i hc
  simp only [Option.some.injEq,Prod.mk.injEq] at hst;obtain ⟨rfl,rfl,rfl⟩:=hst;obtain ⟨n,hn'⟩:=Option.isSome_iff_exists.1 hc.2;exact ⟨n,hn',hc.1,hn⟩
 simp at hst
end Ch
end Go.Proofs.YtnlbchmfcebeeaaGreat
