import Derived.Test.YtnlbchmfcebeeaaGreatTX2
import Derived.Test.YtnlbchmfcebeeaaGreatTB6
import Derived.ArgAppend
set_option maxHeartbeats 12800000
set_option maxRecDepth 100000
namespace Go.Proofs.YtnlbchmfcebeeaaGreat
open Go.RowKit
theorem run_append_where {P : Program} (w : World) (base : Nat) (t ty e : TypeId) (i : TypeInfo) (z : Value) (size bytes : Nat) (ht : P.underlying t = some (.slice e)) (hi : P.info? e = some i) (hz : i.zero = some z)
 (hsize : i.size = size) (hby : i.bytes = bytes) (hzs : z.cells.size = size) (hsz : 0 < size)
 (v : Value) (n : Nat) (xs : List Value) (hown : w.ownsRow base e size v n xs)
 (a : Addr) (m c : Nat) (news : List Value) (hl : news.length = m * size) (hnews : ∀ j u,news[j]? = some u → w.cell? (a.add j) = some u) (h1 : ∀ u ∈ news,u.oneCell' = true) (hm : 0 < m)
 (h63 : n + m ≤ maxLen) (hbytes : (n + m) * bytes ≤ 140737488355328) (hbase : base ≤ w.heap.size) :
 ∃ g cap w',(Builtin.append_ #[t,t] ty #[v,.slice (some a) m c]).run P w = .ok (.slice (some ⟨g,0,none⟩) (n + m) cap) w' ∧ w'.ownsRow base e size (.slice (some ⟨g,0,none⟩) (n + m) cap) (n + m) (xs ++ news) ∧ w.grownBy w' v.ownBlock ∧
  (v.ownBlock = some g ∨ w.heap.size ≤ g):=by
 obtain ⟨v',w',hr,ho,hg,_⟩:=run_append_own (P:=P) w base t ty e i z size bytes ht hi hz hsize hby hzs hsz v n xs hown a m c news hl hnews h1 h63 hbytes hbase;obtain ⟨g,cap,rfl⟩:=own_form ho (by omega);refine ⟨g,cap,w',hr,ho,hg,?_⟩
 rcases hown.2 with ⟨rfl,rfl⟩ | ⟨g0,cap0,cur,rfl,hbg,hg0,hnc,hcm,hcs,htake⟩
 ·have hx : xs = []:=List.eq_nil_of_length_eq_zero (by simpa using hown.1)
  subst hx;obtain ⟨v2,w2,hr2,ho2,_,_⟩:=run_append_own (P:=P) w w.heap.size t ty e i z size bytes ht hi hz hsize hby hzs hsz _ 0 [] (World.ownsRow_nil w w.heap.size e size) a m c news hl hnews h1 h63 hbytes (Nat.le_refl _);rw [hr] at hr2;simp only [Result.ok.injEq] at hr2;obtain ⟨rfl,rfl⟩:=hr2;exact .inr (ho2.lt g rfl).1
 by_cases hroom : n + m ≤ cap0
 ·subst hsize
  have hr2:=run_append_room (P:=P) w t ty e i ht hi g0 n cap0 cur hg0 a m c news hl hnews h1 hroom (by rw [hl,hcs,← Nat.add_mul];exact Nat.mul_le_mul_right _ hroom);rw [hr] at hr2;simp only [Result.ok.injEq,Value.slice.injEq,Option.some.injEq,Addr.mk.injEq,and_true,true_and] at hr2
  left
  simp [Value.ownBlock,hr2.1.1]
 obtain ⟨v2,w2,hr2,ho2,_⟩:=run_append_arg_grows (P:=P) w t ty e i z size bytes ht hi hz hsize hby hzs hsz ⟨g0,0,none⟩ n cap0 xs hown.1 (hown.cells (g:=g0) rfl) a m c news hl hnews (by omega) h63 hbytes;rw [hr] at hr2;simp only [Result.ok.injEq] at hr2;obtain ⟨rfl,rfl⟩:=hr2;exact .inr (ho2.lt g rfl).1
structure NV where
 n : Ch.RN
 ev : Value
 lv : Value
 tv : Value
def nvRow (x : NV) : List Value:=[.int .u8 x.n.name,.int .i64 x.n.kind,.int .i64 x.n.parent,.int .i64 x.n.pos,x.ev,x.lv,x.tv]
def nvCells (l : List NV) : List Value:=l.flatMap nvRow
def sCells (l : List ByteArray) : List Value:=l.map .string
def rtCells (l : List Ch.RT) : List Value:=l.flatMap fun x=>[.string x.text,.int .i64 x.pos]
theorem nvCells_snoc (l : List NV) (x : NV) : nvCells (l ++ [x]) = nvCells l ++ nvRow x:=by simp [nvCells]
theorem rtCells_snoc (l : List Ch.RT) (x : Ch.RT) : rtCells (l ++ [x]) = rtCells l ++ [.string x.text,.int .i64 x.pos]:=by simp [rtCells]
theorem sCells_snoc (l : List ByteArray) (x : ByteArray) : sCells (l ++ [x]) = sCells l ++ [.string x]:=by simp [sCells]
theorem nvCells_at (l : List NV) (k : Nat) (x : NV) (h : l[k]? = some x) (j : Nat) (hj : j < 7) : (nvCells l)[k * 7 + j]? = (nvRow x)[j]?:=by
 induction l generalizing k with
 | nil=>simp at h
 | cons a l ih=>?_
 have e : nvCells (a :: l) = nvRow a ++ nvCells l:=by simp [nvCells]
 have hn : (nvRow a).length = 7:=rfl;rw [e]
 cases k with
 | zero=>simp at h;subst h;rw [List.getElem?_append_left (by omega)];simp
 | succ k=>?_
 rw [List.getElem?_append_right (by omega),← ih k (by simpa using h)]
 congr 1;omega
theorem nvCells_set (l : List NV) (k : Nat) (x y : NV) (h : l[k]? = some x) (j : Nat) (hj : j < 7) (u : Value) (hy : nvRow y = (nvRow x).set j u) : (nvCells l).set (k * 7 + j) u = nvCells (l.set k y):=by
 induction l generalizing k with
 | nil=>simp at h
 | cons a l ih=>?_
 have e : ∀ a l,nvCells (a :: l) = nvRow a ++ nvCells l:=by intro a l;simp [nvCells]
 have hn : (nvRow a).length = 7:=rfl
 cases k with
 | zero =>
   simp at h;subst h;rw [e,List.set_cons_zero,e,hy,List.set_append_left _ _ (by omega)];simp
 | succ k=>?_
 rw [e,List.set_cons_succ,e,← ih k (by simpa using h),List.set_append_right _ _ (by omega)]
 congr 2;omega
theorem Apart.symm {v u : Value} (h : Apart v u) : Apart u v:=fun k hk x=>h k x hk
theorem apart_none (u : Value) : Apart (.slice none 0 0) u:=fun k hk=>by simp [Value.ownBlock] at hk
structure NdF (w : World) (B : Nat) (l : List NV) (v : Value) : Prop where
 row : w.ownsRow B 223 7 v l.length (nvCells l)
 ent : ∀ x ∈ l,w.ownsRow B 9 1 x.ev x.n.enter.length (sCells x.n.enter)
 lea : ∀ x ∈ l,w.ownsRow B 9 1 x.lv x.n.leave.length (sCells x.n.leave)
 tra : ∀ x ∈ l,w.ownsRow B 292 2 x.tv x.n.trans.length (rtCells x.n.trans)
 aE : ∀ (i j : Nat) (x y : NV),i ≠ j → l[i]? = some x → l[j]? = some y → Apart x.ev y.ev
 aL : ∀ (i j : Nat) (x y : NV),i ≠ j → l[i]? = some x → l[j]? = some y → Apart x.lv y.lv
 aX : ∀ (i j : Nat) (x y : NV),l[i]? = some x → l[j]? = some y → Apart x.ev y.lv
 aT : ∀ (i j : Nat) (x y : NV),i ≠ j → l[i]? = some x → l[j]? = some y → Apart x.tv y.tv
theorem NdF.keep {S : Nat → Prop} {w w' : World} {B : Nat} {l : List NV} {v : Value} (h : NdF w B l v) (k : Kp S w w')
 (hS : ∀ i cur T,w.heap[i]? = some (.cells cur T (0,0)) → B ≤ i → T = 223 ∨ T = 9 ∨ T = 292 → ¬ S i) : NdF w' B l v:=by
 have own : ∀ {e size v n xs},w.ownsRow B e size v n xs → e = 223 ∨ e = 9 ∨ e = 292 → w'.ownsRow B e size v n xs:=by
  intro e size v n xs ho he;refine k.owns ho (fun i hi=>?_);obtain ⟨cur,hc⟩:=own_block ho hi;exact hS i cur e hc (ho.lt i hi).1 he
 exact ⟨own h.row (.inl rfl),fun x hx=>own (h.ent x hx) (.inr (.inl rfl)),fun x hx=>own (h.lea x hx) (.inr (.inl rfl)),fun x hx=>own (h.tra x hx) (.inr (.inr rfl)),h.aE,h.aL,h.aX,h.aT⟩
theorem NdF.keep0 {w w' : World} {B : Nat} {l : List NV} {v : Value} (h : NdF w B l v) (k : Kp (fun _=>False) w w') : NdF w' B l v:=h.keep k (fun _ _ _ _ _ _ x=>x)
theorem NdF.form {w : World} {B : Nat} {l : List NV} {v : Value} (h : NdF w B l v) {k : Nat} {x : NV} (hk : l[k]? = some x) :
 ∃ g cap,v = .slice (some ⟨g,0,none⟩) l.length cap ∧ B ≤ g ∧ (∀ j,j < 7 → w.cell? ⟨g,k * 7 + j,none⟩ = (nvRow x)[j]?) ∧ ∀ o,w.frozen? ⟨g,o,none⟩ = false:=by
 have hlt:=(List.getElem?_eq_some_iff.1 hk).1;obtain ⟨g,cap,rfl⟩:=own_form h.row (by omega);refine ⟨g,cap,rfl,(h.row.lt g rfl).1,fun j hj=>?_,fun o=>h.row.frozenAt o⟩;rw [← nvCells_at l k x hk j hj];exact h.row.cellAt (k * 7 + j) (by omega)
theorem NdF.len {w : World} {B : Nat} {l : List NV} {v : Value} (h : NdF w B l v) : ∃ ao cap,v = .slice ao l.length cap:=own_len h.row
theorem row_len {w : World} {B : Nat} {e : TypeId} {size : Nat} {a : Option Addr} {ln cap n : Nat} {xs : List Value} (h : w.ownsRow B e size (.slice a ln cap) n xs) : ln = n:=by
 rcases h.2 with ⟨h,h0⟩ | ⟨g,c,cur,h,_⟩
 ·simp only [Value.slice.injEq] at h;omega
 simp only [Value.slice.injEq] at h;exact h.2.1
theorem NdF.rowSet {w : World} {B g : Nat} {l : List NV} {ln cap : Nat} (h : NdF w B l (.slice (some ⟨g,0,none⟩) ln cap)) {k : Nat} {x y : NV} (hk : l[k]? = some x) (j : Nat) (hj : j < 7) (u : Value) (hy : nvRow y = (nvRow x).set j u) :
 (w.setCell ⟨g,k * 7 + j,none⟩ u).ownsRow B 223 7 (.slice (some ⟨g,0,none⟩) ln cap) (l.set k y).length (nvCells (l.set k y)):=by
 obtain rfl:=row_len h.row;have o:=(h.row.stored (k * 7 + j) u).1;rw [nvCells_set l k x y hk j hj u hy] at o;simpa using o
theorem NdF.kpSet (w : World) (g o : Nat) (u : Value) : Kp (fun i=>i = g) w (w.setCell ⟨g,o,none⟩ u):=(Kp.refl _ _).setCell (by intro _;rfl) _
theorem mem_set_or {l : List NV} {k : Nat} {y z : NV} (h : z ∈ l.set k y) : z ∈ l ∨ z = y:=by
 rcases List.mem_or_eq_of_mem_set h with h | h
 ·exact .inl h
 exact .inr h
theorem NdF.setKind {w : World} {B g : Nat} {l : List NV} {ln cap : Nat} (h : NdF w B l (.slice (some ⟨g,0,none⟩) ln cap)) {k : Nat} {x : NV} (hk : l[k]? = some x) (c : Int) :
 NdF (w.setCell ⟨g,k * 7 + 1,none⟩ (.int .i64 c)) B (l.set k { x with n:={ x.n with kind:=c } }) (.slice (some ⟨g,0,none⟩) ln cap):=by
 have hlt:=(List.getElem?_eq_some_iff.1 hk).1;have K:=NdF.kpSet w g (k * 7 + 1) (.int .i64 c)
 have ng : ∀ {e size v n xs},w.ownsRow B e size v n xs → e ≠ 223 → ∀ i,v.ownBlock = some i → ¬ i = g:=by
  intro e size v n xs ho he i hi x;subst x;obtain ⟨cur,hc⟩:=own_block h.row (k:=i) rfl;exact own_ne ho hc he hi
 have hx:=List.mem_of_getElem? hk
 have get : ∀ (i : Nat) (z : NV),(l.set k { x with n:={ x.n with kind:=c } })[i]? = some z → ∃ z',l[i]? = some z' ∧ z.ev = z'.ev ∧ z.lv = z'.lv ∧ z.tv = z'.tv:=by
  intro i z hz
  by_cases e : k = i
  ·subst e;rw [List.getElem?_set_self hlt] at hz;simp at hz;subst hz;exact ⟨x,hk,rfl,rfl,rfl⟩
  rw [List.getElem?_set_ne e] at hz;exact ⟨z,hz,rfl,rfl,rfl⟩
 refine ⟨h.rowSet hk 1 (by omega) _ rfl,?_,?_,?_,?_,?_,?_,?_⟩
 ·intro z hz
  rcases mem_set_or hz with hz | rfl
  ·exact K.owns (h.ent z hz) (ng (h.ent z hz) (by decide))
  exact K.owns (h.ent x hx) (ng (h.ent x hx) (by decide))
 ·intro z hz
  rcases mem_set_or hz with hz | rfl
  ·exact K.owns (h.lea z hz) (ng (h.lea z hz) (by decide))
  exact K.owns (h.lea x hx) (ng (h.lea x hx) (by decide))
 ·intro z hz
  rcases mem_set_or hz with hz | rfl
  ·exact K.owns (h.tra z hz) (ng (h.tra z hz) (by decide))
  exact K.owns (h.tra x hx) (ng (h.tra x hx) (by decide))
 ·intro i j a b hij ha hb
  obtain ⟨a',ha',e1,_,_⟩:=get i a ha;obtain ⟨b',hb',e2,_,_⟩:=get j b hb;rw [e1,e2];exact h.aE i j a' b' hij ha' hb'
 ·intro i j a b hij ha hb
  obtain ⟨a',ha',_,e1,_⟩:=get i a ha;obtain ⟨b',hb',_,e2,_⟩:=get j b hb;rw [e1,e2];exact h.aL i j a' b' hij ha' hb'
 ·intro i j a b ha hb
  obtain ⟨a',ha',e1,_,_⟩:=get i a ha;obtain ⟨b',hb',_,e2,_⟩:=get j b hb;rw [e1,e2];exact h.aX i j a' b' ha' hb'
 intro i j a b hij ha hb;obtain ⟨a',ha',_,_,e1⟩:=get i a ha;obtain ⟨b',hb',_,_,e2⟩:=get j b hb;rw [e1,e2];exact h.aT i j a' b' hij ha' hb'
theorem NdF.push {w w' : World} {B : Nat} {l : List NV} {v v' : Value} (h : NdF w B l v) (hg : w.grownBy w' v.ownBlock) {n : Ch.RN} (hn : n.enter = [] ∧ n.leave = [] ∧ n.trans = [])
 (ho : w'.ownsRow B 223 7 v' (l.length + 1) (nvCells l ++ nvRow ⟨n,.slice none 0 0,.slice none 0 0,.slice none 0 0⟩)) :
 NdF w' B (l ++ [⟨n,.slice none 0 0,.slice none 0 0,.slice none 0 0⟩]) v':=by
 have K : Kp (fun i=>v.ownBlock = some i) w w':=(Kp.refl _ _).grown hg (fun i hi _=>hi)
 have ng : ∀ {e size u n xs},w.ownsRow B e size u n xs → e ≠ 223 → ∀ i,u.ownBlock = some i → ¬ v.ownBlock = some i :=
  fun ho he i hi=>own_apart ho h.row he i hi
 have get : ∀ (i : Nat) (z : NV),(l ++ [⟨n,.slice none 0 0,.slice none 0 0,.slice none 0 0⟩])[i]? = some z → l[i]? = some z ∨ (z.ev = .slice none 0 0 ∧ z.lv = .slice none 0 0 ∧ z.tv = .slice none 0 0):=by
  intro i z hz
  rcases Nat.lt_or_ge i l.length with hl | hl
  ·rw [List.getElem?_append_left hl] at hz;exact .inl hz
  rw [List.getElem?_append_right hl] at hz
  have : i - l.length = 0:=by
   rcases Nat.eq_zero_or_pos (i - l.length) with e | e
   ·exact e
   rw [List.getElem?_eq_none (by simp;omega)] at hz;simp at hz
  rw [this] at hz;simp at hz;subst hz;exact .inr ⟨rfl,rfl,rfl⟩
 refine ⟨by rw [nvCells_snoc];simpa using ho,?_,?_,?_,?_,?_,?_,?_⟩
 ·intro z hz
  rcases List.mem_append.1 hz with hz | hz
  ·exact K.owns (h.ent z hz) (ng (h.ent z hz) (by decide))
  simp at hz;subst hz;simp only [hn.1];exact World.ownsRow_nil _ _ _ _
 ·intro z hz
  rcases List.mem_append.1 hz with hz | hz
  ·exact K.owns (h.lea z hz) (ng (h.lea z hz) (by decide))
  simp at hz;subst hz;simp only [hn.2.1];exact World.ownsRow_nil _ _ _ _
 ·intro z hz
  rcases List.mem_append.1 hz with hz | hz
  ·exact K.owns (h.tra z hz) (ng (h.tra z hz) (by decide))
  simp at hz;subst hz;simp only [hn.2.2];exact World.ownsRow_nil _ _ _ _
 ·intro i j a b hij ha hb
  rcases get i a ha with ha | ⟨e,_,_⟩
  ·rcases get j b hb with hb | ⟨e,_,_⟩
   ·exact h.aE i j a b hij ha hb
   rw [e];exact (apart_none _).symm
  rw [e];exact apart_none _
 ·intro i j a b hij ha hb
  rcases get i a ha with ha | ⟨_,e,_⟩
  ·rcases get j b hb with hb | ⟨_,e,_⟩
   ·exact h.aL i j a b hij ha hb
   rw [e];exact (apart_none _).symm
  rw [e];exact apart_none _
 ·intro i j a b ha hb
  rcases get i a ha with ha | ⟨e,_,_⟩
  ·rcases get j b hb with hb | ⟨_,e,_⟩
   ·exact h.aX i j a b ha hb
   rw [e];exact (apart_none _).symm
  rw [e];exact apart_none _
 intro i j a b hij ha hb
 rcases get i a ha with ha | ⟨_,_,e⟩
 ·rcases get j b hb with hb | ⟨_,_,e⟩
  ·exact h.aT i j a b hij ha hb
  rw [e];exact (apart_none _).symm
 rw [e];exact apart_none _
theorem apart_new {w : World} {B : Nat} {e : TypeId} {size n : Nat} {v u : Value} {xs : List Value} {g ln cap : Nat} (ho : w.ownsRow B e size u n xs) (ha : Apart v u) (hw : v.ownBlock = some g ∨ w.heap.size ≤ g) : Apart (.slice (some ⟨g,0,none⟩) ln cap) u:=by
 intro k hk hu;simp [Value.ownBlock] at hk;subst hk
 rcases hw with hw | hw
 ·exact ha _ hw hu
 have:=(ho.lt _ hu).2;omega
theorem NdF.setTrans {w w1 : World} {B g : Nat} {l : List NV} {ln cap : Nat} (h : NdF w B l (.slice (some ⟨g,0,none⟩) ln cap)) {k : Nat} {x : NV} (hk : l[k]? = some x) (rt : Ch.RT) {g1 n1 c1 : Nat}
 (ho : w1.ownsRow B 292 2 (.slice (some ⟨g1,0,none⟩) n1 c1) (x.n.trans.length + 1) (rtCells x.n.trans ++ [.string rt.text,.int .i64 rt.pos])) (hg : w.grownBy w1 x.tv.ownBlock) (hw : x.tv.ownBlock = some g1 ∨ w.heap.size ≤ g1) :
 NdF (w1.setCell ⟨g,k * 7 + 6,none⟩ (.slice (some ⟨g1,0,none⟩) n1 c1)) B (l.set k { x with n:={ x.n with trans:=x.n.trans ++ [rt] },tv:=.slice (some ⟨g1,0,none⟩) n1 c1 }) (.slice (some ⟨g,0,none⟩) ln cap):=by
 have hlt:=(List.getElem?_eq_some_iff.1 hk).1;have hx:=List.mem_of_getElem? hk;have K1 : Kp (fun i=>x.tv.ownBlock = some i) w w1:=(Kp.refl _ _).grown hg (fun i hi _=>hi);have K:=NdF.kpSet w1 g (k * 7 + 6) (.slice (some ⟨g1,0,none⟩) n1 c1);have hT:=h.tra x hx;have row1 : w1.ownsRow B 223 7 (.slice (some ⟨g,0,none⟩) ln cap) l.length (nvCells l):=K1.owns h.row (fun i hi=>own_apart h.row hT (by decide) i hi)
 have ng : ∀ {e size v n xs},w1.ownsRow B e size v n xs → e ≠ 223 → ∀ i,v.ownBlock = some i → ¬ i = g:=by
  intro e size v n xs ho he i hi x;subst x;obtain ⟨cur,hc⟩:=own_block row1 (k:=i) rfl;exact own_ne ho hc he hi
 have two : ∀ {e size v n xs},w.ownsRow B e size v n xs → e ≠ 223 → (∀ i,v.ownBlock = some i → ¬ x.tv.ownBlock = some i) → (w1.setCell ⟨g,k * 7 + 6,none⟩ (.slice (some ⟨g1,0,none⟩) n1 c1)).ownsRow B e size v n xs:=by
  intro e size v n xs ho he hn;have:=K1.owns ho hn;exact K.owns this (ng this he)
 have get : ∀ (i : Nat) (z : NV),(l.set k { x with n:={ x.n with trans:=x.n.trans ++ [rt] },tv:=.slice (some ⟨g1,0,none⟩) n1 c1 })[i]? = some z → ∃ z',l[i]? = some z' ∧ z.ev = z'.ev ∧ z.lv = z'.lv ∧ (k ≠ i ∧ z.tv = z'.tv ∨ k = i ∧ z' = x ∧ z.tv = .slice (some ⟨g1,0,none⟩) n1 c1):=by
  intro i z hz
  by_cases e : k = i
  ·subst e;rw [List.getElem?_set_self hlt] at hz;simp at hz;subst hz;exact ⟨x,hk,rfl,rfl,.inr ⟨rfl,rfl,rfl⟩⟩
  rw [List.getElem?_set_ne e] at hz;exact ⟨z,hz,rfl,rfl,.inl ⟨e,rfl⟩⟩
 obtain rfl:=row_len h.row;have rowS:=(row1.stored (k * 7 + 6) (.slice (some ⟨g1,0,none⟩) n1 c1)).1;rw [nvCells_set l k x { x with n:={ x.n with trans:=x.n.trans ++ [rt] },tv:=.slice (some ⟨g1,0,none⟩) n1 c1 } hk 6 (by omega) _ rfl] at rowS;refine ⟨by simpa using rowS,?_,?_,?_,?_,?_,?_,?_⟩
 ·intro z hz
  rcases mem_set_or hz with hz | rfl
  ·exact two (h.ent z hz) (by decide) (own_apart (h.ent z hz) hT (by decide))
  exact two (h.ent x hx) (by decide) (own_apart (h.ent x hx) hT (by decide))
 ·intro z hz
  rcases mem_set_or hz with hz | rfl
  ·exact two (h.lea z hz) (by decide) (own_apart (h.lea z hz) hT (by decide))
  exact two (h.lea x hx) (by decide) (own_apart (h.lea x hx) hT (by decide))
 ·intro z hz
  obtain ⟨i,hi⟩:=List.getElem?_of_mem hz
  by_cases e : k = i
  ·subst e;rw [List.getElem?_set_self hlt] at hi;simp at hi;subst hi
   have:=K.owns ho (ng ho (by decide));simp only [rtCells_snoc,List.length_append,List.length_cons,List.length_nil];exact this
  rw [List.getElem?_set_ne e] at hi;have hz':=List.mem_of_getElem? hi;exact two (h.tra z hz') (by decide) (h.aT i k z x (Ne.symm e) hi hk)
 ·intro i j a b hij ha hb
  obtain ⟨a',ha',e1,_,_⟩:=get i a ha;obtain ⟨b',hb',e2,_,_⟩:=get j b hb;rw [e1,e2];exact h.aE i j a' b' hij ha' hb'
 ·intro i j a b hij ha hb
  obtain ⟨a',ha',_,e1,_⟩:=get i a ha;obtain ⟨b',hb',_,e2,_⟩:=get j b hb;rw [e1,e2];exact h.aL i j a' b' hij ha' hb'
 ·intro i j a b ha hb
  obtain ⟨a',ha',e1,_,_⟩:=get i a ha;obtain ⟨b',hb',_,e2,_⟩:=get j b hb;rw [e1,e2];exact h.aX i j a' b' ha' hb'
 intro i j a b hij ha hb;obtain ⟨a',ha',_,_,e1⟩:=get i a ha;obtain ⟨b',hb',_,_,e2⟩:=get j b hb;have mb:=List.mem_of_getElem? hb';have ma:=List.mem_of_getElem? ha'
 rcases e1 with ⟨_,e1⟩ | ⟨c1',rfl,e1⟩
 ·rcases e2 with ⟨_,e2⟩ | ⟨c2',rfl,e2⟩
  ·rw [e1,e2];exact h.aT i j a' b' hij ha' hb'
  rw [e1,e2];exact (apart_new (h.tra a' ma) (h.aT j i b' a' (Ne.symm hij) hb' ha') hw).symm
 rcases e2 with ⟨_,e2⟩ | ⟨c2',rfl,e2⟩
 ·rw [e1,e2];exact apart_new (h.tra b' mb) (h.aT i j a' b' hij ha' hb') hw
 omega
theorem NdF.setEnter {w w1 : World} {B g : Nat} {l : List NV} {ln cap : Nat} (h : NdF w B l (.slice (some ⟨g,0,none⟩) ln cap)) {k : Nat} {x : NV} (hk : l[k]? = some x) (s : ByteArray) {g1 n1 c1 : Nat}
 (ho : w1.ownsRow B 9 1 (.slice (some ⟨g1,0,none⟩) n1 c1) (x.n.enter.length + 1) (sCells x.n.enter ++ [.string s])) (hg : w.grownBy w1 x.ev.ownBlock) (hw : x.ev.ownBlock = some g1 ∨ w.heap.size ≤ g1) :
 NdF (w1.setCell ⟨g,k * 7 + 4,none⟩ (.slice (some ⟨g1,0,none⟩) n1 c1)) B (l.set k { x with n:={ x.n with enter:=x.n.enter ++ [s] },ev:=.slice (some ⟨g1,0,none⟩) n1 c1 }) (.slice (some ⟨g,0,none⟩) ln cap):=by
 have hlt:=(List.getElem?_eq_some_iff.1 hk).1;have hx:=List.mem_of_getElem? hk;have K1 : Kp (fun i=>x.ev.ownBlock = some i) w w1:=(Kp.refl _ _).grown hg (fun i hi _=>hi);have K:=NdF.kpSet w1 g (k * 7 + 4) (.slice (some ⟨g1,0,none⟩) n1 c1);have hT:=h.ent x hx;have row1 : w1.ownsRow B 223 7 (.slice (some ⟨g,0,none⟩) ln cap) l.length (nvCells l):=K1.owns h.row (fun i hi=>own_apart h.row hT (by decide) i hi)
 have ng : ∀ {e size v n xs},w1.ownsRow B e size v n xs → e ≠ 223 → ∀ i,v.ownBlock = some i → ¬ i = g:=by
  intro e size v n xs ho he i hi x;subst x;obtain ⟨cur,hc⟩:=own_block row1 (k:=i) rfl;exact own_ne ho hc he hi
 have two : ∀ {e size v n xs},w.ownsRow B e size v n xs → e ≠ 223 → (∀ i,v.ownBlock = some i → ¬ x.ev.ownBlock = some i) → (w1.setCell ⟨g,k * 7 + 4,none⟩ (.slice (some ⟨g1,0,none⟩) n1 c1)).ownsRow B e size v n xs:=by
  intro e size v n xs ho he hn;have:=K1.owns ho hn;exact K.owns this (ng this he)
 have get : ∀ (i : Nat) (z : NV),(l.set k { x with n:={ x.n with enter:=x.n.enter ++ [s] },ev:=.slice (some ⟨g1,0,none⟩) n1 c1 })[i]? = some z → ∃ z',l[i]? = some z' ∧ z.tv = z'.tv ∧ z.lv = z'.lv ∧ (k ≠ i ∧ z.ev = z'.ev ∨ k = i ∧ z' = x ∧ z.ev = .slice (some ⟨g1,0,none⟩) n1 c1):=by
  intro i z hz
  by_cases e : k = i
  ·subst e;rw [List.getElem?_set_self hlt] at hz;simp at hz;subst hz;exact ⟨x,hk,rfl,rfl,.inr ⟨rfl,rfl,rfl⟩⟩
  rw [List.getElem?_set_ne e] at hz;exact ⟨z,hz,rfl,rfl,.inl ⟨e,rfl⟩⟩
 obtain rfl:=row_len h.row;have rowS:=(row1.stored (k * 7 + 4) (.slice (some ⟨g1,0,none⟩) n1 c1)).1;rw [nvCells_set l k x { x with n:={ x.n with enter:=x.n.enter ++ [s] },ev:=.slice (some ⟨g1,0,none⟩) n1 c1 } hk 4 (by omega) _ rfl] at rowS;refine ⟨by simpa using rowS,?_,?_,?_,?_,?_,?_,?_⟩
 ·intro z hz
  obtain ⟨i,hi⟩:=List.getElem?_of_mem hz
  by_cases e : k = i
  ·subst e;rw [List.getElem?_set_self hlt] at hi;simp at hi;subst hi
   have:=K.owns ho (ng ho (by decide));simp only [sCells_snoc,List.length_append,List.length_cons,List.length_nil];exact this
  rw [List.getElem?_set_ne e] at hi;have hz':=List.mem_of_getElem? hi;exact two (h.ent z hz') (by decide) (h.aE i k z x (Ne.symm e) hi hk)
 ·intro z hz
  obtain ⟨i,hi⟩:=List.getElem?_of_mem hz;obtain ⟨z',hz',_,e1,_⟩:=get i z hi
  by_cases e : k = i
  ·subst e;rw [List.getElem?_set_self hlt] at hi;simp at hi;subst hi
   exact two (h.lea x hx) (by decide) (h.aX k k x x hk hk).symm
  rw [List.getElem?_set_ne e] at hi;exact two (h.lea z (List.mem_of_getElem? hi)) (by decide) (h.aX k i x z hk hi).symm
 ·intro z hz
  rcases mem_set_or hz with hz | rfl
  ·exact two (h.tra z hz) (by decide) (own_apart (h.tra z hz) hT (by decide))
  exact two (h.tra x hx) (by decide) (own_apart (h.tra x hx) hT (by decide))
 ·intro i j a b hij ha hb
  obtain ⟨a',ha',_,_,e1⟩:=get i a ha;obtain ⟨b',hb',_,_,e2⟩:=get j b hb;have mb:=List.mem_of_getElem? hb';have ma:=List.mem_of_getElem? ha'
  rcases e1 with ⟨_,e1⟩ | ⟨c1',rfl,e1⟩
  ·rcases e2 with ⟨_,e2⟩ | ⟨c2',rfl,e2⟩
   ·rw [e1,e2];exact h.aE i j a' b' hij ha' hb'
   rw [e1,e2];exact (apart_new (h.ent a' ma) (h.aE j i b' a' (Ne.symm hij) hb' ha') hw).symm
  rcases e2 with ⟨_,e2⟩ | ⟨c2',rfl,e2⟩
  ·rw [e1,e2];exact apart_new (h.ent b' mb) (h.aE i j a' b' hij ha' hb') hw
  omega
 ·intro i j a b hij ha hb
  obtain ⟨a',ha',_,e1,_⟩:=get i a ha;obtain ⟨b',hb',_,e2,_⟩:=get j b hb;rw [e1,e2];exact h.aL i j a' b' hij ha' hb'
 ·intro i j a b ha hb
  obtain ⟨a',ha',_,_,e1⟩:=get i a ha;obtain ⟨b',hb',_,e2,_⟩:=get j b hb;have mb:=List.mem_of_getElem? hb'
  rcases e1 with ⟨_,e1⟩ | ⟨c1',rfl,e1⟩
  ·rw [e1,e2];exact h.aX i j a' b' ha' hb'
  rw [e1,e2];exact apart_new (h.lea b' mb) (h.aX i j a' b' ha' hb') hw
 intro i j a b hij ha hb;obtain ⟨a',ha',e1,_,_⟩:=get i a ha;obtain ⟨b',hb',e2,_,_⟩:=get j b hb;rw [e1,e2];exact h.aT i j a' b' hij ha' hb'
theorem NdF.setLeave {w w1 : World} {B g : Nat} {l : List NV} {ln cap : Nat} (h : NdF w B l (.slice (some ⟨g,0,none⟩) ln cap)) {k : Nat} {x : NV} (hk : l[k]? = some x) (s : ByteArray) {g1 n1 c1 : Nat}
 (ho : w1.ownsRow B 9 1 (.slice (some ⟨g1,0,none⟩) n1 c1) (x.n.leave.length + 1) (sCells x.n.leave ++ [.string s])) (hg : w.grownBy w1 x.lv.ownBlock) (hw : x.lv.ownBlock = some g1 ∨ w.heap.size ≤ g1) :
 NdF (w1.setCell ⟨g,k * 7 + 5,none⟩ (.slice (some ⟨g1,0,none⟩) n1 c1)) B (l.set k { x with n:={ x.n with leave:=x.n.leave ++ [s] },lv:=.slice (some ⟨g1,0,none⟩) n1 c1 }) (.slice (some ⟨g,0,none⟩) ln cap):=by
 have hlt:=(List.getElem?_eq_some_iff.1 hk).1;have hx:=List.mem_of_getElem? hk;have K1 : Kp (fun i=>x.lv.ownBlock = some i) w w1:=(Kp.refl _ _).grown hg (fun i hi _=>hi);have K:=NdF.kpSet w1 g (k * 7 + 5) (.slice (some ⟨g1,0,none⟩) n1 c1);have hT:=h.lea x hx;have row1 : w1.ownsRow B 223 7 (.slice (some ⟨g,0,none⟩) ln cap) l.length (nvCells l):=K1.owns h.row (fun i hi=>own_apart h.row hT (by decide) i hi)
 have ng : ∀ {e size v n xs},w1.ownsRow B e size v n xs → e ≠ 223 → ∀ i,v.ownBlock = some i → ¬ i = g:=by
  intro e size v n xs ho he i hi x;subst x;obtain ⟨cur,hc⟩:=own_block row1 (k:=i) rfl;exact own_ne ho hc he hi
 have two : ∀ {e size v n xs},w.ownsRow B e size v n xs → e ≠ 223 → (∀ i,v.ownBlock = some i → ¬ x.lv.ownBlock = some i) → (w1.setCell ⟨g,k * 7 + 5,none⟩ (.slice (some ⟨g1,0,none⟩) n1 c1)).ownsRow B e size v n xs:=by
  intro e size v n xs ho he hn;have:=K1.owns ho hn;exact K.owns this (ng this he)
 have get : ∀ (i : Nat) (z : NV),(l.set k { x with n:={ x.n with leave:=x.n.leave ++ [s] },lv:=.slice (some ⟨g1,0,none⟩) n1 c1 })[i]? = some z → ∃ z',l[i]? = some z' ∧ z.tv = z'.tv ∧ z.ev = z'.ev ∧ (k ≠ i ∧ z.lv = z'.lv ∨ k = i ∧ z' = x ∧ z.lv = .slice (some ⟨g1,0,none⟩) n1 c1):=by
  intro i z hz
  by_cases e : k = i
  ·subst e;rw [List.getElem?_set_self hlt] at hz;simp at hz;subst hz;exact ⟨x,hk,rfl,rfl,.inr ⟨rfl,rfl,rfl⟩⟩
  rw [List.getElem?_set_ne e] at hz;exact ⟨z,hz,rfl,rfl,.inl ⟨e,rfl⟩⟩
 obtain rfl:=row_len h.row;have rowS:=(row1.stored (k * 7 + 5) (.slice (some ⟨g1,0,none⟩) n1 c1)).1;rw [nvCells_set l k x { x with n:={ x.n with leave:=x.n.leave ++ [s] },lv:=.slice (some ⟨g1,0,none⟩) n1 c1 } hk 5 (by omega) _ rfl] at rowS;refine ⟨by simpa using rowS,?_,?_,?_,?_,?_,?_,?_⟩
 ·intro z hz
  obtain ⟨i,hi⟩:=List.getElem?_of_mem hz
  by_cases e : k = i
  ·subst e;rw [List.getElem?_set_self hlt] at hi;simp at hi;subst hi
   exact two (h.ent x hx) (by decide) (h.aX k k x x hk hk)
  rw [List.getElem?_set_ne e] at hi;exact two (h.ent z (List.mem_of_getElem? hi)) (by decide) (h.aX i k z x hi hk)
 ·intro z hz
  obtain ⟨i,hi⟩:=List.getElem?_of_mem hz
  by_cases e : k = i
  ·subst e;rw [List.getElem?_set_self hlt] at hi;simp at hi;subst hi
   have:=K.owns ho (ng ho (by decide));simp only [sCells_snoc,List.length_append,List.length_cons,List.length_nil];exact this
  rw [List.getElem?_set_ne e] at hi;have hz':=List.mem_of_getElem? hi;exact two (h.lea z hz') (by decide) (h.aL i k z x (Ne.symm e) hi hk)
 ·intro z hz
  rcases mem_set_or hz with hz | rfl
  ·exact two (h.tra z hz) (by decide) (own_apart (h.tra z hz) hT (by decide))
  exact two (h.tra x hx) (by decide) (own_apart (h.tra x hx) hT (by decide))
 ·intro i j a b hij ha hb
  obtain ⟨a',ha',_,e1,_⟩:=get i a ha;obtain ⟨b',hb',_,e2,_⟩:=get j b hb;rw [e1,e2];exact h.aE i j a' b' hij ha' hb'
 ·intro i j a b hij ha hb
  obtain ⟨a',ha',_,_,e1⟩:=get i a ha;obtain ⟨b',hb',_,_,e2⟩:=get j b hb;have mb:=List.mem_of_getElem? hb';have ma:=List.mem_of_getElem? ha'
  rcases e1 with ⟨_,e1⟩ | ⟨c1',rfl,e1⟩
  ·rcases e2 with ⟨_,e2⟩ | ⟨c2',rfl,e2⟩
   ·rw [e1,e2];exact h.aL i j a' b' hij ha' hb'
   rw [e1,e2];exact (apart_new (h.lea a' ma) (h.aL j i b' a' (Ne.symm hij) hb' ha') hw).symm
  rcases e2 with ⟨_,e2⟩ | ⟨c2',rfl,e2⟩
  ·rw [e1,e2];exact apart_new (h.lea b' mb) (h.aL i j a' b' hij ha' hb') hw
  omega
 ·intro i j a b ha hb
  obtain ⟨a',ha',_,e1,_⟩:=get i a ha;obtain ⟨b',hb',_,_,e2⟩:=get j b hb;have ma:=List.mem_of_getElem? ha'
  rcases e2 with ⟨_,e2⟩ | ⟨c1',rfl,e2⟩
  ·rw [e1,e2];exact h.aX i j a' b' ha' hb'
  rw [e1,e2];exact (apart_new (h.ent a' ma) (h.aX i j a' b' ha' hb').symm hw).symm
 intro i j a b hij ha hb;obtain ⟨a',ha',e1,_,_⟩:=get i a ha;obtain ⟨b',hb',e2,_,_⟩:=get j b hb;rw [e1,e2];exact h.aT i j a' b' hij ha' hb'
def ChF (w : World) (B cb : Nat) (l : List NV) (v : Value) : Prop:=w.heap[cb]? = some (.cells #[v] 219 (0,0)) ∧ NdF w B l v ∧ B ≤ cb
section
variable {w w' : World} {B cb : Nat} {l : List NV} {v : Value}
theorem ChF.cell (h : ChF w B cb l v) : w.cell? ⟨cb,0,none⟩ = some v:=by rw [World.cell?,h.1];rfl
theorem ChF.free (h : ChF w B cb l v) (i : Nat) : w.frozen? ⟨cb,i,none⟩ = false:=by simp [World.frozen?,h.1]
theorem ChF.keep0 (h : ChF w B cb l v) (k : Kp (fun _=>False) w w') : ChF w' B cb l v:=⟨k.at_ h.1 (fun x=>x),h.2.1.keep0 k,h.2.2⟩
theorem ChF.low (h : ChF w B cb l v) : B ≤ w.heap.size:=by have:=lt_of_block h.1;have:=h.2.2;omega
theorem ChF.keepT {S : Nat → Prop} (h : ChF w B cb l v) (k : Kp S w w') (hS : ∀ i cur T,w.heap[i]? = some (.cells cur T (0,0)) → B ≤ i → T = 223 ∨ T = 9 ∨ T = 292 ∨ T = 219 → ¬ S i) : ChF w' B cb l v :=
 ⟨k.at_ h.1 (hS cb _ _ h.1 h.2.2 (.inr (.inr (.inr rfl)))),h.2.1.keep k (fun i cur T hi hb hT=>hS i cur T hi hb (by rcases hT with h | h | h;exact .inl h;exact .inr (.inl h);exact .inr (.inr (.inl h)))),h.2.2⟩
theorem ChF.ne (h : ChF w B cb l v) : v.ownBlock ≠ some cb:=own_ne h.2.1.row h.1 (by decide)
theorem ChF.setKind {g ln cap : Nat} (h : ChF w B cb l (.slice (some ⟨g,0,none⟩) ln cap)) {k : Nat} {x : NV} (hk : l[k]? = some x) (c : Int) :
 ChF (w.setCell ⟨g,k * 7 + 1,none⟩ (.int .i64 c)) B cb (l.set k { x with n:={ x.n with kind:=c } }) (.slice (some ⟨g,0,none⟩) ln cap) :=
 ⟨(NdF.kpSet w g (k * 7 + 1) (.int .i64 c)).at_ h.1 (fun e=>h.ne (by simp [Value.ownBlock,e])),h.2.1.setKind hk c,h.2.2⟩
theorem ChF.push {v' : Value} (h : ChF w B cb l v) (hg : w.grownBy w' v.ownBlock) {n : Ch.RN} (hn : n.enter = [] ∧ n.leave = [] ∧ n.trans = [])
 (ho : w'.ownsRow B 223 7 v' (l.length + 1) (nvCells l ++ nvRow ⟨n,.slice none 0 0,.slice none 0 0,.slice none 0 0⟩)) :
 ChF (w'.setCell ⟨cb,0,none⟩ v') B cb (l ++ [⟨n,.slice none 0 0,.slice none 0 0,.slice none 0 0⟩]) v':=by
 have K : Kp (fun i=>v.ownBlock = some i) w w':=(Kp.refl _ _).grown hg (fun i hi _=>hi);have hc : w'.heap[cb]? = some (.cells #[v] 219 (0,0)):=K.at_ h.1 h.ne;refine ⟨by rw [heap_set_same _ hc];rfl,(h.2.1.push hg hn ho).keep (NdF.kpSet w' cb 0 v') (fun i cur T hi _ hT e=>?_),h.2.2⟩;subst e;rw [hc] at hi;simp at hi
 rcases hT with hT | hT | hT <;> rw [hT] at hi <;> exact absurd hi.2 (by decide)
theorem ChF.setTrans {w1 : World} {g ln cap : Nat} (h : ChF w B cb l (.slice (some ⟨g,0,none⟩) ln cap)) {k : Nat} {x : NV} (hk : l[k]? = some x) (rt : Ch.RT) {g1 n1 c1 : Nat}
 (ho : w1.ownsRow B 292 2 (.slice (some ⟨g1,0,none⟩) n1 c1) (x.n.trans.length + 1) (rtCells x.n.trans ++ [.string rt.text,.int .i64 rt.pos])) (hg : w.grownBy w1 x.tv.ownBlock) (hw : x.tv.ownBlock = some g1 ∨ w.heap.size ≤ g1) :
 ChF (w1.setCell ⟨g,k * 7 + 6,none⟩ (.slice (some ⟨g1,0,none⟩) n1 c1)) B cb (l.set k { x with n:={ x.n with trans:=x.n.trans ++ [rt] },tv:=.slice (some ⟨g1,0,none⟩) n1 c1 }) (.slice (some ⟨g,0,none⟩) ln cap):=by
 have K : Kp (fun i=>x.tv.ownBlock = some i) w w1:=(Kp.refl _ _).grown hg (fun i hi _=>hi);have hc:=K.at_ h.1 (own_ne (h.2.1.tra x (List.mem_of_getElem? hk)) h.1 (by decide));exact ⟨(NdF.kpSet w1 g (k * 7 + 6) _).at_ hc (fun e=>h.ne (by simp [Value.ownBlock,e])),h.2.1.setTrans hk rt ho hg hw,h.2.2⟩
theorem ChF.setEnter {w1 : World} {g ln cap : Nat} (h : ChF w B cb l (.slice (some ⟨g,0,none⟩) ln cap)) {k : Nat} {x : NV} (hk : l[k]? = some x) (s : ByteArray) {g1 n1 c1 : Nat}
 (ho : w1.ownsRow B 9 1 (.slice (some ⟨g1,0,none⟩) n1 c1) (x.n.enter.length + 1) (sCells x.n.enter ++ [.string s])) (hg : w.grownBy w1 x.ev.ownBlock) (hw : x.ev.ownBlock = some g1 ∨ w.heap.size ≤ g1) :
 ChF (w1.setCell ⟨g,k * 7 + 4,none⟩ (.slice (some ⟨g1,0,none⟩) n1 c1)) B cb (l.set k { x with n:={ x.n with enter:=x.n.enter ++ [s] },ev:=.slice (some ⟨g1,0,none⟩) n1 c1 }) (.slice (some ⟨g,0,none⟩) ln cap):=by
 have K : Kp (fun i=>x.ev.ownBlock = some i) w w1:=(Kp.refl _ _).grown hg (fun i hi _=>hi);have hc:=K.at_ h.1 (own_ne (h.2.1.ent x (List.mem_of_getElem? hk)) h.1 (by decide));exact ⟨(NdF.kpSet w1 g (k * 7 + 4) _).at_ hc (fun e=>h.ne (by simp [Value.ownBlock,e])),h.2.1.setEnter hk s ho hg hw,h.2.2⟩
theorem ChF.setLeave {w1 : World} {g ln cap : Nat} (h : ChF w B cb l (.slice (some ⟨g,0,none⟩) ln cap)) {k : Nat} {x : NV} (hk : l[k]? = some x) (s : ByteArray) {g1 n1 c1 : Nat}
 (ho : w1.ownsRow B 9 1 (.slice (some ⟨g1,0,none⟩) n1 c1) (x.n.leave.length + 1) (sCells x.n.leave ++ [.string s])) (hg : w.grownBy w1 x.lv.ownBlock) (hw : x.lv.ownBlock = some g1 ∨ w.heap.size ≤ g1) :
 ChF (w1.setCell ⟨g,k * 7 + 5,none⟩ (.slice (some ⟨g1,0,none⟩) n1 c1)) B cb (l.set k { x with n:={ x.n with leave:=x.n.leave ++ [s] },lv:=.slice (some ⟨g1,0,none⟩) n1 c1 }) (.slice (some ⟨g,0,none⟩) ln cap):=by
 have K : Kp (fun i=>x.lv.ownBlock = some i) w w1:=(Kp.refl _ _).grown hg (fun i hi _=>hi);have hc:=K.at_ h.1 (own_ne (h.2.1.lea x (List.mem_of_getElem? hk)) h.1 (by decide));exact ⟨(NdF.kpSet w1 g (k * 7 + 5) _).at_ hc (fun e=>h.ne (by simp [Value.ownBlock,e])),h.2.1.setLeave hk s ho hg hw,h.2.2⟩
end
theorem Tryz.infoNdR : (Tryz.prog.info? 223).map (fun i=>(i.zero,i.size,i.bytes)) = some (some (.agg #[.int .u8 0,.int .i64 0,.int .i64 0,.int .i64 0,.slice none 0 0,.slice none 0 0,.slice none 0 0]),7,104):=by kernel_rfl
theorem Tryz.infoTrR : (Tryz.prog.info? 292).map (fun i=>(i.zero,i.size,i.bytes)) = some (some (.agg #[.string ⟨#[]⟩,.int .i64 0]),2,24):=by kernel_rfl
theorem Tryz.infoStr : (Tryz.prog.info? 9).map (fun i=>(i.zero,i.size,i.bytes)) = some (some (.string ⟨#[]⟩),1,16):=by kernel_rfl
namespace Ch
def mk (l : List NV) : List RN:=l.map (·.n)
theorem nAt_mk {l : List NV} {i : Int} {n : RN} (h : nAt (mk l) i = some n) : ∃ (k : Nat) (x : NV),i = k ∧ l[k]? = some x ∧ x.n = n ∧ k < l.length:=by
 obtain ⟨k,rfl,hk,hl⟩:=nAt_some h;unfold mk at hk hl;rw [List.getElem?_map,Option.map_eq_some_iff] at hk;obtain ⟨x,hx,rfl⟩:=hk;exact ⟨k,x,rfl,hx,rfl,by simpa using hl⟩
theorem mk_set {l : List NV} {k : Nat} {x y : NV} {f : RN → RN} (hk : l[k]? = some x) (hy : y.n = f x.n) : mk (l.set k y) = nMod (mk l) (k : Int) f:=by
 have hlt:=(List.getElem?_eq_some_iff.1 hk).1;apply List.ext_getElem?;intro j;rw [nMod_get];unfold mk;rw [List.getElem?_map,List.getElem?_map]
 by_cases e : k = j
 ·subst e;rw [if_pos rfl,List.getElem?_set_self hlt,hk];simp [hy]
 rw [if_neg e,List.getElem?_set_ne e]
theorem NRun.open {t : ByteArray} {k : Nat} {up : Int} {L res : List RN} (h : NRun t k up L res) (hk : k < t.size) (ho : isOpen (peek t k) = true) :
 k + 1 < t.size ∧ (up < 0 ∨ (nAt L up).isSome = true) ∧ NRun t ((if peek t k == 60 then k + 2 else k + 1) + 1) (if peek t k == 60 || peek t k == 42 then up else (L.length : Int)) (nMark L up ++ [⟨peek t (k + 1),kindOf (peek t k),up,(k : Int) + 1,[],[],[]⟩]) res:=by
 cases h with
 | done h=>omega
 | step _ hst hn=>?_
 unfold nstep at hst;rw [if_pos ho] at hst
 split at hst
 ·rename_i hc
  simp only [Option.some.injEq,Prod.mk.injEq] at hst;obtain ⟨rfl,rfl,rfl⟩:=hst;exact ⟨hc.1,hc.2,hn⟩
 simp at hst
theorem NRun.close {t : ByteArray} {k : Nat} {up : Int} {L res : List RN} (h : NRun t k up L res) (hk : k < t.size) (ho : (peek t k == 41 || peek t k == 93) = true) :
 ∃ n,nAt L up = some n ∧ NRun t (k + 1) n.parent L res:=by
 have h1 : isOpen (peek t k) = false:=by
  rcases (by simpa using ho : peek t k = 41 ∨ peek t k = 93) with e | e <;> rw [e] <;> decide
 cases h with
 | done h=>omega
 | step _ hst hn=>?_
 unfold nstep at hst;simp only [h1,ho,Bool.false_eq_true,if_false,if_true] at hst
 cases hn' : nAt L up with
 | none=>rw [hn'] at hst;simp at hst
 | some n=>?_
 rw [hn'] at hst;simp only [Option.some.injEq,Prod.mk.injEq] at hst;obtain ⟨rfl,rfl,rfl⟩:=hst;exact ⟨n,rfl,hn⟩
theorem NRun.colon {t : ByteArray} {k : Nat} {up : Int} {L res : List RN} (h : NRun t k up L res) (hk : k < t.size) (ho : peek t k = 58) :
 ∃ n,nAt L up = some n ∧ k + 2 < t.size ∧ reachesR t (k + 1) + 1 ≤ t.size ∧ k + 1 ≤ reachesR t (k + 1) + 1 ∧ NRun t (reachesR t (k + 1) + 1) up (nMod L up fun n=>{ n with trans:=n.trans ++ [⟨t.extract (k + 1) (reachesR t (k + 1) + 1),(k : Int) + 1⟩] }) res:=by
 cases h with
 | done h=>omega
 | step _ hst hn=>?_
 unfold nstep at hst;simp only [ho,show isOpen 58 = false by decide,show ((58 : Int) == 41 || (58 : Int) == 93) = false by decide,show ((58 : Int) == 58) = true by decide,Bool.false_eq_true,if_false,if_true] at hst
 split at hst
 ·rename_i hc
  simp only [Option.some.injEq,Prod.mk.injEq] at hst;obtain ⟨rfl,rfl,rfl⟩:=hst;obtain ⟨n,hn'⟩:=Option.isSome_iff_exists.1 hc.2.2.2;exact ⟨n,hn',hc.1,hc.2.1,hc.2.2.1,hn⟩
 simp at hst
theorem NRun.blk {t : ByteArray} {k : Nat} {up : Int} {L res : List RN} (h : NRun t k up L res) (hk : k < t.size) (ho : (peek t k == 94 || peek t k == 36) = true) :
 ∃ n,nAt L up = some n ∧ k + 1 ≤ until_ t k 59 ∧ NRun t (until_ t k 59 + 1) up (nMod L up fun n=>if peek t k == 94 then { n with enter:=n.enter ++ [t.extract (k + 1) (until_ t k 59)] } else { n with leave:=n.leave ++ [t.extract (k + 1) (until_ t k 59)] }) res:=by
 have h1 : isOpen (peek t k) = false ∧ (peek t k == 41 || peek t k == 93) = false ∧ (peek t k == 58) = false:=by
  rcases (by simpa using ho : peek t k = 94 ∨ peek t k = 36) with e | e <;> rw [e] <;> decide
 cases h with
 | done h=>omega
 | step _ hst hn=>?_
 unfold nstep at hst;simp only [h1.1,h1.2.1,h1.2.2,ho,Bool.false_eq_true,if_false,if_true] at hst
 split at hst
 ·rename_i hc
  simp only [Option.some.injEq,Prod.mk.injEq] at hst;obtain ⟨rfl,rfl,rfl⟩:=hst;obtain ⟨n,hn'⟩:=Option.isSome_iff_exists.1 hc.2;exact ⟨n,hn',hc.1,hn⟩
 simp at hst
theorem NRun.other {t : ByteArray} {k : Nat} {up : Int} {L res : List RN} (h : NRun t k up L res) (hk : k < t.size) (h1 : isOpen (peek t k) = false) (h2 : (peek t k == 41 || peek t k == 93) = false) (h3 : (peek t k == 58) = false) (h4 : (peek t k == 94 || peek t k == 36) = false) :
 NRun t (k + 1) up L res:=by
 cases h with
 | done h=>omega
 | step _ hst hn=>?_
 unfold nstep at hst;simp only [h1,h2,h3,h4,Bool.false_eq_true,if_false] at hst;simp only [Option.some.injEq,Prod.mk.injEq] at hst;obtain ⟨rfl,rfl,rfl⟩:=hst;exact hn
theorem NRun.end_ {t : ByteArray} {k : Nat} {up : Int} {L res : List RN} (h : NRun t k up L res) (hk : t.size ≤ k) : res = L:=by
 cases h with
 | done h=>rfl
 | step h _ _=>omega
end Ch
end Go.Proofs.YtnlbchmfcebeeaaGreat
