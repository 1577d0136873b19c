import Derived.Test.YtnlbchmfcebeeaaGreatTB6
import Derived.Deep.RegionWith
set_option maxHeartbeats 12800000
set_option maxRecDepth 100000
namespace Go.Proofs.YtnlbchmfcebeeaaGreat
open Go.RowKit
theorem cMo {P : Program} {f : FuncId} {args : Array Value} {w : World} {Q R : Ending → World → Prop} (h : Hid (Calls P f args w Q)) (k : ∀ e w',Q e w' → R e w') : Calls P f args w R:=Calls.mono h k
namespace Ch
def Up (ss : List St) : Prop:=∀ (k : Nat) (s : St),ss[k]? = some s → -1 ≤ s.parent ∧ s.parent < (k : Int)
theorem par_low {ss : List St} (h : Up ss) (i : Int) : -1 ≤ parAt ss i:=by
 unfold parAt
 cases q : stAt ss i with
 | none=>exact Int.le_refl _
 | some s=>obtain ⟨k,rfl,hs,_⟩:=stAt_some q;exact (h k s hs).1
theorem par_lt {ss : List St} (h : Up ss) {i : Int} (hi : -1 < i) : parAt ss i < i:=by
 unfold parAt
 cases q : stAt ss i with
 | none=>exact hi
 | some s=>obtain ⟨k,rfl,hs,_⟩:=stAt_some q;exact (h k s hs).2
def abvF (ss : List St) (high : Int) : Nat → Int → Bool
 | 0,_=>false
 | f + 1,i=>if decide (-1 < i) then (if parAt ss i == high then true else abvF ss high f (parAt ss i)) else false
def isAbove (ss : List St) (high low : Int) : Bool:=abvF ss high (low + 1).toNat low
theorem abvF_end (ss : List St) (high : Int) (f : Nat) {i : Int} (h : ¬ -1 < i) : abvF ss high f i = false:=by
 cases f with
 | zero=>rfl
 | succ f=>simp [abvF,h]
def encl (ss : List St) (d target : Int) : Bool:=kindAt ss d == 2 && isAbove ss d target
def domF (ss : List St) (target : Int) : Nat → Int → Int
 | 0,d=>d
 | f + 1,d=>if (d != -1) && !encl ss d target then domF ss target f (parAt ss d) else d
def dom (ss : List St) (state target : Int) : Int:=domF ss (place ss target) (parAt ss state + 1).toNat (parAt ss state)
end Ch
theorem flat_at {α : Type} (f : α → List Value) (n : Nat) (hn : ∀ a,(f a).length = n) : ∀ (l : List α) (k j : Nat) (a : α),l[k]? = some a → j < n → (l.flatMap f)[k * n + j]? = (f a)[j]?:=by
 intro l
 induction l with
 | nil=>intro k j a h;simp at h
 | cons b l ih=>?_
 intro k j a h hj;rw [List.flatMap_cons]
 cases k with
 | zero=>simp at h;subst h;rw [List.getElem?_append_left (by rw [hn];omega)];congr 1;omega
 | succ k=>?_
 rw [List.getElem?_append_right (by rw [hn,Nat.succ_mul];omega),hn,← ih k j a (by simpa using h) hj]
 congr 1
 rw [Nat.succ_mul];omega
def oT (T : TypeId) : Prop:=T = 87 ∨ T = 119 ∨ T = 138
def Pl (w : World) (ob po : Nat) (ol : Ch.Ol) : Prop:=∃ sv tv bv lt lb B c T,(w.heap[ob]? = some (.cells c T (0,0)) ∧ oT T ∧ c[po + 2]? = some sv ∧ c[po + 3]? = some tv ∧ c[po + 4]? = some bv) ∧ OlF w B ol sv tv bv lt lb
def plT (T : TypeId) : Prop:=oT T ∨ T = 155 ∨ T = 209 ∨ T = 282 ∨ T = 255
theorem Pl.keep {w w' : World} {ob po : Nat} {ol : Ch.Ol} {S : Nat → Prop} (h : Pl w ob po ol) (k : Kp S w w') (hs : ∀ i cur T,w.heap[i]? = some (.cells cur T (0,0)) → plT T → ¬ S i) : Pl w' ob po ol:=by
 obtain ⟨sv,tv,bv,lt,lb,B,c,T,⟨hb,hT,c2,c3,c4⟩,F⟩:=h
 have hS : ∀ {base e size v n xs},w.ownsRow base e size v n xs → plT e → ∀ i,v.ownBlock = some i → ¬ S i:=by
  intro base e size v n xs ho he i hi;obtain ⟨cur,hc⟩:=own_block ho hi;exact hs i cur e hc he
 exact ⟨sv,tv,bv,lt,lb,B,c,T,⟨k.at_ hb (hs _ _ _ hb (.inl hT)),hT,c2,c3,c4⟩,k.owns F.sts (hS F.sts (.inr (.inl rfl))),F.mtr,k.owns F.trs (hS F.trs (.inr (.inr (.inl rfl)))),fun x hx=>k.owns (F.tra x hx) (hS (F.tra x hx) (.inr (.inr (.inr (.inr rfl))))),
  F.mbl,k.owns F.bls (hS F.bls (.inr (.inr (.inr (.inl rfl))))),fun x hx=>k.owns (F.bla x hx) (hS (F.bla x hx) (.inr (.inr (.inr (.inr rfl)))))⟩
theorem Pl.alloc {w : World} {ob po : Nat} {ol : Ch.Ol} (h : Pl w ob po ol) (o : Obj) : Pl (w.alloc o) ob po ol :=
 h.keep (S:=fun _=>False) ((Kp.refl _ _).alloc _) (fun _ _ _ _ _ x=>x)
theorem Pl.str {w : World} {ob po : Nat} {ol : Ch.Ol} (h : Pl w ob po ol) : StR w ob po ol.sts:=by
 obtain ⟨sv,tv,bv,lt,lb,B,c,T,⟨hb,hT,c2,c3,c4⟩,F⟩:=h;exact ⟨sv,B,by simp [World.cell?,hb,c2],F.sts⟩
theorem Pl.tr {w : World} {ob po : Nat} {ol : Ch.Ol} (h : Pl w ob po ol) {k : Nat} {t : Ch.Tr} (ht : ol.trs[k]? = some t) :
 ∃ g cap ac B,w.cell? ⟨ob,po + 3,none⟩ = some (.slice (some ⟨g,0,none⟩) ol.trs.length cap) ∧ (∀ j,j < 7 → w.cell? ⟨g,k * 7 + j,none⟩ = [Value.int .i64 t.state,.int .u8 t.trig,.int .u8 t.guard.var,.int .u8 t.guard.sign,.int .i64 t.guard.digit,ac,.int .u8 t.target][j]?) ∧
  w.ownsRow B 255 3 ac t.acts.length (acCells t.acts):=by
 obtain ⟨sv,tv,bv,lt,lb,B,c,T,⟨hb,hT,c2,c3,c4⟩,F⟩:=h;rw [← F.mtr,List.getElem?_map] at ht
 cases hx : lt[k]? with
 | none=>rw [hx] at ht;simp at ht
 | some x=>?_
 rw [hx] at ht;simp at ht;subst ht;have hk:=(List.getElem?_eq_some_iff.1 hx).1;obtain ⟨g,cap,rfl⟩:=own_form F.trs (by omega);refine ⟨g,cap,x.2,B,by rw [← F.mtr,List.length_map];simp [World.cell?,hb,c3],fun j hj=>?_,F.tra x (List.mem_of_getElem? hx)⟩;rw [F.trs.cellAt (k * 7 + j) (by omega)];exact flat_at _ 7 (by intro _;rfl) lt k j x hx hj
theorem Pl.bl {w : World} {ob po : Nat} {ol : Ch.Ol} (h : Pl w ob po ol) {k : Nat} {t : Ch.Bl} (ht : ol.bls[k]? = some t) :
 ∃ g cap ac B,w.cell? ⟨ob,po + 4,none⟩ = some (.slice (some ⟨g,0,none⟩) ol.bls.length cap) ∧ (∀ j,j < 3 → w.cell? ⟨g,k * 3 + j,none⟩ = [Value.int .i64 t.state,.int .u8 t.sign,ac][j]?) ∧
  w.ownsRow B 255 3 ac t.acts.length (acCells t.acts):=by
 obtain ⟨sv,tv,bv,lt,lb,B,c,T,⟨hb,hT,c2,c3,c4⟩,F⟩:=h;rw [← F.mbl,List.getElem?_map] at ht
 cases hx : lb[k]? with
 | none=>rw [hx] at ht;simp at ht
 | some x=>?_
 rw [hx] at ht;simp at ht;subst ht;have hk:=(List.getElem?_eq_some_iff.1 hx).1;obtain ⟨g,cap,rfl⟩:=own_form F.bls (by omega);refine ⟨g,cap,x.2,B,by rw [← F.mbl,List.length_map];simp [World.cell?,hb,c4],fun j hj=>?_,F.bla x (List.mem_of_getElem? hx)⟩;rw [F.bls.cellAt (k * 3 + j) (by omega)];exact flat_at _ 3 (by intro _;rfl) lb k j x hx hj
structure Ch.Ma where
 s : Ch.Sd
 q : List Int
 out : List Int
def MaB (w : World) (mb ob po : Nat) (s : Ch.Sd) (qv ov : Value) : Prop:=SdB w mb [.pointer (some ⟨ob,po,none⟩)] s [qv,ov] 149
section
variable {w : World} {mb ob po : Nat} {s : Ch.Sd} {qv ov : Value}
theorem MaB.out (h : MaB w mb ob po s qv ov) (hw : s.Wf) : w.cell? ⟨mb,38,none⟩ = some ov:=by
 have:=SdB.at_ h hw 21;simpa [sdTail,pastCells,hw.2,List.getElem?_append] using this
theorem MaB.setQ (h : MaB w mb ob po s qv ov) (hw : s.Wf) (v : Value) : MaB (w.setCell ⟨mb,37,none⟩ v) mb ob po s v ov:=by
 have:=SdB.set_ h hw 20 v;unfold MaB SdB
 have e : (sdTail s ++ [qv,ov]).set 20 v = sdTail s ++ [v,ov]:=by
  have hl : (sdTail s).length = 20:=by simp [sdTail,pastCells,hw.2]
  rw [List.set_append_right _ _ (by omega),hl];rfl
 rw [e] at this;simpa using this
end
def km (B mb : Nat) (w : World) (k : Nat) : Prop:=k = mb ∨ (B ≤ k ∧ ∃ cur,w.heap[k]? = some (.cells cur 5 (0,0)))
theorem Km.trans {B mb : Nat} {a b c : World} (h : Kp (km B mb a) a b) (k : Kp (km B mb b) b c) : Kp (km B mb a) a c :=
 h.trans' k fun i hi x=>by
  by_cases q : km B mb a i
  ·exact q
  rcases x with x | ⟨x,cur,y⟩
  ·exact .inl x
  rw [h.block i hi q] at y;exact .inr ⟨x,cur,y⟩
def Mm (w : World) (B mb ob po : Nat) (m : Ch.Ma) : Prop:=∃ qv ov,MaB w mb ob po m.s qv ov ∧ OwnsQ w B qv (byCells m.q) ∧ OwnsQ w B ov (byCells m.out) ∧ Apart qv ov
namespace Ch
def Sd.Ok (s : Sd) : Prop:=s.Wf ∧ ((-99 ≤ s.x ∧ s.x ≤ 99) ∧ (-99 ≤ s.y ∧ s.y ≤ 99) ∧ (-99 ≤ s.z ∧ s.z ≤ 99)) ∧ s.tm.size ≤ 17
def Ac.Ok (a : Ac) : Prop:=0 ≤ a.digit ∧ a.digit ≤ 9
def newVal (s : Sd) (a : Ac) : Int:=if a.sign == 43 then var s a.letter + a.digit else if a.sign == 45 then var s a.letter - a.digit else a.digit
def setV (s : Sd) (c n : Int) : Sd:=if inB n then setVar s c n else s
theorem setV_ok {s : Sd} (h : s.Ok) (c n : Int) : (setV s c n).Ok:=by
 unfold setV
 split
 ·rename_i q
  simp [inB] at q;obtain ⟨h0,⟨h1,h2,h3⟩,h4⟩:=h;unfold setVar
  split
  ·exact ⟨h0,⟨q,h2,h3⟩,h4⟩
  split
  ·exact ⟨h0,⟨h1,q,h3⟩,h4⟩
  exact ⟨h0,⟨h1,h2,q⟩,h4⟩
 exact h
end Ch
end Go.Proofs.YtnlbchmfcebeeaaGreat
