import Derived.Test.YtnlbchmfcebeeaaGreatTB6
import Derived.Deep.RegionWith
set_option maxHeartbeats 12800000
set_option maxRecDepth 100000
namespace Go.Proofs.YtnlbchmfcebeeaaGreat
open Go.RowKit
theorem cMo {P : Program} {f : FuncId} {args : Array Value} {w : World} {Q R : Ending → World → Prop} (h : Hid (Calls P f args w Q)) (k : ∀ e w',Q e w' → R e w') : Calls P f args w R:=Calls.mono h k
namespace Ch
def Up (ss : List St) : Prop:=∀ (k : Nat) (s : St),ss[k]? = some s → -1 ≤ s.parent ∧ s.parent < (k : Int)
theorem par_low {ss : List St} (h : Up ss) (i : Int) : -1 ≤ parAt ss i:=by
 unfold parAt
 cases q : stAt ss i with
 | none=>exact Int.le_refl _
 | some s=>obtain ⟨k,rfl,hs,_⟩:=stAt_some q;exact (h k s hs).1
theorem par_lt {ss : List St} (h : Up ss) {i : Int} (hi : -1 < i) : parAt ss i < i:=by
 unfold parAt
 cases q : stAt ss i with
 | none=>exact hi
 | some s=>obtain ⟨k,rfl,hs,_⟩:=stAt_some q;exact (h k s hs).2
def abvF (ss : List St) (high : Int) : Nat → Int → Bool
 | 0,_=>false
 | f + 1,i=>if decide (-1 < i) then (if parAt ss i == high then true else abvF ss high f (parAt ss i)) else false
def isAbove (ss : List St) (high low : Int) : Bool:=abvF ss high (low + 1).toNat low
theorem abvF_end (ss : List St) (high : Int) (f : Nat) {i : Int} (h : ¬ -1 < i) : abvF ss high f i = false:=by
 cases f with
 | zero=>rfl
 | succ f=>simp [abvF,h]
def encl (ss : List St) (d target : Int) : Bool:=kindAt ss d == 2 && isAbove ss d target
def domF (ss : List St) (target : Int) : Nat → Int → Int
 | 0,d=>d
 | f + 1,d=>if (d != -1) && !encl ss d target then domF ss target f (parAt ss d) else d
def dom (ss : List St) (state target : Int) : Int:=domF ss (place ss target) (parAt ss state + 1).toNat (parAt ss state)
theorem domF_end (ss : List St) (target : Int) (f : Nat) {d : Int} (h : ((d != -1) && !encl ss d target) = false) : domF ss target f d = d:=by
 cases f with
 | zero=>rfl
 | succ f=>simp only [domF];rw [h];rfl
end Ch
section
variable (ob oo : Nat) (w : World) (ss : List Ch.St)
theorem isAbove_any (high low : Int) (hU : Ch.Up ss) (hS : StR w ob oo ss) (hl : ss.length ≤ 1000) :
 Calls Tryz.prog 218 #[.pointer (some ⟨ob,oo,none⟩),.int .i64 high,.int .i64 low] w fun x w'=>x = .returned (.bool (Ch.isAbove ss high low)) ∧ w' = w:=by
 go_enter Tryz.func218,Tryz.ntmps218
 go_wp2_with fail
 go_loop [7] (fun v=>∃ (i : Int) (f : Nat),v = .int .i64 i ∧ i + 1 ≤ (f : Int) ∧ Hid (Ch.isAbove ss high low = Ch.abvF ss high f i)) (fun v=>(intOf v + 1).toNat)
 case atStart=>exact ⟨low,(low + 1).toNat,rfl,by omega,hid rfl⟩
 case round =>
  obtain ⟨i,f,rfl,hf,HE⟩:=hrel
  by_cases hlt : -1 < i
  ·obtain ⟨f,rfl⟩ : ∃ g,f = g + 1:=⟨f - 1,by omega⟩
   have E1:=hid (parent_any ob oo w ss i hS hl);have p1:=Ch.par_lt hU hlt
   cases q : Ch.parAt ss i == high with
   | true =>
     have HF:=hid (HE.out.trans (show _ = true by simp [Ch.abvF,hlt,q]));clear HE hS
     go_wp2_with fail
     refine hm E1 ?_;rintro x w1 ⟨rfl,rfl⟩;go_wp2;go_ret;exact ⟨by rw [HF.out];rfl,rfl⟩
   | false=>?_
   have HF:=hid (HE.out.trans (show _ = Ch.abvF ss high f (Ch.parAt ss i) by simp [Ch.abvF,hlt,q]));clear HE hS
   go_wp2_with fail
   refine hm E1 ?_;rintro x w1 ⟨rfl,rfl⟩;go_wp2
   go_round
   case rel=>exact ⟨_,f,rfl,by omega,HF⟩
   case measure=>simp [intOf];omega
  have HF:=hid (HE.out.trans (Ch.abvF_end ss high f hlt));clear HE hS
  go_wp2_with fail
  go_ret;exact ⟨by rw [HF.out];rfl,rfl⟩
theorem encl_any (d target : Int) (hU : Ch.Up ss) (hS : StR w ob oo ss) (hl : ss.length ≤ 1000) :
 Calls Tryz.prog 256 #[.pointer (some ⟨ob,oo,none⟩),.int .i64 d,.int .i64 target] w fun x w'=>x = .returned (.bool (Ch.encl ss d target)) ∧ w' = w:=by
 have E1:=hid (kind_any ob oo w ss d hS hl);have E2:=hid (isAbove_any ob oo w ss d target hU hS hl)
 cases q : Ch.kindAt ss d == 2 with
 | true =>
   rw [show Ch.encl ss d target = Ch.isAbove ss d target by simp [Ch.encl,q]]
   go_enter Tryz.func256,Tryz.ntmps256
   go_wp2_with fail
   refine hm E1 ?_;rintro x w1 ⟨rfl,rfl⟩
   have q' : (Ch.kindAt ss d != 2) = false:=by simp [bne,q]
   go_wp2_with fail
   refine hm E2 ?_;rintro x w1 ⟨rfl,rfl⟩;go_wp2;go_ret;exact ⟨rfl,rfl⟩
 | false=>?_
 rw [show Ch.encl ss d target = false by simp [Ch.encl,q]]
 have q' : (Ch.kindAt ss d != 2) = true:=by simp [bne,q]
 go_enter Tryz.func256,Tryz.ntmps256
 go_wp2_with fail
 refine hm E1 ?_;rintro x w1 ⟨rfl,rfl⟩;go_wp2;go_ret;exact ⟨rfl,rfl⟩
theorem domain_any (state tg gv gs gd ta : Int) (ac : Value) (hU : Ch.Up ss) (hS : StR w ob oo ss) (hl : ss.length ≤ 1000) :
 Calls Tryz.prog 222 #[.pointer (some ⟨ob,oo,none⟩),.agg #[.int .i64 state,.int .u8 tg,.int .u8 gv,.int .u8 gs,.int .i64 gd,ac,.int .u8 ta]] w fun x w'=>x = .returned (.int .i64 (Ch.dom ss state ta)) ∧ Kp (fun _=>False) w w':=by
 have hS1:=hS.alloc (.cells #[.int .i64 state,.int .u8 tg,.int .u8 gv,.int .u8 gs,.int .i64 gd,ac,.int .u8 ta] 209);have K1 : Kp (fun _=>False) w (w.alloc (.cells #[.int .i64 state,.int .u8 tg,.int .u8 gv,.int .u8 gs,.int .i64 gd,ac,.int .u8 ta] 209)):=(Kp.refl _ _).alloc _
 have z0 : (w.alloc (.cells #[.int .i64 state,.int .u8 tg,.int .u8 gv,.int .u8 gs,.int .i64 gd,ac,.int .u8 ta] 209)).cell? ⟨w.heap.size,0,none⟩ = some (.int .i64 state):=by rw [World.cell?,heap_alloc_new];rfl
 clear hS
 go_enter Tryz.func222,Tryz.ntmps222
 go_wp2_with fail
 generalize (w.alloc (.cells #[.int .i64 state,.int .u8 tg,.int .u8 gv,.int .u8 gs,.int .i64 gd,ac,.int .u8 ta] 209)) = w1 at hS1 K1 z0 ⊢;have E1:=hid (place_any ob oo w1 ss ta hS1 hl);have E2:=hid (parent_any ob oo w1 ss state hS1 hl);refine hm E1 ?_;rintro x w2 ⟨rfl,rfl⟩
 go_wp2_with fail
 refine hm E2 ?_;rintro x w2 ⟨rfl,rfl⟩
 go_wp2_with fail
 go_loop [6] (fun v=>∃ (d : Int) (f : Nat),v = .int .i64 d ∧ -1 ≤ d ∧ d + 1 ≤ (f : Int) ∧ Hid (Ch.dom ss state ta = Ch.domF ss (Ch.place ss ta) f d)) (fun v=>(intOf v + 1).toNat)
 case atStart=>exact ⟨_,(Ch.parAt ss state + 1).toNat,rfl,Ch.par_low hU _,by omega,hid rfl⟩
 case round =>
  obtain ⟨d,f,rfl,hd,hf,HE⟩:=hrel
  cases q1 : d != -1 with
  | false =>
    have HF:=hid (HE.out.trans (Ch.domF_end ss _ f (by rw [q1];rfl)));clear HE
    go_wp2_with fail
    go_ret;exact ⟨by rw [HF.out];rfl,K1⟩
  | true=>?_
  have hlt : -1 < d := by have : d ≠ -1 := by simpa using q1
                          omega
  obtain ⟨f,rfl⟩ : ∃ g,f = g + 1:=⟨f - 1,by omega⟩
  have E3:=hid (encl_any ob oo w2 ss d (Ch.place ss ta) hU hS1 hl);have E4:=hid (parent_any ob oo w2 ss d hS1 hl);have p1:=Ch.par_lt hU hlt;have p2:=Ch.par_low hU d
  cases q2 : Ch.encl ss d (Ch.place ss ta) with
  | true =>
    rw [q2] at E3;have HF:=hid (HE.out.trans (Ch.domF_end ss _ (f + 1) (by rw [q2];simp)));clear HE hS1
    go_wp2_with fail
    refine hm E3 ?_;rintro x w1 ⟨rfl,rfl⟩;go_wp2;go_ret;exact ⟨by rw [HF.out];rfl,K1⟩
  | false=>?_
  rw [q2] at E3;have HF:=hid (HE.out.trans (show _ = Ch.domF ss (Ch.place ss ta) f (Ch.parAt ss d) by simp only [Ch.domF];rw [q1,q2];rfl));clear HE hS1
  go_wp2_with fail
  refine hm E3 ?_;rintro x w1 ⟨rfl,rfl⟩
  go_wp2_with fail
  refine hm E4 ?_;rintro x w1 ⟨rfl,rfl⟩;go_wp2
  go_round
  case rel=>exact ⟨_,f,rfl,p2,by omega,HF⟩
  case measure=>simp [intOf];omega
end
theorem flat_at {α : Type} (f : α → List Value) (n : Nat) (hn : ∀ a,(f a).length = n) : ∀ (l : List α) (k j : Nat) (a : α),l[k]? = some a → j < n → (l.flatMap f)[k * n + j]? = (f a)[j]?:=by
 intro l
 induction l with
 | nil=>intro k j a h;simp at h
 | cons b l ih=>?_
 intro k j a h hj;rw [List.flatMap_cons]
 cases k with
 | zero=>simp at h;subst h;rw [List.getElem?_append_left (by rw [hn];omega)];congr 1;omega
 | succ k=>?_
 rw [List.getElem?_append_right (by rw [hn,Nat.succ_mul];omega),hn,← ih k j a (by simpa using h) hj]
 congr 1
 rw [Nat.succ_mul];omega
def oT (T : TypeId) : Prop:=T = 87 ∨ T = 119 ∨ T = 138
def Pl (w : World) (ob po : Nat) (ol : Ch.Ol) : Prop:=∃ sv tv bv lt lb B c T,(w.heap[ob]? = some (.cells c T (0,0)) ∧ oT T ∧ c[po + 2]? = some sv ∧ c[po + 3]? = some tv ∧ c[po + 4]? = some bv) ∧ OlF w B ol sv tv bv lt lb
def plT (T : TypeId) : Prop:=oT T ∨ T = 155 ∨ T = 209 ∨ T = 282 ∨ T = 255
theorem Pl.keep {w w' : World} {ob po : Nat} {ol : Ch.Ol} {S : Nat → Prop} (h : Pl w ob po ol) (k : Kp S w w') (hs : ∀ i cur T,w.heap[i]? = some (.cells cur T (0,0)) → plT T → ¬ S i) : Pl w' ob po ol:=by
 obtain ⟨sv,tv,bv,lt,lb,B,c,T,⟨hb,hT,c2,c3,c4⟩,F⟩:=h
 have hS : ∀ {base e size v n xs},w.ownsRow base e size v n xs → plT e → ∀ i,v.ownBlock = some i → ¬ S i:=by
  intro base e size v n xs ho he i hi;obtain ⟨cur,hc⟩:=own_block ho hi;exact hs i cur e hc he
 exact ⟨sv,tv,bv,lt,lb,B,c,T,⟨k.at_ hb (hs _ _ _ hb (.inl hT)),hT,c2,c3,c4⟩,k.owns F.sts (hS F.sts (.inr (.inl rfl))),F.mtr,k.owns F.trs (hS F.trs (.inr (.inr (.inl rfl)))),fun x hx=>k.owns (F.tra x hx) (hS (F.tra x hx) (.inr (.inr (.inr (.inr rfl))))),
  F.mbl,k.owns F.bls (hS F.bls (.inr (.inr (.inr (.inl rfl))))),fun x hx=>k.owns (F.bla x hx) (hS (F.bla x hx) (.inr (.inr (.inr (.inr rfl)))))⟩
theorem Pl.alloc {w : World} {ob po : Nat} {ol : Ch.Ol} (h : Pl w ob po ol) (o : Obj) : Pl (w.alloc o) ob po ol :=
 h.keep (S:=fun _=>False) ((Kp.refl _ _).alloc _) (fun _ _ _ _ _ x=>x)
theorem Pl.str {w : World} {ob po : Nat} {ol : Ch.Ol} (h : Pl w ob po ol) : StR w ob po ol.sts:=by
 obtain ⟨sv,tv,bv,lt,lb,B,c,T,⟨hb,hT,c2,c3,c4⟩,F⟩:=h;exact ⟨sv,B,by simp [World.cell?,hb,c2],F.sts⟩
theorem Pl.trLen {w : World} {ob po : Nat} {ol : Ch.Ol} (h : Pl w ob po ol) : ∃ ao cap,w.cell? ⟨ob,po + 3,none⟩ = some (.slice ao ol.trs.length cap):=by
 obtain ⟨sv,tv,bv,lt,lb,B,c,T,⟨hb,hT,c2,c3,c4⟩,F⟩:=h;obtain ⟨ao,cap,e⟩:=own_len F.trs;exact ⟨ao,cap,by rw [← F.mtr,List.length_map,← e];simp [World.cell?,hb,c3]⟩
theorem Pl.blLen {w : World} {ob po : Nat} {ol : Ch.Ol} (h : Pl w ob po ol) : ∃ ao cap,w.cell? ⟨ob,po + 4,none⟩ = some (.slice ao ol.bls.length cap):=by
 obtain ⟨sv,tv,bv,lt,lb,B,c,T,⟨hb,hT,c2,c3,c4⟩,F⟩:=h;obtain ⟨ao,cap,e⟩:=own_len F.bls;exact ⟨ao,cap,by rw [← F.mbl,List.length_map,← e];simp [World.cell?,hb,c4]⟩
theorem Pl.tr {w : World} {ob po : Nat} {ol : Ch.Ol} (h : Pl w ob po ol) {k : Nat} {t : Ch.Tr} (ht : ol.trs[k]? = some t) :
 ∃ g cap ac B,w.cell? ⟨ob,po + 3,none⟩ = some (.slice (some ⟨g,0,none⟩) ol.trs.length cap) ∧ (∀ j,j < 7 → w.cell? ⟨g,k * 7 + j,none⟩ = [Value.int .i64 t.state,.int .u8 t.trig,.int .u8 t.guard.var,.int .u8 t.guard.sign,.int .i64 t.guard.digit,ac,.int .u8 t.target][j]?) ∧
  w.ownsRow B 255 3 ac t.acts.length (acCells t.acts):=by
 obtain ⟨sv,tv,bv,lt,lb,B,c,T,⟨hb,hT,c2,c3,c4⟩,F⟩:=h;rw [← F.mtr,List.getElem?_map] at ht
 cases hx : lt[k]? with
 | none=>rw [hx] at ht;simp at ht
 | some x=>?_
 rw [hx] at ht;simp at ht;subst ht;have hk:=(List.getElem?_eq_some_iff.1 hx).1;obtain ⟨g,cap,rfl⟩:=own_form F.trs (by omega);refine ⟨g,cap,x.2,B,by rw [← F.mtr,List.length_map];simp [World.cell?,hb,c3],fun j hj=>?_,F.tra x (List.mem_of_getElem? hx)⟩;rw [F.trs.cellAt (k * 7 + j) (by omega)];exact flat_at _ 7 (by intro _;rfl) lt k j x hx hj
theorem Pl.bl {w : World} {ob po : Nat} {ol : Ch.Ol} (h : Pl w ob po ol) {k : Nat} {t : Ch.Bl} (ht : ol.bls[k]? = some t) :
 ∃ g cap ac B,w.cell? ⟨ob,po + 4,none⟩ = some (.slice (some ⟨g,0,none⟩) ol.bls.length cap) ∧ (∀ j,j < 3 → w.cell? ⟨g,k * 3 + j,none⟩ = [Value.int .i64 t.state,.int .u8 t.sign,ac][j]?) ∧
  w.ownsRow B 255 3 ac t.acts.length (acCells t.acts):=by
 obtain ⟨sv,tv,bv,lt,lb,B,c,T,⟨hb,hT,c2,c3,c4⟩,F⟩:=h;rw [← F.mbl,List.getElem?_map] at ht
 cases hx : lb[k]? with
 | none=>rw [hx] at ht;simp at ht
 | some x=>?_
 rw [hx] at ht;simp at ht;subst ht;have hk:=(List.getElem?_eq_some_iff.1 hx).1;obtain ⟨g,cap,rfl⟩:=own_form F.bls (by omega);refine ⟨g,cap,x.2,B,by rw [← F.mbl,List.length_map];simp [World.cell?,hb,c4],fun j hj=>?_,F.bla x (List.mem_of_getElem? hx)⟩;rw [F.bls.cellAt (k * 3 + j) (by omega)];exact flat_at _ 3 (by intro _;rfl) lb k j x hx hj
structure Ch.Ma where
 s : Ch.Sd
 q : List Int
 out : List Int
def MaB (w : World) (mb ob po : Nat) (s : Ch.Sd) (qv ov : Value) : Prop:=SdB w mb [.pointer (some ⟨ob,po,none⟩)] s [qv,ov] 149
section
variable {w : World} {mb ob po : Nat} {s : Ch.Sd} {qv ov : Value}
theorem MaB.plan (h : MaB w mb ob po s qv ov) : w.cell? ⟨mb,0,none⟩ = some (.pointer (some ⟨ob,po,none⟩)):=by
 unfold MaB SdB SeB at h;simp [World.cell?,h]
theorem MaB.queue (h : MaB w mb ob po s qv ov) (hw : s.Wf) : w.cell? ⟨mb,37,none⟩ = some qv:=by
 have:=SdB.at_ h hw 20;simpa [sdTail,pastCells,hw.2,List.getElem?_append] using this
theorem MaB.out (h : MaB w mb ob po s qv ov) (hw : s.Wf) : w.cell? ⟨mb,38,none⟩ = some ov:=by
 have:=SdB.at_ h hw 21;simpa [sdTail,pastCells,hw.2,List.getElem?_append] using this
theorem MaB.setQ (h : MaB w mb ob po s qv ov) (hw : s.Wf) (v : Value) : MaB (w.setCell ⟨mb,37,none⟩ v) mb ob po s v ov:=by
 have:=SdB.set_ h hw 20 v;unfold MaB SdB
 have e : (sdTail s ++ [qv,ov]).set 20 v = sdTail s ++ [v,ov]:=by
  have hl : (sdTail s).length = 20:=by simp [sdTail,pastCells,hw.2]
  rw [List.set_append_right _ _ (by omega),hl];rfl
 rw [e] at this;simpa using this
theorem MaB.setOut (h : MaB w mb ob po s qv ov) (hw : s.Wf) (v : Value) : MaB (w.setCell ⟨mb,38,none⟩ v) mb ob po s qv v:=by
 have:=SdB.set_ h hw 21 v;unfold MaB SdB
 have e : (sdTail s ++ [qv,ov]).set 21 v = sdTail s ++ [qv,v]:=by
  have hl : (sdTail s).length = 20:=by simp [sdTail,pastCells,hw.2]
  rw [List.set_append_right _ _ (by omega),hl];rfl
 rw [e] at this;simpa using this
end
def km (B mb : Nat) (w : World) (k : Nat) : Prop:=k = mb ∨ (B ≤ k ∧ ∃ cur,w.heap[k]? = some (.cells cur 5 (0,0)))
theorem Km.trans {B mb : Nat} {a b c : World} (h : Kp (km B mb a) a b) (k : Kp (km B mb b) b c) : Kp (km B mb a) a c :=
 h.trans' k fun i hi x=>by
  by_cases q : km B mb a i
  ·exact q
  rcases x with x | ⟨x,cur,y⟩
  ·exact .inl x
  rw [h.block i hi q] at y;exact .inr ⟨x,cur,y⟩
theorem Pl.km {w w' : World} {B mb ob po : Nat} {ol : Ch.Ol} {c : Array Value} (h : Pl w ob po ol) (k : Kp (km B mb w) w w') (hm : w.heap[mb]? = some (.cells c 149 (0,0))) : Pl w' ob po ol :=
 h.keep k fun i cur T hi hT x=>by
  rcases x with rfl | ⟨_,cur',y⟩
  ·rw [hm] at hi;simp at hi;obtain ⟨_,rfl⟩:=hi;revert hT;unfold plT oT;decide
  rw [y] at hi;simp at hi;obtain ⟨_,rfl⟩:=hi;revert hT;unfold plT oT;decide
def Mm (w : World) (B mb ob po : Nat) (m : Ch.Ma) : Prop:=∃ qv ov,MaB w mb ob po m.s qv ov ∧ OwnsQ w B qv (byCells m.q) ∧ OwnsQ w B ov (byCells m.out) ∧ Apart qv ov
namespace Ch
def Sd.Ok (s : Sd) : Prop:=s.Wf ∧ ((-99 ≤ s.x ∧ s.x ≤ 99) ∧ (-99 ≤ s.y ∧ s.y ≤ 99) ∧ (-99 ≤ s.z ∧ s.z ≤ 99)) ∧ s.tm.size ≤ 17
def Ac.Ok (a : Ac) : Prop:=0 ≤ a.digit ∧ a.digit ≤ 9
theorem var_in {s : Sd} (h : s.Ok) (c : Int) : -99 ≤ var s c ∧ var s c ≤ 99:=by
 obtain ⟨_,⟨h1,h2,h3⟩,_⟩:=h;unfold var
 split
 ·exact h1
 split
 ·exact h2
 exact h3
def newVal (s : Sd) (a : Ac) : Int:=if a.sign == 43 then var s a.letter + a.digit else if a.sign == 45 then var s a.letter - a.digit else a.digit
def setV (s : Sd) (c n : Int) : Sd:=if inB n then setVar s c n else s
theorem setV_ok {s : Sd} (h : s.Ok) (c n : Int) : (setV s c n).Ok:=by
 unfold setV
 split
 ·rename_i q
  simp [inB] at q;obtain ⟨h0,⟨h1,h2,h3⟩,h4⟩:=h;unfold setVar
  split
  ·exact ⟨h0,⟨q,h2,h3⟩,h4⟩
  split
  ·exact ⟨h0,⟨h1,q,h3⟩,h4⟩
  exact ⟨h0,⟨h1,h2,q⟩,h4⟩
 exact h
end Ch
section
variable (w : World) (B mb ob po : Nat)
theorem raise_any (m : Ch.Ma) (c : Int) (h : Mm w B mb ob po m) (hw : m.s.Wf) (hB : B ≤ w.heap.size) (hq : m.q.length ≤ 1000000000) :
 Calls Tryz.prog 183 #[.pointer (some ⟨mb,0,none⟩),.int .u8 c] w fun x w'=>x = .returned (.tuple #[]) ∧ Mm w' B mb ob po { m with q:=m.q ++ [c] } ∧ Kp (km B mb w) w w':=by
 obtain ⟨qv,ov,hm,oq,oo,ap⟩:=h;have cq:=hm.queue hw;have HM:=hid hm;clear hm
 go_enter Tryz.func183,Tryz.ntmps183
 go_wp2_with (at_builtin;refine wpList_append_q rfl (.tmp 8) (.tmp 10) rfl rfl (oq.alloc _) ⟨w.heap.size,0,none⟩ 1 1 [.int .u8 c] rfl rfl (by decide) (by exact cell1_new _ _ _) (by intro u hu;simp at hu;subst hu;rfl) (by simp [byCells];omega) (by simp;omega) ?_)
 intro ga oa ca w3 q3 g3 hb3;have KG : Kp (fun i=>qv.ownBlock = some i) w w3:=((Kp.refl _ _).alloc _).grown g3 (fun i hi _=>hi);have hm3 : MaB w3 mb ob po m.s qv ov:=SdB.keep HM.out KG (oq.ne HM.out (by decide));have oo3:=oo.keep KG (fun i hi x=>ap i x hi)
 have hap : Apart (.slice (some ⟨ga,oa,none⟩) ((byCells m.q).length + 1) ca) ov:=by
  intro i hi x;simp [Value.ownBlock] at hi;subst hi
  rcases hb3 with hb3 | hb3
  ·exact ap _ hb3 x
  have:=(oo.lt _ x).2;try simp at hb3
  omega
 have KA : Kp (km B mb w) w w3:=(Kp.refl _ _).trans' KG (fun i hi x=>.inr ⟨(oq.lt i x).1,oq.block x⟩);have cq3:=hm3.queue hw;have fr3:=SdB.free hm3 37;have HH:=hid (And.intro hm3 (And.intro q3 (And.intro oo3 (And.intro hap KA))));clear HM KG hm3 oo3 hap KA oq oo ap q3 g3 hb3 cq;go_wp2
 go_end0
 obtain ⟨hm3,q3,oo3,hap,KA⟩:=HH.out;have n1:=q3.ne hm3 (by decide);have n2:=oo3.ne hm3 (by decide);have KS : Kp (fun k=>k = mb) w3 (w3.setCell ⟨mb,37,none⟩ (.slice (some ⟨ga,oa,none⟩) ((byCells m.q).length + 1) ca)):=(Kp.refl _ _).setCell (by intro _;rfl) _;refine ⟨rfl,⟨_,ov,hm3.setQ hw _,?_,oo3.keep KS (fun i hi x=>by subst x;exact n2 hi),hap⟩,KA.trans' KS (fun i _ x=>.inl x)⟩;rw [byCells_snoc];exact q3.keep KS (fun i hi x=>by subst x;exact n1 hi)
theorem change_any (m : Ch.Ma) (a : Ch.Ac) (h : Mm w B mb ob po m) (hs : m.s.Ok) (ha : a.Ok) :
 Calls Tryz.prog 225 #[.pointer (some ⟨mb,0,none⟩),.agg #[.int .u8 a.sign,.int .u8 a.letter,.int .i64 a.digit]] w fun x w'=>x = .returned (.bool (Ch.inB (Ch.newVal m.s a))) ∧ Mm w' B mb ob po { m with s:=Ch.setV m.s a.letter (Ch.newVal m.s a) } ∧ Kp (km B mb w) w w':=by
 obtain ⟨qv,ov,hm,oq,oo,ap⟩:=h;have K1 : Kp (fun _=>False) w (w.alloc (.cells #[.int .u8 a.sign,.int .u8 a.letter,.int .i64 a.digit] 255)):=(Kp.refl _ _).alloc _;have e1:=heap_alloc_new w (.cells #[.int .u8 a.sign,.int .u8 a.letter,.int .i64 a.digit] 255);have hm1 : MaB (w.alloc (.cells #[.int .u8 a.sign,.int .u8 a.letter,.int .i64 a.digit] 255)) mb ob po m.s qv ov:=SdB.keep hm K1 (fun x=>x)
 have hne : w.heap.size ≠ mb:=fun e=>by have:=SdB.lt hm;omega
 have HQ:=hid (And.intro (oq.alloc (.cells #[.int .u8 a.sign,.int .u8 a.letter,.int .i64 a.digit] 255)) (And.intro (oo.alloc (.cells #[.int .u8 a.sign,.int .u8 a.letter,.int .i64 a.digit] 255)) ap));obtain ⟨hd0,hd9⟩:=ha;have hv:=Ch.var_in hs a.letter;have hw:=hs.1
 have Fin : ∀ (w' : World),SdB w' mb [.pointer (some ⟨ob,po,none⟩)] (if Ch.inB (Ch.newVal m.s a) then Ch.setVar m.s a.letter (Ch.newVal m.s a) else m.s) [qv,ov] 149 → Kp (fun k=>k = mb) (w.alloc (.cells #[.int .u8 a.sign,.int .u8 a.letter,.int .i64 a.digit] 255)) w' →
  Mm w' B mb ob po { m with s:=Ch.setV m.s a.letter (Ch.newVal m.s a) } ∧ Kp (km B mb w) w w':=by
  intro w' hS' hK;obtain ⟨q1,q2,q3⟩:=HQ.out;have n1:=q1.ne hm1 (by decide);have n2:=q2.ne hm1 (by decide);exact ⟨⟨qv,ov,hS',q1.keep hK (fun i hi x=>by subst x;exact n1 hi),q2.keep hK (fun i hi x=>by subst x;exact n2 hi),q3⟩,((Kp.refl (km B mb w) w).trans' K1 (fun _ _ x=>x.elim)).trans' hK (fun i _ x=>.inl x)⟩
 have HFin:=hid Fin;clear Fin HQ oq oo ap hm
 have c0 : (w.alloc (.cells #[.int .u8 a.sign,.int .u8 a.letter,.int .i64 a.digit] 255)).cell? ⟨w.heap.size,0,none⟩ = some (.int .u8 a.sign):=by rw [World.cell?,e1];rfl
 have c1 : (w.alloc (.cells #[.int .u8 a.sign,.int .u8 a.letter,.int .i64 a.digit] 255)).cell? ⟨w.heap.size,1,none⟩ = some (.int .u8 a.letter):=by rw [World.cell?,e1];rfl
 have c2 : (w.alloc (.cells #[.int .u8 a.sign,.int .u8 a.letter,.int .i64 a.digit] 255)).cell? ⟨w.heap.size,2,none⟩ = some (.int .i64 a.digit):=by rw [World.cell?,e1];rfl
 clear e1 K1
 have nv : Ch.newVal m.s a = if a.sign == 43 then Ch.var m.s a.letter + a.digit else if a.sign == 45 then Ch.var m.s a.letter - a.digit else a.digit:=rfl
 cases q1 : a.sign == 43 with
 | true =>
   have hn : Ch.newVal m.s a = Ch.var m.s a.letter + a.digit:=by rw [nv,q1];rfl
   have hwi : IntKind.i64.wrap (Ch.var m.s a.letter + a.digit) = Ch.var m.s a.letter + a.digit:=i64_wrap_in ⟨by omega,by omega⟩;rw [hn] at HFin ⊢;clear nv hn
   go_enter Tryz.func225,Tryz.ntmps225
   go_upto_region 4 with (fail)
   generalize (w.alloc (.cells #[.int .u8 a.sign,.int .u8 a.letter,.int .i64 a.digit] 255)) = w1 at hm1 HFin c0 c1 c2 ⊢;have E1:=hid (variable_any w1.drew mb 1 [.pointer (some ⟨ob,po,none⟩)] m.s [qv,ov] 149 a.letter (by exact hm1) hw rfl)
   go_region_with (go_at_call 257;refine cMo E1 ?_;rintro x w2 ⟨rfl,rfl⟩)
   all_goals
    have KD : Kp (fun k=>k = mb) w1 w1.drew.drew:=(Kp.refl _ _).drew.drew;have E2:=hid (setVariable_any w1.drew.drew mb 1 [.pointer (some ⟨ob,po,none⟩)] m.s [qv,ov] 149 a.letter (Ch.var m.s a.letter + a.digit) (by exact hm1) hw rfl)
    go_upto_region 7 with (fail)
    go_region_with (go_at_call 258;refine cMo E2 ?_;rintro x w3 ⟨rfl,h3,K3⟩;have H3:=hid (And.intro h3 K3);clear h3 K3)
    all_goals
     obtain ⟨h3,K3⟩:=H3.out;go_wp2;go_ret;exact ⟨rfl,HFin.out _ h3 (KD.trans K3)⟩
 | false=>?_
 cases q2 : a.sign == 45 with
 | true =>
   have hn : Ch.newVal m.s a = Ch.var m.s a.letter - a.digit:=by rw [nv,q1,q2];rfl
   have hwi : IntKind.i64.wrap (Ch.var m.s a.letter - a.digit) = Ch.var m.s a.letter - a.digit:=i64_wrap_in ⟨by omega,by omega⟩;rw [hn] at HFin ⊢;clear nv hn
   go_enter Tryz.func225,Tryz.ntmps225
   go_upto_region 6 with (fail)
   generalize (w.alloc (.cells #[.int .u8 a.sign,.int .u8 a.letter,.int .i64 a.digit] 255)) = w1 at hm1 HFin c0 c1 c2 ⊢;have E1:=hid (variable_any w1.drew mb 1 [.pointer (some ⟨ob,po,none⟩)] m.s [qv,ov] 149 a.letter (by exact hm1) hw rfl)
   go_region_with (go_at_call 257;refine cMo E1 ?_;rintro x w2 ⟨rfl,rfl⟩)
   all_goals
    have KD : Kp (fun k=>k = mb) w1 w1.drew.drew:=(Kp.refl _ _).drew.drew;have E2:=hid (setVariable_any w1.drew.drew mb 1 [.pointer (some ⟨ob,po,none⟩)] m.s [qv,ov] 149 a.letter (Ch.var m.s a.letter - a.digit) (by exact hm1) hw rfl)
    go_upto_region 7 with (fail)
    go_region_with (go_at_call 258;refine cMo E2 ?_;rintro x w3 ⟨rfl,h3,K3⟩;have H3:=hid (And.intro h3 K3);clear h3 K3)
    all_goals
     obtain ⟨h3,K3⟩:=H3.out;go_wp2;go_ret;exact ⟨rfl,HFin.out _ h3 (KD.trans K3)⟩
 | false=>?_
 have hn : Ch.newVal m.s a = a.digit:=by rw [nv,q1,q2];rfl
 rw [hn] at HFin ⊢;clear nv hn
 go_enter Tryz.func225,Tryz.ntmps225
 go_upto_region 7 with (fail)
 generalize (w.alloc (.cells #[.int .u8 a.sign,.int .u8 a.letter,.int .i64 a.digit] 255)) = w1 at hm1 HFin c0 c1 c2 ⊢;have KD : Kp (fun k=>k = mb) w1 w1.drew:=(Kp.refl _ _).drew;have E2:=hid (setVariable_any w1.drew mb 1 [.pointer (some ⟨ob,po,none⟩)] m.s [qv,ov] 149 a.letter (a.digit) (by exact hm1) hw rfl)
 go_region_with (go_at_call 258;refine cMo E2 ?_;rintro x w3 ⟨rfl,h3,K3⟩;have H3:=hid (And.intro h3 K3);clear h3 K3)
 all_goals
  obtain ⟨h3,K3⟩:=H3.out;go_wp2;go_ret;exact ⟨rfl,HFin.out _ h3 (KD.trans K3)⟩
end
end Go.Proofs.YtnlbchmfcebeeaaGreat
