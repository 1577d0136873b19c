import Derived.Test.YtnlbchmfcebeeaaGreatTB6
import Derived.Deep.RegionWith
import Derived.Test.YtnlbchmfcebeeaaGreatTLg
set_option maxHeartbeats 12800000
set_option maxRecDepth 100000
namespace Go.Proofs.YtnlbchmfcebeeaaGreat
open Go.Proofs.Tryz Ch
open Go.RowKit
theorem br {P : Program} {f : FuncId} {args : Array Value} {w : World} {Q R : Ending -> World -> Prop} (h : Hid (Calls P f args w Q)) (k : ∀ e w',Q e w' -> R e w') : Calls P f args w R:=Calls.mono h k
namespace Ch
def Up (ss : List St) : Prop:=∀ (k : Nat) (s : St),ss[k]? = some s -> -1 <= s.parent /\ s.parent < (k : Int)
theorem d_ {ss : List St} (h : Up ss) (i : Int) : -1 <= aq ss i:=by
 unfold aq
 cases q : kU ss i with
 | none=>exact Int.le_refl _
 | some s=>obtain ⟨k,rfl,hs,_⟩:=fQ q;exact (h k s hs).1
theorem eZ {ss : List St} (h : Up ss) {i : Int} (hi : -1 < i) : aq ss i < i:=by
 unfold aq
 cases q : kU ss i with
 | none=>exact hi
 | some s=>obtain ⟨k,rfl,hs,_⟩:=fQ q;exact (h k s hs).2
def nE (ss : List St) (high : Int) : Nat -> Int -> Bool
 | 0,_=>false
 | f + 1,i=>if decide (-1 < i) then (if aq ss i == high then true else nE ss high f (aq ss i)) else false
def an (ss : List St) (high low : Int) : Bool:=nE ss high (low + 1).toNat low
theorem jK (ss : List St) (high : Int) (f : Nat) {i : Int} (h : ¬ -1 < i) : nE ss high f i = false:=by
 cases f with
 | zero=>rfl
 | succ f=>simp [nE,h]
def tA (ss : List St) (d target : Int) : Bool:=ay ss d == 2 && an ss d target
def mF (ss : List St) (target : Int) : Nat -> Int -> Int
 | 0,d=>d
 | f + 1,d=>if (d != -1) && !tA ss d target then mF ss target f (aq ss d) else d
def dom (ss : List St) (state target : Int) : Int:=mF ss (place ss target) (aq ss state + 1).toNat (aq ss state)
theorem xn (ss : List St) (target : Int) (f : Nat) {d : Int} (h : ((d != -1) && !tA ss d target) = false) : mF ss target f d = d:=by
 cases f with
 | zero=>rfl
 | succ f=>simp only [mF];rw [h];rfl
end Ch
section
variable (ob oo : Nat) (w : World) (ss : List St)
theorem gX (high low : Int) (hU : Up ss) (hS : ib w ob oo ss) (hl : ss.length <= 1000) :
 Calls prog 218 #[.pointer (some ⟨ob,oo,none⟩),.int .i64 high,.int .i64 low] w fun x w'=>x = .returned (.bool (an ss high low)) /\ w' = w:=by
 go_enter func218,ntmps218
 go_wp2_with fail
 go_loop [7] (fun v=>∃ (i : Int) (f : Nat),v = .int .i64 i /\ i + 1 <= (f : Int) /\ Hid (an ss high low = nE ss high f i)) (fun v=>(intOf v + 1).toNat)
 case atStart=>exact ⟨low,(low + 1).toNat,rfl,by omega,hid rfl⟩
 case round =>
  obtain ⟨i,f,rfl,hf,HE⟩:=hrel
  by_cases hlt : -1 < i
  ·obtain ⟨f,rfl⟩ : ∃ g,f = g + 1:=⟨f - 1,by omega⟩
   have E1:=hid (c8 ob oo w ss i hS hl);have p1:=eZ hU hlt
   cases q : aq ss i == high with
   | true =>
     have HF:=hid (HE.out.trans (show _ = true by simp [nE,hlt,q]));clear HE hS
     go_wp2_with fail
     refine hm E1 ?_;rintro x w1 ⟨rfl,rfl⟩;go_wp2;go_ret;exact ⟨by rw [HF.out];rfl,rfl⟩
   | false=>?_
   have HF:=hid (HE.out.trans (show _ = nE ss high f (aq ss i) by simp [nE,hlt,q]));clear HE hS
   go_wp2_with fail
   refine hm E1 ?_;rintro x w1 ⟨rfl,rfl⟩;go_wp2
   go_round
   case rel=>exact ⟨_,f,rfl,by omega,HF⟩
   case measure=>simp [intOf];omega
  have HF:=hid (HE.out.trans (jK ss high f hlt));clear HE hS
  go_wp2_with fail
  go_ret;exact ⟨by rw [HF.out];rfl,rfl⟩
theorem Ew (d target : Int) (hU : Up ss) (hS : ib w ob oo ss) (hl : ss.length <= 1000) :
 Calls prog 256 #[.pointer (some ⟨ob,oo,none⟩),.int .i64 d,.int .i64 target] w fun x w'=>x = .returned (.bool (tA ss d target)) /\ w' = w:=by
 have E1:=hid (gf ob oo w ss d hS hl);have E2:=hid (gX ob oo w ss d target hU hS hl)
 cases q : ay ss d == 2 with
 | true =>
   rw [show tA ss d target = an ss d target by simp [tA,q]]
   go_enter func256,ntmps256
   go_wp2_with fail
   refine hm E1 ?_;rintro x w1 ⟨rfl,rfl⟩
   have q' : (ay ss d != 2) = false:=by simp [bne,q]
   go_wp2_with fail
   refine hm E2 ?_;rintro x w1 ⟨rfl,rfl⟩;go_wp2;go_ret;exact ⟨rfl,rfl⟩
 | false=>?_
 rw [show tA ss d target = false by simp [tA,q]]
 have q' : (ay ss d != 2) = true:=by simp [bne,q]
 go_enter func256,ntmps256
 go_wp2_with fail
 refine hm E1 ?_;rintro x w1 ⟨rfl,rfl⟩;go_wp2;go_ret;exact ⟨rfl,rfl⟩
theorem zH (state tg gv gs gd ta : Int) (ac : Value) (hU : Up ss) (hS : ib w ob oo ss) (hl : ss.length <= 1000) :
 Calls prog 222 #[.pointer (some ⟨ob,oo,none⟩),.agg #[.int .i64 state,.int .u8 tg,.int .u8 gv,.int .u8 gs,.int .i64 gd,ac,.int .u8 ta]] w fun x w'=>x = .returned (.int .i64 (dom ss state ta)) /\ Kp (fun _=>False) w w':=by
 have hS1:=hS.alloc (.cells #[.int .i64 state,.int .u8 tg,.int .u8 gv,.int .u8 gs,.int .i64 gd,ac,.int .u8 ta] 209);have K1 : Kp (fun _=>False) w (w.alloc (.cells #[.int .i64 state,.int .u8 tg,.int .u8 gv,.int .u8 gs,.int .i64 gd,ac,.int .u8 ta] 209)):=(Kp.refl _ _).alloc _
 have z0 : (w.alloc (.cells #[.int .i64 state,.int .u8 tg,.int .u8 gv,.int .u8 gs,.int .i64 gd,ac,.int .u8 ta] 209)).cell? ⟨w.heap.size,0,none⟩ = some (.int .i64 state):=by rw [World.cell?,heap_alloc_new];rfl
 clear hS
 go_enter func222,ntmps222
 go_wp2_with fail
 generalize (w.alloc (.cells #[.int .i64 state,.int .u8 tg,.int .u8 gv,.int .u8 gs,.int .i64 gd,ac,.int .u8 ta] 209)) = w1 at hS1 K1 z0 ⊢;have E1:=hid (gF ob oo w1 ss ta hS1 hl);have E2:=hid (c8 ob oo w1 ss state hS1 hl);refine hm E1 ?_;rintro x w2 ⟨rfl,rfl⟩
 go_wp2_with fail
 refine hm E2 ?_;rintro x w2 ⟨rfl,rfl⟩
 go_wp2_with fail
 go_loop [6] (fun v=>∃ (d : Int) (f : Nat),v = .int .i64 d /\ -1 <= d /\ d + 1 <= (f : Int) /\ Hid (dom ss state ta = mF ss (Ch.place ss ta) f d)) (fun v=>(intOf v + 1).toNat)
 case atStart=>exact ⟨_,(aq ss state + 1).toNat,rfl,d_ hU _,by omega,hid rfl⟩
 case round =>
  obtain ⟨d,f,rfl,hd,hf,HE⟩:=hrel
  cases q1 : d != -1 with
  | false =>
    have HF:=hid (HE.out.trans (xn ss _ f (by rw [q1];rfl)));clear HE
    go_wp2_with fail
    go_ret;exact ⟨by rw [HF.out];rfl,K1⟩
  | true=>?_
  have hlt : -1 < d := by have : d ≠ -1 := by simpa using q1
                          omega
  obtain ⟨f,rfl⟩ : ∃ g,f = g + 1:=⟨f - 1,by omega⟩
  have E3:=hid (Ew ob oo w2 ss d (Ch.place ss ta) hU hS1 hl);have E4:=hid (c8 ob oo w2 ss d hS1 hl);have p1:=eZ hU hlt;have p2:=d_ hU d
  cases q2 : tA ss d (Ch.place ss ta) with
  | true =>
    rw [q2] at E3;have HF:=hid (HE.out.trans (xn ss _ (f + 1) (by rw [q2];simp)));clear HE hS1
    go_wp2_with fail
    refine hm E3 ?_;rintro x w1 ⟨rfl,rfl⟩;go_wp2;go_ret;exact ⟨by rw [HF.out];rfl,K1⟩
  | false=>?_
  rw [q2] at E3;have HF:=hid (HE.out.trans (show _ = mF ss (Ch.place ss ta) f (aq ss d) by simp only [mF];rw [q1,q2];rfl));clear HE hS1
  go_wp2_with fail
  refine hm E3 ?_;rintro x w1 ⟨rfl,rfl⟩
  go_wp2_with fail
  refine hm E4 ?_;rintro x w1 ⟨rfl,rfl⟩;go_wp2
  go_round
  case rel=>exact ⟨_,f,rfl,p2,by omega,HF⟩
  case measure=>simp [intOf];omega
end
theorem qC {α : Type} (f : α -> List Value) (n : Nat) (hn : ∀ a,(f a).length = n) : ∀ (l : List α) (k j : Nat) (a : α),l[k]? = some a -> j < n -> (l.flatMap f)[k * n + j]? = (f a)[j]?:=by
 intro l
 induction l with
 | nil=>intro k j a h;simp at h
 | cons b l ih=>?_
 intro k j a h hj;rw [List.flatMap_cons]
 cases k with
 | zero=>simp at h;subst h;rw [List.getElem?_append_left (by rw [hn];omega)];congr 1;omega
 | succ k=>?_
 rw [List.getElem?_append_right (by rw [hn,Nat.succ_mul];omega),hn,<- ih k j a (by simpa using h) hj]
 congr 1
 rw [Nat.succ_mul];omega
def oT (T : TypeId) : Prop:=T = 87 \/ T = 119 \/ T = 138
def Pl (w : World) (ob po : Nat) (ol : Ol) : Prop:=∃ sv tv bv lt lb B c T,(w.heap[ob]? = some (.cells c T (0,0)) /\ oT T /\ c[po + 2]? = some sv /\ c[po + 3]? = some tv /\ c[po + 4]? = some bv) /\ qY w B ol sv tv bv lt lb
def Im (T : TypeId) : Prop:=oT T \/ T = 155 \/ T = 209 \/ T = 282 \/ T = 255
theorem Pl.keep {w w' : World} {ob po : Nat} {ol : Ol} {S : Nat -> Prop} (h : Pl w ob po ol) (k : Kp S w w') (hs : ∀ i cur T,w.heap[i]? = some (.cells cur T (0,0)) -> Im T -> ¬ S i) : Pl w' ob po ol:=by
 obtain ⟨sv,tv,bv,lt,lb,B,c,T,⟨hb,hT,c2,c3,c4⟩,F⟩:=h
 have hS : ∀ {base e size v n xs},w.ownsRow base e size v n xs -> Im e -> ∀ i,v.ownBlock = some i -> ¬ S i:=by
  intro base e size v n xs ho he i hi;obtain ⟨cur,hc⟩:=aR ho hi;exact hs i cur e hc he
 exact ⟨sv,tv,bv,lt,lb,B,c,T,⟨k.at_ hb (hs _ _ _ hb (.inl hT)),hT,c2,c3,c4⟩,k.owns F.ag (hS F.ag (.inr (.inl rfl))),F.wM,k.owns F.bH (hS F.bH (.inr (.inr (.inl rfl)))),fun x hx=>k.owns (F.kx x hx) (hS (F.kx x hx) (.inr (.inr (.inr (.inr rfl))))),
  F.y7,k.owns F.cM (hS F.cM (.inr (.inr (.inr (.inl rfl))))),fun x hx=>k.owns (F.kH x hx) (hS (F.kH x hx) (.inr (.inr (.inr (.inr rfl)))))⟩
theorem Pl.str {w : World} {ob po : Nat} {ol : Ol} (h : Pl w ob po ol) : ib w ob po ol.ag:=by
 obtain ⟨sv,tv,bv,lt,lb,B,c,T,⟨hb,hT,c2,c3,c4⟩,F⟩:=h;exact ⟨sv,B,by simp [World.cell?,hb,c2],F.ag⟩
theorem Pl.MI {w : World} {ob po : Nat} {ol : Ol} (h : Pl w ob po ol) : ∃ ao cap,w.cell? ⟨ob,po + 3,none⟩ = some (.slice ao ol.bH.length cap):=by
 obtain ⟨sv,tv,bv,lt,lb,B,c,T,⟨hb,hT,c2,c3,c4⟩,F⟩:=h;obtain ⟨ao,cap,e⟩:=b7 F.bH;exact ⟨ao,cap,by rw [<- F.wM,List.length_map,<- e];simp [World.cell?,hb,c3]⟩
theorem Pl.MJ {w : World} {ob po : Nat} {ol : Ol} (h : Pl w ob po ol) : ∃ ao cap,w.cell? ⟨ob,po + 4,none⟩ = some (.slice ao ol.cM.length cap):=by
 obtain ⟨sv,tv,bv,lt,lb,B,c,T,⟨hb,hT,c2,c3,c4⟩,F⟩:=h;obtain ⟨ao,cap,e⟩:=b7 F.cM;exact ⟨ao,cap,by rw [<- F.y7,List.length_map,<- e];simp [World.cell?,hb,c4]⟩
theorem Pl.tr {w : World} {ob po : Nat} {ol : Ol} (h : Pl w ob po ol) {k : Nat} {t : Tr} (ht : ol.bH[k]? = some t) :
 ∃ g cap ac B,w.cell? ⟨ob,po + 3,none⟩ = some (.slice (some ⟨g,0,none⟩) ol.bH.length cap) /\ (∀ j,j < 7 -> w.cell? ⟨g,k * 7 + j,none⟩ = [Value.int .i64 t.state,.int .u8 t.kG,.int .u8 t.guard.var,.int .u8 t.guard.sign,.int .i64 t.guard.digit,ac,.int .u8 t.target][j]?) /\
  w.ownsRow B 255 3 ac t.acts.length (cX t.acts):=by
 obtain ⟨sv,tv,bv,lt,lb,B,c,T,⟨hb,hT,c2,c3,c4⟩,F⟩:=h;rw [<- F.wM,List.getElem?_map] at ht
 cases hx : lt[k]? with
 | none=>rw [hx] at ht;simp at ht
 | some x=>?_
 rw [hx] at ht;simp at ht;subst ht;have hk:=(List.getElem?_eq_some_iff.1 hx).1;obtain ⟨g,cap,rfl⟩:=ey F.bH (by omega);refine ⟨g,cap,x.2,B,by rw [<- F.wM,List.length_map];simp [World.cell?,hb,c3],fun j hj=>?_,F.kx x (List.mem_of_getElem? hx)⟩;rw [F.bH.cellAt (k * 7 + j) (by omega)];exact qC _ 7 (by intro _;rfl) lt k j x hx hj
theorem Pl.bl {w : World} {ob po : Nat} {ol : Ol} (h : Pl w ob po ol) {k : Nat} {t : Bl} (ht : ol.cM[k]? = some t) :
 ∃ g cap ac B,w.cell? ⟨ob,po + 4,none⟩ = some (.slice (some ⟨g,0,none⟩) ol.cM.length cap) /\ (∀ j,j < 3 -> w.cell? ⟨g,k * 3 + j,none⟩ = [Value.int .i64 t.state,.int .u8 t.sign,ac][j]?) /\
  w.ownsRow B 255 3 ac t.acts.length (cX t.acts):=by
 obtain ⟨sv,tv,bv,lt,lb,B,c,T,⟨hb,hT,c2,c3,c4⟩,F⟩:=h;rw [<- F.y7,List.getElem?_map] at ht
 cases hx : lb[k]? with
 | none=>rw [hx] at ht;simp at ht
 | some x=>?_
 rw [hx] at ht;simp at ht;subst ht;have hk:=(List.getElem?_eq_some_iff.1 hx).1;obtain ⟨g,cap,rfl⟩:=ey F.cM (by omega);refine ⟨g,cap,x.2,B,by rw [<- F.y7,List.length_map];simp [World.cell?,hb,c4],fun j hj=>?_,F.kH x (List.mem_of_getElem? hx)⟩;rw [F.cM.cellAt (k * 3 + j) (by omega)];exact qC _ 3 (by intro _;rfl) lb k j x hx hj
structure Ch.Ma where
 s : Sd
 q : List Int
 out : List Int
def eF (w : World) (mb ob po : Nat) (s : Sd) (qv ov : Value) : Prop:=bM w mb [.pointer (some ⟨ob,po,none⟩)] s [qv,ov] 149
section
variable {w : World} {mb ob po : Nat} {s : Sd} {qv ov : Value}
theorem eF.plan (h : eF w mb ob po s qv ov) : w.cell? ⟨mb,0,none⟩ = some (.pointer (some ⟨ob,po,none⟩)):=by
 unfold eF bM fj at h;simp [World.cell?,h]
theorem eF.queue (h : eF w mb ob po s qv ov) (hw : s.Wf) : w.cell? ⟨mb,37,none⟩ = some qv:=by
 have:=bM.at_ h hw 20;simpa [bg,aG,hw.2,List.getElem?_append] using this
theorem eF.out (h : eF w mb ob po s qv ov) (hw : s.Wf) : w.cell? ⟨mb,38,none⟩ = some ov:=by
 have:=bM.at_ h hw 21;simpa [bg,aG,hw.2,List.getElem?_append] using this
theorem eF.MK (h : eF w mb ob po s qv ov) (hw : s.Wf) (v : Value) : eF (w.setCell ⟨mb,37,none⟩ v) mb ob po s v ov:=by
 have:=bM.zA h hw 20 v;unfold eF bM
 have e : (bg s ++ [qv,ov]).set 20 v = bg s ++ [v,ov]:=by
  have hl : (bg s).length = 20:=by simp [bg,aG,hw.2]
  rw [List.set_append_right _ _ (by omega),hl];rfl
 rw [e] at this;simpa using this
theorem eF.Ks (h : eF w mb ob po s qv ov) (hw : s.Wf) (v : Value) : eF (w.setCell ⟨mb,38,none⟩ v) mb ob po s qv v:=by
 have:=bM.zA h hw 21 v;unfold eF bM
 have e : (bg s ++ [qv,ov]).set 21 v = bg s ++ [qv,v]:=by
  have hl : (bg s).length = 20:=by simp [bg,aG,hw.2]
  rw [List.set_append_right _ _ (by omega),hl];rfl
 rw [e] at this;simpa using this
end
def km (B mb : Nat) (w : World) (k : Nat) : Prop:=k = mb \/ (B <= k /\ ∃ cur,w.heap[k]? = some (.cells cur 5 (0,0)))
theorem Km.trans {B mb : Nat} {a b c : World} (h : Kp (km B mb a) a b) (k : Kp (km B mb b) b c) : Kp (km B mb a) a c :=
 h.trans' k fun i hi x=>by
  by_cases q : km B mb a i
  ·exact q
  rcases x with x | ⟨x,cur,y⟩
  ·exact .inl x
  rw [h.block i hi q] at y;exact .inr ⟨x,cur,y⟩
theorem Pl.km {w w' : World} {B mb ob po : Nat} {ol : Ol} {c : Array Value} (h : Pl w ob po ol) (k : Kp (km B mb w) w w') (hm : w.heap[mb]? = some (.cells c 149 (0,0))) : Pl w' ob po ol :=
 h.keep k fun i cur T hi hT x=>by
  rcases x with rfl | ⟨_,cur',y⟩
  ·rw [hm] at hi;simp at hi;obtain ⟨_,rfl⟩:=hi;revert hT;unfold Im oT;decide
  rw [y] at hi;simp at hi;obtain ⟨_,rfl⟩:=hi;revert hT;unfold Im oT;decide
def Mm (w : World) (B mb ob po : Nat) (m : Ma) : Prop:=∃ qv ov,eF w mb ob po m.s qv ov /\ bA w B qv (ax m.q) /\ bA w B ov (ax m.out) /\ Apart qv ov
namespace Ch
def Sd.Ok (s : Sd) : Prop:=s.Wf /\ ((-99 <= s.x /\ s.x <= 99) /\ (-99 <= s.y /\ s.y <= 99) /\ (-99 <= s.z /\ s.z <= 99)) /\ s.tm.size <= 17
def Ac.Ok (a : Ac) : Prop:=0 <= a.digit /\ a.digit <= 9
theorem Ku {s : Sd} (h : s.Ok) (c : Int) : -99 <= var s c /\ var s c <= 99:=by
 obtain ⟨_,⟨h1,h2,h3⟩,_⟩:=h;unfold var
 split
 ·exact h1
 split
 ·exact h2
 exact h3
def ea (s : Sd) (a : Ac) : Int:=if a.sign == 43 then var s a.letter + a.digit else if a.sign == 45 then var s a.letter - a.digit else a.digit
def mG (s : Sd) (c n : Int) : Sd:=if om n then gJ s c n else s
theorem Io {s : Sd} (h : s.Ok) (c n : Int) : (mG s c n).Ok:=by
 unfold mG
 split
 ·rename_i q
  simp [om] at q;obtain ⟨h0,⟨h1,h2,h3⟩,h4⟩:=h;unfold gJ
  split
  ·exact ⟨h0,⟨q,h2,h3⟩,h4⟩
  split
  ·exact ⟨h0,⟨h1,q,h3⟩,h4⟩
  exact ⟨h0,⟨h1,h2,q⟩,h4⟩
 exact h
end Ch
section
variable (w : World) (B mb ob po : Nat)
theorem l8 (m : Ma) (c : Int) (h : Mm w B mb ob po m) (hw : m.s.Wf) (hB : B <= w.heap.size) (hq : m.q.length <= 1000000000) :
 Calls prog 183 #[.pointer (some ⟨mb,0,none⟩),.int .u8 c] w fun x w'=>x = .returned (.tuple #[]) /\ Mm w' B mb ob po { m with q:=m.q ++ [c] } /\ Kp (km B mb w) w w':=by
 obtain ⟨qv,ov,hm,oq,oo,ap⟩:=h;have cq:=hm.queue hw;have HM:=hid hm;clear hm
 go_enter func183,ntmps183
 go_wp2_with (at_builtin;refine eC rfl (.tmp 8) (.tmp 10) rfl rfl (oq.alloc _) ⟨w.heap.size,0,none⟩ 1 1 [.int .u8 c] rfl rfl (by decide) (by exact fm _ _ _) (by intro u hu;simp at hu;subst hu;rfl) (by simp [ax];omega) (by simp;omega) ?_)
 intro ga oa ca w3 q3 g3 hb3;have KG : Kp (fun i=>qv.ownBlock = some i) w w3:=((Kp.refl _ _).alloc _).grown g3 (fun i hi _=>hi);have wP : eF w3 mb ob po m.s qv ov:=bM.keep HM.out KG (oq.ne HM.out (by decide));have ML:=oo.keep KG (fun i hi x=>ap i x hi)
 have hap : Apart (.slice (some ⟨ga,oa,none⟩) ((ax m.q).length + 1) ca) ov:=by
  intro i hi x;simp [Value.ownBlock] at hi;subst hi
  rcases hb3 with hb3 | hb3
  ·exact ap _ hb3 x
  have:=(oo.lt _ x).2;try simp at hb3
  omega
 have KA : Kp (km B mb w) w w3:=(Kp.refl _ _).trans' KG (fun i hi x=>.inr ⟨(oq.lt i x).1,oq.block x⟩);have VU:=wP.queue hw;have VV:=bM.free wP 37;have HH:=hid (ae wP (ae q3 (ae ML (ae hap KA))));clear HM KG wP ML hap KA oq oo ap q3 g3 hb3 cq;go_wp2
 go_end0
 obtain ⟨wP,q3,ML,hap,KA⟩:=HH.out;have n1:=q3.ne wP (by decide);have n2:=ML.ne wP (by decide);have KS : Kp (fun k=>k = mb) w3 (w3.setCell ⟨mb,37,none⟩ (.slice (some ⟨ga,oa,none⟩) ((ax m.q).length + 1) ca)):=(Kp.refl _ _).setCell (by intro _;rfl) _;refine ⟨rfl,⟨_,ov,wP.MK hw _,?_,ML.keep KS (fun i hi x=>by subst x;exact n2 hi),hap⟩,KA.trans' KS (fun i _ x=>.inl x)⟩;rw [fp];exact q3.keep KS (fun i hi x=>by subst x;exact n1 hi)
theorem zI (m : Ma) (a : Ac) (h : Mm w B mb ob po m) (hs : m.s.Ok) (ha : a.Ok) :
 Calls prog 225 #[.pointer (some ⟨mb,0,none⟩),.agg #[.int .u8 a.sign,.int .u8 a.letter,.int .i64 a.digit]] w fun x w'=>x = .returned (.bool (om (ea m.s a))) /\ Mm w' B mb ob po { m with s:=mG m.s a.letter (ea m.s a) } /\ Kp (km B mb w) w w':=by
 obtain ⟨qv,ov,hm,oq,oo,ap⟩:=h;have K1 : Kp (fun _=>False) w (w.alloc (.cells #[.int .u8 a.sign,.int .u8 a.letter,.int .i64 a.digit] 255)):=(Kp.refl _ _).alloc _;have e1:=heap_alloc_new w (.cells #[.int .u8 a.sign,.int .u8 a.letter,.int .i64 a.digit] 255);have hm1 : eF (w.alloc (.cells #[.int .u8 a.sign,.int .u8 a.letter,.int .i64 a.digit] 255)) mb ob po m.s qv ov:=bM.keep hm K1 (fun x=>x)
 have hne : w.heap.size ≠ mb:=fun e=>by have:=bM.lt hm;omega
 have HQ:=hid (ae (oq.alloc (.cells #[.int .u8 a.sign,.int .u8 a.letter,.int .i64 a.digit] 255)) (ae (oo.alloc (.cells #[.int .u8 a.sign,.int .u8 a.letter,.int .i64 a.digit] 255)) ap));obtain ⟨hd0,VW⟩:=ha;have hv:=Ku hs a.letter;have hw:=hs.1
 have Fin : ∀ (w' : World),bM w' mb [.pointer (some ⟨ob,po,none⟩)] (if om (ea m.s a) then gJ m.s a.letter (ea m.s a) else m.s) [qv,ov] 149 -> Kp (fun k=>k = mb) (w.alloc (.cells #[.int .u8 a.sign,.int .u8 a.letter,.int .i64 a.digit] 255)) w' ->
  Mm w' B mb ob po { m with s:=mG m.s a.letter (ea m.s a) } /\ Kp (km B mb w) w w':=by
  intro w' hS' hK;obtain ⟨q1,q2,q3⟩:=HQ.out;have n1:=q1.ne hm1 (by decide);have n2:=q2.ne hm1 (by decide);exact ⟨⟨qv,ov,hS',q1.keep hK (fun i hi x=>by subst x;exact n1 hi),q2.keep hK (fun i hi x=>by subst x;exact n2 hi),q3⟩,((Kp.refl (km B mb w) w).trans' K1 (fun _ _ x=>x.elim)).trans' hK (fun i _ x=>.inl x)⟩
 have HFin:=hid Fin;clear Fin HQ oq oo ap hm
 have c0 : (w.alloc (.cells #[.int .u8 a.sign,.int .u8 a.letter,.int .i64 a.digit] 255)).cell? ⟨w.heap.size,0,none⟩ = some (.int .u8 a.sign):=by rw [World.cell?,e1];rfl
 have c1 : (w.alloc (.cells #[.int .u8 a.sign,.int .u8 a.letter,.int .i64 a.digit] 255)).cell? ⟨w.heap.size,1,none⟩ = some (.int .u8 a.letter):=by rw [World.cell?,e1];rfl
 have c2 : (w.alloc (.cells #[.int .u8 a.sign,.int .u8 a.letter,.int .i64 a.digit] 255)).cell? ⟨w.heap.size,2,none⟩ = some (.int .i64 a.digit):=by rw [World.cell?,e1];rfl
 clear e1 K1
 have nv : ea m.s a = if a.sign == 43 then Ch.var m.s a.letter + a.digit else if a.sign == 45 then Ch.var m.s a.letter - a.digit else a.digit:=rfl
 cases q1 : a.sign == 43 with
 | true =>
   have hn : ea m.s a = Ch.var m.s a.letter + a.digit:=by rw [nv,q1];rfl
   have OU : IntKind.i64.wrap (Ch.var m.s a.letter + a.digit) = Ch.var m.s a.letter + a.digit:=gW ⟨by omega,by omega⟩;rw [hn] at HFin ⊢;clear nv hn
   go_enter func225,ntmps225
   go_upto_region 4 with (fail)
   generalize (w.alloc (.cells #[.int .u8 a.sign,.int .u8 a.letter,.int .i64 a.digit] 255)) = w1 at hm1 HFin c0 c1 c2 ⊢;have E1:=hid (j_ w1.drew mb 1 [.pointer (some ⟨ob,po,none⟩)] m.s [qv,ov] 149 a.letter (by exact hm1) hw rfl)
   go_region_with (go_at_call 257;refine br E1 ?_;rintro x w2 ⟨rfl,rfl⟩)
   all_goals
    have KD : Kp (fun k=>k = mb) w1 w1.drew.drew:=(Kp.refl _ _).drew.drew;have E2:=hid (ic w1.drew.drew mb 1 [.pointer (some ⟨ob,po,none⟩)] m.s [qv,ov] 149 a.letter (Ch.var m.s a.letter + a.digit) (by exact hm1) hw rfl)
    go_upto_region 7 with (fail)
    go_region_with (go_at_call 258;refine br E2 ?_;rintro x w3 ⟨rfl,h3,K3⟩;have H3:=hid (ae h3 K3);clear h3 K3)
    all_goals
     obtain ⟨h3,K3⟩:=H3.out;go_wp2;go_ret;exact ⟨rfl,HFin.out _ h3 (KD.trans K3)⟩
 | false=>?_
 cases q2 : a.sign == 45 with
 | true =>
   have hn : ea m.s a = Ch.var m.s a.letter - a.digit:=by rw [nv,q1,q2];rfl
   have OU : IntKind.i64.wrap (Ch.var m.s a.letter - a.digit) = Ch.var m.s a.letter - a.digit:=gW ⟨by omega,by omega⟩;rw [hn] at HFin ⊢;clear nv hn
   go_enter func225,ntmps225
   go_upto_region 6 with (fail)
   generalize (w.alloc (.cells #[.int .u8 a.sign,.int .u8 a.letter,.int .i64 a.digit] 255)) = w1 at hm1 HFin c0 c1 c2 ⊢;have E1:=hid (j_ w1.drew mb 1 [.pointer (some ⟨ob,po,none⟩)] m.s [qv,ov] 149 a.letter (by exact hm1) hw rfl)
   go_region_with (go_at_call 257;refine br E1 ?_;rintro x w2 ⟨rfl,rfl⟩)
   all_goals
    have KD : Kp (fun k=>k = mb) w1 w1.drew.drew:=(Kp.refl _ _).drew.drew;have E2:=hid (ic w1.drew.drew mb 1 [.pointer (some ⟨ob,po,none⟩)] m.s [qv,ov] 149 a.letter (Ch.var m.s a.letter - a.digit) (by exact hm1) hw rfl)
    go_upto_region 7 with (fail)
    go_region_with (go_at_call 258;refine br E2 ?_;rintro x w3 ⟨rfl,h3,K3⟩;have H3:=hid (ae h3 K3);clear h3 K3)
    all_goals
     obtain ⟨h3,K3⟩:=H3.out;go_wp2;go_ret;exact ⟨rfl,HFin.out _ h3 (KD.trans K3)⟩
 | false=>?_
 have hn : ea m.s a = a.digit:=by rw [nv,q1,q2];rfl
 rw [hn] at HFin ⊢;clear nv hn
 go_enter func225,ntmps225
 go_upto_region 7 with (fail)
 generalize (w.alloc (.cells #[.int .u8 a.sign,.int .u8 a.letter,.int .i64 a.digit] 255)) = w1 at hm1 HFin c0 c1 c2 ⊢;have KD : Kp (fun k=>k = mb) w1 w1.drew:=(Kp.refl _ _).drew;have E2:=hid (ic w1.drew mb 1 [.pointer (some ⟨ob,po,none⟩)] m.s [qv,ov] 149 a.letter (a.digit) (by exact hm1) hw rfl)
 go_region_with (go_at_call 258;refine br E2 ?_;rintro x w3 ⟨rfl,h3,K3⟩;have H3:=hid (ae h3 K3);clear h3 K3)
 all_goals
  obtain ⟨h3,K3⟩:=H3.out;go_wp2;go_ret;exact ⟨rfl,HFin.out _ h3 (KD.trans K3)⟩
end
theorem Ex : (prog.info? 149).map (·.size) = some 39:=by kernel_rfl
theorem Kv : (prog.info? 119).map (·.size) = some 42:=by kernel_rfl
theorem JB : ∃ d,prog.underlying 87 = some d /\ ar d = true:=⟨_,underlying87,rfl⟩
theorem MM : ∃ d,prog.underlying 119 = some d /\ ar d = true:=⟨_,underlying119,rfl⟩
theorem rA (q : Option Addr) (a0 a1 a2 a3 a4 a5 a6 a7 a8 a9 ql sY a12 sZ s6 s7 : Bool) (p0 p1 p2 p3 p4 p5 p6 p7 p8 p9 qq qs qu qw qA qB : Int) (tm : ByteArray) (x y z : Int) :
 prog.built 149 [(0,.pointer q),(1,.agg #[.bool a0,.bool a1,.bool a2,.bool a3,.bool a4,.bool a5,.bool a6,.bool a7,.bool a8,.bool a9,.bool ql,.bool sY,.bool a12,.bool sZ,.bool s6,.bool s7,.int .u8 p0,.int .u8 p1,.int .u8 p2,.int .u8 p3,.int .u8 p4,.int .u8 p5,.int .u8 p6,.int .u8 p7,.int .u8 p8,.int .u8 p9,.int .u8 qq,.int .u8 qs,.int .u8 qu,.int .u8 qw,.int .u8 qA,.int .u8 qB,.string tm,.int .i64 x,.int .i64 y,.int .i64 z])] = some #[.pointer q,.bool a0,.bool a1,.bool a2,.bool a3,.bool a4,.bool a5,.bool a6,.bool a7,.bool a8,.bool a9,.bool ql,.bool sY,.bool a12,.bool sZ,.bool s6,.bool s7,.int .u8 p0,.int .u8 p1,.int .u8 p2,.int .u8 p3,.int .u8 p4,.int .u8 p5,.int .u8 p6,.int .u8 p7,.int .u8 p8,.int .u8 p9,.int .u8 qq,.int .u8 qs,.int .u8 qu,.int .u8 qw,.int .u8 qA,.int .u8 qB,.string tm,.int .i64 x,.int .i64 y,.int .i64 z,.slice none 0 0,.slice none 0 0]:=by kernel_rfl
def D_ (q : Option Addr) (s : Sd) : Array Value:=([Value.pointer q] ++ s.act.map Value.bool ++ (bg s ++ [Value.slice none 0 0,Value.slice none 0 0])).toArray
theorem rB (q : Option Addr) (s : Sd) (hw : s.Wf) : prog.built 149 [(0,.pointer q),(1,.agg (aj s).toArray)] = some (D_ q s):=by
 obtain ⟨act,past,tm,x,y,z⟩:=s;obtain ⟨h1,h2⟩:=hw;simp only at h1 h2;obtain ⟨a0,a1,a2,a3,a4,a5,a6,a7,a8,a9,ql,sY,a12,sZ,s6,s7,rfl⟩:=ke act h1;obtain ⟨p0,p1,p2,p3,p4,p5,p6,p7,p8,p9,qq,qs,qu,qw,qA,qB,rfl⟩:=ke past h2;exact rA q a0 a1 a2 a3 a4 a5 a6 a7 a8 a9 ql sY a12 sZ s6 s7 p0 p1 p2 p3 p4 p5 p6 p7 p8 p9 qq qs qu qw qA qB tm x y z
theorem rC (q : Option Addr) {s : Sd} (hw : s.Wf) : (D_ q s).size = 39:=by simp [D_,bg,aG,hw.1,hw.2]
theorem xo (q : Option Addr) {s : Sd} (hw : s.Wf) : (prog.info? 149).map (·.size) = some (D_ q s).size:=by rw [rC q hw];exact Ex
theorem Br (q : Option Addr) (s : Sd) : (D_ q s).all (fun x=>x.oneCell') = true:=by
 apply Array.all_eq_true_iff_forall_mem.2;intro x hx;simp only [D_,bg,aG,List.mem_toArray,List.mem_append,List.mem_map,List.mem_cons,List.not_mem_nil,or_false] at hx
 rcases hx with (rfl | ⟨a,_,rfl⟩) | ((⟨a,_,rfl⟩ | rfl | rfl | rfl | rfl) | rfl | rfl) <;> rfl
theorem eF.ofRow {w : World} {mb ob po : Nat} {s : Sd} (h : w.heap[mb]? = some (.cells (D_ (some ⟨ob,po,none⟩) s) 149 (0,0))) : eF w mb ob po s (.slice none 0 0) (.slice none 0 0):=h
def qD (e : Int) (sv tv bv : Value) (s : Sd) : Array Value:=([Value.int .i64 e,.int .i64 0,.int .i64 0,sv,tv,bv] ++ aj s).toArray
theorem nF (e : Int) : prog.built 119 [(0,.int .i64 e)] = some (qD e (.slice none 0 0) (.slice none 0 0) (.slice none 0 0) fY):=by kernel_rfl
theorem pZ (a b c : Option Addr) (l1 c1 l2 c2 l3 c3 : Nat) (a0 a1 a2 a3 a4 a5 a6 a7 a8 a9 ql sY a12 sZ s6 s7 : Bool) (p0 p1 p2 p3 p4 p5 p6 p7 p8 p9 qq qs qu qw qA qB : Int) (tm : ByteArray) (x y z : Int) :
 prog.built 119 [(1,.agg #[.int .i64 0,.int .i64 0,.slice a l1 c1,.slice b l2 c2,.slice c l3 c3]),(2,.agg #[.bool a0,.bool a1,.bool a2,.bool a3,.bool a4,.bool a5,.bool a6,.bool a7,.bool a8,.bool a9,.bool ql,.bool sY,.bool a12,.bool sZ,.bool s6,.bool s7,.int .u8 p0,.int .u8 p1,.int .u8 p2,.int .u8 p3,.int .u8 p4,.int .u8 p5,.int .u8 p6,.int .u8 p7,.int .u8 p8,.int .u8 p9,.int .u8 qq,.int .u8 qs,.int .u8 qu,.int .u8 qw,.int .u8 qA,.int .u8 qB,.string tm,.int .i64 x,.int .i64 y,.int .i64 z])] = some #[.int .i64 0,.int .i64 0,.int .i64 0,.slice a l1 c1,.slice b l2 c2,.slice c l3 c3,.bool a0,.bool a1,.bool a2,.bool a3,.bool a4,.bool a5,.bool a6,.bool a7,.bool a8,.bool a9,.bool ql,.bool sY,.bool a12,.bool sZ,.bool s6,.bool s7,.int .u8 p0,.int .u8 p1,.int .u8 p2,.int .u8 p3,.int .u8 p4,.int .u8 p5,.int .u8 p6,.int .u8 p7,.int .u8 p8,.int .u8 p9,.int .u8 qq,.int .u8 qs,.int .u8 qu,.int .u8 qw,.int .u8 qA,.int .u8 qB,.string tm,.int .i64 x,.int .i64 y,.int .i64 z]:=by kernel_rfl
theorem xp (a b c : Option Addr) (l1 c1 l2 c2 l3 c3 : Nat) (s : Sd) (hw : s.Wf) :
 prog.built 119 [(1,.agg #[.int .i64 0,.int .i64 0,.slice a l1 c1,.slice b l2 c2,.slice c l3 c3]),(2,.agg (aj s).toArray)] = some (qD 0 (.slice a l1 c1) (.slice b l2 c2) (.slice c l3 c3) s):=by
 obtain ⟨act,past,tm,x,y,z⟩:=s;obtain ⟨h1,h2⟩:=hw;simp only at h1 h2;obtain ⟨a0,a1,a2,a3,a4,a5,a6,a7,a8,a9,ql,sY,a12,sZ,s6,s7,rfl⟩:=ke act h1;obtain ⟨p0,p1,p2,p3,p4,p5,p6,p7,p8,p9,qq,qs,qu,qw,qA,qB,rfl⟩:=ke past h2;exact pZ a b c l1 c1 l2 c2 l3 c3 a0 a1 a2 a3 a4 a5 a6 a7 a8 a9 ql sY a12 sZ s6 s7 p0 p1 p2 p3 p4 p5 p6 p7 p8 p9 qq qs qu qw qA qB tm x y z
theorem jL (e : Int) (sv tv bv : Value) {s : Sd} (hw : s.Wf) : (qD e sv tv bv s).size = 42:=by simp [qD,aT hw]
theorem k_ (e : Int) (sv tv bv : Value) {s : Sd} (hw : s.Wf) : (prog.info? 119).map (·.size) = some (qD e sv tv bv s).size:=by rw [jL e sv tv bv hw];exact Kv
theorem nG (e : Int) {sv tv bv : Value} (h1 : sv.oneCell' = true) (h2 : tv.oneCell' = true) (h3 : bv.oneCell' = true) (s : Sd) : (qD e sv tv bv s).all (fun x=>x.oneCell') = true:=by
 apply Array.all_eq_true_iff_forall_mem.2;intro x hx;simp only [qD,aj,bg,aG,List.mem_toArray,List.mem_append,List.mem_map,List.mem_cons,List.not_mem_nil,or_false] at hx
 rcases hx with (rfl | rfl | rfl | rfl | rfl | rfl) | (⟨a,_,rfl⟩ | ⟨a,_,rfl⟩ | rfl | rfl | rfl | rfl) <;> first | rfl | assumption
section
variable {P : Program} {Q : Exit -> Act -> World -> Prop} {S : World -> Prop}
theorem bE {ops : Array Oper} (i : Nat) {oi : Oper} {fuel : Nat} {listed : Array Bool} {a : Act} {w : World} (hr : Region.ready .any ops listed = [i]) (hi : ops[i]? = some oi) (hg : oi.guard = none)
 (ty : TypeId) (x y : Operand) (ho : oi.op = .store ty x y) (hd : oi.dst = none) (g : Nat) (cells : Array Value) (hx : a.eval x = .pointer (some ⟨g,0,none⟩)) (hy : a.eval y = .agg cells)
 (t : TypeId) (old : Array Value) (Hp : w.heap[g]? = some (.cells old t (0,0))) (hI : (P.info? ty).map (·.size) = some cells.size) (hold : old.size = cells.size) (h1 : cells.all (·.oneCell') = true)
 (hS : S (w.setRow g cells)) (h : wpAnyH P .any ops (NoPanic Q) S fuel (listed.setIfInBounds i true) a (w.setRow g cells)) : wpAnyH P .any ops (NoPanic Q) S (fuel + 1) listed a w :=
 mq i hr hi hg (wp_store_row ty x y ho g cells hx hy t old Hp hI hold h1 (by rw [hd];exact ⟨hS,h⟩))
theorem cr {o : Oper} {a : Act} {w : World} (ty : TypeId) (x : Operand) (hop : o.op = .load ty x)
 (b k : Nat) (hx : a.eval x = .pointer (some ⟨b,k,none⟩)) (cs : List Value) (d : TypeDesc) (hc : ∀ j v,cs[j]? = some v -> w.cell? ⟨b,k + j,none⟩ = some v)
 (hu : P.underlying ty = some d) (hd : ar d = true) (hi : (P.info? ty).map (·.size) = some cs.length) : (execOp a.eval o).run P w = .ok (.value (.agg cs.toArray)) w:=by
 unfold execOp;simp only [hop,hx,Instr.loadAt,Instr.sureAddr,Sem.run_bind,Sem.run_pure,Result.andThen_ok,jH w b k ty cs d hc hu hd hi]
theorem aU {o : Oper} {a : Act} {w : World} (ty : TypeId) (x : Operand) (hop : o.op = .load ty x)
 (g : Nat) (hx : a.eval x = .pointer (some ⟨g,0,none⟩)) (t : TypeId) (cs : Array Value) (fr : Nat × Nat) (d : TypeDesc) (hg : w.heap[g]? = some (.cells cs t fr))
 (hu : P.underlying ty = some d) (hd : ar d = true) (hi : (P.info? ty).map (·.size) = some cs.size) : (execOp a.eval o).run P w = .ok (.value (.agg cs)) w:=by
 unfold execOp;simp only [hop,hx,Instr.loadAt,Instr.sureAddr,Sem.run_bind,Sem.run_pure,Result.andThen_ok,run_loadVar_row w g t ty cs fr d hg hu (by cases d <;> simp_all [ar]) hi]
theorem kf {o : Oper} {a : Act} {w : World} (t u : TypeId) (x : Operand) (hop : o.op = .convert t u x) (v r : Value) (hx : a.eval x = v) (h : (convert t u v).run P w = .ok r w) :
 (execOp a.eval o).run P w = .ok (.value r) w:=by
 unfold execOp;simp only [hop,hx,Sem.run_bind,Sem.run_pure,h,Result.andThen_ok]
end
theorem eF.stand {w : World} {mb ob po : Nat} {s : Sd} {qv ov : Value} (h : eF w mb ob po s qv ov) : ∀ j v,(aj s)[j]? = some v -> w.cell? ⟨mb,1 + j,none⟩ = some v:=by
 intro j v hj;unfold eF bM fj at h;rw [World.cell?,h];simp only [aj] at hj
 have e : ([Value.pointer (some ⟨ob,po,none⟩)] ++ s.act.map Value.bool ++ (bg s ++ [qv,ov])) = [Value.pointer (some ⟨ob,po,none⟩)] ++ ((s.act.map Value.bool ++ bg s) ++ [qv,ov]):=by simp
 simp only [e];have hlt:=(List.getElem?_eq_some_iff.1 hj).1;show (([Value.pointer (some ⟨ob,po,none⟩)] ++ ((s.act.map Value.bool ++ bg s) ++ [qv,ov])).toArray)[1 + j]? = some v;rw [List.getElem?_toArray,List.getElem?_append_right (by simp),List.getElem?_append_left (by simp at hlt ⊢;omega)];simpa using hj
section
variable {P : Program} {o : Oper} {a : Act} {w : World} {K : Act -> World -> Prop} {Q : Exit -> Act -> World -> Prop}
theorem OW (d : Option Tmp) (hd : o.dst = d) (v : Value) (w' : World) (hrun : (execOp a.eval o).run P w = .ok (.value v) w') (h : K (a.put d v) w') : o.wp P a w K Q:=by
 subst hd;unfold Oper.wp;rw [hrun,Oper.upon_value];exact h
theorem Ip {S : World -> Prop} {ops : Array Oper} (i j : Nat) {oi oj : Oper} {fuel : Nat} {listed : Array Bool} (hr : Region.ready .any ops listed = [i,j]) (hi : ops[i]? = some oi) (hj : ops[j]? = some oj) (hgi : oi.guard = none) (hgj : oj.guard = none)
 (h1 : oi.wp P a w (fun a' w'=>S w' /\ wpAnyH P .any ops (NoPanic Q) S fuel (listed.setIfInBounds i true) a' w') (NoPanic Q))
 (h2 : oj.wp P a w (fun a' w'=>S w' /\ wpAnyH P .any ops (NoPanic Q) S fuel (listed.setIfInBounds j true) a' w') (NoPanic Q)) : wpAnyH P .any ops (NoPanic Q) S (fuel + 1) listed a w :=
 wpAnyH_all hr (by simp) (fun k hk=>by
  simp only [List.mem_cons,List.not_mem_nil,or_false] at hk
  rcases hk with rfl | rfl
  ·have hw : Region.wanted oi (yielded ops a.tmps) = true:=by simp [Region.wanted,hgi]
   simp only [wpOp,hi,hw,if_true];exact .inl h1
  have hw : Region.wanted oj (yielded ops a.tmps) = true:=by simp [Region.wanted,hgj]
  simp only [wpOp,hj,hw,if_true]
  exact .inl h2)
theorem Ey {S : World -> Prop} {ops : Array Oper} (i j : Nat) {oi oj : Oper} {fuel : Nat} {listed : Array Bool} (di dj : Tmp) (v u : Value) (w' : World) (hdd : di ≠ dj)
 (hr : Region.ready .any ops listed = [i,j]) (hr1 : Region.ready .any ops (listed.setIfInBounds i true) = [j]) (hr2 : Region.ready .any ops (listed.setIfInBounds j true) = [i])
 (hi : ops[i]? = some oi) (hj : ops[j]? = some oj) (hgi : oi.guard = none) (hgj : oj.guard = none) (hdi : oi.dst = some di) (hdj : oj.dst = some dj)
 (r1 : (execOp a.eval oi).run P w = .ok (.value v) w) (r2 : (execOp (a.put (some di) v).eval oj).run P w = .ok (.value u) w') (r3 : (execOp a.eval oj).run P w = .ok (.value u) w') (r4 : (execOp (a.put (some dj) u).eval oi).run P w' = .ok (.value v) w')
 (hS : S w) (hS' : S w') (h : wpAnyH P .any ops (NoPanic Q) S fuel ((listed.setIfInBounds i true).setIfInBounds j true) ((a.put (some di) v).put (some dj) u) w') : wpAnyH P .any ops (NoPanic Q) S (fuel + 1 + 1) listed a w:=by
 refine Ip i j hr hi hj hgi hgj ?_ ?_
 ·exact OW (some di) hdi v w r1 ⟨hS,mq j hr1 hj hgj (OW (some dj) hdj u w' r2 ⟨hS',h⟩)⟩
 refine OW (some dj) hdj u w' r3 ⟨hS',mq i hr2 hi hgi (OW (some di) hdi v w' r4 ⟨hS',?_⟩)⟩
 have e1 : (listed.setIfInBounds j true).setIfInBounds i true = (listed.setIfInBounds i true).setIfInBounds j true:=by
  apply Array.ext_getElem?;intro k;simp only [Array.getElem?_setIfInBounds,Array.size_setIfInBounds]
  by_cases e : i = k <;> by_cases e' : j = k <;> simp [e,e'] <;> omega
 rw [e1,<- Act.put_comm a (x:=some di) (y:=some dj) v u (fun d hd hd'=>hdd ((Option.some.inj hd).trans (Option.some.inj hd').symm))];exact h
end
end Go.Proofs.YtnlbchmfcebeeaaGreat
