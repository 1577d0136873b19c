import Derived.Test.YtnlbchmfcebeeaaGreatTXr
import Derived.Test.YtnlbchmfcebeeaaGreatTXd
import Derived.Test.YtnlbchmfcebeeaaGreatTB1
set_option maxHeartbeats 12800000
set_option maxRecDepth 100000
namespace Go.Proofs.YtnlbchmfcebeeaaGreat
open Go.RowKit
structure Rf (l : List NV) (ol : Ch.Ol) : Prop where
 sts : Ch.sts l = ol.sts
 trs : ∀ (k : Nat) (x : NV),l[k]? = some x → Ch.Fa2 Ch.TrOk x.n.trans (ol.trs.filter (Ch.inS k))
 ent : ∀ (k : Nat) (x : NV),l[k]? = some x → Ch.Fa2 Ch.BlOk x.n.enter (ol.bls.filter (Ch.inB_ k 94))
 lea : ∀ (k : Nat) (x : NV),l[k]? = some x → Ch.Fa2 Ch.BlOk x.n.leave (ol.bls.filter (Ch.inB_ k 36))
 ols : Ch.OlS ol
 aca : Ch.AcA ol
 ok : ol.Ok
 nm : ∀ (k : Nat) (x : NV),l[k]? = some x → 65 ≤ x.n.name ∧ x.n.name ≤ 90
 tb : ∀ x ∈ l,∀ rt ∈ x.n.trans,rt.text.size ≤ 300
 kd : ∀ (k : Nat) (x : NV),l[k]? = some x → 1 ≤ x.n.kind ∧ x.n.kind ≤ 5
theorem Rf.len {l : List NV} {ol : Ch.Ol} (h : Rf l ol) : ol.sts.length = l.length:=by rw [← h.sts,Ch.sts_len]
theorem Rf.le {l : List NV} {ol : Ch.Ol} (h : Rf l ol) : l.length ≤ 16:=by rw [← h.len];exact h.ols.le
theorem Rf.up {l : List NV} {ol : Ch.Ol} (h : Rf l ol) : Ch.Up (Ch.sts l):=by rw [h.sts];exact h.ols.shp.up
theorem Rf.kind {l : List NV} {ol : Ch.Ol} (h : Rf l ol) {k : Nat} {x : NV} (hx : l[k]? = some x) : Ch.kindAt ol.sts k = x.n.kind:=by rw [← h.sts];exact Ch.sts_kind hx
theorem Rf.move {l : List NV} {ol : Ch.Ol} (h : Rf l ol) {t a k : Nat} (hm : Ch.MvOf ol t a k) : ∃ (nd : NV) (rt : Ch.RT) (x : Ch.Tr),l[a]? = some nd ∧ nd.n.trans[k]? = some rt ∧ ol.trs[t]? = some x ∧ x.state = a ∧ Ch.TrOk rt x ∧ rt.text.size ≤ 300:=by
 obtain ⟨x,h1,h2,h3⟩:=hm.tr;obtain ⟨a',e,hal⟩:=h.ols.src x (List.mem_of_getElem? h1)
 have : a' = a:=by omega
 subst this;rw [h.len] at hal;have hnd : l[a']? = some l[a']:=List.getElem?_eq_getElem hal;obtain ⟨rt,hr1,hr2⟩:=(h.trs a' _ hnd).get h3;exact ⟨_,rt,x,hnd,hr1,h1,h2,hr2,h.tb _ (List.mem_of_getElem? hnd) rt (List.mem_of_getElem? hr1)⟩
theorem MvW.set {w : World} {ob : Nat} {a b : Value} (h : w.heap[ob]? = some (.cells #[a,b] 301)) (x y : Int) : ((w.setCell ⟨ob,0,none⟩ (.int .i64 x)).setCell ⟨ob,1,none⟩ (.int .i64 y)).heap[ob]? = some (.cells #[.int .i64 x,.int .i64 y] 301):=by
 rw [heap_set_same _ (heap_set_same _ h)];rfl
end Go.Proofs.YtnlbchmfcebeeaaGreat
