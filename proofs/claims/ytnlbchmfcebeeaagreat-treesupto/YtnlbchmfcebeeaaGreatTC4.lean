import Derived.Test.YtnlbchmfcebeeaaGreatTC2
set_option maxHeartbeats 12800000
set_option maxRecDepth 100000
namespace Go.Proofs.YtnlbchmfcebeeaaGreat
open Go.RowKit
namespace Ch
def allK (p : Nat → Bool) (k : Nat) : Bool:=(List.range k).all p
def anyK (p : Nat → Bool) (k : Nat) : Bool:=(List.range k).any p
def kept (ss : List St) (stayed : List Bool) (parent : Int) : Bool:=anyK (fun i=>has stayed (i : Int) && isChild ss i parent) ss.length
def finP (ss : List St) (l : List Bool) (st : Int) (i : Nat) : Bool:=(kindAt ss i == 4) && (parAt ss i == st) && has l (i : Int)
def hasFin (ss : List St) (l : List Bool) (st : Int) : Bool:=anyK (finP ss l st) ss.length
def atEndF (ss : List St) (l : List Bool) : Nat → Int → Bool
 | 0,_=>false
 | f + 1,st=>if kindAt ss st == 2 then hasFin ss l st else if kindAt ss st == 3 then allK (fun i=>!isChild ss i st || atEndF ss l f (i : Int)) ss.length else false
def atEnd (ss : List St) (l : List Bool) (st : Int) : Bool:=atEndF ss l (ss.length + 2) st
def tellEnd (ss : List St) (m : Ma) (st : Int) : Ma :=
 if st == -1 then m
 else if (kindAt ss (parAt ss st) == 3) && atEnd ss m.s.act (parAt ss st) then { m with q:=m.q ++ [nmAt ss st.toNat] ++ [nmAt ss (parAt ss st).toNat] }
 else { m with q:=m.q ++ [nmAt ss st.toNat] }
def setAct (m : Ma) (i : Int) (v : Bool) : Ma:={ m with s:={ m.s with act:=putB m.s.act i v } }
def enterSt (ol : Ol) (m : Ma) (i : Nat) : Ma :=
 if kindAt ol.sts i == 4 then tellEnd ol.sts (doBls i 94 ol.bls (setAct m i true)) (parAt ol.sts i) else doBls i 94 ol.bls (setAct m i true)
def leaveF (ol : Ol) (left : List Bool) : Nat → Ma → Ma
 | 0,m=>m
 | k + 1,m=>leaveF ol left k (if has left (k : Int) then setAct (doBls k 36 ol.bls m) k false else m)
theorem setAct_ok {m : Ma} (h : m.s.Ok) (i : Int) (v : Bool) : (setAct m i v).s.Ok:=by
 obtain ⟨⟨h0,h1⟩,h2⟩:=h;exact ⟨⟨by show (putB m.s.act i v).length = 16;rw [putB_len];exact h0,h1⟩,h2⟩
theorem tellEnd_s (ss : List St) (m : Ma) (st : Int) : (tellEnd ss m st).s = m.s ∧ (tellEnd ss m st).out = m.out ∧ (tellEnd ss m st).q.length ≤ m.q.length + 2:=by
 unfold tellEnd
 split
 ·simp
 split <;> simp
theorem doBls_sz' {ol : Ol} (hol : ol.Ok) (state sign : Int) {m : Ma} {n : Nat} (h : m.Sz n) : (doBls state sign ol.bls m).Sz (n + 115200):=by
 have h1:=doBls_sz state sign ol.bls h (fun b hb=>(hol.bla b hb).1);have h2:=hol.bls;unfold Ma.Sz at *;omega
theorem enterSt_ok {ol : Ol} {m : Ma} (h : m.s.Ok) (i : Nat) : (enterSt ol m i).s.Ok:=by
 unfold enterSt
 split
 ·rw [(tellEnd_s _ _ _).1];exact doBls_ok _ _ _ (setAct_ok h _ _)
 exact doBls_ok _ _ _ (setAct_ok h _ _)
theorem enterSt_sz {ol : Ol} (hol : ol.Ok) {m : Ma} {n : Nat} (h : m.Sz n) (i : Nat) : (enterSt ol m i).Sz (n + 115202):=by
 have h1:=doBls_sz' hol i 94 (m:=setAct m i true) (n:=n) h;unfold enterSt
 split
 ·have h2:=tellEnd_s ol.sts (doBls i 94 ol.bls (setAct m i true)) (parAt ol.sts i)
  unfold Ma.Sz at *;rw [h2.2.1];omega
 unfold Ma.Sz at *;omega
end Ch
theorem Mm.put {w w' : World} {B mb ob po : Nat} {s s' : Ch.Sd} {qv ov : Value} {q out : List Int} (hm : MaB w mb ob po s qv ov) (oq : OwnsQ w B qv (byCells q)) (oo : OwnsQ w B ov (byCells out)) (ap : Apart qv ov)
 (k : Kp (fun k=>k = mb) w w') (h' : MaB w' mb ob po s' qv ov) : Mm w' B mb ob po ⟨s',q,out⟩ ∧ Kp (km B mb w) w w':=by
 have n1:=oq.ne hm (by decide);have n2:=oo.ne hm (by decide);exact ⟨⟨qv,ov,h',oq.keep k (fun i hi x=>by subst x;exact n1 hi),oo.keep k (fun i hi x=>by subst x;exact n2 hi),ap⟩,(Kp.refl _ _).trans' k (fun i _ x=>.inl x)⟩
end Go.Proofs.YtnlbchmfcebeeaaGreat
