import Derived.Test.YtnlbchmfcebeeaaGreatTC4
set_option maxHeartbeats 12800000
set_option maxRecDepth 100000
namespace Go.Proofs.YtnlbchmfcebeeaaGreat
open Go.RowKit
namespace Ch
def holds (s : Sd) (g : Gd) : Bool :=
 if g.sign == 60 then decide (var s g.var < g.digit) else if g.sign == 61 then var s g.var == g.digit else if g.sign == 62 then decide (g.digit < var s g.var) else true
def isLeaf (ss : List St) (act : List Bool) (k : Nat) : Bool:=has act (k : Int) && (kindAt ss k == 1 || kindAt ss k == 4)
end Ch
def inCells (l : List Int) : List Value:=l.map (Value.int .i64)
def InR (w : World) (v : Value) (l : List Int) : Prop:=∃ base,w.ownsRow base 3 1 v l.length (inCells l)
theorem InR.keep {S : Nat → Prop} {w w' : World} {v : Value} {l : List Int} (h : InR w v l) (k : Kp S w w') (hs : ∀ i cur,w.heap[i]? = some (.cells cur 3 (0,0)) → ¬ S i) : InR w' v l:=by
 obtain ⟨base,ho⟩:=h;exact ⟨base,k.owns ho (fun i hi=>by obtain ⟨cur,hg⟩:=own_block ho hi;exact hs i cur hg)⟩
theorem InR.len {w : World} {v : Value} {l : List Int} (h : InR w v l) : ∃ ao cap,v = .slice ao l.length cap:=by
 obtain ⟨base,ho⟩:=h;exact own_len ho
theorem InR.at_ {w : World} {v : Value} {l : List Int} (h : InR w v l) {k : Nat} {n : Int} (hn : l[k]? = some n) : ∃ g cap,v = .slice (some ⟨g,0,none⟩) l.length cap ∧ w.cell? ⟨g,k,none⟩ = some (.int .i64 n):=by
 obtain ⟨base,ho⟩:=h;have hk:=(List.getElem?_eq_some_iff.1 hn).1;obtain ⟨g,cap,rfl⟩:=own_form ho (by omega);refine ⟨g,cap,rfl,(ho.cellAt k (by omega)).trans ?_⟩;simp [inCells,hn]
namespace Ch
def findP (s : Sd) (st trg : Int) (t : Tr) : Bool:=(t.state == st) && (t.trig == trg) && holds s t.guard
def findInF (s : Sd) (st trg : Int) : List Tr → Nat → Int
 | [],_=>-2
 | t :: l,k=>if findP s st trg t then k else findInF s st trg l (k + 1)
def findIn (ol : Ol) (s : Sd) (st trg : Int) : Int:=findInF s st trg ol.trs 0
def findFromF (ol : Ol) (s : Sd) (trg : Int) : Nat → Int → Int
 | 0,_=>-2
 | f + 1,i=>if i == -1 then -2 else if findIn ol s i trg != -2 then findIn ol s i trg else findFromF ol s trg f (parAt ol.sts i)
def findFrom (ol : Ol) (s : Sd) (leaf trg : Int) : Int:=findFromF ol s trg (leaf + 2).toNat leaf
end Ch
theorem Tryz.infoInt : (Tryz.prog.info? 3).map (fun i=>(i.zero,i.size,i.bytes)) = some (some (.int .i64 0),1,8):=by kernel_rfl
namespace Ch
def stateOf (ol : Ol) (k : Nat) : Int:=match ol.trs[k]? with | some t=>t.state | none=>0
def within (ol : Ol) (t other : Nat) : Bool:=isAbove ol.sts (stateOf ol other) (stateOf ol t)
def findStep (ol : Ol) (s : Sd) (trg : Int) (fl : List Int) (k : Nat) : List Int :=
 if isLeaf ol.sts s.act k && (findFrom ol s k trg != -2) && !(fl.any (· == findFrom ol s k trg)) then fl ++ [findFrom ol s k trg] else fl
def findF (ol : Ol) (s : Sd) (trg : Int) : Nat → Nat → List Int → List Int
 | 0,_,fl=>fl
 | f + 1,k,fl=>findF ol s trg f (k + 1) (findStep ol s trg fl k)
def find (ol : Ol) (s : Sd) (trg : Int) : List Int:=findF ol s trg ol.sts.length 0 []
end Ch
end Go.Proofs.YtnlbchmfcebeeaaGreat
