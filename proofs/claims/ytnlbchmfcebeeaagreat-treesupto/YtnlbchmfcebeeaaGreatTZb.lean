import Derived.Test.YtnlbchmfcebeeaaGreatTXw
import Derived.Test.YtnlbchmfcebeeaaGreatTXp
set_option maxHeartbeats 12800000
set_option maxRecDepth 100000
namespace Go.Proofs.YtnlbchmfcebeeaaGreat
open Go.RowKit
def OwnP (w : World) (base : Nat) (v : Value) (n : Nat) (xs : List Value) : Prop :=
 xs.length = n ∧ ((v = .slice none 0 0 ∧ n = 0) ∨ ∃ g cap cur fr,v = .slice (some ⟨g,0,none⟩) n cap ∧ base ≤ g ∧ w.heap[g]? = some (.cells cur 5 fr) ∧ (fr = (0,0) ∨ cur.size ≤ fr.1) ∧ n ≤ cur.size ∧ cur.toList.take n = xs)
section
variable {w w' : World} {base g cap : Nat} {v : Value} {n : Nat} {xs : List Value}
theorem OwnP.keep {S : Nat → Prop} (h : OwnP w base v n xs) (k : Kp S w w') (hs : ∀ i,v.ownBlock = some i → ¬ S i) : OwnP w' base v n xs:=by
 refine ⟨h.1,?_⟩
 rcases h.2 with h0 | ⟨g,cap,cur,fr,rfl,hb,hg,r⟩
 ·exact .inl h0
 exact .inr ⟨g,cap,cur,fr,rfl,hb,k.at_ hg (hs g rfl),r⟩
theorem OwnP.block (h : OwnP w base v n xs) {k : Nat} (hk : v.ownBlock = some k) : base ≤ k ∧ ∃ cur fr,w.heap[k]? = some (.cells cur 5 fr):=by
 rcases h.2 with ⟨rfl,_⟩ | ⟨g,cap,cur,fr,rfl,hb,hg,_⟩
 ·simp [Value.ownBlock] at hk
 simp [Value.ownBlock] at hk;subst hk;exact ⟨hb,cur,fr,hg⟩
theorem OwnP.ne (h : OwnP w base v n xs) {b : Nat} {c : Array Value} {T : TypeId} {f : Nat × Nat} (hb : w.heap[b]? = some (.cells c T f)) (hT : 5 ≠ T) : v.ownBlock ≠ some b:=fun hk=>by
 obtain ⟨_,cur,fr,hg⟩:=h.block hk;rw [hb] at hg;simp only [Option.some.injEq,Obj.cells.injEq] at hg;exact hT hg.2.1.symm
theorem OwnP.lt (h : OwnP w base v n xs) (k : Nat) (hk : v.ownBlock = some k) : base ≤ k ∧ k < w.heap.size:=by
 obtain ⟨hb,_,_,hg⟩:=h.block hk;exact ⟨hb,lt_of_block hg⟩
theorem OwnP.len (h : OwnP w base v n xs) : ∃ ao cap,v = .slice ao n cap:=by
 rcases h.2 with ⟨rfl,rfl⟩ | ⟨g,cap,cur,fr,rfl,_⟩
 ·exact ⟨_,_,rfl⟩
 exact ⟨_,_,rfl⟩
theorem OwnP.form (h : OwnP w base v n xs) (hn : 0 < n) : ∃ g cap,v = .slice (some ⟨g,0,none⟩) n cap ∧ base ≤ g ∧ g < w.heap.size:=by
 rcases h.2 with ⟨_,rfl⟩ | ⟨g,cap,cur,fr,rfl,hb,hg,_⟩
 ·omega
 exact ⟨g,cap,rfl,hb,lt_of_block hg⟩
theorem OwnP.cellAt (h : OwnP w base (.slice (some ⟨g,0,none⟩) n cap) n xs) (j : Nat) (hj : j < n) : w.cell? ⟨g,j,none⟩ = xs[j]?:=by
 rcases h.2 with ⟨h',_⟩ | ⟨g',cap',cur,fr,h',_,hg,_,_,ht⟩
 ·simp at h'
 simp only [Value.slice.injEq,Option.some.injEq,Addr.mk.injEq,and_true,true_and] at h';obtain ⟨rfl,rfl⟩:=h';rw [World.cell?,hg,← ht,List.getElem?_take,if_pos hj];simp
theorem OwnP.free (h : OwnP w base (.slice (some ⟨g,0,none⟩) n cap) n xs) (j : Nat) (hj : j < n) : w.frozen? ⟨g,j,none⟩ = false:=by
 rcases h.2 with ⟨h',_⟩ | ⟨g',cap',cur,fr,h',_,hg,hf,hn,_⟩
 ·simp at h'
 simp only [Value.slice.injEq,Option.some.injEq,Addr.mk.injEq,and_true,true_and] at h';obtain ⟨rfl,rfl⟩:=h';obtain ⟨lo,hi⟩:=fr;simp only [World.frozen?,hg]
 rcases hf with hf | hf
 ·simp at hf;simp [hf]
 simp at hf
 have : ¬ lo ≤ j:=by omega
 simp [this]
theorem OwnP.stored (h : OwnP w base (.slice (some ⟨g,0,none⟩) n cap) n xs) (j : Nat) (u : Value) : OwnP (w.setCell ⟨g,j,none⟩ u) base (.slice (some ⟨g,0,none⟩) n cap) n (xs.set j u):=by
 rcases h.2 with ⟨h',_⟩ | ⟨g',cap',cur,fr,h',hb,hg,hf,hn,ht⟩
 ·simp at h'
 simp only [Value.slice.injEq,Option.some.injEq,Addr.mk.injEq,and_true,true_and] at h';obtain ⟨rfl,rfl⟩:=h';refine ⟨by rw [List.length_set];exact h.1,.inr ⟨g,cap,_,fr,rfl,hb,heap_set_same _ hg,by simpa using hf,by simpa using hn,?_⟩⟩;rw [← ht];simp [List.take_set]
theorem OwnP.text {l : List Int} (h : OwnP w base v l.length (byCells l)) : (convert 47 9 v).run Tryz.prog w = .ok (.string (strOfNums l)) w:=by
 rcases h.2 with ⟨rfl,h0⟩ | ⟨g,cap,cur,fr,rfl,r⟩
 ·have : l = []:=List.eq_nil_of_length_eq_zero h0
  subst this;exact run_convert_bytes_nil w 47 5 Tryz.underlying47 Tryz.underlying5 0 0 9 Tryz.underlying9
 refine run_convert_bytes_arg w 47 5 Tryz.underlying47 Tryz.underlying5 g 0 l.length cap l rfl ?_ 9 Tryz.underlying9;intro i hi;rw [Nat.zero_add,h.cellAt i (by omega)];simp [byCells,hi]
end
def PsR (w : World) (B : Nat) (ol : Ch.Ol) (s : Ch.Sd) (pv : Value) : Prop:=OwnP w B pv (Ch.pastR ol.sts s).length (byCells (Ch.pastR ol.sts s))
end Go.Proofs.YtnlbchmfcebeeaaGreat
