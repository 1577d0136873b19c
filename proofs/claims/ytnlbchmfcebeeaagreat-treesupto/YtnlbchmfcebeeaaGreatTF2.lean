import Derived.Test.YtnlbchmfcebeeaaGreatTE5
import Derived.Test.YtnlbchmfcebeeaaGreatTE1
import Derived.Test.YtnlbchmfcebeeaaGreatTE7
import Derived.Test.YtnlbchmfcebeeaaGreatTA7
import Derived.Lib.AppendStr
set_option maxHeartbeats 12800000
set_option maxRecDepth 100000
namespace Go.Proofs.YtnlbchmfcebeeaaGreat
open Go.RowKit
namespace Ch
structure As where
 act : ByteArray
 past : ByteArray
 tm : ByteArray
 x : Int
 y : Int
 z : Int
end Ch
theorem exec_build {P : Program} {o : Oper} {a : Act} {w : World} (t : TypeId) (parts : Array (Nat × Operand)) (ho : o.op = .build t parts)
 (cells : Array Value) (vals : List (Nat × Value)) (hv : parts.toList.map (fun p=>(p.1,a.eval p.2)) = vals) (hb : P.built t vals = some cells) : (execOp a.eval o).run P w = .ok (.value (.agg cells)) w:=by
 have e : (parts.map fun (i,x)=>(i,a.eval x)).toList = vals:=by rw [Array.toList_map];exact hv
 unfold execOp;simp only [ho,Sem.run_bind,run_build w t _ cells (by rw [e];exact hb),Result.andThen_ok,Sem.run_pure]
theorem kpOfBelow {w w' : World} (b : Below w.heap.size w w') : Kp (fun _=>False) w w':=⟨b.os,b.tape,b.output,b.size,fun k hk _=>b.block k hk⟩
def olA (e f : Int) (sv tv bv : Value) : Array Value:=#[.int .i64 e,.int .i64 f,sv,tv,bv]
theorem olOne {e f : Int} {sv tv bv : Value} (h1 : sv.oneCell' = true) (h2 : tv.oneCell' = true) (h3 : bv.oneCell' = true) : (olA e f sv tv bv).all (fun x=>x.oneCell') = true:=by
 apply Array.all_eq_true_iff_forall_mem.2;intro x hx;simp only [olA,List.mem_toArray,List.mem_cons,List.not_mem_nil,or_false] at hx
 rcases hx with rfl | rfl | rfl | rfl | rfl <;> first | rfl | assumption
theorem own_one {w : World} {base : Nat} {e : TypeId} {size : Nat} {v : Value} {n : Nat} {xs : List Value} (h : w.ownsRow base e size v n xs) : v.oneCell' = true:=by
 obtain ⟨a,m,c,rfl⟩:=own_slice h;rfl
theorem OlF.keep0 {w w' : World} {B : Nat} {o : Ch.Ol} {sv tv bv : Value} {lt : List (Ch.Tr × Value)} {lb : List (Ch.Bl × Value)} (F : OlF w B o sv tv bv lt lb) (k : Kp (fun _=>False) w w') : OlF w' B o sv tv bv lt lb :=
 ⟨k.owns F.sts (fun _ _ x=>x),F.mtr,k.owns F.trs (fun _ _ x=>x),fun x hx=>k.owns (F.tra x hx) (fun _ _ x=>x),F.mbl,k.owns F.bls (fun _ _ x=>x),fun x hx=>k.owns (F.bla x hx) (fun _ _ x=>x)⟩
theorem Pl.ofRow {w : World} {ob B : Nat} {ol : Ch.Ol} {e f : Int} {sv tv bv : Value} {lt : List (Ch.Tr × Value)} {lb : List (Ch.Bl × Value)} (h : w.heap[ob]? = some (.cells (olA e f sv tv bv) 87 (0,0))) (F : OlF w B ol sv tv bv lt lb) : Pl w ob 0 ol :=
 ⟨sv,tv,bv,lt,lb,B,_,_,⟨h,.inl rfl,rfl,rfl,rfl⟩,F⟩
end Go.Proofs.YtnlbchmfcebeeaaGreat
