import Derived.Test.YtnlbchmfcebeeaaGreatTF2
import Derived.Test.YtnlbchmfcebeeaaGreatTB1
import Derived.Test.YtnlbchmfcebeeaaGreatRows
import Derived.WalkKit
import Derived.ProofKit
import Derived.OpenShut
import Derived.ShutString
import Derived.ChangeOld
import Derived.Below
import Derived.Deep.Slices
set_option maxHeartbeats 12800000
set_option maxRecDepth 100000
namespace Go.Proofs.YtnlbchmfcebeeaaGreat
open Go.RowKit
structure OpV where
 kind : Int
 t : ByteArray
 e : ByteArray
 s : Ch.As
 n : Int
 at_ : Int
 rk : Int
 re : ByteArray
 ra : Int
def opL (o : OpV) : List Value:=[.int .i64 o.kind,.string o.t,.string o.e,.string o.s.act,.string o.s.past,.string o.s.tm,.int .i64 o.s.x,.int .i64 o.s.y,.int .i64 o.s.z,.int .i64 o.n,.int .i64 o.at_,.int .i64 o.rk,.string o.re,.int .i64 o.ra]
def opA (o : OpV) : Array Value:=(opL o).toArray
theorem opA_size (o : OpV) : (opA o).size = 14:=rfl
theorem Tryz.sizeOp : (Tryz.prog.info? 81).map (·.size) = some 14:=by kernel_rfl
theorem Tryz.undOp : ∃ d,Tryz.prog.underlying 81 = some d ∧ isAggD d = true:=⟨_,Tryz.underlying81,rfl⟩
def ScR (w : World) (v : Value) (ops : List OpV) : Prop:=((∃ ao cap,v = .slice ao 0 cap) ∧ ops = []) ∨
 ∃ g off cap,v = .slice (some ⟨g,off,none⟩) ops.length cap ∧ ∀ (i : Nat) (o : OpV),ops[i]? = some o → ∀ (j : Nat) (u : Value),(opL o)[j]? = some u → w.cell? ⟨g,off + i * 14 + j,none⟩ = some u
theorem ScR.len {w : World} {v : Value} {ops : List OpV} (h : ScR w v ops) : ∃ ao cap,v = .slice ao ops.length cap:=by
 rcases h with ⟨⟨ao,cap,rfl⟩,rfl⟩ | ⟨g,off,cap,rfl,_⟩
 ·exact ⟨_,_,rfl⟩
 exact ⟨_,_,rfl⟩
theorem ScR.at_ {w : World} {v : Value} {ops : List OpV} (h : ScR w v ops) {i : Nat} {o : OpV} (ho : ops[i]? = some o) : ∃ g off cap,v = .slice (some ⟨g,off,none⟩) ops.length cap ∧ ∀ (j : Nat) (u : Value),(opL o)[j]? = some u → w.cell? ⟨g,off + i * 14 + j,none⟩ = some u:=by
 rcases h with ⟨_,rfl⟩ | ⟨g,off,cap,hv,hc⟩
 ·simp at ho
 exact ⟨g,off,cap,hv,hc i o ho⟩
def KB (B : Nat) (w w' : World) : Prop:=Kp (fun i=>B ≤ i) w w'
theorem ScR.keep {w w' : World} {v : Value} {ops : List OpV} (h : ScR w v ops) (k : KB w.heap.size w w') : ScR w' v ops:=by
 rcases h with h | ⟨g,off,cap,hv,hc⟩
 ·exact .inl h
 refine .inr ⟨g,off,cap,hv,fun i o ho j u hu=>?_⟩;have h1:=hc i o ho j u hu;have hb : g < w.heap.size:=World.block_lt_of_cell? w ⟨g,off + i * 14 + j,none⟩ h1;rw [← h1];exact World.cell?_of_block (k.block g hb (by omega))
open Go.ChangeShapes Go.WideShapes Go.ChangeAt Go.RowKit Go.Deep
theorem belowOfK {w w' : World} (k : Kp (fun _=>False) w w') : Below w.heap.size w w':=⟨k.os,k.tape,k.output,k.size,fun i hi=>k.block i hi (fun x=>x)⟩
theorem own_knobY : ownKnob Tryz.prog.godebug = none:=by kernel_rfl
theorem laid_out : laidOutB Tryz.prog = true:=by kernel_rfl
theorem cells_int : Tryz.prog.cellsOf 3 = 1:=by kernel_rfl
theorem cells_str : Tryz.prog.cellsOf 9 = 1:=by kernel_rfl
theorem cells_as : Tryz.prog.cellsOf 26 = 6:=by kernel_rfl
theorem cells_rq : Tryz.prog.cellsOf 79 = 3:=by kernel_rfl
theorem cells_op : Tryz.prog.cellsOf 81 = 14:=by kernel_rfl
section
variable {H : Type} {enc : TypeId × Value → H} {w : World} {base : Nat} {spare : Nat → Bool} {held : Bool}
theorem open_as {n : Nat} {cs : List Value} {x : DataW H × List MemPlace} (h : DataW.trod enc Tryz.prog w base spare held n 26 cs = some x) :
 ∃ a : Ch.As,cs = [.string a.act,.string a.past,.string a.tm,.int .i64 a.x,.int .i64 a.y,.int .i64 a.z] ∧ a.act.size ≤ maxLen ∧ a.past.size ≤ maxLen ∧ a.tm.size ≤ maxLen:=by
 obtain ⟨xs,m,_,_,hl,hlen,hf⟩:=DataW.trod_struct Tryz.underlying26 h;rw [cells_as] at hl
 match cs,hl,hf with
 | [c0,c1,c2,c3,c4,c5],_,hf =>
   match xs,hlen,hf with
   | [x0,x1,x2,x3,x4,x5],_,hf =>
     have g0:=hf 0 _ rfl;have g1:=hf 1 _ rfl;have g2:=hf 2 _ rfl;have g3:=hf 3 _ rfl;have g4:=hf 4 _ rfl;have g5:=hf 5 _ rfl;simp [cells_int,cells_str] at g0 g1 g2 g3 g4 g5;obtain ⟨s0,e0,_,b0⟩:=DataW.trod_string Tryz.underlying9 g0;obtain ⟨s1,e1,_,b1⟩:=DataW.trod_string Tryz.underlying9 g1;obtain ⟨s2,e2,_,b2⟩:=DataW.trod_string Tryz.underlying9 g2;obtain ⟨s3,e3,_⟩:=DataW.trod_int Tryz.underlying3 g3;obtain ⟨s4,e4,_⟩:=DataW.trod_int Tryz.underlying3 g4;obtain ⟨s5,e5,_⟩:=DataW.trod_int Tryz.underlying3 g5;simp only [List.cons.injEq,and_true] at e0 e1 e2 e3 e4 e5;exact ⟨⟨s0,s1,s2,s3,s4,s5⟩,by rw [e0,e1,e2,e3,e4,e5],b0,b1,b2⟩
theorem open_rq {n : Nat} {cs : List Value} {x : DataW H × List MemPlace} (h : DataW.trod enc Tryz.prog w base spare held n 79 cs = some x) :
 ∃ (k : Int) (s : ByteArray) (a : Int),cs = [.int .i64 k,.string s,.int .i64 a]:=by
 obtain ⟨xs,m,_,_,hl,hlen,hf⟩:=DataW.trod_struct Tryz.underlying79 h;rw [cells_rq] at hl
 match cs,hl,hf with
 | [c0,c1,c2],_,hf =>
   match xs,hlen,hf with
   | [x0,x1,x2],_,hf =>
     have g0:=hf 0 _ rfl;have g1:=hf 1 _ rfl;have g2:=hf 2 _ rfl;simp [cells_int,cells_str] at g0 g1 g2;obtain ⟨s0,e0,_⟩:=DataW.trod_int Tryz.underlying3 g0;obtain ⟨s1,e1,_⟩:=DataW.trod_string Tryz.underlying9 g1;obtain ⟨s2,e2,_⟩:=DataW.trod_int Tryz.underlying3 g2;simp only [List.cons.injEq,and_true] at e0 e1 e2;exact ⟨s0,s1,s2,by rw [e0,e1,e2]⟩
structure OpV.Sm (o : OpV) : Prop where
 t : o.t.size ≤ maxLen
 e : o.e.size ≤ maxLen
 act : o.s.act.size ≤ maxLen
 past : o.s.past.size ≤ maxLen
 tm : o.s.tm.size ≤ maxLen
theorem open_op {n : Nat} {cs : List Value} {x : DataW H × List MemPlace} (h : DataW.trod enc Tryz.prog w base spare held n 81 cs = some x) : ∃ o : OpV,cs = opL o ∧ o.Sm:=by
 obtain ⟨xs,m,_,_,hl,hlen,hf⟩:=DataW.trod_struct Tryz.underlying81 h;rw [cells_op] at hl
 match cs,hl,hf with
 | [c0,c1,c2,c3,c4,c5,c6,c7,c8,c9,c10,c11,c12,c13],_,hf =>
   match xs,hlen,hf with
   | [x0,x1,x2,x3,x4,x5,x6],_,hf =>
     have g0:=hf 0 _ rfl;have g1:=hf 1 _ rfl;have g2:=hf 2 _ rfl;have g3:=hf 3 _ rfl;have g4:=hf 4 _ rfl;have g5:=hf 5 _ rfl;have g6:=hf 6 _ rfl;simp [cells_int,cells_str,cells_as,cells_rq] at g0 g1 g2 g3 g4 g5 g6;obtain ⟨s0,e0,_⟩:=DataW.trod_int Tryz.underlying3 g0;obtain ⟨s1,e1,_,b1⟩:=DataW.trod_string Tryz.underlying9 g1;obtain ⟨s2,e2,_,b2⟩:=DataW.trod_string Tryz.underlying9 g2;obtain ⟨a,e3,b3,b4,b5⟩:=open_as g3;obtain ⟨s4,e4,_⟩:=DataW.trod_int Tryz.underlying3 g4;obtain ⟨s5,e5,_⟩:=DataW.trod_int Tryz.underlying3 g5;obtain ⟨rk,re,ra,e6⟩:=open_rq g6;simp only [List.cons.injEq,and_true] at e0 e1 e2 e3 e4 e5 e6;obtain ⟨f0,f1,f2,f3,f4,f5⟩:=e3;obtain ⟨h0,h1,h2⟩:=e6;exact ⟨⟨s0,s1,s2,a,s4,s5,rk,re,ra⟩,by rw [e0,e1,e2,f0,f1,f2,f3,f4,f5,e4,e5,h0,h1,h2];rfl,⟨b1,b2,b3,b4,b5⟩⟩
end
instance : Inhabited OpV:=⟨⟨0,⟨#[]⟩,⟨#[]⟩,⟨⟨#[]⟩,⟨#[]⟩,⟨#[]⟩,0,0,0⟩,0,0,0,⟨#[]⟩,0⟩⟩
theorem open_script {H : Type} {enc : TypeId × Value → H} {W : World} {base : Nat} {v : Value} {d : DataW H} {p : List MemPlace} (hv : Value.okWide Tryz.prog W .any base 22 v)
 (h : DataW.Trod enc Tryz.prog W 0 (fun _=>true) true 22 v d p) : ∃ ops : List OpV,ScR W v ops ∧ ops.length ≤ maxLen ∧ ∀ o ∈ ops,o.Sm:=by
 obtain ⟨fuel,hf⟩:=h;obtain ⟨a0,len,cap,rfl⟩:=okWide_slice Tryz.underlying22 hv
 rcases open_slice Tryz.underlying22 hf with ⟨hcs,_⟩ | ⟨a,len',cap',m,n,D,Pl,hcs,hb,hl,hm,hmm,_,hel⟩
 ·simp [Value.cells] at hcs
  obtain ⟨rfl,rfl,rfl⟩:=hcs;exact ⟨[],.inl ⟨⟨_,_,rfl⟩,rfl⟩,Nat.zero_le _,by simp⟩
 simp [Value.cells] at hcs;obtain ⟨rfl,rfl,rfl⟩:=hcs;simp only [if_true] at hmm;subst hmm;rw [cells_op] at hel
 have hex : ∀ i,i < len → ∃ o : OpV,o.Sm ∧ ∀ j u,(opL o)[j]? = some u → W.cell? (a.add (i * 14 + j)) = some u:=by
  intro i hi;obtain ⟨cs',hc,ht⟩:=hel i (by omega);obtain ⟨o,rfl,hsm⟩:=open_op ht;obtain ⟨_,_,hcell⟩:=World.cells?_some hc;refine ⟨o,hsm,fun j u hu=>?_⟩
  have hj : j < 14:=by have:=(List.getElem?_eq_some_iff.1 hu).1;simpa [opL] using this
  rw [← Go.Deep.add_add,hcell j hj];exact hu
 obtain ⟨f,hf'⟩:=choose_lt hex
 by_cases hz : len = 0
 ·subst hz
  exact ⟨[],.inl ⟨⟨_,_,rfl⟩,rfl⟩,Nat.zero_le _,by simp⟩
 obtain ⟨b,off,spot⟩:=a
 have hspot : spot = none:=by
  have:=(hf' 0 (by omega)).2 0 _ rfl;simpa [Addr.add] using World.cell?_spot this
 subst hspot;refine ⟨(List.range len).map f,.inr ⟨b,off,m,by simp,fun i o ho j u hu=>?_⟩,by simp;omega,fun o ho=>?_⟩
 rotate_left
 ·obtain ⟨i,hi,rfl⟩:=List.mem_map.1 ho
  exact (hf' i (by simpa using hi)).1
 rw [List.getElem?_map,Option.map_eq_some_iff] at ho;obtain ⟨i',hi',rfl⟩:=ho
 have hlt : i' < len ∧ i = i':=by
  have:=(List.getElem?_eq_some_iff.1 hi').1;rw [List.getElem?_range (by simpa using this)] at hi';simp at hi' this;omega
 obtain ⟨hlt,rfl⟩:=hlt;have:=(hf' i hlt).2 j u hu;rw [show off + i * 14 + j = off + (i * 14 + j) by omega];unfold Addr.add at this
 split at this <;> simp_all
section
variable (w : World)
theorem num_any (e : Int) :
 Calls Tryz.prog 93 #[.int .i64 e] w fun x w'=>x = .returned (.int .i64 e) ∧ w' = w:=by
 go_enter Tryz.func93,Tryz.ntmps93
 go_wp2;go_ret;exact ⟨rfl,rfl⟩
end
end Go.Proofs.YtnlbchmfcebeeaaGreat
