import Derived.Test.YtnlbchmfcebeeaaGreatTC0
import Derived.Test.YtnlbchmfcebeeaaGreatTA7
import Derived.Test.YtnlbchmfcebeeaaGreatTLg
set_option maxHeartbeats 12800000
set_option maxRecDepth 100000
namespace Go.Proofs.YtnlbchmfcebeeaaGreat
open Go.RowKit
theorem Tryz.sizeMach : (Tryz.prog.info? 149).map (·.size) = some 39:=by kernel_rfl
theorem Tryz.sizeSg : (Tryz.prog.info? 119).map (·.size) = some 42:=by kernel_rfl
theorem Tryz.undOl : ∃ d,Tryz.prog.underlying 87 = some d ∧ isAggD d = true:=⟨_,Tryz.underlying87,rfl⟩
theorem Tryz.undSg : ∃ d,Tryz.prog.underlying 119 = some d ∧ isAggD d = true:=⟨_,Tryz.underlying119,rfl⟩
theorem built_mach_raw (q : Option Addr) (a0 a1 a2 a3 a4 a5 a6 a7 a8 a9 a10 a11 a12 a13 a14 a15 : Bool) (p0 p1 p2 p3 p4 p5 p6 p7 p8 p9 p10 p11 p12 p13 p14 p15 : Int) (tm : ByteArray) (x y z : Int) :
 Tryz.prog.built 149 [(0,.pointer q),(1,.agg #[.bool a0,.bool a1,.bool a2,.bool a3,.bool a4,.bool a5,.bool a6,.bool a7,.bool a8,.bool a9,.bool a10,.bool a11,.bool a12,.bool a13,.bool a14,.bool a15,.int .u8 p0,.int .u8 p1,.int .u8 p2,.int .u8 p3,.int .u8 p4,.int .u8 p5,.int .u8 p6,.int .u8 p7,.int .u8 p8,.int .u8 p9,.int .u8 p10,.int .u8 p11,.int .u8 p12,.int .u8 p13,.int .u8 p14,.int .u8 p15,.string tm,.int .i64 x,.int .i64 y,.int .i64 z])] = some #[.pointer q,.bool a0,.bool a1,.bool a2,.bool a3,.bool a4,.bool a5,.bool a6,.bool a7,.bool a8,.bool a9,.bool a10,.bool a11,.bool a12,.bool a13,.bool a14,.bool a15,.int .u8 p0,.int .u8 p1,.int .u8 p2,.int .u8 p3,.int .u8 p4,.int .u8 p5,.int .u8 p6,.int .u8 p7,.int .u8 p8,.int .u8 p9,.int .u8 p10,.int .u8 p11,.int .u8 p12,.int .u8 p13,.int .u8 p14,.int .u8 p15,.string tm,.int .i64 x,.int .i64 y,.int .i64 z,.slice none 0 0,.slice none 0 0]:=by kernel_rfl
def maA (q : Option Addr) (s : Ch.Sd) : Array Value:=([Value.pointer q] ++ s.act.map Value.bool ++ (sdTail s ++ [Value.slice none 0 0,Value.slice none 0 0])).toArray
theorem built_mach (q : Option Addr) (s : Ch.Sd) (hw : s.Wf) : Tryz.prog.built 149 [(0,.pointer q),(1,.agg (sdAll s).toArray)] = some (maA q s):=by
 obtain ⟨act,past,tm,x,y,z⟩:=s;obtain ⟨h1,h2⟩:=hw;simp only at h1 h2;obtain ⟨a0,a1,a2,a3,a4,a5,a6,a7,a8,a9,a10,a11,a12,a13,a14,a15,rfl⟩:=list16 act h1;obtain ⟨p0,p1,p2,p3,p4,p5,p6,p7,p8,p9,p10,p11,p12,p13,p14,p15,rfl⟩:=list16 past h2;exact built_mach_raw q a0 a1 a2 a3 a4 a5 a6 a7 a8 a9 a10 a11 a12 a13 a14 a15 p0 p1 p2 p3 p4 p5 p6 p7 p8 p9 p10 p11 p12 p13 p14 p15 tm x y z
theorem maA_size (q : Option Addr) {s : Ch.Sd} (hw : s.Wf) : (maA q s).size = 39:=by simp [maA,sdTail,pastCells,hw.1,hw.2]
theorem maA_info (q : Option Addr) {s : Ch.Sd} (hw : s.Wf) : (Tryz.prog.info? 149).map (·.size) = some (maA q s).size:=by rw [maA_size q hw];exact Tryz.sizeMach
theorem maA_one (q : Option Addr) (s : Ch.Sd) : (maA q s).all (fun x=>x.oneCell') = true:=by
 apply Array.all_eq_true_iff_forall_mem.2;intro x hx;simp only [maA,sdTail,pastCells,List.mem_toArray,List.mem_append,List.mem_map,List.mem_cons,List.not_mem_nil,or_false] at hx
 rcases hx with (rfl | ⟨a,_,rfl⟩) | ((⟨a,_,rfl⟩ | rfl | rfl | rfl | rfl) | rfl | rfl) <;> rfl
theorem MaB.ofRow {w : World} {mb ob po : Nat} {s : Ch.Sd} (h : w.heap[mb]? = some (.cells (maA (some ⟨ob,po,none⟩) s) 149 (0,0))) : MaB w mb ob po s (.slice none 0 0) (.slice none 0 0):=h
def sgA (e : Int) (sv tv bv : Value) (s : Ch.Sd) : Array Value:=([Value.int .i64 e,.int .i64 0,.int .i64 0,sv,tv,bv] ++ sdAll s).toArray
theorem built_sg_err (e : Int) : Tryz.prog.built 119 [(0,.int .i64 e)] = some (sgA e (.slice none 0 0) (.slice none 0 0) (.slice none 0 0) Ch.noSd):=by kernel_rfl
theorem built_sg_ok_raw (a b c : Option Addr) (l1 c1 l2 c2 l3 c3 : Nat) (a0 a1 a2 a3 a4 a5 a6 a7 a8 a9 a10 a11 a12 a13 a14 a15 : Bool) (p0 p1 p2 p3 p4 p5 p6 p7 p8 p9 p10 p11 p12 p13 p14 p15 : Int) (tm : ByteArray) (x y z : Int) :
 Tryz.prog.built 119 [(1,.agg #[.int .i64 0,.int .i64 0,.slice a l1 c1,.slice b l2 c2,.slice c l3 c3]),(2,.agg #[.bool a0,.bool a1,.bool a2,.bool a3,.bool a4,.bool a5,.bool a6,.bool a7,.bool a8,.bool a9,.bool a10,.bool a11,.bool a12,.bool a13,.bool a14,.bool a15,.int .u8 p0,.int .u8 p1,.int .u8 p2,.int .u8 p3,.int .u8 p4,.int .u8 p5,.int .u8 p6,.int .u8 p7,.int .u8 p8,.int .u8 p9,.int .u8 p10,.int .u8 p11,.int .u8 p12,.int .u8 p13,.int .u8 p14,.int .u8 p15,.string tm,.int .i64 x,.int .i64 y,.int .i64 z])] = some #[.int .i64 0,.int .i64 0,.int .i64 0,.slice a l1 c1,.slice b l2 c2,.slice c l3 c3,.bool a0,.bool a1,.bool a2,.bool a3,.bool a4,.bool a5,.bool a6,.bool a7,.bool a8,.bool a9,.bool a10,.bool a11,.bool a12,.bool a13,.bool a14,.bool a15,.int .u8 p0,.int .u8 p1,.int .u8 p2,.int .u8 p3,.int .u8 p4,.int .u8 p5,.int .u8 p6,.int .u8 p7,.int .u8 p8,.int .u8 p9,.int .u8 p10,.int .u8 p11,.int .u8 p12,.int .u8 p13,.int .u8 p14,.int .u8 p15,.string tm,.int .i64 x,.int .i64 y,.int .i64 z]:=by kernel_rfl
theorem built_sg_ok (a b c : Option Addr) (l1 c1 l2 c2 l3 c3 : Nat) (s : Ch.Sd) (hw : s.Wf) :
 Tryz.prog.built 119 [(1,.agg #[.int .i64 0,.int .i64 0,.slice a l1 c1,.slice b l2 c2,.slice c l3 c3]),(2,.agg (sdAll s).toArray)] = some (sgA 0 (.slice a l1 c1) (.slice b l2 c2) (.slice c l3 c3) s):=by
 obtain ⟨act,past,tm,x,y,z⟩:=s;obtain ⟨h1,h2⟩:=hw;simp only at h1 h2;obtain ⟨a0,a1,a2,a3,a4,a5,a6,a7,a8,a9,a10,a11,a12,a13,a14,a15,rfl⟩:=list16 act h1;obtain ⟨p0,p1,p2,p3,p4,p5,p6,p7,p8,p9,p10,p11,p12,p13,p14,p15,rfl⟩:=list16 past h2;exact built_sg_ok_raw a b c l1 c1 l2 c2 l3 c3 a0 a1 a2 a3 a4 a5 a6 a7 a8 a9 a10 a11 a12 a13 a14 a15 p0 p1 p2 p3 p4 p5 p6 p7 p8 p9 p10 p11 p12 p13 p14 p15 tm x y z
theorem sgA_size (e : Int) (sv tv bv : Value) {s : Ch.Sd} (hw : s.Wf) : (sgA e sv tv bv s).size = 42:=by simp [sgA,sdAll_len hw]
theorem sgA_info (e : Int) (sv tv bv : Value) {s : Ch.Sd} (hw : s.Wf) : (Tryz.prog.info? 119).map (·.size) = some (sgA e sv tv bv s).size:=by rw [sgA_size e sv tv bv hw];exact Tryz.sizeSg
theorem sgA_one (e : Int) {sv tv bv : Value} (h1 : sv.oneCell' = true) (h2 : tv.oneCell' = true) (h3 : bv.oneCell' = true) (s : Ch.Sd) : (sgA e sv tv bv s).all (fun x=>x.oneCell') = true:=by
 apply Array.all_eq_true_iff_forall_mem.2;intro x hx;simp only [sgA,sdAll,sdTail,pastCells,List.mem_toArray,List.mem_append,List.mem_map,List.mem_cons,List.not_mem_nil,or_false] at hx
 rcases hx with (rfl | rfl | rfl | rfl | rfl | rfl) | (⟨a,_,rfl⟩ | ⟨a,_,rfl⟩ | rfl | rfl | rfl | rfl) <;> first | rfl | assumption
section
variable {P : Program} {Q : Exit → Act → World → Prop} {S : World → Prop}
theorem do_store {ops : Array Oper} (i : Nat) {oi : Oper} {fuel : Nat} {listed : Array Bool} {a : Act} {w : World} (hr : Region.ready .any ops listed = [i]) (hi : ops[i]? = some oi) (hg : oi.guard = none)
 (ty : TypeId) (x y : Operand) (ho : oi.op = .store ty x y) (hd : oi.dst = none) (g : Nat) (cells : Array Value) (hx : a.eval x = .pointer (some ⟨g,0,none⟩)) (hy : a.eval y = .agg cells)
 (t : TypeId) (old : Array Value) (hgp : w.heap[g]? = some (.cells old t (0,0))) (hI : (P.info? ty).map (·.size) = some cells.size) (hold : old.size = cells.size) (h1 : cells.all (·.oneCell') = true)
 (hS : S (w.setRow g cells)) (h : wpAnyH P .any ops (NoPanic Q) S fuel (listed.setIfInBounds i true) a (w.setRow g cells)) : wpAnyH P .any ops (NoPanic Q) S (fuel + 1) listed a w :=
 do_op i hr hi hg (wp_store_row ty x y ho g cells hx hy t old hgp hI hold h1 (by rw [hd];exact ⟨hS,h⟩))
theorem exec_load_part {o : Oper} {a : Act} {w : World} (ty : TypeId) (x : Operand) (hop : o.op = .load ty x)
 (b k : Nat) (hx : a.eval x = .pointer (some ⟨b,k,none⟩)) (cs : List Value) (d : TypeDesc) (hc : ∀ j v,cs[j]? = some v → w.cell? ⟨b,k + j,none⟩ = some v)
 (hu : P.underlying ty = some d) (hd : isAggD d = true) (hi : (P.info? ty).map (·.size) = some cs.length) : (execOp a.eval o).run P w = .ok (.value (.agg cs.toArray)) w:=by
 unfold execOp;simp only [hop,hx,Instr.loadAt,Instr.sureAddr,Sem.run_bind,Sem.run_pure,Result.andThen_ok,run_loadVar_part w b k ty cs d hc hu hd hi]
theorem exec_load_row {o : Oper} {a : Act} {w : World} (ty : TypeId) (x : Operand) (hop : o.op = .load ty x)
 (g : Nat) (hx : a.eval x = .pointer (some ⟨g,0,none⟩)) (t : TypeId) (cs : Array Value) (fr : Nat × Nat) (d : TypeDesc) (hg : w.heap[g]? = some (.cells cs t fr))
 (hu : P.underlying ty = some d) (hd : isAggD d = true) (hi : (P.info? ty).map (·.size) = some cs.size) : (execOp a.eval o).run P w = .ok (.value (.agg cs)) w:=by
 unfold execOp;simp only [hop,hx,Instr.loadAt,Instr.sureAddr,Sem.run_bind,Sem.run_pure,Result.andThen_ok,run_loadVar_row w g t ty cs fr d hg hu (by cases d <;> simp_all [isAggD]) hi]
theorem exec_convert {o : Oper} {a : Act} {w : World} (t u : TypeId) (x : Operand) (hop : o.op = .convert t u x) (v r : Value) (hx : a.eval x = v) (h : (convert t u v).run P w = .ok r w) :
 (execOp a.eval o).run P w = .ok (.value r) w:=by
 unfold execOp;simp only [hop,hx,Sem.run_bind,Sem.run_pure,h,Result.andThen_ok]
end
theorem MaB.stand {w : World} {mb ob po : Nat} {s : Ch.Sd} {qv ov : Value} (h : MaB w mb ob po s qv ov) : ∀ j v,(sdAll s)[j]? = some v → w.cell? ⟨mb,1 + j,none⟩ = some v:=by
 intro j v hj;unfold MaB SdB SeB at h;rw [World.cell?,h];simp only [sdAll] at hj
 have e : ([Value.pointer (some ⟨ob,po,none⟩)] ++ s.act.map Value.bool ++ (sdTail s ++ [qv,ov])) = [Value.pointer (some ⟨ob,po,none⟩)] ++ ((s.act.map Value.bool ++ sdTail s) ++ [qv,ov]):=by simp
 simp only [e];have hlt:=(List.getElem?_eq_some_iff.1 hj).1;show (([Value.pointer (some ⟨ob,po,none⟩)] ++ ((s.act.map Value.bool ++ sdTail s) ++ [qv,ov])).toArray)[1 + j]? = some v;rw [List.getElem?_toArray,List.getElem?_append_right (by simp),List.getElem?_append_left (by simp at hlt ⊢;omega)];simpa using hj
end Go.Proofs.YtnlbchmfcebeeaaGreat
