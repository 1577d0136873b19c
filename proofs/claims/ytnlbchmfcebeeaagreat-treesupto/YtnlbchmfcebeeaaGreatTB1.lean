import Derived.Test.YtnlbchmfcebeeaaGreatTA7
set_option maxHeartbeats 12800000
set_option maxRecDepth 100000
namespace Go.Proofs.YtnlbchmfcebeeaaGreat
open Go.RowKit
namespace Ch
def bit (l : List Bool) (k : Nat) : Bool:=l.getD k false
def has (l : List Bool) (i : Int) : Bool:=match i with | .ofNat k=>bit l k | .negSucc _=>false
def putB (l : List Bool) (i : Int) (v : Bool) : List Bool:=match i with | .ofNat k=>l.set k v | .negSucc _=>l
def join (l m : List Bool) : List Bool:=(List.range 16).map fun k=>bit l k || bit m k
def meets (l m : List Bool) : Bool:=(List.range 16).any fun k=>bit l k && bit m k
theorem putB_len (l : List Bool) (i : Int) (v : Bool) : (putB l i v).length = l.length:=by
 cases i with
 | ofNat k=>simp [putB]
 | negSucc k=>rfl
end Ch
def SeB (w : World) (b : Nat) (pre : List Value) (l : List Bool) (post : List Value) (T : TypeId) : Prop :=
 w.heap[b]? = some (.cells (pre ++ l.map Value.bool ++ post).toArray T (0,0))
section
variable {w : World} {b : Nat} {pre : List Value} {l : List Bool} {post : List Value} {T : TypeId}
theorem SeB.cell (h : SeB w b pre l post T) (hl : l.length = 16) {k : Nat} (hk : k < 16) : w.cell? ⟨b,pre.length + k,none⟩ = some (.bool (Ch.bit l k)):=by
 unfold SeB at h
 have e : (pre ++ l.map Value.bool ++ post)[pre.length + k]? = some (.bool (Ch.bit l k)):=by
  rw [List.append_assoc,List.getElem?_append_right (by omega),Nat.add_sub_cancel_left,List.getElem?_append_left (by simp;omega)];simp [Ch.bit,show k < l.length by omega]
 simp only [World.cell?,h];simpa using e
theorem SeB.free (h : SeB w b pre l post T) (i : Nat) : w.frozen? ⟨b,i,none⟩ = false:=by unfold SeB at h;simp [World.frozen?,h]
theorem SeB.set (h : SeB w b pre l post T) (hl : l.length = 16) {k : Nat} (hk : k < 16) (v : Bool) : SeB (w.setCell ⟨b,pre.length + k,none⟩ (.bool v)) b pre (l.set k v) post T:=by
 unfold SeB at *;rw [heap_set_same _ h]
 congr 2
 simp only [List.setIfInBounds_toArray];rw [List.append_assoc,List.set_append_right _ _ (by omega),Nat.add_sub_cancel_left,List.set_append_left _ _ (by simp;omega),List.map_set,List.append_assoc]
theorem SeB.keep {S : Nat → Prop} {w' : World} (h : SeB w b pre l post T) (k : Kp S w w') (hs : ¬ S b) : SeB w' b pre l post T:=Kp.at_ k h hs
theorem SeB.lt (h : SeB w b pre l post T) : b < w.heap.size:=lt_of_block h
end
namespace Ch
structure Sd where
 act : List Bool
 past : List Int
 tm : ByteArray
 x : Int
 y : Int
 z : Int
def Sd.Wf (s : Sd) : Prop:=s.act.length = 16 ∧ s.past.length = 16
def inB (n : Int) : Bool:=decide (-99 ≤ n) && decide (n ≤ 99)
def var (s : Sd) (c : Int) : Int:=if c == 120 then s.x else if c == 121 then s.y else s.z
def setVar (s : Sd) (c n : Int) : Sd:=if c == 120 then { s with x:=n } else if c == 121 then { s with y:=n } else { s with z:=n }
end Ch
def pastCells (l : List Int) : List Value:=l.map (Value.int .u8)
def sdTail (s : Ch.Sd) : List Value:=pastCells s.past ++ [.string s.tm,.int .i64 s.x,.int .i64 s.y,.int .i64 s.z]
def SdB (w : World) (b : Nat) (pre : List Value) (s : Ch.Sd) (post : List Value) (T : TypeId) : Prop:=SeB w b pre s.act (sdTail s ++ post) T
section
variable {w : World} {b : Nat} {pre : List Value} {s : Ch.Sd} {post : List Value} {T : TypeId}
theorem SdB.at_ (h : SdB w b pre s post T) (hw : s.Wf) (k : Nat) : w.cell? ⟨b,pre.length + (16 + k),none⟩ = (sdTail s ++ post)[k]?:=by
 unfold SdB SeB at h;simp only [World.cell?,h];simp only [Option.isSome_none,Bool.false_eq_true,if_false,List.getElem?_toArray];rw [List.getElem?_append_right (by simp [hw.1])]
 congr 1
 simp [hw.1];omega
theorem SdB.set_ (h : SdB w b pre s post T) (hw : s.Wf) (k : Nat) (v : Value) : SeB (w.setCell ⟨b,pre.length + (16 + k),none⟩ v) b pre s.act ((sdTail s ++ post).set k v) T:=by
 unfold SdB SeB at *;rw [heap_set_same _ h]
 congr 2
 simp only [List.setIfInBounds_toArray];rw [List.set_append_right _ _ (by simp [hw.1])];rw [show pre.length + (16 + k) - (pre ++ List.map Value.bool s.act).length = k by simp [hw.1];omega]
theorem SdB.free (h : SdB w b pre s post T) (i : Nat) : w.frozen? ⟨b,i,none⟩ = false:=SeB.free h i
theorem SdB.keep {S : Nat → Prop} {w' : World} (h : SdB w b pre s post T) (k : Kp S w w') (hs : ¬ S b) : SdB w' b pre s post T:=Kp.at_ k h hs
theorem SdB.lt (h : SdB w b pre s post T) : b < w.heap.size:=lt_of_block h
theorem tail_len (hw : s.Wf) : (pastCells s.past).length = 16:=by simp [pastCells,hw.2]
theorem SdB.tm (h : SdB w b pre s post T) (hw : s.Wf) : w.cell? ⟨b,pre.length + 32,none⟩ = some (.string s.tm):=by
 rw [show pre.length + 32 = pre.length + (16 + 16) by omega,h.at_ hw 16,sdTail,List.append_assoc,List.getElem?_append_right (by simp [tail_len hw])];simp [tail_len hw]
theorem SdB.past (h : SdB w b pre s post T) (hw : s.Wf) {k : Nat} (hk : k < 16) : w.cell? ⟨b,pre.length + 16 + k,none⟩ = some (.int .u8 (s.past.getD k 0)):=by
 rw [show pre.length + 16 + k = pre.length + (16 + k) by omega,h.at_ hw k,sdTail,List.append_assoc,List.getElem?_append_left (by simp [tail_len hw,hk])];simp [pastCells,show k < s.past.length by rw [hw.2];exact hk]
end
namespace Ch
def isPast (ss : List St) (i name : Int) : Bool:=if name == 45 then true else isChild ss (place ss name) (parAt ss i)
def actChF (ss : List St) (l : List Bool) (parent : Int) : Nat → Nat → Int
 | 0,_=>-2
 | f + 1,k=>if has l k && isChild ss k parent then k else actChF ss l parent f (k + 1)
def actCh (ss : List St) (l : List Bool) (parent : Int) : Int:=actChF ss l parent ss.length 0
def pastAt (s : Sd) (k : Nat) : Int:=s.past.getD k 0
def goal (ss : List St) (s : Sd) (target : Int) : Int :=
 if decide (target < 0) || decide (16 ≤ target) || kindAt ss target != 5 then target
 else if pastAt s target.toNat == 45 then firstChild ss (parAt ss target)
 else place ss (pastAt s target.toNat)
end Ch
def isAggD (d : TypeDesc) : Bool:=match d with | .struct _ | .array _ _=>true | _=>false
section
variable {P : Program}
theorem run_loadVar_part (w : World) (b o : Nat) (ty : TypeId) (cs : List Value) (d : TypeDesc) (hc : ∀ j v,cs[j]? = some v → w.cell? ⟨b,o + j,none⟩ = some v)
 (hu : P.underlying ty = some d) (hd : isAggD d = true) (hi : (P.info? ty).map (·.size) = some cs.length) :
 (loadVar ty ⟨b,o,none⟩).run P w = .ok (.agg cs.toArray) w:=by
 have hl : (loadCells ⟨b,o,none⟩ cs.length).run P w = .ok cs.toArray w :=
  run_loadCells_list (P:=P) w ⟨b,o,none⟩ cs (fun j v hv=>by
   have hadd : (⟨b,o,none⟩ : Addr).add j = ⟨b,o + j,none⟩:=by unfold Addr.add;split <;> simp_all
   rw [hadd];exact hc j v hv)
 cases hq : P.info? ty with
 | none=>simp [hq] at hi
 | some i=>?_
 have hs : i.size = cs.length:=by simpa [hq] using hi
 have hagg : (isAgg ty).run P w = .ok true w:=by
  unfold isAgg;rw [Sem.run_bind,run_underlying hu w]
  cases d <;> simp_all [isAggD]
 simp [loadVar,Sem.run_bind,hagg,sizeOf,typeInfo,hq,hs,hl]
theorem wpList_load_part {ops : Array Oper} {rest : List Oper} {op : Oper} {a : Act} {w : World} {Q : Exit → Act → World → Prop} (hgd : op.guard = none) (ty : TypeId) (x : Operand) (hop : op.op = .load ty x)
 (b o : Nat) (hx : a.eval x = .pointer (some ⟨b,o,none⟩)) (cs : List Value) (d : TypeDesc) (hc : ∀ j v,cs[j]? = some v → w.cell? ⟨b,o + j,none⟩ = some v)
 (hu : P.underlying ty = some d) (hd : isAggD d = true) (hi : (P.info? ty).map (·.size) = some cs.length)
 (h : wpList P ops Q rest (a.put op.dst (.agg cs.toArray)) w) : wpList P ops Q (op :: rest) a w :=
 wpList_plain hgd fun K hK=>by
  unfold Oper.wp execOp;simp only [hop,hx,Instr.loadAt,Instr.sureAddr,Sem.run_bind,Sem.run_pure,Result.andThen_ok,run_loadVar_part w b o ty cs d hc hu hd hi];exact hK _ _ h
end
theorem Kp.setRow {S : Nat → Prop} {a w : World} (h : Kp S a w) {g : Nat} (hp : g < a.heap.size → S g) (cs : Array Value) : Kp S a (w.setRow g cs) :=
 h.trans' (S':=fun k=>k = g) ⟨rfl,rfl,rfl,by simp,fun k _ hn=>setRow_other _ _ _ _ hn⟩ (fun i hi e=>by subst e;exact hp hi)
end Go.Proofs.YtnlbchmfcebeeaaGreat
