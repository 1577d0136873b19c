import Derived.Test.YtnlbchmfcebeeaaGreatTB3
set_option maxHeartbeats 12800000
set_option maxRecDepth 100000
namespace Go.Proofs.YtnlbchmfcebeeaaGreat
open Go.Proofs.Tryz Ch
open Go.RowKit
theorem infoByte : (prog.info? 5).map (fun i=>(i.zero,i.size,i.bytes)) = some (some (.int .u8 0),1,1):=by kernel_rfl
theorem gW {n : Int} (h : -9223372036854775808 <= n /\ n <= 9223372036854775807) : IntKind.i64.wrap n = n:=by rw [IntKind.wrap_i64];omega
theorem zF {n : Int} (h : 0 <= n /\ n <= 255) : IntKind.u8.wrap n = n:=by rw [IntKind.wrap_u8];omega
def ax (l : List Int) : List Value:=l.map (Value.int .u8)
theorem run_text {w : World} {base : Nat} {v : Value} {l : List Int} (h : w.ownsRow base 5 1 v l.length (ax l)) :
 (convert 47 9 v).run prog w = .ok (.string (strOfNums l)) w:=by
 rcases h.2 with ⟨rfl,h0⟩ | ⟨g,cap,cur,rfl,hb,hg,r⟩
 ·have : l = []:=List.eq_nil_of_length_eq_zero h0
  subst this;exact run_convert_bytes_nil w 47 5 underlying47 underlying5 0 0 9 underlying9
 refine run_convert_bytes_arg w 47 5 underlying47 underlying5 g 0 l.length cap l rfl ?_ 9 underlying9;intro i hi;rw [Nat.zero_add,h.cellAt i (by omega)];simp [ax,hi]
namespace Ch
def pE (t : ByteArray) (c : Int) : Nat -> Nat -> List Int -> List Int
 | 0,_,acc=>acc
 | f + 1,k,acc=>if k + 1 < t.size then (if af t k != c then pE t c f (k + 2) (acc ++ [af t k,af t (k + 1)]) else pE t c f (k + 2) acc) else acc
def jJ (s : Sd) (c : Int) : Sd:={ s with tm:=strOfNums (pE s.tm c s.tm.size 0 []) }
theorem Ij {t : ByteArray} {c : Int} {f k : Nat} {acc : List Int} (h : ¬ k + 1 < t.size) : pE t c f k acc = acc:=by
 cases f with
 | zero=>rfl
 | succ f=>simp [pE,h]
def k6 (t : ByteArray) : Nat -> Nat -> List Int -> List Int
 | 0,_,acc=>acc
 | f + 1,k,acc=>if k + 1 < t.size then k6 t f (k + 2) (acc ++ [af t k,af t (k + 1) - 1]) else acc
def tick (s : Sd) : Sd:={ s with tm:=strOfNums (k6 s.tm s.tm.size 0 []) }
theorem Er {t : ByteArray} {f k : Nat} {acc : List Int} (h : ¬ k + 1 < t.size) : k6 t f k acc = acc:=by
 cases f with
 | zero=>rfl
 | succ f=>simp [k6,h]
end Ch
section
variable (w : World) (b o : Nat) (pre : List Value) (s : Sd) (post : List Value) (T : TypeId)
theorem vC (c : Int) (h : bM w b pre s post T) (hw : s.Wf) (ho : pre.length = o) (hsz : s.tm.size <= 1000) :
 Calls prog 224 #[.pointer (some ⟨b,o,none⟩),.int .u8 c] w fun x w'=>x = .returned (.tuple #[]) /\ bM w' b pre (jJ s c) post T /\ Kp (fun k=>k = b) w w':=by
 subst ho;obtain ⟨i0,hi,hz0,hz1,hz2⟩:=info_parts infoByte;have hbl:=h.lt
 go_enter func224,ntmps224
 go_wp2_with fail
 go_loopg [4,5] s.tm.size (fun f v i wr=>∃ (k : Nat) (acc : List Int),i = .int .i64 k /\ k <= s.tm.size + 1 /\ s.tm.size <= f + k /\ acc.length <= k /\ Hid (pE s.tm c s.tm.size 0 [] = pE s.tm c f k acc) /\
  wr.ownsRow w.heap.size 5 1 v acc.length (ax acc) /\ Kp (fun _=>False) w wr)
 case atStart=>exact ⟨0,[],rfl,Nat.zero_le _,Nat.le_refl _,Nat.le_refl _,hid rfl,World.ownsRow_nil _ _ _ _,Kp.refl _ _⟩
 case round =>
  obtain ⟨k,acc,rfl,hk,hf,hacc,HE,ho1,K1⟩:=hrel;have h1 : bM wr b pre s post T:=h.keep K1 (fun x=>x);have ct:=h1.tm hw
  by_cases hgo : k + 1 < s.tm.size
  ·obtain ⟨f,rfl⟩ : ∃ f,gk = f + 1:=⟨gk - 1,by omega⟩
   have hgo' : (k : Int) + 1 < (s.tm.size : Int):=by omega
   have hk0 : (k : Int) < (s.tm.size : Int):=by omega
   have p0 : af s.tm k = ((s.tm[k]'(by omega)).toNat : Int):=by simp [af,show k < s.tm.size by omega]
   have p1 : af s.tm (k + 1) = ((s.tm[k + 1]'hgo).toNat : Int):=by simp [af,hgo]
   cases q : (((s.tm[k]'(by omega)).toNat : Int) != c) with
   | false =>
     have HF:=hid (HE.out.trans (show _ = pE s.tm c f (k + 2) acc by simp [pE,hgo,p0];intro x;simp at q;exact absurd q x));have HH:=hid (ae ho1 K1);clear ho1 K1 h1 h HE p0 p1;go_wp2
     go_roundg f
     case measure=>omega
     case rel=>exact ⟨k + 2,acc,by go_num,by omega,by omega,by omega,HF,HH.out.1,HH.out.2⟩
   | true=>?_
   have HF:=hid (HE.out.trans (show _ = pE s.tm c f (k + 2) (acc ++ [((s.tm[k]'(by omega)).toNat : Int),((s.tm[k + 1]'hgo).toNat : Int)]) by simp [pE,hgo,p0,p1];intro x;simp at q;exact absurd x q));have HH:=hid (ae ho1 K1);have OU : IntKind.i64.wrap ((k : Int) + 1) = (k : Int) + 1:=gW (by omega)
   have R0 : (0 : Int) <= (k : Int) + 1:=by omega
   clear ho1 K1 h1 h HE p0 p1
   go_upto_region 5 with (fail)
   go_region_law (refine dA rfl (.tmp 24) (.tmp 38) 47 rfl w.heap.size 5 i0 (.int .u8 0) 1 1 underlying47 hi hz0 hz1 hz2 rfl (by decide) _ acc.length (ax acc) (by simp [Act.eval];rfl) (by exact HH.out.1.alloc _) ⟨wr.heap.size,0,none⟩ 2 2 [.int .u8 ((s.tm[k]'(by omega)).toNat : Int),.int .u8 ((s.tm[k + 1]'hgo).toNat : Int)] (by simp [Act.eval]) rfl (by exact j7 _ _ _ _) (by intro u hu;simp at hu;rcases hu with rfl | rfl <;> rfl) (by decide) (by unfold maxLen;omega) (by omega) (by have:=HH.out.2.size;simp;omega) ?_;intro g cap w3 o3 g3;have K3 : Kp (fun _=>False) w w3:=Kp.grown (by exact (HH.out.2.alloc _).drew) g3 (fun k hk hlt=>by have:=(HH.out.1.lt k hk).1;omega);have H3:=hid (ae o3 K3);clear o3 K3 g3)
   all_goals
    obtain ⟨o3,K3⟩:=H3.out;go_wp2
    go_roundg f
    case measure=>omega
    case rel=>exact ⟨k + 2,_,by go_num,by omega,by omega,by simp;omega,HF,by simpa [ax] using o3,K3⟩
  have hge : ¬ (k : Int) + 1 < (s.tm.size : Int):=by omega
  have HF:=hid (HE.out.trans (Ij hgo));have hcv:=run_text ho1;have ft:=h1.free (pre.length + 32);have HH:=hid (ae h1 K1);clear ho1 K1 h1 h HE;go_wp2
  go_end0
  obtain ⟨h1,K1⟩:=HH.out;have h2:=h1.Bn hw (strOfNums acc);rw [<- HF.out] at h2 ⊢;exact ⟨rfl,h2,(K1.mono (fun _ _ x=>x.elim)).setCell (by intro _;rfl) _⟩
theorem Es (h : bM w b pre s post T) (hw : s.Wf) (ho : pre.length = o) (hsz : s.tm.size <= 1000) (hnz : ∀ k,k < s.tm.size -> 1 <= af s.tm k) :
 Calls prog 123 #[.pointer (some ⟨b,o,none⟩)] w fun x w'=>x = .returned (.tuple #[]) /\ bM w' b pre (Ch.tick s) post T /\ Kp (fun k=>k = b) w w':=by
 subst ho;obtain ⟨i0,hi,hz0,hz1,hz2⟩:=info_parts infoByte;have hbl:=h.lt
 go_enter func123,ntmps123
 go_wp2_with fail
 go_loopg [2,3] s.tm.size (fun f v i wr=>∃ (k : Nat) (acc : List Int),i = .int .i64 k /\ k <= s.tm.size + 1 /\ s.tm.size <= f + k /\ acc.length <= k /\ Hid (k6 s.tm s.tm.size 0 [] = k6 s.tm f k acc) /\
  wr.ownsRow w.heap.size 5 1 v acc.length (ax acc) /\ Kp (fun _=>False) w wr)
 case atStart=>exact ⟨0,[],rfl,Nat.zero_le _,Nat.le_refl _,Nat.le_refl _,hid rfl,World.ownsRow_nil _ _ _ _,Kp.refl _ _⟩
 case round =>
  obtain ⟨k,acc,rfl,hk,hf,hacc,HE,ho1,K1⟩:=hrel;have h1 : bM wr b pre s post T:=h.keep K1 (fun x=>x);have ct:=h1.tm hw
  by_cases hgo : k + 1 < s.tm.size
  ·obtain ⟨f,rfl⟩ : ∃ f,gk = f + 1:=⟨gk - 1,by omega⟩
   have hgo' : (k : Int) + 1 < (s.tm.size : Int):=by omega
   have hk0 : (k : Int) < (s.tm.size : Int):=by omega
   have p0 : af s.tm k = ((s.tm[k]'(by omega)).toNat : Int):=by simp [af,show k < s.tm.size by omega]
   have p1 : af s.tm (k + 1) = ((s.tm[k + 1]'hgo).toNat : Int):=by simp [af,hgo]
   have b1:=hnz (k + 1) hgo;rw [p1] at b1;have b2:=Be s.tm (k + 1);rw [p1] at b2;have HF:=hid (HE.out.trans (show _ = k6 s.tm f (k + 2) (acc ++ [((s.tm[k]'(by omega)).toNat : Int),(((s.tm[k + 1]'hgo).toNat : Int) - 1)]) by simp [k6,hgo,p0,p1]));have HH:=hid (ae ho1 K1);have VS : IntKind.u8.wrap (((s.tm[k + 1]'hgo).toNat : Int) - 1) = ((s.tm[k + 1]'hgo).toNat : Int) - 1:=zF (by omega);have OU : IntKind.i64.wrap ((k : Int) + 1) = (k : Int) + 1:=gW (by omega)
   have R0 : (0 : Int) <= (k : Int) + 1:=by omega
   clear ho1 K1 h1 h HE p0 p1
   go_upto_region 4 with (fail)
   go_region_law (refine dA rfl (.tmp 14) (.tmp 29) 47 rfl w.heap.size 5 i0 (.int .u8 0) 1 1 underlying47 hi hz0 hz1 hz2 rfl (by decide) _ acc.length (ax acc) (by simp [Act.eval];rfl) (by exact HH.out.1.alloc _) ⟨wr.heap.size,0,none⟩ 2 2 [.int .u8 ((s.tm[k]'(by omega)).toNat : Int),.int .u8 (((s.tm[k + 1]'hgo).toNat : Int) - 1)] (by simp [Act.eval]) rfl (by exact j7 _ _ _ _) (by intro u hu;simp at hu;rcases hu with rfl | rfl <;> rfl) (by decide) (by unfold maxLen;omega) (by omega) (by have:=HH.out.2.size;simp;omega) ?_;intro g cap w3 o3 g3;have K3 : Kp (fun _=>False) w w3:=Kp.grown (by exact (HH.out.2.alloc _).drew) g3 (fun k hk hlt=>by have:=(HH.out.1.lt k hk).1;omega);have H3:=hid (ae o3 K3);clear o3 K3 g3)
   all_goals
    obtain ⟨o3,K3⟩:=H3.out;go_wp2
    go_roundg f
    case measure=>omega
    case rel=>exact ⟨k + 2,_,by go_num,by omega,by omega,by simp;omega,HF,by simpa [ax] using o3,K3⟩
  have hge : ¬ (k : Int) + 1 < (s.tm.size : Int):=by omega
  have HF:=hid (HE.out.trans (Er hgo));have hcv:=run_text ho1;have ft:=h1.free (pre.length + 32);have HH:=hid (ae h1 K1);clear ho1 K1 h1 h HE;go_wp2
  go_end0
  obtain ⟨h1,K1⟩:=HH.out;have h2:=h1.Bn hw (strOfNums acc);rw [<- HF.out] at h2 ⊢;exact ⟨rfl,h2,(K1.mono (fun _ _ x=>x.elim)).setCell (by intro _;rfl) _⟩
end
namespace Ch
def jA (t : ByteArray) : Nat -> Nat -> Option Nat
 | 0,_=>none
 | f + 1,k=>if k + 1 < t.size then (if af t (k + 1) == 48 then some k else jA t f (k + 2)) else none
theorem Et {t : ByteArray} {f k : Nat} (h : ¬ k + 1 < t.size) : jA t f k = none:=by
 cases f with
 | zero=>rfl
 | succ f=>simp [jA,h]
def aQ (s : Sd) : Int × Bool × Sd:=match jA s.tm s.tm.size 0 with
 | some k=>(af s.tm k,true,{ s with tm:=s.tm.extract 0 k ++ s.tm.extract (k + 2) s.tm.size })
 | none=>(0,false,s)
def xe (t : ByteArray) : Nat -> Nat -> Bool
 | 0,_=>true
 | f + 1,k=>if k + 1 < t.size then (if bN (af t k) && !decide (af t (k + 1) < 49) && !decide (57 < af t (k + 1)) then xe t f (k + 2) else false) else true
theorem Ik {t : ByteArray} {f k : Nat} (h : ¬ k + 1 < t.size) : xe t f k = true:=by
 cases f with
 | zero=>rfl
 | succ f=>simp [xe,h]
def fR (t : ByteArray) : Bool:=if ((t.size : Int) % 2 != 0) || decide (16 < t.size) then false else xe t t.size 0
end Ch
section
variable (w : World) (b o : Nat) (pre : List Value) (s : Sd) (post : List Value) (T : TypeId)
theorem xg (h : bM w b pre s post T) (hw : s.Wf) (ho : pre.length = o) (hsz : s.tm.size <= 1000) :
 Calls prog 124 #[.pointer (some ⟨b,o,none⟩)] w fun x w'=>x = .returned (.tuple #[.int .u8 (aQ s).1,.bool (aQ s).2.1]) /\ bM w' b pre (aQ s).2.2 post T /\ Kp (fun k=>k = b) w w':=by
 subst ho;have ct:=h.tm hw;have ft:=h.free (pre.length + 32);have HS:=hid h;clear h
 go_enter func124,ntmps124
 go_wp2_with fail
 go_loopg [4] s.tm.size (fun f i wr=>∃ k : Nat,i = .int .i64 k /\ k <= s.tm.size + 1 /\ s.tm.size <= f + k /\ Hid (jA s.tm s.tm.size 0 = jA s.tm f k) /\ wr = w)
 case atStart=>exact ⟨0,rfl,Nat.zero_le _,Nat.le_refl _,hid rfl,rfl⟩
 case round =>
  obtain ⟨k,rfl,hk,hf,HE,rfl⟩:=hrel
  by_cases hgo : k + 1 < s.tm.size
  ·obtain ⟨f,rfl⟩ : ∃ f,gk = f + 1:=⟨gk - 1,by omega⟩
   have hgo' : (k : Int) + 1 < (s.tm.size : Int):=by omega
   have hk0 : (k : Int) < (s.tm.size : Int):=by omega
   have p0 : af s.tm k = ((s.tm[k]'(by omega)).toNat : Int):=by simp [af,show k < s.tm.size by omega]
   have p1 : af s.tm (k + 1) = ((s.tm[k + 1]'hgo).toNat : Int):=by simp [af,hgo]
   cases q : (((s.tm[k + 1]'hgo).toNat : Int) == 48) with
   | false =>
     have HF:=hid (HE.out.trans (show _ = jA s.tm f (k + 2) by simp only [jA,hgo,p1,q,if_true];simp));clear HE p0 p1;go_wp2
     go_roundg f
     case measure=>omega
     case rel=>exact ⟨k + 2,by go_num,by omega,by omega,HF,rfl⟩
   | true=>?_
   have HF:=hid (HE.out.trans (show _ = some k by simp only [jA,hgo,p1,q,if_true]));have HV:=hid (show aQ s = (((s.tm[k]'(by omega)).toNat : Int),true,{ s with tm:=s.tm.extract 0 k ++ s.tm.extract (k + 2) s.tm.size }) by unfold aQ;rw [HF.out];simp [p0]);have OU : IntKind.i64.wrap ((k : Int) + 2) = (k : Int) + 2:=gW (by omega)
   have R0 : (0 : Int) <= (k : Int) + 2:=by omega
   have hwk : (k : Int) + 2 <= (s.tm.size : Int):=by omega
   have hadd:=fun w'=>run_string_add_sum (P:=prog) w' (s.tm.extract 0 k) (s.tm.extract (k + 2) s.tm.size) (by simp [ByteArray.size_extract];omega)
   clear HE p0 p1 HF
   go_upto_region 6 with (fail)
   go_region
   all_goals
    go_wp2;go_ret2;rw [HV.out];exact ⟨rfl,HS.out.Bn hw _,((Kp.refl _ _).drew).setCell (by intro _;rfl) _⟩
  have hge : ¬ (k : Int) + 1 < (s.tm.size : Int):=by omega
  have HV:=hid (show aQ s = (0,false,s) by unfold aQ;rw [HE.out,Et hgo]);clear HE;go_wp2;go_ret2;rw [HV.out];exact ⟨rfl,HS.out,Kp.refl _ _⟩
theorem tq (t : ByteArray) (ht : t.size <= 9223372036854775807) :
 Calls prog 127 #[.string t] w fun x w'=>x = .returned (.bool (fR t)) /\ w' = w:=by
 cases q0 : ((t.size : Int) % 2 != 0) with
 | true =>
   have HV:=hid (show fR t = false by simp only [fR,q0,Bool.true_or,if_true])
   go_enter func127,ntmps127
   go_wp2;go_ret;exact ⟨by rw [HV.out];rfl,rfl⟩
 | false=>?_
 by_cases hb : 16 < t.size
 ·have HV:=hid (show fR t = false by simp [fR,hb])
  have hb' : (16 : Int) < (t.size : Int):=by omega
  go_enter func127,ntmps127
  go_wp2;go_ret;exact ⟨by rw [HV.out];rfl,rfl⟩
 have hb' : ¬ (16 : Int) < (t.size : Int):=by omega
 have HA:=hid (show fR t = xe t t.size 0 by simp only [fR,q0,Bool.false_or];rw [if_neg (by simpa using hb)])
 go_enter func127,ntmps127
 go_wp2_with fail
 go_loopg [3] t.size (fun f i wr=>∃ k : Nat,i = .int .i64 k /\ k <= t.size + 1 /\ t.size <= f + k /\ Hid (fR t = xe t f k) /\ wr = w)
 case atStart=>exact ⟨0,rfl,Nat.zero_le _,Nat.le_refl _,HA,rfl⟩
 case round =>
  obtain ⟨k,rfl,hk,hf,HE,rfl⟩:=hrel
  by_cases hgo : k + 1 < t.size
  ·obtain ⟨f,rfl⟩ : ∃ f,gk = f + 1:=⟨gk - 1,by omega⟩
   have hgo' : (k : Int) + 1 < (t.size : Int):=by omega
   have hk0 : (k : Int) < (t.size : Int):=by omega
   have p0 : af t k = ((t[k]'(by omega)).toNat : Int):=by simp [af,show k < t.size by omega]
   have p1 : af t (k + 1) = ((t[k + 1]'hgo).toNat : Int):=by simp [af,hgo]
   have E1:=hid (eT ((t[k]'(by omega)).toNat : Int) wr)
   cases q : bN ((t[k]'(by omega)).toNat : Int) with
   | false =>
     have HV:=hid (HE.out.trans (show _ = false by simp [xe,hgo,p0,q]));rw [q] at E1;clear HE p0 p1
     go_wp2_with fail
     refine hm E1 ?_;rintro x w1 ⟨rfl,rfl⟩;go_wp2;go_ret;exact ⟨by rw [HV.out];rfl,rfl⟩
   | true=>?_
   rw [q] at E1
   by_cases q2 : ((t[k + 1]'hgo).toNat : Int) < 49
   ·have HV:=hid (HE.out.trans (show _ = false by simp [xe,hgo,p0,p1,q];intro x;omega))
    clear HE p0 p1
    go_wp2_with fail
    refine hm E1 ?_;rintro x w1 ⟨rfl,rfl⟩;go_wp2;go_ret;exact ⟨by rw [HV.out];rfl,rfl⟩
   have q2' : decide (((t[k + 1]'hgo).toNat : Int) < 49) = false:=by simp;omega
   by_cases q3 : 57 < ((t[k + 1]'hgo).toNat : Int)
   ·have HV:=hid (HE.out.trans (show _ = false by simp [xe,hgo,p0,p1,q];intro x y;omega))
    clear HE p0 p1 q2
    go_wp2_with fail
    refine hm E1 ?_;rintro x w1 ⟨rfl,rfl⟩;go_wp2;go_ret;exact ⟨by rw [HV.out];rfl,rfl⟩
   have HF:=hid (HE.out.trans (show _ = xe t f (k + 2) by simp [xe,hgo,p0,p1,q];intro x;omega))
   have q3' : decide (57 < ((t[k + 1]'hgo).toNat : Int)) = false:=by simp;omega
   clear HE p0 p1 q2 q3
   go_wp2_with fail
   refine hm E1 ?_;rintro x w1 ⟨rfl,rfl⟩;go_wp2
   go_roundg f
   case measure=>omega
   case rel=>exact ⟨k + 2,by go_num,by omega,by omega,HF,rfl⟩
  have hge : ¬ (k : Int) + 1 < (t.size : Int):=by omega
  have HV:=hid (HE.out.trans (Ik hgo));clear HE;go_wp2;go_ret;exact ⟨by rw [HV.out];rfl,rfl⟩
end
theorem bn {P : Program} {ops : Array Oper} {rest : List Oper} {o : Oper} {a : Act} {w : World} {Q : Exit -> Act -> World -> Prop} (hg : o.guard = none) (t : TypeId) (parts : Array (Nat × Operand)) (ho : o.op = .build t parts)
 (cells : Array Value) (vals : List (Nat × Value)) (hv : parts.toList.map (fun p=>(p.1,a.eval p.2)) = vals) (hb : P.built t vals = some cells)
 (h : wpList P ops Q rest (a.put o.dst (.agg cells)) w) : wpList P ops Q (o :: rest) a w :=
 have e : (parts.map fun (i,x)=>(i,a.eval x)).toList = vals:=by rw [Array.toList_map];exact hv
 wpList_build hg t parts ho (by rw [e,hb];rfl) (by rw [e,hb];exact h)
theorem ke {α : Type} (l : List α) (h : l.length = 16) : ∃ a0 a1 a2 a3 a4 a5 a6 a7 a8 a9 ql sY a12 sZ s6 s7,l = [a0,a1,a2,a3,a4,a5,a6,a7,a8,a9,ql,sY,a12,sZ,s6,s7]:=by
 match l,h with
 | [a0,a1,a2,a3,a4,a5,a6,a7,a8,a9,ql,sY,a12,sZ,s6,s7],_=>exact ⟨_,_,_,_,_,_,_,_,_,_,_,_,_,_,_,_,rfl⟩
def aj (s : Sd) : List Value:=s.act.map Value.bool ++ bg s
theorem aT {s : Sd} (hw : s.Wf) : (aj s).length = 36:=by simp [aj,bg,aG,hw.1,hw.2]
theorem fT (s : Sd) : (aj s).toArray.all (fun x=>x.oneCell') = true:=by
 apply Array.all_eq_true_iff_forall_mem.2;intro x hx;simp only [aj,bg,aG,List.mem_toArray,List.mem_append,List.mem_map,List.mem_cons,List.not_mem_nil,or_false] at hx
 rcases hx with ⟨a,_,rfl⟩ | ⟨a,_,rfl⟩ | rfl | rfl | rfl | rfl <;> rfl
theorem dy {s : Sd} (hw : s.Wf) : (aj s).toArray.size = 36:=by simp [aT hw]
theorem cY {s : Sd} (hw : s.Wf) : (prog.info? 95).map (·.size) = some ((aj s).toArray).size:=by rw [dy hw];exact aY
theorem CA (a0 a1 a2 a3 a4 a5 a6 a7 a8 a9 ql sY a12 sZ s6 s7 : Bool) (p0 p1 p2 p3 p4 p5 p6 p7 p8 p9 qq qs qu qw qA qB : Int) (tm : ByteArray) (x y z : Int) :
 prog.built 95 [(0,.agg #[.bool a0,.bool a1,.bool a2,.bool a3,.bool a4,.bool a5,.bool a6,.bool a7,.bool a8,.bool a9,.bool ql,.bool sY,.bool a12,.bool sZ,.bool s6,.bool s7]),(1,.agg #[.int .u8 p0,.int .u8 p1,.int .u8 p2,.int .u8 p3,.int .u8 p4,.int .u8 p5,.int .u8 p6,.int .u8 p7,.int .u8 p8,.int .u8 p9,.int .u8 qq,.int .u8 qs,.int .u8 qu,.int .u8 qw,.int .u8 qA,.int .u8 qB]),(2,.string tm),(3,.int .i64 x),(4,.int .i64 y),(5,.int .i64 z)] =
  some #[.bool a0,.bool a1,.bool a2,.bool a3,.bool a4,.bool a5,.bool a6,.bool a7,.bool a8,.bool a9,.bool ql,.bool sY,.bool a12,.bool sZ,.bool s6,.bool s7,.int .u8 p0,.int .u8 p1,.int .u8 p2,.int .u8 p3,.int .u8 p4,.int .u8 p5,.int .u8 p6,.int .u8 p7,.int .u8 p8,.int .u8 p9,.int .u8 qq,.int .u8 qs,.int .u8 qu,.int .u8 qw,.int .u8 qA,.int .u8 qB,.string tm,.int .i64 x,.int .i64 y,.int .i64 z]:=by kernel_rfl
theorem xh (s : Sd) (hw : s.Wf) :
 prog.built 95 [(0,.agg (s.act.map Value.bool).toArray),(1,.agg (aG s.past).toArray),(2,.string s.tm),(3,.int .i64 s.x),(4,.int .i64 s.y),(5,.int .i64 s.z)] = some (aj s).toArray:=by
 obtain ⟨act,past,tm,x,y,z⟩:=s;obtain ⟨h1,h2⟩:=hw;simp only at h1 h2;obtain ⟨a0,a1,a2,a3,a4,a5,a6,a7,a8,a9,ql,sY,a12,sZ,s6,s7,rfl⟩:=ke act h1;obtain ⟨p0,p1,p2,p3,p4,p5,p6,p7,p8,p9,qq,qs,qu,qw,qA,qB,rfl⟩:=ke past h2;exact CA a0 a1 a2 a3 a4 a5 a6 a7 a8 a9 ql sY a12 sZ s6 s7 p0 p1 p2 p3 p4 p5 p6 p7 p8 p9 qq qs qu qw qA qB tm x y z
theorem zG (p0 p1 p2 p3 p4 p5 p6 p7 p8 p9 qq qs qu qw qA qB : Int) :
 prog.built 95 [(1,.agg #[.int .u8 p0,.int .u8 p1,.int .u8 p2,.int .u8 p3,.int .u8 p4,.int .u8 p5,.int .u8 p6,.int .u8 p7,.int .u8 p8,.int .u8 p9,.int .u8 qq,.int .u8 qs,.int .u8 qu,.int .u8 qw,.int .u8 qA,.int .u8 qB])] = some #[.bool false,.bool false,.bool false,.bool false,.bool false,.bool false,.bool false,.bool false,.bool false,.bool false,.bool false,.bool false,.bool false,.bool false,.bool false,.bool false,.int .u8 p0,.int .u8 p1,.int .u8 p2,.int .u8 p3,.int .u8 p4,.int .u8 p5,.int .u8 p6,.int .u8 p7,.int .u8 p8,.int .u8 p9,.int .u8 qq,.int .u8 qs,.int .u8 qu,.int .u8 qw,.int .u8 qA,.int .u8 qB,.string ByteArray.empty,.int .i64 0,.int .i64 0,.int .i64 0]:=by kernel_rfl
namespace Ch
def bp (ss : List St) : Sd:=⟨cJ,b_ ss,ByteArray.empty,0,0,0⟩
theorem iL (ss : List St) : (bp ss).Wf:=⟨rfl,c_ ss⟩
def fY : Sd:=⟨cJ,oK,ByteArray.empty,0,0,0⟩
theorem l7 : fY.Wf:=⟨rfl,rfl⟩
end Ch
theorem xi (ss : List St) : prog.built 95 [(1,.agg (aG (b_ ss)).toArray)] = some (aj (bp ss)).toArray:=by
 unfold aj bg bp;obtain ⟨p0,p1,p2,p3,p4,p5,p6,p7,p8,p9,qq,qs,qu,qw,qA,qB,e⟩:=ke (b_ ss) (c_ ss);rw [e];exact zG p0 p1 p2 p3 p4 p5 p6 p7 p8 p9 qq qs qu qw qA qB
section
variable (ob oo : Nat) (w : World) (ss : List St)
theorem CB (hS : ib w ob oo ss) :
 Calls prog 70 #[.pointer (some ⟨ob,oo,none⟩)] w fun x w'=>x = .returned (.agg (aj (bp ss)).toArray) /\ Kp (fun _=>False) w w':=by
 obtain ⟨ds,hds,eH⟩:=cQ;obtain ⟨dm,LZ,VT⟩:=vA;have hS1 : ib (w.alloc (.cells gV 95)) ob oo ss:=hS.alloc _;have hr1 : (w.alloc (.cells gV 95)).heap[w.heap.size]? = some (.cells gV 95):=heap_alloc_new _ _;have K1 : Kp (fun _=>False) w (w.alloc (.cells gV 95)):=(Kp.refl _ _).alloc _;have E0:=hid (mr ob oo (w.alloc (.cells gV 95)) ss hS1);have Cz:=jI (c_ ss)
 have xd : (prog.info? 93).map (·.size) = some ((aG (b_ ss)).toArray).size:=by rw [Cz];exact gm
 have Bp:=nB (b_ ss);have hbuild:=xi ss;have HB:=hid hbuild;clear hbuild;have hsI:=cY (iL ss);have Ko:=dy (iL ss);have hs1:=fT (bp ss);clear hS hS1
 go_enter func70,ntmps70
 go_wp2_with fail
 refine hm E0 ?_;rintro x w2 ⟨rfl,K2⟩;have hr2:=K2.at_ hr1 (fun x=>x);have K3:=K1.trans K2;have hsz2 : w.heap.size < w2.heap.size:=lt_of_block hr2;have hn2:=heap_alloc_new w2 (.cells cU 93);clear hr1 K1 K2 E0;generalize (aG (b_ ss)).toArray = L at *;generalize hM : (aj (bp ss)).toArray = M at *;have HM:=hid hM;clear hM;have hl2 : ((w2.alloc (.cells cU 93)).setRow w2.heap.size L).heap[w2.heap.size]? = some (.cells L 93 (0,0)):=setRow_heap _ _ _ _ _ _ hn2
 have hr3 : ((w2.alloc (.cells cU 93)).setRow w2.heap.size L).heap[w.heap.size]? = some (.cells gV 95):=by
  rw [setRow_other _ _ _ _ (by omega),Below.heap_alloc _ _ _ hsz2];exact hr2
 have K4 : Kp (fun _=>False) w (((w2.alloc (.cells cU 93)).setRow w2.heap.size L).setRow w.heap.size M):=((K3.alloc _).setRow (fun x=>by omega) _).setRow (fun x=>by omega) _
 go_wp2_with (first | (refine bn rfl 95 #[(1,.tmp 6)] rfl M [(1,.agg L)] ?_ HB.out ?_;rfl) | refine wpList_store_row rfl 93 (.tmp 3) (.tmp 5) rfl w2.heap.size L rfl rfl 93 cU hn2 xd Cz.symm Bp ?_ | refine wpList_load_row rfl 93 (.tmp 3) rfl w2.heap.size rfl 93 L (0,0) dm hl2 LZ (by cases dm <;> simp_all [ar]) xd ?_ | refine wpList_store_row rfl 95 (.tmp 2) (.tmp 7) rfl w.heap.size M rfl rfl 95 gV hr3 hsI Ko.symm hs1 ?_)
 refine bodyPost_ret (results_cell_row rfl _ _ w.heap.size 95 M (0,0) ds rfl (setRow_heap _ _ _ _ _ _ hr3) hds (by cases ds <;> simp_all [ar]) hsI) rfl ?_;rw [HM.out];exact ⟨rfl,K4⟩
end
end Go.Proofs.YtnlbchmfcebeeaaGreat
