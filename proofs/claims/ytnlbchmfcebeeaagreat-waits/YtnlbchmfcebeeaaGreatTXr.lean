import Derived.Test.YtnlbchmfcebeeaaGreatTXe
import Derived.Test.YtnlbchmfcebeeaaGreatTXp
import Derived.Test.YtnlbchmfcebeeaaGreatTXq
import Derived.Test.YtnlbchmfcebeeaaGreatTC0
set_option maxHeartbeats 12800000
set_option maxRecDepth 100000
namespace Go.Proofs.YtnlbchmfcebeeaaGreat
open Go.RowKit
def nwA (cb g n : Nat) (pv : Value) (m : Ch.Ma) : Array Value:=#[.pointer (some ⟨cb,0,none⟩),.slice (some ⟨g,0,none⟩) n n,pv,.string m.s.tm,.int .i64 m.s.x,.int .i64 m.s.y,.int .i64 m.s.z,.string (strOfNums m.q),.string (strOfNums m.out)]
def NwB (w : World) (xb cb g n : Nat) (pv : Value) (m : Ch.Ma) : Prop:=w.heap[xb]? = some (.cells (nwA cb g n pv m) 274 (0,0))
section
variable {w w' : World} {xb cb g n : Nat} {pv : Value} {m : Ch.Ma}
theorem NwB.cell (h : NwB w xb cb g n pv m) (i : Nat) : w.cell? ⟨xb,i,none⟩ = (nwA cb g n pv m)[i]?:=by unfold NwB at h;rw [World.cell?,h];rfl
theorem NwB.free (h : NwB w xb cb g n pv m) (i : Nat) : w.frozen? ⟨xb,i,none⟩ = false:=by unfold NwB at h;simp [World.frozen?,h]
theorem NwB.keep {S : Nat → Prop} (h : NwB w xb cb g n pv m) (k : Kp S w w') (hS : ¬ S xb) : NwB w' xb cb g n pv m:=k.at_ h hS
theorem NwB.setT (h : NwB w xb cb g n pv m) (t : ByteArray) : NwB (w.setCell ⟨xb,3,none⟩ (.string t)) xb cb g n pv { m with s:={ m.s with tm:=t } }:=by unfold NwB at *;rw [heap_set_same _ h];rfl
theorem NwB.setX (h : NwB w xb cb g n pv m) (v : Int) : NwB (w.setCell ⟨xb,4,none⟩ (.int .i64 v)) xb cb g n pv { m with s:={ m.s with x:=v } }:=by unfold NwB at *;rw [heap_set_same _ h];rfl
theorem NwB.setY (h : NwB w xb cb g n pv m) (v : Int) : NwB (w.setCell ⟨xb,5,none⟩ (.int .i64 v)) xb cb g n pv { m with s:={ m.s with y:=v } }:=by unfold NwB at *;rw [heap_set_same _ h];rfl
theorem NwB.setZ (h : NwB w xb cb g n pv m) (v : Int) : NwB (w.setCell ⟨xb,6,none⟩ (.int .i64 v)) xb cb g n pv { m with s:={ m.s with z:=v } }:=by unfold NwB at *;rw [heap_set_same _ h];rfl
theorem NwB.setQ (h : NwB w xb cb g n pv m) (q : List Int) : NwB (w.setCell ⟨xb,7,none⟩ (.string (strOfNums q))) xb cb g n pv { m with q:=q }:=by unfold NwB at *;rw [heap_set_same _ h];rfl
theorem NwB.setO (h : NwB w xb cb g n pv m) (q : List Int) : NwB (w.setCell ⟨xb,8,none⟩ (.string (strOfNums q))) xb cb g n pv { m with out:=q }:=by unfold NwB at *;rw [heap_set_same _ h];rfl
end
namespace Ch
theorem cbF_go {t : ByteArray} {c : Int} {k : Nat} {acc : List Int} (hk : k + 1 < t.size) : cbF t c (t.size - k) k acc = cbF t c (t.size - (k + 2)) (k + 2) (if peek t k != c then acc ++ [peek t k,peek t (k + 1)] else acc):=by
 have key : ∀ (f k : Nat) (acc : List Int),t.size ≤ k + f → cbF t c f k acc = cbF t c (t.size - k) k acc:=by
  intro f
  induction f using Nat.strongRecOn with
  | ind f ih=>?_
  intro k acc hf
  match f,ih with
  | 0,_=>rw [show t.size - k = 0 by omega]
  | f + 1,ih =>
    by_cases c1 : k + 1 < t.size
    ·obtain ⟨d,hd⟩ : ∃ d,t.size - k = d + 1:=⟨t.size - k - 1,by omega⟩
     rw [hd];simp only [cbF];rw [if_pos c1,if_pos c1];rw [ih f (by omega) (k + 2) _ (by omega),ih f (by omega) (k + 2) _ (by omega)]
     by_cases c2 : d ≤ f
     ·by_cases c3 : d < f + 1
      ·rw [ih d (by omega) (k + 2) _ (by omega),ih d (by omega) (k + 2) _ (by omega)]
      omega
     omega
    rw [cbF_end c1,cbF_end c1]
 obtain ⟨d,hd⟩ : ∃ d,t.size - k = d + 1:=⟨t.size - k - 1,by omega⟩
 rw [hd];simp only [cbF];rw [if_pos hk,key d (k + 2) _ (by omega),key d (k + 2) _ (by omega)]
 split <;> rfl
end Ch
section
variable (w : World)
theorem rExcept_any (t : ByteArray) (b : Int) (ht : t.size ≤ 1000) :
 Calls Tryz.prog 275 #[.string t,.int .u8 b] w fun x w'=>x = .returned (.string (strOfNums (Ch.cbF t b t.size 0 []))) ∧ w' = w:=by
 go_enter Tryz.func275,Tryz.ntmps275
 go_wp2_with fail
 go_loop [5,6] (fun tv kv=>∃ (k : Nat) (acc : List Int),tv = .string (strOfNums acc) ∧ kv = .int .i64 k ∧ k ≤ t.size + 1 ∧ acc.length ≤ k ∧ Hid (Ch.cbF t b t.size 0 [] = Ch.cbF t b (t.size - k) k acc)) (fun _ kv=>t.size + 1 - (intOf kv).toNat)
 case atStart=>exact ⟨0,[],rfl,rfl,Nat.zero_le _,Nat.le_refl _,hid rfl⟩
 case round =>
  obtain ⟨k,acc,rfl,rfl,hk,ha,HE⟩:=hrel
  by_cases hlt : k + 1 < t.size
  ·have hlt' : (k : Int) + 1 < (t.size : Int):=by omega
   have hk0 : k < t.size:=by omega
   have hk0' : (k : Int) < (t.size : Int):=by omega
   have hpk : Ch.peek t k = ((t[k]'hk0).toNat : Int):=by simp [Ch.peek,hk0]
   have hgo:=Ch.cbF_go (c:=b) (acc:=acc) hlt;rw [hpk] at hgo;have hx:=Ch.ext_two (t:=t) (k:=k) (by omega);have hsz:=strOfNums_size acc
   cases q : (((t[k]'hk0).toNat : Int) != b) with
   | true =>
     rw [q] at hgo;simp only [if_true] at hgo;have HG:=hid (HE.out.trans hgo);have HX:=hid (show strOfNums acc ++ t.extract k (k + 2) = strOfNums (acc ++ [((t[k]'hk0).toNat : Int),Ch.peek t (k + 1)]) by rw [hx,← Ch.str_append,hpk]);clear hgo hx hpk HE;go_wp2
     go_round
     case rel=>exact ⟨k + 2,_,by first | rw [HX.out] | rfl,by go_num,by omega,by simp;omega,hid HG.out⟩
     case measure=>simp [intOf];omega
   | false=>?_
   rw [q] at hgo;simp only [Bool.false_eq_true,if_false] at hgo;have HG:=hid (HE.out.trans hgo);clear hgo hx hpk HE;go_wp2
   go_round
   case rel=>exact ⟨k + 2,acc,rfl,by go_num,by omega,by omega,hid HG.out⟩
   case measure=>simp [intOf];omega
  have hge : ¬ (k : Int) + 1 < (t.size : Int):=by omega
  have HR:=hid (HE.out.trans (Ch.cbF_end hlt));go_wp2;go_ret;rw [HR.out];exact ⟨rfl,rfl⟩
end
def PutQ (w w' : World) (xb cb g n : Nat) (pv : Value) (m : Ch.Ma) (a : Ch.Ac) (r : List Int) (rest : ByteArray) : Prop :=
 ((Ch.doAct m a).1 = true → Ch.bys rest = r) ∧ NwB w' xb cb g n pv (Ch.doAct m a).2 ∧ Kp (fun k=>k = xb) w w'
section
variable (w : World) (xb cb g n : Nat) (pv : Value) (m : Ch.Ma)
theorem rPut_any (s : ByteArray) (a : Ch.Ac) (r : List Int) (h : NwB w xb cb g n pv m) (hs : Ch.bys s = Ch.encA a ++ r) (hv : Ch.AcV a) (hok : m.s.Ok) (h16 : m.s.tm.size ≤ 16) (hq : m.Sz 1000000000) (hss : s.size ≤ 1000) :
 Calls Tryz.prog 267 #[.pointer (some ⟨xb,0,none⟩),.string s] w fun x w'=>∃ rest,x = .returned (.tuple #[.string rest,.bool (Ch.doAct m a).1]) ∧ PutQ w w' xb cb g n pv m a r rest:=by
 obtain ⟨p0,p1,hsz,hd,hnd⟩:=Ch.put_text hs
 have hx0 : 0 < s.size:=by omega
 have hx1 : 1 < s.size:=by omega
 have hb0 : ((s[0]'hx0).toNat : Int) = a.sign:=by rw [← p0];simp [Ch.peek,hx0]
 have hb1 : ((s[1]'hx1).toNat : Int) = a.letter:=by rw [← p1];simp [Ch.peek,hx1]
 have c3 : w.cell? ⟨xb,3,none⟩ = some (.string m.s.tm):=h.cell 3;have c4 : w.cell? ⟨xb,4,none⟩ = some (.int .i64 m.s.x):=h.cell 4;have c5 : w.cell? ⟨xb,5,none⟩ = some (.int .i64 m.s.y):=h.cell 5;have c6 : w.cell? ⟨xb,6,none⟩ = some (.int .i64 m.s.z):=h.cell 6;have c7 : w.cell? ⟨xb,7,none⟩ = some (.string (strOfNums m.q)):=h.cell 7;have c8 : w.cell? ⟨xb,8,none⟩ = some (.string (strOfNums m.out)):=h.cell 8;have f3:=h.free 3;have f4:=h.free 4;have f5:=h.free 5;have f6:=h.free 6;have f7:=h.free 7;have f8:=h.free 8
 have z7 : (strOfNums m.q).size ≤ 1000000000:=by rw [strOfNums_size];exact hq.1
 have z8 : (strOfNums m.out).size ≤ 1000000000:=by rw [strOfNums_size];exact hq.2
 have h1:=Ch.ext_one (t:=s) (k:=1) (by omega);rw [p1] at h1;have H:=hid h;clear h p0 p1
 have hsg : a.sign = 33 ∨ a.sign = 35 ∨ a.sign = 126 ∨ a.sign = 64 ∨ a.sign = 43 ∨ a.sign = 45 ∨ a.sign = 61:=by
  rcases hv with ⟨h,_⟩ | ⟨h,_⟩ | ⟨h,_⟩ <;> omega
 rcases hsg with e | e | e | e | e | e | e
 ·-- '!'
  rw [e] at hb0 hnd
  have t0 : (((s[0]'hx0).toNat : Int) == 33) = true:=by rw [hb0];rfl
  have hA : Ch.doAct m a = (true,{ m with q:=m.q ++ [a.letter] }):=by unfold Ch.doAct;rw [e];rfl
  have HX:=hid (show strOfNums m.q ++ s.extract 1 2 = strOfNums (m.q ++ [a.letter]) by rw [h1,← Ch.str_append]);have HR:=hid (hnd rfl);have HA:=hid hA;clear hb0 hb1 hd hnd h1 hA hs
  go_enter Tryz.func267,Tryz.ntmps267
  go_wp2
  go_region
  go_wp2;go_ret2;rw [HA.out,HX.out];exact ⟨_,rfl,fun _=>HR.out,by rw [HA.out];exact (H.out.setQ _).keep (S:=fun _=>False) (Kp.refl _ _).drew (fun x=>x),((Kp.refl _ _).setCell (by intro _;rfl) _).drew⟩
 ·-- '#'
  rw [e] at hb0 hnd
  have t0 : (((s[0]'hx0).toNat : Int) == 33) = false:=by rw [hb0];rfl
  have t1 : (((s[0]'hx0).toNat : Int) == 35) = true:=by rw [hb0];rfl
  have hA : Ch.doAct m a = (true,{ m with out:=m.out ++ [a.letter] }):=by unfold Ch.doAct;rw [e];rfl
  have HX:=hid (show strOfNums m.out ++ s.extract 1 2 = strOfNums (m.out ++ [a.letter]) by rw [h1,← Ch.str_append]);have HR:=hid (hnd rfl);have HA:=hid hA;clear hb0 hb1 hd hnd h1 hA hs
  go_enter Tryz.func267,Tryz.ntmps267
  go_wp2
  go_region
  go_wp2;go_ret2;rw [HA.out,HX.out];exact ⟨_,rfl,fun _=>HR.out,by rw [HA.out];exact (H.out.setO _).keep (S:=fun _=>False) (Kp.refl _ _).drew (fun x=>x),((Kp.refl _ _).setCell (by intro _;rfl) _).drew⟩
 ·-- '~'
  rw [e] at hb0 hnd
  have t0 : (((s[0]'hx0).toNat : Int) == 33) = false:=by rw [hb0];rfl
  have t1 : (((s[0]'hx0).toNat : Int) == 35) = false:=by rw [hb0];rfl
  have t2 : (((s[0]'hx0).toNat : Int) == 126) = true:=by rw [hb0];rfl
  have hA : Ch.doAct m a = (true,{ m with s:=Ch.callBack m.s a.letter }):=by unfold Ch.doAct;rw [e];rfl
  have HR:=hid (hnd rfl);have HA:=hid hA;have E:=hid (fun w'=>rExcept_any w' m.s.tm a.letter (by omega));rw [← hb1] at E;have HB:=hid hb1;clear hb0 hb1 hd hnd h1 hA hs
  go_enter Tryz.func267,Tryz.ntmps267
  go_wp2_with fail
  refine Calls.mono (Hid.out E w) ?_;rintro y w1 ⟨rfl,e1⟩;rw [e1];go_wp2;go_ret2;rw [HA.out];refine ⟨_,rfl,fun _=>HR.out,?_,(Kp.refl _ _).setCell (by intro _;rfl) _⟩;rw [HA.out,HB.out];exact H.out.setT _
 ·-- '@'
  rw [e] at hb0 hd
  have t0 : (((s[0]'hx0).toNat : Int) == 33) = false:=by rw [hb0];rfl
  have t1 : (((s[0]'hx0).toNat : Int) == 35) = false:=by rw [hb0];rfl
  have t2 : (((s[0]'hx0).toNat : Int) == 126) = false:=by rw [hb0];rfl
  have t3 : (((s[0]'hx0).toNat : Int) == 64) = true:=by rw [hb0];rfl
  obtain ⟨hd2,hs3,hr⟩:=hd rfl
  by_cases c : m.s.tm.size = 16
  ·have c' : ((m.s.tm.size : Int) == 16) = true:=by rw [c];rfl
   have hA : Ch.doAct m a = (false,m):=by unfold Ch.doAct Ch.send;rw [e,if_neg (by decide),if_pos (by decide),if_pos (by omega)]
   have HA:=hid hA;clear hb0 hb1 hnd h1 hA hs hr hd2 hd
   go_enter Tryz.func267,Tryz.ntmps267
   go_wp2;go_ret2;rw [HA.out];exact ⟨_,rfl,(fun h=>by rw [HA.out] at h;cases h),by rw [HA.out];exact H.out,Kp.refl _ _⟩
  have c' : ((m.s.tm.size : Int) == 16) = false:=by simp;omega
  have hA : Ch.doAct m a = (true,{ m with s:={ m.s with tm:=m.s.tm ++ strOfNums [a.letter,48 + a.digit] } }):=by unfold Ch.doAct Ch.send;rw [e,if_neg (by decide),if_pos (by decide),if_neg (by omega)]
  have h2:=Ch.ext_two (t:=s) (k:=1) (by omega);have HX:=hid (show m.s.tm ++ s.extract 1 3 = m.s.tm ++ strOfNums [a.letter,48 + a.digit] by rw [show (3 : Nat) = 1 + 2 by rfl,h2,hd2];rw [show Ch.peek s 1 = a.letter by rw [← hb1];simp [Ch.peek,hx1]]);have HR:=hid hr;have HA:=hid hA;clear hb0 hb1 hnd h1 hA hs hr hd2 h2 hd
  go_enter Tryz.func267,Tryz.ntmps267
  go_wp2
  go_region
  go_wp2;go_ret2;rw [HA.out,HX.out];exact ⟨_,rfl,fun _=>HR.out,by rw [HA.out];exact (H.out.setT _).keep (S:=fun _=>False) (Kp.refl _ _).drew (fun x=>x),((Kp.refl _ _).setCell (by intro _;rfl) _).drew⟩
 ·rw [e] at hb0 hd
  have t0 : (((s[0]'hx0).toNat : Int) == 33) = false:=by rw [hb0];rfl
  have t1 : (((s[0]'hx0).toNat : Int) == 35) = false:=by rw [hb0];rfl
  have t2 : (((s[0]'hx0).toNat : Int) == 126) = false:=by rw [hb0];rfl
  have t3 : (((s[0]'hx0).toNat : Int) == 64) = false:=by rw [hb0];rfl
  have t4 : (((s[0]'hx0).toNat : Int) == 43) = true:=by rw [hb0];rfl
  have t5 : (((s[0]'hx0).toNat : Int) == 45) = false:=by rw [hb0];rfl
  obtain ⟨hd2,hs3,hr⟩:=hd rfl
  have hx2 : 2 < s.size:=by omega
  have hb2 : ((s[2]'hx2).toNat : Int) = 48 + a.digit:=by rw [← hd2];simp [Ch.peek,hx2]
  have hlt : a.letter = 120 ∨ a.letter = 121 ∨ a.letter = 122:=by
   rcases hv with ⟨h,_⟩ | ⟨h,_⟩ | ⟨_,h,_⟩
   ·omega
   ·omega
   exact Ch.isVr_or h
  have hdg:=hv.byte;obtain ⟨⟨_,_⟩,⟨hox,hoy,hoz⟩,_⟩:=hok
  have key : ∀ (j : Nat) (ov : Int) (upd : Int → Ch.Ma),j < 3 → a.letter = 120 + j → (-99 ≤ ov ∧ ov ≤ 99) → w.cell? ⟨xb,4 + j,none⟩ = some (.int .i64 ov) → w.frozen? ⟨xb,4 + j,none⟩ = false → (∀ u,NwB (w.setCell ⟨xb,4 + j,none⟩ (.int .i64 u)) xb cb g n pv (upd u)) → Ch.doAct m a = (Ch.inB (ov + a.digit),if Ch.inB (ov + a.digit) then upd (ov + a.digit) else m) →
   Calls Tryz.prog 267 #[.pointer (some ⟨xb,0,none⟩),.string s] w fun x w'=>∃ rest,x = .returned (.tuple #[.string rest,.bool (Ch.doAct m a).1]) ∧ PutQ w w' xb cb g n pv m a r rest:=by
   intro j ov upd hj el hov cV fV hset hA;rw [el] at hb1
   have hval : ov + (((s[2]'hx2).toNat : Int) - 48) = ov + a.digit:=by rw [hb2];omega
   have E:=hid (fun w'=>rSmall_any w' (ov + (((s[2]'hx2).toNat : Int) - 48)));have HV:=hid (And.intro hval hA);have HR:=hid hr;have HS:=hid hset
   have lo : 0 ≤ ((s[2]'hx2).toNat : Int) - 48:=by omega
   have hi : ((s[2]'hx2).toNat : Int) - 48 ≤ 9:=by omega
   have hj3 : (j : Int) < 3:=by omega
   have hjn : ((j : Int)).toNat = j:=by omega
   have hbj : ((s[1]'hx1).toNat : Int) - 120 = j:=by omega
   have qv : Ch.inB (ov + (((s[2]'hx2).toNat : Int) - 48)) = Ch.inB (ov + a.digit):=by rw [hval]
   clear hb0 hb1 hb2 hnd h1 hA hs hr hd2 hd hval hset c4 c5 c6 f4 f5 f6
   go_enter Tryz.func267,Tryz.ntmps267
   go_wp2_with fail
   refine Calls.mono (Hid.out E w) ?_;rintro y w1 ⟨rfl,e1⟩;rw [e1];clear E e1 w1;generalize Ch.inB (ov + (((s[2]'hx2).toNat : Int) - 48)) = bb at *
   cases bb
   ·have HA:=hid (show Ch.doAct m a = (false,m) by rw [HV.out.2,← qv];rfl)
    clear qv HV;go_wp2;go_ret2;rw [HA.out];exact ⟨_,rfl,(fun h=>by rw [HA.out] at h;cases h),by rw [HA.out];exact H.out,Kp.refl _ _⟩
   have HA:=hid (show Ch.doAct m a = (true,upd (ov + (((s[2]'hx2).toNat : Int) - 48))) by rw [HV.out.2,← qv,HV.out.1];rfl);clear qv HV;go_wp2;go_ret2;rw [HA.out];exact ⟨_,rfl,fun _=>HR.out,by rw [HA.out];exact HS.out _,(Kp.refl _ _).setCell (by intro _;rfl) _⟩
  rcases hlt with el | el | el
  ·exact key 0 m.s.x (fun u=>{ m with s:={ m.s with x:=u } }) (by omega) (by omega) hox c4 f4 (fun u=>H.out.setX u) (by
    unfold Ch.doAct Ch.newVal Ch.setV Ch.setVar Ch.var;rw [e,el];simp only [show ((43 : Int) == 33) = false from rfl,show ((43 : Int) == 64) = false from rfl,show ((43 : Int) == 126) = false from rfl,show ((43 : Int) == 35) = false from rfl,show ((43 : Int) == 43) = true from rfl,show ((43 : Int) == 45) = false from rfl,show ((120 : Int) == 120) = true from rfl,show ((120 : Int) == 121) = false from rfl,Bool.false_eq_true,if_false,if_true]
    cases Ch.inB (m.s.x + a.digit) <;> rfl)
  ·exact key 1 m.s.y (fun u=>{ m with s:={ m.s with y:=u } }) (by omega) (by omega) hoy c5 f5 (fun u=>H.out.setY u) (by
    unfold Ch.doAct Ch.newVal Ch.setV Ch.setVar Ch.var;rw [e,el];simp only [show ((43 : Int) == 33) = false from rfl,show ((43 : Int) == 64) = false from rfl,show ((43 : Int) == 126) = false from rfl,show ((43 : Int) == 35) = false from rfl,show ((43 : Int) == 43) = true from rfl,show ((43 : Int) == 45) = false from rfl,show ((121 : Int) == 120) = false from rfl,show ((121 : Int) == 121) = true from rfl,Bool.false_eq_true,if_false,if_true]
    cases Ch.inB (m.s.y + a.digit) <;> rfl)
  exact key 2 m.s.z (fun u=>{ m with s:={ m.s with z:=u } }) (by omega) (by omega) hoz c6 f6 (fun u=>H.out.setZ u) (by
   unfold Ch.doAct Ch.newVal Ch.setV Ch.setVar Ch.var;rw [e,el];simp only [show ((43 : Int) == 33) = false from rfl,show ((43 : Int) == 64) = false from rfl,show ((43 : Int) == 126) = false from rfl,show ((43 : Int) == 35) = false from rfl,show ((43 : Int) == 43) = true from rfl,show ((43 : Int) == 45) = false from rfl,show ((122 : Int) == 120) = false from rfl,show ((122 : Int) == 121) = false from rfl,Bool.false_eq_true,if_false,if_true]
   cases Ch.inB (m.s.z + a.digit) <;> rfl)
 ·rw [e] at hb0 hd
  have t0 : (((s[0]'hx0).toNat : Int) == 33) = false:=by rw [hb0];rfl
  have t1 : (((s[0]'hx0).toNat : Int) == 35) = false:=by rw [hb0];rfl
  have t2 : (((s[0]'hx0).toNat : Int) == 126) = false:=by rw [hb0];rfl
  have t3 : (((s[0]'hx0).toNat : Int) == 64) = false:=by rw [hb0];rfl
  have t4 : (((s[0]'hx0).toNat : Int) == 43) = false:=by rw [hb0];rfl
  have t5 : (((s[0]'hx0).toNat : Int) == 45) = true:=by rw [hb0];rfl
  obtain ⟨hd2,hs3,hr⟩:=hd rfl
  have hx2 : 2 < s.size:=by omega
  have hb2 : ((s[2]'hx2).toNat : Int) = 48 + a.digit:=by rw [← hd2];simp [Ch.peek,hx2]
  have hlt : a.letter = 120 ∨ a.letter = 121 ∨ a.letter = 122:=by
   rcases hv with ⟨h,_⟩ | ⟨h,_⟩ | ⟨_,h,_⟩
   ·omega
   ·omega
   exact Ch.isVr_or h
  have hdg:=hv.byte;obtain ⟨⟨_,_⟩,⟨hox,hoy,hoz⟩,_⟩:=hok
  have key : ∀ (j : Nat) (ov : Int) (upd : Int → Ch.Ma),j < 3 → a.letter = 120 + j → (-99 ≤ ov ∧ ov ≤ 99) → w.cell? ⟨xb,4 + j,none⟩ = some (.int .i64 ov) → w.frozen? ⟨xb,4 + j,none⟩ = false → (∀ u,NwB (w.setCell ⟨xb,4 + j,none⟩ (.int .i64 u)) xb cb g n pv (upd u)) → Ch.doAct m a = (Ch.inB (ov - a.digit),if Ch.inB (ov - a.digit) then upd (ov - a.digit) else m) →
   Calls Tryz.prog 267 #[.pointer (some ⟨xb,0,none⟩),.string s] w fun x w'=>∃ rest,x = .returned (.tuple #[.string rest,.bool (Ch.doAct m a).1]) ∧ PutQ w w' xb cb g n pv m a r rest:=by
   intro j ov upd hj el hov cV fV hset hA;rw [el] at hb1
   have hval : ov - (((s[2]'hx2).toNat : Int) - 48) = ov - a.digit:=by rw [hb2];omega
   have E:=hid (fun w'=>rSmall_any w' (ov - (((s[2]'hx2).toNat : Int) - 48)));have HV:=hid (And.intro hval hA);have HR:=hid hr;have HS:=hid hset
   have lo : 0 ≤ ((s[2]'hx2).toNat : Int) - 48:=by omega
   have hi : ((s[2]'hx2).toNat : Int) - 48 ≤ 9:=by omega
   have hj3 : (j : Int) < 3:=by omega
   have hjn : ((j : Int)).toNat = j:=by omega
   have hbj : ((s[1]'hx1).toNat : Int) - 120 = j:=by omega
   have qv : Ch.inB (ov - (((s[2]'hx2).toNat : Int) - 48)) = Ch.inB (ov - a.digit):=by rw [hval]
   clear hb0 hb1 hb2 hnd h1 hA hs hr hd2 hd hval hset c4 c5 c6 f4 f5 f6
   go_enter Tryz.func267,Tryz.ntmps267
   go_wp2_with fail
   refine Calls.mono (Hid.out E w) ?_;rintro y w1 ⟨rfl,e1⟩;rw [e1];clear E e1 w1;generalize Ch.inB (ov - (((s[2]'hx2).toNat : Int) - 48)) = bb at *
   cases bb
   ·have HA:=hid (show Ch.doAct m a = (false,m) by rw [HV.out.2,← qv];rfl)
    clear qv HV;go_wp2;go_ret2;rw [HA.out];exact ⟨_,rfl,(fun h=>by rw [HA.out] at h;cases h),by rw [HA.out];exact H.out,Kp.refl _ _⟩
   have HA:=hid (show Ch.doAct m a = (true,upd (ov - (((s[2]'hx2).toNat : Int) - 48))) by rw [HV.out.2,← qv,HV.out.1];rfl);clear qv HV;go_wp2;go_ret2;rw [HA.out];exact ⟨_,rfl,fun _=>HR.out,by rw [HA.out];exact HS.out _,(Kp.refl _ _).setCell (by intro _;rfl) _⟩
  rcases hlt with el | el | el
  ·exact key 0 m.s.x (fun u=>{ m with s:={ m.s with x:=u } }) (by omega) (by omega) hox c4 f4 (fun u=>H.out.setX u) (by
    unfold Ch.doAct Ch.newVal Ch.setV Ch.setVar Ch.var;rw [e,el];simp only [show ((45 : Int) == 33) = false from rfl,show ((45 : Int) == 64) = false from rfl,show ((45 : Int) == 126) = false from rfl,show ((45 : Int) == 35) = false from rfl,show ((45 : Int) == 43) = false from rfl,show ((45 : Int) == 45) = true from rfl,show ((120 : Int) == 120) = true from rfl,show ((120 : Int) == 121) = false from rfl,Bool.false_eq_true,if_false,if_true]
    cases Ch.inB (m.s.x - a.digit) <;> rfl)
  ·exact key 1 m.s.y (fun u=>{ m with s:={ m.s with y:=u } }) (by omega) (by omega) hoy c5 f5 (fun u=>H.out.setY u) (by
    unfold Ch.doAct Ch.newVal Ch.setV Ch.setVar Ch.var;rw [e,el];simp only [show ((45 : Int) == 33) = false from rfl,show ((45 : Int) == 64) = false from rfl,show ((45 : Int) == 126) = false from rfl,show ((45 : Int) == 35) = false from rfl,show ((45 : Int) == 43) = false from rfl,show ((45 : Int) == 45) = true from rfl,show ((121 : Int) == 120) = false from rfl,show ((121 : Int) == 121) = true from rfl,Bool.false_eq_true,if_false,if_true]
    cases Ch.inB (m.s.y - a.digit) <;> rfl)
  exact key 2 m.s.z (fun u=>{ m with s:={ m.s with z:=u } }) (by omega) (by omega) hoz c6 f6 (fun u=>H.out.setZ u) (by
   unfold Ch.doAct Ch.newVal Ch.setV Ch.setVar Ch.var;rw [e,el];simp only [show ((45 : Int) == 33) = false from rfl,show ((45 : Int) == 64) = false from rfl,show ((45 : Int) == 126) = false from rfl,show ((45 : Int) == 35) = false from rfl,show ((45 : Int) == 43) = false from rfl,show ((45 : Int) == 45) = true from rfl,show ((122 : Int) == 120) = false from rfl,show ((122 : Int) == 121) = false from rfl,Bool.false_eq_true,if_false,if_true]
   cases Ch.inB (m.s.z - a.digit) <;> rfl)
 rw [e] at hb0 hd
 have t0 : (((s[0]'hx0).toNat : Int) == 33) = false:=by rw [hb0];rfl
 have t1 : (((s[0]'hx0).toNat : Int) == 35) = false:=by rw [hb0];rfl
 have t2 : (((s[0]'hx0).toNat : Int) == 126) = false:=by rw [hb0];rfl
 have t3 : (((s[0]'hx0).toNat : Int) == 64) = false:=by rw [hb0];rfl
 have t4 : (((s[0]'hx0).toNat : Int) == 43) = false:=by rw [hb0];rfl
 have t5 : (((s[0]'hx0).toNat : Int) == 45) = false:=by rw [hb0];rfl
 obtain ⟨hd2,hs3,hr⟩:=hd rfl
 have hx2 : 2 < s.size:=by omega
 have hb2 : ((s[2]'hx2).toNat : Int) = 48 + a.digit:=by rw [← hd2];simp [Ch.peek,hx2]
 have hlt : a.letter = 120 ∨ a.letter = 121 ∨ a.letter = 122:=by
  rcases hv with ⟨h,_⟩ | ⟨h,_⟩ | ⟨_,h,_⟩
  ·omega
  ·omega
  exact Ch.isVr_or h
 have hdg:=hv.byte;obtain ⟨⟨_,_⟩,⟨hox,hoy,hoz⟩,_⟩:=hok
 have key : ∀ (j : Nat) (ov : Int) (upd : Int → Ch.Ma),j < 3 → a.letter = 120 + j → (-99 ≤ ov ∧ ov ≤ 99) → w.cell? ⟨xb,4 + j,none⟩ = some (.int .i64 ov) → w.frozen? ⟨xb,4 + j,none⟩ = false → (∀ u,NwB (w.setCell ⟨xb,4 + j,none⟩ (.int .i64 u)) xb cb g n pv (upd u)) → Ch.doAct m a = (Ch.inB (a.digit),if Ch.inB (a.digit) then upd (a.digit) else m) →
  Calls Tryz.prog 267 #[.pointer (some ⟨xb,0,none⟩),.string s] w fun x w'=>∃ rest,x = .returned (.tuple #[.string rest,.bool (Ch.doAct m a).1]) ∧ PutQ w w' xb cb g n pv m a r rest:=by
  intro j ov upd hj el hov cV fV hset hA;rw [el] at hb1
  have hval : (((s[2]'hx2).toNat : Int) - 48) = a.digit:=by rw [hb2];omega
  have E:=hid (fun w'=>rSmall_any w' ((((s[2]'hx2).toNat : Int) - 48)));have HV:=hid (And.intro hval hA);have HR:=hid hr;have HS:=hid hset
  have lo : 0 ≤ ((s[2]'hx2).toNat : Int) - 48:=by omega
  have hi : ((s[2]'hx2).toNat : Int) - 48 ≤ 9:=by omega
  have hj3 : (j : Int) < 3:=by omega
  have hjn : ((j : Int)).toNat = j:=by omega
  have hbj : ((s[1]'hx1).toNat : Int) - 120 = j:=by omega
  have qv : Ch.inB ((((s[2]'hx2).toNat : Int) - 48)) = Ch.inB (a.digit):=by rw [hval]
  clear hb0 hb1 hb2 hnd h1 hA hs hr hd2 hd hval hset c4 c5 c6 f4 f5 f6
  go_enter Tryz.func267,Tryz.ntmps267
  go_wp2_with fail
  refine Calls.mono (Hid.out E w) ?_;rintro y w1 ⟨rfl,e1⟩;rw [e1];clear E e1 w1;generalize Ch.inB ((((s[2]'hx2).toNat : Int) - 48)) = bb at *
  cases bb
  ·have HA:=hid (show Ch.doAct m a = (false,m) by rw [HV.out.2,← qv];rfl)
   clear qv HV;go_wp2;go_ret2;rw [HA.out];exact ⟨_,rfl,(fun h=>by rw [HA.out] at h;cases h),by rw [HA.out];exact H.out,Kp.refl _ _⟩
  have HA:=hid (show Ch.doAct m a = (true,upd ((((s[2]'hx2).toNat : Int) - 48))) by rw [HV.out.2,← qv,HV.out.1];rfl);clear qv HV;go_wp2;go_ret2;rw [HA.out];exact ⟨_,rfl,fun _=>HR.out,by rw [HA.out];exact HS.out _,(Kp.refl _ _).setCell (by intro _;rfl) _⟩
 rcases hlt with el | el | el
 ·exact key 0 m.s.x (fun u=>{ m with s:={ m.s with x:=u } }) (by omega) (by omega) hox c4 f4 (fun u=>H.out.setX u) (by
   unfold Ch.doAct Ch.newVal Ch.setV Ch.setVar Ch.var;rw [e,el];simp only [show ((61 : Int) == 33) = false from rfl,show ((61 : Int) == 64) = false from rfl,show ((61 : Int) == 126) = false from rfl,show ((61 : Int) == 35) = false from rfl,show ((61 : Int) == 43) = false from rfl,show ((61 : Int) == 45) = false from rfl,show ((120 : Int) == 120) = true from rfl,show ((120 : Int) == 121) = false from rfl,Bool.false_eq_true,if_false,if_true]
   cases Ch.inB (a.digit) <;> rfl)
 ·exact key 1 m.s.y (fun u=>{ m with s:={ m.s with y:=u } }) (by omega) (by omega) hoy c5 f5 (fun u=>H.out.setY u) (by
   unfold Ch.doAct Ch.newVal Ch.setV Ch.setVar Ch.var;rw [e,el];simp only [show ((61 : Int) == 33) = false from rfl,show ((61 : Int) == 64) = false from rfl,show ((61 : Int) == 126) = false from rfl,show ((61 : Int) == 35) = false from rfl,show ((61 : Int) == 43) = false from rfl,show ((61 : Int) == 45) = false from rfl,show ((121 : Int) == 120) = false from rfl,show ((121 : Int) == 121) = true from rfl,Bool.false_eq_true,if_false,if_true]
   cases Ch.inB (a.digit) <;> rfl)
 exact key 2 m.s.z (fun u=>{ m with s:={ m.s with z:=u } }) (by omega) (by omega) hoz c6 f6 (fun u=>H.out.setZ u) (by
  unfold Ch.doAct Ch.newVal Ch.setV Ch.setVar Ch.var;rw [e,el];simp only [show ((61 : Int) == 33) = false from rfl,show ((61 : Int) == 64) = false from rfl,show ((61 : Int) == 126) = false from rfl,show ((61 : Int) == 35) = false from rfl,show ((61 : Int) == 43) = false from rfl,show ((61 : Int) == 45) = false from rfl,show ((122 : Int) == 120) = false from rfl,show ((122 : Int) == 121) = false from rfl,Bool.false_eq_true,if_false]
  cases Ch.inB (a.digit) <;> rfl)
end
namespace Ch
theorem enc_cons (a : Ac) (l : List Ac) : enc (a :: l) = encA a ++ enc l:=by simp [enc]
theorem encA_len (a : Ac) : 2 ≤ (encA a).length:=by unfold encA;split <;> simp
theorem enc_pos {l : List Ac} {s : ByteArray} (h : bys s = enc l) : (s.size = 0 ↔ l = []):=by
 rw [← bys_len,h]
 cases l with
 | nil=>simp [enc]
 | cons a l=>rw [enc_cons];have:=encA_len a;simp;intro h;rw [h] at this;simp at this
end Ch
def strLen (v : Value) : Nat:=match v with | .string t=>t.size | _=>0
section
variable (w : World) (xb cb g n : Nat) (pv : Value)
theorem rActs_any (m : Ch.Ma) (acs : List Ch.Ac) (s : ByteArray) (h : NwB w xb cb g n pv m) (hs : Ch.bys s = Ch.enc acs) (hv : ∀ a ∈ acs,Ch.AcV a) (hok : m.s.Ok) (hT : Ch.TmL 48 m.s) (hq : m.Sz 999990000) (hl : acs.length ≤ 1000) (hss : s.size ≤ 1000) :
 Calls Tryz.prog 246 #[.pointer (some ⟨xb,0,none⟩),.string s] w fun x w'=>x = .returned (.tuple #[]) ∧ NwB w' xb cb g n pv (Ch.doActs acs m) ∧ Kp (fun k=>k = xb) w w':=by
 go_enter Tryz.func246,Tryz.ntmps246
 go_wp2_with fail
 go_loopw [1] (fun sv wr=>∃ (t : ByteArray) (as' : List Ch.Ac) (m' : Ch.Ma),sv = .string t ∧ Ch.bys t = Ch.enc as' ∧ t.size ≤ 1000 ∧ (∀ a ∈ as',Ch.AcV a) ∧ Hid (Ch.doActs acs m = Ch.doActs as' m') ∧ NwB wr xb cb g n pv m' ∧ m'.s.Ok ∧ Ch.TmL 48 m'.s ∧ m'.q.length + as'.length ≤ 999990000 + acs.length ∧ m'.out.length + as'.length ≤ 999990000 + acs.length ∧ Kp (fun k=>k = xb) w wr) (fun sv _=>strLen sv)
 case atStart=>exact ⟨s,acs,m,rfl,hs,hss,hv,hid rfl,h,hok,hT,by have:=hq.1;omega,by have:=hq.2;omega,Kp.refl _ _⟩
 case round =>
  obtain ⟨t,as',m',rfl,ht,htl,hv',HE,hm',hok',hT',hq1,hq2,KW⟩:=hrel;have hpos:=Ch.enc_pos ht
  cases has : as' with
  | nil =>
    subst has;have h0 : t.size = 0:=hpos.2 rfl
    have h0' : ¬ (0 : Int) < (t.size : Int):=by omega
    have HR:=hid HE.out;clear h hs hv ht hpos HE
    go_wp2_with fail
    go_end0
    rw [HR.out];exact ⟨rfl,hm',KW⟩
  | cons a as2=>?_
  subst has;rw [Ch.enc_cons] at ht;have hb:=congrArg List.length ht;rw [Ch.bys_len,List.length_append] at hb;have hal:=Ch.encA_len a
  have h0 : (0 : Int) < (t.size : Int):=by omega
  simp only [List.length_cons] at hq1 hq2;have ha:=hv' a (by simp);have E:=hid (rPut_any wr xb cb g n pv m' t a (Ch.enc as2) hm' ht ha hok' hT'.2 ⟨by omega,by omega⟩ htl);have hqa:=Ch.doAct_q m' a;have hoka:=Ch.doAct_ok hok' a;have hTa:=Ch.doAct_tl (by omega) hT' ha
  cases q1 : (Ch.doAct m' a).1 with
  | true =>
    rw [q1] at E;have HF:=hid (HE.out.trans (show _ = Ch.doActs as2 (Ch.doAct m' a).2 by simp only [Ch.doActs];rw [q1];rfl));have HV:=hid (fun b hb=>hv' b (List.mem_cons_of_mem _ hb));clear h hs hv ht hpos HE hm' hv'
    go_wp2_with fail
    refine cMo E ?_;rintro x w2 ⟨rest,rfl,hr,M2,K2⟩;have hr':=hr q1
    have hrl : rest.size = (Ch.enc as2).length:=by rw [← Ch.bys_len,hr']
    have HK:=hid (KW.trans K2);clear E K2 KW hr;go_wp2
    go_roundw
    case rel=>exact ⟨rest,as2,_,rfl,hr',by omega,HV.out,HF,M2,hoka,hTa,by omega,by omega,HK.out⟩
    case measure=>simp [strLen];omega
  | false=>?_
  rw [q1] at E;have HF:=hid (HE.out.trans (show _ = { (Ch.doAct m' a).2 with q:=(Ch.doAct m' a).2.q ++ [122] } by simp only [Ch.doActs];rw [q1];rfl));clear h hs hv ht hpos HE hm' hv'
  go_wp2_with fail
  refine cMo E ?_;rintro x w2 ⟨rest,rfl,_,M2,K2⟩;have HK:=hid (KW.trans K2);have c7 : w2.cell? ⟨xb,7,none⟩ = some (.string (strOfNums (Ch.doAct m' a).2.q)):=M2.cell 7;have f7:=M2.free 7
  have z7 : (strOfNums (Ch.doAct m' a).2.q).size ≤ 1000000000:=by rw [strOfNums_size];omega
  have HM:=hid (M2.setQ ((Ch.doAct m' a).2.q ++ [122]));clear E K2 KW M2;go_wp2;refine bodyPost_ret (results_none rfl _ _ _) rfl ?_;rw [HF.out];refine ⟨rfl,?_,HK.out.setCell (by intro _;rfl) _⟩
  have e : strOfNums ((Ch.doAct m' a).2.q ++ [122]) = strOfNums (Ch.doAct m' a).2.q ++ ⟨#[122]⟩:=by rw [Ch.str_append];rfl
  rw [← e];exact HM.out
end
section
variable (w : World) (xb cb g n : Nat) (pv : Value) (m : Ch.Ma)
theorem rHolds_any (rt : Ch.RT) (x : Ch.Tr) (h : NwB w xb cb g n pv m) (hx : Ch.TrOk rt x) (hss : rt.text.size ≤ 1000) :
 Calls Tryz.prog 274 #[.pointer (some ⟨xb,0,none⟩),.string rt.text] w fun y w'=>y = .returned (.bool (Ch.holds m.s x.guard)) ∧ Kp (fun _=>False) w w':=by
 obtain ⟨hsz,hg⟩:=Ch.tr_text hx
 have hx1 : 1 < rt.text.size:=by omega
 have c4 : w.cell? ⟨xb,4,none⟩ = some (.int .i64 m.s.x):=h.cell 4;have c5 : w.cell? ⟨xb,5,none⟩ = some (.int .i64 m.s.y):=h.cell 5;have c6 : w.cell? ⟨xb,6,none⟩ = some (.int .i64 m.s.z):=h.cell 6;generalize rt.text = s at *
 have hp1 : Ch.peek s 1 = ((s[1]'hx1).toNat : Int):=by simp [Ch.peek,hx1]
 clear h hx
 rcases hg with ⟨h0,hne,_⟩ | ⟨hv,hs,hd0,hd9,h7,h1,h2,h3,h4,_⟩
 ·have t : (((s[1]'hx1).toNat : Int) != 63) = true:=by rw [← hp1];simpa using hne
  have HR:=hid (show Ch.holds m.s x.guard = true by unfold Ch.holds;rw [h0];rfl);clear hp1 hne h0
  go_enter Tryz.func274,Tryz.ntmps274
  go_wp2;go_ret;rw [HR.out];exact ⟨rfl,Kp.refl _ _⟩
 have t : (((s[1]'hx1).toNat : Int) != 63) = false:=by rw [← hp1,h1];rfl
 have hx2 : 2 < s.size:=by omega
 have hx3 : 3 < s.size:=by omega
 have hx4 : 4 < s.size:=by omega
 have b2 : ((s[2]'hx2).toNat : Int) = x.guard.var:=by rw [← h2];simp [Ch.peek,hx2]
 have b3 : ((s[3]'hx3).toNat : Int) = x.guard.sign:=by rw [← h3];simp [Ch.peek,hx3]
 have b4 : ((s[4]'hx4).toNat : Int) = 48 + x.guard.digit:=by rw [← h4];simp [Ch.peek,hx4]
 obtain ⟨vv,hvv⟩ : ∃ vv,Ch.var m.s x.guard.var = vv:=⟨_,rfl⟩
 have hsg : x.guard.sign = 60 ∨ x.guard.sign = 61 ∨ x.guard.sign = 62:=by unfold Ch.isSg at hs;simp at hs;omega
 have hH : Ch.holds m.s x.guard = if x.guard.sign == 60 then decide (vv < x.guard.digit) else if x.guard.sign == 61 then vv == x.guard.digit else if x.guard.sign == 62 then decide (x.guard.digit < vv) else true:=by unfold Ch.holds;rw [hvv]
 have hn : ((s[4]'hx4).toNat : Int) - 48 = x.guard.digit:=by omega
 rw [← hn] at hH
 have lo : 48 ≤ ((s[4]'hx4).toNat : Int):=by omega
 have hi : ((s[4]'hx4).toNat : Int) ≤ 57:=by omega
 have hcell : ∃ k : Nat,((s[2]'hx2).toNat : Int) = 120 + k ∧ k < 3 ∧ w.cell? ⟨xb,4 + k,none⟩ = some (.int .i64 vv):=by
  rcases Ch.isVr_or hv with e | e | e
  ·exact ⟨0,by omega,by omega,by rw [c4,← hvv,e];rfl⟩
  ·exact ⟨1,by omega,by omega,by rw [c5,← hvv,e];rfl⟩
  exact ⟨2,by omega,by omega,by rw [c6,← hvv,e];rfl⟩
 clear hp1 hn b4 h4 h3 h2 h1 hvv c4 c5 c6 b2 hv hs;obtain ⟨k,hk,hk3,ck⟩:=hcell
 have hk3' : (k : Int) < 3:=by omega
 have hsub : (120 : Int) + (k : Int) - 120 = (k : Int):=by omega
 rcases hsg with e | e | e <;> rw [e] at b3 hH
 all_goals
  have HH:=hid hH
  first | have t60 : (((s[3]'hx3).toNat : Int) == 60) = true:=by rw [b3];rfl | have t60 : (((s[3]'hx3).toNat : Int) == 60) = false:=by rw [b3];rfl
  first | have t61 : (((s[3]'hx3).toNat : Int) == 61) = true:=by rw [b3];rfl | have t61 : (((s[3]'hx3).toNat : Int) == 61) = false:=by rw [b3];rfl
  first | have t62 : (((s[3]'hx3).toNat : Int) == 62) = true:=by rw [b3];rfl | have t62 : (((s[3]'hx3).toNat : Int) == 62) = false:=by rw [b3];rfl
  clear hH b3 e
  rcases Int.lt_trichotomy vv (((s[4]'hx4).toNat : Int) - 48) with c | c | c
 all_goals
  go_enter Tryz.func274,Tryz.ntmps274
  go_wp2
  go_quiet (fail)
  go_wp2;go_ret;rw [HH.out];refine ⟨?_,(Kp.refl _ _).drewN _⟩
  first
  | (simp only [show ((60 : Int) == 60) = true from rfl,show ((61 : Int) == 60) = false from rfl,show ((61 : Int) == 61) = true from rfl,show ((62 : Int) == 60) = false from rfl,show ((62 : Int) == 61) = false from rfl,show ((62 : Int) == 62) = true from rfl,if_true,Bool.false_eq_true,if_false];simp;done)
  | (simp;omega)
end
namespace Ch
def sts (l : List NV) : List St:=(mk l).map RN.st
theorem sts_len (l : List NV) : (sts l).length = l.length:=by simp [sts,mk]
theorem sts_par {l : List NV} {i : Nat} {x : NV} (h : l[i]? = some x) : parAt (sts l) i = x.n.parent:=by
 have hlt:=(List.getElem?_eq_some_iff.1 h).1;unfold sts;rw [parAt_rn (by rw [mk_len];exact hlt),rnAt_mk h]
theorem sts_kind {l : List NV} {i : Nat} {x : NV} (h : l[i]? = some x) : kindAt (sts l) i = x.n.kind:=by
 have hlt:=(List.getElem?_eq_some_iff.1 h).1;unfold sts;rw [kindAt_rn (by rw [mk_len];exact hlt),rnAt_mk h]
end Ch
section
variable (w : World)
theorem rDeed_any (rt : Ch.RT) (x : Ch.Tr) (hx : Ch.TrOk rt x) (hss : rt.text.size ≤ 1000) :
 Calls Tryz.prog 247 #[.string rt.text] w fun y w'=>∃ t,y = .returned (.string t) ∧ (Ch.bys t = Ch.enc x.acts ∧ t.size ≤ 1000) ∧ w' = w:=by
 obtain ⟨hsz,hg⟩:=Ch.tr_text hx
 have hx1 : 1 < rt.text.size:=by omega
 generalize rt.text = s at *
 have hp1 : Ch.peek s 1 = ((s[1]'hx1).toNat : Int):=by simp [Ch.peek,hx1]
 have e2 : ((s.size : Int) - 2).toNat = s.size - 2:=by omega
 have hext : ∀ p q,(s.extract p q).size ≤ 1000:=fun p q=>by simp;omega
 clear hx
 rcases hg with ⟨h0,hne,hR⟩ | ⟨hv,hs,hd0,hd9,h7,h1,h2,h3,h4,hR⟩
 ·have t : (((s[1]'hx1).toNat : Int) == 63) = false:=by rw [← hp1];simpa using hne
  have HR:=hid hR
  have g1 : (1 : Int) ≤ (s.size : Int) - 2:=by omega
  clear hp1 hne h0 hR
  go_enter Tryz.func247,Tryz.ntmps247
  go_wp2;go_ret;exact ⟨_,rfl,⟨HR.out,hext _ _⟩,rfl⟩
 have t : (((s[1]'hx1).toNat : Int) == 63) = true:=by rw [← hp1,h1];rfl
 have HR:=hid hR
 have g1 : (5 : Int) ≤ (s.size : Int) - 2:=by omega
 clear hp1 h1 h2 h3 h4 hR hs hv
 go_enter Tryz.func247,Tryz.ntmps247
 go_wp2;go_ret;exact ⟨_,rfl,⟨HR.out,hext _ _⟩,rfl⟩
end
section
variable (w : World) (B cb : Nat)
theorem rAbove_any (l : List NV) (v : Value) (a : Int) (i : Nat) (hF : ChF w B cb l v) (hi : i < l.length) (hu : Ch.Up (Ch.sts l)) (ha : -1 ≤ a) :
 Calls Tryz.prog 243 #[.pointer (some ⟨cb,0,none⟩),.int .i64 a,.int .i64 i] w fun y w'=>y = .returned (.bool (Ch.isAbove (Ch.sts l) a i)) ∧ w' = w:=by
 obtain ⟨ao,cap,rfl⟩:=hF.2.1.len;have zc:=hF.cell
 by_cases h0 : a < 0
 ·have HR:=hid (show Ch.isAbove (Ch.sts l) a i = true by rw [show a = -1 by omega];exact Ch.abv_doc hu (by omega) (by omega))
  clear hF
  go_enter Tryz.func243,Tryz.ntmps243
  go_wp2;go_ret;rw [HR.out];exact ⟨rfl,rfl⟩
 have hi' : (i : Int) < (l.length : Int):=by omega
 obtain ⟨x,hx⟩ : ∃ x,l[i]? = some x:=⟨_,List.getElem?_eq_getElem hi⟩
 obtain ⟨g,cap',hv,_,hcell,_⟩:=hF.2.1.form hx;simp only [Value.slice.injEq] at hv;obtain ⟨rfl,-,rfl⟩:=hv;have z2 : w.cell? ⟨g,i * 7 + 2,none⟩ = some (.int .i64 x.n.parent):=hcell 2 (by omega);have hst:=Ch.abv_step hu a (i:=(i : Int)) (by omega);rw [Ch.sts_par hx] at hst;have hp:=hu i ⟨x.n.name,x.n.pos,x.n.kind,x.n.parent⟩ (by unfold Ch.sts Ch.mk;rw [List.getElem?_map,List.getElem?_map,hx];rfl);simp only at hp;have HST:=hid hst;have HF:=hid hF;clear hF hcell hst
 go_enter Tryz.func243,Tryz.ntmps243
 go_wp2_with fail
 go_loop [7] (fun jv=>∃ p : Int,jv = .int .i64 p ∧ -1 ≤ p ∧ p < l.length ∧ Hid (Ch.isAbove (Ch.sts l) a i = (p == a || Ch.isAbove (Ch.sts l) a p))) (fun jv=>(intOf jv + 1).toNat)
 case atStart=>exact ⟨x.n.parent,rfl,hp.1,by omega,HST⟩
 case round =>
  obtain ⟨p,rfl,hp1,hp2,HE⟩:=hrel
  by_cases hp0 : 0 ≤ p
  ·obtain ⟨k,rfl⟩ : ∃ k : Nat,p = k:=⟨p.toNat,by omega⟩
   have hk : k < l.length:=by omega
   obtain ⟨y,hy⟩ : ∃ y,l[k]? = some y:=⟨_,List.getElem?_eq_getElem hk⟩
   obtain ⟨g3,cap3,hv3,_,hcell3,_⟩:=HF.out.2.1.form hy;simp only [Value.slice.injEq,Option.some.injEq,Addr.mk.injEq,true_and,and_true] at hv3;obtain ⟨rfl,rfl⟩:=hv3;have zk : w.cell? ⟨g,k * 7 + 2,none⟩ = some (.int .i64 y.n.parent):=hcell3 2 (by omega);have hst:=Ch.abv_step hu a (i:=(k : Int)) (by omega);rw [Ch.sts_par hy] at hst;have hpy:=hu k ⟨y.n.name,y.n.pos,y.n.kind,y.n.parent⟩ (by unfold Ch.sts Ch.mk;rw [List.getElem?_map,List.getElem?_map,hy];rfl);simp only at hpy
   cases q : (k : Int) == a with
   | true =>
     have HR:=hid (show Ch.isAbove (Ch.sts l) a i = true by rw [HE.out,q];rfl);clear hst hcell3 HE;go_wp2;go_ret;rw [HR.out];exact ⟨rfl,rfl⟩
   | false=>?_
   have HR:=hid (show Ch.isAbove (Ch.sts l) a i = (y.n.parent == a || Ch.isAbove (Ch.sts l) a y.n.parent) by rw [HE.out,q,Bool.false_or,hst]);clear hst hcell3 HE;go_wp2
   go_round
   case rel=>exact ⟨y.n.parent,rfl,hpy.1,by omega,HR⟩
   case measure=>simp [intOf];omega
  have HR:=hid (show Ch.isAbove (Ch.sts l) a i = false by
   rw [HE.out,Ch.abv_neg _ _ (by omega),Bool.or_false]
   have : p ≠ a:=by omega
   simpa using this)
  clear HE;go_wp2;go_ret;rw [HR.out];exact ⟨rfl,rfl⟩
end
end Go.Proofs.YtnlbchmfcebeeaaGreat
