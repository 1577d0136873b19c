import Derived.Test.YtnlbchmfcebeeaaGreatTC2
set_option maxHeartbeats 12800000
set_option maxRecDepth 100000
namespace Go.Proofs.YtnlbchmfcebeeaaGreat
open Go.RowKit
namespace Ch
def allK (p : Nat → Bool) (k : Nat) : Bool:=(List.range k).all p
def anyK (p : Nat → Bool) (k : Nat) : Bool:=(List.range k).any p
theorem allK_succ (p : Nat → Bool) (k : Nat) : allK p (k + 1) = (allK p k && p k):=by unfold allK;rw [List.range_succ,List.all_append];simp
theorem anyK_succ (p : Nat → Bool) (k : Nat) : anyK p (k + 1) = (anyK p k || p k):=by unfold anyK;rw [List.range_succ,List.any_append];simp
theorem allK_no {p : Nat → Bool} {k n : Nat} (hk : k < n) (h : p k = false) : allK p n = false:=by unfold allK;rw [List.all_eq_false];exact ⟨k,by simpa using hk,by simp [h]⟩
theorem anyK_yes {p : Nat → Bool} {k n : Nat} (hk : k < n) (h : p k = true) : anyK p n = true:=by unfold anyK;rw [List.any_eq_true];exact ⟨k,by simpa using hk,h⟩
def kept (ss : List St) (stayed : List Bool) (parent : Int) : Bool:=anyK (fun i=>has stayed (i : Int) && isChild ss i parent) ss.length
def finP (ss : List St) (l : List Bool) (st : Int) (i : Nat) : Bool:=(kindAt ss i == 4) && (parAt ss i == st) && has l (i : Int)
def hasFin (ss : List St) (l : List Bool) (st : Int) : Bool:=anyK (finP ss l st) ss.length
def atEndF (ss : List St) (l : List Bool) : Nat → Int → Bool
 | 0,_=>false
 | f + 1,st=>if kindAt ss st == 2 then hasFin ss l st else if kindAt ss st == 3 then allK (fun i=>!isChild ss i st || atEndF ss l f (i : Int)) ss.length else false
def atEnd (ss : List St) (l : List Bool) (st : Int) : Bool:=atEndF ss l (ss.length + 2) st
end Ch
section
variable (w : World) (mb ob po : Nat) (s : Ch.Sd) (qv ov : Value) (ol : Ch.Ol)
theorem kept_any (sb so : Nat) (pre : List Value) (l : List Bool) (post : List Value) (T : TypeId) (parent : Int) (hm : MaB w mb ob po s qv ov) (hp : Pl w ob po ol) (hl : ol.sts.length ≤ 16) (hL : SeB w sb pre l post T) (h16 : l.length = 16) (hso : pre.length = so) :
 Calls Tryz.prog 164 #[.pointer (some ⟨mb,0,none⟩),.int .i64 parent,.pointer (some ⟨sb,so,none⟩)] w fun x w'=>x = .returned (.bool (Ch.kept ol.sts l parent)) ∧ w' = w:=by
 have cp:=hm.plan;have hS:=hp.str;obtain ⟨ao,cap,c2⟩:=hS.len
 go_enter Tryz.func164,Tryz.ntmps164
 go_wp2_with fail
 go_loop [7] (fun i=>∃ k : Nat,i = .int .i64 k ∧ k ≤ ol.sts.length ∧ Hid (Ch.anyK (fun i=>Ch.has l (i : Int) && Ch.isChild ol.sts i parent) k = false)) (fun i=>ol.sts.length - (intOf i).toNat)
 case atStart=>exact ⟨0,rfl,Nat.zero_le _,hid rfl⟩
 case round =>
  obtain ⟨k,rfl,hk,HA⟩:=hrel
  by_cases hlt : k < ol.sts.length
  ·have hlt' : (k : Int) < (ol.sts.length : Int):=by omega
   have E1:=hid (has_any w sb so pre l post T k hL h16 hso);have E2:=hid (isChild_any ob po w ol.sts k parent hS (by omega))
   cases q1 : Ch.has l (k : Int) with
   | false =>
     have HF:=hid (show Ch.anyK (fun i=>Ch.has l (i : Int) && Ch.isChild ol.sts i parent) (k + 1) = false by rw [Ch.anyK_succ,HA.out,q1];rfl);rw [q1] at E1;clear HA hm hp hS hL
     go_wp2_with fail
     refine cMo E1 ?_;rintro x w1 ⟨rfl,rfl⟩;go_wp2
     go_round
     case rel=>exact ⟨k + 1,by go_num,by omega,HF⟩
     case measure=>simp [intOf];omega
   | true=>?_
   rw [q1] at E1
   cases q2 : Ch.isChild ol.sts k parent with
   | false =>
     have HF:=hid (show Ch.anyK (fun i=>Ch.has l (i : Int) && Ch.isChild ol.sts i parent) (k + 1) = false by rw [Ch.anyK_succ,HA.out,q1,q2];rfl);rw [q2] at E2;clear HA hm hp hS hL
     go_wp2_with fail
     refine cMo E1 ?_;rintro x w1 ⟨rfl,rfl⟩
     go_wp2_with fail
     refine cMo E2 ?_;rintro x w1 ⟨rfl,rfl⟩;go_wp2
     go_round
     case rel=>exact ⟨k + 1,by go_num,by omega,HF⟩
     case measure=>simp [intOf];omega
   | true=>?_
   have HF:=hid (show Ch.kept ol.sts l parent = true from Ch.anyK_yes hlt (by rw [q1,q2];rfl));rw [q2] at E2;clear HA hm hp hS hL
   go_wp2_with fail
   refine cMo E1 ?_;rintro x w1 ⟨rfl,rfl⟩
   go_wp2_with fail
   refine cMo E2 ?_;rintro x w1 ⟨rfl,rfl⟩;go_wp2;go_ret;exact ⟨by rw [HF.out];rfl,rfl⟩
  have hge : ¬ (k : Int) < (ol.sts.length : Int):=by omega
  obtain rfl : k = ol.sts.length:=by omega
  have HF:=hid (show Ch.kept ol.sts l parent = false from HA.out);clear HA hm hp hS hL
  go_wp2_with fail
  go_ret;exact ⟨by rw [HF.out];rfl,rfl⟩
theorem hasFin_any (st : Int) (hm : MaB w mb ob po s qv ov) (hw : s.Wf) (hp : Pl w ob po ol) (hl : ol.sts.length ≤ 16) :
 Calls Tryz.prog 253 #[.pointer (some ⟨mb,0,none⟩),.int .i64 st] w fun x w'=>x = .returned (.bool (Ch.hasFin ol.sts s.act st)) ∧ w' = w:=by
 have cp:=hm.plan;have hS:=hp.str
 go_enter Tryz.func253,Tryz.ntmps253
 go_wp2_with fail
 go_loop [5] (fun i=>∃ k : Nat,i = .int .i64 k ∧ k ≤ ol.sts.length ∧ Hid (Ch.anyK (Ch.finP ol.sts s.act st) k = false)) (fun i=>ol.sts.length - (intOf i).toNat)
 case atStart=>exact ⟨0,rfl,Nat.zero_le _,hid rfl⟩
 case round =>
  obtain ⟨k,rfl,hk,HA⟩:=hrel
  by_cases hlt : k < ol.sts.length
  ·have hlt' : (k : Int) < (ol.sts.length : Int):=by omega
   obtain ⟨t,hs⟩ : ∃ s,ol.sts[k]? = some s:=⟨_,List.getElem?_eq_getElem hlt⟩
   obtain ⟨g,cap,c2,a0,a1,a2,a3⟩:=hS.at_ hs
   have hP : Ch.finP ol.sts s.act st k = ((t.kind == 4) && (t.parent == st) && Ch.has s.act (k : Int)):=by simp [Ch.finP,Ch.kindAt,Ch.parAt,Ch.stAt_nat,hs]
   have E1:=hid (has_any w mb 1 [.pointer (some ⟨ob,po,none⟩)] s.act (sdTail s ++ [qv,ov]) 149 k hm hw.1 rfl)
   have no : Ch.finP ol.sts s.act st k = false → Ch.anyK (Ch.finP ol.sts s.act st) (k + 1) = false:=fun q=>by rw [Ch.anyK_succ,HA.out,q];rfl
   cases q1 : t.kind == 4 with
   | false =>
     have HF:=hid (no (by rw [hP,q1];rfl));clear HA hm hp hS hs hP no
     go_wp2_with fail
     go_round
     case rel=>exact ⟨k + 1,by go_num,by omega,HF⟩
     case measure=>simp [intOf];omega
   | true=>?_
   cases q2 : t.parent == st with
   | false =>
     have HF:=hid (no (by rw [hP,q1,q2];rfl));clear HA hm hp hS hs hP no
     go_wp2_with fail
     go_round
     case rel=>exact ⟨k + 1,by go_num,by omega,HF⟩
     case measure=>simp [intOf];omega
   | true=>?_
   cases q3 : Ch.has s.act (k : Int) with
   | false =>
     have HF:=hid (no (by rw [hP,q1,q2,q3];rfl));rw [q3] at E1;clear HA hm hp hS hs hP no
     go_wp2_with fail
     refine cMo E1 ?_;rintro x w1 ⟨rfl,rfl⟩;go_wp2
     go_round
     case rel=>exact ⟨k + 1,by go_num,by omega,HF⟩
     case measure=>simp [intOf];omega
   | true=>?_
   have HF:=hid (show Ch.hasFin ol.sts s.act st = true from Ch.anyK_yes hlt (by rw [hP,q1,q2,q3];rfl));rw [q3] at E1;clear HA hm hp hS hs hP no
   go_wp2_with fail
   refine cMo E1 ?_;rintro x w1 ⟨rfl,rfl⟩;go_wp2;go_ret;exact ⟨by rw [HF.out];rfl,rfl⟩
  have hge : ¬ (k : Int) < (ol.sts.length : Int):=by omega
  obtain rfl : k = ol.sts.length:=by omega
  have HF:=hid (show Ch.hasFin ol.sts s.act st = false from HA.out);obtain ⟨ao,cap,c2⟩:=hS.len;clear HA hm hp hS
  go_wp2_with fail
  go_ret;exact ⟨by rw [HF.out];rfl,rfl⟩
theorem areAll_any (f : Nat) (st : Int) (hm : MaB w mb ob po s qv ov) (hp : Pl w ob po ol) (hl : ol.sts.length ≤ 16)
 (IH : ∀ i : Nat,i < ol.sts.length → Ch.isChild ol.sts i st = true → Calls Tryz.prog 219 #[.pointer (some ⟨mb,0,none⟩),.int .i64 i] w fun x w'=>x = .returned (.bool (Ch.atEndF ol.sts s.act f i)) ∧ w' = w) :
 Calls Tryz.prog 254 #[.pointer (some ⟨mb,0,none⟩),.int .i64 st] w fun x w'=>x = .returned (.bool (Ch.allK (fun i=>!Ch.isChild ol.sts i st || Ch.atEndF ol.sts s.act f (i : Int)) ol.sts.length)) ∧ w' = w:=by
 have cp:=hm.plan;have hS:=hp.str;obtain ⟨ao,cap,c2⟩:=hS.len
 go_enter Tryz.func254,Tryz.ntmps254
 go_wp2_with fail
 go_loop [5] (fun i=>∃ k : Nat,i = .int .i64 k ∧ k ≤ ol.sts.length ∧ Hid (Ch.allK (fun i=>!Ch.isChild ol.sts i st || Ch.atEndF ol.sts s.act f (i : Int)) k = true)) (fun i=>ol.sts.length - (intOf i).toNat)
 case atStart=>exact ⟨0,rfl,Nat.zero_le _,hid rfl⟩
 case round =>
  obtain ⟨k,rfl,hk,HA⟩:=hrel
  by_cases hlt : k < ol.sts.length
  ·have hlt' : (k : Int) < (ol.sts.length : Int):=by omega
   have E1:=hid (isChild_any ob po w ol.sts k st hS (by omega))
   cases q1 : Ch.isChild ol.sts k st with
   | false =>
     have HF:=hid (show Ch.allK (fun i=>!Ch.isChild ol.sts i st || Ch.atEndF ol.sts s.act f (i : Int)) (k + 1) = true by rw [Ch.allK_succ,HA.out,q1];rfl);rw [q1] at E1;clear HA hm hp hS IH
     go_wp2_with fail
     refine cMo E1 ?_;rintro x w1 ⟨rfl,rfl⟩;go_wp2
     go_round
     case rel=>exact ⟨k + 1,by go_num,by omega,HF⟩
     case measure=>simp [intOf];omega
   | true=>?_
   have E2:=hid (IH k hlt q1);rw [q1] at E1
   cases q2 : Ch.atEndF ol.sts s.act f (k : Int) with
   | true =>
     have HF:=hid (show Ch.allK (fun i=>!Ch.isChild ol.sts i st || Ch.atEndF ol.sts s.act f (i : Int)) (k + 1) = true by rw [Ch.allK_succ,HA.out,q1,q2];rfl);rw [q2] at E2;clear HA hm hp hS IH
     go_wp2_with fail
     refine cMo E1 ?_;rintro x w1 ⟨rfl,rfl⟩
     go_wp2_with fail
     refine cMo E2 ?_;rintro x w1 ⟨rfl,rfl⟩;go_wp2
     go_round
     case rel=>exact ⟨k + 1,by go_num,by omega,HF⟩
     case measure=>simp [intOf];omega
   | false=>?_
   have HF:=hid (show Ch.allK (fun i=>!Ch.isChild ol.sts i st || Ch.atEndF ol.sts s.act f (i : Int)) ol.sts.length = false from Ch.allK_no hlt (by rw [q1,q2];rfl));rw [q2] at E2;clear HA hm hp hS IH
   go_wp2_with fail
   refine cMo E1 ?_;rintro x w1 ⟨rfl,rfl⟩
   go_wp2_with fail
   refine cMo E2 ?_;rintro x w1 ⟨rfl,rfl⟩;go_wp2;go_ret;exact ⟨by rw [HF.out];rfl,rfl⟩
  have hge : ¬ (k : Int) < (ol.sts.length : Int):=by omega
  obtain rfl : k = ol.sts.length:=by omega
  clear hm hp hS IH
  go_wp2_with fail
  go_ret;exact ⟨by rw [HA.out];rfl,rfl⟩
theorem atEndF_any (hm : MaB w mb ob po s qv ov) (hw : s.Wf) (hp : Pl w ob po ol) (hU : Ch.Up ol.sts) (hl : ol.sts.length ≤ 16) : ∀ (f : Nat) (st : Int),(ol.sts.length : Int) < st + f → st ≤ ol.sts.length →
 Calls Tryz.prog 219 #[.pointer (some ⟨mb,0,none⟩),.int .i64 st] w fun x w'=>x = .returned (.bool (Ch.atEndF ol.sts s.act f st)) ∧ w' = w:=by
 intro f
 induction f with
 | zero=>intro st h1 h2;omega
 | succ f ih=>?_
 intro st h1 h2;have cp:=hm.plan;have E1:=hid (kind_any ob po w ol.sts st hp.str (by omega));have E2:=hid (hasFin_any w mb ob po s qv ov ol st hm hw hp hl)
 have E3:=hid (areAll_any w mb ob po s qv ov ol f st hm hp hl (fun i hi hc=>ih i (by
  have : st < (i : Int):=by
   obtain ⟨t,ht⟩ : ∃ t,ol.sts[i]? = some t:=⟨_,List.getElem?_eq_getElem hi⟩
   have:=hU i t ht;simp [Ch.isChild,Ch.stAt_nat,ht] at hc;omega
  omega) (by omega)))
 clear ih
 cases q1 : Ch.kindAt ol.sts st == 2 with
 | true =>
   rw [show Ch.atEndF ol.sts s.act (f + 1) st = Ch.hasFin ol.sts s.act st by simp only [Ch.atEndF];rw [q1];rfl];clear hm hp E3
   go_enter Tryz.func219,Tryz.ntmps219
   go_wp2_with fail
   refine cMo E1 ?_;rintro x w1 ⟨rfl,rfl⟩
   go_wp2_with fail
   refine cMo E2 ?_;rintro x w1 ⟨rfl,rfl⟩;go_wp2;go_ret;exact ⟨rfl,rfl⟩
 | false=>?_
 cases q2 : Ch.kindAt ol.sts st == 3 with
 | true =>
   rw [show Ch.atEndF ol.sts s.act (f + 1) st = Ch.allK (fun i=>!Ch.isChild ol.sts i st || Ch.atEndF ol.sts s.act f (i : Int)) ol.sts.length by simp only [Ch.atEndF];rw [q1,q2];rfl];clear hm hp E2
   go_enter Tryz.func219,Tryz.ntmps219
   go_wp2_with fail
   refine cMo E1 ?_;rintro x w1 ⟨rfl,rfl⟩
   go_wp2_with fail
   refine cMo E3 ?_;rintro x w1 ⟨rfl,rfl⟩;go_wp2;go_ret;exact ⟨rfl,rfl⟩
 | false=>?_
 rw [show Ch.atEndF ol.sts s.act (f + 1) st = false by simp only [Ch.atEndF];rw [q1,q2];rfl];clear hm hp E2 E3
 go_enter Tryz.func219,Tryz.ntmps219
 go_wp2_with fail
 refine cMo E1 ?_;rintro x w1 ⟨rfl,rfl⟩;go_wp2;go_ret;exact ⟨rfl,rfl⟩
theorem atEnd_any (st : Int) (hm : MaB w mb ob po s qv ov) (hw : s.Wf) (hp : Pl w ob po ol) (hU : Ch.Up ol.sts) (hl : ol.sts.length ≤ 16) (h1 : -1 ≤ st) (h2 : st ≤ ol.sts.length) :
 Calls Tryz.prog 219 #[.pointer (some ⟨mb,0,none⟩),.int .i64 st] w fun x w'=>x = .returned (.bool (Ch.atEnd ol.sts s.act st)) ∧ w' = w :=
 atEndF_any w mb ob po s qv ov ol hm hw hp hU hl _ st (by omega) h2
end
namespace Ch
def tellEnd (ss : List St) (m : Ma) (st : Int) : Ma :=
 if st == -1 then m
 else if (kindAt ss (parAt ss st) == 3) && atEnd ss m.s.act (parAt ss st) then { m with q:=m.q ++ [nmAt ss st.toNat] ++ [nmAt ss (parAt ss st).toNat] }
 else { m with q:=m.q ++ [nmAt ss st.toNat] }
def setAct (m : Ma) (i : Int) (v : Bool) : Ma:={ m with s:={ m.s with act:=putB m.s.act i v } }
def enterSt (ol : Ol) (m : Ma) (i : Nat) : Ma :=
 if kindAt ol.sts i == 4 then tellEnd ol.sts (doBls i 94 ol.bls (setAct m i true)) (parAt ol.sts i) else doBls i 94 ol.bls (setAct m i true)
def leaveF (ol : Ol) (left : List Bool) : Nat → Ma → Ma
 | 0,m=>m
 | k + 1,m=>leaveF ol left k (if has left (k : Int) then setAct (doBls k 36 ol.bls m) k false else m)
theorem setAct_ok {m : Ma} (h : m.s.Ok) (i : Int) (v : Bool) : (setAct m i v).s.Ok:=by
 obtain ⟨⟨h0,h1⟩,h2⟩:=h;exact ⟨⟨by show (putB m.s.act i v).length = 16;rw [putB_len];exact h0,h1⟩,h2⟩
theorem tellEnd_s (ss : List St) (m : Ma) (st : Int) : (tellEnd ss m st).s = m.s ∧ (tellEnd ss m st).out = m.out ∧ (tellEnd ss m st).q.length ≤ m.q.length + 2:=by
 unfold tellEnd
 split
 ·simp
 split <;> simp
theorem doBls_sz' {ol : Ol} (hol : ol.Ok) (state sign : Int) {m : Ma} {n : Nat} (h : m.Sz n) : (doBls state sign ol.bls m).Sz (n + 115200):=by
 have h1:=doBls_sz state sign ol.bls h (fun b hb=>(hol.bla b hb).1);have h2:=hol.bls;unfold Ma.Sz at *;omega
theorem enterSt_ok {ol : Ol} {m : Ma} (h : m.s.Ok) (i : Nat) : (enterSt ol m i).s.Ok:=by
 unfold enterSt
 split
 ·rw [(tellEnd_s _ _ _).1];exact doBls_ok _ _ _ (setAct_ok h _ _)
 exact doBls_ok _ _ _ (setAct_ok h _ _)
theorem enterSt_sz {ol : Ol} (hol : ol.Ok) {m : Ma} {n : Nat} (h : m.Sz n) (i : Nat) : (enterSt ol m i).Sz (n + 115202):=by
 have h1:=doBls_sz' hol i 94 (m:=setAct m i true) (n:=n) h;unfold enterSt
 split
 ·have h2:=tellEnd_s ol.sts (doBls i 94 ol.bls (setAct m i true)) (parAt ol.sts i)
  unfold Ma.Sz at *;rw [h2.2.1];omega
 unfold Ma.Sz at *;omega
theorem kind_in {ss : List St} {i : Int} (h : (kindAt ss i == 3) = true) : ∃ (k : Nat) (s : St),i = k ∧ ss[k]? = some s ∧ k < ss.length:=by
 unfold kindAt at h
 cases q : stAt ss i with
 | none=>rw [q] at h;simp at h
 | some s=>obtain ⟨k,e,hs,hk⟩:=stAt_some q;exact ⟨k,s,e,hs,hk⟩
end Ch
theorem Mm.put {w w' : World} {B mb ob po : Nat} {s s' : Ch.Sd} {qv ov : Value} {q out : List Int} (hm : MaB w mb ob po s qv ov) (oq : OwnsQ w B qv (byCells q)) (oo : OwnsQ w B ov (byCells out)) (ap : Apart qv ov)
 (k : Kp (fun k=>k = mb) w w') (h' : MaB w' mb ob po s' qv ov) : Mm w' B mb ob po ⟨s',q,out⟩ ∧ Kp (km B mb w) w w':=by
 have n1:=oq.ne hm (by decide);have n2:=oo.ne hm (by decide);exact ⟨⟨qv,ov,h',oq.keep k (fun i hi x=>by subst x;exact n1 hi),oo.keep k (fun i hi x=>by subst x;exact n2 hi),ap⟩,(Kp.refl _ _).trans' k (fun i _ x=>.inl x)⟩
theorem Mm.plan {w : World} {B mb ob po : Nat} {m : Ch.Ma} (h : Mm w B mb ob po m) : w.cell? ⟨mb,0,none⟩ = some (.pointer (some ⟨ob,po,none⟩)):=by
 obtain ⟨qv,ov,hm,_⟩:=h;exact hm.plan
section
variable (w : World) (B mb ob po : Nat) (ol : Ch.Ol)
theorem tellEnd_any (m : Ch.Ma) (st : Int) (hp : Pl w ob po ol) (hol : ol.Ok) (h : Mm w B mb ob po m) (hs : m.s.Ok) (hB : B ≤ w.heap.size) (hz : m.Sz 950000000) (h1 : -1 ≤ st) (h2 : st < ol.sts.length) :
 Calls Tryz.prog 168 #[.pointer (some ⟨mb,0,none⟩),.int .i64 st] w fun x w'=>x = .returned (.tuple #[]) ∧ Mm w' B mb ob po (Ch.tellEnd ol.sts m st) ∧ Kp (km B mb w) w w':=by
 cases q1 : st == -1 with
 | true =>
   rw [show Ch.tellEnd ol.sts m st = m by unfold Ch.tellEnd;rw [q1];rfl]
   go_enter Tryz.func168,Tryz.ntmps168
   go_wp2;refine bodyPost_ret (results_none rfl _ _ _) rfl ?_;exact ⟨rfl,h,Kp.refl _ _⟩
 | false=>?_
 have q1' : st ≠ -1:=by simpa using q1
 obtain ⟨k,rfl⟩ : ∃ k : Nat,st = k:=⟨st.toNat,by omega⟩
 have hk : k < ol.sts.length:=by omega
 obtain ⟨t,ht⟩ : ∃ s,ol.sts[k]? = some s:=⟨_,List.getElem?_eq_getElem hk⟩
 have hkl : (k : Int) < (ol.sts.length : Int):=by omega
 have cp:=h.plan;obtain ⟨g,cap,c2,a0,a1,a2,a3⟩:=hp.str.at_ ht;have hz1:=hz.1;have hl16:=hol.sts
 have hnm : Ch.nmAt ol.sts (k : Int).toNat = t.name:=by simp [Ch.nmAt,ht]
 have E1:=hid (raise_any w B mb ob po m t.name h hs.1 hB (by omega));have hlo:=Ch.par_low hol.up (k : Int);have hlt:=Ch.par_lt hol.up (i:=(k : Int)) (by omega)
 cases q2 : Ch.kindAt ol.sts (Ch.parAt ol.sts k) == 3 with
 | false =>
   rw [show Ch.tellEnd ol.sts m k = { m with q:=m.q ++ [t.name] } by unfold Ch.tellEnd;rw [q1,q2,hnm];rfl];have HH:=hid (And.intro h hp);clear h hp
   go_enter Tryz.func168,Tryz.ntmps168
   go_wp2_with fail
   refine cMo E1 ?_;rintro x w1 ⟨rfl,M1,K1⟩;have hp1:=HH.out.1.pl K1 HH.out.2;have cp1:=M1.plan;have E2:=hid (parent_any ob po w1 ol.sts k hp1.str (by omega));have E3:=hid (kind_any ob po w1 ol.sts (Ch.parAt ol.sts k) hp1.str (by omega));clear E1 HH a0 a1 a2 a3 c2 cp hp1
   go_wp2_with fail
   refine cMo E2 ?_;rintro x w2 ⟨rfl,rfl⟩
   go_wp2_with fail
   refine cMo E3 ?_;rintro x w2 ⟨rfl,rfl⟩;go_wp2
   go_end0
   exact ⟨rfl,M1,K1⟩
 | true=>?_
 obtain ⟨kp,tp,ep,htp,hkp⟩:=Ch.kind_in q2
 have hkpl : (kp : Int) < (ol.sts.length : Int):=by omega
 cases q3 : Ch.atEnd ol.sts m.s.act (Ch.parAt ol.sts k) with
 | false =>
   rw [show Ch.tellEnd ol.sts m k = { m with q:=m.q ++ [t.name] } by unfold Ch.tellEnd;rw [q1,q2,q3,hnm];rfl];have HH:=hid (And.intro h hp);clear h hp ep
   go_enter Tryz.func168,Tryz.ntmps168
   go_wp2_with fail
   refine cMo E1 ?_;rintro x w1 ⟨rfl,M1,K1⟩;have hp1:=HH.out.1.pl K1 HH.out.2;have cp1:=M1.plan;have E2:=hid (parent_any ob po w1 ol.sts k hp1.str (by omega));have E3:=hid (kind_any ob po w1 ol.sts (Ch.parAt ol.sts k) hp1.str (by omega));obtain ⟨qv,ov,hm1,_⟩:=id M1;have E4:=hid (atEnd_any w1 mb ob po m.s qv ov ol (Ch.parAt ol.sts k) hm1 hs.1 hp1 hol.up hol.sts hlo (by omega));rw [q3] at E4;clear E1 HH a0 a1 a2 a3 c2 cp hp1 hm1
   go_wp2_with fail
   refine cMo E2 ?_;rintro x w2 ⟨rfl,rfl⟩
   go_wp2_with fail
   refine cMo E3 ?_;rintro x w2 ⟨rfl,rfl⟩
   go_wp2_with fail
   refine cMo E4 ?_;rintro x w2 ⟨rfl,rfl⟩;go_wp2
   go_end0
   exact ⟨rfl,M1,K1⟩
 | true=>?_
 rw [show Ch.tellEnd ol.sts m k = { m with q:=m.q ++ [t.name] ++ [tp.name] } by unfold Ch.tellEnd;rw [q1,q2,q3,hnm,ep];simp [Ch.nmAt,htp]];have HH:=hid (And.intro h hp);have EP:=hid ep;clear h hp ep
 go_enter Tryz.func168,Tryz.ntmps168
 go_wp2_with fail
 refine cMo E1 ?_;rintro x w1 ⟨rfl,M1,K1⟩;have hp1:=HH.out.1.pl K1 HH.out.2;have cp1:=M1.plan;have E2:=hid (parent_any ob po w1 ol.sts k hp1.str (by omega));have E3:=hid (kind_any ob po w1 ol.sts (Ch.parAt ol.sts k) hp1.str (by omega));obtain ⟨qv,ov,hm1,_⟩:=id M1;have E4:=hid (atEnd_any w1 mb ob po m.s qv ov ol (Ch.parAt ol.sts k) hm1 hs.1 hp1 hol.up hol.sts hlo (by omega));rw [q3] at E4;rw [EP.out] at E2 E3 E4 q2;clear EP;obtain ⟨g',cap',c2',b0,b1,b2,b3⟩:=hp1.str.at_ htp;have E5:=hid (raise_any w1 B mb ob po { m with q:=m.q ++ [t.name] } tp.name M1 hs.1 (by have:=K1.size;omega) (by simp;omega));clear E1 HH a0 a1 a2 a3 c2 cp hp1 hm1
 go_wp2_with fail
 refine cMo E2 ?_;rintro x w2 ⟨rfl,rfl⟩
 go_wp2_with fail
 refine cMo E3 ?_;rintro x w2 ⟨rfl,rfl⟩
 go_wp2_with fail
 refine cMo E4 ?_;rintro x w2 ⟨rfl,rfl⟩
 go_wp2_with fail
 refine cMo E5 ?_;rintro x w5 ⟨rfl,M5,K5⟩;have K6:=Km.trans K1 K5;clear E5 M1 K1 K5 b0 b1 b2 b3 c2' cp1;go_wp2
 go_end0
 exact ⟨rfl,M5,K6⟩
theorem enterState_any (m : Ch.Ma) (k : Nat) (hp : Pl w ob po ol) (hol : ol.Ok) (h : Mm w B mb ob po m) (hs : m.s.Ok) (hB : B ≤ w.heap.size) (hz : m.Sz 900000000) (hk : k < ol.sts.length) :
 Calls Tryz.prog 118 #[.pointer (some ⟨mb,0,none⟩),.int .i64 k] w fun x w'=>x = .returned (.tuple #[]) ∧ Mm w' B mb ob po (Ch.enterSt ol m k) ∧ Kp (km B mb w) w w':=by
 obtain ⟨t,ht⟩ : ∃ s,ol.sts[k]? = some s:=⟨_,List.getElem?_eq_getElem hk⟩
 have hkl : (k : Int) < (ol.sts.length : Int):=by omega
 have hkd : Ch.kindAt ol.sts k = t.kind:=by simp [Ch.kindAt,Ch.stAt_nat,ht]
 have hpa : Ch.parAt ol.sts k = t.parent:=by simp [Ch.parAt,Ch.stAt_nat,ht]
 have hup:=hol.up k t ht;obtain ⟨qv,ov,hm,oq,oo,ap⟩:=id h;have E1:=hid (put_any w mb 1 [.pointer (some ⟨ob,po,none⟩)] m.s.act (sdTail m.s ++ [qv,ov]) 149 k hm hs.1.1 rfl);have HH:=hid (And.intro h (And.intro hp (And.intro hm (And.intro oq (And.intro oo ap)))));have hz2:=Ch.doBls_sz' hol k 94 (m:=Ch.setAct m k true) (n:=900000000) hz;have hok1:=Ch.setAct_ok hs (k : Int) true;have hok2:=Ch.doBls_ok (k : Int) 94 ol.bls hok1;clear h hp hm oq oo ap
 cases q1 : t.kind == 4 with
 | false =>
   rw [show Ch.enterSt ol m k = Ch.doBls k 94 ol.bls (Ch.setAct m k true) by unfold Ch.enterSt;rw [hkd,q1];rfl]
   go_enter Tryz.func118,Tryz.ntmps118
   go_wp2_with fail
   refine cMo E1 ?_;rintro x w1 ⟨rfl,h1,K1⟩;obtain ⟨h,hp,hm,oq,oo,ap⟩:=HH.out;obtain ⟨M1,KM1⟩:=Mm.put (s':=(Ch.setAct m k true).s) hm oq oo ap K1 (by exact h1);have hp1:=h.pl KM1 hp;have E2:=hid (doBlocks_any w1 B mb ob po (Ch.setAct m k true) ol k 94 hp1 hol M1 hok1 (by have:=KM1.size;omega) ⟨by have:=hz.1;show m.q.length ≤ _;omega,by have:=hz.2;show m.out.length ≤ _;omega⟩);have HM:=hid M1;clear h hp hm oq oo ap HH E1 h1 K1 M1
   go_wp2_with fail
   refine cMo E2 ?_;rintro x w2 ⟨rfl,M2,K2⟩;have hp2:=HM.out.pl K2 hp1;have cp2:=M2.plan;obtain ⟨g,cap,c2,a0,a1,a2,a3⟩:=hp2.str.at_ ht;have KM2:=Km.trans KM1 K2;clear E2 HM K2 KM1 hp2 hp1;go_wp2
   go_end0
   exact ⟨rfl,M2,KM2⟩
 | true=>?_
 rw [show Ch.enterSt ol m k = Ch.tellEnd ol.sts (Ch.doBls k 94 ol.bls (Ch.setAct m k true)) t.parent by unfold Ch.enterSt;rw [hkd,q1,hpa];rfl]
 go_enter Tryz.func118,Tryz.ntmps118
 go_wp2_with fail
 refine cMo E1 ?_;rintro x w1 ⟨rfl,h1,K1⟩;obtain ⟨h,hp,hm,oq,oo,ap⟩:=HH.out;obtain ⟨M1,KM1⟩:=Mm.put (s':=(Ch.setAct m k true).s) hm oq oo ap K1 (by exact h1);have hp1:=h.pl KM1 hp;have E2:=hid (doBlocks_any w1 B mb ob po (Ch.setAct m k true) ol k 94 hp1 hol M1 hok1 (by have:=KM1.size;omega) ⟨by have:=hz.1;show m.q.length ≤ _;omega,by have:=hz.2;show m.out.length ≤ _;omega⟩);have HM:=hid M1;clear h hp hm oq oo ap HH E1 h1 K1 M1
 go_wp2_with fail
 refine cMo E2 ?_;rintro x w2 ⟨rfl,M2,K2⟩;have hp2:=HM.out.pl K2 hp1;have cp2:=M2.plan;obtain ⟨g,cap,c2,a0,a1,a2,a3⟩:=hp2.str.at_ ht;have KM2:=Km.trans KM1 K2;have E3:=hid (tellEnd_any w2 B mb ob po ol (Ch.doBls k 94 ol.bls (Ch.setAct m k true)) t.parent hp2 hol M2 hok2 (by have:=KM2.size;omega) ⟨by have:=hz2.1;omega,by have:=hz2.2;omega⟩ hup.1 (by omega));clear E2 HM K2 KM1 hp2 hp1 M2
 go_wp2_with fail
 refine cMo E3 ?_;rintro x w3 ⟨rfl,M3,K3⟩;have KM3:=Km.trans KM2 K3;clear E3 K3 KM2 a0 a1 a2 a3 c2 cp2;go_wp2
 go_end0
 exact ⟨rfl,M3,KM3⟩
end
section
variable (w : World) (B mb ob po : Nat) (ol : Ch.Ol)
theorem leave_any (m : Ch.Ma) (lb : Nat) (l : List Bool) (hL : SeB w lb [] l [] 91) (h16 : l.length = 16) (hp : Pl w ob po ol) (hol : ol.Ok) (h : Mm w B mb ob po m) (hs : m.s.Ok) (hB : B ≤ w.heap.size) (hz : m.Sz 900000000) :
 Calls Tryz.prog 133 #[.pointer (some ⟨mb,0,none⟩),.pointer (some ⟨lb,0,none⟩)] w fun x w'=>x = .returned (.tuple #[]) ∧ Mm w' B mb ob po (Ch.leaveF ol l ol.sts.length m) ∧ Kp (km B mb w) w w':=by
 have cp:=h.plan;obtain ⟨ao,cap,c2⟩:=hp.str.len;have hl16:=hol.sts;have hz1:=hz.1;have hz2:=hz.2
 go_enter Tryz.func133,Tryz.ntmps133
 go_wp2_with fail
 go_loopw [4] (fun i wr=>∃ (k : Nat) (m' : Ch.Ma),i = .int .i64 ((k : Int) - 1) ∧ k ≤ ol.sts.length ∧ Hid (Ch.leaveF ol l ol.sts.length m = Ch.leaveF ol l k m') ∧ Mm wr B mb ob po m' ∧ m'.s.Ok ∧ m'.Sz (900000000 + 115200 * (ol.sts.length - k)) ∧ Kp (km B mb w) w wr) (fun i _=>(intOf i + 1).toNat)
 case atStart=>exact ⟨ol.sts.length,m,by go_num,Nat.le_refl _,hid rfl,h,hs,⟨by omega,by omega⟩,Kp.refl _ _⟩
 case round =>
  obtain ⟨k,m',rfl,hk,HE,hm',hs',hz',KW⟩:=hrel;have hpr : Pl wr ob po ol:=h.pl KW hp;have hLr : SeB wr lb [] l [] 91:=h.at_ KW hL (by decide) (by decide)
  have hBr : B ≤ wr.heap.size:=by have:=KW.size;omega
  cases k with
  | zero =>
    have HF:=hid (HE.out.trans (show _ = m' from rfl));clear HE hpr hLr cp c2
    go_wp2_with fail
    go_end0
    rw [HF.out];exact ⟨rfl,hm',KW⟩
  | succ k=>?_
  have e1 : ((k + 1 : Nat) : Int) - 1 = k:=by omega
  rw [e1];have E1:=hid (has_any wr lb 0 [] l [] 91 k hLr h16 rfl)
  have hge : (0 : Int) ≤ (k : Int):=by omega
  cases q1 : Ch.has l (k : Int) with
  | false =>
    rw [q1] at E1;have HF:=hid (HE.out.trans (show _ = Ch.leaveF ol l k m' by simp only [Ch.leaveF];rw [q1];rfl));clear HE hpr hLr cp c2 e1
    go_wp2_with fail
    refine cMo E1 ?_;rintro x w1 ⟨rfl,rfl⟩;go_wp2
    go_roundw
    case rel=>exact ⟨k,m',by go_num,by omega,HF,hm',hs',⟨by have:=hz'.1;omega,by have:=hz'.2;omega⟩,KW⟩
    case measure=>simp [intOf]
  | true=>?_
  rw [q1] at E1;have HF:=hid (HE.out.trans (show _ = Ch.leaveF ol l k (Ch.setAct (Ch.doBls k 36 ol.bls m') k false) by simp only [Ch.leaveF];rw [q1];rfl))
  have hzb : m'.Sz 990000000:=⟨by have:=hz'.1;omega,by have:=hz'.2;omega⟩
  have E2:=hid (doBlocks_any wr B mb ob po m' ol k 36 hpr hol hm' hs' hBr hzb);have hz3:=Ch.doBls_sz' hol (k : Int) 36 hz';have hok:=Ch.doBls_ok (k : Int) 36 ol.bls hs';have hok2:=Ch.setAct_ok hok (k : Int) false;clear HE hpr hLr cp c2 e1 hm'
  go_wp2_with fail
  refine cMo E1 ?_;rintro x w1 ⟨rfl,rfl⟩
  go_wp2_with fail
  refine cMo E2 ?_;rintro x w2 ⟨rfl,M2,K2⟩;have K3:=Km.trans KW K2;obtain ⟨qv,ov,hm2,oq,oo,ap⟩:=id M2;have E3:=hid (drop_any w2 mb 1 [.pointer (some ⟨ob,po,none⟩)] (Ch.doBls k 36 ol.bls m').s.act (sdTail (Ch.doBls k 36 ol.bls m').s ++ [qv,ov]) 149 k hm2 hok.1.1 rfl);have HH:=hid (And.intro hm2 (And.intro oq (And.intro oo ap)));clear E1 E2 K2 M2 hm2 oq oo ap
  go_wp2_with fail
  refine cMo E3 ?_;rintro x w4 ⟨rfl,h4,K4⟩;obtain ⟨hm2,oq,oo,ap⟩:=HH.out;obtain ⟨M4,KM4⟩:=Mm.put (s':=(Ch.setAct (Ch.doBls k 36 ol.bls m') k false).s) hm2 oq oo ap K4 (by exact h4);have K5:=Km.trans K3 KM4;clear E3 HH hm2 oq oo ap h4 K4 KM4 K3;go_wp2
  go_roundw
  case rel=>exact ⟨k,_,by go_num,by omega,HF,M4,hok2,⟨by have:=hz3.1;show (Ch.doBls k 36 ol.bls m').q.length ≤ _;omega,by have:=hz3.2;show (Ch.doBls k 36 ol.bls m').out.length ≤ _;omega⟩,K5⟩
  case measure=>simp [intOf]
end
end Go.Proofs.YtnlbchmfcebeeaaGreat
