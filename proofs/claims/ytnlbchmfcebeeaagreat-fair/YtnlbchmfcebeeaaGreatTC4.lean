import Derived.Test.YtnlbchmfcebeeaaGreatTC2
set_option maxHeartbeats 12800000
set_option maxRecDepth 100000
namespace Go.Proofs.YtnlbchmfcebeeaaGreat
open Go.Proofs.Tryz Ch
open Go.RowKit
namespace Ch
def p_ (p : Nat -> Bool) (k : Nat) : Bool:=(List.range k).all p
def nH (p : Nat -> Bool) (k : Nat) : Bool:=(List.range k).any p
theorem uq (p : Nat -> Bool) (k : Nat) : p_ p (k + 1) = (p_ p k && p k):=by unfold p_;rw [List.range_succ,List.all_append];simp
theorem oP (p : Nat -> Bool) (k : Nat) : nH p (k + 1) = (nH p k || p k):=by unfold nH;rw [List.range_succ,List.any_append];simp
theorem Is {p : Nat -> Bool} {k n : Nat} (hk : k < n) (h : p k = false) : p_ p n = false:=by unfold p_;rw [List.all_eq_false];exact ⟨k,by simpa using hk,by simp [h]⟩
theorem xw {p : Nat -> Bool} {k n : Nat} (hk : k < n) (h : p k = true) : nH p n = true:=by unfold nH;rw [List.any_eq_true];exact ⟨k,by simpa using hk,h⟩
def kept (ss : List St) (aP : List Bool) (parent : Int) : Bool:=nH (fun i=>has aP (i : Int) && aw ss i parent) ss.length
def CJ (ss : List St) (l : List Bool) (st : Int) (i : Nat) : Bool:=(ay ss i == 4) && (aq ss i == st) && has l (i : Int)
def rE (ss : List St) (l : List Bool) (st : Int) : Bool:=nH (CJ ss l st) ss.length
def e_ (ss : List St) (l : List Bool) : Nat -> Int -> Bool
 | 0,_=>false
 | f + 1,st=>if ay ss st == 2 then rE ss l st else if ay ss st == 3 then p_ (fun i=>!aw ss i st || e_ ss l f (i : Int)) ss.length else false
def atEnd (ss : List St) (l : List Bool) (st : Int) : Bool:=e_ ss l (ss.length + 2) st
end Ch
section
variable (w : World) (mb ob po : Nat) (s : Sd) (qv ov : Value) (ol : Ol)
theorem E_ (sb so : Nat) (pre : List Value) (l : List Bool) (post : List Value) (T : TypeId) (parent : Int) (hm : eF w mb ob po s qv ov) (hp : Pl w ob po ol) (hl : ol.ag.length <= 16) (hL : fj w sb pre l post T) (h16 : l.length = 16) (hso : pre.length = so) :
 Calls prog 164 #[.pointer (some ⟨mb,0,none⟩),.int .i64 parent,.pointer (some ⟨sb,so,none⟩)] w fun x w'=>x = .returned (.bool (Ch.kept ol.ag l parent)) /\ w' = w:=by
 have cp:=hm.plan;have hS:=hp.str;obtain ⟨ao,cap,c2⟩:=hS.len
 go_enter func164,ntmps164
 go_wp2_with fail
 go_loop [7] (fun i=>∃ k : Nat,i = .int .i64 k /\ k <= ol.ag.length /\ Hid (nH (fun i=>Ch.has l (i : Int) && aw ol.ag i parent) k = false)) (fun i=>ol.ag.length - (intOf i).toNat)
 case atStart=>exact ⟨0,rfl,Nat.zero_le _,hid rfl⟩
 case round =>
  obtain ⟨k,rfl,hk,HA⟩:=hrel
  by_cases hlt : k < ol.ag.length
  ·have hlt' : (k : Int) < (ol.ag.length : Int):=by omega
   have E1:=hid (fk w sb so pre l post T k hL h16 hso);have E2:=hid (eX ob po w ol.ag k parent hS (by omega))
   cases q1 : Ch.has l (k : Int) with
   | false =>
     have HF:=hid (show nH (fun i=>Ch.has l (i : Int) && aw ol.ag i parent) (k + 1) = false by rw [oP,HA.out,q1];rfl);rw [q1] at E1;clear HA hm hp hS hL
     go_wp2_with fail
     refine br E1 ?_;rintro x w1 ⟨rfl,rfl⟩;go_wp2
     go_round
     case rel=>exact ⟨k + 1,by go_num,by omega,HF⟩
     case measure=>simp [intOf];omega
   | true=>?_
   rw [q1] at E1
   cases q2 : aw ol.ag k parent with
   | false =>
     have HF:=hid (show nH (fun i=>Ch.has l (i : Int) && aw ol.ag i parent) (k + 1) = false by rw [oP,HA.out,q1,q2];rfl);rw [q2] at E2;clear HA hm hp hS hL
     go_wp2_with fail
     refine br E1 ?_;rintro x w1 ⟨rfl,rfl⟩
     go_wp2_with fail
     refine br E2 ?_;rintro x w1 ⟨rfl,rfl⟩;go_wp2
     go_round
     case rel=>exact ⟨k + 1,by go_num,by omega,HF⟩
     case measure=>simp [intOf];omega
   | true=>?_
   have HF:=hid (show Ch.kept ol.ag l parent = true from xw hlt (by rw [q1,q2];rfl));rw [q2] at E2;clear HA hm hp hS hL
   go_wp2_with fail
   refine br E1 ?_;rintro x w1 ⟨rfl,rfl⟩
   go_wp2_with fail
   refine br E2 ?_;rintro x w1 ⟨rfl,rfl⟩;go_wp2;go_ret;exact ⟨by rw [HF.out];rfl,rfl⟩
  have hge : ¬ (k : Int) < (ol.ag.length : Int):=by omega
  obtain rfl : k = ol.ag.length:=by omega
  have HF:=hid (show Ch.kept ol.ag l parent = false from HA.out);clear HA hm hp hS hL
  go_wp2_with fail
  go_ret;exact ⟨by rw [HF.out];rfl,rfl⟩
theorem zK (st : Int) (hm : eF w mb ob po s qv ov) (hw : s.Wf) (hp : Pl w ob po ol) (hl : ol.ag.length <= 16) :
 Calls prog 253 #[.pointer (some ⟨mb,0,none⟩),.int .i64 st] w fun x w'=>x = .returned (.bool (rE ol.ag s.act st)) /\ w' = w:=by
 have cp:=hm.plan;have hS:=hp.str
 go_enter func253,ntmps253
 go_wp2_with fail
 go_loop [5] (fun i=>∃ k : Nat,i = .int .i64 k /\ k <= ol.ag.length /\ Hid (nH (CJ ol.ag s.act st) k = false)) (fun i=>ol.ag.length - (intOf i).toNat)
 case atStart=>exact ⟨0,rfl,Nat.zero_le _,hid rfl⟩
 case round =>
  obtain ⟨k,rfl,hk,HA⟩:=hrel
  by_cases hlt : k < ol.ag.length
  ·have hlt' : (k : Int) < (ol.ag.length : Int):=by omega
   obtain ⟨t,hs⟩ : ∃ s,ol.ag[k]? = some s:=⟨_,List.getElem?_eq_getElem hlt⟩
   obtain ⟨g,cap,c2,a0,a1,a2,a3⟩:=hS.at_ hs
   have hP : CJ ol.ag s.act st k = ((t.kind == 4) && (t.parent == st) && Ch.has s.act (k : Int)):=by simp [CJ,ay,aq,ch,hs]
   have E1:=hid (fk w mb 1 [.pointer (some ⟨ob,po,none⟩)] s.act (bg s ++ [qv,ov]) 149 k hm hw.1 rfl)
   have no : CJ ol.ag s.act st k = false -> nH (CJ ol.ag s.act st) (k + 1) = false:=fun q=>by rw [oP,HA.out,q];rfl
   cases q1 : t.kind == 4 with
   | false =>
     have HF:=hid (no (by rw [hP,q1];rfl));clear HA hm hp hS hs hP no
     go_wp2_with fail
     go_round
     case rel=>exact ⟨k + 1,by go_num,by omega,HF⟩
     case measure=>simp [intOf];omega
   | true=>?_
   cases q2 : t.parent == st with
   | false =>
     have HF:=hid (no (by rw [hP,q1,q2];rfl));clear HA hm hp hS hs hP no
     go_wp2_with fail
     go_round
     case rel=>exact ⟨k + 1,by go_num,by omega,HF⟩
     case measure=>simp [intOf];omega
   | true=>?_
   cases q3 : Ch.has s.act (k : Int) with
   | false =>
     have HF:=hid (no (by rw [hP,q1,q2,q3];rfl));rw [q3] at E1;clear HA hm hp hS hs hP no
     go_wp2_with fail
     refine br E1 ?_;rintro x w1 ⟨rfl,rfl⟩;go_wp2
     go_round
     case rel=>exact ⟨k + 1,by go_num,by omega,HF⟩
     case measure=>simp [intOf];omega
   | true=>?_
   have HF:=hid (show rE ol.ag s.act st = true from xw hlt (by rw [hP,q1,q2,q3];rfl));rw [q3] at E1;clear HA hm hp hS hs hP no
   go_wp2_with fail
   refine br E1 ?_;rintro x w1 ⟨rfl,rfl⟩;go_wp2;go_ret;exact ⟨by rw [HF.out];rfl,rfl⟩
  have hge : ¬ (k : Int) < (ol.ag.length : Int):=by omega
  obtain rfl : k = ol.ag.length:=by omega
  have HF:=hid (show rE ol.ag s.act st = false from HA.out);obtain ⟨ao,cap,c2⟩:=hS.len;clear HA hm hp hS
  go_wp2_with fail
  go_ret;exact ⟨by rw [HF.out];rfl,rfl⟩
theorem zL (f : Nat) (st : Int) (hm : eF w mb ob po s qv ov) (hp : Pl w ob po ol) (hl : ol.ag.length <= 16)
 (IH : ∀ i : Nat,i < ol.ag.length -> aw ol.ag i st = true -> Calls prog 219 #[.pointer (some ⟨mb,0,none⟩),.int .i64 i] w fun x w'=>x = .returned (.bool (e_ ol.ag s.act f i)) /\ w' = w) :
 Calls prog 254 #[.pointer (some ⟨mb,0,none⟩),.int .i64 st] w fun x w'=>x = .returned (.bool (p_ (fun i=>!Ch.aw ol.ag i st || e_ ol.ag s.act f (i : Int)) ol.ag.length)) /\ w' = w:=by
 have cp:=hm.plan;have hS:=hp.str;obtain ⟨ao,cap,c2⟩:=hS.len
 go_enter func254,ntmps254
 go_wp2_with fail
 go_loop [5] (fun i=>∃ k : Nat,i = .int .i64 k /\ k <= ol.ag.length /\ Hid (p_ (fun i=>!Ch.aw ol.ag i st || e_ ol.ag s.act f (i : Int)) k = true)) (fun i=>ol.ag.length - (intOf i).toNat)
 case atStart=>exact ⟨0,rfl,Nat.zero_le _,hid rfl⟩
 case round =>
  obtain ⟨k,rfl,hk,HA⟩:=hrel
  by_cases hlt : k < ol.ag.length
  ·have hlt' : (k : Int) < (ol.ag.length : Int):=by omega
   have E1:=hid (eX ob po w ol.ag k st hS (by omega))
   cases q1 : aw ol.ag k st with
   | false =>
     have HF:=hid (show p_ (fun i=>!Ch.aw ol.ag i st || e_ ol.ag s.act f (i : Int)) (k + 1) = true by rw [uq,HA.out,q1];rfl);rw [q1] at E1;clear HA hm hp hS IH
     go_wp2_with fail
     refine br E1 ?_;rintro x w1 ⟨rfl,rfl⟩;go_wp2
     go_round
     case rel=>exact ⟨k + 1,by go_num,by omega,HF⟩
     case measure=>simp [intOf];omega
   | true=>?_
   have E2:=hid (IH k hlt q1);rw [q1] at E1
   cases q2 : e_ ol.ag s.act f (k : Int) with
   | true =>
     have HF:=hid (show p_ (fun i=>!Ch.aw ol.ag i st || e_ ol.ag s.act f (i : Int)) (k + 1) = true by rw [uq,HA.out,q1,q2];rfl);rw [q2] at E2;clear HA hm hp hS IH
     go_wp2_with fail
     refine br E1 ?_;rintro x w1 ⟨rfl,rfl⟩
     go_wp2_with fail
     refine br E2 ?_;rintro x w1 ⟨rfl,rfl⟩;go_wp2
     go_round
     case rel=>exact ⟨k + 1,by go_num,by omega,HF⟩
     case measure=>simp [intOf];omega
   | false=>?_
   have HF:=hid (show p_ (fun i=>!Ch.aw ol.ag i st || e_ ol.ag s.act f (i : Int)) ol.ag.length = false from Is hlt (by rw [q1,q2];rfl));rw [q2] at E2;clear HA hm hp hS IH
   go_wp2_with fail
   refine br E1 ?_;rintro x w1 ⟨rfl,rfl⟩
   go_wp2_with fail
   refine br E2 ?_;rintro x w1 ⟨rfl,rfl⟩;go_wp2;go_ret;exact ⟨by rw [HF.out];rfl,rfl⟩
  have hge : ¬ (k : Int) < (ol.ag.length : Int):=by omega
  obtain rfl : k = ol.ag.length:=by omega
  clear hm hp hS IH
  go_wp2_with fail
  go_ret;exact ⟨by rw [HA.out];rfl,rfl⟩
theorem zM (hm : eF w mb ob po s qv ov) (hw : s.Wf) (hp : Pl w ob po ol) (hU : Up ol.ag) (hl : ol.ag.length <= 16) : ∀ (f : Nat) (st : Int),(ol.ag.length : Int) < st + f -> st <= ol.ag.length ->
 Calls prog 219 #[.pointer (some ⟨mb,0,none⟩),.int .i64 st] w fun x w'=>x = .returned (.bool (e_ ol.ag s.act f st)) /\ w' = w:=by
 intro f
 induction f with
 | zero=>intro st h1 h2;omega
 | succ f ih=>?_
 intro st h1 h2;have cp:=hm.plan;have E1:=hid (gf ob po w ol.ag st hp.str (by omega));have E2:=hid (zK w mb ob po s qv ov ol st hm hw hp hl)
 have E3:=hid (zL w mb ob po s qv ov ol f st hm hp hl (fun i hi hc=>ih i (by
  have : st < (i : Int):=by
   obtain ⟨t,ht⟩ : ∃ t,ol.ag[i]? = some t:=⟨_,List.getElem?_eq_getElem hi⟩
   have:=hU i t ht;simp [aw,ch,ht] at hc;omega
  omega) (by omega)))
 clear ih
 cases q1 : ay ol.ag st == 2 with
 | true =>
   rw [show e_ ol.ag s.act (f + 1) st = rE ol.ag s.act st by simp only [e_];rw [q1];rfl];clear hm hp E3
   go_enter func219,ntmps219
   go_wp2_with fail
   refine br E1 ?_;rintro x w1 ⟨rfl,rfl⟩
   go_wp2_with fail
   refine br E2 ?_;rintro x w1 ⟨rfl,rfl⟩;go_wp2;go_ret;exact ⟨rfl,rfl⟩
 | false=>?_
 cases q2 : ay ol.ag st == 3 with
 | true =>
   rw [show e_ ol.ag s.act (f + 1) st = p_ (fun i=>!Ch.aw ol.ag i st || e_ ol.ag s.act f (i : Int)) ol.ag.length by simp only [e_];rw [q1,q2];rfl];clear hm hp E2
   go_enter func219,ntmps219
   go_wp2_with fail
   refine br E1 ?_;rintro x w1 ⟨rfl,rfl⟩
   go_wp2_with fail
   refine br E3 ?_;rintro x w1 ⟨rfl,rfl⟩;go_wp2;go_ret;exact ⟨rfl,rfl⟩
 | false=>?_
 rw [show e_ ol.ag s.act (f + 1) st = false by simp only [e_];rw [q1,q2];rfl];clear hm hp E2 E3
 go_enter func219,ntmps219
 go_wp2_with fail
 refine br E1 ?_;rintro x w1 ⟨rfl,rfl⟩;go_wp2;go_ret;exact ⟨rfl,rfl⟩
theorem ur (st : Int) (hm : eF w mb ob po s qv ov) (hw : s.Wf) (hp : Pl w ob po ol) (hU : Up ol.ag) (hl : ol.ag.length <= 16) (h1 : -1 <= st) (h2 : st <= ol.ag.length) :
 Calls prog 219 #[.pointer (some ⟨mb,0,none⟩),.int .i64 st] w fun x w'=>x = .returned (.bool (Ch.atEnd ol.ag s.act st)) /\ w' = w :=
 zM w mb ob po s qv ov ol hm hw hp hU hl _ st (by omega) h2
end
namespace Ch
def eb (ss : List St) (m : Ma) (st : Int) : Ma :=
 if st == -1 then m
 else if (ay ss (aq ss st) == 3) && atEnd ss m.s.act (aq ss st) then { m with q:=m.q ++ [dP ss st.toNat] ++ [dP ss (aq ss st).toNat] }
 else { m with q:=m.q ++ [dP ss st.toNat] }
def dz (m : Ma) (i : Int) (v : Bool) : Ma:={ m with s:={ m.s with act:=kZ m.s.act i v } }
def ck (ol : Ol) (m : Ma) (i : Nat) : Ma :=
 if ay ol.ag i == 4 then eb ol.ag (cD i 94 ol.cM (dz m i true)) (aq ol.ag i) else cD i 94 ol.cM (dz m i true)
def cu (ol : Ol) (left : List Bool) : Nat -> Ma -> Ma
 | 0,m=>m
 | k + 1,m=>cu ol left k (if has left (k : Int) then dz (cD k 36 ol.cM m) k false else m)
theorem jM {m : Ma} (h : m.s.Ok) (i : Int) (v : Bool) : (dz m i v).s.Ok:=by
 obtain ⟨⟨h0,h1⟩,h2⟩:=h;exact ⟨⟨by show (kZ m.s.act i v).length = 16;rw [gh];exact h0,h1⟩,h2⟩
theorem jN (ss : List St) (m : Ma) (st : Int) : (eb ss m st).s = m.s /\ (eb ss m st).out = m.out /\ (eb ss m st).q.length <= m.q.length + 2:=by
 unfold eb
 split
 ·simp
 split <;> simp
theorem ma {ol : Ol} (hol : ol.Ok) (state sign : Int) {m : Ma} {n : Nat} (h : m.Sz n) : (cD state sign ol.cM m).Sz (n + 115200):=by
 have h1:=EG state sign ol.cM h (fun b hb=>(hol.kH b hb).1);have h2:=hol.cM;unfold Ma.Sz at *;omega
theorem rF {ol : Ol} {m : Ma} (h : m.s.Ok) (i : Nat) : (ck ol m i).s.Ok:=by
 unfold ck
 split
 ·rw [(jN _ _ _).1];exact ld _ _ _ (jM h _ _)
 exact ld _ _ _ (jM h _ _)
theorem rG {ol : Ol} (hol : ol.Ok) {m : Ma} {n : Nat} (h : m.Sz n) (i : Nat) : (ck ol m i).Sz (n + 115202):=by
 have h1:=ma hol i 94 (m:=dz m i true) (n:=n) h;unfold ck
 split
 ·have h2:=jN ol.ag (cD i 94 ol.cM (dz m i true)) (aq ol.ag i)
  unfold Ma.Sz at *;rw [h2.2.1];omega
 unfold Ma.Sz at *;omega
theorem It {ss : List St} {i : Int} (h : (ay ss i == 3) = true) : ∃ (k : Nat) (s : St),i = k /\ ss[k]? = some s /\ k < ss.length:=by
 unfold ay at h
 cases q : kU ss i with
 | none=>rw [q] at h;simp at h
 | some s=>obtain ⟨k,e,hs,hk⟩:=fQ q;exact ⟨k,s,e,hs,hk⟩
end Ch
theorem Mm.put {w w' : World} {B mb ob po : Nat} {s s' : Sd} {qv ov : Value} {q out : List Int} (hm : eF w mb ob po s qv ov) (oq : bA w B qv (ax q)) (oo : bA w B ov (ax out)) (ap : Apart qv ov)
 (k : Kp (fun k=>k = mb) w w') (h' : eF w' mb ob po s' qv ov) : Mm w' B mb ob po ⟨s',q,out⟩ /\ Kp (km B mb w) w w':=by
 have n1:=oq.ne hm (by decide);have n2:=oo.ne hm (by decide);exact ⟨⟨qv,ov,h',oq.keep k (fun i hi x=>by subst x;exact n1 hi),oo.keep k (fun i hi x=>by subst x;exact n2 hi),ap⟩,(Kp.refl _ _).trans' k (fun i _ x=>.inl x)⟩
theorem Mm.plan {w : World} {B mb ob po : Nat} {m : Ma} (h : Mm w B mb ob po m) : w.cell? ⟨mb,0,none⟩ = some (.pointer (some ⟨ob,po,none⟩)):=by
 obtain ⟨qv,ov,hm,_⟩:=h;exact hm.plan
section
variable (w : World) (B mb ob po : Nat) (ol : Ol)
theorem xy (m : Ma) (st : Int) (hp : Pl w ob po ol) (hol : ol.Ok) (h : Mm w B mb ob po m) (hs : m.s.Ok) (hB : B <= w.heap.size) (hz : m.Sz 950000000) (h1 : -1 <= st) (h2 : st < ol.ag.length) :
 Calls prog 168 #[.pointer (some ⟨mb,0,none⟩),.int .i64 st] w fun x w'=>x = .returned (.tuple #[]) /\ Mm w' B mb ob po (eb ol.ag m st) /\ Kp (km B mb w) w w':=by
 cases q1 : st == -1 with
 | true =>
   rw [show eb ol.ag m st = m by unfold eb;rw [q1];rfl]
   go_enter func168,ntmps168
   go_wp2;refine bodyPost_ret (results_none rfl _ _ _) rfl ?_;exact ⟨rfl,h,Kp.refl _ _⟩
 | false=>?_
 have q1' : st ≠ -1:=by simpa using q1
 obtain ⟨k,rfl⟩ : ∃ k : Nat,st = k:=⟨st.toNat,by omega⟩
 have hk : k < ol.ag.length:=by omega
 obtain ⟨t,ht⟩ : ∃ s,ol.ag[k]? = some s:=⟨_,List.getElem?_eq_getElem hk⟩
 have hkl : (k : Int) < (ol.ag.length : Int):=by omega
 have cp:=h.plan;obtain ⟨g,cap,c2,a0,a1,a2,a3⟩:=hp.str.at_ ht;have hz1:=hz.1;have mE:=hol.ag
 have hnm : dP ol.ag (k : Int).toNat = t.name:=by simp [dP,ht]
 have E1:=hid (l8 w B mb ob po m t.name h hs.1 hB (by omega));have hlo:=d_ hol.up (k : Int);have hlt:=eZ hol.up (i:=(k : Int)) (by omega)
 cases q2 : ay ol.ag (aq ol.ag k) == 3 with
 | false =>
   rw [show eb ol.ag m k = { m with q:=m.q ++ [t.name] } by unfold eb;rw [q1,q2,hnm];rfl];have HH:=hid (ae h hp);clear h hp
   go_enter func168,ntmps168
   go_wp2_with fail
   refine br E1 ?_;rintro x w1 ⟨rfl,M1,K1⟩;have hp1:=HH.out.1.pl K1 HH.out.2;have P0:=M1.plan;have E2:=hid (c8 ob po w1 ol.ag k hp1.str (by omega));have E3:=hid (gf ob po w1 ol.ag (aq ol.ag k) hp1.str (by omega));clear E1 HH a0 a1 a2 a3 c2 cp hp1
   go_wp2_with fail
   refine br E2 ?_;rintro x w2 ⟨rfl,rfl⟩
   go_wp2_with fail
   refine br E3 ?_;rintro x w2 ⟨rfl,rfl⟩;go_wp2
   go_end0
   exact ⟨rfl,M1,K1⟩
 | true=>?_
 obtain ⟨kp,tp,ep,htp,hkp⟩:=It q2
 have Ub : (kp : Int) < (ol.ag.length : Int):=by omega
 cases q3 : Ch.atEnd ol.ag m.s.act (aq ol.ag k) with
 | false =>
   rw [show eb ol.ag m k = { m with q:=m.q ++ [t.name] } by unfold eb;rw [q1,q2,q3,hnm];rfl];have HH:=hid (ae h hp);clear h hp ep
   go_enter func168,ntmps168
   go_wp2_with fail
   refine br E1 ?_;rintro x w1 ⟨rfl,M1,K1⟩;have hp1:=HH.out.1.pl K1 HH.out.2;have P0:=M1.plan;have E2:=hid (c8 ob po w1 ol.ag k hp1.str (by omega));have E3:=hid (gf ob po w1 ol.ag (aq ol.ag k) hp1.str (by omega));obtain ⟨qv,ov,hm1,_⟩:=id M1;have E4:=hid (ur w1 mb ob po m.s qv ov ol (aq ol.ag k) hm1 hs.1 hp1 hol.up hol.ag hlo (by omega));rw [q3] at E4;clear E1 HH a0 a1 a2 a3 c2 cp hp1 hm1
   go_wp2_with fail
   refine br E2 ?_;rintro x w2 ⟨rfl,rfl⟩
   go_wp2_with fail
   refine br E3 ?_;rintro x w2 ⟨rfl,rfl⟩
   go_wp2_with fail
   refine br E4 ?_;rintro x w2 ⟨rfl,rfl⟩;go_wp2
   go_end0
   exact ⟨rfl,M1,K1⟩
 | true=>?_
 rw [show eb ol.ag m k = { m with q:=m.q ++ [t.name] ++ [tp.name] } by unfold eb;rw [q1,q2,q3,hnm,ep];simp [dP,htp]];have HH:=hid (ae h hp);have EP:=hid ep;clear h hp ep
 go_enter func168,ntmps168
 go_wp2_with fail
 refine br E1 ?_;rintro x w1 ⟨rfl,M1,K1⟩;have hp1:=HH.out.1.pl K1 HH.out.2;have P0:=M1.plan;have E2:=hid (c8 ob po w1 ol.ag k hp1.str (by omega));have E3:=hid (gf ob po w1 ol.ag (aq ol.ag k) hp1.str (by omega));obtain ⟨qv,ov,hm1,_⟩:=id M1;have E4:=hid (ur w1 mb ob po m.s qv ov ol (aq ol.ag k) hm1 hs.1 hp1 hol.up hol.ag hlo (by omega));rw [q3] at E4;rw [EP.out] at E2 E3 E4 q2;clear EP;obtain ⟨g',cap',c2',b0,b1,b2,b3⟩:=hp1.str.at_ htp;have E5:=hid (l8 w1 B mb ob po { m with q:=m.q ++ [t.name] } tp.name M1 hs.1 (by have:=K1.size;omega) (by simp;omega));clear E1 HH a0 a1 a2 a3 c2 cp hp1 hm1
 go_wp2_with fail
 refine br E2 ?_;rintro x w2 ⟨rfl,rfl⟩
 go_wp2_with fail
 refine br E3 ?_;rintro x w2 ⟨rfl,rfl⟩
 go_wp2_with fail
 refine br E4 ?_;rintro x w2 ⟨rfl,rfl⟩
 go_wp2_with fail
 refine br E5 ?_;rintro x w5 ⟨rfl,M5,K5⟩;have K6:=Km.trans K1 K5;clear E5 M1 K1 K5 b0 b1 b2 b3 c2' P0;go_wp2
 go_end0
 exact ⟨rfl,M5,K6⟩
theorem rH (m : Ma) (k : Nat) (hp : Pl w ob po ol) (hol : ol.Ok) (h : Mm w B mb ob po m) (hs : m.s.Ok) (hB : B <= w.heap.size) (hz : m.Sz 900000000) (hk : k < ol.ag.length) :
 Calls prog 118 #[.pointer (some ⟨mb,0,none⟩),.int .i64 k] w fun x w'=>x = .returned (.tuple #[]) /\ Mm w' B mb ob po (ck ol m k) /\ Kp (km B mb w) w w':=by
 obtain ⟨t,ht⟩ : ∃ s,ol.ag[k]? = some s:=⟨_,List.getElem?_eq_getElem hk⟩
 have hkl : (k : Int) < (ol.ag.length : Int):=by omega
 have hkd : ay ol.ag k = t.kind:=by simp [ay,ch,ht]
 have y8 : aq ol.ag k = t.parent:=by simp [aq,ch,ht]
 have hup:=hol.up k t ht;obtain ⟨qv,ov,hm,oq,oo,ap⟩:=id h;have E1:=hid (vw w mb 1 [.pointer (some ⟨ob,po,none⟩)] m.s.act (bg m.s ++ [qv,ov]) 149 k hm hs.1.1 rfl);have HH:=hid (ae h (ae hp (ae hm (ae oq (ae oo ap)))));have hz2:=ma hol k 94 (m:=dz m k true) (n:=900000000) hz;have hok1:=jM hs (k : Int) true;have hok2:=ld (k : Int) 94 ol.cM hok1;clear h hp hm oq oo ap
 cases q1 : t.kind == 4 with
 | false =>
   rw [show ck ol m k = cD k 94 ol.cM (dz m k true) by unfold ck;rw [hkd,q1];rfl]
   go_enter func118,ntmps118
   go_wp2_with fail
   refine br E1 ?_;rintro x w1 ⟨rfl,h1,K1⟩;obtain ⟨h,hp,hm,oq,oo,ap⟩:=HH.out;obtain ⟨M1,Iu⟩:=Mm.put (s':=(dz m k true).s) hm oq oo ap K1 (by exact h1);have hp1:=h.pl Iu hp;have E2:=hid (kg w1 B mb ob po (dz m k true) ol k 94 hp1 hol M1 hok1 (by have:=Iu.size;omega) ⟨by have:=hz.1;show m.q.length <= _;omega,by have:=hz.2;show m.out.length <= _;omega⟩);have HM:=hid M1;clear h hp hm oq oo ap HH E1 h1 K1 M1
   go_wp2_with fail
   refine br E2 ?_;rintro x w2 ⟨rfl,M2,K2⟩;have hp2:=HM.out.pl K2 hp1;have cp2:=M2.plan;obtain ⟨g,cap,c2,a0,a1,a2,a3⟩:=hp2.str.at_ ht;have MP:=Km.trans Iu K2;clear E2 HM K2 Iu hp2 hp1;go_wp2
   go_end0
   exact ⟨rfl,M2,MP⟩
 | true=>?_
 rw [show ck ol m k = eb ol.ag (cD k 94 ol.cM (dz m k true)) t.parent by unfold ck;rw [hkd,q1,y8];rfl]
 go_enter func118,ntmps118
 go_wp2_with fail
 refine br E1 ?_;rintro x w1 ⟨rfl,h1,K1⟩;obtain ⟨h,hp,hm,oq,oo,ap⟩:=HH.out;obtain ⟨M1,Iu⟩:=Mm.put (s':=(dz m k true).s) hm oq oo ap K1 (by exact h1);have hp1:=h.pl Iu hp;have E2:=hid (kg w1 B mb ob po (dz m k true) ol k 94 hp1 hol M1 hok1 (by have:=Iu.size;omega) ⟨by have:=hz.1;show m.q.length <= _;omega,by have:=hz.2;show m.out.length <= _;omega⟩);have HM:=hid M1;clear h hp hm oq oo ap HH E1 h1 K1 M1
 go_wp2_with fail
 refine br E2 ?_;rintro x w2 ⟨rfl,M2,K2⟩;have hp2:=HM.out.pl K2 hp1;have cp2:=M2.plan;obtain ⟨g,cap,c2,a0,a1,a2,a3⟩:=hp2.str.at_ ht;have MP:=Km.trans Iu K2;have E3:=hid (xy w2 B mb ob po ol (cD k 94 ol.cM (dz m k true)) t.parent hp2 hol M2 hok2 (by have:=MP.size;omega) ⟨by have:=hz2.1;omega,by have:=hz2.2;omega⟩ hup.1 (by omega));clear E2 HM K2 Iu hp2 hp1 M2
 go_wp2_with fail
 refine br E3 ?_;rintro x w3 ⟨rfl,M3,K3⟩;have Uc:=Km.trans MP K3;clear E3 K3 MP a0 a1 a2 a3 c2 cp2;go_wp2
 go_end0
 exact ⟨rfl,M3,Uc⟩
end
section
variable (w : World) (B mb ob po : Nat) (ol : Ol)
theorem CK (m : Ma) (lb : Nat) (l : List Bool) (hL : fj w lb [] l [] 91) (h16 : l.length = 16) (hp : Pl w ob po ol) (hol : ol.Ok) (h : Mm w B mb ob po m) (hs : m.s.Ok) (hB : B <= w.heap.size) (hz : m.Sz 900000000) :
 Calls prog 133 #[.pointer (some ⟨mb,0,none⟩),.pointer (some ⟨lb,0,none⟩)] w fun x w'=>x = .returned (.tuple #[]) /\ Mm w' B mb ob po (cu ol l ol.ag.length m) /\ Kp (km B mb w) w w':=by
 have cp:=h.plan;obtain ⟨ao,cap,c2⟩:=hp.str.len;have mE:=hol.ag;have hz1:=hz.1;have hz2:=hz.2
 go_enter func133,ntmps133
 go_wp2_with fail
 go_loopw [4] (fun i wr=>∃ (k : Nat) (m' : Ma),i = .int .i64 ((k : Int) - 1) /\ k <= ol.ag.length /\ Hid (cu ol l ol.ag.length m = cu ol l k m') /\ Mm wr B mb ob po m' /\ m'.s.Ok /\ m'.Sz (900000000 + 115200 * (ol.ag.length - k)) /\ Kp (km B mb w) w wr) (fun i _=>(intOf i + 1).toNat)
 case atStart=>exact ⟨ol.ag.length,m,by go_num,Nat.le_refl _,hid rfl,h,hs,⟨by omega,by omega⟩,Kp.refl _ _⟩
 case round =>
  obtain ⟨k,m',rfl,hk,HE,hm',hs',hz',KW⟩:=hrel;have hpr : Pl wr ob po ol:=h.pl KW hp;have xm : fj wr lb [] l [] 91:=h.at_ KW hL (by decide) (by decide)
  have hBr : B <= wr.heap.size:=by have:=KW.size;omega
  cases k with
  | zero =>
    have HF:=hid (HE.out.trans (show _ = m' from rfl));clear HE hpr xm cp c2
    go_wp2_with fail
    go_end0
    rw [HF.out];exact ⟨rfl,hm',KW⟩
  | succ k=>?_
  have e1 : ((k + 1 : Nat) : Int) - 1 = k:=by omega
  rw [e1];have E1:=hid (fk wr lb 0 [] l [] 91 k xm h16 rfl)
  have hge : (0 : Int) <= (k : Int):=by omega
  cases q1 : Ch.has l (k : Int) with
  | false =>
    rw [q1] at E1;have HF:=hid (HE.out.trans (show _ = cu ol l k m' by simp only [cu];rw [q1];rfl));clear HE hpr xm cp c2 e1
    go_wp2_with fail
    refine br E1 ?_;rintro x w1 ⟨rfl,rfl⟩;go_wp2
    go_roundw
    case rel=>exact ⟨k,m',by go_num,by omega,HF,hm',hs',⟨by have:=hz'.1;omega,by have:=hz'.2;omega⟩,KW⟩
    case measure=>simp [intOf]
  | true=>?_
  rw [q1] at E1;have HF:=hid (HE.out.trans (show _ = cu ol l k (dz (cD k 36 ol.cM m') k false) by simp only [cu];rw [q1];rfl))
  have hzb : m'.Sz 990000000:=⟨by have:=hz'.1;omega,by have:=hz'.2;omega⟩
  have E2:=hid (kg wr B mb ob po m' ol k 36 hpr hol hm' hs' hBr hzb);have hz3:=ma hol (k : Int) 36 hz';have hok:=ld (k : Int) 36 ol.cM hs';have hok2:=jM hok (k : Int) false;clear HE hpr xm cp c2 e1 hm'
  go_wp2_with fail
  refine br E1 ?_;rintro x w1 ⟨rfl,rfl⟩
  go_wp2_with fail
  refine br E2 ?_;rintro x w2 ⟨rfl,M2,K2⟩;have K3:=Km.trans KW K2;obtain ⟨qv,ov,hm2,oq,oo,ap⟩:=id M2;have E3:=hid (Ek w2 mb 1 [.pointer (some ⟨ob,po,none⟩)] (cD k 36 ol.cM m').s.act (bg (cD k 36 ol.cM m').s ++ [qv,ov]) 149 k hm2 hok.1.1 rfl);have HH:=hid (ae hm2 (ae oq (ae oo ap)));clear E1 E2 K2 M2 hm2 oq oo ap
  go_wp2_with fail
  refine br E3 ?_;rintro x w4 ⟨rfl,h4,K4⟩;obtain ⟨hm2,oq,oo,ap⟩:=HH.out;obtain ⟨M4,Sa⟩:=Mm.put (s':=(dz (cD k 36 ol.cM m') k false).s) hm2 oq oo ap K4 (by exact h4);have K5:=Km.trans K3 Sa;clear E3 HH hm2 oq oo ap h4 K4 Sa K3;go_wp2
  go_roundw
  case rel=>exact ⟨k,_,by go_num,by omega,HF,M4,hok2,⟨by have:=hz3.1;show (cD k 36 ol.cM m').q.length <= _;omega,by have:=hz3.2;show (cD k 36 ol.cM m').out.length <= _;omega⟩,K5⟩
  case measure=>simp [intOf]
end
end Go.Proofs.YtnlbchmfcebeeaaGreat
