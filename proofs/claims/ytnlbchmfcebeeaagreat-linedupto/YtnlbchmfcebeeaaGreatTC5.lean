import Derived.Test.YtnlbchmfcebeeaaGreatTC4
set_option maxHeartbeats 12800000
set_option maxRecDepth 100000
namespace Go.Proofs.YtnlbchmfcebeeaaGreat
open Go.Proofs.Tryz Ch
open Go.RowKit
namespace Ch
def holds (s : Sd) (g : Gd) : Bool :=
 if g.sign == 60 then decide (var s g.var < g.digit) else if g.sign == 61 then var s g.var == g.digit else if g.sign == 62 then decide (g.digit < var s g.var) else true
def oQ (ss : List St) (act : List Bool) (k : Nat) : Bool:=has act (k : Int) && (ay ss k == 1 || ay ss k == 4)
end Ch
section
variable (w : World) (mb ob po : Nat) (s : Sd) (qv ov : Value) (ol : Ol)
theorem CL (g : Gd) (hm : eF w mb ob po s qv ov) (hw : s.Wf) :
 Calls prog 255 #[.pointer (some ⟨mb,0,none⟩),.agg #[.int .u8 g.var,.int .u8 g.sign,.int .i64 g.digit]] w fun x w'=>x = .returned (.bool (Ch.holds s g)) /\ Kp (fun _=>False) w w':=by
 have K1 : Kp (fun _=>False) w (w.alloc (.cells #[.int .u8 g.var,.int .u8 g.sign,.int .i64 g.digit] 206)):=(Kp.refl _ _).alloc _;have e1:=heap_alloc_new w (.cells #[.int .u8 g.var,.int .u8 g.sign,.int .i64 g.digit] 206);have hm1 : eF (w.alloc (.cells #[.int .u8 g.var,.int .u8 g.sign,.int .i64 g.digit] 206)) mb ob po s qv ov:=bM.keep hm K1 (fun x=>x)
 have c0 : (w.alloc (.cells #[.int .u8 g.var,.int .u8 g.sign,.int .i64 g.digit] 206)).cell? ⟨w.heap.size,0,none⟩ = some (.int .u8 g.var):=by rw [World.cell?,e1];rfl
 have c1 : (w.alloc (.cells #[.int .u8 g.var,.int .u8 g.sign,.int .i64 g.digit] 206)).cell? ⟨w.heap.size,1,none⟩ = some (.int .u8 g.sign):=by rw [World.cell?,e1];rfl
 have c2 : (w.alloc (.cells #[.int .u8 g.var,.int .u8 g.sign,.int .i64 g.digit] 206)).cell? ⟨w.heap.size,2,none⟩ = some (.int .i64 g.digit):=by rw [World.cell?,e1];rfl
 have E1:=hid (j_ ((w.alloc (.cells #[.int .u8 g.var,.int .u8 g.sign,.int .i64 g.digit] 206))).drew mb 1 [.pointer (some ⟨ob,po,none⟩)] s [qv,ov] 149 g.var (by exact hm1) hw rfl);have HK:=hid K1.drew;clear hm hm1 e1 K1
 have nv : Ch.holds s g = if g.sign == 60 then decide (Ch.var s g.var < g.digit) else if g.sign == 61 then Ch.var s g.var == g.digit else if g.sign == 62 then decide (g.digit < Ch.var s g.var) else true:=rfl
 cases q1 : g.sign == 60 with
 | true =>
   rw [show Ch.holds s g = decide (Ch.var s g.var < g.digit) by rw [nv,q1];rfl];clear nv
   go_enter func255,ntmps255
   go_upto_region 1 with (fail)
   generalize (w.alloc (.cells #[.int .u8 g.var,.int .u8 g.sign,.int .i64 g.digit] 206)) = w1 at *
   go_region_with (go_at_call 257;refine br E1 ?_;rintro x w2 ⟨rfl,rfl⟩)
   all_goals
    go_wp2;go_ret;exact ⟨rfl,HK.out⟩
 | false=>?_
 cases q2 : g.sign == 61 with
 | true =>
   rw [show Ch.holds s g = (Ch.var s g.var == g.digit) by rw [nv,q1,q2];rfl];clear nv
   go_enter func255,ntmps255
   go_upto_region 1 with (fail)
   generalize (w.alloc (.cells #[.int .u8 g.var,.int .u8 g.sign,.int .i64 g.digit] 206)) = w1 at *
   go_region_with (go_at_call 257;refine br E1 ?_;rintro x w2 ⟨rfl,rfl⟩)
   all_goals
    go_wp2;go_ret;exact ⟨rfl,HK.out⟩
 | false=>?_
 cases q3 : g.sign == 62 with
 | true =>
   rw [show Ch.holds s g = decide (g.digit < Ch.var s g.var) by rw [nv,q1,q2,q3];rfl];clear nv
   go_enter func255,ntmps255
   go_upto_region 1 with (fail)
   generalize (w.alloc (.cells #[.int .u8 g.var,.int .u8 g.sign,.int .i64 g.digit] 206)) = w1 at *
   go_region_with (go_at_call 257;refine br E1 ?_;rintro x w2 ⟨rfl,rfl⟩)
   all_goals
    go_wp2;go_ret;exact ⟨rfl,HK.out⟩
 | false=>?_
 rw [show Ch.holds s g = true by rw [nv,q1,q2,q3];rfl];clear nv
 go_enter func255,ntmps255
 go_upto_region 1 with (fail)
 generalize (w.alloc (.cells #[.int .u8 g.var,.int .u8 g.sign,.int .i64 g.digit] 206)) = w1 at *
 go_region_with (go_at_call 257;refine br E1 ?_;rintro x w2 ⟨rfl,rfl⟩)
 all_goals
  go_wp2;go_ret;exact ⟨rfl,HK.out⟩
theorem zN (k : Nat) (hm : eF w mb ob po s qv ov) (hw : s.Wf) (hp : Pl w ob po ol) (hk : k < ol.ag.length) :
 Calls prog 173 #[.pointer (some ⟨mb,0,none⟩),.int .i64 k] w fun x w'=>x = .returned (.bool (oQ ol.ag s.act k)) /\ w' = w:=by
 obtain ⟨t,ht⟩ : ∃ s,ol.ag[k]? = some s:=⟨_,List.getElem?_eq_getElem hk⟩
 have hkl : (k : Int) < (ol.ag.length : Int):=by omega
 have cp:=hm.plan;obtain ⟨g,cap,c2,a0,a1,a2,a3⟩:=hp.str.at_ ht
 have hkd : ay ol.ag k = t.kind:=by simp [ay,ch,ht]
 have E1:=hid (fk w mb 1 [.pointer (some ⟨ob,po,none⟩)] s.act (bg s ++ [qv,ov]) 149 k hm hw.1 rfl)
 have nv : oQ ol.ag s.act k = (Ch.has s.act (k : Int) && (t.kind == 1 || t.kind == 4)):=by unfold oQ;rw [hkd]
 rw [nv];clear nv hkd hm hp ht
 cases q1 : Ch.has s.act (k : Int) with
 | false =>
   rw [q1] at E1
   go_enter func173,ntmps173
   go_wp2_with fail
   refine br E1 ?_;rintro x w1 ⟨rfl,rfl⟩;go_wp2;go_ret;exact ⟨rfl,rfl⟩
 | true=>?_
 rw [q1] at E1
 cases q2 : t.kind == 1 with
 | true =>
   go_enter func173,ntmps173
   go_wp2_with fail
   refine br E1 ?_;rintro x w1 ⟨rfl,rfl⟩;go_wp2;go_ret;exact ⟨rfl,rfl⟩
 | false=>?_
 go_enter func173,ntmps173
 go_wp2_with fail
 refine br E1 ?_;rintro x w1 ⟨rfl,rfl⟩;go_wp2;go_ret;exact ⟨rfl,rfl⟩
end
def bK (l : List Int) : List Value:=l.map (Value.int .i64)
def kI (w : World) (v : Value) (l : List Int) : Prop:=∃ base,w.ownsRow base 3 1 v l.length (bK l)
theorem kI.keep {S : Nat -> Prop} {w w' : World} {v : Value} {l : List Int} (h : kI w v l) (k : Kp S w w') (hs : ∀ i cur,w.heap[i]? = some (.cells cur 3 (0,0)) -> ¬ S i) : kI w' v l:=by
 obtain ⟨base,ho⟩:=h;exact ⟨base,k.owns ho (fun i hi=>by obtain ⟨cur,hg⟩:=aR ho hi;exact hs i cur hg)⟩
theorem kI.len {w : World} {v : Value} {l : List Int} (h : kI w v l) : ∃ ao cap,v = .slice ao l.length cap:=by
 obtain ⟨base,ho⟩:=h;exact b7 ho
theorem kI.at_ {w : World} {v : Value} {l : List Int} (h : kI w v l) {k : Nat} {n : Int} (hn : l[k]? = some n) : ∃ g cap,v = .slice (some ⟨g,0,none⟩) l.length cap /\ w.cell? ⟨g,k,none⟩ = some (.int .i64 n):=by
 obtain ⟨base,ho⟩:=h;have hk:=(List.getElem?_eq_some_iff.1 hn).1;obtain ⟨g,cap,rfl⟩:=ey ho (by omega);refine ⟨g,cap,rfl,(ho.cellAt k (by omega)).trans ?_⟩;simp [bK,hn]
section
variable (w : World)
theorem nI (v : Value) (l : List Int) (n : Int) (h : kI w v l) (hl : l.length <= 100000) :
 Calls prog 175 #[v,.int .i64 n] w fun x w'=>x = .returned (.bool (l.any (· == n))) /\ w' = w:=by
 obtain ⟨ao,cap,rfl⟩:=h.len
 go_enter func175,ntmps175
 go_wp2_with fail
 go_loop [5] (fun i=>∃ k : Nat,i = .int .i64 k /\ k <= l.length /\ Hid (l.any (· == n) = (l.drop k).any (· == n))) (fun i=>l.length - (intOf i).toNat)
 case atStart=>exact ⟨0,rfl,Nat.zero_le _,hid rfl⟩
 case round =>
  obtain ⟨k,rfl,hk,HE⟩:=hrel
  by_cases hlt : k < l.length
  ·have hlt' : (k : Int) < (l.length : Int):=by omega
   obtain ⟨a,ha⟩ : ∃ s,l[k]? = some s:=⟨_,List.getElem?_eq_getElem hlt⟩
   obtain ⟨g,cap',hg,a0⟩:=h.at_ ha;simp only [Value.slice.injEq,true_and] at hg;obtain ⟨rfl,rfl⟩:=hg
   have ed : l.drop k = a :: l.drop (k + 1):=by
    rw [List.drop_eq_getElem_cons hlt];congr 1;exact (List.getElem?_eq_some_iff.1 ha).2
   cases q : a == n with
   | true =>
     have HF:=hid (HE.out.trans (show _ = true by rw [ed,List.any_cons,q];rfl));clear ed ha HE h
     go_wp2_with fail
     go_ret;exact ⟨by rw [HF.out];rfl,rfl⟩
   | false=>?_
   have HF:=hid (HE.out.trans (show _ = (l.drop (k + 1)).any (· == n) by rw [ed,List.any_cons,q];rfl));clear ed ha HE h
   go_wp2_with fail
   go_round
   case rel=>exact ⟨k + 1,by go_num,by omega,HF⟩
   case measure=>simp [intOf];omega
  have HF:=hid (HE.out.trans (show _ = false by rw [List.drop_eq_nil_of_le (by omega)];rfl))
  have hge : ¬ (k : Int) < (l.length : Int):=by omega
  clear HE
  go_wp2_with fail
  go_ret;exact ⟨by rw [HF.out];rfl,rfl⟩
end
namespace Ch
def pF (s : Sd) (st trg : Int) (t : Tr) : Bool:=(t.state == st) && (t.kG == trg) && holds s t.guard
def ec (s : Sd) (st trg : Int) : List Tr -> Nat -> Int
 | [],_=>-2
 | t :: l,k=>if pF s st trg t then k else ec s st trg l (k + 1)
def iM (ol : Ol) (s : Sd) (st trg : Int) : Int:=ec s st trg ol.bH 0
def bT (ol : Ol) (s : Sd) (trg : Int) : Nat -> Int -> Int
 | 0,_=>-2
 | f + 1,i=>if i == -1 then -2 else if iM ol s i trg != -2 then iM ol s i trg else bT ol s trg f (aq ol.ag i)
def dC (ol : Ol) (s : Sd) (leaf trg : Int) : Int:=bT ol s trg (leaf + 2).toNat leaf
theorem zO (s : Sd) (st trg : Int) : ∀ (l : List Tr) (k : Nat),ec s st trg l k = -2 \/ ∃ j : Nat,ec s st trg l k = j /\ k <= j /\ j < k + l.length:=by
 intro l
 induction l with
 | nil=>intro k;exact .inl rfl
 | cons t l ih=>?_
 intro k;simp only [ec]
 split
 ·exact .inr ⟨k,rfl,Nat.le_refl _,by simp⟩
 rcases ih (k + 1) with h | ⟨j,e,h1,h2⟩
 ·exact .inl h
 exact .inr ⟨j,e,by omega,by simp;omega⟩
theorem CM (ol : Ol) (s : Sd) (st trg : Int) : iM ol s st trg = -2 \/ ∃ j : Nat,iM ol s st trg = j /\ j < ol.bH.length:=by
 rcases zO s st trg ol.bH 0 with h | ⟨j,e,_,h2⟩
 ·exact .inl h
 exact .inr ⟨j,e,by omega⟩
theorem pG (ol : Ol) (s : Sd) (trg : Int) : ∀ (f : Nat) (i : Int),bT ol s trg f i = -2 \/ ∃ j : Nat,bT ol s trg f i = j /\ j < ol.bH.length:=by
 intro f
 induction f with
 | zero=>intro i;exact .inl rfl
 | succ f ih=>?_
 intro i;simp only [bT]
 split
 ·exact .inl rfl
 split
 ·exact CM ol s i trg
 exact ih _
end Ch
section
variable (w : World) (mb ob po : Nat) (s : Sd) (qv ov : Value) (ol : Ol)
theorem zP (st trg : Int) (hm : eF w mb ob po s qv ov) (hw : s.Wf) (hp : Pl w ob po ol) (hol : ol.Ok) :
 Calls prog 221 #[.pointer (some ⟨mb,0,none⟩),.int .i64 st,.int .u8 trg] w fun x w'=>x = .returned (.int .i64 (iM ol s st trg)) /\ Kp (fun _=>False) w w':=by
 have hl:=hol.bH
 go_enter func221,ntmps221
 go_wp2_with fail
 go_loopw [7] (fun i wr=>∃ k : Nat,i = .int .i64 k /\ k <= ol.bH.length /\ Hid (iM ol s st trg = ec s st trg (ol.bH.drop k) k) /\ Kp (fun _=>False) w wr) (fun i _=>ol.bH.length - (intOf i).toNat)
 case atStart=>exact ⟨0,rfl,Nat.zero_le _,hid rfl,Kp.refl _ _⟩
 case round =>
  obtain ⟨k,rfl,hk,HE,KW⟩:=hrel;have hmr : eF wr mb ob po s qv ov:=bM.keep hm KW (fun x=>x);have hpr : Pl wr ob po ol:=hp.keep KW (fun _ _ _ _ _ x=>x);have cp:=hmr.plan
  by_cases hlt : k < ol.bH.length
  ·have hlt' : (k : Int) < (ol.bH.length : Int):=by omega
   obtain ⟨t,ht⟩ : ∃ s,ol.bH[k]? = some s:=⟨_,List.getElem?_eq_getElem hlt⟩
   obtain ⟨g,cap,ac,base,c3,cc,hac⟩:=hpr.tr ht;obtain ⟨L6,CG,rfl⟩:=b7 hac;have a0:=cc 0 (by omega);have a1:=cc 1 (by omega);have a2:=cc 2 (by omega);have a3:=cc 3 (by omega);have a4:=cc 4 (by omega);have a5:=cc 5 (by omega);have a6:=cc 6 (by omega);simp only [List.getElem?_cons_succ,List.getElem?_cons_zero,Nat.add_zero] at a0 a1 a2 a3 a4 a5 a6
   have ed : ol.bH.drop k = t :: ol.bH.drop (k + 1):=by
    rw [List.drop_eq_getElem_cons hlt];congr 1;exact (List.getElem?_eq_some_iff.1 ht).2
   have KB : Kp (fun _=>False) wr (wr.alloc (.cells #[.int .i64 t.state,.int .u8 t.kG,.int .u8 t.guard.var,.int .u8 t.guard.sign,.int .i64 t.guard.digit,.slice L6 t.acts.length CG,.int .u8 t.target] 209)):=(Kp.refl _ _).alloc _;have KM:=KW.trans KB;have E1:=hid (CL (wr.alloc (.cells #[.int .i64 t.state,.int .u8 t.kG,.int .u8 t.guard.var,.int .u8 t.guard.sign,.int .i64 t.guard.digit,.slice L6 t.acts.length CG,.int .u8 t.target] 209)) mb ob po s qv ov t.guard (bM.keep hmr KB (fun x=>x)) hw)
   have no : pF s st trg t = false -> iM ol s st trg = ec s st trg (ol.bH.drop (k + 1)) (k + 1):=fun q=>by
    rw [HE.out,ed];simp only [ec];rw [q];rfl
   cases q1 : t.state == st with
   | false =>
     have HF:=hid (no (by unfold pF;rw [q1];rfl));clear ed HE ht cc no hac hpr hmr E1 KB
     go_wp2_with fail
     go_roundw
     case rel=>exact ⟨k + 1,by go_num,by omega,HF,KM⟩
     case measure=>simp [intOf];omega
   | true=>?_
   cases q2 : t.kG == trg with
   | false =>
     have HF:=hid (no (by unfold pF;rw [q2];simp));clear ed HE ht cc no hac hpr hmr E1 KB
     go_wp2_with fail
     go_roundw
     case rel=>exact ⟨k + 1,by go_num,by omega,HF,KM⟩
     case measure=>simp [intOf];omega
   | true=>?_
   cases q3 : Ch.holds s t.guard with
   | false =>
     rw [q3] at E1;have HF:=hid (no (by unfold pF;rw [q3];simp));clear ed HE ht cc no hac hpr hmr KB
     go_wp2_with fail
     refine br E1 ?_;rintro x w2 ⟨rfl,K2⟩;have K3:=KM.trans K2;clear E1 K2 KM a0 a1 a2 a3 a4 a5 a6 c3 cp;go_wp2
     go_roundw
     case rel=>exact ⟨k + 1,by go_num,by omega,HF,K3⟩
     case measure=>simp [intOf];omega
   | true=>?_
   rw [q3] at E1;have HF:=hid (show iM ol s st trg = (k : Int) by rw [HE.out,ed];simp only [ec];rw [if_pos (by unfold pF;rw [q1,q2,q3];rfl)]);clear ed HE ht cc no hac hpr hmr KB
   go_wp2_with fail
   refine br E1 ?_;rintro x w2 ⟨rfl,K2⟩;have K3:=KM.trans K2;clear E1 K2 KM a0 a1 a2 a3 a4 a5 a6 c3 cp;go_wp2;go_ret;exact ⟨by rw [HF.out];rfl,K3⟩
  have hge : ¬ (k : Int) < (ol.bH.length : Int):=by omega
  have HF:=hid (HE.out.trans (show _ = (-2 : Int) by rw [List.drop_eq_nil_of_le (by omega)];rfl));obtain ⟨ao,cap,c3⟩:=hpr.MI;clear HE hpr hmr
  go_wp2_with fail
  go_ret;exact ⟨by rw [HF.out];rfl,KW⟩
theorem vG (leaf trg : Int) (hlf : -1 <= leaf) (hm : eF w mb ob po s qv ov) (hw : s.Wf) (hp : Pl w ob po ol) (hol : ol.Ok) :
 Calls prog 174 #[.pointer (some ⟨mb,0,none⟩),.int .i64 leaf,.int .u8 trg] w fun x w'=>x = .returned (.int .i64 (dC ol s leaf trg)) /\ Kp (fun _=>False) w w':=by
 have hl:=hol.ag
 go_enter func174,ntmps174
 go_wp2_with fail
 go_loopw [7] (fun v wr=>∃ (i : Int) (f : Nat),v = .int .i64 i /\ -1 <= i /\ i + 2 <= (f : Int) /\ Hid (dC ol s leaf trg = bT ol s trg f i) /\ Kp (fun _=>False) w wr) (fun v _=>(intOf v + 1).toNat)
 case atStart=>exact ⟨leaf,(leaf + 2).toNat,rfl,hlf,by omega,hid rfl,Kp.refl _ _⟩
 case round =>
  obtain ⟨i,f,rfl,hi,hf,HE,KW⟩:=hrel;have hmr : eF wr mb ob po s qv ov:=bM.keep hm KW (fun x=>x);have hpr : Pl wr ob po ol:=hp.keep KW (fun _ _ _ _ _ x=>x)
  obtain ⟨f,rfl⟩ : ∃ g,f = g + 1:=⟨f - 1,by omega⟩
  cases q1 : i != -1 with
  | false =>
    have HF:=hid (HE.out.trans (show _ = (-2 : Int) by simp only [bT];rw [if_pos (by simpa using q1)]));clear HE hmr hpr
    go_wp2_with fail
    go_ret;exact ⟨by rw [HF.out];rfl,KW⟩
  | true=>?_
  have hne : i ≠ -1:=by simpa using q1
  have p1:=eZ hol.up (i:=i) (by omega);have p2:=d_ hol.up i;have E1:=hid (zP wr mb ob po s qv ov ol i trg hmr hw hpr hol)
  have q1' : ¬ (i == -1) = true:=by simpa using hne
  have HM:=hid (ae hmr hpr)
  cases q2 : iM ol s i trg != -2 with
  | true =>
    have HF:=hid (HE.out.trans (show _ = iM ol s i trg by simp only [bT];rw [if_neg q1',if_pos q2]));clear HE hmr hpr q1'
    go_wp2_with fail
    refine br E1 ?_;rintro x w2 ⟨rfl,K2⟩;have K3:=KW.trans K2;clear E1 K2 KW;go_wp2;go_ret;exact ⟨by rw [HF.out];rfl,K3⟩
  | false=>?_
  have HF:=hid (HE.out.trans (show _ = bT ol s trg f (aq ol.ag i) by simp only [bT];rw [if_neg q1',if_neg (by rw [q2];exact Bool.false_ne_true)]));clear HE hmr hpr q1'
  go_wp2_with fail
  refine br E1 ?_;rintro x w2 ⟨rfl,K2⟩;have K3:=KW.trans K2;have hp2 : Pl w2 ob po ol:=HM.out.2.keep K2 (fun _ _ _ _ _ x=>x);have cp:=eF.plan (bM.keep HM.out.1 K2 (fun x=>x));have E2:=hid (c8 ob po w2 ol.ag i hp2.str (by omega));clear E1 K2 KW HM hp2
  go_wp2_with fail
  refine br E2 ?_;rintro x w3 ⟨rfl,rfl⟩;go_wp2
  go_roundw
  case rel=>exact ⟨_,f,rfl,p2,by omega,HF,K3⟩
  case measure=>simp [intOf];omega
end
theorem nJ : (prog.info? 3).map (fun i=>(i.zero,i.size,i.bytes)) = some (some (.int .i64 0),1,8):=by kernel_rfl
namespace Ch
def vH (ol : Ol) (k : Nat) : Int:=match ol.bH[k]? with | some t=>t.state | none=>0
def within (ol : Ol) (t other : Nat) : Bool:=an ol.ag (vH ol other) (vH ol t)
def dQ (ol : Ol) (s : Sd) (trg : Int) (fl : List Int) (k : Nat) : List Int :=
 if oQ ol.ag s.act k && (dC ol s k trg != -2) && !(fl.any (· == dC ol s k trg)) then fl ++ [dC ol s k trg] else fl
def findF (ol : Ol) (s : Sd) (trg : Int) : Nat -> Nat -> List Int -> List Int
 | 0,_,fl=>fl
 | f + 1,k,fl=>findF ol s trg f (k + 1) (dQ ol s trg fl k)
def find (ol : Ol) (s : Sd) (trg : Int) : List Int:=findF ol s trg ol.ag.length 0 []
end Ch
section
variable (w : World) (mb ob po : Nat) (s : Sd) (qv ov : Value) (ol : Ol)
theorem Fc (trg : Int) (hm : eF w mb ob po s qv ov) (hw : s.Wf) (hp : Pl w ob po ol) (hol : ol.Ok) :
 Calls prog 129 #[.pointer (some ⟨mb,0,none⟩),.int .u8 trg] w fun x w'=>∃ v,x = .returned v /\ w'.ownsRow w.heap.size 3 1 v (Ch.find ol s trg).length (bK (Ch.find ol s trg)) /\ Kp (fun _=>False) w w':=by
 have hl:=hol.ag;obtain ⟨i0,hi,hz0,hz1,hz2⟩:=info_parts nJ
 go_enter func129,ntmps129
 go_wp2_with fail
 go_loopw [5,6] (fun fv i wr=>∃ (k : Nat) (fl : List Int),i = .int .i64 k /\ k <= ol.ag.length /\ wr.ownsRow w.heap.size 3 1 fv fl.length (bK fl) /\ fl.length <= k /\ Hid (Ch.find ol s trg = Ch.findF ol s trg (ol.ag.length - k) k fl) /\ Kp (fun _=>False) w wr) (fun _ i _=>ol.ag.length - (intOf i).toNat)
 case atStart=>exact ⟨0,[],rfl,Nat.zero_le _,World.ownsRow_nil _ _ _ _,Nat.le_refl _,hid rfl,Kp.refl _ _⟩
 case round =>
  obtain ⟨k,fl,rfl,hk,hfo,hfl,HE,KW⟩:=hrel;have hmr : eF wr mb ob po s qv ov:=bM.keep hm KW (fun x=>x);have hpr : Pl wr ob po ol:=hp.keep KW (fun _ _ _ _ _ x=>x);have cp:=hmr.plan;obtain ⟨ao,cap,c2⟩:=hpr.str.len
  by_cases hlt : k < ol.ag.length
  ·have hlt' : (k : Int) < (ol.ag.length : Int):=by omega
   have ef : ol.ag.length - k = (ol.ag.length - (k + 1)) + 1:=by omega
   have E1:=hid (zN wr mb ob po s qv ov ol k hmr hw hpr hlt);have E2:=hid (vG wr mb ob po s qv ov ol k trg (by omega) hmr hw hpr hol)
   have no : dQ ol s trg fl k = fl -> Ch.find ol s trg = Ch.findF ol s trg (ol.ag.length - (k + 1)) (k + 1) fl:=fun q=>by
    rw [HE.out,ef];simp only [Ch.findF];rw [q]
   cases q1 : oQ ol.ag s.act k with
   | false =>
     rw [q1] at E1;have HF:=hid (no (by unfold dQ;rw [q1];rfl));clear HE no ef hmr hpr E2
     go_wp2_with fail
     refine br E1 ?_;rintro x w1 ⟨rfl,rfl⟩;go_wp2
     go_roundw
     case rel=>exact ⟨k + 1,fl,by go_num,by omega,hfo,by omega,HF,KW⟩
     case measure=>simp [intOf];omega
   | true=>?_
   rw [q1] at E1
   cases q2 : dC ol s k trg != -2 with
   | false =>
     have HF:=hid (no (by unfold dQ;rw [q1,q2];rfl));clear HE no ef hmr hpr
     go_wp2_with fail
     refine br E1 ?_;rintro x w1 ⟨rfl,rfl⟩
     go_wp2_with fail
     refine br E2 ?_;rintro x w2 ⟨rfl,K2⟩;have K3:=KW.trans K2;have vJ:=K2.owns hfo (fun _ _ x=>x);clear E1 E2 K2 KW cp c2 hfo;go_wp2
     go_roundw
     case rel=>exact ⟨k + 1,fl,by go_num,by omega,vJ,by omega,HF,K3⟩
     case measure=>simp [intOf];omega
   | true=>?_
   cases q3 : fl.any (· == dC ol s k trg) with
   | true =>
     have HF:=hid (no (by unfold dQ;rw [q1,q2,q3];rfl));clear HE no ef hmr hpr
     go_wp2_with fail
     refine br E1 ?_;rintro x w1 ⟨rfl,rfl⟩
     go_wp2_with fail
     refine br E2 ?_;rintro x w2 ⟨rfl,K2⟩;have K3:=KW.trans K2;have vJ:=K2.owns hfo (fun _ _ x=>x);have E3:=hid (nI w2 u5 fl (dC ol s k trg) ⟨_,vJ⟩ (by omega));rw [q3] at E3;clear E1 E2 K2 KW cp c2 hfo
     go_wp2_with fail
     refine br E3 ?_;rintro x w3 ⟨rfl,rfl⟩;go_wp2
     go_roundw
     case rel=>exact ⟨k + 1,fl,by go_num,by omega,vJ,by omega,HF,K3⟩
     case measure=>simp [intOf];omega
   | false=>?_
   have HF:=hid (show Ch.find ol s trg = Ch.findF ol s trg (ol.ag.length - (k + 1)) (k + 1) (fl ++ [dC ol s k trg]) by
    rw [HE.out,ef];simp only [Ch.findF];congr 1;unfold dQ;rw [q1,q2,q3];rfl)
   clear HE no ef hmr hpr
   go_wp2_with fail
   refine br E1 ?_;rintro x w1 ⟨rfl,rfl⟩
   go_wp2_with fail
   refine br E2 ?_;rintro x w2 ⟨rfl,K2⟩;have K3:=KW.trans K2;have vJ:=K2.owns hfo (fun _ _ x=>x);have E3:=hid (nI w2 u5 fl (dC ol s k trg) ⟨_,vJ⟩ (by omega));rw [q3] at E3;clear E1 E2 K2 KW cp c2 hfo
   go_wp2_with fail
   refine br E3 ?_;rintro x w3 ⟨rfl,rfl⟩;clear E3
   go_wp2_with (at_builtin;refine wpList_append_own _ rfl (.tmp 36) (.tmp 38) 38 rfl w.heap.size 3 i0 (.int .i64 0) 1 8 underlying38 hi hz0 hz1 hz2 rfl (by decide) _ _ _ rfl (vJ.alloc _) ⟨w3.heap.size,0,none⟩ 1 1 [.int .i64 (dC ol s k trg)] rfl rfl ?c1 ?c2 ?c3 ?c4 ?c5 ?_)
   case c1=>exact fm _ _ _
   case c2=>intro u hu;simp at hu;subst hu;rfl
   case c3=>unfold maxLen;omega
   case c4=>omega
   case c5=>have:=K3.size;simp;omega
   intro v4 w4 o4 g4 _;have K4 : Kp (fun _=>False) w w4:=Kp.grown (K3.alloc _) g4 (fun i hi hlt=>by have:=(vJ.lt i hi).1;omega);clear g4 K3 vJ;go_wp2
   go_roundw
   case rel=>exact ⟨k + 1,_,by go_num,by omega,by simpa [bK] using o4,by simp;omega,HF,K4⟩
   case measure=>simp [intOf];omega
  have hge : ¬ (k : Int) < (ol.ag.length : Int):=by omega
  have HF:=hid (HE.out.trans (show _ = fl by rw [show ol.ag.length - k = 0 by omega];rfl));clear HE hpr hmr
  go_wp2_with fail
  go_ret;rw [HF.out];exact ⟨_,rfl,hfo,KW⟩
end
end Go.Proofs.YtnlbchmfcebeeaaGreat
