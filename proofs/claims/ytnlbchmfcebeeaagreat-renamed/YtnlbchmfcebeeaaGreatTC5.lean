import Derived.Test.YtnlbchmfcebeeaaGreatTC4
set_option maxHeartbeats 12800000
set_option maxRecDepth 100000
namespace Go.Proofs.YtnlbchmfcebeeaaGreat
open Go.RowKit
namespace Ch
def holds (s : Sd) (g : Gd) : Bool :=
 if g.sign == 60 then decide (var s g.var < g.digit) else if g.sign == 61 then var s g.var == g.digit else if g.sign == 62 then decide (g.digit < var s g.var) else true
def isLeaf (ss : List St) (act : List Bool) (k : Nat) : Bool:=has act (k : Int) && (kindAt ss k == 1 || kindAt ss k == 4)
end Ch
section
variable (w : World) (mb ob po : Nat) (s : Ch.Sd) (qv ov : Value) (ol : Ch.Ol)
theorem holds_any (g : Ch.Gd) (hm : MaB w mb ob po s qv ov) (hw : s.Wf) :
 Calls Tryz.prog 255 #[.pointer (some ⟨mb,0,none⟩),.agg #[.int .u8 g.var,.int .u8 g.sign,.int .i64 g.digit]] w fun x w'=>x = .returned (.bool (Ch.holds s g)) ∧ Kp (fun _=>False) w w':=by
 have K1 : Kp (fun _=>False) w (w.alloc (.cells #[.int .u8 g.var,.int .u8 g.sign,.int .i64 g.digit] 206)):=(Kp.refl _ _).alloc _;have e1:=heap_alloc_new w (.cells #[.int .u8 g.var,.int .u8 g.sign,.int .i64 g.digit] 206);have hm1 : MaB (w.alloc (.cells #[.int .u8 g.var,.int .u8 g.sign,.int .i64 g.digit] 206)) mb ob po s qv ov:=SdB.keep hm K1 (fun x=>x)
 have c0 : (w.alloc (.cells #[.int .u8 g.var,.int .u8 g.sign,.int .i64 g.digit] 206)).cell? ⟨w.heap.size,0,none⟩ = some (.int .u8 g.var):=by rw [World.cell?,e1];rfl
 have c1 : (w.alloc (.cells #[.int .u8 g.var,.int .u8 g.sign,.int .i64 g.digit] 206)).cell? ⟨w.heap.size,1,none⟩ = some (.int .u8 g.sign):=by rw [World.cell?,e1];rfl
 have c2 : (w.alloc (.cells #[.int .u8 g.var,.int .u8 g.sign,.int .i64 g.digit] 206)).cell? ⟨w.heap.size,2,none⟩ = some (.int .i64 g.digit):=by rw [World.cell?,e1];rfl
 have E1:=hid (variable_any ((w.alloc (.cells #[.int .u8 g.var,.int .u8 g.sign,.int .i64 g.digit] 206))).drew mb 1 [.pointer (some ⟨ob,po,none⟩)] s [qv,ov] 149 g.var (by exact hm1) hw rfl);have HK:=hid K1.drew;clear hm hm1 e1 K1
 have nv : Ch.holds s g = if g.sign == 60 then decide (Ch.var s g.var < g.digit) else if g.sign == 61 then Ch.var s g.var == g.digit else if g.sign == 62 then decide (g.digit < Ch.var s g.var) else true:=rfl
 cases q1 : g.sign == 60 with
 | true =>
   rw [show Ch.holds s g = decide (Ch.var s g.var < g.digit) by rw [nv,q1];rfl];clear nv
   go_enter Tryz.func255,Tryz.ntmps255
   go_upto_region 1 with (fail)
   generalize (w.alloc (.cells #[.int .u8 g.var,.int .u8 g.sign,.int .i64 g.digit] 206)) = w1 at *
   go_region_with (go_at_call 257;refine cMo E1 ?_;rintro x w2 ⟨rfl,rfl⟩)
   all_goals
    go_wp2;go_ret;exact ⟨rfl,HK.out⟩
 | false=>?_
 cases q2 : g.sign == 61 with
 | true =>
   rw [show Ch.holds s g = (Ch.var s g.var == g.digit) by rw [nv,q1,q2];rfl];clear nv
   go_enter Tryz.func255,Tryz.ntmps255
   go_upto_region 1 with (fail)
   generalize (w.alloc (.cells #[.int .u8 g.var,.int .u8 g.sign,.int .i64 g.digit] 206)) = w1 at *
   go_region_with (go_at_call 257;refine cMo E1 ?_;rintro x w2 ⟨rfl,rfl⟩)
   all_goals
    go_wp2;go_ret;exact ⟨rfl,HK.out⟩
 | false=>?_
 cases q3 : g.sign == 62 with
 | true =>
   rw [show Ch.holds s g = decide (g.digit < Ch.var s g.var) by rw [nv,q1,q2,q3];rfl];clear nv
   go_enter Tryz.func255,Tryz.ntmps255
   go_upto_region 1 with (fail)
   generalize (w.alloc (.cells #[.int .u8 g.var,.int .u8 g.sign,.int .i64 g.digit] 206)) = w1 at *
   go_region_with (go_at_call 257;refine cMo E1 ?_;rintro x w2 ⟨rfl,rfl⟩)
   all_goals
    go_wp2;go_ret;exact ⟨rfl,HK.out⟩
 | false=>?_
 rw [show Ch.holds s g = true by rw [nv,q1,q2,q3];rfl];clear nv
 go_enter Tryz.func255,Tryz.ntmps255
 go_upto_region 1 with (fail)
 generalize (w.alloc (.cells #[.int .u8 g.var,.int .u8 g.sign,.int .i64 g.digit] 206)) = w1 at *
 go_region_with (go_at_call 257;refine cMo E1 ?_;rintro x w2 ⟨rfl,rfl⟩)
 all_goals
  go_wp2;go_ret;exact ⟨rfl,HK.out⟩
theorem isLeaf_any (k : Nat) (hm : MaB w mb ob po s qv ov) (hw : s.Wf) (hp : Pl w ob po ol) (hk : k < ol.sts.length) :
 Calls Tryz.prog 173 #[.pointer (some ⟨mb,0,none⟩),.int .i64 k] w fun x w'=>x = .returned (.bool (Ch.isLeaf ol.sts s.act k)) ∧ w' = w:=by
 obtain ⟨t,ht⟩ : ∃ s,ol.sts[k]? = some s:=⟨_,List.getElem?_eq_getElem hk⟩
 have hkl : (k : Int) < (ol.sts.length : Int):=by omega
 have cp:=hm.plan;obtain ⟨g,cap,c2,a0,a1,a2,a3⟩:=hp.str.at_ ht
 have hkd : Ch.kindAt ol.sts k = t.kind:=by simp [Ch.kindAt,Ch.stAt_nat,ht]
 have E1:=hid (has_any w mb 1 [.pointer (some ⟨ob,po,none⟩)] s.act (sdTail s ++ [qv,ov]) 149 k hm hw.1 rfl)
 have nv : Ch.isLeaf ol.sts s.act k = (Ch.has s.act (k : Int) && (t.kind == 1 || t.kind == 4)):=by unfold Ch.isLeaf;rw [hkd]
 rw [nv];clear nv hkd hm hp ht
 cases q1 : Ch.has s.act (k : Int) with
 | false =>
   rw [q1] at E1
   go_enter Tryz.func173,Tryz.ntmps173
   go_wp2_with fail
   refine cMo E1 ?_;rintro x w1 ⟨rfl,rfl⟩;go_wp2;go_ret;exact ⟨rfl,rfl⟩
 | true=>?_
 rw [q1] at E1
 cases q2 : t.kind == 1 with
 | true =>
   go_enter Tryz.func173,Tryz.ntmps173
   go_wp2_with fail
   refine cMo E1 ?_;rintro x w1 ⟨rfl,rfl⟩;go_wp2;go_ret;exact ⟨rfl,rfl⟩
 | false=>?_
 go_enter Tryz.func173,Tryz.ntmps173
 go_wp2_with fail
 refine cMo E1 ?_;rintro x w1 ⟨rfl,rfl⟩;go_wp2;go_ret;exact ⟨rfl,rfl⟩
end
def inCells (l : List Int) : List Value:=l.map (Value.int .i64)
def InR (w : World) (v : Value) (l : List Int) : Prop:=∃ base,w.ownsRow base 3 1 v l.length (inCells l)
theorem InR.keep {S : Nat → Prop} {w w' : World} {v : Value} {l : List Int} (h : InR w v l) (k : Kp S w w') (hs : ∀ i cur,w.heap[i]? = some (.cells cur 3 (0,0)) → ¬ S i) : InR w' v l:=by
 obtain ⟨base,ho⟩:=h;exact ⟨base,k.owns ho (fun i hi=>by obtain ⟨cur,hg⟩:=own_block ho hi;exact hs i cur hg)⟩
theorem InR.len {w : World} {v : Value} {l : List Int} (h : InR w v l) : ∃ ao cap,v = .slice ao l.length cap:=by
 obtain ⟨base,ho⟩:=h;exact own_len ho
theorem InR.at_ {w : World} {v : Value} {l : List Int} (h : InR w v l) {k : Nat} {n : Int} (hn : l[k]? = some n) : ∃ g cap,v = .slice (some ⟨g,0,none⟩) l.length cap ∧ w.cell? ⟨g,k,none⟩ = some (.int .i64 n):=by
 obtain ⟨base,ho⟩:=h;have hk:=(List.getElem?_eq_some_iff.1 hn).1;obtain ⟨g,cap,rfl⟩:=own_form ho (by omega);refine ⟨g,cap,rfl,(ho.cellAt k (by omega)).trans ?_⟩;simp [inCells,hn]
section
variable (w : World)
theorem contains_any (v : Value) (l : List Int) (n : Int) (h : InR w v l) (hl : l.length ≤ 100000) :
 Calls Tryz.prog 175 #[v,.int .i64 n] w fun x w'=>x = .returned (.bool (l.any (· == n))) ∧ w' = w:=by
 obtain ⟨ao,cap,rfl⟩:=h.len
 go_enter Tryz.func175,Tryz.ntmps175
 go_wp2_with fail
 go_loop [5] (fun i=>∃ k : Nat,i = .int .i64 k ∧ k ≤ l.length ∧ Hid (l.any (· == n) = (l.drop k).any (· == n))) (fun i=>l.length - (intOf i).toNat)
 case atStart=>exact ⟨0,rfl,Nat.zero_le _,hid rfl⟩
 case round =>
  obtain ⟨k,rfl,hk,HE⟩:=hrel
  by_cases hlt : k < l.length
  ·have hlt' : (k : Int) < (l.length : Int):=by omega
   obtain ⟨a,ha⟩ : ∃ s,l[k]? = some s:=⟨_,List.getElem?_eq_getElem hlt⟩
   obtain ⟨g,cap',hg,a0⟩:=h.at_ ha;simp only [Value.slice.injEq,true_and] at hg;obtain ⟨rfl,rfl⟩:=hg
   have ed : l.drop k = a :: l.drop (k + 1):=by
    rw [List.drop_eq_getElem_cons hlt];congr 1;exact (List.getElem?_eq_some_iff.1 ha).2
   cases q : a == n with
   | true =>
     have HF:=hid (HE.out.trans (show _ = true by rw [ed,List.any_cons,q];rfl));clear ed ha HE h
     go_wp2_with fail
     go_ret;exact ⟨by rw [HF.out];rfl,rfl⟩
   | false=>?_
   have HF:=hid (HE.out.trans (show _ = (l.drop (k + 1)).any (· == n) by rw [ed,List.any_cons,q];rfl));clear ed ha HE h
   go_wp2_with fail
   go_round
   case rel=>exact ⟨k + 1,by go_num,by omega,HF⟩
   case measure=>simp [intOf];omega
  have HF:=hid (HE.out.trans (show _ = false by rw [List.drop_eq_nil_of_le (by omega)];rfl))
  have hge : ¬ (k : Int) < (l.length : Int):=by omega
  clear HE
  go_wp2_with fail
  go_ret;exact ⟨by rw [HF.out];rfl,rfl⟩
end
namespace Ch
def findP (s : Sd) (st trg : Int) (t : Tr) : Bool:=(t.state == st) && (t.trig == trg) && holds s t.guard
def findInF (s : Sd) (st trg : Int) : List Tr → Nat → Int
 | [],_=>-2
 | t :: l,k=>if findP s st trg t then k else findInF s st trg l (k + 1)
def findIn (ol : Ol) (s : Sd) (st trg : Int) : Int:=findInF s st trg ol.trs 0
def findFromF (ol : Ol) (s : Sd) (trg : Int) : Nat → Int → Int
 | 0,_=>-2
 | f + 1,i=>if i == -1 then -2 else if findIn ol s i trg != -2 then findIn ol s i trg else findFromF ol s trg f (parAt ol.sts i)
def findFrom (ol : Ol) (s : Sd) (leaf trg : Int) : Int:=findFromF ol s trg (leaf + 2).toNat leaf
theorem findInF_at (s : Sd) (st trg : Int) : ∀ (l : List Tr) (k : Nat),findInF s st trg l k = -2 ∨ ∃ j : Nat,findInF s st trg l k = j ∧ k ≤ j ∧ j < k + l.length:=by
 intro l
 induction l with
 | nil=>intro k;exact .inl rfl
 | cons t l ih=>?_
 intro k;simp only [findInF]
 split
 ·exact .inr ⟨k,rfl,Nat.le_refl _,by simp⟩
 rcases ih (k + 1) with h | ⟨j,e,h1,h2⟩
 ·exact .inl h
 exact .inr ⟨j,e,by omega,by simp;omega⟩
theorem findIn_at (ol : Ol) (s : Sd) (st trg : Int) : findIn ol s st trg = -2 ∨ ∃ j : Nat,findIn ol s st trg = j ∧ j < ol.trs.length:=by
 rcases findInF_at s st trg ol.trs 0 with h | ⟨j,e,_,h2⟩
 ·exact .inl h
 exact .inr ⟨j,e,by omega⟩
theorem findFrom_at (ol : Ol) (s : Sd) (trg : Int) : ∀ (f : Nat) (i : Int),findFromF ol s trg f i = -2 ∨ ∃ j : Nat,findFromF ol s trg f i = j ∧ j < ol.trs.length:=by
 intro f
 induction f with
 | zero=>intro i;exact .inl rfl
 | succ f ih=>?_
 intro i;simp only [findFromF]
 split
 ·exact .inl rfl
 split
 ·exact findIn_at ol s i trg
 exact ih _
end Ch
section
variable (w : World) (mb ob po : Nat) (s : Ch.Sd) (qv ov : Value) (ol : Ch.Ol)
theorem findIn_any (st trg : Int) (hm : MaB w mb ob po s qv ov) (hw : s.Wf) (hp : Pl w ob po ol) (hol : ol.Ok) :
 Calls Tryz.prog 221 #[.pointer (some ⟨mb,0,none⟩),.int .i64 st,.int .u8 trg] w fun x w'=>x = .returned (.int .i64 (Ch.findIn ol s st trg)) ∧ Kp (fun _=>False) w w':=by
 have hl:=hol.trs
 go_enter Tryz.func221,Tryz.ntmps221
 go_wp2_with fail
 go_loopw [7] (fun i wr=>∃ k : Nat,i = .int .i64 k ∧ k ≤ ol.trs.length ∧ Hid (Ch.findIn ol s st trg = Ch.findInF s st trg (ol.trs.drop k) k) ∧ Kp (fun _=>False) w wr) (fun i _=>ol.trs.length - (intOf i).toNat)
 case atStart=>exact ⟨0,rfl,Nat.zero_le _,hid rfl,Kp.refl _ _⟩
 case round =>
  obtain ⟨k,rfl,hk,HE,KW⟩:=hrel;have hmr : MaB wr mb ob po s qv ov:=SdB.keep hm KW (fun x=>x);have hpr : Pl wr ob po ol:=hp.keep KW (fun _ _ _ _ _ x=>x);have cp:=hmr.plan
  by_cases hlt : k < ol.trs.length
  ·have hlt' : (k : Int) < (ol.trs.length : Int):=by omega
   obtain ⟨t,ht⟩ : ∃ s,ol.trs[k]? = some s:=⟨_,List.getElem?_eq_getElem hlt⟩
   obtain ⟨g,cap,ac,base,c3,cc,hac⟩:=hpr.tr ht;obtain ⟨aco,acap,rfl⟩:=own_len hac;have a0:=cc 0 (by omega);have a1:=cc 1 (by omega);have a2:=cc 2 (by omega);have a3:=cc 3 (by omega);have a4:=cc 4 (by omega);have a5:=cc 5 (by omega);have a6:=cc 6 (by omega);simp only [List.getElem?_cons_succ,List.getElem?_cons_zero,Nat.add_zero] at a0 a1 a2 a3 a4 a5 a6
   have ed : ol.trs.drop k = t :: ol.trs.drop (k + 1):=by
    rw [List.drop_eq_getElem_cons hlt];congr 1;exact (List.getElem?_eq_some_iff.1 ht).2
   have KB : Kp (fun _=>False) wr (wr.alloc (.cells #[.int .i64 t.state,.int .u8 t.trig,.int .u8 t.guard.var,.int .u8 t.guard.sign,.int .i64 t.guard.digit,.slice aco t.acts.length acap,.int .u8 t.target] 209)):=(Kp.refl _ _).alloc _;have KM:=KW.trans KB;have E1:=hid (holds_any (wr.alloc (.cells #[.int .i64 t.state,.int .u8 t.trig,.int .u8 t.guard.var,.int .u8 t.guard.sign,.int .i64 t.guard.digit,.slice aco t.acts.length acap,.int .u8 t.target] 209)) mb ob po s qv ov t.guard (SdB.keep hmr KB (fun x=>x)) hw)
   have no : Ch.findP s st trg t = false → Ch.findIn ol s st trg = Ch.findInF s st trg (ol.trs.drop (k + 1)) (k + 1):=fun q=>by
    rw [HE.out,ed];simp only [Ch.findInF];rw [q];rfl
   cases q1 : t.state == st with
   | false =>
     have HF:=hid (no (by unfold Ch.findP;rw [q1];rfl));clear ed HE ht cc no hac hpr hmr E1 KB
     go_wp2_with fail
     go_roundw
     case rel=>exact ⟨k + 1,by go_num,by omega,HF,KM⟩
     case measure=>simp [intOf];omega
   | true=>?_
   cases q2 : t.trig == trg with
   | false =>
     have HF:=hid (no (by unfold Ch.findP;rw [q2];simp));clear ed HE ht cc no hac hpr hmr E1 KB
     go_wp2_with fail
     go_roundw
     case rel=>exact ⟨k + 1,by go_num,by omega,HF,KM⟩
     case measure=>simp [intOf];omega
   | true=>?_
   cases q3 : Ch.holds s t.guard with
   | false =>
     rw [q3] at E1;have HF:=hid (no (by unfold Ch.findP;rw [q3];simp));clear ed HE ht cc no hac hpr hmr KB
     go_wp2_with fail
     refine cMo E1 ?_;rintro x w2 ⟨rfl,K2⟩;have K3:=KM.trans K2;clear E1 K2 KM a0 a1 a2 a3 a4 a5 a6 c3 cp;go_wp2
     go_roundw
     case rel=>exact ⟨k + 1,by go_num,by omega,HF,K3⟩
     case measure=>simp [intOf];omega
   | true=>?_
   rw [q3] at E1;have HF:=hid (show Ch.findIn ol s st trg = (k : Int) by rw [HE.out,ed];simp only [Ch.findInF];rw [if_pos (by unfold Ch.findP;rw [q1,q2,q3];rfl)]);clear ed HE ht cc no hac hpr hmr KB
   go_wp2_with fail
   refine cMo E1 ?_;rintro x w2 ⟨rfl,K2⟩;have K3:=KM.trans K2;clear E1 K2 KM a0 a1 a2 a3 a4 a5 a6 c3 cp;go_wp2;go_ret;exact ⟨by rw [HF.out];rfl,K3⟩
  have hge : ¬ (k : Int) < (ol.trs.length : Int):=by omega
  have HF:=hid (HE.out.trans (show _ = (-2 : Int) by rw [List.drop_eq_nil_of_le (by omega)];rfl));obtain ⟨ao,cap,c3⟩:=hpr.trLen;clear HE hpr hmr
  go_wp2_with fail
  go_ret;exact ⟨by rw [HF.out];rfl,KW⟩
theorem findFrom_any (leaf trg : Int) (hlf : -1 ≤ leaf) (hm : MaB w mb ob po s qv ov) (hw : s.Wf) (hp : Pl w ob po ol) (hol : ol.Ok) :
 Calls Tryz.prog 174 #[.pointer (some ⟨mb,0,none⟩),.int .i64 leaf,.int .u8 trg] w fun x w'=>x = .returned (.int .i64 (Ch.findFrom ol s leaf trg)) ∧ Kp (fun _=>False) w w':=by
 have hl:=hol.sts
 go_enter Tryz.func174,Tryz.ntmps174
 go_wp2_with fail
 go_loopw [7] (fun v wr=>∃ (i : Int) (f : Nat),v = .int .i64 i ∧ -1 ≤ i ∧ i + 2 ≤ (f : Int) ∧ Hid (Ch.findFrom ol s leaf trg = Ch.findFromF ol s trg f i) ∧ Kp (fun _=>False) w wr) (fun v _=>(intOf v + 1).toNat)
 case atStart=>exact ⟨leaf,(leaf + 2).toNat,rfl,hlf,by omega,hid rfl,Kp.refl _ _⟩
 case round =>
  obtain ⟨i,f,rfl,hi,hf,HE,KW⟩:=hrel;have hmr : MaB wr mb ob po s qv ov:=SdB.keep hm KW (fun x=>x);have hpr : Pl wr ob po ol:=hp.keep KW (fun _ _ _ _ _ x=>x)
  obtain ⟨f,rfl⟩ : ∃ g,f = g + 1:=⟨f - 1,by omega⟩
  cases q1 : i != -1 with
  | false =>
    have HF:=hid (HE.out.trans (show _ = (-2 : Int) by simp only [Ch.findFromF];rw [if_pos (by simpa using q1)]));clear HE hmr hpr
    go_wp2_with fail
    go_ret;exact ⟨by rw [HF.out];rfl,KW⟩
  | true=>?_
  have hne : i ≠ -1:=by simpa using q1
  have p1:=Ch.par_lt hol.up (i:=i) (by omega);have p2:=Ch.par_low hol.up i;have E1:=hid (findIn_any wr mb ob po s qv ov ol i trg hmr hw hpr hol)
  have q1' : ¬ (i == -1) = true:=by simpa using hne
  have HM:=hid (And.intro hmr hpr)
  cases q2 : Ch.findIn ol s i trg != -2 with
  | true =>
    have HF:=hid (HE.out.trans (show _ = Ch.findIn ol s i trg by simp only [Ch.findFromF];rw [if_neg q1',if_pos q2]));clear HE hmr hpr q1'
    go_wp2_with fail
    refine cMo E1 ?_;rintro x w2 ⟨rfl,K2⟩;have K3:=KW.trans K2;clear E1 K2 KW;go_wp2;go_ret;exact ⟨by rw [HF.out];rfl,K3⟩
  | false=>?_
  have HF:=hid (HE.out.trans (show _ = Ch.findFromF ol s trg f (Ch.parAt ol.sts i) by simp only [Ch.findFromF];rw [if_neg q1',if_neg (by rw [q2];exact Bool.false_ne_true)]));clear HE hmr hpr q1'
  go_wp2_with fail
  refine cMo E1 ?_;rintro x w2 ⟨rfl,K2⟩;have K3:=KW.trans K2;have hp2 : Pl w2 ob po ol:=HM.out.2.keep K2 (fun _ _ _ _ _ x=>x);have cp:=MaB.plan (SdB.keep HM.out.1 K2 (fun x=>x));have E2:=hid (parent_any ob po w2 ol.sts i hp2.str (by omega));clear E1 K2 KW HM hp2
  go_wp2_with fail
  refine cMo E2 ?_;rintro x w3 ⟨rfl,rfl⟩;go_wp2
  go_roundw
  case rel=>exact ⟨_,f,rfl,p2,by omega,HF,K3⟩
  case measure=>simp [intOf];omega
end
theorem Tryz.infoInt : (Tryz.prog.info? 3).map (fun i=>(i.zero,i.size,i.bytes)) = some (some (.int .i64 0),1,8):=by kernel_rfl
namespace Ch
def stateOf (ol : Ol) (k : Nat) : Int:=match ol.trs[k]? with | some t=>t.state | none=>0
def within (ol : Ol) (t other : Nat) : Bool:=isAbove ol.sts (stateOf ol other) (stateOf ol t)
def findStep (ol : Ol) (s : Sd) (trg : Int) (fl : List Int) (k : Nat) : List Int :=
 if isLeaf ol.sts s.act k && (findFrom ol s k trg != -2) && !(fl.any (· == findFrom ol s k trg)) then fl ++ [findFrom ol s k trg] else fl
def findF (ol : Ol) (s : Sd) (trg : Int) : Nat → Nat → List Int → List Int
 | 0,_,fl=>fl
 | f + 1,k,fl=>findF ol s trg f (k + 1) (findStep ol s trg fl k)
def find (ol : Ol) (s : Sd) (trg : Int) : List Int:=findF ol s trg ol.sts.length 0 []
end Ch
section
variable (w : World) (mb ob po : Nat) (s : Ch.Sd) (qv ov : Value) (ol : Ch.Ol)
theorem find_any (trg : Int) (hm : MaB w mb ob po s qv ov) (hw : s.Wf) (hp : Pl w ob po ol) (hol : ol.Ok) :
 Calls Tryz.prog 129 #[.pointer (some ⟨mb,0,none⟩),.int .u8 trg] w fun x w'=>∃ v,x = .returned v ∧ w'.ownsRow w.heap.size 3 1 v (Ch.find ol s trg).length (inCells (Ch.find ol s trg)) ∧ Kp (fun _=>False) w w':=by
 have hl:=hol.sts;obtain ⟨i0,hi,hz0,hz1,hz2⟩:=info_parts Tryz.infoInt
 go_enter Tryz.func129,Tryz.ntmps129
 go_wp2_with fail
 go_loopw [5,6] (fun fv i wr=>∃ (k : Nat) (fl : List Int),i = .int .i64 k ∧ k ≤ ol.sts.length ∧ wr.ownsRow w.heap.size 3 1 fv fl.length (inCells fl) ∧ fl.length ≤ k ∧ Hid (Ch.find ol s trg = Ch.findF ol s trg (ol.sts.length - k) k fl) ∧ Kp (fun _=>False) w wr) (fun _ i _=>ol.sts.length - (intOf i).toNat)
 case atStart=>exact ⟨0,[],rfl,Nat.zero_le _,World.ownsRow_nil _ _ _ _,Nat.le_refl _,hid rfl,Kp.refl _ _⟩
 case round =>
  obtain ⟨k,fl,rfl,hk,hfo,hfl,HE,KW⟩:=hrel;have hmr : MaB wr mb ob po s qv ov:=SdB.keep hm KW (fun x=>x);have hpr : Pl wr ob po ol:=hp.keep KW (fun _ _ _ _ _ x=>x);have cp:=hmr.plan;obtain ⟨ao,cap,c2⟩:=hpr.str.len
  by_cases hlt : k < ol.sts.length
  ·have hlt' : (k : Int) < (ol.sts.length : Int):=by omega
   have ef : ol.sts.length - k = (ol.sts.length - (k + 1)) + 1:=by omega
   have E1:=hid (isLeaf_any wr mb ob po s qv ov ol k hmr hw hpr hlt);have E2:=hid (findFrom_any wr mb ob po s qv ov ol k trg (by omega) hmr hw hpr hol)
   have no : Ch.findStep ol s trg fl k = fl → Ch.find ol s trg = Ch.findF ol s trg (ol.sts.length - (k + 1)) (k + 1) fl:=fun q=>by
    rw [HE.out,ef];simp only [Ch.findF];rw [q]
   cases q1 : Ch.isLeaf ol.sts s.act k with
   | false =>
     rw [q1] at E1;have HF:=hid (no (by unfold Ch.findStep;rw [q1];rfl));clear HE no ef hmr hpr E2
     go_wp2_with fail
     refine cMo E1 ?_;rintro x w1 ⟨rfl,rfl⟩;go_wp2
     go_roundw
     case rel=>exact ⟨k + 1,fl,by go_num,by omega,hfo,by omega,HF,KW⟩
     case measure=>simp [intOf];omega
   | true=>?_
   rw [q1] at E1
   cases q2 : Ch.findFrom ol s k trg != -2 with
   | false =>
     have HF:=hid (no (by unfold Ch.findStep;rw [q1,q2];rfl));clear HE no ef hmr hpr
     go_wp2_with fail
     refine cMo E1 ?_;rintro x w1 ⟨rfl,rfl⟩
     go_wp2_with fail
     refine cMo E2 ?_;rintro x w2 ⟨rfl,K2⟩;have K3:=KW.trans K2;have hfo2:=K2.owns hfo (fun _ _ x=>x);clear E1 E2 K2 KW cp c2 hfo;go_wp2
     go_roundw
     case rel=>exact ⟨k + 1,fl,by go_num,by omega,hfo2,by omega,HF,K3⟩
     case measure=>simp [intOf];omega
   | true=>?_
   cases q3 : fl.any (· == Ch.findFrom ol s k trg) with
   | true =>
     have HF:=hid (no (by unfold Ch.findStep;rw [q1,q2,q3];rfl));clear HE no ef hmr hpr
     go_wp2_with fail
     refine cMo E1 ?_;rintro x w1 ⟨rfl,rfl⟩
     go_wp2_with fail
     refine cMo E2 ?_;rintro x w2 ⟨rfl,K2⟩;have K3:=KW.trans K2;have hfo2:=K2.owns hfo (fun _ _ x=>x);have E3:=hid (contains_any w2 u5 fl (Ch.findFrom ol s k trg) ⟨_,hfo2⟩ (by omega));rw [q3] at E3;clear E1 E2 K2 KW cp c2 hfo
     go_wp2_with fail
     refine cMo E3 ?_;rintro x w3 ⟨rfl,rfl⟩;go_wp2
     go_roundw
     case rel=>exact ⟨k + 1,fl,by go_num,by omega,hfo2,by omega,HF,K3⟩
     case measure=>simp [intOf];omega
   | false=>?_
   have HF:=hid (show Ch.find ol s trg = Ch.findF ol s trg (ol.sts.length - (k + 1)) (k + 1) (fl ++ [Ch.findFrom ol s k trg]) by
    rw [HE.out,ef];simp only [Ch.findF];congr 1;unfold Ch.findStep;rw [q1,q2,q3];rfl)
   clear HE no ef hmr hpr
   go_wp2_with fail
   refine cMo E1 ?_;rintro x w1 ⟨rfl,rfl⟩
   go_wp2_with fail
   refine cMo E2 ?_;rintro x w2 ⟨rfl,K2⟩;have K3:=KW.trans K2;have hfo2:=K2.owns hfo (fun _ _ x=>x);have E3:=hid (contains_any w2 u5 fl (Ch.findFrom ol s k trg) ⟨_,hfo2⟩ (by omega));rw [q3] at E3;clear E1 E2 K2 KW cp c2 hfo
   go_wp2_with fail
   refine cMo E3 ?_;rintro x w3 ⟨rfl,rfl⟩;clear E3
   go_wp2_with (at_builtin;refine wpList_append_own _ rfl (.tmp 36) (.tmp 38) 38 rfl w.heap.size 3 i0 (.int .i64 0) 1 8 Tryz.underlying38 hi hz0 hz1 hz2 rfl (by decide) _ _ _ rfl (hfo2.alloc _) ⟨w3.heap.size,0,none⟩ 1 1 [.int .i64 (Ch.findFrom ol s k trg)] rfl rfl ?c1 ?c2 ?c3 ?c4 ?c5 ?_)
   case c1=>exact cell1_new _ _ _
   case c2=>intro u hu;simp at hu;subst hu;rfl
   case c3=>unfold maxLen;omega
   case c4=>omega
   case c5=>have:=K3.size;simp;omega
   intro v4 w4 o4 g4 _;have K4 : Kp (fun _=>False) w w4:=Kp.grown (K3.alloc _) g4 (fun i hi hlt=>by have:=(hfo2.lt i hi).1;omega);clear g4 K3 hfo2;go_wp2
   go_roundw
   case rel=>exact ⟨k + 1,_,by go_num,by omega,by simpa [inCells] using o4,by simp;omega,HF,K4⟩
   case measure=>simp [intOf];omega
  have hge : ¬ (k : Int) < (ol.sts.length : Int):=by omega
  have HF:=hid (HE.out.trans (show _ = fl by rw [show ol.sts.length - k = 0 by omega];rfl));clear HE hpr hmr
  go_wp2_with fail
  go_ret;rw [HF.out];exact ⟨_,rfl,hfo,KW⟩
end
end Go.Proofs.YtnlbchmfcebeeaaGreat
