import Derived.Test.YtnlbchmfcebeeaaGreatTXw
import Derived.Test.YtnlbchmfcebeeaaGreatTXp
set_option maxHeartbeats 12800000
set_option maxRecDepth 100000
namespace Go.Proofs.YtnlbchmfcebeeaaGreat
open Go.RowKit
theorem Tryz.infoMv : (Tryz.prog.info? 301).map (fun i=>(i.zero,i.size,i.bytes)) = some (some (.agg #[.int .i64 0,.int .i64 0]),2,16):=by kernel_rfl
def mvRow (ol : Ch.Ol) (t : Int) : List Value:=[.int .i64 (Ch.stateOf ol t.toNat),.int .i64 (Ch.mvK ol t.toNat)]
def mvCells (ol : Ch.Ol) (ts : List Int) : List Value:=ts.flatMap (mvRow ol)
theorem mvCells_snoc (ol : Ch.Ol) (ts : List Int) (t : Int) : mvCells ol (ts ++ [t]) = mvCells ol ts ++ mvRow ol t:=by simp [mvCells]
theorem mvCells_at (ol : Ch.Ol) (ts : List Int) (k : Nat) (t : Int) (h : ts[k]? = some t) : (mvCells ol ts)[k * 2]? = some (.int .i64 (Ch.stateOf ol t.toNat)) ∧ (mvCells ol ts)[k * 2 + 1]? = some (.int .i64 (Ch.mvK ol t.toNat)):=by
 induction ts generalizing k with
 | nil=>simp at h
 | cons a l ih=>?_
 have e : mvCells ol (a :: l) = mvRow ol a ++ mvCells ol l:=by simp [mvCells]
 rw [e]
 cases k with
 | zero=>simp at h;subst h;exact ⟨rfl,rfl⟩
 | succ k=>?_
 obtain ⟨h1,h2⟩:=ih (k:=k) (by simpa using h);rw [List.getElem?_append_right (by simp [mvRow];omega),List.getElem?_append_right (by simp [mvRow];omega)];simp only [mvRow,List.length_cons,List.length_nil];rw [show (k + 1) * 2 - (0 + 1 + 1) = k * 2 by omega,show (k + 1) * 2 + 1 - (0 + 1 + 1) = k * 2 + 1 by omega];exact ⟨h1,h2⟩
namespace Ch
theorem findF_snoc (ol : Ol) (s : Sd) (trg : Int) : ∀ (f k : Nat) (fl : List Int),findF ol s trg (f + 1) k fl = findStep ol s trg (findF ol s trg f k fl) (k + f):=by
 intro f
 induction f with
 | zero=>intro k fl;rfl
 | succ f ih=>?_
 intro k fl;have e : findF ol s trg (f + 1 + 1) k fl = findF ol s trg (f + 1) (k + 1) (findStep ol s trg fl k):=rfl;rw [e,ih (k + 1) _];have e2 : findF ol s trg (f + 1) k fl = findF ol s trg f (k + 1) (findStep ol s trg fl k):=rfl;rw [e2,show k + 1 + f = k + (f + 1) by omega]
def fndK (ol : Ol) (s : Sd) (trg : Int) (k : Nat) : List Int:=findF ol s trg k 0 []
theorem fndK_succ (ol : Ol) (s : Sd) (trg : Int) (k : Nat) : fndK ol s trg (k + 1) = findStep ol s trg (fndK ol s trg k) k:=by
 unfold fndK;rw [findF_snoc,Nat.zero_add]
theorem kids_eq {l : List NV} {ol : Ol} (h : Rf l ol) (i : Nat) : kidsR (mk l) (i : Int) = kidsS ol.sts i:=by
 unfold kidsR kidsS;rw [h.len,mk_len];apply List.filter_congr;intro j hj;rw [← h.sts];exact (isChild_kid (L:=mk l) (by rw [mk_len];simpa using hj)).symm
theorem leaf_eq {l : List NV} {ol : Ol} (h : Rf l ol) {s : Sd} (hI : Inv ol s) {k : Nat} (hk : k < l.length) : isLeaf ol.sts s.act k = (bit s.act k && (kidsR (mk l) (k : Int)).length == 0):=by
 rw [kids_eq h];unfold isLeaf;rw [has_nat]
 cases q : bit s.act k with
 | false=>rfl
 | true=>?_
 simp only [Bool.true_and];have hx : l[k]? = some l[k]:=List.getElem?_eq_getElem hk;have hkd:=h.kd k _ hx;rw [← h.kind hx] at hkd;have h5:=hI.conf.hist k q
 have hkl : k < ol.sts.length:=by rw [h.len];exact hk
 by_cases c : kindAt ol.sts k = 2 ∨ kindAt ol.sts k = 3
 ·obtain ⟨j,_,hj⟩:=h.ols.shp.kid k hkl c
  have hm:=mem_kids.2 hj
  have h0 : ((kidsS ol.sts k).length == 0) = false:=by
   cases q2 : kidsS ol.sts k with
   | nil=>rw [q2] at hm;cases hm
   | cons a t=>rfl
  rw [h0]
  have h1 : (kindAt ol.sts k == 1) = false:=by simp;omega
  have h4 : (kindAt ol.sts k == 4) = false:=by simp;omega
  rw [h1,h4];rfl
 have h0 : kidsS ol.sts k = []:=by
  cases q2 : kidsS ol.sts k with
  | nil=>rfl
  | cons a t=>?_
  exfalso
  have hm : a ∈ kidsS ol.sts k:=by rw [q2];simp
  have hc:=mem_kids.1 hm;have hlt:=kid_lt h.ols.shp hc;have:=h.ols.shp.pk a (by omega) hlt.2;rw [(child_in hc).2.1] at this;exact c this
 rw [h0]
 rcases (by omega : kindAt ol.sts k = 1 ∨ kindAt ol.sts k = 4) with e | e <;> rw [e] <;> rfl
theorem mv_same {ol : Ol} (hO : OlS ol) {e t : Nat} (he : e < ol.trs.length) (ht : t < ol.trs.length) : (stateOf ol e == stateOf ol t && ((mvK ol e : Int) == (mvK ol t : Int))) = ((e : Int) == (t : Int)):=by
 have h1 : ol.trs[e]? = some ol.trs[e]:=List.getElem?_eq_getElem he;have h2 : ol.trs[t]? = some ol.trs[t]:=List.getElem?_eq_getElem ht
 have s1 : stateOf ol e = (ol.trs[e]).state:=by unfold stateOf;rw [h1]
 have s2 : stateOf ol t = (ol.trs[t]).state:=by unfold stateOf;rw [h2]
 rw [s1,s2]
 by_cases c : e = t
 ·subst c;simp
 have hne : ((e : Int) == (t : Int)) = false:=by simp;omega
 rw [hne]
 cases q : (ol.trs[e]).state == (ol.trs[t]).state with
 | false=>rfl
 | true=>?_
 have hs : (ol.trs[e]).state = (ol.trs[t]).state:=by simpa using q
 obtain ⟨k,hk,_⟩:=hO.src _ (List.getElem_mem he)
 have : mvK ol e ≠ mvK ol t:=fun hk'=>c (mv_inj h1 h2 hs (by omega) hk')
 simp only [Bool.true_and,beq_eq_false_iff_ne,ne_eq];omega
end Ch
section
variable (w : World) (B xb cb g : Nat) (pv : Value) (m : Ch.Ma) (l : List NV) (v : Value) (ol : Ch.Ol)
theorem rFound_any (trg : Int) (on : List Bool) (h : NwB w xb cb g l.length pv m) (hon : OnB w g on) (hso : Ch.SameOn l.length on m.s.act) (hI : Ch.Inv ol m.s) (hF : ChF w B cb l v) (hR : Rf l ol) :
 Calls Tryz.prog 241 #[.pointer (some ⟨xb,0,none⟩),.int .u8 trg] w fun y w'=>∃ u,y = .returned u ∧ w'.ownsRow w.heap.size 301 2 u (Ch.find ol m.s trg).length (mvCells ol (Ch.find ol m.s trg)) ∧ Kp (fun _=>False) w w':=by
 obtain ⟨i0,hi0,hz0,hz1,hz2⟩:=info_parts Tryz.infoMv;obtain ⟨d,hd,hda⟩:=Tryz.undMv;obtain ⟨ao,cap,rfl⟩:=hF.2.1.len;have hle:=hR.le;have HH:=hid (And.intro h (And.intro hF hon));clear h hF hon
 go_enter Tryz.func241,Tryz.ntmps241
 go_wp2_with fail
 go_loopw [5,6] (fun fv iv wr=>∃ k : Nat,iv = .int .i64 k ∧ k ≤ l.length ∧ wr.ownsRow w.heap.size 301 2 fv (Ch.fndK ol m.s trg k).length (mvCells ol (Ch.fndK ol m.s trg k)) ∧ Kp (fun _=>False) w wr) (fun _ iv _=>l.length - (intOf iv).toNat)
 case atStart=>exact ⟨0,rfl,Nat.zero_le _,World.ownsRow_nil _ _ _ _,Kp.refl _ _⟩
 case round =>
  obtain ⟨k,rfl,hk,ho,KW⟩:=hrel;have hr : NwB wr xb cb g l.length pv m:=HH.out.1.keep KW (fun x=>x);have hFr:=HH.out.2.1.keep0 KW;have honr : OnB wr g on:=KW.at_ HH.out.2.2 (fun x=>x);have c0 : wr.cell? ⟨xb,0,none⟩ = some (.pointer (some ⟨cb,0,none⟩)):=hr.cell 0;have zc:=hFr.cell
  by_cases hlt : k < l.length
  ·have hlt' : (k : Int) < (l.length : Int):=by omega
   have E1:=hid (rKids_any wr B cb l _ (k : Int) hFr (by omega));have hlf:=Ch.leaf_eq hR hI hlt;rw [← hso.2.2 k] at hlf;have hst:=Ch.fndK_succ ol m.s trg k;unfold Ch.findStep at hst;rw [hlf] at hst;have hkl:=Ch.kidsR_len (Ch.mk l) (k : Int);rw [Ch.mk_len] at hkl;generalize Ch.kidsR (Ch.mk l) (k : Int) = ks at *;have hin:=Ch.findF_in (ol:=ol) (s:=m.s) (trg:=trg) k 0 [] (by intro n hn;cases hn);have HST:=hid (And.intro hst (show Ch.InT ol (Ch.fndK ol m.s trg k) from hin.1))
   have hfl : (Ch.fndK ol m.s trg k).length ≤ k:=by have:=hin.2;unfold Ch.fndK;simpa using this
   generalize Ch.fndK ol m.s trg k = fl at *;have HW:=hid (And.intro hr (And.intro hFr (And.intro honr (And.intro ho KW))));clear hr hFr honr ho KW hlf hst hin
   go_wp2_with fail
   refine cMo E1 ?_;rintro y w2 ⟨u,rfl,hu,K2⟩;obtain ⟨ua,uc,rfl⟩:=own_len hu;have h2 : NwB w2 xb cb g l.length pv m:=HW.out.1.keep K2 (fun x=>x);have hF2:=HW.out.2.1.keep0 K2;have hon2 : OnB w2 g on:=K2.at_ HW.out.2.2.1 (fun x=>x);have ho2:=K2.owns HW.out.2.2.2.1 (fun _ _ x=>x);have KW2:=HW.out.2.2.2.2.trans K2;have c1 : w2.cell? ⟨xb,1,none⟩ = some (.slice (some ⟨g,0,none⟩) l.length l.length):=h2.cell 1;have zon:=hon2.cell (k:=k) (by have:=hso.1;omega);clear E1 HW K2 hu c0 zc
   cases qo : Ch.onAt on k with
   | false =>
     have HF:=hid (show Ch.fndK ol m.s trg (k + 1) = fl by rw [HST.out.1,qo];rfl);rw [qo] at zon;have HX:=hid (And.intro ho2 KW2);clear HST h2 hF2 hon2 ho2 KW2;go_wp2
     go_roundw
     case rel=>exact ⟨k + 1,by go_num,by omega,by rw [HF.out];exact HX.out.1,HX.out.2⟩
     case measure=>simp [intOf];omega
   | true=>?_
   rw [qo] at zon
   by_cases hks : ks.length = 0
   ·have hks' : ¬ (0 : Int) < (ks.length : Int):=by omega
    have hst:=HST.out.1;rw [qo,show (ks.length == 0) = true by simpa using hks] at hst;simp only [Bool.and_self,Bool.true_and] at hst;have E2:=hid (rFirst_any w2 B xb cb g pv m l _ ol k trg h2 hF2 hR hlt);have hat:=Ch.findFrom_at ol m.s trg ((k : Int) + 2).toNat k;have HX:=hid (And.intro hst (And.intro HST.out.2 (And.intro ho2 KW2)));clear HST hst h2 hF2 hon2 ho2 KW2;generalize hff : Ch.findFrom ol m.s k trg = ff at *
    obtain ⟨A,KK,hA⟩ : ∃ A KK : Int,Ch.mvA ol ff = #[.int .i64 A,.int .i64 KK]:=by
     unfold Ch.mvA;split
     ·exact ⟨_,_,rfl⟩
     exact ⟨_,_,rfl⟩
    rw [hA] at E2;have HA:=hid hA;clear hA
    go_wp2_with fail
    refine cMo E2 ?_;rintro y w3 ⟨rfl,K3⟩;clear E2;have K4 : Kp (fun _=>False) w2 (w3.alloc (.cells #[.int .i64 A,.int .i64 KK] 301)):=K3.alloc _;have hb4:=heap_alloc_new w3 (.cells #[.int .i64 A,.int .i64 KK] 301)
    go_upto_region 8 with (fail)
    generalize w3.alloc (.cells #[.int .i64 A,.int .i64 KK] 301) = w4 at *;generalize w3.heap.size = mb at *;have ho4:=K4.owns HX.out.2.2.1 (fun _ _ x=>x);have KW4:=HX.out.2.2.2.trans K4
    have htst : ∀ (e : Nat) (fe : Int),fl[e]? = some fe → (if (Ch.stateOf ol fe.toNat == A && ((Ch.mvK ol fe.toNat : Nat) : Int) == KK) then false else (ff != -2) && !((fl.take e).any (· == ff))) = ((ff != -2) && !((fl.take (e + 1)).any (· == ff))):=by
     intro e fe hfe
     have hsn : (fl.take (e + 1)).any (· == ff) = ((fl.take e).any (· == ff) || fe == ff):=by
      rw [List.take_add_one,hfe,List.any_append];simp
     rw [hsn]
     by_cases c : ff = -2
     ·subst c
      have : ((-2 : Int) != -2) = false:=rfl;rw [this];simp
     have hne : (ff != -2) = true:=by simpa using c
     rw [hne]
     obtain ⟨t,ht,htl⟩ : ∃ t : Nat,ff = t ∧ t < ol.trs.length:=by
      rcases hat with e2 | ⟨t,e2,e3⟩
      ·exact absurd (hff ▸ e2) c
      exact ⟨t,by rw [← hff];exact e2,e3⟩
     have hin:=HX.out.2.1 fe (List.mem_of_getElem? hfe)
     obtain ⟨fn,hfn⟩ : ∃ fn : Nat,fe = fn:=⟨fe.toNat,by omega⟩
     have hAA:=HA.out;rw [ht] at hAA;unfold Ch.mvA at hAA;rw [show ((t : Int) == -2) = false by simp] at hAA;simp only [Bool.false_eq_true,if_false,Int.toNat_natCast] at hAA
     have h0 : Ch.stateOf ol t = A:=by
      have:=congrArg (fun z=>z[0]?) hAA;simpa using this
     have h1 : ((Ch.mvK ol t : Nat) : Int) = KK:=by
      have:=congrArg (fun z=>z[1]?) hAA;simpa using this
     rw [← h0,← h1,hfn,Int.toNat_natCast,Ch.mv_same hR.ols (by omega) htl,ht]
     cases ((fn : Int) == (t : Int)) <;> simp
    have HT:=hid htst;have HZ:=hid (And.intro hb4 (And.intro ho4 KW4));clear htst hb4 ho4 KW4 K3 K4 hat;obtain ⟨la,lc,hu5⟩:=own_len HZ.out.2.1;subst hu5
    go_wp2_with fail
    go_loopw [9,10] (fun okv ev wq=>∃ e : Nat,ev = .int .i64 e ∧ e ≤ fl.length ∧ okv = .bool ((ff != -2) && !((fl.take e).any (· == ff))) ∧ Kp (fun _=>False) w4 wq) (fun _ ev _=>fl.length - (intOf ev).toNat)
    case atStart=>exact ⟨0,rfl,Nat.zero_le _,by simp,Kp.refl _ _⟩
    case round =>
     obtain ⟨e,rfl,he,rfl,KQ⟩:=hrel;have hbq:=KQ.at_ HZ.out.1 (fun x=>x);have hoq:=KQ.owns HZ.out.2.1 (fun _ _ x=>x)
     have m0 : wr.cell? ⟨mb,0,none⟩ = some (.int .i64 A):=by rw [World.cell?,hbq];rfl
     have m1 : wr.cell? ⟨mb,1,none⟩ = some (.int .i64 KK):=by rw [World.cell?,hbq];rfl
     by_cases hel : e < fl.length
     ·have hel' : (e : Int) < (fl.length : Int):=by omega
      obtain ⟨fe,hfe⟩ : ∃ fe,fl[e]? = some fe:=⟨_,List.getElem?_eq_getElem hel⟩
      obtain ⟨g2,cap2,hv2,_⟩:=World.ownsRow.form hoq (by omega);simp only [Value.slice.injEq] at hv2;obtain ⟨rfl,-,rfl⟩:=hv2;obtain ⟨q0,q1⟩:=mvCells_at ol fl e fe hfe;have a0:=(World.ownsRow.cellAt hoq (e * 2) (by omega)).trans q0;have a1:=(World.ownsRow.cellAt hoq (e * 2 + 1) (by omega)).trans q1;have hN:=HT.out e fe hfe;generalize ((ff != -2) && !((fl.take e).any (· == ff))) = okb at *;generalize ((Ch.mvK ol fe.toNat : Nat) : Int) = mk1 at *;generalize Ch.stateOf ol fe.toNat = st1 at *;clear q0 q1 hoq hbq
      cases t1 : st1 == A <;> cases t2 : mk1 == KK <;> rw [t1,t2] at hN <;>
      (have HN:=hid hN
       clear hN
       go_wp2_with fail
       go_quiet (fail)
       go_wp2
       go_roundw
       case rel=>exact ⟨e + 1,by go_num,by omega,by rw [← HN.out];rfl,KQ.drewN _⟩
       case measure=>simp [intOf];omega)
     have hge : ¬ (e : Int) < (fl.length : Int):=by omega
     obtain rfl : e = fl.length:=by omega
     rw [List.take_length];have hst:=HX.out.1;have KF:=HZ.out.2.2.trans KQ;have hsz:=KF.size
     cases qk : (ff != -2) && !(fl.any (· == ff)) with
     | false =>
       rw [qk] at hst;have HF:=hid (hst.trans (if_neg (by simp)));have HY:=hid (And.intro hoq KF);clear hst hoq hbq KF;go_wp2
       go_roundw
       case rel=>exact ⟨k + 1,by go_num,by omega,by rw [HF.out];exact HY.out.1,HY.out.2⟩
       case measure=>simp [intOf];omega
     | true=>?_
     rw [qk] at hst;have HF:=hid (hst.trans (if_pos rfl))
     have HMR:=hid (show mvRow ol ff = [.int .i64 A,.int .i64 KK] by
      have hne : (ff == -2) = false:=by
       have:=(Bool.and_eq_true _ _ ▸ qk).1;simpa using this
      have hAA:=HA.out;unfold Ch.mvA at hAA;rw [hne] at hAA;simp only [Bool.false_eq_true,if_false] at hAA;have:=congrArg Array.toList hAA
      exact this)
     clear hst qk
     go_wp2_with (at_builtin;refine wpList_append_own (P:=Tryz.prog) _ rfl (.tmp 74) (.tmp 76) 276 rfl w.heap.size 301 i0 (.agg #[.int .i64 0,.int .i64 0]) 2 16 Tryz.underlying276 hi0 hz0 hz1 hz2 rfl (by decide) (.slice la fl.length lc) fl.length (mvCells ol fl) rfl (by exact hoq.alloc _) ⟨wr.heap.size,0,none⟩ 1 1 [.int .i64 A,.int .i64 KK] rfl rfl (by exact cells2_new _ _ _ _) (by intro u hu;simp at hu;rcases hu with rfl | rfl <;> rfl) (by unfold maxLen;omega) (by omega) (by simp;omega) ?_)
     intro v' w9 o9 g9 _;have K9 : Kp (fun _=>False) w w9:=(KF.alloc (.cells #[.int .i64 A,.int .i64 KK] 301)).grown (by exact g9) (fun j hj hlt=>by have:=(hoq.lt j hj).1;omega);have HO:=hid (And.intro o9 K9);clear o9 g9 K9 hoq KF m0 m1 hbq;go_wp2
     go_roundw
     case rel =>
      refine ⟨k + 1,by go_num,by omega,?_,HO.out.2⟩;rw [HF.out,mvCells_snoc,HMR.out];have:=HO.out.1;simpa using this
     case measure=>simp [intOf];omega
   have hks' : (0 : Int) < (ks.length : Int):=by omega
   have HF:=hid (show Ch.fndK ol m.s trg (k + 1) = fl by rw [HST.out.1,qo,show (ks.length == 0) = false by simpa using hks];rfl);have HX:=hid (And.intro ho2 KW2);clear HST h2 hF2 hon2 ho2 KW2;go_wp2
   go_roundw
   case rel=>exact ⟨k + 1,by go_num,by omega,by rw [HF.out];exact HX.out.1,HX.out.2⟩
   case measure=>simp [intOf];omega
  have hge : ¬ (k : Int) < (l.length : Int):=by omega
  obtain rfl : k = l.length:=by omega
  have HR2:=hid (show Ch.find ol m.s trg = Ch.fndK ol m.s trg l.length by unfold Ch.find Ch.fndK;rw [hR.len]);clear hr hFr honr;go_wp2;go_ret;rw [HR2.out];exact ⟨_,rfl,ho,KW⟩
end
end Go.Proofs.YtnlbchmfcebeeaaGreat
