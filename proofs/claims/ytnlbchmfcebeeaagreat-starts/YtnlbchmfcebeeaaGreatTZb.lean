/- Walks: the reference's Choose. Walks: the reference's goal. -/
import Derived.Test.YtnlbchmfcebeeaaGreatTZa
import Derived.Test.YtnlbchmfcebeeaaGreatTXw
namespace Go.Proofs.YtnlbchmfcebeeaaGreat
open Go.RowKit
namespace Ch
theorem posF_has (j : Nat) : ∀ (l : List Tr) (n t : Nat) (x : Tr), l[t]? = some x → inS j x = true → ∃ k : Nat, (posF j l n)[k]? = some (n + t) := by
 intro l
 induction l with
 | nil => intro n t x h; simp at h
 | cons a l ih =>
   intro n t x h hx
   simp only [posF]
   cases t with
   | zero => simp at h; subst h; rw [hx]; exact ⟨0, by simp⟩
   | succ t =>
     obtain ⟨k, hk⟩ := ih (n + 1) t x (by simpa using h) hx
     rw [show n + 1 + t = n + (t + 1) by omega] at hk
     cases inS j a with
     | true => exact ⟨k + 1, by simpa using hk⟩
     | false => exact ⟨k, by simpa using hk⟩
theorem mv_exists {ol : Ol} (hO : OlS ol) {t : Nat} (ht : t < ol.trs.length) : ∃ a : Nat, stateOf ol t = a ∧ MvOf ol t a (mvK ol t) := by
 have h1 : ol.trs[t]? = some ol.trs[t] := List.getElem?_eq_getElem ht
 obtain ⟨a, ha, _⟩ := hO.src _ (List.getElem_mem ht)
 obtain ⟨k, hk⟩ := posF_has a ol.trs 0 t _ h1 (by unfold inS; rw [ha]; simp)
 rw [Nat.zero_add] at hk
 have hm := mv_of hk
 refine ⟨a, hm.st, ?_⟩
 rw [hm.rk]; exact hm
end Ch
theorem Rf.mv {l : List NV} {ol : Ch.Ol} (h : Rf l ol) {t : Nat} (ht : t < ol.trs.length) : ∃ (a : Nat) (nd : NV) (rt : Ch.RT) (x : Ch.Tr), Ch.stateOf ol t = a ∧ a < l.length ∧ MvR l ol t a (Ch.mvK ol t) nd rt x := by
 obtain ⟨a, ha, hm⟩ := Ch.mv_exists h.ols ht
 obtain ⟨nd, rt, x, h1, h2, h3, h4, h5, h6⟩ := h.move hm
 exact ⟨a, nd, rt, x, ha, (List.getElem?_eq_some_iff.1 h1).1, ⟨h1, h2, h3, h4, h5, h6⟩⟩
section
variable (w : World) (B xb cb g : Nat) (pv : Value) (m : Ch.Ma) (l : List NV) (v : Value) (ol : Ch.Ol)
set_option maxHeartbeats 1600000 in
set_option maxRecDepth 100000 in
theorem rChoose_any (trg : Int) (on : List Bool) (h : NwB w xb cb g l.length pv m) (hon : OnB w g on) (hso : Ch.SameOn l.length on m.s.act) (hI : Ch.Inv ol m.s) (hF : ChF w B cb l v) (hR : Rf l ol) :
 Calls Tryz.prog 205 #[.pointer (some ⟨xb, 0, none⟩), .int .u8 trg] w fun y w' => ∃ u, y = .returned u ∧ w'.ownsRow w.heap.size 301 2 u (Ch.choose ol m.s trg).length (mvCells ol (Ch.choose ol m.s trg)) ∧ Kp (fun _ => False) w w' := by
 obtain ⟨i0, hi0, hz0, hz1, hz2⟩ := info_parts Tryz.infoMv
 obtain ⟨d, hd, hda⟩ := Tryz.undMv
 have E0 := hid (rFound_any w B xb cb g pv m l v ol trg on h hon hso hI hF hR)
 have hfin := Ch.find_in ol m.s trg
 have hfl : (Ch.find ol m.s trg).length ≤ 16 := Nat.le_trans hfin.2 hR.ols.le
 have hch : Ch.choose ol m.s trg = Ch.chooseF ol m.s (Ch.find ol m.s trg) [] := rfl
 obtain ⟨ao, cap, rfl⟩ := hF.2.1.len
 have hle := hR.le
 rw [hch]
 generalize Ch.find ol m.s trg = fnd at *
 have HFI := hid hfin.1
 have HH := hid (And.intro h (And.intro hF hon))
 clear h hF hon hfin hch
 go_enter Tryz.func205, Tryz.ntmps205
 go_wp2_with fail
 refine Calls.mono (Hid.out E0) ?_
 rintro y w2 ⟨u, rfl, hu, K2⟩
 obtain ⟨ua, uc, rfl⟩ := own_len hu
 have HU := hid (And.intro hu (And.intro K2 (And.intro (HH.out.1.keep K2 (fun x => x) : NwB w2 xb cb g l.length pv m) (And.intro (HH.out.2.1.keep0 K2) (K2.at_ HH.out.2.2 (fun x => x) : OnB w2 g on)))))
 have hsz2 := K2.size
 clear hu K2 E0 HH
 go_wp2_with fail
 go_loopw [5, 7] (fun lv kv wr => ∃ (k : Nat) (acc : List Int), kv = .int .i64 k ∧ k ≤ fnd.length ∧ acc.length ≤ k ∧ Hid (Ch.InT ol acc) ∧ wr.ownsRow w.heap.size 301 2 lv acc.length (mvCells ol acc) ∧ Hid (Ch.chooseF ol m.s fnd [] = Ch.chooseF ol m.s (fnd.drop k) acc) ∧ Kp (fun _ => False) w2 wr) (fun _ kv _ => fnd.length - (intOf kv).toNat)
 case atStart => exact ⟨0, [], rfl, Nat.zero_le _, Nat.le_refl _, hid (by intro n hn; cases hn), World.ownsRow_nil _ _ _ _, hid rfl, Kp.refl _ _⟩
 case round =>
  obtain ⟨k, acc, rfl, hk, hal, HIN, ho, HC, KW⟩ := hrel
  by_cases hlt : k < fnd.length
  ·have hlt' : (k : Int) < (fnd.length : Int) := by omega
   have hur := KW.owns HU.out.1 (fun _ _ x => x)
   obtain ⟨ti, hti⟩ : ∃ ti, fnd[k]? = some ti := ⟨_, List.getElem?_eq_getElem hlt⟩
   have htin := HFI.out ti (List.mem_of_getElem? hti)
   obtain ⟨t, rfl⟩ : ∃ t : Nat, ti = t := ⟨ti.toNat, by omega⟩
   have htl : t < ol.trs.length := by omega
   obtain ⟨a, nd, rt, x, hsa, hal', hmr⟩ := hR.mv htl
   obtain ⟨g2, cap2, hv2, _⟩ := World.ownsRow.form hur (by omega)
   simp only [Value.slice.injEq] at hv2
   obtain ⟨rfl, -, rfl⟩ := hv2
   obtain ⟨q0, q1⟩ := mvCells_at ol fnd k t hti
   rw [Int.toNat_natCast] at q0 q1
   rw [hsa] at q0
   have z0 := (World.ownsRow.cellAt hur (k * 2) (by omega)).trans q0
   have z1 := (World.ownsRow.cellAt hur (k * 2 + 1) (by omega)).trans q1
   have hdr : fnd.drop k = (t : Int) :: fnd.drop (k + 1) := by
    rw [List.drop_eq_getElem_cons hlt]; congr 1; exact (List.getElem?_eq_some_iff.1 hti).2
   have hcc : Ch.chooseF ol m.s fnd [] = Ch.chooseF ol m.s (fnd.drop (k + 1)) (Ch.admis ol m.s acc t) := by rw [HC.out, hdr]; rfl
   have hadm := Ch.admit_in (s := m.s) htl HIN.out
   have hae : Ch.admis ol m.s acc t = if acc.all (fun x => !(Ch.meets (Ch.leaves ol m.s t) (Ch.leaves ol m.s x.toNat)) || Ch.within ol t x.toNat) then acc.filter (fun x => !(Ch.meets (Ch.leaves ol m.s t) (Ch.leaves ol m.s x.toNat))) ++ [(t : Int)] else acc := by
    unfold Ch.admis; rw [Ch.admitF_eq]
    cases acc.all (fun x => !(Ch.meets (Ch.leaves ol m.s t) (Ch.leaves ol m.s x.toNat)) || Ch.within ol t x.toNat) <;> simp
   generalize hmk : Ch.mvK ol t = mk at *
   have hb4 := heap_alloc_new wr (.cells #[.int .i64 a, .int .i64 mk] 301)
   have K4 : Kp (fun _ => False) wr (wr.alloc (.cells #[.int .i64 a, .int .i64 mk] 301)) := (Kp.refl _ _).alloc _
   have ho4 := K4.owns ho (fun _ _ x => x)
   have KW4 := KW.trans K4
   have HCC := hid (And.intro hcc (And.intro hadm hae))
   have HO := hid (And.intro ho KW)
   clear hur q0 q1 hdr hcc hadm hae ho KW HC K4
   go_upto_region 7 with (fail)
   generalize wr.alloc (.cells #[.int .i64 a, .int .i64 mk] 301) = w4 at *
   generalize hob : wr.heap.size = ob at *
   have HZ := hid (And.intro hb4 (And.intro ho4 KW4))
   obtain ⟨la, lc, hlv⟩ := own_len ho4
   subst hlv
   have hsz4 := KW4.size
   clear hb4 ho4 KW4 z0 z1
   go_wp2_with fail
   go_loopw [9, 10, 11] (fun wv jo jv wq => ∃ j : Nat, jv = .int .i64 j ∧ j ≤ acc.length ∧ jo = .bool ((acc.take j).all (fun x => !(Ch.meets (Ch.leaves ol m.s t) (Ch.leaves ol m.s x.toNat)) || Ch.within ol t x.toNat)) ∧ wq.ownsRow w4.heap.size 301 2 wv ((acc.take j).filter (fun x => !(Ch.meets (Ch.leaves ol m.s t) (Ch.leaves ol m.s x.toNat)))).length (mvCells ol ((acc.take j).filter (fun x => !(Ch.meets (Ch.leaves ol m.s t) (Ch.leaves ol m.s x.toNat))))) ∧ Kp (fun _ => False) w4 wq) (fun _ _ jv _ => acc.length - (intOf jv).toNat)
   case atStart => exact ⟨0, rfl, Nat.zero_le _, rfl, World.ownsRow_nil _ _ _ _, Kp.refl _ _⟩
   case round =>
    obtain ⟨j, rfl, hj, rfl, how, KQ⟩ := hrel
    by_cases hjl : j < acc.length
    ·have hjl' : (j : Int) < (acc.length : Int) := by omega
     have KQ2 := HZ.out.2.2.trans KQ
     have hq : NwB wr xb cb g l.length pv m := HU.out.2.2.1.keep KQ2 (fun x => x)
     have hFq := HU.out.2.2.2.1.keep0 KQ2
     have honq : OnB wr g on := KQ2.at_ HU.out.2.2.2.2 (fun x => x)
     have hbq := KQ.at_ HZ.out.1 (fun x => x)
     have hoq := KQ.owns HZ.out.2.1 (fun _ _ x => x)
     obtain ⟨oi, hoi⟩ : ∃ oi, acc[j]? = some oi := ⟨_, List.getElem?_eq_getElem hjl⟩
     have hoin := HIN.out oi (List.mem_of_getElem? hoi)
     obtain ⟨o, rfl⟩ : ∃ o : Nat, oi = o := ⟨oi.toNat, by omega⟩
     obtain ⟨a2, nd2, rt2, x2, hsa2, hal2, hmr2⟩ := hR.mv (t := o) (by omega)
     obtain ⟨g3, cap3, hv3, _⟩ := World.ownsRow.form hoq (by omega)
     simp only [Value.slice.injEq] at hv3
     obtain ⟨rfl, -, rfl⟩ := hv3
     obtain ⟨q0, q1⟩ := mvCells_at ol acc j o hoi
     rw [Int.toNat_natCast] at q0 q1
     rw [hsa2] at q0
     have y0 := (World.ownsRow.cellAt hoq (j * 2) (by omega)).trans q0
     have y1 := (World.ownsRow.cellAt hoq (j * 2 + 1) (by omega)).trans q1
     have t0 : wr.cell? ⟨ob, 0, none⟩ = some (.int .i64 a) := by rw [World.cell?, hbq]; rfl
     have t1 : wr.cell? ⟨ob, 1, none⟩ = some (.int .i64 mk) := by rw [World.cell?, hbq]; rfl
     have KD : Kp (fun _ => False) wr wr.drew := (Kp.refl _ _).drew
     rw [← hmk] at hmr
     have E1 := hid (rBoth_any wr.drew B xb cb g pv m l _ ol t a _ o a2 _ nd nd2 rt rt2 x x2 on (hq.keep KD (fun x => x)) (KD.at_ honq (fun x => x)) hso (hFq.keep0 KD) hR hmr hmr2)
     have hwi : Ch.within ol t o = Ch.isAbove (Ch.sts l) a2 a := by unfold Ch.within; rw [hsa, hsa2, hR.sts]
     have hall : (acc.take (j + 1)).all (fun x => !(Ch.meets (Ch.leaves ol m.s t) (Ch.leaves ol m.s x.toNat)) || Ch.within ol t x.toNat) = ((acc.take j).all (fun x => !(Ch.meets (Ch.leaves ol m.s t) (Ch.leaves ol m.s x.toNat)) || Ch.within ol t x.toNat) && (!(Ch.meets (Ch.leaves ol m.s t) (Ch.leaves ol m.s o)) || Ch.within ol t o)) := by
      rw [List.take_add_one, hoi, List.all_append]; simp
     have hfil : (acc.take (j + 1)).filter (fun x => !(Ch.meets (Ch.leaves ol m.s t) (Ch.leaves ol m.s x.toNat))) = (acc.take j).filter (fun x => !(Ch.meets (Ch.leaves ol m.s t) (Ch.leaves ol m.s x.toNat))) ++ (if Ch.meets (Ch.leaves ol m.s t) (Ch.leaves ol m.s o) then [] else [(o : Int)]) := by
      rw [List.take_add_one, hoi, List.filter_append]
      congr 1
      cases hmm : Ch.meets (Ch.leaves ol m.s t) (Ch.leaves ol m.s o) <;> simp [hmm]
     rw [hmk] at E1
     rw [hwi] at hall
     have hup := hR.up
     generalize hmo : Ch.mvK ol o = mo at *
     have HL := hid (And.intro hall hfil)
     have hfl1 : ((acc.take j).filter (fun x => !(Ch.meets (Ch.leaves ol m.s t) (Ch.leaves ol m.s x.toNat)))).length ≤ 16 := by
      have h1 := List.length_filter_le (fun x => !(Ch.meets (Ch.leaves ol m.s t) (Ch.leaves ol m.s x.toNat))) (acc.take j)
      have h2 : (acc.take j).length ≤ j := by simp; omega
      omega
     have hsnoc := mvCells_snoc ol ((acc.take j).filter (fun x => !(Ch.meets (Ch.leaves ol m.s t) (Ch.leaves ol m.s x.toNat)))) (o : Int)
     have hro : mvRow ol (o : Int) = [.int .i64 a2, .int .i64 mo] := by unfold mvRow; rw [Int.toNat_natCast, hsa2, hmo]
     have HSN := hid (And.intro hsnoc hro)
     generalize (acc.take j).filter (fun x => !(Ch.meets (Ch.leaves ol m.s t) (Ch.leaves ol m.s x.toNat))) = flt at *
     generalize (acc.take j).all (fun x => !(Ch.meets (Ch.leaves ol m.s t) (Ch.leaves ol m.s x.toNat)) || Ch.within ol t x.toNat) = aj at *
     generalize Ch.meets (Ch.leaves ol m.s t) (Ch.leaves ol m.s o) = mt at *
     have HQ := hid (And.intro hq (And.intro hFq (And.intro how (And.intro KQ KD))))
     obtain ⟨wa, wc, hwv⟩ := own_len how
     subst hwv
     clear hq hFq honq hbq hoq q0 q1 hwi hall hfil hsnoc hro how KQ KQ2 KD
     go_upto_region 12 with (fail)
     go_region_held3 (fun w' => w'.cell? ⟨ob, 0, none⟩ = some (.int .i64 a) ∧ w'.cell? ⟨ob, 1, none⟩ = some (.int .i64 mk) ∧ w'.cell? ⟨g3, j * 2, none⟩ = some (.int .i64 a2) ∧ w'.cell? ⟨g3, j * 2 + 1, none⟩ = some (.int .i64 mo)) (first | exact ⟨t0, t1, y0, y1⟩ | exact HS.out) ((go_at_call 242; refine Calls.mono (Hid.out E1) ?_; rintro y w5 ⟨rfl, K5⟩; have H := hid K5; have HS := hid (And.intro (K5.cellF t0) (And.intro (K5.cellF t1) (And.intro (K5.cellF y0) (K5.cellF y1)))); clear E1 K5))
     obtain ⟨s0, s1, r0, r1⟩ := HS.out
     have KQ5 := HQ.out.2.2.2.2.trans H.out
     have hF5 := HQ.out.2.1.keep0 KQ5
     have h5 : NwB w5 xb cb g l.length pv m := HQ.out.1.keep KQ5 (fun x => x)
     have c05 : w5.cell? ⟨xb, 0, none⟩ = some (.pointer (some ⟨cb, 0, none⟩)) := h5.cell 0
     have E2 := hid (fun nn => rAbove_any (w5.drewN nn) B cb l _ a2 a (hF5.keep0 ((Kp.refl _ _).drewN nn)) hal' hup (by omega))
     generalize Ch.isAbove (Ch.sts l) a2 a = wi at *
     have ho5 := KQ5.owns HQ.out.2.2.1 (fun _ _ x => x)
     have KW5 := HQ.out.2.2.2.1.trans KQ5
     clear H HS HQ hF5 h5 t0 t1 y0 y1
     go_upto_region 13 with (fail)
     go_quiet ((go_at_call 243; exact Calls.quiet_of_same (Hid.out E2 _)))
     have ho6 := ((Kp.refl (fun _ => False) w5).drewN nq).owns ho5 (fun _ _ x => x)
     have KW6 := KW5.drewN nq
     have hsz6 := KW6.size
     clear E2 ho5 KW5
     cases mt with
     | true =>
       have HX := hid (And.intro ho6 KW6)
       clear ho6 KW6
       cases wi
       ·go_wp2
        go_roundw
        case rel => exact ⟨j + 1, by go_num, by omega, by rw [HL.out.1]; cases aj <;> rfl, by rw [HL.out.2]; simpa using HX.out.1, HX.out.2⟩
        case measure => simp [intOf]; omega
       ·go_wp2
        go_roundw
        case rel => exact ⟨j + 1, by go_num, by omega, by rw [HL.out.1]; cases aj <;> rfl, by rw [HL.out.2]; simpa using HX.out.1, HX.out.2⟩
        case measure => simp [intOf]; omega
     | false =>
       have r0' : (w5.drewN nq).cell? ⟨g3, j * 2, none⟩ = some (.int .i64 a2) := r0
       have r1' : (w5.drewN nq).cell? ⟨g3, j * 2 + 1, none⟩ = some (.int .i64 mo) := r1
       clear r0 r1 s0 s1 c05
       generalize w5.drewN nq = w6 at *
       go_wp2_with (at_builtin; refine wpList_append_own (P := Tryz.prog) _ rfl (.tmp 59) (.tmp 64) 276 rfl w4.heap.size 301 i0 (.agg #[.int .i64 0, .int .i64 0]) 2 16 Tryz.underlying276 hi0 hz0 hz1 hz2 rfl (by decide) (.slice wa flt.length wc) flt.length (mvCells ol flt) rfl (by exact ho6.alloc _) ⟨w6.heap.size, 0, none⟩ 1 1 [.int .i64 a2, .int .i64 mo] rfl rfl (by exact cells2_new _ _ _ _) (by intro u hu; simp at hu; rcases hu with rfl | rfl <;> rfl) (by unfold maxLen; omega) (by omega) (by simp; omega) ?_)
       intro v' w9 o9 g9 _
       have K9 : Kp (fun _ => False) w4 w9 := (KW6.alloc (.cells #[.int .i64 a2, .int .i64 mo] 301)).grown (by exact g9) (fun j hj hlt => by have := (ho6.lt j hj).1; omega)
       have HO9 := hid (And.intro o9 K9)
       clear o9 g9 K9 ho6 KW6 r0' r1'
       go_wp2
       go_roundw
       case rel =>
        refine ⟨j + 1, by go_num, by omega, by rw [HL.out.1]; cases aj <;> rfl, ?_, HO9.out.2⟩
        rw [HL.out.2]
        simp only [Bool.false_eq_true, if_false]
        rw [HSN.out.1, HSN.out.2]
        have := HO9.out.1
        simpa using this
       case measure => simp [intOf]; omega
    ·have hge : ¬ (j : Int) < (acc.length : Int) := by omega
     obtain rfl : j = acc.length := by omega
     rw [List.take_length] at how ⊢
     have hcc := HCC.out
     have hbq := KQ.at_ HZ.out.1 (fun x => x)
     have KF := HZ.out.2.2.trans KQ
     have t0 : wr.cell? ⟨ob, 0, none⟩ = some (.int .i64 a) := by rw [World.cell?, hbq]; rfl
     have t1 : wr.cell? ⟨ob, 1, none⟩ = some (.int .i64 mk) := by rw [World.cell?, hbq]; rfl
     have hrt : mvRow ol (t : Int) = [.int .i64 a, .int .i64 mk] := by unfold mvRow; rw [Int.toNat_natCast, hsa, hmk]
     have hfl1 := List.length_filter_le (fun x => !(Ch.meets (Ch.leaves ol m.s t) (Ch.leaves ol m.s x.toNat))) acc
     have hsnoc := mvCells_snoc ol (acc.filter (fun x => !(Ch.meets (Ch.leaves ol m.s t) (Ch.leaves ol m.s x.toNat)))) (t : Int)
     rw [hrt] at hsnoc
     have hsz := KF.size
     have hsq := KQ.size
     generalize acc.filter (fun x => !(Ch.meets (Ch.leaves ol m.s t) (Ch.leaves ol m.s x.toNat))) = flt at *
     generalize acc.all (fun x => !(Ch.meets (Ch.leaves ol m.s t) (Ch.leaves ol m.s x.toNat)) || Ch.within ol t x.toNat) = aj at *
     obtain ⟨hc1, hadm, hae⟩ := hcc
     cases aj with
     | false =>
       simp only [Bool.false_eq_true, if_false] at hae
       rw [hae] at hc1 hadm
       have HN := hid (And.intro hc1 hadm)
       have hor := KQ.owns HZ.out.2.1 (fun _ _ x => x)
       have HX := hid (And.intro hor KF)
       clear hc1 hadm hae how hor KF hsnoc hrt hbq
       go_wp2
       go_roundw
       case rel => exact ⟨k + 1, acc, by go_num, by omega, by omega, hid HN.out.2.1, HX.out.1, hid HN.out.1, HX.out.2⟩
       case measure => simp [intOf]; omega
     | true =>
       simp only [if_true] at hae
       rw [hae] at hc1 hadm
       have HN := hid (And.intro hc1 (And.intro hadm hsnoc))
       obtain ⟨wa, wc, hwv⟩ := own_len how
       subst hwv
       clear hc1 hadm hae hsnoc hrt hbq
       go_wp2_with (at_builtin; refine wpList_append_own (P := Tryz.prog) _ rfl (.tmp 67) (.tmp 69) 276 rfl w4.heap.size 301 i0 (.agg #[.int .i64 0, .int .i64 0]) 2 16 Tryz.underlying276 hi0 hz0 hz1 hz2 rfl (by decide) (.slice wa flt.length wc) flt.length (mvCells ol flt) rfl (by exact how.alloc _) ⟨wr.heap.size, 0, none⟩ 1 1 [.int .i64 a, .int .i64 mk] rfl rfl (by exact cells2_new _ _ _ _) (by intro u hu; simp at hu; rcases hu with rfl | rfl <;> rfl) (by unfold maxLen; omega) (by omega) (by simp; omega) ?_)
       intro v' w9 o9 g9 _
       have K9 : Kp (fun _ => False) w2 w9 := (KF.alloc (.cells #[.int .i64 a, .int .i64 mk] 301)).grown (by exact g9) (fun j hj hlt => by have := (how.lt j hj).1; omega)
       have HO9 := hid (And.intro (own_weaken o9 (show w.heap.size ≤ w4.heap.size by omega)) K9)
       clear o9 g9 K9 how KF t0 t1
       go_wp2
       go_roundw
       case rel =>
        refine ⟨k + 1, flt ++ [(t : Int)], by go_num, by omega, by simp; omega, hid HN.out.2.1.1, ?_, hid HN.out.1, HO9.out.2⟩
        rw [HN.out.2.2]
        have := HO9.out.1
        simpa using this
       case measure => simp [intOf]; omega
  ·have hge : ¬ (k : Int) < (fnd.length : Int) := by omega
   obtain rfl : k = fnd.length := by omega
   have HN := hid (HC.out.trans (show _ = acc by rw [List.drop_length]; rfl))
   go_wp2
   go_ret
   rw [HN.out]
   exact ⟨_, rfl, ho, HU.out.2.1.trans KW⟩
end
end Go.Proofs.YtnlbchmfcebeeaaGreat
namespace Go.Proofs.YtnlbchmfcebeeaaGreat
open Go.RowKit
namespace Ch
theorem hist_eq {l : List NV} {ol : Ol} (h : Rf l ol) : histR (mk l) = (List.range ol.sts.length).filter (hist ol.sts) := by
 unfold histR
 rw [h.len, mk_len]
 apply List.filter_congr
 intro i hi
 rw [← h.sts]
 exact (hist_rn (L := mk l) (by rw [mk_len]; simpa using hi)).symm
theorem pastR_eq {l : List NV} {ol : Ol} (h : Rf l ol) (s : Sd) : pastR ol.sts s = (histR (mk l)).map (pastAt s) := by unfold pastR; rw [hist_eq h]
theorem histR_has {L : List RN} {i : Nat} (hi : i < L.length) (hk : (rnAt L i).kind = 5) : i ∈ histR L := by
 unfold histR; rw [List.mem_filter]; exact ⟨by simpa using hi, by simpa using hk⟩
theorem goal_plain {ss : List St} {s : Sd} {g : Nat} (h : (kindAt ss g != 5) = true) : goal ss s g = g := by
 unfold goal; rw [h]; simp
theorem goal_hist {ss : List St} {s : Sd} {g : Nat} (h16 : g < 16) (h : (kindAt ss g != 5) = false) : goal ss s g = if pastAt s g == 45 then firstChild ss (parAt ss g) else place ss (pastAt s g) := by
 unfold goal
 have h1 : decide ((g : Int) < 0) = false := by rw [decide_eq_false]; omega
 have h2 : decide (16 ≤ (g : Int)) = false := by rw [decide_eq_false]; omega
 rw [h1, h2, h, Int.toNat_natCast]; rfl
end Ch
/-- What the reference remembers, in its row. -/
def PsR (w : World) (B : Nat) (ol : Ch.Ol) (s : Ch.Sd) (pv : Value) : Prop := w.ownsRow B 5 1 pv (Ch.pastR ol.sts s).length (byCells (Ch.pastR ol.sts s))
section
variable (w : World) (B B2 xb cb g : Nat) (pv : Value) (m : Ch.Ma) (l : List NV) (v : Value) (ol : Ch.Ol)
set_option maxHeartbeats 1600000 in
set_option maxRecDepth 100000 in
theorem rGoal_any (t a k : Nat) (nd : NV) (rt : Ch.RT) (x : Ch.Tr) (h : NwB w xb cb g l.length pv m) (hps : PsR w B2 ol m.s pv) (hI : Ch.Inv ol m.s) (hF : ChF w B cb l v) (hR : Rf l ol) (hm : MvR l ol t a k nd rt x) :
 Calls Tryz.prog 248 #[.pointer (some ⟨xb, 0, none⟩), .agg #[.int .i64 a, .int .i64 k]] w fun y w' => y = .returned (.int .i64 (Ch.goalR ol m.s t)) ∧ Kp (fun _ => False) w w' := by
 have hgR : Ch.goalR ol m.s t = if x.target == 45 then -1 else Ch.goal ol.sts m.s (Ch.place ol.sts x.target) := by unfold Ch.goalR; rw [Int.toNat_natCast, hm.htr]
 have hle := hR.le
 obtain ⟨ao, cap, rfl⟩ := hF.2.1.len
 have hb1 := heap_alloc_new w (.cells #[.int .i64 a, .int .i64 k] 301)
 have K1 : Kp (fun _ => False) w (w.alloc (.cells #[.int .i64 a, .int .i64 k] 301)) := (Kp.refl _ _).alloc _
 have hF1 := hF.keep0 K1
 have h1 : NwB _ xb cb g l.length pv m := h.keep K1 (fun x => x)
 have hps1 : PsR _ B2 ol m.s pv := K1.owns hps (fun _ _ x => x)
 have E1 := hid (rTarget_any _ B xb cb g l.length pv m l _ a k nd rt x h1 hF1 hle hm.hnd hm.hrt hm.hok hm.hsz)
 have HH := hid (And.intro h1 (And.intro hF1 (And.intro hps1 hgR)))
 clear h hF h1 hF1 hps hps1 hgR
 go_enter Tryz.func248, Tryz.ntmps248
 go_upto_region 1 with (fail)
 generalize w.alloc (.cells #[.int .i64 a, .int .i64 k] 301) = w1 at *
 generalize w.heap.size = ob at *
 have m0 : w1.cell? ⟨ob, 0, none⟩ = some (.int .i64 a) := by rw [World.cell?, hb1]; rfl
 have m1 : w1.cell? ⟨ob, 1, none⟩ = some (.int .i64 k) := by rw [World.cell?, hb1]; rfl
 go_wp2_with fail
 refine Calls.mono (Hid.out E1) ?_
 rintro y w2 ⟨rfl, K2⟩
 have h2 : NwB w2 xb cb g l.length pv m := HH.out.1.keep K2 (fun x => x)
 have hF2 := HH.out.2.1.keep0 K2
 have hps2 : PsR w2 B2 ol m.s pv := K2.owns HH.out.2.2.1 (fun _ _ x => x)
 have c0 : w2.cell? ⟨xb, 0, none⟩ = some (.pointer (some ⟨cb, 0, none⟩)) := h2.cell 0
 have zc := hF2.cell
 have hgR := HH.out.2.2.2
 have K12 := K1.trans K2
 clear E1 HH m0 m1 hb1 K1 K2
 obtain ⟨gt, hgt⟩ : ∃ gt, Ch.namedR (Ch.mk l) x.target = gt := ⟨_, rfl⟩
 rw [hgt]
 by_cases h45 : x.target = 45
 ·have hn := hR.named45
  rw [← h45, hgt] at hn
  subst hn
  rw [h45] at hgR
  have HR := hid (hgR.trans (show _ = -1 from rfl))
  clear hgR hgt
  go_wp2
  go_ret
  rw [HR.out]
  exact ⟨rfl, K12⟩
 ·obtain ⟨gi, hgil, hg1, hg2⟩ : ∃ gi : Nat, gi < l.length ∧ gt = gi ∧ Ch.place ol.sts x.target = gi := by
   rcases hR.named x.target with ⟨_, h2⟩ | ⟨i, hi, h1, h2⟩
   ·obtain ⟨g', hg', _⟩ := hR.ols.tgt x (List.mem_of_getElem? hm.htr) h45
    omega
   ·exact ⟨i, hi, by rw [← hgt]; exact h1, h2⟩
  subst hg1
  have ht : (x.target == 45) = false := by simpa using h45
  rw [ht, hg2] at hgR
  simp only [Bool.false_eq_true, if_false] at hgR
  have hgi' : (gi : Int) < (l.length : Int) := by omega
  obtain ⟨y, hy⟩ : ∃ y, l[gi]? = some y := ⟨_, List.getElem?_eq_getElem hgil⟩
  obtain ⟨g1, cap1, hv, _, hcell, _⟩ := hF2.2.1.form hy
  simp only [Value.slice.injEq] at hv
  obtain ⟨rfl, -, rfl⟩ := hv
  have zk : w2.cell? ⟨g1, gi * 7 + 1, none⟩ = some (.int .i64 y.n.kind) := hcell 1 (by omega)
  have hkd := hR.kind hy
  cases q5 : y.n.kind != 5 with
  | true =>
    have HR := hid (hgR.trans (Ch.goal_plain (by rw [hkd]; exact q5)))
    clear hgR hgt hcell h2 hF2 hps2
    go_wp2
    go_ret
    rw [HR.out]
    exact ⟨rfl, K12⟩
  | false =>
    have hg3 := hgR.trans (Ch.goal_hist (by omega) (by rw [hkd]; exact q5))
    rw [hR.par hy] at hg3
    have E2 := hid (rHist_any w2 B cb l _ hF2 (by omega))
    have HX := hid (And.intro h2 (And.intro hF2 (And.intro hps2 (And.intro hg3 K12))))
    clear hgR hgt hcell h2 hF2 hps2 hg3 K12
    go_wp2_with fail
    refine Calls.mono (Hid.out E2) ?_
    rintro z w3 ⟨u, rfl, hu, K3⟩
    obtain ⟨ua, uc, rfl⟩ := own_len hu
    have hhas : gi ∈ Ch.histR (Ch.mk l) := Ch.histR_has (by rw [Ch.mk_len]; exact hgil) (by rw [Ch.rnAt_mk hy]; simpa using q5)
    have hpR := Ch.pastR_eq hR m.s
    have hhl := Ch.histR_len16 (Ch.mk l)
    rw [Ch.mk_len] at hhl
    have hpo := hI.past gi (by rw [hR.len]; exact hgil) (by rw [Ch.hist_kind (by rw [hR.len]; exact hgil), hkd]; simpa using q5)
    generalize Ch.histR (Ch.mk l) = hs at *
    have h3 : NwB w3 xb cb g l.length pv m := HX.out.1.keep K3 (fun x => x)
    have hF3 := HX.out.2.1.keep0 K3
    have hps3 : PsR w3 B2 ol m.s pv := K3.owns HX.out.2.2.1 (fun _ _ x => x)
    unfold PsR at hps3
    rw [hpR] at hps3
    obtain ⟨pa, pc, hpv⟩ := own_len hps3
    subst hpv
    have HY := hid (And.intro hu (And.intro h3 (And.intro hF3 (And.intro hps3 (And.intro HX.out.2.2.2.1 (And.intro (HX.out.2.2.2.2.trans K3) hhas))))))
    have HPO := hid hpo
    simp only [List.length_map] at *
    clear hu h3 hF3 hps3 K3 E2 hhas hpR hpo HX c0 zc zk
    go_wp2_with fail
    go_loopw [7] (fun kv wr => ∃ e : Nat, kv = .int .i64 e ∧ e ≤ hs.length ∧ Hid (∀ j, j < e → hs[j]? = some gi → Ch.pastAt m.s gi = 45) ∧ Kp (fun _ => False) w3 wr) (fun kv _ => hs.length - (intOf kv).toNat)
    case atStart => exact ⟨0, rfl, Nat.zero_le _, hid (fun j h => absurd h (by omega)), Kp.refl _ _⟩
    case round =>
     obtain ⟨e, rfl, he, HB, KW⟩ := hrel
     have hr : NwB wr xb cb g l.length (.slice pa hs.length pc) m := HY.out.2.1.keep KW (fun x => x)
     have hFr := HY.out.2.2.1.keep0 KW
     have hur := KW.owns HY.out.1 (fun _ _ x => x)
     have hpr := KW.owns HY.out.2.2.2.1 (fun _ _ x => x)
     have KF := HY.out.2.2.2.2.2.1.trans KW
     have c0 : wr.cell? ⟨xb, 0, none⟩ = some (.pointer (some ⟨cb, 0, none⟩)) := hr.cell 0
     have c2 : wr.cell? ⟨xb, 2, none⟩ = some (.slice pa hs.length pc) := hr.cell 2
     have zc := hFr.cell
     by_cases hlt : e < hs.length
     ·have hlt' : (e : Int) < (hs.length : Int) := by omega
      obtain ⟨hj, hhj⟩ : ∃ hj, hs[e]? = some hj := ⟨_, List.getElem?_eq_getElem hlt⟩
      obtain ⟨g2, cap2, hv2, _⟩ := World.ownsRow.form hur (by omega)
      simp only [Value.slice.injEq] at hv2
      obtain ⟨rfl, -, rfl⟩ := hv2
      have zh : wr.cell? ⟨g2, e, none⟩ = some (.int .i64 hj) := by
       rw [World.ownsRow.cellAt hur e (by omega)]; simp [inCells, Ch.natI, hhj]
      obtain ⟨g3, cap3, hv3, _⟩ := World.ownsRow.form hpr (by omega)
      simp only [Value.slice.injEq] at hv3
      obtain ⟨rfl, -, rfl⟩ := hv3
      have zp : wr.cell? ⟨g3, e, none⟩ = some (.int .u8 (Ch.pastAt m.s hj)) := by
       rw [World.ownsRow.cellAt hpr e (by simp; omega)]; simp [byCells, hhj]
      have HNX := hid (fun (hh : hj = gi → Ch.pastAt m.s gi = 45) => show ∀ j, j < e + 1 → hs[j]? = some gi → Ch.pastAt m.s gi = 45 from fun j hj' hs' => by
       rcases Nat.lt_or_eq_of_le (Nat.le_of_lt_succ hj') with h' | h'
       ·exact HB.out j h' hs'
       ·subst h'; rw [hhj] at hs'; exact hh (by simpa using hs'))
      have HKW := hid (And.intro KW KF)
      by_cases hji : hj = gi
      ·subst hji
       cases qp : Ch.pastAt m.s hj != 45 with
       | false =>
         have HN := hid (HNX.out (fun _ => by simpa using qp))
         clear hr hFr hur hpr KW KF HNX HB hhj
         go_wp2
         go_roundw
         case rel => exact ⟨e + 1, by go_num, by omega, hid HN.out, HKW.out.1⟩
         case measure => simp [intOf]; omega
       | true =>
         have hne : (Ch.pastAt m.s hj == 45) = false := by simpa using qp
         have hg3 := HY.out.2.2.2.2.1
         rw [hne] at hg3
         simp only [Bool.false_eq_true, if_false] at hg3
         have hpl : Ch.namedR (Ch.mk l) (Ch.pastAt m.s hj) = Ch.place ol.sts (Ch.pastAt m.s hj) := by
          have hp := HPO.out
          unfold Ch.isPast at hp
          rw [hne] at hp
          simp only [Bool.false_eq_true, if_false] at hp
          rcases hR.named (Ch.pastAt m.s hj) with ⟨_, h2⟩ | ⟨i, _, h1, h2⟩
          ·rw [h2] at hp; cases hp
          ·rw [h1, h2]
         have HN := hid (hg3.trans hpl.symm)
         have E := hid (fun nn => rNamed_any (wr.drewN nn) B cb l _ (Ch.pastAt m.s hj) (hFr.keep0 ((Kp.refl _ _).drewN nn)) (by omega))
         clear hr hFr hur hpr KW KF HNX HB hhj hg3 hpl
         go_upto_region 9 with (fail)
         go_quiet ((go_at_call 236; exact Calls.quiet_of_same (Hid.out E _)))
         go_wp2
         go_ret
         rw [HN.out]
         exact ⟨rfl, HKW.out.2.drewN _⟩
      ·have hji' : ((hj : Int) == (gi : Int)) = false := by simp; omega
       have HN := hid (HNX.out (fun h => absurd h hji))
       clear hr hFr hur hpr KW KF HNX HB hhj hji
       go_wp2
       go_roundw
       case rel => exact ⟨e + 1, by go_num, by omega, hid HN.out, HKW.out.1⟩
       case measure => simp [intOf]; omega
     ·have hge : ¬ (e : Int) < (hs.length : Int) := by omega
      obtain rfl : e = hs.length := by omega
      have hp45 : Ch.pastAt m.s gi = 45 := by
       obtain ⟨j, hj⟩ := List.getElem?_of_mem HY.out.2.2.2.2.2.2
       exact HB.out j (List.getElem?_eq_some_iff.1 hj).1 hj
      have hg3 := HY.out.2.2.2.2.1
      rw [hp45] at hg3
      have hsh := hR.ols.shp.hs gi (by rw [hR.len]; exact hgil) (.inl (by rw [hkd]; simpa using q5))
      obtain ⟨p, hpp, hplt⟩ := hR.ols.shp.par hsh.1 (by rw [hR.len]; exact hgil)
      have hyp : y.n.parent = p := by rw [← hR.par hy]; exact hpp
      rw [hyp] at hg3
      have hkne : Ch.kidsS ol.sts p ≠ [] := by
       rw [hpp] at hsh
       obtain ⟨j, _, hj⟩ := hR.ols.shp.kid p (by rw [hR.len]; omega) (.inl hsh.2)
       intro hz
       have := Ch.mem_kids.2 hj
       rw [hz] at this; cases this
      have hfc := Ch.first_head hkne
      rw [← Ch.kids_eq hR] at hfc hkne
      have hgf : Ch.goalR ol m.s t = ((Ch.kidsR (Ch.mk l) (p : Int)).headD 0 : Nat) := by rw [hg3]; simpa using hfc
      obtain ⟨g1', cap1', hv', _, hcell', _⟩ := hFr.2.1.form hy
      simp only [Value.slice.injEq, Option.some.injEq, Addr.mk.injEq, true_and, and_true] at hv'
      obtain ⟨rfl, rfl⟩ := hv'
      have zp : wr.cell? ⟨g1, gi * 7 + 2, none⟩ = some (.int .i64 p) := by rw [← hyp]; exact hcell' 2 (by omega)
      have E := hid (rKids_any wr.drew B cb l _ (p : Int) (hFr.keep0 (Kp.refl _ _).drew) (by omega))
      generalize Ch.kidsR (Ch.mk l) (p : Int) = ks at *
      have HN := hid hgf
      have HKN := hid hkne
      clear hr hFr hur hpr hg3 hfc hgf hkne hcell' hsh HB
      go_upto_region 10 with (fail)
      go_region_held3 (fun w' => w'.cell? ⟨xb, 0, none⟩ = some (.pointer (some ⟨cb, 0, none⟩)) ∧ w'.cell? ⟨cb, 0, none⟩ = some (.slice (some ⟨g1, 0, none⟩) l.length cap) ∧ w'.cell? ⟨g1, gi * 7 + 2, none⟩ = some (.int .i64 p)) (first | exact ⟨c0, zc, zp⟩ | exact HS.out) ((go_at_call 234; refine Calls.mono (Hid.out E) ?_; rintro z w5 ⟨u5, rfl, hu5, K5⟩; have H := hid (And.intro hu5 K5); have HS := hid (And.intro (K5.cellF c0) (And.intro (K5.cellF zc) (K5.cellF zp))); clear E hu5 K5))
      obtain ⟨hu5, K5⟩ := H.out
      clear H HS
      cases ks with
      | nil => exact absurd rfl HKN.out
      | cons k0 kt =>
        obtain ⟨g5, cap5, hv5, _⟩ := World.ownsRow.form hu5 (by simp)
        subst hv5
        have z5 : w5.cell? ⟨g5, 0, none⟩ = some (.int .i64 k0) := by
         rw [World.ownsRow.cellAt hu5 0 (by simp)]; simp [inCells, Ch.natI]
        have HK5 := hid (KF.drew.trans K5)
        have hl5 : (0 : Int) < ((k0 :: kt).length : Int) := by simp
        generalize (k0 :: kt).length = kl at *
        clear hu5 K5 KF KW
        go_wp2
        go_ret
        rw [HN.out]
        exact ⟨rfl, HK5.out⟩
end
end Go.Proofs.YtnlbchmfcebeeaaGreat
