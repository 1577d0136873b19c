/- Walks: the reference's Begin. -/
import Derived.Test.YtnlbchmfcebeeaaGreatTZl
namespace Go.Proofs.YtnlbchmfcebeeaaGreat
open Go.RowKit
namespace Ch
/-- Where a run begins. -/
def m0 (ol : Ol) : Ma := ⟨blankSd ol.sts, [], []⟩
theorem m0_ok (ol : Ol) : MOk (m0 ol) 0 := ⟨blankSd_ok _, ⟨by show TL 48 (bys ByteArray.empty); simp [bys, TL], by show ByteArray.empty.size ≤ 16; decide⟩, ⟨Nat.le_refl _, Nat.le_refl _⟩⟩
theorem m0_qb (ol : Ol) : QB (m0 ol) := fun a h => by simp [m0] at h
theorem MOk.enterA {ol : Ol} (hol : ol.Ok) (hA : AcA ol) {m : Ma} {N : Nat} (h : MOk m N) (l : List Int) : MOk (Ch.enter ol m l) (N + 1900000) :=
 ⟨enter_ok h.ok l, (keeps_tl (by omega) ol).enterF hA _ _ _ _ h.tm, enter_sz hol h.sz l⟩
theorem past_blank {ss : List St} (h : ss.length ≤ 16) : pastR ss (blankSd ss) = List.replicate (pastR ss (blankSd ss)).length 45 := by
 refine List.eq_replicate_iff.2 ⟨rfl, fun x hx => ?_⟩
 unfold pastR at hx
 obtain ⟨k, hk, rfl⟩ := List.mem_map.1 hx
 obtain ⟨h1, h2⟩ := List.mem_filter.1 hk
 have h1 : k < ss.length := by simpa using h1
 show (blankP ss).getD k 0 = 45
 unfold blankP blankK
 rw [List.getD_eq_getElem?_getD, List.getElem?_map, List.getElem?_range (by omega)]
 simp [h2]; omega
/-- What Begin gives. -/
def beginR (ol : Ol) : Bool × As × ByteArray :=
 if (roundsR ol 30 (enter ol (m0 ol) [])).1 then (true, asOf ol.sts (roundsR ol 30 (enter ol (m0 ol) [])).2.s, strOfNums (roundsR ol 30 (enter ol (m0 ol) [])).2.out) else (false, as0, ⟨#[]⟩)
theorem begin_eq (ol : Ol) : mstart ol = if (beginR ol).1 then ((roundsR ol 30 (enter ol (m0 ol) [])).2.s, (beginR ol).2.2, 0) else (noSd, ByteArray.empty, 9) := by
 unfold mstart finish beginR
 rw [roundsR_eq]
 show (if busy ol (rounds ol 30 (enter ol (m0 ol) [])) = true then _ else _) = _
 cases busy ol (rounds ol 30 (enter ol (m0 ol) [])) <;> rfl
/-- What the reference's Start gives. -/
def startR (t : ByteArray) : As × ByteArray × Int :=
 if (read t).1 != 0 then (as0, ⟨#[]⟩, (read t).1)
 else if (beginR (read t).2.2).1 then ((beginR (read t).2.2).2.1, (beginR (read t).2.2).2.2, 0) else (as0, ⟨#[]⟩, 9)
theorem startR_eq (t : ByteArray) : cStart t = startR t := by
 unfold cStart startR
 split
 ·rfl
 ·rw [begin_eq]
  unfold beginR
  split <;> rfl
end Ch
/-- The Now with its past so far. -/
theorem NwB.setP {w : World} {xb cb g n : Nat} {pv : Value} {m : Ch.Ma} (h : NwB w xb cb g n pv m) (u : Value) : NwB (w.setCell ⟨xb, 2, none⟩ u) xb cb g n u m := by unfold NwB at *; rw [heap_set_same _ h]; rfl
/-- The Now while its past is being laid. -/
def BgI (w wr : World) (xb cb g n : Nat) (pv : Value) (m : Ch.Ma) (k : Nat) : Prop := NwB wr xb cb g n pv m ∧ OnB wr g (List.replicate n false) ∧ wr.ownsRow w.heap.size 5 1 pv k (byCells (List.replicate k 45)) ∧ Kp (fun _ => False) w wr
section
variable (w : World) (B cb : Nat) (l : List NV) (v : Value) (ol : Ch.Ol)
set_option maxHeartbeats 1600000 in
set_option maxRecDepth 100000 in
theorem rBegin_any (hF : ChF w B cb l v) (hR : Rf l ol) :
 Calls Tryz.prog 145 #[.pointer (some ⟨cb, 0, none⟩)] w fun y w' => y = .returned (.tuple #[.agg (asA (Ch.beginR ol).2.1), .string (Ch.beginR ol).2.2, .bool (Ch.beginR ol).1]) ∧ Kp (fun _ => False) w w' := by
 obtain ⟨i0, hi, hz0, hz1, hz2⟩ := info_parts Tryz.infoBool
 obtain ⟨j0, hj, hy0, hy1, hy2⟩ := info_parts Tryz.infoByte
 obtain ⟨da, hdA, hdAa⟩ := Tryz.undAs
 have hle := hR.le
 obtain ⟨ao, cap, rfl⟩ := hF.2.1.len
 have K0 : Kp (fun _ => False) w (w.alloc (.cells #[.string ⟨#[]⟩, .string ⟨#[]⟩, .string ⟨#[]⟩, .int .i64 0, .int .i64 0, .int .i64 0] 26)) := (Kp.refl _ _).alloc _
 have hb0 := heap_alloc_new w (.cells #[.string ⟨#[]⟩, .string ⟨#[]⟩, .string ⟨#[]⟩, .int .i64 0, .int .i64 0, .int .i64 0] 26)
 have hF0 := hF.keep0 K0
 have zc := hF0.cell
 have hsz0 : w.heap.size < (w.alloc (.cells #[.string ⟨#[]⟩, .string ⟨#[]⟩, .string ⟨#[]⟩, .int .i64 0, .int .i64 0, .int .i64 0] 26)).heap.size := lt_of_block hb0
 have HF := hid (And.intro hF0 (And.intro hb0 K0))
 clear hF hF0 K0 hb0
 go_enter Tryz.func145, Tryz.ntmps145
 go_upto_region 1 with (fail)
 generalize w.alloc (.cells #[.string ⟨#[]⟩, .string ⟨#[]⟩, .string ⟨#[]⟩, .int .i64 0, .int .i64 0, .int .i64 0] 26) = w0 at *
 go_wp2_with (at_make; refine wpList_make_full w0 rfl (.tmp 15) (.tmp 15) 68 rfl w0.heap.size 4 i0 (.bool false) 1 Tryz.underlying68 hi hz0 hz1 .i64 .i64 l.length l.length l.length rfl rfl rfl rfl ?c1 ?c2 (Nat.le_refl _) ?_)
 case c1 => rw [hz2]; omega
 case c2 => unfold maxLen; omega
 intro w4 o4 g4
 have K4 : Kp (fun _ => False) w0 w4 := (Kp.refl _ _).grown g4 (fun i hi _ => by simp at hi)
 have hon4 := OnB.made o4
 have HQ := hid (And.intro hon4 K4)
 clear zc o4 g4 hon4 K4
 generalize hg : w0.heap.size = g at *
 generalize hNow : (#[.pointer (some ⟨cb, 0, none⟩), .slice (some ⟨g, 0, none⟩) l.length l.length, .slice none 0 0, .string ⟨#[]⟩, .int .i64 0, .int .i64 0, .int .i64 0, .string ⟨#[]⟩, .string ⟨#[]⟩] : Array Value) = NW
 have hnw : NwB (w4.alloc (.cells NW 274)) w4.heap.size cb g l.length (.slice none 0 0) (Ch.m0 ol) := by
  unfold NwB
  rw [← hNow]
  exact heap_alloc_new _ _
 have K5 : Kp (fun _ => False) w0 (w4.alloc (.cells NW 274)) := HQ.out.2.alloc _
 have hF5 := HF.out.1.keep0 K5
 have hon5 := ((Kp.refl (fun _ => False) w4).alloc (.cells NW 274)).at_ HQ.out.1 (fun x => x)
 have E1 := hid (rHist_any (w4.alloc (.cells NW 274)) B cb l _ hF5 (by omega))
 have hxw : w0.heap.size ≤ w4.heap.size := HQ.out.2.size
 have hlen : (Ch.pastR ol.sts (Ch.m0 ol).s).length = (Ch.histR (Ch.mk l)).length := by rw [Ch.pastR_eq hR]; simp
 have H5 := hid (And.intro hon5 (And.intro hnw K5))
 clear hF5 hon5 hnw K5 HQ
 go_upto_region 2 with (fail)
 clear hNow
 generalize w4.alloc (.cells NW 274) = w5 at *
 generalize w4.heap.size = xb at *
 go_wp2_with fail
 refine Calls.mono (Hid.out E1) ?_
 rintro y w6 ⟨u, rfl, hu, K6⟩
 obtain ⟨ua, uc, rfl⟩ := own_len hu
 have hHl : (Ch.histR (Ch.mk l)).length ≤ 16 := by
  rw [← hlen]
  unfold Ch.pastR
  have := List.length_filter_le (Ch.hist ol.sts) (List.range ol.sts.length)
  have := hR.len
  simp at *
  omega
 have H6 := hid (show BgI w0 w6 xb cb g l.length (.slice none 0 0) (Ch.m0 ol) 0 from ⟨H5.out.2.1.keep K6 (fun x => x), K6.at_ H5.out.1 (fun x => x), World.ownsRow_nil _ _ _ _, H5.out.2.2.trans K6⟩)
 have HL := hid hlen
 clear E1 H5 hu K6 hlen
 generalize (Ch.histR (Ch.mk l)).length = H at *
 go_wp2_with fail
 go_loopw [7] (fun kv wr => ∃ (k : Nat) (pv : Value), kv = .int .i64 k ∧ k ≤ H ∧ Hid (BgI w0 wr xb cb g l.length pv (Ch.m0 ol) k)) (fun kv _ => H - (intOf kv).toNat)
 case atStart => exact ⟨0, _, rfl, Nat.zero_le _, H6⟩
 case round =>
  obtain ⟨k, pv, rfl, hk, HI⟩ := hrel
  obtain ⟨hn, ho, hp, KW⟩ := HI.out
  by_cases hlt : k < H
  ·have hlt' : (k : Int) < (H : Int) := by omega
   have c2 : wr.cell? ⟨xb, 2, none⟩ = some pv := hn.cell 2
   have hsz := KW.size
   clear KW ho
   go_wp2_with (at_builtin; refine wpList_append_where (P := Tryz.prog) rfl (.tmp 31) (.tmp 32) 47 rfl w0.heap.size 5 j0 (.int .u8 0) 1 1 Tryz.underlying47 hj hy0 hy1 hy2 rfl (by decide) pv k (byCells (List.replicate k 45)) rfl (by exact hp.alloc _) ⟨wr.heap.size, 0, none⟩ 1 1 [.int .u8 45] rfl rfl (by exact cell1_new _ _ _) (by intro u hu; simp at hu; subst hu; rfl) (by decide) (by unfold maxLen; omega) (by omega) (by simp; omega) ?_)
   intro g9 c9 w9 o9 gr9 _
   obtain ⟨_, ho, _, KW⟩ := HI.out
   have K9 : Kp (fun i => pv.ownBlock = some i) wr w9 := ((Kp.refl _ _).alloc (.cells #[.int .u8 45] 5)).grown (by exact gr9) (fun i hi _ => hi)
   have hn9 := hn.keep K9 (own_ne hp hn (by decide))
   have ho9 : OnB w9 g _ := K9.at_ ho (own_ne hp ho (by decide))
   have d2 : w9.cell? ⟨xb, 2, none⟩ = some pv := hn9.cell 2
   have f2 := hn9.free 2
   have hgx : g ≠ xb := fun e => by
    have h1 := hn9
    have h2 := ho9
    unfold NwB at h1
    unfold OnB at h2
    rw [e, h1] at h2
    simp only [Option.some.injEq, Obj.cells.injEq] at h2
    exact absurd h2.2.1 (by decide)
   have Kz : Kp (fun i => i = xb) w9 (w9.setCell ⟨xb, 2, none⟩ (.slice (some ⟨g9, 0, none⟩) (k + 1) c9)) := (Kp.refl _ _).setCell (by intro _; rfl) _
   have oz := Kz.owns o9 (fun i hi e => own_ne o9 hn9 (by decide) (e ▸ hi))
   have HZ := hid (show BgI w0 (w9.setCell ⟨xb, 2, none⟩ (.slice (some ⟨g9, 0, none⟩) (k + 1) c9)) xb cb g l.length (.slice (some ⟨g9, 0, none⟩) (k + 1) c9) (Ch.m0 ol) (k + 1) from ⟨hn9.setP _, Kz.at_ ho9 hgx, by rw [List.replicate_succ', byCells_snoc, hg]; exact oz, (KW.trans' K9 (fun i hi e => by have := (hp.lt i e).1; omega)).trans' Kz (fun i hi e => by omega)⟩)
   clear hn9 ho9 hgx Kz oz K9 o9 gr9 KW ho hp hn c2 HI
   go_wp2
   generalize w9.setCell ⟨xb, 2, none⟩ (.slice (some ⟨g9, 0, none⟩) (k + 1) c9) = wz at *
   go_roundw
   case rel => exact ⟨k + 1, _, by go_num, by omega, HZ⟩
   case measure => simp [intOf]; omega
  ·have hge : ¬ (k : Int) < (H : Int) := by omega
   obtain rfl : k = H := by omega
   have hN : NwX wr B w0.heap.size xb cb g pv (.slice ao l.length cap) l ol (Ch.m0 ol) := ⟨hn, ⟨_, ho, Ch.same0 _⟩, by
    unfold PsR
    have e := Ch.past_blank (ss := ol.sts) (by rw [hR.len]; exact hle)
    replace e : Ch.pastR ol.sts (Ch.m0 ol).s = List.replicate (Ch.pastR ol.sts (Ch.m0 ol).s).length 45 := e
    rw [e, HL.out]
    simpa using hp, HF.out.1.keep0 KW⟩
   have hse : Ch.enter ol (Ch.m0 ol) [] = Ch.entL ol (Ch.nextR ol.sts (Ch.bit (Ch.m0 ol).s.act) [] ol.sts.length 0) (Ch.m0 ol) := (Ch.start_ref hR.ols).1
   have E2 := hid (rEntering_any wr B w0.heap.size xb cb g pv _ l ol (Ch.m0 ol) 0 0 [] (.slice none 0 0) hN hR (Ch.m0_ok ol) (by omega) (by simp) (by simp) (World.ownsRow_nil _ _ _ _))
   have HM := hid (And.intro ((Ch.m0_ok ol).enterA hR.ok hR.aca []) (And.intro (Ch.QB.enterF hR.nmb hR.aca _ _ _ _ (Ch.m0_qb ol) : Ch.QB (Ch.enter ol (Ch.m0 ol) [])) (Ch.start_ref hR.ols).2))
   replace HM : Hid (Ch.MOk (Ch.enter ol (Ch.m0 ol) []) (0 + 1900000) ∧ Ch.QB (Ch.enter ol (Ch.m0 ol) []) ∧ Ch.Inv ol (Ch.enter ol (Ch.m0 ol) []).s) := HM
   have HBG := hid (show Ch.beginR ol = if (Ch.roundsR ol 30 (Ch.enter ol (Ch.m0 ol) [])).1 then (true, Ch.asOf ol.sts (Ch.roundsR ol 30 (Ch.enter ol (Ch.m0 ol) [])).2.s, strOfNums (Ch.roundsR ol 30 (Ch.enter ol (Ch.m0 ol) [])).2.out) else (false, Ch.as0, ⟨#[]⟩) from rfl)
   rw [← hse] at E2
   have HP := hid (And.intro hp KW)
   clear hse hN hn ho hp KW HI H6 HL
   generalize Ch.enter ol (Ch.m0 ol) [] = ms at *
   go_wp2_with fail
   refine Calls.mono (Hid.out E2) ?_
   rintro y w7 ⟨rfl, X7, K7⟩
   have E3 := hid (rRounds_at B w0.heap.size xb cb g pv _ l ol hR 30 w7 ms _ X7 HM.out.2.2 HM.out.1 HM.out.2.1 (by omega))
   replace E3 : Hid (Calls Tryz.prog 203 #[.pointer (some ⟨xb, 0, none⟩), .int .i64 30] w7 fun y w' => y = .returned (.bool (Ch.roundsR ol 30 ms).1) ∧ NwX w' B w0.heap.size xb cb g pv (.slice ao l.length cap) l ol (Ch.roundsR ol 30 ms).2 ∧ Kp (nS xb g pv) w7 w') := E3
   have HI8 := hid (show Ch.Inv ol (Ch.roundsR ol 30 ms).2.s by rw [Ch.roundsR_eq]; exact Ch.rounds_inv hR.ols 30 HM.out.2.2)
   have HK7 := hid K7
   clear E2 X7 K7 HM
   go_wp2_with fail
   refine Calls.mono (Hid.out E3) ?_
   rintro y w8 ⟨rfl, X8, K8⟩
   have hnS : ∀ i, i < w0.heap.size → nS xb g pv i → False := fun i hi e => by
    rcases e with e | e | e
    ·omega
    ·omega
    ·have := (HP.out.1.lt i e).1; omega
   have KA : Kp (fun _ => False) w0 w8 := (HP.out.2.trans' HK7.out hnS).trans' K8 hnS
   have hrb := KA.at_ HF.out.2.1 (fun x => x)
   have HA := hid (And.intro X8 (HF.out.2.2.trans KA))
   clear E3 X8 K8 HK7 HP hnS KA
   generalize Ch.roundsR ol 30 ms = rr at *
   obtain ⟨ok, m8⟩ := rr
   cases ok with
   | false =>
     have HB2 := hid (HBG.out.trans (if_neg (by simp)))
     have KF : Kp (fun _ => False) w (w8.setRow w.heap.size #[.string ⟨#[]⟩, .string ⟨#[]⟩, .string ⟨#[]⟩, .int .i64 0, .int .i64 0, .int .i64 0]) := HA.out.2.setRow (fun x => by omega) _
     clear HBG HI8 HF HA
     go_wp2_with (refine wpList_store_row rfl 26 (.tmp 2) (.tmp 42) rfl w.heap.size #[.string ⟨#[]⟩, .string ⟨#[]⟩, .string ⟨#[]⟩, .int .i64 0, .int .i64 0, .int .i64 0] rfl rfl 26 #[.string ⟨#[]⟩, .string ⟨#[]⟩, .string ⟨#[]⟩, .int .i64 0, .int .i64 0, .int .i64 0] hrb Tryz.sizeAs rfl (asOne Ch.as0) ?_)
     refine bodyPost_ret (results_cell_tmp2 rfl _ _ w.heap.size 26 #[.string ⟨#[]⟩, .string ⟨#[]⟩, .string ⟨#[]⟩, .int .i64 0, .int .i64 0, .int .i64 0] (0, 0) da rfl (setRow_heap _ _ _ _ _ _ hrb) hdA hdAa Tryz.sizeAs) rfl ?_
     rw [HB2.out]
     exact ⟨rfl, KF⟩
   | true =>
     have HB2 := hid (HBG.out.trans (if_pos rfl))
     have E4 := hid (rState_any w8 B w0.heap.size xb cb g pv _ l ol m8 HA.out.1 hR HI8.out)
     clear HBG HI8 HF
     go_wp2_with fail
     refine Calls.mono (Hid.out E4) ?_
     rintro y w9 ⟨rfl, K9⟩
     have hrb9 := K9.at_ hrb (fun x => x)
     have X9 := HA.out.1.keep0 K9
     have hnew := heap_alloc_new w9 (.cells #[.string ⟨#[]⟩, .string ⟨#[]⟩, .string ⟨#[]⟩, .int .i64 0, .int .i64 0, .int .i64 0] 26)
     have aO := asOne (Ch.asOf ol.sts m8.s)
     have aI : (Tryz.prog.info? 26).map (·.size) = some (asA (Ch.asOf ol.sts m8.s)).size := Tryz.sizeAs
     have aS : (asA (Ch.asOf ol.sts m8.s)).size = 6 := rfl
     generalize hAA : asA (Ch.asOf ol.sts m8.s) = AA at *
     have HAA := hid hAA
     have K10 : Kp (fun _ => False) w9 ((w9.alloc (.cells #[.string ⟨#[]⟩, .string ⟨#[]⟩, .string ⟨#[]⟩, .int .i64 0, .int .i64 0, .int .i64 0] 26)).setRow w9.heap.size AA) := ((Kp.refl _ _).alloc _).setRow (fun x => by omega) _
     have hrow := setRow_heap (w9.alloc (.cells #[.string ⟨#[]⟩, .string ⟨#[]⟩, .string ⟨#[]⟩, .int .i64 0, .int .i64 0, .int .i64 0] 26)) w9.heap.size #[.string ⟨#[]⟩, .string ⟨#[]⟩, .string ⟨#[]⟩, .int .i64 0, .int .i64 0, .int .i64 0] AA 26 (0, 0) hnew
     have hrb10 := K10.at_ hrb9 (fun x => x)
     have c8 : ((w9.alloc (.cells #[.string ⟨#[]⟩, .string ⟨#[]⟩, .string ⟨#[]⟩, .int .i64 0, .int .i64 0, .int .i64 0] 26)).setRow w9.heap.size AA).cell? ⟨xb, 8, none⟩ = some (.string (strOfNums m8.out)) := (X9.keep0 K10).nb.cell 8
     have hsb : w9.heap.size ≠ w.heap.size := by have := lt_of_block hrb9; omega
     have HK := hid ((HA.out.2.trans K9).trans K10)
     have hxne : xb ≠ w.heap.size := fun e => by
      have h1 := X9.nb
      unfold NwB at h1
      rw [e, hrb9] at h1
      simp only [Option.some.injEq, Obj.cells.injEq] at h1
      exact absurd h1.2.1 (by decide)
     clear hAA E4 K9 K10 X9 HA hrb hrb9
     go_upto_region 12 with (refine wpList_store_row rfl 26 (.tmp 9) (.tmp 44) rfl w9.heap.size AA rfl rfl 26 #[.string ⟨#[]⟩, .string ⟨#[]⟩, .string ⟨#[]⟩, .int .i64 0, .int .i64 0, .int .i64 0] hnew aI aS.symm aO ?_)
     generalize (w9.alloc (.cells #[.string ⟨#[]⟩, .string ⟨#[]⟩, .string ⟨#[]⟩, .int .i64 0, .int .i64 0, .int .i64 0] 26)).setRow w9.heap.size AA = w10 at *
     clear hnew
     generalize w9.heap.size = sb at *
     have hS0 : w10.drew.heap[sb]? = some (.cells AA 26 (0, 0)) ∧ w10.drew.cell? ⟨xb, 8, none⟩ = some (.string (strOfNums m8.out)) := ⟨hrow, c8⟩
     have hS1 : (w10.drew.setRow w.heap.size AA).heap[sb]? = some (.cells AA 26 (0, 0)) ∧ (w10.drew.setRow w.heap.size AA).cell? ⟨xb, 8, none⟩ = some (.string (strOfNums m8.out)) := ⟨by rw [setRow_other _ _ _ _ hsb]; exact hrow, by rw [World.cell?_of_block (setRow_other w10.drew _ _ _ hxne)]; exact c8⟩
     have KF : Kp (fun _ => False) w (w10.drew.setRow w.heap.size AA) := HK.out.drew.setRow (fun x => by omega) _
     refine region_begin (fun w' => w'.heap[sb]? = some (.cells AA 26 (0, 0)) ∧ w'.cell? ⟨xb, 8, none⟩ = some (.string (strOfNums m8.out))) (by kernel_rfl) ?_
     refine take_op 0 45 (.agg AA) rfl (by kernel_rfl) (by kernel_rfl) (by kernel_rfl) rfl rfl (fun w' hS => exec_load_row 26 (.tmp 9) rfl sb (by simp [Act.eval, Act.put]) 26 AA (0, 0) da hS.1 hdA hdAa aI) hS0 ?_
     simp only [Act.put, List.setIfInBounds_toArray, List.set_cons_succ, List.set_cons_zero]
     refine take_op 1 46 (.pointer (some ⟨xb, 0, none⟩)) rfl (by kernel_rfl) (by kernel_rfl) (by kernel_rfl) rfl rfl (fun w' _ => by simp [execOp, Act.eval, go_sem]) hS0 ?_
     simp only [Act.put, List.setIfInBounds_toArray, List.set_cons_succ, List.set_cons_zero]
     refine take_op 2 47 (.pointer (some ⟨xb, 0, none⟩)) rfl (by kernel_rfl) (by kernel_rfl) (by kernel_rfl) rfl rfl (fun w' _ => by simp [execOp, Act.eval, go_sem]) hS0 ?_
     simp only [Act.put, List.setIfInBounds_toArray, List.set_cons_succ, List.set_cons_zero]
     refine take_op 3 48 (.pointer (some ⟨xb, 8, none⟩)) rfl (by kernel_rfl) (by kernel_rfl) (by kernel_rfl) rfl rfl (fun w' _ => by simp [execOp, Act.eval, go_sem]) hS0 ?_
     simp only [Act.put, List.setIfInBounds_toArray, List.set_cons_succ, List.set_cons_zero]
     refine take_op 4 49 (.string (strOfNums m8.out)) rfl (by kernel_rfl) (by kernel_rfl) (by kernel_rfl) rfl rfl (fun w' hS => by have := hS.2; simp [execOp, Act.eval, go_sem, this]) hS0 ?_
     simp only [Act.put, List.setIfInBounds_toArray, List.set_cons_succ, List.set_cons_zero]
     refine do_store 5 (by kernel_rfl) rfl rfl 26 (.tmp 2) (.tmp 45) rfl rfl w.heap.size AA (by simp [Act.eval]) (by simp [Act.eval]) 26 #[.string ⟨#[]⟩, .string ⟨#[]⟩, .string ⟨#[]⟩, .int .i64 0, .int .i64 0, .int .i64 0] (by exact hrb10) aI aS.symm aO hS1 ?_
     refine take_op 6 3 (.string (strOfNums m8.out)) rfl (by kernel_rfl) (by kernel_rfl) (by kernel_rfl) rfl rfl (fun w' _ => by simp [execOp, Act.eval, go_sem]) hS1 ?_
     simp only [Act.put, List.setIfInBounds_toArray, List.set_cons_succ, List.set_cons_zero]
     refine take_op 7 4 (.bool true) rfl (by kernel_rfl) (by kernel_rfl) (by kernel_rfl) rfl rfl (fun w' _ => by rfl) hS1 ?_
     simp only [Act.put, List.setIfInBounds_toArray, List.set_cons_succ, List.set_cons_zero]
     refine wpAnyH_done (by kernel_rfl) (NoPanic.normal ?_) _
     go_wp2
     refine bodyPost_ret (results_cell_tmp2 rfl _ _ w.heap.size 26 AA (0, 0) da rfl (setRow_heap w10.drew _ _ _ _ _ (by exact hrb10)) hdA hdAa aI) rfl ?_
     rw [HB2.out]
     exact ⟨by rw [← HAA.out]; rfl, KF⟩
end
end Go.Proofs.YtnlbchmfcebeeaaGreat
