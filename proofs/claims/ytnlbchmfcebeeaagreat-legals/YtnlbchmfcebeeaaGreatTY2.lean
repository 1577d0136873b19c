/- Walks: the reference's Legal, of a chart and of a text. Walks: the reference's Check; a step that checks; the looks at the end of a script that has made nothing. Walks: a step that asks Legal; the script of such steps. -/
import Derived.Test.YtnlbchmfcebeeaaGreatTXf
import Derived.Test.YtnlbchmfcebeeaaGreatTXd
import Derived.Test.YtnlbchmfcebeeaaGreatTH1
import Derived.Test.YtnlbchmfcebeeaaGreatTY1
namespace Go.Proofs.YtnlbchmfcebeeaaGreat
open Go.RowKit

namespace Ch
theorem read_sts {t : ByteArray} (h : (read t).1 = 0) : (judge (chart t).2.sts (chart t).2.uses).1 = 0 ∧ (read t).2.2.sts = (chart t).2.sts := by
  unfold read at h ⊢
  split at h
  · cases h
  · rename_i c0
    rw [if_neg c0]
    split at h
    · rename_i c1
      rw [if_pos c1]
      split at h
      · rename_i c2
        rw [if_pos c2]
        exact ⟨by simpa using c2, rfl⟩
      · rename_i c2
        simp only at h
        rw [h] at c2; simp at c2
    · cases h
theorem legalR_none {L : List RN} {a p tm : ByteArray} {x y z : Int} (h : spreadR L a = none) : legalR L a p tm x y z = false := by unfold legalR; rw [h]
theorem legalR_some {L : List RN} {a p tm : ByteArray} {x y z : Int} {on : List Bool} (h : spreadR L a = some on) : legalR L a p tm x y z = ((List.range L.length).all (fitsR L on) && (remR L p && sentR tm && inB x && inB y && inB z)) := by unfold legalR; rw [h]
theorem all_no {n k : Nat} {p : Nat → Bool} (hk : k < n) (h : p k = false) : (List.range n).all p = false := by
  rw [List.all_eq_false]; exact ⟨k, by simpa using hk, by simp [h]⟩
theorem all_yes {n : Nat} {p : Nat → Bool} (h : ∀ k, k < n → p k = true) : (List.range n).all p = true := by
  rw [List.all_eq_true]; intro k hk; exact h k (by simpa using hk)
end Ch

section
variable (w : World) (B cb : Nat)

set_option maxHeartbeats 1600000 in
set_option maxRecDepth 100000 in
theorem rLegalC_any (l : List NV) (v : Value) (a : Ch.As) (hF : ChF w B cb l v) (hl : l.length ≤ 1000) (ha : a.Sm) (hpw : ∀ (i : Nat) (x : NV), l[i]? = some x → -1 ≤ x.n.parent ∧ x.n.parent < i) :
    Calls Tryz.prog 144 #[.pointer (some ⟨cb, 0, none⟩), .agg (asA a)] w fun x w' => x = .returned (.bool (Ch.legalR (Ch.mk l) a.act a.past a.tm a.x a.y a.z)) ∧ Kp (fun _ => False) w w' := by
  obtain ⟨sa, sp, st⟩ := ha
  have hb1 := heap_alloc_new w (.cells (asA a) 26)
  have K1 : Kp (fun _ => False) w (w.alloc (.cells (asA a) 26)) := (Kp.refl _ _).alloc _
  have hF1 := hF.keep0 K1
  obtain ⟨ao, cap, rfl⟩ := hF.2.1.len
  have E0 := hid (rSpread_any _ B cb l _ a.act hF1 hl (by unfold maxLen; omega))
  go_enter Tryz.func144, Tryz.ntmps144
  go_upto_region 1 with (fail)
  generalize w.alloc (.cells (asA a) 26) = w1 at *
  generalize w.heap.size = ob at *
  have c0 : w1.cell? ⟨ob, 0, none⟩ = some (.string a.act) := by rw [World.cell?, hb1]; rfl
  go_wp2_with fail
  refine Calls.mono (Hid.out E0) ?_
  rintro x w2 ⟨u, rfl, K2, hon⟩
  cases hsp : Ch.spreadR (Ch.mk l) a.act with
  | none =>
    have HR := hid (Ch.legalR_none (p := a.past) (tm := a.tm) (x := a.x) (y := a.y) (z := a.z) hsp)
    clear hon
    simp only [Option.isSome_none]
    go_wp2
    go_ret
    rw [HR.out]
    exact ⟨rfl, K1.trans K2⟩
  | some on =>
    have HR := hid (Ch.legalR_some (p := a.past) (tm := a.tm) (x := a.x) (y := a.y) (z := a.z) hsp)
    obtain ⟨rfl, hon, hol⟩ := hon on hsp
    simp only [Option.isSome_some]
    have hob1 := K2.at_ hb1 (fun x => x)
    have hF2 := hF1.keep0 K2
    have K12 := K1.trans K2
    have HQ := hid (And.intro hF2 (And.intro hob1 (And.intro hon K12)))
    clear hF2 hob1 hon K12 K1 K2 hF1 hb1 hF E0 c0
    have hml := Ch.mk_len l
    go_wp2_with fail
    go_loopw [7] (fun iv wr => ∃ i : Nat, iv = .int .i64 i ∧ i ≤ l.length ∧ Hid (∀ j, j < i → Ch.fitsR (Ch.mk l) on j = true) ∧ Kp (fun _ => False) w2 wr) (fun iv _ => l.length - (intOf iv).toNat)
    case atStart => exact ⟨0, rfl, Nat.zero_le _, hid (fun j h => absurd h (by omega)), Kp.refl _ _⟩
    case round =>
      obtain ⟨i, rfl, hi, HB, KW⟩ := hrel
      have hFr := HQ.out.1.keep0 KW
      have zc := hFr.cell
      have honr : OnB wr w1.heap.size on := KW.at_ HQ.out.2.2.1 (fun x => x)
      by_cases hlt : i < l.length
      · have hlt' : (i : Int) < (l.length : Int) := by omega
        have E := hid (rFits_any wr B cb l _ i _ on hFr hl honr hol hlt (fun x hx => hpw i x hx))
        have HNX := hid (fun (h : Ch.fitsR (Ch.mk l) on i = true) => show ∀ j, j < i + 1 → Ch.fitsR (Ch.mk l) on j = true from fun j hj => by
          rcases Nat.lt_or_eq_of_le (Nat.le_of_lt_succ hj) with h' | h'
          · exact HB.out j h'
          · subst h'; exact h)
        have HKW := hid KW
        clear hFr honr KW
        cases q : Ch.fitsR (Ch.mk l) on i with
        | false =>
          rw [q] at E
          have HR2 := hid (HR.out.trans (by rw [Ch.all_no (by omega) q, Bool.false_and]))
          go_wp2_with fail
          refine Calls.mono (Hid.out E) ?_
          rintro y w3 ⟨rfl, K3⟩
          go_wp2
          go_ret
          rw [HR2.out]
          exact ⟨rfl, HQ.out.2.2.2.trans (HKW.out.trans K3)⟩
        | true =>
          rw [q] at E
          go_wp2_with fail
          refine Calls.mono (Hid.out E) ?_
          rintro y w3 ⟨rfl, K3⟩
          go_wp2
          go_roundw
          case rel => exact ⟨i + 1, by go_num, by omega, hid (HNX.out q), HKW.out.trans K3⟩
          case measure => simp [intOf]; omega
      · have hge : ¬ (i : Int) < (l.length : Int) := by omega
        obtain rfl : i = l.length := by omega
        have hRR := HR.out
        rw [hml, Ch.all_yes HB.out, Bool.true_and] at hRR
        have hobr := KW.at_ HQ.out.2.1 (fun x => x)
        have c1 : wr.cell? ⟨ob, 1, none⟩ = some (.string a.past) := by rw [World.cell?, hobr]; rfl
        have E1 := hid (rRemembered_any wr B cb l _ a.past hFr hl sp)
        have HX := hid (And.intro hRR (And.intro hobr (HQ.out.2.2.2.trans KW)))
        clear hRR hobr KW HR HB HQ hFr honr
        go_wp2_with fail
        refine Calls.mono (Hid.out E1) ?_
        rintro y w3 ⟨rfl, K3⟩
        have hob3 := K3.at_ HX.out.2.1 (fun x => x)
        have c2 : w3.cell? ⟨ob, 2, none⟩ = some (.string a.tm) := by rw [World.cell?, hob3]; rfl
        have c3 : w3.cell? ⟨ob, 3, none⟩ = some (.int .i64 a.x) := by rw [World.cell?, hob3]; rfl
        have c4 : w3.cell? ⟨ob, 4, none⟩ = some (.int .i64 a.y) := by rw [World.cell?, hob3]; rfl
        have c5 : w3.cell? ⟨ob, 5, none⟩ = some (.int .i64 a.z) := by rw [World.cell?, hob3]; rfl
        have E2 := hid (rSent_any w3 a.tm st)
        have HK := hid (HX.out.2.2.trans K3)
        have HR := hid HX.out.1
        clear hob3 K3 HX E1 c1 zc
        go_wp2_with fail
        refine Calls.mono (Hid.out E2) ?_
        rintro y w4 ⟨rfl, e4⟩
        rw [e4]
        clear e4 w4 E2
        have E3 := hid (rSmall_any w3 a.x)
        have E4 := hid (rSmall_any w3 a.y)
        have E5 := hid (rSmall_any w3 a.z)
        generalize Ch.remR (Ch.mk l) a.past = b1 at *
        generalize Ch.sentR a.tm = b2 at *
        generalize Ch.inB a.x = b3 at *
        generalize Ch.inB a.y = b4 at *
        generalize Ch.inB a.z = b5 at *
        cases b1
        · go_wp2
          go_ret
          rw [HR.out]
          exact ⟨rfl, HK.out⟩
        cases b2
        · go_wp2
          go_ret
          rw [HR.out]
          exact ⟨rfl, HK.out⟩
        go_wp2_with fail
        refine Calls.mono (Hid.out E3) ?_
        rintro y w4 ⟨rfl, e4⟩
        rw [e4]
        clear e4 w4 E3
        cases b3
        · go_wp2
          go_ret
          rw [HR.out]
          exact ⟨rfl, HK.out⟩
        go_wp2_with fail
        refine Calls.mono (Hid.out E4) ?_
        rintro y w4 ⟨rfl, e4⟩
        rw [e4]
        clear e4 w4 E4
        cases b4
        · go_wp2
          go_ret
          rw [HR.out]
          exact ⟨rfl, HK.out⟩
        go_wp2_with fail
        refine Calls.mono (Hid.out E5) ?_
        rintro y w4 ⟨rfl, e4⟩
        rw [e4]
        clear e4 w4 E5
        cases b5 <;>
        (go_wp2
         go_ret
         rw [HR.out]
         exact ⟨rfl, HK.out⟩)

theorem lgE_ref {t : ByteArray} {L : List Ch.RN} (h0 : (Ch.read t).1 = 0) (hN : Ch.NR L (Ch.chart t).2) (a : Ch.As) : Ch.lgE t a = if Ch.legalR L a.act a.past a.tm a.x a.y a.z then 0 else 7 := by
  obtain ⟨hj, e⟩ := Ch.read_sts h0
  obtain ⟨hu, h16⟩ := Ch.uniq_judge hN hj
  have hs : (Ch.read t).2.2.sts = L.map Ch.RN.st := by rw [e]; exact hN.sts.symm
  unfold Ch.lgE Ch.takeA
  rw [h0, hs, Ch.legal_eq hN hu h16]
  rfl

set_option maxHeartbeats 800000 in
set_option maxRecDepth 100000 in
theorem rLegal_any (t : ByteArray) (a : Ch.As) (ha : a.Sm) :
    Calls Tryz.prog 97 #[.string t, .agg (asA a)] w fun x w' => x = .returned (.int .i64 (Ch.lgE t a)) ∧ Kp (fun _ => False) w w' := by
  obtain ⟨da, hdA, hdAa⟩ := Tryz.undAs
  have hb1 := heap_alloc_new w (.cells (asA a) 26)
  have K1 : Kp (fun _ => False) w (w.alloc (.cells (asA a) 26)) := (Kp.refl _ _).alloc _
  have E0 := hid (rRead_any (w.alloc (.cells (asA a) 26)) t)
  have HE := hid (fun h0 L hN => lgE_ref (t := t) (L := L) h0 hN a)
  have HN0 := hid (show (Ch.read t).1 ≠ 0 → Ch.lgE t a = (Ch.read t).1 from fun h => by unfold Ch.lgE; rw [if_pos (by simpa using h)])
  have aI : (Tryz.prog.info? 26).map (·.size) = some (asA a).size := Tryz.sizeAs
  have HC := hid (fun (w2 : World) (B cb : Nat) (l : List NV) (v : Value) hF hl hpw => rLegalC_any w2 B cb l v a hF hl ha hpw)
  generalize hrd : Ch.read t = rd at *
  generalize hla : Ch.lgE t a = la at *
  generalize asA a = AA at *
  go_enter Tryz.func97, Tryz.ntmps97
  go_upto_region 1 with (fail)
  generalize w.alloc (.cells AA 26) = w1 at *
  generalize w.heap.size = ob at *
  go_wp2_with fail
  refine Calls.mono (Hid.out E0) ?_
  rintro x w2 ⟨p, rfl, hq1, hq2, K2⟩
  have hb2 := K2.at_ hb1 (fun x => x)
  rw [hrd] at hq1 hq2
  cases q : rd.1 != 0 with
  | true =>
    have hne : rd.1 ≠ 0 := by simpa using q
    have HR := hid (HN0.out hne)
    clear hq1 hq2
    go_wp2
    go_ret
    rw [HR.out]
    exact ⟨rfl, K1.trans K2⟩
  | false =>
    have he : rd.1 = 0 := by simpa using q
    obtain ⟨cb, l, v, rfl, hF, hN, hbd, _⟩ := hq2 he
    have HR := hid (HE.out he _ hN)
    have E2 := hid (HC.out w2 w1.heap.size cb l v hF (by have := hbd.1; omega) (fun i x hx => by
      have := hN.wf i x.n (by unfold Ch.mk; rw [List.getElem?_map, hx]; rfl)
      exact ⟨this.1, this.2.1⟩))
    have HK := hid (K1.trans K2)
    clear hq1 hq2 hN hbd hF HE HC HN0 E0 K1 K2 hb1
    go_wp2_with (refine wpList_load_row rfl 26 (.tmp 3) rfl ob rfl 26 AA (0, 0) da hb2 hdA (by cases da <;> first | rfl | exact absurd hdAa (by simp [isAggD])) aI ?_)
    refine Calls.mono (Hid.out E2) ?_
    rintro y w3 ⟨rfl, K3⟩
    generalize Ch.legalR (Ch.mk l) a.act a.past a.tm a.x a.y a.z = lr at *
    cases lr <;>
    (go_wp2
     go_ret
     rw [HR.out]
     exact ⟨rfl, HK.out.trans K3⟩)

end

end Go.Proofs.YtnlbchmfcebeeaaGreat

namespace Go.Proofs.YtnlbchmfcebeeaaGreat
open Go.RowKit

/-- What a script has made: nothing yet. -/
def WlZ (wb : Nat) (W : World) : Prop := W.heap[wb]? = some (.cells #[.slice none 0 0, .slice none 0 0, .slice none 0 0, .slice none 0 0, .slice none 0 0, .int .i64 0] 77 (0, 0))

section
variable (w : World)

set_option maxHeartbeats 400000 in
theorem num_any (e : Int) :
    Calls Tryz.prog 93 #[.int .i64 e] w fun x w' => x = .returned (.int .i64 e) ∧ w' = w := by
  go_enter Tryz.func93, Tryz.ntmps93
  go_wp2
  go_ret
  exact ⟨rfl, rfl⟩

set_option maxHeartbeats 400000 in
theorem rCheck_any (t : ByteArray) :
    Calls Tryz.prog 92 #[.string t] w fun x w' => x = .returned (.tuple #[.int .i64 (Ch.read t).1, .int .i64 (Ch.read t).2.1]) ∧ Kp (fun _ => False) w w' := by
  have E := hid (rRead_any w t)
  generalize hr : Ch.read t = rd at *
  go_enter Tryz.func92, Tryz.ntmps92
  go_wp2_with fail
  refine Calls.mono (Hid.out E) ?_
  rintro x w2 ⟨p, rfl, hq⟩
  have K := hid hq.2.2
  clear E hq hr
  go_wp2
  go_ret2
  exact ⟨rfl, K.out⟩

end

section
variable (w : World) (wb : Nat)

set_option maxHeartbeats 1600000 in
set_option maxRecDepth 100000 in
theorem text_check_any (o : OpV) (hk : o.kind = 1) :
    Calls Tryz.prog 64 #[.pointer (some ⟨wb, 0, none⟩), .agg (opA o)] w fun x w' => x = .returned (.bool true) ∧ Kp (fun _ => False) w w' := by
  have hb1 := heap_alloc_new w (.cells (opA o) 81)
  have K1 : Kp (fun _ => False) w (w.alloc (.cells (opA o) 81)) := (Kp.refl _ _).alloc _
  go_enter Tryz.func64, Tryz.ntmps64
  go_upto_region 1 with (fail)
  generalize w.alloc (.cells (opA o) 81) = w1 at *
  generalize w.heap.size = ob at *
  have c0 : w1.cell? ⟨ob, 0, none⟩ = some (.int .i64 1) := by rw [World.cell?, hb1, ← hk]; rfl
  have c1 : w1.cell? ⟨ob, 1, none⟩ = some (.string o.t) := by rw [World.cell?, hb1]; rfl
  have E1 := hid (cCheck_any w1 o.t)
  go_wp2_with fail
  refine Calls.mono (Hid.out E1) ?_
  rintro x w2 ⟨rfl, K2⟩
  have c2 := K2.cellF c1
  have E2 := hid (rCheck_any w2 o.t)
  go_wp2_with fail
  refine Calls.mono (Hid.out E2) ?_
  rintro x w3 ⟨rfl, K3⟩
  have E3 := hid (num_any w3 (Ch.read o.t).1)
  go_wp2_with fail
  refine Calls.mono (Hid.out E3) ?_
  rintro x w4 ⟨rfl, e4⟩
  rw [e4]
  clear e4 w4
  go_wp2_with fail
  refine Calls.mono (Hid.out E3) ?_
  rintro x w4 ⟨rfl, e4⟩
  rw [e4]
  clear e4 w4
  go_wp2
  go_ret
  exact ⟨rfl, (K1.trans K2).trans K3⟩

set_option maxHeartbeats 1600000 in
set_option maxRecDepth 100000 in
theorem step_check_any (o : OpV) (hk : o.kind = 1) :
    Calls Tryz.prog 39 #[.pointer (some ⟨wb, 0, none⟩), .agg (opA o)] w fun x w' => x = .returned (.bool true) ∧ Kp (fun _ => False) w w' := by
  obtain ⟨d, hd, hda⟩ := Tryz.undOp
  have hb1 := heap_alloc_new w (.cells (opA o) 81)
  have K1 : Kp (fun _ => False) w (w.alloc (.cells (opA o) 81)) := (Kp.refl _ _).alloc _
  have E := hid (text_check_any (w.alloc (.cells (opA o) 81)) wb o hk)
  have hk0 : (opA o)[0]? = some (.int .i64 1) := by rw [← hk]; rfl
  have hsz := opA_size o
  generalize opA o = OA at *
  have aI : (Tryz.prog.info? 81).map (·.size) = some OA.size := by rw [hsz]; exact Tryz.sizeOp
  go_enter Tryz.func39, Tryz.ntmps39
  go_upto_region 1 with (fail)
  generalize w.alloc (.cells OA 81) = w1 at *
  generalize w.heap.size = ob at *
  have c0 : w1.cell? ⟨ob, 0, none⟩ = some (.int .i64 1) := by rw [World.cell?, hb1]; exact hk0
  go_wp2_with (refine wpList_load_row rfl 81 (.tmp 3) rfl ob rfl 81 OA (0, 0) d hb1 hd (by cases d <;> first | rfl | exact absurd hda (by simp [isAggD])) aI ?_)
  refine Calls.mono (Hid.out E) ?_
  rintro x w2 ⟨rfl, K2⟩
  go_wp2
  go_ret
  exact ⟨rfl, K1.trans K2⟩

set_option maxHeartbeats 400000 in
theorem ends_none_any (h : WlZ wb w) :
    Calls Tryz.prog 40 #[.pointer (some ⟨wb, 0, none⟩)] w fun x w' => x = .returned (.bool true) ∧ w' = w := by
  have c0 : w.cell? ⟨wb, 0, none⟩ = some (.slice none 0 0) := by rw [World.cell?, h]; rfl
  go_enter Tryz.func40, Tryz.ntmps40
  go_wp2
  go_loop [3] (fun i => i = .int .i64 0) (fun _ => 0)
  case atStart => rfl
  case round =>
    subst hrel
    go_wp2
    go_ret
    exact ⟨rfl, rfl⟩

set_option maxHeartbeats 400000 in
theorem looks_none_any (h : WlZ wb w) :
    Calls Tryz.prog 41 #[.pointer (some ⟨wb, 0, none⟩)] w fun x w' => x = .returned (.bool true) ∧ w' = w := by
  have c1 : w.cell? ⟨wb, 1, none⟩ = some (.slice none 0 0) := by rw [World.cell?, h]; rfl
  have c2 : w.cell? ⟨wb, 2, none⟩ = some (.slice none 0 0) := by rw [World.cell?, h]; rfl
  go_enter Tryz.func41, Tryz.ntmps41
  go_wp2
  go_loop [3] (fun i => i = .int .i64 0) (fun _ => 0)
  case atStart => rfl
  case round =>
    subst hrel
    go_wp2
    go_loop [5] (fun i => i = .int .i64 0) (fun _ => 0)
    case atStart => rfl
    case round =>
      subst hrel
      go_wp2
      go_ret
      exact ⟨rfl, rfl⟩

set_option maxHeartbeats 400000 in
theorem checks_any (v : Value) (ops : List OpV) (hs : ScR w v ops) (hl : ops.length ≤ maxLen) :
    Calls Tryz.prog 3 #[v] w fun x w' => x = .returned (.bool true) ∧ Kp (fun _ => False) w w' := by
  have E := hid (plays_any w v ops 1 1 (WlZ w.heap.size) hs hl (heap_alloc_new w _)
    (fun W o _ h1 h2 hW _ => (step_check_any W w.heap.size o (by omega)).mono (fun x W' ⟨hx, hk⟩ => ⟨hx, hk.at_ hW (fun x => x), hk.mono (fun _ _ x => x.elim)⟩))
    (fun W hW _ => (ends_none_any W w.heap.size hW).mono (fun x W' ⟨hx, hk⟩ => by subst hk; exact ⟨hx, hW, Kp.refl _ _⟩))
    (fun W hW _ => (looks_none_any W w.heap.size hW).mono (fun x W' ⟨hx, hk⟩ => by subst hk; exact ⟨hx, Kp.refl _ _⟩)))
  go_enter Tryz.func3, Tryz.ntmps3
  go_wp2_with fail
  refine Calls.mono (Hid.out E) ?_
  rintro x w2 ⟨rfl, K⟩
  go_wp2
  go_ret
  exact ⟨rfl, K⟩

end

end Go.Proofs.YtnlbchmfcebeeaaGreat

namespace Go.Proofs.YtnlbchmfcebeeaaGreat
open Go.RowKit

theorem OpV.Sm.as {o : OpV} (h : o.Sm) : o.s.Sm := ⟨h.act, h.past, h.tm⟩

def asL (a : Ch.As) : List Value := [.string a.act, .string a.past, .string a.tm, .int .i64 a.x, .int .i64 a.y, .int .i64 a.z]
theorem asL_cells {w : World} {ob : Nat} {o : OpV} (h : w.heap[ob]? = some (.cells (opA o) 81)) : ∀ j v, (asL o.s)[j]? = some v → w.cell? ⟨ob, 3 + j, none⟩ = some v := by
  intro j v hj
  rw [World.cell?, h]
  have hlt := (List.getElem?_eq_some_iff.1 hj).1
  have : j < 6 := hlt
  rcases (by omega : j = 0 ∨ j = 1 ∨ j = 2 ∨ j = 3 ∨ j = 4 ∨ j = 5) with rfl | rfl | rfl | rfl | rfl | rfl <;> exact hj

section
variable (w : World) (wb : Nat)

set_option maxHeartbeats 1600000 in
set_option maxRecDepth 100000 in
theorem works_legal_any (o : OpV) (hk : o.kind = 3) (hsm : o.Sm) :
    Calls Tryz.prog 65 #[.agg (opA o)] w fun x w' => x = .returned (.bool true) ∧ Kp (fun _ => False) w w' := by
  obtain ⟨da, hdA, hdAa⟩ := Tryz.undAs
  have hb1 := heap_alloc_new w (.cells (opA o) 81)
  have K1 : Kp (fun _ => False) w (w.alloc (.cells (opA o) 81)) := (Kp.refl _ _).alloc _
  have hsm' := hsm.as
  go_enter Tryz.func65, Tryz.ntmps65
  go_upto_region 1 with (fail)
  generalize w.alloc (.cells (opA o) 81) = w1 at *
  generalize w.heap.size = ob at *
  have c0 : w1.cell? ⟨ob, 0, none⟩ = some (.int .i64 3) := by rw [World.cell?, hb1, ← hk]; rfl
  have c1 : w1.cell? ⟨ob, 1, none⟩ = some (.string o.t) := by rw [World.cell?, hb1]; rfl
  have hsz : (Tryz.prog.info? 26).map (·.size) = some (asL o.s).length := Tryz.sizeAs
  have cs := asL_cells hb1
  have E1 := hid (cLegal_any w1 o.t o.s hsm')
  go_wp2_with (refine wpList_load_part rfl 26 (.tmp 32) rfl ob 3 rfl (asL o.s) da cs hdA hdAa hsz ?_)
  refine Calls.mono (Hid.out E1) ?_
  rintro x w2 ⟨rfl, K2⟩
  have hb2 := K2.at_ hb1 (fun x => x)
  have d1 : w2.cell? ⟨ob, 1, none⟩ = some (.string o.t) := by rw [World.cell?, hb2]; rfl
  have ds := asL_cells hb2
  have E2 := hid (rLegal_any w2 o.t o.s hsm')
  have HK := hid (K1.trans K2)
  clear E1 c0 c1 cs K1 K2 hb1
  go_wp2_with (refine wpList_load_part rfl 26 (.tmp 37) rfl ob 3 rfl (asL o.s) da ds hdA hdAa hsz ?_)
  refine Calls.mono (Hid.out E2) ?_
  rintro x w3 ⟨rfl, K3⟩
  have E3 := hid (num_any w3 (Ch.lgE o.t o.s))
  have HK3 := hid (HK.out.trans K3)
  clear E2 d1 ds K3 hb2 HK
  go_wp2_with fail
  refine Calls.mono (Hid.out E3) ?_
  rintro x w4 ⟨rfl, e4⟩
  rw [e4]
  clear e4 w4
  go_wp2_with fail
  refine Calls.mono (Hid.out E3) ?_
  rintro x w4 ⟨rfl, e4⟩
  rw [e4]
  clear e4 w4
  go_wp2
  go_ret
  exact ⟨rfl, HK3.out⟩

set_option maxHeartbeats 1600000 in
set_option maxRecDepth 100000 in
theorem step_legal_any (o : OpV) (hk : o.kind = 3) (hsm : o.Sm) :
    Calls Tryz.prog 39 #[.pointer (some ⟨wb, 0, none⟩), .agg (opA o)] w fun x w' => x = .returned (.bool true) ∧ Kp (fun _ => False) w w' := by
  obtain ⟨d, hd, hda⟩ := Tryz.undOp
  have hb1 := heap_alloc_new w (.cells (opA o) 81)
  have K1 : Kp (fun _ => False) w (w.alloc (.cells (opA o) 81)) := (Kp.refl _ _).alloc _
  have E := hid (works_legal_any (w.alloc (.cells (opA o) 81)) o hk hsm)
  have hk0 : (opA o)[0]? = some (.int .i64 3) := by rw [← hk]; rfl
  have hsz := opA_size o
  generalize opA o = OA at *
  have aI : (Tryz.prog.info? 81).map (·.size) = some OA.size := by rw [hsz]; exact Tryz.sizeOp
  go_enter Tryz.func39, Tryz.ntmps39
  go_upto_region 1 with (fail)
  generalize w.alloc (.cells OA 81) = w1 at *
  generalize w.heap.size = ob at *
  have c0 : w1.cell? ⟨ob, 0, none⟩ = some (.int .i64 3) := by rw [World.cell?, hb1]; exact hk0
  go_wp2_with (refine wpList_load_row rfl 81 (.tmp 3) rfl ob rfl 81 OA (0, 0) d hb1 hd (by cases d <;> first | rfl | exact absurd hda (by simp [isAggD])) aI ?_)
  refine Calls.mono (Hid.out E) ?_
  rintro x w2 ⟨rfl, K2⟩
  go_wp2
  go_ret
  exact ⟨rfl, K1.trans K2⟩

set_option maxHeartbeats 400000 in
theorem legals_any (v : Value) (ops : List OpV) (hs : ScR w v ops) (hl : ops.length ≤ maxLen) (hsm : ∀ o ∈ ops, o.Sm) :
    Calls Tryz.prog 5 #[v] w fun x w' => x = .returned (.bool true) ∧ Kp (fun _ => False) w w' := by
  have E := hid (plays_any w v ops 3 3 (WlZ w.heap.size) hs hl (heap_alloc_new w _)
    (fun W o ho h1 h2 hW _ => (step_legal_any W w.heap.size o (by omega) (hsm o ho)).mono (fun x W' ⟨hx, hk⟩ => ⟨hx, hk.at_ hW (fun x => x), hk.mono (fun _ _ x => x.elim)⟩))
    (fun W hW _ => (ends_none_any W w.heap.size hW).mono (fun x W' ⟨hx, hk⟩ => by subst hk; exact ⟨hx, hW, Kp.refl _ _⟩))
    (fun W hW _ => (looks_none_any W w.heap.size hW).mono (fun x W' ⟨hx, hk⟩ => by subst hk; exact ⟨hx, Kp.refl _ _⟩)))
  go_enter Tryz.func5, Tryz.ntmps5
  go_wp2_with fail
  refine Calls.mono (Hid.out E) ?_
  rintro x w2 ⟨rfl, K⟩
  go_wp2
  go_ret
  exact ⟨rfl, K⟩

end

end Go.Proofs.YtnlbchmfcebeeaaGreat
