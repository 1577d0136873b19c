/- Walks: acts. -/
import Derived.Test.YtnlbchmfcebeeaaGreatTC0
import Derived.Deep.RegionWith
namespace Go.Proofs.YtnlbchmfcebeeaaGreat
open Go.RowKit

namespace Ch
/-- Variables within their bounds, timers not too long. -/
def Sd.Ok (s : Sd) : Prop := s.Wf ∧ ((-99 ≤ s.x ∧ s.x ≤ 99) ∧ (-99 ≤ s.y ∧ s.y ≤ 99) ∧ (-99 ≤ s.z ∧ s.z ≤ 99)) ∧ s.tm.size ≤ 17
def Ac.Ok (a : Ac) : Prop := 0 ≤ a.digit ∧ a.digit ≤ 9
theorem var_in {s : Sd} (h : s.Ok) (c : Int) : -99 ≤ var s c ∧ var s c ≤ 99 := by
  obtain ⟨_, ⟨h1, h2, h3⟩, _⟩ := h
  unfold var
  split
  · exact h1
  · split
    · exact h2
    · exact h3
def newVal (s : Sd) (a : Ac) : Int := if a.sign == 43 then var s a.letter + a.digit else if a.sign == 45 then var s a.letter - a.digit else a.digit
def setV (s : Sd) (c n : Int) : Sd := if inB n then setVar s c n else s
theorem setV_ok {s : Sd} (h : s.Ok) (c n : Int) : (setV s c n).Ok := by
  unfold setV
  split
  · rename_i q
    simp [inB] at q
    obtain ⟨h0, ⟨h1, h2, h3⟩, h4⟩ := h
    unfold setVar
    split
    · exact ⟨h0, ⟨q, h2, h3⟩, h4⟩
    · split
      · exact ⟨h0, ⟨h1, q, h3⟩, h4⟩
      · exact ⟨h0, ⟨h1, h2, q⟩, h4⟩
  · exact h
end Ch

section
variable (w : World) (B mb ob po : Nat)

set_option maxHeartbeats 1600000 in
theorem raise_any (m : Ch.Ma) (c : Int) (h : Mm w B mb ob po m) (hw : m.s.Wf) (hB : B ≤ w.heap.size) (hq : m.q.length ≤ 1000000000) :
    Calls Tryz.prog 183 #[.pointer (some ⟨mb, 0, none⟩), .int .u8 c] w fun x w' => x = .returned (.tuple #[]) ∧ Mm w' B mb ob po { m with q := m.q ++ [c] } ∧ Kp (km B mb w) w w' := by
  obtain ⟨qv, ov, hm, oq, oo, ap⟩ := h
  have cq := hm.queue hw
  have HM := hid hm
  clear hm
  go_enter Tryz.func183, Tryz.ntmps183
  go_wp2_with (at_builtin; refine wpList_append_q rfl (.tmp 8) (.tmp 10) rfl rfl (oq.alloc _) ⟨w.heap.size, 0, none⟩ 1 1 [.int .u8 c] rfl rfl (by decide) (by exact cell1_new _ _ _) (by intro u hu; simp at hu; subst hu; rfl) (by simp [byCells]; omega) (by simp; omega) ?_)
  intro ga oa ca w3 q3 g3 hb3
  have KG : Kp (fun i => qv.ownBlock = some i) w w3 := ((Kp.refl _ _).alloc _).grown g3 (fun i hi _ => hi)
  have hm3 : MaB w3 mb ob po m.s qv ov := SdB.keep HM.out KG (oq.ne HM.out (by decide))
  have oo3 := oo.keep KG (fun i hi x => ap i x hi)
  have hap : Apart (.slice (some ⟨ga, oa, none⟩) ((byCells m.q).length + 1) ca) ov := by
    intro i hi x
    simp [Value.ownBlock] at hi
    subst hi
    rcases hb3 with hb3 | hb3
    · exact ap _ hb3 x
    · have := (oo.lt _ x).2; try simp at hb3
      omega
  have KA : Kp (km B mb w) w w3 := (Kp.refl _ _).trans' KG (fun i hi x => .inr ⟨(oq.lt i x).1, oq.block x⟩)
  have cq3 := hm3.queue hw
  have fr3 := SdB.free hm3 37
  have HH := hid (And.intro hm3 (And.intro q3 (And.intro oo3 (And.intro hap KA))))
  clear HM KG hm3 oo3 hap KA oq oo ap q3 g3 hb3 cq
  go_wp2
  go_end0
  obtain ⟨hm3, q3, oo3, hap, KA⟩ := HH.out
  have n1 := q3.ne hm3 (by decide)
  have n2 := oo3.ne hm3 (by decide)
  have KS : Kp (fun k => k = mb) w3 (w3.setCell ⟨mb, 37, none⟩ (.slice (some ⟨ga, oa, none⟩) ((byCells m.q).length + 1) ca)) := (Kp.refl _ _).setCell (by intro _; rfl) _
  refine ⟨rfl, ⟨_, ov, hm3.setQ hw _, ?_, oo3.keep KS (fun i hi x => by subst x; exact n2 hi), hap⟩, KA.trans' KS (fun i _ x => .inl x)⟩
  rw [byCells_snoc]
  exact q3.keep KS (fun i hi x => by subst x; exact n1 hi)

/-- What turns the chart's own part leaves the rest as it was. -/
theorem Mm.turn {w w' : World} {B mb ob po : Nat} {m : Ch.Ma} (h : Mm w B mb ob po m) {s : Ch.Sd} (hk : Kp (fun k => k = mb) w w') (hs : ∀ qv ov, MaB w mb ob po m.s qv ov → MaB w' mb ob po s qv ov) :
    Mm w' B mb ob po { m with s := s } ∧ Kp (km B mb w) w w' := by
  obtain ⟨qv, ov, hm, oq, oo, ap⟩ := h
  have n1 := oq.ne hm (by decide)
  have n2 := oo.ne hm (by decide)
  exact ⟨⟨qv, ov, hs qv ov hm, oq.keep hk (fun i hi x => by subst x; exact n1 hi), oo.keep hk (fun i hi x => by subst x; exact n2 hi), ap⟩, (Kp.refl _ _).trans' hk (fun i _ x => .inl x)⟩

set_option maxHeartbeats 3200000 in
theorem change_any (m : Ch.Ma) (a : Ch.Ac) (h : Mm w B mb ob po m) (hs : m.s.Ok) (ha : a.Ok) :
    Calls Tryz.prog 225 #[.pointer (some ⟨mb, 0, none⟩), .agg #[.int .u8 a.sign, .int .u8 a.letter, .int .i64 a.digit]] w fun x w' => x = .returned (.bool (Ch.inB (Ch.newVal m.s a))) ∧ Mm w' B mb ob po { m with s := Ch.setV m.s a.letter (Ch.newVal m.s a) } ∧ Kp (km B mb w) w w' := by
  obtain ⟨qv, ov, hm, oq, oo, ap⟩ := h
  have K1 : Kp (fun _ => False) w (w.alloc (.cells #[.int .u8 a.sign, .int .u8 a.letter, .int .i64 a.digit] 255)) := (Kp.refl _ _).alloc _
  have e1 := heap_alloc_new w (.cells #[.int .u8 a.sign, .int .u8 a.letter, .int .i64 a.digit] 255)
  have hm1 : MaB (w.alloc (.cells #[.int .u8 a.sign, .int .u8 a.letter, .int .i64 a.digit] 255)) mb ob po m.s qv ov := SdB.keep hm K1 (fun x => x)
  have hne : w.heap.size ≠ mb := fun e => by have := SdB.lt hm; omega
  have HQ := hid (And.intro (oq.alloc (.cells #[.int .u8 a.sign, .int .u8 a.letter, .int .i64 a.digit] 255)) (And.intro (oo.alloc (.cells #[.int .u8 a.sign, .int .u8 a.letter, .int .i64 a.digit] 255)) ap))
  obtain ⟨hd0, hd9⟩ := ha
  have hv := Ch.var_in hs a.letter
  have hw := hs.1
  have Fin : ∀ (w' : World), SdB w' mb [.pointer (some ⟨ob, po, none⟩)] (if Ch.inB (Ch.newVal m.s a) then Ch.setVar m.s a.letter (Ch.newVal m.s a) else m.s) [qv, ov] 149 → Kp (fun k => k = mb) (w.alloc (.cells #[.int .u8 a.sign, .int .u8 a.letter, .int .i64 a.digit] 255)) w' →
      Mm w' B mb ob po { m with s := Ch.setV m.s a.letter (Ch.newVal m.s a) } ∧ Kp (km B mb w) w w' := by
    intro w' hS' hK
    obtain ⟨q1, q2, q3⟩ := HQ.out
    have n1 := q1.ne hm1 (by decide)
    have n2 := q2.ne hm1 (by decide)
    exact ⟨⟨qv, ov, hS', q1.keep hK (fun i hi x => by subst x; exact n1 hi), q2.keep hK (fun i hi x => by subst x; exact n2 hi), q3⟩, ((Kp.refl (km B mb w) w).trans' K1 (fun _ _ x => x.elim)).trans' hK (fun i _ x => .inl x)⟩
  have HFin := hid Fin
  clear Fin HQ oq oo ap hm
  have c0 : (w.alloc (.cells #[.int .u8 a.sign, .int .u8 a.letter, .int .i64 a.digit] 255)).cell? ⟨w.heap.size, 0, none⟩ = some (.int .u8 a.sign) := by rw [World.cell?, e1]; rfl
  have c1 : (w.alloc (.cells #[.int .u8 a.sign, .int .u8 a.letter, .int .i64 a.digit] 255)).cell? ⟨w.heap.size, 1, none⟩ = some (.int .u8 a.letter) := by rw [World.cell?, e1]; rfl
  have c2 : (w.alloc (.cells #[.int .u8 a.sign, .int .u8 a.letter, .int .i64 a.digit] 255)).cell? ⟨w.heap.size, 2, none⟩ = some (.int .i64 a.digit) := by rw [World.cell?, e1]; rfl
  clear e1 K1
  have nv : Ch.newVal m.s a = if a.sign == 43 then Ch.var m.s a.letter + a.digit else if a.sign == 45 then Ch.var m.s a.letter - a.digit else a.digit := rfl
  cases q1 : a.sign == 43 with
  | true =>
    have hn : Ch.newVal m.s a = Ch.var m.s a.letter + a.digit := by rw [nv, q1]; rfl
    have hwi : IntKind.i64.wrap (Ch.var m.s a.letter + a.digit) = Ch.var m.s a.letter + a.digit := i64_wrap_in ⟨by omega, by omega⟩
    rw [hn] at HFin ⊢
    clear nv hn
    go_enter Tryz.func225, Tryz.ntmps225
    go_upto_region 4 with (fail)
    generalize (w.alloc (.cells #[.int .u8 a.sign, .int .u8 a.letter, .int .i64 a.digit] 255)) = w1 at hm1 HFin c0 c1 c2 ⊢
    have E1 := hid (variable_any w1.drew mb 1 [.pointer (some ⟨ob, po, none⟩)] m.s [qv, ov] 149 a.letter (by exact hm1) hw rfl)
    go_region_with (go_at_call 257; refine Calls.mono (Hid.out E1) ?_; rintro x w2 ⟨rfl, rfl⟩)
    all_goals
      have KD : Kp (fun k => k = mb) w1 w1.drew.drew := (Kp.refl _ _).drew.drew
      have E2 := hid (setVariable_any w1.drew.drew mb 1 [.pointer (some ⟨ob, po, none⟩)] m.s [qv, ov] 149 a.letter (Ch.var m.s a.letter + a.digit) (by exact hm1) hw rfl)
      go_upto_region 7 with (fail)
      go_region_with (go_at_call 258; refine Calls.mono (Hid.out E2) ?_; rintro x w3 ⟨rfl, h3, K3⟩; have H3 := hid (And.intro h3 K3); clear h3 K3)
      all_goals
        obtain ⟨h3, K3⟩ := H3.out
        go_wp2
        go_ret
        exact ⟨rfl, HFin.out _ h3 (KD.trans K3)⟩

  | false =>
    cases q2 : a.sign == 45 with
    | true =>
      have hn : Ch.newVal m.s a = Ch.var m.s a.letter - a.digit := by rw [nv, q1, q2]; rfl
      have hwi : IntKind.i64.wrap (Ch.var m.s a.letter - a.digit) = Ch.var m.s a.letter - a.digit := i64_wrap_in ⟨by omega, by omega⟩
      rw [hn] at HFin ⊢
      clear nv hn
      go_enter Tryz.func225, Tryz.ntmps225
      go_upto_region 6 with (fail)
      generalize (w.alloc (.cells #[.int .u8 a.sign, .int .u8 a.letter, .int .i64 a.digit] 255)) = w1 at hm1 HFin c0 c1 c2 ⊢
      have E1 := hid (variable_any w1.drew mb 1 [.pointer (some ⟨ob, po, none⟩)] m.s [qv, ov] 149 a.letter (by exact hm1) hw rfl)
      go_region_with (go_at_call 257; refine Calls.mono (Hid.out E1) ?_; rintro x w2 ⟨rfl, rfl⟩)
      all_goals
        have KD : Kp (fun k => k = mb) w1 w1.drew.drew := (Kp.refl _ _).drew.drew
        have E2 := hid (setVariable_any w1.drew.drew mb 1 [.pointer (some ⟨ob, po, none⟩)] m.s [qv, ov] 149 a.letter (Ch.var m.s a.letter - a.digit) (by exact hm1) hw rfl)
        go_upto_region 7 with (fail)
        go_region_with (go_at_call 258; refine Calls.mono (Hid.out E2) ?_; rintro x w3 ⟨rfl, h3, K3⟩; have H3 := hid (And.intro h3 K3); clear h3 K3)
        all_goals
          obtain ⟨h3, K3⟩ := H3.out
          go_wp2
          go_ret
          exact ⟨rfl, HFin.out _ h3 (KD.trans K3)⟩

    | false =>
      have hn : Ch.newVal m.s a = a.digit := by rw [nv, q1, q2]; rfl
      rw [hn] at HFin ⊢
      clear nv hn
      go_enter Tryz.func225, Tryz.ntmps225
      go_upto_region 7 with (fail)
      generalize (w.alloc (.cells #[.int .u8 a.sign, .int .u8 a.letter, .int .i64 a.digit] 255)) = w1 at hm1 HFin c0 c1 c2 ⊢
      have KD : Kp (fun k => k = mb) w1 w1.drew := (Kp.refl _ _).drew
      have E2 := hid (setVariable_any w1.drew mb 1 [.pointer (some ⟨ob, po, none⟩)] m.s [qv, ov] 149 a.letter (a.digit) (by exact hm1) hw rfl)
      go_region_with (go_at_call 258; refine Calls.mono (Hid.out E2) ?_; rintro x w3 ⟨rfl, h3, K3⟩; have H3 := hid (And.intro h3 K3); clear h3 K3)
      all_goals
        obtain ⟨h3, K3⟩ := H3.out
        go_wp2
        go_ret
        exact ⟨rfl, HFin.out _ h3 (KD.trans K3)⟩

end

end Go.Proofs.YtnlbchmfcebeeaaGreat
