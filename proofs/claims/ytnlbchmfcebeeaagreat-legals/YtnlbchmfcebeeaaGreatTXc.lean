/- Walks: the reference's faults behind the form. -/
import Derived.Test.YtnlbchmfcebeeaaGreatTXb
import Derived.Test.YtnlbchmfcebeeaaGreatTB4
import Derived.Deep.QuietTactic
import Derived.BigQuiet
namespace Go.Proofs.YtnlbchmfcebeeaaGreat
open Go.RowKit

namespace Ch
def fE (L : List RN) : Int := (faultR L).1
def fP (L : List RN) : Int := (faultR L).2
theorem find_hit {n k : Nat} {q : Nat → Bool} (hk : k < n) (h : q k = true) (hb : ∀ j, j < k → q j = false) : (List.range n).find? q = some k := by
  rw [List.find?_range_eq_some]
  exact ⟨h, by simpa using hk, fun j hj => by simp [hb j hj]⟩
theorem find_miss {n : Nat} {q : Nat → Bool} (hb : ∀ j, j < n → q j = false) : (List.range n).find? q = none := by
  rw [List.find?_eq_none]
  intro j hj
  simp [hb j (by simpa using hj)]
theorem faultR_many {L : List RN} (h : 16 < L.length) : fE L = 3 ∧ fP L = (rnAt L 16).pos := by unfold fE fP faultR; rw [if_pos h]; exact ⟨rfl, rfl⟩
theorem faultR_twice {L : List RN} (h : ¬ 16 < L.length) {k : Nat} (hk : k < L.length) (hd : dupR L k = true) (hb : ∀ j, j < k → dupR L j = false) : fE L = 4 ∧ fP L = (rnAt L k).pos := by
  unfold fE fP faultR; rw [if_neg h, find_hit hk hd hb]; exact ⟨rfl, rfl⟩
theorem faultR_shape {L : List RN} (h : ¬ 16 < L.length) (hn : ∀ j, j < L.length → dupR L j = false) {k : Nat} (hk : k < L.length) (hd : misR L k = true) (hb : ∀ j, j < k → misR L j = false) : fE L = 5 ∧ fP L = (rnAt L k).pos := by
  unfold fE fP faultR; rw [if_neg h, find_miss hn]; simp only; rw [find_hit hk hd hb]; exact ⟨rfl, rfl⟩
theorem faultR_names {L : List RN} (h : ¬ 16 < L.length) (hn : ∀ j, j < L.length → dupR L j = false) (hb : ∀ j, j < L.length → misR L j = false) : fE L = nmE L ∧ fP L = nmP L := by
  unfold fE fP faultR nmE nmP; rw [if_neg h, find_miss hn]; simp only; rw [find_miss hb]; simp only
  by_cases c : 0 ≤ namesR L <;> simp [c]
/-- The names of the first k states. -/
def seenK (L : List RN) (k : Nat) (b : Int) : Bool := (L.take k).any fun m => m.name == b
theorem misR_at {L : List RN} {k : Nat} {n : RN} (h : rnAt L k = n) : misR L k = if n.kind == 5 || n.kind == 4 then (rnAt L n.parent.toNat).kind == 3 else (n.kind == 3 || n.kind == 2) && (kidsR L (k : Int)).length == 0 := by
  subst h; rfl
theorem seenK_all (L : List RN) (b : Int) : seenK L L.length b = seenR L b := by unfold seenK seenR; rw [List.take_length]
theorem seenK_all' {L : List RN} {n : Nat} (h : L.length = n) (b : Int) : seenK L n b = seenR L b := by subst h; exact seenK_all L b
theorem seenK_succ {L : List RN} {k : Nat} {n : RN} (h : L[k]? = some n) (b : Int) : seenK L (k + 1) b = (seenK L k b || n.name == b) := by
  have hlt := (List.getElem?_eq_some_iff.1 h).1
  have e : L[k] = n := (List.getElem?_eq_some_iff.1 h).2
  unfold seenK; rw [List.take_succ_eq_append_getElem hlt, List.any_append, e]; simp
theorem dup_seen {L : List RN} {k : Nat} {n : RN} (h : L[k]? = some n) : dupR L k = seenK L k n.name := by unfold dupR seenK; rw [rnAt_of h]
end Ch

theorem SnB.set {w : World} {sb : Nat} {f f' : Int → Bool} (h : SnB w sb f) {n : Nat} (hn : n < 256) (hf : ∀ m : Nat, m < 256 → f' m = (f m || (n : Int) == (m : Int))) : SnB (w.setCell ⟨sb, n, none⟩ (.bool true)) sb f' := by
  obtain ⟨C, hC, hs, hg⟩ := h
  refine ⟨_, heap_set_same _ hC, by simp [hs], fun m hm => ?_⟩
  rw [hf m hm]
  by_cases e : n = m
  · subst e; rw [Array.getElem?_setIfInBounds_self_of_lt (by omega)]; simp
  · rw [Array.getElem?_setIfInBounds_ne e, hg m hm]
    have : ((n : Int) == (m : Int)) = false := by simp; omega
    rw [this, Bool.or_false]
theorem SnB.keep {S : Nat → Prop} {w w' : World} {sb : Nat} {f : Int → Bool} (h : SnB w sb f) (k : Kp S w w') (hs : ¬ S sb) : SnB w' sb f := by
  obtain ⟨C, hC, r⟩ := h; exact ⟨C, k.at_ hC hs, r⟩
theorem SnB.free {w : World} {sb : Nat} {f : Int → Bool} (h : SnB w sb f) (o : Nat) : w.frozen? ⟨sb, o, none⟩ = false := by
  obtain ⟨C, hC, _⟩ := h; simp [World.frozen?, hC]
theorem Tryz.size256 : (Tryz.prog.info? 294).map (·.size) = some 256 := by kernel_rfl
def z256 : Array Value := #[.bool false, .bool false, .bool false, .bool false, .bool false, .bool false, .bool false, .bool false, .bool false, .bool false, .bool false, .bool false, .bool false, .bool false, .bool false, .bool false, .bool false, .bool false, .bool false, .bool false, .bool false, .bool false, .bool false, .bool false, .bool false, .bool false, .bool false, .bool false, .bool false, .bool false, .bool false, .bool false, .bool false, .bool false, .bool false, .bool false, .bool false, .bool false, .bool false, .bool false, .bool false, .bool false, .bool false, .bool false, .bool false, .bool false, .bool false, .bool false, .bool false, .bool false, .bool false, .bool false, .bool false, .bool false, .bool false, .bool false, .bool false, .bool false, .bool false, .bool false, .bool false, .bool false, .bool false, .bool false, .bool false, .bool false, .bool false, .bool false, .bool false, .bool false, .bool false, .bool false, .bool false, .bool false, .bool false, .bool false, .bool false, .bool false, .bool false, .bool false, .bool false, .bool false, .bool false, .bool false, .bool false, .bool false, .bool false, .bool false, .bool false, .bool false, .bool false, .bool false, .bool false, .bool false, .bool false, .bool false, .bool false, .bool false, .bool false, .bool false, .bool false, .bool false, .bool false, .bool false, .bool false, .bool false, .bool false, .bool false, .bool false, .bool false, .bool false, .bool false, .bool false, .bool false, .bool false, .bool false, .bool false, .bool false, .bool false, .bool false, .bool false, .bool false, .bool false, .bool false, .bool false, .bool false, .bool false, .bool false, .bool false, .bool false, .bool false, .bool false, .bool false, .bool false, .bool false, .bool false, .bool false, .bool false, .bool false, .bool false, .bool false, .bool false, .bool false, .bool false, .bool false, .bool false, .bool false, .bool false, .bool false, .bool false, .bool false, .bool false, .bool false, .bool false, .bool false, .bool false, .bool false, .bool false, .bool false, .bool false, .bool false, .bool false, .bool false, .bool false, .bool false, .bool false, .bool false, .bool false, .bool false, .bool false, .bool false, .bool false, .bool false, .bool false, .bool false, .bool false, .bool false, .bool false, .bool false, .bool false, .bool false, .bool false, .bool false, .bool false, .bool false, .bool false, .bool false, .bool false, .bool false, .bool false, .bool false, .bool false, .bool false, .bool false, .bool false, .bool false, .bool false, .bool false, .bool false, .bool false, .bool false, .bool false, .bool false, .bool false, .bool false, .bool false, .bool false, .bool false, .bool false, .bool false, .bool false, .bool false, .bool false, .bool false, .bool false, .bool false, .bool false, .bool false, .bool false, .bool false, .bool false, .bool false, .bool false, .bool false, .bool false, .bool false, .bool false, .bool false, .bool false, .bool false, .bool false, .bool false, .bool false, .bool false, .bool false, .bool false, .bool false, .bool false, .bool false, .bool false, .bool false, .bool false, .bool false, .bool false, .bool false, .bool false, .bool false, .bool false, .bool false, .bool false, .bool false, .bool false, .bool false, .bool false, .bool false, .bool false]
set_option maxRecDepth 100000 in
theorem z256_eq : z256 = Array.replicate 256 (.bool false) := by rfl
theorem zeroB (k : Nat) (hk : k < 256) : z256[k]? = some (.bool false) := by
  rw [z256_eq, Array.getElem?_replicate, if_pos hk]
theorem z256_size : z256.size = 256 := by rw [z256_eq]; simp

/-- What the faults want of a chart. -/
structure FltOk (l : List NV) : Prop where
  len : l.length ≤ 300
  nm : ∀ x ∈ l, 0 ≤ x.n.name ∧ x.n.name ≤ 255
  up : ∀ (k : Nat) (x : NV), l[k]? = some x → (x.n.kind = 4 ∨ x.n.kind = 5) → ∃ p : Nat, x.n.parent = p ∧ p < l.length
  tr : ∀ x ∈ l, x.n.trans.length ≤ 300 ∧ Ch.TrBd x.n

section
variable (w : World) (B cb : Nat)

set_option maxHeartbeats 3200000 in
set_option maxRecDepth 100000 in
theorem rFault_any (l : List NV) (v : Value) (hF : ChF w B cb l v) (hO : FltOk l) :
    Calls Tryz.prog 195 #[.pointer (some ⟨cb, 0, none⟩)] w fun x w' => x = .returned (.tuple #[.int .i64 (Ch.fE (Ch.mk l)), .int .i64 (Ch.fP (Ch.mk l))]) ∧ Kp (fun _ => False) w w' := by
  have hlen := hO.len
  obtain ⟨ao, cap, rfl⟩ := hF.2.1.len
  have zc := hF.cell
  have hml := Ch.mk_len l
  by_cases h16 : 16 < l.length
  · have h16' : (16 : Int) < (l.length : Int) := by omega
    obtain ⟨x, hx⟩ : ∃ x, l[16]? = some x := ⟨_, List.getElem?_eq_getElem h16⟩
    obtain ⟨g, cap', hv, hBg, hcell, hfr⟩ := hF.2.1.form hx
    simp only [Value.slice.injEq] at hv
    obtain ⟨rfl, -, rfl⟩ := hv
    have z3 : w.cell? ⟨g, 16 * 7 + 3, none⟩ = some (.int .i64 x.n.pos) := hcell 3 (by omega)
    have hR := hid (Ch.faultR_many (L := Ch.mk l) (by omega))
    have hrn : Ch.rnAt (Ch.mk l) 16 = x.n := Ch.rnAt_of (by unfold Ch.mk; rw [List.getElem?_map, hx]; rfl)
    rw [hrn] at hR
    clear hcell hfr hF hO hml
    simp only [Nat.reduceMul, Nat.reduceAdd] at z3
    go_enter Tryz.func195, Tryz.ntmps195
    go_wp2
    go_quiet (fail)
    go_wp2
    go_ret2
    rw [hR.out.1, hR.out.2]
    exact ⟨rfl, (Kp.refl _ _).drewN _⟩
  · have h16' : ¬ (16 : Int) < (l.length : Int) := by omega
    have hne : ¬ 16 < (Ch.mk l).length := by omega
    have HO := hid hO
    have HF := hid hF
    have hcb : cb < w.heap.size := lt_of_block hF.1
    clear hO hF
    go_enter Tryz.func195, Tryz.ntmps195
    go_upto_region 5 with (fail)
    refine (fun hgen : ∀ w1 : World, Kp (fun _ => False) w w1 → SnB w1 w.heap.size (Ch.seenK (Ch.mk l) 0) → Code.wp _ _ _ _ w1 => hgen _ ((Kp.refl _ _).alloc _) ⟨_, heap_alloc_new w _, z256_size, fun n hn => zeroB n hn⟩) ?_
    intro w1 K1 hS1
    have hF1 := HF.out.keep0 K1
    clear zc HF
    generalize hsb : w.heap.size = sb at *
    go_loopw [5] (fun i wr => ∃ k : Nat, i = .int .i64 k ∧ k ≤ l.length ∧ Hid (∀ j, j < k → Ch.dupR (Ch.mk l) j = false) ∧ SnB wr sb (Ch.seenK (Ch.mk l) k) ∧ Kp (fun i => i = sb) w1 wr) (fun i _ => l.length - (intOf i).toNat)
    case atStart => exact ⟨0, rfl, Nat.zero_le _, hid (fun j h => absurd h (by omega)), hS1, Kp.refl _ _⟩
    case round =>
      obtain ⟨k, rfl, hk, HD, hS, KW⟩ := hrel
      have hFr : ChF wr B cb l (.slice ao l.length cap) := hF1.keepT KW (fun i cur T hi _ hT e => by
        subst e
        obtain ⟨C, hC, _⟩ := hS1
        rw [hC] at hi
        simp only [Option.some.injEq, Obj.cells.injEq] at hi
        rcases hT with h | h | h | h <;> rw [h] at hi <;> exact absurd hi.2.1 (by decide))
      have zc := hFr.cell
      by_cases hlt : k < l.length
      · have hlt' : (k : Int) < (l.length : Int) := by omega
        obtain ⟨x, hx⟩ : ∃ x, l[k]? = some x := ⟨_, List.getElem?_eq_getElem hlt⟩
        have hxk : (Ch.mk l)[k]? = some x.n := by unfold Ch.mk; rw [List.getElem?_map, hx]; rfl
        obtain ⟨g, cap', hv, hBg, hcell, hfr⟩ := hFr.2.1.form hx
        simp only [Value.slice.injEq] at hv
        obtain ⟨rfl, -, rfl⟩ := hv
        have hnm := HO.out.nm x (List.mem_of_getElem? hx)
        obtain ⟨n, hn⟩ : ∃ n : Nat, x.n.name = n := ⟨x.n.name.toNat, by omega⟩
        have hn256 : n < 256 := by omega
        have hn' : (n : Int) < 256 := by omega
        have z0 : wr.cell? ⟨g, k * 7, none⟩ = some (.int .u8 n) := by rw [← hn]; exact hcell 0 (by omega)
        have z3 : wr.cell? ⟨g, k * 7 + 3, none⟩ = some (.int .i64 x.n.pos) := hcell 3 (by omega)
        have zs := hS.cell n hn256
        have fs := hS.free n
        have hdup := Ch.dup_seen hxk
        rw [hn] at hdup
        have hrn := Ch.rnAt_of hxk
        cases q : Ch.seenK (Ch.mk l) k (n : Int) with
        | true =>
          have hR := hid (Ch.faultR_twice hne (by omega) (by rw [hdup]; exact q) HD.out)
          rw [hrn] at hR
          have KZ := hid (K1.trans' KW (fun i hi x => by omega))
          rw [q] at zs
          clear hcell hfr hFr hS KW HD hdup hn
          go_wp2
          go_quiet (fail)
          go_wp2
          go_ret2
          rw [hR.out.1, hR.out.2]
          exact ⟨rfl, KZ.out.drewN _⟩
        | false =>
          have HD2 := hid (show ∀ j, j < k + 1 → Ch.dupR (Ch.mk l) j = false from fun j hj => by
            rcases Nat.lt_or_eq_of_le (Nat.le_of_lt_succ hj) with h | h
            · exact HD.out j h
            · subst h; rw [hdup]; exact q)
          have hS2 := hid (hS.set hn256 (f' := Ch.seenK (Ch.mk l) (k + 1)) (fun m _ => by rw [Ch.seenK_succ hxk, hn]))
          have KZ := hid (KW.setCell (p := ⟨sb, n, none⟩) (fun _ => rfl) (.bool true))
          rw [q] at zs
          clear hcell hfr hFr hS KW HD hdup hn
          go_wp2
          go_roundw
          case rel => exact ⟨k + 1, by go_num, by omega, HD2, hS2.out, KZ.out⟩
          case measure => simp [intOf]; omega
      · have hge : ¬ (k : Int) < (l.length : Int) := by omega
        obtain rfl : k = l.length := by omega
        have HD' := hid (show ∀ j, j < (Ch.mk l).length → Ch.dupR (Ch.mk l) j = false by rw [hml]; exact HD.out)
        clear HD
        go_upto_region 11 with (fail)
        have K2 := K1.trans' KW (fun i hi x => by omega)
        go_loopw [6] (fun i wq => ∃ k : Nat, i = .int .i64 k ∧ k ≤ l.length ∧ Hid (∀ j, j < k → Ch.misR (Ch.mk l) j = false) ∧ Kp (fun _ => False) wr wq) (fun i _ => l.length - (intOf i).toNat)
        case atStart => exact ⟨0, rfl, Nat.zero_le _, hid (fun j h => absurd h (by omega)), Kp.refl _ _⟩
        case round =>
          obtain ⟨k, rfl, hk, HM, KQ⟩ := hrel
          have hFq := hFr.keep0 KQ
          have zc2 := hFq.cell
          by_cases hlt : k < l.length
          · have hlt' : (k : Int) < (l.length : Int) := by omega
            obtain ⟨x, hx⟩ : ∃ x, l[k]? = some x := ⟨_, List.getElem?_eq_getElem hlt⟩
            have hxk : (Ch.mk l)[k]? = some x.n := by unfold Ch.mk; rw [List.getElem?_map, hx]; rfl
            obtain ⟨g, cap', hv, hBg, hcell, hfr⟩ := hFq.2.1.form hx
            simp only [Value.slice.injEq] at hv
            obtain ⟨rfl, -, rfl⟩ := hv
            have hxm := List.mem_of_getElem? hx
            have z0 : wr.cell? ⟨g, k * 7, none⟩ = some (.int .u8 x.n.name) := hcell 0 (by omega)
            have z1 : wr.cell? ⟨g, k * 7 + 1, none⟩ = some (.int .i64 x.n.kind) := hcell 1 (by omega)
            have z2 : wr.cell? ⟨g, k * 7 + 2, none⟩ = some (.int .i64 x.n.parent) := hcell 2 (by omega)
            have z3 : wr.cell? ⟨g, k * 7 + 3, none⟩ = some (.int .i64 x.n.pos) := hcell 3 (by omega)
            have z4 : wr.cell? ⟨g, k * 7 + 4, none⟩ = some x.ev := hcell 4 (by omega)
            have z5 : wr.cell? ⟨g, k * 7 + 5, none⟩ = some x.lv := hcell 5 (by omega)
            have z6 : wr.cell? ⟨g, k * 7 + 6, none⟩ = some x.tv := hcell 6 (by omega)
            obtain ⟨ea, ec, hev⟩ := own_len (hFq.2.1.ent x hxm)
            obtain ⟨la, lc, hlv⟩ := own_len (hFq.2.1.lea x hxm)
            obtain ⟨ta, tc, htv⟩ := own_len (hFq.2.1.tra x hxm)
            rw [hev] at z4
            rw [hlv] at z5
            rw [htv] at z6
            have HQ := hid (And.intro hFq KQ)
            clear hFq KQ hcell hfr zc
            have K3 : Kp (fun _ => False) wr (wr.alloc (.cells #[.int .u8 x.n.name, .int .i64 x.n.kind, .int .i64 x.n.parent, .int .i64 x.n.pos, .slice ea x.n.enter.length ec, .slice la x.n.leave.length lc, .slice ta x.n.trans.length tc] 223)) := (Kp.refl _ _).alloc _
            have hb3 := heap_alloc_new wr (.cells #[.int .u8 x.n.name, .int .i64 x.n.kind, .int .i64 x.n.parent, .int .i64 x.n.pos, .slice ea x.n.enter.length ec, .slice la x.n.leave.length lc, .slice ta x.n.trans.length tc] 223)
            go_upto_region 14 with (fail)
            generalize wr.alloc (.cells #[.int .u8 x.n.name, .int .i64 x.n.kind, .int .i64 x.n.parent, .int .i64 x.n.pos, .slice ea x.n.enter.length ec, .slice la x.n.leave.length lc, .slice ta x.n.trans.length tc] 223) = w3 at *
            have hF3 := HQ.out.1.keep0 K3
            have E := hid (rKids_any w3 B cb l _ (k : Int) hF3 (by omega))
            clear hF3 z0 z1 z2 z3 z4 z5 z6 zc2
            go_wp2_with fail
            refine Calls.mono (Hid.out E) ?_
            rintro y w4 ⟨u, rfl, hu, K4⟩
            obtain ⟨ua, uc, rfl⟩ := own_len hu
            have K34 := K3.trans K4
            have hb4 := K4.at_ hb3 (fun x => x)
            generalize wr.heap.size = nb at *
            have hF4 := HQ.out.1.keep0 K34
            have zc4 := hF4.cell
            have c1 : w4.cell? ⟨nb, 1, none⟩ = some (.int .i64 x.n.kind) := by rw [World.cell?, hb4]; rfl
            have c2 : w4.cell? ⟨nb, 2, none⟩ = some (.int .i64 x.n.parent) := by rw [World.cell?, hb4]; rfl
            have c3 : w4.cell? ⟨nb, 3, none⟩ = some (.int .i64 x.n.pos) := by rw [World.cell?, hb4]; rfl
            have hrn := Ch.rnAt_of hxk
            have KZ := hid (K2.trans (HQ.out.2.trans K34))
            have KR := hid (HQ.out.2.trans K34)
            have hshape := hid (fun h => Ch.faultR_shape hne HD'.out (k := k) (by omega) h HM.out)
            rw [hrn] at hshape
            have hnext := hid (show Ch.misR (Ch.mk l) k = false → ∀ j, j < k + 1 → Ch.misR (Ch.mk l) j = false from fun q j hj => by
              rcases Nat.lt_or_eq_of_le (Nat.le_of_lt_succ hj) with h | h
              · exact HM.out j h
              · subst h; exact q)
            have hmis := Ch.misR_at hrn
            have hup := HO.out.up k x hx
            clear E hu K3 K4 hb3 hb4 HQ
            by_cases hk5 : x.n.kind = 5
            · have hkk : x.n.kind = 5 := hk5
              obtain ⟨p, hp, hpl⟩ := hup (by omega)
              obtain ⟨y, hy⟩ : ∃ y, l[p]? = some y := ⟨_, List.getElem?_eq_getElem hpl⟩
              obtain ⟨g2, cap2, hv2, _, hcell2, _⟩ := hF4.2.1.form hy
              simp only [Value.slice.injEq, Option.some.injEq, Addr.mk.injEq, true_and, and_true] at hv2
              obtain ⟨rfl, rfl⟩ := hv2
              have w1p : w4.cell? ⟨g, p * 7 + 1, none⟩ = some (.int .i64 y.n.kind) := hcell2 1 (by omega)
              have hpl' : (p : Int) < (l.length : Int) := by omega
              have hry : Ch.rnAt (Ch.mk l) p = y.n := Ch.rnAt_of (by unfold Ch.mk; rw [List.getElem?_map, hy]; rfl)
              rw [hkk, hp, Int.toNat_natCast, hry] at hmis
              rw [hkk] at c1
              rw [hp] at c2
              have HMI := hid hmis
              clear hmis hcell2 hF4 hup hp hkk hk5
              cases q : y.n.kind == 3 with
              | true =>
                have hR := hid (hshape.out (by rw [HMI.out]; simpa using q))
                go_wp2
                go_quiet (fail)
                go_wp2
                go_quiet (fail)
                go_wp2
                go_ret2
                rw [hR.out.1, hR.out.2]
                exact ⟨rfl, (KZ.out.drewN _).drewN _⟩
              | false =>
                have hN := hid (hnext.out (by rw [HMI.out]; simpa using q))
                go_wp2
                go_quiet (fail)
                go_wp2
                go_roundw
                case rel => exact ⟨k + 1, by go_num, by omega, hN, KR.out.drewN _⟩
                case measure => simp [intOf]; omega
            by_cases hk4 : x.n.kind = 4
            · have hkk : x.n.kind = 4 := hk4
              obtain ⟨p, hp, hpl⟩ := hup (by omega)
              obtain ⟨y, hy⟩ : ∃ y, l[p]? = some y := ⟨_, List.getElem?_eq_getElem hpl⟩
              obtain ⟨g2, cap2, hv2, _, hcell2, _⟩ := hF4.2.1.form hy
              simp only [Value.slice.injEq, Option.some.injEq, Addr.mk.injEq, true_and, and_true] at hv2
              obtain ⟨rfl, rfl⟩ := hv2
              have w1p : w4.cell? ⟨g, p * 7 + 1, none⟩ = some (.int .i64 y.n.kind) := hcell2 1 (by omega)
              have hpl' : (p : Int) < (l.length : Int) := by omega
              have hry : Ch.rnAt (Ch.mk l) p = y.n := Ch.rnAt_of (by unfold Ch.mk; rw [List.getElem?_map, hy]; rfl)
              rw [hkk, hp, Int.toNat_natCast, hry] at hmis
              rw [hkk] at c1
              rw [hp] at c2
              have HMI := hid hmis
              clear hmis hcell2 hF4 hup hp hkk hk4
              cases q : y.n.kind == 3 with
              | true =>
                have hR := hid (hshape.out (by rw [HMI.out]; simpa using q))
                go_wp2
                go_quiet (fail)
                go_wp2
                go_quiet (fail)
                go_wp2
                go_ret2
                rw [hR.out.1, hR.out.2]
                exact ⟨rfl, (KZ.out.drewN _).drewN _⟩
              | false =>
                have hN := hid (hnext.out (by rw [HMI.out]; simpa using q))
                go_wp2
                go_quiet (fail)
                go_wp2
                go_roundw
                case rel => exact ⟨k + 1, by go_num, by omega, hN, KR.out.drewN _⟩
                case measure => simp [intOf]; omega
            by_cases hk3 : x.n.kind = 3
            · rw [hk3] at hmis c1
              have HMI := hid hmis
              clear hmis hF4 hup hk3
              by_cases q : (Ch.kidsR (Ch.mk l) (k : Int)).length = 0
              · have q' : ((Ch.kidsR (Ch.mk l) (k : Int)).length : Int) = 0 := by omega
                have hR := hid (hshape.out (by rw [HMI.out]; simp [q]))
                clear q
                go_wp2
                go_quiet (fail)
                go_wp2
                go_ret2
                rw [hR.out.1, hR.out.2]
                exact ⟨rfl, KZ.out.drewN _⟩
              · have q' : (((Ch.kidsR (Ch.mk l) (k : Int)).length : Int) == 0) = false := by simp; intro h; simp [h] at q
                have hN := hid (hnext.out (by rw [HMI.out]; simp at q ⊢; exact q))
                clear q
                go_wp2
                go_roundw
                case rel => exact ⟨k + 1, by go_num, by omega, hN, KR.out⟩
                case measure => simp [intOf]; omega
            by_cases hk2 : x.n.kind = 2
            · rw [hk2] at hmis c1
              have HMI := hid hmis
              clear hmis hF4 hup hk2
              by_cases q : (Ch.kidsR (Ch.mk l) (k : Int)).length = 0
              · have q' : ((Ch.kidsR (Ch.mk l) (k : Int)).length : Int) = 0 := by omega
                have hR := hid (hshape.out (by rw [HMI.out]; simp [q]))
                clear q
                go_wp2
                go_quiet (fail)
                go_wp2
                go_ret2
                rw [hR.out.1, hR.out.2]
                exact ⟨rfl, KZ.out.drewN _⟩
              · have q' : (((Ch.kidsR (Ch.mk l) (k : Int)).length : Int) == 0) = false := by simp; intro h; simp [h] at q
                have hN := hid (hnext.out (by rw [HMI.out]; simp at q ⊢; exact q))
                clear q
                go_wp2
                go_roundw
                case rel => exact ⟨k + 1, by go_num, by omega, hN, KR.out⟩
                case measure => simp [intOf]; omega
            have b5 : (x.n.kind == 5) = false := by simpa using hk5
            have b4 : (x.n.kind == 4) = false := by simpa using hk4
            have b3 : (x.n.kind == 3) = false := by simpa using hk3
            have b2 : (x.n.kind == 2) = false := by simpa using hk2
            rw [b5, b4, b3, b2] at hmis
            have HMI := hid hmis
            have hN := hid (hnext.out (by rw [HMI.out]; rfl))
            clear hmis hF4 hup hk5 hk4 hk3 hk2
            go_wp2
            go_roundw
            case rel => exact ⟨k + 1, by go_num, by omega, hN, KR.out⟩
            case measure => simp [intOf]; omega
          · have hge2 : ¬ (k : Int) < (l.length : Int) := by omega
            obtain rfl : k = l.length := by omega
            have hR := hid (Ch.faultR_names hne HD'.out (by rw [hml]; exact HM.out))
            obtain ⟨C, hC, hCs, hCf⟩ := hS.keep0 KQ
            have EN := hid (rNames_any wr B cb l _ C hFq (by omega) HO.out.tr hCs (fun n hn => by rw [hCf n hn, Ch.seenK_all' hml]))
            have KZ := hid (K2.trans KQ)
            clear zc hFq KQ hCf
            go_wp2_with (refine wpList_load_row rfl 294 (.tmp 4) rfl sb rfl 294 C (0, 0) _ hC Tryz.underlying294 (by rfl) (by rw [hCs]; exact Tryz.size256) ?_)
            refine Calls.mono (Hid.out EN) ?_
            rintro y w4 ⟨rfl, K4⟩
            go_wp2
            go_ret2
            rw [hR.out.1, hR.out.2]
            exact ⟨rfl, KZ.out.trans K4⟩

end

end Go.Proofs.YtnlbchmfcebeeaaGreat
