/- The Go function chartlaw.Legals answers true for every script, and leaves it as it was: every Legal of the program gives the document's error. No condition. -/
import Derived.Test.YtnlbchmfcebeeaaGreatTY1
import Derived.Test.YtnlbchmfcebeeaaGreatTY2
import Derived.Test.YtnlbchmfcebeeaaGreatTLeK
namespace Go.Proofs.YtnlbchmfcebeeaaGreat
open Go.ChangeShapes Go.WideShapes Go.ChangeAt Go.RowKit

set_option maxRecDepth 100000 in
theorem legals_lifted (os : Os) (started : os.Started) (H : Type) (enc : TypeId × Value → H) :
    ReturnsInHanded {} Tryz.checked os 5 .any (Rows.legalsSpec.pre6 enc Tryz.prog Tryz.f5 Rows.legalsRow.domain false) (Rows.legalsSpec.post enc Tryz.prog Tryz.f5 false true false false) := by
  refine returnsInHanded_of_change (C := Tryz.checked) own_knobY started (by kernel_rfl) Tryz.func5
    (ChangeSpec.witness6 (enc := enc) (C := Tryz.checked) false ⟨#[], #[.slice none 0 0], []⟩ 8 (by kernel_rfl) (by kernel_rfl) (by kernel_rfl) (by kernel_rfl)) ?_
  intro W base args ds gs before hval0 hW hcnd _
  have hval : ∀ (j : Nat) t v, Tryz.f5.params[j]? = some t → args[j]? = some v → Value.okWide Tryz.prog W .any base t v := hval0
  have hW' := hW
  obtain ⟨p, q, hA0, hV, rfl, hfz, hnd⟩ := hW
  have hA : DataW.TrodAll enc Tryz.prog W 0 (fun _ => true) true Tryz.f5.params.toList args.toList ds p := hA0
  rw [Tryz.params5] at hA hval
  obtain ⟨v0, d0, rfl, rfl, h0⟩ := trodAll_one hA
  obtain ⟨rfl, rfl⟩ := trodVars_none hV
  obtain ⟨ops, hs, hl, hsm⟩ := open_script (hval 0 22 v0 rfl rfl) h0
  clear hA0 hval0
  simp only [List.append_nil] at hW'
  have hlt : ∀ x ∈ p, x.block < W.heap.size := fun x hx => by simpa using hW'.lt x hx
  refine (legals_any W v0 ops hs hl hsm).mono fun e W' ⟨he, hk⟩ => ?_
  subst he
  have bel := belowOfK hk
  exact ⟨_, rfl, ⟨_, _, _, [], _, [], hW', trodAll_mk1 (shut_bool Tryz.underlying4 true), trodAll_mk1 (Below.trod laid_out (by kernel_rfl) (of_decide_eq_true (by kernel_rfl)) h0 bel hlt), rfl, bel.frame _, fun h => by cases h⟩⟩

theorem legals_named : Tryz.prog.funcNamed Rows.legalsRow.func = some 5 := by kernel_rfl
theorem legals_inst : Tryz.f5.isInstance Tryz.prog Rows.legalsRow.origin Rows.legalsRow.targs := of_decide_eq_true (by kernel_rfl)
theorem legals_wrap : Tryz.f5.isWrapper Tryz.prog Rows.legalsRow.wrapper Rows.legalsRow.mainSum := by unfold Func.isWrapper; first | (rw [if_pos (by decide +kernel)]; kernel_rfl) | (rw [if_neg (by decide +kernel)]; exact ⟨rfl, rfl⟩)
theorem legals_over : Rows.legalsRow.holds Tryz.pinned (OpenSpec.ofChange Rows.legalsSpec) :=
  OpenClaim.holds_of_wide 5 Tryz.f5 rfl rfl rfl rfl rfl rfl rfl ⟨rfl, rfl, rfl, rfl, rfl⟩ rfl rfl rfl rfl rfl legals_named Tryz.func5 legals_closed
    legals_inst legals_wrap (fun os started H enc _ => legals_lifted os started H enc)

theorem legals_proved : Rows.LegalsSaid := legals_over

end Go.Proofs.YtnlbchmfcebeeaaGreat
