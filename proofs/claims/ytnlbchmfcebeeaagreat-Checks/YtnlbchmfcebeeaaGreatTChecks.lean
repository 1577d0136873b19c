/- The Go function chartlaw.Checks answers true for every script, and leaves it as it was: every Check of the program gives the document's error and place. No condition. -/
import Derived.Test.YtnlbchmfcebeeaaGreatTY3
import Derived.Test.YtnlbchmfcebeeaaGreatTY2
import Derived.Test.YtnlbchmfcebeeaaGreatTChK
namespace Go.Proofs.YtnlbchmfcebeeaaGreat
open Go.ChangeShapes Go.WideShapes Go.ChangeAt Go.RowKit

set_option maxRecDepth 100000 in
theorem checks_lifted (os : Os) (started : os.Started) (H : Type) (enc : TypeId × Value → H) :
    ReturnsInHanded {} Tryz.checked os 3 .any (Rows.checksSpec.pre6 enc Tryz.prog Tryz.f3 Rows.checksRow.domain false) (Rows.checksSpec.post enc Tryz.prog Tryz.f3 false true false false) := by
  refine returnsInHanded_of_change (C := Tryz.checked) own_knobY started (by kernel_rfl) Tryz.func3
    (ChangeSpec.witness6 (enc := enc) (C := Tryz.checked) false ⟨#[], #[.slice none 0 0], []⟩ 8 (by kernel_rfl) (by kernel_rfl) (by kernel_rfl) (by kernel_rfl)) ?_
  intro W base args ds gs before hval0 hW hcnd _
  have hval : ∀ (j : Nat) t v, Tryz.f3.params[j]? = some t → args[j]? = some v → Value.okWide Tryz.prog W .any base t v := hval0
  have hW' := hW
  obtain ⟨p, q, hA0, hV, rfl, hfz, hnd⟩ := hW
  have hA : DataW.TrodAll enc Tryz.prog W 0 (fun _ => true) true Tryz.f3.params.toList args.toList ds p := hA0
  rw [Tryz.params3] at hA hval
  obtain ⟨v0, d0, rfl, rfl, h0⟩ := trodAll_one hA
  obtain ⟨rfl, rfl⟩ := trodVars_none hV
  obtain ⟨ops, hs, hl⟩ := open_script (hval 0 22 v0 rfl rfl) h0
  clear hA0 hval0
  simp only [List.append_nil] at hW'
  have hlt : ∀ x ∈ p, x.block < W.heap.size := fun x hx => by simpa using hW'.lt x hx
  refine (checks_any W v0 ops hs hl).mono fun e W' ⟨he, hk⟩ => ?_
  subst he
  have bel := belowOfK hk
  exact ⟨_, rfl, ⟨_, _, _, [], _, [], hW', trodAll_mk1 (shut_bool Tryz.underlying4 true), trodAll_mk1 (Below.trod laid_out (by kernel_rfl) (of_decide_eq_true (by kernel_rfl)) h0 bel hlt), rfl, bel.frame _, fun h => by cases h⟩⟩

theorem checks_named : Tryz.prog.funcNamed Rows.checksRow.func = some 3 := by kernel_rfl
theorem checks_inst : Tryz.f3.isInstance Tryz.prog Rows.checksRow.origin Rows.checksRow.targs := of_decide_eq_true (by kernel_rfl)
theorem checks_wrap : Tryz.f3.isWrapper Tryz.prog Rows.checksRow.wrapper Rows.checksRow.mainSum := by unfold Func.isWrapper; first | (rw [if_pos (by decide +kernel)]; kernel_rfl) | (rw [if_neg (by decide +kernel)]; exact ⟨rfl, rfl⟩)
theorem checks_over : Rows.checksRow.holds Tryz.pinned (OpenSpec.ofChange Rows.checksSpec) :=
  OpenClaim.holds_of_wide 3 Tryz.f3 rfl rfl rfl rfl rfl rfl rfl ⟨rfl, rfl, rfl, rfl, rfl⟩ rfl rfl rfl rfl rfl checks_named Tryz.func3 checks_closed
    checks_inst checks_wrap (fun os started H enc _ => checks_lifted os started H enc)

theorem checks_proved : Rows.ChecksSaid := checks_over

end Go.Proofs.YtnlbchmfcebeeaaGreat
