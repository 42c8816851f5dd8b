/- FnExactSectionValid: at every section the program's SectionValid answers as its model, and writes into no argument. Conditions: no condition beyond the arguments being data of their types. -/
import Derived.Test.YtpfefbpmchigeaaLawsX7
import Derived.Test.YtpfefbpmchigeaaLawSecs
import Derived.Test.YtpfefbpmchigeaaLaw
namespace Go.Proofs.Ytpfefbpmchigeaa
set_option linter.unusedSimpArgs false
set_option linter.unusedVariables false
open Go.ChangeShapes Go.WideShapes Go.ChangeAt Go.RowKit Go.Joins

set_option maxRecDepth 100000 in
theorem xSectionValid_lifted (os : Os) (started : os.Started) (H : Type) (enc : TypeId × Value → H) :
    ReturnsInHanded {} Try.checked os 3 .any (Rows.fnExactSectionValidSpec.pre6 enc Try.prog Try.f3 Rows.fnExactSectionValidRow.domain false) (Rows.fnExactSectionValidSpec.post enc Try.prog Try.f3 false true false false) := by
  refine returnsInHanded_of_change (C := Try.checked) own started (by kernel_rfl) Try.func3
    (ChangeSpec.witness6 (enc := enc) (C := Try.checked) false ⟨#[], #[.agg #[.int .i64 0, .int .i64 0, .slice none 0 0]], []⟩ 8 (by kernel_rfl) (by kernel_rfl) (by kernel_rfl) (by kernel_rfl)) ?_
  intro W base args ds gs before hval0 hW _ _
  have hval : ∀ (j : Nat) t v, Try.f3.params[j]? = some t → args[j]? = some v → Value.okWide Try.prog W .any base t v := hval0
  have hW' := hW
  obtain ⟨p, q, hA0, hV0, rfl, hfz, hnd⟩ := hW
  have hA : DataW.TrodAll enc Try.prog W 0 (fun _ => true) true Try.f3.params.toList args.toList ds p := hA0
  have hV : DataW.TrodVars enc Try.prog W (fun _ => true) Rows.fnExactSectionValidSpec.vars gs q := hV0
  rw [Try.params3] at hA hval
  obtain ⟨v0, d0, rfl, rfl, h0⟩ := trodAll_one hA
  obtain ⟨rfl, rfl⟩ := trodVars_none hV
  obtain ⟨x0, ev0, rfl, hY0⟩ := sec_in (hval 0 24 v0 rfl rfl) h0
  clear hA0 hval0 hV0
  refine (xSectionValid_any x0 ev0 W hY0).mono fun e W' ⟨he, hB⟩ => ?_
  subst he
  exact ⟨_, rfl, law_post laidOut (by rfl) Try.underlying4 (by kernel_rfl) (by kernel_rfl) hW' rfl rfl rfl hB⟩

theorem xSectionValid_holds : Rows.FnExactSectionValidSaid :=
  OpenClaim.holds_of_wide 3 Try.f3 rfl rfl rfl rfl rfl rfl rfl ⟨rfl, rfl, rfl, rfl, rfl⟩ rfl rfl rfl rfl rfl (by kernel_rfl) Try.func3 (by kernel_rfl)
    (of_decide_eq_true (by kernel_rfl)) (by unfold Func.isWrapper; first | (rw [if_pos (by decide +kernel)]; kernel_rfl) | (rw [if_neg (by decide +kernel)]; exact ⟨rfl, rfl⟩))
    (fun os started H enc _ => xSectionValid_lifted os started H enc)

end Go.Proofs.Ytpfefbpmchigeaa
