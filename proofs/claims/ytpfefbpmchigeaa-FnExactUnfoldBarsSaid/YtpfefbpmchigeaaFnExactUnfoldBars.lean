/- FnExactUnfoldBars: at every slice of sections and every slice of texts the program's UnfoldBars answers as its model, every element; it writes into no argument; its answers own their memory: marks laid into what came in and into an answer change no other. Conditions: no condition beyond the arguments being data of their types. -/
import Derived.Test.YtpfefbpmchigeaaLawsX7C
import Derived.Test.YtpfefbpmchigeaaLawSecs
import Derived.Test.YtpfefbpmchigeaaLaw
namespace Go.Proofs.Ytpfefbpmchigeaa
set_option linter.unusedSimpArgs false
set_option linter.unusedVariables false
open Go.ChangeShapes Go.WideShapes Go.ChangeAt Go.RowKit Go.Joins

set_option maxRecDepth 100000 in
theorem xUnfoldBars_lifted (os : Os) (started : os.Started) (H : Type) (enc : TypeId × Value → H) :
    ReturnsInHanded {} Try.checked os 7 .any (Rows.fnExactUnfoldBarsSpec.pre6 enc Try.prog Try.f7 Rows.fnExactUnfoldBarsRow.domain false) (Rows.fnExactUnfoldBarsSpec.post enc Try.prog Try.f7 false true false false) := by
  refine returnsInHanded_of_change (C := Try.checked) own started (by kernel_rfl) Try.func7
    (ChangeSpec.witness6 (enc := enc) (C := Try.checked) false ⟨#[], #[.slice none 0 0, .slice none 0 0], []⟩ 8 (by kernel_rfl) (by kernel_rfl) (by kernel_rfl) (by kernel_rfl)) ?_
  intro W base args ds gs before hval0 hW _ _
  have hval : ∀ (j : Nat) t v, Try.f7.params[j]? = some t → args[j]? = some v → Value.okWide Try.prog W .any base t v := hval0
  have hW' := hW
  obtain ⟨p, q, hA0, hV0, rfl, hfz, hnd⟩ := hW
  have hA : DataW.TrodAll enc Try.prog W 0 (fun _ => true) true Try.f7.params.toList args.toList ds p := hA0
  have hV : DataW.TrodVars enc Try.prog W (fun _ => true) Rows.fnExactUnfoldBarsSpec.vars gs q := hV0
  rw [Try.params7] at hA hval
  obtain ⟨v0, v1, d0, d1, p0, p1, rfl, rfl, rfl, h0, h1⟩ := trodAll_two hA
  obtain ⟨rfl, rfl⟩ := trodVars_none hV
  obtain ⟨l0, hY0⟩ := secs_in (hval 0 31 v0 rfl rfl) h0
  obtain ⟨l1, hm1, hY1, hz1⟩ := strs_in (hval 1 43 v1 rfl rfl) h1
  clear hA0 hval0 hV0
  refine (xUnfoldBars_any v0 l0 v1 l1 W hY0 hm1 hY1 hz1).mono fun e W' ⟨he, hB⟩ => ?_
  subst he
  exact ⟨_, rfl, law_post laidOut (by rfl) Try.underlying4 (by kernel_rfl) (by kernel_rfl) hW' rfl rfl rfl hB⟩

theorem xUnfoldBars_holds : Rows.FnExactUnfoldBarsSaid :=
  OpenClaim.holds_of_wide 7 Try.f7 rfl rfl rfl rfl rfl rfl rfl ⟨rfl, rfl, rfl, rfl, rfl⟩ rfl rfl rfl rfl rfl (by kernel_rfl) Try.func7 (by kernel_rfl)
    (of_decide_eq_true (by kernel_rfl)) (by unfold Func.isWrapper; first | (rw [if_pos (by decide +kernel)]; kernel_rfl) | (rw [if_neg (by decide +kernel)]; exact ⟨rfl, rfl⟩))
    (fun os started H enc _ => xUnfoldBars_lifted os started H enc)

end Go.Proofs.Ytpfefbpmchigeaa
