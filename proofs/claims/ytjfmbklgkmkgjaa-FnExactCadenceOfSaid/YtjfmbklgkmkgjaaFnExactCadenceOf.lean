/- FnExactCadenceOf: at every slice of integers the program's CadenceOf answers as its model, and writes into no argument. No condition beyond the argument being data of its type. -/
import Derived.Test.YtjfmbklgkmkgjaaLawsX11P
import Derived.Test.YtjfmbklgkmkgjaaLawInts
import Derived.Test.YtjfmbklgkmkgjaaLaw
namespace Go.Proofs.Ytjfmbklgkmkgjaa
set_option linter.unusedSimpArgs false
set_option linter.unusedVariables false
set_option maxRecDepth 8000
open Go.ChangeShapes Go.WideShapes Go.ChangeAt Go.RowKit Go.Joins

theorem xCadenceOf_any (va : Value) (l : List Int) (w : World) (hm : l.length ≤ maxLen) (_h64 : ∀ x ∈ l, i64b x) (hY : IntsIn w va l) :
    Calls Try.prog 4 #[va] w fun e w' => e = .returned (.bool true) ∧ Below w.heap.size w w' :=
  xCadenceOf_of va l w hm hY (fun va l W _ hs hl => cdI_any va l W hs hl)

set_option maxRecDepth 100000 in
theorem xCadenceOf_lifted (os : Os) (started : os.Started) (H : Type) (enc : TypeId × Value → H) :
    ReturnsInHanded {} Try.checked os 4 .any (Rows.fnExactCadenceOfSpec.pre6 enc Try.prog Try.f4 Rows.fnExactCadenceOfRow.domain false) (Rows.fnExactCadenceOfSpec.post enc Try.prog Try.f4 false true false false) := by
  refine returnsInHanded_of_change (C := Try.checked) own started (by kernel_rfl) Try.func4
    (ChangeSpec.witness6 (enc := enc) (C := Try.checked) false ⟨#[], #[.slice none 0 0], []⟩ 8 (by kernel_rfl) (by kernel_rfl) (by kernel_rfl) (by kernel_rfl)) ?_
  intro W base args ds gs before hval0 hW _ _
  have hval : ∀ (j : Nat) t v, Try.f4.params[j]? = some t → args[j]? = some v → Value.okWide Try.prog W .any base t v := hval0
  have hW' := hW
  obtain ⟨p, q, hA0, hV0, rfl, hfz, hnd⟩ := hW
  have hA : DataW.TrodAll enc Try.prog W 0 (fun _ => true) true Try.f4.params.toList args.toList ds p := hA0
  have hV : DataW.TrodVars enc Try.prog W (fun _ => true) Rows.fnExactCadenceOfSpec.vars gs q := hV0
  rw [Try.params4] at hA hval
  obtain ⟨v0, d0, rfl, rfl, h0⟩ := trodAll_one hA
  obtain ⟨rfl, rfl⟩ := trodVars_none hV
  obtain ⟨l0, hm0, h640, hY0⟩ := ints_in (hval 0 22 v0 rfl rfl) h0
  clear hA0 hval0 hV0
  refine (xCadenceOf_any v0 l0 W hm0 h640 hY0).mono fun e W' ⟨he, hB⟩ => ?_
  subst he
  exact ⟨_, rfl, law_post laidOut (by rfl) Try.underlying4 (by kernel_rfl) (by kernel_rfl) hW' rfl rfl rfl hB⟩

theorem xCadenceOf_holds : Rows.FnExactCadenceOfSaid :=
  OpenClaim.holds_of_wide 4 Try.f4 rfl rfl rfl rfl rfl rfl rfl ⟨rfl, rfl, rfl, rfl, rfl⟩ rfl rfl rfl rfl rfl (by kernel_rfl) Try.func4 (by kernel_rfl)
    (of_decide_eq_true (by kernel_rfl)) (by unfold Func.isWrapper; first | (rw [if_pos (by decide +kernel)]; kernel_rfl) | (rw [if_neg (by decide +kernel)]; exact ⟨rfl, rfl⟩))
    (fun os started H enc _ => xCadenceOf_lifted os started H enc)

end Go.Proofs.Ytjfmbklgkmkgjaa
