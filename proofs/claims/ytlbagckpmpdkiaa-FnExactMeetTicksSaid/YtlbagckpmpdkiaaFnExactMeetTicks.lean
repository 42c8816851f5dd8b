/- FnExactMeetTicks: at every two slices of notes the program's MeetTicks answers as its model; it writes into no argument; its answer owns its memory. No condition beyond the arguments being data of their types. -/
import Derived.Test.YtlbagckpmpdkiaaLawsX16T
import Derived.Test.YtlbagckpmpdkiaaWalks16M
import Derived.Test.YtlbagckpmpdkiaaWalks16T
import Derived.Test.YtlbagckpmpdkiaaLawNotes
import Derived.Test.YtlbagckpmpdkiaaLaw
namespace Go.Proofs.Ytlbagckpmpdkiaa
set_option linter.unusedSimpArgs false
set_option linter.unusedVariables false
set_option maxRecDepth 8000
open Go.ChangeShapes Go.WideShapes Go.ChangeAt Go.RowKit Go.Joins

theorem xMeetTicks_any (va : Value) (a : List Nt) (vb : Value) (b : List Nt) (w : World) (hm : a.length ≤ maxLen) (_h64 : ∀ x ∈ a, nt64 x) (hY : NotesAt w va a) (hm' : b.length ≤ maxLen) (_h64' : ∀ x ∈ b, nt64 x) (hY' : NotesAt w vb b) :
    Calls Try.prog 3 #[va, vb] w fun e w' => e = .returned (.bool true) ∧ Below w.heap.size w w' :=
  xMeetTicks_of va a vb b w hm hY hm' hY' (mtS_C w) (mtI_C w)

set_option maxRecDepth 100000 in
theorem xMeetTicks_lifted (os : Os) (started : os.Started) (H : Type) (enc : TypeId × Value → H) :
    ReturnsInHanded {} Try.checked os 3 .any (Rows.fnExactMeetTicksSpec.pre6 enc Try.prog Try.f3 Rows.fnExactMeetTicksRow.domain false) (Rows.fnExactMeetTicksSpec.post enc Try.prog Try.f3 false true false false) := by
  refine returnsInHanded_of_change (C := Try.checked) own started (by kernel_rfl) Try.func3
    (ChangeSpec.witness6 (enc := enc) (C := Try.checked) false ⟨#[], #[.slice none 0 0, .slice none 0 0], []⟩ 8 (by kernel_rfl) (by kernel_rfl) (by kernel_rfl) (by kernel_rfl)) ?_
  intro W base args ds gs before hval0 hW _ _
  have hval : ∀ (j : Nat) t v, Try.f3.params[j]? = some t → args[j]? = some v → Value.okWide Try.prog W .any base t v := hval0
  have hW' := hW
  obtain ⟨p, q, hA0, hV0, rfl, hfz, hnd⟩ := hW
  have hA : DataW.TrodAll enc Try.prog W 0 (fun _ => true) true Try.f3.params.toList args.toList ds p := hA0
  have hV : DataW.TrodVars enc Try.prog W (fun _ => true) Rows.fnExactMeetTicksSpec.vars gs q := hV0
  rw [Try.params3] at hA hval
  obtain ⟨v0, v1, d0, d1, p0, p1, rfl, rfl, rfl, h0, h1⟩ := trodAll_two hA
  obtain ⟨rfl, rfl⟩ := trodVars_none hV
  obtain ⟨l0, hm0, h640, hY0⟩ := notes_in (hval 0 22 v0 rfl rfl) h0
  obtain ⟨l1, hm1, h641, hY1⟩ := notes_in (hval 1 22 v1 rfl rfl) h1
  clear hA0 hval0 hV0
  refine (xMeetTicks_any v0 l0 v1 l1 W hm0 h640 hY0 hm1 h641 hY1).mono fun e W' ⟨he, hB⟩ => ?_
  subst he
  exact ⟨_, rfl, law_post laidOut (by rfl) Try.underlying4 (by kernel_rfl) (by kernel_rfl) hW' rfl rfl rfl hB⟩

theorem xMeetTicks_holds : Rows.FnExactMeetTicksSaid :=
  OpenClaim.holds_of_wide 3 Try.f3 rfl rfl rfl rfl rfl rfl rfl ⟨rfl, rfl, rfl, rfl, rfl⟩ rfl rfl rfl rfl rfl (by kernel_rfl) Try.func3 (by kernel_rfl)
    (of_decide_eq_true (by kernel_rfl)) (by unfold Func.isWrapper; first | (rw [if_pos (by decide +kernel)]; kernel_rfl) | (rw [if_neg (by decide +kernel)]; exact ⟨rfl, rfl⟩))
    (fun os started H enc _ => xMeetTicks_lifted os started H enc)

end Go.Proofs.Ytlbagckpmpdkiaa
