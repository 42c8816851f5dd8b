/- FnExactNoteAt: at every slice of notes and every tick the program's NoteAt answers as its model, and writes into no argument. Conditions: no condition beyond the arguments being data of their types. -/
import Derived.Test.YtepelgaekgllcabWalks5C
import Derived.Test.YtepelgaekgllcabLawsX5
import Derived.Test.YtepelgaekgllcabLawNotes
import Derived.Test.YtepelgaekgllcabLaw
namespace Go.Proofs.Ytepelgaekgllcab
set_option linter.unusedSimpArgs false
set_option linter.unusedVariables false
open Go.ChangeShapes Go.WideShapes Go.ChangeAt Go.RowKit Go.Joins

theorem xNoteAt_any (va : Value) (l : List Nt) (t : Int) (w : World) (hm : l.length ≤ maxLen) (h64 : ∀ x ∈ l, nt64 x) (hY : NotesAt w va l) (ht : -9223372036854775808 ≤ t ∧ t ≤ 9223372036854775807) :
    Calls Try.prog 3 #[va, .int .i64 t] w fun e w' => e = .returned (.bool true) ∧ Below w.heap.size w w' :=
  xNoteAt_of va l t w hm hY ht (naI_C w)

set_option maxRecDepth 100000 in
theorem xNoteAt_lifted (os : Os) (started : os.Started) (H : Type) (enc : TypeId × Value → H) :
    ReturnsInHanded {} Try.checked os 3 .any (Rows.fnExactNoteAtSpec.pre6 enc Try.prog Try.f3 Rows.fnExactNoteAtRow.domain false) (Rows.fnExactNoteAtSpec.post enc Try.prog Try.f3 false true false false) := by
  refine returnsInHanded_of_change (C := Try.checked) own started (by kernel_rfl) Try.func3
    (ChangeSpec.witness6 (enc := enc) (C := Try.checked) false ⟨#[], #[.slice none 0 0, .int .i64 0], []⟩ 8 (by kernel_rfl) (by kernel_rfl) (by kernel_rfl) (by kernel_rfl)) ?_
  intro W base args ds gs before hval0 hW _ _
  have hval : ∀ (j : Nat) t v, Try.f3.params[j]? = some t → args[j]? = some v → Value.okWide Try.prog W .any base t v := hval0
  have hW' := hW
  obtain ⟨p, q, hA0, hV0, rfl, hfz, hnd⟩ := hW
  have hA : DataW.TrodAll enc Try.prog W 0 (fun _ => true) true Try.f3.params.toList args.toList ds p := hA0
  have hV : DataW.TrodVars enc Try.prog W (fun _ => true) Rows.fnExactNoteAtSpec.vars gs q := hV0
  rw [Try.params3] at hA hval
  obtain ⟨v0, v1, d0, d1, p0, p1, rfl, rfl, rfl, h0, h1⟩ := trodAll_two hA
  obtain ⟨rfl, rfl⟩ := trodVars_none hV
  obtain ⟨l0, hm0, h640, hY0⟩ := notes_in (hval 0 22 v0 rfl rfl) h0
  obtain ⟨n1, rfl, rfl, rfl, wn1⟩ := open_int Try.underlying3 (hval 1 3 v1 rfl rfl) h1
  clear hA0 hval0 hV0
  refine (xNoteAt_any v0 l0 n1 W hm0 h640 hY0 (wf64 wn1)).mono fun e W' ⟨he, hB⟩ => ?_
  subst he
  exact ⟨_, rfl, law_post laidOut (by rfl) Try.underlying4 (by kernel_rfl) (by kernel_rfl) hW' rfl rfl rfl hB⟩

theorem xNoteAt_holds : Rows.FnExactNoteAtSaid :=
  OpenClaim.holds_of_wide 3 Try.f3 rfl rfl rfl rfl rfl rfl rfl ⟨rfl, rfl, rfl, rfl, rfl⟩ rfl rfl rfl rfl rfl (by kernel_rfl) Try.func3 (by kernel_rfl)
    (of_decide_eq_true (by kernel_rfl)) (by unfold Func.isWrapper; first | (rw [if_pos (by decide +kernel)]; kernel_rfl) | (rw [if_neg (by decide +kernel)]; exact ⟨rfl, rfl⟩))
    (fun os started H enc _ => xNoteAt_lifted os started H enc)

end Go.Proofs.Ytepelgaekgllcab
