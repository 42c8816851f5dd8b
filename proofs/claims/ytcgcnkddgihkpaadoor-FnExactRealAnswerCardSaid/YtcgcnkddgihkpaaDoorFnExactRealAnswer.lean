/- FnExactRealAnswer: at every slice of notes the program's RealAnswer answers as its model; it writes into no argument; its answer owns its memory. Conditions: the table of half tones and the fifth read as the program's text lays them (tied by the card). -/
import Derived.Test.YtcgcnkddgihkpaaDoorLawsX17
import Derived.Test.YtcgcnkddgihkpaaDoorWalks17S
import Derived.Test.YtcgcnkddgihkpaaDoorWalks17I
import Derived.Test.YtcgcnkddgihkpaaDoorLawNotes
import Derived.Test.YtcgcnkddgihkpaaDoorLawDoorF
namespace Go.Proofs.YtcgcnkddgihkpaaDoor
set_option linter.unusedSimpArgs false
set_option linter.unusedVariables false
set_option maxRecDepth 8000
open Go.ChangeShapes Go.WideShapes Go.ChangeAt Go.RowKit Go.Joins

theorem xRealAnswer_any (va : Value) (l : List Nt) (w : World) (hm : l.length ≤ maxLen) (_h64 : ∀ x ∈ l, nt64 x) (hY : NotesAt w va l) (ht : TabH w) (h5 : TabU5 w) :
    Calls Tryd.prog 7 #[va] w fun e w' => e = .returned (.bool true) ∧ Below w.heap.size w w' :=
  xRealAnswer_of va l w hm hY (raS_C w) (raI_C ht h5)

theorem xRealAnswer_met (os : Os) (args : Array Value) : laidMetH Tryd.prog Rows.fnExactRealAnswerRow.laid ((World.doorLaid Tryd.prog 400 os).forCall (fun _ _ => 0) ⟨#[], args, []⟩).memory :=
  laidMetH_of_parts3 (fuel := 8) (laidMet_of_run' 8 (by kernel_rfl) (by kernel_rfl)) (by kernel_rfl) (by kernel_rfl)

set_option maxRecDepth 100000 in
theorem xRealAnswer_lifted (os : Os) (started : os.Started) (H : Type) (enc : TypeId × Value → H) :
    ReturnsInHanded {} Tryd.checked os 7 .any (fun w args => (Rows.fnExactRealAnswerSpec.pre enc Tryd.prog Tryd.f7 [] false w args ∧ laidMetH Tryd.prog Rows.fnExactRealAnswerRow.laid w) ∧ sizedMet enc Tryd.prog Tryd.f7 (OpenSpec.ofChange Rows.fnExactRealAnswerSpec) false w args)
      (Rows.fnExactRealAnswerSpec.post enc Tryd.prog Tryd.f7 false true false false) := by
  refine returnsInHanded_of_change_and (C := Tryd.checked) (X := fun w _ => laidMetH Tryd.prog Rows.fnExactRealAnswerRow.laid w) (fun _ _ _ hh h => h.of_heap hh) own started (by kernel_rfl) Tryd.func7
    (ChangeSpec.witness_shaped (enc := enc) (C := Tryd.checked) (os := os) (X := fun w _ => laidMetH Tryd.prog Rows.fnExactRealAnswerRow.laid w) false (World.doorLaid Tryd.prog 400 os) #[.slice none 0 0] 8 rfl (World.shaped_of_RefB (by kernel_rfl) (by kernel_rfl)) (by kernel_rfl) (by kernel_rfl) (by kernel_rfl) (xRealAnswer_met os _)) ?_
  intro W base args ds gs before hval0 hW _ _ hL _
  have hval : ∀ (j : Nat) t v, Tryd.f7.params[j]? = some t → args[j]? = some v → Value.okWide Tryd.prog W .any base t v := hval0
  have hW' := hW
  obtain ⟨p, q, hA0, hV0, rfl, hfz, hnd⟩ := hW
  have hA : DataW.TrodAll enc Tryd.prog W 0 (fun _ => true) true Tryd.f7.params.toList args.toList ds p := hA0
  have hV : DataW.TrodVars enc Tryd.prog W (fun _ => true) Rows.fnExactRealAnswerSpec.vars gs q := hV0
  rw [Tryd.params7] at hA hval
  obtain ⟨v0, d0, rfl, rfl, h0⟩ := trodAll_one hA
  obtain ⟨dg, dg2, rfl⟩ := vars_two hV
  obtain ⟨l0, hm0, h640, hY0⟩ := notes_in (hval 0 47 v0 rfl rfl) h0
  clear hA0 hval0 hV0
  refine (xRealAnswer_any v0 l0 W hm0 h640 hY0 (tabH_of_laid rfl hL) (tabU5_of_laid rfl hL)).mono fun e W' ⟨he, hB⟩ => ?_
  subst he
  exact ⟨_, rfl, law_post laidOut (by rfl) Tryd.underlying4 (by kernel_rfl) (by kernel_rfl) hW' rfl rfl rfl hB⟩

theorem xRealAnswer_row : Rows.FnExactRealAnswerSaid :=
  OpenClaim.holds_of_wide 7 Tryd.f7 rfl rfl rfl rfl rfl rfl rfl ⟨rfl, rfl, rfl, rfl, rfl⟩ rfl rfl rfl rfl rfl (by kernel_rfl) Tryd.func7 (by kernel_rfl)
    (of_decide_eq_true (by kernel_rfl)) (by unfold Func.isWrapper; first | (rw [if_pos (by decide +kernel)]; kernel_rfl) | (rw [if_neg (by decide +kernel)]; exact ⟨rfl, rfl⟩))
    (fun os started H enc _ => xRealAnswer_lifted os started H enc)

theorem xRealAnswer_holds : Rows.FnExactRealAnswerCardSaid :=
  Claim7.holds_tied_plain_at .later [] Rows.fnExactRealAnswerCard.laidKinds true Rows.fnExactRealAnswerCard.stood.harness false
    xRealAnswer_row (fun _ h => by cases h) (by kernel_rfl) (fun _ h => by cases h) fnExactRealAnswer_row_tie rfl ⟨rfl, rfl⟩ main_is (by kernel_rfl)
    (fun f fn hf hfn => by
      obtain rfl : f = 7 := Option.some.inj ((show Tryd.prog.funcNamed "loop.example/musicengine/laws.FnExactRealAnswer" = some 7 by kernel_rfl).symm.trans hf) |>.symm
      obtain rfl : fn = Tryd.f7 := (Option.some.inj (Tryd.func7.symm.trans hfn)).symm
      exact ⟨by kernel_rfl, fun j t ht => by
        rw [Tryd.params7] at ht
        have hm : t ∈ [47] := by simpa using Array.mem_of_getElem? ht
        have hall : ([47].all fun u => !Tryd.prog.wantsStandIn u) = true := by kernel_rfl
        exact (show Tryd.prog.wantsStandIn t = false by simpa using List.all_eq_true.1 hall t hm)⟩)
    (by kernel_rfl)

end Go.Proofs.YtcgcnkddgihkpaaDoor
