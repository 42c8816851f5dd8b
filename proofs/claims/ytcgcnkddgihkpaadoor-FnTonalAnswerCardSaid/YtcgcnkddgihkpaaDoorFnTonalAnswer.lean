/- FnTonalAnswer. Tonal answers answer the fifth with the octave: for every code drawn from, TonalAnswer answers as its model; a note on degree 4 in the head is answered by one on degree 0, every other one by one four degrees higher; the answer is a valid voice with as many ticks; with head 0 it is the real answer. Conditions: the tables of half tones and of the keys' alterations, the fifth and the fourth read as the program's text lays them (tied by the card). -/
import Derived.Test.YtcgcnkddgihkpaaDoorLaws17T
import Derived.Test.YtcgcnkddgihkpaaDoorWalks17S
import Derived.Test.YtcgcnkddgihkpaaDoorWalks17I
import Derived.Test.YtcgcnkddgihkpaaDoorWalks5C
import Derived.Test.YtcgcnkddgihkpaaDoorLawBytes
import Derived.Test.YtcgcnkddgihkpaaDoorLawDoorA
import Derived.Test.YtcgcnkddgihkpaaDoorLawDoorF
namespace Go.Proofs.YtcgcnkddgihkpaaDoor
set_option linter.unusedSimpArgs false
set_option linter.unusedVariables false
set_option maxRecDepth 8000
open Go.ChangeShapes Go.WideShapes Go.ChangeAt Go.RowKit Go.Joins

theorem fnTonalAnswer_any (v : Value) (n : Nat) (w : World) (hn : n ≤ maxLen) (h : BytesB w w.heap.size v n) (ht : TabH w) (hA : TabA w) (h5 : TabU5 w) (h4 : TabU4 w) :
    Calls Tryd.prog 4 #[v] w fun e w' => e = .returned (.bool true) ∧ Below w.heap.size w w' :=
  fnTonalAnswer_of v n w hn h ht (taS_C w) (taI_C ht hA h5 h4) (raI_C ht h5) (voI_C w) (vtI_C w) (fun f m s a o W hW hv => dgI_yes f s a o m W (hA.below hW) hv)

theorem fnTonalAnswer_met (os : Os) (args : Array Value) : laidMetH Tryd.prog Rows.fnTonalAnswerRow.laid ((World.doorLaid Tryd.prog 400 os).forCall (fun _ _ => 0) ⟨#[], args, []⟩).memory :=
  laidMetH_of_parts3 (fuel := 8) (laidMet_of_run' 8 (by kernel_rfl) (by kernel_rfl)) (by kernel_rfl) (by kernel_rfl)

set_option maxRecDepth 100000 in
theorem fnTonalAnswer_lifted (os : Os) (started : os.Started) (H : Type) (enc : TypeId × Value → H) :
    ReturnsInHanded {} Tryd.checked os 4 .any (fun w args => (Rows.fnTonalAnswerSpec.pre enc Tryd.prog Tryd.f4 [] false w args ∧ laidMetH Tryd.prog Rows.fnTonalAnswerRow.laid w) ∧ sizedMet enc Tryd.prog Tryd.f4 (OpenSpec.ofChange Rows.fnTonalAnswerSpec) false w args)
      (Rows.fnTonalAnswerSpec.post enc Tryd.prog Tryd.f4 false true false false) := by
  refine returnsInHanded_of_change_and (C := Tryd.checked) (X := fun w _ => laidMetH Tryd.prog Rows.fnTonalAnswerRow.laid w) (fun _ _ _ hh h => h.of_heap hh) own started (by kernel_rfl) Tryd.func4
    (ChangeSpec.witness_shaped (enc := enc) (C := Tryd.checked) (os := os) (X := fun w _ => laidMetH Tryd.prog Rows.fnTonalAnswerRow.laid w) false (World.doorLaid Tryd.prog 400 os) #[.slice none 0 0] 8 rfl (World.shaped_of_RefB (by kernel_rfl) (by kernel_rfl)) (by kernel_rfl) (by kernel_rfl) (by kernel_rfl) (fnTonalAnswer_met os _)) ?_
  intro W base args ds gs before hval0 hW _ _ hL _
  have hval : ∀ (j : Nat) t v, Tryd.f4.params[j]? = some t → args[j]? = some v → Value.okWide Tryd.prog W .any base t v := hval0
  have hW' := hW
  obtain ⟨p, q, hA0, hV0, rfl, hfz, hnd⟩ := hW
  have hA : DataW.TrodAll enc Tryd.prog W 0 (fun _ => true) true Tryd.f4.params.toList args.toList ds p := hA0
  have hV : DataW.TrodVars enc Tryd.prog W (fun _ => true) Rows.fnTonalAnswerSpec.vars gs q := hV0
  rw [Tryd.params4] at hA hval
  obtain ⟨v0, d0, rfl, rfl, h0⟩ := trodAll_one hA
  obtain ⟨dg, dg2, dg3, dg4, rfl⟩ := vars_four hV
  obtain ⟨m0, hm0, hY0⟩ := bytes_in Tryd.underlying22 Tryd.underlying5 (show Tryd.prog.cellsOf 5 = 1 by kernel_rfl) (hval 0 22 v0 rfl rfl) h0
  clear hA0 hval0 hV0
  refine (fnTonalAnswer_any v0 m0 W hm0 hY0 (tabH_of_laid rfl hL) (tabA_of_laid rfl hL) (tabU5_of_laid rfl hL) (tabU4_of_laid rfl hL)).mono fun e W' ⟨he, hB⟩ => ?_
  subst he
  exact ⟨_, rfl, law_post laidOut (by rfl) Tryd.underlying4 (by kernel_rfl) (by kernel_rfl) hW' rfl rfl rfl hB⟩

theorem fnTonalAnswer_row : Rows.FnTonalAnswerSaid :=
  OpenClaim.holds_of_wide 4 Tryd.f4 rfl rfl rfl rfl rfl rfl rfl ⟨rfl, rfl, rfl, rfl, rfl⟩ rfl rfl rfl rfl rfl (by kernel_rfl) Tryd.func4 (by kernel_rfl)
    (of_decide_eq_true (by kernel_rfl)) (by unfold Func.isWrapper; first | (rw [if_pos (by decide +kernel)]; kernel_rfl) | (rw [if_neg (by decide +kernel)]; exact ⟨rfl, rfl⟩))
    (fun os started H enc _ => fnTonalAnswer_lifted os started H enc)

theorem fnTonalAnswer_holds : Rows.FnTonalAnswerCardSaid :=
  Claim7.holds_tied_plain_at .later [] Rows.fnTonalAnswerCard.laidKinds true Rows.fnTonalAnswerCard.stood.harness false
    fnTonalAnswer_row (fun _ h => by cases h) (by kernel_rfl) (fun _ h => by cases h) fnTonalAnswer_row_tie rfl ⟨rfl, rfl⟩ main_is (by kernel_rfl)
    (fun f fn hf hfn => by
      obtain rfl : f = 4 := Option.some.inj ((show Tryd.prog.funcNamed "loop.example/musicengine/laws.FnTonalAnswer" = some 4 by kernel_rfl).symm.trans hf) |>.symm
      obtain rfl : fn = Tryd.f4 := (Option.some.inj (Tryd.func4.symm.trans hfn)).symm
      exact ⟨by kernel_rfl, fun j t ht => by
        rw [Tryd.params4] at ht
        have hm : t ∈ [22] := by simpa using Array.mem_of_getElem? ht
        have hall : ([22].all fun u => !Tryd.prog.wantsStandIn u) = true := by kernel_rfl
        exact (show Tryd.prog.wantsStandIn t = false by simpa using List.all_eq_true.1 hall t hm)⟩)
    (by kernel_rfl)

end Go.Proofs.YtcgcnkddgihkpaaDoor
