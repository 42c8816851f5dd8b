/- FnExactTonalAnswer: at every key, slice of notes and head the program's TonalAnswer answers as its model; it writes into no argument; its answer owns its memory. Conditions: the tables of half tones and of the keys' alterations, the fifth and the fourth read as the program's text lays them (tied by the card). -/
import Derived.Test.YtcgcnkddgihkpaaDoorLawsX17
import Derived.Test.YtcgcnkddgihkpaaDoorWalks17S
import Derived.Test.YtcgcnkddgihkpaaDoorWalks17I
import Derived.Test.YtcgcnkddgihkpaaDoorLawNotes
import Derived.Test.YtcgcnkddgihkpaaDoorLawDoorA
import Derived.Test.YtcgcnkddgihkpaaDoorLawDoorF
namespace Go.Proofs.YtcgcnkddgihkpaaDoor
set_option linter.unusedSimpArgs false
set_option linter.unusedVariables false
set_option maxRecDepth 8000
open Go.ChangeShapes Go.WideShapes Go.ChangeAt Go.RowKit Go.Joins

theorem xTonalAnswer_any (f : Int) (m : Bool) (va : Value) (l : List Nt) (i : Int) (w : World) (hm : l.length ≤ maxLen) (_h64 : ∀ x ∈ l, nt64 x) (hY : NotesAt w va l) (r1 : r64 f) (r2 : r64 i) (ht : TabH w) (hA : TabA w) (h5 : TabU5 w) (h4 : TabU4 w) :
    Calls Tryd.prog 8 #[.int .i64 f, .bool m, va, .int .i64 i] w fun e w' => e = .returned (.bool true) ∧ Below w.heap.size w w' :=
  xTonalAnswer_of f m va l i w hm hY r1 r2 (taS_C w) (taI_C ht hA h5 h4)

theorem xTonalAnswer_met (os : Os) (args : Array Value) : laidMetH Tryd.prog Rows.fnExactTonalAnswerRow.laid ((World.doorLaid Tryd.prog 400 os).forCall (fun _ _ => 0) ⟨#[], args, []⟩).memory :=
  laidMetH_of_parts3 (fuel := 8) (laidMet_of_run' 8 (by kernel_rfl) (by kernel_rfl)) (by kernel_rfl) (by kernel_rfl)

set_option maxRecDepth 100000 in
theorem xTonalAnswer_lifted (os : Os) (started : os.Started) (H : Type) (enc : TypeId × Value → H) :
    ReturnsInHanded {} Tryd.checked os 8 .any (fun w args => (Rows.fnExactTonalAnswerSpec.pre enc Tryd.prog Tryd.f8 [] false w args ∧ laidMetH Tryd.prog Rows.fnExactTonalAnswerRow.laid w) ∧ sizedMet enc Tryd.prog Tryd.f8 (OpenSpec.ofChange Rows.fnExactTonalAnswerSpec) false w args)
      (Rows.fnExactTonalAnswerSpec.post enc Tryd.prog Tryd.f8 false true false false) := by
  refine returnsInHanded_of_change_and (C := Tryd.checked) (X := fun w _ => laidMetH Tryd.prog Rows.fnExactTonalAnswerRow.laid w) (fun _ _ _ hh h => h.of_heap hh) own started (by kernel_rfl) Tryd.func8
    (ChangeSpec.witness_shaped (enc := enc) (C := Tryd.checked) (os := os) (X := fun w _ => laidMetH Tryd.prog Rows.fnExactTonalAnswerRow.laid w) false (World.doorLaid Tryd.prog 400 os) #[.int .i64 0, .bool false, .slice none 0 0, .int .i64 0] 8 rfl (World.shaped_of_RefB (by kernel_rfl) (by kernel_rfl)) (by kernel_rfl) (by kernel_rfl) (by kernel_rfl) (xTonalAnswer_met os _)) ?_
  intro W base args ds gs before hval0 hW _ _ hL _
  have hval : ∀ (j : Nat) t v, Tryd.f8.params[j]? = some t → args[j]? = some v → Value.okWide Tryd.prog W .any base t v := hval0
  have hW' := hW
  obtain ⟨p, q, hA0, hV0, rfl, hfz, hnd⟩ := hW
  have hA : DataW.TrodAll enc Tryd.prog W 0 (fun _ => true) true Tryd.f8.params.toList args.toList ds p := hA0
  have hV : DataW.TrodVars enc Tryd.prog W (fun _ => true) Rows.fnExactTonalAnswerSpec.vars gs q := hV0
  rw [Tryd.params8] at hA hval
  obtain ⟨v0, v1, v2, v3, d0, d1, d2, d3, p0, p1, p2, p3, rfl, rfl, rfl, h0, h1, h2, h3⟩ := trodAll_four hA
  obtain ⟨dg, dg2, dg3, dg4, rfl⟩ := vars_four hV
  obtain ⟨n0, rfl, rfl, rfl, wn0⟩ := open_int Tryd.underlying3 (hval 0 3 v0 rfl rfl) h0
  obtain ⟨b1, rfl, rfl, rfl⟩ := open_bool Tryd.underlying4 (hval 1 4 v1 rfl rfl) h1
  obtain ⟨l2, hm2, h642, hY2⟩ := notes_in (hval 2 47 v2 rfl rfl) h2
  obtain ⟨n3, rfl, rfl, rfl, wn3⟩ := open_int Tryd.underlying3 (hval 3 3 v3 rfl rfl) h3
  clear hA0 hval0 hV0
  refine (xTonalAnswer_any n0 b1 v2 l2 n3 W hm2 h642 hY2 (wf64 wn0) (wf64 wn3) (tabH_of_laid rfl hL) (tabA_of_laid rfl hL) (tabU5_of_laid rfl hL) (tabU4_of_laid rfl hL)).mono fun e W' ⟨he, hB⟩ => ?_
  subst he
  exact ⟨_, rfl, law_post laidOut (by rfl) Tryd.underlying4 (by kernel_rfl) (by kernel_rfl) hW' rfl rfl rfl hB⟩

theorem xTonalAnswer_row : Rows.FnExactTonalAnswerSaid :=
  OpenClaim.holds_of_wide 8 Tryd.f8 rfl rfl rfl rfl rfl rfl rfl ⟨rfl, rfl, rfl, rfl, rfl⟩ rfl rfl rfl rfl rfl (by kernel_rfl) Tryd.func8 (by kernel_rfl)
    (of_decide_eq_true (by kernel_rfl)) (by unfold Func.isWrapper; first | (rw [if_pos (by decide +kernel)]; kernel_rfl) | (rw [if_neg (by decide +kernel)]; exact ⟨rfl, rfl⟩))
    (fun os started H enc _ => xTonalAnswer_lifted os started H enc)

theorem xTonalAnswer_holds : Rows.FnExactTonalAnswerCardSaid :=
  Claim7.holds_tied_plain_at .later [] Rows.fnExactTonalAnswerCard.laidKinds true Rows.fnExactTonalAnswerCard.stood.harness false
    xTonalAnswer_row (fun _ h => by cases h) (by kernel_rfl) (fun _ h => by cases h) fnExactTonalAnswer_row_tie rfl ⟨rfl, rfl⟩ main_is (by kernel_rfl)
    (fun f fn hf hfn => by
      obtain rfl : f = 8 := Option.some.inj ((show Tryd.prog.funcNamed "loop.example/musicengine/laws.FnExactTonalAnswer" = some 8 by kernel_rfl).symm.trans hf) |>.symm
      obtain rfl : fn = Tryd.f8 := (Option.some.inj (Tryd.func8.symm.trans hfn)).symm
      exact ⟨by kernel_rfl, fun j t ht => by
        rw [Tryd.params8] at ht
        have hm : t ∈ [3, 4, 47, 3] := by simpa using Array.mem_of_getElem? ht
        have hall : ([3, 4, 47, 3].all fun u => !Tryd.prog.wantsStandIn u) = true := by kernel_rfl
        exact (show Tryd.prog.wantsStandIn t = false by simpa using List.all_eq_true.1 hall t hm)⟩)
    (by kernel_rfl)

end Go.Proofs.YtcgcnkddgihkpaaDoor
