/- FnExactAnswerHead: at every key and all slices of notes the program's AnswerHead answers as its model; it writes into no argument. Conditions: the tables of half tones and of the keys' alterations, the fifth and the fourth read as the program's text lays them (tied by the card). -/
import Derived.Test.YtcgcnkddgihkpaaDoorLawsX17H
import Derived.Test.YtcgcnkddgihkpaaDoorWalks17H
import Derived.Test.YtcgcnkddgihkpaaDoorWalks17J
import Derived.Test.YtcgcnkddgihkpaaDoorLawNotes
import Derived.Test.YtcgcnkddgihkpaaDoorLawDoorA
import Derived.Test.YtcgcnkddgihkpaaDoorLawDoorF
namespace Go.Proofs.YtcgcnkddgihkpaaDoor
set_option linter.unusedSimpArgs false
set_option linter.unusedVariables false
set_option maxRecDepth 8000
open Go.ChangeShapes Go.WideShapes Go.ChangeAt Go.RowKit Go.Joins

theorem xAnswerHead_any (f : Int) (m : Bool) (va : Value) (a : List Nt) (vb : Value) (b : List Nt) (w : World) (hm : a.length ≤ maxLen) (_h64 : ∀ x ∈ a, nt64 x) (hY : NotesAt w va a) (hm' : b.length ≤ maxLen) (_h64' : ∀ x ∈ b, nt64 x) (hY' : NotesAt w vb b) (r1 : r64 f) (ht : TabH w) (hA : TabA w) (h5 : TabU5 w) (h4 : TabU4 w) :
    Calls Tryd.prog 9 #[.int .i64 f, .bool m, va, vb] w fun e w' => e = .returned (.bool true) ∧ Below w.heap.size w w' :=
  xAnswerHead_of f m va a vb b w hm hY hm' hY' r1 (ahS_C w) (ahI_C ht hA h5 h4)

theorem xAnswerHead_met (os : Os) (args : Array Value) : laidMetH Tryd.prog Rows.fnExactAnswerHeadRow.laid ((World.doorLaid Tryd.prog 400 os).forCall (fun _ _ => 0) ⟨#[], args, []⟩).memory :=
  laidMetH_of_parts3 (fuel := 8) (laidMet_of_run' 8 (by kernel_rfl) (by kernel_rfl)) (by kernel_rfl) (by kernel_rfl)

set_option maxRecDepth 100000 in
theorem xAnswerHead_lifted (os : Os) (started : os.Started) (H : Type) (enc : TypeId × Value → H) :
    ReturnsInHanded {} Tryd.checked os 9 .any (fun w args => (Rows.fnExactAnswerHeadSpec.pre enc Tryd.prog Tryd.f9 [] false w args ∧ laidMetH Tryd.prog Rows.fnExactAnswerHeadRow.laid w) ∧ sizedMet enc Tryd.prog Tryd.f9 (OpenSpec.ofChange Rows.fnExactAnswerHeadSpec) false w args)
      (Rows.fnExactAnswerHeadSpec.post enc Tryd.prog Tryd.f9 false true false false) := by
  refine returnsInHanded_of_change_and (C := Tryd.checked) (X := fun w _ => laidMetH Tryd.prog Rows.fnExactAnswerHeadRow.laid w) (fun _ _ _ hh h => h.of_heap hh) own started (by kernel_rfl) Tryd.func9
    (ChangeSpec.witness_shaped (enc := enc) (C := Tryd.checked) (os := os) (X := fun w _ => laidMetH Tryd.prog Rows.fnExactAnswerHeadRow.laid w) false (World.doorLaid Tryd.prog 400 os) #[.int .i64 0, .bool false, .slice none 0 0, .slice none 0 0] 8 rfl (World.shaped_of_RefB (by kernel_rfl) (by kernel_rfl)) (by kernel_rfl) (by kernel_rfl) (by kernel_rfl) (xAnswerHead_met os _)) ?_
  intro W base args ds gs before hval0 hW _ _ hL _
  have hval : ∀ (j : Nat) t v, Tryd.f9.params[j]? = some t → args[j]? = some v → Value.okWide Tryd.prog W .any base t v := hval0
  have hW' := hW
  obtain ⟨p, q, hA0, hV0, rfl, hfz, hnd⟩ := hW
  have hA : DataW.TrodAll enc Tryd.prog W 0 (fun _ => true) true Tryd.f9.params.toList args.toList ds p := hA0
  have hV : DataW.TrodVars enc Tryd.prog W (fun _ => true) Rows.fnExactAnswerHeadSpec.vars gs q := hV0
  rw [Tryd.params9] at hA hval
  obtain ⟨v0, v1, v2, v3, d0, d1, d2, d3, p0, p1, p2, p3, rfl, rfl, rfl, h0, h1, h2, h3⟩ := trodAll_four hA
  obtain ⟨dg, dg2, dg3, dg4, rfl⟩ := vars_four hV
  obtain ⟨n0, rfl, rfl, rfl, wn0⟩ := open_int Tryd.underlying3 (hval 0 3 v0 rfl rfl) h0
  obtain ⟨b1, rfl, rfl, rfl⟩ := open_bool Tryd.underlying4 (hval 1 4 v1 rfl rfl) h1
  obtain ⟨l2, hm2, h642, hY2⟩ := notes_in (hval 2 47 v2 rfl rfl) h2
  obtain ⟨l3, hm3, h643, hY3⟩ := notes_in (hval 3 47 v3 rfl rfl) h3
  clear hA0 hval0 hV0
  refine (xAnswerHead_any n0 b1 v2 l2 v3 l3 W hm2 h642 hY2 hm3 h643 hY3 (wf64 wn0) (tabH_of_laid rfl hL) (tabA_of_laid rfl hL) (tabU5_of_laid rfl hL) (tabU4_of_laid rfl hL)).mono fun e W' ⟨he, hB⟩ => ?_
  subst he
  exact ⟨_, rfl, law_post laidOut (by rfl) Tryd.underlying4 (by kernel_rfl) (by kernel_rfl) hW' rfl rfl rfl hB⟩

theorem xAnswerHead_row : Rows.FnExactAnswerHeadSaid :=
  OpenClaim.holds_of_wide 9 Tryd.f9 rfl rfl rfl rfl rfl rfl rfl ⟨rfl, rfl, rfl, rfl, rfl⟩ rfl rfl rfl rfl rfl (by kernel_rfl) Tryd.func9 (by kernel_rfl)
    (of_decide_eq_true (by kernel_rfl)) (by unfold Func.isWrapper; first | (rw [if_pos (by decide +kernel)]; kernel_rfl) | (rw [if_neg (by decide +kernel)]; exact ⟨rfl, rfl⟩))
    (fun os started H enc _ => xAnswerHead_lifted os started H enc)

theorem xAnswerHead_holds : Rows.FnExactAnswerHeadCardSaid :=
  Claim7.holds_tied_plain_at .later [] Rows.fnExactAnswerHeadCard.laidKinds true Rows.fnExactAnswerHeadCard.stood.harness false
    xAnswerHead_row (fun _ h => by cases h) (by kernel_rfl) (fun _ h => by cases h) fnExactAnswerHead_row_tie rfl ⟨rfl, rfl⟩ main_is (by kernel_rfl)
    (fun f fn hf hfn => by
      obtain rfl : f = 9 := Option.some.inj ((show Tryd.prog.funcNamed "loop.example/musicengine/laws.FnExactAnswerHead" = some 9 by kernel_rfl).symm.trans hf) |>.symm
      obtain rfl : fn = Tryd.f9 := (Option.some.inj (Tryd.func9.symm.trans hfn)).symm
      exact ⟨by kernel_rfl, fun j t ht => by
        rw [Tryd.params9] at ht
        have hm : t ∈ [3, 4, 47, 47] := by simpa using Array.mem_of_getElem? ht
        have hall : ([3, 4, 47, 47].all fun u => !Tryd.prog.wantsStandIn u) = true := by kernel_rfl
        exact (show Tryd.prog.wantsStandIn t = false by simpa using List.all_eq_true.1 hall t hm)⟩)
    (by kernel_rfl)

end Go.Proofs.YtcgcnkddgihkpaaDoor
