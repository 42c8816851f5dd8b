/- FnExactMeetFault: at every two slices of notes the program's MeetFault answers as its model; it writes into no argument. Condition: the table of half tones reads as the program's text lays it (tied by the card). -/
import Derived.Test.YtlbagckpmpdkiaaDoorLawsX16
import Derived.Test.YtlbagckpmpdkiaaDoorWalks16M
import Derived.Test.YtlbagckpmpdkiaaDoorWalks16F
import Derived.Test.YtlbagckpmpdkiaaDoorLawNotes
import Derived.Test.YtlbagckpmpdkiaaDoorLawDoor
namespace Go.Proofs.YtlbagckpmpdkiaaDoor
set_option linter.unusedSimpArgs false
set_option linter.unusedVariables false
set_option maxRecDepth 8000
open Go.ChangeShapes Go.WideShapes Go.ChangeAt Go.RowKit Go.Joins

theorem xMeetFault_any (va : Value) (a : List Nt) (vb : Value) (b : List Nt) (w : World) (hm : a.length ≤ maxLen) (_h64 : ∀ x ∈ a, nt64 x) (hY : NotesAt w va a) (hm' : b.length ≤ maxLen) (_h64' : ∀ x ∈ b, nt64 x) (hY' : NotesAt w vb b) (ht : TabH w) :
    Calls Tryd.prog 9 #[va, vb] w fun e w' => e = .returned (.bool true) ∧ Below w.heap.size w w' :=
  xMeetFault_of va a vb b w hm hY hm' hY' (mfS_C w) (mfI_C ht)

theorem xMeetFault_met (os : Os) (args : Array Value) : laidMetH Tryd.prog Rows.fnExactMeetFaultRow.laid ((World.doorLaid Tryd.prog 400 os).forCall (fun _ _ => 0) ⟨#[], args, []⟩).memory :=
  laidMetH_of_parts3 (fuel := 8) (laidMet_of_run' 8 (by kernel_rfl) (by kernel_rfl)) (by kernel_rfl) (by kernel_rfl)

set_option maxRecDepth 100000 in
theorem xMeetFault_lifted (os : Os) (started : os.Started) (H : Type) (enc : TypeId × Value → H) :
    ReturnsInHanded {} Tryd.checked os 9 .any (fun w args => (Rows.fnExactMeetFaultSpec.pre enc Tryd.prog Tryd.f9 [] false w args ∧ laidMetH Tryd.prog Rows.fnExactMeetFaultRow.laid w) ∧ sizedMet enc Tryd.prog Tryd.f9 (OpenSpec.ofChange Rows.fnExactMeetFaultSpec) false w args)
      (Rows.fnExactMeetFaultSpec.post enc Tryd.prog Tryd.f9 false true false false) := by
  refine returnsInHanded_of_change_and (C := Tryd.checked) (X := fun w _ => laidMetH Tryd.prog Rows.fnExactMeetFaultRow.laid w) (fun _ _ _ hh h => h.of_heap hh) own started (by kernel_rfl) Tryd.func9
    (ChangeSpec.witness_shaped (enc := enc) (C := Tryd.checked) (os := os) (X := fun w _ => laidMetH Tryd.prog Rows.fnExactMeetFaultRow.laid w) false (World.doorLaid Tryd.prog 400 os) #[.slice none 0 0, .slice none 0 0] 8 rfl (World.shaped_of_RefB (by kernel_rfl) (by kernel_rfl)) (by kernel_rfl) (by kernel_rfl) (by kernel_rfl) (xMeetFault_met os _)) ?_
  intro W base args ds gs before hval0 hW _ _ hL _
  have hval : ∀ (j : Nat) t v, Tryd.f9.params[j]? = some t → args[j]? = some v → Value.okWide Tryd.prog W .any base t v := hval0
  have hW' := hW
  obtain ⟨p, q, hA0, hV0, rfl, hfz, hnd⟩ := hW
  have hA : DataW.TrodAll enc Tryd.prog W 0 (fun _ => true) true Tryd.f9.params.toList args.toList ds p := hA0
  have hV : DataW.TrodVars enc Tryd.prog W (fun _ => true) Rows.fnExactMeetFaultSpec.vars gs q := hV0
  rw [Tryd.params9] at hA hval
  obtain ⟨v0, v1, d0, d1, p0, p1, rfl, rfl, rfl, h0, h1⟩ := trodAll_two hA
  obtain ⟨g, tg, csg, fuelg, dg, pg, rfl, hgg, htg, hvg, hdg, rfl⟩ := trodVars_one hV
  obtain ⟨l0, hm0, h640, hY0⟩ := notes_in (hval 0 48 v0 rfl rfl) h0
  obtain ⟨l1, hm1, h641, hY1⟩ := notes_in (hval 1 48 v1 rfl rfl) h1
  clear hA0 hval0 hV0
  refine (xMeetFault_any v0 l0 v1 l1 W hm0 h640 hY0 hm1 h641 hY1 (tabH_of_laid rfl hL)).mono fun e W' ⟨he, hB⟩ => ?_
  subst he
  exact ⟨_, rfl, law_post laidOut (by rfl) Tryd.underlying4 (by kernel_rfl) (by kernel_rfl) hW' rfl rfl rfl hB⟩

theorem xMeetFault_row : Rows.FnExactMeetFaultSaid :=
  OpenClaim.holds_of_wide 9 Tryd.f9 rfl rfl rfl rfl rfl rfl rfl ⟨rfl, rfl, rfl, rfl, rfl⟩ rfl rfl rfl rfl rfl (by kernel_rfl) Tryd.func9 (by kernel_rfl)
    (of_decide_eq_true (by kernel_rfl)) (by unfold Func.isWrapper; first | (rw [if_pos (by decide +kernel)]; kernel_rfl) | (rw [if_neg (by decide +kernel)]; exact ⟨rfl, rfl⟩))
    (fun os started H enc _ => xMeetFault_lifted os started H enc)

theorem xMeetFault_holds : Rows.FnExactMeetFaultCardSaid :=
  Claim7.holds_tied_plain_at .later [] Rows.fnExactMeetFaultCard.laidKinds true Rows.fnExactMeetFaultCard.stood.harness false
    xMeetFault_row (fun _ h => by cases h) (by kernel_rfl) (fun _ h => by cases h) fnExactMeetFault_row_tie rfl ⟨rfl, rfl⟩ main_is (by kernel_rfl)
    (fun f fn hf hfn => by
      obtain rfl : f = 9 := Option.some.inj ((show Tryd.prog.funcNamed "loop.example/musicengine/laws.FnExactMeetFault" = some 9 by kernel_rfl).symm.trans hf) |>.symm
      obtain rfl : fn = Tryd.f9 := (Option.some.inj (Tryd.func9.symm.trans hfn)).symm
      exact ⟨by kernel_rfl, fun j t ht => by
        rw [Tryd.params9] at ht
        have hm : t ∈ [48, 48] := by simpa using Array.mem_of_getElem? ht
        have hall : ([48, 48].all fun u => !Tryd.prog.wantsStandIn u) = true := by kernel_rfl
        exact (show Tryd.prog.wantsStandIn t = false by simpa using List.all_eq_true.1 hall t hm)⟩)
    (by kernel_rfl)

end Go.Proofs.YtlbagckpmpdkiaaDoor
