/- FnExactShiftVoice: at every slice of notes and every interval the program's ShiftVoice answers as its model, every field; it writes into no argument; its answer owns its memory. Conditions: the table of half tones reads as the program's text lays it (tied by the card). -/
import Derived.Test.YtcgcnkddgihkpaaDoorWalks5E
import Derived.Test.YtcgcnkddgihkpaaDoorLawsX5H
import Derived.Test.YtcgcnkddgihkpaaDoorLawNotes
import Derived.Test.YtcgcnkddgihkpaaDoorLawDoor
namespace Go.Proofs.YtcgcnkddgihkpaaDoor
set_option linter.unusedSimpArgs false
set_option linter.unusedVariables false
set_option maxRecDepth 8000
open Go.ChangeShapes Go.WideShapes Go.ChangeAt Go.RowKit Go.Joins

theorem xShiftVoice_any (va : Value) (l : List Nt) (st ha : Int) (w : World) (hm : l.length ≤ maxLen) (h64 : ∀ x ∈ l, nt64 x) (hY : NotesAt w va l) (ht : TabH w) (r1 : r64 st) (r2 : r64 ha) :
    Calls Tryd.prog 12 #[va, .agg #[.int .i64 st, .int .i64 ha]] w fun e w' => e = .returned (.bool true) ∧ Below w.heap.size w w' :=
  xShiftVoice_of va l st ha w hm hY r1 r2 (svI_C w ht)

theorem xShiftVoice_met (os : Os) (args : Array Value) : laidMetH Tryd.prog Rows.fnExactShiftVoiceRow.laid ((World.doorLaid Tryd.prog 400 os).forCall (fun _ _ => 0) ⟨#[], args, []⟩).memory :=
  laidMetH_of_parts3 (fuel := 8) (laidMet_of_run' 8 (by kernel_rfl) (by kernel_rfl)) (by kernel_rfl) (by kernel_rfl)

set_option maxRecDepth 100000 in
theorem xShiftVoice_lifted (os : Os) (started : os.Started) (H : Type) (enc : TypeId × Value → H) :
    ReturnsInHanded {} Tryd.checked os 12 .any (fun w args => (Rows.fnExactShiftVoiceSpec.pre enc Tryd.prog Tryd.f12 [] false w args ∧ laidMetH Tryd.prog Rows.fnExactShiftVoiceRow.laid w) ∧ sizedMet enc Tryd.prog Tryd.f12 (OpenSpec.ofChange Rows.fnExactShiftVoiceSpec) false w args)
      (Rows.fnExactShiftVoiceSpec.post enc Tryd.prog Tryd.f12 false true false false) := by
  refine returnsInHanded_of_change_and (C := Tryd.checked) (X := fun w _ => laidMetH Tryd.prog Rows.fnExactShiftVoiceRow.laid w) (fun _ _ _ hh h => h.of_heap hh) own started (by kernel_rfl) Tryd.func12
    (ChangeSpec.witness_shaped (enc := enc) (C := Tryd.checked) (os := os) (X := fun w _ => laidMetH Tryd.prog Rows.fnExactShiftVoiceRow.laid w) false (World.doorLaid Tryd.prog 400 os) #[.slice none 0 0, .agg #[.int .i64 0, .int .i64 0]] 8 rfl (World.shaped_of_RefB (by kernel_rfl) (by kernel_rfl)) (by kernel_rfl) (by kernel_rfl) (by kernel_rfl) (xShiftVoice_met os _)) ?_
  intro W base args ds gs before hval0 hW _ _ hL _
  have hval : ∀ (j : Nat) t v, Tryd.f12.params[j]? = some t → args[j]? = some v → Value.okWide Tryd.prog W .any base t v := hval0
  have hW' := hW
  obtain ⟨p, q, hA0, hV0, rfl, hfz, hnd⟩ := hW
  have hA : DataW.TrodAll enc Tryd.prog W 0 (fun _ => true) true Tryd.f12.params.toList args.toList ds p := hA0
  have hV : DataW.TrodVars enc Tryd.prog W (fun _ => true) Rows.fnExactShiftVoiceSpec.vars gs q := hV0
  rw [Tryd.params12] at hA hval
  obtain ⟨v0, v1, d0, d1, p0, p1, rfl, rfl, rfl, h0, h1⟩ := trodAll_two hA
  obtain ⟨g, tg, csg, fuelg, dg, pg, rfl, hgg, htg, hvg, hdg, rfl⟩ := trodVars_one hV
  obtain ⟨l0, hm0, h640, hY0⟩ := notes_in (hval 0 47 v0 rfl rfl) h0
  obtain ⟨c10, c11, y10, y11, m1, rfl, rfl, rfl, hy10, hy11⟩ := open_agg2 Tryd.underlying57 (by kernel_rfl) (show Tryd.prog.cellsOf 57 = 2 by kernel_rfl) (hval 1 57 v1 rfl rfl) h1
  obtain ⟨s1, e10, rfl, ws1⟩ := DataW.trod_int Tryd.underlying3 hy10
  obtain ⟨a1, e11, rfl, wa1⟩ := DataW.trod_int Tryd.underlying3 hy11
  simp at e10 e11
  subst e10 e11
  clear hA0 hval0 hV0
  refine (xShiftVoice_any v0 l0 s1 a1 W hm0 h640 hY0 (tabH_of_laid rfl hL) (wf64 ws1) (wf64 wa1)).mono fun e W' ⟨he, hB⟩ => ?_
  subst he
  exact ⟨_, rfl, law_post laidOut (by rfl) Tryd.underlying4 (by kernel_rfl) (by kernel_rfl) hW' rfl rfl rfl hB⟩

theorem xShiftVoice_row : Rows.FnExactShiftVoiceSaid :=
  OpenClaim.holds_of_wide 12 Tryd.f12 rfl rfl rfl rfl rfl rfl rfl ⟨rfl, rfl, rfl, rfl, rfl⟩ rfl rfl rfl rfl rfl (by kernel_rfl) Tryd.func12 (by kernel_rfl)
    (of_decide_eq_true (by kernel_rfl)) (by unfold Func.isWrapper; first | (rw [if_pos (by decide +kernel)]; kernel_rfl) | (rw [if_neg (by decide +kernel)]; exact ⟨rfl, rfl⟩))
    (fun os started H enc _ => xShiftVoice_lifted os started H enc)

theorem xShiftVoice_holds : Rows.FnExactShiftVoiceCardSaid :=
  Claim7.holds_tied_plain_at .later [] Rows.fnExactShiftVoiceCard.laidKinds true Rows.fnExactShiftVoiceCard.stood.harness false
    xShiftVoice_row (fun _ h => by cases h) (by kernel_rfl) (fun _ h => by cases h) fnExactShiftVoice_row_tie rfl ⟨rfl, rfl⟩ main_is (by kernel_rfl)
    (fun f fn hf hfn => by
      obtain rfl : f = 12 := Option.some.inj ((show Tryd.prog.funcNamed "loop.example/musicengine/laws.FnExactShiftVoice" = some 12 by kernel_rfl).symm.trans hf) |>.symm
      obtain rfl : fn = Tryd.f12 := (Option.some.inj (Tryd.func12.symm.trans hfn)).symm
      exact ⟨by kernel_rfl, fun j t ht => by
        rw [Tryd.params12] at ht
        have hm : t ∈ [47, 57] := by simpa using Array.mem_of_getElem? ht
        have hall : ([47, 57].all fun u => !Tryd.prog.wantsStandIn u) = true := by kernel_rfl
        exact (show Tryd.prog.wantsStandIn t = false by simpa using List.all_eq_true.1 hall t hm)⟩)
    (by kernel_rfl)

end Go.Proofs.YtcgcnkddgihkpaaDoor
