/- FnExactDegreeOfChord: at every key and every slice of pitches the program's DegreeOfChord answers as its model, and writes into no argument. Condition, beyond the arguments being data of their types: the table of the keys' alterations reads as the program's text lays it (tied by the card). -/
import Derived.Test.YtjfmbklgkmkgjaaDoorWalks11I
import Derived.Test.YtjfmbklgkmkgjaaDoorLawsX11
import Derived.Test.YtjfmbklgkmkgjaaDoorLawDoorA
import Derived.Test.YtjfmbklgkmkgjaaDoorLawPits
namespace Go.Proofs.YtjfmbklgkmkgjaaDoor
set_option linter.unusedSimpArgs false
set_option linter.unusedVariables false
set_option maxRecDepth 8000
open Go.ChangeShapes Go.WideShapes Go.ChangeAt Go.RowKit Go.Joins

theorem xDegreeOfChord_any (f : Int) (m : Bool) (va : Value) (l : List Pt) (w : World) (hm : l.length ≤ maxLen) (h64 : ∀ x ∈ l, pt64 x) (hY : PtsAt w va l) (r1 : r64 f) (hA : TabA w) :
    Calls Tryd.prog 12 #[.int .i64 f, .bool m, va] w fun e w' => e = .returned (.bool true) ∧ Below w.heap.size w w' :=
  xDegreeOfChord_of f m va l w r1 hm (fun x hx => h64 x hx) hY (fun f m va l W hW _ hs hl _ => dcI_any f m va l W (hA.below hW) hs hl)

theorem xDegreeOfChord_met (os : Os) (args : Array Value) : laidMetH Tryd.prog Rows.fnExactDegreeOfChordRow.laid ((World.doorLaid Tryd.prog 400 os).forCall (fun _ _ => 0) ⟨#[], args, []⟩).memory :=
  laidMetH_of_parts3 (fuel := 8) (laidMet_of_run' 8 (by kernel_rfl) (by kernel_rfl)) (by kernel_rfl) (by kernel_rfl)

set_option maxRecDepth 100000 in
theorem xDegreeOfChord_lifted (os : Os) (started : os.Started) (H : Type) (enc : TypeId × Value → H) :
    ReturnsInHanded {} Tryd.checked os 12 .any (fun w args => (Rows.fnExactDegreeOfChordSpec.pre enc Tryd.prog Tryd.f12 [] false w args ∧ laidMetH Tryd.prog Rows.fnExactDegreeOfChordRow.laid w) ∧ sizedMet enc Tryd.prog Tryd.f12 (OpenSpec.ofChange Rows.fnExactDegreeOfChordSpec) false w args)
      (Rows.fnExactDegreeOfChordSpec.post enc Tryd.prog Tryd.f12 false true false false) := by
  refine returnsInHanded_of_change_and (C := Tryd.checked) (X := fun w _ => laidMetH Tryd.prog Rows.fnExactDegreeOfChordRow.laid w) (fun _ _ _ hh h => h.of_heap hh) own started (by kernel_rfl) Tryd.func12
    (ChangeSpec.witness_shaped (enc := enc) (C := Tryd.checked) (os := os) (X := fun w _ => laidMetH Tryd.prog Rows.fnExactDegreeOfChordRow.laid w) false (World.doorLaid Tryd.prog 400 os) #[.int .i64 0, .bool false, .slice none 0 0] 8 rfl (World.shaped_of_RefB (by kernel_rfl) (by kernel_rfl)) (by kernel_rfl) (by kernel_rfl) (by kernel_rfl) (xDegreeOfChord_met os _)) ?_
  intro W base args ds gs before hval0 hW _ _ hL _
  have hval : ∀ (j : Nat) t v, Tryd.f12.params[j]? = some t → args[j]? = some v → Value.okWide Tryd.prog W .any base t v := hval0
  have hW' := hW
  obtain ⟨p, q, hA0, hV0, rfl, hfz, hnd⟩ := hW
  have hA : DataW.TrodAll enc Tryd.prog W 0 (fun _ => true) true Tryd.f12.params.toList args.toList ds p := hA0
  have hV : DataW.TrodVars enc Tryd.prog W (fun _ => true) Rows.fnExactDegreeOfChordSpec.vars gs q := hV0
  rw [Tryd.params12] at hA hval
  obtain ⟨v0, v1, v2, d0, d1, d2, p0, p1, p2, rfl, rfl, rfl, h0, h1, h2⟩ := trodAll_three hA
  obtain ⟨g, tg, csg, fuelg, dg, pg, rfl, hgg, htg, hvg, hdg, rfl⟩ := trodVars_one hV
  obtain ⟨n0, rfl, rfl, rfl, wn0⟩ := open_int Tryd.underlying3 (hval 0 3 v0 rfl rfl) h0
  obtain ⟨b1, rfl, rfl, rfl⟩ := open_bool Tryd.underlying4 (hval 1 4 v1 rfl rfl) h1
  obtain ⟨l2, hm2, h642, hY2⟩ := pts_in (hval 2 62 v2 rfl rfl) h2
  clear hA0 hval0 hV0
  refine (xDegreeOfChord_any n0 b1 v2 l2 W hm2 h642 hY2 (wf64 wn0) (tabA_of_laid rfl hL)).mono fun e W' ⟨he, hB⟩ => ?_
  subst he
  exact ⟨_, rfl, law_post laidOut (by rfl) Tryd.underlying4 (by kernel_rfl) (by kernel_rfl) hW' rfl rfl rfl hB⟩

theorem xDegreeOfChord_row : Rows.FnExactDegreeOfChordSaid :=
  OpenClaim.holds_of_wide 12 Tryd.f12 rfl rfl rfl rfl rfl rfl rfl ⟨rfl, rfl, rfl, rfl, rfl⟩ rfl rfl rfl rfl rfl (by kernel_rfl) Tryd.func12 (by kernel_rfl)
    (of_decide_eq_true (by kernel_rfl)) (by unfold Func.isWrapper; first | (rw [if_pos (by decide +kernel)]; kernel_rfl) | (rw [if_neg (by decide +kernel)]; exact ⟨rfl, rfl⟩))
    (fun os started H enc _ => xDegreeOfChord_lifted os started H enc)

theorem xDegreeOfChord_holds : Rows.FnExactDegreeOfChordCardSaid :=
  Claim7.holds_tied_plain_at .later [] Rows.fnExactDegreeOfChordCard.laidKinds true Rows.fnExactDegreeOfChordCard.stood.harness false
    xDegreeOfChord_row (fun _ h => by cases h) (by kernel_rfl) (fun _ h => by cases h) fnExactDegreeOfChord_row_tie rfl ⟨rfl, rfl⟩ main_is (by kernel_rfl)
    (fun f fn hf hfn => by
      obtain rfl : f = 12 := Option.some.inj ((show Tryd.prog.funcNamed "loop.example/musicengine/laws.FnExactDegreeOfChord" = some 12 by kernel_rfl).symm.trans hf) |>.symm
      obtain rfl : fn = Tryd.f12 := (Option.some.inj (Tryd.func12.symm.trans hfn)).symm
      exact ⟨by kernel_rfl, fun j t ht => by
        rw [Tryd.params12] at ht
        have hm : t ∈ [3, 4, 62] := by simpa using Array.mem_of_getElem? ht
        have hall : ([3, 4, 62].all fun u => !Tryd.prog.wantsStandIn u) = true := by kernel_rfl
        exact (show Tryd.prog.wantsStandIn t = false by simpa using List.all_eq_true.1 hall t hm)⟩)
    (by kernel_rfl)

end Go.Proofs.YtjfmbklgkmkgjaaDoor
