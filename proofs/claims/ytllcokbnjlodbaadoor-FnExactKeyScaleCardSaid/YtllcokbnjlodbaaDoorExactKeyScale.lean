/- FnExactKeyScale: at every integer and each of minor and major the program's KeyScale answers as its model, every field; its answers own their memory: marks laid into one stay, whatever is called behind. Condition: the table of alterations reads as the program's text lays it (tied by the card). -/
import Derived.Test.YtllcokbnjlodbaaDoorLawDoorA
import Derived.Test.YtllcokbnjlodbaaDoorLawsKeyScale
import Derived.Test.YtllcokbnjlodbaaDoorWalks3N
import Derived.Test.YtllcokbnjlodbaaDoorLawDoor
namespace Go.Proofs.YtllcokbnjlodbaaDoor
set_option linter.unusedSimpArgs false
set_option linter.unusedVariables false
open Go.ChangeShapes Go.WideShapes Go.ChangeAt Go.RowKit Go.Joins

theorem allInt_of {xs : List Value} (h : ∀ u ∈ xs, ∃ z : Int, u = Value.int .i64 z) : AllInt xs := fun j u hj => h u (List.mem_of_getElem? hj)

theorem xKeyScale_any (f : Int) (m : Bool) (w : World) (hA : TabA w) :
    Calls Tryd.prog 5 #[.int .i64 f, .bool m] w fun e w' => e = .returned (.bool true) ∧ Below w.heap.size w w' := by
  cases hv : keyB f
  · exact xKeyScale_of f m 0 [] w (fun W => ksS_no f m W hv) (fun W _ => ksI_no f m W hv) (fun j u hj => by simp at hj) (by omega)
  · obtain ⟨f0, f1⟩ := keyB_iff.1 hv
    exact xKeyScale_of f m 8 (scL f m 8) w (fun W => ksS_yes f m W f0 f1) (fun W hW => ksI_yes f m W (hA.below hW) f0 f1) (allInt_of (scL_int f m 8)) (by omega)

theorem xKeyScale_met (os : Os) (args : Array Value) : laidMetH Tryd.prog Rows.fnExactKeyScaleRow.laid ((World.doorLaid Tryd.prog 400 os).forCall (fun _ _ => 0) ⟨#[], args, []⟩).memory :=
  laidMetH_of_parts3 (fuel := 8) (laidMet_of_run' 8 (by kernel_rfl) (by kernel_rfl)) (by kernel_rfl) (by kernel_rfl)

set_option maxRecDepth 100000 in
theorem xKeyScale_lifted (os : Os) (started : os.Started) (H : Type) (enc : TypeId × Value → H) :
    ReturnsInHanded {} Tryd.checked os 5 .any (fun w args => (Rows.fnExactKeyScaleSpec.pre enc Tryd.prog Tryd.f5 [] false w args ∧ laidMetH Tryd.prog Rows.fnExactKeyScaleRow.laid w) ∧ sizedMet enc Tryd.prog Tryd.f5 (OpenSpec.ofChange Rows.fnExactKeyScaleSpec) false w args)
      (Rows.fnExactKeyScaleSpec.post enc Tryd.prog Tryd.f5 false true false false) := by
  refine returnsInHanded_of_change_and (C := Tryd.checked) (X := fun w _ => laidMetH Tryd.prog Rows.fnExactKeyScaleRow.laid w) (fun _ _ _ hh h => h.of_heap hh) own started (by kernel_rfl) Tryd.func5
    (ChangeSpec.witness_shaped (enc := enc) (C := Tryd.checked) (os := os) (X := fun w _ => laidMetH Tryd.prog Rows.fnExactKeyScaleRow.laid w) false (World.doorLaid Tryd.prog 400 os) #[.int .i64 0, .bool false] 8 rfl (World.shaped_of_RefB (by kernel_rfl) (by kernel_rfl)) (by kernel_rfl) (by kernel_rfl) (by kernel_rfl) (xKeyScale_met os _)) ?_
  intro W base args ds gs before hval0 hW _ _ hL _
  have hval : ∀ (j : Nat) t v, Tryd.f5.params[j]? = some t → args[j]? = some v → Value.okWide Tryd.prog W .any base t v := hval0
  have hW' := hW
  obtain ⟨p, q, hA0, hV0, rfl, hfz, hnd⟩ := hW
  have hA : DataW.TrodAll enc Tryd.prog W 0 (fun _ => true) true Tryd.f5.params.toList args.toList ds p := hA0
  have hV : DataW.TrodVars enc Tryd.prog W (fun _ => true) Rows.fnExactKeyScaleSpec.vars gs q := hV0
  rw [Tryd.params5] at hA hval
  obtain ⟨v0, v1, d0, d1, p0, p1, rfl, rfl, rfl, h0, h1⟩ := trodAll_two hA
  obtain ⟨g, tg, csg, fuelg, dg, pg, rfl, hgg, htg, hvg, hdg, rfl⟩ := trodVars_one hV
  obtain ⟨n0, rfl, rfl, rfl, wn0⟩ := open_int Tryd.underlying3 (hval 0 3 v0 rfl rfl) h0
  obtain ⟨b1, rfl, rfl, rfl⟩ := open_bool Tryd.underlying4 (hval 1 4 v1 rfl rfl) h1
  clear hA0 hval0 hV0
  refine (xKeyScale_any n0 b1 W  (tabA_of_laid rfl hL)).mono fun e W' ⟨he, hB⟩ => ?_
  subst he
  exact ⟨_, rfl, law_post laidOut (by rfl) Tryd.underlying4 (by kernel_rfl) (by kernel_rfl) hW' rfl rfl rfl hB⟩

theorem xKeyScale_row : Rows.FnExactKeyScaleSaid :=
  OpenClaim.holds_of_wide 5 Tryd.f5 rfl rfl rfl rfl rfl rfl rfl ⟨rfl, rfl, rfl, rfl, rfl⟩ rfl rfl rfl rfl rfl (by kernel_rfl) Tryd.func5 (by kernel_rfl)
    (of_decide_eq_true (by kernel_rfl)) (by unfold Func.isWrapper; first | (rw [if_pos (by decide +kernel)]; kernel_rfl) | (rw [if_neg (by decide +kernel)]; exact ⟨rfl, rfl⟩))
    (fun os started H enc _ => xKeyScale_lifted os started H enc)

theorem xKeyScale_holds : Rows.FnExactKeyScaleCardSaid :=
  Claim7.holds_tied_plain_at .later [] Rows.fnExactKeyScaleCard.laidKinds true Rows.fnExactKeyScaleCard.stood.harness false
    xKeyScale_row (fun _ h => by cases h) (by kernel_rfl) (fun _ h => by cases h) fnExactKeyScale_row_tie rfl ⟨rfl, rfl⟩ main_is (by kernel_rfl)
    (fun f fn hf hfn => by
      obtain rfl : f = 5 := Option.some.inj ((show Tryd.prog.funcNamed "loop.example/musicengine/laws.FnExactKeyScale" = some 5 by kernel_rfl).symm.trans hf) |>.symm
      obtain rfl : fn = Tryd.f5 := (Option.some.inj (Tryd.func5.symm.trans hfn)).symm
      exact ⟨by kernel_rfl, fun j t ht => by
        rw [Tryd.params5] at ht
        have hm : t ∈ [3, 4] := by simpa using Array.mem_of_getElem? ht
        have hall : ([3, 4].all fun u => !Tryd.prog.wantsStandIn u) = true := by kernel_rfl
        exact (show Tryd.prog.wantsStandIn t = false by simpa using List.all_eq_true.1 hall t hm)⟩)
    (by kernel_rfl)

end Go.Proofs.YtllcokbnjlodbaaDoor
