/- FnExactKeyClasses: at every slice of pitches the program's KeyClasses answers as its model; it writes into no argument; its answer owns its memory. Conditions: the tables of half tones and of the library's places of bits read as the program's and the library's texts lay them (tied by the card). -/
import Derived.Test.YtomdjmlfnjikfaaDoorWalks10I
import Derived.Test.YtomdjmlfnjikfaaDoorLawsX10
import Derived.Test.YtomdjmlfnjikfaaDoorLawDoorK
import Derived.Test.YtomdjmlfnjikfaaDoorLawPits
import Derived.Test.YtomdjmlfnjikfaaDoorLawDoor
namespace Go.Proofs.YtomdjmlfnjikfaaDoor
set_option linter.unusedSimpArgs false
set_option linter.unusedVariables false
open Go.ChangeShapes Go.WideShapes Go.ChangeAt Go.RowKit Go.Joins

theorem xKeyClasses_any (va : Value) (l : List Pt) (w : World) (hm : l.length ≤ maxLen) (h64 : ∀ x ∈ l, pt64 x) (hY : PtsAt w va l) (ht : TabH w) (hU : TabU w) :
    Calls Tryd.prog 11 #[va] w fun e w' => e = .returned (.bool true) ∧ Below w.heap.size w w' :=
  xKeyClasses_of va l w hm (fun x hx => h64 x hx) hY (kcI_C w ht hU)

theorem xKeyClasses_met (os : Os) (args : Array Value) : laidMetH Tryd.prog Rows.fnExactKeyClassesRow.laid ((World.doorLaid Tryd.prog 400 os).forCall (fun _ _ => 0) ⟨#[], args, []⟩).memory :=
  laidMetH_of_parts3 (fuel := 8) (laidMet_of_run' 8 (by kernel_rfl) (by kernel_rfl)) (by kernel_rfl) (by kernel_rfl)

set_option maxRecDepth 100000 in
theorem xKeyClasses_lifted (os : Os) (started : os.Started) (H : Type) (enc : TypeId × Value → H) :
    ReturnsInHanded {} Tryd.checked os 11 .any (fun w args => (Rows.fnExactKeyClassesSpec.pre enc Tryd.prog Tryd.f11 [] false w args ∧ laidMetH Tryd.prog Rows.fnExactKeyClassesRow.laid w) ∧ sizedMet enc Tryd.prog Tryd.f11 (OpenSpec.ofChange Rows.fnExactKeyClassesSpec) false w args)
      (Rows.fnExactKeyClassesSpec.post enc Tryd.prog Tryd.f11 false true false false) := by
  refine returnsInHanded_of_change_and (C := Tryd.checked) (X := fun w _ => laidMetH Tryd.prog Rows.fnExactKeyClassesRow.laid w) (fun _ _ _ hh h => h.of_heap hh) own started (by kernel_rfl) Tryd.func11
    (ChangeSpec.witness_shaped (enc := enc) (C := Tryd.checked) (os := os) (X := fun w _ => laidMetH Tryd.prog Rows.fnExactKeyClassesRow.laid w) false (World.doorLaid Tryd.prog 400 os) #[.slice none 0 0] 8 rfl (World.shaped_of_RefB (by kernel_rfl) (by kernel_rfl)) (by kernel_rfl) (by kernel_rfl) (by kernel_rfl) (xKeyClasses_met os _)) ?_
  intro W base args ds gs before hval0 hW _ _ hL _
  have hval : ∀ (j : Nat) t v, Tryd.f11.params[j]? = some t → args[j]? = some v → Value.okWide Tryd.prog W .any base t v := hval0
  have hW' := hW
  obtain ⟨p, q, hA0, hV0, rfl, hfz, hnd⟩ := hW
  have hA : DataW.TrodAll enc Tryd.prog W 0 (fun _ => true) true Tryd.f11.params.toList args.toList ds p := hA0
  have hV : DataW.TrodVars enc Tryd.prog W (fun _ => true) Rows.fnExactKeyClassesSpec.vars gs q := hV0
  rw [Tryd.params11] at hA hval
  obtain ⟨v0, d0, rfl, rfl, h0⟩ := trodAll_one hA
  obtain ⟨g, tg, csg, fuelg, dg, pg, rfl, hgg, htg, hvg, hdg, rfl⟩ := trodVars_one hV
  obtain ⟨l0, hm0, h640, hY0⟩ := pts_in (hval 0 55 v0 rfl rfl) h0
  clear hA0 hval0 hV0
  refine (xKeyClasses_any v0 l0 W hm0 h640 hY0 (tabH_of_laid rfl hL) (tabU_of_laid rfl hL)).mono fun e W' ⟨he, hB⟩ => ?_
  subst he
  exact ⟨_, rfl, law_post laidOut (by rfl) Tryd.underlying4 (by kernel_rfl) (by kernel_rfl) hW' rfl rfl rfl hB⟩

theorem xKeyClasses_row : Rows.FnExactKeyClassesSaid :=
  OpenClaim.holds_of_wide 11 Tryd.f11 rfl rfl rfl rfl rfl rfl rfl ⟨rfl, rfl, rfl, rfl, rfl⟩ rfl rfl rfl rfl rfl (by kernel_rfl) Tryd.func11 (by kernel_rfl)
    (of_decide_eq_true (by kernel_rfl)) (by unfold Func.isWrapper; first | (rw [if_pos (by decide +kernel)]; kernel_rfl) | (rw [if_neg (by decide +kernel)]; exact ⟨rfl, rfl⟩))
    (fun os started H enc _ => xKeyClasses_lifted os started H enc)

theorem xKeyClasses_holds : Rows.FnExactKeyClassesCardSaid :=
  Claim7.holds_tied_plain_at .later [] Rows.fnExactKeyClassesCard.laidKinds true Rows.fnExactKeyClassesCard.stood.harness false
    xKeyClasses_row (fun _ h => by cases h) (by kernel_rfl) (fun _ h => by cases h) fnExactKeyClasses_row_tie rfl ⟨rfl, rfl⟩ main_is (by kernel_rfl)
    (fun f fn hf hfn => by
      obtain rfl : f = 11 := Option.some.inj ((show Tryd.prog.funcNamed "loop.example/musicengine/laws.FnExactKeyClasses" = some 11 by kernel_rfl).symm.trans hf) |>.symm
      obtain rfl : fn = Tryd.f11 := (Option.some.inj (Tryd.func11.symm.trans hfn)).symm
      exact ⟨by kernel_rfl, fun j t ht => by
        rw [Tryd.params11] at ht
        have hm : t ∈ [55] := by simpa using Array.mem_of_getElem? ht
        have hall : ([55].all fun u => !Tryd.prog.wantsStandIn u) = true := by kernel_rfl
        exact (show Tryd.prog.wantsStandIn t = false by simpa using List.all_eq_true.1 hall t hm)⟩)
    (by kernel_rfl)

end Go.Proofs.YtomdjmlfnjikfaaDoor
