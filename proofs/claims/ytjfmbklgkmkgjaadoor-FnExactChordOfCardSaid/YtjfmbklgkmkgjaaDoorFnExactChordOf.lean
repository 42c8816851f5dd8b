/- FnExactChordOf: at every pitch and every kind the program's ChordOf answers as its model, every field; its answer owns its memory. Conditions: the tables of half tones, of kinds and of the library's places of bits read as the program's and the library's texts lay them (tied by the card). -/
import Derived.Test.YtjfmbklgkmkgjaaDoorWalks10I
import Derived.Test.YtjfmbklgkmkgjaaDoorLawsX10
import Derived.Test.YtjfmbklgkmkgjaaDoorLawDoorK
import Derived.Test.YtjfmbklgkmkgjaaDoorLawDoor
namespace Go.Proofs.YtjfmbklgkmkgjaaDoor
set_option linter.unusedSimpArgs false
set_option linter.unusedVariables false
set_option maxRecDepth 8000
open Go.ChangeShapes Go.WideShapes Go.ChangeAt Go.RowKit Go.Joins

theorem xChordOf_any (s a o k : Int) (w : World) (r1 : r64 s) (r2 : r64 a) (r3 : r64 o) (r4 : r64 k) (ht : TabH w) (hK : TabK w) (hU : TabU w) :
    Calls Tryd.prog 10 #[.agg #[.int .i64 s, .int .i64 a, .int .i64 o], .int .i64 k] w fun e w' => e = .returned (.bool true) ∧ Below w.heap.size w w' :=
  xChordOf_of ⟨s, a, o⟩ k w ⟨r1, r2, r3⟩ r4 (chI_C w ht hK hU)

theorem xChordOf_met (os : Os) (args : Array Value) : laidMetH Tryd.prog Rows.fnExactChordOfRow.laid ((World.doorLaid Tryd.prog 400 os).forCall (fun _ _ => 0) ⟨#[], args, []⟩).memory :=
  laidMetH_of_parts3 (fuel := 8) (laidMet_of_run' 8 (by kernel_rfl) (by kernel_rfl)) (by kernel_rfl) (by kernel_rfl)

set_option maxRecDepth 100000 in
theorem xChordOf_lifted (os : Os) (started : os.Started) (H : Type) (enc : TypeId × Value → H) :
    ReturnsInHanded {} Tryd.checked os 10 .any (fun w args => (Rows.fnExactChordOfSpec.pre enc Tryd.prog Tryd.f10 [] false w args ∧ laidMetH Tryd.prog Rows.fnExactChordOfRow.laid w) ∧ sizedMet enc Tryd.prog Tryd.f10 (OpenSpec.ofChange Rows.fnExactChordOfSpec) false w args)
      (Rows.fnExactChordOfSpec.post enc Tryd.prog Tryd.f10 false true false false) := by
  refine returnsInHanded_of_change_and (C := Tryd.checked) (X := fun w _ => laidMetH Tryd.prog Rows.fnExactChordOfRow.laid w) (fun _ _ _ hh h => h.of_heap hh) own started (by kernel_rfl) Tryd.func10
    (ChangeSpec.witness_shaped (enc := enc) (C := Tryd.checked) (os := os) (X := fun w _ => laidMetH Tryd.prog Rows.fnExactChordOfRow.laid w) false (World.doorLaid Tryd.prog 400 os) #[.agg #[.int .i64 0, .int .i64 0, .int .i64 0], .int .i64 0] 8 rfl (World.shaped_of_RefB (by kernel_rfl) (by kernel_rfl)) (by kernel_rfl) (by kernel_rfl) (by kernel_rfl) (xChordOf_met os _)) ?_
  intro W base args ds gs before hval0 hW _ _ hL _
  have hval : ∀ (j : Nat) t v, Tryd.f10.params[j]? = some t → args[j]? = some v → Value.okWide Tryd.prog W .any base t v := hval0
  have hW' := hW
  obtain ⟨p, q, hA0, hV0, rfl, hfz, hnd⟩ := hW
  have hA : DataW.TrodAll enc Tryd.prog W 0 (fun _ => true) true Tryd.f10.params.toList args.toList ds p := hA0
  have hV : DataW.TrodVars enc Tryd.prog W (fun _ => true) Rows.fnExactChordOfSpec.vars gs q := hV0
  rw [Tryd.params10] at hA hval
  obtain ⟨v0, v1, d0, d1, p0, p1, rfl, rfl, rfl, h0, h1⟩ := trodAll_two hA
  obtain ⟨dg, dg2, rfl⟩ := vars_two hV
  obtain ⟨c00, c01, c02, y00, y01, y02, m0, rfl, rfl, rfl, hy00, hy01, hy02⟩ := open_agg3 Tryd.underlying57 (by kernel_rfl) (show Tryd.prog.cellsOf 57 = 3 by kernel_rfl) (hval 0 57 v0 rfl rfl) h0
  obtain ⟨s0, e00, rfl, ws0⟩ := DataW.trod_int Tryd.underlying3 hy00
  obtain ⟨a0, e01, rfl, wa0⟩ := DataW.trod_int Tryd.underlying3 hy01
  obtain ⟨o0, e02, rfl, wo0⟩ := DataW.trod_int Tryd.underlying3 hy02
  simp at e00 e01 e02
  subst e00 e01 e02
  obtain ⟨n1, rfl, rfl, rfl, wn1⟩ := open_int Tryd.underlying3 (hval 1 3 v1 rfl rfl) h1
  clear hA0 hval0 hV0
  refine (xChordOf_any s0 a0 o0 n1 W  (wf64 ws0) (wf64 wa0) (wf64 wo0) (wf64 wn1) (tabH_of_laid rfl hL) (tabK_of_laid rfl hL) (tabU_of_laid rfl hL)).mono fun e W' ⟨he, hB⟩ => ?_
  subst he
  exact ⟨_, rfl, law_post laidOut (by rfl) Tryd.underlying4 (by kernel_rfl) (by kernel_rfl) hW' rfl rfl rfl hB⟩

theorem xChordOf_row : Rows.FnExactChordOfSaid :=
  OpenClaim.holds_of_wide 10 Tryd.f10 rfl rfl rfl rfl rfl rfl rfl ⟨rfl, rfl, rfl, rfl, rfl⟩ rfl rfl rfl rfl rfl (by kernel_rfl) Tryd.func10 (by kernel_rfl)
    (of_decide_eq_true (by kernel_rfl)) (by unfold Func.isWrapper; first | (rw [if_pos (by decide +kernel)]; kernel_rfl) | (rw [if_neg (by decide +kernel)]; exact ⟨rfl, rfl⟩))
    (fun os started H enc _ => xChordOf_lifted os started H enc)

theorem xChordOf_holds : Rows.FnExactChordOfCardSaid :=
  Claim7.holds_tied_plain_at .later [] Rows.fnExactChordOfCard.laidKinds true Rows.fnExactChordOfCard.stood.harness false
    xChordOf_row (fun _ h => by cases h) (by kernel_rfl) (fun _ h => by cases h) fnExactChordOf_row_tie rfl ⟨rfl, rfl⟩ main_is (by kernel_rfl)
    (fun f fn hf hfn => by
      obtain rfl : f = 10 := Option.some.inj ((show Tryd.prog.funcNamed "loop.example/musicengine/laws.FnExactChordOf" = some 10 by kernel_rfl).symm.trans hf) |>.symm
      obtain rfl : fn = Tryd.f10 := (Option.some.inj (Tryd.func10.symm.trans hfn)).symm
      exact ⟨by kernel_rfl, fun j t ht => by
        rw [Tryd.params10] at ht
        have hm : t ∈ [57, 3] := by simpa using Array.mem_of_getElem? ht
        have hall : ([57, 3].all fun u => !Tryd.prog.wantsStandIn u) = true := by kernel_rfl
        exact (show Tryd.prog.wantsStandIn t = false by simpa using List.all_eq_true.1 hall t hm)⟩)
    (by kernel_rfl)

end Go.Proofs.YtjfmbklgkmkgjaaDoor
