/- FnExactFigureTones: at every key, pitch and figure the program's FigureTones answers as its model, every field; its answer owns its memory. Condition, beyond the arguments being data of their types: the table of the keys' alterations reads as the program's text lays it (tied by the card). -/
import Derived.Test.YtfiodejbeeblgaaDoorWalks13G
import Derived.Test.YtfiodejbeeblgaaDoorLawsX13
import Derived.Test.YtfiodejbeeblgaaDoorLawDoorA
import Derived.Test.YtfiodejbeeblgaaDoorLawDoor
namespace Go.Proofs.YtfiodejbeeblgaaDoor
set_option linter.unusedSimpArgs false
set_option linter.unusedVariables false
set_option maxRecDepth 8000
open Go.ChangeShapes Go.WideShapes Go.ChangeAt Go.RowKit Go.Joins

theorem xFigureTones_any (f s a o g : Int) (w : World) (r1 : r64 f) (r2 : r64 s) (r3 : r64 a) (r4 : r64 o) (r5 : r64 g) (hA : TabA w) :
    Calls Tryd.prog 7 #[.int .i64 f, .agg #[.int .i64 s, .int .i64 a, .int .i64 o], .int .i64 g] w fun e w' => e = .returned (.bool true) ∧ Below w.heap.size w w' :=
  xFigureTones_of f ⟨s, a, o⟩ g w r1 ⟨r2, r3, r4⟩ r5 (ftI_C w hA)

theorem xFigureTones_met (os : Os) (args : Array Value) : laidMetH Tryd.prog Rows.fnExactFigureTonesRow.laid ((World.doorLaid Tryd.prog 400 os).forCall (fun _ _ => 0) ⟨#[], args, []⟩).memory :=
  laidMetH_of_parts3 (fuel := 8) (laidMet_of_run' 8 (by kernel_rfl) (by kernel_rfl)) (by kernel_rfl) (by kernel_rfl)

set_option maxRecDepth 100000 in
theorem xFigureTones_lifted (os : Os) (started : os.Started) (H : Type) (enc : TypeId × Value → H) :
    ReturnsInHanded {} Tryd.checked os 7 .any (fun w args => (Rows.fnExactFigureTonesSpec.pre enc Tryd.prog Tryd.f7 [] false w args ∧ laidMetH Tryd.prog Rows.fnExactFigureTonesRow.laid w) ∧ sizedMet enc Tryd.prog Tryd.f7 (OpenSpec.ofChange Rows.fnExactFigureTonesSpec) false w args)
      (Rows.fnExactFigureTonesSpec.post enc Tryd.prog Tryd.f7 false true false false) := by
  refine returnsInHanded_of_change_and (C := Tryd.checked) (X := fun w _ => laidMetH Tryd.prog Rows.fnExactFigureTonesRow.laid w) (fun _ _ _ hh h => h.of_heap hh) own started (by kernel_rfl) Tryd.func7
    (ChangeSpec.witness_shaped (enc := enc) (C := Tryd.checked) (os := os) (X := fun w _ => laidMetH Tryd.prog Rows.fnExactFigureTonesRow.laid w) false (World.doorLaid Tryd.prog 400 os) #[.int .i64 0, .agg #[.int .i64 0, .int .i64 0, .int .i64 0], .int .i64 0] 8 rfl (World.shaped_of_RefB (by kernel_rfl) (by kernel_rfl)) (by kernel_rfl) (by kernel_rfl) (by kernel_rfl) (xFigureTones_met os _)) ?_
  intro W base args ds gs before hval0 hW _ _ hL _
  have hval : ∀ (j : Nat) t v, Tryd.f7.params[j]? = some t → args[j]? = some v → Value.okWide Tryd.prog W .any base t v := hval0
  have hW' := hW
  obtain ⟨p, q, hA0, hV0, rfl, hfz, hnd⟩ := hW
  have hA : DataW.TrodAll enc Tryd.prog W 0 (fun _ => true) true Tryd.f7.params.toList args.toList ds p := hA0
  have hV : DataW.TrodVars enc Tryd.prog W (fun _ => true) Rows.fnExactFigureTonesSpec.vars gs q := hV0
  rw [Tryd.params7] at hA hval
  obtain ⟨v0, v1, v2, d0, d1, d2, p0, p1, p2, rfl, rfl, rfl, h0, h1, h2⟩ := trodAll_three hA
  obtain ⟨g, tg, csg, fuelg, dg, pg, rfl, hgg, htg, hvg, hdg, rfl⟩ := trodVars_one hV
  obtain ⟨n0, rfl, rfl, rfl, wn0⟩ := open_int Tryd.underlying3 (hval 0 3 v0 rfl rfl) h0
  obtain ⟨c10, c11, c12, y10, y11, y12, m1, rfl, rfl, rfl, hy10, hy11, hy12⟩ := open_agg3 Tryd.underlying45 (by kernel_rfl) (show Tryd.prog.cellsOf 45 = 3 by kernel_rfl) (hval 1 45 v1 rfl rfl) h1
  obtain ⟨s1, e10, rfl, ws1⟩ := DataW.trod_int Tryd.underlying3 hy10
  obtain ⟨a1, e11, rfl, wa1⟩ := DataW.trod_int Tryd.underlying3 hy11
  obtain ⟨o1, e12, rfl, wo1⟩ := DataW.trod_int Tryd.underlying3 hy12
  simp at e10 e11 e12
  subst e10 e11 e12
  obtain ⟨n2, rfl, rfl, rfl, wn2⟩ := open_int Tryd.underlying3 (hval 2 3 v2 rfl rfl) h2
  clear hA0 hval0 hV0
  refine (xFigureTones_any n0 s1 a1 o1 n2 W  (wf64 wn0) (wf64 ws1) (wf64 wa1) (wf64 wo1) (wf64 wn2) (tabA_of_laid rfl hL)).mono fun e W' ⟨he, hB⟩ => ?_
  subst he
  exact ⟨_, rfl, law_post laidOut (by rfl) Tryd.underlying4 (by kernel_rfl) (by kernel_rfl) hW' rfl rfl rfl hB⟩

theorem xFigureTones_row : Rows.FnExactFigureTonesSaid :=
  OpenClaim.holds_of_wide 7 Tryd.f7 rfl rfl rfl rfl rfl rfl rfl ⟨rfl, rfl, rfl, rfl, rfl⟩ rfl rfl rfl rfl rfl (by kernel_rfl) Tryd.func7 (by kernel_rfl)
    (of_decide_eq_true (by kernel_rfl)) (by unfold Func.isWrapper; first | (rw [if_pos (by decide +kernel)]; kernel_rfl) | (rw [if_neg (by decide +kernel)]; exact ⟨rfl, rfl⟩))
    (fun os started H enc _ => xFigureTones_lifted os started H enc)

theorem xFigureTones_holds : Rows.FnExactFigureTonesCardSaid :=
  Claim7.holds_tied_plain_at .later [] Rows.fnExactFigureTonesCard.laidKinds true Rows.fnExactFigureTonesCard.stood.harness false
    xFigureTones_row (fun _ h => by cases h) (by kernel_rfl) (fun _ h => by cases h) fnExactFigureTones_row_tie rfl ⟨rfl, rfl⟩ main_is (by kernel_rfl)
    (fun f fn hf hfn => by
      obtain rfl : f = 7 := Option.some.inj ((show Tryd.prog.funcNamed "loop.example/musicengine/laws.FnExactFigureTones" = some 7 by kernel_rfl).symm.trans hf) |>.symm
      obtain rfl : fn = Tryd.f7 := (Option.some.inj (Tryd.func7.symm.trans hfn)).symm
      exact ⟨by kernel_rfl, fun j t ht => by
        rw [Tryd.params7] at ht
        have hm : t ∈ [3, 45, 3] := by simpa using Array.mem_of_getElem? ht
        have hall : ([3, 45, 3].all fun u => !Tryd.prog.wantsStandIn u) = true := by kernel_rfl
        exact (show Tryd.prog.wantsStandIn t = false by simpa using List.all_eq_true.1 hall t hm)⟩)
    (by kernel_rfl)

end Go.Proofs.YtfiodejbeeblgaaDoor
