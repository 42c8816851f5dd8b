/- FnExactSoundOf: at every instrument and every slice of notes the program's SoundOf answers as its model, every field; it writes into no argument; its answer owns its memory. Condition: the table of half tones reads as the program's text lays it (tied by the card). -/
import Derived.Test.YtmkhpafcgobfhaaDoorWalks9I
import Derived.Test.YtmkhpafcgobfhaaDoorLawsX9
import Derived.Test.YtmkhpafcgobfhaaDoorLawIns
import Derived.Test.YtmkhpafcgobfhaaDoorLawDoor
namespace Go.Proofs.YtmkhpafcgobfhaaDoor
set_option linter.unusedSimpArgs false
set_option linter.unusedVariables false
set_option maxRecDepth 8000
open Go.ChangeShapes Go.WideShapes Go.ChangeAt Go.RowKit Go.Joins

theorem xSoundOf_any (st ha lo hi : Int) (va : Value) (l : List Nt) (w : World) (r : i64s st ha lo hi) (hm : l.length ≤ maxLen) (_h64 : ∀ x ∈ l, nt64 x) (hY : NotesAt w va l) (ht : TabH w) :
    Calls Tryd.prog 4 #[.agg #[.int .i64 st, .int .i64 ha, .int .i64 lo, .int .i64 hi], va] w fun e w' => e = .returned (.bool true) ∧ Below w.heap.size w w' :=
  xSoundOf_of st ha lo hi va l w hm hY r (sfI_C w ht)

theorem xSoundOf_met (os : Os) (args : Array Value) : laidMetH Tryd.prog Rows.fnExactSoundOfRow.laid ((World.doorLaid Tryd.prog 400 os).forCall (fun _ _ => 0) ⟨#[], args, []⟩).memory :=
  laidMetH_of_parts3 (fuel := 8) (laidMet_of_run' 8 (by kernel_rfl) (by kernel_rfl)) (by kernel_rfl) (by kernel_rfl)

set_option maxRecDepth 100000 in
theorem xSoundOf_lifted (os : Os) (started : os.Started) (H : Type) (enc : TypeId × Value → H) :
    ReturnsInHanded {} Tryd.checked os 4 .any (fun w args => (Rows.fnExactSoundOfSpec.pre enc Tryd.prog Tryd.f4 [] false w args ∧ laidMetH Tryd.prog Rows.fnExactSoundOfRow.laid w) ∧ sizedMet enc Tryd.prog Tryd.f4 (OpenSpec.ofChange Rows.fnExactSoundOfSpec) false w args)
      (Rows.fnExactSoundOfSpec.post enc Tryd.prog Tryd.f4 false true false false) := by
  refine returnsInHanded_of_change_and (C := Tryd.checked) (X := fun w _ => laidMetH Tryd.prog Rows.fnExactSoundOfRow.laid w) (fun _ _ _ hh h => h.of_heap hh) own started (by kernel_rfl) Tryd.func4
    (ChangeSpec.witness_shaped (enc := enc) (C := Tryd.checked) (os := os) (X := fun w _ => laidMetH Tryd.prog Rows.fnExactSoundOfRow.laid w) false (World.doorLaid Tryd.prog 400 os) #[.agg #[.int .i64 0, .int .i64 0, .int .i64 0, .int .i64 0], .slice none 0 0] 8 rfl (World.shaped_of_RefB (by kernel_rfl) (by kernel_rfl)) (by kernel_rfl) (by kernel_rfl) (by kernel_rfl) (xSoundOf_met os _)) ?_
  intro W base args ds gs before hval0 hW _ _ hL _
  have hval : ∀ (j : Nat) t v, Tryd.f4.params[j]? = some t → args[j]? = some v → Value.okWide Tryd.prog W .any base t v := hval0
  have hW' := hW
  obtain ⟨p, q, hA0, hV0, rfl, hfz, hnd⟩ := hW
  have hA : DataW.TrodAll enc Tryd.prog W 0 (fun _ => true) true Tryd.f4.params.toList args.toList ds p := hA0
  have hV : DataW.TrodVars enc Tryd.prog W (fun _ => true) Rows.fnExactSoundOfSpec.vars gs q := hV0
  rw [Tryd.params4] at hA hval
  obtain ⟨v0, v1, d0, d1, p0, p1, rfl, rfl, rfl, h0, h1⟩ := trodAll_two hA
  obtain ⟨g, tg, csg, fuelg, dg, pg, rfl, hgg, htg, hvg, hdg, rfl⟩ := trodVars_one hV
  obtain ⟨st0, ha0, lo0, hi0, rfl, h640⟩ := ins_in (hval 0 25 v0 rfl rfl) h0
  obtain ⟨l1, hm1, h641, hY1⟩ := notes_in (hval 1 26 v1 rfl rfl) h1
  clear hA0 hval0 hV0
  refine (xSoundOf_any st0 ha0 lo0 hi0 v1 l1 W h640 hm1 h641 hY1 (tabH_of_laid rfl hL)).mono fun e W' ⟨he, hB⟩ => ?_
  subst he
  exact ⟨_, rfl, law_post laidOut (by rfl) Tryd.underlying4 (by kernel_rfl) (by kernel_rfl) hW' rfl rfl rfl hB⟩

theorem xSoundOf_row : Rows.FnExactSoundOfSaid :=
  OpenClaim.holds_of_wide 4 Tryd.f4 rfl rfl rfl rfl rfl rfl rfl ⟨rfl, rfl, rfl, rfl, rfl⟩ rfl rfl rfl rfl rfl (by kernel_rfl) Tryd.func4 (by kernel_rfl)
    (of_decide_eq_true (by kernel_rfl)) (by unfold Func.isWrapper; first | (rw [if_pos (by decide +kernel)]; kernel_rfl) | (rw [if_neg (by decide +kernel)]; exact ⟨rfl, rfl⟩))
    (fun os started H enc _ => xSoundOf_lifted os started H enc)

theorem xSoundOf_holds : Rows.FnExactSoundOfCardSaid :=
  Claim7.holds_tied_plain_at .later [] Rows.fnExactSoundOfCard.laidKinds true Rows.fnExactSoundOfCard.stood.harness false
    xSoundOf_row (fun _ h => by cases h) (by kernel_rfl) (fun _ h => by cases h) fnExactSoundOf_row_tie rfl ⟨rfl, rfl⟩ main_is (by kernel_rfl)
    (fun f fn hf hfn => by
      obtain rfl : f = 4 := Option.some.inj ((show Tryd.prog.funcNamed "loop.example/musicengine/laws.FnExactSoundOf" = some 4 by kernel_rfl).symm.trans hf) |>.symm
      obtain rfl : fn = Tryd.f4 := (Option.some.inj (Tryd.func4.symm.trans hfn)).symm
      exact ⟨by kernel_rfl, fun j t ht => by
        rw [Tryd.params4] at ht
        have hm : t ∈ [25, 26] := by simpa using Array.mem_of_getElem? ht
        have hall : ([25, 26].all fun u => !Tryd.prog.wantsStandIn u) = true := by kernel_rfl
        exact (show Tryd.prog.wantsStandIn t = false by simpa using List.all_eq_true.1 hall t hm)⟩)
    (by kernel_rfl)

end Go.Proofs.YtmkhpafcgobfhaaDoor
