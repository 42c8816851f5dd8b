/- FnChordMoved. Moved chords are chords: for every two codes drawn from, a chord moved by an interval is the chord of the same kind on the moved root, if it is possible. Conditions: the tables of half tones, of kinds and of the library's places of bits read as the program's and the library's texts lay them (tied by the card). -/
import Derived.Test.YtjfmbklgkmkgjaaDoorWalks10I
import Derived.Test.YtjfmbklgkmkgjaaDoorLaws10B
import Derived.Test.YtjfmbklgkmkgjaaDoorLawBytes
import Derived.Test.YtjfmbklgkmkgjaaDoorLawDoorK
import Derived.Test.YtjfmbklgkmkgjaaDoorLawDoor
namespace Go.Proofs.YtjfmbklgkmkgjaaDoor
set_option linter.unusedSimpArgs false
set_option linter.unusedVariables false
set_option maxRecDepth 8000
open Go.ChangeShapes Go.WideShapes Go.ChangeAt Go.RowKit Go.Joins

theorem fnChordMoved_any (v : Value) (n : Nat) (v2 : Value) (n2 : Nat) (w : World) (hn : n ≤ maxLen) (h : BytesB w w.heap.size v n) (hn2 : n2 ≤ maxLen) (h2 : BytesB w w.heap.size v2 n2) (ht : TabH w) (hK : TabK w) (hU : TabU w) :
    Calls Tryd.prog 9 #[v, v2] w fun e w' => e = .returned (.bool true) ∧ Below w.heap.size w w' :=
  fnChordMoved_of v v2 n n2 w hn h hn2 h2 ht (chI_C w ht hK hU)

theorem fnChordMoved_met (os : Os) (args : Array Value) : laidMetH Tryd.prog Rows.fnChordMovedRow.laid ((World.doorLaid Tryd.prog 400 os).forCall (fun _ _ => 0) ⟨#[], args, []⟩).memory :=
  laidMetH_of_parts3 (fuel := 8) (laidMet_of_run' 8 (by kernel_rfl) (by kernel_rfl)) (by kernel_rfl) (by kernel_rfl)

set_option maxRecDepth 100000 in
theorem fnChordMoved_lifted (os : Os) (started : os.Started) (H : Type) (enc : TypeId × Value → H) :
    ReturnsInHanded {} Tryd.checked os 9 .any (fun w args => (Rows.fnChordMovedSpec.pre enc Tryd.prog Tryd.f9 [] false w args ∧ laidMetH Tryd.prog Rows.fnChordMovedRow.laid w) ∧ sizedMet enc Tryd.prog Tryd.f9 (OpenSpec.ofChange Rows.fnChordMovedSpec) false w args)
      (Rows.fnChordMovedSpec.post enc Tryd.prog Tryd.f9 false true false false) := by
  refine returnsInHanded_of_change_and (C := Tryd.checked) (X := fun w _ => laidMetH Tryd.prog Rows.fnChordMovedRow.laid w) (fun _ _ _ hh h => h.of_heap hh) own started (by kernel_rfl) Tryd.func9
    (ChangeSpec.witness_shaped (enc := enc) (C := Tryd.checked) (os := os) (X := fun w _ => laidMetH Tryd.prog Rows.fnChordMovedRow.laid w) false (World.doorLaid Tryd.prog 400 os) #[.slice none 0 0, .slice none 0 0] 8 rfl (World.shaped_of_RefB (by kernel_rfl) (by kernel_rfl)) (by kernel_rfl) (by kernel_rfl) (by kernel_rfl) (fnChordMoved_met os _)) ?_
  intro W base args ds gs before hval0 hW _ _ hL _
  have hval : ∀ (j : Nat) t v, Tryd.f9.params[j]? = some t → args[j]? = some v → Value.okWide Tryd.prog W .any base t v := hval0
  have hW' := hW
  obtain ⟨p, q, hA0, hV0, rfl, hfz, hnd⟩ := hW
  have hA : DataW.TrodAll enc Tryd.prog W 0 (fun _ => true) true Tryd.f9.params.toList args.toList ds p := hA0
  have hV : DataW.TrodVars enc Tryd.prog W (fun _ => true) Rows.fnChordMovedSpec.vars gs q := hV0
  rw [Tryd.params9] at hA hval
  obtain ⟨v0, v1, d0, d1, p0, p1, rfl, rfl, rfl, h0, h1⟩ := trodAll_two hA
  obtain ⟨dg, dg2, rfl⟩ := vars_two hV
  obtain ⟨m0, hm0, hY0⟩ := bytes_in Tryd.underlying22 Tryd.underlying5 (show Tryd.prog.cellsOf 5 = 1 by kernel_rfl) (hval 0 22 v0 rfl rfl) h0
  obtain ⟨m1, hm1, hY1⟩ := bytes_in Tryd.underlying22 Tryd.underlying5 (show Tryd.prog.cellsOf 5 = 1 by kernel_rfl) (hval 1 22 v1 rfl rfl) h1
  clear hA0 hval0 hV0
  refine (fnChordMoved_any v0 m0 v1 m1 W hm0 hY0 hm1 hY1 (tabH_of_laid rfl hL) (tabK_of_laid rfl hL) (tabU_of_laid rfl hL)).mono fun e W' ⟨he, hB⟩ => ?_
  subst he
  exact ⟨_, rfl, law_post laidOut (by rfl) Tryd.underlying4 (by kernel_rfl) (by kernel_rfl) hW' rfl rfl rfl hB⟩

theorem fnChordMoved_row : Rows.FnChordMovedSaid :=
  OpenClaim.holds_of_wide 9 Tryd.f9 rfl rfl rfl rfl rfl rfl rfl ⟨rfl, rfl, rfl, rfl, rfl⟩ rfl rfl rfl rfl rfl (by kernel_rfl) Tryd.func9 (by kernel_rfl)
    (of_decide_eq_true (by kernel_rfl)) (by unfold Func.isWrapper; first | (rw [if_pos (by decide +kernel)]; kernel_rfl) | (rw [if_neg (by decide +kernel)]; exact ⟨rfl, rfl⟩))
    (fun os started H enc _ => fnChordMoved_lifted os started H enc)

theorem fnChordMoved_holds : Rows.FnChordMovedCardSaid :=
  Claim7.holds_tied_plain_at .later [] Rows.fnChordMovedCard.laidKinds true Rows.fnChordMovedCard.stood.harness false
    fnChordMoved_row (fun _ h => by cases h) (by kernel_rfl) (fun _ h => by cases h) fnChordMoved_row_tie rfl ⟨rfl, rfl⟩ main_is (by kernel_rfl)
    (fun f fn hf hfn => by
      obtain rfl : f = 9 := Option.some.inj ((show Tryd.prog.funcNamed "loop.example/musicengine/laws.FnChordMoved" = some 9 by kernel_rfl).symm.trans hf) |>.symm
      obtain rfl : fn = Tryd.f9 := (Option.some.inj (Tryd.func9.symm.trans hfn)).symm
      exact ⟨by kernel_rfl, fun j t ht => by
        rw [Tryd.params9] at ht
        have hm : t ∈ [22, 22] := by simpa using Array.mem_of_getElem? ht
        have hall : ([22, 22].all fun u => !Tryd.prog.wantsStandIn u) = true := by kernel_rfl
        exact (show Tryd.prog.wantsStandIn t = false by simpa using List.all_eq_true.1 hall t hm)⟩)
    (by kernel_rfl)

end Go.Proofs.YtjfmbklgkmkgjaaDoor
