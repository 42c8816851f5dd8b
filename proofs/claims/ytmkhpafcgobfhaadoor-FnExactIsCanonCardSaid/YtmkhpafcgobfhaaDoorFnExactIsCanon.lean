/- FnExactIsCanon: at every two slices of notes the program's IsCanon answers as its model; it writes into no argument. Condition: the table of half tones reads as the program's text lays it (tied by the card). -/
import Derived.Test.YtmkhpafcgobfhaaDoorLawsX16
import Derived.Test.YtmkhpafcgobfhaaDoorWalks16X
import Derived.Test.YtmkhpafcgobfhaaDoorWalks16J
import Derived.Test.YtmkhpafcgobfhaaDoorLawNotes
import Derived.Test.YtmkhpafcgobfhaaDoorLawDoor
namespace Go.Proofs.YtmkhpafcgobfhaaDoor
set_option linter.unusedSimpArgs false
set_option linter.unusedVariables false
set_option maxRecDepth 8000
open Go.ChangeShapes Go.WideShapes Go.ChangeAt Go.RowKit Go.Joins

theorem xIsCanon_any (va : Value) (a : List Nt) (vb : Value) (b : List Nt) (w : World) (hm : a.length ≤ maxLen) (_h64 : ∀ x ∈ a, nt64 x) (hY : NotesAt w va a) (hm' : b.length ≤ maxLen) (_h64' : ∀ x ∈ b, nt64 x) (hY' : NotesAt w vb b) (ht : TabH w) :
    Calls Tryd.prog 11 #[va, vb] w fun e w' => e = .returned (.bool true) ∧ Below w.heap.size w w' :=
  xIsCanon_of va a vb b w hm hY hm' hY' (icS_C w) (icI_C ht)

theorem xIsCanon_met (os : Os) (args : Array Value) : laidMetH Tryd.prog Rows.fnExactIsCanonRow.laid ((World.doorLaid Tryd.prog 400 os).forCall (fun _ _ => 0) ⟨#[], args, []⟩).memory :=
  laidMetH_of_parts3 (fuel := 8) (laidMet_of_run' 8 (by kernel_rfl) (by kernel_rfl)) (by kernel_rfl) (by kernel_rfl)

set_option maxRecDepth 100000 in
theorem xIsCanon_lifted (os : Os) (started : os.Started) (H : Type) (enc : TypeId × Value → H) :
    ReturnsInHanded {} Tryd.checked os 11 .any (fun w args => (Rows.fnExactIsCanonSpec.pre enc Tryd.prog Tryd.f11 [] false w args ∧ laidMetH Tryd.prog Rows.fnExactIsCanonRow.laid w) ∧ sizedMet enc Tryd.prog Tryd.f11 (OpenSpec.ofChange Rows.fnExactIsCanonSpec) false w args)
      (Rows.fnExactIsCanonSpec.post enc Tryd.prog Tryd.f11 false true false false) := by
  refine returnsInHanded_of_change_and (C := Tryd.checked) (X := fun w _ => laidMetH Tryd.prog Rows.fnExactIsCanonRow.laid w) (fun _ _ _ hh h => h.of_heap hh) own started (by kernel_rfl) Tryd.func11
    (ChangeSpec.witness_shaped (enc := enc) (C := Tryd.checked) (os := os) (X := fun w _ => laidMetH Tryd.prog Rows.fnExactIsCanonRow.laid w) false (World.doorLaid Tryd.prog 400 os) #[.slice none 0 0, .slice none 0 0] 8 rfl (World.shaped_of_RefB (by kernel_rfl) (by kernel_rfl)) (by kernel_rfl) (by kernel_rfl) (by kernel_rfl) (xIsCanon_met os _)) ?_
  intro W base args ds gs before hval0 hW _ _ hL _
  have hval : ∀ (j : Nat) t v, Tryd.f11.params[j]? = some t → args[j]? = some v → Value.okWide Tryd.prog W .any base t v := hval0
  have hW' := hW
  obtain ⟨p, q, hA0, hV0, rfl, hfz, hnd⟩ := hW
  have hA : DataW.TrodAll enc Tryd.prog W 0 (fun _ => true) true Tryd.f11.params.toList args.toList ds p := hA0
  have hV : DataW.TrodVars enc Tryd.prog W (fun _ => true) Rows.fnExactIsCanonSpec.vars gs q := hV0
  rw [Tryd.params11] at hA hval
  obtain ⟨v0, v1, d0, d1, p0, p1, rfl, rfl, rfl, h0, h1⟩ := trodAll_two hA
  obtain ⟨g, tg, csg, fuelg, dg, pg, rfl, hgg, htg, hvg, hdg, rfl⟩ := trodVars_one hV
  obtain ⟨l0, hm0, h640, hY0⟩ := notes_in (hval 0 26 v0 rfl rfl) h0
  obtain ⟨l1, hm1, h641, hY1⟩ := notes_in (hval 1 26 v1 rfl rfl) h1
  clear hA0 hval0 hV0
  refine (xIsCanon_any v0 l0 v1 l1 W hm0 h640 hY0 hm1 h641 hY1 (tabH_of_laid rfl hL)).mono fun e W' ⟨he, hB⟩ => ?_
  subst he
  exact ⟨_, rfl, law_post laidOut (by rfl) Tryd.underlying4 (by kernel_rfl) (by kernel_rfl) hW' rfl rfl rfl hB⟩

theorem xIsCanon_row : Rows.FnExactIsCanonSaid :=
  OpenClaim.holds_of_wide 11 Tryd.f11 rfl rfl rfl rfl rfl rfl rfl ⟨rfl, rfl, rfl, rfl, rfl⟩ rfl rfl rfl rfl rfl (by kernel_rfl) Tryd.func11 (by kernel_rfl)
    (of_decide_eq_true (by kernel_rfl)) (by unfold Func.isWrapper; first | (rw [if_pos (by decide +kernel)]; kernel_rfl) | (rw [if_neg (by decide +kernel)]; exact ⟨rfl, rfl⟩))
    (fun os started H enc _ => xIsCanon_lifted os started H enc)

theorem xIsCanon_holds : Rows.FnExactIsCanonCardSaid :=
  Claim7.holds_tied_plain_at .later [] Rows.fnExactIsCanonCard.laidKinds true Rows.fnExactIsCanonCard.stood.harness false
    xIsCanon_row (fun _ h => by cases h) (by kernel_rfl) (fun _ h => by cases h) fnExactIsCanon_row_tie rfl ⟨rfl, rfl⟩ main_is (by kernel_rfl)
    (fun f fn hf hfn => by
      obtain rfl : f = 11 := Option.some.inj ((show Tryd.prog.funcNamed "loop.example/musicengine/laws.FnExactIsCanon" = some 11 by kernel_rfl).symm.trans hf) |>.symm
      obtain rfl : fn = Tryd.f11 := (Option.some.inj (Tryd.func11.symm.trans hfn)).symm
      exact ⟨by kernel_rfl, fun j t ht => by
        rw [Tryd.params11] at ht
        have hm : t ∈ [26, 26] := by simpa using Array.mem_of_getElem? ht
        have hall : ([26, 26].all fun u => !Tryd.prog.wantsStandIn u) = true := by kernel_rfl
        exact (show Tryd.prog.wantsStandIn t = false by simpa using List.all_eq_true.1 hall t hm)⟩)
    (by kernel_rfl)

end Go.Proofs.YtmkhpafcgobfhaaDoor
