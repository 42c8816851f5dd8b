/- FnExactPartsFaults: at every slice of slices of pitches the program's PartsFaults answers as its model, every field; it writes into no argument; its answer owns its memory. Conditions: the tables of half tones and of the voices' ranges read as the program's text lays them (tied by the card). -/
import Derived.Test.YtfdglkiehkilnaaDoorLawsX12P
import Derived.Test.YtfdglkiehkilnaaDoorWalks12I
import Derived.Test.YtfdglkiehkilnaaDoorWalks12M
import Derived.Test.YtfdglkiehkilnaaDoorLawDoorV
import Derived.Test.YtfdglkiehkilnaaDoorLawStks
import Derived.Test.YtfdglkiehkilnaaDoorLawDoor
namespace Go.Proofs.YtfdglkiehkilnaaDoor
set_option linter.unusedSimpArgs false
set_option linter.unusedVariables false
set_option maxRecDepth 8000
open Go.ChangeShapes Go.WideShapes Go.ChangeAt Go.RowKit Go.Joins

theorem xPartsFaults_any (va : Value) (ll : List (List Pt)) (w : World) (_hm : ll.length ≤ maxLen) (h64 : ∀ l ∈ ll, ∀ x ∈ l, pt64 x) (h : StkIn w va ll) (ht : TabH w) (hV : TabV w) :
    Calls Tryd.prog 10 #[va] w fun e w' => e = .returned (.bool true) ∧ Below w.heap.size w w' :=
  xPartsFaults_of (fun va vb a b W hs ht ha hb => mvS_any va vb a b W hs ht ha hb) va ll w h (fun l hl x hx => h64 l hl x hx) (paI_C w ht hV)

theorem xPartsFaults_met (os : Os) (args : Array Value) : laidMetH Tryd.prog Rows.fnExactPartsFaultsRow.laid ((World.doorLaid Tryd.prog 400 os).forCall (fun _ _ => 0) ⟨#[], args, []⟩).memory :=
  laidMetH_of_parts3 (fuel := 8) (laidMet_of_run' 8 (by kernel_rfl) (by kernel_rfl)) (by kernel_rfl) (by kernel_rfl)

set_option maxRecDepth 100000 in
theorem xPartsFaults_lifted (os : Os) (started : os.Started) (H : Type) (enc : TypeId × Value → H) :
    ReturnsInHanded {} Tryd.checked os 10 .any (fun w args => (Rows.fnExactPartsFaultsSpec.pre enc Tryd.prog Tryd.f10 [] false w args ∧ laidMetH Tryd.prog Rows.fnExactPartsFaultsRow.laid w) ∧ sizedMet enc Tryd.prog Tryd.f10 (OpenSpec.ofChange Rows.fnExactPartsFaultsSpec) false w args)
      (Rows.fnExactPartsFaultsSpec.post enc Tryd.prog Tryd.f10 false true false false) := by
  refine returnsInHanded_of_change_and (C := Tryd.checked) (X := fun w _ => laidMetH Tryd.prog Rows.fnExactPartsFaultsRow.laid w) (fun _ _ _ hh h => h.of_heap hh) own started (by kernel_rfl) Tryd.func10
    (ChangeSpec.witness_shaped (enc := enc) (C := Tryd.checked) (os := os) (X := fun w _ => laidMetH Tryd.prog Rows.fnExactPartsFaultsRow.laid w) false (World.doorLaid Tryd.prog 400 os) #[.slice none 0 0] 8 rfl (World.shaped_of_RefB (by kernel_rfl) (by kernel_rfl)) (by kernel_rfl) (by kernel_rfl) (by kernel_rfl) (xPartsFaults_met os _)) ?_
  intro W base args ds gs before hval0 hW _ _ hL _
  have hval : ∀ (j : Nat) t v, Tryd.f10.params[j]? = some t → args[j]? = some v → Value.okWide Tryd.prog W .any base t v := hval0
  have hW' := hW
  obtain ⟨p, q, hA0, hV0, rfl, hfz, hnd⟩ := hW
  have hA : DataW.TrodAll enc Tryd.prog W 0 (fun _ => true) true Tryd.f10.params.toList args.toList ds p := hA0
  have hV : DataW.TrodVars enc Tryd.prog W (fun _ => true) Rows.fnExactPartsFaultsSpec.vars gs q := hV0
  rw [Tryd.params10] at hA hval
  obtain ⟨v0, d0, rfl, rfl, h0⟩ := trodAll_one hA
  obtain ⟨dg, dg2, rfl⟩ := vars_two hV
  obtain ⟨l0, hm0, h640, hY0⟩ := stks_in (hval 0 54 v0 rfl rfl) h0
  clear hA0 hval0 hV0
  refine (xPartsFaults_any v0 l0 W hm0 h640 hY0 (tabH_of_laid rfl hL) (tabV_of_laid rfl hL)).mono fun e W' ⟨he, hB⟩ => ?_
  subst he
  exact ⟨_, rfl, law_post laidOut (by rfl) Tryd.underlying4 (by kernel_rfl) (by kernel_rfl) hW' rfl rfl rfl hB⟩

theorem xPartsFaults_row : Rows.FnExactPartsFaultsSaid :=
  OpenClaim.holds_of_wide 10 Tryd.f10 rfl rfl rfl rfl rfl rfl rfl ⟨rfl, rfl, rfl, rfl, rfl⟩ rfl rfl rfl rfl rfl (by kernel_rfl) Tryd.func10 (by kernel_rfl)
    (of_decide_eq_true (by kernel_rfl)) (by unfold Func.isWrapper; first | (rw [if_pos (by decide +kernel)]; kernel_rfl) | (rw [if_neg (by decide +kernel)]; exact ⟨rfl, rfl⟩))
    (fun os started H enc _ => xPartsFaults_lifted os started H enc)

theorem xPartsFaults_holds : Rows.FnExactPartsFaultsCardSaid :=
  Claim7.holds_tied_plain_at .later [] Rows.fnExactPartsFaultsCard.laidKinds true Rows.fnExactPartsFaultsCard.stood.harness false
    xPartsFaults_row (fun _ h => by cases h) (by kernel_rfl) (fun _ h => by cases h) fnExactPartsFaults_row_tie rfl ⟨rfl, rfl⟩ main_is (by kernel_rfl)
    (fun f fn hf hfn => by
      obtain rfl : f = 10 := Option.some.inj ((show Tryd.prog.funcNamed "loop.example/musicengine/laws.FnExactPartsFaults" = some 10 by kernel_rfl).symm.trans hf) |>.symm
      obtain rfl : fn = Tryd.f10 := (Option.some.inj (Tryd.func10.symm.trans hfn)).symm
      exact ⟨by kernel_rfl, fun j t ht => by
        rw [Tryd.params10] at ht
        have hm : t ∈ [54] := by simpa using Array.mem_of_getElem? ht
        have hall : ([54].all fun u => !Tryd.prog.wantsStandIn u) = true := by kernel_rfl
        exact (show Tryd.prog.wantsStandIn t = false by simpa using List.all_eq_true.1 hall t hm)⟩)
    (by kernel_rfl)

end Go.Proofs.YtfdglkiehkilnaaDoor
