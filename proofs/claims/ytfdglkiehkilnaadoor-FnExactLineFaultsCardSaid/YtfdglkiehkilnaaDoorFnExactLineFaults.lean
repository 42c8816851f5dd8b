/- FnExactLineFaults: at every key and every two slices of pitches the program's LineFaults answers as its model, every field; it writes into no argument; its answer owns its memory. Conditions: the tables of half tones and of the keys' alterations read as the program's text lays them (tied by the card). -/
import Derived.Test.YtfdglkiehkilnaaDoorLawsX14
import Derived.Test.YtfdglkiehkilnaaDoorWalks14G
import Derived.Test.YtfdglkiehkilnaaDoorLawDoorA
import Derived.Test.YtfdglkiehkilnaaDoorLawPits
import Derived.Test.YtfdglkiehkilnaaDoorLawDoor
namespace Go.Proofs.YtfdglkiehkilnaaDoor
set_option linter.unusedSimpArgs false
set_option linter.unusedVariables false
set_option maxRecDepth 8000
open Go.ChangeShapes Go.WideShapes Go.ChangeAt Go.RowKit Go.Joins

theorem xLineFaults_any (f : Int) (va : Value) (a : List Pt) (vb : Value) (b : List Pt) (w : World) (hm : a.length ≤ maxLen) (_h64 : ∀ x ∈ a, pt64 x) (hY : PtsAt w va a) (hm' : b.length ≤ maxLen) (_h64' : ∀ x ∈ b, pt64 x) (hY' : PtsAt w vb b) (hT : TabH w) (hA : TabA w) :
    Calls Tryd.prog 7 #[.int .i64 f, va, vb] w fun e w' => e = .returned (.bool true) ∧ Below w.heap.size w w' :=
  xLineFaults_of f va a vb b w hm hY hm' hY' fun f va vb c l W hW hc hl hn hm => lfI_any f va vb c l W hc hl hn hm (hT.below hW) (hA.below hW)

theorem xLineFaults_met (os : Os) (args : Array Value) : laidMetH Tryd.prog Rows.fnExactLineFaultsRow.laid ((World.doorLaid Tryd.prog 400 os).forCall (fun _ _ => 0) ⟨#[], args, []⟩).memory :=
  laidMetH_of_parts3 (fuel := 8) (laidMet_of_run' 8 (by kernel_rfl) (by kernel_rfl)) (by kernel_rfl) (by kernel_rfl)

set_option maxRecDepth 100000 in
theorem xLineFaults_lifted (os : Os) (started : os.Started) (H : Type) (enc : TypeId × Value → H) :
    ReturnsInHanded {} Tryd.checked os 7 .any (fun w args => (Rows.fnExactLineFaultsSpec.pre enc Tryd.prog Tryd.f7 [] false w args ∧ laidMetH Tryd.prog Rows.fnExactLineFaultsRow.laid w) ∧ sizedMet enc Tryd.prog Tryd.f7 (OpenSpec.ofChange Rows.fnExactLineFaultsSpec) false w args)
      (Rows.fnExactLineFaultsSpec.post enc Tryd.prog Tryd.f7 false true false false) := by
  refine returnsInHanded_of_change_and (C := Tryd.checked) (X := fun w _ => laidMetH Tryd.prog Rows.fnExactLineFaultsRow.laid w) (fun _ _ _ hh h => h.of_heap hh) own started (by kernel_rfl) Tryd.func7
    (ChangeSpec.witness_shaped (enc := enc) (C := Tryd.checked) (os := os) (X := fun w _ => laidMetH Tryd.prog Rows.fnExactLineFaultsRow.laid w) false (World.doorLaid Tryd.prog 400 os) #[.int .i64 0, .slice none 0 0, .slice none 0 0] 8 rfl (World.shaped_of_RefB (by kernel_rfl) (by kernel_rfl)) (by kernel_rfl) (by kernel_rfl) (by kernel_rfl) (xLineFaults_met os _)) ?_
  intro W base args ds gs before hval0 hW _ _ hL _
  have hval : ∀ (j : Nat) t v, Tryd.f7.params[j]? = some t → args[j]? = some v → Value.okWide Tryd.prog W .any base t v := hval0
  have hW' := hW
  obtain ⟨p, q, hA0, hV0, rfl, hfz, hnd⟩ := hW
  have hA : DataW.TrodAll enc Tryd.prog W 0 (fun _ => true) true Tryd.f7.params.toList args.toList ds p := hA0
  have hV : DataW.TrodVars enc Tryd.prog W (fun _ => true) Rows.fnExactLineFaultsSpec.vars gs q := hV0
  rw [Tryd.params7] at hA hval
  obtain ⟨v0, v1, v2, d0, d1, d2, p0, p1, p2, rfl, rfl, rfl, h0, h1, h2⟩ := trodAll_three hA
  obtain ⟨dg, dg2, rfl⟩ := vars_two hV
  obtain ⟨n0, rfl, rfl, rfl, wn0⟩ := open_int Tryd.underlying3 (hval 0 3 v0 rfl rfl) h0
  obtain ⟨l1, hm1, h641, hY1⟩ := pts_in (hval 1 40 v1 rfl rfl) h1
  obtain ⟨l2, hm2, h642, hY2⟩ := pts_in (hval 2 40 v2 rfl rfl) h2
  clear hA0 hval0 hV0
  refine (xLineFaults_any n0 v1 l1 v2 l2 W hm1 h641 hY1 hm2 h642 hY2 (tabH_of_laid rfl hL) (tabA_of_laid rfl hL)).mono fun e W' ⟨he, hB⟩ => ?_
  subst he
  exact ⟨_, rfl, law_post laidOut (by rfl) Tryd.underlying4 (by kernel_rfl) (by kernel_rfl) hW' rfl rfl rfl hB⟩

theorem xLineFaults_row : Rows.FnExactLineFaultsSaid :=
  OpenClaim.holds_of_wide 7 Tryd.f7 rfl rfl rfl rfl rfl rfl rfl ⟨rfl, rfl, rfl, rfl, rfl⟩ rfl rfl rfl rfl rfl (by kernel_rfl) Tryd.func7 (by kernel_rfl)
    (of_decide_eq_true (by kernel_rfl)) (by unfold Func.isWrapper; first | (rw [if_pos (by decide +kernel)]; kernel_rfl) | (rw [if_neg (by decide +kernel)]; exact ⟨rfl, rfl⟩))
    (fun os started H enc _ => xLineFaults_lifted os started H enc)

theorem xLineFaults_holds : Rows.FnExactLineFaultsCardSaid :=
  Claim7.holds_tied_plain_at .later [] Rows.fnExactLineFaultsCard.laidKinds true Rows.fnExactLineFaultsCard.stood.harness false
    xLineFaults_row (fun _ h => by cases h) (by kernel_rfl) (fun _ h => by cases h) fnExactLineFaults_row_tie rfl ⟨rfl, rfl⟩ main_is (by kernel_rfl)
    (fun f fn hf hfn => by
      obtain rfl : f = 7 := Option.some.inj ((show Tryd.prog.funcNamed "loop.example/musicengine/laws.FnExactLineFaults" = some 7 by kernel_rfl).symm.trans hf) |>.symm
      obtain rfl : fn = Tryd.f7 := (Option.some.inj (Tryd.func7.symm.trans hfn)).symm
      exact ⟨by kernel_rfl, fun j t ht => by
        rw [Tryd.params7] at ht
        have hm : t ∈ [3, 40, 40] := by simpa using Array.mem_of_getElem? ht
        have hall : ([3, 40, 40].all fun u => !Tryd.prog.wantsStandIn u) = true := by kernel_rfl
        exact (show Tryd.prog.wantsStandIn t = false by simpa using List.all_eq_true.1 hall t hm)⟩)
    (by kernel_rfl)

end Go.Proofs.YtfdglkiehkilnaaDoor
