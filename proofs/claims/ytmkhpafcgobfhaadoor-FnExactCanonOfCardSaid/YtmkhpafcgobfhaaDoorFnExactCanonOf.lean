/- FnExactCanonOf: at every slice of notes, every delay and every interval the program's CanonOf answers as its model; it writes into no argument; its answer owns its memory. Condition: the table of half tones reads as the program's text lays it (tied by the card). -/
import Derived.Test.YtmkhpafcgobfhaaDoorLawsX16C
import Derived.Test.YtmkhpafcgobfhaaDoorWalks16N
import Derived.Test.YtmkhpafcgobfhaaDoorWalks16C
import Derived.Test.YtmkhpafcgobfhaaDoorLawNotes
import Derived.Test.YtmkhpafcgobfhaaDoorLawDoor
namespace Go.Proofs.YtmkhpafcgobfhaaDoor
set_option linter.unusedSimpArgs false
set_option linter.unusedVariables false
set_option maxRecDepth 8000
open Go.ChangeShapes Go.WideShapes Go.ChangeAt Go.RowKit Go.Joins

theorem xCanonOf_any (va : Value) (l : List Nt) (d st ha : Int) (w : World) (hm : l.length ≤ maxLen) (_h64 : ∀ x ∈ l, nt64 x) (hY : NotesAt w va l) (r1 : r64 d) (r2 : r64 st) (r3 : r64 ha) (ht : TabH w) :
    Calls Tryd.prog 10 #[va, .int .i64 d, .agg #[.int .i64 st, .int .i64 ha]] w fun e w' => e = .returned (.bool true) ∧ Below w.heap.size w w' :=
  xCanonOf_of va l d st ha w hm hY r1 r2 r3 (cnoS_C w) (cnoI_C ht)

theorem xCanonOf_met (os : Os) (args : Array Value) : laidMetH Tryd.prog Rows.fnExactCanonOfRow.laid ((World.doorLaid Tryd.prog 400 os).forCall (fun _ _ => 0) ⟨#[], args, []⟩).memory :=
  laidMetH_of_parts3 (fuel := 8) (laidMet_of_run' 8 (by kernel_rfl) (by kernel_rfl)) (by kernel_rfl) (by kernel_rfl)

set_option maxRecDepth 100000 in
theorem xCanonOf_lifted (os : Os) (started : os.Started) (H : Type) (enc : TypeId × Value → H) :
    ReturnsInHanded {} Tryd.checked os 10 .any (fun w args => (Rows.fnExactCanonOfSpec.pre enc Tryd.prog Tryd.f10 [] false w args ∧ laidMetH Tryd.prog Rows.fnExactCanonOfRow.laid w) ∧ sizedMet enc Tryd.prog Tryd.f10 (OpenSpec.ofChange Rows.fnExactCanonOfSpec) false w args)
      (Rows.fnExactCanonOfSpec.post enc Tryd.prog Tryd.f10 false true false false) := by
  refine returnsInHanded_of_change_and (C := Tryd.checked) (X := fun w _ => laidMetH Tryd.prog Rows.fnExactCanonOfRow.laid w) (fun _ _ _ hh h => h.of_heap hh) own started (by kernel_rfl) Tryd.func10
    (ChangeSpec.witness_shaped (enc := enc) (C := Tryd.checked) (os := os) (X := fun w _ => laidMetH Tryd.prog Rows.fnExactCanonOfRow.laid w) false (World.doorLaid Tryd.prog 400 os) #[.slice none 0 0, .int .i64 0, .agg #[.int .i64 0, .int .i64 0]] 8 rfl (World.shaped_of_RefB (by kernel_rfl) (by kernel_rfl)) (by kernel_rfl) (by kernel_rfl) (by kernel_rfl) (xCanonOf_met os _)) ?_
  intro W base args ds gs before hval0 hW _ _ hL _
  have hval : ∀ (j : Nat) t v, Tryd.f10.params[j]? = some t → args[j]? = some v → Value.okWide Tryd.prog W .any base t v := hval0
  have hW' := hW
  obtain ⟨p, q, hA0, hV0, rfl, hfz, hnd⟩ := hW
  have hA : DataW.TrodAll enc Tryd.prog W 0 (fun _ => true) true Tryd.f10.params.toList args.toList ds p := hA0
  have hV : DataW.TrodVars enc Tryd.prog W (fun _ => true) Rows.fnExactCanonOfSpec.vars gs q := hV0
  rw [Tryd.params10] at hA hval
  obtain ⟨v0, v1, v2, d0, d1, d2, p0, p1, p2, rfl, rfl, rfl, h0, h1, h2⟩ := trodAll_three hA
  obtain ⟨g, tg, csg, fuelg, dg, pg, rfl, hgg, htg, hvg, hdg, rfl⟩ := trodVars_one hV
  obtain ⟨l0, hm0, h640, hY0⟩ := notes_in (hval 0 26 v0 rfl rfl) h0
  obtain ⟨n1, rfl, rfl, rfl, wn1⟩ := open_int Tryd.underlying3 (hval 1 3 v1 rfl rfl) h1
  obtain ⟨c20, c21, y20, y21, m2, rfl, rfl, rfl, hy20, hy21⟩ := open_agg2 Tryd.underlying23 (by kernel_rfl) (show Tryd.prog.cellsOf 23 = 2 by kernel_rfl) (hval 2 23 v2 rfl rfl) h2
  obtain ⟨s2, e20, rfl, ws2⟩ := DataW.trod_int Tryd.underlying3 hy20
  obtain ⟨a2, e21, rfl, wa2⟩ := DataW.trod_int Tryd.underlying3 hy21
  simp at e20 e21
  subst e20 e21
  clear hA0 hval0 hV0
  refine (xCanonOf_any v0 l0 n1 s2 a2 W hm0 h640 hY0 (wf64 wn1) (wf64 ws2) (wf64 wa2) (tabH_of_laid rfl hL)).mono fun e W' ⟨he, hB⟩ => ?_
  subst he
  exact ⟨_, rfl, law_post laidOut (by rfl) Tryd.underlying4 (by kernel_rfl) (by kernel_rfl) hW' rfl rfl rfl hB⟩

theorem xCanonOf_row : Rows.FnExactCanonOfSaid :=
  OpenClaim.holds_of_wide 10 Tryd.f10 rfl rfl rfl rfl rfl rfl rfl ⟨rfl, rfl, rfl, rfl, rfl⟩ rfl rfl rfl rfl rfl (by kernel_rfl) Tryd.func10 (by kernel_rfl)
    (of_decide_eq_true (by kernel_rfl)) (by unfold Func.isWrapper; first | (rw [if_pos (by decide +kernel)]; kernel_rfl) | (rw [if_neg (by decide +kernel)]; exact ⟨rfl, rfl⟩))
    (fun os started H enc _ => xCanonOf_lifted os started H enc)

theorem xCanonOf_holds : Rows.FnExactCanonOfCardSaid :=
  Claim7.holds_tied_plain_at .later [] Rows.fnExactCanonOfCard.laidKinds true Rows.fnExactCanonOfCard.stood.harness false
    xCanonOf_row (fun _ h => by cases h) (by kernel_rfl) (fun _ h => by cases h) fnExactCanonOf_row_tie rfl ⟨rfl, rfl⟩ main_is (by kernel_rfl)
    (fun f fn hf hfn => by
      obtain rfl : f = 10 := Option.some.inj ((show Tryd.prog.funcNamed "loop.example/musicengine/laws.FnExactCanonOf" = some 10 by kernel_rfl).symm.trans hf) |>.symm
      obtain rfl : fn = Tryd.f10 := (Option.some.inj (Tryd.func10.symm.trans hfn)).symm
      exact ⟨by kernel_rfl, fun j t ht => by
        rw [Tryd.params10] at ht
        have hm : t ∈ [26, 3, 23] := by simpa using Array.mem_of_getElem? ht
        have hall : ([26, 3, 23].all fun u => !Tryd.prog.wantsStandIn u) = true := by kernel_rfl
        exact (show Tryd.prog.wantsStandIn t = false by simpa using List.all_eq_true.1 hall t hm)⟩)
    (by kernel_rfl)

end Go.Proofs.YtmkhpafcgobfhaaDoor
