/- FnExactPitchValid: at every argument the function answers as its model. -/
import Derived.Test.YtfcbfjdkmeiicaaWalks1
import Derived.ProofKit
import Derived.Lib.SmallJoins
namespace Go.Proofs.Ytfcbfjdkmeiicaa
open Go.ChangeShapes Go.WideShapes Go.ChangeAt Go.RowKit Go.Joins

set_option maxHeartbeats 400000 in
theorem xPitchValid_any (s a o : Int) (w : World) :
    Calls Try.prog 3 #[.agg #[.int .i64 s, .int .i64 a, .int .i64 o]] w fun e w' => e = .returned (.bool true) ∧ Below w.heap.size w w' := by
  go_enter Try.func3, Try.ntmps3
  go_wp2_with (first | (go_at_call 7; refine (toPitch_any _ _ _ _).mono ?_; rintro e w1 ⟨rfl, hb⟩; (first | have hA2 := btr hA hb | have hA2 := hb); (try clear hA hc hf hz); clear hb; have hA := hA2; clear hA2; obtain ⟨hc, hf⟩ := bcell hA; have hz := hA.size; try simp only [World.size_alloc1] at hz) | (go_at_call 6; refine (pvS_any _ _ _ _).mono ?_; rintro e w1 ⟨rfl, hb⟩; (first | have hA2 := btr hA hb | have hA2 := hb); (try clear hA hc hf hz); clear hb; have hA := hA2; clear hA2; obtain ⟨hc, hf⟩ := bcell hA; have hz := hA.size; try simp only [World.size_alloc1] at hz) | (go_at_call 8; refine (pvI_any _ _ _ _).mono ?_; rintro e w1 ⟨rfl, hb⟩; (first | have hA2 := btr hA hb | have hA2 := hb); (try clear hA hc hf hz); clear hb; have hA := hA2; clear hA2; obtain ⟨hc, hf⟩ := bcell hA; have hz := hA.size; try simp only [World.size_alloc1] at hz))
  go_ret
  exact ⟨rfl, boxed1 hA⟩

theorem own : ownKnob Try.prog.godebug = none := by kernel_rfl
theorem cellsP : Try.prog.cellsOf 23 = 3 := by kernel_rfl

/-- A pitch, by value, reads as its three numbers. -/
theorem pitchReads {H : Type} {enc : TypeId × Value → H} {w : World} {base : Nat} {sp : Nat → Bool} {held : Bool} {t : TypeId} (s a o : Int) (ht : t = 23) (ws : (Lit.int .i64 s).wf = true) (wa : (Lit.int .i64 a).wf = true) (wo : (Lit.int .i64 o).wf = true) :
    DataW.Trod enc Try.prog w base sp held t (.agg #[.int .i64 s, .int .i64 a, .int .i64 o]) (.agg [.lit (.int .i64 s), .lit (.int .i64 a), .lit (.int .i64 o)]) [] := by
  subst ht
  exact shut_agg3 (y0 := (.lit (.int .i64 s), [])) (y1 := (.lit (.int .i64 a), [])) (y2 := (.lit (.int .i64 o), [])) Try.underlying23 (by kernel_rfl) cellsP
    ⟨1, by simp [DataW.trod, Try.underlying3, ws]⟩ ⟨1, by simp [DataW.trod, Try.underlying3, wa]⟩ ⟨1, by simp [DataW.trod, Try.underlying3, wo]⟩

set_option maxRecDepth 100000 in
theorem xPitchValid_lifted (os : Os) (started : os.Started) (H : Type) (enc : TypeId × Value → H) :
    ReturnsInHanded {} Try.checked os 3 .any (Rows.fnExactPitchValidSpec.pre6 enc Try.prog Try.f3 Rows.fnExactPitchValidRow.domain false) (Rows.fnExactPitchValidSpec.post enc Try.prog Try.f3 false true false false) := by
  refine returnsInHanded_of_change (C := Try.checked) own started (by kernel_rfl) Try.func3
    (ChangeSpec.witness6 (enc := enc) (C := Try.checked) false ⟨#[], #[.agg #[.int .i64 0, .int .i64 0, .int .i64 0]], []⟩ 8 (by kernel_rfl) (by kernel_rfl) (by kernel_rfl) (by kernel_rfl)) ?_
  intro W base args ds gs before hval0 hW hcnd _
  have hval : ∀ (j : Nat) t v, Try.f3.params[j]? = some t → args[j]? = some v → Value.okWide Try.prog W .any base t v := hval0
  have hW' := hW
  obtain ⟨p, q, hA0, hV, rfl, hfz, hnd⟩ := hW
  have hA : DataW.TrodAll enc Try.prog W 0 (fun _ => true) true Try.f3.params.toList args.toList ds p := hA0
  rw [Try.params3] at hA hval
  obtain ⟨v0, d0, rfl, rfl, h0⟩ := trodAll_one hA
  obtain ⟨rfl, rfl⟩ := trodVars_none hV
  obtain ⟨c0, c1, c2, y0, y1, y2, m, rfl, rfl, rfl, hy0, hy1, hy2⟩ := open_agg3 Try.underlying23 (by kernel_rfl) cellsP (hval 0 23 v0 rfl rfl) h0
  obtain ⟨s, e0, rfl, ws⟩ := DataW.trod_int Try.underlying3 hy0
  obtain ⟨a, e1, rfl, wa⟩ := DataW.trod_int Try.underlying3 hy1
  obtain ⟨o, e2, rfl, wo⟩ := DataW.trod_int Try.underlying3 hy2
  simp at e0 e1 e2
  subst e0 e1 e2
  clear hA0 hval0
  simp only [List.append_nil] at hW'
  refine (xPitchValid_any s a o W).mono fun e W' ⟨he, hB⟩ => ?_
  subst he
  exact ⟨_, rfl, _, _, _, [], [], [], hW', trodAll_mk1 (shut_bool Try.underlying4 _), trodAll_mk1 (pitchReads s a o rfl ws wa wo), rfl, hB.frame _, fun h => by cases h⟩

theorem xPitchValid_holds : Rows.FnExactPitchValidSaid :=
  OpenClaim.holds_of_wide 3 Try.f3 rfl rfl rfl rfl rfl rfl rfl ⟨rfl, rfl, rfl, rfl, rfl⟩ rfl rfl rfl rfl rfl (by kernel_rfl) Try.func3 (by kernel_rfl)
    (of_decide_eq_true (by kernel_rfl)) (by unfold Func.isWrapper; first | (rw [if_pos (by decide +kernel)]; kernel_rfl) | (rw [if_neg (by decide +kernel)]; exact ⟨rfl, rfl⟩))
    (fun os started H enc _ => xPitchValid_lifted os started H enc)
end Go.Proofs.Ytfcbfjdkmeiicaa
