/- The walk of FnExactPitchText. -/
import Derived.Test.YtfcbfjdkmeiicaaDoorWalksText2
namespace Go.Proofs.YtfcbfjdkmeiicaaDoor
open Go.RowKit

set_option maxHeartbeats 400000 in
theorem xPitchText_any (s a o : Int) (w : World) :
    Calls Tryd.prog 10 #[.agg #[.int .i64 s, .int .i64 a, .int .i64 o]] w fun e w' => e = .returned (.bool true) ∧ Below w.heap.size w w' := by
  go_enter Tryd.func10, Tryd.ntmps10
  go_wp2_with (first | (go_at_call 31; refine (toPitch_any _ _ _ _).mono ?_; rintro e w1 ⟨rfl, hb⟩; (first | have hA2 := btr hA hb | have hA2 := hb); (try clear hA hc hf hz); clear hb; have hA := hA2; clear hA2; obtain ⟨hc, hf⟩ := bcell hA; have hz := hA.size; try simp only [World.size_alloc1] at hz) | (go_at_call 24; refine (textS_any _ _ _ _).mono ?_; rintro e w1 ⟨rfl, hb⟩; (first | have hA2 := btr hA hb | have hA2 := hb); (try clear hA hc hf hz); clear hb; have hA := hA2; clear hA2; obtain ⟨hc, hf⟩ := bcell hA; have hz := hA.size; try simp only [World.size_alloc1] at hz) | (go_at_call 23; refine (textI_any _ _ _ _).mono ?_; rintro e w1 ⟨rfl, hb⟩; (first | have hA2 := btr hA hb | have hA2 := hb); (try clear hA hc hf hz); clear hb; have hA := hA2; clear hA2; obtain ⟨hc, hf⟩ := bcell hA; have hz := hA.size; try simp only [World.size_alloc1] at hz))
  go_ret
  exact ⟨rfl, boxed1 hA⟩
end Go.Proofs.YtfcbfjdkmeiicaaDoor
