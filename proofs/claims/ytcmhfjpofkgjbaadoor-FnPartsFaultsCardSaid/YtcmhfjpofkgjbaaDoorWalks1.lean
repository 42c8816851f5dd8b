/- What each function of chapter 1 does to the world. -/
import Derived.Test.YtcmhfjpofkgjbaaDoorRows
import Derived.Test.YtcmhfjpofkgjbaaDoorPure1
import Derived.WalkKit
import Derived.WalkSpells
import Derived.WalkLawsBesides
import Derived.Deep.QuietTactic
import Derived.BigQuiet
namespace Go.Proofs.YtcmhfjpofkgjbaaDoor
set_option linter.unusedSimpArgs false
set_option linter.unusedVariables false
set_option maxRecDepth 8000
open Go.RowKit

set_option maxHeartbeats 400000 in
theorem in_any (n lo hi : Int) (w : World) :
    Calls Tryd.prog 38 #[.int .i64 n, .int .i64 lo, .int .i64 hi] w fun e w' => e = .returned (.bool (inB n lo hi)) ∧ w = w' := by
  unfold inB
  by_cases h1 : lo ≤ n <;> by_cases h2 : n ≤ hi
  all_goals
    go_enter Tryd.func38, Tryd.ntmps38
    go_wp2
    go_ret
    simp [h1, h2]

set_option maxHeartbeats 400000 in
theorem toPitch_any (s a o : Int) (w : World) :
    Calls Tryd.prog 50 #[.agg #[.int .i64 s, .int .i64 a, .int .i64 o]] w fun e w' => e = .returned (.agg #[.int .i64 s, .int .i64 a, .int .i64 o]) ∧ Below w.heap.size w w' := by
  go_enter Tryd.func50, Tryd.ntmps50
  go_wp2
  exact bodyPost_ret (v := .agg #[.int .i64 s, .int .i64 a, .int .i64 o]) (by simp [results, Tryd.results50, go_sem]) rfl ⟨rfl, below3 _ _ _⟩

set_option maxHeartbeats 400000 in
theorem pvI_any (s a o : Int) (w : World) :
    Calls Tryd.prog 58 #[.agg #[.int .i64 s, .int .i64 a, .int .i64 o]] w fun e w' => e = .returned (.bool (pvB s a o)) ∧ Below w.heap.size w w' := by
  go_enter Tryd.func58, Tryd.ntmps58
  go_wp2
  all_goals
    go_ret
    exact ⟨ret_bool (by rw [Bool.eq_iff_iff, pvB_iff]; simp; omega), below1 _⟩

set_option maxHeartbeats 400000 in
theorem pvS_any (s a o : Int) (w : World) :
    Calls Tryd.prog 36 #[.agg #[.int .i64 s, .int .i64 a, .int .i64 o]] w fun e w' => e = .returned (.bool (pvB s a o)) ∧ Below w.heap.size w w' := by
  go_enter Tryd.func36, Tryd.ntmps36
  go_wp2_with (go_at_call 38; refine (in_any _ _ _ _).mono ?_; rintro e w1 ⟨rfl, rfl⟩)
  all_goals
    go_ret
    exact ⟨ret_bool (by unfold pvB; simp_all), below1 _⟩

/- eqPitch of a pitch and itself. -/
open Go.RowKit

set_option maxHeartbeats 400000 in
theorem eqPitch_same (s a o : Int) (w : World) :
    Calls Tryd.prog 51 #[.agg #[.int .i64 s, .int .i64 a, .int .i64 o], .agg #[.int .i64 s, .int .i64 a, .int .i64 o]] w fun e w' => e = .returned (.bool true) ∧ Below w.heap.size w w' := by
  go_enter Tryd.func51, Tryd.ntmps51
  go_wp2
  go_ret
  exact ⟨rfl, below2 _ _⟩
end Go.Proofs.YtcmhfjpofkgjbaaDoor
