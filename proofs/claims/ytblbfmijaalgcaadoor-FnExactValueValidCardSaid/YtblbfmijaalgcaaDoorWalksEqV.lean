/- The laws' own functions over values of notes: toValue; equal ones are found equal. -/
import Derived.Test.YtblbfmijaalgcaaDoorWalks1
import Derived.Test.YtblbfmijaalgcaaDoorOwnRows
namespace Go.Proofs.YtblbfmijaalgcaaDoor
set_option linter.unusedSimpArgs false
set_option linter.unusedVariables false
open Go.RowKit

set_option maxHeartbeats 400000 in
theorem toValue_any (b d t : Int) (w : World) :
    Calls Tryd.prog 26 #[.agg #[.int .i64 b, .int .i64 d, .int .i64 t]] w fun e w' => e = .returned (.agg #[.int .i64 b, .int .i64 d, .int .i64 t]) ∧ Below w.heap.size w w' := by
  go_enter Tryd.func26, Tryd.ntmps26
  go_wp2
  exact bodyPost_ret (v := .agg #[.int .i64 b, .int .i64 d, .int .i64 t]) (by simp [results, Tryd.results26, go_sem]) rfl ⟨rfl, below3 _ _ _⟩

set_option maxHeartbeats 400000 in
theorem eqValue_same (b d t : Int) (w : World) :
    Calls Tryd.prog 27 #[.agg #[.int .i64 b, .int .i64 d, .int .i64 t], .agg #[.int .i64 b, .int .i64 d, .int .i64 t]] w fun e w' => e = .returned (.bool true) ∧ Below w.heap.size w w' := by
  have hO := Own.start w
  have hF := True.intro
  go_enter Tryd.func27, Tryd.ntmps27
  go_wp2
  go_ret
  exact ⟨rfl, Own.base (by (repeat (first | (with_reducible exact hO) | (with_reducible apply Own.alloc) | (with_reducible apply Own.drew) | ((with_reducible apply Own.set_at); (focus (show _ ≤ _; omega))))))⟩
end Go.Proofs.YtblbfmijaalgcaaDoor
