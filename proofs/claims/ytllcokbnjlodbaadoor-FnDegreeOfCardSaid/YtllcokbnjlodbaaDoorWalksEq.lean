/- eqPitch of a pitch and itself. -/
import Derived.Test.YtllcokbnjlodbaaDoorWalks1
namespace Go.Proofs.YtllcokbnjlodbaaDoor
set_option linter.unusedSimpArgs false
set_option linter.unusedVariables false
open Go.RowKit

set_option maxHeartbeats 400000 in
theorem eqPitch_same (s a o : Int) (w : World) :
    Calls Tryd.prog 19 #[.agg #[.int .i64 s, .int .i64 a, .int .i64 o], .agg #[.int .i64 s, .int .i64 a, .int .i64 o]] w fun e w' => e = .returned (.bool true) ∧ Below w.heap.size w w' := by
  go_enter Tryd.func19, Tryd.ntmps19
  go_wp2
  go_ret
  exact ⟨rfl, below2 _ _⟩
end Go.Proofs.YtllcokbnjlodbaaDoor
