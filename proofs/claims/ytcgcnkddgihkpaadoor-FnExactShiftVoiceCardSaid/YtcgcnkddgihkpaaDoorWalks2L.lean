/- toInterval and eqInterval of the laws. -/
import Derived.Test.YtcgcnkddgihkpaaDoorWalks1
import Derived.Test.YtcgcnkddgihkpaaDoorPure1
namespace Go.Proofs.YtcgcnkddgihkpaaDoor
set_option linter.unusedSimpArgs false
set_option linter.unusedVariables false
set_option maxRecDepth 8000
open Go.RowKit

set_option maxHeartbeats 400000 in
theorem toInterval_any (s a : Int) (w : World) :
    Calls Tryd.prog 38 #[.agg #[.int .i64 s, .int .i64 a]] w fun e w' => e = .returned (.agg #[.int .i64 s, .int .i64 a]) ∧ Below w.heap.size w w' := by
  go_enter Tryd.func38, Tryd.ntmps38
  go_wp2
  exact bodyPost_ret (v := .agg #[.int .i64 s, .int .i64 a]) (by simp [results, Tryd.results38, go_sem]) rfl ⟨rfl, below3 _ _ _⟩