/- toInterval and eqInterval of the laws. -/
import Derived.Test.YtafnekfddindjaaDoorWalks1
import Derived.Test.YtafnekfddindjaaDoorPure1
namespace Go.Proofs.YtafnekfddindjaaDoor
set_option linter.unusedSimpArgs false
set_option linter.unusedVariables false
set_option maxRecDepth 8000
open Go.RowKit

set_option maxHeartbeats 400000 in
theorem toInterval_any (s a : Int) (w : World) :
    Calls Tryd.prog 52 #[.agg #[.int .i64 s, .int .i64 a]] w fun e w' => e = .returned (.agg #[.int .i64 s, .int .i64 a]) ∧ Below w.heap.size w w' := by
  go_enter Tryd.func52, Tryd.ntmps52
  go_wp2
  exact bodyPost_ret (v := .agg #[.int .i64 s, .int .i64 a]) (by simp [results, Tryd.results52, go_sem]) rfl ⟨rfl, below3 _ _ _⟩