/- toInterval and eqInterval of the laws. -/
import Derived.Test.YtjkiefoeicgioaaDoorWalks1
import Derived.Test.YtjkiefoeicgioaaDoorPure2
namespace Go.Proofs.YtjkiefoeicgioaaDoor
set_option linter.unusedSimpArgs false
set_option linter.unusedVariables false
open Go.RowKit

set_option maxHeartbeats 400000 in
theorem toInterval_any (s a : Int) (w : World) :
    Calls Tryd.prog 51 #[.agg #[.int .i64 s, .int .i64 a]] w fun e w' => e = .returned (.agg #[.int .i64 s, .int .i64 a]) ∧ Below w.heap.size w w' := by
  go_enter Tryd.func51, Tryd.ntmps51
  go_wp2
  exact bodyPost_ret (v := .agg #[.int .i64 s, .int .i64 a]) (by simp [results, Tryd.results51, go_sem]) rfl ⟨rfl, below3 _ _ _⟩