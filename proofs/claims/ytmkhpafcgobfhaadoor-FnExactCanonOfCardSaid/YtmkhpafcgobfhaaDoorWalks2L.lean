/- toInterval and eqInterval of the laws. -/
import Derived.Test.YtmkhpafcgobfhaaDoorWalks1
import Derived.Test.YtmkhpafcgobfhaaDoorPure1
namespace Go.Proofs.YtmkhpafcgobfhaaDoor
set_option linter.unusedSimpArgs false
set_option linter.unusedVariables false
set_option maxRecDepth 8000
open Go.RowKit

set_option maxHeartbeats 400000 in
theorem toInterval_any (s a : Int) (w : World) :
    Calls Tryd.prog 41 #[.agg #[.int .i64 s, .int .i64 a]] w fun e w' => e = .returned (.agg #[.int .i64 s, .int .i64 a]) ∧ Below w.heap.size w w' := by
  go_enter Tryd.func41, Tryd.ntmps41
  go_wp2
  exact bodyPost_ret (v := .agg #[.int .i64 s, .int .i64 a]) (by simp [results, Tryd.results41, go_sem]) rfl ⟨rfl, below3 _ _ _⟩