/- toInterval and eqInterval of the laws. -/
import Derived.Test.YtjfkbhfdcdjeaaaDoorWalks1
import Derived.Test.YtjfkbhfdcdjeaaaDoorPure2
namespace Go.Proofs.YtjfkbhfdcdjeaaaDoor
set_option linter.unusedSimpArgs false
set_option linter.unusedVariables false
open Go.RowKit

set_option maxHeartbeats 400000 in
theorem toInterval_any (s a : Int) (w : World) :
    Calls Tryd.prog 16 #[.agg #[.int .i64 s, .int .i64 a]] w fun e w' => e = .returned (.agg #[.int .i64 s, .int .i64 a]) ∧ Below w.heap.size w w' := by
  go_enter Tryd.func16, Tryd.ntmps16
  go_wp2
  exact bodyPost_ret (v := .agg #[.int .i64 s, .int .i64 a]) (by simp [results, Tryd.results16, go_sem]) rfl ⟨rfl, below3 _ _ _⟩

set_option maxHeartbeats 400000 in
theorem eqInterval_same (s a : Int) (w : World) :
    Calls Tryd.prog 21 #[.agg #[.int .i64 s, .int .i64 a], .agg #[.int .i64 s, .int .i64 a]] w fun e w' => e = .returned (.bool true) ∧ Below w.heap.size w w' := by
  go_enter Tryd.func21, Tryd.ntmps21
  go_wp2
  go_ret
  exact ⟨rfl, below2 _ _⟩
end Go.Proofs.YtjfkbhfdcdjeaaaDoor
