/- eqPitch of a pitch and itself. -/
import Derived.Test.YtfcbfjdkmeiicaaWalks1
namespace Go.Proofs.Ytfcbfjdkmeiicaa
open Go.RowKit

set_option maxHeartbeats 400000 in
theorem eqPitch_same (s a o : Int) (w : World) :
    Calls Try.prog 13 #[.agg #[.int .i64 s, .int .i64 a, .int .i64 o], .agg #[.int .i64 s, .int .i64 a, .int .i64 o]] w fun e w' => e = .returned (.bool true) ∧ Below w.heap.size w w' := by
  go_enter Try.func13, Try.ntmps13
  go_wp2
  go_ret
  exact ⟨rfl, below2 _ _⟩
end Go.Proofs.Ytfcbfjdkmeiicaa
