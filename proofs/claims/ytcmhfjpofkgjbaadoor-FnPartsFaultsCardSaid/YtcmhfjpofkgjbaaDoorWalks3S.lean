/- Chapter 3 in the model. -/
import Derived.Test.YtcmhfjpofkgjbaaDoorWalks1
import Derived.Test.YtcmhfjpofkgjbaaDoorPure3
import Derived.Test.YtcmhfjpofkgjbaaDoorOwn
import Derived.Test.YtcmhfjpofkgjbaaDoorRegion
namespace Go.Proofs.YtcmhfjpofkgjbaaDoor
set_option linter.unusedSimpArgs false
set_option linter.unusedVariables false
set_option maxRecDepth 8000
open Go.RowKit

theorem ord_cell {w : World} {s : Int} {t : TypeId} (h0 : 0 ≤ s) (h6 : s ≤ 6) : (w.alloc (.cells #[.int .i64 1, .int .i64 3, .int .i64 5, .int .i64 0, .int .i64 2, .int .i64 4, .int .i64 6] t)).cell? ⟨w.heap.size, s.toNat, none⟩ = some (.int .i64 (ordZ s)) := by
  rcases step7 h0 h6 with rfl | rfl | rfl | rfl | rfl | rfl | rfl <;> simp [ordZ]