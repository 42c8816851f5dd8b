/- Two keys in 0..107, the least one not greater than the greatest one (keyRangeValid of the program). -/
import Derived.Test.YtcgcnkddgihkpaaDoorOwn
import Derived.Test.YtcgcnkddgihkpaaDoorWalks1
namespace Go.Proofs.YtcgcnkddgihkpaaDoor
set_option linter.unusedSimpArgs false
set_option linter.unusedVariables false
set_option maxRecDepth 8000
open Go.RowKit

set_option maxHeartbeats 1000000 in
theorem krI_any (lo hi : Int) (w : World) :
    Calls Tryd.prog 99 #[.int .i64 lo, .int .i64 hi] w fun e w' => e = .returned (.bool (inB lo 0 107 && inB hi lo 107)) ∧ Below w.heap.size w w' := by
  have hO := Own.start w
  have hF := True.intro
  have HE := hid (show (inB lo 0 107 && inB hi lo 107) = (inB lo 0 107 && inB hi lo 107) from rfl)
  go_enter Tryd.func99, Tryd.ntmps99
  go_wp2
  all_goals go_ret
  all_goals exact ⟨ret_bool (by rw [Bool.eq_iff_iff]; simp [inB]; try omega), Own.base (by (repeat (first | (with_reducible exact hO) | (with_reducible apply Own.alloc) | (with_reducible apply Own.drew) | ((with_reducible apply Own.set_at); (focus (show _ ≤ _; omega))))))⟩
theorem krI_is {lo hi : Int} {b : Bool} (h : (inB lo 0 107 && inB hi lo 107) = b) (W : World) :
    Calls Tryd.prog 99 #[.int .i64 lo, .int .i64 hi] W fun e w' => e = .returned (.bool b) ∧ Below W.heap.size W w' := by
  subst h; exact krI_any lo hi W
end Go.Proofs.YtcgcnkddgihkpaaDoor
