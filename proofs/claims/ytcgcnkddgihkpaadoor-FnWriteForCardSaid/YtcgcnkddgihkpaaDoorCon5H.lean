/- What ShiftVoice answers, as a contract; the model keeps it. -/
import Derived.Test.YtcgcnkddgihkpaaDoorCon5
import Derived.Test.YtcgcnkddgihkpaaDoorWalks5H
import Derived.Test.YtcgcnkddgihkpaaDoorWalks2I
namespace Go.Proofs.YtcgcnkddgihkpaaDoor
set_option linter.unusedSimpArgs false
set_option linter.unusedVariables false
set_option maxRecDepth 8000
open Go.RowKit

/-- What ShiftVoice answers. -/
def CShift (f : FuncId) (w : World) : Prop := ∀ (va : Value) (v : List Nt) (st ha : Int) (W : World), Below w.heap.size w W → SlAt W va v.length 6 (vcC v) → v.length ≤ 1048576 → r64 st → r64 ha →
  Calls Tryd.prog f #[va, .agg #[.int .i64 st, .int .i64 ha]] W (RowOutB 39 6 (shL v st ha).length (vcC (shL v st ha)) (shB v st ha) W)

theorem CShift.is {f : FuncId} {w : World} (h : CShift f w) {v u : List Nt} {st ha : Int} {b : Bool} (hn : v.length ≤ 1048576) (r1 : r64 st) (r2 : r64 ha) (hb : shB v st ha = b) (hu : shL v st ha = u) (va : Value) (W : World) (hW : Below w.heap.size w W) (hs : SlAt W va v.length 6 (vcC v)) :
    Calls Tryd.prog f #[va, .agg #[.int .i64 st, .int .i64 ha]] W (RowOutB 39 6 u.length (vcC u) b W) := by
  subst hb hu; exact h va v st ha W hW hs hn r1 r2

theorem svS_C (w : World) : CShift 36 w := fun va v st ha W _ hs hn _ _ => svS_any va v st ha W hs hn
theorem shL_yes {v : List Nt} {st ha : Int} (h : shB v st ha = true) : shL v st ha = v.map (shX st ha) := by unfold shL; rw [if_pos h]
theorem shL_no {v : List Nt} {st ha : Int} (h : shB v st ha = false) : shL v st ha = [] := by unfold shL; rw [h]; rfl
theorem shL_len (v : List Nt) (st ha : Int) : (shL v st ha).length ≤ v.length := by
  unfold shL
  split
  · simp
  · simp
end Go.Proofs.YtcgcnkddgihkpaaDoor
