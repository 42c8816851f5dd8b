/- What ShiftVoice answers, as a contract; the model keeps it. -/
import Derived.Test.YtlbagckpmpdkiaaCon5
import Derived.Test.YtlbagckpmpdkiaaWalks5H
import Derived.Test.YtlbagckpmpdkiaaWalks2I
namespace Go.Proofs.Ytlbagckpmpdkiaa
set_option linter.unusedSimpArgs false
set_option linter.unusedVariables false
set_option maxRecDepth 8000
open Go.RowKit

/-- What ShiftVoice answers. -/
def CShift (f : FuncId) (w : World) : Prop := ∀ (va : Value) (v : List Nt) (st ha : Int) (W : World), Below w.heap.size w W → SlAt W va v.length 6 (vcC v) → v.length ≤ 1048576 → r64 st → r64 ha →
  Calls Try.prog f #[va, .agg #[.int .i64 st, .int .i64 ha]] W (RowOutB 37 6 (shL v st ha).length (vcC (shL v st ha)) (shB v st ha) W)

theorem CShift.is {f : FuncId} {w : World} (h : CShift f w) {v u : List Nt} {st ha : Int} {b : Bool} (hn : v.length ≤ 1048576) (r1 : r64 st) (r2 : r64 ha) (hb : shB v st ha = b) (hu : shL v st ha = u) (va : Value) (W : World) (hW : Below w.heap.size w W) (hs : SlAt W va v.length 6 (vcC v)) :
    Calls Try.prog f #[va, .agg #[.int .i64 st, .int .i64 ha]] W (RowOutB 37 6 u.length (vcC u) b W) := by
  subst hb hu; exact h va v st ha W hW hs hn r1 r2