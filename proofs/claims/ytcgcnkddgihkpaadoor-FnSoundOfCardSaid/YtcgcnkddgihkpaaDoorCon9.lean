/- What the functions of chapter 9 answer, as contracts; the model keeps them. -/
import Derived.Test.YtcgcnkddgihkpaaDoorWalks9S
import Derived.Test.YtcgcnkddgihkpaaDoorWalks2I
namespace Go.Proofs.YtcgcnkddgihkpaaDoor
set_option linter.unusedSimpArgs false
set_option linter.unusedVariables false
set_option maxRecDepth 8000
open Go.RowKit

/-- All four numbers of an instrument have 64 bits. -/
def i64s (st ha lo hi : Int) : Prop := r64 st ∧ r64 ha ∧ r64 lo ∧ r64 hi
def CIns (f : FuncId) (w : World) : Prop := ∀ (st ha lo hi : Int) (W : World), Below w.heap.size w W → i64s st ha lo hi →
  Calls Tryd.prog f #[.agg #[.int .i64 st, .int .i64 ha, .int .i64 lo, .int .i64 hi]] W fun e w' => e = .returned (.bool (inVB st ha lo hi)) ∧ Below W.heap.size W w'
def CIv (f : FuncId) (g : Int → Int → Int → Int → List Nt → List Nt) (o : Int → Int → Int → Int → List Nt → Bool) (w : World) : Prop := ∀ (va : Value) (v : List Nt) (st ha lo hi : Int) (W : World), Below w.heap.size w W → SlAt W va v.length 6 (vcC v) → v.length ≤ 1048576 → i64s st ha lo hi →
  Calls Tryd.prog f #[.agg #[.int .i64 st, .int .i64 ha, .int .i64 lo, .int .i64 hi], va] W (RowOutB 39 6 (g st ha lo hi v).length (vcC (g st ha lo hi v)) (o st ha lo hi v) W)
def CRf (f : FuncId) (w : World) : Prop := ∀ (va : Value) (v : List Nt) (st ha lo hi : Int) (W : World), Below w.heap.size w W → SlAt W va v.length 6 (vcC v) → v.length ≤ 1048576 → i64s st ha lo hi →
  Calls Tryd.prog f #[.agg #[.int .i64 st, .int .i64 ha, .int .i64 lo, .int .i64 hi], va] W fun e w' => e = .returned (.int .i64 (rfZ st ha lo hi v)) ∧ Below W.heap.size W w'

theorem CIns.is {f : FuncId} {w : World} (h : CIns f w) {st ha lo hi : Int} {b : Bool} (hr : i64s st ha lo hi) (hb : inVB st ha lo hi = b) (W : World) (hW : Below w.heap.size w W) :
    Calls Tryd.prog f #[.agg #[.int .i64 st, .int .i64 ha, .int .i64 lo, .int .i64 hi]] W fun e w' => e = .returned (.bool b) ∧ Below W.heap.size W w' := by
  subst hb; exact h _ _ _ _ W hW hr
theorem CIv.is {f : FuncId} {g : Int → Int → Int → Int → List Nt → List Nt} {o : Int → Int → Int → Int → List Nt → Bool} {w : World} (h : CIv f g o w) {v u : List Nt} {m : Nat} {st ha lo hi : Int} {b : Bool} (hm : v.length = m) (hn : m ≤ 1048576) (hr : i64s st ha lo hi) (hb : o st ha lo hi v = b) (hu : g st ha lo hi v = u) (va : Value) (W : World) (hW : Below w.heap.size w W) (hs : SlAt W va m 6 (vcC v)) :
    Calls Tryd.prog f #[.agg #[.int .i64 st, .int .i64 ha, .int .i64 lo, .int .i64 hi], va] W (RowOutB 39 6 u.length (vcC u) b W) := by
  subst hm hb hu; exact h va v st ha lo hi W hW hs hn hr
theorem CRf.is {f : FuncId} {w : World} (h : CRf f w) {v : List Nt} {m : Nat} {st ha lo hi z : Int} (hm : v.length = m) (hn : m ≤ 1048576) (hr : i64s st ha lo hi) (hz : rfZ st ha lo hi v = z) (va : Value) (W : World) (hW : Below w.heap.size w W) (hs : SlAt W va m 6 (vcC v)) :
    Calls Tryd.prog f #[.agg #[.int .i64 st, .int .i64 ha, .int .i64 lo, .int .i64 hi], va] W fun e w' => e = .returned (.int .i64 z) ∧ Below W.heap.size W w' := by
  subst hm hz; exact h va v st ha lo hi W hW hs hn hr

theorem inS_C (w : World) : CIns 74 w := fun st ha lo hi W _ _ => inS_any st ha lo hi W

theorem wfS_C (w : World) : CIv 41 wfL wfB w := fun va v st ha lo hi W _ hs hn _ => wfS_any va v st ha lo hi W hs hn

theorem sfS_C (w : World) : CIv 44 sfL sfB w := fun va v st ha lo hi W _ hs hn _ => sfS_any va v st ha lo hi W hs hn

end Go.Proofs.YtcgcnkddgihkpaaDoor
