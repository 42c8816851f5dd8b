/- What the functions of chapter 5 answer, as contracts; the model keeps them. -/
import Derived.Test.YtcgcnkddgihkpaaDoorWalks5T
namespace Go.Proofs.YtcgcnkddgihkpaaDoor
set_option linter.unusedSimpArgs false
set_option linter.unusedVariables false
set_option maxRecDepth 8000
open Go.RowKit

/-- What a function of a voice answers: a flag; a number; a voice. -/
def CBool (f : FuncId) (g : List Nt → Bool) (w : World) : Prop := ∀ (va : Value) (v : List Nt) (W : World), Below w.heap.size w W → SlAt W va v.length 6 (vcC v) → v.length ≤ 1048576 → Calls Tryd.prog f #[va] W fun e w' => e = .returned (.bool (g v)) ∧ Below W.heap.size W w'

def CInt (f : FuncId) (g : List Nt → Int) (w : World) : Prop := ∀ (va : Value) (v : List Nt) (W : World), Below w.heap.size w W → SlAt W va v.length 6 (vcC v) → v.length ≤ 1048576 → Calls Tryd.prog f #[va] W fun e w' => e = .returned (.int .i64 (g v)) ∧ Below W.heap.size W w'

def CRow (f : FuncId) (g : List Nt → List Nt) (w : World) : Prop := ∀ (va : Value) (v : List Nt) (W : World), Below w.heap.size w W → SlAt W va v.length 6 (vcC v) → v.length ≤ 1048576 → Calls Tryd.prog f #[va] W (RowOut 39 6 (g v).length (vcC (g v)) W)

theorem CBool.is {f : FuncId} {g : List Nt → Bool} {w : World} (h : CBool f g w) {v : List Nt} {b : Bool} (hn : v.length ≤ 1048576) (hb : g v = b) (va : Value) (W : World) (hW : Below w.heap.size w W) (hs : SlAt W va v.length 6 (vcC v)) : Calls Tryd.prog f #[va] W fun e w' => e = .returned (.bool b) ∧ Below W.heap.size W w' := by
  subst hb; exact h va v W hW hs hn

theorem CInt.is {f : FuncId} {g : List Nt → Int} {w : World} (h : CInt f g w) {v : List Nt} {b : Int} (hn : v.length ≤ 1048576) (hb : g v = b) (va : Value) (W : World) (hW : Below w.heap.size w W) (hs : SlAt W va v.length 6 (vcC v)) : Calls Tryd.prog f #[va] W fun e w' => e = .returned (.int .i64 b) ∧ Below W.heap.size W w' := by
  subst hb; exact h va v W hW hs hn

theorem CRow.is {f : FuncId} {g : List Nt → List Nt} {w : World} (h : CRow f g w) {v u : List Nt} (hn : v.length ≤ 1048576) (hb : g v = u) (va : Value) (W : World) (hW : Below w.heap.size w W) (hs : SlAt W va v.length 6 (vcC v)) : Calls Tryd.prog f #[va] W (RowOut 39 6 u.length (vcC u) W) := by
  subst hb; exact h va v W hW hs hn

theorem voS_C (w : World) : CBool 56 voB w := fun va v W _ hs hn => voS_any va v W hs hn

/-- What NoteAt answers. -/
def CNote (f : FuncId) (w : World) : Prop := ∀ (va : Value) (v : List Nt) (t : Int) (W : World), Below w.heap.size w W → SlAt W va v.length 6 (vcC v) → v.length ≤ 1048576 → -9223372036854775808 ≤ t → t ≤ 9223372036854775807 →
  Calls Tryd.prog f #[va, .int .i64 t] W fun e w' => e = .returned (.int .i64 (naZ v t)) ∧ Below W.heap.size W w'