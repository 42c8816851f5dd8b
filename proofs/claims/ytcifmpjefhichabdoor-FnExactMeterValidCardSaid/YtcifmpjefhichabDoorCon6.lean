/- What the functions of chapter 6 answer, as contracts; the model keeps them. -/
import Derived.Test.YtcifmpjefhichabDoorWalks6S
import Derived.Test.YtcifmpjefhichabDoorCon5
namespace Go.Proofs.YtcifmpjefhichabDoor
set_option linter.unusedSimpArgs false
set_option linter.unusedVariables false
open Go.RowKit

/-- a number of 64 bits. -/
def q64 (x : Int) : Prop := -9223372036854775808 ≤ x ∧ x ≤ 9223372036854775807

/-- What a function of a meter answers: a flag; a number; of a meter and a tick: three numbers. -/
def CMe (f : FuncId) (w : World) : Prop := ∀ (b u : Int) (W : World), Below w.heap.size w W → q64 b → q64 u → Calls Tryd.prog f #[.agg #[.int .i64 b, .int .i64 u]] W fun e w' => e = .returned (.bool (meB b u)) ∧ Below W.heap.size W w'

def CBt (f : FuncId) (w : World) : Prop := ∀ (b u : Int) (W : World), Below w.heap.size w W → q64 b → q64 u → Calls Tryd.prog f #[.agg #[.int .i64 b, .int .i64 u]] W fun e w' => e = .returned (.int .i64 (btZ b u)) ∧ Below W.heap.size W w'

def CBe (f : FuncId) (w : World) : Prop := ∀ (b u t : Int) (W : World), Below w.heap.size w W → q64 b → q64 u → q64 t → Calls Tryd.prog f #[.agg #[.int .i64 b, .int .i64 u], .int .i64 t] W fun e w' => e = .returned (.tuple #[.int .i64 (beX b u t), .int .i64 (beY b u t), .int .i64 (beW b u t)]) ∧ Below W.heap.size W w'

/-- Of a voice and a meter: a number; a voice and a flag. -/
def CBc (f : FuncId) (w : World) : Prop := ∀ (va : Value) (v : List Nt) (b u : Int) (W : World), Below w.heap.size w W → SlAt W va v.length 6 (vcC v) → v.length ≤ 1048576 → q64 b → q64 u → Calls Tryd.prog f #[va, .agg #[.int .i64 b, .int .i64 u]] W fun e w' => e = .returned (.int .i64 (bcZ v b u)) ∧ Below W.heap.size W w'

theorem CMe.is {f : FuncId} {w : World} (h : CMe f w) {b u : Int} {o : Bool} (hb : q64 b) (hu : q64 u) (ho : meB b u = o) (W : World) (hW : Below w.heap.size w W) : Calls Tryd.prog f #[.agg #[.int .i64 b, .int .i64 u]] W fun e w' => e = .returned (.bool o) ∧ Below W.heap.size W w' := by
  subst ho; exact h b u W hW hb hu

theorem CBt.is {f : FuncId} {w : World} (h : CBt f w) {b u z : Int} (hb : q64 b) (hu : q64 u) (hz : btZ b u = z) (W : World) (hW : Below w.heap.size w W) : Calls Tryd.prog f #[.agg #[.int .i64 b, .int .i64 u]] W fun e w' => e = .returned (.int .i64 z) ∧ Below W.heap.size W w' := by
  subst hz; exact h b u W hW hb hu

theorem CBc.is {f : FuncId} {w : World} (h : CBc f w) {v : List Nt} {b u z : Int} (hn : v.length ≤ 1048576) (hb : q64 b) (hu : q64 u) (hz : bcZ v b u = z) (va : Value) (W : World) (hW : Below w.heap.size w W) (hs : SlAt W va v.length 6 (vcC v)) : Calls Tryd.prog f #[va, .agg #[.int .i64 b, .int .i64 u]] W fun e w' => e = .returned (.int .i64 z) ∧ Below W.heap.size W w' := by
  subst hz; exact h va v b u W hW hs hn hb hu

theorem meS_C (w : World) : CMe 4 w := fun b u W _ _ _ => meS_any b u W

theorem ssL_yes {v : List Nt} {b u : Int} (h : spB v b u = true) : ssL v b u = spL (baZ b u) v := by unfold ssL; rw [if_pos h]
theorem ssL_no {v : List Nt} {b u : Int} (h : spB v b u = false) : ssL v b u = [] := by unfold ssL; rw [h]; rfl
theorem fiL_no {v : List Nt} {b u : Int} (h : fiB v b u = false) : fiL v b u = [] := by unfold fiL; rw [h]; rfl
end Go.Proofs.YtcifmpjefhichabDoor
