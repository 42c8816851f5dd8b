/- Chapter 5 in the model: turned voices. -/
import Derived.Test.YtcgcnkddgihkpaaDoorWalks5N
namespace Go.Proofs.YtcgcnkddgihkpaaDoor
set_option linter.unusedSimpArgs false
set_option linter.unusedVariables false
set_option maxRecDepth 8000
open Go.RowKit

/-- What TurnVoice hands back. -/
def ttL (v : List Nt) : List Nt := if voB v then tuL v else []
/-- As Own.alloc, the block's number reckoned. -/
theorem Own.allocAt {n b : Nat} {B : World → Prop} {w : World} {t : TypeId} {vs : List Value} {L : List Item} (hb : w.heap.size = b) (h : Own n B w L) : Own n B (w.alloc (.cells vs.toArray t)) (.blk b vs :: L) := by
  subst hb; exact h.alloc
theorem one6g {r y : Bool} {s a o t : Int} : ∀ u ∈ [Value.bool r, .int .i64 s, .int .i64 a, .int .i64 o, .int .i64 t, .bool y], u.oneCell' = true := by
  intro u hu
  simp at hu
  rcases hu with rfl | rfl | rfl | rfl | rfl | rfl <;> rfl
theorem tuL_len (v : List Nt) : (tuL v).length = v.length := tuF_len v false
theorem tuL_up {v : List Nt} {j : Nat} {x : Nt} (hx : (tuL v)[j]? = some x) : (tuL v).take j ++ [x] = (tuL v).take (j + 1) := by
  rw [List.take_add_one, hx]; rfl
theorem tuL_at0 {v : List Nt} {j : Nat} {x : Nt} (hx : v[0]? = some x) (hj : j + 1 = v.length) : (tuL v)[j]? = some { x with y := false } :=
  (tuF_get v false 0 j x hx (by omega)).1 rfl
theorem tuL_at1 {v : List Nt} {j i : Nat} {x z : Nt} (hx : v[i + 1]? = some x) (hz : v[i]? = some z) (hj : i + 1 + j + 1 = v.length) : (tuL v)[j]? = some { x with y := z.y } :=
  (tuF_get v false (i + 1) j x hx hj).2 i z rfl hz