/- Chapter 4 in the model: values and their ticks. -/
import Derived.Test.YtcifmpjefhichabDoorWalks1
import Derived.Test.YtcifmpjefhichabDoorPure4
import Derived.Test.YtcifmpjefhichabDoorOwnMake
import Derived.Test.YtcifmpjefhichabDoorRegion
namespace Go.Proofs.YtcifmpjefhichabDoor
set_option linter.unusedSimpArgs false
set_option linter.unusedVariables false
open Go.RowKit

theorem tickZ_eq (b d t : Int) : tickZ b d t = if t = 3 then (if d = 1 then 192 / b * 3 / 2 else if d = 2 then 192 / b * 7 / 4 else 192 / b) * 2 / 3 else (if d = 1 then 192 / b * 3 / 2 else if d = 2 then 192 / b * 7 / 4 else 192 / b) := rfl

/- Chapter 4 in the model: the list of all values. -/
open Go.RowKit

/-- The cells of a value. -/
def vC (v : Int × Int × Int) : List Value := [.int .i64 v.1, .int .i64 v.2.1, .int .i64 v.2.2]
/-- The cells of the first k values. -/
def vaC (k : Nat) : List Value := (vaL.take k).flatMap vC
theorem vaC_up {k : Nat} {b d t : Int} (h : vaL[k]? = some (b, d, t)) : vaC k ++ [.int .i64 b, .int .i64 d, .int .i64 t] = vaC (k + 1) := by
  unfold vaC
  rw [List.take_add_one, h, List.flatMap_append]
  simp [vC]
theorem one3v {x y z : Int} : ∀ u ∈ [Value.int .i64 x, .int .i64 y, .int .i64 z], u.oneCell' = true := by
  intro u hu
  simp at hu
  rcases hu with rfl | rfl | rfl <;> rfl
def pw (l : Nat) : Int := (2 : Int) ^ l
theorem pw_up (l : Nat) : 2 * pw l = pw (l + 1) := by unfold pw; rw [Int.pow_succ]; omega
theorem pw_bd0 : ∀ l : Fin 5, 1 ≤ pw l.val ∧ pw l.val ≤ 16 := by decide +kernel
theorem pw_bd {l : Nat} (h : l < 5) : 1 ≤ pw l ∧ pw l ≤ 16 := pw_bd0 ⟨l, h⟩
theorem pw_5 : pw 5 = 32 := by decide
theorem vaL_at0 : ∀ i : Fin 2, ∀ j : Fin 3, ∀ l : Fin 5, vaL[15 * i.val + 5 * j.val + l.val]? = some (pw l.val, (j.val : Int), 2 * (i.val : Int) + 1) := by decide +kernel
theorem vaL_at {i j l : Nat} (hi : i < 2) (hj : j < 3) (hl : l < 5) : vaL[15 * i + 5 * j + l]? = some (pw l, (j : Int), 2 * (i : Int) + 1) := vaL_at0 ⟨i, hi⟩ ⟨j, hj⟩ ⟨l, hl⟩