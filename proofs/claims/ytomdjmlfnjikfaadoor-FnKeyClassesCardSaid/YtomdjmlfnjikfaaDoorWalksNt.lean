/- Notes in memory: their cells; the laws' own functions over notes. -/
import Derived.Test.YtomdjmlfnjikfaaDoorWalksPS
import Derived.Test.YtomdjmlfnjikfaaDoorOwnMake
import Derived.Test.YtomdjmlfnjikfaaDoorPure5
namespace Go.Proofs.YtomdjmlfnjikfaaDoor
set_option linter.unusedSimpArgs false
set_option linter.unusedVariables false
open Go.RowKit

/-- The cells of a note; of a voice. -/
def ntC (x : Nt) : List Value := [.bool x.r, .int .i64 x.s, .int .i64 x.a, .int .i64 x.o, .int .i64 x.t, .bool x.y]
def vcC (v : List Nt) : List Value := v.flatMap ntC
theorem vcC_nil : vcC [] = [] := rfl
theorem vcC_append (u v : List Nt) : vcC (u ++ v) = vcC u ++ vcC v := by simp [vcC]
theorem vcC_snoc (u : List Nt) (x : Nt) : vcC u ++ [.bool x.r, .int .i64 x.s, .int .i64 x.a, .int .i64 x.o, .int .i64 x.t, .bool x.y] = vcC (u ++ [x]) := by simp [vcC, ntC]
theorem vcC_len : ∀ v : List Nt, (vcC v).length = v.length * 6
  | [] => rfl
  | x :: l => by
    have := vcC_len l
    simp only [vcC, List.flatMap_cons, List.length_append, List.length_cons] at this ⊢
    rw [this]
    have hx : (ntC x).length = 6 := rfl
    omega
theorem vcC_at : ∀ {v : List Nt} {k : Nat} {x : Nt}, v[k]? = some x → (vcC v)[k * 6]? = some (.bool x.r) ∧ (vcC v)[k * 6 + 1]? = some (.int .i64 x.s) ∧ (vcC v)[k * 6 + 2]? = some (.int .i64 x.a) ∧ (vcC v)[k * 6 + 3]? = some (.int .i64 x.o) ∧ (vcC v)[k * 6 + 4]? = some (.int .i64 x.t) ∧ (vcC v)[k * 6 + 5]? = some (.bool x.y)
  | [], k, x, h => by simp at h
  | z :: l, 0, x, h => by
    simp at h
    subst h
    exact ⟨rfl, rfl, rfl, rfl, rfl, rfl⟩
  | z :: l, k + 1, x, h => by
    have ih := vcC_at (v := l) (k := k) (x := x) (by simpa using h)
    have hz : (ntC z).length = 6 := rfl
    have e : ∀ i, (vcC (z :: l))[(k + 1) * 6 + i]? = (vcC l)[k * 6 + i]? := fun i => by
      show (ntC z ++ vcC l)[(k + 1) * 6 + i]? = _
      rw [List.getElem?_append_right (by omega)]
      congr 1; omega
    have e0 := e 0
    simp only [Nat.add_zero] at e0
    rw [e0, e 1, e 2, e 3, e 4, e 5]
    exact ih
theorem one6 {x : Nt} : ∀ u ∈ [Value.bool x.r, .int .i64 x.s, .int .i64 x.a, .int .i64 x.o, .int .i64 x.t, .bool x.y], u.oneCell' = true := by
  intro u hu
  simp at hu
  rcases hu with rfl | rfl | rfl | rfl | rfl | rfl <;> rfl