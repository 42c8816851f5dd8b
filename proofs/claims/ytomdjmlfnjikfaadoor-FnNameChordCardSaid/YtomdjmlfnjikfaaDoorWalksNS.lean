/- The laws' own functions over voices: copies; equal ones are found equal. -/
import Derived.Test.YtomdjmlfnjikfaaDoorWalksNt
import Derived.Test.YtomdjmlfnjikfaaDoorOwnMake
namespace Go.Proofs.YtomdjmlfnjikfaaDoor
set_option linter.unusedSimpArgs false
set_option linter.unusedVariables false
open Go.RowKit

theorem noteAt {w : World} {b off cap n : Nat} {v : List Nt} (h : SlAt w (.slice (some ⟨b, off, none⟩) n cap) n 6 (vcC v)) {j : Nat} {x : Nt} (hx : v[j]? = some x) :
    w.cell? ⟨b, off + j * 6, none⟩ = some (.bool x.r) ∧ w.cell? ⟨b, off + j * 6 + 1, none⟩ = some (.int .i64 x.s) ∧ w.cell? ⟨b, off + j * 6 + 2, none⟩ = some (.int .i64 x.a) ∧ w.cell? ⟨b, off + j * 6 + 3, none⟩ = some (.int .i64 x.o) ∧ w.cell? ⟨b, off + j * 6 + 4, none⟩ = some (.int .i64 x.t) ∧ w.cell? ⟨b, off + j * 6 + 5, none⟩ = some (.bool x.y) := by
  obtain ⟨h0, h1, h2, h3, h4, h5⟩ := vcC_at hx
  exact ⟨h.cellAt h0, h.cellAt h1, h.cellAt h2, h.cellAt h3, h.cellAt h4, h.cellAt h5⟩

def nt0 : Nt := ⟨false, 0, 0, 0, 0, false⟩
theorem madeN (n : Nat) : (madeCells (Value.agg #[.bool false, .int .i64 0, .int .i64 0, .int .i64 0, .int .i64 0, .bool false]).cells (n * 6)).toList = vcC (List.replicate n nt0) := by
  have hz : (Value.agg #[.bool false, .int .i64 0, .int .i64 0, .int .i64 0, .int .i64 0, .bool false]).cells = #[.bool false, .int .i64 0, .int .i64 0, .int .i64 0, .int .i64 0, .bool false] := by kernel_rfl
  rw [hz]
  have := made_rep #[Value.bool false, .int .i64 0, .int .i64 0, .int .i64 0, .int .i64 0, .bool false] (by decide) n
  rw [show (#[Value.bool false, .int .i64 0, .int .i64 0, .int .i64 0, .int .i64 0, .bool false] : Array Value).size = 6 from rfl] at this
  rw [this, vcC, List.flatMap_def, List.map_replicate]
  rfl
theorem set6 {α : Type} {a b c d e f a' b' c' d' e' f' : α} {zs : List α} {i : Nat} : ∀ {xs : List α}, xs.length = i → ((((((xs ++ a :: b :: c :: d :: e :: f :: zs).set i a').set (i + 1) b').set (i + 2) c').set (i + 3) d').set (i + 4) e').set (i + 5) f' = xs ++ (a' :: b' :: c' :: d' :: e' :: f' :: zs) := by
  intro xs h
  subst h
  simp [List.set_append]
/-- Note j is laid. -/
theorem vcC_put {u : List Nt} {z x : Nt} {r : List Nt} {j : Nat} (h : u.length = j) :
    ((((((vcC (u ++ z :: r)).set (j * 6) (.bool x.r)).set (j * 6 + 1) (.int .i64 x.s)).set (j * 6 + 2) (.int .i64 x.a)).set (j * 6 + 3) (.int .i64 x.o)).set (j * 6 + 4) (.int .i64 x.t)).set (j * 6 + 5) (.bool x.y) = vcC (u ++ x :: r) := by
  have hl := vcC_len u
  rw [vcC_append, vcC_append]
  show ((((((vcC u ++ (_ :: _ :: _ :: _ :: _ :: _ :: vcC r)).set _ _).set _ _).set _ _).set _ _).set _ _).set _ _ = _
  rw [set6 (by omega)]
  rfl
/-- The first j notes are laid, the others are zero. -/
def mixN (v : List Nt) (j : Nat) : List Nt := v.take j ++ List.replicate (v.length - j) nt0
theorem mixN_len (v : List Nt) (j : Nat) (h : j ≤ v.length) : (mixN v j).length = v.length := by simp [mixN]; omega
theorem mixN_full (v : List Nt) : mixN v v.length = v := by simp [mixN]
theorem mixN_zero (v : List Nt) : mixN v 0 = List.replicate v.length nt0 := by simp [mixN]
theorem mixN_put {v : List Nt} {j : Nat} {x : Nt} (hx : v[j]? = some x) :
    ((((((vcC (mixN v j)).set (j * 6) (.bool x.r)).set (j * 6 + 1) (.int .i64 x.s)).set (j * 6 + 2) (.int .i64 x.a)).set (j * 6 + 3) (.int .i64 x.o)).set (j * 6 + 4) (.int .i64 x.t)).set (j * 6 + 5) (.bool x.y) = vcC (mixN v (j + 1)) := by
  have hl := (List.getElem?_eq_some_iff.1 hx).1
  unfold mixN
  rw [show v.length - j = (v.length - (j + 1)) + 1 by omega, List.replicate_succ, vcC_put (by simp; omega), List.take_add_one, hx]
  simp [vcC_append]

end Go.Proofs.YtomdjmlfnjikfaaDoor
