/- Integers as cells. -/
import Derived.Test.YtcmhfjpofkgjbaaDoorWalksPS
namespace Go.Proofs.YtcmhfjpofkgjbaaDoor
set_option linter.unusedSimpArgs false
set_option linter.unusedVariables false
set_option maxRecDepth 8000
open Go.RowKit

theorem infoI10 : (Tryd.prog.info? 3).map (fun i => (i.zero, i.size, i.bytes)) = some (some (.int .i64 0), 1, 8) := by kernel_rfl
theorem one1t {x : Int} : ∀ u ∈ [Value.int .i64 x], u.oneCell' = true := by
  intro u hu
  simp at hu
  subst hu
  rfl
def intC (l : List Int) : List Value := l.map (Value.int .i64)
theorem intC_int (u : List Int) : AllInt (intC u) := fun j v h => by
  unfold intC at h
  rw [List.getElem?_map] at h
  cases e : u[j]? with
  | none => rw [e] at h; cases h
  | some z => rw [e] at h; exact ⟨z, (Option.some.inj h).symm⟩
theorem intC_len (u : List Int) : (intC u).length = u.length := by simp [intC]
/-- A number of 64 bits. -/
abbrev i64b (x : Int) : Prop := -9223372036854775808 ≤ x ∧ x ≤ 9223372036854775807
end Go.Proofs.YtcmhfjpofkgjbaaDoor
