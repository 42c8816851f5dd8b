/- Chapter 3 in the model. -/
import Derived.Test.YtjfmbklgkmkgjaaDoorWalks1
import Derived.Test.YtjfmbklgkmkgjaaDoorPure3
import Derived.Test.YtjfmbklgkmkgjaaDoorOwn
import Derived.Test.YtjfmbklgkmkgjaaDoorRegion
namespace Go.Proofs.YtjfmbklgkmkgjaaDoor
set_option linter.unusedSimpArgs false
set_option linter.unusedVariables false
set_option maxRecDepth 8000
open Go.RowKit

theorem ord_cell {w : World} {s : Int} {t : TypeId} (h0 : 0 ≤ s) (h6 : s ≤ 6) : (w.alloc (.cells #[.int .i64 1, .int .i64 3, .int .i64 5, .int .i64 0, .int .i64 2, .int .i64 4, .int .i64 6] t)).cell? ⟨w.heap.size, s.toNat, none⟩ = some (.int .i64 (ordZ s)) := by
  rcases step7 h0 h6 with rfl | rfl | rfl | rfl | rfl | rfl | rfl <;> simp [ordZ]

set_option maxHeartbeats 1000000 in
theorem altS_any (f s : Int) (w : World) (h0 : 0 ≤ s) (h6 : s ≤ 6) :
    Calls Tryd.prog 69 #[.int .i64 f, .int .i64 s] w fun e w' => e = .returned (.int .i64 (altZ f s)) ∧ Below w.heap.size w w' := by
  have hc := fun t => ord_cell (w := w) (t := t) h0 h6
  have hb := ordZ_bd s
  have e1 : IntKind.i64.wrap (ordZ s - 6) = ordZ s - 6 := IntWalk.i64_in _ (by omega)
  have s1 : s < 7 := by omega
  by_cases h1 : ordZ s < f
  · have HE := hid (show altZ f s = 1 by rw [altZ, if_pos h1])
    go_enter Tryd.func69, Tryd.ntmps69
    go_wp2
    go_ret
    exact ⟨ret_int HE.out.symm, below1 _⟩
  by_cases h2 : f < ordZ s - 6
  · have HE := hid (show altZ f s = -1 by rw [altZ, if_neg h1, if_pos h2])
    go_enter Tryd.func69, Tryd.ntmps69
    go_wp2
    go_ret
    exact ⟨ret_int HE.out.symm, below1 _⟩
  · have HE := hid (show altZ f s = 0 by rw [altZ, if_neg h1, if_neg h2])
    go_enter Tryd.func69, Tryd.ntmps69
    go_wp2
    go_ret
    exact ⟨ret_int HE.out.symm, below1 _⟩

set_option maxHeartbeats 1000000 in
theorem tonS_any (f : Int) (m : Bool) (w : World) (h0 : -7 ≤ f) (h1 : f ≤ 7) :
    Calls Tryd.prog 68 #[.int .i64 f, .bool m] w fun e w' => e = .returned (.int .i64 (tonZ f m)) ∧ w = w' := by
  have q0 : 0 ≤ 4 * f + 70 := by omega
  cases m
  · have HE := hid (show tonZ f false = (4 * f + 70) % 7 by simp [tonZ])
    go_enter Tryd.func68, Tryd.ntmps68
    go_wp2
    go_ret
    exact ⟨ret_int HE.out.symm, rfl⟩
  · have HE := hid (show tonZ f true = ((4 * f + 70) % 7 + 5) % 7 by simp [tonZ])
    have q1 : 0 ≤ (4 * f + 70) % 7 := by omega
    have q2 : (4 * f + 70) % 7 ≤ 6 := by omega
    go_enter Tryd.func68, Tryd.ntmps68
    go_wp2
    go_ret
    exact ⟨ret_int HE.out.symm, rfl⟩