/- What each function of chapter 1 does to the world. -/
import Derived.Test.YtlbagckpmpdkiaaRows
import Derived.Test.YtlbagckpmpdkiaaPure1
import Derived.WalkKit
import Derived.WalkSpells
import Derived.WalkLawsBesides
import Derived.Deep.QuietTactic
import Derived.BigQuiet
import Derived.Lib.LaidTab
import Derived.Lib.SmallJoins
import Derived.Deep.RegionHeld3
namespace Go.Proofs.Ytlbagckpmpdkiaa
set_option linter.unusedSimpArgs false
set_option linter.unusedVariables false
set_option maxRecDepth 8000
open Go.RowKit

set_option maxHeartbeats 400000 in
theorem in_any (n lo hi : Int) (w : World) :
    Calls Try.prog 30 #[.int .i64 n, .int .i64 lo, .int .i64 hi] w fun e w' => e = .returned (.bool (inB n lo hi)) ∧ w = w' := by
  unfold inB
  by_cases h1 : lo ≤ n <;> by_cases h2 : n ≤ hi
  all_goals
    go_enter Try.func30, Try.ntmps30
    go_wp2
    go_ret
    simp [h1, h2]

set_option maxHeartbeats 400000 in
theorem toPitch_any (s a o : Int) (w : World) :
    Calls Try.prog 21 #[.agg #[.int .i64 s, .int .i64 a, .int .i64 o]] w fun e w' => e = .returned (.agg #[.int .i64 s, .int .i64 a, .int .i64 o]) ∧ Below w.heap.size w w' := by
  go_enter Try.func21, Try.ntmps21
  go_wp2
  exact bodyPost_ret (v := .agg #[.int .i64 s, .int .i64 a, .int .i64 o]) (by simp [results, Try.results21, go_sem]) rfl ⟨rfl, below3 _ _ _⟩

set_option maxHeartbeats 400000 in
theorem pvI_any (s a o : Int) (w : World) :
    Calls Try.prog 32 #[.agg #[.int .i64 s, .int .i64 a, .int .i64 o]] w fun e w' => e = .returned (.bool (pvB s a o)) ∧ Below w.heap.size w w' := by
  go_enter Try.func32, Try.ntmps32
  go_wp2
  all_goals
    go_ret
    exact ⟨ret_bool (by rw [Bool.eq_iff_iff, pvB_iff]; simp; omega), below1 _⟩

set_option maxHeartbeats 400000 in
theorem pvS_any (s a o : Int) (w : World) :
    Calls Try.prog 31 #[.agg #[.int .i64 s, .int .i64 a, .int .i64 o]] w fun e w' => e = .returned (.bool (pvB s a o)) ∧ Below w.heap.size w w' := by
  go_enter Try.func31, Try.ntmps31
  go_wp2_with (go_at_call 30; refine (in_any _ _ _ _).mono ?_; rintro e w1 ⟨rfl, rfl⟩)
  all_goals
    go_ret
    exact ⟨ret_bool (by unfold pvB; simp_all), below1 _⟩

/- eqPitch of a pitch and itself. -/
open Go.RowKit

set_option maxHeartbeats 400000 in
theorem eqPitch_same (s a o : Int) (w : World) :
    Calls Try.prog 29 #[.agg #[.int .i64 s, .int .i64 a, .int .i64 o], .agg #[.int .i64 s, .int .i64 a, .int .i64 o]] w fun e w' => e = .returned (.bool true) ∧ Below w.heap.size w w' := by
  go_enter Try.func29, Try.ntmps29
  go_wp2
  go_ret
  exact ⟨rfl, below2 _ _⟩

/- PitchPlace, in the program and in the model. -/
open Go.RowKit

/- PitchKey, in the program and in the model. -/
open Go.RowKit Go.Joins

def halL : List Int := [0, 2, 4, 5, 7, 9, 11]

/-- The table of half tones lies as its text lays it. -/
def TabH (w : World) : Prop := Lib.TabIs Try.prog w "loop.example/musicengine/impl.stepHalves" .i64 halL

theorem natZ_of {p q j : Int} (h : p + 7 * j = q) : natZ p = 12 * (-j + q / 7) + halZ (q % 7) := by
  unfold natZ
  rw [show p / 7 = -j + q / 7 by omega, show p % 7 = q % 7 by omega]