/- PitchKey, in the program and in the model. -/
import Derived.Test.YtefbphmlhghojaaDoorWalksPlace
import Derived.Lib.LaidTab
import Derived.Lib.SmallJoins
import Derived.Deep.RegionHeld3
namespace Go.Proofs.YtefbphmlhghojaaDoor
set_option linter.unusedSimpArgs false
set_option linter.unusedVariables false
open Go.RowKit Go.Joins

def halL : List Int := [0, 2, 4, 5, 7, 9, 11]

/-- The table of half tones lies as its text lays it. -/
def TabH (w : World) : Prop := Lib.TabIs Tryd.prog w "loop.example/musicengine/impl.stepHalves" .i64 halL

theorem gH : Tryd.prog.globalNamed "loop.example/musicengine/impl.stepHalves" = some 0 := by kernel_rfl
theorem TabH.below {w w' : World} (h : TabH w) (hb : Below w.heap.size w w') : TabH w' := tab_stays gH h hb (Nat.le_refl _)

theorem TabH.cell {w : World} (h : TabH w) {s : Int} (h0 : 0 ≤ s) (h6 : s ≤ 6) : w.cell? ⟨0, s.toNat, none⟩ = some (.int .i64 (halZ s)) := by
  rw [Lib.TabIs.cell h gH s.toNat (by simp [halL]; omega)]
  rcases step7 h0 h6 with rfl | rfl | rfl | rfl | rfl | rfl | rfl <;> rfl

theorem natZ_of {p q j : Int} (h : p + 7 * j = q) : natZ p = 12 * (-j + q / 7) + halZ (q % 7) := by
  unfold natZ
  rw [show p / 7 = -j + q / 7 by omega, show p % 7 = q % 7 by omega]

set_option maxHeartbeats 1000000 in
theorem plainH_any (n : Int) (w : World) (h0 : 0 ≤ n) (h1 : n ≤ 1000000) (ht : TabH w) :
    Calls Tryd.prog 58 #[.int .i64 n] w fun e w' => e = .returned (.int .i64 (natZ n)) ∧ w = w' := by
  have hcl := ht.cell (s := n % 7) (by omega) (by omega)
  have hh := halZ_bd (n % 7)
  have i0 : 0 ≤ n % 7 := by omega
  have i1 : n % 7 < 7 := by omega
  have q0 : 0 ≤ n / 7 := by omega
  have q1 : n / 7 ≤ 1000000 := by omega
  go_enter Tryd.func58, Tryd.ntmps58
  go_wp2
  go_ret
  exact ⟨ret_int (by unfold natZ; rfl), rfl⟩

set_option maxHeartbeats 1000000 in
theorem keyI_any (s a o : Int) (w : World) (ht : TabH w) :
    Calls Tryd.prog 40 #[.agg #[.int .i64 s, .int .i64 a, .int .i64 o]] w fun e w' => e = .returned (.int .i64 (keyZ s a o)) ∧ Below w.heap.size w w' := by
  by_cases hv : pvB s a o = true
  · obtain ⟨⟨h1, h2⟩, ⟨h3, h4⟩, ⟨h5, h6⟩⟩ := pvB_iff.1 hv
    have hn := natZ_bd (p := 7 * o + s) (by omega)
    go_enter Tryd.func40, Tryd.ntmps40
    go_wp2_with (first | (go_at_call 53; refine (number_yes s a o _ hv).mono ?_; rintro e w1 ⟨rfl, hb⟩; (first | have hA2 := btr hA hb | have hA2 := hb); (try clear hA hc hf hz); clear hb; have hA := hA2; clear hA2; obtain ⟨hc, hf⟩ := bcell hA; have hz := hA.size; try simp only [World.size_alloc1] at hz) | (go_at_call 54; refine (numPlace_of s a o _ hv).mono ?_; rintro e w1 ⟨rfl, rfl⟩) | (go_at_call 58; refine (plainH_any (7 * o + s) _ (by omega) (by omega) (ht.below (boxed1 hA))).mono ?_; rintro e w1 ⟨rfl, rfl⟩) | (go_at_call 56; refine (numAlter_of s a o _ hv).mono ?_; rintro e w1 ⟨rfl, rfl⟩))
    go_ret
    exact ⟨ret_int (by rw [keyZ, if_pos hv]), boxed1 hA⟩
  · rw [Bool.not_eq_true] at hv
    go_enter Tryd.func40, Tryd.ntmps40
    go_wp2_with (go_at_call 53; refine (number_no s a o _ hv).mono ?_; rintro e w1 ⟨rfl, hb⟩; (first | have hA2 := btr hA hb | have hA2 := hb); (try clear hA hc hf hz); clear hb; have hA := hA2; clear hA2; obtain ⟨hc, hf⟩ := bcell hA; have hz := hA.size; try simp only [World.size_alloc1] at hz)
    go_ret
    exact ⟨ret_int (by simp [keyZ, hv]), boxed1 hA⟩