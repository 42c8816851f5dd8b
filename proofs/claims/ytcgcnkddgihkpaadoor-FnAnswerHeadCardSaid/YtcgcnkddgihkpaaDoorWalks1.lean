/- What each function of chapter 1 does to the world. -/
import Derived.Test.YtcgcnkddgihkpaaDoorRows
import Derived.Test.YtcgcnkddgihkpaaDoorPure1
import Derived.WalkKit
import Derived.WalkSpells
import Derived.WalkLawsBesides
import Derived.Deep.QuietTactic
import Derived.BigQuiet
import Derived.Lib.LaidTab
import Derived.Lib.SmallJoins
import Derived.Deep.RegionHeld3
namespace Go.Proofs.YtcgcnkddgihkpaaDoor
set_option linter.unusedSimpArgs false
set_option linter.unusedVariables false
set_option maxRecDepth 8000
open Go.RowKit

set_option maxHeartbeats 400000 in
theorem in_any (n lo hi : Int) (w : World) :
    Calls Tryd.prog 55 #[.int .i64 n, .int .i64 lo, .int .i64 hi] w fun e w' => e = .returned (.bool (inB n lo hi)) ∧ w = w' := by
  unfold inB
  by_cases h1 : lo ≤ n <;> by_cases h2 : n ≤ hi
  all_goals
    go_enter Tryd.func55, Tryd.ntmps55
    go_wp2
    go_ret
    simp [h1, h2]

set_option maxHeartbeats 400000 in
theorem toPitch_any (s a o : Int) (w : World) :
    Calls Tryd.prog 91 #[.agg #[.int .i64 s, .int .i64 a, .int .i64 o]] w fun e w' => e = .returned (.agg #[.int .i64 s, .int .i64 a, .int .i64 o]) ∧ Below w.heap.size w w' := by
  go_enter Tryd.func91, Tryd.ntmps91
  go_wp2
  exact bodyPost_ret (v := .agg #[.int .i64 s, .int .i64 a, .int .i64 o]) (by simp [results, Tryd.results91, go_sem]) rfl ⟨rfl, below3 _ _ _⟩

set_option maxHeartbeats 400000 in
theorem pvI_any (s a o : Int) (w : World) :
    Calls Tryd.prog 59 #[.agg #[.int .i64 s, .int .i64 a, .int .i64 o]] w fun e w' => e = .returned (.bool (pvB s a o)) ∧ Below w.heap.size w w' := by
  go_enter Tryd.func59, Tryd.ntmps59
  go_wp2
  all_goals
    go_ret
    exact ⟨ret_bool (by rw [Bool.eq_iff_iff, pvB_iff]; simp; omega), below1 _⟩

set_option maxHeartbeats 400000 in
theorem pvS_any (s a o : Int) (w : World) :
    Calls Tryd.prog 87 #[.agg #[.int .i64 s, .int .i64 a, .int .i64 o]] w fun e w' => e = .returned (.bool (pvB s a o)) ∧ Below w.heap.size w w' := by
  go_enter Tryd.func87, Tryd.ntmps87
  go_wp2_with (go_at_call 55; refine (in_any _ _ _ _).mono ?_; rintro e w1 ⟨rfl, rfl⟩)
  all_goals
    go_ret
    exact ⟨ret_bool (by unfold pvB; simp_all), below1 _⟩

/- eqPitch of a pitch and itself. -/
open Go.RowKit

set_option maxHeartbeats 400000 in
theorem eqPitch_same (s a o : Int) (w : World) :
    Calls Tryd.prog 92 #[.agg #[.int .i64 s, .int .i64 a, .int .i64 o], .agg #[.int .i64 s, .int .i64 a, .int .i64 o]] w fun e w' => e = .returned (.bool true) ∧ Below w.heap.size w w' := by
  go_enter Tryd.func92, Tryd.ntmps92
  go_wp2
  go_ret
  exact ⟨rfl, below2 _ _⟩

/- PitchPlace, in the program and in the model. -/
open Go.RowKit

set_option maxHeartbeats 400000 in
theorem placeS_any (s a o : Int) (w : World) :
    Calls Tryd.prog 88 #[.agg #[.int .i64 s, .int .i64 a, .int .i64 o]] w fun e w' => e = .returned (.int .i64 (placeZ s a o)) ∧ Below w.heap.size w w' := by
  by_cases hv : pvB s a o = true
  · have hp := pvB_iff.1 hv
    obtain ⟨⟨h1, h2⟩, ⟨h3, h4⟩, ⟨h5, h6⟩⟩ := hp
    go_enter Tryd.func88, Tryd.ntmps88
    go_wp2_with (go_at_call 87; refine (pvS_any _ _ _ _).mono ?_; rintro e w1 ⟨rfl, hb⟩; (first | have hA2 := btr hA hb | have hA2 := hb); (try clear hA hc hf hz); clear hb; have hA := hA2; clear hA2; obtain ⟨hc, hf⟩ := bcell hA; have hz := hA.size; try simp only [World.size_alloc1] at hz)
    go_ret
    exact ⟨ret_int (by simp [placeZ, hv]), boxed1 hA⟩
  · rw [Bool.not_eq_true] at hv
    go_enter Tryd.func88, Tryd.ntmps88
    go_wp2_with (go_at_call 87; refine (pvS_any _ _ _ _).mono ?_; rintro e w1 ⟨rfl, hb⟩; (first | have hA2 := btr hA hb | have hA2 := hb); (try clear hA hc hf hz); clear hb; have hA := hA2; clear hA2; obtain ⟨hc, hf⟩ := bcell hA; have hz := hA.size; try simp only [World.size_alloc1] at hz)
    go_ret
    exact ⟨ret_int (by simp [placeZ, hv]), boxed1 hA⟩

set_option maxHeartbeats 400000 in
theorem number_yes (s a o : Int) (w : World) (hv : pvB s a o = true) :
    Calls Tryd.prog 78 #[.agg #[.int .i64 s, .int .i64 a, .int .i64 o]] w fun e w' => e = .returned (.tuple #[.int .i64 ((7 * o + s) * 5 + a + 2), .bool true]) ∧ Below w.heap.size w w' := by
  obtain ⟨⟨h1, h2⟩, ⟨h3, h4⟩, ⟨h5, h6⟩⟩ := pvB_iff.1 hv
  go_enter Tryd.func78, Tryd.ntmps78
  go_wp2_with (go_at_call 59; refine (pvI_any _ _ _ _).mono ?_; rintro e w1 ⟨rfl, hb⟩; (first | have hA2 := btr hA hb | have hA2 := hb); (try clear hA hc hf hz); clear hb; have hA := hA2; clear hA2; obtain ⟨hc, hf⟩ := bcell hA; have hz := hA.size; try simp only [World.size_alloc1] at hz)
  go_ret2
  exact ⟨rfl, boxed1 hA⟩

set_option maxHeartbeats 400000 in
theorem number_no (s a o : Int) (w : World) (hv : pvB s a o = false) :
    Calls Tryd.prog 78 #[.agg #[.int .i64 s, .int .i64 a, .int .i64 o]] w fun e w' => e = .returned (.tuple #[.int .i64 0, .bool false]) ∧ Below w.heap.size w w' := by
  go_enter Tryd.func78, Tryd.ntmps78
  go_wp2_with (go_at_call 59; refine (pvI_any _ _ _ _).mono ?_; rintro e w1 ⟨rfl, hb⟩; (first | have hA2 := btr hA hb | have hA2 := hb); (try clear hA hc hf hz); clear hb; have hA := hA2; clear hA2; obtain ⟨hc, hf⟩ := bcell hA; have hz := hA.size; try simp only [World.size_alloc1] at hz)
  go_ret2
  exact ⟨rfl, boxed1 hA⟩

set_option maxHeartbeats 400000 in
theorem numPlace_any (n : Int) (w : World) (h0 : 0 ≤ n) (h1 : n ≤ 1000000) :
    Calls Tryd.prog 80 #[.int .i64 n] w fun e w' => e = .returned (.int .i64 (n / 5)) ∧ w = w' := by
  go_enter Tryd.func80, Tryd.ntmps80
  go_wp2
  go_ret
  exact ⟨rfl, rfl⟩

set_option maxHeartbeats 400000 in
theorem numAlter_any (n : Int) (w : World) (h0 : 0 ≤ n) (h1 : n ≤ 1000000) :
    Calls Tryd.prog 81 #[.int .i64 n] w fun e w' => e = .returned (.int .i64 (n % 5 - 2)) ∧ w = w' := by
  have h2 : 0 ≤ n % 5 := by omega
  have h3 : n % 5 ≤ 4 := by omega
  go_enter Tryd.func81, Tryd.ntmps81
  go_wp2
  go_ret
  exact ⟨rfl, rfl⟩

theorem numPlace_of (s a o : Int) (w : World) (hv : pvB s a o = true) :
    Calls Tryd.prog 80 #[.int .i64 ((7 * o + s) * 5 + a + 2)] w fun e w' => e = .returned (.int .i64 (7 * o + s)) ∧ w = w' := by
  obtain ⟨⟨h1, h2⟩, ⟨h3, h4⟩, ⟨h5, h6⟩⟩ := pvB_iff.1 hv
  refine (numPlace_any _ w (by omega) (by omega)).mono fun e w' ⟨he, hw⟩ => ⟨?_, hw⟩
  rw [he, show ((7 * o + s) * 5 + a + 2) / 5 = 7 * o + s by omega]

theorem numAlter_of (s a o : Int) (w : World) (hv : pvB s a o = true) :
    Calls Tryd.prog 81 #[.int .i64 ((7 * o + s) * 5 + a + 2)] w fun e w' => e = .returned (.int .i64 a) ∧ w = w' := by
  obtain ⟨⟨h1, h2⟩, ⟨h3, h4⟩, ⟨h5, h6⟩⟩ := pvB_iff.1 hv
  refine (numAlter_any _ w (by omega) (by omega)).mono fun e w' ⟨he, hw⟩ => ⟨?_, hw⟩
  rw [he, show ((7 * o + s) * 5 + a + 2) % 5 - 2 = a by omega]

set_option maxHeartbeats 400000 in
theorem placeI_any (s a o : Int) (w : World) :
    Calls Tryd.prog 98 #[.agg #[.int .i64 s, .int .i64 a, .int .i64 o]] w fun e w' => e = .returned (.int .i64 (placeZ s a o)) ∧ Below w.heap.size w w' := by
  by_cases hv : pvB s a o = true
  · obtain ⟨⟨h1, h2⟩, ⟨h3, h4⟩, ⟨h5, h6⟩⟩ := pvB_iff.1 hv
    go_enter Tryd.func98, Tryd.ntmps98
    go_wp2_with (first | (go_at_call 78; refine (number_yes s a o _ hv).mono ?_; rintro e w1 ⟨rfl, hb⟩; (first | have hA2 := btr hA hb | have hA2 := hb); (try clear hA hc hf hz); clear hb; have hA := hA2; clear hA2; obtain ⟨hc, hf⟩ := bcell hA; have hz := hA.size; try simp only [World.size_alloc1] at hz) | (go_at_call 80; refine (numPlace_of s a o _ hv).mono ?_; rintro e w1 ⟨rfl, rfl⟩))
    go_ret
    exact ⟨ret_int (by simp [placeZ, hv]), boxed1 hA⟩
  · rw [Bool.not_eq_true] at hv
    go_enter Tryd.func98, Tryd.ntmps98
    go_wp2_with (go_at_call 78; refine (number_no s a o _ hv).mono ?_; rintro e w1 ⟨rfl, hb⟩; (first | have hA2 := btr hA hb | have hA2 := hb); (try clear hA hc hf hz); clear hb; have hA := hA2; clear hA2; obtain ⟨hc, hf⟩ := bcell hA; have hz := hA.size; try simp only [World.size_alloc1] at hz)
    go_ret
    exact ⟨ret_int (by simp [placeZ, hv]), boxed1 hA⟩

/- PitchKey, in the program and in the model. -/
open Go.RowKit Go.Joins

def halL : List Int := [0, 2, 4, 5, 7, 9, 11]

/-- The table of half tones lies as its text lays it. -/
def TabH (w : World) : Prop := Lib.TabIs Tryd.prog w "loop.example/musicengine/impl.stepHalves" .i64 halL

theorem gH : Tryd.prog.globalNamed "loop.example/musicengine/impl.stepHalves" = some 3 := by kernel_rfl
theorem TabH.below {w w' : World} (h : TabH w) (hb : Below w.heap.size w w') : TabH w' := tab_stays gH h hb (Nat.le_refl _)

theorem TabH.cell {w : World} (h : TabH w) {s : Int} (h0 : 0 ≤ s) (h6 : s ≤ 6) : w.cell? ⟨3, s.toNat, none⟩ = some (.int .i64 (halZ s)) := by
  rw [Lib.TabIs.cell h gH s.toNat (by simp [halL]; omega)]
  rcases step7 h0 h6 with rfl | rfl | rfl | rfl | rfl | rfl | rfl <;> rfl

theorem natZ_of {p q j : Int} (h : p + 7 * j = q) : natZ p = 12 * (-j + q / 7) + halZ (q % 7) := by
  unfold natZ
  rw [show p / 7 = -j + q / 7 by omega, show p % 7 = q % 7 by omega]

set_option maxHeartbeats 1000000 in
theorem natural_any (p : Int) (w : World) (h0 : -1000000 ≤ p) (h1 : p ≤ 1000000) :
    Calls Tryd.prog 90 #[.int .i64 p] w fun e w' => e = .returned (.int .i64 (natZ p)) ∧ Below w.heap.size w w' := by
  go_enter Tryd.func90, Tryd.ntmps90
  go_wp2
  go_loop [0, 4] (fun t o => ∃ q j : Int, 0 ≤ j ∧ j ≤ 1000000 ∧ -1000000 ≤ q ∧ q ≤ 1000000 ∧ (j = 0 ∨ q < 7) ∧ Hid (p + 7 * j = q) ∧ t = .int .i64 q ∧ o = .int .i64 (-j)) (fun t _ => (1000000 - intOf t).toNat)
  case atStart => exact ⟨p, 0, by omega, by omega, h0, h1, Or.inl rfl, (show p + 7 * 0 = p by omega), rfl, rfl⟩
  case round =>
    obtain ⟨q, j, hj0, hj1, hq0, hq1, hjq, H, rfl, rfl⟩ := hrel
    by_cases hq : q < 0
    · have hjm : j ≤ 999999 := by have := H.out; omega
      clear hjq
      go_wp2
      go_round
      case rel => exact ⟨q + 7, j + 1, by omega, by omega, by omega, by omega, Or.inr (by omega), (show p + 7 * (j + 1) = q + 7 by have := H.out; omega), rfl, by rw [show -j - 1 = -(j + 1) by omega]⟩
      case measure => simp [intOf]; omega
    · have h2 : 0 ≤ q / 7 := by omega
      have h3 : q / 7 ≤ 1000000 := by omega
      have hh := halZ_bd (q % 7)
      have HN := hid (natZ_of H.out)
      clear hjq
      rcases mod7 q with h | h | h | h | h | h | h
      all_goals
        go_wp2
        go_ret
        exact ⟨ret_int (by rw [HN.out, h]; simp [halZ]), below1 _⟩

set_option maxHeartbeats 1000000 in
theorem plainH_any (n : Int) (w : World) (h0 : 0 ≤ n) (h1 : n ≤ 1000000) (ht : TabH w) :
    Calls Tryd.prog 79 #[.int .i64 n] w fun e w' => e = .returned (.int .i64 (natZ n)) ∧ w = w' := by
  have hcl := ht.cell (s := n % 7) (by omega) (by omega)
  have hh := halZ_bd (n % 7)
  have i0 : 0 ≤ n % 7 := by omega
  have i1 : n % 7 < 7 := by omega
  have q0 : 0 ≤ n / 7 := by omega
  have q1 : n / 7 ≤ 1000000 := by omega
  go_enter Tryd.func79, Tryd.ntmps79
  go_wp2
  go_ret
  exact ⟨ret_int (by unfold natZ; rfl), rfl⟩

set_option maxHeartbeats 1000000 in
theorem keyI_any (s a o : Int) (w : World) (ht : TabH w) :
    Calls Tryd.prog 47 #[.agg #[.int .i64 s, .int .i64 a, .int .i64 o]] w fun e w' => e = .returned (.int .i64 (keyZ s a o)) ∧ Below w.heap.size w w' := by
  by_cases hv : pvB s a o = true
  · obtain ⟨⟨h1, h2⟩, ⟨h3, h4⟩, ⟨h5, h6⟩⟩ := pvB_iff.1 hv
    have hn := natZ_bd (p := 7 * o + s) (by omega)
    go_enter Tryd.func47, Tryd.ntmps47
    go_wp2_with (first | (go_at_call 78; refine (number_yes s a o _ hv).mono ?_; rintro e w1 ⟨rfl, hb⟩; (first | have hA2 := btr hA hb | have hA2 := hb); (try clear hA hc hf hz); clear hb; have hA := hA2; clear hA2; obtain ⟨hc, hf⟩ := bcell hA; have hz := hA.size; try simp only [World.size_alloc1] at hz) | (go_at_call 80; refine (numPlace_of s a o _ hv).mono ?_; rintro e w1 ⟨rfl, rfl⟩) | (go_at_call 79; refine (plainH_any (7 * o + s) _ (by omega) (by omega) (ht.below (boxed1 hA))).mono ?_; rintro e w1 ⟨rfl, rfl⟩) | (go_at_call 81; refine (numAlter_of s a o _ hv).mono ?_; rintro e w1 ⟨rfl, rfl⟩))
    go_ret
    exact ⟨ret_int (by rw [keyZ, if_pos hv]), boxed1 hA⟩
  · rw [Bool.not_eq_true] at hv
    go_enter Tryd.func47, Tryd.ntmps47
    go_wp2_with (go_at_call 78; refine (number_no s a o _ hv).mono ?_; rintro e w1 ⟨rfl, hb⟩; (first | have hA2 := btr hA hb | have hA2 := hb); (try clear hA hc hf hz); clear hb; have hA := hA2; clear hA2; obtain ⟨hc, hf⟩ := bcell hA; have hz := hA.size; try simp only [World.size_alloc1] at hz)
    go_ret
    exact ⟨ret_int (by simp [keyZ, hv]), boxed1 hA⟩

set_option maxHeartbeats 1000000 in
theorem keyS_any (s a o : Int) (w : World) :
    Calls Tryd.prog 89 #[.agg #[.int .i64 s, .int .i64 a, .int .i64 o]] w fun e w' => e = .returned (.int .i64 (keyZ s a o)) ∧ Below w.heap.size w w' := by
  by_cases hv : pvB s a o = true
  · obtain ⟨⟨h1, h2⟩, ⟨h3, h4⟩, ⟨h5, h6⟩⟩ := pvB_iff.1 hv
    have hn := natZ_bd (p := 7 * o + s) (by omega)
    go_enter Tryd.func89, Tryd.ntmps89
    go_wp2_with (go_at_call 87; refine (pvS_any _ _ _ _).mono ?_; rintro e w1 ⟨rfl, hb⟩; (first | have hA2 := btr hA hb | have hA2 := hb); (try clear hA hc hf hz); clear hb; have hA := hA2; clear hA2; obtain ⟨hc, hf⟩ := bcell hA; have hz := hA.size; try simp only [World.size_alloc1] at hz)
    have hB := boxed1 hA
    have hS := boxS_of hA
    clear hc hf
    have e1 : IntKind.i64.wrap (7 * o) = 7 * o := IntWalk.i64_in _ (by omega)
    have e2 : IntKind.i64.wrap (7 * o + s) = 7 * o + s := IntWalk.i64_in _ (by omega)
    have e3 : IntKind.i64.wrap (natZ (7 * o + s) + a) = natZ (7 * o + s) + a := IntWalk.i64_in _ (by omega)
    go_region_held3 (fun W => W.cell? ⟨w.heap.size, 0, none⟩ = some (.int .i64 s) ∧ W.cell? ⟨w.heap.size, 1, none⟩ = some (.int .i64 a) ∧ W.cell? ⟨w.heap.size, 2, none⟩ = some (.int .i64 o) ∧ w.heap.size < W.heap.size ∧ Below w.heap.size w W) (first | exact boxS_below (by assumption) (by assumption) | exact boxS_below hS (below_drew1 _))
      (first | (go_at_call 90; refine (natural_any _ _ (by omega) (by omega)).mono ?_; rintro e w1 ⟨rfl, hb⟩))
    go_wp2
    go_ret
    exact ⟨ret_int (by rw [keyZ, if_pos hv]), boxS_last (by assumption)⟩
  · rw [Bool.not_eq_true] at hv
    go_enter Tryd.func89, Tryd.ntmps89
    go_wp2_with (go_at_call 87; refine (pvS_any _ _ _ _).mono ?_; rintro e w1 ⟨rfl, hb⟩; (first | have hA2 := btr hA hb | have hA2 := hb); (try clear hA hc hf hz); clear hb; have hA := hA2; clear hA2; obtain ⟨hc, hf⟩ := bcell hA; have hz := hA.size; try simp only [World.size_alloc1] at hz)
    go_ret
    exact ⟨ret_int (by simp [keyZ, hv]), boxed1 hA⟩
end Go.Proofs.YtcgcnkddgihkpaaDoor
