/- PitchPlace, in the program and in the model. -/
import Derived.Test.YtcmhfjpofkgjbaaDoorWalks1
import Derived.Test.YtcmhfjpofkgjbaaDoorPure1
namespace Go.Proofs.YtcmhfjpofkgjbaaDoor
set_option linter.unusedSimpArgs false
set_option linter.unusedVariables false
set_option maxRecDepth 8000
open Go.RowKit

set_option maxHeartbeats 400000 in
theorem placeS_any (s a o : Int) (w : World) :
    Calls Tryd.prog 64 #[.agg #[.int .i64 s, .int .i64 a, .int .i64 o]] w fun e w' => e = .returned (.int .i64 (placeZ s a o)) ∧ Below w.heap.size w w' := by
  by_cases hv : pvB s a o = true
  · have hp := pvB_iff.1 hv
    obtain ⟨⟨h1, h2⟩, ⟨h3, h4⟩, ⟨h5, h6⟩⟩ := hp
    go_enter Tryd.func64, Tryd.ntmps64
    go_wp2_with (go_at_call 36; refine (pvS_any _ _ _ _).mono ?_; rintro e w1 ⟨rfl, hb⟩; (first | have hA2 := btr hA hb | have hA2 := hb); (try clear hA hc hf hz); clear hb; have hA := hA2; clear hA2; obtain ⟨hc, hf⟩ := bcell hA; have hz := hA.size; try simp only [World.size_alloc1] at hz)
    go_ret
    exact ⟨ret_int (by simp [placeZ, hv]), boxed1 hA⟩
  · rw [Bool.not_eq_true] at hv
    go_enter Tryd.func64, Tryd.ntmps64
    go_wp2_with (go_at_call 36; refine (pvS_any _ _ _ _).mono ?_; rintro e w1 ⟨rfl, hb⟩; (first | have hA2 := btr hA hb | have hA2 := hb); (try clear hA hc hf hz); clear hb; have hA := hA2; clear hA2; obtain ⟨hc, hf⟩ := bcell hA; have hz := hA.size; try simp only [World.size_alloc1] at hz)
    go_ret
    exact ⟨ret_int (by simp [placeZ, hv]), boxed1 hA⟩

set_option maxHeartbeats 400000 in
theorem number_yes (s a o : Int) (w : World) (hv : pvB s a o = true) :
    Calls Tryd.prog 39 #[.agg #[.int .i64 s, .int .i64 a, .int .i64 o]] w fun e w' => e = .returned (.tuple #[.int .i64 ((7 * o + s) * 5 + a + 2), .bool true]) ∧ Below w.heap.size w w' := by
  obtain ⟨⟨h1, h2⟩, ⟨h3, h4⟩, ⟨h5, h6⟩⟩ := pvB_iff.1 hv
  go_enter Tryd.func39, Tryd.ntmps39
  go_wp2_with (go_at_call 58; refine (pvI_any _ _ _ _).mono ?_; rintro e w1 ⟨rfl, hb⟩; (first | have hA2 := btr hA hb | have hA2 := hb); (try clear hA hc hf hz); clear hb; have hA := hA2; clear hA2; obtain ⟨hc, hf⟩ := bcell hA; have hz := hA.size; try simp only [World.size_alloc1] at hz)
  go_ret2
  exact ⟨rfl, boxed1 hA⟩

set_option maxHeartbeats 400000 in
theorem number_no (s a o : Int) (w : World) (hv : pvB s a o = false) :
    Calls Tryd.prog 39 #[.agg #[.int .i64 s, .int .i64 a, .int .i64 o]] w fun e w' => e = .returned (.tuple #[.int .i64 0, .bool false]) ∧ Below w.heap.size w w' := by
  go_enter Tryd.func39, Tryd.ntmps39
  go_wp2_with (go_at_call 58; refine (pvI_any _ _ _ _).mono ?_; rintro e w1 ⟨rfl, hb⟩; (first | have hA2 := btr hA hb | have hA2 := hb); (try clear hA hc hf hz); clear hb; have hA := hA2; clear hA2; obtain ⟨hc, hf⟩ := bcell hA; have hz := hA.size; try simp only [World.size_alloc1] at hz)
  go_ret2
  exact ⟨rfl, boxed1 hA⟩

set_option maxHeartbeats 400000 in
theorem numPlace_any (n : Int) (w : World) (h0 : 0 ≤ n) (h1 : n ≤ 1000000) :
    Calls Tryd.prog 41 #[.int .i64 n] w fun e w' => e = .returned (.int .i64 (n / 5)) ∧ w = w' := by
  go_enter Tryd.func41, Tryd.ntmps41
  go_wp2
  go_ret
  exact ⟨rfl, rfl⟩

set_option maxHeartbeats 400000 in
theorem numAlter_any (n : Int) (w : World) (h0 : 0 ≤ n) (h1 : n ≤ 1000000) :
    Calls Tryd.prog 42 #[.int .i64 n] w fun e w' => e = .returned (.int .i64 (n % 5 - 2)) ∧ w = w' := by
  have h2 : 0 ≤ n % 5 := by omega
  have h3 : n % 5 ≤ 4 := by omega
  go_enter Tryd.func42, Tryd.ntmps42
  go_wp2
  go_ret
  exact ⟨rfl, rfl⟩

theorem numPlace_of (s a o : Int) (w : World) (hv : pvB s a o = true) :
    Calls Tryd.prog 41 #[.int .i64 ((7 * o + s) * 5 + a + 2)] w fun e w' => e = .returned (.int .i64 (7 * o + s)) ∧ w = w' := by
  obtain ⟨⟨h1, h2⟩, ⟨h3, h4⟩, ⟨h5, h6⟩⟩ := pvB_iff.1 hv
  refine (numPlace_any _ w (by omega) (by omega)).mono fun e w' ⟨he, hw⟩ => ⟨?_, hw⟩
  rw [he, show ((7 * o + s) * 5 + a + 2) / 5 = 7 * o + s by omega]

theorem numAlter_of (s a o : Int) (w : World) (hv : pvB s a o = true) :
    Calls Tryd.prog 42 #[.int .i64 ((7 * o + s) * 5 + a + 2)] w fun e w' => e = .returned (.int .i64 a) ∧ w = w' := by
  obtain ⟨⟨h1, h2⟩, ⟨h3, h4⟩, ⟨h5, h6⟩⟩ := pvB_iff.1 hv
  refine (numAlter_any _ w (by omega) (by omega)).mono fun e w' ⟨he, hw⟩ => ⟨?_, hw⟩
  rw [he, show ((7 * o + s) * 5 + a + 2) % 5 - 2 = a by omega]