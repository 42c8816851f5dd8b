/- The walks of FnPitchValid, FnPitchPlace, FnPitchKey. -/
import Derived.Test.YtkdkmhidkaohoaaDoorWalksDrawP
namespace Go.Proofs.YtkdkmhidkaohoaaDoor
set_option linter.unusedSimpArgs false
set_option linter.unusedVariables false
open Go.RowKit

theorem BytesB.form {w : World} {B : Nat} {v : Value} {n : Nat} (h : BytesB w B v n) : ∃ a c, v = .slice a n c := by
  rcases h with ⟨rfl, a, c, rfl⟩ | ⟨h0, b, off, cap, h1, h2, rfl, _⟩
  · exact ⟨a, c, rfl⟩
  · exact ⟨_, _, rfl⟩
theorem btrB {W0 W w1 : World} {o : Obj} (h : Below W0.heap.size W0 W) (hb : Below (W.alloc o).heap.size (W.alloc o) w1) : Below W0.heap.size W0 w1 := btr (h.alloc h.size o) hb

theorem pvB_seven (a o : Int) : pvB 7 a o = false := by simp [pvB, inB]
theorem pvB_three (s o : Int) : pvB s 3 o = false := by simp [pvB, inB]

set_option maxHeartbeats 2000000 in
theorem fnPitchValid_any (v : Value) (n : Nat) (w : World) (hn : n ≤ maxLen) (h : BytesB w w.heap.size v n) (ht : TabH w) :
    Calls Tryd.prog 3 #[v] w fun e w' => e = .returned (.bool true) ∧ Below w.heap.size w w' := by
  obtain ⟨a0, c0, rfl⟩ := h.form
  have hn' : (n : Int) ≤ 9223372036854775807 := by unfold maxLen at hn; omega
  by_cases hl : n ≤ 1048576
  · have hl' : (n : Int) ≤ 1048576 := by omega
    go_enter Tryd.func3, Tryd.ntmps3
    go_wp2_with (go_at_call 7; refine (DrawPitchValid_any _ n _ hn h).mono ?_; rintro e w1 ⟨s, a, o, hs, ha, ho, rfl, hb0⟩)
    have v7 := pvB_seven 0 o
    have v3 := pvB_three s 0
    have ht1 := ht.below (hb0.alloc hb0.size (.cells #[.int .i64 s, .int .i64 a, .int .i64 o] 24))
    clear hn h
    go_wp2_with (first | (go_at_call 8; refine (pvI_any _ _ _ _).mono ?_; rintro e w1 ⟨rfl, hb⟩; (first | have hA2 := btr hA hb | have hA2 := hb); (try clear hA hc hf hz); clear hb; have hA := hA2; clear hA2; obtain ⟨hc, hf⟩ := bcell hA; have hz := hA.size; try simp only [World.size_alloc1] at hz) | (go_at_call 9; refine (pvS_any _ _ _ _).mono ?_; rintro e w1 ⟨rfl, hb⟩; (first | have hA2 := btr hA hb | have hA2 := hb); (try clear hA hc hf hz); clear hb; have hA := hA2; clear hA2; obtain ⟨hc, hf⟩ := bcell hA; have hz := hA.size; try simp only [World.size_alloc1] at hz) | (go_at_call 10; refine (alive_any _ (ht1.below hA)).mono ?_; rintro e w1 ⟨rfl, hb⟩; (first | have hA2 := btr hA hb | have hA2 := hb); (try clear hA hc hf hz); clear hb; have hA := hA2; clear hA2; obtain ⟨hc, hf⟩ := bcell hA; have hz := hA.size; try simp only [World.size_alloc1] at hz))
    go_ret
    exact ⟨rfl, btrB hb0 hA⟩
  · have hl' : 1048576 < (n : Int) := by omega
    go_enter Tryd.func3, Tryd.ntmps3
    go_wp2
    go_ret
    exact ⟨rfl, Below.refl _ _⟩

theorem place_yes {s a o : Int} (hv : pvB s a o = true) : placeZ s a o = 7 * o + s := by simp [placeZ, hv]
theorem place_no {s a o : Int} (hv : pvB s a o = false) : placeZ s a o = -1 := by simp [placeZ, hv]

set_option maxHeartbeats 2000000 in
theorem fnPitchPlace_any (v : Value) (n : Nat) (w : World) (hn : n ≤ maxLen) (h : BytesB w w.heap.size v n) (ht : TabH w) :
    Calls Tryd.prog 4 #[v] w fun e w' => e = .returned (.bool true) ∧ Below w.heap.size w w' := by
  obtain ⟨a0, c0, rfl⟩ := h.form
  have hn' : (n : Int) ≤ 9223372036854775807 := by unfold maxLen at hn; omega
  by_cases hl : n ≤ 1048576
  · have hl' : (n : Int) ≤ 1048576 := by omega
    go_enter Tryd.func4, Tryd.ntmps4
    go_wp2_with (go_at_call 11; refine (DrawPitchPlace_any _ n _ hn h).mono ?_; rintro e w1 ⟨s, a, o, hs, ha, ho, rfl, hb0⟩)
    have ht1 := ht.below (hb0.alloc hb0.size (.cells #[.int .i64 s, .int .i64 a, .int .i64 o] 24))
    clear hn h
    by_cases hv : pvB s a o = true
    · have e1 := place_yes hv
      obtain ⟨⟨i1, i2⟩, ⟨i3, i4⟩, ⟨i5, i6⟩⟩ := pvB_iff.1 hv
      have hv0 : pvB s 0 o = true := pvB_iff.2 (by omega)
      have e2 := place_yes hv0
      have e3 : (7 * o + s) % 7 = s := by omega
      have e4 : (7 * o + s) / 7 = o := by omega
      go_wp2_with (first | (go_at_call 12; refine (placeI_any _ _ _ _).mono ?_; rintro e w1 ⟨rfl, hb⟩; (first | have hA2 := btr hA hb | have hA2 := hb); (try clear hA hc hf hz); clear hb; have hA := hA2; clear hA2; obtain ⟨hc, hf⟩ := bcell hA; have hz := hA.size; try simp only [World.size_alloc1] at hz) | (go_at_call 13; refine (placeS_any _ _ _ _).mono ?_; rintro e w1 ⟨rfl, hb⟩; (first | have hA2 := btr hA hb | have hA2 := hb); (try clear hA hc hf hz); clear hb; have hA := hA2; clear hA2; obtain ⟨hc, hf⟩ := bcell hA; have hz := hA.size; try simp only [World.size_alloc1] at hz))
      go_ret
      exact ⟨rfl, btrB hb0 hA⟩
    · rw [Bool.not_eq_true] at hv
      have e1 := place_no hv
      go_wp2_with (first | (go_at_call 12; refine (placeI_any _ _ _ _).mono ?_; rintro e w1 ⟨rfl, hb⟩; (first | have hA2 := btr hA hb | have hA2 := hb); (try clear hA hc hf hz); clear hb; have hA := hA2; clear hA2; obtain ⟨hc, hf⟩ := bcell hA; have hz := hA.size; try simp only [World.size_alloc1] at hz) | (go_at_call 13; refine (placeS_any _ _ _ _).mono ?_; rintro e w1 ⟨rfl, hb⟩; (first | have hA2 := btr hA hb | have hA2 := hb); (try clear hA hc hf hz); clear hb; have hA := hA2; clear hA2; obtain ⟨hc, hf⟩ := bcell hA; have hz := hA.size; try simp only [World.size_alloc1] at hz) | (go_at_call 9; refine (pvS_any _ _ _ _).mono ?_; rintro e w1 ⟨rfl, hb⟩; (first | have hA2 := btr hA hb | have hA2 := hb); (try clear hA hc hf hz); clear hb; have hA := hA2; clear hA2; obtain ⟨hc, hf⟩ := bcell hA; have hz := hA.size; try simp only [World.size_alloc1] at hz) | (go_at_call 10; refine (alive_any _ (ht1.below hA)).mono ?_; rintro e w1 ⟨rfl, hb⟩; (first | have hA2 := btr hA hb | have hA2 := hb); (try clear hA hc hf hz); clear hb; have hA := hA2; clear hA2; obtain ⟨hc, hf⟩ := bcell hA; have hz := hA.size; try simp only [World.size_alloc1] at hz))
      go_ret
      exact ⟨rfl, btrB hb0 hA⟩
  · have hl' : 1048576 < (n : Int) := by omega
    go_enter Tryd.func4, Tryd.ntmps4
    go_wp2
    go_ret
    exact ⟨rfl, Below.refl _ _⟩

theorem key_yes {s a o : Int} (hv : pvB s a o = true) : keyZ s a o = 12 * o + halZ s + a := by
  obtain ⟨⟨i1, i2⟩, ⟨i3, i4⟩, ⟨i5, i6⟩⟩ := pvB_iff.1 hv
  rw [keyZ, if_pos hv, natZ_os i1 i2]
theorem key_no {s a o : Int} (hv : pvB s a o = false) : keyZ s a o = -100 := by simp [keyZ, hv]
theorem btrB2 {W0 W w1 : World} {o p : Obj} (h : Below W0.heap.size W0 W) (hb : Below ((W.alloc o).alloc p).heap.size ((W.alloc o).alloc p) w1) : Below W0.heap.size W0 w1 := btr ((h.alloc h.size o).alloc (by have := h.size; simp; omega) p) hb