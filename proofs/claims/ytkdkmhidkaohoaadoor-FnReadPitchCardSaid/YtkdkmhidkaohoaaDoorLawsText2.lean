/- The walks of FnPitchText and FnReadPitch. -/
import Derived.Test.YtkdkmhidkaohoaaDoorWalksRead2
import Derived.Test.YtkdkmhidkaohoaaDoorLawsPitch
namespace Go.Proofs.YtkdkmhidkaohoaaDoor
set_option linter.unusedSimpArgs false
set_option linter.unusedVariables false
open Go.RowKit

theorem read_of_text {s a o : Int} (w : World) (hv : pvB s a o = true) :
    Calls Tryd.prog 17 #[.string (textB s a o)] w fun e w' => e = .returned (.tuple #[.agg #[.int .i64 s, .int .i64 a, .int .i64 o], .bool true]) ∧ Below w.heap.size w w' := by
  obtain ⟨r1, r2, r3, r4, r5⟩ := read_text hv
  obtain ⟨_, ⟨h3, h4⟩, _⟩ := pvB_iff.1 hv
  refine (readI_any _ w (by unfold maxLen; omega)).mono fun e w' ⟨he, hb⟩ => ⟨?_, hb⟩
  rw [he, if_pos r1, r2, r3, r4]

set_option maxHeartbeats 4000000 in
theorem fnPitchText_any (v : Value) (n : Nat) (w : World) (hn : n ≤ maxLen) (h : BytesB w w.heap.size v n) (ht : TabH w) :
    Calls Tryd.prog 5 #[v] w fun e w' => e = .returned (.bool true) ∧ Below w.heap.size w w' := by
  obtain ⟨a0, c0, rfl⟩ := h.form
  have hn' : (n : Int) ≤ 9223372036854775807 := by unfold maxLen at hn; omega
  by_cases hl : n ≤ 1048576
  · have hl' : (n : Int) ≤ 1048576 := by omega
    go_enter Tryd.func5, Tryd.ntmps5
    go_wp2_with (go_at_call 14; refine (DrawPitchText_any _ n _ hn h).mono ?_; rintro e w1 ⟨s, a, o, hs, ha, ho, rfl, hb0⟩)
    have ht1 := ht.below (hb0.alloc hb0.size (.cells #[.int .i64 s, .int .i64 a, .int .i64 o] 24))
    clear hn h
    by_cases hv : pvB s a o = true
    · obtain ⟨r1, r2, r3, r4, r5⟩ := read_text hv
      obtain ⟨_, ⟨h3, h4⟩, _⟩ := pvB_iff.1 hv
      have g2 : 2 ≤ ((textB s a o).size : Int) := by omega
      have g4 : ((textB s a o).size : Int) ≤ 4 := by omega
      have hbt := str_eq (rfl : textB s a o = textB s a o)
      clear r1 r2 r3 r4 r5
      go_wp2_with (first | (go_at_call 15; refine (textI_any _ _ _ _).mono ?_; rintro e w1 ⟨rfl, hb⟩; (first | have hA2 := btr hA hb | have hA2 := hb); (try clear hA hc hf hz); clear hb; have hA := hA2; clear hA2; obtain ⟨hc, hf⟩ := bcell hA; have hz := hA.size; try simp only [World.size_alloc1] at hz) | (go_at_call 16; refine (textS_any _ _ _ _).mono ?_; rintro e w1 ⟨rfl, hb⟩; (first | have hA2 := btr hA hb | have hA2 := hb); (try clear hA hc hf hz); clear hb; have hA := hA2; clear hA2; obtain ⟨hc, hf⟩ := bcell hA; have hz := hA.size; try simp only [World.size_alloc1] at hz) | (go_at_call 9; refine (pvS_any _ _ _ _).mono ?_; rintro e w1 ⟨rfl, hb⟩; (first | have hA2 := btr hA hb | have hA2 := hb); (try clear hA hc hf hz); clear hb; have hA := hA2; clear hA2; obtain ⟨hc, hf⟩ := bcell hA; have hz := hA.size; try simp only [World.size_alloc1] at hz) | (go_at_call 17; refine (read_of_text _ hv).mono ?_; rintro e w1 ⟨rfl, hb⟩; have hA2 := btr hA hb; clear hA hc hf hz hb; have hA := hA2; clear hA2; obtain ⟨hc, hf⟩ := bcell hA; have hz := size_below hA))
      go_ret
      exact ⟨rfl, (btrB hb0 hA).alloc (btrB hb0 hA).size _⟩
    · rw [Bool.not_eq_true] at hv
      have et : textB s a o = ⟨#[]⟩ := by simp [textB, hv]
      go_wp2_with (first | (go_at_call 15; refine (textI_any _ _ _ _).mono ?_; rintro e w1 ⟨rfl, hb⟩; (first | have hA2 := btr hA hb | have hA2 := hb); (try clear hA hc hf hz); clear hb; have hA := hA2; clear hA2; obtain ⟨hc, hf⟩ := bcell hA; have hz := hA.size; try simp only [World.size_alloc1] at hz) | (go_at_call 16; refine (textS_any _ _ _ _).mono ?_; rintro e w1 ⟨rfl, hb⟩; (first | have hA2 := btr hA hb | have hA2 := hb); (try clear hA hc hf hz); clear hb; have hA := hA2; clear hA2; obtain ⟨hc, hf⟩ := bcell hA; have hz := hA.size; try simp only [World.size_alloc1] at hz) | (go_at_call 9; refine (pvS_any _ _ _ _).mono ?_; rintro e w1 ⟨rfl, hb⟩; (first | have hA2 := btr hA hb | have hA2 := hb); (try clear hA hc hf hz); clear hb; have hA := hA2; clear hA2; obtain ⟨hc, hf⟩ := bcell hA; have hz := hA.size; try simp only [World.size_alloc1] at hz) | (go_at_call 10; refine (alive_any _ (ht1.below hA)).mono ?_; rintro e w1 ⟨rfl, hb⟩; (first | have hA2 := btr hA hb | have hA2 := hb); (try clear hA hc hf hz); clear hb; have hA := hA2; clear hA2; obtain ⟨hc, hf⟩ := bcell hA; have hz := hA.size; try simp only [World.size_alloc1] at hz))
      go_ret
      exact ⟨rfl, btrB hb0 hA⟩
  · have hl' : 1048576 < (n : Int) := by omega
    go_enter Tryd.func5, Tryd.ntmps5
    go_wp2
    go_ret
    exact ⟨rfl, Below.refl _ _⟩

/-- What drawing a text leaves. -/
def DrewS (w : World) (e : Ending) (w' : World) : Prop := ∃ t : ByteArray, t.size ≤ 100 ∧ e = .returned (.string t) ∧ Below w.heap.size w w'

theorem textB_size (s a o : Int) : (textB s a o).size ≤ 4 := by
  by_cases hv : pvB s a o = true
  · obtain ⟨_, _, _, _, r5⟩ := read_text hv
    obtain ⟨_, ⟨h3, h4⟩, _⟩ := pvB_iff.1 hv
    omega
  · rw [textB, if_neg hv]; decide

theorem ten_at {W W' : World} {r : Nat} {T : ByteArray} {x : Int} {t : TypeId} (hT : T.size ≤ 4)
    (hb : ButR r (W.alloc (.cells #[.string ⟨#[]⟩, .string ⟨#[67]⟩, .string ⟨#[72, 52]⟩, .string (T ++ ⟨#[52]⟩), .string ⟨#[67, 35, 98, 52]⟩, .string ⟨#[99, 52]⟩, .string ⟨#[67, 35, 35, 35, 52]⟩, .string ⟨#[67, 57]⟩, .string (⟨#[32]⟩ ++ T), .string ⟨#[67, 52, 32]⟩] t)) W') (hr : r < W.heap.size) (x0 : 0 ≤ x) (x1 : x < 10) :
    ∃ y : ByteArray, y.size ≤ 100 ∧ W'.cell? ⟨W.heap.size, x.toNat, none⟩ = some (.string y) := by
  obtain ⟨hc, _⟩ := hb.cells
  rw [hc _ _ (by simp) (by omega)]
  have s1 : (T ++ (⟨#[52]⟩ : ByteArray)).size ≤ 100 := by rw [ByteArray.size_append]; show T.size + 1 ≤ 100; omega
  have s2 : ((⟨#[32]⟩ : ByteArray) ++ T).size ≤ 100 := by rw [ByteArray.size_append]; show 1 + T.size ≤ 100; omega
  rcases (show x = 0 ∨ x = 1 ∨ x = 2 ∨ x = 3 ∨ x = 4 ∨ x = 5 ∨ x = 6 ∨ x = 7 ∨ x = 8 ∨ x = 9 by omega) with rfl | rfl | rfl | rfl | rfl | rfl | rfl | rfl | rfl | rfl
  · exact ⟨_, (by decide : (⟨#[]⟩ : ByteArray).size ≤ 100), by simp⟩
  · exact ⟨_, (by decide : (⟨#[67]⟩ : ByteArray).size ≤ 100), by simp⟩
  · exact ⟨_, (by decide : (⟨#[72, 52]⟩ : ByteArray).size ≤ 100), by simp⟩
  · exact ⟨_, s1, by simp⟩
  · exact ⟨_, (by decide : (⟨#[67, 35, 98, 52]⟩ : ByteArray).size ≤ 100), by simp⟩
  · exact ⟨_, (by decide : (⟨#[99, 52]⟩ : ByteArray).size ≤ 100), by simp⟩
  · exact ⟨_, (by decide : (⟨#[67, 35, 35, 35, 52]⟩ : ByteArray).size ≤ 100), by simp⟩
  · exact ⟨_, (by decide : (⟨#[67, 57]⟩ : ByteArray).size ≤ 100), by simp⟩
  · exact ⟨_, s2, by simp⟩
  · exact ⟨_, (by decide : (⟨#[67, 52, 32]⟩ : ByteArray).size ≤ 100), by simp⟩

set_option maxHeartbeats 4000000 in
theorem DrawReadPitch_any (v : Value) (n : Nat) (w : World) (hn : n ≤ maxLen) (h : BytesB w w.heap.size v n) :
    Calls Tryd.prog 18 #[v] w (DrewS w) := by
  go_enter Tryd.func18, Tryd.ntmps18
  go_wp2_with fail
  refine (open_any v n _ hn h).mono ?_
  rintro e w1 ⟨r, hr, rfl, hR, hb⟩
  go_wp2_with fail
  refine (l20Pitch_any r 0 _ _ hR (by omega) (by omega) (by omega)).mono ?_
  rintro e w2 ⟨s, a, o, hs, ha, ho, rfl, hR2, hB2⟩
  have hB : Below w.heap.size w w2 := hB2.below hb hr
  clear hR hB2 hb
  go_wp2_with fail
  refine (textS_any _ _ _ _).mono ?_
  rintro e w3 ⟨rfl, hb3⟩
  have hR3 := hR2.below hb3
  have hB3 := btr hB hb3
  have hT := textB_size s a o
  clear hR2 hB hb3
  generalize textB s a o = T at *
  go_wp2_with fail
  refine (odd_any r _ _ _ hR3 (by omega) (by omega) (by omega)).mono ?_
  rintro e w4 ⟨bo, rfl, hR4, hB4⟩
  have hB5 : Below w.heap.size w w4 := hB4.below hB3 hr
  clear hR3 hB3 hB4
  have k1 : ∀ W, (Op.stringOp .add T ⟨#[52]⟩).run Tryd.prog W = .ok (.string (T ++ ⟨#[52]⟩)) W := fun W => run_string_add_sum W _ _ (by show T.size + 1 ≤ _; omega)
  have k2 : ∀ W, (Op.stringOp .add ⟨#[32]⟩ T).run Tryd.prog W = .ok (.string (⟨#[32]⟩ ++ T)) W := fun W => run_string_add_sum W _ _ (by show 1 + T.size ≤ _; omega)
  cases bo with
  | false =>
    go_wp2
    go_ret
    exact ⟨T, by omega, rfl, hB5⟩
  | true =>
    go_wp2_with fail
    refine (pick_any r _ _ _ (hR4.below (below1 _)) (by omega) (by omega) (by omega)).mono ?_
    rintro e w5 ⟨x, x0, x1, rfl, hR5, hB6⟩
    obtain ⟨y, hy, hcy⟩ := ten_at hT hB6 hR4.lt x0 x1
    have hB7 : Below w.heap.size w w5 := hB6.below (hB5.alloc hB5.size _) hr
    clear hR4 hR5 hB6 hB5 k1 k2
    go_wp2
    go_ret
    exact ⟨y, hy, rfl, hB7⟩
end Go.Proofs.YtkdkmhidkaohoaaDoor
