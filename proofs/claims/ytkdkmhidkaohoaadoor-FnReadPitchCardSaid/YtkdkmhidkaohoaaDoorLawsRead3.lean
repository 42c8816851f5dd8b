/- The walk of FnReadPitch. -/
import Derived.Test.YtkdkmhidkaohoaaDoorLawsText2
namespace Go.Proofs.YtkdkmhidkaohoaaDoor
set_option linter.unusedSimpArgs false
set_option linter.unusedVariables false
open Go.RowKit

theorem readS_ok2 {s : ByteArray} (w : World) (hs : s.size ≤ maxLen) (hr : rdOk s = true) :
    Calls Tryd.prog 19 #[.string s] w fun e w' => e = .returned (.tuple #[.agg #[.int .i64 (stI (byZ s 0)), .int .i64 (alZ (midB s)), .int .i64 (byZ s (s.size - 1) - 48)], .bool true]) ∧ Below w.heap.size w w' :=
  (readS_any s w hs).mono fun e w' ⟨he, hb⟩ => ⟨by rw [he, if_pos hr], hb⟩
theorem readS_bad2 {s : ByteArray} (w : World) (hs : s.size ≤ maxLen) (hr : rdOk s = false) :
    Calls Tryd.prog 19 #[.string s] w fun e w' => e = .returned (.tuple #[.agg #[.int .i64 0, .int .i64 0, .int .i64 0], .bool false]) ∧ Below w.heap.size w w' :=
  (readS_any s w hs).mono fun e w' ⟨he, hb⟩ => ⟨by rw [he, if_neg (by rw [hr]; decide)], hb⟩
theorem readI_ok2 {s : ByteArray} (w : World) (hs : s.size ≤ maxLen) (hr : rdOk s = true) :
    Calls Tryd.prog 17 #[.string s] w fun e w' => e = .returned (.tuple #[.agg #[.int .i64 (stI (byZ s 0)), .int .i64 (alZ (midB s)), .int .i64 (byZ s (s.size - 1) - 48)], .bool true]) ∧ Below w.heap.size w w' :=
  (readI_any s w hs).mono fun e w' ⟨he, hb⟩ => ⟨by rw [he, if_pos hr], hb⟩
theorem readI_bad2 {s : ByteArray} (w : World) (hs : s.size ≤ maxLen) (hr : rdOk s = false) :
    Calls Tryd.prog 17 #[.string s] w fun e w' => e = .returned (.tuple #[.agg #[.int .i64 0, .int .i64 0, .int .i64 0], .bool false]) ∧ Below w.heap.size w w' :=
  (readI_any s w hs).mono fun e w' ⟨he, hb⟩ => ⟨by rw [he, if_neg (by rw [hr]; decide)], hb⟩

set_option maxHeartbeats 4000000 in
theorem fnReadPitch_any (v : Value) (n : Nat) (w : World) (hn : n ≤ maxLen) (h : BytesB w w.heap.size v n) (ht : TabH w) :
    Calls Tryd.prog 6 #[v] w fun e w' => e = .returned (.bool true) ∧ Below w.heap.size w w' := by
  obtain ⟨a0, c0, rfl⟩ := h.form
  have hn' : (n : Int) ≤ 9223372036854775807 := by unfold maxLen at hn; omega
  by_cases hl : n ≤ 1048576
  · have hl' : (n : Int) ≤ 1048576 := by omega
    go_enter Tryd.func6, Tryd.ntmps6
    go_wp2_with (go_at_call 18; refine (DrawReadPitch_any _ n _ hn h).mono ?_; rintro e w1 ⟨s, hs, rfl, hb0⟩)
    clear hn h
    have ht1 := ht.below hb0
    have hsm : s.size ≤ maxLen := by unfold maxLen; omega
    by_cases hr : rdOk s = true
    · refine (readI_ok2 _ hsm hr).mono ?_
      rintro e w2 ⟨rfl, hb1⟩
      have ht2 := ht1.below hb1
      have hB1 := btr hb0 hb1
      clear hb0 hb1 ht1
      go_wp2_with fail
      refine (readS_ok2 _ hsm hr).mono ?_
      rintro e w3 ⟨rfl, hb2⟩
      obtain ⟨hc2, hf2⟩ := bcell hb2
      have z23 := size_below hb2
      have hB2 := btrB hB1 hb2
      have htx := text_read hr
      have hmb := more_bad hr
      have hm2 : (s ++ (⟨#[52]⟩ : ByteArray)).size ≤ maxLen := by rw [ByteArray.size_append]; unfold maxLen; show s.size + 1 ≤ _; omega
      have k1 : ∀ W, (Op.stringOp .add s ⟨#[52]⟩).run Tryd.prog W = .ok (.string (s ++ ⟨#[52]⟩)) W := fun W => run_string_add_sum W _ _ (by show s.size + 1 ≤ _; omega)
      have HTX := hid htx
      clear hB1 hb2 htx
      go_wp2_with fail
      refine (readI_bad2 _ hm2 hmb).mono ?_
      rintro e w4 ⟨rfl, hb3⟩
      obtain ⟨hc3, hf3⟩ := bcell hb3
      have z34 := size_below hb3
      have z24 := Nat.lt_trans z23 z34
      have z231 := Nat.lt_succ_of_lt z23
      have z241 := Nat.lt_succ_of_lt z24
      simp only [Nat.succ_eq_add_one] at z231 z241
      have hB3 := btrB hB2 hb3
      have hbt := str_eq HTX.out
      clear hB2 hb3 k1
      go_wp2_with fail
      refine (textI_any _ _ _ _).mono ?_
      rintro e w5 ⟨rfl, hb4⟩
      have hB4 := btrB hB3 hb4
      clear hB3 hb4
      go_wp2
      go_ret
      exact ⟨rfl, hB4⟩
    · rw [Bool.not_eq_true] at hr
      refine (readI_bad2 _ hsm hr).mono ?_
      rintro e w2 ⟨rfl, hb1⟩
      have ht2 := ht1.below hb1
      have hB1 := btr hb0 hb1
      clear hb0 hb1 ht1
      go_wp2_with fail
      refine (readS_bad2 _ hsm hr).mono ?_
      rintro e w3 ⟨rfl, hb2⟩
      obtain ⟨hc2, hf2⟩ := bcell hb2
      have z23 := size_below hb2
      have ht3 := (ht2.below (below1 _)).below hb2
      have hB2 := btrB hB1 hb2
      clear hB1 hb2
      have ht4 : TabH (w3.alloc (.cells #[.int .i64 0, .int .i64 0, .int .i64 0] 24)) := ht3.below (below1 _)
      go_wp2_with (go_at_call 10; refine (alive_any _ ht4).mono ?_; rintro e w1 ⟨rfl, hb⟩; (first | have hA2 := btr hA hb | have hA2 := hb); (try clear hA hc hf hz); clear hb; have hA := hA2; clear hA2; obtain ⟨hc, hf⟩ := bcell hA; have hz := hA.size; try simp only [World.size_alloc1] at hz)
      go_ret
      exact ⟨rfl, btrB hB2 hA⟩
  · have hl' : 1048576 < (n : Int) := by omega
    go_enter Tryd.func6, Tryd.ntmps6
    go_wp2
    go_ret
    exact ⟨rfl, Below.refl _ _⟩
end Go.Proofs.YtkdkmhidkaohoaaDoor
