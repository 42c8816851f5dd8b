/- The walk of FnExactReadPitch. -/
import Derived.Test.YtfcbfjdkmeiicaaWalksRead2
import Derived.Test.YtfcbfjdkmeiicaaWalksEq
namespace Go.Proofs.Ytfcbfjdkmeiicaa
open Go.RowKit

theorem btrC {W0 W w1 : World} {o : Obj} (h : Below W0.heap.size W0 W) (hb : Below (W.alloc o).heap.size (W.alloc o) w1) : Below W0.heap.size W0 w1 := btr (h.alloc h.size o) hb

theorem readS_ok {s : ByteArray} (w : World) (hs : s.size ≤ maxLen) (hr : rdOk s = true) :
    Calls Try.prog 11 #[.string s] w fun e w' => e = .returned (.tuple #[.agg #[.int .i64 (stI (byZ s 0)), .int .i64 (alZ (midB s)), .int .i64 (byZ s (s.size - 1) - 48)], .bool true]) ∧ Below w.heap.size w w' :=
  (readS_any s w hs).mono fun e w' ⟨he, hb⟩ => ⟨by rw [he, if_pos hr], hb⟩
theorem readS_bad {s : ByteArray} (w : World) (hs : s.size ≤ maxLen) (hr : rdOk s = false) :
    Calls Try.prog 11 #[.string s] w fun e w' => e = .returned (.tuple #[.agg #[.int .i64 0, .int .i64 0, .int .i64 0], .bool false]) ∧ Below w.heap.size w w' :=
  (readS_any s w hs).mono fun e w' ⟨he, hb⟩ => ⟨by rw [he, if_neg (by rw [hr]; decide)], hb⟩
theorem readI_ok {s : ByteArray} (w : World) (hs : s.size ≤ maxLen) (hr : rdOk s = true) :
    Calls Try.prog 12 #[.string s] w fun e w' => e = .returned (.tuple #[.agg #[.int .i64 (stI (byZ s 0)), .int .i64 (alZ (midB s)), .int .i64 (byZ s (s.size - 1) - 48)], .bool true]) ∧ Below w.heap.size w w' :=
  (readI_any s w hs).mono fun e w' ⟨he, hb⟩ => ⟨by rw [he, if_pos hr], hb⟩
theorem readI_bad {s : ByteArray} (w : World) (hs : s.size ≤ maxLen) (hr : rdOk s = false) :
    Calls Try.prog 12 #[.string s] w fun e w' => e = .returned (.tuple #[.agg #[.int .i64 0, .int .i64 0, .int .i64 0], .bool false]) ∧ Below w.heap.size w w' :=
  (readI_any s w hs).mono fun e w' ⟨he, hb⟩ => ⟨by rw [he, if_neg (by rw [hr]; decide)], hb⟩

set_option maxHeartbeats 2000000 in
theorem xReadPitch_any (s : ByteArray) (w : World) (hs : s.size ≤ maxLen) :
    Calls Try.prog 5 #[.string s] w fun e w' => e = .returned (.bool true) ∧ Below w.heap.size w w' := by
  have hs' : (s.size : Int) ≤ 9223372036854775807 := by unfold maxLen at hs; omega
  by_cases hl : s.size ≤ 1048576
  · have hl' : (s.size : Int) ≤ 1048576 := by omega
    by_cases hr : rdOk s = true
    · go_enter Try.func5, Try.ntmps5
      go_wp2_with (go_at_call 11; refine (readS_ok _ hs hr).mono ?_; rintro e w1 ⟨rfl, hb1⟩)
      refine (readI_ok _ hs hr).mono ?_
      rintro e w2 ⟨rfl, hb2⟩
      obtain ⟨hc, hf⟩ := bcell hb2
      have hz := size_below hb2
      go_wp2_with (go_at_call 13; refine (eqPitch_same _ _ _ _).mono ?_; rintro e w3 ⟨rfl, hb3⟩)
      go_ret
      exact ⟨rfl, btrC (btrC hb1 hb2) hb3⟩
    · rw [Bool.not_eq_true] at hr
      go_enter Try.func5, Try.ntmps5
      go_wp2_with (go_at_call 11; refine (readS_bad _ hs hr).mono ?_; rintro e w1 ⟨rfl, hb1⟩)
      refine (readI_bad _ hs hr).mono ?_
      rintro e w2 ⟨rfl, hb2⟩
      obtain ⟨hc, hf⟩ := bcell hb2
      have hz := size_below hb2
      go_wp2_with (go_at_call 13; refine (eqPitch_same _ _ _ _).mono ?_; rintro e w3 ⟨rfl, hb3⟩)
      go_ret
      exact ⟨rfl, btrC (btrC hb1 hb2) hb3⟩
  · have hl' : 1048576 < (s.size : Int) := by omega
    go_enter Try.func5, Try.ntmps5
    go_wp2
    go_ret
    exact ⟨rfl, Below.refl _ _⟩
end Go.Proofs.Ytfcbfjdkmeiicaa
