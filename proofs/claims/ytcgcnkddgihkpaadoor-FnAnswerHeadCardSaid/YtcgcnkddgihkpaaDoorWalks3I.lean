/- Chapter 3 in the program: the table of alterations, tonics, pitches in keys. -/
import Derived.Test.YtcgcnkddgihkpaaDoorWalks3S
import Derived.Test.YtcgcnkddgihkpaaDoorWalks1
import Derived.Test.YtcgcnkddgihkpaaDoorPure1
import Derived.Test.YtcgcnkddgihkpaaDoorTab2
import Derived.Lib.SmallJoins
import Derived.Test.YtcgcnkddgihkpaaDoorRegionD
namespace Go.Proofs.YtcgcnkddgihkpaaDoor
set_option linter.unusedSimpArgs false
set_option linter.unusedVariables false
set_option maxRecDepth 8000
open Go.RowKit Go.Joins

/-- The table of alterations lies as its text lays it. -/
def TabA (w : World) : Prop := Lib.TabIs Tryd.prog w "loop.example/musicengine/impl.keyAlters" .i64 altLL.flatten
theorem gA : Tryd.prog.globalNamed "loop.example/musicengine/impl.keyAlters" = some 2 := by kernel_rfl
theorem TabA.below {w w' : World} (h : TabA w) (hb : Below w.heap.size w w') : TabA w' := tab_stays gA h hb (Nat.le_refl _)
theorem TabA.cell {w : World} (h : TabA w) {f s : Int} (f0 : -7 ≤ f) (f1 : f ≤ 7) (s0 : 0 ≤ s) (s1 : s ≤ 6) : w.cell? ⟨2, (f + 7).toNat * 7 + s.toNat, none⟩ = some (.int .i64 (altZ f s)) := by
  rw [Lib.TabIs.cell h gA ((f + 7).toNat * 7 + s.toNat) (by rw [altLL_len]; omega), altLL_at f0 f1 s0 s1]

set_option maxHeartbeats 400000 in
theorem kvI_any (f : Int) (w : World) :
    Calls Tryd.prog 53 #[.int .i64 f] w fun e w' => e = .returned (.bool (keyB f)) ∧ w = w' := by
  unfold keyB inB
  by_cases h1 : -7 ≤ f <;> by_cases h2 : f ≤ 7
  all_goals
    go_enter Tryd.func53, Tryd.ntmps53
    go_wp2
    go_ret
    simp [h1, h2]
theorem kvI_is {f : Int} {b : Bool} (w : World) (h : keyB f = b) : Calls Tryd.prog 53 #[.int .i64 f] w fun e w' => e = .returned (.bool b) ∧ Below w.heap.size w w' := by subst h; exact inBel (kvI_any _ _)
theorem pvI_is {s a o : Int} {b : Bool} (w : World) (h : pvB s a o = b) : Calls Tryd.prog 59 #[.agg #[.int .i64 s, .int .i64 a, .int .i64 o]] w fun e w' => e = .returned (.bool b) ∧ Below w.heap.size w w' := by subst h; exact pvI_any _ _ _ _

set_option maxHeartbeats 1000000 in
theorem kaI_any0 (f s : Int) (w : World) (hA : TabA w) :
    Calls Tryd.prog 61 #[.int .i64 f, .int .i64 s] w fun e w' => e = .returned (.int .i64 (kaZ f s)) ∧ w = w' := by
  cases h1 : keyB f
  · have HE := hid (show kaZ f s = 0 by simp [kaZ, h1])
    clear hA
    go_enter Tryd.func61, Tryd.ntmps61
    go_wp2_with (go_at_call 53; refine (kvI_any _ _).mono ?_; rintro e w1 ⟨rfl, rfl⟩)
    all_goals go_ret
    all_goals exact ⟨ret_int HE.out.symm, rfl⟩
  cases h2 : inB s 0 6
  · have HE := hid (show kaZ f s = 0 by simp [kaZ, h2])
    have h3 : s < 0 ∨ 7 ≤ s := by
      by_cases h : 0 ≤ s ∧ s ≤ 6
      · rw [inB_iff.2 h] at h2; cases h2
      · omega
    clear hA h2
    rcases h3 with h3 | h3
    all_goals
      go_enter Tryd.func61, Tryd.ntmps61
      go_wp2_with (go_at_call 53; refine (kvI_any _ _).mono ?_; rintro e w1 ⟨rfl, rfl⟩)
    all_goals go_ret
    all_goals exact ⟨ret_int HE.out.symm, rfl⟩
  · have HE := hid (show kaZ f s = altZ f s by simp [kaZ, h1, h2])
    obtain ⟨s0, s6⟩ := inB_iff.1 h2
    obtain ⟨f0, f1⟩ := keyB_iff.1 h1
    have hc := hA.cell f0 f1 s0 s6
    clear hA h2
    go_enter Tryd.func61, Tryd.ntmps61
    go_wp2_with (go_at_call 53; refine (kvI_any _ _).mono ?_; rintro e w1 ⟨rfl, rfl⟩)
    go_ret
    exact ⟨ret_int HE.out.symm, rfl⟩
theorem kaI_any (f s : Int) (w : World) (hA : TabA w) :
    Calls Tryd.prog 61 #[.int .i64 f, .int .i64 s] w fun e w' => e = .returned (.int .i64 (kaZ f s)) ∧ Below w.heap.size w w' := inBel (kaI_any0 f s w hA)
theorem kaI_in (f s : Int) (w : World) (hA : TabA w) (hf : keyB f = true) (s0 : 0 ≤ s) (s6 : s ≤ 6) :
    Calls Tryd.prog 61 #[.int .i64 f, .int .i64 s] w fun e w' => e = .returned (.int .i64 (altZ f s)) ∧ Below w.heap.size w w' := by
  have := kaI_any f s w hA
  rwa [show kaZ f s = altZ f s by simp [kaZ, hf, inB_iff.2 ⟨s0, s6⟩]] at this

set_option maxHeartbeats 1000000 in
theorem tonI_any (f : Int) (m : Bool) (w : World) (h0 : -7 ≤ f) (h1 : f ≤ 7) :
    Calls Tryd.prog 60 #[.int .i64 f, .bool m] w fun e w' => e = .returned (.int .i64 (tonZ f m)) ∧ w = w' := by
  have q0 : 0 ≤ 4 * (f + 7) := by omega
  have q1 : 0 ≤ 4 * (f + 7) + 5 := by omega
  cases m
  · have HE := hid (tonZ_prog0 f).symm
    go_enter Tryd.func60, Tryd.ntmps60
    go_wp2
    go_ret
    exact ⟨ret_int HE.out.symm, rfl⟩
  · have HE := hid (tonZ_prog1 f).symm
    go_enter Tryd.func60, Tryd.ntmps60
    go_wp2
    go_ret
    exact ⟨ret_int HE.out.symm, rfl⟩
theorem tonIB_any (f : Int) (m : Bool) (w : World) (h0 : -7 ≤ f) (h1 : f ≤ 7) :
    Calls Tryd.prog 60 #[.int .i64 f, .bool m] w fun e w' => e = .returned (.int .i64 (tonZ f m)) ∧ Below w.heap.size w w' := inBel (tonI_any f m w h0 h1)