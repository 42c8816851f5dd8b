/- Chapter 3: degrees and the keys of tonics, in the program; KeyOf by cases, in both. -/
import Derived.Test.YtomdjmlfnjikfaaDoorWalks3I
namespace Go.Proofs.YtomdjmlfnjikfaaDoor
set_option linter.unusedSimpArgs false
set_option linter.unusedVariables false
open Go.RowKit

theorem koP_hit {m : Bool} {s a f : Int} {e : Ending} (h : koP s a m e) (f0 : -7 ≤ f) (f1 : f ≤ 7) (hn : noTon m s a f) (ht : isTon f m s a = true) : e = .returned (.tuple #[.int .i64 f, .bool true]) := by
  rcases h with ⟨g, g0, g1, hng, htg, he⟩ | ⟨h8, _⟩
  · rw [ko_one f0 g0 hn ht hng htg]; exact he
  · have := h8 f f0 (by omega); rw [ht] at this; cases this
theorem koP_miss {m : Bool} {s a : Int} {e : Ending} (h : koP s a m e) (hn : noTon m s a 8) : e = .returned (.tuple #[.int .i64 0, .bool false]) := by
  rcases h with ⟨g, g0, g1, _, htg, _⟩ | ⟨_, he⟩
  · have := hn g g0 (by omega); rw [htg] at this; cases this
  · exact he
theorem ik_ton {f s a o : Int} {m : Bool} (f0 : -7 ≤ f) (f1 : f ≤ 7) (hv : pvB s a o = true) : isTon f m s a = (ikB f s a o && (s == tonZ f m)) := by
  have hb : keyB f = true := keyB_iff.2 ⟨f0, f1⟩
  rw [Bool.eq_iff_iff]
  simp only [isTon, ikB, hb, hv, Bool.true_and, Bool.and_eq_true, decide_eq_true_eq, beq_iff_eq]
  constructor
  · rintro ⟨h1, h2⟩; subst h1; exact ⟨h2.symm, rfl⟩
  · rintro ⟨h1, h2⟩; subst h2; exact ⟨rfl, h1.symm⟩
theorem ik_inv {f s a o : Int} (hv : pvB s a o = false) : ikB f s a o = false := by simp [ikB, hv]
theorem ikI_is {f s a o : Int} {b : Bool} (w : World) (hA : TabA w) (h : ikB f s a o = b) : Calls Tryd.prog 29 #[.int .i64 f, .agg #[.int .i64 s, .int .i64 a, .int .i64 o]] w fun e w' => e = .returned (.bool b) ∧ Below w.heap.size w w' := by subst h; exact ikI_any _ _ _ _ _ hA