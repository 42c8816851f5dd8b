/- The pitches of a scale, one by one. -/
import Derived.Test.YtomdjmlfnjikfaaDoorWalks3N
namespace Go.Proofs.YtomdjmlfnjikfaaDoor
set_option linter.unusedSimpArgs false
set_option linter.unusedVariables false
open Go.RowKit

theorem scL_get (f : Int) (m : Bool) : ∀ k j : Nat, j < k → (scL f m k)[j * 3]? = some (.int .i64 ((28 + tonZ f m + j) % 7)) ∧ (scL f m k)[j * 3 + 1]? = some (.int .i64 (altZ f ((28 + tonZ f m + j) % 7))) ∧ (scL f m k)[j * 3 + 2]? = some (.int .i64 ((28 + tonZ f m + j) / 7))
  | 0, _, h => by omega
  | k + 1, j, h => by
    have hl := scL_len f m k
    rw [← scL_up]
    by_cases e : j = k
    · subst e
      refine ⟨?_, ?_, ?_⟩
      · rw [List.getElem?_append_right (by omega), show j * 3 - (scL f m j).length = 0 by omega]; rfl
      · rw [List.getElem?_append_right (by omega), show j * 3 + 1 - (scL f m j).length = 1 by omega]; rfl
      · rw [List.getElem?_append_right (by omega), show j * 3 + 2 - (scL f m j).length = 2 by omega]; rfl
    · obtain ⟨h0, h1, h2⟩ := scL_get f m k j (by omega)
      exact ⟨by rw [List.getElem?_append_left (by omega)]; exact h0, by rw [List.getElem?_append_left (by omega)]; exact h1, by rw [List.getElem?_append_left (by omega)]; exact h2⟩
theorem scL_atI (f : Int) (m : Bool) {y : Int} (y0 : 0 ≤ y) (y1 : y ≤ 7) : (scL f m 8)[y.toNat * 3]? = some (.int .i64 ((28 + tonZ f m + y) % 7)) ∧ (scL f m 8)[y.toNat * 3 + 1]? = some (.int .i64 (altZ f ((28 + tonZ f m + y) % 7))) ∧ (scL f m 8)[y.toNat * 3 + 2]? = some (.int .i64 ((28 + tonZ f m + y) / 7)) := by
  have := scL_get f m 8 y.toNat (by omega)
  rwa [show ((y.toNat : Nat) : Int) = y by omega] at this

/-- What the pitches of a scale answer. -/
theorem sc_facts {f y : Int} (m : Bool) (f0 : -7 ≤ f) (f1 : f ≤ 7) (y0 : 0 ≤ y) (y1 : y ≤ 7) : ∃ s a o : Int, (scL f m 8)[y.toNat * 3]? = some (.int .i64 s) ∧ (scL f m 8)[y.toNat * 3 + 1]? = some (.int .i64 a) ∧ (scL f m 8)[y.toNat * 3 + 2]? = some (.int .i64 o) ∧
    pvB s a o = true ∧ ikB f s a o = true ∧ keyZ s a o = scK f m y ∧ placeZ s a o = 28 + tonZ f m + y ∧ s = (28 + tonZ f m + y) % 7 ∧ a = altZ f s := by
  obtain ⟨h0, h1, h2⟩ := scL_atI f m y0 y1
  have hp := scale_ok m f0 f1 y0 y1
  obtain ⟨t0, t6⟩ := tonZ_bd f m
  refine ⟨_, _, _, h0, h1, h2, hp, ?_, rfl, ?_, rfl, rfl⟩
  · have hk : keyB f = true := keyB_iff.2 ⟨f0, f1⟩
    simp [ikB, hk, hp]
  · rw [placeZ, if_pos hp]; omega

end Go.Proofs.YtomdjmlfnjikfaaDoor
