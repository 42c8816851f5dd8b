/- Plain facts for chapter 1: spelling keys. -/
import Derived.Test.YtfdglkiehkilnaaDoorPure1
namespace Go.Proofs.YtfdglkiehkilnaaDoor
set_option linter.unusedSimpArgs false
set_option linter.unusedVariables false
set_option maxRecDepth 8000
/-- the step with so many half tones above C, or -1. -/
def stepZ (h : Int) : Int := if h = 0 then 0 else if h = 2 then 1 else if h = 4 then 2 else if h = 5 then 3 else if h = 7 then 4 else if h = 9 then 5 else if h = 11 then 6 else -1
def spS (key : Int) (flats : Bool) : Int := if 0 ≤ stepZ (key % 12) then stepZ (key % 12) else if flats then stepZ (key % 12 + 1) else stepZ (key % 12 - 1)
def spA (key : Int) (flats : Bool) : Int := if 0 ≤ stepZ (key % 12) then 0 else if flats then -1 else 1
theorem stepZ_bd (h : Int) : -1 ≤ stepZ h ∧ stepZ h ≤ 6 := by unfold stepZ; (repeat' split) <;> omega
theorem stepZ_hal {s : Int} (h0 : 0 ≤ s) (h6 : s ≤ 6) : stepZ (halZ s) = s := by
  rcases step7 h0 h6 with rfl | rfl | rfl | rfl | rfl | rfl | rfl <;> rfl
theorem hal_stepZ {h : Int} (h0 : 0 ≤ stepZ h) : halZ (stepZ h) = h := by
  unfold stepZ at h0 ⊢
  (repeat' split) <;> simp_all [halZ]
theorem stepZ_none {h : Int} (hn : ¬ 0 ≤ stepZ h) (h0 : 0 ≤ h) (h1 : h ≤ 11) : h = 1 ∨ h = 3 ∨ h = 6 ∨ h = 8 ∨ h = 10 := by
  unfold stepZ at hn
  (repeat' split at hn) <;> omega
theorem stepZ_near {h : Int} (hn : ¬ 0 ≤ stepZ h) (h0 : 0 ≤ h) (h1 : h ≤ 11) : 0 ≤ stepZ (h - 1) ∧ 0 ≤ stepZ (h + 1) := by
  rcases stepZ_none hn h0 h1 with rfl | rfl | rfl | rfl | rfl <;> decide
theorem halZ_inj {a b : Int} (a0 : 0 ≤ a) (a6 : a ≤ 6) (b0 : 0 ≤ b) (b6 : b ≤ 6) (h : halZ a = halZ b) : a = b := by
  rw [← stepZ_hal a0 a6, ← stepZ_hal b0 b6, h]
theorem natZ_inj {p q : Int} (h : natZ p = natZ q) : p = q := by
  have h1 := halZ_bd (p % 7)
  have h2 := halZ_bd (q % 7)
  unfold natZ at h
  have h3 := halZ_inj (a := p % 7) (b := q % 7) (by omega) (by omega) (by omega) (by omega) (by omega)
  rw [h3] at h
  omega
/-- the place that the first loop finds. -/
theorem natZ_eq {p key : Int} (h : natZ p = key) : key / 12 = p / 7 ∧ key % 12 = halZ (p % 7) := by
  have h1 := halZ_bd (p % 7)
  unfold natZ at h
  omega
theorem nat_hit {p key : Int} (f : Bool) (h : natZ p = key) : spS key f = p % 7 ∧ spA key f = 0 ∧ key / 12 = p / 7 := by
  obtain ⟨h1, h2⟩ := natZ_eq h
  have h3 : stepZ (key % 12) = p % 7 := by rw [h2, stepZ_hal (by omega) (by omega)]
  unfold spS spA
  rw [h3, if_pos (by omega), if_pos (by omega)]
  exact ⟨rfl, rfl, h1⟩
theorem sharp_hit {p key : Int} (hn : ¬ 0 ≤ stepZ (key % 12)) (h : natZ p = key - 1) : spS key false = p % 7 ∧ spA key false = 1 ∧ key / 12 = p / 7 := by
  obtain ⟨h1, h2⟩ := natZ_eq h
  have h4 := stepZ_none hn (by omega) (by omega)
  have h3 : stepZ (key % 12 - 1) = p % 7 := by rw [show key % 12 - 1 = halZ (p % 7) by omega, stepZ_hal (by omega) (by omega)]
  unfold spS spA
  rw [if_neg hn, if_neg hn, h3]
  refine ⟨rfl, rfl, by omega⟩
theorem flat_hit {p key : Int} (hn : ¬ 0 ≤ stepZ (key % 12)) (h : natZ p = key + 1) : spS key true = p % 7 ∧ spA key true = -1 ∧ key / 12 = p / 7 := by
  obtain ⟨h1, h2⟩ := natZ_eq h
  have h4 := stepZ_none hn (by omega) (by omega)
  have h3 : stepZ (key % 12 + 1) = p % 7 := by rw [show key % 12 + 1 = halZ (p % 7) by omega, stepZ_hal (by omega) (by omega)]
  unfold spS spA
  rw [if_neg hn, if_neg hn, h3]
  refine ⟨rfl, rfl, by omega⟩
/-- no place has a key that lacks a step. -/
theorem nat_none {p key : Int} (hn : ¬ 0 ≤ stepZ (key % 12)) : natZ p ≠ key := by
  intro h
  obtain ⟨_, h2⟩ := natZ_eq h
  rw [h2, stepZ_hal (by omega) (by omega)] at hn
  omega
/-- where the natural one stands. -/
theorem nat_at {key : Int} (hn : 0 ≤ stepZ (key % 12)) : natZ (7 * (key / 12) + stepZ (key % 12)) = key := by
  have h1 := stepZ_bd (key % 12)
  rw [natZ_os hn h1.2, hal_stepZ hn]
  omega
theorem sharp_at {key : Int} (hn : ¬ 0 ≤ stepZ (key % 12)) : natZ (7 * (key / 12) + stepZ (key % 12 - 1)) = key - 1 := by
  have h1 := stepZ_bd (key % 12 - 1)
  have h2 := stepZ_near hn (by omega) (by omega)
  rw [natZ_os h2.1 h1.2, hal_stepZ h2.1]
  omega
theorem flat_at {key : Int} (hn : ¬ 0 ≤ stepZ (key % 12)) : natZ (7 * (key / 12) + stepZ (key % 12 + 1)) = key + 1 := by
  have h1 := stepZ_bd (key % 12 + 1)
  have h2 := stepZ_near hn (by omega) (by omega)
  rw [natZ_os h2.2 h1.2, hal_stepZ h2.2]
  omega
end Go.Proofs.YtfdglkiehkilnaaDoor
