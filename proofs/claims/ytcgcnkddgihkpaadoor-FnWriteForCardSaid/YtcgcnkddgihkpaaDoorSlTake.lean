/- Parts of a slice of notes. -/
import Derived.Test.YtcgcnkddgihkpaaDoorWalksNS
namespace Go.Proofs.YtcgcnkddgihkpaaDoor
set_option linter.unusedSimpArgs false
set_option linter.unusedVariables false
set_option maxRecDepth 8000
open Go.RowKit

theorem vcC_take (v : List Nt) (m : Nat) : ∀ {j : Nat} {u : Value}, (vcC (v.take m))[j]? = some u → (vcC v)[j]? = some u := by
  intro j u h
  have hl := (List.getElem?_eq_some_iff.1 h).1
  have e : vcC v = vcC (v.take m) ++ vcC (v.drop m) := by rw [← vcC_append, List.take_append_drop]
  rw [e, List.getElem?_append_left hl]
  exact h
theorem vcC_drop (v : List Nt) (m : Nat) (hm : m ≤ v.length) : ∀ {j : Nat} {u : Value}, (vcC (v.drop m))[j]? = some u → (vcC v)[m * 6 + j]? = some u := by
  intro j u h
  have e : vcC v = vcC (v.take m) ++ vcC (v.drop m) := by rw [← vcC_append, List.take_append_drop]
  have hl : (vcC (v.take m)).length = m * 6 := by rw [vcC_len, List.length_take]; congr 1; omega
  rw [e, List.getElem?_append_right (by omega), hl, show m * 6 + j - m * 6 = j by omega]
  exact h
/-- The first m notes of a slice; all but the first m. -/
theorem slAt_take {w : World} {b off cap n m : Nat} {v : List Nt} (h : SlAt w (.slice (some ⟨b, off, none⟩) n cap) n 6 (vcC v)) (hm : m ≤ n) : SlAt w (.slice (some ⟨b, off, none⟩) m cap) m 6 (vcC (v.take m)) := by
  have hl := h.1
  rw [vcC_len] at hl
  rcases h.2 with ⟨h1, _⟩ | ⟨b', off', cap', h1, h2, h3, h4, h5⟩
  · cases h1
  · cases h1
    exact ⟨by rw [vcC_len, List.length_take]; congr 1; omega, Or.inr ⟨b, off, cap, rfl, by omega, h3, h4, fun j u hj => h5 j u (vcC_take v m hj)⟩⟩
theorem slAt_drop {w : World} {b off cap n m : Nat} {v : List Nt} (h : SlAt w (.slice (some ⟨b, off, none⟩) n cap) n 6 (vcC v)) (hm : m ≤ n) : SlAt w (.slice (some ⟨b, off + m * 6, none⟩) (n - m) (cap - m)) (n - m) 6 (vcC (v.drop m)) := by
  have hl := h.1
  rw [vcC_len] at hl
  rcases h.2 with ⟨h1, _⟩ | ⟨b', off', cap', h1, h2, h3, h4, h5⟩
  · cases h1
  · cases h1
    exact ⟨by rw [vcC_len, List.length_drop]; congr 1; omega, Or.inr ⟨b, off + m * 6, cap - m, rfl, by omega, by omega, h4, fun j u hj => by
      rw [show off + m * 6 + j = off + (m * 6 + j) by omega]
      exact h5 _ u (vcC_drop v m (by omega) hj)⟩⟩
end Go.Proofs.YtcgcnkddgihkpaaDoor
