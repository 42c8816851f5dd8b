/- What make lays, whatever the element; cells of a slice at a known place. No program in it. -/
import Derived.Test.YtepelgaekgllcaaDoorOwnMake
namespace Go.Proofs.YtepelgaekgllcaaDoor
set_option linter.unusedSimpArgs false
set_option linter.unusedVariables false
open Go.RowKit

theorem flat_rep {α : Type} (l : List α) (hl : 0 < l.length) : ∀ (n j : Nat), j < n * l.length → ((List.replicate n l).flatten)[j]? = l[j % l.length]?
  | 0, j, h => by simp at h
  | n + 1, j, h => by
    rw [List.replicate_succ, List.flatten_cons]
    by_cases hj : j < l.length
    · rw [List.getElem?_append_left hj, Nat.mod_eq_of_lt hj]
    · rw [List.getElem?_append_right (by omega), flat_rep l hl n (j - l.length) (by rw [Nat.add_mul] at h; omega), ← Nat.mod_eq_sub_mod (by omega)]
theorem made_rep (z : Array Value) (hz : 0 < z.size) (n : Nat) : (madeCells z (n * z.size)).toList = (List.replicate n z.toList).flatten := by
  apply List.ext_getElem?
  intro j
  simp only [madeCells, Array.toList_map, Array.toList_range, List.getElem?_map]
  by_cases hj : j < n * z.size
  · have hm : j % z.size < z.size := Nat.mod_lt _ hz
    rw [List.getElem?_range hj, flat_rep z.toList (by simpa using hz) n j (by simpa using hj)]
    simp [hm]
  · rw [List.getElem?_eq_none (by simp; omega), List.getElem?_eq_none (by simp [List.length_flatten, List.map_replicate, List.sum_replicate_nat]; omega)]
    rfl

/-- A slice opened: its length; and where there is an element, its place. -/
theorem SlAt.open {w : World} {v : Value} {n size : Nat} {xs : List Value} (h : SlAt w v n size xs) : ∃ A cap, v = .slice A n cap ∧ (n : Int) ≤ 9223372036854775807 ∧ (0 < n → ∃ b off, A = some ⟨b, off, none⟩ ∧ n ≤ cap ∧ cap ≤ 9223372036854775807 ∧ b < w.heap.size) := by
  rcases h.2 with ⟨rfl, rfl⟩ | ⟨b, off, cap, rfl, h1, h2, h3, _⟩
  · exact ⟨none, 0, rfl, by omega, fun h => by omega⟩
  · unfold maxLen at h2
    exact ⟨_, cap, rfl, by omega, fun _ => ⟨b, off, rfl, h1, by omega, h3⟩⟩
theorem SlAt.cellAt {w : World} {b off cap n size : Nat} {xs : List Value} (h : SlAt w (.slice (some ⟨b, off, none⟩) n cap) n size xs) {j : Nat} {u : Value} (hj : xs[j]? = some u) : w.cell? ⟨b, off + j, none⟩ = some u := by
  rcases h.2 with ⟨h1, _⟩ | ⟨b', off', cap', h1, _, _, _, h2⟩
  · cases h1
  · cases h1
    exact h2 j u hj
end Go.Proofs.YtepelgaekgllcaaDoor
