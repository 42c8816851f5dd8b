/- More plain facts for chapter 4: the list of ticks that make a number together. -/
import Derived.Test.YtblbfmijaalgcaaDoorPure4
namespace Go.Proofs.YtblbfmijaalgcaaDoor
set_option linter.unusedSimpArgs false
set_option linter.unusedVariables false
theorem next_nat {n : Nat} (h0 : 1 ≤ n) (h1 : n ≤ 768) (hf : 0 < few n) : 8 ≤ (next n).toNat ∧ (next n).toNat ≤ n ∧ few (n - (next n).toNat) = few n - 1 := by
  obtain ⟨a, b, c, _⟩ := next_is h0 h1 hf
  exact ⟨by omega, by omega, c⟩
theorem tiedJ_succ (j n : Nat) : tiedJ (j + 1) n = if 0 < n ∧ 0 < few n then next n :: tiedJ j (n - (next n).toNat) else [] := rfl
theorem tiedJ_up : ∀ (j n : Nat), n ≤ 768 → few n < j → tiedJ (j + 1) n = tiedJ j n
  | 0, n, _, hf => by
    have : ¬ (0 < n ∧ 0 < few n) := by omega
    rw [tiedJ_succ 0 n, if_neg this]; rfl
  | j + 1, n, hn, hf => by
    rw [tiedJ_succ (j + 1) n, tiedJ_succ j n]
    by_cases h : 0 < n ∧ 0 < few n
    · rw [if_pos h, if_pos h]
      obtain ⟨a, b, c⟩ := next_nat (n := n) h.1 hn h.2
      rw [tiedJ_up j (n - (next n).toNat) (by omega) (by omega)]
    · rw [if_neg h, if_neg h]
theorem tied_cons {n : Nat} (h0 : 1 ≤ n) (h1 : n ≤ 768) (hf : 0 < few n) : tied n = next n :: tied (n - (next n).toNat) := by
  obtain ⟨a, b, c⟩ := next_nat h0 h1 hf
  have hb := few_bd n
  show tiedJ 16 n = next n :: tiedJ 16 (n - (next n).toNat)
  rw [tiedJ_up 15 (n - (next n).toNat) (by omega) (by omega), tiedJ_succ 15 n, if_pos ⟨by omega, hf⟩]
theorem tied_nil {n : Nat} (h : n = 0 ∨ ¬ 0 < few n) : tied n = [] := by
  show tiedJ 16 n = []
  rw [tiedJ_succ 15 n, if_neg (by omega)]
theorem tiedJ_len : ∀ (j n : Nat), (tiedJ j n).length ≤ j
  | 0, _ => by simp [tiedJ]
  | j + 1, n => by
    rw [tiedJ_succ j n]
    split
    · have := tiedJ_len j (n - (next n).toNat)
      simp only [List.length_cons]; omega
    · simp
theorem tied_len (n : Nat) : (tied n).length ≤ 16 := tiedJ_len 16 n
theorem nextS_bd {n : Nat} {x m : Int} (h : 0 ≤ x ∧ x ≤ 336) (hm : 0 ≤ m ∧ m ≤ 336) : 0 ≤ nextS n x m ∧ nextS n x m ≤ 336 := by unfold nextS; split <;> omega
theorem tk_bd : ∀ m ∈ tkL, 0 ≤ m ∧ m ≤ 336 := by decide +kernel
theorem nextK_bd (n : Nat) : ∀ k : Nat, 0 ≤ nextK n k ∧ nextK n k ≤ 336 := by
  suffices h : ∀ (l : List Int) (x : Int), (∀ m ∈ l, 0 ≤ m ∧ m ≤ 336) → (0 ≤ x ∧ x ≤ 336) → 0 ≤ l.foldl (nextS n) x ∧ l.foldl (nextS n) x ≤ 336 from
    fun k => h _ _ (fun m hm => tk_bd m (List.mem_of_mem_take hm)) (by omega)
  intro l
  induction l with
  | nil => exact fun x _ h => h
  | cons m l ih => exact fun x hl h => ih _ (fun u hu => hl u (by simp [hu])) (nextS_bd h (hl m (by simp)))
end Go.Proofs.YtblbfmijaalgcaaDoor
