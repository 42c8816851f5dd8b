/- Chapter 2 in the program: the functions that the document names. -/
import Derived.Test.YtllcokbnjlodbaaDoorWalks2I
import Derived.Test.YtllcokbnjlodbaaDoorWalks2S
namespace Go.Proofs.YtllcokbnjlodbaaDoor
set_option linter.unusedSimpArgs false
set_option linter.unusedVariables false
open Go.RowKit

theorem quZ_of {st ha : Int} (h : -9223372036854775807 ≤ ha) (h1 : -21 ≤ st) : quZ st ha = upH st ha - natZ (upS st ha) := by
  unfold quZ upS upH downB
  by_cases hd : st < 0 ∨ (st = 0 ∧ ha < 0)
  · have e : (decide (st < 0) || (st == 0 && decide (ha < 0))) = true := by simp; omega
    rw [if_pos hd, if_pos e, if_pos e, negW_of h, negW_of (by omega)]
  · have e : ¬ (decide (st < 0) || (st == 0 && decide (ha < 0))) = true := by simp; omega
    rw [if_neg hd, if_neg e, if_neg e]
theorem upH_bd {st ha : Int} (h1 : -60 ≤ ha) (h2 : ha ≤ 60) : -60 ≤ upH st ha ∧ upH st ha ≤ 60 := by
  unfold upH
  split
  · rw [negW_of (by omega)]; omega
  · omega
theorem plainB_any (n : Int) (w : World) (h0 : 0 ≤ n) (h1 : n ≤ 1000000) (ht : TabH w) :
    Calls Tryd.prog 56 #[.int .i64 n] w fun e w' => e = .returned (.int .i64 (natZ n)) ∧ Below w.heap.size w w' :=
  (plainH_any n w h0 h1 ht).mono fun _ _ ⟨he, hw⟩ => ⟨he, hw ▸ Below.refl _ _⟩