/- Facts for the promises of chapter 4: what tied values add up to; how many there are. -/
import Derived.Test.YtblbfmijaalgcaaDoorPure4b
namespace Go.Proofs.YtblbfmijaalgcaaDoor
set_option linter.unusedSimpArgs false
set_option linter.unusedVariables false
/-- they do not grow. -/
def descB : List Int → Bool
  | [] => true
  | [_] => true
  | x :: y :: l => decide (y ≤ x) && descB (y :: l)
/-- what the promise asks of a list for n ticks. -/
def tiB (n : Int) (l : List Int) : Bool := l.all (fun m => tkL.contains m) && descB l && (l.isEmpty || l.sum == n) && (tkL.contains n == (l.length == 1))
theorem tied_all : ((List.range 768).all fun n => tiB ((n : Int) + 1) (tied (n + 1))) = true := by decide +kernel
theorem tied_is {n : Nat} (h0 : 1 ≤ n) (h1 : n ≤ 768) : tiB n (tied n) = true := by
  have := List.all_eq_true.1 tied_all (n - 1) (by simp; omega)
  simp only [show n - 1 + 1 = n by omega, show ((n - 1 : Nat) : Int) + 1 = n by omega] at this
  exact this
/-- With a whole note more at most one value more is needed. -/
theorem few_more_all : ((List.range 576).all fun n => (tied (n + 1)).isEmpty || (decide (1 ≤ (tied (n + 193)).length) && decide ((tied (n + 193)).length ≤ (tied (n + 1)).length + 1))) = true := by decide +kernel
theorem few_more {n : Nat} (h0 : 1 ≤ n) (h1 : n + 192 ≤ 768) (hn : tied n ≠ []) : 1 ≤ (tied (n + 192)).length ∧ (tied (n + 192)).length ≤ (tied n).length + 1 := by
  have := List.all_eq_true.1 few_more_all (n - 1) (by simp; omega)
  simp only [show n - 1 + 1 = n by omega, show n - 1 + 193 = n + 192 by omega] at this
  simp only [Bool.or_eq_true, Bool.and_eq_true, decide_eq_true_eq, List.isEmpty_iff] at this
  exact this.resolve_left hn
end Go.Proofs.YtblbfmijaalgcaaDoor
