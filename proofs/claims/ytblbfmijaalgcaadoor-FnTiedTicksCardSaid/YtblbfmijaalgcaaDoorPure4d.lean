/- Plain facts for chapter 4's table of sums: how few values make a number of ticks, and the greatest first one. -/
import Derived.Test.YtblbfmijaalgcaaDoorPure4b
namespace Go.Proofs.YtblbfmijaalgcaaDoor
set_option linter.unusedSimpArgs false
set_option linter.unusedVariables false
/-- the least number of values, or 769. -/
def cntZ (n : Nat) : Int := if few n < 0 then 769 else few n
theorem cntZ_bd (n : Nat) : 0 ≤ cntZ n ∧ cntZ n ≤ 769 := by have := few_bd n; unfold cntZ; split <;> omega
/-- a sum of c values that begins with f is better than one of d that begins with g. -/
def btB (c f d g : Int) : Bool := if c = d then decide (g < f) else decide (c < d)
/-- one value more is tried. -/
def betS (n : Nat) (x : Int × Int) (m : Int) : Int × Int := if m ≤ n ∧ btB (cntZ ((n : Int) - m).toNat + 1) m x.1 x.2 = true then (cntZ ((n : Int) - m).toNat + 1, m) else x
def betK (n k : Nat) : Int × Int := (tkL.take k).foldl (betS n) (769, 0)
theorem betK_up (n k : Nat) (m : Int) (h : tkL[k]? = some m) : betK n (k + 1) = betS n (betK n k) m := foldl_up _ _ _ _ _ h
theorem bet_all : ((List.range 768).all fun n => betK (n + 1) 30 == (cntZ (n + 1), next (n + 1))) = true := by decide +kernel
theorem bet_is {n : Nat} (h0 : 1 ≤ n) (h1 : n ≤ 768) : betK n 30 = (cntZ n, next n) := by
  have := List.all_eq_true.1 bet_all (n - 1) (by simp; omega)
  rw [show n - 1 + 1 = n by omega] at this
  simpa using this
theorem betS_bd {n : Nat} {x : Int × Int} {m : Int} (h : 0 ≤ x.1 ∧ x.1 ≤ 770 ∧ 0 ≤ x.2 ∧ x.2 ≤ 336) (hm : 0 ≤ m ∧ m ≤ 336) : 0 ≤ (betS n x m).1 ∧ (betS n x m).1 ≤ 770 ∧ 0 ≤ (betS n x m).2 ∧ (betS n x m).2 ≤ 336 := by
  have := cntZ_bd ((n : Int) - m).toNat
  unfold betS
  split
  · exact ⟨by simp only; omega, by simp only; omega, hm.1, hm.2⟩
  · exact h
theorem betK_bd (n : Nat) : ∀ k : Nat, 0 ≤ (betK n k).1 ∧ (betK n k).1 ≤ 770 ∧ 0 ≤ (betK n k).2 ∧ (betK n k).2 ≤ 336 := by
  suffices h : ∀ (l : List Int) (x : Int × Int), (∀ m ∈ l, 0 ≤ m ∧ m ≤ 336) → (0 ≤ x.1 ∧ x.1 ≤ 770 ∧ 0 ≤ x.2 ∧ x.2 ≤ 336) → 0 ≤ (l.foldl (betS n) x).1 ∧ (l.foldl (betS n) x).1 ≤ 770 ∧ 0 ≤ (l.foldl (betS n) x).2 ∧ (l.foldl (betS n) x).2 ≤ 336 from
    fun k => h _ _ (fun m hm => tk_bd m (List.mem_of_mem_take hm)) (by decide)
  intro l
  induction l with
  | nil => exact fun x _ h => h
  | cons m l ih => exact fun x hl h => ih _ (fun u hu => hl u (by simp [hu])) (betS_bd h (hl m (by simp)))
theorem few_pos_all : ((List.range 768).all fun n => few (n + 1) != 0) = true := by decide +kernel
theorem few_pos {n : Nat} (h0 : 1 ≤ n) (h1 : n ≤ 768) (h : 0 ≤ few n) : 0 < few n := by
  have := List.all_eq_true.1 few_pos_all (n - 1) (by simp; omega)
  rw [show n - 1 + 1 = n by omega] at this
  have h2 : few n ≠ 0 := by simpa using this
  omega
theorem cnt_zero : cntZ 0 = 0 := by decide +kernel
theorem next_zero : next 0 = 0 := by decide +kernel
end Go.Proofs.YtblbfmijaalgcaaDoor
