/- Plain facts for chapter 1: places and keys. -/
import Derived.Test.YtepelgaekgllcaaDoorPure1
namespace Go.Proofs.YtepelgaekgllcaaDoor
set_option linter.unusedSimpArgs false
set_option linter.unusedVariables false
/-- half tones of a step above C. -/
def halZ (i : Int) : Int := if i = 0 then 0 else if i = 1 then 2 else if i = 2 then 4 else if i = 3 then 5 else if i = 4 then 7 else if i = 5 then 9 else 11
/-- half tones of a place. -/
def natZ (p : Int) : Int := 12 * (p / 7) + halZ (p % 7)
def placeZ (s a o : Int) : Int := if pvB s a o then 7 * o + s else -1
def keyZ (s a o : Int) : Int := if pvB s a o then natZ (7 * o + s) + a else -100
theorem mod7 (p : Int) : p % 7 = 0 ∨ p % 7 = 1 ∨ p % 7 = 2 ∨ p % 7 = 3 ∨ p % 7 = 4 ∨ p % 7 = 5 ∨ p % 7 = 6 := by omega
theorem step7 {s : Int} (h0 : 0 ≤ s) (h6 : s ≤ 6) : s = 0 ∨ s = 1 ∨ s = 2 ∨ s = 3 ∨ s = 4 ∨ s = 5 ∨ s = 6 := by omega
theorem halZ_bd (i : Int) : 0 ≤ halZ i ∧ halZ i ≤ 11 := by unfold halZ; (repeat' split) <;> omega
theorem natZ_bd {p : Int} (h0 : 0 ≤ p) : 0 ≤ natZ p ∧ natZ p ≤ 12 * (p / 7) + 11 := by have := halZ_bd (p % 7); unfold natZ; omega
theorem natZ_os {s o : Int} (h0 : 0 ≤ s) (h6 : s ≤ 6) : natZ (7 * o + s) = 12 * o + halZ s := by
  unfold natZ; rw [show (7 * o + s) / 7 = o by omega, show (7 * o + s) % 7 = s by omega]
end Go.Proofs.YtepelgaekgllcaaDoor
