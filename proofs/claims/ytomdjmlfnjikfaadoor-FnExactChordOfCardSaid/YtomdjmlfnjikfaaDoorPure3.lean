/- Plain facts for chapter 3: keys. -/
import Derived.Test.YtomdjmlfnjikfaaDoorPure1
namespace Go.Proofs.YtomdjmlfnjikfaaDoor
set_option linter.unusedSimpArgs false
set_option linter.unusedVariables false
/-- the place of a step in the order of sharps. -/
def ordZ (s : Int) : Int := if s = 0 then 1 else if s = 1 then 3 else if s = 2 then 5 else if s = 3 then 0 else if s = 4 then 2 else if s = 5 then 4 else 6
theorem ordZ_bd (s : Int) : 0 ≤ ordZ s ∧ ordZ s ≤ 6 := by unfold ordZ; (repeat' split) <;> omega
/-- the alteration of a step in a key. -/
def altZ (f s : Int) : Int := if ordZ s < f then 1 else if f < ordZ s - 6 then -1 else 0
theorem altZ_bd (f s : Int) : -1 ≤ altZ f s ∧ altZ f s ≤ 1 := by unfold altZ; (repeat' split) <;> omega
/-- a key. -/
def keyB (f : Int) : Bool := inB f (-7) 7
theorem keyB_iff {f : Int} : keyB f = true ↔ -7 ≤ f ∧ f ≤ 7 := inB_iff
/-- what KeyAlter answers. -/
def kaZ (f s : Int) : Int := if keyB f && inB s 0 6 then altZ f s else 0
/-- the step of the tonic. -/
def tonZ (f : Int) (m : Bool) : Int := if m then ((4 * f + 70) % 7 + 5) % 7 else (4 * f + 70) % 7
theorem tonZ_bd (f : Int) (m : Bool) : 0 ≤ tonZ f m ∧ tonZ f m ≤ 6 := by unfold tonZ; split <;> omega
/-- what InKey answers. -/
def ikB (f s a o : Int) : Bool := keyB f && pvB s a o && (a == altZ f s)
/-- does the tonic of the key have this step and this alteration? -/
def isTon (f : Int) (m : Bool) (s a : Int) : Bool := decide (tonZ f m = s) && decide (altZ f (tonZ f m) = a)
/-- what DegreeOf answers. -/
def dgZ (f : Int) (m : Bool) (s : Int) : Int := (s - tonZ f m) % 7
/-- No key below f has this tonic. -/
def noTon (m : Bool) (s a f : Int) : Prop := ∀ g, -7 ≤ g → g < f → isTon g m s a = false
theorem noTon_up {m : Bool} {s a f : Int} (h : noTon m s a f) (ht : isTon f m s a = false) : noTon m s a (f + 1) := fun g h1 h2 => by
  by_cases e : g = f
  · rw [e]; exact ht
  · exact h g h1 (by omega)
end Go.Proofs.YtomdjmlfnjikfaaDoor
