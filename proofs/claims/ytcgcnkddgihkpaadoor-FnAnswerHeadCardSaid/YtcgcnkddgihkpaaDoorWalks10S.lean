/- Chapter 10 in the program: tables, sets of classes: the least one, the classes of pitches, seen from a root, ascending. -/
import Derived.Test.YtcgcnkddgihkpaaDoorPure10S
import Derived.Test.YtcgcnkddgihkpaaDoorWalksPt
import Derived.Test.YtcgcnkddgihkpaaDoorWalks10V
import Derived.Test.YtcgcnkddgihkpaaDoorWalks1
import Derived.Test.YtcgcnkddgihkpaaDoorWalks2I
import Derived.Test.YtcgcnkddgihkpaaDoorWalks10T
import Derived.Laws.BitsAllLaws
import Derived.Test.YtcgcnkddgihkpaaDoorRegionD
namespace Go.Proofs.YtcgcnkddgihkpaaDoor
set_option linter.unusedSimpArgs false
set_option linter.unusedVariables false
set_option maxRecDepth 8000
open Go.RowKit Go.Joins

/- Chapter 10 in the program: kinds of sets, lists of valid pitches, tones by their class, the lowest pitch. -/
open Go.RowKit Go.Joins

theorem all_ix {l : List Pt} {p : Pt → Bool} {n : Nat} (hn : l.length = n) (h : ∀ (i : Nat) (x : Pt), i < n → l[i]? = some x → p x = true) : l.all p = true := by
  rw [List.all_eq_true]
  intro x hx
  obtain ⟨i, hi, rfl⟩ := List.getElem_of_mem hx
  exact h i _ (by omega) (List.getElem?_eq_getElem hi)