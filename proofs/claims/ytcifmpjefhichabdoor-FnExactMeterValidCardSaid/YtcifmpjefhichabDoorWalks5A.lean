/- Chapter 5 in the program: notes and voices that are valid. -/
import Derived.Test.YtcifmpjefhichabDoorWalks5S
import Derived.Test.YtcifmpjefhichabDoorSlTake
import Derived.Test.YtcifmpjefhichabDoorCon5
namespace Go.Proofs.YtcifmpjefhichabDoor
set_option linter.unusedSimpArgs false
set_option linter.unusedVariables false
open Go.RowKit

/-- the tie of the first note leads on. -/
def ldB : List Nt → Bool
  | [] => true
  | [x] => !x.y
  | x :: z :: _ => !x.y || (!z.r && toneB x z)
theorem tie_ld (x : Nt) (l : List Nt) : tieB (x :: l) = (nvB x && ldB (x :: l) && tieB l) := by
  cases l with
  | nil => simp [tieB, ldB]
  | cons z l => simp [tieB, ldB, linkB]

/- Chapter 5 in the program: valid voices. -/
open Go.RowKit

theorem ld_no {x : Nt} {l : List Nt} (h : ldB (x :: l) = false) : tieB (x :: l) = false := by rw [tie_ld, h]; simp
theorem ld_yes {x : Nt} {l : List Nt} (h1 : nvB x = true) (h : ldB (x :: l) = true) : tieB (x :: l) = tieB l := by rw [tie_ld, h1, h]; simp