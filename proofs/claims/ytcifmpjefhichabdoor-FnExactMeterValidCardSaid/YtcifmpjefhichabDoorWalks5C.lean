/- Chapter 5 in the program: ticks of a voice; the note at a tick. -/
import Derived.Test.YtcifmpjefhichabDoorWalks5A
import Derived.Test.YtcifmpjefhichabDoorWalks5N
namespace Go.Proofs.YtcifmpjefhichabDoor
set_option linter.unusedSimpArgs false
set_option linter.unusedVariables false
open Go.RowKit

theorem naL_up {v : List Nt} {j : Nat} {x : Nt} {tick : Int} (hd : v.drop j = x :: v.drop (j + 1)) (h : ¬ tick < sumT (v.take j) + x.t) : naL j (v.drop j) (tick - sumT (v.take j)) = naL (j + 1) (v.drop (j + 1)) (tick - (sumT (v.take j) + x.t)) := by
  rw [hd, naL, if_neg (by omega), show tick - (sumT (v.take j) + x.t) = tick - sumT (v.take j) - x.t by omega]