/- Chapter 5 in the model: notes and voices that are valid; ticks; the note at a tick. -/
import Derived.Test.YtcifmpjefhichabDoorWalksNS
import Derived.Test.YtcifmpjefhichabDoorPure5
namespace Go.Proofs.YtcifmpjefhichabDoor
set_option linter.unusedSimpArgs false
set_option linter.unusedVariables false
open Go.RowKit

/- Chapter 5 in the model: valid voices. -/
open Go.RowKit

theorem tie_no1 {x : Nt} {l : List Nt} (h : nvB x = false) : tieB (x :: l) = false := by
  cases l <;> simp [tieB, h]
theorem tie_free {x : Nt} {l : List Nt} (h : nvB x = true) (hy : x.y = false) : tieB (x :: l) = tieB l := by
  cases l <;> simp [tieB, linkB, h, hy]
theorem tie_end {x : Nt} (hy : x.y = true) : tieB [x] = false := by simp [tieB, hy]
theorem tie_rest2 {x z : Nt} {l : List Nt} (hy : x.y = true) (hr : z.r = true) : tieB (x :: z :: l) = false := by simp [tieB, linkB, hy, hr]
theorem tie_tone {x z : Nt} {l : List Nt} (h : nvB x = true) (hy : x.y = true) (hr : z.r = false) : tieB (x :: z :: l) = (toneB x z && tieB (z :: l)) := by simp [tieB, linkB, h, hy, hr]