/- For the tied cards: what the laid tables of bases and of dots give a walk. -/
import Derived.Test.YtcifmpjefhichabDoorLawDoor
import Derived.Test.YtcifmpjefhichabDoorLaw
import Derived.Test.YtcifmpjefhichabDoorWalks4I
namespace Go.Proofs.YtcifmpjefhichabDoor
set_option linter.unusedSimpArgs false
set_option linter.unusedVariables false
open Go.ChangeShapes Go.WideShapes Go.ChangeAt Go.RowKit Go.Joins

theorem tabB_of_laid {W : World} {l : List (String × DataW Unit)} (hl : l.filter (fun x => x.1 == "loop.example/musicengine/impl.valueBases") = [("loop.example/musicengine/impl.valueBases", Lib.tabData .i64 basL)])
    (h : laidMetH Tryd.prog l W) : TabB W := by
  have h' := laidMetH.filter (fun x => x.1 == "loop.example/musicengine/impl.valueBases") h
  rw [hl, MakeChecks.laidMetH_plain _ _ _ (by kernel_rfl)] at h'
  exact Lib.tabIs_of_head gB (by kernel_rfl) Tryd.underlying30 Tryd.underlying3 (by kernel_rfl) (by kernel_rfl) h'