/- For the tied cards: what the laid table of alterations gives a walk. -/
import Derived.Test.YtcgcnkddgihkpaaDoorLawDoor
import Derived.Test.YtcgcnkddgihkpaaDoorWalks3I
namespace Go.Proofs.YtcgcnkddgihkpaaDoor
set_option linter.unusedSimpArgs false
set_option linter.unusedVariables false
set_option maxRecDepth 8000
open Go.ChangeShapes Go.WideShapes Go.ChangeAt Go.RowKit Go.Joins

theorem tabA_of_laid {W : World} {l : List (String × DataW Unit)} (hl : l.filter (fun x => x.1 == "loop.example/musicengine/impl.keyAlters") = [("loop.example/musicengine/impl.keyAlters", nestData .i64 altLL)])
    (h : laidMetH Tryd.prog l W) : TabA W := by
  have h' := laidMetH.filter (fun x => x.1 == "loop.example/musicengine/impl.keyAlters") h
  rw [hl, MakeChecks.laidMetH_plain _ _ _ (by kernel_rfl)] at h'
  exact nestIs_of_head gA (by kernel_rfl) Tryd.underlying101 Tryd.underlying100 Tryd.underlying3 (by kernel_rfl) (by kernel_rfl) (by kernel_rfl) h'
end Go.Proofs.YtcgcnkddgihkpaaDoor
