/- For the tied cards: what the laid variables give a walk. -/
import Derived.Test.YtcgcnkddgihkpaaDoorLaw
import Derived.Test.YtcgcnkddgihkpaaDoorCards
import Derived.Test.YtcgcnkddgihkpaaDoorTie
import Derived.Test.YtcgcnkddgihkpaaDoorWalks1
import Derived.SevenTiedAt
namespace Go.Proofs.YtcgcnkddgihkpaaDoor
set_option linter.unusedSimpArgs false
set_option linter.unusedVariables false
set_option maxRecDepth 8000
open Go.ChangeShapes Go.WideShapes Go.ChangeAt Go.RowKit Go.Joins

theorem tabH_of_laid {W : World} {l : List (String × DataW Unit)} (hl : l.filter (fun x => x.1 == "loop.example/musicengine/impl.stepHalves") = [("loop.example/musicengine/impl.stepHalves", Lib.tabData .i64 halL)])
    (h : laidMetH Tryd.prog l W) : TabH W := by
  have h' := laidMetH.filter (fun x => x.1 == "loop.example/musicengine/impl.stepHalves") h
  rw [hl, MakeChecks.laidMetH_plain _ _ _ (by kernel_rfl)] at h'
  exact Lib.tabIs_of_head gH (by kernel_rfl) Tryd.underlying100 Tryd.underlying3 (by kernel_rfl) (by kernel_rfl) h'

/-- One closed fact for all cards of the seat: its main is the harness that the cards name. -/
theorem main_is : Tryd.pinned.checked.prog.mainIs = some (Rows.fnRealAnswerCard.stood.harness.1, Rows.fnRealAnswerCard.stood.harness.2.toList) := by kernel_rfl
end Go.Proofs.YtcgcnkddgihkpaaDoor
