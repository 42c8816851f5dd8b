/- For the tied cards: what the laid variables give a walk. -/
import Derived.Test.YtfcbfjdkmeiicaaDoorLaw
import Derived.Test.YtfcbfjdkmeiicaaDoorCards
import Derived.Test.YtfcbfjdkmeiicaaDoorTie
import Derived.Test.YtfcbfjdkmeiicaaDoorWalksKey
import Derived.SevenTiedAt
namespace Go.Proofs.YtfcbfjdkmeiicaaDoor
open Go.ChangeShapes Go.WideShapes Go.ChangeAt Go.RowKit Go.Joins

theorem tabH_of_laid {W : World} {l : List (String × DataW Unit)} (hl : l.filter (fun x => x.1 == "loop.example/musicengine/impl.stepHalves") = [("loop.example/musicengine/impl.stepHalves", Lib.tabData .i64 halL)])
    (h : laidMetH Tryd.prog l W) : TabH W := by
  have h' := laidMetH.filter (fun x => x.1 == "loop.example/musicengine/impl.stepHalves") h
  rw [hl, MakeChecks.laidMetH_plain _ _ _ (by kernel_rfl)] at h'
  exact Lib.tabIs_of_head gH (by kernel_rfl) Tryd.underlying48 Tryd.underlying3 (by kernel_rfl) (by kernel_rfl) h'
end Go.Proofs.YtfcbfjdkmeiicaaDoor
