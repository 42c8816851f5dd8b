/- For the tied cards: what the laid tables of bases and of dots give a walk. -/
import Derived.Test.YtcifmpjefhichaaDoorLawDoor
import Derived.Test.YtcifmpjefhichaaDoorLaw
import Derived.Test.YtcifmpjefhichaaDoorWalks4I
namespace Go.Proofs.YtcifmpjefhichaaDoor
set_option linter.unusedSimpArgs false
set_option linter.unusedVariables false
open Go.ChangeShapes Go.WideShapes Go.ChangeAt Go.RowKit Go.Joins

theorem tabB_of_laid {W : World} {l : List (String × DataW Unit)} (hl : l.filter (fun x => x.1 == "loop.example/musicengine/impl.valueBases") = [("loop.example/musicengine/impl.valueBases", Lib.tabData .i64 basL)])
    (h : laidMetH Tryd.prog l W) : TabB W := by
  have h' := laidMetH.filter (fun x => x.1 == "loop.example/musicengine/impl.valueBases") h
  rw [hl, MakeChecks.laidMetH_plain _ _ _ (by kernel_rfl)] at h'
  exact Lib.tabIs_of_head gB (by kernel_rfl) Tryd.underlying84 Tryd.underlying3 (by kernel_rfl) (by kernel_rfl) h'

theorem tabD_of_laid {W : World} {l : List (String × DataW Unit)} (hl : l.filter (fun x => x.1 == "loop.example/musicengine/impl.dotQuarters") = [("loop.example/musicengine/impl.dotQuarters", Lib.tabData .i64 dotL)])
    (h : laidMetH Tryd.prog l W) : TabD W := by
  have h' := laidMetH.filter (fun x => x.1 == "loop.example/musicengine/impl.dotQuarters") h
  rw [hl, MakeChecks.laidMetH_plain _ _ _ (by kernel_rfl)] at h'
  exact Lib.tabIs_of_head gD (by kernel_rfl) Tryd.underlying68 Tryd.underlying3 (by kernel_rfl) (by kernel_rfl) h'
end Go.Proofs.YtcifmpjefhichaaDoor
