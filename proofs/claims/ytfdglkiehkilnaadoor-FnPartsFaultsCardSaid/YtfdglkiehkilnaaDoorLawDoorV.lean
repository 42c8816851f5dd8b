/- For the tied cards: what the laid table of the voices' ranges gives a walk. -/
import Derived.Test.YtfdglkiehkilnaaDoorLawDoor
import Derived.Test.YtfdglkiehkilnaaDoorWalks12I
namespace Go.Proofs.YtfdglkiehkilnaaDoor
set_option linter.unusedSimpArgs false
set_option linter.unusedVariables false
set_option maxRecDepth 8000
open Go.ChangeShapes Go.WideShapes Go.ChangeAt Go.RowKit Go.Joins

theorem tabV_of_laid {W : World} {l : List (String × DataW Unit)} (hl : l.filter (fun x => x.1 == "loop.example/musicengine/impl.voiceRanges") = [("loop.example/musicengine/impl.voiceRanges", nestData .i64 rngLL)])
    (h : laidMetH Tryd.prog l W) : TabV W := by
  have h' := laidMetH.filter (fun x => x.1 == "loop.example/musicengine/impl.voiceRanges") h
  rw [hl, MakeChecks.laidMetH_plain _ _ _ (by kernel_rfl)] at h'
  exact nestIs_of_head gV (by kernel_rfl) Tryd.underlying130 Tryd.underlying129 Tryd.underlying3 (by kernel_rfl) (by kernel_rfl) (by kernel_rfl) h'
end Go.Proofs.YtfdglkiehkilnaaDoor
