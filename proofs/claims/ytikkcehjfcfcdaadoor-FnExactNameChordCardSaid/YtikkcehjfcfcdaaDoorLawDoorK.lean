/- For the tied cards: what the laid tables of kinds and of places of bits give a walk. -/
import Derived.Test.YtikkcehjfcfcdaaDoorLawDoor
import Derived.Test.YtikkcehjfcfcdaaDoorWalks10S
namespace Go.Proofs.YtikkcehjfcfcdaaDoor
set_option linter.unusedSimpArgs false
set_option linter.unusedVariables false
set_option maxRecDepth 8000
open Go.ChangeShapes Go.WideShapes Go.ChangeAt Go.RowKit Go.Joins

theorem tabK_of_laid {W : World} {l : List (String × DataW Unit)} (hl : l.filter (fun x => x.1 == "loop.example/musicengine/impl.kindClasses") = [("loop.example/musicengine/impl.kindClasses", Lib.tabData .u16 kinI)])
    (h : laidMetH Tryd.prog l W) : TabK W := by
  have h' := laidMetH.filter (fun x => x.1 == "loop.example/musicengine/impl.kindClasses") h
  rw [hl, MakeChecks.laidMetH_plain _ _ _ (by kernel_rfl)] at h'
  exact Lib.tabIs_of_head gK (by kernel_rfl) Tryd.underlying56 Tryd.underlying47 (by kernel_rfl) (by kernel_rfl) h'

theorem tabU_of_laid {W : World} {l : List (String × DataW Unit)} (hl : l.filter (fun x => x.1 == "math/bits.deBruijn32tab") = [("math/bits.deBruijn32tab", Lib.tabData .u8 debI)])
    (h : laidMetH Tryd.prog l W) : TabU W := by
  have h' := laidMetH.filter (fun x => x.1 == "math/bits.deBruijn32tab") h
  rw [hl, MakeChecks.laidMetH_plain _ _ _ (by kernel_rfl)] at h'
  exact Lib.tabIs_of_head gU (by kernel_rfl) Tryd.underlying78 Tryd.underlying5 (by kernel_rfl) (by kernel_rfl) h'
end Go.Proofs.YtikkcehjfcfcdaaDoor
