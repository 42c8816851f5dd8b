/- For the tied cards: what the laid table of powers of ten gives a walk. -/
import Derived.Test.YtefbphmlhghojaaDoorLawDoor
import Derived.Test.YtefbphmlhghojaaDoorWalks8L
namespace Go.Proofs.YtefbphmlhghojaaDoor
set_option linter.unusedSimpArgs false
set_option linter.unusedVariables false
open Go.ChangeShapes Go.WideShapes Go.ChangeAt Go.RowKit Go.Joins

theorem tabP_of_laid {W : World} {l : List (String × DataW Unit)} (hl : l.filter (fun x => x.1 == "internal/strconv.uint64pow10") = [("internal/strconv.uint64pow10", Lib.tabData .u64 Lib.pow10Tab)])
    (h : laidMetH Tryd.prog l W) : TabP W := by
  have h' := laidMetH.filter (fun x => x.1 == "internal/strconv.uint64pow10") h
  rw [hl, MakeChecks.laidMetH_plain _ _ _ (by kernel_rfl)] at h'
  obtain ⟨g, hg⟩ := Option.isSome_iff_exists.1 gP
  have hk : ((Tryd.prog.globalNamed "internal/strconv.uint64pow10").bind fun g => (Tryd.prog.globals[g]?).map (·.type)) = some 123 := by kernel_rfl
  rw [hg] at hk
  exact Lib.tabIs_of_head hg hk Tryd.underlying123 Tryd.underlying109 (by kernel_rfl) (by kernel_rfl) h'
end Go.Proofs.YtefbphmlhghojaaDoor
