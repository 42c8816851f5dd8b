/- The walks of the laws of chapter 5's promises, from what the program's functions hand back: notes; turned voices. -/
import Derived.Test.YtcgcnkddgihkpaaDoorDrawsVo
import Derived.Test.YtcgcnkddgihkpaaDoorCon5
import Derived.Test.YtcgcnkddgihkpaaDoorLawsPitch
namespace Go.Proofs.YtcgcnkddgihkpaaDoor
set_option linter.unusedSimpArgs false
set_option linter.unusedVariables false
set_option maxRecDepth 8000
open Go.RowKit

theorem ttL_yes {v : List Nt} (h : voB v = true) : ttL v = tuL v := by unfold ttL; rw [if_pos h]
theorem ttL_no {v : List Nt} (h : voB v = false) : ttL v = [] := by unfold ttL; rw [h]; rfl
theorem ttL_twice {v : List Nt} (h : voB v = true) : ttL (tuL v) = v := by
  rw [ttL_yes (tuL_vo h)]
  exact tu_twice v false (voB_iff.1 h).1
theorem vt_tu {v : List Nt} (h : voB v = true) : vtZ (tuL v) = vtZ v := by
  unfold vtZ
  rw [h, tuL_vo h]
  exact tuF_sum v false