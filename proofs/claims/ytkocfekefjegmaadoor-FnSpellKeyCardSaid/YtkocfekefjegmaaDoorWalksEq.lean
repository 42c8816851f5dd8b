/- eqPitch of a pitch and itself. -/
import Derived.Test.YtkocfekefjegmaaDoorWalks1
namespace Go.Proofs.YtkocfekefjegmaaDoor
set_option linter.unusedSimpArgs false
set_option linter.unusedVariables false
open Go.RowKit