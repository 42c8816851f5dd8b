/- eqPitch of a pitch and itself. -/
import Derived.Test.YtepelgaekgllcaaDoorWalks1
namespace Go.Proofs.YtepelgaekgllcaaDoor
set_option linter.unusedSimpArgs false
set_option linter.unusedVariables false
open Go.RowKit