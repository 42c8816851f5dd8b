/- eqPitch of a pitch and itself. -/
import Derived.Test.YtblbfmijaalgcaaDoorWalks1
namespace Go.Proofs.YtblbfmijaalgcaaDoor
set_option linter.unusedSimpArgs false
set_option linter.unusedVariables false
open Go.RowKit