/- AddInterval in the model. -/
import Derived.Test.YtefbphmlhghojaaDoorWalks2S
namespace Go.Proofs.YtefbphmlhghojaaDoor
set_option linter.unusedSimpArgs false
set_option linter.unusedVariables false
open Go.RowKit