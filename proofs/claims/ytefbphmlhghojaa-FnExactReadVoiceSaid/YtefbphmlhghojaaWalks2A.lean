/- AddInterval in the model. -/
import Derived.Test.YtefbphmlhghojaaWalks2S
namespace Go.Proofs.Ytefbphmlhghojaa
set_option linter.unusedSimpArgs false
set_option linter.unusedVariables false
open Go.RowKit