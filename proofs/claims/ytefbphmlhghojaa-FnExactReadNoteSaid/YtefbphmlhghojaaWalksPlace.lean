/- PitchPlace, in the program and in the model. -/
import Derived.Test.YtefbphmlhghojaaWalks1
import Derived.Test.YtefbphmlhghojaaPure1
namespace Go.Proofs.Ytefbphmlhghojaa
set_option linter.unusedSimpArgs false
set_option linter.unusedVariables false
open Go.RowKit