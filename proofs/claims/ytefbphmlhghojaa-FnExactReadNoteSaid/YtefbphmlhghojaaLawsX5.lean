/- The walks of the exact laws of chapter 5, from what the program's functions answer. -/
import Derived.Test.YtefbphmlhghojaaCon5
import Derived.Test.YtefbphmlhghojaaWalksNE
import Derived.Test.YtefbphmlhghojaaWalksNM
namespace Go.Proofs.Ytefbphmlhghojaa
set_option linter.unusedSimpArgs false
set_option linter.unusedVariables false
open Go.RowKit