/- The walks of the laws of chapter 10's promises, from what the program's functions answer: chords. -/
import Derived.Test.YtikkcehjfcfcdaaDoorWalks10T
import Derived.Test.YtikkcehjfcfcdaaDoorDraws10
import Derived.Test.YtikkcehjfcfcdaaDoorWalksPS
import Derived.Test.YtikkcehjfcfcdaaDoorLawsPitch
namespace Go.Proofs.YtikkcehjfcfcdaaDoor
set_option linter.unusedSimpArgs false
set_option linter.unusedVariables false
set_option maxRecDepth 8000
open Go.RowKit