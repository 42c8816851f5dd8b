/- Chapter 2 in the program: ways back, rests, the way between pitches, added ways. -/
import Derived.Test.YtikkcehjfcfcdaaDoorWalks2I
import Derived.Test.YtikkcehjfcfcdaaDoorWalks2S
namespace Go.Proofs.YtikkcehjfcfcdaaDoor
set_option linter.unusedSimpArgs false
set_option linter.unusedVariables false
set_option maxRecDepth 8000
open Go.RowKit

/- Chapter 2 in the program: the way between pitches, added ways. -/
open Go.RowKit