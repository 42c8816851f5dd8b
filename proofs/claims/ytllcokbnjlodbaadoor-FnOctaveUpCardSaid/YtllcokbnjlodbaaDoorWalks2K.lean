/- Chapter 2 in the program: ways back, rests, the way between pitches, added ways. -/
import Derived.Test.YtllcokbnjlodbaaDoorWalks2J
import Derived.Test.YtllcokbnjlodbaaDoorWalks2T
namespace Go.Proofs.YtllcokbnjlodbaaDoor
set_option linter.unusedSimpArgs false
set_option linter.unusedVariables false
open Go.RowKit