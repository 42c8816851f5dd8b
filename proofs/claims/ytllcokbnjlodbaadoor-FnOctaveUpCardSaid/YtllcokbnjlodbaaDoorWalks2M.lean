/- Chapter 2 in the program: the way between pitches, added ways. -/
import Derived.Test.YtllcokbnjlodbaaDoorWalks2K
namespace Go.Proofs.YtllcokbnjlodbaaDoor
set_option linter.unusedSimpArgs false
set_option linter.unusedVariables false
open Go.RowKit