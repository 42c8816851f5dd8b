/- Chapter 2 in the program: ways back, rests, the way between pitches, added ways. -/
import Derived.Test.YtomdjmlfnjikfaaDoorWalks2I
import Derived.Test.YtomdjmlfnjikfaaDoorWalks2S
namespace Go.Proofs.YtomdjmlfnjikfaaDoor
set_option linter.unusedSimpArgs false
set_option linter.unusedVariables false
open Go.RowKit

/- Chapter 2 in the program: the way between pitches, added ways. -/
open Go.RowKit