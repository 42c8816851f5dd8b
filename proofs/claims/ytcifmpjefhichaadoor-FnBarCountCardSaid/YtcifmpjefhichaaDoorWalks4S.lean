/- Chapter 4 in the model: values and their ticks. -/
import Derived.Test.YtcifmpjefhichaaDoorWalks1
import Derived.Test.YtcifmpjefhichaaDoorPure4
import Derived.Test.YtcifmpjefhichaaDoorOwnMake
import Derived.Test.YtcifmpjefhichaaDoorRegion
namespace Go.Proofs.YtcifmpjefhichaaDoor
set_option linter.unusedSimpArgs false
set_option linter.unusedVariables false
open Go.RowKit

theorem tickZ_eq (b d t : Int) : tickZ b d t = if t = 3 then (if d = 1 then 192 / b * 3 / 2 else if d = 2 then 192 / b * 7 / 4 else 192 / b) * 2 / 3 else (if d = 1 then 192 / b * 3 / 2 else if d = 2 then 192 / b * 7 / 4 else 192 / b) := rfl