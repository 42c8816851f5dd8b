/- The walks of the exact laws of chapter 5, from what the program's functions answer. -/
import Derived.Test.YtcifmpjefhichabDoorCon5
import Derived.Test.YtcifmpjefhichabDoorWalksNE
import Derived.Test.YtcifmpjefhichabDoorWalksNM
namespace Go.Proofs.YtcifmpjefhichabDoor
set_option linter.unusedSimpArgs false
set_option linter.unusedVariables false
open Go.RowKit