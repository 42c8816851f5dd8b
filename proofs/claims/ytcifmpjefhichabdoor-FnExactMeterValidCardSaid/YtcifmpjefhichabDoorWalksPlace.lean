/- PitchPlace, in the program and in the model. -/
import Derived.Test.YtcifmpjefhichabDoorWalks1
import Derived.Test.YtcifmpjefhichabDoorPure1
namespace Go.Proofs.YtcifmpjefhichabDoor
set_option linter.unusedSimpArgs false
set_option linter.unusedVariables false
open Go.RowKit