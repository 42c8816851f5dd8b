/- For the tied cards: what the laid variables give a walk. -/
import Derived.Test.YtcifmpjefhichabDoorLaw
import Derived.Test.YtcifmpjefhichabDoorCards
import Derived.Test.YtcifmpjefhichabDoorTie
import Derived.Test.YtcifmpjefhichabDoorWalksKey
import Derived.SevenTiedAt
namespace Go.Proofs.YtcifmpjefhichabDoor
set_option linter.unusedSimpArgs false
set_option linter.unusedVariables false
open Go.ChangeShapes Go.WideShapes Go.ChangeAt Go.RowKit Go.Joins

/-- One closed fact for all cards of the seat: its main is the harness that the cards name. -/
theorem main_is : Tryd.pinned.checked.prog.mainIs = some (Rows.fnExactMeterValidCard.stood.harness.1, Rows.fnExactMeterValidCard.stood.harness.2.toList) := by kernel_rfl
end Go.Proofs.YtcifmpjefhichabDoor
