/- PitchKey, in the program and in the model. -/
import Derived.Test.YtefbphmlhghojaaWalksPlace
import Derived.Lib.LaidTab
import Derived.Lib.SmallJoins
import Derived.Deep.RegionHeld3
namespace Go.Proofs.Ytefbphmlhghojaa
set_option linter.unusedSimpArgs false
set_option linter.unusedVariables false
open Go.RowKit Go.Joins

def halL : List Int := [0, 2, 4, 5, 7, 9, 11]

/-- The table of half tones lies as its text lays it. -/
def TabH (w : World) : Prop := Lib.TabIs Try.prog w "loop.example/musicengine/impl.stepHalves" .i64 halL

theorem natZ_of {p q j : Int} (h : p + 7 * j = q) : natZ p = 12 * (-j + q / 7) + halZ (q % 7) := by
  unfold natZ
  rw [show p / 7 = -j + q / 7 by omega, show p % 7 = q % 7 by omega]