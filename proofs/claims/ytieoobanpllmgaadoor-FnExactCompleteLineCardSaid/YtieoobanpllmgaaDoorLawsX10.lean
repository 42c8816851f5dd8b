/- The walks of the exact laws of chapter 10, from what the program's functions answer. -/
import Derived.Test.YtieoobanpllmgaaDoorWalks10T
import Derived.Test.YtieoobanpllmgaaDoorWalksPS
namespace Go.Proofs.YtieoobanpllmgaaDoor
set_option linter.unusedSimpArgs false
set_option linter.unusedVariables false
set_option maxRecDepth 8000
open Go.RowKit

theorem Own.third10 {n : Nat} {B : World → Prop} {w : World} {x y z : Item} {L : List Item} (h : Own n B w (x :: y :: z :: L)) : Own n B w (z :: x :: y :: L) :=
  h.perm (((List.Perm.swap z y L).cons x).trans (List.Perm.swap z x (y :: L)))
theorem szP_no {m : Nat} (h : 1048576 < m) : (if (1048576 : Int) < (m : Int) then (-1 : Int) else 1048576 - (m : Int)) = -1 := if_pos (by omega)
theorem szP_yes {m : Nat} (h : m ≤ 1048576) : (if (1048576 : Int) < (m : Int) then (-1 : Int) else 1048576 - (m : Int)) = 1048576 - (m : Int) := if_neg (by omega)