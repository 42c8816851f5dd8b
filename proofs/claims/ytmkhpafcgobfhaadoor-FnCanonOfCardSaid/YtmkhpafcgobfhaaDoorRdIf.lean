/- The reader, as long as it is drawn from: where a region's last draw is behind it, its other steps ask nothing of it. No program in it. -/
import Derived.Test.YtmkhpafcgobfhaaDoorDrawBase
namespace Go.Proofs.YtmkhpafcgobfhaaDoor
set_option linter.unusedSimpArgs false
set_option linter.unusedVariables false
set_option maxRecDepth 8000
open Go.RowKit

/-- The reader, as long as it is drawn from. -/
def RdIf (c : Bool) (w : World) (r : Nat) (P : Int) : Prop := c = true → Rd w r P
theorem RdIf.below {c : Bool} {w w' : World} {r : Nat} {P : Int} (h : RdIf c w r P) (hb : Below w.heap.size w w') : RdIf c w' r P := fun e => (h e).below hb
theorem RdIf.gone {w : World} {r : Nat} {P : Int} : RdIf false w r P := fun e => by cases e
theorem RdIf.keep {w w' : World} {r : Nat} {P : Int} (_ : RdIf false w r P) (_ : Below 0 w w') : RdIf false w' r P := fun e => by cases e
theorem XStab.rdIf {c : Bool} {r : Nat} {P : Int} : XStab fun w => RdIf c w r P := fun _ _ h hb => h.below hb
end Go.Proofs.YtmkhpafcgobfhaaDoor
