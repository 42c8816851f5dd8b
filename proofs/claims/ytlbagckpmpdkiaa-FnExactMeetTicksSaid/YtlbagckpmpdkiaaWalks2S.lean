/- Chapter 2 in the model. -/
import Derived.Test.YtlbagckpmpdkiaaWalks1
import Derived.Test.YtlbagckpmpdkiaaPure1
import Derived.Deep.CutRange
import Derived.Deep.DeepCutAuto
namespace Go.Proofs.Ytlbagckpmpdkiaa
set_option linter.unusedSimpArgs false
set_option linter.unusedVariables false
set_option maxRecDepth 8000
open Go.RowKit

def qaZ (st ha : Int) : Int := if ivB st ha then quZ st ha else -9

theorem set2_of {w w1 : World} {b : Nat} (h : Below w.heap.size w w1) (hb : w.heap.size ≤ b) (x y : Value) : Below w.heap.size w ((w1.setCell ⟨b, 0, none⟩ x).setCell ⟨b, 1, none⟩ y) :=
  (h.setCell hb _).setCell hb _

/- IntervalOf and AddInterval in the model. -/
open Go.RowKit

theorem keyZ_bd {s a o : Int} (hv : pvB s a o = true) : -2 ≤ keyZ s a o ∧ keyZ s a o ≤ 109 := by
  obtain ⟨⟨h1, h2⟩, ⟨h3, h4⟩, ⟨h5, h6⟩⟩ := pvB_iff.1 hv
  have := halZ_bd s
  rw [keyZ, if_pos hv, natZ_os h1 h2]
  omega

/- AddInterval in the model. -/
open Go.RowKit