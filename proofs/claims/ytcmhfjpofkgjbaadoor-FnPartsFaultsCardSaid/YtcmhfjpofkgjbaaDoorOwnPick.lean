/- A pitch is drawn; one of a row of numbers that is owned. -/
import Derived.Test.YtcmhfjpofkgjbaaDoorOwnMake
import Derived.Test.YtcmhfjpofkgjbaaDoorOwnDraw
import Derived.Test.YtcmhfjpofkgjbaaDoorWalksDraw
namespace Go.Proofs.YtcmhfjpofkgjbaaDoor
set_option linter.unusedSimpArgs false
set_option linter.unusedVariables false
set_option maxRecDepth 8000
open Go.RowKit

theorem own_pitch {r : Nat} {w0 W : World} {P n : Int} {L : List Item} {K : Ending → World → Prop} (hO : Own w0.heap.size (Bd r w0 P) W L) (hr : r < w0.heap.size) (hP : P ≤ 900000) (n0 : 0 ≤ n) (n1 : n ≤ 1000000)
    (h : ∀ (s a o : Int) w1, (-1 ≤ s ∧ s ≤ 7) → (-3 ≤ a ∧ a ≤ 3) → (-1 ≤ o ∧ o ≤ 9) → Own w0.heap.size (Bd r w0 (P + 20)) w1 L → K (.returned (.agg #[.int .i64 s, .int .i64 a, .int .i64 o])) w1) :
    Calls Tryd.prog 55 #[.pointer (some ⟨r, 0, none⟩), .int .i64 n] W K :=
  (l20Pitch_any r P n W hO.base.2 hP n0 n1).mono fun e w1 ⟨s, a, o, hs, ha, ho, he, hR, hb⟩ => by
    subst he
    exact h s a o w1 hs ha ho (hO.but hr (Stab.bd hr) ⟨hO.base.1.trans hb, hR⟩ hb)
/-- One of a row of numbers in a block that is owned: its bounds. -/
theorem Own.num_in {n : Nat} {B : World → Prop} {w : World} {b : Nat} {x lo hi : Int} {L : List Item} (us : List Int) (h : Own n B w L) (hm : Item.blk b (us.map (Value.int .i64)) ∈ L) (x0 : 0 ≤ x) (x1 : x < us.length) (hb : ∀ u ∈ us, lo ≤ u ∧ u ≤ hi) :
    ∃ u, (lo ≤ u ∧ u ≤ hi) ∧ w.cell? ⟨b, x.toNat, none⟩ = some (.int .i64 u) := by
  obtain ⟨u, hu, hc⟩ := h.int_some us hm x0 x1
  exact ⟨u, hb u hu, hc⟩
end Go.Proofs.YtcmhfjpofkgjbaaDoor
