/- The functions that draw one pitch for a law of chapter 1; alive. -/
import Derived.Test.YtcmhfjpofkgjbaaDoorWalksDraw
import Derived.Test.YtcmhfjpofkgjbaaDoorWalksKey
namespace Go.Proofs.YtcmhfjpofkgjbaaDoor
set_option linter.unusedSimpArgs false
set_option linter.unusedVariables false
set_option maxRecDepth 8000
open Go.RowKit

theorem BytesB.alloc {w : World} {v : Value} {n : Nat} (h : BytesB w w.heap.size v n) (o : Obj) : BytesB (w.alloc o) (w.alloc o).heap.size v n := by
  rcases h with h | ⟨h0, b, off, cap, h1, h2, h3, h4, h5, h6⟩
  · exact Or.inl h
  · refine Or.inr ⟨h0, b, off, cap, h1, h2, h3, by simp; omega, by simp; omega, fun i hi => ?_⟩
    obtain ⟨z, z0, z1, hz⟩ := h6 i hi
    exact ⟨z, z0, z1, by rw [World.cell?_alloc_lt _ _ _ h5, hz]⟩

/-- A block of three zeros, laid before the reader was opened, stands as it was laid. -/
theorem zero3 {w w1 w2 : World} {r : Nat} {t : TypeId} (hb : Below (w.alloc (.cells #[.int .i64 0, .int .i64 0, .int .i64 0] t)).heap.size (w.alloc (.cells #[.int .i64 0, .int .i64 0, .int .i64 0] t)) w1)
    (hr : (w.alloc (.cells #[.int .i64 0, .int .i64 0, .int .i64 0] t)).heap.size ≤ r) (h2 : ButR r w1 w2) :
    (w2.cell? ⟨w.heap.size, 0, none⟩ = some (.int .i64 0) ∧ w2.cell? ⟨w.heap.size, 1, none⟩ = some (.int .i64 0) ∧ w2.cell? ⟨w.heap.size, 2, none⟩ = some (.int .i64 0)) ∧
    (w2.frozen? ⟨w.heap.size, 0, none⟩ = false ∧ w2.frozen? ⟨w.heap.size, 1, none⟩ = false ∧ w2.frozen? ⟨w.heap.size, 2, none⟩ = false) ∧ Below w.heap.size w w2 := by
  obtain ⟨c1, f1⟩ := bcell hb
  obtain ⟨c2, f2⟩ := h2.cells
  have hz := hb.size
  simp at hz hr
  have n1 : w.heap.size < (w.alloc (.cells #[.int .i64 0, .int .i64 0, .int .i64 0] t)).heap.size := by simp
  refine ⟨⟨?_, ?_, ?_⟩, ⟨?_, ?_, ?_⟩, h2.below (boxed1 hb) (by omega)⟩
  · rw [c2 _ _ (by omega) (by omega), c1 _ _ n1]; simp
  · rw [c2 _ _ (by omega) (by omega), c1 _ _ n1]; simp
  · rw [c2 _ _ (by omega) (by omega), c1 _ _ n1]; simp
  · rw [f2 _ _ (by omega) (by omega), f1 _ _ n1]; exact World.frozen?_alloc_at _ _ _ _ rfl
  · rw [f2 _ _ (by omega) (by omega), f1 _ _ n1]; exact World.frozen?_alloc_at _ _ _ _ rfl
  · rw [f2 _ _ (by omega) (by omega), f1 _ _ n1]; exact World.frozen?_alloc_at _ _ _ _ rfl

theorem below_set3 {w W : World} (h : Below w.heap.size w W) (x y z : Value) :
    Below w.heap.size w (((W.setCell ⟨w.heap.size, 0, none⟩ x).setCell ⟨w.heap.size, 1, none⟩ y).setCell ⟨w.heap.size, 2, none⟩ z) :=
  ((h.setCell (Nat.le_refl _) _).setCell (Nat.le_refl _) _).setCell (Nat.le_refl _) _

/-- What drawing a pitch for a law leaves. -/
def DrewP (w : World) (e : Ending) (w' : World) : Prop :=
  ∃ s a o : Int, (-1 ≤ s ∧ s ≤ 7) ∧ (-3 ≤ a ∧ a ≤ 3) ∧ (-1 ≤ o ∧ o ≤ 9) ∧ e = .returned (.agg #[.int .i64 s, .int .i64 a, .int .i64 o]) ∧ Below w.heap.size w w'

theorem key_57 : keyZ 5 0 4 = 57 := by decide

set_option maxHeartbeats 1000000 in
theorem alive_any (w : World) (ht : TabH w) :
    Calls Tryd.prog 12 #[] w fun e w' => e = .returned (.bool true) ∧ Below w.heap.size w w' := by
  have hk := key_57
  go_enter Tryd.func12, Tryd.ntmps12
  go_wp2_with (go_at_call 13; refine (keyI_any _ _ _ _ ht).mono ?_; rintro e w1 ⟨rfl, hb⟩)
  go_ret
  exact ⟨rfl, hb⟩
end Go.Proofs.YtcmhfjpofkgjbaaDoor
