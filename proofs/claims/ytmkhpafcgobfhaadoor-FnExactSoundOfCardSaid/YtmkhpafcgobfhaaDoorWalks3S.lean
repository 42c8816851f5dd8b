/- Chapter 3 in the model. -/
import Derived.Test.YtmkhpafcgobfhaaDoorWalks1
import Derived.Test.YtmkhpafcgobfhaaDoorPure1
import Derived.Test.YtmkhpafcgobfhaaDoorOwn
import Derived.Test.YtmkhpafcgobfhaaDoorRegionD
namespace Go.Proofs.YtmkhpafcgobfhaaDoor
set_option linter.unusedSimpArgs false
set_option linter.unusedVariables false
set_option maxRecDepth 8000
open Go.RowKit

theorem ord_cell {w : World} {s : Int} {t : TypeId} (h0 : 0 ≤ s) (h6 : s ≤ 6) : (w.alloc (.cells #[.int .i64 1, .int .i64 3, .int .i64 5, .int .i64 0, .int .i64 2, .int .i64 4, .int .i64 6] t)).cell? ⟨w.heap.size, s.toNat, none⟩ = some (.int .i64 (ordZ s)) := by
  rcases step7 h0 h6 with rfl | rfl | rfl | rfl | rfl | rfl | rfl <;> simp [ordZ]

/- Chapter 3 in the model: pitches in keys, degrees, the key of a tonic. -/
open Go.RowKit

theorem inBel {P : Program} {f : FuncId} {args : Array Value} {w : World} {v : Value} (h : Calls P f args w fun e w' => e = .returned v ∧ w = w') : Calls P f args w fun e w' => e = .returned v ∧ Below w.heap.size w w' :=
  h.mono fun _ _ ⟨he, hw⟩ => ⟨he, hw ▸ Below.refl _ _⟩

theorem in_is {n lo hi : Int} {b : Bool} (w : World) (h : inB n lo hi = b) : Calls Tryd.prog 64 #[.int .i64 n, .int .i64 lo, .int .i64 hi] w fun e w' => e = .returned (.bool b) ∧ Below w.heap.size w w' := by subst h; exact inBel (in_any _ _ _ _)

theorem pvS_is {s a o : Int} {b : Bool} (w : World) (h : pvB s a o = b) : Calls Tryd.prog 100 #[.agg #[.int .i64 s, .int .i64 a, .int .i64 o]] w fun e w' => e = .returned (.bool b) ∧ Below w.heap.size w w' := by subst h; exact pvS_any _ _ _ _

/-- What KeyOf answers at a valid pitch: the first key that has this tonic. -/
def koP (s a : Int) (m : Bool) (e : Ending) : Prop :=
  (∃ f, -7 ≤ f ∧ f ≤ 7 ∧ noTon m s a f ∧ isTon f m s a = true ∧ e = .returned (.tuple #[.int .i64 f, .bool true])) ∨ (noTon m s a 8 ∧ e = .returned (.tuple #[.int .i64 0, .bool false]))
theorem koP_some {m : Bool} {s a f : Int} (f0 : -7 ≤ f) (f1 : f ≤ 7) (hn : noTon m s a f) (ht : isTon f m s a = true) : koP s a m (.returned (.tuple #[.int .i64 f, .bool true])) := Or.inl ⟨f, f0, f1, hn, ht, rfl⟩
theorem koP_none {m : Bool} {s a : Int} (hn : noTon m s a 8) : koP s a m (.returned (.tuple #[.int .i64 0, .bool false])) := Or.inr ⟨hn, rfl⟩