/- Chapter 3 in the model: pitches in keys, degrees, the key of a tonic. -/
import Derived.Test.YtcmhfjpofkgjbaaDoorWalks3S
namespace Go.Proofs.YtcmhfjpofkgjbaaDoor
set_option linter.unusedSimpArgs false
set_option linter.unusedVariables false
set_option maxRecDepth 8000
open Go.RowKit

theorem inBel {P : Program} {f : FuncId} {args : Array Value} {w : World} {v : Value} (h : Calls P f args w fun e w' => e = .returned v ∧ w = w') : Calls P f args w fun e w' => e = .returned v ∧ Below w.heap.size w w' :=
  h.mono fun _ _ ⟨he, hw⟩ => ⟨he, hw ▸ Below.refl _ _⟩

theorem in_is {n lo hi : Int} {b : Bool} (w : World) (h : inB n lo hi = b) : Calls Tryd.prog 38 #[.int .i64 n, .int .i64 lo, .int .i64 hi] w fun e w' => e = .returned (.bool b) ∧ Below w.heap.size w w' := by subst h; exact inBel (in_any _ _ _ _)

theorem pvS_is {s a o : Int} {b : Bool} (w : World) (h : pvB s a o = b) : Calls Tryd.prog 36 #[.agg #[.int .i64 s, .int .i64 a, .int .i64 o]] w fun e w' => e = .returned (.bool b) ∧ Below w.heap.size w w' := by subst h; exact pvS_any _ _ _ _

/-- What KeyOf answers at a valid pitch: the first key that has this tonic. -/
def koP (s a : Int) (m : Bool) (e : Ending) : Prop :=
  (∃ f, -7 ≤ f ∧ f ≤ 7 ∧ noTon m s a f ∧ isTon f m s a = true ∧ e = .returned (.tuple #[.int .i64 f, .bool true])) ∨ (noTon m s a 8 ∧ e = .returned (.tuple #[.int .i64 0, .bool false]))
theorem koP_some {m : Bool} {s a f : Int} (f0 : -7 ≤ f) (f1 : f ≤ 7) (hn : noTon m s a f) (ht : isTon f m s a = true) : koP s a m (.returned (.tuple #[.int .i64 f, .bool true])) := Or.inl ⟨f, f0, f1, hn, ht, rfl⟩
theorem koP_none {m : Bool} {s a : Int} (hn : noTon m s a 8) : koP s a m (.returned (.tuple #[.int .i64 0, .bool false])) := Or.inr ⟨hn, rfl⟩