/- The functions that draw for a law of chapter 3. -/
import Derived.Test.YtfdglkiehkilnaaDoorDrawBase
namespace Go.Proofs.YtfdglkiehkilnaaDoor
set_option linter.unusedSimpArgs false
set_option linter.unusedVariables false
set_option maxRecDepth 8000
open Go.RowKit

/-- What drawing a key leaves. -/
def DrewF (r : Nat) (P : Int) (w : World) (e : Ending) (w' : World) : Prop :=
  ∃ f : Int, (-8 ≤ f ∧ f ≤ 8) ∧ e = .returned (.int .i64 f) ∧ Rd w' r (P + 4) ∧ ButR r w w'
theorem sel_bd (x : Int) : -8 ≤ sel x (-8) 8 ∧ sel x (-8) 8 ≤ 8 := by unfold sel; split <;> omega
theorem tri_bd8 {x a b c : Int} (ha : -8 ≤ a ∧ a ≤ 8) (hb : -8 ≤ b ∧ b ≤ 8) (hc : -8 ≤ c ∧ c ≤ 8) : -8 ≤ tri x a b c ∧ tri x a b c ≤ 8 := by unfold tri; (repeat' split) <;> omega

/-- A key and minor are drawn. -/
def DrewFB (w : World) (e : Ending) (w' : World) : Prop := ∃ (f : Int) (m : Bool), (-8 ≤ f ∧ f ≤ 8) ∧ e = .returned (.tuple #[.int .i64 f, .bool m]) ∧ Below w.heap.size w w'
/-- Two numbers are drawn. -/
def DrewFI (w : World) (e : Ending) (w' : World) : Prop := ∃ f s : Int, (-8 ≤ f ∧ f ≤ 8) ∧ (-1 ≤ s ∧ s ≤ 7) ∧ e = .returned (.tuple #[.int .i64 f, .int .i64 s]) ∧ Below w.heap.size w w'
/-- A key and a pitch are drawn. -/
def DrewFP (w : World) (e : Ending) (w' : World) : Prop :=
  ∃ f s a o : Int, (-8 ≤ f ∧ f ≤ 8) ∧ ((-1 ≤ s ∧ s ≤ 7) ∧ (-3 ≤ a ∧ a ≤ 3) ∧ (-1 ≤ o ∧ o ≤ 9)) ∧ e = .returned (.tuple #[.int .i64 f, .agg #[.int .i64 s, .int .i64 a, .int .i64 o]]) ∧ Below w.heap.size w w'
/-- A pitch and minor are drawn. -/
def DrewPB (w : World) (e : Ending) (w' : World) : Prop :=
  ∃ (s a o : Int) (m : Bool), ((-1 ≤ s ∧ s ≤ 7) ∧ (-3 ≤ a ∧ a ≤ 3) ∧ (-1 ≤ o ∧ o ≤ 9)) ∧ e = .returned (.tuple #[.agg #[.int .i64 s, .int .i64 a, .int .i64 o], .bool m]) ∧ Below w.heap.size w w'
/-- A key, minor and a pitch are drawn. -/
def DrewFBP (w : World) (e : Ending) (w' : World) : Prop :=
  ∃ (f : Int) (m : Bool) (s a o : Int), (-8 ≤ f ∧ f ≤ 8) ∧ ((-1 ≤ s ∧ s ≤ 7) ∧ (-3 ≤ a ∧ a ≤ 3) ∧ (-1 ≤ o ∧ o ≤ 9)) ∧ e = .returned (.tuple #[.int .i64 f, .bool m, .agg #[.int .i64 s, .int .i64 a, .int .i64 o]]) ∧ Below w.heap.size w w'