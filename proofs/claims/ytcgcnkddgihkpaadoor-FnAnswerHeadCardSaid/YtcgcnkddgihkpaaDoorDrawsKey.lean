/- The functions that draw for a law of chapter 3. -/
import Derived.Test.YtcgcnkddgihkpaaDoorDrawBase
namespace Go.Proofs.YtcgcnkddgihkpaaDoor
set_option linter.unusedSimpArgs false
set_option linter.unusedVariables false
set_option maxRecDepth 8000
open Go.RowKit

/-- What drawing a key leaves. -/
def DrewF (r : Nat) (P : Int) (w : World) (e : Ending) (w' : World) : Prop :=
  ∃ f : Int, (-8 ≤ f ∧ f ≤ 8) ∧ e = .returned (.int .i64 f) ∧ Rd w' r (P + 4) ∧ ButR r w w'
theorem sel_bd (x : Int) : -8 ≤ sel x (-8) 8 ∧ sel x (-8) 8 ≤ 8 := by unfold sel; split <;> omega
theorem tri_bd8 {x a b c : Int} (ha : -8 ≤ a ∧ a ≤ 8) (hb : -8 ≤ b ∧ b ≤ 8) (hc : -8 ≤ c ∧ c ≤ 8) : -8 ≤ tri x a b c ∧ tri x a b c ≤ 8 := by unfold tri; (repeat' split) <;> omega

set_option maxHeartbeats 4000000 in
theorem l20Fifths_any (r : Nat) (P n : Int) (w : World) (h : Rd w r P) (hP : P ≤ 900000) (n0 : 0 ≤ n) (n1 : n ≤ 1000000) :
    Calls Tryd.prog 50 #[.pointer (some ⟨r, 0, none⟩), .int .i64 n] w (DrewF r P w) := by
  have hr0 := h.lt
  go_enter Tryd.func50, Tryd.ntmps50
  go_wp2_with fail
  refine (odd_any r P n _ h (by omega) (by omega) (by omega)).mono ?_
  rintro e w1 ⟨bo, rfl, hr1, hb1⟩
  clear h
  cases bo
  · go_wp2_with fail
    refine (pick_any r (P + 1) 15 _ hr1 (by omega) (by omega) (by omega)).mono ?_
    rintro e w2 ⟨x, x0, x1, rfl, hr2, hb2⟩
    have m1 : IntKind.i64.wrap (x - 7) = x - 7 := IntWalk.i64_in _ (by omega)
    go_wp2_with fail
    refine (pick_any r (P + 1 + 1) 5 _ hr2 (by omega) (by omega) (by omega)).mono ?_
    rintro e w3 ⟨y, y0, y1, rfl, hr3, hb3⟩
    have m2 : IntKind.i64.wrap (y - 2) = y - 2 := IntWalk.i64_in _ (by omega)
    go_wp2_with fail
    refine (pick_any r (P + 1 + 1 + 1) 3 _ (hr3.below (below1 _)) (by omega) (by omega) (by omega)).mono ?_
    rintro e w4 ⟨z, z0, z1, rfl, hr4, hb4⟩
    have hp := tri_at hb4 hr3.lt z0 z1
    have hB := ((hb1.trans hb2).trans hb3).trans (((ButR.refl _ _).alloc _).trans hb4)
    have hR := hr4.mono (show P + 1 + 1 + 1 + 1 ≤ P + 4 by omega)
    have hv := tri_bd8 (x := z) (a := x - 7) (b := 0) (c := y - 2) (by omega) (by omega) (by omega)
    clear hr1 hb1 hr2 hb2 hr3 hb3 hr4 hb4
    go_wp2
    go_ret
    exact ⟨_, hv, rfl, hR, hB⟩
  · go_wp2_with fail
    refine (pick_any r (P + 1) 2 _ (hr1.below (below1 _)) (by omega) (by omega) (by omega)).mono ?_
    rintro e w2 ⟨x, x0, x1, rfl, hr2, hb2⟩
    have hp := pair_at hb2 hr1.lt x0 x1
    have hB := hb1.trans (((ButR.refl _ _).alloc _).trans hb2)
    have hR := hr2.mono (show P + 1 + 1 ≤ P + 4 by omega)
    have hv := sel_bd x
    clear hr1 hb1 hr2 hb2
    go_wp2
    go_ret
    exact ⟨_, hv, rfl, hR, hB⟩

/-- A key and minor are drawn. -/
def DrewFB (w : World) (e : Ending) (w' : World) : Prop := ∃ (f : Int) (m : Bool), (-8 ≤ f ∧ f ≤ 8) ∧ e = .returned (.tuple #[.int .i64 f, .bool m]) ∧ Below w.heap.size w w'
/-- Two numbers are drawn. -/
def DrewFI (w : World) (e : Ending) (w' : World) : Prop := ∃ f s : Int, (-8 ≤ f ∧ f ≤ 8) ∧ (-1 ≤ s ∧ s ≤ 7) ∧ e = .returned (.tuple #[.int .i64 f, .int .i64 s]) ∧ Below w.heap.size w w'
/-- A key and a pitch are drawn. -/
def DrewFP (w : World) (e : Ending) (w' : World) : Prop :=
  ∃ f s a o : Int, (-8 ≤ f ∧ f ≤ 8) ∧ ((-1 ≤ s ∧ s ≤ 7) ∧ (-3 ≤ a ∧ a ≤ 3) ∧ (-1 ≤ o ∧ o ≤ 9)) ∧ e = .returned (.tuple #[.int .i64 f, .agg #[.int .i64 s, .int .i64 a, .int .i64 o]]) ∧ Below w.heap.size w w'
/-- A pitch and minor are drawn. -/
def DrewPB (w : World) (e : Ending) (w' : World) : Prop :=
  ∃ (s a o : Int) (m : Bool), ((-1 ≤ s ∧ s ≤ 7) ∧ (-3 ≤ a ∧ a ≤ 3) ∧ (-1 ≤ o ∧ o ≤ 9)) ∧ e = .returned (.tuple #[.agg #[.int .i64 s, .int .i64 a, .int .i64 o], .bool m]) ∧ Below w.heap.size w w'
/-- A key, minor and a pitch are drawn. -/
def DrewFBP (w : World) (e : Ending) (w' : World) : Prop :=
  ∃ (f : Int) (m : Bool) (s a o : Int), (-8 ≤ f ∧ f ≤ 8) ∧ ((-1 ≤ s ∧ s ≤ 7) ∧ (-3 ≤ a ∧ a ≤ 3) ∧ (-1 ≤ o ∧ o ≤ 9)) ∧ e = .returned (.tuple #[.int .i64 f, .bool m, .agg #[.int .i64 s, .int .i64 a, .int .i64 o]]) ∧ Below w.heap.size w w'