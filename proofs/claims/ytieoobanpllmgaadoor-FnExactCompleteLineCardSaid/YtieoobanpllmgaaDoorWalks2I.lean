/- Chapter 2 in the program: validity, quality, ways back and rests. -/
import Derived.Test.YtieoobanpllmgaaDoorWalks1
import Derived.Test.YtieoobanpllmgaaDoorPure1
import Derived.Test.YtieoobanpllmgaaDoorOwn
import Derived.Test.YtieoobanpllmgaaDoorWalks2S
import Derived.Test.YtieoobanpllmgaaDoorRegionD
namespace Go.Proofs.YtieoobanpllmgaaDoor
set_option linter.unusedSimpArgs false
set_option linter.unusedVariables false
set_option maxRecDepth 8000
open Go.RowKit

/-- its sign changed, as the machine does it. -/
def negW (x : Int) : Int := if x = -9223372036854775808 then x else -x
theorem negW_of {x : Int} (h : -9223372036854775807 ≤ x) : negW x = -x := by unfold negW; rw [if_neg (by omega)]
theorem wrap_neg {x : Int} (h : r64 x) : IntKind.i64.wrap (-x) = negW x := by
  unfold r64 at h
  unfold negW
  split
  · subst_vars; rfl
  · exact IntWalk.i64_in _ (by omega)

def downB (st ha : Int) : Bool := decide (st < 0) || (st == 0 && decide (ha < 0))

def upS (st ha : Int) : Int := if downB st ha then negW st else st
def upH (st ha : Int) : Int := if downB st ha then negW ha else ha

/-- what validity says of a way up. -/
theorem ivB_of {st ha : Int} (h : r64 ha) (h1 : -21 ≤ st) (h2 : st ≤ 21) : ivB st ha = (decide (natZ (upS st ha) - 3 ≤ upH st ha) && decide (upH st ha ≤ natZ (upS st ha) + 3)) := by
  unfold r64 at h
  rw [Bool.eq_iff_iff, ivB_iff]
  simp only [Bool.and_eq_true, decide_eq_true_eq]
  unfold upS upH quZ downB
  have n1 := @natZ_bd st
  have n2 := @natZ_bd (-st)
  by_cases hd : st < 0 ∨ (st = 0 ∧ ha < 0)
  · have e : (decide (st < 0) || (st == 0 && decide (ha < 0))) = true := by simp; omega
    rw [if_pos hd, if_pos e, if_pos e, negW_of (by omega)]
    unfold negW
    by_cases hm : ha = -9223372036854775808
    · rw [if_pos hm]; have := n2 (by omega); omega
    · rw [if_neg hm]; have := n2 (by omega); omega
  · have e : ¬ (decide (st < 0) || (st == 0 && decide (ha < 0))) = true := by simp; omega
    rw [if_neg hd, if_neg e, if_neg e]
    have := n1 (by omega); omega

theorem upS_bd {st ha : Int} (h1 : -21 ≤ st) (h2 : st ≤ 21) : 0 ≤ upS st ha ∧ upS st ha ≤ 21 := by
  unfold upS downB
  by_cases hd : st < 0 ∨ (st = 0 ∧ ha < 0)
  · have e : (decide (st < 0) || (st == 0 && decide (ha < 0))) = true := by simp; omega
    rw [if_pos e, negW_of (by omega)]; omega
  · have e : ¬ (decide (st < 0) || (st == 0 && decide (ha < 0))) = true := by simp; omega
    rw [if_neg e]; omega

/- Chapter 2 in the program: the functions that the document names. -/
open Go.RowKit

theorem quZ_of {st ha : Int} (h : -9223372036854775807 ≤ ha) (h1 : -21 ≤ st) : quZ st ha = upH st ha - natZ (upS st ha) := by
  unfold quZ upS upH downB
  by_cases hd : st < 0 ∨ (st = 0 ∧ ha < 0)
  · have e : (decide (st < 0) || (st == 0 && decide (ha < 0))) = true := by simp; omega
    rw [if_pos hd, if_pos e, if_pos e, negW_of h, negW_of (by omega)]
  · have e : ¬ (decide (st < 0) || (st == 0 && decide (ha < 0))) = true := by simp; omega
    rw [if_neg hd, if_neg e, if_neg e]
theorem upH_bd {st ha : Int} (h1 : -60 ≤ ha) (h2 : ha ≤ 60) : -60 ≤ upH st ha ∧ upH st ha ≤ 60 := by
  unfold upH
  split
  · rw [negW_of (by omega)]; omega
  · omega
theorem plainB_any (n : Int) (w : World) (h0 : 0 ≤ n) (h1 : n ≤ 1000000) (ht : TabH w) :
    Calls Tryd.prog 40 #[.int .i64 n] w fun e w' => e = .returned (.int .i64 (natZ n)) ∧ Below w.heap.size w w' :=
  (plainH_any n w h0 h1 ht).mono fun _ _ ⟨he, hw⟩ => ⟨he, hw ▸ Below.refl _ _⟩

/- Chapter 2 in the program: ways back, rests, the way between pitches, added ways. -/
open Go.RowKit

/- Chapter 2 in the program: the way between pitches, added ways. -/
open Go.RowKit

/- Chapter 2 in the program: added ways. -/
open Go.RowKit