/- Chapter 2 in the program: validity, quality, ways back and rests. -/
import Derived.Test.YtlbagckpmpdkiaaWalks1
import Derived.Test.YtlbagckpmpdkiaaPure1
import Derived.Test.YtlbagckpmpdkiaaOwn
import Derived.Test.YtlbagckpmpdkiaaWalks2S
import Derived.Test.YtlbagckpmpdkiaaRegionD
namespace Go.Proofs.Ytlbagckpmpdkiaa
set_option linter.unusedSimpArgs false
set_option linter.unusedVariables false
set_option maxRecDepth 8000
open Go.RowKit

/-- its sign changed, as the machine does it. -/
def negW (x : Int) : Int := if x = -9223372036854775808 then x else -x
theorem negW_of {x : Int} (h : -9223372036854775807 ≤ x) : negW x = -x := by unfold negW; rw [if_neg (by omega)]
theorem wrap_neg {x : Int} (h : r64 x) : IntKind.i64.wrap (-x) = negW x := by
  unfold r64 at h
  unfold negW
  split
  · subst_vars; rfl
  · exact IntWalk.i64_in _ (by omega)

def downB (st ha : Int) : Bool := decide (st < 0) || (st == 0 && decide (ha < 0))

def upS (st ha : Int) : Int := if downB st ha then negW st else st
def upH (st ha : Int) : Int := if downB st ha then negW ha else ha

/-- what validity says of a way up. -/
theorem ivB_of {st ha : Int} (h : r64 ha) (h1 : -21 ≤ st) (h2 : st ≤ 21) : ivB st ha = (decide (natZ (upS st ha) - 3 ≤ upH st ha) && decide (upH st ha ≤ natZ (upS st ha) + 3)) := by
  unfold r64 at h
  rw [Bool.eq_iff_iff, ivB_iff]
  simp only [Bool.and_eq_true, decide_eq_true_eq]
  unfold upS upH quZ downB
  have n1 := @natZ_bd st
  have n2 := @natZ_bd (-st)
  by_cases hd : st < 0 ∨ (st = 0 ∧ ha < 0)
  · have e : (decide (st < 0) || (st == 0 && decide (ha < 0))) = true := by simp; omega
    rw [if_pos hd, if_pos e, if_pos e, negW_of (by omega)]
    unfold negW
    by_cases hm : ha = -9223372036854775808
    · rw [if_pos hm]; have := n2 (by omega); omega
    · rw [if_neg hm]; have := n2 (by omega); omega
  · have e : ¬ (decide (st < 0) || (st == 0 && decide (ha < 0))) = true := by simp; omega
    rw [if_neg hd, if_neg e, if_neg e]
    have := n1 (by omega); omega

theorem upS_bd {st ha : Int} (h1 : -21 ≤ st) (h2 : st ≤ 21) : 0 ≤ upS st ha ∧ upS st ha ≤ 21 := by
  unfold upS downB
  by_cases hd : st < 0 ∨ (st = 0 ∧ ha < 0)
  · have e : (decide (st < 0) || (st == 0 && decide (ha < 0))) = true := by simp; omega
    rw [if_pos e, negW_of (by omega)]; omega
  · have e : ¬ (decide (st < 0) || (st == 0 && decide (ha < 0))) = true := by simp; omega
    rw [if_neg e]; omega

/- Chapter 2 in the program: the functions that the document names. -/
open Go.RowKit

/- Chapter 2 in the program: ways back, rests, the way between pitches, added ways. -/
open Go.RowKit

/- Chapter 2 in the program: the way between pitches, added ways. -/
open Go.RowKit

/- Chapter 2 in the program: added ways. -/
open Go.RowKit