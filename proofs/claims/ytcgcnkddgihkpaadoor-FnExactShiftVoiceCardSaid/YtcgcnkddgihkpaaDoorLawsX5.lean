/- The walks of the exact laws of chapter 5, from what the program's functions answer. -/
import Derived.Test.YtcgcnkddgihkpaaDoorCon5
import Derived.Test.YtcgcnkddgihkpaaDoorWalksNE
import Derived.Test.YtcgcnkddgihkpaaDoorWalksNM
namespace Go.Proofs.YtcgcnkddgihkpaaDoor
set_option linter.unusedSimpArgs false
set_option linter.unusedVariables false
set_option maxRecDepth 8000
open Go.RowKit

theorem szN_no {m : Nat} (h : 1048576 < m) : (if (1048576 : Int) < (m : Int) then (-1 : Int) else 1048576 - (m : Int)) = -1 := if_pos (by omega)
theorem szN_yes {m : Nat} (h : m ≤ 1048576) : (if (1048576 : Int) < (m : Int) then (-1 : Int) else 1048576 - (m : Int)) = 1048576 - (m : Int) := if_neg (by omega)
theorem szN_is {va : Value} {l : List Nt} {w : World} {r : Int} (h : NotesAt w va l) (hm : l.length ≤ maxLen) (hr : (if (1048576 : Int) < (l.length : Int) then (-1 : Int) else 1048576 - (l.length : Int)) = r) (W : World) (hW : Below w.heap.size w W) :
    Calls Tryd.prog 30 #[va, .int .i64 1048576] W fun e w' => e = .returned (.int .i64 r) ∧ W = w' := by
  subst hr
  exact szN_at va l 1048576 W (h.below hW) (by omega) (by omega) (by unfold maxLen at hm; omega)
theorem ttL_len (v : List Nt) : (ttL v).length ≤ v.length := by
  unfold ttL
  split
  · rw [tuL_len]; exact Nat.le_refl _
  · exact Nat.zero_le _
theorem jtL_len (v : List Nt) : (jtL v).length ≤ v.length := by
  unfold jtL
  split
  · cases v with
    | nil => exact Nat.zero_le _
    | cons x l => exact jo_len l x
  · exact Nat.zero_le _
theorem Own.third {n : Nat} {B : World → Prop} {w : World} {x y z : Item} {L : List Item} (h : Own n B w (x :: y :: z :: L)) : Own n B w (z :: x :: y :: L) :=
  h.perm (((List.Perm.swap z y L).cons x).trans (List.Perm.swap z x (y :: L)))