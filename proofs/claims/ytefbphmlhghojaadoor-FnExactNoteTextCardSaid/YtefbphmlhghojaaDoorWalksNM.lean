/- The laws' own functions over voices: marks are laid into notes and found. -/
import Derived.Test.YtefbphmlhghojaaDoorWalksNS
namespace Go.Proofs.YtefbphmlhghojaaDoor
set_option linter.unusedSimpArgs false
set_option linter.unusedVariables false
open Go.RowKit

/-- A note that bears the marks from k on. -/
def nmN (k : Int) : Nt := ⟨k % 3 == 0, k + 1, k + 1 + 1, k + 1 + 1 + 1, k + 1 + 1 + 1 + 1, (k + 1 + 1 + 1 + 1 + 1) % 3 == 0⟩
/-- n notes that bear them. -/
def mkN (k0 : Int) (n : Nat) : List Nt := (List.range n).map fun (j : Nat) => nmN (k0 + 6 * (j : Int))
theorem mkN_len (k0 : Int) (n : Nat) : (mkN k0 n).length = n := by simp [mkN]
theorem mkN_at {k0 : Int} {n j : Nat} (h : j < n) : (mkN k0 n)[j]? = some (nmN (k0 + 6 * (j : Int))) := by simp [mkN, h]
theorem mkN_up (k0 : Int) (n : Nat) : mkN k0 (n + 1) = mkN k0 n ++ [nmN (k0 + 6 * (n : Int))] := by simp [mkN, List.range_succ]
/-- The first j of them bear marks. -/
def mixM (k0 : Int) (v : List Nt) (j : Nat) : List Nt := mkN k0 j ++ v.drop j
theorem mixM_put {k0 : Int} {v : List Nt} {j : Nat} (h : j < v.length) :
    ((((((vcC (mixM k0 v j)).set (j * 6) (.bool (nmN (k0 + 6 * (j : Int))).r)).set (j * 6 + 1) (.int .i64 (nmN (k0 + 6 * (j : Int))).s)).set (j * 6 + 2) (.int .i64 (nmN (k0 + 6 * (j : Int))).a)).set (j * 6 + 3) (.int .i64 (nmN (k0 + 6 * (j : Int))).o)).set (j * 6 + 4) (.int .i64 (nmN (k0 + 6 * (j : Int))).t)).set (j * 6 + 5) (.bool (nmN (k0 + 6 * (j : Int))).y) = vcC (mixM k0 v (j + 1)) := by
  unfold mixM
  rw [List.drop_eq_getElem_cons h, vcC_put (mkN_len k0 j), mkN_up, List.append_assoc]
  rfl
theorem mixM_len (k0 : Int) (v : List Nt) (j : Nat) (h : j ≤ v.length) : (mixM k0 v j).length = v.length := by simp [mixM, mkN_len]; omega
theorem mixM_full (k0 : Int) (v : List Nt) : mixM k0 v v.length = mkN k0 v.length := by simp [mixM]

/-- What laying marks into a row leaves: its cells, anew. -/
def MarkedTo (n : Nat) (e : TypeId) (size : Nat) (v : Value) (k : Nat) (r : Value) (ys : List Value) (w : World) (e' : Ending) (w' : World) : Prop :=
  e' = .returned r ∧ w.grownBy w' v.ownBlock ∧ w'.ownsRow n e size v k ys
theorem own_marked {P : Program} {f : FuncId} {args : Array Value} {n : Nat} {B : World → Prop} {W : World} {L : List Item} {e : TypeId} {size : Nat} {v r : Value} {k : Nat} {xs ys : List Value} {K : Ending → World → Prop}
    (hO : Own n B W (.row e size v k xs :: L)) (h : W.ownsRow n e size v k xs → Calls P f args W (MarkedTo n e size v k r ys W)) (k' : ∀ w1, Own n B w1 (.row e size v k ys :: L) → K (.returned r) w1) : Calls P f args W K :=
  (h hO.1.1).mono fun e' w' ⟨he, hg, hr⟩ => by subst he; exact k' w' (hO.regrown hg hr (Or.inl rfl))