/- Chapter 4 in the model: values and their ticks. -/
import Derived.Test.YtblbfmijaalgcaaDoorWalks1
import Derived.Test.YtblbfmijaalgcaaDoorPure4
import Derived.Test.YtblbfmijaalgcaaDoorOwnMake
import Derived.Test.YtblbfmijaalgcaaDoorRegion
namespace Go.Proofs.YtblbfmijaalgcaaDoor
set_option linter.unusedSimpArgs false
set_option linter.unusedVariables false
open Go.RowKit

set_option maxHeartbeats 4000000 in
theorem vvS_any (b d t : Int) (w : World) :
    Calls Tryd.prog 14 #[.agg #[.int .i64 b, .int .i64 d, .int .i64 t]] w fun e w' => e = .returned (.bool (vvB b d t)) ∧ Below w.heap.size w w' := by
  obtain ⟨x, hx⟩ : ∃ x, inB d 0 2 = x := ⟨_, rfl⟩
  go_enter Tryd.func14, Tryd.ntmps14
  go_wp2_with (go_at_call 34; refine (in_any _ _ _ _).mono ?_; rintro e w1 ⟨rfl, rfl⟩)
  all_goals
    go_ret
    exact ⟨ret_bool (by unfold vvB baseB; simp_all), below1 _⟩

theorem tickZ_eq (b d t : Int) : tickZ b d t = if t = 3 then (if d = 1 then 192 / b * 3 / 2 else if d = 2 then 192 / b * 7 / 4 else 192 / b) * 2 / 3 else (if d = 1 then 192 / b * 3 / 2 else if d = 2 then 192 / b * 7 / 4 else 192 / b) := rfl

set_option maxHeartbeats 4000000 in
theorem tkS_any (b d t : Int) (w : World) (hv : vvB b d t = true) :
    Calls Tryd.prog 36 #[.agg #[.int .i64 b, .int .i64 d, .int .i64 t]] w fun e w' => e = .returned (.int .i64 (tickZ b d t)) ∧ Below w.heap.size w w' := by
  obtain ⟨hb, hd, ht⟩ := vvB_iff.1 hv
  have hd' : d = 0 ∨ d = 1 ∨ d = 2 := by omega
  clear hv hd
  rcases hb with rfl | rfl | rfl | rfl | rfl <;> rcases hd' with rfl | rfl | rfl <;> rcases ht with rfl | rfl
  all_goals
    go_enter Tryd.func36, Tryd.ntmps36
    go_wp2
    go_ret
    exact ⟨rfl, below1 _⟩

set_option maxHeartbeats 1000000 in
theorem ttS_any (b d t : Int) (w : World) :
    Calls Tryd.prog 18 #[.agg #[.int .i64 b, .int .i64 d, .int .i64 t]] w fun e w' => e = .returned (.int .i64 (ttZ b d t)) ∧ Below w.heap.size w w' := by
  have hO := Own.start w
  have hF := True.intro
  cases hv : vvB b d t
  · have HE := hid (show ttZ b d t = -1 by simp [ttZ, hv])
    go_enter Tryd.func18, Tryd.ntmps18
    go_wp2_with (go_at_call 14; apply own_at hO; (repeat (first | (with_reducible exact hO) | (with_reducible apply Own.alloc) | (with_reducible apply Own.drew) | ((with_reducible apply Own.set_at); (focus (show _ ≤ _; omega))))); have hG := hF; clear hF; clear hO; intro hO; refine own_call hO (fun hB => vvS_any _ _ _ _) ?_; clear hO; intro w1 hO; (try simp only [World.size_alloc1, World.size_drew, Nat.reduceAdd] at hO); (try simp only [upd, updI, List.map_cons, List.map_nil, eq_self, if_true, if_false, reduceIte, Nat.add_eq_left, Nat.left_eq_add, Nat.reduceEqDiff, List.set_cons_zero, List.set_cons_succ, hG] at hO); clear hG; have hF := hO; (try simp only [Own, Item.Holds, apartI, CellsAt, Nat.reduceAdd, Nat.zero_add, List.mem_cons, List.not_mem_nil, or_false, forall_eq_or_imp, forall_eq, ne_eq, false_imp_iff, implies_true, and_true] at hF))
    go_ret
    exact ⟨ret_int HE.out.symm, Own.base (by (repeat (first | (with_reducible exact hO) | (with_reducible apply Own.alloc) | (with_reducible apply Own.drew) | ((with_reducible apply Own.set_at); (focus (show _ ≤ _; omega))))))⟩
  · have HE := hid (show ttZ b d t = tickZ b d t by simp [ttZ, hv])
    go_enter Tryd.func18, Tryd.ntmps18
    go_wp2_with (first | (go_at_call 14; apply own_at hO; (repeat (first | (with_reducible exact hO) | (with_reducible apply Own.alloc) | (with_reducible apply Own.drew) | ((with_reducible apply Own.set_at); (focus (show _ ≤ _; omega))))); have hG := hF; clear hF; clear hO; intro hO; refine own_call hO (fun hB => vvS_any _ _ _ _) ?_; clear hO; intro w1 hO; (try simp only [World.size_alloc1, World.size_drew, Nat.reduceAdd] at hO); (try simp only [upd, updI, List.map_cons, List.map_nil, eq_self, if_true, if_false, reduceIte, Nat.add_eq_left, Nat.left_eq_add, Nat.reduceEqDiff, List.set_cons_zero, List.set_cons_succ, hG] at hO); clear hG; have hF := hO; (try simp only [Own, Item.Holds, apartI, CellsAt, Nat.reduceAdd, Nat.zero_add, List.mem_cons, List.not_mem_nil, or_false, forall_eq_or_imp, forall_eq, ne_eq, false_imp_iff, implies_true, and_true] at hF)) | (go_at_call 36; apply own_at hO; (repeat (first | (with_reducible exact hO) | (with_reducible apply Own.alloc) | (with_reducible apply Own.drew) | ((with_reducible apply Own.set_at); (focus (show _ ≤ _; omega))))); have hG := hF; clear hF; clear hO; intro hO; refine own_call hO (fun hB => tkS_any _ _ _ _ hv) ?_; clear hO; intro w1 hO; (try simp only [World.size_alloc1, World.size_drew, Nat.reduceAdd] at hO); (try simp only [upd, updI, List.map_cons, List.map_nil, eq_self, if_true, if_false, reduceIte, Nat.add_eq_left, Nat.left_eq_add, Nat.reduceEqDiff, List.set_cons_zero, List.set_cons_succ, hG] at hO); clear hG; have hF := hO; (try simp only [Own, Item.Holds, apartI, CellsAt, Nat.reduceAdd, Nat.zero_add, List.mem_cons, List.not_mem_nil, or_false, forall_eq_or_imp, forall_eq, ne_eq, false_imp_iff, implies_true, and_true] at hF)))
    go_ret
    exact ⟨ret_int HE.out.symm, Own.base (by (repeat (first | (with_reducible exact hO) | (with_reducible apply Own.alloc) | (with_reducible apply Own.drew) | ((with_reducible apply Own.set_at); (focus (show _ ≤ _; omega))))))⟩
end Go.Proofs.YtblbfmijaalgcaaDoor
