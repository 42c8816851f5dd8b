/- Chapter 5 in the model: notes and voices that are valid; ticks; the note at a tick. -/
import Derived.Test.YtepelgaekgllcaaDoorWalksNS
namespace Go.Proofs.YtepelgaekgllcaaDoor
set_option linter.unusedSimpArgs false
set_option linter.unusedVariables false
open Go.RowKit

set_option maxHeartbeats 4000000 in
theorem nvS_any (x : Nt) (w : World) :
    Calls Tryd.prog 14 #[.agg #[.bool x.r, .int .i64 x.s, .int .i64 x.a, .int .i64 x.o, .int .i64 x.t, .bool x.y]] w fun e w' => e = .returned (.bool (nvB x)) ∧ Below w.heap.size w w' := by
  have hO := Own.start w
  have hF := True.intro
  obtain ⟨r, s, a, o, t, y⟩ := x
  simp only
  cases r <;> cases y
  all_goals
    go_enter Tryd.func14, Tryd.ntmps14
    go_wp2_with (first | (go_at_call 39; refine (in_any _ _ _ _).mono ?_; rintro e w1 ⟨rfl, rfl⟩) | (go_at_call 40; apply own_at hO; (repeat (first | (with_reducible exact hO) | (with_reducible apply Own.alloc) | (with_reducible apply Own.drew) | ((with_reducible apply Own.set_at); (focus (show _ ≤ _; omega))))); have hG := hF; clear hF; clear hO; intro hO; refine own_call hO (fun hB => pvS_any _ _ _ _) ?_; clear hO; intro w1 hO; (try simp only [World.size_alloc1, World.size_drew, Nat.reduceAdd] at hO); (try simp only [upd, updI, List.map_cons, List.map_nil, eq_self, if_true, if_false, reduceIte, Nat.add_eq_left, Nat.left_eq_add, Nat.reduceEqDiff, List.set_cons_zero, List.set_cons_succ, hG] at hO); clear hG; have hF := hO; (try simp only [Own, Item.Holds, apartI, CellsAt, Nat.reduceAdd, Nat.zero_add, List.mem_cons, List.not_mem_nil, or_false, forall_eq_or_imp, forall_eq, ne_eq, false_imp_iff, implies_true, and_true] at hF)))
    all_goals go_ret
    all_goals exact ⟨ret_bool (by simp only [nvB]; simp_all), Own.base (by (repeat (first | (with_reducible exact hO) | (with_reducible apply Own.alloc) | (with_reducible apply Own.drew) | ((with_reducible apply Own.set_at); (focus (show _ ≤ _; omega))))))⟩
end Go.Proofs.YtepelgaekgllcaaDoor
