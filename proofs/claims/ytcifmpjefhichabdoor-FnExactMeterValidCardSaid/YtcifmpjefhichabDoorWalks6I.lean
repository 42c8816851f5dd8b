/- Chapter 6 in the program: meters; the ticks of a bar; the beat of a tick. -/
import Derived.Test.YtcifmpjefhichabDoorCon6
import Derived.Test.YtcifmpjefhichabDoorWalks4I
import Derived.Test.YtcifmpjefhichabDoorWalks5C
namespace Go.Proofs.YtcifmpjefhichabDoor
set_option linter.unusedSimpArgs false
set_option linter.unusedVariables false
open Go.RowKit

theorem me_base {b u : Int} : meB b u = (decide (1 ≤ b) && decide (b ≤ 12) && decide (1 < u) && baseB u) := by
  rw [Bool.eq_iff_iff, meB_iff]
  simp only [Bool.and_eq_true, decide_eq_true_eq, baseB_iff]
  omega

set_option maxHeartbeats 4000000 in
theorem meI_any (b u : Int) (w : World) (hT : TabB w) :
    Calls Tryd.prog 6 #[.agg #[.int .i64 b, .int .i64 u]] w fun e w' => e = .returned (.bool (meB b u)) ∧ Below w.heap.size w w' := by
  have hO := Own.start w
  have hF := True.intro
  obtain ⟨x, hx⟩ : ∃ x, baseB u = x := ⟨_, rfl⟩
  have HX := hid hx
  clear hx
  have HT := hid hT
  clear hT
  go_enter Tryd.func6, Tryd.ntmps6
  go_wp2_with (go_at_call 8; apply own_at hO; (repeat (first | (with_reducible exact hO) | (with_reducible apply Own.alloc) | (with_reducible apply Own.drew) | ((with_reducible apply Own.set_at); (focus (show _ ≤ _; omega))))); have hG := hF; clear hF; clear hO; intro hO; refine own_call hO (fun hB => still (bvI_is _ (HT.out.below hB) HX.out)) ?_; clear hO; intro w1 hO; (try simp only [World.size_alloc1, World.size_drew, Nat.reduceAdd] at hO); (try simp only [upd, updI, List.map_cons, List.map_nil, eq_self, if_true, if_false, reduceIte, Nat.add_eq_left, Nat.left_eq_add, Nat.reduceEqDiff, List.set_cons_zero, List.set_cons_succ, hG] at hO); clear hG; have hF := hO; (try simp only [Own, Item.Holds, apartI, CellsAt, Nat.reduceAdd, Nat.zero_add, List.mem_cons, List.not_mem_nil, or_false, forall_eq_or_imp, forall_eq, ne_eq, false_imp_iff, implies_true, and_true] at hF))
  all_goals go_ret
  all_goals exact ⟨ret_bool (by rw [me_base, HX.out]; cases x <;> simp_all <;> omega), Own.base (by (repeat (first | (with_reducible exact hO) | (with_reducible apply Own.alloc) | (with_reducible apply Own.drew) | ((with_reducible apply Own.set_at); (focus (show _ ≤ _; omega))))))⟩
theorem meI_is {b u : Int} {o : Bool} {w : World} (hT : TabB w) (h : meB b u = o) (W : World) (hW : Below w.heap.size w W) :
    Calls Tryd.prog 6 #[.agg #[.int .i64 b, .int .i64 u]] W fun e w' => e = .returned (.bool o) ∧ Below W.heap.size W w' := by
  subst h; exact meI_any b u W (hT.below hW)

theorem div_two {t b q : Int} (hb : 1 ≤ b) (hq : 1 ≤ q) (_ : 0 ≤ t) : t / q / b = t / (b * q) ∧ t / q % b = t % (b * q) / q := by
  have e1 : t / q / b = t / (b * q) := by rw [Int.mul_comm b q]; exact Int.ediv_ediv_of_nonneg (by omega)
  refine ⟨e1, ?_⟩
  rw [Int.emod_def, Int.emod_def t, e1, show t - b * q * (t / (b * q)) = t + q * (-(b * (t / (b * q)))) by rw [Int.mul_neg, Int.mul_comm b q, Int.mul_assoc]; omega, Int.add_mul_ediv_left _ _ (by omega)]
  omega

theorem meI_C {w : World} (hT : TabB w) : CMe 6 w := fun b u W hW _ _ => meI_any b u W (hT.below hW)

/- Chapter 6 in the program: the number of bars. -/
open Go.RowKit