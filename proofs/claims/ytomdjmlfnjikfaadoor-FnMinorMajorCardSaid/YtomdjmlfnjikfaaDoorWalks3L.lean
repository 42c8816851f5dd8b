/- Chapter 3 in the model: scales. -/
import Derived.Test.YtomdjmlfnjikfaaDoorWalks3K
namespace Go.Proofs.YtomdjmlfnjikfaaDoor
set_option linter.unusedSimpArgs false
set_option linter.unusedVariables false
open Go.RowKit

theorem infoP : (Tryd.prog.info? 24).map (fun i => (i.zero, i.size, i.bytes)) = some (some (.agg #[.int .i64 0, .int .i64 0, .int .i64 0]), 3, 24) := by kernel_rfl

/-- The cells of the j-th pitch of a scale. -/
def scC (f : Int) (m : Bool) (j : Nat) : List Value := [.int .i64 ((28 + tonZ f m + j) % 7), .int .i64 (altZ f ((28 + tonZ f m + j) % 7)), .int .i64 ((28 + tonZ f m + j) / 7)]
/-- The cells of its first k pitches. -/
def scL (f : Int) (m : Bool) (k : Nat) : List Value := (List.range k).flatMap (scC f m)
theorem scL_up (f : Int) (m : Bool) (k : Nat) : scL f m k ++ [.int .i64 ((28 + tonZ f m + k) % 7), .int .i64 (altZ f ((28 + tonZ f m + k) % 7)), .int .i64 ((28 + tonZ f m + k) / 7)] = scL f m (k + 1) := by
  unfold scL
  rw [List.range_succ, List.flatMap_append]
  simp [scC]
theorem one3 {x y z : Int} : ∀ u ∈ [Value.int .i64 x, .int .i64 y, .int .i64 z], u.oneCell' = true := by
  intro u hu
  simp at hu
  rcases hu with rfl | rfl | rfl <;> rfl

set_option maxRecDepth 8000 in
set_option maxHeartbeats 4000000 in
theorem ksS_yes (f : Int) (m : Bool) (w : World) (f0 : -7 ≤ f) (f1 : f ≤ 7) :
    Calls Tryd.prog 28 #[.int .i64 f, .bool m] w (RowOut 24 3 8 (scL f m 8) w) := by
  have hO := Own.start w
  have hF := True.intro
  obtain ⟨i0, hi, hz0, hz1, hz2⟩ := info_parts infoP
  have tb := tonZ_bd f m
  have hb : inB f (-7) 7 = true := inB_iff.2 ⟨f0, f1⟩
  go_enter Tryd.func28, Tryd.ntmps28
  go_wp2_with fail
  go_loopw [5, 6] (fun v t wr => ∃ k : Nat, k ≤ 8 ∧ t = .int .i64 k ∧ Own w.heap.size (Below w.heap.size w) wr [.row 24 3 v k (scL f m k)]) (fun _ t _ => (8 - intOf t).toNat)
  case atStart => exact ⟨0, by omega, rfl, hO.allocRow (cur := #[]) (k := 0) (cap := 0) 3 (by omega) (by unfold maxLen; omega) rfl⟩
  case round =>
    clear hO
    obtain ⟨k, hk, rfl, hO⟩ := hrel
    have q0 : 0 ≤ (28 + tonZ f m + k) % 7 := by omega
    have q1 : (28 + tonZ f m + k) % 7 ≤ 6 := by omega
    by_cases h8 : k = 8
    · subst h8
      go_wp2_with (go_at_call 47; refine (in_any _ _ _ _).mono ?_; rintro e w1 ⟨rfl, rfl⟩)
      go_ret
      exact RowOut.mk hO
    · have hlt : k < 8 := by omega
      clear h8
      go_wp2_with (first | (go_at_call 47; refine (in_any _ _ _ _).mono ?_; rintro e w1 ⟨rfl, rfl⟩) | (go_at_call 68; refine (tonS_any _ _ _ f0 f1).mono ?_; rintro e w1 ⟨rfl, rfl⟩) | (go_at_call 69; apply own_at hO; (repeat (first | (with_reducible exact hO) | (with_reducible apply Own.alloc) | (with_reducible apply Own.drew) | ((with_reducible apply Own.set_at); (focus (show _ ≤ _; omega))))); have hG := hF; clear hF; clear hO; intro hO; refine own_call hO (fun hB => altS_any _ _ _ q0 q1) ?_; clear hO; intro w1 hO; (try simp only [World.size_alloc1, World.size_drew, Nat.reduceAdd] at hO); (try simp only [upd, updI, List.map_cons, List.map_nil, eq_self, if_true, if_false, reduceIte, Nat.add_eq_left, Nat.left_eq_add, Nat.reduceEqDiff, List.set_cons_zero, List.set_cons_succ, hG] at hO); clear hG; have hF := hO; (try simp only [Own, Item.Holds, apartI, CellsAt, Nat.reduceAdd, Nat.zero_add, List.mem_cons, List.not_mem_nil, or_false, forall_eq_or_imp, forall_eq, ne_eq, false_imp_iff, implies_true, and_true] at hF)) | (at_builtin; refine wpList_append_item rfl _ _ 27 rfl 24 i0 (.agg #[.int .i64 0, .int .i64 0, .int .i64 0]) 3 24 Tryd.underlying27 hi hz0 hz1 hz2 rfl (by decide) rfl rfl (Own.alloc hO) rfl one3 (by unfold maxLen; omega) (by omega) ?_; clear hO hF; intro v' w2 hO _; have hF := True.intro))
      go_roundw
      case rel => exact ⟨k + 1, by omega, by go_num, by rw [← scL_up]; exact hO⟩
      case measure => simp [intOf]; omega

set_option maxHeartbeats 1000000 in
theorem ksS_no (f : Int) (m : Bool) (w : World) (hv : keyB f = false) :
    Calls Tryd.prog 28 #[.int .i64 f, .bool m] w (RowOut 24 3 0 [] w) := by
  have hO := Own.start w
  have hF := True.intro
  have hb : inB f (-7) 7 = false := hv
  go_enter Tryd.func28, Tryd.ntmps28
  go_wp2_with fail
  go_loopw [5, 6] (fun v t wr => t = .int .i64 0 ∧ Own w.heap.size (Below w.heap.size w) wr [.row 24 3 v 0 []]) (fun _ _ _ => 0)
  case atStart => exact ⟨rfl, hO.allocRow (cur := #[]) (k := 0) (cap := 0) 3 (by omega) (by unfold maxLen; omega) rfl⟩
  case round =>
    clear hO
    obtain ⟨rfl, hO⟩ := hrel
    go_wp2_with (go_at_call 47; refine (in_any _ _ _ _).mono ?_; rintro e w1 ⟨rfl, rfl⟩)
    go_ret
    exact RowOut.mk hO
end Go.Proofs.YtomdjmlfnjikfaaDoor
