/- Chapter 2 in the program: the functions that the document names. -/
import Derived.Test.YtjfkbhfdcdjeaaaDoorWalks2I
import Derived.Test.YtjfkbhfdcdjeaaaDoorWalks2S
namespace Go.Proofs.YtjfkbhfdcdjeaaaDoor
set_option linter.unusedSimpArgs false
set_option linter.unusedVariables false
open Go.RowKit

theorem quZ_of {st ha : Int} (h : -9223372036854775807 ≤ ha) (h1 : -21 ≤ st) : quZ st ha = upH st ha - natZ (upS st ha) := by
  unfold quZ upS upH downB
  by_cases hd : st < 0 ∨ (st = 0 ∧ ha < 0)
  · have e : (decide (st < 0) || (st == 0 && decide (ha < 0))) = true := by simp; omega
    rw [if_pos hd, if_pos e, if_pos e, negW_of h, negW_of (by omega)]
  · have e : ¬ (decide (st < 0) || (st == 0 && decide (ha < 0))) = true := by simp; omega
    rw [if_neg hd, if_neg e, if_neg e]
theorem upH_bd {st ha : Int} (h1 : -60 ≤ ha) (h2 : ha ≤ 60) : -60 ≤ upH st ha ∧ upH st ha ≤ 60 := by
  unfold upH
  split
  · rw [negW_of (by omega)]; omega
  · omega
theorem plainB_any (n : Int) (w : World) (h0 : 0 ≤ n) (h1 : n ≤ 1000000) (ht : TabH w) :
    Calls Tryd.prog 41 #[.int .i64 n] w fun e w' => e = .returned (.int .i64 (natZ n)) ∧ Below w.heap.size w w' :=
  (plainH_any n w h0 h1 ht).mono fun _ _ ⟨he, hw⟩ => ⟨he, hw ▸ Below.refl _ _⟩


set_option maxHeartbeats 1000000 in
theorem qualI_any (st ha : Int) (w : World) (ht : TabH w) (r1 : r64 st) (r2 : r64 ha) :
    Calls Tryd.prog 26 #[.agg #[.int .i64 st, .int .i64 ha]] w fun e w' => e = .returned (.int .i64 (qaZ st ha)) ∧ Below w.heap.size w w' := by
  have hO := Own.start w
  have hF := True.intro
  by_cases hv : ivB st ha = true
  · obtain ⟨⟨a1, a2⟩, ⟨b1, b2⟩, _⟩ := ivB_iff.1 hv
    have HE := hid (show qaZ st ha = upH st ha - natZ (upS st ha) by rw [qaZ, if_pos hv, quZ_of (by omega) (by omega)])
    obtain ⟨u0, u1⟩ := upS_bd (ha := ha) a1 a2
    obtain ⟨u2, u3⟩ := upH_bd (st := st) b1 b2
    have nb := natZ_bd u0
    have e1 : IntKind.i64.wrap (upH st ha - natZ (upS st ha)) = upH st ha - natZ (upS st ha) := IntWalk.i64_in _ (by omega)
    go_enter Tryd.func26, Tryd.ntmps26
    go_wp2_with (first | (go_at_call 17; apply own_at hO; (repeat (first | exact hO | (with_reducible apply Own.alloc) | (with_reducible apply Own.drew) | ((with_reducible apply Own.set_at); (focus (show _ ≤ _; omega))))); have hG := hF; clear hF; clear hO; intro hO; refine own_call hO (fun hB => ivI_any _ _ _ (ht.below hB) r1 r2) ?_; clear hO; intro w1 hO; (try simp only [World.size_alloc1, World.size_drew, Nat.reduceAdd] at hO); (try simp only [upd, upd_same, eq_self, if_true, if_false, reduceIte, Nat.add_eq_left, Nat.left_eq_add, Nat.reduceEqDiff, List.set_cons_zero, List.set_cons_succ, hG] at hO); clear hG; have hF := hO; (try simp only [Own, CellsAt, Nat.reduceAdd, Nat.zero_add, List.mem_cons, List.not_mem_nil, or_false, forall_eq_or_imp, forall_eq, ne_eq, false_imp_iff, implies_true, and_true] at hF)) | (go_at_call 40; apply own_at hO; (repeat (first | exact hO | (with_reducible apply Own.alloc) | (with_reducible apply Own.drew) | ((with_reducible apply Own.set_at); (focus (show _ ≤ _; omega))))); have hG := hF; clear hF; clear hO; intro hO; refine own_call hO (fun hB => upwards_any _ _ _ r1 r2) ?_; clear hO; intro w1 hO; (try simp only [World.size_alloc1, World.size_drew, Nat.reduceAdd] at hO); (try simp only [upd, upd_same, eq_self, if_true, if_false, reduceIte, Nat.add_eq_left, Nat.left_eq_add, Nat.reduceEqDiff, List.set_cons_zero, List.set_cons_succ, hG] at hO); clear hG; have hF := hO; (try simp only [Own, CellsAt, Nat.reduceAdd, Nat.zero_add, List.mem_cons, List.not_mem_nil, or_false, forall_eq_or_imp, forall_eq, ne_eq, false_imp_iff, implies_true, and_true] at hF)))
    apply own_code hO
    (repeat (first | exact hO | (with_reducible apply Own.alloc) | (with_reducible apply Own.drew) | ((with_reducible apply Own.set_at); (focus (show _ ≤ _; omega)))))
    have hG := hF; clear hF; clear hO; intro hO
    (try simp only [World.size_alloc1, World.size_drew, Nat.reduceAdd] at hO); (try simp only [upd, upd_same, eq_self, if_true, if_false, reduceIte, Nat.add_eq_left, Nat.left_eq_add, Nat.reduceEqDiff, List.set_cons_zero, List.set_cons_succ, hG] at hO); clear hG
    refine region_own (X := fun _ => True) [] (by kernel_rfl) (hO) (trivial) (by first | exact XStab.true | exact XStab.rd) ?_
    clear hO
    refine Sim.takeP (i := 0) (d := some 9) (v := ?_) rfl rfl (by kernel_rfl) (by kernel_rfl) (by kernel_rfl) (fun _ _ _ h => h) (by first | exact XStab.true | exact XStab.rd) ?_ ?_
    rotate_left
    · first | refine Or.inl ⟨by rfl, fun w => ?_⟩ | exact Or.inr ⟨by rfl, rfl⟩
      first | done | (go_simp; all_goals with_reducible rfl)
    try simp only [Act.put, List.setIfInBounds_toArray, List.set_cons_zero, List.set_cons_succ]
    refine Sim.take (i := 1) (d := some 10) (v := ?_) rfl rfl (by kernel_rfl) (by kernel_rfl) (by kernel_rfl) (by kernel_rfl) (fun _ _ _ h => h) (by first | exact XStab.true | exact XStab.rd) ?_ ?_
    rotate_left
    · first | refine Or.inl ⟨by rfl, fun w hO => ?_⟩ | exact Or.inr ⟨by rfl, rfl⟩
      first | done | (have hF := hO; (try simp only [Own, CellsAt, Nat.reduceAdd, Nat.zero_add, List.mem_cons, List.not_mem_nil, or_false, forall_eq_or_imp, forall_eq, ne_eq, false_imp_iff, implies_true, and_true] at hF); refine Out.same ?_; go_simp; all_goals with_reducible rfl)
    try simp only [Act.put, List.setIfInBounds_toArray, List.set_cons_zero, List.set_cons_succ]
    refine Sim.takeP (i := 2) (d := some 11) (v := ?_) rfl rfl (by kernel_rfl) (by kernel_rfl) (by kernel_rfl) (fun _ _ _ h => h) (by first | exact XStab.true | exact XStab.rd) ?_ ?_
    rotate_left
    · first | refine Or.inl ⟨by rfl, fun w => ?_⟩ | exact Or.inr ⟨by rfl, rfl⟩
      first | done | (go_simp; all_goals with_reducible rfl)
    try simp only [Act.put, List.setIfInBounds_toArray, List.set_cons_zero, List.set_cons_succ]
    refine Sim.take (i := 3) (d := some 12) (v := ?_) rfl rfl (by kernel_rfl) (by kernel_rfl) (by kernel_rfl) (by kernel_rfl) (fun _ _ _ h => h) (by first | exact XStab.true | exact XStab.rd) ?_ ?_
    rotate_left
    · first | refine Or.inl ⟨by rfl, fun w hO => ?_⟩ | exact Or.inr ⟨by rfl, rfl⟩
      first | done | (have hF := hO; (try simp only [Own, CellsAt, Nat.reduceAdd, Nat.zero_add, List.mem_cons, List.not_mem_nil, or_false, forall_eq_or_imp, forall_eq, ne_eq, false_imp_iff, implies_true, and_true] at hF); refine Out.same ?_; go_simp; all_goals with_reducible rfl)
    try simp only [Act.put, List.setIfInBounds_toArray, List.set_cons_zero, List.set_cons_succ]
    refine Sim.take (i := 4) (d := some 13) (v := ?_) rfl rfl (by kernel_rfl) (by kernel_rfl) (by kernel_rfl) (by kernel_rfl) (fun _ _ _ h => h) (by first | exact XStab.true | exact XStab.rd) ?_ ?_
    rotate_left
    · first | refine Or.inl ⟨by rfl, fun w hO => ?_⟩ | exact Or.inr ⟨by rfl, rfl⟩
      first | done | (refine Out.call (f := 41) (args := ?_) ?_ ?_; rotate_left; (focus (go_simp; all_goals with_reducible rfl)); exact plainB_any _ _ u0 (by omega) (ht.below hO.base))
    try simp only [Act.put, List.setIfInBounds_toArray, List.set_cons_zero, List.set_cons_succ]
    refine Sim.takeP (i := 5) (d := some 14) (v := ?_) rfl rfl (by kernel_rfl) (by kernel_rfl) (by kernel_rfl) (fun _ _ _ h => h) (by first | exact XStab.true | exact XStab.rd) ?_ ?_
    rotate_left
    · first | refine Or.inl ⟨by rfl, fun w => ?_⟩ | exact Or.inr ⟨by rfl, rfl⟩
      first | done | (go_simp; all_goals with_reducible rfl)
    try simp only [Act.put, List.setIfInBounds_toArray, List.set_cons_zero, List.set_cons_succ]
    refine Sim.takeP (i := 6) (d := some 2) (v := ?_) rfl rfl (by kernel_rfl) (by kernel_rfl) (by kernel_rfl) (fun _ _ _ h => h) (by first | exact XStab.true | exact XStab.rd) ?_ ?_
    rotate_left
    · first | refine Or.inl ⟨by rfl, fun w => ?_⟩ | exact Or.inr ⟨by rfl, rfl⟩
      first | done | (go_simp; all_goals with_reducible rfl)
    try simp only [Act.put, List.setIfInBounds_toArray, List.set_cons_zero, List.set_cons_succ]
    refine Sim.done (by kernel_rfl) (fun w1 hO hX => ?_) _
    (try simp only [World.size_alloc1, World.size_drew, Nat.reduceAdd] at hO); (try simp only [upd, upd_same, eq_self, if_true, if_false, reduceIte, Nat.add_eq_left, Nat.left_eq_add, Nat.reduceEqDiff, List.set_cons_zero, List.set_cons_succ] at hO)
    have hF := hO; (try simp only [Own, CellsAt, Nat.reduceAdd, Nat.zero_add, List.mem_cons, List.not_mem_nil, or_false, forall_eq_or_imp, forall_eq, ne_eq, false_imp_iff, implies_true, and_true] at hF)
    go_wp2
    go_ret
    exact ⟨ret_int (by rw [HE.out]), hO.base⟩
  · rw [Bool.not_eq_true] at hv
    have HE := hid (show qaZ st ha = -9 by simp [qaZ, hv])
    go_enter Tryd.func26, Tryd.ntmps26
    go_wp2_with (go_at_call 17; apply own_at hO; (repeat (first | exact hO | (with_reducible apply Own.alloc) | (with_reducible apply Own.drew) | ((with_reducible apply Own.set_at); (focus (show _ ≤ _; omega))))); have hG := hF; clear hF; clear hO; intro hO; refine own_call hO (fun hB => ivI_any _ _ _ (ht.below hB) r1 r2) ?_; clear hO; intro w1 hO; (try simp only [World.size_alloc1, World.size_drew, Nat.reduceAdd] at hO); (try simp only [upd, upd_same, eq_self, if_true, if_false, reduceIte, Nat.add_eq_left, Nat.left_eq_add, Nat.reduceEqDiff, List.set_cons_zero, List.set_cons_succ, hG] at hO); clear hG; have hF := hO; (try simp only [Own, CellsAt, Nat.reduceAdd, Nat.zero_add, List.mem_cons, List.not_mem_nil, or_false, forall_eq_or_imp, forall_eq, ne_eq, false_imp_iff, implies_true, and_true] at hF))
    go_ret
    exact ⟨ret_int (by rw [HE.out]), hO.base⟩
end Go.Proofs.YtjfkbhfdcdjeaaaDoor
