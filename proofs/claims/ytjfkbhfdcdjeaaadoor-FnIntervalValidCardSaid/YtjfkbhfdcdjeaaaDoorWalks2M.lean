/- Chapter 2 in the program: the way between pitches, added ways. -/
import Derived.Test.YtjfkbhfdcdjeaaaDoorWalks2K
namespace Go.Proofs.YtjfkbhfdcdjeaaaDoor
set_option linter.unusedSimpArgs false
set_option linter.unusedVariables false
open Go.RowKit

set_option maxHeartbeats 2000000 in
theorem ofI_b (s a o s' a' o' : Int) (w : World) (ht : TabH w) (v1 : pvB s a o = true) (v2 : pvB s' a' o' = true) (b : Bool) (v3 : ivB (dpZ s o s' o') (keyZ s' a' o' - keyZ s a o) = b) :
    Calls Tryd.prog 20 #[.agg #[.int .i64 s, .int .i64 a, .int .i64 o], .agg #[.int .i64 s', .int .i64 a', .int .i64 o']] w fun e w' => e = .returned (.tuple #[.agg #[.int .i64 (if b then dpZ s o s' o' else 0), .int .i64 (if b then keyZ s' a' o' - keyZ s a o else 0)], .bool b]) ∧ Below w.heap.size w w' := by
  have hO := Own.start w
  have hF := True.intro
  have k1 := keyZ_bd v1
  have k2 := keyZ_bd v2
  obtain ⟨⟨h1, h2⟩, ⟨h3, h4⟩, ⟨h5, h6⟩⟩ := pvB_iff.1 v1
  obtain ⟨⟨g1, g2⟩, ⟨g3, g4⟩, ⟨g5, g6⟩⟩ := pvB_iff.1 v2
  have r3 : r64 (dpZ s o s' o') := by unfold r64 dpZ; omega
  have r4 : r64 (keyZ s' a' o' - keyZ s a o) := by unfold r64; omega
  have d1 : IntKind.i64.wrap (placeZ s' a' o' - placeZ s a o) = dpZ s o s' o' := by
    rw [show placeZ s a o = 7 * o + s by simp [placeZ, v1], show placeZ s' a' o' = 7 * o' + s' by simp [placeZ, v2]]
    unfold dpZ; exact IntWalk.i64_in _ (by omega)
  have d2 : IntKind.i64.wrap (keyZ s' a' o' - keyZ s a o) = keyZ s' a' o' - keyZ s a o := IntWalk.i64_in _ (by omega)
  go_enter Tryd.func20, Tryd.ntmps20
  go_wp2_with (go_at_call 45; apply own_at hO; (repeat (first | exact hO | (with_reducible apply Own.alloc) | (with_reducible apply Own.drew) | ((with_reducible apply Own.set_at); (focus (show _ ≤ _; omega))))); have hG := hF; clear hF; clear hO; intro hO; refine own_call hO (fun hB => pvI_any _ _ _ _) ?_; clear hO; intro w1 hO; (try simp only [World.size_alloc1, World.size_drew, Nat.reduceAdd] at hO); (try simp only [upd, upd_same, eq_self, if_true, if_false, reduceIte, Nat.add_eq_left, Nat.left_eq_add, Nat.reduceEqDiff, List.set_cons_zero, List.set_cons_succ, hG] at hO); clear hG; have hF := hO; (try simp only [Own, CellsAt, Nat.reduceAdd, Nat.zero_add, List.mem_cons, List.not_mem_nil, or_false, forall_eq_or_imp, forall_eq, ne_eq, false_imp_iff, implies_true, and_true] at hF))
  apply own_code hO
  (repeat (first | exact hO | (with_reducible apply Own.alloc) | (with_reducible apply Own.drew) | ((with_reducible apply Own.set_at); (focus (show _ ≤ _; omega)))))
  have hG := hF; clear hF; clear hO; intro hO
  (try simp only [World.size_alloc1, World.size_drew, Nat.reduceAdd] at hO); (try simp only [upd, upd_same, eq_self, if_true, if_false, reduceIte, Nat.add_eq_left, Nat.left_eq_add, Nat.reduceEqDiff, List.set_cons_zero, List.set_cons_succ, hG] at hO); clear hG
  refine region_own (X := fun _ => True) [12] (by kernel_rfl) (hO) (trivial) (by first | exact XStab.true | exact XStab.rd) ?_
  clear hO
  refine Sim.take (i := 0) (d := some 16) (v := ?_) rfl rfl (by kernel_rfl) (by kernel_rfl) (by kernel_rfl) (by kernel_rfl) (fun _ _ _ h => h) (by first | exact XStab.true | exact XStab.rd) ?_ ?_
  rotate_left
  · first | refine Or.inl ⟨by rfl, fun w hO => ?_⟩ | exact Or.inr ⟨by rfl, rfl⟩
    first | done | (have hF := hO; (try simp only [Own, CellsAt, Nat.reduceAdd, Nat.zero_add, List.mem_cons, List.not_mem_nil, or_false, forall_eq_or_imp, forall_eq, ne_eq, false_imp_iff, implies_true, and_true] at hF); refine Out.same ?_; go_simp; all_goals with_reducible rfl)
  try simp only [Act.put, List.setIfInBounds_toArray, List.set_cons_zero, List.set_cons_succ]
  refine Sim.take (i := 1) (d := some 17) (v := ?_) rfl rfl (by kernel_rfl) (by kernel_rfl) (by kernel_rfl) (by kernel_rfl) (fun _ _ _ h => h) (by first | exact XStab.true | exact XStab.rd) ?_ ?_
  rotate_left
  · first | refine Or.inl ⟨by rfl, fun w hO => ?_⟩ | exact Or.inr ⟨by rfl, rfl⟩
    first | done | (refine Out.call (f := 46) (args := ?_) ?_ ?_; rotate_left; (focus (go_simp; all_goals with_reducible rfl)); exact placeI_any _ _ _ _)
  try simp only [Act.put, List.setIfInBounds_toArray, List.set_cons_zero, List.set_cons_succ]
  refine Sim.take (i := 2) (d := some 18) (v := ?_) rfl rfl (by kernel_rfl) (by kernel_rfl) (by kernel_rfl) (by kernel_rfl) (fun _ _ _ h => h) (by first | exact XStab.true | exact XStab.rd) ?_ ?_
  rotate_left
  · first | refine Or.inl ⟨by rfl, fun w hO => ?_⟩ | exact Or.inr ⟨by rfl, rfl⟩
    first | done | (have hF := hO; (try simp only [Own, CellsAt, Nat.reduceAdd, Nat.zero_add, List.mem_cons, List.not_mem_nil, or_false, forall_eq_or_imp, forall_eq, ne_eq, false_imp_iff, implies_true, and_true] at hF); refine Out.same ?_; go_simp; all_goals with_reducible rfl)
  try simp only [Act.put, List.setIfInBounds_toArray, List.set_cons_zero, List.set_cons_succ]
  refine Sim.take (i := 3) (d := some 19) (v := ?_) rfl rfl (by kernel_rfl) (by kernel_rfl) (by kernel_rfl) (by kernel_rfl) (fun _ _ _ h => h) (by first | exact XStab.true | exact XStab.rd) ?_ ?_
  rotate_left
  · first | refine Or.inl ⟨by rfl, fun w hO => ?_⟩ | exact Or.inr ⟨by rfl, rfl⟩
    first | done | (refine Out.call (f := 46) (args := ?_) ?_ ?_; rotate_left; (focus (go_simp; all_goals with_reducible rfl)); exact placeI_any _ _ _ _)
  try simp only [Act.put, List.setIfInBounds_toArray, List.set_cons_zero, List.set_cons_succ]
  refine Sim.takeP (i := 4) (d := some 20) (v := ?_) rfl rfl (by kernel_rfl) (by kernel_rfl) (by kernel_rfl) (fun _ _ _ h => h) (by first | exact XStab.true | exact XStab.rd) ?_ ?_
  rotate_left
  · first | refine Or.inl ⟨by rfl, fun w => ?_⟩ | exact Or.inr ⟨by rfl, rfl⟩
    first | done | (go_simp; all_goals with_reducible rfl)
  try simp only [Act.put, List.setIfInBounds_toArray, List.set_cons_zero, List.set_cons_succ]
  refine Sim.take (i := 5) (d := some 21) (v := ?_) rfl rfl (by kernel_rfl) (by kernel_rfl) (by kernel_rfl) (by kernel_rfl) (fun _ _ _ h => h) (by first | exact XStab.true | exact XStab.rd) ?_ ?_
  rotate_left
  · first | refine Or.inl ⟨by rfl, fun w hO => ?_⟩ | exact Or.inr ⟨by rfl, rfl⟩
    first | done | (have hF := hO; (try simp only [Own, CellsAt, Nat.reduceAdd, Nat.zero_add, List.mem_cons, List.not_mem_nil, or_false, forall_eq_or_imp, forall_eq, ne_eq, false_imp_iff, implies_true, and_true] at hF); refine Out.same ?_; go_simp; all_goals with_reducible rfl)
  try simp only [Act.put, List.setIfInBounds_toArray, List.set_cons_zero, List.set_cons_succ]
  refine Sim.take (i := 6) (d := some 22) (v := ?_) rfl rfl (by kernel_rfl) (by kernel_rfl) (by kernel_rfl) (by kernel_rfl) (fun _ _ _ h => h) (by first | exact XStab.true | exact XStab.rd) ?_ ?_
  rotate_left
  · first | refine Or.inl ⟨by rfl, fun w hO => ?_⟩ | exact Or.inr ⟨by rfl, rfl⟩
    first | done | (refine Out.call (f := 47) (args := ?_) ?_ ?_; rotate_left; (focus (go_simp; all_goals with_reducible rfl)); exact keyI_any _ _ _ _ (ht.below hO.base))
  try simp only [Act.put, List.setIfInBounds_toArray, List.set_cons_zero, List.set_cons_succ]
  refine Sim.take (i := 7) (d := some 23) (v := ?_) rfl rfl (by kernel_rfl) (by kernel_rfl) (by kernel_rfl) (by kernel_rfl) (fun _ _ _ h => h) (by first | exact XStab.true | exact XStab.rd) ?_ ?_
  rotate_left
  · first | refine Or.inl ⟨by rfl, fun w hO => ?_⟩ | exact Or.inr ⟨by rfl, rfl⟩
    first | done | (have hF := hO; (try simp only [Own, CellsAt, Nat.reduceAdd, Nat.zero_add, List.mem_cons, List.not_mem_nil, or_false, forall_eq_or_imp, forall_eq, ne_eq, false_imp_iff, implies_true, and_true] at hF); refine Out.same ?_; go_simp; all_goals with_reducible rfl)
  try simp only [Act.put, List.setIfInBounds_toArray, List.set_cons_zero, List.set_cons_succ]
  refine Sim.take (i := 8) (d := some 24) (v := ?_) rfl rfl (by kernel_rfl) (by kernel_rfl) (by kernel_rfl) (by kernel_rfl) (fun _ _ _ h => h) (by first | exact XStab.true | exact XStab.rd) ?_ ?_
  rotate_left
  · first | refine Or.inl ⟨by rfl, fun w hO => ?_⟩ | exact Or.inr ⟨by rfl, rfl⟩
    first | done | (refine Out.call (f := 47) (args := ?_) ?_ ?_; rotate_left; (focus (go_simp; all_goals with_reducible rfl)); exact keyI_any _ _ _ _ (ht.below hO.base))
  try simp only [Act.put, List.setIfInBounds_toArray, List.set_cons_zero, List.set_cons_succ]
  refine Sim.takeP (i := 9) (d := some 25) (v := ?_) rfl rfl (by kernel_rfl) (by kernel_rfl) (by kernel_rfl) (fun _ _ _ h => h) (by first | exact XStab.true | exact XStab.rd) ?_ ?_
  rotate_left
  · first | refine Or.inl ⟨by rfl, fun w => ?_⟩ | exact Or.inr ⟨by rfl, rfl⟩
    first | done | (go_simp; all_goals with_reducible rfl)
  try simp only [Act.put, List.setIfInBounds_toArray, List.set_cons_zero, List.set_cons_succ]
  refine Sim.takeP (i := 10) (d := some 26) (v := ?_) rfl rfl (by kernel_rfl) (by kernel_rfl) (by kernel_rfl) (fun _ _ _ h => h) (by first | exact XStab.true | exact XStab.rd) ?_ ?_
  rotate_left
  · first | refine Or.inl ⟨by rfl, fun w => ?_⟩ | exact Or.inr ⟨by rfl, rfl⟩
    first | done | (go_simp; all_goals with_reducible rfl)
  try simp only [Act.put, List.setIfInBounds_toArray, List.set_cons_zero, List.set_cons_succ]
  refine Sim.one' (i := 11) (oi := { dst := some 6, op := Op.alloc 25, type := 0, pos := "l2_intervals.go:33", after := #[], guard := none }) (by kernel_rfl) rfl (by rfl) (fun w0 hO hX K hK => ?_)
  have hF := hO; (try simp only [Own, CellsAt, Nat.reduceAdd, Nat.zero_add, List.mem_cons, List.not_mem_nil, or_false, forall_eq_or_imp, forall_eq, ne_eq, false_imp_iff, implies_true, and_true] at hF)
  go_simp
  apply hK _ _ _ (fun _ => True)
  (repeat (first | exact hO | (with_reducible apply Own.alloc) | (with_reducible apply Own.drew) | ((with_reducible apply Own.set_at); (focus (show _ ≤ _; omega)))))
  · first | exact trivial | exact hX.below (below1 _) | exact hX.keep ((Below.refl _ _).setCell (by show _ ≤ _; omega) _)
  · exact (by first | exact XStab.true | exact XStab.rd)
  · first | exact fun _ _ h => h.2 | exact fun h => absurd h (by decide)
  try simp only [upd, upd_same, eq_self, if_true, if_false, reduceIte, Nat.add_eq_left, Nat.left_eq_add, Nat.reduceEqDiff, List.set_cons_zero, List.set_cons_succ, hF]
  clear hK K hF hO
  try simp only [Act.put, List.setIfInBounds_toArray, List.set_cons_zero, List.set_cons_succ]
  refine Sim.one' (i := 12) (oi := { dst := none, op := Op.store 25 (Operand.tmp 6) (Operand.tmp 26), type := 0, pos := "l2_intervals.go:33", after := #[{ on := 11, ground := Ground.data }, { on := 10, ground := Ground.data }, { on := 8, ground := Ground.chain }, { on := 0, ground := Ground.phase }, { on := 1, ground := Ground.phase }, { on := 2, ground := Ground.phase }, { on := 3, ground := Ground.phase }, { on := 4, ground := Ground.phase }, { on := 5, ground := Ground.phase }, { on := 6, ground := Ground.phase }, { on := 7, ground := Ground.phase }, { on := 8, ground := Ground.phase }, { on := 9, ground := Ground.phase }, { on := 10, ground := Ground.phase }, { on := 11, ground := Ground.phase }], guard := none }) (by kernel_rfl) rfl (by rfl) (fun w0 hO hX K hK => ?_)
  have hF := hO; (try simp only [Own, CellsAt, Nat.reduceAdd, Nat.zero_add, List.mem_cons, List.not_mem_nil, or_false, forall_eq_or_imp, forall_eq, ne_eq, false_imp_iff, implies_true, and_true] at hF)
  go_simp
  apply hK _ _ _ (fun _ => True)
  (repeat (first | exact hO | (with_reducible apply Own.alloc) | (with_reducible apply Own.drew) | ((with_reducible apply Own.set_at); (focus (show _ ≤ _; omega)))))
  · first | exact trivial | exact hX.below (below1 _) | exact hX.keep ((Below.refl _ _).setCell (by show _ ≤ _; omega) _)
  · exact (by first | exact XStab.true | exact XStab.rd)
  · first | exact fun _ _ h => h.2 | exact fun h => absurd h (by decide)
  try simp only [upd, upd_same, eq_self, if_true, if_false, reduceIte, Nat.add_eq_left, Nat.left_eq_add, Nat.reduceEqDiff, List.set_cons_zero, List.set_cons_succ, hF]
  clear hK K hF hO
  try simp only [Act.put, List.setIfInBounds_toArray, List.set_cons_zero, List.set_cons_succ]
  refine Sim.done (by kernel_rfl) (fun w1 hO hX => ?_) _
  (try simp only [World.size_alloc1, World.size_drew, Nat.reduceAdd] at hO); (try simp only [upd, upd_same, eq_self, if_true, if_false, reduceIte, Nat.add_eq_left, Nat.left_eq_add, Nat.reduceEqDiff, List.set_cons_zero, List.set_cons_succ] at hO)
  have hF := hO; (try simp only [Own, CellsAt, Nat.reduceAdd, Nat.zero_add, List.mem_cons, List.not_mem_nil, or_false, forall_eq_or_imp, forall_eq, ne_eq, false_imp_iff, implies_true, and_true] at hF)
  cases b
  · go_wp2_with (go_at_call 48; apply own_at hO; (repeat (first | exact hO | (with_reducible apply Own.alloc) | (with_reducible apply Own.drew) | ((with_reducible apply Own.set_at); (focus (show _ ≤ _; omega))))); have hG := hF; clear hF; clear hO; intro hO; refine own_call hO (fun hB => ifV_no _ _ _ (ht.below hB) r3 r4 v3) ?_; clear hO; intro w1 hO; (try simp only [World.size_alloc1, World.size_drew, Nat.reduceAdd] at hO); (try simp only [upd, upd_same, eq_self, if_true, if_false, reduceIte, Nat.add_eq_left, Nat.left_eq_add, Nat.reduceEqDiff, List.set_cons_zero, List.set_cons_succ, hG] at hO); clear hG; have hF := hO; (try simp only [Own, CellsAt, Nat.reduceAdd, Nat.zero_add, List.mem_cons, List.not_mem_nil, or_false, forall_eq_or_imp, forall_eq, ne_eq, false_imp_iff, implies_true, and_true] at hF))
    apply own_end hO
    (repeat (first | exact hO | (with_reducible apply Own.alloc) | (with_reducible apply Own.drew) | ((with_reducible apply Own.set_at); (focus (show _ ≤ _; omega)))))
    have hG := hF; clear hF; clear hO; intro hO
    refine own_ret (v := .tuple #[.agg #[.int .i64 0, .int .i64 0], .bool false]) hO ?_ rfl (fun hO => ⟨rfl, hO.base⟩)
    clear hO; intro w1 hO
    (try simp only [World.size_alloc1, World.size_drew, Nat.reduceAdd] at hO); (try simp only [upd, upd_same, eq_self, if_true, if_false, reduceIte, Nat.add_eq_left, Nat.left_eq_add, Nat.reduceEqDiff, List.set_cons_zero, List.set_cons_succ, hG] at hO); clear hG
    have hF := hO; (try simp only [Own, CellsAt, Nat.reduceAdd, Nat.zero_add, List.mem_cons, List.not_mem_nil, or_false, forall_eq_or_imp, forall_eq, ne_eq, false_imp_iff, implies_true, and_true] at hF)
    simp [results, Tryd.results20, go_sem, hF]
  · go_wp2_with (go_at_call 48; apply own_at hO; (repeat (first | exact hO | (with_reducible apply Own.alloc) | (with_reducible apply Own.drew) | ((with_reducible apply Own.set_at); (focus (show _ ≤ _; omega))))); have hG := hF; clear hF; clear hO; intro hO; refine own_call hO (fun hB => ifV_yes _ _ _ (ht.below hB) r3 r4 v3) ?_; clear hO; intro w1 hO; (try simp only [World.size_alloc1, World.size_drew, Nat.reduceAdd] at hO); (try simp only [upd, upd_same, eq_self, if_true, if_false, reduceIte, Nat.add_eq_left, Nat.left_eq_add, Nat.reduceEqDiff, List.set_cons_zero, List.set_cons_succ, hG] at hO); clear hG; have hF := hO; (try simp only [Own, CellsAt, Nat.reduceAdd, Nat.zero_add, List.mem_cons, List.not_mem_nil, or_false, forall_eq_or_imp, forall_eq, ne_eq, false_imp_iff, implies_true, and_true] at hF))
    apply own_end hO
    (repeat (first | exact hO | (with_reducible apply Own.alloc) | (with_reducible apply Own.drew) | ((with_reducible apply Own.set_at); (focus (show _ ≤ _; omega)))))
    have hG := hF; clear hF; clear hO; intro hO
    refine own_ret (v := .tuple #[.agg #[.int .i64 (dpZ s o s' o'), .int .i64 (keyZ s' a' o' - keyZ s a o)], .bool true]) hO ?_ rfl (fun hO => ⟨rfl, hO.base⟩)
    clear hO; intro w1 hO
    (try simp only [World.size_alloc1, World.size_drew, Nat.reduceAdd] at hO); (try simp only [upd, upd_same, eq_self, if_true, if_false, reduceIte, Nat.add_eq_left, Nat.left_eq_add, Nat.reduceEqDiff, List.set_cons_zero, List.set_cons_succ, hG] at hO); clear hG
    have hF := hO; (try simp only [Own, CellsAt, Nat.reduceAdd, Nat.zero_add, List.mem_cons, List.not_mem_nil, or_false, forall_eq_or_imp, forall_eq, ne_eq, false_imp_iff, implies_true, and_true] at hF)
    simp [results, Tryd.results20, go_sem, hF]

set_option maxHeartbeats 1000000 in
theorem ofI_no12 (s a o s' a' o' : Int) (w : World) (hv : pvB s a o = false ∨ (pvB s a o = true ∧ pvB s' a' o' = false)) :
    Calls Tryd.prog 20 #[.agg #[.int .i64 s, .int .i64 a, .int .i64 o], .agg #[.int .i64 s', .int .i64 a', .int .i64 o']] w fun e w' => e = .returned (.tuple #[.agg #[.int .i64 0, .int .i64 0], .bool false]) ∧ Below w.heap.size w w' := by
  have hO := Own.start w
  have hF := True.intro
  rcases hv with v1 | ⟨v1, v2⟩
  all_goals
    go_enter Tryd.func20, Tryd.ntmps20
    go_wp2_with (go_at_call 45; apply own_at hO; (repeat (first | exact hO | (with_reducible apply Own.alloc) | (with_reducible apply Own.drew) | ((with_reducible apply Own.set_at); (focus (show _ ≤ _; omega))))); have hG := hF; clear hF; clear hO; intro hO; refine own_call hO (fun hB => pvI_any _ _ _ _) ?_; clear hO; intro w1 hO; (try simp only [World.size_alloc1, World.size_drew, Nat.reduceAdd] at hO); (try simp only [upd, upd_same, eq_self, if_true, if_false, reduceIte, Nat.add_eq_left, Nat.left_eq_add, Nat.reduceEqDiff, List.set_cons_zero, List.set_cons_succ, hG] at hO); clear hG; have hF := hO; (try simp only [Own, CellsAt, Nat.reduceAdd, Nat.zero_add, List.mem_cons, List.not_mem_nil, or_false, forall_eq_or_imp, forall_eq, ne_eq, false_imp_iff, implies_true, and_true] at hF))
    apply own_end hO
    (repeat (first | exact hO | (with_reducible apply Own.alloc) | (with_reducible apply Own.drew) | ((with_reducible apply Own.set_at); (focus (show _ ≤ _; omega)))))
    have hG := hF; clear hF; clear hO; intro hO
    refine own_ret (v := .tuple #[.agg #[.int .i64 0, .int .i64 0], .bool false]) hO ?_ rfl (fun hO => ⟨rfl, hO.base⟩)
    clear hO; intro w1 hO
    (try simp only [World.size_alloc1, World.size_drew, Nat.reduceAdd] at hO); (try simp only [upd, upd_same, eq_self, if_true, if_false, reduceIte, Nat.add_eq_left, Nat.left_eq_add, Nat.reduceEqDiff, List.set_cons_zero, List.set_cons_succ, hG] at hO); clear hG
    have hF := hO; (try simp only [Own, CellsAt, Nat.reduceAdd, Nat.zero_add, List.mem_cons, List.not_mem_nil, or_false, forall_eq_or_imp, forall_eq, ne_eq, false_imp_iff, implies_true, and_true] at hF)
    simp [results, Tryd.results20, go_sem, hF]

theorem ofI_yes (s a o s' a' o' : Int) (w : World) (ht : TabH w) (hv : ofB s a o s' a' o' = true) :
    Calls Tryd.prog 20 #[.agg #[.int .i64 s, .int .i64 a, .int .i64 o], .agg #[.int .i64 s', .int .i64 a', .int .i64 o']] w fun e w' => e = .returned (.tuple #[.agg #[.int .i64 (dpZ s o s' o'), .int .i64 (keyZ s' a' o' - keyZ s a o)], .bool true]) ∧ Below w.heap.size w w' := by
  unfold ofB at hv
  simp only [Bool.and_eq_true] at hv
  exact ofI_b s a o s' a' o' w ht hv.1.1 hv.1.2 true hv.2

theorem ofI_no (s a o s' a' o' : Int) (w : World) (ht : TabH w) (hv : ofB s a o s' a' o' = false) :
    Calls Tryd.prog 20 #[.agg #[.int .i64 s, .int .i64 a, .int .i64 o], .agg #[.int .i64 s', .int .i64 a', .int .i64 o']] w fun e w' => e = .returned (.tuple #[.agg #[.int .i64 0, .int .i64 0], .bool false]) ∧ Below w.heap.size w w' := by
  cases v1 : pvB s a o
  · exact ofI_no12 s a o s' a' o' w (Or.inl v1)
  cases v2 : pvB s' a' o'
  · exact ofI_no12 s a o s' a' o' w (Or.inr ⟨v1, v2⟩)
  exact ofI_b s a o s' a' o' w ht v1 v2 false (by simpa [ofB, v1, v2] using hv)
end Go.Proofs.YtjfkbhfdcdjeaaaDoor
