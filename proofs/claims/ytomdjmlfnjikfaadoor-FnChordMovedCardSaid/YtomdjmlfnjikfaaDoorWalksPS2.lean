/- The laws' samePitches: equal slices are found equal; elements of a row that is owned. -/
import Derived.Test.YtomdjmlfnjikfaaDoorWalksPS
import Derived.Test.YtomdjmlfnjikfaaDoorOwnMake
namespace Go.Proofs.YtomdjmlfnjikfaaDoor
set_option linter.unusedSimpArgs false
set_option linter.unusedVariables false
open Go.RowKit

set_option maxHeartbeats 4000000 in
theorem samePS_same (va vb : Value) (k : Nat) (xs : List Value) (w : World) (ha : SlAt w va k 3 xs) (hb : SlAt w vb k 3 xs) (hi : AllInt xs) :
    Calls Tryd.prog 15 #[va, vb] w fun e w' => e = .returned (.bool true) ∧ Below w.heap.size w w' := by
  have hO := Own.start w
  have hF := True.intro
  by_cases hk : k = 0
  · subst hk
    obtain ⟨A, c, rfl⟩ := ha.form
    obtain ⟨A', c', rfl⟩ := hb.form
    clear ha hb hi
    go_enter Tryd.func15, Tryd.ntmps15
    go_wp2
    go_loop [5] (fun t => t = .int .i64 0) (fun _ => 0)
    case atStart => rfl
    case round =>
      obtain rfl := hrel
      go_wp2
      go_ret
      exact ⟨rfl, Below.refl _ _⟩
  · have hl := ha.1
    obtain ⟨b1, o1, c1, rfl, k1, m1, l1, x1⟩ := ha.some (by omega)
    obtain ⟨b2, o2, c2, rfl, k2, m2, l2, x2⟩ := hb.some (by omega)
    have X1 := hid x1
    have X2 := hid x2
    have HI := hid hi
    have HL := hid hl
    unfold maxLen at m1 m2
    clear ha hb x1 x2 hi hl hk
    go_enter Tryd.func15, Tryd.ntmps15
    go_wp2
    go_loopw [5] (fun t wr => ∃ j : Nat, j ≤ k ∧ t = .int .i64 j ∧ Own w.heap.size (Below w.heap.size w) wr []) (fun t _ => k - (intOf t).toNat)
    case atStart => exact ⟨0, by omega, rfl, hO⟩
    case round =>
      clear hO
      obtain ⟨j, hj, rfl, hO⟩ := hrel
      by_cases he : j = k
      · subst he
        go_wp2
        go_ret
        exact ⟨rfl, hO.base⟩
      · have hlt : j < k := by omega
        have hl := HL.out
        obtain ⟨z0, e0⟩ := HI.out.at (j := j * 3) (by omega)
        obtain ⟨z1, e1⟩ := HI.out.at (j := j * 3 + 1) (by omega)
        obtain ⟨z2, e2⟩ := HI.out.at (j := j * 3 + 2) (by omega)
        have p0 : w.cell? ⟨b1, o1 + j * 3, none⟩ = some (.int .i64 z0) := X1.out _ _ e0
        have p1 : w.cell? ⟨b1, o1 + j * 3 + 1, none⟩ = some (.int .i64 z1) := X1.out _ _ e1
        have p2 : w.cell? ⟨b1, o1 + j * 3 + 2, none⟩ = some (.int .i64 z2) := X1.out _ _ e2
        have r0 : w.cell? ⟨b2, o2 + j * 3, none⟩ = some (.int .i64 z0) := X2.out _ _ e0
        have r1 : w.cell? ⟨b2, o2 + j * 3 + 1, none⟩ = some (.int .i64 z1) := X2.out _ _ e1
        have r2 : w.cell? ⟨b2, o2 + j * 3 + 2, none⟩ = some (.int .i64 z2) := X2.out _ _ e2
        clear he hl e0 e1 e2
        go_wp2
        apply own_code hO
        (repeat (first | (with_reducible exact hO) | (with_reducible apply Own.alloc) | (with_reducible apply Own.drew) | ((with_reducible apply Own.set_at); (focus (show _ ≤ _; omega)))))
        have hG := hF; clear hF; clear hO; intro hO
        (try simp only [World.size_alloc1, World.size_drew, Nat.reduceAdd] at hO); (try simp only [upd, updI, List.map_cons, List.map_nil, eq_self, if_true, if_false, reduceIte, Nat.add_eq_left, Nat.left_eq_add, Nat.reduceEqDiff, List.set_cons_zero, List.set_cons_succ, hG] at hO); clear hG
        refine region_own (X := fun _ => True) [] (by kernel_rfl) (hO) (trivial) (by first | exact XStab.true | exact XStab.rd | exact XStab.rdIf) ?_
        clear hO
        refine Sim.takeP (i := 0) (d := some 17) (v := ?_) rfl rfl (by kernel_rfl) (by kernel_rfl) (by kernel_rfl) (fun _ _ _ h => h) (by first | exact XStab.true | exact XStab.rd | exact XStab.rdIf) ?_ ?_
        rotate_left
        · first | refine Or.inl ⟨by rfl, fun w => ?_⟩ | (refine Or.inr ⟨by rfl, ?_⟩; with_reducible rfl)
          first | done | (go_simp; all_goals with_reducible rfl)
        try simp only [Act.put, List.setIfInBounds_toArray, List.set_cons_zero, List.set_cons_succ]
        refine Sim.takeP (i := 1) (d := some 18) (v := ?_) rfl rfl (by kernel_rfl) (by kernel_rfl) (by kernel_rfl) (fun _ _ _ h => h) (by first | exact XStab.true | exact XStab.rd | exact XStab.rdIf) ?_ ?_
        rotate_left
        · first | refine Or.inl ⟨by rfl, fun w => ?_⟩ | (refine Or.inr ⟨by rfl, ?_⟩; with_reducible rfl)
          first | done | (go_simp; all_goals with_reducible rfl)
        try simp only [Act.put, List.setIfInBounds_toArray, List.set_cons_zero, List.set_cons_succ]
        refine Sim.takeP (i := 2) (d := some 19) (v := ?_) rfl rfl (by kernel_rfl) (by kernel_rfl) (by kernel_rfl) (fun _ _ _ h => h) (by first | exact XStab.true | exact XStab.rd | exact XStab.rdIf) ?_ ?_
        rotate_left
        · first | refine Or.inl ⟨by rfl, fun w => ?_⟩ | (refine Or.inr ⟨by rfl, ?_⟩; with_reducible rfl)
          first | done | (go_simp; all_goals with_reducible rfl)
        try simp only [Act.put, List.setIfInBounds_toArray, List.set_cons_zero, List.set_cons_succ]
        refine Sim.take (i := 3) (d := some 20) (v := ?_) rfl rfl (by kernel_rfl) (by kernel_rfl) (by kernel_rfl) (by kernel_rfl) (fun _ _ _ h => h) (by first | exact XStab.true | exact XStab.rd | exact XStab.rdIf) ?_ ?_
        rotate_left
        · first | refine Or.inl ⟨by rfl, fun w hO => ?_⟩ | (refine Or.inr ⟨by rfl, ?_⟩; with_reducible rfl)
          first | done | (have hF := hO; (try simp only [Own, Item.Holds, apartI, CellsAt, Nat.reduceAdd, Nat.zero_add, List.mem_cons, List.not_mem_nil, or_false, forall_eq_or_imp, forall_eq, ne_eq, false_imp_iff, implies_true, and_true] at hF); ((have d0 := (hO.base.cell (p := ⟨b1, o1 + j * 3, none⟩) l1).trans p0; have d1 := (hO.base.cell (p := ⟨b1, o1 + j * 3 + 1, none⟩) l1).trans p1; have d2 := (hO.base.cell (p := ⟨b1, o1 + j * 3 + 2, none⟩) l1).trans p2; have g0 := (hO.base.cell (p := ⟨b2, o2 + j * 3, none⟩) l2).trans r0; have g1 := (hO.base.cell (p := ⟨b2, o2 + j * 3 + 1, none⟩) l2).trans r1; have g2 := (hO.base.cell (p := ⟨b2, o2 + j * 3 + 2, none⟩) l2).trans r2)); refine Out.same ?_; go_simp; all_goals with_reducible rfl)
        try simp only [Act.put, List.setIfInBounds_toArray, List.set_cons_zero, List.set_cons_succ]
        refine Sim.takeP (i := 4) (d := some 21) (v := ?_) rfl rfl (by kernel_rfl) (by kernel_rfl) (by kernel_rfl) (fun _ _ _ h => h) (by first | exact XStab.true | exact XStab.rd | exact XStab.rdIf) ?_ ?_
        rotate_left
        · first | refine Or.inl ⟨by rfl, fun w => ?_⟩ | (refine Or.inr ⟨by rfl, ?_⟩; with_reducible rfl)
          first | done | (go_simp; all_goals with_reducible rfl)
        try simp only [Act.put, List.setIfInBounds_toArray, List.set_cons_zero, List.set_cons_succ]
        refine Sim.takeP (i := 5) (d := some 22) (v := ?_) rfl rfl (by kernel_rfl) (by kernel_rfl) (by kernel_rfl) (fun _ _ _ h => h) (by first | exact XStab.true | exact XStab.rd | exact XStab.rdIf) ?_ ?_
        rotate_left
        · first | refine Or.inl ⟨by rfl, fun w => ?_⟩ | (refine Or.inr ⟨by rfl, ?_⟩; with_reducible rfl)
          first | done | (go_simp; all_goals with_reducible rfl)
        try simp only [Act.put, List.setIfInBounds_toArray, List.set_cons_zero, List.set_cons_succ]
        refine Sim.takeP (i := 6) (d := some 23) (v := ?_) rfl rfl (by kernel_rfl) (by kernel_rfl) (by kernel_rfl) (fun _ _ _ h => h) (by first | exact XStab.true | exact XStab.rd | exact XStab.rdIf) ?_ ?_
        rotate_left
        · first | refine Or.inl ⟨by rfl, fun w => ?_⟩ | (refine Or.inr ⟨by rfl, ?_⟩; with_reducible rfl)
          first | done | (go_simp; all_goals with_reducible rfl)
        try simp only [Act.put, List.setIfInBounds_toArray, List.set_cons_zero, List.set_cons_succ]
        refine Sim.take (i := 7) (d := some 24) (v := ?_) rfl rfl (by kernel_rfl) (by kernel_rfl) (by kernel_rfl) (by kernel_rfl) (fun _ _ _ h => h) (by first | exact XStab.true | exact XStab.rd | exact XStab.rdIf) ?_ ?_
        rotate_left
        · first | refine Or.inl ⟨by rfl, fun w hO => ?_⟩ | (refine Or.inr ⟨by rfl, ?_⟩; with_reducible rfl)
          first | done | (have hF := hO; (try simp only [Own, Item.Holds, apartI, CellsAt, Nat.reduceAdd, Nat.zero_add, List.mem_cons, List.not_mem_nil, or_false, forall_eq_or_imp, forall_eq, ne_eq, false_imp_iff, implies_true, and_true] at hF); ((have d0 := (hO.base.cell (p := ⟨b1, o1 + j * 3, none⟩) l1).trans p0; have d1 := (hO.base.cell (p := ⟨b1, o1 + j * 3 + 1, none⟩) l1).trans p1; have d2 := (hO.base.cell (p := ⟨b1, o1 + j * 3 + 2, none⟩) l1).trans p2; have g0 := (hO.base.cell (p := ⟨b2, o2 + j * 3, none⟩) l2).trans r0; have g1 := (hO.base.cell (p := ⟨b2, o2 + j * 3 + 1, none⟩) l2).trans r1; have g2 := (hO.base.cell (p := ⟨b2, o2 + j * 3 + 2, none⟩) l2).trans r2)); refine Out.same ?_; go_simp; all_goals with_reducible rfl)
        try simp only [Act.put, List.setIfInBounds_toArray, List.set_cons_zero, List.set_cons_succ]
        refine Sim.takeP (i := 8) (d := some 25) (v := ?_) rfl rfl (by kernel_rfl) (by kernel_rfl) (by kernel_rfl) (fun _ _ _ h => h) (by first | exact XStab.true | exact XStab.rd | exact XStab.rdIf) ?_ ?_
        rotate_left
        · first | refine Or.inl ⟨by rfl, fun w => ?_⟩ | (refine Or.inr ⟨by rfl, ?_⟩; with_reducible rfl)
          first | done | (go_simp; all_goals with_reducible rfl)
        try simp only [Act.put, List.setIfInBounds_toArray, List.set_cons_zero, List.set_cons_succ]
        refine Sim.done (by kernel_rfl) (fun w1 hO hX => ?_) _
        (try simp only [World.size_alloc1, World.size_drew, Nat.reduceAdd] at hO); (try simp only [upd, updI, List.map_cons, List.map_nil, eq_self, if_true, if_false, reduceIte, Nat.add_eq_left, Nat.left_eq_add, Nat.reduceEqDiff, List.set_cons_zero, List.set_cons_succ] at hO)
        have hF := hO; (try simp only [Own, Item.Holds, apartI, CellsAt, Nat.reduceAdd, Nat.zero_add, List.mem_cons, List.not_mem_nil, or_false, forall_eq_or_imp, forall_eq, ne_eq, false_imp_iff, implies_true, and_true] at hF)
        go_wp2
        go_roundw
        case rel => exact ⟨j + 1, by omega, by go_num, hO⟩
        case measure => simp [intOf]; omega
end Go.Proofs.YtomdjmlfnjikfaaDoor
