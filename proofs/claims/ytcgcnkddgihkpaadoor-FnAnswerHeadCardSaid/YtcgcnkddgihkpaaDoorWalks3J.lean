/- Chapter 3: degrees and the keys of tonics, in the program; KeyOf by cases, in both. -/
import Derived.Test.YtcgcnkddgihkpaaDoorWalks3I
import Derived.Test.YtcgcnkddgihkpaaDoorRegionD
namespace Go.Proofs.YtcgcnkddgihkpaaDoor
set_option linter.unusedSimpArgs false
set_option linter.unusedVariables false
set_option maxRecDepth 8000
open Go.RowKit

set_option maxHeartbeats 1000000 in
theorem dgI_no (f s a o : Int) (m : Bool) (w : World) (h : (keyB f && pvB s a o) = false) :
    Calls Tryd.prog 24 #[.int .i64 f, .bool m, .agg #[.int .i64 s, .int .i64 a, .int .i64 o]] w fun e w' => e = .returned (.tuple #[.int .i64 (-1), .int .i64 0]) ∧ Below w.heap.size w w' := by
  have hO := Own.start w
  have hF := True.intro
  cases h1 : keyB f
  · clear h
    go_enter Tryd.func24, Tryd.ntmps24
    go_wp2_with (go_at_call 53; refine (kvI_any _ _).mono ?_; rintro e w1 ⟨rfl, rfl⟩)
    go_ret2
    exact ⟨rfl, Own.base (by (repeat (first | (with_reducible exact hO) | (with_reducible apply Own.alloc) | (with_reducible apply Own.drew) | ((with_reducible apply Own.set_at); (focus (show _ ≤ _; omega))))))⟩
  · have h2 : pvB s a o = false := by simpa [h1] using h
    clear h
    go_enter Tryd.func24, Tryd.ntmps24
    go_wp2_with (first | (go_at_call 53; refine (kvI_any _ _).mono ?_; rintro e w1 ⟨rfl, rfl⟩) | (go_at_call 59; apply own_at hO; (repeat (first | (with_reducible exact hO) | (with_reducible apply Own.alloc) | (with_reducible apply Own.drew) | ((with_reducible apply Own.set_at); (focus (show _ ≤ _; omega))))); have hG := hF; clear hF; clear hO; intro hO; refine own_call hO (fun hB => pvI_any _ _ _ _) ?_; clear hO; intro w1 hO; (try simp only [World.size_alloc1, World.size_drew, Nat.reduceAdd] at hO); (try simp only [upd, updI, List.map_cons, List.map_nil, eq_self, if_true, if_false, reduceIte, Nat.add_eq_left, Nat.left_eq_add, Nat.reduceEqDiff, List.set_cons_zero, List.set_cons_succ, hG] at hO); clear hG; have hF := hO; (try simp only [Own, Item.Holds, apartI, CellsAt, Nat.reduceAdd, Nat.zero_add, List.mem_cons, List.not_mem_nil, or_false, forall_eq_or_imp, forall_eq, ne_eq, false_imp_iff, implies_true, and_true] at hF)))
    go_ret2
    exact ⟨rfl, Own.base (by (repeat (first | (with_reducible exact hO) | (with_reducible apply Own.alloc) | (with_reducible apply Own.drew) | ((with_reducible apply Own.set_at); (focus (show _ ≤ _; omega))))))⟩

set_option maxHeartbeats 1000000 in
theorem dgI_yes (f s a o : Int) (m : Bool) (w : World) (hA : TabA w) (h : (keyB f && pvB s a o) = true) :
    Calls Tryd.prog 24 #[.int .i64 f, .bool m, .agg #[.int .i64 s, .int .i64 a, .int .i64 o]] w fun e w' => e = .returned (.tuple #[.int .i64 (dgZ f m s), .int .i64 (a - altZ f s)]) ∧ Below w.heap.size w w' := by
  have hO := Own.start w
  have hF := True.intro
  rw [Bool.and_eq_true] at h
  obtain ⟨h1, h2⟩ := h
  obtain ⟨f0, f1⟩ := keyB_iff.1 h1
  obtain ⟨⟨i1, i2⟩, ⟨i3, i4⟩, _⟩ := pvB_iff.1 h2
  have tb := tonZ_bd f m
  have ab := altZ_bd f s
  have d1 : IntKind.i64.wrap (s + 7) = s + 7 := IntWalk.i64_in _ (by omega)
  have d2 : IntKind.i64.wrap (s + 7 - tonZ f m) = s + 7 - tonZ f m := IntWalk.i64_in _ (by omega)
  have d3 : (s + 7 - tonZ f m).tmod 7 = dgZ f m s := by rw [Int.tmod_eq_emod_of_nonneg (by omega)]; unfold dgZ; omega
  have d4 : IntKind.i64.wrap (dgZ f m s) = dgZ f m s := IntWalk.i64_in _ (by unfold dgZ; omega)
  have d5 : IntKind.i64.wrap (a - altZ f s) = a - altZ f s := IntWalk.i64_in _ (by omega)
  go_enter Tryd.func24, Tryd.ntmps24
  go_wp2_with (first | (go_at_call 53; refine (kvI_any _ _).mono ?_; rintro e w1 ⟨rfl, rfl⟩) | (go_at_call 59; apply own_at hO; (repeat (first | (with_reducible exact hO) | (with_reducible apply Own.alloc) | (with_reducible apply Own.drew) | ((with_reducible apply Own.set_at); (focus (show _ ≤ _; omega))))); have hG := hF; clear hF; clear hO; intro hO; refine own_call hO (fun hB => pvI_any _ _ _ _) ?_; clear hO; intro w1 hO; (try simp only [World.size_alloc1, World.size_drew, Nat.reduceAdd] at hO); (try simp only [upd, updI, List.map_cons, List.map_nil, eq_self, if_true, if_false, reduceIte, Nat.add_eq_left, Nat.left_eq_add, Nat.reduceEqDiff, List.set_cons_zero, List.set_cons_succ, hG] at hO); clear hG; have hF := hO; (try simp only [Own, Item.Holds, apartI, CellsAt, Nat.reduceAdd, Nat.zero_add, List.mem_cons, List.not_mem_nil, or_false, forall_eq_or_imp, forall_eq, ne_eq, false_imp_iff, implies_true, and_true] at hF)))
  apply own_code hO
  (repeat (first | (with_reducible exact hO) | (with_reducible apply Own.alloc) | (with_reducible apply Own.drew) | ((with_reducible apply Own.set_at); (focus (show _ ≤ _; omega)))))
  have hG := hF; clear hF; clear hO; intro hO
  (try simp only [World.size_alloc1, World.size_drew, Nat.reduceAdd] at hO); (try simp only [upd, updI, List.map_cons, List.map_nil, eq_self, if_true, if_false, reduceIte, Nat.add_eq_left, Nat.left_eq_add, Nat.reduceEqDiff, List.set_cons_zero, List.set_cons_succ, hG] at hO); clear hG
  refine region_own (X := fun _ => True) [] (by kernel_rfl) (hO) (trivial) (by first | exact XStab.true | exact XStab.rd | exact XStab.rdIf) ?_
  clear hO
  refine Sim.sP (i := 0) (d := some 17) (h := ?_)
  refine Sim.sO (i := 1) (d := some 18) (v := ?_) (hy := ?_) (h := ?_)
  rotate_left
  · first | refine Or.inl ⟨by rfl, fun w hO => ?_⟩ | (refine Or.inr ⟨by rfl, ?_⟩; with_reducible rfl)
    first | done | (have hF := hO; (try simp only [Own, Item.Holds, apartI, CellsAt, Nat.reduceAdd, Nat.zero_add, List.mem_cons, List.not_mem_nil, or_false, forall_eq_or_imp, forall_eq, ne_eq, false_imp_iff, implies_true, and_true] at hF); refine Out.same ?_; go_simp; all_goals with_reducible rfl)
  refine Sim.sP (i := 2) (d := some 19) (h := ?_)
  refine Sim.sP (i := 3) (d := some 20) (h := ?_)
  refine Sim.sP (i := 4) (d := some 21) (h := ?_)
  refine Sim.sO (i := 5) (d := some 22) (v := ?_) (hy := ?_) (h := ?_)
  rotate_left
  · first | refine Or.inl ⟨by rfl, fun w hO => ?_⟩ | (refine Or.inr ⟨by rfl, ?_⟩; with_reducible rfl)
    first | done | (refine Out.call (f := 60) (args := ?_) ?_ ?_; rotate_left; (focus (go_simp; all_goals with_reducible rfl)); exact tonIB_any _ _ _ f0 f1)
  refine Sim.sP (i := 6) (d := some 23) (h := ?_)
  refine Sim.sP (i := 7) (d := some 8) (h := ?_)
  refine Sim.done (by kernel_rfl) (fun w1 hO hX => ?_) _
  (try simp only [World.size_alloc1, World.size_drew, Nat.reduceAdd] at hO); (try simp only [upd, updI, List.map_cons, List.map_nil, eq_self, if_true, if_false, reduceIte, Nat.add_eq_left, Nat.left_eq_add, Nat.reduceEqDiff, List.set_cons_zero, List.set_cons_succ] at hO)
  have hF := hO; (try simp only [Own, Item.Holds, apartI, CellsAt, Nat.reduceAdd, Nat.zero_add, List.mem_cons, List.not_mem_nil, or_false, forall_eq_or_imp, forall_eq, ne_eq, false_imp_iff, implies_true, and_true] at hF)
  go_wp2_with fail
  apply own_code hO
  (repeat (first | (with_reducible exact hO) | (with_reducible apply Own.alloc) | (with_reducible apply Own.drew) | ((with_reducible apply Own.set_at); (focus (show _ ≤ _; omega)))))
  have hG := hF; clear hF; clear hO; intro hO
  (try simp only [World.size_alloc1, World.size_drew, Nat.reduceAdd] at hO); (try simp only [upd, updI, List.map_cons, List.map_nil, eq_self, if_true, if_false, reduceIte, Nat.add_eq_left, Nat.left_eq_add, Nat.reduceEqDiff, List.set_cons_zero, List.set_cons_succ, hG] at hO); clear hG
  refine region_own (X := fun _ => True) [] (by kernel_rfl) (hO) (trivial) (by first | exact XStab.true | exact XStab.rd | exact XStab.rdIf) ?_
  clear hO
  refine Sim.sP (i := 0) (d := some 24) (h := ?_)
  refine Sim.sP (i := 1) (d := some 25) (h := ?_)
  refine Sim.sP (i := 2) (d := some 26) (h := ?_)
  refine Sim.sO (i := 3) (d := some 27) (v := ?_) (hy := ?_) (h := ?_)
  rotate_left
  · first | refine Or.inl ⟨by rfl, fun w hO => ?_⟩ | (refine Or.inr ⟨by rfl, ?_⟩; with_reducible rfl)
    first | done | (have hF := hO; (try simp only [Own, Item.Holds, apartI, CellsAt, Nat.reduceAdd, Nat.zero_add, List.mem_cons, List.not_mem_nil, or_false, forall_eq_or_imp, forall_eq, ne_eq, false_imp_iff, implies_true, and_true] at hF); refine Out.same ?_; go_simp; all_goals with_reducible rfl)
  refine Sim.sP (i := 4) (d := some 28) (h := ?_)
  refine Sim.sP (i := 5) (d := some 29) (h := ?_)
  refine Sim.sO (i := 6) (d := some 30) (v := ?_) (hy := ?_) (h := ?_)
  rotate_left
  · first | refine Or.inl ⟨by rfl, fun w hO => ?_⟩ | (refine Or.inr ⟨by rfl, ?_⟩; with_reducible rfl)
    first | done | (have hF := hO; (try simp only [Own, Item.Holds, apartI, CellsAt, Nat.reduceAdd, Nat.zero_add, List.mem_cons, List.not_mem_nil, or_false, forall_eq_or_imp, forall_eq, ne_eq, false_imp_iff, implies_true, and_true] at hF); refine Out.same ?_; go_simp; all_goals with_reducible rfl)
  refine Sim.sO (i := 7) (d := some 31) (v := ?_) (hy := ?_) (h := ?_)
  rotate_left
  · first | refine Or.inl ⟨by rfl, fun w hO => ?_⟩ | (refine Or.inr ⟨by rfl, ?_⟩; with_reducible rfl)
    first | done | (refine Out.call (f := 61) (args := ?_) ?_ ?_; rotate_left; (focus (go_simp; all_goals with_reducible rfl)); exact kaI_in _ _ _ (hA.below hO.base) h1 i1 i2)
  refine Sim.sP (i := 8) (d := some 32) (h := ?_)
  refine Sim.sP (i := 9) (d := some 6) (h := ?_)
  refine Sim.sP (i := 10) (d := some 7) (h := ?_)
  refine Sim.done (by kernel_rfl) (fun w1 hO hX => ?_) _
  (try simp only [World.size_alloc1, World.size_drew, Nat.reduceAdd] at hO); (try simp only [upd, updI, List.map_cons, List.map_nil, eq_self, if_true, if_false, reduceIte, Nat.add_eq_left, Nat.left_eq_add, Nat.reduceEqDiff, List.set_cons_zero, List.set_cons_succ] at hO)
  have hF := hO; (try simp only [Own, Item.Holds, apartI, CellsAt, Nat.reduceAdd, Nat.zero_add, List.mem_cons, List.not_mem_nil, or_false, forall_eq_or_imp, forall_eq, ne_eq, false_imp_iff, implies_true, and_true] at hF)
  go_wp2
  go_ret2
  exact ⟨rfl, hO.base⟩
end Go.Proofs.YtcgcnkddgihkpaaDoor
