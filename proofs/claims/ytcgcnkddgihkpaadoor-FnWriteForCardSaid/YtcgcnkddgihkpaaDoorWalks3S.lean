/- Chapter 3 in the model. -/
import Derived.Test.YtcgcnkddgihkpaaDoorWalks1
import Derived.Test.YtcgcnkddgihkpaaDoorPure1
import Derived.Test.YtcgcnkddgihkpaaDoorOwn
import Derived.Test.YtcgcnkddgihkpaaDoorRegionD
namespace Go.Proofs.YtcgcnkddgihkpaaDoor
set_option linter.unusedSimpArgs false
set_option linter.unusedVariables false
set_option maxRecDepth 8000
open Go.RowKit

theorem ord_cell {w : World} {s : Int} {t : TypeId} (h0 : 0 ≤ s) (h6 : s ≤ 6) : (w.alloc (.cells #[.int .i64 1, .int .i64 3, .int .i64 5, .int .i64 0, .int .i64 2, .int .i64 4, .int .i64 6] t)).cell? ⟨w.heap.size, s.toNat, none⟩ = some (.int .i64 (ordZ s)) := by
  rcases step7 h0 h6 with rfl | rfl | rfl | rfl | rfl | rfl | rfl <;> simp [ordZ]

set_option maxHeartbeats 1000000 in
theorem altS_any (f s : Int) (w : World) (h0 : 0 ≤ s) (h6 : s ≤ 6) :
    Calls Tryd.prog 85 #[.int .i64 f, .int .i64 s] w fun e w' => e = .returned (.int .i64 (altZ f s)) ∧ Below w.heap.size w w' := by
  have hc := fun t => ord_cell (w := w) (t := t) h0 h6
  have hb := ordZ_bd s
  have e1 : IntKind.i64.wrap (ordZ s - 6) = ordZ s - 6 := IntWalk.i64_in _ (by omega)
  have s1 : s < 7 := by omega
  by_cases h1 : ordZ s < f
  · have HE := hid (show altZ f s = 1 by rw [altZ, if_pos h1])
    go_enter Tryd.func85, Tryd.ntmps85
    go_wp2
    go_ret
    exact ⟨ret_int HE.out.symm, below1 _⟩
  by_cases h2 : f < ordZ s - 6
  · have HE := hid (show altZ f s = -1 by rw [altZ, if_neg h1, if_pos h2])
    go_enter Tryd.func85, Tryd.ntmps85
    go_wp2
    go_ret
    exact ⟨ret_int HE.out.symm, below1 _⟩
  · have HE := hid (show altZ f s = 0 by rw [altZ, if_neg h1, if_neg h2])
    go_enter Tryd.func85, Tryd.ntmps85
    go_wp2
    go_ret
    exact ⟨ret_int HE.out.symm, below1 _⟩

set_option maxHeartbeats 1000000 in
theorem tonS_any (f : Int) (m : Bool) (w : World) (h0 : -7 ≤ f) (h1 : f ≤ 7) :
    Calls Tryd.prog 84 #[.int .i64 f, .bool m] w fun e w' => e = .returned (.int .i64 (tonZ f m)) ∧ w = w' := by
  have q0 : 0 ≤ 4 * f + 70 := by omega
  cases m
  · have HE := hid (show tonZ f false = (4 * f + 70) % 7 by simp [tonZ])
    go_enter Tryd.func84, Tryd.ntmps84
    go_wp2
    go_ret
    exact ⟨ret_int HE.out.symm, rfl⟩
  · have HE := hid (show tonZ f true = ((4 * f + 70) % 7 + 5) % 7 by simp [tonZ])
    have q1 : 0 ≤ (4 * f + 70) % 7 := by omega
    have q2 : (4 * f + 70) % 7 ≤ 6 := by omega
    go_enter Tryd.func84, Tryd.ntmps84
    go_wp2
    go_ret
    exact ⟨ret_int HE.out.symm, rfl⟩

/- Chapter 3 in the model: pitches in keys, degrees, the key of a tonic. -/
open Go.RowKit

theorem inBel {P : Program} {f : FuncId} {args : Array Value} {w : World} {v : Value} (h : Calls P f args w fun e w' => e = .returned v ∧ w = w') : Calls P f args w fun e w' => e = .returned v ∧ Below w.heap.size w w' :=
  h.mono fun _ _ ⟨he, hw⟩ => ⟨he, hw ▸ Below.refl _ _⟩

theorem in_is {n lo hi : Int} {b : Bool} (w : World) (h : inB n lo hi = b) : Calls Tryd.prog 55 #[.int .i64 n, .int .i64 lo, .int .i64 hi] w fun e w' => e = .returned (.bool b) ∧ Below w.heap.size w w' := by subst h; exact inBel (in_any _ _ _ _)

theorem pvS_is {s a o : Int} {b : Bool} (w : World) (h : pvB s a o = b) : Calls Tryd.prog 87 #[.agg #[.int .i64 s, .int .i64 a, .int .i64 o]] w fun e w' => e = .returned (.bool b) ∧ Below w.heap.size w w' := by subst h; exact pvS_any _ _ _ _

set_option maxHeartbeats 1000000 in
theorem dgS_no (f s a o : Int) (m : Bool) (w : World) (h : (keyB f && pvB s a o) = false) :
    Calls Tryd.prog 57 #[.int .i64 f, .bool m, .agg #[.int .i64 s, .int .i64 a, .int .i64 o]] w fun e w' => e = .returned (.tuple #[.int .i64 (-1), .int .i64 0]) ∧ Below w.heap.size w w' := by
  have hO := Own.start w
  have hF := True.intro
  cases h1 : inB f (-7) 7
  · clear h
    go_enter Tryd.func57, Tryd.ntmps57
    go_wp2_with (go_at_call 55; refine (in_any _ _ _ _).mono ?_; rintro e w1 ⟨rfl, rfl⟩)
    go_ret2
    exact ⟨rfl, Own.base (by (repeat (first | (with_reducible exact hO) | (with_reducible apply Own.alloc) | (with_reducible apply Own.drew) | ((with_reducible apply Own.set_at); (focus (show _ ≤ _; omega))))))⟩
  · have h2 : pvB s a o = false := by simpa [keyB, h1] using h
    clear h
    go_enter Tryd.func57, Tryd.ntmps57
    go_wp2_with (first | (go_at_call 55; refine (in_any _ _ _ _).mono ?_; rintro e w1 ⟨rfl, rfl⟩) | (go_at_call 87; apply own_at hO; (repeat (first | (with_reducible exact hO) | (with_reducible apply Own.alloc) | (with_reducible apply Own.drew) | ((with_reducible apply Own.set_at); (focus (show _ ≤ _; omega))))); have hG := hF; clear hF; clear hO; intro hO; refine own_call hO (fun hB => pvS_any _ _ _ _) ?_; clear hO; intro w1 hO; (try simp only [World.size_alloc1, World.size_drew, Nat.reduceAdd] at hO); (try simp only [upd, updI, List.map_cons, List.map_nil, eq_self, if_true, if_false, reduceIte, Nat.add_eq_left, Nat.left_eq_add, Nat.reduceEqDiff, List.set_cons_zero, List.set_cons_succ, hG] at hO); clear hG; have hF := hO; (try simp only [Own, Item.Holds, apartI, CellsAt, Nat.reduceAdd, Nat.zero_add, List.mem_cons, List.not_mem_nil, or_false, forall_eq_or_imp, forall_eq, ne_eq, false_imp_iff, implies_true, and_true] at hF)))
    go_ret2
    exact ⟨rfl, Own.base (by (repeat (first | (with_reducible exact hO) | (with_reducible apply Own.alloc) | (with_reducible apply Own.drew) | ((with_reducible apply Own.set_at); (focus (show _ ≤ _; omega))))))⟩

theorem tonSB_any (f : Int) (m : Bool) (w : World) (h0 : -7 ≤ f) (h1 : f ≤ 7) :
    Calls Tryd.prog 84 #[.int .i64 f, .bool m] w fun e w' => e = .returned (.int .i64 (tonZ f m)) ∧ Below w.heap.size w w' := inBel (tonS_any f m w h0 h1)

set_option maxHeartbeats 1000000 in
theorem dgS_yes (f s a o : Int) (m : Bool) (w : World) (h : (keyB f && pvB s a o) = true) :
    Calls Tryd.prog 57 #[.int .i64 f, .bool m, .agg #[.int .i64 s, .int .i64 a, .int .i64 o]] w fun e w' => e = .returned (.tuple #[.int .i64 (dgZ f m s), .int .i64 (a - altZ f s)]) ∧ Below w.heap.size w w' := by
  have hO := Own.start w
  have hF := True.intro
  rw [Bool.and_eq_true] at h
  obtain ⟨h1, h2⟩ := h
  obtain ⟨f0, f1⟩ := keyB_iff.1 h1
  obtain ⟨⟨i1, i2⟩, ⟨i3, i4⟩, _⟩ := pvB_iff.1 h2
  have h1' : inB f (-7) 7 = true := h1
  have tb := tonZ_bd f m
  have ab := altZ_bd f s
  have d1 : IntKind.i64.wrap (s - tonZ f m) = s - tonZ f m := IntWalk.i64_in _ (by omega)
  have d2 : IntKind.i64.wrap (s - tonZ f m + 7) = s - tonZ f m + 7 := IntWalk.i64_in _ (by omega)
  have d3 : (s - tonZ f m + 7).tmod 7 = (s - tonZ f m + 7) % 7 := Int.tmod_eq_emod_of_nonneg (by omega)
  have d4 : IntKind.i64.wrap ((s - tonZ f m + 7) % 7) = (s - tonZ f m + 7) % 7 := IntWalk.i64_in _ (by omega)
  have d5 : IntKind.i64.wrap (a - altZ f s) = a - altZ f s := IntWalk.i64_in _ (by omega)
  go_enter Tryd.func57, Tryd.ntmps57
  go_wp2_with (first | (go_at_call 55; refine (in_any _ _ _ _).mono ?_; rintro e w1 ⟨rfl, rfl⟩) | (go_at_call 87; apply own_at hO; (repeat (first | (with_reducible exact hO) | (with_reducible apply Own.alloc) | (with_reducible apply Own.drew) | ((with_reducible apply Own.set_at); (focus (show _ ≤ _; omega))))); have hG := hF; clear hF; clear hO; intro hO; refine own_call hO (fun hB => pvS_any _ _ _ _) ?_; clear hO; intro w1 hO; (try simp only [World.size_alloc1, World.size_drew, Nat.reduceAdd] at hO); (try simp only [upd, updI, List.map_cons, List.map_nil, eq_self, if_true, if_false, reduceIte, Nat.add_eq_left, Nat.left_eq_add, Nat.reduceEqDiff, List.set_cons_zero, List.set_cons_succ, hG] at hO); clear hG; have hF := hO; (try simp only [Own, Item.Holds, apartI, CellsAt, Nat.reduceAdd, Nat.zero_add, List.mem_cons, List.not_mem_nil, or_false, forall_eq_or_imp, forall_eq, ne_eq, false_imp_iff, implies_true, and_true] at hF)))
  apply own_code hO
  (repeat (first | (with_reducible exact hO) | (with_reducible apply Own.alloc) | (with_reducible apply Own.drew) | ((with_reducible apply Own.set_at); (focus (show _ ≤ _; omega)))))
  have hG := hF; clear hF; clear hO; intro hO
  (try simp only [World.size_alloc1, World.size_drew, Nat.reduceAdd] at hO); (try simp only [upd, updI, List.map_cons, List.map_nil, eq_self, if_true, if_false, reduceIte, Nat.add_eq_left, Nat.left_eq_add, Nat.reduceEqDiff, List.set_cons_zero, List.set_cons_succ, hG] at hO); clear hG
  refine region_own (X := fun _ => True) [] (by kernel_rfl) (hO) (trivial) (by first | exact XStab.true | exact XStab.rd | exact XStab.rdIf) ?_
  clear hO
  refine Sim.sP (i := 0) (d := some 16) (h := ?_)
  refine Sim.sO (i := 1) (d := some 17) (v := ?_) (hy := ?_) (h := ?_)
  rotate_left
  · first | refine Or.inl ⟨by rfl, fun w hO => ?_⟩ | (refine Or.inr ⟨by rfl, ?_⟩; with_reducible rfl)
    first | done | (have hF := hO; (try simp only [Own, Item.Holds, apartI, CellsAt, Nat.reduceAdd, Nat.zero_add, List.mem_cons, List.not_mem_nil, or_false, forall_eq_or_imp, forall_eq, ne_eq, false_imp_iff, implies_true, and_true] at hF); refine Out.same ?_; go_simp; all_goals with_reducible rfl)
  refine Sim.sP (i := 2) (d := some 18) (h := ?_)
  refine Sim.sP (i := 3) (d := some 19) (h := ?_)
  refine Sim.sO (i := 4) (d := some 20) (v := ?_) (hy := ?_) (h := ?_)
  rotate_left
  · first | refine Or.inl ⟨by rfl, fun w hO => ?_⟩ | (refine Or.inr ⟨by rfl, ?_⟩; with_reducible rfl)
    first | done | (refine Out.call (f := 84) (args := ?_) ?_ ?_; rotate_left; (focus (go_simp; all_goals with_reducible rfl)); exact tonSB_any _ _ _ f0 f1)
  refine Sim.sP (i := 5) (d := some 21) (h := ?_)
  refine Sim.sP (i := 6) (d := some 22) (h := ?_)
  refine Sim.sP (i := 7) (d := some 23) (h := ?_)
  refine Sim.sP (i := 8) (d := some 24) (h := ?_)
  refine Sim.sO (i := 9) (d := some 25) (v := ?_) (hy := ?_) (h := ?_)
  rotate_left
  · first | refine Or.inl ⟨by rfl, fun w hO => ?_⟩ | (refine Or.inr ⟨by rfl, ?_⟩; with_reducible rfl)
    first | done | (have hF := hO; (try simp only [Own, Item.Holds, apartI, CellsAt, Nat.reduceAdd, Nat.zero_add, List.mem_cons, List.not_mem_nil, or_false, forall_eq_or_imp, forall_eq, ne_eq, false_imp_iff, implies_true, and_true] at hF); refine Out.same ?_; go_simp; all_goals with_reducible rfl)
  refine Sim.sP (i := 10) (d := some 26) (h := ?_)
  refine Sim.sP (i := 11) (d := some 27) (h := ?_)
  refine Sim.sO (i := 12) (d := some 28) (v := ?_) (hy := ?_) (h := ?_)
  rotate_left
  · first | refine Or.inl ⟨by rfl, fun w hO => ?_⟩ | (refine Or.inr ⟨by rfl, ?_⟩; with_reducible rfl)
    first | done | (have hF := hO; (try simp only [Own, Item.Holds, apartI, CellsAt, Nat.reduceAdd, Nat.zero_add, List.mem_cons, List.not_mem_nil, or_false, forall_eq_or_imp, forall_eq, ne_eq, false_imp_iff, implies_true, and_true] at hF); refine Out.same ?_; go_simp; all_goals with_reducible rfl)
  refine Sim.sO (i := 13) (d := some 29) (v := ?_) (hy := ?_) (h := ?_)
  rotate_left
  · first | refine Or.inl ⟨by rfl, fun w hO => ?_⟩ | (refine Or.inr ⟨by rfl, ?_⟩; with_reducible rfl)
    first | done | (refine Out.call (f := 85) (args := ?_) ?_ ?_; rotate_left; (focus (go_simp; all_goals with_reducible rfl)); exact altS_any _ _ _ i1 i2)
  refine Sim.sP (i := 14) (d := some 30) (h := ?_)
  refine Sim.sP (i := 15) (d := some 6) (h := ?_)
  refine Sim.sP (i := 16) (d := some 7) (h := ?_)
  refine Sim.done (by kernel_rfl) (fun w1 hO hX => ?_) _
  (try simp only [World.size_alloc1, World.size_drew, Nat.reduceAdd] at hO); (try simp only [upd, updI, List.map_cons, List.map_nil, eq_self, if_true, if_false, reduceIte, Nat.add_eq_left, Nat.left_eq_add, Nat.reduceEqDiff, List.set_cons_zero, List.set_cons_succ] at hO)
  have hF := hO; (try simp only [Own, Item.Holds, apartI, CellsAt, Nat.reduceAdd, Nat.zero_add, List.mem_cons, List.not_mem_nil, or_false, forall_eq_or_imp, forall_eq, ne_eq, false_imp_iff, implies_true, and_true] at hF)
  go_wp2
  go_ret2
  exact ⟨rfl, hO.base⟩

/-- What KeyOf answers at a valid pitch: the first key that has this tonic. -/
def koP (s a : Int) (m : Bool) (e : Ending) : Prop :=
  (∃ f, -7 ≤ f ∧ f ≤ 7 ∧ noTon m s a f ∧ isTon f m s a = true ∧ e = .returned (.tuple #[.int .i64 f, .bool true])) ∨ (noTon m s a 8 ∧ e = .returned (.tuple #[.int .i64 0, .bool false]))
theorem koP_some {m : Bool} {s a f : Int} (f0 : -7 ≤ f) (f1 : f ≤ 7) (hn : noTon m s a f) (ht : isTon f m s a = true) : koP s a m (.returned (.tuple #[.int .i64 f, .bool true])) := Or.inl ⟨f, f0, f1, hn, ht, rfl⟩
theorem koP_none {m : Bool} {s a : Int} (hn : noTon m s a 8) : koP s a m (.returned (.tuple #[.int .i64 0, .bool false])) := Or.inr ⟨hn, rfl⟩