/- Chapter 3 in the model. -/
import Derived.Test.YtllcokbnjlodbaaDoorWalks1
import Derived.Test.YtllcokbnjlodbaaDoorPure3
import Derived.Test.YtllcokbnjlodbaaDoorOwnRows
import Derived.Test.YtllcokbnjlodbaaDoorRegion
namespace Go.Proofs.YtllcokbnjlodbaaDoor
set_option linter.unusedSimpArgs false
set_option linter.unusedVariables false
open Go.RowKit

theorem ord_cell {w : World} {s : Int} {t : TypeId} (h0 : 0 ≤ s) (h6 : s ≤ 6) : (w.alloc (.cells #[.int .i64 1, .int .i64 3, .int .i64 5, .int .i64 0, .int .i64 2, .int .i64 4, .int .i64 6] t)).cell? ⟨w.heap.size, s.toNat, none⟩ = some (.int .i64 (ordZ s)) := by
  rcases step7 h0 h6 with rfl | rfl | rfl | rfl | rfl | rfl | rfl <;> simp [ordZ]

set_option maxHeartbeats 1000000 in
theorem altS_any (f s : Int) (w : World) (h0 : 0 ≤ s) (h6 : s ≤ 6) :
    Calls Tryd.prog 46 #[.int .i64 f, .int .i64 s] w fun e w' => e = .returned (.int .i64 (altZ f s)) ∧ Below w.heap.size w w' := by
  have hc := fun t => ord_cell (w := w) (t := t) h0 h6
  have hb := ordZ_bd s
  have e1 : IntKind.i64.wrap (ordZ s - 6) = ordZ s - 6 := IntWalk.i64_in _ (by omega)
  have s1 : s < 7 := by omega
  by_cases h1 : ordZ s < f
  · have HE := hid (show altZ f s = 1 by rw [altZ, if_pos h1])
    go_enter Tryd.func46, Tryd.ntmps46
    go_wp2
    go_ret
    exact ⟨ret_int HE.out.symm, below1 _⟩
  by_cases h2 : f < ordZ s - 6
  · have HE := hid (show altZ f s = -1 by rw [altZ, if_neg h1, if_pos h2])
    go_enter Tryd.func46, Tryd.ntmps46
    go_wp2
    go_ret
    exact ⟨ret_int HE.out.symm, below1 _⟩
  · have HE := hid (show altZ f s = 0 by rw [altZ, if_neg h1, if_neg h2])
    go_enter Tryd.func46, Tryd.ntmps46
    go_wp2
    go_ret
    exact ⟨ret_int HE.out.symm, below1 _⟩

set_option maxHeartbeats 1000000 in
theorem kaS_any (f s : Int) (w : World) :
    Calls Tryd.prog 15 #[.int .i64 f, .int .i64 s] w fun e w' => e = .returned (.int .i64 (kaZ f s)) ∧ Below w.heap.size w w' := by
  have hO := Own.start w
  have hF := True.intro
  cases h1 : keyB f
  · have HE := hid (show kaZ f s = 0 by simp [kaZ, h1])
    have h1' : inB f (-7) 7 = false := h1
    go_enter Tryd.func15, Tryd.ntmps15
    go_wp2_with (go_at_call 45; refine (in_any _ _ _ _).mono ?_; rintro e w1 ⟨rfl, rfl⟩)
    go_ret
    exact ⟨ret_int HE.out.symm, Below.refl _ _⟩
  have h1' : inB f (-7) 7 = true := h1
  cases h2 : inB s 0 6
  · have HE := hid (show kaZ f s = 0 by simp [kaZ, h2])
    go_enter Tryd.func15, Tryd.ntmps15
    go_wp2_with (go_at_call 45; refine (in_any _ _ _ _).mono ?_; rintro e w1 ⟨rfl, rfl⟩)
    go_ret
    exact ⟨ret_int HE.out.symm, Below.refl _ _⟩
  · have HE := hid (show kaZ f s = altZ f s by simp [kaZ, h1, h2])
    obtain ⟨s0, s6⟩ := inB_iff.1 h2
    go_enter Tryd.func15, Tryd.ntmps15
    go_wp2_with (first | (go_at_call 45; refine (in_any _ _ _ _).mono ?_; rintro e w1 ⟨rfl, rfl⟩) | (go_at_call 46; apply own_at hO; (repeat (first | (with_reducible exact hO) | (with_reducible apply Own.alloc) | (with_reducible apply Own.drew) | ((with_reducible apply Own.set_at); (focus (show _ ≤ _; omega))))); have hG := hF; clear hF; clear hO; intro hO; refine own_call hO (fun hB => altS_any _ _ _ s0 s6) ?_; clear hO; intro w1 hO; (try simp only [World.size_alloc1, World.size_drew, Nat.reduceAdd] at hO); (try simp only [upd, updI, List.map_cons, List.map_nil, eq_self, if_true, if_false, reduceIte, Nat.add_eq_left, Nat.left_eq_add, Nat.reduceEqDiff, List.set_cons_zero, List.set_cons_succ, hG] at hO); clear hG; have hF := hO; (try simp only [Own, Item.Holds, apartI, CellsAt, Nat.reduceAdd, Nat.zero_add, List.mem_cons, List.not_mem_nil, or_false, forall_eq_or_imp, forall_eq, ne_eq, false_imp_iff, implies_true, and_true] at hF)))
    go_ret
    exact ⟨ret_int HE.out.symm, Own.base (by (repeat (first | (with_reducible exact hO) | (with_reducible apply Own.alloc) | (with_reducible apply Own.drew) | ((with_reducible apply Own.set_at); (focus (show _ ≤ _; omega))))))⟩

set_option maxHeartbeats 1000000 in
theorem tonS_any (f : Int) (m : Bool) (w : World) (h0 : -7 ≤ f) (h1 : f ≤ 7) :
    Calls Tryd.prog 48 #[.int .i64 f, .bool m] w fun e w' => e = .returned (.int .i64 (tonZ f m)) ∧ w = w' := by
  have q0 : 0 ≤ 4 * f + 70 := by omega
  cases m
  · have HE := hid (show tonZ f false = (4 * f + 70) % 7 by simp [tonZ])
    go_enter Tryd.func48, Tryd.ntmps48
    go_wp2
    go_ret
    exact ⟨ret_int HE.out.symm, rfl⟩
  · have HE := hid (show tonZ f true = ((4 * f + 70) % 7 + 5) % 7 by simp [tonZ])
    have q1 : 0 ≤ (4 * f + 70) % 7 := by omega
    have q2 : (4 * f + 70) % 7 ≤ 6 := by omega
    go_enter Tryd.func48, Tryd.ntmps48
    go_wp2
    go_ret
    exact ⟨ret_int HE.out.symm, rfl⟩

set_option maxHeartbeats 1000000 in
theorem ktS_yes (f : Int) (m : Bool) (w : World) (h0 : -7 ≤ f) (h1 : f ≤ 7) :
    Calls Tryd.prog 17 #[.int .i64 f, .bool m] w fun e w' => e = .returned (.tuple #[.agg #[.int .i64 (tonZ f m), .int .i64 (altZ f (tonZ f m)), .int .i64 4], .bool true]) ∧ Below w.heap.size w w' := by
  have hO := Own.start w
  have hF := True.intro
  have hb : inB f (-7) 7 = true := inB_iff.2 ⟨h0, h1⟩
  obtain ⟨t0, t6⟩ := tonZ_bd f m
  go_enter Tryd.func17, Tryd.ntmps17
  go_wp2_with (first | (go_at_call 45; refine (in_any _ _ _ _).mono ?_; rintro e w1 ⟨rfl, rfl⟩) | (go_at_call 48; refine (tonS_any _ _ _ h0 h1).mono ?_; rintro e w1 ⟨rfl, rfl⟩) | (go_at_call 46; apply own_at hO; (repeat (first | (with_reducible exact hO) | (with_reducible apply Own.alloc) | (with_reducible apply Own.drew) | ((with_reducible apply Own.set_at); (focus (show _ ≤ _; omega))))); have hG := hF; clear hF; clear hO; intro hO; refine own_call hO (fun hB => altS_any _ _ _ t0 t6) ?_; clear hO; intro w1 hO; (try simp only [World.size_alloc1, World.size_drew, Nat.reduceAdd] at hO); (try simp only [upd, updI, List.map_cons, List.map_nil, eq_self, if_true, if_false, reduceIte, Nat.add_eq_left, Nat.left_eq_add, Nat.reduceEqDiff, List.set_cons_zero, List.set_cons_succ, hG] at hO); clear hG; have hF := hO; (try simp only [Own, Item.Holds, apartI, CellsAt, Nat.reduceAdd, Nat.zero_add, List.mem_cons, List.not_mem_nil, or_false, forall_eq_or_imp, forall_eq, ne_eq, false_imp_iff, implies_true, and_true] at hF)))
  apply own_end hO
  (repeat (first | (with_reducible exact hO) | (with_reducible apply Own.alloc) | (with_reducible apply Own.drew) | ((with_reducible apply Own.set_at); (focus (show _ ≤ _; omega)))))
  have hG := hF; clear hF; clear hO; intro hO
  refine own_ret (v := .tuple #[.agg #[.int .i64 (tonZ f m), .int .i64 (altZ f (tonZ f m)), .int .i64 4], .bool true]) hO ?_ rfl (fun hO => ⟨rfl, hO.base⟩)
  clear hO; intro w1 hO
  (try simp only [World.size_alloc1, World.size_drew, Nat.reduceAdd] at hO); (try simp only [upd, updI, List.map_cons, List.map_nil, eq_self, if_true, if_false, reduceIte, Nat.add_eq_left, Nat.left_eq_add, Nat.reduceEqDiff, List.set_cons_zero, List.set_cons_succ, hG] at hO); clear hG
  have hF := hO; (try simp only [Own, Item.Holds, apartI, CellsAt, Nat.reduceAdd, Nat.zero_add, List.mem_cons, List.not_mem_nil, or_false, forall_eq_or_imp, forall_eq, ne_eq, false_imp_iff, implies_true, and_true] at hF)
  simp [results, Tryd.results17, go_sem, hF]

set_option maxHeartbeats 1000000 in
theorem ktS_no (f : Int) (m : Bool) (w : World) (hb : keyB f = false) :
    Calls Tryd.prog 17 #[.int .i64 f, .bool m] w fun e w' => e = .returned (.tuple #[.agg #[.int .i64 0, .int .i64 0, .int .i64 0], .bool false]) ∧ Below w.heap.size w w' := by
  have hO := Own.start w
  have hF := True.intro
  have hb' : inB f (-7) 7 = false := hb
  go_enter Tryd.func17, Tryd.ntmps17
  go_wp2_with (go_at_call 45; refine (in_any _ _ _ _).mono ?_; rintro e w1 ⟨rfl, rfl⟩)
  apply own_end hO
  (repeat (first | (with_reducible exact hO) | (with_reducible apply Own.alloc) | (with_reducible apply Own.drew) | ((with_reducible apply Own.set_at); (focus (show _ ≤ _; omega)))))
  have hG := hF; clear hF; clear hO; intro hO
  refine own_ret (v := .tuple #[.agg #[.int .i64 0, .int .i64 0, .int .i64 0], .bool false]) hO ?_ rfl (fun hO => ⟨rfl, hO.base⟩)
  clear hO; intro w1 hO
  (try simp only [World.size_alloc1, World.size_drew, Nat.reduceAdd] at hO); (try simp only [upd, updI, List.map_cons, List.map_nil, eq_self, if_true, if_false, reduceIte, Nat.add_eq_left, Nat.left_eq_add, Nat.reduceEqDiff, List.set_cons_zero, List.set_cons_succ, hG] at hO); clear hG
  have hF := hO; (try simp only [Own, Item.Holds, apartI, CellsAt, Nat.reduceAdd, Nat.zero_add, List.mem_cons, List.not_mem_nil, or_false, forall_eq_or_imp, forall_eq, ne_eq, false_imp_iff, implies_true, and_true] at hF)
  simp [results, Tryd.results17, go_sem, hF]
end Go.Proofs.YtllcokbnjlodbaaDoor
