/- Chapter 3 in the model. -/
import Derived.Test.YtfiodejbeeblgaaDoorWalks1
import Derived.Test.YtfiodejbeeblgaaDoorPure1
import Derived.Test.YtfiodejbeeblgaaDoorOwn
import Derived.Test.YtfiodejbeeblgaaDoorRegionD
namespace Go.Proofs.YtfiodejbeeblgaaDoor
set_option linter.unusedSimpArgs false
set_option linter.unusedVariables false
set_option maxRecDepth 8000
open Go.RowKit

theorem ord_cell {w : World} {s : Int} {t : TypeId} (h0 : 0 ≤ s) (h6 : s ≤ 6) : (w.alloc (.cells #[.int .i64 1, .int .i64 3, .int .i64 5, .int .i64 0, .int .i64 2, .int .i64 4, .int .i64 6] t)).cell? ⟨w.heap.size, s.toNat, none⟩ = some (.int .i64 (ordZ s)) := by
  rcases step7 h0 h6 with rfl | rfl | rfl | rfl | rfl | rfl | rfl <;> simp [ordZ]

set_option maxHeartbeats 1000000 in
theorem altS_any (f s : Int) (w : World) (h0 : 0 ≤ s) (h6 : s ≤ 6) :
    Calls Tryd.prog 53 #[.int .i64 f, .int .i64 s] w fun e w' => e = .returned (.int .i64 (altZ f s)) ∧ Below w.heap.size w w' := by
  have hc := fun t => ord_cell (w := w) (t := t) h0 h6
  have hb := ordZ_bd s
  have e1 : IntKind.i64.wrap (ordZ s - 6) = ordZ s - 6 := IntWalk.i64_in _ (by omega)
  have s1 : s < 7 := by omega
  by_cases h1 : ordZ s < f
  · have HE := hid (show altZ f s = 1 by rw [altZ, if_pos h1])
    go_enter Tryd.func53, Tryd.ntmps53
    go_wp2
    go_ret
    exact ⟨ret_int HE.out.symm, below1 _⟩
  by_cases h2 : f < ordZ s - 6
  · have HE := hid (show altZ f s = -1 by rw [altZ, if_neg h1, if_pos h2])
    go_enter Tryd.func53, Tryd.ntmps53
    go_wp2
    go_ret
    exact ⟨ret_int HE.out.symm, below1 _⟩
  · have HE := hid (show altZ f s = 0 by rw [altZ, if_neg h1, if_neg h2])
    go_enter Tryd.func53, Tryd.ntmps53
    go_wp2
    go_ret
    exact ⟨ret_int HE.out.symm, below1 _⟩

set_option maxHeartbeats 1000000 in
theorem kaS_any (f s : Int) (w : World) :
    Calls Tryd.prog 73 #[.int .i64 f, .int .i64 s] w fun e w' => e = .returned (.int .i64 (kaZ f s)) ∧ Below w.heap.size w w' := by
  have hO := Own.start w
  have hF := True.intro
  cases h1 : keyB f
  · have HE := hid (show kaZ f s = 0 by simp [kaZ, h1])
    have h1' : inB f (-7) 7 = false := h1
    go_enter Tryd.func73, Tryd.ntmps73
    go_wp2_with (go_at_call 50; refine (in_any _ _ _ _).mono ?_; rintro e w1 ⟨rfl, rfl⟩)
    go_ret
    exact ⟨ret_int HE.out.symm, Below.refl _ _⟩
  have h1' : inB f (-7) 7 = true := h1
  cases h2 : inB s 0 6
  · have HE := hid (show kaZ f s = 0 by simp [kaZ, h2])
    go_enter Tryd.func73, Tryd.ntmps73
    go_wp2_with (go_at_call 50; refine (in_any _ _ _ _).mono ?_; rintro e w1 ⟨rfl, rfl⟩)
    go_ret
    exact ⟨ret_int HE.out.symm, Below.refl _ _⟩
  · have HE := hid (show kaZ f s = altZ f s by simp [kaZ, h1, h2])
    obtain ⟨s0, s6⟩ := inB_iff.1 h2
    go_enter Tryd.func73, Tryd.ntmps73
    go_wp2_with (first | (go_at_call 50; refine (in_any _ _ _ _).mono ?_; rintro e w1 ⟨rfl, rfl⟩) | (go_at_call 53; apply own_at hO; (repeat (first | (with_reducible exact hO) | (with_reducible apply Own.alloc) | (with_reducible apply Own.drew) | ((with_reducible apply Own.set_at); (focus (show _ ≤ _; omega))))); have hG := hF; clear hF; clear hO; intro hO; refine own_call hO (fun hB => altS_any _ _ _ s0 s6) ?_; clear hO; intro w1 hO; (try simp only [World.size_alloc1, World.size_drew, Nat.reduceAdd] at hO); (try simp only [upd, updI, List.map_cons, List.map_nil, eq_self, if_true, if_false, reduceIte, Nat.add_eq_left, Nat.left_eq_add, Nat.reduceEqDiff, List.set_cons_zero, List.set_cons_succ, hG] at hO); clear hG; have hF := hO; (try simp only [Own, Item.Holds, apartI, CellsAt, Nat.reduceAdd, Nat.zero_add, List.mem_cons, List.not_mem_nil, or_false, forall_eq_or_imp, forall_eq, ne_eq, false_imp_iff, implies_true, and_true] at hF)))
    go_ret
    exact ⟨ret_int HE.out.symm, Own.base (by (repeat (first | (with_reducible exact hO) | (with_reducible apply Own.alloc) | (with_reducible apply Own.drew) | ((with_reducible apply Own.set_at); (focus (show _ ≤ _; omega))))))⟩

/- Chapter 3 in the model: pitches in keys, degrees, the key of a tonic. -/
open Go.RowKit

theorem inBel {P : Program} {f : FuncId} {args : Array Value} {w : World} {v : Value} (h : Calls P f args w fun e w' => e = .returned v ∧ w = w') : Calls P f args w fun e w' => e = .returned v ∧ Below w.heap.size w w' :=
  h.mono fun _ _ ⟨he, hw⟩ => ⟨he, hw ▸ Below.refl _ _⟩

theorem in_is {n lo hi : Int} {b : Bool} (w : World) (h : inB n lo hi = b) : Calls Tryd.prog 50 #[.int .i64 n, .int .i64 lo, .int .i64 hi] w fun e w' => e = .returned (.bool b) ∧ Below w.heap.size w w' := by subst h; exact inBel (in_any _ _ _ _)

theorem pvS_is {s a o : Int} {b : Bool} (w : World) (h : pvB s a o = b) : Calls Tryd.prog 51 #[.agg #[.int .i64 s, .int .i64 a, .int .i64 o]] w fun e w' => e = .returned (.bool b) ∧ Below w.heap.size w w' := by subst h; exact pvS_any _ _ _ _

/-- What KeyOf answers at a valid pitch: the first key that has this tonic. -/
def koP (s a : Int) (m : Bool) (e : Ending) : Prop :=
  (∃ f, -7 ≤ f ∧ f ≤ 7 ∧ noTon m s a f ∧ isTon f m s a = true ∧ e = .returned (.tuple #[.int .i64 f, .bool true])) ∨ (noTon m s a 8 ∧ e = .returned (.tuple #[.int .i64 0, .bool false]))
theorem koP_some {m : Bool} {s a f : Int} (f0 : -7 ≤ f) (f1 : f ≤ 7) (hn : noTon m s a f) (ht : isTon f m s a = true) : koP s a m (.returned (.tuple #[.int .i64 f, .bool true])) := Or.inl ⟨f, f0, f1, hn, ht, rfl⟩
theorem koP_none {m : Bool} {s a : Int} (hn : noTon m s a 8) : koP s a m (.returned (.tuple #[.int .i64 0, .bool false])) := Or.inr ⟨hn, rfl⟩