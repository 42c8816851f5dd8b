/- Chapter 3 in the program: scales. -/
import Derived.Test.YtomdjmlfnjikfaaDoorWalks3J
import Derived.Test.YtomdjmlfnjikfaaDoorWalks3L
import Derived.Test.YtomdjmlfnjikfaaDoorOwnMake
namespace Go.Proofs.YtomdjmlfnjikfaaDoor
set_option linter.unusedSimpArgs false
set_option linter.unusedVariables false
open Go.RowKit

theorem placeI_ton (f : Int) (m : Bool) (w : World) (f0 : -7 ≤ f) (f1 : f ≤ 7) :
    Calls Tryd.prog 18 #[.agg #[.int .i64 (tonZ f m), .int .i64 (altZ f (tonZ f m)), .int .i64 4]] w fun e w' => e = .returned (.int .i64 (28 + tonZ f m)) ∧ Below w.heap.size w w' := by
  obtain ⟨t0, t6⟩ := tonZ_bd f m
  have hb := altZ_bd f (tonZ f m)
  have hp : pvB (tonZ f m) (altZ f (tonZ f m)) 4 = true := pvB_iff.2 ⟨⟨t0, t6⟩, by omega, by omega⟩
  have := placeI_any (tonZ f m) (altZ f (tonZ f m)) 4 w
  rwa [show placeZ (tonZ f m) (altZ f (tonZ f m)) 4 = 28 + tonZ f m by rw [placeZ, if_pos hp]; omega] at this

theorem scL_len (f : Int) (m : Bool) : ∀ k : Nat, (scL f m k).length = k * 3
  | 0 => rfl
  | k + 1 => by rw [← scL_up, List.length_append, scL_len f m k]; simp; omega
/-- The cells of a scale of which k pitches are laid. -/
def mixL (f : Int) (m : Bool) (k : Nat) : List Value := scL f m k ++ List.replicate (24 - 3 * k) (.int .i64 0)
theorem mixL_len (f : Int) (m : Bool) (k : Nat) (hk : k ≤ 8) : (mixL f m k).length = 24 := by simp [mixL, scL_len]; omega
theorem mixL_up (f : Int) (m : Bool) (k : Nat) (hk : k < 8) :
    (((mixL f m k).set (k * 3) (.int .i64 ((28 + tonZ f m + k) % 7))).set (k * 3 + 1) (.int .i64 (altZ f ((28 + tonZ f m + k) % 7)))).set (k * 3 + 2) (.int .i64 ((28 + tonZ f m + k) / 7)) = mixL f m (k + 1) := by
  unfold mixL
  rw [show 24 - 3 * k = (24 - 3 * (k + 1)) + 1 + 1 + 1 by omega, List.replicate_succ, List.replicate_succ, List.replicate_succ, set3 (scL_len f m k), scL_up]
theorem mixL_zero (f : Int) (m : Bool) : (madeCells (Value.agg #[.int .i64 0, .int .i64 0, .int .i64 0]).cells (8 * 3)).toList = mixL f m 0 := by
  show _ = List.replicate 24 (Value.int .i64 0)
  kernel_rfl
theorem mixL_full (f : Int) (m : Bool) : mixL f m 8 = scL f m 8 := by simp [mixL]

set_option maxRecDepth 8000 in
set_option maxHeartbeats 4000000 in
theorem ksI_yes (f : Int) (m : Bool) (w : World) (hA : TabA w) (f0 : -7 ≤ f) (f1 : f ≤ 7) :
    Calls Tryd.prog 27 #[.int .i64 f, .bool m] w (RowOut 24 3 8 (scL f m 8) w) := by
  have hO := Own.start w
  have hF := True.intro
  obtain ⟨i0, hi, hz0, hz1, hz2⟩ := info_parts infoP
  have tb := tonZ_bd f m
  have hb : keyB f = true := keyB_iff.2 ⟨f0, f1⟩
  go_enter Tryd.func27, Tryd.ntmps27
  go_wp2_with (first | (go_at_call 66; apply own_at hO; (repeat (first | (with_reducible exact hO) | (with_reducible apply Own.alloc) | (with_reducible apply Own.drew) | ((with_reducible apply Own.set_at); (focus (show _ ≤ _; omega))))); have hG := hF; clear hF; clear hO; intro hO; refine own_call hO (fun hB => ktI_yes _ _ _ (hA.below hB) f0 f1) ?_; clear hO; intro w1 hO; (try simp only [World.size_alloc1, World.size_drew, Nat.reduceAdd] at hO); (try simp only [upd, updI, List.map_cons, List.map_nil, eq_self, if_true, if_false, reduceIte, Nat.add_eq_left, Nat.left_eq_add, Nat.reduceEqDiff, List.set_cons_zero, List.set_cons_succ, hG] at hO); clear hG; have hF := hO; (try simp only [Own, Item.Holds, apartI, CellsAt, Nat.reduceAdd, Nat.zero_add, List.mem_cons, List.not_mem_nil, or_false, forall_eq_or_imp, forall_eq, ne_eq, false_imp_iff, implies_true, and_true] at hF)) | (at_make; go_loud (refine wpList_make_item rfl _ _ 27 rfl 24 i0 (.agg #[.int .i64 0, .int .i64 0, .int .i64 0]) 3 24 Tryd.underlying27 hi hz0 hz1 hz2 _ _ _ _ 8 rfl rfl rfl rfl (by decide) (by unfold maxLen; omega) (by (repeat (first | (with_reducible exact hO) | (with_reducible apply Own.alloc) | (with_reducible apply Own.drew) | ((with_reducible apply Own.set_at); (focus (show _ ≤ _; omega)))))) ?_); clear hO hF; intro q w2 hO; have hF := True.intro))
  rw [mixL_zero f m] at hO
  go_loopw [20] (fun t wr => ∃ k : Nat, k ≤ 8 ∧ t = .int .i64 k ∧ Own w.heap.size (Below w.heap.size w) wr [.row 24 3 (.slice (some ⟨q, 0, none⟩) 8 8) 8 (mixL f m k), .blk w1.heap.size [.int .i64 (tonZ f m), .int .i64 (altZ f (tonZ f m)), .int .i64 4]]) (fun t _ => (8 - intOf t).toNat)
  case atStart => exact ⟨0, by omega, rfl, hO⟩
  case round =>
    clear hO
    obtain ⟨k, hk, rfl, hO⟩ := hrel
    have hF := hO; (try simp only [Own, Item.Holds, apartI, CellsAt, Nat.reduceAdd, Nat.zero_add, List.mem_cons, List.not_mem_nil, or_false, forall_eq_or_imp, forall_eq, ne_eq, false_imp_iff, implies_true, and_true] at hF)
    by_cases h8 : k = 8
    · subst h8
      rw [mixL_full] at hO
      go_wp2_with fail
      go_ret
      exact RowOut.mk hO
    · have hlt : k < 8 := by omega
      clear h8
      have hl := mixL_len f m k hk
      obtain ⟨u0, e0⟩ : ∃ u, (mixL f m k)[k * 3]? = some u := ⟨_, List.getElem?_eq_getElem (by omega)⟩
      obtain ⟨u1, e1⟩ : ∃ u, (mixL f m k)[k * 3 + 1]? = some u := ⟨_, List.getElem?_eq_getElem (by omega)⟩
      obtain ⟨u2, e2⟩ : ∃ u, (mixL f m k)[k * 3 + 2]? = some u := ⟨_, List.getElem?_eq_getElem (by omega)⟩
      clear hl
      go_wp2_with (first | (go_at_call 18; apply own_at hO; (repeat (first | (with_reducible exact hO) | (with_reducible apply Own.alloc) | (with_reducible apply Own.drew) | ((with_reducible apply Own.set_at); (focus (show _ ≤ _; omega))))); have hG := hF; clear hF; clear hO; intro hO; refine own_call hO (fun hB => placeI_ton _ _ _ f0 f1) ?_; clear hO; intro w1 hO; (try simp only [World.size_alloc1, World.size_drew, Nat.reduceAdd] at hO); (try simp only [upd, updI, List.map_cons, List.map_nil, eq_self, if_true, if_false, reduceIte, Nat.add_eq_left, Nat.left_eq_add, Nat.reduceEqDiff, List.set_cons_zero, List.set_cons_succ, hG] at hO); clear hG; have hF := hO; (try simp only [Own, Item.Holds, apartI, CellsAt, Nat.reduceAdd, Nat.zero_add, List.mem_cons, List.not_mem_nil, or_false, forall_eq_or_imp, forall_eq, ne_eq, false_imp_iff, implies_true, and_true] at hF)) | ((go_at_call 67; apply own_at hO; (repeat (first | (with_reducible exact hO) | (with_reducible apply Own.alloc) | (with_reducible apply Own.drew) | ((with_reducible apply Own.set_at); (focus (show _ ≤ _; omega))))); have hG := hF; clear hF; clear hO; intro hO; refine own_call hO (fun hB => kpI_any f (28 + tonZ f m + k) _ (hA.below hB) hb (by omega) (by omega)) ?_; clear hO; intro w1 hO; (try simp only [World.size_alloc1, World.size_drew, Nat.reduceAdd] at hO); (try simp only [upd, updI, List.map_cons, List.map_nil, eq_self, if_true, if_false, reduceIte, Nat.add_eq_left, Nat.left_eq_add, Nat.reduceEqDiff, List.set_cons_zero, List.set_cons_succ, hG] at hO); clear hG; have hF := hO; (try simp only [Own, Item.Holds, apartI, CellsAt, Nat.reduceAdd, Nat.zero_add, List.mem_cons, List.not_mem_nil, or_false, forall_eq_or_imp, forall_eq, ne_eq, false_imp_iff, implies_true, and_true] at hF)); have c0 := hO.row_cell e0; have c1 := hO.row_cell e1; have c2 := hO.row_cell e2; have r0 := hO.row_free (k * 3); have r1 := hO.row_free (k * 3 + 1); have r2 := hO.row_free (k * 3 + 2); have hO2 := ((hO.row_set (k * 3) (.int .i64 ((28 + tonZ f m + k) % 7))).row_set (k * 3 + 1) (.int .i64 (altZ f ((28 + tonZ f m + k) % 7)))).row_set (k * 3 + 2) (.int .i64 ((28 + tonZ f m + k) / 7)); rw [mixL_up f m k hlt] at hO2; clear hO hF))
      go_roundw
      case rel => exact ⟨k + 1, by omega, by go_num, hO2⟩
      case measure => simp [intOf]; omega

set_option maxRecDepth 8000 in
set_option maxHeartbeats 1000000 in
theorem ksI_no (f : Int) (m : Bool) (w : World) (hv : keyB f = false) :
    Calls Tryd.prog 27 #[.int .i64 f, .bool m] w (RowOut 24 3 0 [] w) := by
  have hO := Own.start w
  have hF := True.intro
  go_enter Tryd.func27, Tryd.ntmps27
  go_wp2_with (go_at_call 66; apply own_at hO; (repeat (first | (with_reducible exact hO) | (with_reducible apply Own.alloc) | (with_reducible apply Own.drew) | ((with_reducible apply Own.set_at); (focus (show _ ≤ _; omega))))); have hG := hF; clear hF; clear hO; intro hO; refine own_call hO (fun hB => ktI_no _ _ _ hv) ?_; clear hO; intro w1 hO; (try simp only [World.size_alloc1, World.size_drew, Nat.reduceAdd] at hO); (try simp only [upd, updI, List.map_cons, List.map_nil, eq_self, if_true, if_false, reduceIte, Nat.add_eq_left, Nat.left_eq_add, Nat.reduceEqDiff, List.set_cons_zero, List.set_cons_succ, hG] at hO); clear hG; have hF := hO; (try simp only [Own, Item.Holds, apartI, CellsAt, Nat.reduceAdd, Nat.zero_add, List.mem_cons, List.not_mem_nil, or_false, forall_eq_or_imp, forall_eq, ne_eq, false_imp_iff, implies_true, and_true] at hF))
  apply own_end hO
  (repeat (first | (with_reducible exact hO) | (with_reducible apply Own.alloc) | (with_reducible apply Own.drew) | ((with_reducible apply Own.set_at); (focus (show _ ≤ _; omega)))))
  intro hO1
  go_ret
  exact ⟨_, rfl, ⟨rfl, Or.inl ⟨rfl, rfl⟩⟩, hO1.base⟩
theorem scC_int (f : Int) (m : Bool) (j : Nat) : ∀ u ∈ scC f m j, ∃ z : Int, u = Value.int .i64 z := by
  intro u hu
  simp [scC] at hu
  rcases hu with rfl | rfl | rfl
  · exact ⟨_, rfl⟩
  · exact ⟨_, rfl⟩
  · exact ⟨_, rfl⟩
theorem scL_int (f : Int) (m : Bool) (k : Nat) : ∀ u ∈ scL f m k, ∃ z : Int, u = Value.int .i64 z := by
  intro u hu
  obtain ⟨j, _, hj⟩ := List.mem_flatMap.1 hu
  exact scC_int f m j u hj
end Go.Proofs.YtomdjmlfnjikfaaDoor
