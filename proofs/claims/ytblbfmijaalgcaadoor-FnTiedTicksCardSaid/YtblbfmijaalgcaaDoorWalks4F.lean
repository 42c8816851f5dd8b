/- Chapter 4 in the model: the fewest values. -/
import Derived.Test.YtblbfmijaalgcaaDoorWalks4O
namespace Go.Proofs.YtblbfmijaalgcaaDoor
set_option linter.unusedSimpArgs false
set_option linter.unusedVariables false
open Go.RowKit

theorem infoI : (Tryd.prog.info? 3).map (fun i => (i.zero, i.size, i.bytes)) = some (some (.int .i64 0), 1, 8) := by kernel_rfl
theorem one1 {x : Int} : ∀ u ∈ [Value.int .i64 x], u.oneCell' = true := by
  intro u hu
  simp at hu
  subst hu
  rfl
/-- The cells of the fewest numbers below k. -/
def fewC (k : Nat) : List Value := (List.range k).map fun i => .int .i64 (few i)
theorem fewC_up (k : Nat) : fewC k ++ [.int .i64 (few k)] = fewC (k + 1) := by simp [fewC, List.range_succ]
theorem fewC_at {k j : Nat} (h : j < k) : (fewC k)[j]? = some (.int .i64 (few j)) := by simp [fewC, h]
theorem fewC_1 : fewC 1 = [.int .i64 0] := by simp [fewC, few_zero]

set_option maxHeartbeats 8000000 in
theorem fewS_any (n : Nat) (w : World) (h0 : 1 ≤ n) (h1 : n ≤ 768) :
    Calls Tryd.prog 41 #[.int .i64 n] w (RowOut 3 1 (n + 1) (fewC (n + 1)) w) := by
  have hO := Own.start w
  have hF := True.intro
  obtain ⟨i0, hi, hz0, hz1, hz2⟩ := info_parts infoI
  go_enter Tryd.func41, Tryd.ntmps41
  go_wp2_with fail
  refine own_call_row (hO.allocRow (e := 3) (cur := #[.int .i64 0]) (k := 1) (cap := 1) 1 (by omega) (by unfold maxLen; omega) rfl) (fun hB => vasS_any _) ?_
  clear hO
  intro v w1 hO
  obtain ⟨q, cap, hv1, hq1, hq2⟩ := hO.row_open (by omega)
  subst hv1
  unfold maxLen at hq2
  replace hO := hO.perm (List.Perm.swap _ _ _)
  go_wp2_with fail
  go_loopw [3, 5] (fun v t wr => ∃ i : Nat, 1 ≤ i ∧ i ≤ n + 1 ∧ t = .int .i64 i ∧ Own w.heap.size (Below w.heap.size w) wr [.row 3 1 v i (fewC i), .row 24 3 (.slice (some ⟨q, 0, none⟩) 30 cap) 30 (vaC 30)]) (fun _ t _ => n + 1 - (intOf t).toNat)
  case atStart => exact ⟨1, by omega, by omega, rfl, by rw [fewC_1]; exact hO⟩
  case round =>
    clear hO
    obtain ⟨i, i1, i2, rfl, hO⟩ := hrel
    by_cases hn : i = n + 1
    · subst hn
      have q0 : (n : Int) < n + 1 := by omega
      go_wp2_with fail
      go_ret
      exact RowOut.mk hO
    · have hlt : i ≤ n := by omega
      have q0 : (i : Int) ≤ n := by omega
      clear hn i2
      obtain ⟨qb, capb, hv1, hb1, hb2⟩ := hO.row_open (by omega)
      subst hv1
      unfold maxLen at hb2
      go_wp2_with fail
      go_loopw [6, 7] (fun x t wr => ∃ k : Nat, k ≤ 30 ∧ t = .int .i64 k ∧ x = .int .i64 (fewK i k) ∧ Own w.heap.size (Below w.heap.size w) wr [.row 3 1 (.slice (some ⟨qb, 0, none⟩) i capb) i (fewC i), .row 24 3 (.slice (some ⟨q, 0, none⟩) 30 cap) 30 (vaC 30)]) (fun _ t _ => (30 - intOf t).toNat)
      case atStart => exact ⟨0, by omega, rfl, rfl, hO⟩
      case round =>
        clear hO
        obtain ⟨k, hk, rfl, rfl, hO⟩ := hrel
        by_cases h30 : k = 30
        · subst h30
          rw [few_is i1 (by omega)]
          have fb := few_bd i
          go_wp2_with (at_builtin; refine wpList_append_item rfl _ _ 33 rfl 3 i0 (.int .i64 0) 1 8 Tryd.underlying33 hi hz0 hz1 hz2 rfl (by decide) rfl rfl (Own.alloc hO) rfl one1 (by unfold maxLen; omega) (by omega) ?_; clear hO; intro v' w2 hO _)
          go_roundw
          case rel => exact ⟨i + 1, by omega, by omega, by go_num, by rw [← fewC_up]; exact hO⟩
          case measure => simp [intOf]; omega
        · have hkl : k < 30 := by omega
          have q1 : (k : Int) < 30 := by omega
          clear h30 hk
          obtain ⟨b, d, t, m, hva, htk, m0, m1, hvv, htz, E0, E1, E2⟩ := va_facts hkl
          have HT := hid (show ∀ W, Calls Tryd.prog 36 #[.agg #[.int .i64 b, .int .i64 d, .int .i64 t]] W fun e w' => e = .returned (.int .i64 m) ∧ Below W.heap.size W w' from fun W => by
            have := tkS_any b d t W hvv
            rwa [htz] at this)
          have hO2 := hO.2
          have c0 := hO2.row_cell E0
          have c1 := hO2.row_cell E1
          have c2 := hO2.row_cell E2
          clear hO2
          have HU := hid (fewK_up i k m htk)
          have xb := fewK_bd i k
          obtain ⟨x, hx⟩ : ∃ x, fewK i k = x := ⟨_, rfl⟩
          rw [hx] at HU xb ⊢
          clear hx hva htk hvv htz E0 E1 E2
          by_cases hm : m ≤ i
          · have hc := fewC_at (k := i) (j := ((i : Int) - m).toNat) (by omega)
            have pb := few_bd ((i : Int) - m).toNat
            obtain ⟨p, hp⟩ : ∃ p, few ((i : Int) - m).toNat = p := ⟨_, rfl⟩
            have HS := hid (show fewS i x m = if m ≤ i ∧ 0 ≤ p ∧ (x < 0 ∨ p + 1 < x) then p + 1 else x by rw [fewS, hp])
            rw [hp] at hc pb
            have HC := hid hc
            have q2 : 0 ≤ (i : Int) - m := by omega
            have q3 : (i : Int) - m < i := by omega
            clear hp hc
            have fin : ∀ (y : Int), fewS i x m = y → fewK i (k + 1) = y := fun y hy => by rw [HU.out]; exact hy
            have FIN := hid fin
            clear fin
            by_cases hp0 : 0 ≤ p
            · by_cases hx0 : x < 0
              · have R := hid (show fewS i x m = p + 1 by rw [HS.out, if_pos ⟨hm, hp0, Or.inl hx0⟩])
                go_wp2_with ((go_at_call 36; apply own_at hO; (repeat (first | (with_reducible exact hO) | (with_reducible apply Own.alloc) | (with_reducible apply Own.drew) | ((with_reducible apply Own.set_at); (focus (show _ ≤ _; omega))))); have hG := hF; clear hF; clear hO; intro hO; refine own_callO hO (fun hW => HT.out _) ?_; clear hO; intro w1 hO; (try simp only [World.size_alloc1, World.size_drew, Nat.reduceAdd] at hO); (try simp only [upd, updI, List.map_cons, List.map_nil, eq_self, if_true, if_false, reduceIte, Nat.add_eq_left, Nat.left_eq_add, Nat.reduceEqDiff, List.set_cons_zero, List.set_cons_succ, hG] at hO); clear hG; have hF := hO; (try simp only [Own, Item.Holds, apartI, CellsAt, Nat.reduceAdd, Nat.zero_add, List.mem_cons, List.not_mem_nil, or_false, forall_eq_or_imp, forall_eq, ne_eq, false_imp_iff, implies_true, and_true] at hF)); have cb := hO.row_cell HC.out)
                go_roundw
                case rel => exact ⟨k + 1, by omega, by go_num, by rw [FIN.out _ R.out], hO⟩
                case measure => simp [intOf]; omega
              · by_cases hpx : p + 1 < x
                · have R := hid (show fewS i x m = p + 1 by rw [HS.out, if_pos ⟨hm, hp0, Or.inr hpx⟩])
                  go_wp2_with ((go_at_call 36; apply own_at hO; (repeat (first | (with_reducible exact hO) | (with_reducible apply Own.alloc) | (with_reducible apply Own.drew) | ((with_reducible apply Own.set_at); (focus (show _ ≤ _; omega))))); have hG := hF; clear hF; clear hO; intro hO; refine own_callO hO (fun hW => HT.out _) ?_; clear hO; intro w1 hO; (try simp only [World.size_alloc1, World.size_drew, Nat.reduceAdd] at hO); (try simp only [upd, updI, List.map_cons, List.map_nil, eq_self, if_true, if_false, reduceIte, Nat.add_eq_left, Nat.left_eq_add, Nat.reduceEqDiff, List.set_cons_zero, List.set_cons_succ, hG] at hO); clear hG; have hF := hO; (try simp only [Own, Item.Holds, apartI, CellsAt, Nat.reduceAdd, Nat.zero_add, List.mem_cons, List.not_mem_nil, or_false, forall_eq_or_imp, forall_eq, ne_eq, false_imp_iff, implies_true, and_true] at hF)); have cb := hO.row_cell HC.out)
                  go_roundw
                  case rel => exact ⟨k + 1, by omega, by go_num, by rw [FIN.out _ R.out], hO⟩
                  case measure => simp [intOf]; omega
                · have R := hid (show fewS i x m = x by rw [HS.out, if_neg (by omega)])
                  go_wp2_with ((go_at_call 36; apply own_at hO; (repeat (first | (with_reducible exact hO) | (with_reducible apply Own.alloc) | (with_reducible apply Own.drew) | ((with_reducible apply Own.set_at); (focus (show _ ≤ _; omega))))); have hG := hF; clear hF; clear hO; intro hO; refine own_callO hO (fun hW => HT.out _) ?_; clear hO; intro w1 hO; (try simp only [World.size_alloc1, World.size_drew, Nat.reduceAdd] at hO); (try simp only [upd, updI, List.map_cons, List.map_nil, eq_self, if_true, if_false, reduceIte, Nat.add_eq_left, Nat.left_eq_add, Nat.reduceEqDiff, List.set_cons_zero, List.set_cons_succ, hG] at hO); clear hG; have hF := hO; (try simp only [Own, Item.Holds, apartI, CellsAt, Nat.reduceAdd, Nat.zero_add, List.mem_cons, List.not_mem_nil, or_false, forall_eq_or_imp, forall_eq, ne_eq, false_imp_iff, implies_true, and_true] at hF)); have cb := hO.row_cell HC.out)
                  go_roundw
                  case rel => exact ⟨k + 1, by omega, by go_num, by rw [FIN.out _ R.out], hO⟩
                  case measure => simp [intOf]; omega
            · have R := hid (show fewS i x m = x by rw [HS.out, if_neg (by omega)])
              go_wp2_with ((go_at_call 36; apply own_at hO; (repeat (first | (with_reducible exact hO) | (with_reducible apply Own.alloc) | (with_reducible apply Own.drew) | ((with_reducible apply Own.set_at); (focus (show _ ≤ _; omega))))); have hG := hF; clear hF; clear hO; intro hO; refine own_callO hO (fun hW => HT.out _) ?_; clear hO; intro w1 hO; (try simp only [World.size_alloc1, World.size_drew, Nat.reduceAdd] at hO); (try simp only [upd, updI, List.map_cons, List.map_nil, eq_self, if_true, if_false, reduceIte, Nat.add_eq_left, Nat.left_eq_add, Nat.reduceEqDiff, List.set_cons_zero, List.set_cons_succ, hG] at hO); clear hG; have hF := hO; (try simp only [Own, Item.Holds, apartI, CellsAt, Nat.reduceAdd, Nat.zero_add, List.mem_cons, List.not_mem_nil, or_false, forall_eq_or_imp, forall_eq, ne_eq, false_imp_iff, implies_true, and_true] at hF)); have cb := hO.row_cell HC.out)
              go_roundw
              case rel => exact ⟨k + 1, by omega, by go_num, by rw [FIN.out _ R.out], hO⟩
              case measure => simp [intOf]; omega
          · have R := hid (show fewK i (k + 1) = x by rw [HU.out, fewS, if_neg (by omega)])
            have q2 : (i : Int) - m < 0 := by omega
            go_wp2_with (go_at_call 36; apply own_at hO; (repeat (first | (with_reducible exact hO) | (with_reducible apply Own.alloc) | (with_reducible apply Own.drew) | ((with_reducible apply Own.set_at); (focus (show _ ≤ _; omega))))); have hG := hF; clear hF; clear hO; intro hO; refine own_callO hO (fun hW => HT.out _) ?_; clear hO; intro w1 hO; (try simp only [World.size_alloc1, World.size_drew, Nat.reduceAdd] at hO); (try simp only [upd, updI, List.map_cons, List.map_nil, eq_self, if_true, if_false, reduceIte, Nat.add_eq_left, Nat.left_eq_add, Nat.reduceEqDiff, List.set_cons_zero, List.set_cons_succ, hG] at hO); clear hG; have hF := hO; (try simp only [Own, Item.Holds, apartI, CellsAt, Nat.reduceAdd, Nat.zero_add, List.mem_cons, List.not_mem_nil, or_false, forall_eq_or_imp, forall_eq, ne_eq, false_imp_iff, implies_true, and_true] at hF))
            go_roundw
            case rel => exact ⟨k + 1, by omega, by go_num, by rw [R.out], hO⟩
            case measure => simp [intOf]; omega
end Go.Proofs.YtblbfmijaalgcaaDoor
