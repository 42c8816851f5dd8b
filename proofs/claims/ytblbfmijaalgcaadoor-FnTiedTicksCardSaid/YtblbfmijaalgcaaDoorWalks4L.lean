/- Chapter 4 in the program: tied values. -/
import Derived.Test.YtblbfmijaalgcaaDoorWalks4K
import Derived.Test.YtblbfmijaalgcaaDoorLawsLen
namespace Go.Proofs.YtblbfmijaalgcaaDoor
set_option linter.unusedSimpArgs false
set_option linter.unusedVariables false
open Go.RowKit Go.Joins

set_option maxHeartbeats 8000000 in
theorem tiI_yes (n : Nat) (w : World) (hT : TabB w) (hD : TabD w) (h0 : 1 ≤ n) (h1 : n ≤ 768) :
    Calls Tryd.prog 23 #[.int .i64 n] w (RowOut 3 1 (tied n).length (tiC (tied n)) w) := by
  have hO := Own.start w
  have hF := True.intro
  have HA := hid (And.intro hT hD)
  clear hT hD
  obtain ⟨i0, hi, hz0, hz1, hz2⟩ := info_parts infoI
  have cb := cntZ_bd n
  have C0 := (smC_at (k := n + 1) (j := n) (by omega)).1
  obtain ⟨c, hc⟩ : ∃ c, cntZ n = c := ⟨_, rfl⟩
  rw [hc] at cb C0
  have HC := hid C0
  clear C0
  have q0 : (1 : Int) ≤ n := by omega
  have q1 : (n : Int) ≤ 768 := by omega
  have q2 : (n : Int) < n + 1 := by omega
  by_cases hu : c = 769
  · have hf : ¬ 0 < few n := by unfold cntZ at hc; split at hc <;> (have := few_bd n; omega)
    subst hu
    have HE := hid (tied_nil (Or.inr hf))
    clear hc hf
    go_enter Tryd.func23, Tryd.ntmps23
    go_wp2_with ((go_at_call 40; apply own_at hO; (repeat (first | (with_reducible exact hO) | (with_reducible apply Own.alloc) | (with_reducible apply Own.drew) | ((with_reducible apply Own.set_at); (focus (show _ ≤ _; omega))))); have hG := hF; clear hF; clear hO; intro hO; refine own_call_row hO (fun hB => smI_any n _ (HA.out.1.below hB) (HA.out.2.below hB) h0 h1) ?_; clear hO; intro v w1 hO; (try simp only [World.size_alloc1, World.size_drew, Nat.reduceAdd] at hO); (try simp only [upd, updI, List.map_cons, List.map_nil, eq_self, if_true, if_false, reduceIte, Nat.add_eq_left, Nat.left_eq_add, Nat.reduceEqDiff, List.set_cons_zero, List.set_cons_succ, hG] at hO); clear hG; have hF := hO; (try simp only [Own, Item.Holds, apartI, CellsAt, Nat.reduceAdd, Nat.zero_add, List.mem_cons, List.not_mem_nil, or_false, forall_eq_or_imp, forall_eq, ne_eq, false_imp_iff, implies_true, and_true] at hF)); obtain ⟨q, cap, hv1, hq1, hq2⟩ := hO.row_open (by omega); subst hv1; unfold maxLen at hq2; clear hF; have hF := hO.row_cell HC.out)
    apply own_end hO
    (repeat (first | (with_reducible exact hO) | (with_reducible apply Own.alloc) | (with_reducible apply Own.drew) | ((with_reducible apply Own.set_at); (focus (show _ ≤ _; omega)))))
    intro hO1
    go_ret
    rw [HE.out]
    exact ⟨_, rfl, ⟨rfl, Or.inl ⟨rfl, rfl⟩⟩, hO1.base⟩
  · have hf : 0 < few n := few_pos h0 h1 (by unfold cntZ at hc; split at hc <;> omega)
    have HF := hid hf
    have cb2 : 0 ≤ c ∧ c ≤ 768 := by omega
    have hcn : ((c.toNat : Nat) : Int) = c := by omega
    have HN := hid hcn
    clear hc hf hcn cb
    go_enter Tryd.func23, Tryd.ntmps23
    go_wp2_with (first | ((go_at_call 40; apply own_at hO; (repeat (first | (with_reducible exact hO) | (with_reducible apply Own.alloc) | (with_reducible apply Own.drew) | ((with_reducible apply Own.set_at); (focus (show _ ≤ _; omega))))); have hG := hF; clear hF; clear hO; intro hO; refine own_call_row hO (fun hB => smI_any n _ (HA.out.1.below hB) (HA.out.2.below hB) h0 h1) ?_; clear hO; intro v w1 hO; (try simp only [World.size_alloc1, World.size_drew, Nat.reduceAdd] at hO); (try simp only [upd, updI, List.map_cons, List.map_nil, eq_self, if_true, if_false, reduceIte, Nat.add_eq_left, Nat.left_eq_add, Nat.reduceEqDiff, List.set_cons_zero, List.set_cons_succ, hG] at hO); clear hG; have hF := hO; (try simp only [Own, Item.Holds, apartI, CellsAt, Nat.reduceAdd, Nat.zero_add, List.mem_cons, List.not_mem_nil, or_false, forall_eq_or_imp, forall_eq, ne_eq, false_imp_iff, implies_true, and_true] at hF)); obtain ⟨q, cap, hv1, hq1, hq2⟩ := hO.row_open (by omega); subst hv1; unfold maxLen at hq2; clear hF; have hF := hO.row_cell HC.out) | (at_make; go_loud (refine wpList_make_cap rfl _ _ 33 rfl 3 i0 (.int .i64 0) 1 8 Tryd.underlying33 hi hz0 hz1 hz2 _ _ _ c.toNat rfl rfl HN.out.symm (by omega) (by unfold maxLen; omega) hO ?_); clear hO hF; intro qt w2 hO; have hF := True.intro))
    go_loopw [4, 5] (fun u t wr => ∃ (r : Nat) (ys : List Int), r ≤ n ∧ 0 ≤ few r ∧ t = .int .i64 r ∧ tied n = ys ++ tied r ∧ Own w.heap.size (Below w.heap.size w) wr [.row 3 1 u ys.length (tiC ys), .row 56 2 (.slice (some ⟨q, 0, none⟩) (n + 1) cap) (n + 1) (smC (n + 1))]) (fun _ t _ => (intOf t).toNat)
    case atStart => exact ⟨n, [], by omega, by have := HF.out; omega, rfl, rfl, hO⟩
    case round =>
      clear hO hF
      obtain ⟨r, ys, hr, hfr, rfl, ht, hO⟩ := hrel
      have HT := hid ht
      clear ht
      have hyl : ys.length ≤ 16 := by have h1 := tied_len n; have h2 := congrArg List.length HT.out; simp at h2; omega
      by_cases hz : r = 0
      · subst hz
        have HE := hid (show tied n = ys by rw [HT.out, tied_nil (Or.inl rfl), List.append_nil])
        go_wp2_with fail
        go_ret
        rw [HE.out]
        exact RowOut.mk hO
      · have hr0 : (0 : Int) < r := by omega
        have hpos := few_pos (n := r) (by omega) (by omega) hfr
        obtain ⟨n1, n2, n3⟩ := next_nat (n := r) (by omega) (by omega) hpos
        have TC := hid (tied_cons (n := r) (by omega) (by omega) hpos)
        have XC := hid (smC_at (k := n + 1) (j := r) (by omega)).2
        have xb : 8 ≤ next r ∧ next r ≤ r := by have := next_is (n := r) (by omega) (by omega) hpos; omega
        have HP := hid (show 0 ≤ few (r - (next r).toNat) by rw [n3]; omega)
        obtain ⟨x, hx⟩ : ∃ x, next r = x := ⟨_, rfl⟩
        rw [hx] at TC XC HP xb
        have HT2 := hid (show tied n = (ys ++ [x]) ++ tied (r - x.toNat) by rw [HT.out, TC.out, List.append_assoc]; rfl)
        have dx2 : (r : Int) - x = ((r - x.toNat : Nat) : Int) := by omega
        have DX2 := hid dx2
        clear n1 n2 n3 hpos hfr hx dx2 hz TC HT
        have q3 : (r : Int) < n + 1 := by omega
        have cx := hO.2.row_cell XC.out
        go_wp2_with (at_builtin; refine wpList_append_item rfl _ _ 33 rfl 3 i0 (.int .i64 0) 1 8 Tryd.underlying33 hi hz0 hz1 hz2 rfl (by decide) rfl rfl (Own.alloc hO) rfl one1 (by unfold maxLen; omega) (by omega) ?_; clear hO cx; intro v' w3 hO _; have cx := hO.2.row_cell XC.out)
        go_roundw
        case rel => exact ⟨r - x.toNat, ys ++ [x], by omega, HP.out, by rw [← DX2.out], HT2.out, by rw [List.length_append, ← tiC_up]; exact hO⟩
        case measure => simp [intOf]; omega

set_option maxHeartbeats 1000000 in
theorem tiI_no (n : Int) (w : World) (hb : inB n 1 768 = false) :
    Calls Tryd.prog 23 #[.int .i64 n] w (RowOut 3 1 0 [] w) := by
  rcases inB_no.1 hb with h | h
  all_goals
    clear hb
    go_enter Tryd.func23, Tryd.ntmps23
    go_wp2_with fail
    go_ret
    exact ⟨_, rfl, ⟨rfl, Or.inl ⟨rfl, rfl⟩⟩, Below.refl _ _⟩

theorem tiI_any (n : Int) (w : World) (hT : TabB w) (hD : TabD w) : Calls Tryd.prog 23 #[.int .i64 n] w (RowOut 3 1 (tiL n).length (tiC (tiL n)) w) := by
  unfold tiL
  cases hb : inB n 1 768
  · exact tiI_no n w hb
  · obtain ⟨h0, h1⟩ := inB_iff.1 hb
    have := tiI_yes n.toNat w hT hD (by omega) (by omega)
    rw [show ((n.toNat : Nat) : Int) = n by omega] at this
    exact this
end Go.Proofs.YtblbfmijaalgcaaDoor
