/- Chapter 4 in the model: tied values. -/
import Derived.Test.YtblbfmijaalgcaaDoorWalks4F
import Derived.Test.YtblbfmijaalgcaaDoorPure4b
namespace Go.Proofs.YtblbfmijaalgcaaDoor
set_option linter.unusedSimpArgs false
set_option linter.unusedVariables false
open Go.RowKit

/-- The cells of a list of ticks. -/
def tiC (ys : List Int) : List Value := ys.map (Value.int .i64)
theorem tiC_up (ys : List Int) (y : Int) : tiC ys ++ [.int .i64 y] = tiC (ys ++ [y]) := by simp [tiC]

set_option maxHeartbeats 8000000 in
theorem tiS_yes (n : Nat) (w : World) (h0 : 1 ≤ n) (h1 : n ≤ 768) :
    Calls Tryd.prog 25 #[.int .i64 n] w (RowOut 3 1 (tied n).length (tiC (tied n)) w) := by
  have hO := Own.start w
  have hF := True.intro
  obtain ⟨i0, hi, hz0, hz1, hz2⟩ := info_parts infoI
  have hb : inB (n : Int) 1 768 = true := inB_iff.2 ⟨by omega, by omega⟩
  go_enter Tryd.func25, Tryd.ntmps25
  go_wp2_with (go_at_call 34; refine (in_any _ _ _ _).mono ?_; rintro e w1 ⟨rfl, rfl⟩)
  refine own_call_row (hO.allocRow (e := 3) (cur := #[]) (k := 0) (cap := 0) 1 (by omega) (by unfold maxLen; omega) rfl) (fun hB => fewS_any n _ h0 h1) ?_
  clear hO
  intro vb w1 hO
  obtain ⟨qb, capb, hv1, hb1, hb2⟩ := hO.row_open (by omega)
  subst hv1
  unfold maxLen at hb2
  go_wp2_with fail
  refine own_call_row hO (fun hB => vasS_any _) ?_
  clear hO
  intro v w2 hO
  obtain ⟨q, cap, hv1, hq1, hq2⟩ := hO.row_open (by omega)
  subst hv1
  unfold maxLen at hq2
  replace hO := hO.perm (List.reverse_perm _).symm
  simp only [List.reverse_cons, List.reverse_nil, List.nil_append, List.cons_append] at hO
  go_wp2_with fail
  go_loopw [3, 6] (fun u t wr => ∃ (r : Nat) (ys : List Int), r ≤ n ∧ t = .int .i64 r ∧ tied n = ys ++ tied r ∧ Own w.heap.size (Below w.heap.size w) wr [.row 3 1 u ys.length (tiC ys), .row 3 1 (.slice (some ⟨qb, 0, none⟩) (n + 1) capb) (n + 1) (fewC (n + 1)), .row 24 3 (.slice (some ⟨q, 0, none⟩) 30 cap) 30 (vaC 30)]) (fun _ t _ => (intOf t).toNat)
  case atStart => exact ⟨n, [], by omega, rfl, rfl, hO⟩
  case round =>
    clear hO
    obtain ⟨r, ys, hr, rfl, ht, hO⟩ := hrel
    have HT := hid ht
    clear ht
    have fb := few_bd r
    have HC := hid (fewC_at (k := n + 1) (j := r) (by omega))
    have cr := hO.2.row_cell HC.out
    have q0 : (r : Int) < n + 1 := by omega
    have q9 : r < n + 1 := by omega
    by_cases hz : r = 0
    · subst hz
      have HE := hid (show tied n = ys by rw [HT.out, tied_nil (Or.inl rfl), List.append_nil])
      go_wp2_with fail
      go_ret
      rw [HE.out]
      exact RowOut.mk hO
    have hr0 : (0 : Int) < r := by omega
    obtain ⟨fr, hfr⟩ : ∃ z, few r = z := ⟨_, rfl⟩
    rw [hfr] at cr fb
    by_cases hf : 0 < fr
    · have TC := hid (tied_cons (n := r) (by omega) (by omega) (by omega))
      obtain ⟨n1, n2, n3⟩ := next_nat (n := r) (by omega) (by omega) (by omega)
      have hyl : ys.length ≤ 16 := by have h1 := tied_len n; have h2 := congrArg List.length HT.out; simp at h2; omega
      go_wp2_with fail
      go_loopw [7, 8] (fun x t wr => ∃ k : Nat, k ≤ 30 ∧ t = .int .i64 k ∧ x = .int .i64 (nextK r k) ∧ Own w.heap.size (Below w.heap.size w) wr [.row 3 1 u3 ys.length (tiC ys), .row 3 1 (.slice (some ⟨qb, 0, none⟩) (n + 1) capb) (n + 1) (fewC (n + 1)), .row 24 3 (.slice (some ⟨q, 0, none⟩) 30 cap) 30 (vaC 30)]) (fun _ t _ => (30 - intOf t).toNat)
      case atStart => exact ⟨0, by omega, rfl, rfl, hO⟩
      case round =>
        clear hO
        obtain ⟨k, hk, rfl, rfl, hO⟩ := hrel
        by_cases h30 : k = 30
        · subst h30
          obtain ⟨x, hx⟩ : ∃ x, nextK r 30 = x := ⟨_, rfl⟩
          have hx' : next r = x := hx
          have TC2 := hid (show tied n = (ys ++ [x]) ++ tied (r - x.toNat) by rw [HT.out, TC.out, hx', List.append_assoc]; rfl)
          rw [hx'] at n1 n2
          rw [hx]
          have dx : IntKind.i64.wrap ((r : Int) - x) = ((r - x.toNat : Nat) : Int) := by rw [show ((r - x.toNat : Nat) : Int) = (r : Int) - x by omega]; exact IntWalk.i64_in _ (by omega)
          have DX := hid dx
          have dx2 : (r : Int) - x = ((r - x.toNat : Nat) : Int) := by omega
          have DX2 := hid dx2
          have xb : 0 ≤ x ∧ x ≤ 336 := by rw [← hx]; exact nextK_bd r 30
          clear dx dx2 hx hx'
          go_wp2_with (at_builtin; refine wpList_append_item rfl _ _ 33 rfl 3 i0 (.int .i64 0) 1 8 Tryd.underlying33 hi hz0 hz1 hz2 rfl (by decide) rfl rfl (Own.alloc hO) rfl one1 (by unfold maxLen; omega) (by omega) ?_; clear hO; intro v' w3 hO _)
          go_roundw
          case rel => exact ⟨r - x.toNat, ys ++ [x], by omega, by rw [← DX2.out], TC2.out, by rw [List.length_append, ← tiC_up]; exact hO⟩
          case measure => simp [intOf]; omega
        · have hkl : k < 30 := by omega
          have q1 : (k : Int) < 30 := by omega
          clear h30 hk
          obtain ⟨b, d, t, m, hva, htk, m0, m1, hvv, htz, E0, E1, E2⟩ := va_facts hkl
          have HL := hid (show ∀ W, Calls Tryd.prog 36 #[.agg #[.int .i64 b, .int .i64 d, .int .i64 t]] W fun e w' => e = .returned (.int .i64 m) ∧ Below W.heap.size W w' from fun W => by
            have := tkS_any b d t W hvv
            rwa [htz] at this)
          have c0 := hO.2.2.row_cell E0
          have c1 := hO.2.2.row_cell E1
          have c2 := hO.2.2.row_cell E2
          have HU := hid (nextK_up r k m htk)
          have xb := nextK_bd r k
          obtain ⟨x, hx⟩ : ∃ x, nextK r k = x := ⟨_, rfl⟩
          rw [hx] at HU xb ⊢
          clear hx hva htk hvv htz E0 E1 E2 n1 n2 n3
          have dr : IntKind.i64.wrap (fr - 1) = fr - 1 := IntWalk.i64_in _ (by omega)
          have HC2 := hid (show (fewC (n + 1))[r]? = some (Value.int .i64 fr) by rw [HC.out, hfr])
          by_cases hm : m ≤ r
          · have dm : IntKind.i64.wrap ((r : Int) - m) = (r : Int) - m := IntWalk.i64_in _ (by omega)
            have HD := hid (fewC_at (k := n + 1) (j := ((r : Int) - m).toNat) (by omega))
            obtain ⟨p, hp⟩ : ∃ p, few ((r : Int) - m).toNat = p := ⟨_, rfl⟩
            have HP := hid (show (fewC (n + 1))[((r : Int) - m).toNat]? = some (Value.int .i64 p) by rw [HD.out, hp])
            have HS := hid (show nextS r x m = if m ≤ r ∧ p = fr - 1 ∧ x < m then m else x by rw [nextS, hp, hfr])
            have q2 : 0 ≤ (r : Int) - m := by omega
            have q3 : (r : Int) - m < n + 1 := by omega
            clear HD hp
            cases hpe : (p == fr - 1)
            · have hne : ¬ p = fr - 1 := by simpa using hpe
              have R := hid (show nextK r (k + 1) = x by rw [HU.out, HS.out, if_neg (fun h => hne h.2.1)])
              clear hne
              go_wp2_with (go_at_call 36; apply own_at hO; (repeat (first | (with_reducible exact hO) | (with_reducible apply Own.alloc) | (with_reducible apply Own.drew) | ((with_reducible apply Own.set_at); (focus (show _ ≤ _; omega))))); have hG := hF; clear hF; clear hO; intro hO; refine own_callO hO (fun hW => HL.out _) ?_; clear hO; intro w1 hO; (try simp only [World.size_alloc1, World.size_drew, Nat.reduceAdd] at hO); (try simp only [upd, updI, List.map_cons, List.map_nil, eq_self, if_true, if_false, reduceIte, Nat.add_eq_left, Nat.left_eq_add, Nat.reduceEqDiff, List.set_cons_zero, List.set_cons_succ, hG] at hO); clear hG; have hF := hO; (try simp only [Own, Item.Holds, apartI, CellsAt, Nat.reduceAdd, Nat.zero_add, List.mem_cons, List.not_mem_nil, or_false, forall_eq_or_imp, forall_eq, ne_eq, false_imp_iff, implies_true, and_true] at hF))
              apply own_code hO
              (repeat (first | (with_reducible exact hO) | (with_reducible apply Own.alloc) | (with_reducible apply Own.drew) | ((with_reducible apply Own.set_at); (focus (show _ ≤ _; omega)))))
              have hG := hF; clear hF; clear hO; intro hO
              (try simp only [World.size_alloc1, World.size_drew, Nat.reduceAdd] at hO); (try simp only [upd, updI, List.map_cons, List.map_nil, eq_self, if_true, if_false, reduceIte, Nat.add_eq_left, Nat.left_eq_add, Nat.reduceEqDiff, List.set_cons_zero, List.set_cons_succ, hG] at hO); clear hG
              refine region_own (X := fun _ => True) [] (by kernel_rfl) (hO) (trivial) (by first | exact XStab.true | exact XStab.rd) ?_
              clear hO
              refine Sim.takeP (i := 0) (d := some 39) (v := ?_) rfl rfl (by kernel_rfl) (by kernel_rfl) (by kernel_rfl) (fun _ _ _ h => h) (by first | exact XStab.true | exact XStab.rd) ?_ ?_
              rotate_left
              · first | refine Or.inl ⟨by rfl, fun w => ?_⟩ | (refine Or.inr ⟨by rfl, ?_⟩; with_reducible rfl)
                first | done | (go_simp; all_goals with_reducible rfl)
              try simp only [Act.put, List.setIfInBounds_toArray, List.set_cons_zero, List.set_cons_succ]
              refine Sim.takeP (i := 1) (d := some 40) (v := ?_) rfl rfl (by kernel_rfl) (by kernel_rfl) (by kernel_rfl) (fun _ _ _ h => h) (by first | exact XStab.true | exact XStab.rd) ?_ ?_
              rotate_left
              · first | refine Or.inl ⟨by rfl, fun w => ?_⟩ | (refine Or.inr ⟨by rfl, ?_⟩; with_reducible rfl)
                first | done | (go_simp; all_goals with_reducible rfl)
              try simp only [Act.put, List.setIfInBounds_toArray, List.set_cons_zero, List.set_cons_succ]
              refine Sim.takeP (i := 2) (d := some 41) (v := ?_) rfl rfl (by kernel_rfl) (by kernel_rfl) (by kernel_rfl) (fun _ _ _ h => h) (by first | exact XStab.true | exact XStab.rd) ?_ ?_
              rotate_left
              · first | refine Or.inl ⟨by rfl, fun w => ?_⟩ | (refine Or.inr ⟨by rfl, ?_⟩; with_reducible rfl)
                first | done | (go_simp; all_goals with_reducible rfl)
              try simp only [Act.put, List.setIfInBounds_toArray, List.set_cons_zero, List.set_cons_succ]
              refine Sim.takeP (i := 3) (d := some 42) (v := ?_) rfl rfl (by kernel_rfl) (by kernel_rfl) (by kernel_rfl) (fun _ _ _ h => h) (by first | exact XStab.true | exact XStab.rd) ?_ ?_
              rotate_left
              · first | refine Or.inl ⟨by rfl, fun w => ?_⟩ | (refine Or.inr ⟨by rfl, ?_⟩; with_reducible rfl)
                first | done | (go_simp; all_goals with_reducible rfl)
              try simp only [Act.put, List.setIfInBounds_toArray, List.set_cons_zero, List.set_cons_succ]
              refine Sim.takeP (i := 4) (d := some 43) (v := ?_) rfl rfl (by kernel_rfl) (by kernel_rfl) (by kernel_rfl) (fun _ _ _ h => h) (by first | exact XStab.true | exact XStab.rd) ?_ ?_
              rotate_left
              · first | refine Or.inl ⟨by rfl, fun w => ?_⟩ | (refine Or.inr ⟨by rfl, ?_⟩; with_reducible rfl)
                first | done | (go_simp; all_goals with_reducible rfl)
              try simp only [Act.put, List.setIfInBounds_toArray, List.set_cons_zero, List.set_cons_succ]
              refine Sim.takeP (i := 5) (d := some 44) (v := ?_) rfl rfl (by kernel_rfl) (by kernel_rfl) (by kernel_rfl) (fun _ _ _ h => h) (by first | exact XStab.true | exact XStab.rd) ?_ ?_
              rotate_left
              · first | refine Or.inl ⟨by rfl, fun w => ?_⟩ | (refine Or.inr ⟨by rfl, ?_⟩; with_reducible rfl)
                first | done | (go_simp; all_goals with_reducible rfl)
              try simp only [Act.put, List.setIfInBounds_toArray, List.set_cons_zero, List.set_cons_succ]
              refine Sim.takeP (i := 6) (d := some 45) (v := ?_) rfl rfl (by kernel_rfl) (by kernel_rfl) (by kernel_rfl) (fun _ _ _ h => h) (by first | exact XStab.true | exact XStab.rd) ?_ ?_
              rotate_left
              · first | refine Or.inl ⟨by rfl, fun w => ?_⟩ | (refine Or.inr ⟨by rfl, ?_⟩; with_reducible rfl)
                first | done | (go_simp; all_goals with_reducible rfl)
              try simp only [Act.put, List.setIfInBounds_toArray, List.set_cons_zero, List.set_cons_succ]
              refine Sim.takeP (i := 7) (d := some 46) (v := ?_) rfl rfl (by kernel_rfl) (by kernel_rfl) (by kernel_rfl) (fun _ _ _ h => h) (by first | exact XStab.true | exact XStab.rd) ?_ ?_
              rotate_left
              · first | refine Or.inl ⟨by rfl, fun w => ?_⟩ | (refine Or.inr ⟨by rfl, ?_⟩; with_reducible rfl)
                first | done | (go_simp; all_goals with_reducible rfl)
              try simp only [Act.put, List.setIfInBounds_toArray, List.set_cons_zero, List.set_cons_succ]
              refine Sim.takeP (i := 8) (d := some 47) (v := ?_) rfl rfl (by kernel_rfl) (by kernel_rfl) (by kernel_rfl) (fun _ _ _ h => h) (by first | exact XStab.true | exact XStab.rd) ?_ ?_
              rotate_left
              · first | refine Or.inl ⟨by rfl, fun w => ?_⟩ | (refine Or.inr ⟨by rfl, ?_⟩; with_reducible rfl)
                first | done | (go_simp; all_goals with_reducible rfl)
              try simp only [Act.put, List.setIfInBounds_toArray, List.set_cons_zero, List.set_cons_succ]
              refine Sim.take (i := 9) (d := some 48) (v := ?_) rfl rfl (by kernel_rfl) (by kernel_rfl) (by kernel_rfl) (by kernel_rfl) (fun _ _ _ h => h) (by first | exact XStab.true | exact XStab.rd) ?_ ?_
              rotate_left
              · first | refine Or.inl ⟨by rfl, fun w hO => ?_⟩ | (refine Or.inr ⟨by rfl, ?_⟩; with_reducible rfl)
                first | done | (have hF := hO; (try simp only [Own, Item.Holds, apartI, CellsAt, Nat.reduceAdd, Nat.zero_add, List.mem_cons, List.not_mem_nil, or_false, forall_eq_or_imp, forall_eq, ne_eq, false_imp_iff, implies_true, and_true] at hF); ((have cb := hO.2.row_cell HP.out; have cr := hO.2.row_cell HC2.out)); refine Out.same ?_; go_simp; all_goals with_reducible rfl)
              try simp only [Act.put, List.setIfInBounds_toArray, List.set_cons_zero, List.set_cons_succ]
              refine Sim.takeP (i := 10) (d := some 49) (v := ?_) rfl rfl (by kernel_rfl) (by kernel_rfl) (by kernel_rfl) (fun _ _ _ h => h) (by first | exact XStab.true | exact XStab.rd) ?_ ?_
              rotate_left
              · first | refine Or.inl ⟨by rfl, fun w => ?_⟩ | (refine Or.inr ⟨by rfl, ?_⟩; with_reducible rfl)
                first | done | (go_simp; all_goals with_reducible rfl)
              try simp only [Act.put, List.setIfInBounds_toArray, List.set_cons_zero, List.set_cons_succ]
              refine Sim.takeP (i := 11) (d := some 50) (v := ?_) rfl rfl (by kernel_rfl) (by kernel_rfl) (by kernel_rfl) (fun _ _ _ h => h) (by first | exact XStab.true | exact XStab.rd) ?_ ?_
              rotate_left
              · first | refine Or.inl ⟨by rfl, fun w => ?_⟩ | (refine Or.inr ⟨by rfl, ?_⟩; with_reducible rfl)
                first | done | (go_simp; all_goals with_reducible rfl)
              try simp only [Act.put, List.setIfInBounds_toArray, List.set_cons_zero, List.set_cons_succ]
              refine Sim.takeP (i := 12) (d := some 51) (v := ?_) rfl rfl (by kernel_rfl) (by kernel_rfl) (by kernel_rfl) (fun _ _ _ h => h) (by first | exact XStab.true | exact XStab.rd) ?_ ?_
              rotate_left
              · first | refine Or.inl ⟨by rfl, fun w => ?_⟩ | (refine Or.inr ⟨by rfl, ?_⟩; with_reducible rfl)
                first | done | (go_simp; all_goals with_reducible rfl)
              try simp only [Act.put, List.setIfInBounds_toArray, List.set_cons_zero, List.set_cons_succ]
              refine Sim.take (i := 13) (d := some 52) (v := ?_) rfl rfl (by kernel_rfl) (by kernel_rfl) (by kernel_rfl) (by kernel_rfl) (fun _ _ _ h => h) (by first | exact XStab.true | exact XStab.rd) ?_ ?_
              rotate_left
              · first | refine Or.inl ⟨by rfl, fun w hO => ?_⟩ | (refine Or.inr ⟨by rfl, ?_⟩; with_reducible rfl)
                first | done | (have hF := hO; (try simp only [Own, Item.Holds, apartI, CellsAt, Nat.reduceAdd, Nat.zero_add, List.mem_cons, List.not_mem_nil, or_false, forall_eq_or_imp, forall_eq, ne_eq, false_imp_iff, implies_true, and_true] at hF); ((have cb := hO.2.row_cell HP.out; have cr := hO.2.row_cell HC2.out)); refine Out.same ?_; go_simp; all_goals with_reducible rfl)
              try simp only [Act.put, List.setIfInBounds_toArray, List.set_cons_zero, List.set_cons_succ]
              refine Sim.takeP (i := 14) (d := some 53) (v := ?_) rfl rfl (by kernel_rfl) (by kernel_rfl) (by kernel_rfl) (fun _ _ _ h => h) (by first | exact XStab.true | exact XStab.rd) ?_ ?_
              rotate_left
              · first | refine Or.inl ⟨by rfl, fun w => ?_⟩ | (refine Or.inr ⟨by rfl, ?_⟩; with_reducible rfl)
                first | done | (go_simp; all_goals with_reducible rfl)
              try simp only [Act.put, List.setIfInBounds_toArray, List.set_cons_zero, List.set_cons_succ]
              refine Sim.takeP (i := 15) (d := some 54) (v := ?_) rfl rfl (by kernel_rfl) (by kernel_rfl) (by kernel_rfl) (fun _ _ _ h => h) (by first | exact XStab.true | exact XStab.rd) ?_ ?_
              rotate_left
              · first | refine Or.inl ⟨by rfl, fun w => ?_⟩ | (refine Or.inr ⟨by rfl, ?_⟩; with_reducible rfl)
                first | done | (go_simp; all_goals with_reducible rfl)
              try simp only [Act.put, List.setIfInBounds_toArray, List.set_cons_zero, List.set_cons_succ]
              refine Sim.takeP (i := 16) (d := some 55) (v := ?_) rfl rfl (by kernel_rfl) (by kernel_rfl) (by kernel_rfl) (fun _ _ _ h => h) (by first | exact XStab.true | exact XStab.rd) ?_ ?_
              rotate_left
              · first | refine Or.inl ⟨by rfl, fun w => ?_⟩ | (refine Or.inr ⟨by rfl, ?_⟩; with_reducible rfl)
                first | done | (go_simp; all_goals with_reducible rfl)
              try simp only [Act.put, List.setIfInBounds_toArray, List.set_cons_zero, List.set_cons_succ]
              refine Sim.takeP (i := 17) (d := some 56) (v := ?_) rfl rfl (by kernel_rfl) (by kernel_rfl) (by kernel_rfl) (fun _ _ _ h => h) (by first | exact XStab.true | exact XStab.rd) ?_ ?_
              rotate_left
              · first | refine Or.inl ⟨by rfl, fun w => ?_⟩ | (refine Or.inr ⟨by rfl, ?_⟩; with_reducible rfl)
                first | done | (go_simp; all_goals with_reducible rfl)
              try simp only [Act.put, List.setIfInBounds_toArray, List.set_cons_zero, List.set_cons_succ]
              refine Sim.takeP (i := 18) (d := some 57) (v := ?_) rfl rfl (by kernel_rfl) (by kernel_rfl) (by kernel_rfl) (fun _ _ _ h => h) (by first | exact XStab.true | exact XStab.rd) ?_ ?_
              rotate_left
              · first | refine Or.inl ⟨by rfl, fun w => ?_⟩ | (refine Or.inr ⟨by rfl, ?_⟩; with_reducible rfl)
                first | done | (go_simp; all_goals with_reducible rfl)
              try simp only [Act.put, List.setIfInBounds_toArray, List.set_cons_zero, List.set_cons_succ]
              refine Sim.takeP (i := 19) (d := some 58) (v := ?_) rfl rfl (by kernel_rfl) (by kernel_rfl) (by kernel_rfl) (fun _ _ _ h => h) (by first | exact XStab.true | exact XStab.rd) ?_ ?_
              rotate_left
              · first | refine Or.inl ⟨by rfl, fun w => ?_⟩ | (refine Or.inr ⟨by rfl, ?_⟩; with_reducible rfl)
                first | done | (go_simp; all_goals with_reducible rfl)
              try simp only [Act.put, List.setIfInBounds_toArray, List.set_cons_zero, List.set_cons_succ]
              refine Sim.takeP (i := 20) (d := some 59) (v := ?_) rfl rfl (by kernel_rfl) (by kernel_rfl) (by kernel_rfl) (fun _ _ _ h => h) (by first | exact XStab.true | exact XStab.rd) ?_ ?_
              rotate_left
              · first | refine Or.inl ⟨by rfl, fun w => ?_⟩ | (refine Or.inr ⟨by rfl, ?_⟩; with_reducible rfl)
                first | done | (go_simp; all_goals with_reducible rfl)
              try simp only [Act.put, List.setIfInBounds_toArray, List.set_cons_zero, List.set_cons_succ]
              refine Sim.takeP (i := 21) (d := some 60) (v := ?_) rfl rfl (by kernel_rfl) (by kernel_rfl) (by kernel_rfl) (fun _ _ _ h => h) (by first | exact XStab.true | exact XStab.rd) ?_ ?_
              rotate_left
              · first | refine Or.inl ⟨by rfl, fun w => ?_⟩ | (refine Or.inr ⟨by rfl, ?_⟩; with_reducible rfl)
                first | done | (go_simp; all_goals with_reducible rfl)
              try simp only [Act.put, List.setIfInBounds_toArray, List.set_cons_zero, List.set_cons_succ]
              refine Sim.done (by kernel_rfl) (fun w1 hO hX => ?_) _
              (try simp only [World.size_alloc1, World.size_drew, Nat.reduceAdd] at hO); (try simp only [upd, updI, List.map_cons, List.map_nil, eq_self, if_true, if_false, reduceIte, Nat.add_eq_left, Nat.left_eq_add, Nat.reduceEqDiff, List.set_cons_zero, List.set_cons_succ] at hO)
              have hF := hO; (try simp only [Own, Item.Holds, apartI, CellsAt, Nat.reduceAdd, Nat.zero_add, List.mem_cons, List.not_mem_nil, or_false, forall_eq_or_imp, forall_eq, ne_eq, false_imp_iff, implies_true, and_true] at hF)
              go_wp2
              go_roundw
              case rel => exact ⟨k + 1, by omega, by go_num, by rw [R.out], hO⟩
              case measure => simp [intOf]; omega
            · have heq : p = fr - 1 := by simpa using hpe
              by_cases hxm : x < m
              · have R := hid (show nextK r (k + 1) = m by rw [HU.out, HS.out, if_pos ⟨hm, heq, hxm⟩])
                clear heq
                go_wp2_with (go_at_call 36; apply own_at hO; (repeat (first | (with_reducible exact hO) | (with_reducible apply Own.alloc) | (with_reducible apply Own.drew) | ((with_reducible apply Own.set_at); (focus (show _ ≤ _; omega))))); have hG := hF; clear hF; clear hO; intro hO; refine own_callO hO (fun hW => HL.out _) ?_; clear hO; intro w1 hO; (try simp only [World.size_alloc1, World.size_drew, Nat.reduceAdd] at hO); (try simp only [upd, updI, List.map_cons, List.map_nil, eq_self, if_true, if_false, reduceIte, Nat.add_eq_left, Nat.left_eq_add, Nat.reduceEqDiff, List.set_cons_zero, List.set_cons_succ, hG] at hO); clear hG; have hF := hO; (try simp only [Own, Item.Holds, apartI, CellsAt, Nat.reduceAdd, Nat.zero_add, List.mem_cons, List.not_mem_nil, or_false, forall_eq_or_imp, forall_eq, ne_eq, false_imp_iff, implies_true, and_true] at hF))
                apply own_code hO
                (repeat (first | (with_reducible exact hO) | (with_reducible apply Own.alloc) | (with_reducible apply Own.drew) | ((with_reducible apply Own.set_at); (focus (show _ ≤ _; omega)))))
                have hG := hF; clear hF; clear hO; intro hO
                (try simp only [World.size_alloc1, World.size_drew, Nat.reduceAdd] at hO); (try simp only [upd, updI, List.map_cons, List.map_nil, eq_self, if_true, if_false, reduceIte, Nat.add_eq_left, Nat.left_eq_add, Nat.reduceEqDiff, List.set_cons_zero, List.set_cons_succ, hG] at hO); clear hG
                refine region_own (X := fun _ => True) [] (by kernel_rfl) (hO) (trivial) (by first | exact XStab.true | exact XStab.rd) ?_
                clear hO
                refine Sim.takeP (i := 0) (d := some 39) (v := ?_) rfl rfl (by kernel_rfl) (by kernel_rfl) (by kernel_rfl) (fun _ _ _ h => h) (by first | exact XStab.true | exact XStab.rd) ?_ ?_
                rotate_left
                · first | refine Or.inl ⟨by rfl, fun w => ?_⟩ | (refine Or.inr ⟨by rfl, ?_⟩; with_reducible rfl)
                  first | done | (go_simp; all_goals with_reducible rfl)
                try simp only [Act.put, List.setIfInBounds_toArray, List.set_cons_zero, List.set_cons_succ]
                refine Sim.takeP (i := 1) (d := some 40) (v := ?_) rfl rfl (by kernel_rfl) (by kernel_rfl) (by kernel_rfl) (fun _ _ _ h => h) (by first | exact XStab.true | exact XStab.rd) ?_ ?_
                rotate_left
                · first | refine Or.inl ⟨by rfl, fun w => ?_⟩ | (refine Or.inr ⟨by rfl, ?_⟩; with_reducible rfl)
                  first | done | (go_simp; all_goals with_reducible rfl)
                try simp only [Act.put, List.setIfInBounds_toArray, List.set_cons_zero, List.set_cons_succ]
                refine Sim.takeP (i := 2) (d := some 41) (v := ?_) rfl rfl (by kernel_rfl) (by kernel_rfl) (by kernel_rfl) (fun _ _ _ h => h) (by first | exact XStab.true | exact XStab.rd) ?_ ?_
                rotate_left
                · first | refine Or.inl ⟨by rfl, fun w => ?_⟩ | (refine Or.inr ⟨by rfl, ?_⟩; with_reducible rfl)
                  first | done | (go_simp; all_goals with_reducible rfl)
                try simp only [Act.put, List.setIfInBounds_toArray, List.set_cons_zero, List.set_cons_succ]
                refine Sim.takeP (i := 3) (d := some 42) (v := ?_) rfl rfl (by kernel_rfl) (by kernel_rfl) (by kernel_rfl) (fun _ _ _ h => h) (by first | exact XStab.true | exact XStab.rd) ?_ ?_
                rotate_left
                · first | refine Or.inl ⟨by rfl, fun w => ?_⟩ | (refine Or.inr ⟨by rfl, ?_⟩; with_reducible rfl)
                  first | done | (go_simp; all_goals with_reducible rfl)
                try simp only [Act.put, List.setIfInBounds_toArray, List.set_cons_zero, List.set_cons_succ]
                refine Sim.takeP (i := 4) (d := some 43) (v := ?_) rfl rfl (by kernel_rfl) (by kernel_rfl) (by kernel_rfl) (fun _ _ _ h => h) (by first | exact XStab.true | exact XStab.rd) ?_ ?_
                rotate_left
                · first | refine Or.inl ⟨by rfl, fun w => ?_⟩ | (refine Or.inr ⟨by rfl, ?_⟩; with_reducible rfl)
                  first | done | (go_simp; all_goals with_reducible rfl)
                try simp only [Act.put, List.setIfInBounds_toArray, List.set_cons_zero, List.set_cons_succ]
                refine Sim.takeP (i := 5) (d := some 44) (v := ?_) rfl rfl (by kernel_rfl) (by kernel_rfl) (by kernel_rfl) (fun _ _ _ h => h) (by first | exact XStab.true | exact XStab.rd) ?_ ?_
                rotate_left
                · first | refine Or.inl ⟨by rfl, fun w => ?_⟩ | (refine Or.inr ⟨by rfl, ?_⟩; with_reducible rfl)
                  first | done | (go_simp; all_goals with_reducible rfl)
                try simp only [Act.put, List.setIfInBounds_toArray, List.set_cons_zero, List.set_cons_succ]
                refine Sim.takeP (i := 6) (d := some 45) (v := ?_) rfl rfl (by kernel_rfl) (by kernel_rfl) (by kernel_rfl) (fun _ _ _ h => h) (by first | exact XStab.true | exact XStab.rd) ?_ ?_
                rotate_left
                · first | refine Or.inl ⟨by rfl, fun w => ?_⟩ | (refine Or.inr ⟨by rfl, ?_⟩; with_reducible rfl)
                  first | done | (go_simp; all_goals with_reducible rfl)
                try simp only [Act.put, List.setIfInBounds_toArray, List.set_cons_zero, List.set_cons_succ]
                refine Sim.takeP (i := 7) (d := some 46) (v := ?_) rfl rfl (by kernel_rfl) (by kernel_rfl) (by kernel_rfl) (fun _ _ _ h => h) (by first | exact XStab.true | exact XStab.rd) ?_ ?_
                rotate_left
                · first | refine Or.inl ⟨by rfl, fun w => ?_⟩ | (refine Or.inr ⟨by rfl, ?_⟩; with_reducible rfl)
                  first | done | (go_simp; all_goals with_reducible rfl)
                try simp only [Act.put, List.setIfInBounds_toArray, List.set_cons_zero, List.set_cons_succ]
                refine Sim.takeP (i := 8) (d := some 47) (v := ?_) rfl rfl (by kernel_rfl) (by kernel_rfl) (by kernel_rfl) (fun _ _ _ h => h) (by first | exact XStab.true | exact XStab.rd) ?_ ?_
                rotate_left
                · first | refine Or.inl ⟨by rfl, fun w => ?_⟩ | (refine Or.inr ⟨by rfl, ?_⟩; with_reducible rfl)
                  first | done | (go_simp; all_goals with_reducible rfl)
                try simp only [Act.put, List.setIfInBounds_toArray, List.set_cons_zero, List.set_cons_succ]
                refine Sim.take (i := 9) (d := some 48) (v := ?_) rfl rfl (by kernel_rfl) (by kernel_rfl) (by kernel_rfl) (by kernel_rfl) (fun _ _ _ h => h) (by first | exact XStab.true | exact XStab.rd) ?_ ?_
                rotate_left
                · first | refine Or.inl ⟨by rfl, fun w hO => ?_⟩ | (refine Or.inr ⟨by rfl, ?_⟩; with_reducible rfl)
                  first | done | (have hF := hO; (try simp only [Own, Item.Holds, apartI, CellsAt, Nat.reduceAdd, Nat.zero_add, List.mem_cons, List.not_mem_nil, or_false, forall_eq_or_imp, forall_eq, ne_eq, false_imp_iff, implies_true, and_true] at hF); ((have cb := hO.2.row_cell HP.out; have cr := hO.2.row_cell HC2.out)); refine Out.same ?_; go_simp; all_goals with_reducible rfl)
                try simp only [Act.put, List.setIfInBounds_toArray, List.set_cons_zero, List.set_cons_succ]
                refine Sim.takeP (i := 10) (d := some 49) (v := ?_) rfl rfl (by kernel_rfl) (by kernel_rfl) (by kernel_rfl) (fun _ _ _ h => h) (by first | exact XStab.true | exact XStab.rd) ?_ ?_
                rotate_left
                · first | refine Or.inl ⟨by rfl, fun w => ?_⟩ | (refine Or.inr ⟨by rfl, ?_⟩; with_reducible rfl)
                  first | done | (go_simp; all_goals with_reducible rfl)
                try simp only [Act.put, List.setIfInBounds_toArray, List.set_cons_zero, List.set_cons_succ]
                refine Sim.takeP (i := 11) (d := some 50) (v := ?_) rfl rfl (by kernel_rfl) (by kernel_rfl) (by kernel_rfl) (fun _ _ _ h => h) (by first | exact XStab.true | exact XStab.rd) ?_ ?_
                rotate_left
                · first | refine Or.inl ⟨by rfl, fun w => ?_⟩ | (refine Or.inr ⟨by rfl, ?_⟩; with_reducible rfl)
                  first | done | (go_simp; all_goals with_reducible rfl)
                try simp only [Act.put, List.setIfInBounds_toArray, List.set_cons_zero, List.set_cons_succ]
                refine Sim.takeP (i := 12) (d := some 51) (v := ?_) rfl rfl (by kernel_rfl) (by kernel_rfl) (by kernel_rfl) (fun _ _ _ h => h) (by first | exact XStab.true | exact XStab.rd) ?_ ?_
                rotate_left
                · first | refine Or.inl ⟨by rfl, fun w => ?_⟩ | (refine Or.inr ⟨by rfl, ?_⟩; with_reducible rfl)
                  first | done | (go_simp; all_goals with_reducible rfl)
                try simp only [Act.put, List.setIfInBounds_toArray, List.set_cons_zero, List.set_cons_succ]
                refine Sim.take (i := 13) (d := some 52) (v := ?_) rfl rfl (by kernel_rfl) (by kernel_rfl) (by kernel_rfl) (by kernel_rfl) (fun _ _ _ h => h) (by first | exact XStab.true | exact XStab.rd) ?_ ?_
                rotate_left
                · first | refine Or.inl ⟨by rfl, fun w hO => ?_⟩ | (refine Or.inr ⟨by rfl, ?_⟩; with_reducible rfl)
                  first | done | (have hF := hO; (try simp only [Own, Item.Holds, apartI, CellsAt, Nat.reduceAdd, Nat.zero_add, List.mem_cons, List.not_mem_nil, or_false, forall_eq_or_imp, forall_eq, ne_eq, false_imp_iff, implies_true, and_true] at hF); ((have cb := hO.2.row_cell HP.out; have cr := hO.2.row_cell HC2.out)); refine Out.same ?_; go_simp; all_goals with_reducible rfl)
                try simp only [Act.put, List.setIfInBounds_toArray, List.set_cons_zero, List.set_cons_succ]
                refine Sim.takeP (i := 14) (d := some 53) (v := ?_) rfl rfl (by kernel_rfl) (by kernel_rfl) (by kernel_rfl) (fun _ _ _ h => h) (by first | exact XStab.true | exact XStab.rd) ?_ ?_
                rotate_left
                · first | refine Or.inl ⟨by rfl, fun w => ?_⟩ | (refine Or.inr ⟨by rfl, ?_⟩; with_reducible rfl)
                  first | done | (go_simp; all_goals with_reducible rfl)
                try simp only [Act.put, List.setIfInBounds_toArray, List.set_cons_zero, List.set_cons_succ]
                refine Sim.takeP (i := 15) (d := some 54) (v := ?_) rfl rfl (by kernel_rfl) (by kernel_rfl) (by kernel_rfl) (fun _ _ _ h => h) (by first | exact XStab.true | exact XStab.rd) ?_ ?_
                rotate_left
                · first | refine Or.inl ⟨by rfl, fun w => ?_⟩ | (refine Or.inr ⟨by rfl, ?_⟩; with_reducible rfl)
                  first | done | (go_simp; all_goals with_reducible rfl)
                try simp only [Act.put, List.setIfInBounds_toArray, List.set_cons_zero, List.set_cons_succ]
                refine Sim.takeP (i := 16) (d := some 55) (v := ?_) rfl rfl (by kernel_rfl) (by kernel_rfl) (by kernel_rfl) (fun _ _ _ h => h) (by first | exact XStab.true | exact XStab.rd) ?_ ?_
                rotate_left
                · first | refine Or.inl ⟨by rfl, fun w => ?_⟩ | (refine Or.inr ⟨by rfl, ?_⟩; with_reducible rfl)
                  first | done | (go_simp; all_goals with_reducible rfl)
                try simp only [Act.put, List.setIfInBounds_toArray, List.set_cons_zero, List.set_cons_succ]
                refine Sim.takeP (i := 17) (d := some 56) (v := ?_) rfl rfl (by kernel_rfl) (by kernel_rfl) (by kernel_rfl) (fun _ _ _ h => h) (by first | exact XStab.true | exact XStab.rd) ?_ ?_
                rotate_left
                · first | refine Or.inl ⟨by rfl, fun w => ?_⟩ | (refine Or.inr ⟨by rfl, ?_⟩; with_reducible rfl)
                  first | done | (go_simp; all_goals with_reducible rfl)
                try simp only [Act.put, List.setIfInBounds_toArray, List.set_cons_zero, List.set_cons_succ]
                refine Sim.takeP (i := 18) (d := some 57) (v := ?_) rfl rfl (by kernel_rfl) (by kernel_rfl) (by kernel_rfl) (fun _ _ _ h => h) (by first | exact XStab.true | exact XStab.rd) ?_ ?_
                rotate_left
                · first | refine Or.inl ⟨by rfl, fun w => ?_⟩ | (refine Or.inr ⟨by rfl, ?_⟩; with_reducible rfl)
                  first | done | (go_simp; all_goals with_reducible rfl)
                try simp only [Act.put, List.setIfInBounds_toArray, List.set_cons_zero, List.set_cons_succ]
                refine Sim.takeP (i := 19) (d := some 58) (v := ?_) rfl rfl (by kernel_rfl) (by kernel_rfl) (by kernel_rfl) (fun _ _ _ h => h) (by first | exact XStab.true | exact XStab.rd) ?_ ?_
                rotate_left
                · first | refine Or.inl ⟨by rfl, fun w => ?_⟩ | (refine Or.inr ⟨by rfl, ?_⟩; with_reducible rfl)
                  first | done | (go_simp; all_goals with_reducible rfl)
                try simp only [Act.put, List.setIfInBounds_toArray, List.set_cons_zero, List.set_cons_succ]
                refine Sim.takeP (i := 20) (d := some 59) (v := ?_) rfl rfl (by kernel_rfl) (by kernel_rfl) (by kernel_rfl) (fun _ _ _ h => h) (by first | exact XStab.true | exact XStab.rd) ?_ ?_
                rotate_left
                · first | refine Or.inl ⟨by rfl, fun w => ?_⟩ | (refine Or.inr ⟨by rfl, ?_⟩; with_reducible rfl)
                  first | done | (go_simp; all_goals with_reducible rfl)
                try simp only [Act.put, List.setIfInBounds_toArray, List.set_cons_zero, List.set_cons_succ]
                refine Sim.takeP (i := 21) (d := some 60) (v := ?_) rfl rfl (by kernel_rfl) (by kernel_rfl) (by kernel_rfl) (fun _ _ _ h => h) (by first | exact XStab.true | exact XStab.rd) ?_ ?_
                rotate_left
                · first | refine Or.inl ⟨by rfl, fun w => ?_⟩ | (refine Or.inr ⟨by rfl, ?_⟩; with_reducible rfl)
                  first | done | (go_simp; all_goals with_reducible rfl)
                try simp only [Act.put, List.setIfInBounds_toArray, List.set_cons_zero, List.set_cons_succ]
                refine Sim.done (by kernel_rfl) (fun w1 hO hX => ?_) _
                (try simp only [World.size_alloc1, World.size_drew, Nat.reduceAdd] at hO); (try simp only [upd, updI, List.map_cons, List.map_nil, eq_self, if_true, if_false, reduceIte, Nat.add_eq_left, Nat.left_eq_add, Nat.reduceEqDiff, List.set_cons_zero, List.set_cons_succ] at hO)
                have hF := hO; (try simp only [Own, Item.Holds, apartI, CellsAt, Nat.reduceAdd, Nat.zero_add, List.mem_cons, List.not_mem_nil, or_false, forall_eq_or_imp, forall_eq, ne_eq, false_imp_iff, implies_true, and_true] at hF)
                go_wp2
                go_roundw
                case rel => exact ⟨k + 1, by omega, by go_num, by rw [R.out], hO⟩
                case measure => simp [intOf]; omega
              · have R := hid (show nextK r (k + 1) = x by rw [HU.out, HS.out, if_neg (fun h => hxm h.2.2)])
                have hxd : decide (x < m) = false := by simp; omega
                clear heq
                go_wp2_with (go_at_call 36; apply own_at hO; (repeat (first | (with_reducible exact hO) | (with_reducible apply Own.alloc) | (with_reducible apply Own.drew) | ((with_reducible apply Own.set_at); (focus (show _ ≤ _; omega))))); have hG := hF; clear hF; clear hO; intro hO; refine own_callO hO (fun hW => HL.out _) ?_; clear hO; intro w1 hO; (try simp only [World.size_alloc1, World.size_drew, Nat.reduceAdd] at hO); (try simp only [upd, updI, List.map_cons, List.map_nil, eq_self, if_true, if_false, reduceIte, Nat.add_eq_left, Nat.left_eq_add, Nat.reduceEqDiff, List.set_cons_zero, List.set_cons_succ, hG] at hO); clear hG; have hF := hO; (try simp only [Own, Item.Holds, apartI, CellsAt, Nat.reduceAdd, Nat.zero_add, List.mem_cons, List.not_mem_nil, or_false, forall_eq_or_imp, forall_eq, ne_eq, false_imp_iff, implies_true, and_true] at hF))
                apply own_code hO
                (repeat (first | (with_reducible exact hO) | (with_reducible apply Own.alloc) | (with_reducible apply Own.drew) | ((with_reducible apply Own.set_at); (focus (show _ ≤ _; omega)))))
                have hG := hF; clear hF; clear hO; intro hO
                (try simp only [World.size_alloc1, World.size_drew, Nat.reduceAdd] at hO); (try simp only [upd, updI, List.map_cons, List.map_nil, eq_self, if_true, if_false, reduceIte, Nat.add_eq_left, Nat.left_eq_add, Nat.reduceEqDiff, List.set_cons_zero, List.set_cons_succ, hG] at hO); clear hG
                refine region_own (X := fun _ => True) [] (by kernel_rfl) (hO) (trivial) (by first | exact XStab.true | exact XStab.rd) ?_
                clear hO
                refine Sim.takeP (i := 0) (d := some 39) (v := ?_) rfl rfl (by kernel_rfl) (by kernel_rfl) (by kernel_rfl) (fun _ _ _ h => h) (by first | exact XStab.true | exact XStab.rd) ?_ ?_
                rotate_left
                · first | refine Or.inl ⟨by rfl, fun w => ?_⟩ | (refine Or.inr ⟨by rfl, ?_⟩; with_reducible rfl)
                  first | done | (go_simp; all_goals with_reducible rfl)
                try simp only [Act.put, List.setIfInBounds_toArray, List.set_cons_zero, List.set_cons_succ]
                refine Sim.takeP (i := 1) (d := some 40) (v := ?_) rfl rfl (by kernel_rfl) (by kernel_rfl) (by kernel_rfl) (fun _ _ _ h => h) (by first | exact XStab.true | exact XStab.rd) ?_ ?_
                rotate_left
                · first | refine Or.inl ⟨by rfl, fun w => ?_⟩ | (refine Or.inr ⟨by rfl, ?_⟩; with_reducible rfl)
                  first | done | (go_simp; all_goals with_reducible rfl)
                try simp only [Act.put, List.setIfInBounds_toArray, List.set_cons_zero, List.set_cons_succ]
                refine Sim.takeP (i := 2) (d := some 41) (v := ?_) rfl rfl (by kernel_rfl) (by kernel_rfl) (by kernel_rfl) (fun _ _ _ h => h) (by first | exact XStab.true | exact XStab.rd) ?_ ?_
                rotate_left
                · first | refine Or.inl ⟨by rfl, fun w => ?_⟩ | (refine Or.inr ⟨by rfl, ?_⟩; with_reducible rfl)
                  first | done | (go_simp; all_goals with_reducible rfl)
                try simp only [Act.put, List.setIfInBounds_toArray, List.set_cons_zero, List.set_cons_succ]
                refine Sim.takeP (i := 3) (d := some 42) (v := ?_) rfl rfl (by kernel_rfl) (by kernel_rfl) (by kernel_rfl) (fun _ _ _ h => h) (by first | exact XStab.true | exact XStab.rd) ?_ ?_
                rotate_left
                · first | refine Or.inl ⟨by rfl, fun w => ?_⟩ | (refine Or.inr ⟨by rfl, ?_⟩; with_reducible rfl)
                  first | done | (go_simp; all_goals with_reducible rfl)
                try simp only [Act.put, List.setIfInBounds_toArray, List.set_cons_zero, List.set_cons_succ]
                refine Sim.takeP (i := 4) (d := some 43) (v := ?_) rfl rfl (by kernel_rfl) (by kernel_rfl) (by kernel_rfl) (fun _ _ _ h => h) (by first | exact XStab.true | exact XStab.rd) ?_ ?_
                rotate_left
                · first | refine Or.inl ⟨by rfl, fun w => ?_⟩ | (refine Or.inr ⟨by rfl, ?_⟩; with_reducible rfl)
                  first | done | (go_simp; all_goals with_reducible rfl)
                try simp only [Act.put, List.setIfInBounds_toArray, List.set_cons_zero, List.set_cons_succ]
                refine Sim.takeP (i := 5) (d := some 44) (v := ?_) rfl rfl (by kernel_rfl) (by kernel_rfl) (by kernel_rfl) (fun _ _ _ h => h) (by first | exact XStab.true | exact XStab.rd) ?_ ?_
                rotate_left
                · first | refine Or.inl ⟨by rfl, fun w => ?_⟩ | (refine Or.inr ⟨by rfl, ?_⟩; with_reducible rfl)
                  first | done | (go_simp; all_goals with_reducible rfl)
                try simp only [Act.put, List.setIfInBounds_toArray, List.set_cons_zero, List.set_cons_succ]
                refine Sim.takeP (i := 6) (d := some 45) (v := ?_) rfl rfl (by kernel_rfl) (by kernel_rfl) (by kernel_rfl) (fun _ _ _ h => h) (by first | exact XStab.true | exact XStab.rd) ?_ ?_
                rotate_left
                · first | refine Or.inl ⟨by rfl, fun w => ?_⟩ | (refine Or.inr ⟨by rfl, ?_⟩; with_reducible rfl)
                  first | done | (go_simp; all_goals with_reducible rfl)
                try simp only [Act.put, List.setIfInBounds_toArray, List.set_cons_zero, List.set_cons_succ]
                refine Sim.takeP (i := 7) (d := some 46) (v := ?_) rfl rfl (by kernel_rfl) (by kernel_rfl) (by kernel_rfl) (fun _ _ _ h => h) (by first | exact XStab.true | exact XStab.rd) ?_ ?_
                rotate_left
                · first | refine Or.inl ⟨by rfl, fun w => ?_⟩ | (refine Or.inr ⟨by rfl, ?_⟩; with_reducible rfl)
                  first | done | (go_simp; all_goals with_reducible rfl)
                try simp only [Act.put, List.setIfInBounds_toArray, List.set_cons_zero, List.set_cons_succ]
                refine Sim.takeP (i := 8) (d := some 47) (v := ?_) rfl rfl (by kernel_rfl) (by kernel_rfl) (by kernel_rfl) (fun _ _ _ h => h) (by first | exact XStab.true | exact XStab.rd) ?_ ?_
                rotate_left
                · first | refine Or.inl ⟨by rfl, fun w => ?_⟩ | (refine Or.inr ⟨by rfl, ?_⟩; with_reducible rfl)
                  first | done | (go_simp; all_goals with_reducible rfl)
                try simp only [Act.put, List.setIfInBounds_toArray, List.set_cons_zero, List.set_cons_succ]
                refine Sim.take (i := 9) (d := some 48) (v := ?_) rfl rfl (by kernel_rfl) (by kernel_rfl) (by kernel_rfl) (by kernel_rfl) (fun _ _ _ h => h) (by first | exact XStab.true | exact XStab.rd) ?_ ?_
                rotate_left
                · first | refine Or.inl ⟨by rfl, fun w hO => ?_⟩ | (refine Or.inr ⟨by rfl, ?_⟩; with_reducible rfl)
                  first | done | (have hF := hO; (try simp only [Own, Item.Holds, apartI, CellsAt, Nat.reduceAdd, Nat.zero_add, List.mem_cons, List.not_mem_nil, or_false, forall_eq_or_imp, forall_eq, ne_eq, false_imp_iff, implies_true, and_true] at hF); ((have cb := hO.2.row_cell HP.out; have cr := hO.2.row_cell HC2.out)); refine Out.same ?_; go_simp; all_goals with_reducible rfl)
                try simp only [Act.put, List.setIfInBounds_toArray, List.set_cons_zero, List.set_cons_succ]
                refine Sim.takeP (i := 10) (d := some 49) (v := ?_) rfl rfl (by kernel_rfl) (by kernel_rfl) (by kernel_rfl) (fun _ _ _ h => h) (by first | exact XStab.true | exact XStab.rd) ?_ ?_
                rotate_left
                · first | refine Or.inl ⟨by rfl, fun w => ?_⟩ | (refine Or.inr ⟨by rfl, ?_⟩; with_reducible rfl)
                  first | done | (go_simp; all_goals with_reducible rfl)
                try simp only [Act.put, List.setIfInBounds_toArray, List.set_cons_zero, List.set_cons_succ]
                refine Sim.takeP (i := 11) (d := some 50) (v := ?_) rfl rfl (by kernel_rfl) (by kernel_rfl) (by kernel_rfl) (fun _ _ _ h => h) (by first | exact XStab.true | exact XStab.rd) ?_ ?_
                rotate_left
                · first | refine Or.inl ⟨by rfl, fun w => ?_⟩ | (refine Or.inr ⟨by rfl, ?_⟩; with_reducible rfl)
                  first | done | (go_simp; all_goals with_reducible rfl)
                try simp only [Act.put, List.setIfInBounds_toArray, List.set_cons_zero, List.set_cons_succ]
                refine Sim.takeP (i := 12) (d := some 51) (v := ?_) rfl rfl (by kernel_rfl) (by kernel_rfl) (by kernel_rfl) (fun _ _ _ h => h) (by first | exact XStab.true | exact XStab.rd) ?_ ?_
                rotate_left
                · first | refine Or.inl ⟨by rfl, fun w => ?_⟩ | (refine Or.inr ⟨by rfl, ?_⟩; with_reducible rfl)
                  first | done | (go_simp; all_goals with_reducible rfl)
                try simp only [Act.put, List.setIfInBounds_toArray, List.set_cons_zero, List.set_cons_succ]
                refine Sim.take (i := 13) (d := some 52) (v := ?_) rfl rfl (by kernel_rfl) (by kernel_rfl) (by kernel_rfl) (by kernel_rfl) (fun _ _ _ h => h) (by first | exact XStab.true | exact XStab.rd) ?_ ?_
                rotate_left
                · first | refine Or.inl ⟨by rfl, fun w hO => ?_⟩ | (refine Or.inr ⟨by rfl, ?_⟩; with_reducible rfl)
                  first | done | (have hF := hO; (try simp only [Own, Item.Holds, apartI, CellsAt, Nat.reduceAdd, Nat.zero_add, List.mem_cons, List.not_mem_nil, or_false, forall_eq_or_imp, forall_eq, ne_eq, false_imp_iff, implies_true, and_true] at hF); ((have cb := hO.2.row_cell HP.out; have cr := hO.2.row_cell HC2.out)); refine Out.same ?_; go_simp; all_goals with_reducible rfl)
                try simp only [Act.put, List.setIfInBounds_toArray, List.set_cons_zero, List.set_cons_succ]
                refine Sim.takeP (i := 14) (d := some 53) (v := ?_) rfl rfl (by kernel_rfl) (by kernel_rfl) (by kernel_rfl) (fun _ _ _ h => h) (by first | exact XStab.true | exact XStab.rd) ?_ ?_
                rotate_left
                · first | refine Or.inl ⟨by rfl, fun w => ?_⟩ | (refine Or.inr ⟨by rfl, ?_⟩; with_reducible rfl)
                  first | done | (go_simp; all_goals with_reducible rfl)
                try simp only [Act.put, List.setIfInBounds_toArray, List.set_cons_zero, List.set_cons_succ]
                refine Sim.takeP (i := 15) (d := some 54) (v := ?_) rfl rfl (by kernel_rfl) (by kernel_rfl) (by kernel_rfl) (fun _ _ _ h => h) (by first | exact XStab.true | exact XStab.rd) ?_ ?_
                rotate_left
                · first | refine Or.inl ⟨by rfl, fun w => ?_⟩ | (refine Or.inr ⟨by rfl, ?_⟩; with_reducible rfl)
                  first | done | (go_simp; all_goals with_reducible rfl)
                try simp only [Act.put, List.setIfInBounds_toArray, List.set_cons_zero, List.set_cons_succ]
                refine Sim.takeP (i := 16) (d := some 55) (v := ?_) rfl rfl (by kernel_rfl) (by kernel_rfl) (by kernel_rfl) (fun _ _ _ h => h) (by first | exact XStab.true | exact XStab.rd) ?_ ?_
                rotate_left
                · first | refine Or.inl ⟨by rfl, fun w => ?_⟩ | (refine Or.inr ⟨by rfl, ?_⟩; with_reducible rfl)
                  first | done | (go_simp; all_goals with_reducible rfl)
                try simp only [Act.put, List.setIfInBounds_toArray, List.set_cons_zero, List.set_cons_succ]
                refine Sim.takeP (i := 17) (d := some 56) (v := ?_) rfl rfl (by kernel_rfl) (by kernel_rfl) (by kernel_rfl) (fun _ _ _ h => h) (by first | exact XStab.true | exact XStab.rd) ?_ ?_
                rotate_left
                · first | refine Or.inl ⟨by rfl, fun w => ?_⟩ | (refine Or.inr ⟨by rfl, ?_⟩; with_reducible rfl)
                  first | done | (go_simp; all_goals with_reducible rfl)
                try simp only [Act.put, List.setIfInBounds_toArray, List.set_cons_zero, List.set_cons_succ]
                refine Sim.takeP (i := 18) (d := some 57) (v := ?_) rfl rfl (by kernel_rfl) (by kernel_rfl) (by kernel_rfl) (fun _ _ _ h => h) (by first | exact XStab.true | exact XStab.rd) ?_ ?_
                rotate_left
                · first | refine Or.inl ⟨by rfl, fun w => ?_⟩ | (refine Or.inr ⟨by rfl, ?_⟩; with_reducible rfl)
                  first | done | (go_simp; all_goals with_reducible rfl)
                try simp only [Act.put, List.setIfInBounds_toArray, List.set_cons_zero, List.set_cons_succ]
                refine Sim.takeP (i := 19) (d := some 58) (v := ?_) rfl rfl (by kernel_rfl) (by kernel_rfl) (by kernel_rfl) (fun _ _ _ h => h) (by first | exact XStab.true | exact XStab.rd) ?_ ?_
                rotate_left
                · first | refine Or.inl ⟨by rfl, fun w => ?_⟩ | (refine Or.inr ⟨by rfl, ?_⟩; with_reducible rfl)
                  first | done | (go_simp; all_goals with_reducible rfl)
                try simp only [Act.put, List.setIfInBounds_toArray, List.set_cons_zero, List.set_cons_succ]
                refine Sim.takeP (i := 20) (d := some 59) (v := ?_) rfl rfl (by kernel_rfl) (by kernel_rfl) (by kernel_rfl) (fun _ _ _ h => h) (by first | exact XStab.true | exact XStab.rd) ?_ ?_
                rotate_left
                · first | refine Or.inl ⟨by rfl, fun w => ?_⟩ | (refine Or.inr ⟨by rfl, ?_⟩; with_reducible rfl)
                  first | done | (go_simp; all_goals with_reducible rfl)
                try simp only [Act.put, List.setIfInBounds_toArray, List.set_cons_zero, List.set_cons_succ]
                refine Sim.takeP (i := 21) (d := some 60) (v := ?_) rfl rfl (by kernel_rfl) (by kernel_rfl) (by kernel_rfl) (fun _ _ _ h => h) (by first | exact XStab.true | exact XStab.rd) ?_ ?_
                rotate_left
                · first | refine Or.inl ⟨by rfl, fun w => ?_⟩ | (refine Or.inr ⟨by rfl, ?_⟩; with_reducible rfl)
                  first | done | (go_simp; all_goals with_reducible rfl)
                try simp only [Act.put, List.setIfInBounds_toArray, List.set_cons_zero, List.set_cons_succ]
                refine Sim.done (by kernel_rfl) (fun w1 hO hX => ?_) _
                (try simp only [World.size_alloc1, World.size_drew, Nat.reduceAdd] at hO); (try simp only [upd, updI, List.map_cons, List.map_nil, eq_self, if_true, if_false, reduceIte, Nat.add_eq_left, Nat.left_eq_add, Nat.reduceEqDiff, List.set_cons_zero, List.set_cons_succ] at hO)
                have hF := hO; (try simp only [Own, Item.Holds, apartI, CellsAt, Nat.reduceAdd, Nat.zero_add, List.mem_cons, List.not_mem_nil, or_false, forall_eq_or_imp, forall_eq, ne_eq, false_imp_iff, implies_true, and_true] at hF)
                go_wp2
                go_roundw
                case rel => exact ⟨k + 1, by omega, by go_num, by rw [R.out], hO⟩
                case measure => simp [intOf]; omega
          · have R := hid (show nextK r (k + 1) = x by rw [HU.out, nextS, if_neg (fun h => hm h.1)])
            have hmd : decide (m ≤ (r : Int)) = false := by simp; omega
            go_wp2_with (go_at_call 36; apply own_at hO; (repeat (first | (with_reducible exact hO) | (with_reducible apply Own.alloc) | (with_reducible apply Own.drew) | ((with_reducible apply Own.set_at); (focus (show _ ≤ _; omega))))); have hG := hF; clear hF; clear hO; intro hO; refine own_callO hO (fun hW => HL.out _) ?_; clear hO; intro w1 hO; (try simp only [World.size_alloc1, World.size_drew, Nat.reduceAdd] at hO); (try simp only [upd, updI, List.map_cons, List.map_nil, eq_self, if_true, if_false, reduceIte, Nat.add_eq_left, Nat.left_eq_add, Nat.reduceEqDiff, List.set_cons_zero, List.set_cons_succ, hG] at hO); clear hG; have hF := hO; (try simp only [Own, Item.Holds, apartI, CellsAt, Nat.reduceAdd, Nat.zero_add, List.mem_cons, List.not_mem_nil, or_false, forall_eq_or_imp, forall_eq, ne_eq, false_imp_iff, implies_true, and_true] at hF))
            apply own_code hO
            (repeat (first | (with_reducible exact hO) | (with_reducible apply Own.alloc) | (with_reducible apply Own.drew) | ((with_reducible apply Own.set_at); (focus (show _ ≤ _; omega)))))
            have hG := hF; clear hF; clear hO; intro hO
            (try simp only [World.size_alloc1, World.size_drew, Nat.reduceAdd] at hO); (try simp only [upd, updI, List.map_cons, List.map_nil, eq_self, if_true, if_false, reduceIte, Nat.add_eq_left, Nat.left_eq_add, Nat.reduceEqDiff, List.set_cons_zero, List.set_cons_succ, hG] at hO); clear hG
            refine region_own (X := fun _ => True) [] (by kernel_rfl) (hO) (trivial) (by first | exact XStab.true | exact XStab.rd) ?_
            clear hO
            refine Sim.takeP (i := 0) (d := some 39) (v := ?_) rfl rfl (by kernel_rfl) (by kernel_rfl) (by kernel_rfl) (fun _ _ _ h => h) (by first | exact XStab.true | exact XStab.rd) ?_ ?_
            rotate_left
            · first | refine Or.inl ⟨by rfl, fun w => ?_⟩ | (refine Or.inr ⟨by rfl, ?_⟩; with_reducible rfl)
              first | done | (go_simp; all_goals with_reducible rfl)
            try simp only [Act.put, List.setIfInBounds_toArray, List.set_cons_zero, List.set_cons_succ]
            refine Sim.takeP (i := 1) (d := some 40) (v := ?_) rfl rfl (by kernel_rfl) (by kernel_rfl) (by kernel_rfl) (fun _ _ _ h => h) (by first | exact XStab.true | exact XStab.rd) ?_ ?_
            rotate_left
            · first | refine Or.inl ⟨by rfl, fun w => ?_⟩ | (refine Or.inr ⟨by rfl, ?_⟩; with_reducible rfl)
              first | done | (go_simp; all_goals with_reducible rfl)
            try simp only [Act.put, List.setIfInBounds_toArray, List.set_cons_zero, List.set_cons_succ]
            refine Sim.takeP (i := 2) (d := some 41) (v := ?_) rfl rfl (by kernel_rfl) (by kernel_rfl) (by kernel_rfl) (fun _ _ _ h => h) (by first | exact XStab.true | exact XStab.rd) ?_ ?_
            rotate_left
            · first | refine Or.inl ⟨by rfl, fun w => ?_⟩ | (refine Or.inr ⟨by rfl, ?_⟩; with_reducible rfl)
              first | done | (go_simp; all_goals with_reducible rfl)
            try simp only [Act.put, List.setIfInBounds_toArray, List.set_cons_zero, List.set_cons_succ]
            refine Sim.takeP (i := 3) (d := some 42) (v := ?_) rfl rfl (by kernel_rfl) (by kernel_rfl) (by kernel_rfl) (fun _ _ _ h => h) (by first | exact XStab.true | exact XStab.rd) ?_ ?_
            rotate_left
            · first | refine Or.inl ⟨by rfl, fun w => ?_⟩ | (refine Or.inr ⟨by rfl, ?_⟩; with_reducible rfl)
              first | done | (go_simp; all_goals with_reducible rfl)
            try simp only [Act.put, List.setIfInBounds_toArray, List.set_cons_zero, List.set_cons_succ]
            refine Sim.takeP (i := 4) (d := some 43) (v := ?_) rfl rfl (by kernel_rfl) (by kernel_rfl) (by kernel_rfl) (fun _ _ _ h => h) (by first | exact XStab.true | exact XStab.rd) ?_ ?_
            rotate_left
            · first | refine Or.inl ⟨by rfl, fun w => ?_⟩ | (refine Or.inr ⟨by rfl, ?_⟩; with_reducible rfl)
              first | done | (go_simp; all_goals with_reducible rfl)
            try simp only [Act.put, List.setIfInBounds_toArray, List.set_cons_zero, List.set_cons_succ]
            refine Sim.takeP (i := 5) (d := some 44) (v := ?_) rfl rfl (by kernel_rfl) (by kernel_rfl) (by kernel_rfl) (fun _ _ _ h => h) (by first | exact XStab.true | exact XStab.rd) ?_ ?_
            rotate_left
            · first | refine Or.inl ⟨by rfl, fun w => ?_⟩ | (refine Or.inr ⟨by rfl, ?_⟩; with_reducible rfl)
              first | done | (go_simp; all_goals with_reducible rfl)
            try simp only [Act.put, List.setIfInBounds_toArray, List.set_cons_zero, List.set_cons_succ]
            refine Sim.takeP (i := 6) (d := some 45) (v := ?_) rfl rfl (by kernel_rfl) (by kernel_rfl) (by kernel_rfl) (fun _ _ _ h => h) (by first | exact XStab.true | exact XStab.rd) ?_ ?_
            rotate_left
            · first | refine Or.inl ⟨by rfl, fun w => ?_⟩ | (refine Or.inr ⟨by rfl, ?_⟩; with_reducible rfl)
              first | done | (go_simp; all_goals with_reducible rfl)
            try simp only [Act.put, List.setIfInBounds_toArray, List.set_cons_zero, List.set_cons_succ]
            refine Sim.takeP (i := 7) (d := some 46) (v := ?_) rfl rfl (by kernel_rfl) (by kernel_rfl) (by kernel_rfl) (fun _ _ _ h => h) (by first | exact XStab.true | exact XStab.rd) ?_ ?_
            rotate_left
            · first | refine Or.inl ⟨by rfl, fun w => ?_⟩ | (refine Or.inr ⟨by rfl, ?_⟩; with_reducible rfl)
              first | done | (go_simp; all_goals with_reducible rfl)
            try simp only [Act.put, List.setIfInBounds_toArray, List.set_cons_zero, List.set_cons_succ]
            refine Sim.takeP (i := 8) (d := some 47) (v := ?_) rfl rfl (by kernel_rfl) (by kernel_rfl) (by kernel_rfl) (fun _ _ _ h => h) (by first | exact XStab.true | exact XStab.rd) ?_ ?_
            rotate_left
            · first | refine Or.inl ⟨by rfl, fun w => ?_⟩ | (refine Or.inr ⟨by rfl, ?_⟩; with_reducible rfl)
              first | done | (go_simp; all_goals with_reducible rfl)
            try simp only [Act.put, List.setIfInBounds_toArray, List.set_cons_zero, List.set_cons_succ]
            refine Sim.take (i := 9) (d := some 48) (v := ?_) rfl rfl (by kernel_rfl) (by kernel_rfl) (by kernel_rfl) (by kernel_rfl) (fun _ _ _ h => h) (by first | exact XStab.true | exact XStab.rd) ?_ ?_
            rotate_left
            · first | refine Or.inl ⟨by rfl, fun w hO => ?_⟩ | (refine Or.inr ⟨by rfl, ?_⟩; with_reducible rfl)
              first | done | (have hF := hO; (try simp only [Own, Item.Holds, apartI, CellsAt, Nat.reduceAdd, Nat.zero_add, List.mem_cons, List.not_mem_nil, or_false, forall_eq_or_imp, forall_eq, ne_eq, false_imp_iff, implies_true, and_true] at hF); ((have cr := hO.2.row_cell HC2.out)); refine Out.same ?_; go_simp; all_goals with_reducible rfl)
            try simp only [Act.put, List.setIfInBounds_toArray, List.set_cons_zero, List.set_cons_succ]
            refine Sim.takeP (i := 10) (d := some 49) (v := ?_) rfl rfl (by kernel_rfl) (by kernel_rfl) (by kernel_rfl) (fun _ _ _ h => h) (by first | exact XStab.true | exact XStab.rd) ?_ ?_
            rotate_left
            · first | refine Or.inl ⟨by rfl, fun w => ?_⟩ | (refine Or.inr ⟨by rfl, ?_⟩; with_reducible rfl)
              first | done | (go_simp; all_goals with_reducible rfl)
            try simp only [Act.put, List.setIfInBounds_toArray, List.set_cons_zero, List.set_cons_succ]
            refine Sim.takeP (i := 11) (d := some 50) (v := ?_) rfl rfl (by kernel_rfl) (by kernel_rfl) (by kernel_rfl) (fun _ _ _ h => h) (by first | exact XStab.true | exact XStab.rd) ?_ ?_
            rotate_left
            · first | refine Or.inl ⟨by rfl, fun w => ?_⟩ | (refine Or.inr ⟨by rfl, ?_⟩; with_reducible rfl)
              first | done | (go_simp; all_goals with_reducible rfl)
            try simp only [Act.put, List.setIfInBounds_toArray, List.set_cons_zero, List.set_cons_succ]
            refine Sim.takeP (i := 12) (d := some 51) (v := ?_) rfl rfl (by kernel_rfl) (by kernel_rfl) (by kernel_rfl) (fun _ _ _ h => h) (by first | exact XStab.true | exact XStab.rd) ?_ ?_
            rotate_left
            · first | refine Or.inl ⟨by rfl, fun w => ?_⟩ | (refine Or.inr ⟨by rfl, ?_⟩; with_reducible rfl)
              first | done | (go_simp; all_goals with_reducible rfl)
            try simp only [Act.put, List.setIfInBounds_toArray, List.set_cons_zero, List.set_cons_succ]
            refine Sim.take (i := 13) (d := some 52) (v := ?_) rfl rfl (by kernel_rfl) (by kernel_rfl) (by kernel_rfl) (by kernel_rfl) (fun _ _ _ h => h) (by first | exact XStab.true | exact XStab.rd) ?_ ?_
            rotate_left
            · first | refine Or.inl ⟨by rfl, fun w hO => ?_⟩ | (refine Or.inr ⟨by rfl, ?_⟩; with_reducible rfl)
              first | done | (have hF := hO; (try simp only [Own, Item.Holds, apartI, CellsAt, Nat.reduceAdd, Nat.zero_add, List.mem_cons, List.not_mem_nil, or_false, forall_eq_or_imp, forall_eq, ne_eq, false_imp_iff, implies_true, and_true] at hF); ((have cr := hO.2.row_cell HC2.out)); refine Out.same ?_; go_simp; all_goals with_reducible rfl)
            try simp only [Act.put, List.setIfInBounds_toArray, List.set_cons_zero, List.set_cons_succ]
            refine Sim.takeP (i := 14) (d := some 53) (v := ?_) rfl rfl (by kernel_rfl) (by kernel_rfl) (by kernel_rfl) (fun _ _ _ h => h) (by first | exact XStab.true | exact XStab.rd) ?_ ?_
            rotate_left
            · first | refine Or.inl ⟨by rfl, fun w => ?_⟩ | (refine Or.inr ⟨by rfl, ?_⟩; with_reducible rfl)
              first | done | (go_simp; all_goals with_reducible rfl)
            try simp only [Act.put, List.setIfInBounds_toArray, List.set_cons_zero, List.set_cons_succ]
            refine Sim.takeP (i := 15) (d := some 54) (v := ?_) rfl rfl (by kernel_rfl) (by kernel_rfl) (by kernel_rfl) (fun _ _ _ h => h) (by first | exact XStab.true | exact XStab.rd) ?_ ?_
            rotate_left
            · first | refine Or.inl ⟨by rfl, fun w => ?_⟩ | (refine Or.inr ⟨by rfl, ?_⟩; with_reducible rfl)
              first | done | (go_simp; all_goals with_reducible rfl)
            try simp only [Act.put, List.setIfInBounds_toArray, List.set_cons_zero, List.set_cons_succ]
            refine Sim.takeP (i := 16) (d := some 55) (v := ?_) rfl rfl (by kernel_rfl) (by kernel_rfl) (by kernel_rfl) (fun _ _ _ h => h) (by first | exact XStab.true | exact XStab.rd) ?_ ?_
            rotate_left
            · first | refine Or.inl ⟨by rfl, fun w => ?_⟩ | (refine Or.inr ⟨by rfl, ?_⟩; with_reducible rfl)
              first | done | (go_simp; all_goals with_reducible rfl)
            try simp only [Act.put, List.setIfInBounds_toArray, List.set_cons_zero, List.set_cons_succ]
            refine Sim.takeP (i := 17) (d := some 56) (v := ?_) rfl rfl (by kernel_rfl) (by kernel_rfl) (by kernel_rfl) (fun _ _ _ h => h) (by first | exact XStab.true | exact XStab.rd) ?_ ?_
            rotate_left
            · first | refine Or.inl ⟨by rfl, fun w => ?_⟩ | (refine Or.inr ⟨by rfl, ?_⟩; with_reducible rfl)
              first | done | (go_simp; all_goals with_reducible rfl)
            try simp only [Act.put, List.setIfInBounds_toArray, List.set_cons_zero, List.set_cons_succ]
            refine Sim.takeP (i := 18) (d := some 57) (v := ?_) rfl rfl (by kernel_rfl) (by kernel_rfl) (by kernel_rfl) (fun _ _ _ h => h) (by first | exact XStab.true | exact XStab.rd) ?_ ?_
            rotate_left
            · first | refine Or.inl ⟨by rfl, fun w => ?_⟩ | (refine Or.inr ⟨by rfl, ?_⟩; with_reducible rfl)
              first | done | (go_simp; all_goals with_reducible rfl)
            try simp only [Act.put, List.setIfInBounds_toArray, List.set_cons_zero, List.set_cons_succ]
            refine Sim.takeP (i := 19) (d := some 58) (v := ?_) rfl rfl (by kernel_rfl) (by kernel_rfl) (by kernel_rfl) (fun _ _ _ h => h) (by first | exact XStab.true | exact XStab.rd) ?_ ?_
            rotate_left
            · first | refine Or.inl ⟨by rfl, fun w => ?_⟩ | (refine Or.inr ⟨by rfl, ?_⟩; with_reducible rfl)
              first | done | (go_simp; all_goals with_reducible rfl)
            try simp only [Act.put, List.setIfInBounds_toArray, List.set_cons_zero, List.set_cons_succ]
            refine Sim.takeP (i := 20) (d := some 59) (v := ?_) rfl rfl (by kernel_rfl) (by kernel_rfl) (by kernel_rfl) (fun _ _ _ h => h) (by first | exact XStab.true | exact XStab.rd) ?_ ?_
            rotate_left
            · first | refine Or.inl ⟨by rfl, fun w => ?_⟩ | (refine Or.inr ⟨by rfl, ?_⟩; with_reducible rfl)
              first | done | (go_simp; all_goals with_reducible rfl)
            try simp only [Act.put, List.setIfInBounds_toArray, List.set_cons_zero, List.set_cons_succ]
            refine Sim.takeP (i := 21) (d := some 60) (v := ?_) rfl rfl (by kernel_rfl) (by kernel_rfl) (by kernel_rfl) (fun _ _ _ h => h) (by first | exact XStab.true | exact XStab.rd) ?_ ?_
            rotate_left
            · first | refine Or.inl ⟨by rfl, fun w => ?_⟩ | (refine Or.inr ⟨by rfl, ?_⟩; with_reducible rfl)
              first | done | (go_simp; all_goals with_reducible rfl)
            try simp only [Act.put, List.setIfInBounds_toArray, List.set_cons_zero, List.set_cons_succ]
            refine Sim.done (by kernel_rfl) (fun w1 hO hX => ?_) _
            (try simp only [World.size_alloc1, World.size_drew, Nat.reduceAdd] at hO); (try simp only [upd, updI, List.map_cons, List.map_nil, eq_self, if_true, if_false, reduceIte, Nat.add_eq_left, Nat.left_eq_add, Nat.reduceEqDiff, List.set_cons_zero, List.set_cons_succ] at hO)
            have hF := hO; (try simp only [Own, Item.Holds, apartI, CellsAt, Nat.reduceAdd, Nat.zero_add, List.mem_cons, List.not_mem_nil, or_false, forall_eq_or_imp, forall_eq, ne_eq, false_imp_iff, implies_true, and_true] at hF)
            go_wp2
            go_roundw
            case rel => exact ⟨k + 1, by omega, by go_num, by rw [R.out], hO⟩
            case measure => simp [intOf]; omega
    · have HE := hid (show tied n = ys by rw [HT.out, tied_nil (Or.inr (by omega)), List.append_nil])
      go_wp2_with fail
      go_ret
      rw [HE.out]
      exact RowOut.mk hO

set_option maxHeartbeats 1000000 in
theorem tiS_no (n : Int) (w : World) (hb : inB n 1 768 = false) :
    Calls Tryd.prog 25 #[.int .i64 n] w (RowOut 3 1 0 [] w) := by
  have hO := Own.start w
  have hF := True.intro
  go_enter Tryd.func25, Tryd.ntmps25
  go_wp2_with (go_at_call 34; refine (in_any _ _ _ _).mono ?_; rintro e w1 ⟨rfl, rfl⟩)
  go_ret
  exact RowOut.mk (hO.allocRow (e := 3) (cur := #[]) (k := 0) (cap := 0) 1 (by omega) (by unfold maxLen; omega) rfl)
end Go.Proofs.YtblbfmijaalgcaaDoor
