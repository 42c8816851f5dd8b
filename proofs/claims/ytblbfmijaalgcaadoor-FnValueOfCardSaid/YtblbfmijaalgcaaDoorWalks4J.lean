/- Chapter 4 in the program: the list of all values; the value with a number of ticks; the list of their ticks. -/
import Derived.Test.YtblbfmijaalgcaaDoorWalks4I
import Derived.Test.YtblbfmijaalgcaaDoorWalks4F
namespace Go.Proofs.YtblbfmijaalgcaaDoor
set_option linter.unusedSimpArgs false
set_option linter.unusedVariables false
open Go.RowKit Go.Joins

/-- A slice that is nil is a row without elements. -/
theorem Own.nilRow {n : Nat} {B : World → Prop} {w : World} {L : List Item} (e : TypeId) (size : Nat) (h : Own n B w L) : Own n B w (.row e size (.slice none 0 0) 0 [] :: L) :=
  h.addRow (Below.refl _ _) ⟨by simp, .inl ⟨rfl, rfl⟩⟩

theorem idx_part (i : Nat) (h2 : i < 2) (w : World) :
    (Instr.index 62 (.agg #[.int .i64 1, .int .i64 3]) (.int .i64 i)).run Tryd.prog w = .ok (.int .i64 (2 * (i : Int) + 1)) w := by
  obtain rfl | rfl : i = 0 ∨ i = 1 := by omega
  all_goals kernel_rfl

theorem TabB.cells {w : World} (h : TabB w) : w.cell? ⟨1, 0, none⟩ = some (.int .i64 1) ∧ w.cell? ⟨1, 1, none⟩ = some (.int .i64 2) ∧ w.cell? ⟨1, 2, none⟩ = some (.int .i64 4) ∧ w.cell? ⟨1, 3, none⟩ = some (.int .i64 8) ∧ w.cell? ⟨1, 4, none⟩ = some (.int .i64 16) :=
  ⟨h.cell (k := 0) (by omega), h.cell (k := 1) (by omega), h.cell (k := 2) (by omega), h.cell (k := 3) (by omega), h.cell (k := 4) (by omega)⟩

set_option maxHeartbeats 4000000 in
theorem vasI_any (w : World) (hT : TabB w) : Calls Tryd.prog 38 #[] w (RowOut 24 3 30 (vaC 30) w) := by
  have hO := (Own.start w).nilRow 24 3
  have HT := hid hT
  clear hT
  obtain ⟨i0, hi, hz0, hz1, hz2⟩ := info_parts infoV
  go_enter Tryd.func38, Tryd.ntmps38
  go_wp2_with fail
  go_loopw [1, 8] (fun v t wr => ∃ i : Nat, i ≤ 2 ∧ t = .int .i64 i ∧ Own w.heap.size (Below w.heap.size w) wr [.row 24 3 v (15 * i) (vaC (15 * i))]) (fun _ t _ => (2 - intOf t).toNat)
  case atStart => exact ⟨0, by omega, rfl, hO⟩
  case round =>
    clear hO
    obtain ⟨i, hi2, rfl, hO⟩ := hrel
    by_cases h2 : i = 2
    · subst h2
      go_wp2_with fail
      go_ret
      exact RowOut.mk hO
    · have hlt : i < 2 := by omega
      have q1 : (i : Int) < 2 := by omega
      have hp : ∀ w' : World, (Instr.index 62 (.agg #[.int .i64 1, .int .i64 3]) (.int .i64 i)).run Tryd.prog w' = .ok (.int .i64 (2 * (i : Int) + 1)) w' := idx_part i hlt
      clear h2 hi2
      go_wp2_with fail
      go_loopw [1, 4] (fun v t wr => ∃ j : Nat, j ≤ 3 ∧ t = .int .i64 j ∧ Own w.heap.size (Below w.heap.size w) wr [.row 24 3 v (15 * i + 5 * j) (vaC (15 * i + 5 * j))]) (fun _ t _ => (3 - intOf t).toNat)
      case atStart => exact ⟨0, by omega, rfl, hO⟩
      case round =>
        clear hO
        obtain ⟨j, hj, rfl, hO⟩ := hrel
        by_cases h3 : j = 3
        · subst h3
          go_wp2_with fail
          go_roundw
          case rel => exact ⟨i + 1, by omega, by go_num, by rw [show 15 * (i + 1) = 15 * i + 5 * 3 by omega]; exact hO⟩
          case measure => simp [intOf]; omega
        · have hjl : j < 3 := by omega
          have q2 : (j : Int) ≤ 2 := by omega
          clear h3 hj
          obtain ⟨c0, c1, c2, c3, c4⟩ := (HT.out.below hO.base).cells
          go_wp2_with fail
          go_loopw [1, 16] (fun v t wr => ∃ l : Nat, l ≤ 5 ∧ t = .int .i64 l ∧ Own w.heap.size (Below w.heap.size w) wr [.row 24 3 v (15 * i + 5 * j + l) (vaC (15 * i + 5 * j + l))]) (fun _ t _ => (5 - intOf t).toNat)
          case atStart => exact ⟨0, by omega, rfl, hO⟩
          case round =>
            clear hO c0 c1 c2 c3 c4
            obtain ⟨l, hl, rfl, hO⟩ := hrel
            by_cases h5 : l = 5
            · subst h5
              go_wp2_with fail
              go_roundw
              case rel => exact ⟨j + 1, by omega, by go_num, by rw [show 15 * i + 5 * (j + 1) = 15 * i + 5 * j + 5 by omega]; exact hO⟩
              case measure => simp [intOf]; omega
            · have hll : l < 5 := by omega
              have q3 : (l : Int) < 5 := by omega
              have hb : ∀ w' : World, (Instr.index 59 (.agg #[.int .i64 1, .int .i64 2, .int .i64 4, .int .i64 8, .int .i64 16]) (.int .i64 l)).run Tryd.prog w' = .ok (.int .i64 (pw l)) w' := idx_bas l hll
              have HV := hid (vaL_at hlt hjl hll)
              clear h5 hl
              go_wp2_with (at_builtin; refine wpList_append_item rfl _ _ 51 rfl 24 i0 (.agg #[.int .i64 0, .int .i64 0, .int .i64 0]) 3 24 Tryd.underlying51 hi hz0 hz1 hz2 rfl (by decide) rfl rfl (Own.alloc hO) rfl one3v (by unfold maxLen; omega) (by omega) ?_; clear hO; intro v' w2 hO _)
              go_roundw
              case rel =>
                refine ⟨l + 1, by omega, by go_num, ?_⟩
                rw [show 15 * i + 5 * j + (l + 1) = 15 * i + 5 * j + l + 1 by omega, ← vaC_up HV.out]; exact hO
              case measure => simp [intOf]; omega

/-- What TicksOf answers at the k-th value. -/
theorem ttI_at {b d t m : Int} {w : World} (hT : TabB w) (hD : TabD w) (hv : vvB b d t = true) (hm : tickZ b d t = m) (W : World) (hW : Below w.heap.size w W) :
    Calls Tryd.prog 17 #[.agg #[.int .i64 b, .int .i64 d, .int .i64 t]] W fun e w' => e = .returned (.int .i64 m) ∧ Below W.heap.size W w' := by
  have := ttI_any b d t W (hT.below hW) (hD.below hW)
  rwa [show ttZ b d t = m by simp [ttZ, hv, hm]] at this

set_option maxHeartbeats 4000000 in
theorem voI_any (n : Int) (w : World) (hT : TabB w) (hD : TabD w) :
    Calls Tryd.prog 20 #[.int .i64 n] w fun e w' => voP n e ∧ Below w.heap.size w w' := by
  have hO := Own.start w
  have hF := True.intro
  have HA := hid (And.intro hT hD)
  clear hT hD
  go_enter Tryd.func20, Tryd.ntmps20
  go_wp2_with ((go_at_call 38; apply own_at hO; (repeat (first | (with_reducible exact hO) | (with_reducible apply Own.alloc) | (with_reducible apply Own.drew) | ((with_reducible apply Own.set_at); (focus (show _ ≤ _; omega))))); have hG := hF; clear hF; clear hO; intro hO; refine own_call_row hO (fun hB => vasI_any _ (HA.out.1.below hB)) ?_; clear hO; intro v w1 hO; (try simp only [World.size_alloc1, World.size_drew, Nat.reduceAdd] at hO); (try simp only [upd, updI, List.map_cons, List.map_nil, eq_self, if_true, if_false, reduceIte, Nat.add_eq_left, Nat.left_eq_add, Nat.reduceEqDiff, List.set_cons_zero, List.set_cons_succ, hG] at hO); clear hG; have hF := hO; (try simp only [Own, Item.Holds, apartI, CellsAt, Nat.reduceAdd, Nat.zero_add, List.mem_cons, List.not_mem_nil, or_false, forall_eq_or_imp, forall_eq, ne_eq, false_imp_iff, implies_true, and_true] at hF)); obtain ⟨q, cap, hv1, hq1, hq2⟩ := hO.row_open (by omega); subst hv1; unfold maxLen at hq2; clear hF; have hF := hO; (try simp only [Own, Item.Holds, apartI, CellsAt, Nat.reduceAdd, Nat.zero_add, List.mem_cons, List.not_mem_nil, or_false, forall_eq_or_imp, forall_eq, ne_eq, false_imp_iff, implies_true, and_true] at hF))
  go_loopw [8] (fun t wr => ∃ k : Nat, k ≤ 30 ∧ t = .int .i64 k ∧ noTk n k ∧ Own w.heap.size (Below w.heap.size w) wr [.row 24 3 (.slice (some ⟨q, 0, none⟩) 30 cap) 30 (vaC 30), .blk w.heap.size [.int .i64 0, .int .i64 0, .int .i64 0]]) (fun t _ => (30 - intOf t).toNat)
  case atStart => exact ⟨0, by omega, rfl, fun j hj => by omega, hO⟩
  case round =>
    clear hO hF
    obtain ⟨k, hk, rfl, hn, hO⟩ := hrel
    have HN := hid hn
    clear hn
    have hF := hO; (try simp only [Own, Item.Holds, apartI, CellsAt, Nat.reduceAdd, Nat.zero_add, List.mem_cons, List.not_mem_nil, or_false, forall_eq_or_imp, forall_eq, ne_eq, false_imp_iff, implies_true, and_true] at hF)
    by_cases h30 : k = 30
    · subst h30
      go_wp2_with fail
      apply own_end hO
      (repeat (first | (with_reducible exact hO) | (with_reducible apply Own.alloc) | (with_reducible apply Own.drew) | ((with_reducible apply Own.set_at); (focus (show _ ≤ _; omega)))))
      have hG := hF; clear hF; clear hO; intro hO
      refine own_ret (v := .tuple #[.agg #[.int .i64 0, .int .i64 0, .int .i64 0], .bool false]) hO ?_ rfl (fun hO => ⟨Or.inr ⟨HN.out, rfl⟩, hO.base⟩)
      clear hO; intro w1 hO
      (try simp only [World.size_alloc1, World.size_drew, Nat.reduceAdd] at hO); (try simp only [upd, updI, List.map_cons, List.map_nil, eq_self, if_true, if_false, reduceIte, Nat.add_eq_left, Nat.left_eq_add, Nat.reduceEqDiff, List.set_cons_zero, List.set_cons_succ, hG] at hO); clear hG
      have hF := hO; (try simp only [Own, Item.Holds, apartI, CellsAt, Nat.reduceAdd, Nat.zero_add, List.mem_cons, List.not_mem_nil, or_false, forall_eq_or_imp, forall_eq, ne_eq, false_imp_iff, implies_true, and_true] at hF)
      simp [results, Tryd.results20, go_sem, hF]
    · have hlt : k < 30 := by omega
      have q1 : (k : Int) < 30 := by omega
      clear h30 hk
      obtain ⟨b, d, t, m, hva, htk, m0, m1, hvv, htz, E0, E1, E2⟩ := va_facts hlt
      have HT := hid (ttI_at HA.out.1 HA.out.2 hvv htz)
      have HV := hid hva
      have HK := hid htk
      have c0 := hO.row_cell E0
      have c1 := hO.row_cell E1
      have c2 := hO.row_cell E2
      clear hva htk hvv htz E0 E1 E2
      cases hb : (m == n)
      · have hne : m ≠ n := by simpa using hb
        have HQ := hid hne
        clear hne
        go_wp2_with (go_at_call 17; apply own_at hO; (repeat (first | (with_reducible exact hO) | (with_reducible apply Own.alloc) | (with_reducible apply Own.drew) | ((with_reducible apply Own.set_at); (focus (show _ ≤ _; omega))))); have hG := hF; clear hF; clear hO; intro hO; refine own_call hO (fun hB => HT.out _ hB) ?_; clear hO; intro w1 hO; (try simp only [World.size_alloc1, World.size_drew, Nat.reduceAdd] at hO); (try simp only [upd, updI, List.map_cons, List.map_nil, eq_self, if_true, if_false, reduceIte, Nat.add_eq_left, Nat.left_eq_add, Nat.reduceEqDiff, List.set_cons_zero, List.set_cons_succ, hG] at hO); clear hG; have hF := hO; (try simp only [Own, Item.Holds, apartI, CellsAt, Nat.reduceAdd, Nat.zero_add, List.mem_cons, List.not_mem_nil, or_false, forall_eq_or_imp, forall_eq, ne_eq, false_imp_iff, implies_true, and_true] at hF))
        go_roundw
        case rel => exact ⟨k + 1, by omega, by go_num, noTk_up HN.out HK.out HQ.out, hO.drop⟩
        case measure => simp [intOf]; omega
      · have he : m = n := by simpa using hb
        have HQ := hid he
        clear he
        go_wp2_with (go_at_call 17; apply own_at hO; (repeat (first | (with_reducible exact hO) | (with_reducible apply Own.alloc) | (with_reducible apply Own.drew) | ((with_reducible apply Own.set_at); (focus (show _ ≤ _; omega))))); have hG := hF; clear hF; clear hO; intro hO; refine own_call hO (fun hB => HT.out _ hB) ?_; clear hO; intro w1 hO; (try simp only [World.size_alloc1, World.size_drew, Nat.reduceAdd] at hO); (try simp only [upd, updI, List.map_cons, List.map_nil, eq_self, if_true, if_false, reduceIte, Nat.add_eq_left, Nat.left_eq_add, Nat.reduceEqDiff, List.set_cons_zero, List.set_cons_succ, hG] at hO); clear hG; have hF := hO; (try simp only [Own, Item.Holds, apartI, CellsAt, Nat.reduceAdd, Nat.zero_add, List.mem_cons, List.not_mem_nil, or_false, forall_eq_or_imp, forall_eq, ne_eq, false_imp_iff, implies_true, and_true] at hF))
        apply own_end hO
        (repeat (first | (with_reducible exact hO) | (with_reducible apply Own.alloc) | (with_reducible apply Own.drew) | ((with_reducible apply Own.set_at); (focus (show _ ≤ _; omega)))))
        have hG := hF; clear hF; clear hO; intro hO
        refine own_ret (v := .tuple #[.agg #[.int .i64 b, .int .i64 d, .int .i64 t], .bool true]) hO ?_ rfl (fun hO => ⟨Or.inl ⟨k, b, d, t, hlt, HN.out, HQ.out ▸ HK.out, HV.out, rfl⟩, hO.base⟩)
        clear hO; intro w1 hO
        (try simp only [World.size_alloc1, World.size_drew, Nat.reduceAdd] at hO); (try simp only [upd, updI, List.map_cons, List.map_nil, eq_self, if_true, if_false, reduceIte, Nat.add_eq_left, Nat.left_eq_add, Nat.reduceEqDiff, List.set_cons_zero, List.set_cons_succ, hG] at hO); clear hG
        have hF := hO; (try simp only [Own, Item.Holds, apartI, CellsAt, Nat.reduceAdd, Nat.zero_add, List.mem_cons, List.not_mem_nil, or_false, forall_eq_or_imp, forall_eq, ne_eq, false_imp_iff, implies_true, and_true] at hF)
        simp [results, Tryd.results20, go_sem, hF]
theorem voI_hit (n b d t : Int) (k : Nat) (w : World) (hT : TabB w) (hD : TabD w) (hk : k < 30) (hn : noTk n k) (ht : tkL[k]? = some n) (hv : vaL[k]? = some (b, d, t)) :
    Calls Tryd.prog 20 #[.int .i64 n] w fun e w' => e = .returned (.tuple #[.agg #[.int .i64 b, .int .i64 d, .int .i64 t], .bool true]) ∧ Below w.heap.size w w' :=
  (voI_any n w hT hD).mono fun _ _ ⟨he, hb⟩ => ⟨voP_hit he hk hn ht hv, hb⟩
theorem voI_miss (n : Int) (w : World) (hT : TabB w) (hD : TabD w) (hn : noTk n 30) :
    Calls Tryd.prog 20 #[.int .i64 n] w fun e w' => e = .returned (.tuple #[.agg #[.int .i64 0, .int .i64 0, .int .i64 0], .bool false]) ∧ Below w.heap.size w w' :=
  (voI_any n w hT hD).mono fun _ _ ⟨he, hb⟩ => ⟨voP_miss he hn, hb⟩

/-- The cells of the ticks of the first k values. -/
def tkC (k : Nat) : List Value := (tkL.take k).map (Value.int .i64)
theorem tkC_up {k : Nat} {m : Int} (h : tkL[k]? = some m) : tkC k ++ [.int .i64 m] = tkC (k + 1) := by
  unfold tkC
  rw [List.take_add_one, h]
  simp
theorem tkC_at {k : Nat} {m : Int} (h : tkL[k]? = some m) : (tkC 30)[k]? = some (.int .i64 m) := by
  have h30 : tkL.take 30 = tkL := by decide +kernel
  unfold tkC
  rw [h30, List.getElem?_map, h]
  rfl

set_option maxHeartbeats 4000000 in
theorem vlI_any (w : World) (hT : TabB w) (hD : TabD w) :
    Calls Tryd.prog 47 #[] w (RowOut 3 1 30 (tkC 30) w) := by
  have hO := (Own.start w).nilRow 3 1
  have hF := True.intro
  have HA := hid (And.intro hT hD)
  clear hT hD
  obtain ⟨i0, hi, hz0, hz1, hz2⟩ := info_parts infoI
  go_enter Tryd.func47, Tryd.ntmps47
  go_wp2_with ((go_at_call 38; apply own_at hO; (repeat (first | (with_reducible exact hO) | (with_reducible apply Own.alloc) | (with_reducible apply Own.drew) | ((with_reducible apply Own.set_at); (focus (show _ ≤ _; omega))))); have hG := hF; clear hF; clear hO; intro hO; refine own_call_row hO (fun hB => vasI_any _ (HA.out.1.below hB)) ?_; clear hO; intro v w1 hO; (try simp only [World.size_alloc1, World.size_drew, Nat.reduceAdd] at hO); (try simp only [upd, updI, List.map_cons, List.map_nil, eq_self, if_true, if_false, reduceIte, Nat.add_eq_left, Nat.left_eq_add, Nat.reduceEqDiff, List.set_cons_zero, List.set_cons_succ, hG] at hO); clear hG; have hF := hO; (try simp only [Own, Item.Holds, apartI, CellsAt, Nat.reduceAdd, Nat.zero_add, List.mem_cons, List.not_mem_nil, or_false, forall_eq_or_imp, forall_eq, ne_eq, false_imp_iff, implies_true, and_true] at hF)); obtain ⟨q, cap, hv1, hq1, hq2⟩ := hO.row_open (by omega); subst hv1; unfold maxLen at hq2; clear hF)
  replace hO := hO.perm (List.Perm.swap _ _ _)
  go_loopw [1, 6] (fun v t wr => ∃ k : Nat, k ≤ 30 ∧ t = .int .i64 k ∧ Own w.heap.size (Below w.heap.size w) wr [.row 3 1 v k (tkC k), .row 24 3 (.slice (some ⟨q, 0, none⟩) 30 cap) 30 (vaC 30)]) (fun _ t _ => (30 - intOf t).toNat)
  case atStart => exact ⟨0, by omega, rfl, hO⟩
  case round =>
    clear hO
    obtain ⟨k, hk, rfl, hO⟩ := hrel
    have hF := True.intro
    by_cases h30 : k = 30
    · subst h30
      go_wp2_with fail
      go_ret
      exact RowOut.mk hO
    · have hlt : k < 30 := by omega
      have q1 : (k : Int) < 30 := by omega
      clear h30 hk
      obtain ⟨b, d, t, m, hva, htk, m0, m1, hvv, htz, E0, E1, E2⟩ := va_facts hlt
      have HT := hid (ttI_at HA.out.1 HA.out.2 hvv htz)
      have HK := hid htk
      have c0 := hO.2.row_cell E0
      have c1 := hO.2.row_cell E1
      have c2 := hO.2.row_cell E2
      clear hva htk hvv htz E0 E1 E2
      go_wp2_with (first | (go_at_call 17; apply own_at hO; (repeat (first | (with_reducible exact hO) | (with_reducible apply Own.alloc) | (with_reducible apply Own.drew) | ((with_reducible apply Own.set_at); (focus (show _ ≤ _; omega))))); have hG := hF; clear hF; clear hO; intro hO; refine own_call hO (fun hB => HT.out _ hB) ?_; clear hO; intro w1 hO; (try simp only [World.size_alloc1, World.size_drew, Nat.reduceAdd] at hO); (try simp only [upd, updI, List.map_cons, List.map_nil, eq_self, if_true, if_false, reduceIte, Nat.add_eq_left, Nat.left_eq_add, Nat.reduceEqDiff, List.set_cons_zero, List.set_cons_succ, hG] at hO); clear hG; have hF := hO; (try simp only [Own, Item.Holds, apartI, CellsAt, Nat.reduceAdd, Nat.zero_add, List.mem_cons, List.not_mem_nil, or_false, forall_eq_or_imp, forall_eq, ne_eq, false_imp_iff, implies_true, and_true] at hF)) | (at_builtin; refine wpList_append_item rfl _ _ 33 rfl 3 i0 (.int .i64 0) 1 8 Tryd.underlying33 hi hz0 hz1 hz2 rfl (by decide) rfl rfl (Own.alloc hO.drop) rfl one1 (by unfold maxLen; omega) (by omega) ?_; clear hO hF; intro v' w2 hO _; have hF := True.intro))
      go_roundw
      case rel => exact ⟨k + 1, by omega, by go_num, by rw [← tkC_up HK.out]; exact hO⟩
      case measure => simp [intOf]; omega
end Go.Proofs.YtblbfmijaalgcaaDoor
