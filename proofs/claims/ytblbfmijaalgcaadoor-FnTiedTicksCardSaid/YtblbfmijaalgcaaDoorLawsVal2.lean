/- The walks of the laws of chapter 4's promises: found values; tied values. -/
import Derived.Test.YtblbfmijaalgcaaDoorWalks4L
import Derived.Test.YtblbfmijaalgcaaDoorLawsVal
namespace Go.Proofs.YtblbfmijaalgcaaDoor
set_option linter.unusedSimpArgs false
set_option linter.unusedVariables false
open Go.RowKit Go.Joins

theorem va_one0 : ∀ k : Fin 30, (vaL[k.val]?.map fun v => v.2.2 == 1) = some (decide (k.val < 15)) := by decide +kernel
theorem va_plain0 : ∀ j : Fin 3, ∀ l : Fin 5, tkL[5 * j.val + l.val]? = some (ttZ (pw l.val) (j.val : Int) 1) := by decide +kernel
/-- A value of a tuplet is found only where no plain value has the ticks. -/
theorem plain_not {n b d : Int} {k j l : Nat} (hk : k < 30) (hn : noTk n k) (hv : vaL[k]? = some (b, d, 3)) (hj : j < 3) (hl : l < 5) : ttZ (pw l) (j : Int) 1 ≠ n := by
  have h1 := va_one0 ⟨k, hk⟩
  simp only [hv, Option.map_some] at h1
  have hk2 : ¬ k < 15 := by
    intro h
    simp [h] at h1
  have h2 := va_plain0 ⟨j, hj⟩ ⟨l, hl⟩
  simp only at h2
  intro e
  exact hn (5 * j + l) (by omega) (by rw [h2, e])

set_option maxHeartbeats 8000000 in
theorem fnValueOf_any (v : Value) (n : Nat) (w : World) (hn : n ≤ maxLen) (h : BytesB w w.heap.size v n) (ht : TabH w) (hT : TabB w) (hD : TabD w) :
    Calls Tryd.prog 5 #[v] w fun e w' => e = .returned (.bool true) ∧ Below w.heap.size w w' := by
  obtain ⟨a0, c0, rfl⟩ := h.form
  have hn' : (n : Int) ≤ 9223372036854775807 := by unfold maxLen at hn; omega
  have HA := hid (And.intro hT hD)
  clear hT hD
  by_cases hl : n ≤ 1048576
  · have hl' : (n : Int) ≤ 1048576 := by omega
    go_enter Tryd.func5, Tryd.ntmps5
    go_wp2_with (go_at_call 19; refine (DrawValueOf_any _ n _ hn h).mono ?_; rintro e w1 ⟨m, hm, rfl, hb0⟩; have hO := (Own.start w).below hb0; have hF := hO; (try simp only [Own, Item.Holds, apartI, CellsAt, Nat.reduceAdd, Nat.zero_add, List.mem_cons, List.not_mem_nil, or_false, forall_eq_or_imp, forall_eq, ne_eq, false_imp_iff, implies_true, and_true] at hF); clear hn h)
    rcases tkCase m with ⟨k, hk, hnk, htk⟩ | hnk
    · obtain ⟨b, d, t, m', hva, htk', _, _, hvv, htz, _⟩ := va_facts hk
      have em : m' = m := Option.some.inj (htk'.symm.trans htk)
      subst em
      have HN := hid (And.intro hk (And.intro hnk (And.intro htk hva)))
      have HT := hid (ttI_at HA.out.1 HA.out.2 hvv htz)
      cases h3 : (t == 3)
      · clear hk hnk htk htk' hva hvv htz
        go_wp2_with (first | (go_at_call 20; apply own_at hO; (repeat (first | (with_reducible exact hO) | (with_reducible apply Own.alloc) | (with_reducible apply Own.drew) | ((with_reducible apply Own.set_at); (focus (show _ ≤ _; omega))))); have hG := hF; clear hF; clear hO; intro hO; refine own_call hO (fun hB => voI_hit _ _ _ _ _ _ (HA.out.1.below hB) (HA.out.2.below hB) HN.out.1 HN.out.2.1 HN.out.2.2.1 HN.out.2.2.2) ?_; clear hO; intro wa hO; (try simp only [World.size_alloc1, World.size_drew, Nat.reduceAdd] at hO); (try simp only [upd, updI, List.map_cons, List.map_nil, eq_self, if_true, if_false, reduceIte, Nat.add_eq_left, Nat.left_eq_add, Nat.reduceEqDiff, List.set_cons_zero, List.set_cons_succ, hG] at hO); clear hG; have hF := hO; (try simp only [Own, Item.Holds, apartI, CellsAt, Nat.reduceAdd, Nat.zero_add, List.mem_cons, List.not_mem_nil, or_false, forall_eq_or_imp, forall_eq, ne_eq, false_imp_iff, implies_true, and_true] at hF)) | (go_at_call 21; apply own_at hO; (repeat (first | (with_reducible exact hO) | (with_reducible apply Own.alloc) | (with_reducible apply Own.drew) | ((with_reducible apply Own.set_at); (focus (show _ ≤ _; omega))))); have hG := hF; clear hF; clear hO; intro hO; refine own_call hO (fun hB => voS_hit _ _ _ _ _ _ HN.out.1 HN.out.2.1 HN.out.2.2.1 HN.out.2.2.2) ?_; clear hO; intro wb hO; (try simp only [World.size_alloc1, World.size_drew, Nat.reduceAdd] at hO); (try simp only [upd, updI, List.map_cons, List.map_nil, eq_self, if_true, if_false, reduceIte, Nat.add_eq_left, Nat.left_eq_add, Nat.reduceEqDiff, List.set_cons_zero, List.set_cons_succ, hG] at hO); clear hG; have hF := hO; (try simp only [Own, Item.Holds, apartI, CellsAt, Nat.reduceAdd, Nat.zero_add, List.mem_cons, List.not_mem_nil, or_false, forall_eq_or_imp, forall_eq, ne_eq, false_imp_iff, implies_true, and_true] at hF)))
        (apply own_code hO; (repeat (first | (with_reducible exact hO) | (with_reducible apply Own.alloc) | (with_reducible apply Own.drew) | ((with_reducible apply Own.set_at); (focus (show _ ≤ _; omega))))); have hG := hF; clear hF; clear hO; intro hO; (try simp only [World.size_alloc1, World.size_drew, Nat.reduceAdd] at hO); (try simp only [upd, updI, List.map_cons, List.map_nil, eq_self, if_true, if_false, reduceIte, Nat.add_eq_left, Nat.left_eq_add, Nat.reduceEqDiff, List.set_cons_zero, List.set_cons_succ, hG] at hO); clear hG; have hF := hO; (try simp only [Own, Item.Holds, apartI, CellsAt, Nat.reduceAdd, Nat.zero_add, List.mem_cons, List.not_mem_nil, or_false, forall_eq_or_imp, forall_eq, ne_eq, false_imp_iff, implies_true, and_true] at hF))
        go_loopw [8] (fun s wr => ∃ l : Nat, l ≤ 5 ∧ s = .int .i64 (pw l) ∧ Own w.heap.size (Below w.heap.size w) wr [.blk wb.heap.size [.int .i64 b, .int .i64 d, .int .i64 t], .blk wa.heap.size [.int .i64 b, .int .i64 d, .int .i64 t]]) (fun s _ => (32 - intOf s).toNat)
        case atStart => exact ⟨0, by omega, rfl, hO⟩
        case round =>
          clear hO hF
          obtain ⟨l, hl5, rfl, hO⟩ := hrel
          have hF := hO; (try simp only [Own, Item.Holds, apartI, CellsAt, Nat.reduceAdd, Nat.zero_add, List.mem_cons, List.not_mem_nil, or_false, forall_eq_or_imp, forall_eq, ne_eq, false_imp_iff, implies_true, and_true] at hF)
          by_cases h5 : l = 5
          · subst h5
            have p5 := pw_5
            go_wp2_with (go_at_call 17; apply own_at hO; (repeat (first | (with_reducible exact hO) | (with_reducible apply Own.alloc) | (with_reducible apply Own.drew) | ((with_reducible apply Own.set_at); (focus (show _ ≤ _; omega))))); have hG := hF; clear hF; clear hO; intro hO; refine own_call hO (fun hB => HT.out _ hB) ?_; clear hO; intro w1 hO; (try simp only [World.size_alloc1, World.size_drew, Nat.reduceAdd] at hO); (try simp only [upd, updI, List.map_cons, List.map_nil, eq_self, if_true, if_false, reduceIte, Nat.add_eq_left, Nat.left_eq_add, Nat.reduceEqDiff, List.set_cons_zero, List.set_cons_succ, hG] at hO); clear hG; have hF := hO; (try simp only [Own, Item.Holds, apartI, CellsAt, Nat.reduceAdd, Nat.zero_add, List.mem_cons, List.not_mem_nil, or_false, forall_eq_or_imp, forall_eq, ne_eq, false_imp_iff, implies_true, and_true] at hF))
            go_ret
            exact ⟨rfl, hO.base⟩
          · have hll : l < 5 := by omega
            have pb := pw_bd hll
            have PU := hid (pw_up l)
            clear h5 hl5
            go_wp2_with fail
            go_loopw [9] (fun s wr => ∃ j : Nat, j ≤ 3 ∧ s = .int .i64 j ∧ Own w.heap.size (Below w.heap.size w) wr [.blk wb.heap.size [.int .i64 b, .int .i64 d, .int .i64 t], .blk wa.heap.size [.int .i64 b, .int .i64 d, .int .i64 t]]) (fun s _ => (3 - intOf s).toNat)
            case atStart => exact ⟨0, by omega, rfl, hO⟩
            case round =>
              clear hO hF
              obtain ⟨j, hj, rfl, hO⟩ := hrel
              have hF := hO; (try simp only [Own, Item.Holds, apartI, CellsAt, Nat.reduceAdd, Nat.zero_add, List.mem_cons, List.not_mem_nil, or_false, forall_eq_or_imp, forall_eq, ne_eq, false_imp_iff, implies_true, and_true] at hF)
              by_cases hj3 : j = 3
              · subst hj3
                go_wp2_with fail
                go_roundw
                case rel => exact ⟨l + 1, by omega, by rw [← PU.out], hO⟩
                case measure => simp [intOf]; omega
              · have q2 : (j : Int) ≤ 2 := by omega
                go_wp2_with fail
                go_roundw
                case rel => exact ⟨j + 1, by omega, by go_num, hO⟩
                case measure => simp [intOf]; omega
      · have e3 : t = 3 := by simpa using h3
        subst e3
        have HP := hid (fun (j l : Nat) (hj : j < 3) (hl : l < 5) => plain_not (j := j) (l := l) hk hnk hva hj hl)
        clear hk hnk htk htk' hva hvv htz h3
        go_wp2_with (first | (go_at_call 20; apply own_at hO; (repeat (first | (with_reducible exact hO) | (with_reducible apply Own.alloc) | (with_reducible apply Own.drew) | ((with_reducible apply Own.set_at); (focus (show _ ≤ _; omega))))); have hG := hF; clear hF; clear hO; intro hO; refine own_call hO (fun hB => voI_hit _ _ _ _ _ _ (HA.out.1.below hB) (HA.out.2.below hB) HN.out.1 HN.out.2.1 HN.out.2.2.1 HN.out.2.2.2) ?_; clear hO; intro wa hO; (try simp only [World.size_alloc1, World.size_drew, Nat.reduceAdd] at hO); (try simp only [upd, updI, List.map_cons, List.map_nil, eq_self, if_true, if_false, reduceIte, Nat.add_eq_left, Nat.left_eq_add, Nat.reduceEqDiff, List.set_cons_zero, List.set_cons_succ, hG] at hO); clear hG; have hF := hO; (try simp only [Own, Item.Holds, apartI, CellsAt, Nat.reduceAdd, Nat.zero_add, List.mem_cons, List.not_mem_nil, or_false, forall_eq_or_imp, forall_eq, ne_eq, false_imp_iff, implies_true, and_true] at hF)) | (go_at_call 21; apply own_at hO; (repeat (first | (with_reducible exact hO) | (with_reducible apply Own.alloc) | (with_reducible apply Own.drew) | ((with_reducible apply Own.set_at); (focus (show _ ≤ _; omega))))); have hG := hF; clear hF; clear hO; intro hO; refine own_call hO (fun hB => voS_hit _ _ _ _ _ _ HN.out.1 HN.out.2.1 HN.out.2.2.1 HN.out.2.2.2) ?_; clear hO; intro wb hO; (try simp only [World.size_alloc1, World.size_drew, Nat.reduceAdd] at hO); (try simp only [upd, updI, List.map_cons, List.map_nil, eq_self, if_true, if_false, reduceIte, Nat.add_eq_left, Nat.left_eq_add, Nat.reduceEqDiff, List.set_cons_zero, List.set_cons_succ, hG] at hO); clear hG; have hF := hO; (try simp only [Own, Item.Holds, apartI, CellsAt, Nat.reduceAdd, Nat.zero_add, List.mem_cons, List.not_mem_nil, or_false, forall_eq_or_imp, forall_eq, ne_eq, false_imp_iff, implies_true, and_true] at hF)))
        (apply own_code hO; (repeat (first | (with_reducible exact hO) | (with_reducible apply Own.alloc) | (with_reducible apply Own.drew) | ((with_reducible apply Own.set_at); (focus (show _ ≤ _; omega))))); have hG := hF; clear hF; clear hO; intro hO; (try simp only [World.size_alloc1, World.size_drew, Nat.reduceAdd] at hO); (try simp only [upd, updI, List.map_cons, List.map_nil, eq_self, if_true, if_false, reduceIte, Nat.add_eq_left, Nat.left_eq_add, Nat.reduceEqDiff, List.set_cons_zero, List.set_cons_succ, hG] at hO); clear hG; have hF := hO; (try simp only [Own, Item.Holds, apartI, CellsAt, Nat.reduceAdd, Nat.zero_add, List.mem_cons, List.not_mem_nil, or_false, forall_eq_or_imp, forall_eq, ne_eq, false_imp_iff, implies_true, and_true] at hF))
        go_loopw [8] (fun s wr => ∃ l : Nat, l ≤ 5 ∧ s = .int .i64 (pw l) ∧ Own w.heap.size (Below w.heap.size w) wr [.blk wb.heap.size [.int .i64 b, .int .i64 d, .int .i64 3], .blk wa.heap.size [.int .i64 b, .int .i64 d, .int .i64 3]]) (fun s _ => (32 - intOf s).toNat)
        case atStart => exact ⟨0, by omega, rfl, hO⟩
        case round =>
          clear hO hF
          obtain ⟨l, hl5, rfl, hO⟩ := hrel
          have hF := hO; (try simp only [Own, Item.Holds, apartI, CellsAt, Nat.reduceAdd, Nat.zero_add, List.mem_cons, List.not_mem_nil, or_false, forall_eq_or_imp, forall_eq, ne_eq, false_imp_iff, implies_true, and_true] at hF)
          by_cases h5 : l = 5
          · subst h5
            have p5 := pw_5
            go_wp2_with (go_at_call 17; apply own_at hO; (repeat (first | (with_reducible exact hO) | (with_reducible apply Own.alloc) | (with_reducible apply Own.drew) | ((with_reducible apply Own.set_at); (focus (show _ ≤ _; omega))))); have hG := hF; clear hF; clear hO; intro hO; refine own_call hO (fun hB => HT.out _ hB) ?_; clear hO; intro w1 hO; (try simp only [World.size_alloc1, World.size_drew, Nat.reduceAdd] at hO); (try simp only [upd, updI, List.map_cons, List.map_nil, eq_self, if_true, if_false, reduceIte, Nat.add_eq_left, Nat.left_eq_add, Nat.reduceEqDiff, List.set_cons_zero, List.set_cons_succ, hG] at hO); clear hG; have hF := hO; (try simp only [Own, Item.Holds, apartI, CellsAt, Nat.reduceAdd, Nat.zero_add, List.mem_cons, List.not_mem_nil, or_false, forall_eq_or_imp, forall_eq, ne_eq, false_imp_iff, implies_true, and_true] at hF))
            go_ret
            exact ⟨rfl, hO.base⟩
          · have hll : l < 5 := by omega
            have pb := pw_bd hll
            have PU := hid (pw_up l)
            clear h5 hl5
            go_wp2_with fail
            go_loopw [9] (fun s wr => ∃ j : Nat, j ≤ 3 ∧ s = .int .i64 j ∧ Own w.heap.size (Below w.heap.size w) wr [.blk wb.heap.size [.int .i64 b, .int .i64 d, .int .i64 3], .blk wa.heap.size [.int .i64 b, .int .i64 d, .int .i64 3]]) (fun s _ => (3 - intOf s).toNat)
            case atStart => exact ⟨0, by omega, rfl, hO⟩
            case round =>
              clear hO hF
              obtain ⟨j, hj, rfl, hO⟩ := hrel
              have hF := hO; (try simp only [Own, Item.Holds, apartI, CellsAt, Nat.reduceAdd, Nat.zero_add, List.mem_cons, List.not_mem_nil, or_false, forall_eq_or_imp, forall_eq, ne_eq, false_imp_iff, implies_true, and_true] at hF)
              by_cases hj3 : j = 3
              · subst hj3
                go_wp2_with fail
                go_roundw
                case rel => exact ⟨l + 1, by omega, by rw [← PU.out], hO⟩
                case measure => simp [intOf]; omega
              · have q2 : (j : Int) ≤ 2 := by omega
                have hjl : j < 3 := by omega
                have hne := HP.out j l hjl hll
                have HL := hid (fun W (hW : Below w.heap.size w W) => ttI_any (pw l) (j : Int) 1 W (HA.out.1.below hW) (HA.out.2.below hW))
                obtain ⟨y, hy⟩ : ∃ y, ttZ (pw l) (j : Int) 1 = y := ⟨_, rfl⟩
                rw [hy] at hne HL
                have hyb : (y == m') = false := by simpa using hne
                clear hy hne hj3
                go_wp2_with (go_at_call 17; apply own_at hO; (repeat (first | (with_reducible exact hO) | (with_reducible apply Own.alloc) | (with_reducible apply Own.drew) | ((with_reducible apply Own.set_at); (focus (show _ ≤ _; omega))))); have hG := hF; clear hF; clear hO; intro hO; refine own_call hO (fun hB => HL.out _ hB) ?_; clear hO; intro w1 hO; (try simp only [World.size_alloc1, World.size_drew, Nat.reduceAdd] at hO); (try simp only [upd, updI, List.map_cons, List.map_nil, eq_self, if_true, if_false, reduceIte, Nat.add_eq_left, Nat.left_eq_add, Nat.reduceEqDiff, List.set_cons_zero, List.set_cons_succ, hG] at hO); clear hG; have hF := hO; (try simp only [Own, Item.Holds, apartI, CellsAt, Nat.reduceAdd, Nat.zero_add, List.mem_cons, List.not_mem_nil, or_false, forall_eq_or_imp, forall_eq, ne_eq, false_imp_iff, implies_true, and_true] at hF))
                go_roundw
                case rel => exact ⟨j + 1, by omega, by go_num, hO⟩
                case measure => simp [intOf]; omega
    · have HN := hid hnk
      clear hnk
      go_wp2_with (first | (go_at_call 20; apply own_at hO; (repeat (first | (with_reducible exact hO) | (with_reducible apply Own.alloc) | (with_reducible apply Own.drew) | ((with_reducible apply Own.set_at); (focus (show _ ≤ _; omega))))); have hG := hF; clear hF; clear hO; intro hO; refine own_call hO (fun hB => voI_miss _ _ (HA.out.1.below hB) (HA.out.2.below hB) HN.out) ?_; clear hO; intro w1 hO; (try simp only [World.size_alloc1, World.size_drew, Nat.reduceAdd] at hO); (try simp only [upd, updI, List.map_cons, List.map_nil, eq_self, if_true, if_false, reduceIte, Nat.add_eq_left, Nat.left_eq_add, Nat.reduceEqDiff, List.set_cons_zero, List.set_cons_succ, hG] at hO); clear hG; have hF := hO; (try simp only [Own, Item.Holds, apartI, CellsAt, Nat.reduceAdd, Nat.zero_add, List.mem_cons, List.not_mem_nil, or_false, forall_eq_or_imp, forall_eq, ne_eq, false_imp_iff, implies_true, and_true] at hF)) | (go_at_call 21; apply own_at hO; (repeat (first | (with_reducible exact hO) | (with_reducible apply Own.alloc) | (with_reducible apply Own.drew) | ((with_reducible apply Own.set_at); (focus (show _ ≤ _; omega))))); have hG := hF; clear hF; clear hO; intro hO; refine own_call hO (fun hB => voS_miss _ _ HN.out) ?_; clear hO; intro w1 hO; (try simp only [World.size_alloc1, World.size_drew, Nat.reduceAdd] at hO); (try simp only [upd, updI, List.map_cons, List.map_nil, eq_self, if_true, if_false, reduceIte, Nat.add_eq_left, Nat.left_eq_add, Nat.reduceEqDiff, List.set_cons_zero, List.set_cons_succ, hG] at hO); clear hG; have hF := hO; (try simp only [Own, Item.Holds, apartI, CellsAt, Nat.reduceAdd, Nat.zero_add, List.mem_cons, List.not_mem_nil, or_false, forall_eq_or_imp, forall_eq, ne_eq, false_imp_iff, implies_true, and_true] at hF)) | (go_at_call 15; apply own_at hO; (repeat (first | (with_reducible exact hO) | (with_reducible apply Own.alloc) | (with_reducible apply Own.drew) | ((with_reducible apply Own.set_at); (focus (show _ ≤ _; omega))))); have hG := hF; clear hF; clear hO; intro hO; refine own_call hO (fun hB => alive_any _ (ht.below hB)) ?_; clear hO; intro w1 hO; (try simp only [World.size_alloc1, World.size_drew, Nat.reduceAdd] at hO); (try simp only [upd, updI, List.map_cons, List.map_nil, eq_self, if_true, if_false, reduceIte, Nat.add_eq_left, Nat.left_eq_add, Nat.reduceEqDiff, List.set_cons_zero, List.set_cons_succ, hG] at hO); clear hG; have hF := hO; (try simp only [Own, Item.Holds, apartI, CellsAt, Nat.reduceAdd, Nat.zero_add, List.mem_cons, List.not_mem_nil, or_false, forall_eq_or_imp, forall_eq, ne_eq, false_imp_iff, implies_true, and_true] at hF)))
      go_ret
      exact ⟨rfl, Own.base (by (repeat (first | (with_reducible exact hO) | (with_reducible apply Own.alloc) | (with_reducible apply Own.drew) | ((with_reducible apply Own.set_at); (focus (show _ ≤ _; omega))))))⟩
  · have hl' : 1048576 < (n : Int) := by omega
    go_enter Tryd.func5, Tryd.ntmps5
    go_wp2
    go_ret
    exact ⟨rfl, Below.refl _ _⟩
end Go.Proofs.YtblbfmijaalgcaaDoor
