/- Chapter 15 in the model: the tones of a key in a range; whether a search is possible. -/
import Derived.Test.YtieoobanpllmgaaDoorWalks14S
import Derived.Test.YtieoobanpllmgaaDoorPure15
import Derived.Test.YtieoobanpllmgaaDoorRegionD
namespace Go.Proofs.YtieoobanpllmgaaDoor
set_option linter.unusedSimpArgs false
set_option linter.unusedVariables false
set_option maxRecDepth 8000
open Go.RowKit

theorem tkN_le (f key : Int) (n : Nat) : (tkN f key n).length ≤ n := by
  rw [tkN_len]
  refine Nat.le_trans List.countP_le_length ?_
  rw [List.length_range]
  exact Nat.le_refl _
theorem ts_up {f lo : Int} {m : Nat} : tnL f lo (m + 1) = tnL f lo m ++ tkN f (lo + (m : Int)) 63 := tnL_up f lo m
theorem altS15 {f s z : Int} (h0 : 0 ≤ s) (h6 : s ≤ 6) (h : altZ f s = z) (W : World) :
    Calls Tryd.prog 58 #[.int .i64 f, .int .i64 s] W fun e w' => e = .returned (.int .i64 z) ∧ Below W.heap.size W w' := by
  subst h; exact altS_any f s W h0 h6

set_option maxRecDepth 20000 in
set_option maxHeartbeats 8000000 in
theorem tsS_any (f lo hi : Int) (w : World) (h0 : 0 ≤ lo) (h1 : lo ≤ hi) (h2 : hi ≤ 107) :
    Calls Tryd.prog 34 #[.int .i64 f, .int .i64 lo, .int .i64 hi] w (RowOut 37 3 (tsL f lo hi).length (pcC (tsL f lo hi)) w) := by
  have hO := Own.start w
  have hF := True.intro
  obtain ⟨i0, hi0, hz0, hz1, hz2⟩ := info_parts infoPi
  obtain ⟨M, hM⟩ : ∃ M : Nat, (hi + 1 - lo).toNat = M := ⟨_, rfl⟩
  have hM1 : (M : Int) = hi + 1 - lo := by omega
  have HE := hid (show tsL f lo hi = tnL f lo M by unfold tsL; rw [hM])
  have HNL := hid (fun m => tnL_len f lo m)
  clear hM
  go_enter Tryd.func34, Tryd.ntmps34
  go_wp2_with fail
  go_loopw [7, 8] (fun u t wr => ∃ m : Nat, m ≤ M ∧ t = .int .i64 (lo + (m : Int)) ∧ Own w.heap.size (Below w.heap.size w) wr [.row 37 3 u (tnL f lo m).length (pcC (tnL f lo m))]) (fun _ t _ => (hi + 1 - intOf t).toNat)
  case atStart => exact ⟨0, by omega, by rw [show lo + ((0 : Nat) : Int) = lo by omega], hO.allocRow (e := 37) (cur := #[]) (k := 0) (cap := 0) 3 (by omega) (by unfold maxLen; omega) rfl⟩
  case round =>
    clear hO hF
    obtain ⟨m, hm, rfl, hO⟩ := hrel
    have hnl := HNL.out m
    have hF := hO; (try simp only [Own, Item.Holds, apartI, CellsAt, Nat.reduceAdd, Nat.zero_add, List.mem_cons, List.not_mem_nil, or_false, forall_eq_or_imp, forall_eq, ne_eq, false_imp_iff, implies_true, and_true] at hF)
    by_cases he : m = M
    · subst he
      have hc : ¬ (lo + (m : Int) ≤ hi) := by omega
      go_wp2_with fail
      go_ret
      rw [HE.out]
      exact RowOut.mk hO
    · have hml : m < M := by omega
      have wm : IntKind.i64.wrap (lo + (m : Int) + 1) = lo + (m : Int) + 1 := IntWalk.i64_in _ (by omega)
      have hm9 := ts_up (f := f) (lo := lo) (m := m)
      obtain ⟨L0, hL0⟩ : ∃ L, tnL f lo m = L := ⟨_, rfl⟩
      obtain ⟨a, ha⟩ : ∃ a, lo + (m : Int) = a := ⟨_, rfl⟩
      rw [hL0] at hO hnl hm9
      rw [ha] at hm9 wm ⊢
      have hc : a ≤ hi := by omega
      have ha1 : a = lo + (m : Int) := ha.symm
      have HM := hid (And.intro hm9 ha1)
      have HKL := hid (fun n => tkN_le f a n)
      clear he hm9 hL0 ha ha1
      go_wp2_with fail
      go_loopw [7, 9] (fun u t ws => ∃ k : Nat, k ≤ 63 ∧ t = .int .i64 k ∧ Own w.heap.size (Below w.heap.size w) ws [.row 37 3 u (L0 ++ tkN f a k).length (pcC (L0 ++ tkN f a k))]) (fun _ t _ => 63 - (intOf t).toNat)
      case atStart => exact ⟨0, by omega, rfl, by rw [show tkN f a 0 = [] from rfl, List.append_nil]; exact hO⟩
      case round =>
        clear hO hF
        obtain ⟨k, hk, rfl, hO⟩ := hrel
        have hkl := HKL.out k
        have hF := hO; (try simp only [Own, Item.Holds, apartI, CellsAt, Nat.reduceAdd, Nat.zero_add, List.mem_cons, List.not_mem_nil, or_false, forall_eq_or_imp, forall_eq, ne_eq, false_imp_iff, implies_true, and_true] at hF)
        by_cases he : k = 63
        · subst he
          go_wp2_with fail
          go_roundw
          case rel => exact ⟨m + 1, by omega, by rw [HM.out.2]; go_num, by rw [HM.out.1]; exact hO⟩
          case measure => simp [intOf]; omega
        · have hkr : k < 63 := by omega
          have hkr2 : (k : Int) < 63 := by omega
          have hk0 : (0 : Int) ≤ (k : Int) := by omega
          have HUK := hid (tkN_up f a k)
          obtain ⟨L1, hL1⟩ : ∃ L, L0 ++ tkN f a k = L := ⟨_, rfl⟩
          have hl1 : L1.length ≤ 126 := by rw [← hL1, List.length_append]; omega
          have HL1 := hid hL1
          rw [hL1] at hO
          obtain ⟨n1, hn1⟩ : ∃ n, L1.length = n := ⟨_, rfl⟩
          have HN1 := hid hn1
          rw [hn1] at hO hl1
          obtain ⟨s, hs⟩ : ∃ s, (k : Int) % 7 = s := ⟨_, rfl⟩
          obtain ⟨o, ho⟩ : ∃ o, (k : Int) / 7 = o := ⟨_, rfl⟩
          obtain ⟨b, hb⟩ : ∃ b, altZ f s = b := ⟨_, rfl⟩
          have ht1 : (k : Int).tmod 7 = s := by rw [Int.tmod_eq_emod_of_nonneg hk0]; exact hs
          have ht2 : (k : Int).tdiv 7 = o := by rw [Int.tdiv_eq_ediv_of_nonneg hk0]; exact ho
          have s0 : 0 ≤ s := by omega
          have s6 : s ≤ 6 := by omega
          have o0 : 0 ≤ o := by omega
          have o9 : o ≤ 9 := by omega
          have ws : IntKind.i64.wrap s = s := IntWalk.i64_in _ (by omega)
          have wo : IntKind.i64.wrap o = o := IntWalk.i64_in _ (by omega)
          have HTN := hid (show tnP f k = ⟨s, b, o⟩ by unfold tnP; rw [hs, ho, hb])
          have HAL := hid (fun W => altS15 s0 s6 hb W)
          obtain ⟨z, hz⟩ : ∃ z, kyP ⟨s, b, o⟩ = z := ⟨_, rfl⟩
          have HK := hid (fun W => keyS14 hz W)
          rw [HTN.out, hz] at HUK
          clear he hL1 hn1 hb hz hkl hkr
          go_wp2_with (go_at_call 58; apply own_at hO; (repeat (first | (with_reducible exact hO) | (with_reducible apply Own.alloc) | (with_reducible apply Own.drew) | ((with_reducible apply Own.set_at); (focus (show _ ≤ _; omega))))); have hG := hF; clear hF; clear hO; intro hO; refine own_call hO (fun hB => HAL.out _) ?_; clear hO; intro w1 hO; (try simp only [World.size_alloc1, World.size_drew, Nat.reduceAdd] at hO); (try simp only [upd, updI, List.map_cons, List.map_nil, eq_self, if_true, if_false, reduceIte, Nat.add_eq_left, Nat.left_eq_add, Nat.reduceEqDiff, List.set_cons_zero, List.set_cons_succ, hG] at hO); clear hG; have hF := hO; (try simp only [Own, Item.Holds, apartI, CellsAt, Nat.reduceAdd, Nat.zero_add, List.mem_cons, List.not_mem_nil, or_false, forall_eq_or_imp, forall_eq, ne_eq, false_imp_iff, implies_true, and_true] at hF))
          by_cases hc : z = a
          · have HN := hid (show L1 ++ [⟨s, b, o⟩] = L0 ++ tkN f a (k + 1) ∧ n1 + 1 = (L0 ++ tkN f a (k + 1)).length by
              rw [HUK.out, if_pos hc, ← List.append_assoc, HL1.out, List.length_append, HN1.out]
              exact ⟨rfl, rfl⟩)
            subst hc
            go_wp2_with (first | (go_at_call 59; apply own_at hO; (repeat (first | (with_reducible exact hO) | (with_reducible apply Own.alloc) | (with_reducible apply Own.drew) | ((with_reducible apply Own.set_at); (focus (show _ ≤ _; omega))))); have hG := hF; clear hF; clear hO; intro hO; refine own_call hO (fun hB => HK.out _) ?_; clear hO; intro w1 hO; (try simp only [World.size_alloc1, World.size_drew, Nat.reduceAdd] at hO); (try simp only [upd, updI, List.map_cons, List.map_nil, eq_self, if_true, if_false, reduceIte, Nat.add_eq_left, Nat.left_eq_add, Nat.reduceEqDiff, List.set_cons_zero, List.set_cons_succ, hG] at hO); clear hG; have hF := hO; (try simp only [Own, Item.Holds, apartI, CellsAt, Nat.reduceAdd, Nat.zero_add, List.mem_cons, List.not_mem_nil, or_false, forall_eq_or_imp, forall_eq, ne_eq, false_imp_iff, implies_true, and_true] at hF)) | (at_builtin; apply own_list hO; (repeat (first | (with_reducible exact hO) | (with_reducible apply Own.alloc) | (with_reducible apply Own.drew) | ((with_reducible apply Own.set_at); (focus (show _ ≤ _; omega))))); have hG := hF; clear hF; clear hO; intro hO; (try simp only [World.size_alloc1, World.size_drew, Nat.reduceAdd] at hO); (try simp only [upd, updI, List.map_cons, List.map_nil, eq_self, if_true, if_false, reduceIte, Nat.add_eq_left, Nat.left_eq_add, Nat.reduceEqDiff, List.set_cons_zero, List.set_cons_succ, hG] at hO); clear hG; (try simp only [World.size_setCell] at hO); have hF := hO; (try simp only [Own, Item.Holds, apartI, CellsAt, Nat.reduceAdd, Nat.zero_add, List.mem_cons, List.not_mem_nil, or_false, forall_eq_or_imp, forall_eq, ne_eq, false_imp_iff, implies_true, and_true] at hF); replace hO := Own.sub (.cons_cons _ (.cons _ (List.Sublist.refl _))) hO; refine wpList_append_item rfl _ _ 23 rfl 37 i0 (.agg #[.int .i64 0, .int .i64 0, .int .i64 0]) 3 24 Tryd.underlying23 hi0 hz0 hz1 hz2 rfl (by decide) rfl rfl hO rfl one3t (by unfold maxLen; omega) (by omega) ?_; clear hO hF; intro v' w2 hO _; have hF := True.intro))
            go_roundw
            case rel => exact ⟨k + 1, by omega, by go_num, by rw [← HN.out.2, ← HN.out.1, pcC_append]; exact hO⟩
            case measure => simp [intOf]; omega
          · have hc2 : (z == a) = false := by simp [hc]
            have HN := hid (show L1 = L0 ++ tkN f a (k + 1) ∧ n1 = (L0 ++ tkN f a (k + 1)).length by
              rw [HUK.out, if_neg hc, List.append_nil, HL1.out]
              exact ⟨rfl, HN1.out.symm⟩)
            go_wp2_with (go_at_call 59; apply own_at hO; (repeat (first | (with_reducible exact hO) | (with_reducible apply Own.alloc) | (with_reducible apply Own.drew) | ((with_reducible apply Own.set_at); (focus (show _ ≤ _; omega))))); have hG := hF; clear hF; clear hO; intro hO; refine own_call hO (fun hB => HK.out _) ?_; clear hO; intro w1 hO; (try simp only [World.size_alloc1, World.size_drew, Nat.reduceAdd] at hO); (try simp only [upd, updI, List.map_cons, List.map_nil, eq_self, if_true, if_false, reduceIte, Nat.add_eq_left, Nat.left_eq_add, Nat.reduceEqDiff, List.set_cons_zero, List.set_cons_succ, hG] at hO); clear hG; have hF := hO; (try simp only [Own, Item.Holds, apartI, CellsAt, Nat.reduceAdd, Nat.zero_add, List.mem_cons, List.not_mem_nil, or_false, forall_eq_or_imp, forall_eq, ne_eq, false_imp_iff, implies_true, and_true] at hF))
            go_roundw
            case rel => exact ⟨k + 1, by omega, by go_num, by rw [← HN.out.2, ← HN.out.1]; exact Own.drop hO⟩
            case measure => simp [intOf]; omega
theorem tsS_is {f lo hi : Int} {T : List Pt} {k : Nat} (h0 : 0 ≤ lo) (h1 : lo ≤ hi) (h2 : hi ≤ 107) (hT : tsL f lo hi = T) (hk : T.length = k) (W : World) :
    Calls Tryd.prog 34 #[.int .i64 f, .int .i64 lo, .int .i64 hi] W (RowOut 37 3 k (pcC T) W) := by
  subst hT hk; exact tsS_any f lo hi W h0 h1 h2

set_option maxHeartbeats 4000000 in
theorem soS_any (f lo hi : Int) (va : Value) (c : List Pt) (w : World) (hs : SlAt w va c.length 3 (pcC c)) (hn : c.length ≤ 1048576) :
    Calls Tryd.prog 32 #[.int .i64 f, va, .int .i64 lo, .int .i64 hi] w fun e w' => e = .returned (.bool (soB f c lo hi)) ∧ Below w.heap.size w w' := by
  have hO := Own.start w
  have hF := True.intro
  obtain ⟨b, hb⟩ : ∃ b, cvB f c = b := ⟨_, rfl⟩
  have HC := hid (fun W (hW : Below w.heap.size w W) => cvS_is rfl hs hn hb W hW)
  obtain ⟨A, ca, rfl, nb, _⟩ := hs.open
  obtain ⟨b1, h1⟩ : ∃ b, inB lo 0 107 = b := ⟨_, rfl⟩
  obtain ⟨b2, h2⟩ : ∃ b, inB hi lo 107 = b := ⟨_, rfl⟩
  have H1 := hid (fun W => in_is W h1)
  have H2 := hid (fun W => in_is W h2)
  have HV := hid (show soB f c lo hi = (b && (b1 && (b2 && decide (hi - lo ≤ 30)))) by unfold soB; rw [hb, h1, h2])
  obtain ⟨n, hn9⟩ : ∃ n, c.length = n := ⟨_, rfl⟩
  rw [hn9] at HC ⊢
  cases b
  · clear hs hb h1 h2 hn hn9
    go_enter Tryd.func32, Tryd.ntmps32
    go_wp2_with (go_at_call 55; apply own_at hO; (repeat (first | (with_reducible exact hO) | (with_reducible apply Own.alloc) | (with_reducible apply Own.drew) | ((with_reducible apply Own.set_at); (focus (show _ ≤ _; omega))))); have hG := hF; clear hF; clear hO; intro hO; refine own_call hO (fun hB => HC.out _ hB) ?_; clear hO; intro w1 hO; (try simp only [World.size_alloc1, World.size_drew, Nat.reduceAdd] at hO); (try simp only [upd, updI, List.map_cons, List.map_nil, eq_self, if_true, if_false, reduceIte, Nat.add_eq_left, Nat.left_eq_add, Nat.reduceEqDiff, List.set_cons_zero, List.set_cons_succ, hG] at hO); clear hG; have hF := hO; (try simp only [Own, Item.Holds, apartI, CellsAt, Nat.reduceAdd, Nat.zero_add, List.mem_cons, List.not_mem_nil, or_false, forall_eq_or_imp, forall_eq, ne_eq, false_imp_iff, implies_true, and_true] at hF))
    go_ret
    exact ⟨ret_bool HV.out.symm, Own.base (by first | exact hO | (repeat (first | (with_reducible exact hO) | (with_reducible apply Own.alloc) | (with_reducible apply Own.drew) | ((with_reducible apply Own.set_at); (focus (show _ ≤ _; omega))))))⟩
  · cases b1
    · clear hs hb h1 h2 hn hn9
      go_enter Tryd.func32, Tryd.ntmps32
      go_wp2_with (first | (go_at_call 55; apply own_at hO; (repeat (first | (with_reducible exact hO) | (with_reducible apply Own.alloc) | (with_reducible apply Own.drew) | ((with_reducible apply Own.set_at); (focus (show _ ≤ _; omega))))); have hG := hF; clear hF; clear hO; intro hO; refine own_call hO (fun hB => HC.out _ hB) ?_; clear hO; intro w1 hO; (try simp only [World.size_alloc1, World.size_drew, Nat.reduceAdd] at hO); (try simp only [upd, updI, List.map_cons, List.map_nil, eq_self, if_true, if_false, reduceIte, Nat.add_eq_left, Nat.left_eq_add, Nat.reduceEqDiff, List.set_cons_zero, List.set_cons_succ, hG] at hO); clear hG; have hF := hO; (try simp only [Own, Item.Holds, apartI, CellsAt, Nat.reduceAdd, Nat.zero_add, List.mem_cons, List.not_mem_nil, or_false, forall_eq_or_imp, forall_eq, ne_eq, false_imp_iff, implies_true, and_true] at hF)) | (go_at_call 56; apply own_at hO; (repeat (first | (with_reducible exact hO) | (with_reducible apply Own.alloc) | (with_reducible apply Own.drew) | ((with_reducible apply Own.set_at); (focus (show _ ≤ _; omega))))); have hG := hF; clear hF; clear hO; intro hO; refine own_call hO (fun hB => H1.out _) ?_; clear hO; intro w1 hO; (try simp only [World.size_alloc1, World.size_drew, Nat.reduceAdd] at hO); (try simp only [upd, updI, List.map_cons, List.map_nil, eq_self, if_true, if_false, reduceIte, Nat.add_eq_left, Nat.left_eq_add, Nat.reduceEqDiff, List.set_cons_zero, List.set_cons_succ, hG] at hO); clear hG; have hF := hO; (try simp only [Own, Item.Holds, apartI, CellsAt, Nat.reduceAdd, Nat.zero_add, List.mem_cons, List.not_mem_nil, or_false, forall_eq_or_imp, forall_eq, ne_eq, false_imp_iff, implies_true, and_true] at hF)))
      go_ret
      exact ⟨ret_bool HV.out.symm, Own.base (by first | exact hO | (repeat (first | (with_reducible exact hO) | (with_reducible apply Own.alloc) | (with_reducible apply Own.drew) | ((with_reducible apply Own.set_at); (focus (show _ ≤ _; omega))))))⟩
    · cases b2
      · clear hs hb h1 h2 hn hn9
        go_enter Tryd.func32, Tryd.ntmps32
        go_wp2_with fail
        (go_at_call 55; apply own_at hO; (repeat (first | (with_reducible exact hO) | (with_reducible apply Own.alloc) | (with_reducible apply Own.drew) | ((with_reducible apply Own.set_at); (focus (show _ ≤ _; omega))))); have hG := hF; clear hF; clear hO; intro hO; refine own_call hO (fun hB => HC.out _ hB) ?_; clear hO; intro w1 hO; (try simp only [World.size_alloc1, World.size_drew, Nat.reduceAdd] at hO); (try simp only [upd, updI, List.map_cons, List.map_nil, eq_self, if_true, if_false, reduceIte, Nat.add_eq_left, Nat.left_eq_add, Nat.reduceEqDiff, List.set_cons_zero, List.set_cons_succ, hG] at hO); clear hG; have hF := hO; (try simp only [Own, Item.Holds, apartI, CellsAt, Nat.reduceAdd, Nat.zero_add, List.mem_cons, List.not_mem_nil, or_false, forall_eq_or_imp, forall_eq, ne_eq, false_imp_iff, implies_true, and_true] at hF))
        go_wp2_with fail
        (go_at_call 56; apply own_at hO; (repeat (first | (with_reducible exact hO) | (with_reducible apply Own.alloc) | (with_reducible apply Own.drew) | ((with_reducible apply Own.set_at); (focus (show _ ≤ _; omega))))); have hG := hF; clear hF; clear hO; intro hO; refine own_call hO (fun hB => H1.out _) ?_; clear hO; intro w1 hO; (try simp only [World.size_alloc1, World.size_drew, Nat.reduceAdd] at hO); (try simp only [upd, updI, List.map_cons, List.map_nil, eq_self, if_true, if_false, reduceIte, Nat.add_eq_left, Nat.left_eq_add, Nat.reduceEqDiff, List.set_cons_zero, List.set_cons_succ, hG] at hO); clear hG; have hF := hO; (try simp only [Own, Item.Holds, apartI, CellsAt, Nat.reduceAdd, Nat.zero_add, List.mem_cons, List.not_mem_nil, or_false, forall_eq_or_imp, forall_eq, ne_eq, false_imp_iff, implies_true, and_true] at hF))
        go_wp2_with (go_at_call 56; apply own_at hO; (repeat (first | (with_reducible exact hO) | (with_reducible apply Own.alloc) | (with_reducible apply Own.drew) | ((with_reducible apply Own.set_at); (focus (show _ ≤ _; omega))))); have hG := hF; clear hF; clear hO; intro hO; refine own_call hO (fun hB => H2.out _) ?_; clear hO; intro w1 hO; (try simp only [World.size_alloc1, World.size_drew, Nat.reduceAdd] at hO); (try simp only [upd, updI, List.map_cons, List.map_nil, eq_self, if_true, if_false, reduceIte, Nat.add_eq_left, Nat.left_eq_add, Nat.reduceEqDiff, List.set_cons_zero, List.set_cons_succ, hG] at hO); clear hG; have hF := hO; (try simp only [Own, Item.Holds, apartI, CellsAt, Nat.reduceAdd, Nat.zero_add, List.mem_cons, List.not_mem_nil, or_false, forall_eq_or_imp, forall_eq, ne_eq, false_imp_iff, implies_true, and_true] at hF))
        go_ret
        exact ⟨ret_bool HV.out.symm, Own.base (by first | exact hO | (repeat (first | (with_reducible exact hO) | (with_reducible apply Own.alloc) | (with_reducible apply Own.drew) | ((with_reducible apply Own.set_at); (focus (show _ ≤ _; omega))))))⟩
      · have g1 := inB_iff.1 h1
        have g2 := inB_iff.1 h2
        have wd : IntKind.i64.wrap (hi - lo) = hi - lo := IntWalk.i64_in _ (by omega)
        clear hs hb h1 h2 hn hn9 g1 g2
        go_enter Tryd.func32, Tryd.ntmps32
        go_wp2_with fail
        (go_at_call 55; apply own_at hO; (repeat (first | (with_reducible exact hO) | (with_reducible apply Own.alloc) | (with_reducible apply Own.drew) | ((with_reducible apply Own.set_at); (focus (show _ ≤ _; omega))))); have hG := hF; clear hF; clear hO; intro hO; refine own_call hO (fun hB => HC.out _ hB) ?_; clear hO; intro w1 hO; (try simp only [World.size_alloc1, World.size_drew, Nat.reduceAdd] at hO); (try simp only [upd, updI, List.map_cons, List.map_nil, eq_self, if_true, if_false, reduceIte, Nat.add_eq_left, Nat.left_eq_add, Nat.reduceEqDiff, List.set_cons_zero, List.set_cons_succ, hG] at hO); clear hG; have hF := hO; (try simp only [Own, Item.Holds, apartI, CellsAt, Nat.reduceAdd, Nat.zero_add, List.mem_cons, List.not_mem_nil, or_false, forall_eq_or_imp, forall_eq, ne_eq, false_imp_iff, implies_true, and_true] at hF))
        go_wp2_with fail
        (go_at_call 56; apply own_at hO; (repeat (first | (with_reducible exact hO) | (with_reducible apply Own.alloc) | (with_reducible apply Own.drew) | ((with_reducible apply Own.set_at); (focus (show _ ≤ _; omega))))); have hG := hF; clear hF; clear hO; intro hO; refine own_call hO (fun hB => H1.out _) ?_; clear hO; intro w1 hO; (try simp only [World.size_alloc1, World.size_drew, Nat.reduceAdd] at hO); (try simp only [upd, updI, List.map_cons, List.map_nil, eq_self, if_true, if_false, reduceIte, Nat.add_eq_left, Nat.left_eq_add, Nat.reduceEqDiff, List.set_cons_zero, List.set_cons_succ, hG] at hO); clear hG; have hF := hO; (try simp only [Own, Item.Holds, apartI, CellsAt, Nat.reduceAdd, Nat.zero_add, List.mem_cons, List.not_mem_nil, or_false, forall_eq_or_imp, forall_eq, ne_eq, false_imp_iff, implies_true, and_true] at hF))
        go_wp2_with (go_at_call 56; apply own_at hO; (repeat (first | (with_reducible exact hO) | (with_reducible apply Own.alloc) | (with_reducible apply Own.drew) | ((with_reducible apply Own.set_at); (focus (show _ ≤ _; omega))))); have hG := hF; clear hF; clear hO; intro hO; refine own_call hO (fun hB => H2.out _) ?_; clear hO; intro w1 hO; (try simp only [World.size_alloc1, World.size_drew, Nat.reduceAdd] at hO); (try simp only [upd, updI, List.map_cons, List.map_nil, eq_self, if_true, if_false, reduceIte, Nat.add_eq_left, Nat.left_eq_add, Nat.reduceEqDiff, List.set_cons_zero, List.set_cons_succ, hG] at hO); clear hG; have hF := hO; (try simp only [Own, Item.Holds, apartI, CellsAt, Nat.reduceAdd, Nat.zero_add, List.mem_cons, List.not_mem_nil, or_false, forall_eq_or_imp, forall_eq, ne_eq, false_imp_iff, implies_true, and_true] at hF))
        go_ret
        exact ⟨ret_bool (by rw [HV.out]; rfl), Own.base (by first | exact hO | (repeat (first | (with_reducible exact hO) | (with_reducible apply Own.alloc) | (with_reducible apply Own.drew) | ((with_reducible apply Own.set_at); (focus (show _ ≤ _; omega))))))⟩
end Go.Proofs.YtieoobanpllmgaaDoor
