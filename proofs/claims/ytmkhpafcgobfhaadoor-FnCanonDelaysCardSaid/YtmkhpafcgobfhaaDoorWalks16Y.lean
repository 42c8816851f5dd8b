/- Chapter 16 in the program: CanonDelays. -/
import Derived.Test.YtmkhpafcgobfhaaDoorWalks16C
import Derived.Test.YtmkhpafcgobfhaaDoorWalks16F
import Derived.Test.YtmkhpafcgobfhaaDoorWalks5C
import Derived.Test.YtmkhpafcgobfhaaDoorIntC
namespace Go.Proofs.YtmkhpafcgobfhaaDoor
set_option linter.unusedSimpArgs false
set_option linter.unusedVariables false
set_option maxRecDepth 8000
open Go.RowKit

theorem ptI16 {va : Value} {v : List Nt} {n : Nat} {s : Int} {w : World} (hl : v.length = n) (ha : SlAt w va n 6 (vcC v)) (hv : voB v = true) (hs : sumT v = s) (W : World) (hW : Below w.heap.size w W) :
    Calls Tryd.prog 70 #[va] W fun e w' => e = .returned (.int .i64 s) ∧ Below W.heap.size W w' := by
  subst hs; exact ptI_any va v n W hl (ha.below hW) (sumT_bd hv) fun j x hx => by have := (vo_at hv hx); omega
theorem intC_addY (v : List Int) (z : Int) : intC v ++ [.int .i64 z] = intC (v ++ [z]) := by unfold intC; rw [List.map_append]; rfl
theorem one16y {z : Int} : ∀ u ∈ [Value.int .i64 z], u.oneCell' = true := by
  intro u hu
  rw [List.mem_singleton.1 hu]
  rfl
theorem cy_noneI {v : List Nt} {g st ha : Int} (h : ¬ (voB v = true ∧ 1 ≤ g ∧ g ≤ 768)) : cdW v g st ha = [] := by
  unfold cdW cyN
  rw [if_neg h]
  rfl

set_option maxRecDepth 20000 in
set_option maxHeartbeats 8000000 in
theorem cyI_any (va : Value) (v : List Nt) (g st ha : Int) (w : World) (hT : TabH w) (hs : SlAt w va v.length 6 (vcC v)) (hn : v.length ≤ 1048576) (rs : r64 st) (rh : r64 ha) :
    Calls Tryd.prog 38 #[va, .int .i64 g, .agg #[.int .i64 st, .int .i64 ha]] w (RowOut 3 1 (cdW v g st ha).length (intC (cdW v g st ha)) w) := by
  have hO := Own.start w
  have hF := True.intro
  obtain ⟨i0, hi0, hz0, hz1, hz2⟩ := info_parts infoI10
  obtain ⟨A, ca, rfl, nb, _⟩ := hs.open
  obtain ⟨n, hnl⟩ : ∃ n, v.length = n := ⟨_, rfl⟩
  rw [hnl] at hs hn nb ⊢
  obtain ⟨b1, h1⟩ : ∃ b, voB v = b := ⟨_, rfl⟩
  have HVO := hid (voI_is hnl hs hn h1)
  cases b1
  · have HE := hid (show cdW v g st ha = [] from cy_noneI fun h => by rw [h1] at h; cases h.1)
    clear hs hn h1 hnl hT
    go_enter Tryd.func38, Tryd.ntmps38
    go_wp2_with (go_at_call 32; apply own_at hO; (repeat (first | (with_reducible exact hO) | (with_reducible apply Own.alloc) | (with_reducible apply Own.drew) | ((with_reducible apply Own.set_at); (focus (show _ ≤ _; omega))))); have hG := hF; clear hF; clear hO; intro hO; refine own_call hO (fun hB => HVO.out _ hB) ?_; clear hO; intro w1 hO; (try simp only [World.size_alloc1, World.size_drew, Nat.reduceAdd] at hO); (try simp only [upd, updI, List.map_cons, List.map_nil, eq_self, if_true, if_false, reduceIte, Nat.add_eq_left, Nat.left_eq_add, Nat.reduceEqDiff, List.set_cons_zero, List.set_cons_succ, hG] at hO); clear hG; have hF := hO; (try simp only [Own, Item.Holds, apartI, CellsAt, Nat.reduceAdd, Nat.zero_add, List.mem_cons, List.not_mem_nil, or_false, forall_eq_or_imp, forall_eq, ne_eq, false_imp_iff, implies_true, and_true] at hF))
    apply own_end hO
    (repeat (first | (with_reducible exact hO) | (with_reducible apply Own.alloc) | (with_reducible apply Own.drew) | ((with_reducible apply Own.set_at); (focus (show _ ≤ _; omega)))))
    have hG := hF; clear hF; clear hO; intro hO
    refine own_ret (v := .slice none 0 0) hO ?_ rfl (fun hO => (by rw [HE.out]; exact ⟨_, rfl, ⟨by simp [intC], .inl ⟨rfl, rfl⟩⟩, hO.base⟩))
    clear hO; intro w1 hO
    (try simp only [World.size_alloc1, World.size_drew, Nat.reduceAdd] at hO); (try simp only [upd, updI, List.map_cons, List.map_nil, eq_self, if_true, if_false, reduceIte, Nat.add_eq_left, Nat.left_eq_add, Nat.reduceEqDiff, List.set_cons_zero, List.set_cons_succ, hG] at hO); clear hG
    have hF := hO; (try simp only [Own, Item.Holds, apartI, CellsAt, Nat.reduceAdd, Nat.zero_add, List.mem_cons, List.not_mem_nil, or_false, forall_eq_or_imp, forall_eq, ne_eq, false_imp_iff, implies_true, and_true] at hF)
    simp [results, Tryd.results38, go_sem, hF]
  · by_cases hg1 : g < 1
    · have HE := hid (show cdW v g st ha = [] from cy_noneI fun h => by omega)
      clear hs hn h1 hnl hT
      go_enter Tryd.func38, Tryd.ntmps38
      go_wp2_with (go_at_call 32; apply own_at hO; (repeat (first | (with_reducible exact hO) | (with_reducible apply Own.alloc) | (with_reducible apply Own.drew) | ((with_reducible apply Own.set_at); (focus (show _ ≤ _; omega))))); have hG := hF; clear hF; clear hO; intro hO; refine own_call hO (fun hB => HVO.out _ hB) ?_; clear hO; intro w1 hO; (try simp only [World.size_alloc1, World.size_drew, Nat.reduceAdd] at hO); (try simp only [upd, updI, List.map_cons, List.map_nil, eq_self, if_true, if_false, reduceIte, Nat.add_eq_left, Nat.left_eq_add, Nat.reduceEqDiff, List.set_cons_zero, List.set_cons_succ, hG] at hO); clear hG; have hF := hO; (try simp only [Own, Item.Holds, apartI, CellsAt, Nat.reduceAdd, Nat.zero_add, List.mem_cons, List.not_mem_nil, or_false, forall_eq_or_imp, forall_eq, ne_eq, false_imp_iff, implies_true, and_true] at hF))
      apply own_end hO
      (repeat (first | (with_reducible exact hO) | (with_reducible apply Own.alloc) | (with_reducible apply Own.drew) | ((with_reducible apply Own.set_at); (focus (show _ ≤ _; omega)))))
      have hG := hF; clear hF; clear hO; intro hO
      refine own_ret (v := .slice none 0 0) hO ?_ rfl (fun hO => (by rw [HE.out]; exact ⟨_, rfl, ⟨by simp [intC], .inl ⟨rfl, rfl⟩⟩, hO.base⟩))
      clear hO; intro w1 hO
      (try simp only [World.size_alloc1, World.size_drew, Nat.reduceAdd] at hO); (try simp only [upd, updI, List.map_cons, List.map_nil, eq_self, if_true, if_false, reduceIte, Nat.add_eq_left, Nat.left_eq_add, Nat.reduceEqDiff, List.set_cons_zero, List.set_cons_succ, hG] at hO); clear hG
      have hF := hO; (try simp only [Own, Item.Holds, apartI, CellsAt, Nat.reduceAdd, Nat.zero_add, List.mem_cons, List.not_mem_nil, or_false, forall_eq_or_imp, forall_eq, ne_eq, false_imp_iff, implies_true, and_true] at hF)
      simp [results, Tryd.results38, go_sem, hF]
    · by_cases hg2 : 768 < g
      · have HE := hid (show cdW v g st ha = [] from cy_noneI fun h => by omega)
        clear hs hn h1 hnl hT
        go_enter Tryd.func38, Tryd.ntmps38
        go_wp2_with (go_at_call 32; apply own_at hO; (repeat (first | (with_reducible exact hO) | (with_reducible apply Own.alloc) | (with_reducible apply Own.drew) | ((with_reducible apply Own.set_at); (focus (show _ ≤ _; omega))))); have hG := hF; clear hF; clear hO; intro hO; refine own_call hO (fun hB => HVO.out _ hB) ?_; clear hO; intro w1 hO; (try simp only [World.size_alloc1, World.size_drew, Nat.reduceAdd] at hO); (try simp only [upd, updI, List.map_cons, List.map_nil, eq_self, if_true, if_false, reduceIte, Nat.add_eq_left, Nat.left_eq_add, Nat.reduceEqDiff, List.set_cons_zero, List.set_cons_succ, hG] at hO); clear hG; have hF := hO; (try simp only [Own, Item.Holds, apartI, CellsAt, Nat.reduceAdd, Nat.zero_add, List.mem_cons, List.not_mem_nil, or_false, forall_eq_or_imp, forall_eq, ne_eq, false_imp_iff, implies_true, and_true] at hF))
        apply own_end hO
        (repeat (first | (with_reducible exact hO) | (with_reducible apply Own.alloc) | (with_reducible apply Own.drew) | ((with_reducible apply Own.set_at); (focus (show _ ≤ _; omega)))))
        have hG := hF; clear hF; clear hO; intro hO
        refine own_ret (v := .slice none 0 0) hO ?_ rfl (fun hO => (by rw [HE.out]; exact ⟨_, rfl, ⟨by simp [intC], .inl ⟨rfl, rfl⟩⟩, hO.base⟩))
        clear hO; intro w1 hO
        (try simp only [World.size_alloc1, World.size_drew, Nat.reduceAdd] at hO); (try simp only [upd, updI, List.map_cons, List.map_nil, eq_self, if_true, if_false, reduceIte, Nat.add_eq_left, Nat.left_eq_add, Nat.reduceEqDiff, List.set_cons_zero, List.set_cons_succ, hG] at hO); clear hG
        have hF := hO; (try simp only [Own, Item.Holds, apartI, CellsAt, Nat.reduceAdd, Nat.zero_add, List.mem_cons, List.not_mem_nil, or_false, forall_eq_or_imp, forall_eq, ne_eq, false_imp_iff, implies_true, and_true] at hF)
        simp [results, Tryd.results38, go_sem, hF]
      · obtain ⟨S, hS⟩ : ∃ s, sumT v = s := ⟨_, rfl⟩
        have HPT := hid (ptI16 hnl hs h1 hS)
        obtain ⟨N, hN⟩ : ∃ n, cyN v g = n := ⟨_, rfl⟩
        have HMO := hid (fun (i : Nat) => show i < N ↔ g * ((i : Int) + 1) < S ∧ g * ((i : Int) + 1) ≤ 768 by rw [← hN, ← hS]; exact cy_more h1 (by omega) (by omega))
        have hN9 : N ≤ 768 := by rw [← hN]; exact cyN_le v g
        have HCW := hid (show cdW v g st ha = cyL v g st ha N by unfold cdW; rw [hN])
        have HCN := hid (fun (d : Int) (u : List Nt) (k : Nat) (b : Bool) (hd : r64 d) (hu : caL v d st ha = u) (hk : u.length = k) (hb : caB v d st ha = b) W (hW : Below w.heap.size w W) => (cnoI_C hT).is hnl hn hd rs rh hu hk hb _ W hW (hs.below hW))
        have HMF := hid (fun (u : List Nt) (k : Nat) (z : Int) (hk : u.length = k) (hk9 : k ≤ 1048576) (hz : mfZ v u = z) vb W (hW : Below w.heap.size w W) (hb : SlAt W vb k 6 (vcC u)) => (mfI_C hT).is hnl hk hn hk9 hz _ vb W hW (hs.below hW) hb)
        have HVL := hid (And.intro hnl h1)
        have hS9 := sum_all16 h1
        rw [hS] at hS9
        obtain ⟨L, hL⟩ : ∃ x, min (S - 1) 768 = x := ⟨_, rfl⟩
        have hLm : (if 768 < S - 1 then (768 : Int) else S - 1) = L := by split <;> omega
        have wS : IntKind.i64.wrap (S - 1) = S - 1 := IntWalk.i64_in _ (by omega)
        have HL := hid (show ∀ d : Int, d ≤ L ↔ d < S ∧ d ≤ 768 from fun d => by omega)
        have hL9 : -1 ≤ L ∧ L ≤ 768 := by omega
        clear hs hn h1 hnl hS hN hT hL
        go_enter Tryd.func38, Tryd.ntmps38
        go_wp2_with (first | (go_at_call 32; apply own_at hO; (repeat (first | (with_reducible exact hO) | (with_reducible apply Own.alloc) | (with_reducible apply Own.drew) | ((with_reducible apply Own.set_at); (focus (show _ ≤ _; omega))))); have hG := hF; clear hF; clear hO; intro hO; refine own_call hO (fun hB => HVO.out _ hB) ?_; clear hO; intro w1 hO; (try simp only [World.size_alloc1, World.size_drew, Nat.reduceAdd] at hO); (try simp only [upd, updI, List.map_cons, List.map_nil, eq_self, if_true, if_false, reduceIte, Nat.add_eq_left, Nat.left_eq_add, Nat.reduceEqDiff, List.set_cons_zero, List.set_cons_succ, hG] at hO); clear hG; have hF := hO; (try simp only [Own, Item.Holds, apartI, CellsAt, Nat.reduceAdd, Nat.zero_add, List.mem_cons, List.not_mem_nil, or_false, forall_eq_or_imp, forall_eq, ne_eq, false_imp_iff, implies_true, and_true] at hF)) | (go_at_call 70; apply own_at hO; (repeat (first | (with_reducible exact hO) | (with_reducible apply Own.alloc) | (with_reducible apply Own.drew) | ((with_reducible apply Own.set_at); (focus (show _ ≤ _; omega))))); have hG := hF; clear hF; clear hO; intro hO; refine own_call hO (fun hB => HPT.out _ hB) ?_; clear hO; intro w1 hO; (try simp only [World.size_alloc1, World.size_drew, Nat.reduceAdd] at hO); (try simp only [upd, updI, List.map_cons, List.map_nil, eq_self, if_true, if_false, reduceIte, Nat.add_eq_left, Nat.left_eq_add, Nat.reduceEqDiff, List.set_cons_zero, List.set_cons_succ, hG] at hO); clear hG; have hF := hO; (try simp only [Own, Item.Holds, apartI, CellsAt, Nat.reduceAdd, Nat.zero_add, List.mem_cons, List.not_mem_nil, or_false, forall_eq_or_imp, forall_eq, ne_eq, false_imp_iff, implies_true, and_true] at hF)))
        have hO2 := Own.nilRow 3 1 hO
        clear hO
        go_loopw [7, 9] (fun u s wr => ∃ (i : Nat) (d : Int), i ≤ N ∧ s = .int .i64 d ∧ Hid (d = g * ((i : Int) + 1)) ∧ (1 ≤ d ∧ d ≤ 1536) ∧ Own w.heap.size (Below w.heap.size w) wr [.row 3 1 u (cyL v g st ha i).length (intC (cyL v g st ha i)), .blk w.heap.size [.int .i64 st, .int .i64 ha]]) (fun _ s _ => 2000 - (intOf s).toNat)
        case atStart => exact ⟨0, g, by omega, rfl, by show g = g * (((0 : Nat) : Int) + 1); omega, by omega, hO2⟩
        case round =>
          clear hO2 hLm hF
          obtain ⟨i, d, hi, rfl, hd, ⟨hd1, hd2⟩, hO⟩ := hrel
          have hmo := HMO.out i
          rw [← hd.out, ← HL.out] at hmo
          have hF := True.intro
          have hF := hO; (try simp only [Own, Item.Holds, apartI, CellsAt, Nat.reduceAdd, Nat.zero_add, List.mem_cons, List.not_mem_nil, or_false, forall_eq_or_imp, forall_eq, ne_eq, false_imp_iff, implies_true, and_true] at hF)
          by_cases he : i = N
          · subst he
            have HE := hid HCW.out
            have c1 : ¬ d ≤ L := by omega
            clear hmo
            go_wp2_with fail
            go_ret
            rw [HE.out]
            exact RowOut.mk hO
          · have hil : i < N := by omega
            have c1 : d ≤ L := hmo.1 hil
            have rd : r64 d := by unfold r64; omega
            have wd : IntKind.i64.wrap (d + g) = d + g := IntWalk.i64_in _ (by omega)
            obtain ⟨u, hu⟩ : ∃ u, caL v d st ha = u := ⟨_, rfl⟩
            obtain ⟨k, hk⟩ : ∃ k, u.length = k := ⟨_, rfl⟩
            obtain ⟨b, hb⟩ : ∃ b, caB v d st ha = b := ⟨_, rfl⟩
            obtain ⟨z, hz⟩ : ∃ z, mfZ v u = z := ⟨_, rfl⟩
            have hk9 : k ≤ 1048576 := by
              have hvl := HVL.out
              have := (voB_iff.1 hvl.2).2
              cases hb2 : caB v d st ha
              · rw [← hk, ← hu, ca_no hb2]; simp
              · rw [← hk, ← hu, ca_len hb2]; omega
            have HCNd := hid (HCN.out d u k b rd hu hk hb)
            have HMFd := hid (HMF.out u k z hk hk9 hz)
            have HUP := hid (show cyL v g st ha (i + 1) = cyL v g st ha i ++ if (b && decide (z = -1)) = true then [d] else [] by rw [cyL_up, ← hd.out]; unfold gdK; rw [hb, hu, hz])
            have HD2 := hid (show d + g = g * (((i + 1 : Nat) : Int) + 1) by rw [hd.out, show (((i + 1 : Nat) : Int) + 1) = ((i : Int) + 1) + 1 by omega, Int.mul_add g ((i : Int) + 1) 1, Int.mul_one])
            have hol := cy_len v g st ha i
            obtain ⟨o, ho⟩ : ∃ o, cyL v g st ha i = o := ⟨_, rfl⟩
            rw [ho] at hO HUP hol
            obtain ⟨p, hp⟩ : ∃ p, o.length = p := ⟨_, rfl⟩
            have HP := hid hp
            rw [hp] at hO hol
            clear he hmo hu hk hb hz ho hp
            have hF := True.intro
            have hF := hO; (try simp only [Own, Item.Holds, apartI, CellsAt, Nat.reduceAdd, Nat.zero_add, List.mem_cons, List.not_mem_nil, or_false, forall_eq_or_imp, forall_eq, ne_eq, false_imp_iff, implies_true, and_true] at hF)
            cases b
            · have HN := hid (show cyL v g st ha (i + 1) = o by rw [HUP.out, if_neg (by simp), List.append_nil])
              go_wp2_with (go_at_call 29; apply own_at hO; (repeat (first | (with_reducible exact hO) | (with_reducible apply Own.alloc) | (with_reducible apply Own.drew) | ((with_reducible apply Own.set_at); (focus (show _ ≤ _; omega))))); have hG := hF; clear hF; clear hO; intro hO; refine own_call_rowB hO (fun hB => HCNd.out _ hB) ?_; clear hO; intro v w1 hO; (try simp only [World.size_alloc1, World.size_drew, Nat.reduceAdd] at hO); (try simp only [upd, updI, List.map_cons, List.map_nil, eq_self, if_true, if_false, reduceIte, Nat.add_eq_left, Nat.left_eq_add, Nat.reduceEqDiff, List.set_cons_zero, List.set_cons_succ, hG] at hO); clear hG; have hF := hO; (try simp only [Own, Item.Holds, apartI, CellsAt, Nat.reduceAdd, Nat.zero_add, List.mem_cons, List.not_mem_nil, or_false, forall_eq_or_imp, forall_eq, ne_eq, false_imp_iff, implies_true, and_true] at hF))
              go_roundw
              case rel => exact ⟨i + 1, d + g, by omega, by go_num, HD2.out, by omega, by rw [HN.out, HP.out]; exact Own.drop hO⟩
              case measure => simp [intOf]; omega
            · by_cases hz1 : z = -1
              · have HN := hid (show cyL v g st ha (i + 1) = o ++ [d] by rw [HUP.out, if_pos (by simp [hz1])])
                subst hz1
                go_wp2_with (first | (go_at_call 29; apply own_at hO; (repeat (first | (with_reducible exact hO) | (with_reducible apply Own.alloc) | (with_reducible apply Own.drew) | ((with_reducible apply Own.set_at); (focus (show _ ≤ _; omega))))); have hG := hF; clear hF; clear hO; intro hO; refine own_call_rowB hO (fun hB => HCNd.out _ hB) ?_; clear hO; intro v w1 hO; (try simp only [World.size_alloc1, World.size_drew, Nat.reduceAdd] at hO); (try simp only [upd, updI, List.map_cons, List.map_nil, eq_self, if_true, if_false, reduceIte, Nat.add_eq_left, Nat.left_eq_add, Nat.reduceEqDiff, List.set_cons_zero, List.set_cons_succ, hG] at hO); clear hG; have hF := hO; (try simp only [Own, Item.Holds, apartI, CellsAt, Nat.reduceAdd, Nat.zero_add, List.mem_cons, List.not_mem_nil, or_false, forall_eq_or_imp, forall_eq, ne_eq, false_imp_iff, implies_true, and_true] at hF)) | (go_at_call 24; apply own_at hO; (repeat (first | (with_reducible exact hO) | (with_reducible apply Own.alloc) | (with_reducible apply Own.drew) | ((with_reducible apply Own.set_at); (focus (show _ ≤ _; omega))))); have hG := hF; clear hF; clear hO; intro hO; refine own_callO hO (fun hW => HMFd.out _ _ hW.base (SlAt.of_row hW.1.1)) ?_; clear hO; intro w1 hO; (try simp only [World.size_alloc1, World.size_drew, Nat.reduceAdd] at hO); (try simp only [upd, updI, List.map_cons, List.map_nil, eq_self, if_true, if_false, reduceIte, Nat.add_eq_left, Nat.left_eq_add, Nat.reduceEqDiff, List.set_cons_zero, List.set_cons_succ, hG] at hO); clear hG; have hF := hO; (try simp only [Own, Item.Holds, apartI, CellsAt, Nat.reduceAdd, Nat.zero_add, List.mem_cons, List.not_mem_nil, or_false, forall_eq_or_imp, forall_eq, ne_eq, false_imp_iff, implies_true, and_true] at hF)) | (at_builtin; apply own_list hO; (repeat (first | (with_reducible exact hO) | (with_reducible apply Own.alloc) | (with_reducible apply Own.drew) | ((with_reducible apply Own.set_at); (focus (show _ ≤ _; omega))))); have hG := hF; clear hF; clear hO; intro hO; (try simp only [World.size_alloc1, World.size_drew, Nat.reduceAdd] at hO); (try simp only [upd, updI, List.map_cons, List.map_nil, eq_self, if_true, if_false, reduceIte, Nat.add_eq_left, Nat.left_eq_add, Nat.reduceEqDiff, List.set_cons_zero, List.set_cons_succ, hG] at hO); clear hG; (try simp only [World.size_setCell] at hO); have hF := hO; (try simp only [Own, Item.Holds, apartI, CellsAt, Nat.reduceAdd, Nat.zero_add, List.mem_cons, List.not_mem_nil, or_false, forall_eq_or_imp, forall_eq, ne_eq, false_imp_iff, implies_true, and_true] at hF); replace hO := Own.sub (.cons_cons _ (.cons _ (.refl _))) hO; refine wpList_append_item rfl _ _ 55 rfl 3 i0 (.int .i64 0) 1 8 Tryd.underlying55 hi0 hz0 hz1 hz2 rfl (by decide) rfl rfl hO rfl one16y (by unfold maxLen; omega) (by omega) ?_; clear hO hF; intro u2 w2 hO _; rw [intC_addY] at hO; have hF := True.intro))
                go_roundw
                case rel => exact ⟨i + 1, d + g, by omega, by go_num, HD2.out, by omega, by rw [HN.out, List.length_append, HP.out]; exact hO⟩
                case measure => simp [intOf]; omega
              · have HN := hid (show cyL v g st ha (i + 1) = o by rw [HUP.out, if_neg (by simp [hz1]), List.append_nil])
                have hz2' : (z == -1) = false := by simp [hz1]
                go_wp2_with (first | (go_at_call 29; apply own_at hO; (repeat (first | (with_reducible exact hO) | (with_reducible apply Own.alloc) | (with_reducible apply Own.drew) | ((with_reducible apply Own.set_at); (focus (show _ ≤ _; omega))))); have hG := hF; clear hF; clear hO; intro hO; refine own_call_rowB hO (fun hB => HCNd.out _ hB) ?_; clear hO; intro v w1 hO; (try simp only [World.size_alloc1, World.size_drew, Nat.reduceAdd] at hO); (try simp only [upd, updI, List.map_cons, List.map_nil, eq_self, if_true, if_false, reduceIte, Nat.add_eq_left, Nat.left_eq_add, Nat.reduceEqDiff, List.set_cons_zero, List.set_cons_succ, hG] at hO); clear hG; have hF := hO; (try simp only [Own, Item.Holds, apartI, CellsAt, Nat.reduceAdd, Nat.zero_add, List.mem_cons, List.not_mem_nil, or_false, forall_eq_or_imp, forall_eq, ne_eq, false_imp_iff, implies_true, and_true] at hF)) | (go_at_call 24; apply own_at hO; (repeat (first | (with_reducible exact hO) | (with_reducible apply Own.alloc) | (with_reducible apply Own.drew) | ((with_reducible apply Own.set_at); (focus (show _ ≤ _; omega))))); have hG := hF; clear hF; clear hO; intro hO; refine own_callO hO (fun hW => HMFd.out _ _ hW.base (SlAt.of_row hW.1.1)) ?_; clear hO; intro w1 hO; (try simp only [World.size_alloc1, World.size_drew, Nat.reduceAdd] at hO); (try simp only [upd, updI, List.map_cons, List.map_nil, eq_self, if_true, if_false, reduceIte, Nat.add_eq_left, Nat.left_eq_add, Nat.reduceEqDiff, List.set_cons_zero, List.set_cons_succ, hG] at hO); clear hG; have hF := hO; (try simp only [Own, Item.Holds, apartI, CellsAt, Nat.reduceAdd, Nat.zero_add, List.mem_cons, List.not_mem_nil, or_false, forall_eq_or_imp, forall_eq, ne_eq, false_imp_iff, implies_true, and_true] at hF)))
                go_roundw
                case rel => exact ⟨i + 1, d + g, by omega, by go_num, HD2.out, by omega, by rw [HN.out, HP.out]; exact Own.drop hO⟩
                case measure => simp [intOf]; omega
theorem cyI_C {w : World} (hT : TabH w) : CCd 38 w := fun va v g st ha W hW hs hn _ rs rh => cyI_any va v g st ha W (hT.below hW) hs hn rs rh
end Go.Proofs.YtmkhpafcgobfhaaDoor
