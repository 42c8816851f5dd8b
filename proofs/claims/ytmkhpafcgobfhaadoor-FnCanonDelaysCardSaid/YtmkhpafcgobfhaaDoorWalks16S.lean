/- Chapter 16 in the model: the ticks at which voices meet; dissonances. -/
import Derived.Test.YtmkhpafcgobfhaaDoorPure16B
import Derived.Test.YtmkhpafcgobfhaaDoorWalks5N
import Derived.Test.YtmkhpafcgobfhaaDoorIntC
import Derived.Test.YtmkhpafcgobfhaaDoorRegionD
namespace Go.Proofs.YtmkhpafcgobfhaaDoor
set_option linter.unusedSimpArgs false
set_option linter.unusedVariables false
set_option maxRecDepth 8000
open Go.RowKit Go.Joins

theorem vt16 {va : Value} {v : List Nt} {n : Nat} {w : World} {z : Int} (hl : v.length = n) (ha : SlAt w va n 6 (vcC v)) (hn : n ≤ 1048576) (h : vtZ v = z) (W : World) (hW : Below w.heap.size w W) :
    Calls Tryd.prog 71 #[va] W fun e w' => e = .returned (.int .i64 z) ∧ Below W.heap.size W w' := by
  subst hl h; exact vtS_any va v W (ha.below hW) hn

theorem na16 {va : Value} {v : List Nt} {n : Nat} {t : Int} {w : World} {z : Int} (hl : v.length = n) (ha : SlAt w va n 6 (vcC v)) (hn : n ≤ 1048576) (ht : t ≤ 9223372036854775807) (h : naZ v t = z) (W : World) (hW : Below w.heap.size w W) :
    Calls Tryd.prog 88 #[va, .int .i64 t] W fun e w' => e = .returned (.int .i64 z) ∧ Below W.heap.size W w' := by
  subst hl h; exact naS_any va v t W (ha.below hW) hn ht

theorem vt_vo {v : List Nt} (h : voB v = true) : vtZ v = sumT v := by unfold vtZ; rw [if_pos h]
theorem intC_add16 (v : List Int) (z : Int) : intC v ++ [.int .i64 z] = intC (v ++ [z]) := by unfold intC; rw [List.map_append]; rfl
theorem one16 {z : Int} : ∀ u ∈ [Value.int .i64 z], u.oneCell' = true := by
  intro u hu
  rw [List.mem_singleton.1 hu]
  rfl
theorem nxP_bd {n t : Int} {v : List Nt} (h : voB v = true) (h0 : 0 ≤ t) (hn : -1 ≤ n ∧ n ≤ 46080) : ∀ k, -1 ≤ nxP n v t k ∧ nxP n v t k ≤ 46080
  | 0 => hn
  | k + 1 => by
    have ih := nxP_bd (n := n) (t := t) h h0 hn k
    have := sumT_bd h (k + 1)
    unfold nxP stepN
    split <;> omega

set_option maxRecDepth 20000 in
set_option maxHeartbeats 8000000 in
theorem onS_any (va vb : Value) (a b : List Nt) (w : World) (ha : SlAt w va a.length 6 (vcC a)) (hb : SlAt w vb b.length 6 (vcC b)) (h1 : voB a = true) (h2 : voB b = true) :
    Calls Tryd.prog 87 #[va, vb] w (RowOut 3 1 (onL a b (moZ a b)).length (intC (onL a b (moZ a b))) w) := by
  have hO := Own.start w
  have hF := True.intro
  obtain ⟨i0, hi0, hz0, hz1, hz2⟩ := info_parts infoI10
  obtain ⟨A, ca, rfl, nb, hA⟩ := ha.open
  obtain ⟨A', cb, rfl, mb, hA'⟩ := hb.open
  obtain ⟨n, hnl⟩ : ∃ n, a.length = n := ⟨_, rfl⟩
  obtain ⟨m, hml⟩ : ∃ n, b.length = n := ⟨_, rfl⟩
  have hn60 : n ≤ 60 := by have := (voB_iff.1 h1).2; omega
  have hm60 : m ≤ 60 := by have := (voB_iff.1 h2).2; omega
  obtain ⟨M, hM⟩ : ∃ M, moZ a b = M := ⟨_, rfl⟩
  obtain ⟨sa, hsa⟩ : ∃ s, sumT a = s := ⟨_, rfl⟩
  obtain ⟨sb, hsb⟩ : ∃ s, sumT b = s := ⟨_, rfl⟩
  have ba := sum_all16 h1
  have bb := sum_all16 h2
  have hMe : (M : Int) = max sa sb := by rw [← hM, ← hsa, ← hsb]; unfold moZ; omega
  rw [hsa] at ba
  rw [hsb] at bb
  have HMS := hid hMe
  rw [hnl] at ha nb hA ⊢
  rw [hml] at hb mb hA' ⊢
  have HTA := hid (fun W (hW : Below w.heap.size w W) => vt16 hnl ha (by omega) (show vtZ a = sa by rw [vt_vo h1, hsa]) W hW)
  have HTB := hid (fun W (hW : Below w.heap.size w W) => vt16 hml hb (by omega) (show vtZ b = sb by rw [vt_vo h2, hsb]) W hW)
  have HA := hid ha
  have HB := hid hb
  have HN := hid (And.intro hnl hml)
  have HV := hid (And.intro h1 h2)
  have HON := hid (fun (t : Nat) (h : (t : Int) < (M : Int)) (ho : (onB a (t : Int) || onB b (t : Int)) = true) => on_next (voB_iff.1 h1).1 (voB_iff.1 h2).1 (t := t) (by rw [hM]; exact h) ho)
  have HNX := hid (fun (t : Nat) (h : (t : Int) < (M : Int)) => nx_is (voB_iff.1 h1).1 (voB_iff.1 h2).1 (t := (t : Int)) (Int.natCast_nonneg t) (by rw [hM]; exact h))
  rw [hM] at HON HNX ⊢
  clear ha hb hnl hml h1 h2 hM hsa hsb hMe
  have HMM := hid (show sa ≤ (M : Int) ∧ sb ≤ (M : Int) ∧ (M : Int) ≤ 46080 ∧ ((M : Int) = sa ∨ (M : Int) = sb) by have := HMS.out; omega)
  go_enter Tryd.func87, Tryd.ntmps87
  go_wp2_with fail
  go_loopw [5, 6] (fun u s wr => ∃ k : Nat, k ≤ M ∧ s = .int .i64 k ∧ Hid (k < M → (onB a (k : Int) || onB b (k : Int)) = true) ∧ Own w.heap.size (Below w.heap.size w) wr [.row 3 1 u (onL a b k).length (intC (onL a b k))]) (fun _ s _ => M - (intOf s).toNat)
  case atStart => exact ⟨0, by omega, rfl, fun _ => by rw [show ((0 : Nat) : Int) = 0 from rfl, onB_zero]; rfl, hO.allocRow (e := 3) (cur := #[]) (k := 0) (cap := 0) 1 (by omega) (by unfold maxLen; omega) rfl⟩
  case round =>
    clear hO hF
    obtain ⟨k, hk, rfl, hon, hO⟩ := hrel
    obtain ⟨g1, g2, g3, g4⟩ := HMM.out
    by_cases he : k = M
    · subst he
      have c1 : ¬ (k : Int) < sa := by omega
      have c2 : ¬ (k : Int) < sb := by omega
      clear g4 HMM
      have hF := True.intro
      go_wp2_with (first | ((with_reducible (show Calls _ _ #[.slice A n ca] _ _)); (go_at_call 71; apply own_at hO; (repeat (first | (with_reducible exact hO) | (with_reducible apply Own.alloc) | (with_reducible apply Own.drew) | ((with_reducible apply Own.set_at); (focus (show _ ≤ _; omega))))); have hG := hF; clear hF; clear hO; intro hO; refine own_call hO (fun hB => HTA.out _ hB) ?_; clear hO; intro w1 hO; (try simp only [World.size_alloc1, World.size_drew, Nat.reduceAdd] at hO); (try simp only [upd, updI, List.map_cons, List.map_nil, eq_self, if_true, if_false, reduceIte, Nat.add_eq_left, Nat.left_eq_add, Nat.reduceEqDiff, List.set_cons_zero, List.set_cons_succ, hG] at hO); clear hG; have hF := hO; (try simp only [Own, Item.Holds, apartI, CellsAt, Nat.reduceAdd, Nat.zero_add, List.mem_cons, List.not_mem_nil, or_false, forall_eq_or_imp, forall_eq, ne_eq, false_imp_iff, implies_true, and_true] at hF))) | (go_at_call 71; apply own_at hO; (repeat (first | (with_reducible exact hO) | (with_reducible apply Own.alloc) | (with_reducible apply Own.drew) | ((with_reducible apply Own.set_at); (focus (show _ ≤ _; omega))))); have hG := hF; clear hF; clear hO; intro hO; refine own_call hO (fun hB => HTB.out _ hB) ?_; clear hO; intro w1 hO; (try simp only [World.size_alloc1, World.size_drew, Nat.reduceAdd] at hO); (try simp only [upd, updI, List.map_cons, List.map_nil, eq_self, if_true, if_false, reduceIte, Nat.add_eq_left, Nat.left_eq_add, Nat.reduceEqDiff, List.set_cons_zero, List.set_cons_succ, hG] at hO); clear hG; have hF := hO; (try simp only [Own, Item.Holds, apartI, CellsAt, Nat.reduceAdd, Nat.zero_add, List.mem_cons, List.not_mem_nil, or_false, forall_eq_or_imp, forall_eq, ne_eq, false_imp_iff, implies_true, and_true] at hF)))
      go_ret
      exact RowOut.mk hO
    · have hkl : k < M := by omega
      have hkl2 : (k : Int) < (M : Int) := by omega
      have HO := hid (HON.out k hkl2 (hon.out hkl))
      have HX := hid (HNX.out k hkl2)
      have hol := onL_len_le a b k
      obtain ⟨o, ho⟩ : ∃ o, onL a b k = o := ⟨_, rfl⟩
      rw [ho] at hO hol HO
      obtain ⟨p, hp⟩ : ∃ p, o.length = p := ⟨_, rfl⟩
      have HP := hid hp
      rw [hp] at hO hol
      have hk46 : (k : Int) < 46080 := by omega
      obtain ⟨nx, hnx⟩ : ∃ z, nxZ a b (k : Int) = z := ⟨_, rfl⟩
      have HNE := hid (show nxP (nxP (-1) a (k : Int) n) b (k : Int) m = nx by rw [← hnx]; unfold nxZ; rw [HN.out.1, HN.out.2])
      rw [hnx] at HO HX
      have hnx0 : 0 ≤ nx := by have := HX.out.1; omega
      have hcc : (k : Int) < sa ∨ (¬ (k : Int) < sa ∧ (k : Int) < sb) := by omega
      clear hon he ho hp hnx g4
      rcases hcc with c1 | ⟨c1, c2⟩
      all_goals
        have hF := True.intro
        go_wp2_with (first | ((with_reducible (show Calls _ _ #[.slice A n ca] _ _)); (go_at_call 71; apply own_at hO; (repeat (first | (with_reducible exact hO) | (with_reducible apply Own.alloc) | (with_reducible apply Own.drew) | ((with_reducible apply Own.set_at); (focus (show _ ≤ _; omega))))); have hG := hF; clear hF; clear hO; intro hO; refine own_call hO (fun hB => HTA.out _ hB) ?_; clear hO; intro w1 hO; (try simp only [World.size_alloc1, World.size_drew, Nat.reduceAdd] at hO); (try simp only [upd, updI, List.map_cons, List.map_nil, eq_self, if_true, if_false, reduceIte, Nat.add_eq_left, Nat.left_eq_add, Nat.reduceEqDiff, List.set_cons_zero, List.set_cons_succ, hG] at hO); clear hG; have hF := hO; (try simp only [Own, Item.Holds, apartI, CellsAt, Nat.reduceAdd, Nat.zero_add, List.mem_cons, List.not_mem_nil, or_false, forall_eq_or_imp, forall_eq, ne_eq, false_imp_iff, implies_true, and_true] at hF))) | ((with_reducible (show Calls _ _ #[.slice A' m cb] _ _)); (go_at_call 71; apply own_at hO; (repeat (first | (with_reducible exact hO) | (with_reducible apply Own.alloc) | (with_reducible apply Own.drew) | ((with_reducible apply Own.set_at); (focus (show _ ≤ _; omega))))); have hG := hF; clear hF; clear hO; intro hO; refine own_call hO (fun hB => HTB.out _ hB) ?_; clear hO; intro w1 hO; (try simp only [World.size_alloc1, World.size_drew, Nat.reduceAdd] at hO); (try simp only [upd, updI, List.map_cons, List.map_nil, eq_self, if_true, if_false, reduceIte, Nat.add_eq_left, Nat.left_eq_add, Nat.reduceEqDiff, List.set_cons_zero, List.set_cons_succ, hG] at hO); clear hG; have hF := hO; (try simp only [Own, Item.Holds, apartI, CellsAt, Nat.reduceAdd, Nat.zero_add, List.mem_cons, List.not_mem_nil, or_false, forall_eq_or_imp, forall_eq, ne_eq, false_imp_iff, implies_true, and_true] at hF))) | (at_builtin; apply own_list hO; (repeat (first | (with_reducible exact hO) | (with_reducible apply Own.alloc) | (with_reducible apply Own.drew) | ((with_reducible apply Own.set_at); (focus (show _ ≤ _; omega))))); have hG := hF; clear hF; clear hO; intro hO; (try simp only [World.size_alloc1, World.size_drew, Nat.reduceAdd] at hO); (try simp only [upd, updI, List.map_cons, List.map_nil, eq_self, if_true, if_false, reduceIte, Nat.add_eq_left, Nat.left_eq_add, Nat.reduceEqDiff, List.set_cons_zero, List.set_cons_succ, hG] at hO); clear hG; (try simp only [World.size_setCell] at hO); have hF := hO; (try simp only [Own, Item.Holds, apartI, CellsAt, Nat.reduceAdd, Nat.zero_add, List.mem_cons, List.not_mem_nil, or_false, forall_eq_or_imp, forall_eq, ne_eq, false_imp_iff, implies_true, and_true] at hF); refine wpList_append_item rfl _ _ 55 rfl 3 i0 (.int .i64 0) 1 8 Tryd.underlying55 hi0 hz0 hz1 hz2 rfl (by decide) rfl rfl hO rfl one16 (by unfold maxLen; omega) (by omega) ?_; clear hO hF; intro u2 w2 hO _; rw [intC_add16] at hO; have hF := True.intro))
        go_loopw [7, 8] (fun x y wr => ∃ j : Nat, j ≤ 2 ∧ y = .int .i64 j ∧ x = .int .i64 (if j = 0 then -1 else if j = 1 then nxP (-1) a (k : Int) n else nx) ∧ Own w.heap.size (Below w.heap.size w) wr [.row 3 1 u2 (p + 1) (intC (o ++ [(k : Int)]))]) (fun _ y _ => 2 - (intOf y).toNat)
        case atStart => exact ⟨0, by omega, rfl, rfl, hO⟩
        case round =>
          clear hO
          obtain ⟨j, hj, rfl, rfl, hO⟩ := hrel
          rcases (show j = 0 ∨ j = 1 ∨ j = 2 by omega) with rfl | rfl | rfl
          · -- the first voice
            have HST0 := hid (show nxP (-1) a (k : Int) 0 = (-1) from rfl)
            go_wp2_with fail
            go_loopw [7, 10, 11] (fun x y z wr => ∃ i : Nat, i ≤ n ∧ z = .int .i64 i ∧ y = .int .i64 (sumT (a.take i)) ∧ x = .int .i64 (nxP (-1) a (k : Int) i) ∧ Own w.heap.size (Below w.heap.size w) wr [.row 3 1 u2 (p + 1) (intC (o ++ [(k : Int)]))]) (fun _ _ z _ => n - (intOf z).toNat)
            case atStart => exact ⟨0, by omega, rfl, rfl, rfl, hO⟩
            case round =>
              clear hO
              obtain ⟨i, hi, rfl, rfl, rfl, hO⟩ := hrel
              by_cases he : i = n
              · subst he
                go_wp2_with fail
                go_roundw
                case rel => exact ⟨1, by omega, by go_num, rfl, hO⟩
                case measure => simp [intOf] <;> omega
              · have hlt : i < n := by omega
                have hlt2 : (i : Int) < (n : Int) := by omega
                have hi9 : (0 : Int) ≤ (i : Int) := by omega
                obtain ⟨q1, o1, rfl, hc1, hc2, hq1⟩ := hA (by omega)
                obtain ⟨x, hx⟩ : ∃ x, a[i]? = some x := ⟨_, List.getElem?_eq_getElem (by have := HN.out.1; omega)⟩
                obtain ⟨d0, d1, d2, d3, d4, d5⟩ := noteAt (HA.out.below hO.base) hx
                have xb := vo_at HV.out.1 hx
                have sb9 := sumT_bd HV.out.1 i
                have HS := hid (sumT_up hx)
                have nb9 := nxP_bd (n := (-1)) HV.out.1 (Int.natCast_nonneg k) (by omega) i
                obtain ⟨s, hs⟩ : ∃ s, sumT (a.take i) = s := ⟨_, rfl⟩
                obtain ⟨z, hz⟩ : ∃ s, nxP (-1) a (k : Int) i = s := ⟨_, rfl⟩
                have HZ := hid (show nxP (-1) a (k : Int) (i + 1) = if (k : Int) < s + x.t ∧ (z < 0 ∨ s + x.t < z) then s + x.t else z by rw [← hz, ← hs, ← HS.out]; rfl)
                rw [hs] at sb9 HS ⊢
                rw [hz] at nb9 ⊢
                have ws : IntKind.i64.wrap (s + x.t) = s + x.t := IntWalk.i64_in _ (by omega)
                obtain ⟨y, hy⟩ : ∃ y, s + x.t = y := ⟨_, rfl⟩
                rw [hy] at HS HZ
                have HY := hid hy
                clear he hx hs hz
                by_cases c1 : (k : Int) < y
                · by_cases c2 : z < 0
                  · have HN := hid (show nxP (-1) a (k : Int) (i + 1) = y by rw [HZ.out, if_pos ⟨c1, Or.inl c2⟩])
                    rw [hy] at ws
                    go_wp2_with (first | fail)
                    go_roundw
                    case rel => exact ⟨i + 1, by omega, by go_num, by rw [HS.out], by rw [HN.out], hO⟩
                    case measure => simp [intOf]; omega
                  · by_cases c3 : y < z
                    · have HN := hid (show nxP (-1) a (k : Int) (i + 1) = y by rw [HZ.out, if_pos ⟨c1, Or.inr c3⟩])
                      rw [hy] at ws
                      go_wp2_with (first | fail)
                      go_roundw
                      case rel => exact ⟨i + 1, by omega, by go_num, by rw [HS.out], by rw [HN.out], hO⟩
                      case measure => simp [intOf]; omega
                    · have HN := hid (show nxP (-1) a (k : Int) (i + 1) = z by rw [HZ.out, if_neg (by omega)])
                      rw [hy] at ws
                      go_wp2_with (first | fail)
                      go_roundw
                      case rel => exact ⟨i + 1, by omega, by go_num, by rw [HS.out], by rw [HN.out], hO⟩
                      case measure => simp [intOf]; omega
                · have HN := hid (show nxP (-1) a (k : Int) (i + 1) = z by rw [HZ.out, if_neg (by omega)])
                  rw [hy] at ws
                  go_wp2_with (first | fail)
                  go_roundw
                  case rel => exact ⟨i + 1, by omega, by go_num, by rw [HS.out], by rw [HN.out], hO⟩
                  case measure => simp [intOf]; omega
          · -- the second voice
            have HST0 := hid (show nxP (nxP (-1) a (k : Int) n) b (k : Int) 0 = (nxP (-1) a (k : Int) n) from rfl)
            go_wp2_with fail
            go_loopw [7, 10, 11] (fun x y z wr => ∃ i : Nat, i ≤ m ∧ z = .int .i64 i ∧ y = .int .i64 (sumT (b.take i)) ∧ x = .int .i64 (nxP (nxP (-1) a (k : Int) n) b (k : Int) i) ∧ Own w.heap.size (Below w.heap.size w) wr [.row 3 1 u2 (p + 1) (intC (o ++ [(k : Int)]))]) (fun _ _ z _ => m - (intOf z).toNat)
            case atStart => exact ⟨0, by omega, rfl, rfl, rfl, hO⟩
            case round =>
              clear hO
              obtain ⟨i, hi, rfl, rfl, rfl, hO⟩ := hrel
              by_cases he : i = m
              · subst he
                go_wp2_with fail
                go_roundw
                case rel => exact ⟨2, by omega, by go_num, by rw [HNE.out]; rfl, hO⟩
                case measure => simp [intOf] <;> omega
              · have hlt : i < m := by omega
                have hlt2 : (i : Int) < (m : Int) := by omega
                have hi9 : (0 : Int) ≤ (i : Int) := by omega
                obtain ⟨q1, o1, rfl, hc1, hc2, hq1⟩ := hA' (by omega)
                obtain ⟨x, hx⟩ : ∃ x, b[i]? = some x := ⟨_, List.getElem?_eq_getElem (by have := HN.out.2; omega)⟩
                obtain ⟨d0, d1, d2, d3, d4, d5⟩ := noteAt (HB.out.below hO.base) hx
                have xb := vo_at HV.out.2 hx
                have sb9 := sumT_bd HV.out.2 i
                have HS := hid (sumT_up hx)
                have nb9 := nxP_bd (n := (nxP (-1) a (k : Int) n)) HV.out.2 (Int.natCast_nonneg k) (nxP_bd HV.out.1 (Int.natCast_nonneg k) (by omega) n) i
                obtain ⟨s, hs⟩ : ∃ s, sumT (b.take i) = s := ⟨_, rfl⟩
                obtain ⟨z, hz⟩ : ∃ s, nxP (nxP (-1) a (k : Int) n) b (k : Int) i = s := ⟨_, rfl⟩
                have HZ := hid (show nxP (nxP (-1) a (k : Int) n) b (k : Int) (i + 1) = if (k : Int) < s + x.t ∧ (z < 0 ∨ s + x.t < z) then s + x.t else z by rw [← hz, ← hs, ← HS.out]; rfl)
                rw [hs] at sb9 HS ⊢
                rw [hz] at nb9 ⊢
                have ws : IntKind.i64.wrap (s + x.t) = s + x.t := IntWalk.i64_in _ (by omega)
                obtain ⟨y, hy⟩ : ∃ y, s + x.t = y := ⟨_, rfl⟩
                rw [hy] at HS HZ
                have HY := hid hy
                clear he hx hs hz
                by_cases c1 : (k : Int) < y
                · by_cases c2 : z < 0
                  · have HN := hid (show nxP (nxP (-1) a (k : Int) n) b (k : Int) (i + 1) = y by rw [HZ.out, if_pos ⟨c1, Or.inl c2⟩])
                    rw [hy] at ws
                    go_wp2_with (first | fail)
                    go_roundw
                    case rel => exact ⟨i + 1, by omega, by go_num, by rw [HS.out], by rw [HN.out], hO⟩
                    case measure => simp [intOf]; omega
                  · by_cases c3 : y < z
                    · have HN := hid (show nxP (nxP (-1) a (k : Int) n) b (k : Int) (i + 1) = y by rw [HZ.out, if_pos ⟨c1, Or.inr c3⟩])
                      rw [hy] at ws
                      go_wp2_with (first | fail)
                      go_roundw
                      case rel => exact ⟨i + 1, by omega, by go_num, by rw [HS.out], by rw [HN.out], hO⟩
                      case measure => simp [intOf]; omega
                    · have HN := hid (show nxP (nxP (-1) a (k : Int) n) b (k : Int) (i + 1) = z by rw [HZ.out, if_neg (by omega)])
                      rw [hy] at ws
                      go_wp2_with (first | fail)
                      go_roundw
                      case rel => exact ⟨i + 1, by omega, by go_num, by rw [HS.out], by rw [HN.out], hO⟩
                      case measure => simp [intOf]; omega
                · have HN := hid (show nxP (nxP (-1) a (k : Int) n) b (k : Int) (i + 1) = z by rw [HZ.out, if_neg (by omega)])
                  rw [hy] at ws
                  go_wp2_with (first | fail)
                  go_roundw
                  case rel => exact ⟨i + 1, by omega, by go_num, by rw [HS.out], by rw [HN.out], hO⟩
                  case measure => simp [intOf]; omega
          · have HK := hid (show onL a b nx.toNat = o ++ [(k : Int)] ∧ p + 1 = (onL a b nx.toNat).length ∧ nx.toNat ≤ M ∧ ((nx.toNat : Nat) : Int) = nx ∧ k < nx.toNat by
              obtain ⟨h1, h2, h3, h4⟩ := HO.out
              exact ⟨h1, by rw [h1, List.length_append, HP.out]; rfl, h2, h3, h4⟩)
            have hn0 : ¬ nx < 0 := by omega
            simp only [show ¬ (2 : Nat) = 0 by decide, show ¬ (2 : Nat) = 1 by decide, if_false]
            go_wp2_with fail
            go_roundw
            case rel => exact ⟨nx.toNat, HK.out.2.2.1, by rw [HK.out.2.2.2.1], fun _ => by rw [HK.out.2.2.2.1]; exact HX.out.2.2.1, by rw [← HK.out.2.1, HK.out.1]; exact hO⟩
            case measure => have := HK.out; simp [intOf]; omega
end Go.Proofs.YtmkhpafcgobfhaaDoor
